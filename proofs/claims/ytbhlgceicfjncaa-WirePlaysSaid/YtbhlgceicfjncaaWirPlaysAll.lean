/-
  WirePlaysSaid: the document's Do whole; the opener of its argument; the law's walk; the statement.
-/
import Derived.Test.YtbhlgceicfjncaaWps1
import Derived.Test.YtbhlgceicfjncaaWps2
import Derived.Test.YtbhlgceicfjncaaWps3
import Derived.Test.YtbhlgceicfjncaaWps4
import Derived.Test.YtbhlgceicfjncaaSet17
import Derived.Test.YtbhlgceicfjncaaSet50
import Derived.Test.YtbhlgceicfjncaaSet15
import Derived.Test.YtbhlgceicfjncaaRows
import Derived.ProofKit
import Derived.OpenShut
import Derived.SizedLaws
import Derived.Deep.Slices
import Derived.Deep.Strs
import Derived.Deep.MidRow
import Derived.Test.YtbhlgceicfjncaaSet48
import Derived.Test.YtbhlgceicfjncaaSet40
import Derived.ShutString
namespace Go.Proofs.Ytbhlgceicfjncaa
open Go.RowKit
set_option linter.unnecessarySimpa false
set_option linter.unusedSimpArgs false
set_option linter.unusedVariables false
set_option maxRecDepth 100000

/-- What a call may bear. -/
structure Wo.fine (wb : World) (o : Wo) : Prop where
  fits : o.m.fits
  few : o.m.few
  ws : WsAt wb o.sl o.m.ws
  frm : I64 o.frm
  to_ : I64 o.to_
  i : I64 o.i
  bit : I64 o.bit
  ver : I64 o.ver
theorem do_any {wb w : World} {D : List Dj} {dv : Value} (o : Wo) (hd : DocW wb w D dv) (hbw : Below wb.heap.size wb w) (hl : D.length ≤ 1000) (hall : AllOk (D.map Prod.fst)) (ho : o.fine wb) (hN : NegOK) :
    Calls Try.prog 14 #[dv, .agg o.cells] w (DoOut wb w D dv (docJ (D.map Prod.fst) o) (docMk (D.map Prod.fst) o).1 (docMk (D.map Prod.fst) o).2 (docEr o)) := by
  by_cases k0 : o.kind % 5 = 0
  · have e1 : docJ (D.map Prod.fst) o = putJ (D.map Prod.fst) o.m o.sl o.frm o.to_ := by unfold docJ; rw [if_pos k0]
    have e2 : docMk (D.map Prod.fst) o = (mg0, false) := by unfold docMk; rw [if_neg (by omega)]
    have e3 : docEr o = (projB (negB o.frm o.to_) o.m).2 := by unfold docEr; rw [if_pos k0]
    rw [e1, e2, e3]
    by_cases hp : (projB (negB o.frm o.to_) o.m).2 = 0
    · rw [hp]
      cases hh : hasW (D.map Prod.fst) o.i with
      | true => have := do_put_yes_ok o hd hbw hl k0 hh ho.fits ho.few ho.ws ho.frm ho.to_ hp hN; rw [hp] at this; exact this
      | false => have := do_put_no_ok o hd hbw hl k0 hh ho.fits ho.few ho.ws ho.frm ho.to_ hp hN; rw [hp] at this; exact this
    · cases hh : hasW (D.map Prod.fst) o.i with
      | true => exact do_put_yes_er o hd hbw hl k0 hh ho.fits ho.few ho.ws ho.frm ho.to_ hp hN
      | false => exact do_put_no_er o hd hbw hl k0 hh ho.fits ho.few ho.ws ho.frm ho.to_ hp hN
  have e3 : docEr o = 0 := by unfold docEr; rw [if_neg k0]
  rw [e3]
  by_cases k1 : o.kind % 5 = 1
  · have e1 : docJ (D.map Prod.fst) o = cutJ (D.map Prod.fst) o.i := by unfold docJ; rw [if_neg k0, if_pos k1]
    have e2 : docMk (D.map Prod.fst) o = takeM (D.map Prod.fst) o.i o.ver := by unfold docMk; rw [if_pos k1]
    rw [e1, e2]
    cases hh : hasW (D.map Prod.fst) o.i with
    | true =>
      cases hon : ((D.map Prod.fst).getD o.i.toNat wj0).on with
      | true => exact do_take_on o hd hbw hl k1 hh hall hon ho.ver
      | false => exact do_take_off o hd hbw hl k1 hh hall hon ho.ver
    | false =>
      have e4 : takeM (D.map Prod.fst) o.i o.ver = (mg0, false) := by unfold takeM; rw [if_neg (fun e => by rw [hh] at e; cases e.1)]
      rw [e4]
      exact do_take_no o hd hl k1 hh
  have e2 : docMk (D.map Prod.fst) o = (mg0, false) := by unfold docMk; rw [if_neg k1]
  rw [e2]
  by_cases k2 : o.kind % 5 = 2
  · have e1 : docJ (D.map Prod.fst) o = cutJ (D.map Prod.fst) o.i := by unfold docJ; rw [if_neg k0, if_neg k1, if_pos k2]
    rw [e1]
    cases hh : hasW (D.map Prod.fst) o.i with
    | true => exact do_drop_yes o hd hl k2 hh
    | false => exact do_drop_no o hd hl k2 hh
  by_cases k3 : o.kind % 5 = 3
  · have e1 : docJ (D.map Prod.fst) o = twiceJ (D.map Prod.fst) o.i := by unfold docJ; rw [if_neg k0, if_neg k1, if_neg k2, if_pos k3]
    rw [e1]
    cases hh : hasW (D.map Prod.fst) o.i with
    | true => exact do_twice_yes o hd hl k3 hh hall
    | false => exact do_twice_no o hd hl k3 hh
  have k4 : o.kind % 5 = 4 := by omega
  have e1 : docJ (D.map Prod.fst) o = flipJ (D.map Prod.fst) o.i o.bit := by unfold docJ; rw [if_neg k0, if_neg k1, if_neg k2, if_neg k3]
  rw [e1]
  cases hh : hasW (D.map Prod.fst) o.i with
  | false => exact do_flip_no o hd hl k4 hh
  | true =>
    by_cases hb : 0 ≤ o.bit
    · cases hon : ((D.map Prod.fst).getD o.i.toNat wj0).on with
      | false => exact do_flip_off o hd hbw hl k4 hh hall hb ho.bit.2 hon
      | true =>
        by_cases hk : (((D.map Prod.fst).getD o.i.toNat wj0).k : Int) = o.bit % (((D.map Prod.fst).getD o.i.toNat wj0).bits : Int)
        · exact do_flip_back o hd hbw hl k4 hh hall hb ho.bit.2 hon hk
        · exact do_flip_other o hd hbw hl k4 hh hall hb ho.bit.2 hon hk
    · exact do_flip_neg o hd hl k4 hh hb
end Go.Proofs.Ytbhlgceicfjncaa

namespace Go.Proofs.Ytbhlgceicfjncaa
open Go.RowKit Go.ChangeShapes Go.WideShapes Go.Deep
set_option linter.unnecessarySimpa false
set_option linter.unusedVariables false
set_option linter.unusedSimpArgs false
set_option maxRecDepth 100000

theorem w_wop_cells : Try.prog.cellsOf 40 = 23 := by kernel_rfl
theorem w_u8_cells : Try.prog.cellsOf 5 = 1 := by kernel_rfl
theorem w_mem_weightsAll {H : Type} {P : Program} {e : TypeId} : ∀ {l : List (DataW H)} {d : DataW H}, d ∈ l → ∀ n ∈ d.weights P e, n ∈ DataW.weightsAll P e l
  | [], d, h, n, hn => by cases h
  | x :: l, d, h, n, hn => by
    simp only [DataW.weightsAll, List.mem_append]
    rcases List.mem_cons.1 h with rfl | h
    · exact .inl hn
    · exact .inr (w_mem_weightsAll h n hn)
/-- What a call that came in is. -/
structure WoIn (W : World) (o : Wo) : Prop where
  kind : o.kind < 256
  msg : MsgIn o.m
  ws : WsAt W o.sl o.m.ws
  frm : I64 o.frm
  to_ : I64 o.to_
  i : I64 o.i
  bit : I64 o.bit
  ver : I64 o.ver
def IsWops (W : World) (a : Option Addr) (len _cap : Nat) (L : List Wo) : Prop := L.length = len ∧ len ≤ maxLen ∧ ∀ i, i < len → ∃ b off, a = some ⟨b, off, none⟩ ∧ b < W.heap.size ∧ WoIn W (L.getD i wo0) ∧ W.rangeAt b (off + i * 23) (L.getD i wo0).cells.toList
theorem w_cut {cs : List Value} (hl : cs.length = 23) {a c d e f g : Value} {M : List Value} (h0 : (cs.drop 0).take 1 = [a]) (h1 : (cs.drop 1).take 17 = M) (h2 : (cs.drop 18).take 1 = [c]) (h3 : (cs.drop 19).take 1 = [d]) (h4 : (cs.drop 20).take 1 = [e]) (h5 : (cs.drop 21).take 1 = [f]) (h6 : (cs.drop 22).take 1 = [g]) :
    cs = [a] ++ M ++ [c, d, e, f, g] := by
  match cs, hl with
  | [c0, c1, c2, c3, c4, c5, c6, c7, c8, c9, c10, c11, c12, c13, c14, c15, c16, c17, c18, c19, c20, c21, c22], _ =>
    simp only [List.drop_succ_cons, List.drop_zero, List.take_succ_cons, List.take_zero, List.cons.injEq, and_true] at h0 h1 h2 h3 h4 h5 h6
    subst h0; subst h1; subst h2; subst h3; subst h4; subst h5; subst h6
    rfl
section
variable {H : Type} {enc : TypeId × Value → H} {w : World}
theorem wop_open {fuel : Nat} {cs : List Value} {x : DataW H × List MemPlace} (h : DataW.trod enc Try.prog w 0 (fun _ => true) true fuel 40 cs = some x) (hsz : ∀ n, n ∈ x.1.weights Try.prog 40 → n ≤ reachBytes) :
    ∃ o : Wo, WoIn w o ∧ cs = o.cells.toList := by
  obtain ⟨xs, n, _, rfl, hl, hlen, hf⟩ := DataW.trod_struct Try.underlying40 h
  rw [w_wop_cells] at hl
  match xs, hlen with
  | [y0, y1, y2, y3, y4, y5, y6], _ =>
    have g0 := hf 0 _ rfl
    have g1 := hf 1 _ rfl
    have g2 := hf 2 _ rfl
    have g3 := hf 3 _ rfl
    have g4 := hf 4 _ rfl
    have g5 := hf 5 _ rfl
    have g6 := hf 6 _ rfl
    simp only [w_u8_cells, o_int_cells, o_msg_cells, List.getElem?_cons_zero, List.getElem?_cons_succ] at g0 g1 g2 g3 g4 g5 g6
    obtain ⟨k, e0, _, w0⟩ := DataW.trod_int Try.underlying5 g0
    obtain ⟨m, sl, e1, hws, hin⟩ := msg_open g1 (fun n hn => hsz n (by
      simp only [DataW.weights, Try.underlying40]
      exact DataW.weights_mem_each (j := 1) rfl rfl n hn))
    obtain ⟨frm, e2, _, w2⟩ := DataW.trod_int Try.underlying3 g2
    obtain ⟨to_, e3, _, w3⟩ := DataW.trod_int Try.underlying3 g3
    obtain ⟨i, e4, _, w4⟩ := DataW.trod_int Try.underlying3 g4
    obtain ⟨bit, e5, _, w5⟩ := DataW.trod_int Try.underlying3 g5
    obtain ⟨ver, e6, _, w6⟩ := DataW.trod_int Try.underlying3 g6
    have b0 := bounds_u8 w0
    obtain ⟨k, rfl⟩ := Int.eq_ofNat_of_zero_le b0.1
    exact ⟨⟨k, m, sl, frm, to_, i, bit, ver⟩, ⟨by show k < 256; omega, hin, hws, bounds_i64 w2, bounds_i64 w3, bounds_i64 w4, bounds_i64 w5, bounds_i64 w6⟩, w_cut hl e0 e1 e2 e3 e4 e5 e6⟩
/-- An argument that is a slice of calls. -/
theorem open_IsWops {a : Option Addr} {len cap : Nat} {d : DataW H} {p : List MemPlace}
    (h : DataW.Trod enc Try.prog w 0 (fun _ => true) true 22 (.slice a len cap) d p) (hsz : ∀ n, n ∈ d.weights Try.prog 22 → n ≤ reachBytes) : ∃ L, IsWops w a len cap L := by
  obtain ⟨fuel, hf⟩ := h
  rcases open_slice Try.underlying22 hf with ⟨hcs, _⟩ | ⟨a', len', cap', m, n, D, Pl, hcs, _, hl, hm, hmm, hd, hi⟩
  · simp [Value.cells] at hcs
    obtain ⟨rfl, rfl, rfl⟩ := hcs
    exact ⟨[], rfl, Nat.zero_le _, fun i hi => by omega⟩
  · simp [Value.cells] at hcs
    obtain ⟨rfl, rfl, rfl⟩ := hcs
    simp only [Prod.mk.injEq] at hd
    obtain ⟨rfl, rfl⟩ := hd
    simp only [if_true] at hmm
    have key : ∀ i, ∃ z : Wo, i < len → ∃ b off, some a' = some ⟨b, off, none⟩ ∧ b < w.heap.size ∧ WoIn w z ∧ w.rangeAt b (off + i * 23) z.cells.toList := by
      intro i
      by_cases hil : i < len
      · obtain ⟨cs', hc, ht⟩ := hi i (by omega)
        rw [w_wop_cells] at hc
        obtain ⟨_, hcl, hat⟩ := World.cells?_some hc
        obtain ⟨z, z1, rfl⟩ := wop_open ht (fun n hn => hsz n (by
          simp only [DataW.weights, Try.underlying22, List.mem_cons, List.mem_append]
          exact .inr (.inl (w_mem_weightsAll (List.mem_map.2 ⟨i, List.mem_range.2 hil, rfl⟩) n hn))))
        obtain ⟨b, off, spot⟩ := a'
        obtain ⟨cs0, hc0, _⟩ := hi 0 (by omega)
        rw [w_wop_cells] at hc0
        obtain ⟨_, hcl0, hat0⟩ := World.cells?_some hc0
        have q00 := hat0 0 (by omega)
        rw [List.getElem?_eq_getElem (show 0 < cs0.length by omega)] at q00
        have hspot : spot = none := by simpa [Addr.add] using World.cell?_spot q00
        subst hspot
        have hr : w.rangeAt b (off + i * 23) z.cells.toList := fun q u hq => by
          have h1 := hat q (by rw [← hcl]; exact (List.getElem?_eq_some_iff.1 hq).1)
          simp only [Addr.add_lit] at h1
          exact h1.trans hq
        have q0 := hr 0 _ rfl
        exact ⟨z, fun _ => ⟨b, off, rfl, World.block_lt_of_cell? w _ q0, z1, hr⟩⟩
      · exact ⟨wo0, fun h => absurd h hil⟩
    obtain ⟨f, hfz⟩ := Classical.skolem.1 key
    refine ⟨(List.range len).map f, by simp, by omega, fun i hil => ?_⟩
    have e : ((List.range len).map f).getD i wo0 = f i := by simp [List.getD, hil]
    rw [e]
    exact hfz i hil
end
end Go.Proofs.Ytbhlgceicfjncaa

namespace Go.Proofs.Ytbhlgceicfjncaa
open Go.RowKit
set_option linter.unusedVariables false
set_option linter.unnecessarySimpa false
set_option linter.unusedSimpArgs false
set_option maxRecDepth 100000

theorem docMk_sane {J : List Wj} (h : AllOk J) (o : Wo) : (docMk J o).1.sane := by
  unfold docMk
  split
  · unfold takeM
    split
    · rename_i hc
      have hi := hasW_iff.1 hc.1
      have hx := h.at_ (i := o.i.toNat) (by omega)
      exact proj_sane (wcut_fits hx.fits _) (wcut_few hx.few _)
    · exact mg0_sane
  · exact mg0_sane
theorem wopSz : (Try.prog.info? 40).map (·.size) = some 23 := by kernel_rfl
/-- A box is made, and written whole. -/
theorem WPl.box {w W : World} {X : Nat → Obj → Prop} {g : Nat} {J : List Wj} {D : List Dj} {dv : Value} (h : WPl w X g J D dv W) (zs cs : Array Value) (t : TypeId) :
    WPl w (fun q o => X q o ∨ (q = W.heap.size ∧ o = .cells cs t (0, 0))) g J D dv ((W.alloc (.cells zs t)).setRow W.heap.size cs) := by
  refine ((h.add (.cells zs t)).row (k := W.heap.size) (.inr ⟨rfl, rfl⟩) cs).sub fun k o hx => ?_
  rcases hx with hx | ⟨rfl, rfl⟩
  · exact .inl ⟨.inl hx, fun e => by have := h.xl hx; omega⟩
  · exact .inr ⟨rfl, rfl⟩
set_option maxHeartbeats 4000000 in
theorem wirePlays_many (a : Option Addr) (len cap : Nat) (w : World) (h : 60 < len) : Calls Try.prog 3 #[.slice a len cap] w (AllTrue w) := by
  have HA1 := Lib.hid (fun W => wawake_any W)
  have HA2 := Lib.hid (fun W => wawake_any W)
  have d1 : (decide ((60 : Int) < (len : Int))) = true := by rw [decide_eq_true_eq]; omega
  have d2 : (60 : Int) < (len : Int) := by omega
  clear h
  go_enter Try.func3, Try.ntmps3
  go_wp2_with (first
    | (go_at_call 5; (with_reducible refine (HA1.out _).mono ?_); rintro e w2 ⟨rfl, hb2⟩; have HB2 := Lib.hid hb2; clear hb2 HA1)
    | (go_at_call 5; (with_reducible refine (HA2.out _).mono ?_); rintro e w3 ⟨rfl, hb3⟩; have HB3 := Lib.hid hb3; clear hb3))
  go_ret
  exact ⟨rfl, HB2.out.trans (HB3.out.mono HB2.out.size)⟩
set_option maxHeartbeats 32000000 in
theorem wirePlays_few (a : Option Addr) (len cap : Nat) (L : List Wo) (w : World) (hL : IsWops w a len cap L) (h : ¬ 60 < len) : Calls Try.prog 3 #[.slice a len cap] w (AllTrue w) := by
  have HA1 := Lib.hid (fun W => wawake_any W)
  have HMK := Lib.hid (fun W => make_any W)
  have HNW := Lib.hid (fun W => net_new W)
  have d1 : (decide ((60 : Int) < (len : Int))) = false := by rw [decide_eq_false_iff_not]; omega
  have d2 : ¬ (60 : Int) < (len : Int) := by omega
  have HL := Lib.hid hL
  have H60 := Lib.hid h
  clear h hL
  go_enter Try.func3, Try.ntmps3
  go_upto_region 4 with (first
    | (go_at_call 5; (with_reducible refine (HA1.out _).mono ?_); rintro e w2 ⟨rfl, hb2⟩; have HB2 := Lib.hid hb2; clear hb2 HA1)
    | (go_at_call 7; (with_reducible refine (HMK.out _).mono ?_); rintro e w4 ⟨rfl, hb4⟩; have HB4 := Lib.hid (HB2.out.trans (hb4.mono HB2.out.size)); clear hb4)
    | (go_at_call 6; (with_reducible refine (HNW.out _).mono ?_); rintro e w5 ⟨rfl, hn5, hb5⟩; have HS0 := Lib.hid (WPl.start (HB4.out.trans (hb5.mono HB4.out.size)) hn5 (Nat.le_succ_of_le HB4.out.size)); clear hn5 hb5))
  obtain ⟨gN, hgN⟩ : ∃ gN, gN = w4.heap.size + 1 := ⟨_, rfl⟩
  rw [← hgN] at HS0 ⊢
  clear hgN HB4 HB2 HMK HNW d1 d2
  go_wp2_with fail
  go_loopg [4, 5] len (fun g s4 s5 wx => ∃ (i : Nat) (dv : Value) (D : List Dj), i + g = len ∧ dv = s4 ∧ s5 = .int .i64 i ∧ Hid (WPl w (fun _ _ => False) gN (D.map Prod.fst) D dv wx) ∧ Hid (AllOk (D.map Prod.fst) ∧ D.length ≤ i))
  case atStart => exact ⟨0, _, [], by omega, rfl, rfl, HS0, Lib.hid ⟨fun x hx => by simp at hx, Nat.le_refl _⟩⟩
  case round =>
    obtain ⟨i, dv, D, hig, rfl, rfl, hW, hD⟩ := hrel
    clear HS0
    cases gk with
    | succ g =>
      have hin : i < len := by omega
      have hiz : (i : Int) < (len : Int) := by omega
      have hi60 : i < 60 := by have := H60.out; omega
      have HAR : Hid (∀ {b off : Nat}, True) := Lib.hid trivial
      obtain ⟨b, off, rfl, hbw, hin1, hra⟩ := HL.out.2.2 i hin
      obtain ⟨o, ho⟩ : ∃ o, o = L.getD i wo0 := ⟨_, rfl⟩
      rw [← ho] at hin1 hra
      have HIN := Lib.hid hin1
      have HRA := Lib.hid (fun (W : World) (hB : Below w.heap.size w W) => show W.rangeAt b (off + i * 23) o.cells.toList from fun q u hq => (hB.cell (p := ⟨b, off + i * 23 + q, none⟩) hbw).trans (hra q u hq))
      clear ho hbw hin1 hra HAR
      obtain ⟨kind, hkd⟩ : ∃ kind, kind = o.kind := ⟨_, rfl⟩
      obtain ⟨C, hC⟩ : ∃ C, C = o.cells := ⟨_, rfl⟩
      have hC23 : C.size = 23 := by rw [hC]; rfl
      have HCO := Lib.hid hC
      have HSZL := Lib.hid (show (Try.prog.info? 40).map (·.size) = some C.toList.length from by rw [Array.length_toList, hC23]; exact wopSz)
      have HSZ := Lib.hid (show (Try.prog.info? 40).map (·.size) = some C.size from by rw [hC23]; exact wopSz)
      have HC1 := Lib.hid (show C.all (·.oneCell') = true from by
        obtain ⟨x1, x2, x3, hsl⟩ := HIN.out.ws.isSl
        rw [hC]; unfold Wo.cells; rw [hsl]; simp [Value.oneCell'])
      have HC23 := Lib.hid hC23
      have HC0 := Lib.hid (show C[0]? = some (.int .u8 (kind : Int)) from by rw [hC, hkd]; rfl)
      have HC18 := Lib.hid (show C[18]? = some (.int .i64 o.frm) from by rw [hC]; rfl)
      have HC19 := Lib.hid (show C[19]? = some (.int .i64 o.to_) from by rw [hC]; rfl)
      have HC20 := Lib.hid (show C[20]? = some (.int .i64 o.i) from by rw [hC]; rfl)
      have HC21 := Lib.hid (show C[21]? = some (.int .i64 o.bit) from by rw [hC]; rfl)
      have HC22 := Lib.hid (show C[22]? = some (.int .i64 o.ver) from by rw [hC]; rfl)
      obtain ⟨mc, hmc⟩ : ∃ mc, mc = o.m.cells o.sl := ⟨_, rfl⟩
      have HMC := Lib.hid hmc
      have hmcs : mc.toList.length = 17 := by rw [hmc]; rfl
      have HMS := Lib.hid (show (Try.prog.info? 38).map (·.size) = some mc.toList.length from by rw [hmcs]; exact msg_size)
      have hCm : ∀ q u, mc.toList[q]? = some u → C[1 + q]? = some u := fun q u hq => by
        rw [hmc, ← Wo.cells_m, List.getElem?_take] at hq
        split at hq
        · rw [List.getElem?_drop, ← hC] at hq; simpa using hq
        · cases hq
      have HCM := Lib.hid hCm
      have HRC := Lib.hid (show ∀ (W : World) (A : Nat), W.heap[A]? = some (.cells C 40 (0, 0)) → W.rangeAt A 1 mc.toList from fun W A hW q u hq => (cell_of_row _ _ _ _ _ _ hW).trans (HCM.out q u hq))
      rw [← hC] at HRA
      have HKD := Lib.hid hkd
      clear hmc hmcs hCm hC hC23 hkd
      obtain ⟨A, hA⟩ : ∃ A, A = wr.heap.size := ⟨_, rfl⟩
      go_upto_region 9 with (first
        | (refine wpList_load_midW rfl 40 _ rfl b (off + i * 23) (by simp only [Act.eval, Act.put]; first | rfl | simp) C.toList _ (HRA.out _ hW.out.below) Try.underlying40 rfl HSZL.out ?_; dsimp only [Act.put])
        | (refine wpList_store_row rfl 40 _ _ rfl wr.heap.size C rfl rfl 40 _ (heap_alloc_new wr _) HSZ.out (by rw [HC23.out]; rfl) HC1.out ?_; dsimp only [Act.put]))
      have hS1 := hW.out.box #[.int .u8 0, .int .i64 0, .int .i64 0, .int .i64 0, .int .i64 0, .int .i64 0, .int .i64 0, .int .u64 0, .int .u64 0, .string ⟨#[]⟩, .bool false, .int .u64 0, .bool false, .string ⟨#[]⟩, .slice none 0 0, .string ⟨#[]⟩, .int .u64 0, .int .u64 0, .int .i64 0, .int .i64 0, .int .i64 0, .int .i64 0, .int .i64 0] C 40
      obtain ⟨w1, hw1⟩ : ∃ w1, w1 = (wr.alloc (.cells #[.int .u8 0, .int .i64 0, .int .i64 0, .int .i64 0, .int .i64 0, .int .i64 0, .int .i64 0, .int .u64 0, .int .u64 0, .string ⟨#[]⟩, .bool false, .int .u64 0, .bool false, .string ⟨#[]⟩, .slice none 0 0, .string ⟨#[]⟩, .int .u64 0, .int .u64 0, .int .i64 0, .int .i64 0, .int .i64 0, .int .i64 0, .int .i64 0] 40)).setRow wr.heap.size C := ⟨_, rfl⟩
      rw [← hw1, ← hA] at hS1
      rw [← hw1, ← hA]
      have HS1 := Lib.hid hS1
      have HR1 := Lib.hid ((hS1.ext A _ (.inr ⟨rfl, rfl⟩)).1)
      clear hw1 hS1 hA
      by_cases hfew : FewP o.m
      case neg =>
        have HF : Hid (∀ W, WsAt W o.sl o.m.ws → Calls Try.prog 8 #[.agg mc] W fun e w' => e = .returned (.bool false) ∧ Below W.heap.size W w') := Lib.hid (fun W hw => by rw [HMC.out]; exact few_no HIN.out.msg o.sl hfew W hw)
        clear hfew
        go_wp2_with (first
          | (refine wpList_load_midW rfl 38 _ rfl A 1 (by simp only [Act.eval, Act.put]; first | rfl | simp) mc.toList _ (HRC.out _ _ HR1.out) Try.underlying38 rfl HMS.out ?_; dsimp only [Act.put])
          | (go_at_call 8; (with_reducible refine (HF.out _ (HIN.out.ws.below HS1.out.below)).mono ?_); rintro e w2 ⟨rfl, hb2⟩; have HS2 := Lib.hid (HS1.out.later hb2); clear hb2))
        go_ret
        exact ⟨rfl, HS2.out.below⟩
      case pos =>
        have HF : Hid (∀ W, WsAt W o.sl o.m.ws → Calls Try.prog 8 #[.agg mc] W fun e w' => e = .returned (.bool true) ∧ Below W.heap.size W w') := Lib.hid (fun W hw => by rw [HMC.out]; exact few_yes HIN.out.msg o.sl hfew W hw)
        have HFEW := Lib.hid hfew
        clear hfew
        go_upto_region 11 with (first
          | (refine wpList_load_midW rfl 38 _ rfl A 1 (by simp only [Act.eval, Act.put]; first | rfl | simp) mc.toList _ (HRC.out _ _ HR1.out) Try.underlying38 rfl HMS.out ?_; dsimp only [Act.put])
          | (go_at_call 8; (with_reducible refine (HF.out _ (HIN.out.ws.below HS1.out.below)).mono ?_); rintro e w2 ⟨rfl, hb2⟩; have HS2 := Lib.hid (HS1.out.later hb2); have HR2 := Lib.hid ((hb2.block A (Array.getElem?_eq_some_iff.1 HR1.out).1).trans HR1.out); clear hb2))
        obtain ⟨M, hM⟩ : ∃ M, M = w2.heap.size := ⟨_, rfl⟩
        go_upto_region 14 with fail
        have hS3 := HS2.out.add (.cells #[.int .i64 0, .int .i64 0, .int .i64 0, .int .i64 0, .int .i64 0, .int .i64 0, .int .u64 0, .int .u64 0, .string ⟨#[]⟩, .bool false, .int .u64 0, .bool false, .string ⟨#[]⟩, .slice none 0 0, .string ⟨#[]⟩, .int .u64 0, .int .u64 0] 38)
        obtain ⟨w3, hw3⟩ : ∃ w3, w3 = w2.alloc (.cells #[.int .i64 0, .int .i64 0, .int .i64 0, .int .i64 0, .int .i64 0, .int .i64 0, .int .u64 0, .int .u64 0, .string ⟨#[]⟩, .bool false, .int .u64 0, .bool false, .string ⟨#[]⟩, .slice none 0 0, .string ⟨#[]⟩, .int .u64 0, .int .u64 0] 38) := ⟨_, rfl⟩
        rw [← hw3, ← hM] at hS3
        rw [← hw3, ← hM]
        have HS3 := Lib.hid hS3
        have HR3 := Lib.hid ((hS3.ext A _ (.inl (.inr ⟨rfl, rfl⟩))).1)
        have HM3 := Lib.hid ((hS3.ext M _ (.inr ⟨rfl, rfl⟩)).1)
        have HAM := Lib.hid (show A ≠ M from by have := (Array.getElem?_eq_some_iff.1 HR2.out).1; omega)
        clear hw3 hS3 hM HS1 HR1 HS2 HR2
        have hJl : (D.map Prod.fst).length ≤ 1000 := by rw [List.length_map]; have := hD.out.2; omega
        have HJL := Lib.hid hJl
        have HFINE := Lib.hid (show o.fine w from ⟨HIN.out.msg.fits, HFEW.out.few, HIN.out.ws, HIN.out.frm, HIN.out.to_, HIN.out.i, HIN.out.bit, HIN.out.ver⟩)
        clear hJl
        have c0 := (cell_of_row _ _ 0 _ _ _ HR3.out).trans HC0.out
        have c18 := (cell_of_row _ _ 18 _ _ _ HR3.out).trans HC18.out
        have c19 := (cell_of_row _ _ 19 _ _ _ HR3.out).trans HC19.out
        have c20 := (cell_of_row _ _ 20 _ _ _ HR3.out).trans HC20.out
        have c21 := (cell_of_row _ _ 21 _ _ _ HR3.out).trans HC21.out
        have c22 := (cell_of_row _ _ 22 _ _ _ HR3.out).trans HC22.out
        have hz : (kind : Int) % 5 = 0 ∨ (kind : Int) % 5 = 1 ∨ (kind : Int) % 5 = 2 ∨ (kind : Int) % 5 = 3 ∨ (kind : Int) % 5 = 4 := by omega
        obtain ⟨J', hJ'⟩ : ∃ J', J' = docJ (D.map Prod.fst) o := ⟨_, rfl⟩
        obtain ⟨mk, hmk⟩ : ∃ mk, mk = (docMk (D.map Prod.fst) o).1 := ⟨_, rfl⟩
        obtain ⟨bo, hbo⟩ : ∃ bo, bo = (docMk (D.map Prod.fst) o).2 := ⟨_, rfl⟩
        obtain ⟨er, her⟩ : ∃ er, er = docEr o := ⟨_, rfl⟩
        have HJ' := Lib.hid hJ'
        have HMK := Lib.hid hmk
        have HBO := Lib.hid hbo
        have HER := Lib.hid her
        have HALL' := Lib.hid (show AllOk J' from by rw [hJ']; exact hD.out.1.doc HIN.out.msg.fits HFEW.out.few)
        have HJL' := Lib.hid (show J'.length ≤ i + 1 from by rw [hJ']; have h1 := docJ_len (D.map Prod.fst) o; rw [List.length_map] at h1; have := hD.out.2; omega)
        have HSN := Lib.hid (show mk.sane from by rw [hmk]; exact docMk_sane hD.out.1 o)
        have HSAME := Lib.hid (fun W sl1 sl2 (h1 : WsAt W sl1 mk.ws) (h2 : WsAt W sl2 mk.ws) => refSame_yes mk mk sl1 sl2 HSN.out HSN.out rfl W h1 h2)
        have HDO : Hid (∀ W X, WPl w X gN J' D dv W → Calls Try.prog 14 #[dv, .agg C] W fun e W' => ∃ (da : Option Addr) (dn dc : Nat) (Y : Array Value), Y.size = 17 ∧ Y.all (·.oneCell') = true ∧ e = .returned (.tuple #[.slice da dn dc, .agg Y, .bool bo, .int .i64 er]) ∧ Hid (∃ sl, Y = mk.cells sl ∧ WsAt W' sl mk.ws) ∧ Hid (∃ D', D'.map Prod.fst = J' ∧ D'.length = dn ∧ WPl w X gN J' D' (.slice da dn dc) W') ∧ Hid (Below W.heap.size W W')) := Lib.hid (fun W X hX => by
          have h1 := do_any o hX.doc hX.below (by have := HJL.out; rw [List.length_map] at this; exact this) hD.out.1 HFINE.out negOK
          rw [← HCO.out, ← HJ'.out, ← HMK.out, ← HBO.out, ← HER.out] at h1
          refine h1.mono fun e W' ⟨D', dv', sl, he, hDJ, hDW, hws, hb, hown⟩ => ?_
          obtain ⟨da, dc, rfl, _⟩ := hDW.slice
          obtain ⟨x1, x2, x3, hsl⟩ := hws.isSl
          exact ⟨da, _, dc, mk.cells sl, rfl, by rw [hsl]; simp [Mg.cells, Value.oneCell'], he, Lib.hid ⟨sl, rfl, hws⟩, Lib.hid ⟨D', hDJ, rfl, hX.take hb hDW hown⟩, Lib.hid hb⟩)
        clear hJ' hmk hbo her
        rcases hz with hz | hz | hz | hz | hz
        · have kz : o.kind % 5 = 0 := by rw [← HKD.out]; omega
          have ej : J' = putJ (D.map Prod.fst) o.m o.sl o.frm o.to_ := by rw [HJ'.out]; unfold docJ; rw [if_pos kz]
          have ee : er = (projB (negB o.frm o.to_) o.m).2 := by rw [HER.out]; unfold docEr; rw [if_pos kz]
          have em : mk = mg0 ∧ bo = false := by rw [HMK.out, HBO.out]; unfold docMk; rw [if_neg (by omega)]; exact ⟨rfl, rfl⟩
          have HEM := Lib.hid em
          have hcall := wpl_put HS3.out HJL.out o.m o.sl HIN.out.msg.fits HFEW.out.few (HIN.out.ws.below HS3.out.below) o.frm o.to_ HIN.out.frm HIN.out.to_
          rw [← ej, ← ee, ← HMC.out] at hcall
          have HCALL := Lib.hid hcall
          have heb : bo = false := em.2
          subst heb
          clear ee
          clear ej em kz hcall
          go_upto_region 26 with (first
            | (refine wpList_load_midW rfl 38 _ rfl A 1 (by simp only [Act.eval, Act.put]; first | rfl | simp) mc.toList _ (HRC.out _ _ HR3.out) Try.underlying38 rfl HMS.out ?_; dsimp only [Act.put])
            | (go_at_call 9; (with_reducible refine HCALL.out.mono ?_); rintro e w5 ⟨rfl, hs5⟩; have HS5 := Lib.hid hs5; clear hs5))
          have HR5 := Lib.hid ((HS5.out.ext A _ (.inl (.inr ⟨rfl, rfl⟩))).1)
          have HM5 := Lib.hid ((HS5.out.ext M _ (.inr ⟨rfl, rfl⟩)).1)
          clear c0 c18 c19 c20 c21 c22 HCALL
          have HW5 := Lib.hid (show WsAt w5 (.slice none 0 0) mk.ws from by rw [HEM.out.1]; exact WsAt.nil _)
          obtain ⟨YM, hYM⟩ : ∃ YM, YM = mk.cells (.slice none 0 0) := ⟨_, rfl⟩
          have HYMS := Lib.hid (show (Try.prog.info? 38).map (·.size) = some YM.size from by rw [hYM]; exact msg_size)
          have HYM := Lib.hid hYM
          have hm5 := HM5.out
          rw [show (#[.int .i64 0, .int .i64 0, .int .i64 0, .int .i64 0, .int .i64 0, .int .i64 0, .int .u64 0, .int .u64 0, .string ⟨#[]⟩, .bool false, .int .u64 0, .bool false, .string ⟨#[]⟩, .slice none 0 0, .string ⟨#[]⟩, .int .u64 0, .int .u64 0] : Array Value) = mk.cells (.slice none 0 0) from by rw [HEM.out.1]; rfl, ← hYM] at hm5
          have HM5 := Lib.hid hm5
          clear hm5
          clear hYM
          go_upto_region 27 with (first
            | (refine wpList_load_row rfl 40 _ rfl A rfl 40 C (0, 0) _ HR5.out Try.underlying40 rfl HSZ.out ?_; dsimp only [Act.put])
            | (go_at_call 14; (with_reducible refine (HDO.out _ _ HS5.out).mono ?_); rintro e w6 ⟨da, dn, dc, Y, hy1, hy2, rfl, hy3, hs6, hb6⟩; have HY1 := Lib.hid hy1; have HY2 := Lib.hid hy2; have HY17 := Lib.hid (show (Try.prog.info? 38).map (·.size) = some Y.size from (by rw [hy1]; exact msg_size)); clear hy1 hy2)
            | (refine wpList_store_row rfl 38 _ _ rfl w6.heap.size Y rfl rfl 38 _ (heap_alloc_new w6 _) HY17.out (by rw [HY1.out]; rfl) HY2.out ?_; dsimp only [Act.put]))
          obtain ⟨D', hDJ, hDn, hS6⟩ := hs6.out
          obtain ⟨sl6, hsl6, hws6⟩ := hy3.out
          have hM6 := (hb6.out.block M (Array.getElem?_eq_some_iff.1 HM5.out).1).trans HM5.out
          have hS7 := hS6.box #[.int .i64 0, .int .i64 0, .int .i64 0, .int .i64 0, .int .i64 0, .int .i64 0, .int .u64 0, .int .u64 0, .string ⟨#[]⟩, .bool false, .int .u64 0, .bool false, .string ⟨#[]⟩, .slice none 0 0, .string ⟨#[]⟩, .int .u64 0, .int .u64 0] Y 38
          have hb7 := below_setRow ((Below.refl w6.heap.size w6).alloc (Nat.le_refl _) (.cells #[.int .i64 0, .int .i64 0, .int .i64 0, .int .i64 0, .int .i64 0, .int .i64 0, .int .u64 0, .int .u64 0, .string ⟨#[]⟩, .bool false, .int .u64 0, .bool false, .string ⟨#[]⟩, .slice none 0 0, .string ⟨#[]⟩, .int .u64 0, .int .u64 0] 38)) (Nat.le_refl _) Y
          have hP7 := setRow_heap _ _ _ Y _ _ (heap_alloc_new w6 (.cells #[.int .i64 0, .int .i64 0, .int .i64 0, .int .i64 0, .int .i64 0, .int .i64 0, .int .u64 0, .int .u64 0, .string ⟨#[]⟩, .bool false, .int .u64 0, .bool false, .string ⟨#[]⟩, .slice none 0 0, .string ⟨#[]⟩, .int .u64 0, .int .u64 0] 38))
          obtain ⟨w7, hw7⟩ : ∃ w7, w7 = (w6.alloc (.cells #[.int .i64 0, .int .i64 0, .int .i64 0, .int .i64 0, .int .i64 0, .int .i64 0, .int .u64 0, .int .u64 0, .string ⟨#[]⟩, .bool false, .int .u64 0, .bool false, .string ⟨#[]⟩, .slice none 0 0, .string ⟨#[]⟩, .int .u64 0, .int .u64 0] 38)).setRow w6.heap.size Y := ⟨_, rfl⟩
          obtain ⟨P, hP⟩ : ∃ P, P = w6.heap.size := ⟨_, rfl⟩
          rw [← hw7] at hS7 hb7 hP7 ⊢
          rw [← hP] at hS7 hP7 ⊢
          have HM7 := Lib.hid ((hb7.block M (Array.getElem?_eq_some_iff.1 hM6).1).trans hM6)
          have HP7 := Lib.hid hP7
          have HS7 := Lib.hid hS7
          have HDD := Lib.hid (And.intro hDJ hDn)
          have HSM : Hid (Calls Try.prog 15 #[.agg YM, .agg Y] w7 fun e W' => e = .returned (.bool true) ∧ Below w7.heap.size w7 W') := Lib.hid (by
            rw [HYM.out, hsl6]
            exact HSAME.out w7 _ sl6 ((HW5.out.below hb6.out).below hb7) (hws6.below hb7))
          have HJN := Lib.hid (show J'.length = dn from by rw [← hDJ, List.length_map, hDn])
          clear hDJ hDn hS6 hsl6 hws6 hM6 hS7 hb7 hP7 hw7 hP hs6 hy3 hb6
          go_wp2_with (first
            | (refine wpList_load_row_w rfl 38 _ rfl M rfl 38 YM (0, 0) _ HM7.out Try.underlying38 rfl HYMS.out ?_)
            | (refine wpList_load_row_w rfl 38 _ rfl P rfl 38 Y (0, 0) _ HP7.out Try.underlying38 rfl HY17.out ?_)
            | (go_at_call 15; (with_reducible refine HSM.out.mono ?_); rintro e w8 ⟨rfl, hb8⟩; have HS8 := Lib.hid (HS7.out.later hb8); clear hb8)
            | (go_at_call 16; (with_reducible refine (wpl_len HS8.out).mono ?_); rintro e w9 ⟨rfl, rfl⟩; rw [HJN.out]))
          go_roundg g
          case measure => omega
          case rel => exact ⟨i + 1, _, D', by omega, rfl, by go_num, Lib.hid (by rw [HDD.out.1]; exact HS8.out.sub fun k o h => h.elim), Lib.hid ⟨by rw [HDD.out.1]; exact HALL'.out, by have := HJL'.out; have := HJN.out; have := HDD.out.2; omega⟩⟩
        · have kz : o.kind % 5 = 1 := by rw [← HKD.out]; omega
          have ej : J' = cutJ (D.map Prod.fst) o.i := by rw [HJ'.out]; unfold docJ; rw [if_neg (by omega), if_pos kz]
          have ee : er = 0 := by rw [HER.out]; unfold docEr; rw [if_neg (by omega)]
          have em : mk = (takeM (D.map Prod.fst) o.i o.ver).1 ∧ bo = (takeM (D.map Prod.fst) o.i o.ver).2 := by rw [HMK.out, HBO.out]; unfold docMk; rw [if_pos kz]; exact ⟨rfl, rfl⟩
          have hcall := wpl_take HS3.out hD.out.1 HJL.out o.i o.ver HIN.out.ver
          rw [← ej, ← em.1, ← em.2] at hcall
          have HCALL : Hid (Calls Try.prog 10 #[.pointer (some ⟨gN, 0, none⟩), .int .i64 o.i, .int .i64 o.ver] w3 fun e W' => ∃ Y : Array Value, Y.size = 17 ∧ Y.all (·.oneCell') = true ∧ e = .returned (.tuple #[.agg Y, .bool bo]) ∧ Hid (∃ sl, Y = mk.cells sl ∧ WsAt W' sl mk.ws) ∧ Hid (WPl w _ gN J' D dv W')) := Lib.hid (hcall.mono fun e W' ⟨sl, he, hw, hs⟩ => by
            obtain ⟨x1, x2, x3, hsl⟩ := hw.isSl
            exact ⟨mk.cells sl, rfl, by rw [hsl]; simp [Mg.cells, Value.oneCell'], he, Lib.hid ⟨sl, rfl, hw⟩, Lib.hid hs⟩)
          subst ee
          clear ej em kz hcall
          go_upto_region 20 with (first
            | (go_at_call 10; (with_reducible refine HCALL.out.mono ?_); rintro e w4 ⟨YT, hy1, hy2, rfl, hy3, hs4⟩; have HT1 := Lib.hid hy1; have HT2 := Lib.hid hy2; have HT17 := Lib.hid (show (Try.prog.info? 38).map (·.size) = some YT.size from (by rw [hy1]; exact msg_size)); clear hy1 hy2)
            | (refine wpList_store_row rfl 38 _ _ rfl w4.heap.size YT rfl rfl 38 _ (heap_alloc_new w4 _) HT17.out (by rw [HT1.out]; rfl) HT2.out ?_; dsimp only [Act.put]))
          have hsB := hs4.out.box #[.int .i64 0, .int .i64 0, .int .i64 0, .int .i64 0, .int .i64 0, .int .i64 0, .int .u64 0, .int .u64 0, .string ⟨#[]⟩, .bool false, .int .u64 0, .bool false, .string ⟨#[]⟩, .slice none 0 0, .string ⟨#[]⟩, .int .u64 0, .int .u64 0] YT 38
          have hbB := below_setRow ((Below.refl w4.heap.size w4).alloc (Nat.le_refl _) (.cells #[.int .i64 0, .int .i64 0, .int .i64 0, .int .i64 0, .int .i64 0, .int .i64 0, .int .u64 0, .int .u64 0, .string ⟨#[]⟩, .bool false, .int .u64 0, .bool false, .string ⟨#[]⟩, .slice none 0 0, .string ⟨#[]⟩, .int .u64 0, .int .u64 0] 38)) (Nat.le_refl _) YT
          obtain ⟨wB, hwB⟩ : ∃ wB, wB = (w4.alloc (.cells #[.int .i64 0, .int .i64 0, .int .i64 0, .int .i64 0, .int .i64 0, .int .i64 0, .int .u64 0, .int .u64 0, .string ⟨#[]⟩, .bool false, .int .u64 0, .bool false, .string ⟨#[]⟩, .slice none 0 0, .string ⟨#[]⟩, .int .u64 0, .int .u64 0] 38)).setRow w4.heap.size YT := ⟨_, rfl⟩
          obtain ⟨B, hB⟩ : ∃ B, B = w4.heap.size := ⟨_, rfl⟩
          rw [← hwB] at hsB hbB ⊢
          rw [← hB] at hsB ⊢
          have HTB := Lib.hid ((hsB.ext B _ (.inr ⟨rfl, rfl⟩)).1)
          have HMB := Lib.hid ((hsB.ext M _ (.inl (.inr ⟨rfl, rfl⟩))).1)
          have hsM := hsB.row (k := M) (.inl (.inr ⟨rfl, rfl⟩)) YT
          obtain ⟨slT, hsT, hwT⟩ := hy3.out
          have HWT := Lib.hid (WsAt.other_msg (m := mg0) (sl0 := .slice none 0 0) (hwT.below hbB) ⟨_, _, _, rfl⟩ HMB.out YT)
          have HAB := Lib.hid (show A ≠ M ∧ A ≠ B from ⟨HAM.out, fun e => by have := hs4.out.xl (k := A) (.inl (.inr ⟨rfl, rfl⟩)); omega⟩)
          have HSLT := Lib.hid hsT
          clear hwB hB hbB hsB hsT hwT c0 c18 c19 c20 c21 c22 HCALL
          go_upto_region 26 with (first
            | (refine wpList_load_row rfl 38 _ rfl B rfl 38 YT (0, 0) _ HTB.out Try.underlying38 rfl HT17.out ?_; dsimp only [Act.put])
            | (refine wpList_store_row rfl 38 _ _ rfl M YT rfl rfl 38 _ HMB.out HT17.out (by rw [HT1.out]; rfl) HT2.out ?_; dsimp only [Act.put]))
          obtain ⟨w5, hw5⟩ : ∃ w5, w5 = wB.setRow M YT := ⟨_, rfl⟩
          have hw5t := HWT.out
          rw [← hw5] at hsM hw5t ⊢
          have HS5 := Lib.hid hsM
          have HM5 := Lib.hid ((hsM.ext M _ (.inr ⟨rfl, rfl⟩)).1)
          have HR5 := Lib.hid ((hsM.ext A _ (.inl ⟨.inl (.inl (.inr ⟨rfl, rfl⟩)), HAM.out⟩)).1)
          have HW5 := Lib.hid hw5t
          clear hw5 hsM hw5t hy3 hs4
          obtain ⟨YM, hYM⟩ : ∃ YM, YM = YT := ⟨_, rfl⟩
          have HYMS := Lib.hid (show (Try.prog.info? 38).map (·.size) = some YM.size from by rw [hYM]; exact HT17.out)
          have HYM := Lib.hid (hYM.trans HSLT.out)
          rw [← hYM] at HM5
          clear hYM
          go_upto_region 27 with (first
            | (refine wpList_load_row rfl 40 _ rfl A rfl 40 C (0, 0) _ HR5.out Try.underlying40 rfl HSZ.out ?_; dsimp only [Act.put])
            | (go_at_call 14; (with_reducible refine (HDO.out _ _ HS5.out).mono ?_); rintro e w6 ⟨da, dn, dc, Y, hy1, hy2, rfl, hy3, hs6, hb6⟩; have HY1 := Lib.hid hy1; have HY2 := Lib.hid hy2; have HY17 := Lib.hid (show (Try.prog.info? 38).map (·.size) = some Y.size from (by rw [hy1]; exact msg_size)); clear hy1 hy2)
            | (refine wpList_store_row rfl 38 _ _ rfl w6.heap.size Y rfl rfl 38 _ (heap_alloc_new w6 _) HY17.out (by rw [HY1.out]; rfl) HY2.out ?_; dsimp only [Act.put]))
          obtain ⟨D', hDJ, hDn, hS6⟩ := hs6.out
          obtain ⟨sl6, hsl6, hws6⟩ := hy3.out
          have hM6 := (hb6.out.block M (Array.getElem?_eq_some_iff.1 HM5.out).1).trans HM5.out
          have hS7 := hS6.box #[.int .i64 0, .int .i64 0, .int .i64 0, .int .i64 0, .int .i64 0, .int .i64 0, .int .u64 0, .int .u64 0, .string ⟨#[]⟩, .bool false, .int .u64 0, .bool false, .string ⟨#[]⟩, .slice none 0 0, .string ⟨#[]⟩, .int .u64 0, .int .u64 0] Y 38
          have hb7 := below_setRow ((Below.refl w6.heap.size w6).alloc (Nat.le_refl _) (.cells #[.int .i64 0, .int .i64 0, .int .i64 0, .int .i64 0, .int .i64 0, .int .i64 0, .int .u64 0, .int .u64 0, .string ⟨#[]⟩, .bool false, .int .u64 0, .bool false, .string ⟨#[]⟩, .slice none 0 0, .string ⟨#[]⟩, .int .u64 0, .int .u64 0] 38)) (Nat.le_refl _) Y
          have hP7 := setRow_heap _ _ _ Y _ _ (heap_alloc_new w6 (.cells #[.int .i64 0, .int .i64 0, .int .i64 0, .int .i64 0, .int .i64 0, .int .i64 0, .int .u64 0, .int .u64 0, .string ⟨#[]⟩, .bool false, .int .u64 0, .bool false, .string ⟨#[]⟩, .slice none 0 0, .string ⟨#[]⟩, .int .u64 0, .int .u64 0] 38))
          obtain ⟨w7, hw7⟩ : ∃ w7, w7 = (w6.alloc (.cells #[.int .i64 0, .int .i64 0, .int .i64 0, .int .i64 0, .int .i64 0, .int .i64 0, .int .u64 0, .int .u64 0, .string ⟨#[]⟩, .bool false, .int .u64 0, .bool false, .string ⟨#[]⟩, .slice none 0 0, .string ⟨#[]⟩, .int .u64 0, .int .u64 0] 38)).setRow w6.heap.size Y := ⟨_, rfl⟩
          obtain ⟨P, hP⟩ : ∃ P, P = w6.heap.size := ⟨_, rfl⟩
          rw [← hw7] at hS7 hb7 hP7 ⊢
          rw [← hP] at hS7 hP7 ⊢
          have HM7 := Lib.hid ((hb7.block M (Array.getElem?_eq_some_iff.1 hM6).1).trans hM6)
          have HP7 := Lib.hid hP7
          have HS7 := Lib.hid hS7
          have HDD := Lib.hid (And.intro hDJ hDn)
          have HSM : Hid (Calls Try.prog 15 #[.agg YM, .agg Y] w7 fun e W' => e = .returned (.bool true) ∧ Below w7.heap.size w7 W') := Lib.hid (by
            rw [HYM.out, hsl6]
            exact HSAME.out w7 _ sl6 ((HW5.out.below hb6.out).below hb7) (hws6.below hb7))
          have HJN := Lib.hid (show J'.length = dn from by rw [← hDJ, List.length_map, hDn])
          clear hDJ hDn hS6 hsl6 hws6 hM6 hS7 hb7 hP7 hw7 hP hs6 hy3 hb6
          go_wp2_with (first
            | (refine wpList_load_row_w rfl 38 _ rfl M rfl 38 YM (0, 0) _ HM7.out Try.underlying38 rfl HYMS.out ?_)
            | (refine wpList_load_row_w rfl 38 _ rfl P rfl 38 Y (0, 0) _ HP7.out Try.underlying38 rfl HY17.out ?_)
            | (go_at_call 15; (with_reducible refine HSM.out.mono ?_); rintro e w8 ⟨rfl, hb8⟩; have HS8 := Lib.hid (HS7.out.later hb8); clear hb8)
            | (go_at_call 16; (with_reducible refine (wpl_len HS8.out).mono ?_); rintro e w9 ⟨rfl, rfl⟩; rw [HJN.out]))
          go_roundg g
          case measure => omega
          case rel => exact ⟨i + 1, _, D', by omega, rfl, by go_num, Lib.hid (by rw [HDD.out.1]; exact HS8.out.sub fun k o h => h.elim), Lib.hid ⟨by rw [HDD.out.1]; exact HALL'.out, by have := HJL'.out; have := HJN.out; have := HDD.out.2; omega⟩⟩
        · have kz : o.kind % 5 = 2 := by rw [← HKD.out]; omega
          have ej : J' = cutJ (D.map Prod.fst) o.i := by rw [HJ'.out]; unfold docJ; rw [if_neg (by omega), if_neg (by omega), if_pos kz]
          have ee : er = 0 := by rw [HER.out]; unfold docEr; rw [if_neg (by omega)]
          have em : mk = mg0 ∧ bo = false := by rw [HMK.out, HBO.out]; unfold docMk; rw [if_neg (by omega)]; exact ⟨rfl, rfl⟩
          have HEM := Lib.hid em
          have hcall := wpl_drop HS3.out HJL.out o.i
          rw [← ej] at hcall
          have HCALL := Lib.hid hcall
          have heb : bo = false := em.2
          subst heb
          subst ee
          clear ej em kz hcall
          go_upto_region 26 with (first
            | (refine wpList_load_midW rfl 38 _ rfl A 1 (by simp only [Act.eval, Act.put]; first | rfl | simp) mc.toList _ (HRC.out _ _ HR3.out) Try.underlying38 rfl HMS.out ?_; dsimp only [Act.put])
            | (go_at_call 11; (with_reducible refine HCALL.out.mono ?_); rintro e w5 ⟨rfl, hs5⟩; have HS5 := Lib.hid hs5; clear hs5))
          have HR5 := Lib.hid ((HS5.out.ext A _ (.inl (.inr ⟨rfl, rfl⟩))).1)
          have HM5 := Lib.hid ((HS5.out.ext M _ (.inr ⟨rfl, rfl⟩)).1)
          clear c0 c18 c19 c20 c21 c22 HCALL
          have HW5 := Lib.hid (show WsAt w5 (.slice none 0 0) mk.ws from by rw [HEM.out.1]; exact WsAt.nil _)
          obtain ⟨YM, hYM⟩ : ∃ YM, YM = mk.cells (.slice none 0 0) := ⟨_, rfl⟩
          have HYMS := Lib.hid (show (Try.prog.info? 38).map (·.size) = some YM.size from by rw [hYM]; exact msg_size)
          have HYM := Lib.hid hYM
          have hm5 := HM5.out
          rw [show (#[.int .i64 0, .int .i64 0, .int .i64 0, .int .i64 0, .int .i64 0, .int .i64 0, .int .u64 0, .int .u64 0, .string ⟨#[]⟩, .bool false, .int .u64 0, .bool false, .string ⟨#[]⟩, .slice none 0 0, .string ⟨#[]⟩, .int .u64 0, .int .u64 0] : Array Value) = mk.cells (.slice none 0 0) from by rw [HEM.out.1]; rfl, ← hYM] at hm5
          have HM5 := Lib.hid hm5
          clear hm5
          clear hYM
          go_upto_region 27 with (first
            | (refine wpList_load_row rfl 40 _ rfl A rfl 40 C (0, 0) _ HR5.out Try.underlying40 rfl HSZ.out ?_; dsimp only [Act.put])
            | (go_at_call 14; (with_reducible refine (HDO.out _ _ HS5.out).mono ?_); rintro e w6 ⟨da, dn, dc, Y, hy1, hy2, rfl, hy3, hs6, hb6⟩; have HY1 := Lib.hid hy1; have HY2 := Lib.hid hy2; have HY17 := Lib.hid (show (Try.prog.info? 38).map (·.size) = some Y.size from (by rw [hy1]; exact msg_size)); clear hy1 hy2)
            | (refine wpList_store_row rfl 38 _ _ rfl w6.heap.size Y rfl rfl 38 _ (heap_alloc_new w6 _) HY17.out (by rw [HY1.out]; rfl) HY2.out ?_; dsimp only [Act.put]))
          obtain ⟨D', hDJ, hDn, hS6⟩ := hs6.out
          obtain ⟨sl6, hsl6, hws6⟩ := hy3.out
          have hM6 := (hb6.out.block M (Array.getElem?_eq_some_iff.1 HM5.out).1).trans HM5.out
          have hS7 := hS6.box #[.int .i64 0, .int .i64 0, .int .i64 0, .int .i64 0, .int .i64 0, .int .i64 0, .int .u64 0, .int .u64 0, .string ⟨#[]⟩, .bool false, .int .u64 0, .bool false, .string ⟨#[]⟩, .slice none 0 0, .string ⟨#[]⟩, .int .u64 0, .int .u64 0] Y 38
          have hb7 := below_setRow ((Below.refl w6.heap.size w6).alloc (Nat.le_refl _) (.cells #[.int .i64 0, .int .i64 0, .int .i64 0, .int .i64 0, .int .i64 0, .int .i64 0, .int .u64 0, .int .u64 0, .string ⟨#[]⟩, .bool false, .int .u64 0, .bool false, .string ⟨#[]⟩, .slice none 0 0, .string ⟨#[]⟩, .int .u64 0, .int .u64 0] 38)) (Nat.le_refl _) Y
          have hP7 := setRow_heap _ _ _ Y _ _ (heap_alloc_new w6 (.cells #[.int .i64 0, .int .i64 0, .int .i64 0, .int .i64 0, .int .i64 0, .int .i64 0, .int .u64 0, .int .u64 0, .string ⟨#[]⟩, .bool false, .int .u64 0, .bool false, .string ⟨#[]⟩, .slice none 0 0, .string ⟨#[]⟩, .int .u64 0, .int .u64 0] 38))
          obtain ⟨w7, hw7⟩ : ∃ w7, w7 = (w6.alloc (.cells #[.int .i64 0, .int .i64 0, .int .i64 0, .int .i64 0, .int .i64 0, .int .i64 0, .int .u64 0, .int .u64 0, .string ⟨#[]⟩, .bool false, .int .u64 0, .bool false, .string ⟨#[]⟩, .slice none 0 0, .string ⟨#[]⟩, .int .u64 0, .int .u64 0] 38)).setRow w6.heap.size Y := ⟨_, rfl⟩
          obtain ⟨P, hP⟩ : ∃ P, P = w6.heap.size := ⟨_, rfl⟩
          rw [← hw7] at hS7 hb7 hP7 ⊢
          rw [← hP] at hS7 hP7 ⊢
          have HM7 := Lib.hid ((hb7.block M (Array.getElem?_eq_some_iff.1 hM6).1).trans hM6)
          have HP7 := Lib.hid hP7
          have HS7 := Lib.hid hS7
          have HDD := Lib.hid (And.intro hDJ hDn)
          have HSM : Hid (Calls Try.prog 15 #[.agg YM, .agg Y] w7 fun e W' => e = .returned (.bool true) ∧ Below w7.heap.size w7 W') := Lib.hid (by
            rw [HYM.out, hsl6]
            exact HSAME.out w7 _ sl6 ((HW5.out.below hb6.out).below hb7) (hws6.below hb7))
          have HJN := Lib.hid (show J'.length = dn from by rw [← hDJ, List.length_map, hDn])
          clear hDJ hDn hS6 hsl6 hws6 hM6 hS7 hb7 hP7 hw7 hP hs6 hy3 hb6
          go_wp2_with (first
            | (refine wpList_load_row_w rfl 38 _ rfl M rfl 38 YM (0, 0) _ HM7.out Try.underlying38 rfl HYMS.out ?_)
            | (refine wpList_load_row_w rfl 38 _ rfl P rfl 38 Y (0, 0) _ HP7.out Try.underlying38 rfl HY17.out ?_)
            | (go_at_call 15; (with_reducible refine HSM.out.mono ?_); rintro e w8 ⟨rfl, hb8⟩; have HS8 := Lib.hid (HS7.out.later hb8); clear hb8)
            | (go_at_call 16; (with_reducible refine (wpl_len HS8.out).mono ?_); rintro e w9 ⟨rfl, rfl⟩; rw [HJN.out]))
          go_roundg g
          case measure => omega
          case rel => exact ⟨i + 1, _, D', by omega, rfl, by go_num, Lib.hid (by rw [HDD.out.1]; exact HS8.out.sub fun k o h => h.elim), Lib.hid ⟨by rw [HDD.out.1]; exact HALL'.out, by have := HJL'.out; have := HJN.out; have := HDD.out.2; omega⟩⟩
        · have kz : o.kind % 5 = 3 := by rw [← HKD.out]; omega
          have ej : J' = twiceJ (D.map Prod.fst) o.i := by rw [HJ'.out]; unfold docJ; rw [if_neg (by omega), if_neg (by omega), if_neg (by omega), if_pos kz]
          have ee : er = 0 := by rw [HER.out]; unfold docEr; rw [if_neg (by omega)]
          have em : mk = mg0 ∧ bo = false := by rw [HMK.out, HBO.out]; unfold docMk; rw [if_neg (by omega)]; exact ⟨rfl, rfl⟩
          have HEM := Lib.hid em
          have hcall := wpl_twice HS3.out HJL.out o.i
          rw [← ej] at hcall
          have HCALL := Lib.hid hcall
          have heb : bo = false := em.2
          subst heb
          subst ee
          clear ej em kz hcall
          go_upto_region 26 with (first
            | (refine wpList_load_midW rfl 38 _ rfl A 1 (by simp only [Act.eval, Act.put]; first | rfl | simp) mc.toList _ (HRC.out _ _ HR3.out) Try.underlying38 rfl HMS.out ?_; dsimp only [Act.put])
            | (go_at_call 12; (with_reducible refine HCALL.out.mono ?_); rintro e w5 ⟨rfl, hs5⟩; have HS5 := Lib.hid hs5; clear hs5))
          have HR5 := Lib.hid ((HS5.out.ext A _ (.inl (.inr ⟨rfl, rfl⟩))).1)
          have HM5 := Lib.hid ((HS5.out.ext M _ (.inr ⟨rfl, rfl⟩)).1)
          clear c0 c18 c19 c20 c21 c22 HCALL
          have HW5 := Lib.hid (show WsAt w5 (.slice none 0 0) mk.ws from by rw [HEM.out.1]; exact WsAt.nil _)
          obtain ⟨YM, hYM⟩ : ∃ YM, YM = mk.cells (.slice none 0 0) := ⟨_, rfl⟩
          have HYMS := Lib.hid (show (Try.prog.info? 38).map (·.size) = some YM.size from by rw [hYM]; exact msg_size)
          have HYM := Lib.hid hYM
          have hm5 := HM5.out
          rw [show (#[.int .i64 0, .int .i64 0, .int .i64 0, .int .i64 0, .int .i64 0, .int .i64 0, .int .u64 0, .int .u64 0, .string ⟨#[]⟩, .bool false, .int .u64 0, .bool false, .string ⟨#[]⟩, .slice none 0 0, .string ⟨#[]⟩, .int .u64 0, .int .u64 0] : Array Value) = mk.cells (.slice none 0 0) from by rw [HEM.out.1]; rfl, ← hYM] at hm5
          have HM5 := Lib.hid hm5
          clear hm5
          clear hYM
          go_upto_region 27 with (first
            | (refine wpList_load_row rfl 40 _ rfl A rfl 40 C (0, 0) _ HR5.out Try.underlying40 rfl HSZ.out ?_; dsimp only [Act.put])
            | (go_at_call 14; (with_reducible refine (HDO.out _ _ HS5.out).mono ?_); rintro e w6 ⟨da, dn, dc, Y, hy1, hy2, rfl, hy3, hs6, hb6⟩; have HY1 := Lib.hid hy1; have HY2 := Lib.hid hy2; have HY17 := Lib.hid (show (Try.prog.info? 38).map (·.size) = some Y.size from (by rw [hy1]; exact msg_size)); clear hy1 hy2)
            | (refine wpList_store_row rfl 38 _ _ rfl w6.heap.size Y rfl rfl 38 _ (heap_alloc_new w6 _) HY17.out (by rw [HY1.out]; rfl) HY2.out ?_; dsimp only [Act.put]))
          obtain ⟨D', hDJ, hDn, hS6⟩ := hs6.out
          obtain ⟨sl6, hsl6, hws6⟩ := hy3.out
          have hM6 := (hb6.out.block M (Array.getElem?_eq_some_iff.1 HM5.out).1).trans HM5.out
          have hS7 := hS6.box #[.int .i64 0, .int .i64 0, .int .i64 0, .int .i64 0, .int .i64 0, .int .i64 0, .int .u64 0, .int .u64 0, .string ⟨#[]⟩, .bool false, .int .u64 0, .bool false, .string ⟨#[]⟩, .slice none 0 0, .string ⟨#[]⟩, .int .u64 0, .int .u64 0] Y 38
          have hb7 := below_setRow ((Below.refl w6.heap.size w6).alloc (Nat.le_refl _) (.cells #[.int .i64 0, .int .i64 0, .int .i64 0, .int .i64 0, .int .i64 0, .int .i64 0, .int .u64 0, .int .u64 0, .string ⟨#[]⟩, .bool false, .int .u64 0, .bool false, .string ⟨#[]⟩, .slice none 0 0, .string ⟨#[]⟩, .int .u64 0, .int .u64 0] 38)) (Nat.le_refl _) Y
          have hP7 := setRow_heap _ _ _ Y _ _ (heap_alloc_new w6 (.cells #[.int .i64 0, .int .i64 0, .int .i64 0, .int .i64 0, .int .i64 0, .int .i64 0, .int .u64 0, .int .u64 0, .string ⟨#[]⟩, .bool false, .int .u64 0, .bool false, .string ⟨#[]⟩, .slice none 0 0, .string ⟨#[]⟩, .int .u64 0, .int .u64 0] 38))
          obtain ⟨w7, hw7⟩ : ∃ w7, w7 = (w6.alloc (.cells #[.int .i64 0, .int .i64 0, .int .i64 0, .int .i64 0, .int .i64 0, .int .i64 0, .int .u64 0, .int .u64 0, .string ⟨#[]⟩, .bool false, .int .u64 0, .bool false, .string ⟨#[]⟩, .slice none 0 0, .string ⟨#[]⟩, .int .u64 0, .int .u64 0] 38)).setRow w6.heap.size Y := ⟨_, rfl⟩
          obtain ⟨P, hP⟩ : ∃ P, P = w6.heap.size := ⟨_, rfl⟩
          rw [← hw7] at hS7 hb7 hP7 ⊢
          rw [← hP] at hS7 hP7 ⊢
          have HM7 := Lib.hid ((hb7.block M (Array.getElem?_eq_some_iff.1 hM6).1).trans hM6)
          have HP7 := Lib.hid hP7
          have HS7 := Lib.hid hS7
          have HDD := Lib.hid (And.intro hDJ hDn)
          have HSM : Hid (Calls Try.prog 15 #[.agg YM, .agg Y] w7 fun e W' => e = .returned (.bool true) ∧ Below w7.heap.size w7 W') := Lib.hid (by
            rw [HYM.out, hsl6]
            exact HSAME.out w7 _ sl6 ((HW5.out.below hb6.out).below hb7) (hws6.below hb7))
          have HJN := Lib.hid (show J'.length = dn from by rw [← hDJ, List.length_map, hDn])
          clear hDJ hDn hS6 hsl6 hws6 hM6 hS7 hb7 hP7 hw7 hP hs6 hy3 hb6
          go_wp2_with (first
            | (refine wpList_load_row_w rfl 38 _ rfl M rfl 38 YM (0, 0) _ HM7.out Try.underlying38 rfl HYMS.out ?_)
            | (refine wpList_load_row_w rfl 38 _ rfl P rfl 38 Y (0, 0) _ HP7.out Try.underlying38 rfl HY17.out ?_)
            | (go_at_call 15; (with_reducible refine HSM.out.mono ?_); rintro e w8 ⟨rfl, hb8⟩; have HS8 := Lib.hid (HS7.out.later hb8); clear hb8)
            | (go_at_call 16; (with_reducible refine (wpl_len HS8.out).mono ?_); rintro e w9 ⟨rfl, rfl⟩; rw [HJN.out]))
          go_roundg g
          case measure => omega
          case rel => exact ⟨i + 1, _, D', by omega, rfl, by go_num, Lib.hid (by rw [HDD.out.1]; exact HS8.out.sub fun k o h => h.elim), Lib.hid ⟨by rw [HDD.out.1]; exact HALL'.out, by have := HJL'.out; have := HJN.out; have := HDD.out.2; omega⟩⟩
        · have kz : o.kind % 5 = 4 := by rw [← HKD.out]; omega
          have ej : J' = flipJ (D.map Prod.fst) o.i o.bit := by rw [HJ'.out]; unfold docJ; rw [if_neg (by omega), if_neg (by omega), if_neg (by omega), if_neg (by omega)]
          have ee : er = 0 := by rw [HER.out]; unfold docEr; rw [if_neg (by omega)]
          have em : mk = mg0 ∧ bo = false := by rw [HMK.out, HBO.out]; unfold docMk; rw [if_neg (by omega)]; exact ⟨rfl, rfl⟩
          have HEM := Lib.hid em
          have hcall := wpl_flip HS3.out hD.out.1 o.i o.bit HIN.out.bit.2
          rw [← ej] at hcall
          have HCALL := Lib.hid hcall
          have heb : bo = false := em.2
          subst heb
          subst ee
          clear ej em kz hcall
          go_upto_region 26 with (first
            | (refine wpList_load_midW rfl 38 _ rfl A 1 (by simp only [Act.eval, Act.put]; first | rfl | simp) mc.toList _ (HRC.out _ _ HR3.out) Try.underlying38 rfl HMS.out ?_; dsimp only [Act.put])
            | (go_at_call 13; (with_reducible refine HCALL.out.mono ?_); rintro e w5 ⟨rfl, hs5⟩; have HS5 := Lib.hid hs5; clear hs5))
          have HR5 := Lib.hid ((HS5.out.ext A _ (.inl (.inr ⟨rfl, rfl⟩))).1)
          have HM5 := Lib.hid ((HS5.out.ext M _ (.inr ⟨rfl, rfl⟩)).1)
          clear c0 c18 c19 c20 c21 c22 HCALL
          have HW5 := Lib.hid (show WsAt w5 (.slice none 0 0) mk.ws from by rw [HEM.out.1]; exact WsAt.nil _)
          obtain ⟨YM, hYM⟩ : ∃ YM, YM = mk.cells (.slice none 0 0) := ⟨_, rfl⟩
          have HYMS := Lib.hid (show (Try.prog.info? 38).map (·.size) = some YM.size from by rw [hYM]; exact msg_size)
          have HYM := Lib.hid hYM
          have hm5 := HM5.out
          rw [show (#[.int .i64 0, .int .i64 0, .int .i64 0, .int .i64 0, .int .i64 0, .int .i64 0, .int .u64 0, .int .u64 0, .string ⟨#[]⟩, .bool false, .int .u64 0, .bool false, .string ⟨#[]⟩, .slice none 0 0, .string ⟨#[]⟩, .int .u64 0, .int .u64 0] : Array Value) = mk.cells (.slice none 0 0) from by rw [HEM.out.1]; rfl, ← hYM] at hm5
          have HM5 := Lib.hid hm5
          clear hm5
          clear hYM
          go_upto_region 27 with (first
            | (refine wpList_load_row rfl 40 _ rfl A rfl 40 C (0, 0) _ HR5.out Try.underlying40 rfl HSZ.out ?_; dsimp only [Act.put])
            | (go_at_call 14; (with_reducible refine (HDO.out _ _ HS5.out).mono ?_); rintro e w6 ⟨da, dn, dc, Y, hy1, hy2, rfl, hy3, hs6, hb6⟩; have HY1 := Lib.hid hy1; have HY2 := Lib.hid hy2; have HY17 := Lib.hid (show (Try.prog.info? 38).map (·.size) = some Y.size from (by rw [hy1]; exact msg_size)); clear hy1 hy2)
            | (refine wpList_store_row rfl 38 _ _ rfl w6.heap.size Y rfl rfl 38 _ (heap_alloc_new w6 _) HY17.out (by rw [HY1.out]; rfl) HY2.out ?_; dsimp only [Act.put]))
          obtain ⟨D', hDJ, hDn, hS6⟩ := hs6.out
          obtain ⟨sl6, hsl6, hws6⟩ := hy3.out
          have hM6 := (hb6.out.block M (Array.getElem?_eq_some_iff.1 HM5.out).1).trans HM5.out
          have hS7 := hS6.box #[.int .i64 0, .int .i64 0, .int .i64 0, .int .i64 0, .int .i64 0, .int .i64 0, .int .u64 0, .int .u64 0, .string ⟨#[]⟩, .bool false, .int .u64 0, .bool false, .string ⟨#[]⟩, .slice none 0 0, .string ⟨#[]⟩, .int .u64 0, .int .u64 0] Y 38
          have hb7 := below_setRow ((Below.refl w6.heap.size w6).alloc (Nat.le_refl _) (.cells #[.int .i64 0, .int .i64 0, .int .i64 0, .int .i64 0, .int .i64 0, .int .i64 0, .int .u64 0, .int .u64 0, .string ⟨#[]⟩, .bool false, .int .u64 0, .bool false, .string ⟨#[]⟩, .slice none 0 0, .string ⟨#[]⟩, .int .u64 0, .int .u64 0] 38)) (Nat.le_refl _) Y
          have hP7 := setRow_heap _ _ _ Y _ _ (heap_alloc_new w6 (.cells #[.int .i64 0, .int .i64 0, .int .i64 0, .int .i64 0, .int .i64 0, .int .i64 0, .int .u64 0, .int .u64 0, .string ⟨#[]⟩, .bool false, .int .u64 0, .bool false, .string ⟨#[]⟩, .slice none 0 0, .string ⟨#[]⟩, .int .u64 0, .int .u64 0] 38))
          obtain ⟨w7, hw7⟩ : ∃ w7, w7 = (w6.alloc (.cells #[.int .i64 0, .int .i64 0, .int .i64 0, .int .i64 0, .int .i64 0, .int .i64 0, .int .u64 0, .int .u64 0, .string ⟨#[]⟩, .bool false, .int .u64 0, .bool false, .string ⟨#[]⟩, .slice none 0 0, .string ⟨#[]⟩, .int .u64 0, .int .u64 0] 38)).setRow w6.heap.size Y := ⟨_, rfl⟩
          obtain ⟨P, hP⟩ : ∃ P, P = w6.heap.size := ⟨_, rfl⟩
          rw [← hw7] at hS7 hb7 hP7 ⊢
          rw [← hP] at hS7 hP7 ⊢
          have HM7 := Lib.hid ((hb7.block M (Array.getElem?_eq_some_iff.1 hM6).1).trans hM6)
          have HP7 := Lib.hid hP7
          have HS7 := Lib.hid hS7
          have HDD := Lib.hid (And.intro hDJ hDn)
          have HSM : Hid (Calls Try.prog 15 #[.agg YM, .agg Y] w7 fun e W' => e = .returned (.bool true) ∧ Below w7.heap.size w7 W') := Lib.hid (by
            rw [HYM.out, hsl6]
            exact HSAME.out w7 _ sl6 ((HW5.out.below hb6.out).below hb7) (hws6.below hb7))
          have HJN := Lib.hid (show J'.length = dn from by rw [← hDJ, List.length_map, hDn])
          clear hDJ hDn hS6 hsl6 hws6 hM6 hS7 hb7 hP7 hw7 hP hs6 hy3 hb6
          go_wp2_with (first
            | (refine wpList_load_row_w rfl 38 _ rfl M rfl 38 YM (0, 0) _ HM7.out Try.underlying38 rfl HYMS.out ?_)
            | (refine wpList_load_row_w rfl 38 _ rfl P rfl 38 Y (0, 0) _ HP7.out Try.underlying38 rfl HY17.out ?_)
            | (go_at_call 15; (with_reducible refine HSM.out.mono ?_); rintro e w8 ⟨rfl, hb8⟩; have HS8 := Lib.hid (HS7.out.later hb8); clear hb8)
            | (go_at_call 16; (with_reducible refine (wpl_len HS8.out).mono ?_); rintro e w9 ⟨rfl, rfl⟩; rw [HJN.out]))
          go_roundg g
          case measure => omega
          case rel => exact ⟨i + 1, _, D', by omega, rfl, by go_num, Lib.hid (by rw [HDD.out.1]; exact HS8.out.sub fun k o h => h.elim), Lib.hid ⟨by rw [HDD.out.1]; exact HALL'.out, by have := HJL'.out; have := HJN.out; have := HDD.out.2; omega⟩⟩
    | zero => 
      obtain rfl : i = len := by omega
      obtain ⟨n, hn⟩ : ∃ n, n = D.length := ⟨_, rfl⟩
      obtain ⟨va, vc, hdv, -, -, -⟩ := hW.out.doc.slice
      have HDV := Lib.hid hdv
      have HN := Lib.hid hn
      have hn60 : n ≤ 60 := by have := hD.out.2; have := H60.out; omega
      rw [← hn] at hdv
      subst hdv
      have HTO := Lib.hid (fun q => wpl_to hW.out q)
      have HVE := Lib.hid (fun q => wpl_ver hW.out q)
      clear hn hD hig
      go_wp2_with fail
      go_loopg [16] (n + 2) (fun g s16 wx => ∃ q : Nat, q + g = n + 2 ∧ s16 = .int .i64 ((q : Int) - 1) ∧ wx = wr)
      case atStart => exact ⟨0, by omega, rfl, rfl⟩
      case round =>
        obtain ⟨q, hqg, rfl, rfl⟩ := hrel
        cases gk with
        | succ g =>
          have hq0 : (q : Int) - 1 ≤ (n : Int) := by omega
          have hqd : decide ((q : Int) - 1 ≤ (n : Int)) = true := by rw [decide_eq_true_eq]; exact hq0
          by_cases hin : 1 ≤ q ∧ q ≤ n
          · obtain ⟨j, rfl⟩ : ∃ j, q = j + 1 := ⟨q - 1, by omega⟩
            have hjn : j < n := by omega
            have hz : (((j + 1 : Nat) : Int) - 1) = (j : Int) := by omega
            rw [hz] at hqd hq0 ⊢
            have hj0 : (0 : Int) ≤ (j : Int) := by omega
            have hj1 : (j : Int) < (n : Int) := by omega
            obtain ⟨kb, cc, he, hkl, hci⟩ := hW.out.doc.at_ (i := j) (by have := HN.out; omega)
            injection he with he1 he2 he3
            subst he1
            obtain ⟨d, hd⟩ : ∃ d, d = D.getD j dj0 := ⟨_, rfl⟩
            have hdx : (D.map Prod.fst).getD j wj0 = d.1 := by rw [hd, dj_fst]
            have hhas : hasW (D.map Prod.fst) (j : Int) = true := hasW_iff.2 ⟨hj0, by rw [List.length_map, ← HN.out]; exact hj1⟩
            have hto : toJ (D.map Prod.fst) (j : Int) = d.1.m.to_ := by unfold toJ; rw [if_pos hhas, Int.toNat_natCast, hdx]
            have hve : verJ (D.map Prod.fst) (j : Int) = d.1.v := by unfold verJ; rw [if_pos hhas, Int.toNat_natCast, hdx]
            rw [← hd] at hci
            have c2 : wr.cell? ⟨kb, j * 19 + 2, none⟩ = some (.int .i64 d.1.m.to_) := hci 2 (by decide)
            have c17 : wr.cell? ⟨kb, j * 19 + 17, none⟩ = some (.int .i64 d.1.v) := hci 17 (by decide)
            obtain ⟨t2, ht2⟩ : ∃ t2, t2 = d.1.m.to_ := ⟨_, rfl⟩
            obtain ⟨t17, ht17⟩ : ∃ t17, t17 = d.1.v := ⟨_, rfl⟩
            have HT1 := Lib.hid (HTO.out (j : Int))
            have HV1 := Lib.hid (HVE.out (j : Int))
            rw [hto, ← ht2] at HT1
            rw [hve, ← ht17] at HV1
            rw [← ht2] at c2
            rw [← ht17] at c17
            have HQ := Lib.hid hqg
            clear hto hve hdx hd hhas hci he2 he3 hkl ht2 ht17 hz hqg
            go_wp2_with (first
              | (go_at_call 17; (with_reducible refine HT1.out.mono ?_); rintro e w8 ⟨rfl, rfl⟩)
              | (go_at_call 18; (with_reducible refine HV1.out.mono ?_); rintro e w9 ⟨rfl, rfl⟩))
            go_roundg g
            case measure => omega
            case rel => exact ⟨j + 2, by have := HQ.out; omega, by first | (go_num; done) | (congr 1; omega) | (go_num; congr 1; omega), rfl⟩
          · rcases (show q = 0 ∨ q = n + 1 by omega) with rfl | rfl
            · have hz : (((0 : Nat) : Int) - 1) = -1 := by decide
              rw [hz] at hqd hq0 ⊢
              have hno : hasW (D.map Prod.fst) (-1) = false := hasW_no.2 (fun e => by have := e.1; omega)
              have HT1 := Lib.hid (HTO.out (-1))
              have HV1 := Lib.hid (HVE.out (-1))
              rw [show toJ (D.map Prod.fst) (-1) = -1 from by unfold toJ; rw [hno]; rfl] at HT1
              rw [show verJ (D.map Prod.fst) (-1) = 0 from by unfold verJ; rw [hno]; rfl] at HV1
              have HQ := Lib.hid hqg
              clear hno hz hqg hin
              go_wp2_with (first
                | (go_at_call 17; (with_reducible refine HT1.out.mono ?_); rintro e w8 ⟨rfl, rfl⟩)
                | (go_at_call 18; (with_reducible refine HV1.out.mono ?_); rintro e w9 ⟨rfl, rfl⟩))
              go_roundg g
              case measure => omega
              case rel => exact ⟨1, by have := HQ.out; omega, by first | rfl | (go_num; done) | (congr 1; omega), rfl⟩
            · have hz : (((n + 1 : Nat) : Int) - 1) = (n : Int) := by omega
              rw [hz] at hqd hq0 ⊢
              have hno : hasW (D.map Prod.fst) (n : Int) = false := hasW_no.2 (fun e => by have h2 := e.2; rw [List.length_map, ← HN.out] at h2; omega)
              have HT1 := Lib.hid (HTO.out (n : Int))
              have HV1 := Lib.hid (HVE.out (n : Int))
              rw [show toJ (D.map Prod.fst) (n : Int) = -1 from by unfold toJ; rw [hno]; rfl] at HT1
              rw [show verJ (D.map Prod.fst) (n : Int) = 0 from by unfold verJ; rw [hno]; rfl] at HV1
              have HQ := Lib.hid hqg
              have hn0 : (0 : Int) ≤ (n : Int) := by omega
              have hnn : ¬ (n : Int) < (n : Int) := by omega
              clear hno hz hqg hin
              go_wp2_with (first
                | (go_at_call 17; (with_reducible refine HT1.out.mono ?_); rintro e w8 ⟨rfl, rfl⟩)
                | (go_at_call 18; (with_reducible refine HV1.out.mono ?_); rintro e w9 ⟨rfl, rfl⟩))
              go_roundg g
              case measure => omega
              case rel => exact ⟨n + 2, by have := HQ.out; omega, by first | (go_num; done) | (congr 1; omega) | (go_num; congr 1; omega), rfl⟩
        | zero =>
          have hq0 : ¬ ((q : Int) - 1 ≤ (n : Int)) := by omega
          have hqd : decide ((q : Int) - 1 ≤ (n : Int)) = false := by rw [decide_eq_false_iff_not]; exact hq0
          go_wp2_with fail
          go_ret
          exact ⟨rfl, hW.out.below⟩

theorem wirePlays_walk (a : Option Addr) (len cap : Nat) (L : List Wo) (w : World) (hL : IsWops w a len cap L) : Calls Try.prog 3 #[.slice a len cap] w (AllTrue w) := by
  by_cases h : 60 < len
  · exact wirePlays_many a len cap w h
  · exact wirePlays_few a len cap L w hL h
end Go.Proofs.Ytbhlgceicfjncaa

namespace Go.Proofs.Ytbhlgceicfjncaa.wirePlays
open Go.ChangeShapes Go.WideShapes Go.ChangeAt Go.RowKit
open Go.ChangeMaps (open_string shut_string)
set_option linter.unnecessarySimpa false
set_option linter.unusedSimpArgs false
set_option maxRecDepth 100000
set_option linter.unusedVariables false

theorem own : ownKnob Try.prog.godebug = none := by kernel_rfl
theorem laidOut : laidOutB Try.prog = true := by kernel_rfl

set_option maxRecDepth 100000 in
theorem lifted (os : Os) (started : os.Started) (H : Type) (enc : TypeId × Value → H) :
    ReturnsInHanded {} Try.checked os 3 .any (Rows.wirePlaysSpec.pre6 enc Try.prog Try.f3 Rows.wirePlaysRow.domain false) (Rows.wirePlaysSpec.post enc Try.prog Try.f3 false true false false) := by
  refine returnsInHanded_of_change_sized (C := Try.checked) own started (by kernel_rfl) Try.func3
    (ChangeSpec.witness6 (enc := enc) (C := Try.checked) false ⟨#[], #[.slice none 0 0], []⟩ 8 (by kernel_rfl) (by kernel_rfl) (by kernel_rfl) (by kernel_rfl)) ?_
  intro W base args ds gs before hval0 hW hcnd hsz _
  have hval : ∀ (j : Nat) t v, Try.f3.params[j]? = some t → args[j]? = some v → Value.okWide Try.prog W .any base t v := hval0
  have hW' := hW
  obtain ⟨p, q, hA0, hV, rfl, hfz, hnd⟩ := hW
  have hA : DataW.TrodAll enc Try.prog W 0 (fun _ => true) true Try.f3.params.toList args.toList ds p := hA0
  rw [Try.params3] at hA hval
  obtain ⟨v0, vs0, d0, ds0, p0, q0, hargs, rfl, rfl, h0, r0⟩ := trodAll_cons hA
  obtain ⟨rfl, rfl, rfl⟩ := trodAll_nil r0
  obtain rfl : args = #[v0] := by cases args; simp_all
  obtain ⟨rfl, rfl⟩ := trodVars_none hV
  obtain ⟨a2, len2, cap2, rfl⟩ := okWide_slice Try.underlying22 (hval 0 22 v0 rfl rfl)
  have k2 := h0
  have lt2 : ∀ x ∈ p0, x.block < W.heap.size := by obtain ⟨m, hm⟩ := k2; exact DataW.trod_lt m _ _ _ hm
  have sz2 : ∀ n, n ∈ d0.weights Try.prog 22 → n ≤ reachBytes := fun n hn => by
    have := List.all_eq_true.1 hsz n (DataW.weights_mem_each (j := 0) (t := 22) (d := d0) rfl rfl n hn)
    simpa using this
  obtain ⟨z2, w2⟩ : ∃ zs, IsWops W a2 len2 cap2 zs := open_IsWops h0 sz2
  clear hA0 hval0
  refine (wirePlays_walk a2 len2 cap2 z2 W w2).mono fun e W' ⟨he, bel⟩ => ?_
  subst he
  exact ⟨_, rfl, _, _, _, [], _, [], hW', trodAll_mk1 (shut_bool Try.underlying4 _), (trodAll_cons_mk (Below.trod laidOut (by kernel_rfl) (of_decide_eq_true (by kernel_rfl)) k2 bel lt2) trodAll_mk0), rfl, bel.frame _, fun h => by cases h⟩

theorem over : Rows.wirePlaysRow.holds Try.pinned (OpenSpec.ofChange Rows.wirePlaysSpec) :=
  OpenClaim.holds_of_wide 3 Try.f3 rfl rfl rfl rfl rfl rfl rfl ⟨rfl, rfl, rfl, rfl, rfl⟩ rfl rfl rfl rfl rfl (by kernel_rfl) Try.func3 (by kernel_rfl)
    (of_decide_eq_true (by kernel_rfl)) (by unfold Func.isWrapper; first | (rw [if_pos (by decide +kernel)]; kernel_rfl) | (rw [if_neg (by decide +kernel)]; exact ⟨rfl, rfl⟩))
    (fun os started H enc _ => lifted os started H enc)

theorem proved : Rows.WirePlaysSaid :=
  over
#print axioms proved
end Go.Proofs.Ytbhlgceicfjncaa.wirePlays
