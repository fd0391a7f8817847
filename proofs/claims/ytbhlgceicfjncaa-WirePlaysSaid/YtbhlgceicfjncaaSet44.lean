/-
  The program's net: Take.
-/
import Derived.Test.YtbhlgceicfjncaaSet21
import Derived.Test.YtbhlgceicfjncaaSet28
import Derived.Test.YtbhlgceicfjncaaSet30
import Derived.Test.YtbhlgceicfjncaaSet29
import Derived.Test.YtbhlgceicfjncaaSet43
namespace Go.Proofs.Ytbhlgceicfjncaa
open Go.RowKit
set_option linter.unusedVariables false
set_option linter.unnecessarySimpa false
set_option linter.unusedSimpArgs false
set_option maxRecDepth 100000

/-- A splitter that was fed with a frame on its way. -/
def Fed (x : Wj) (B g : Nat) (w : World) : Prop := if x.on then SpAt w g (.slice none 0 0) (.slice none 0 0) true else AtF B w ⟨g, 0, none⟩ [payW x.m x.v]
theorem feed_way {x : Wj} (hx : x.ok) {w : World} {B g : Nat} (hB : B ≤ g) (hs : SpAt w g (.slice none 0 0) (.slice none 0 0) false) :
    Calls Try.prog 25 #[.pointer (some ⟨g, 0, none⟩), .string x.b] w fun e w' => e = .returned (.tuple #[]) ∧ Fed x B g w' ∧ Below B w w' := by
  have hp := pay_len hx.right hx.v
  have hps : (payW x.m x.v).data.toList.length = (payW x.m x.v).size := (Lib.size_eq _).symm
  unfold Fed Wj.b
  cases hon : x.on with
  | false =>
    have h0 := feed_ok (p := payW x.m x.v) (ps := []) hB hs (World.ownsRow_nil w B 9 1) hp.1 hp.2 (by decide)
    refine h0.mono ?_
    rintro e w' ⟨he, v', h1, h2, h3⟩
    exact ⟨he, ⟨g, v', rfl, hB, h1, h2⟩, h3⟩
  | true =>
    have hk := hx.k hon
    unfold Wj.bits at hk
    rw [← payW_list, hps] at hk
    obtain ⟨S, Q, hbad, he⟩ := turn_bad (payW x.m x.v).data.toList (k := x.k) (by rw [hps]; omega)
    have hS : fx (valFx S true) 4 true = S := by
      apply wval_inj (by rw [fx_length, hbad.s])
      rw [wval_fx, Nat.mod_eq_of_lt]
      have := le_lt S.reverse
      rw [List.length_reverse, hbad.s] at this
      exact this
    have hlt : valFx S true < 4294967296 := by
      have := le_lt S.reverse
      rw [List.length_reverse, hbad.s] at this
      exact this
    have hQs : (⟨Q.toArray⟩ : ByteArray).size = (payW x.m x.v).size := by show Q.toArray.size = _; rw [List.size_toArray, hbad.q, hps]
    have hQd : (⟨Q.toArray⟩ : ByteArray).data.toList = Q := rfl
    have hxx : (turnS (frmS (payW x.m x.v)) x.k).data.toList = fx (⟨Q.toArray⟩ : ByteArray).size 4 true ++ (fx (valFx S true) 4 true ++ (⟨Q.toArray⟩ : ByteArray).data.toList) := by
      rw [hS, hQs, hQd]
      show turnL (frmB (payW x.m x.v).data.toList) x.k = _
      rw [he, hps]
    have h0 := feed_bad (p := ⟨Q.toArray⟩) (F := turnS (frmS (payW x.m x.v)) x.k) (S := valFx S true) (N := 0) (L := []) hB hs (World.ownsRow_nil w B 9 1) (by rw [hQs]; exact hp.1) (by rw [hQs]; exact hp.2) hlt (by rw [hQd]; exact hbad.bad) hxx
    refine h0.mono ?_
    rintro e w' ⟨he, h1, h2⟩
    exact ⟨he, h1, h2⟩
theorem next_way {x : Wj} {w : World} {B g : Nat} (hf : Fed x B g w) (hB : B ≤ w.heap.size) :
    Calls Try.prog 26 #[.pointer (some ⟨g, 0, none⟩)] w fun e w' => e = .returned (.tuple #[.string (if x.on then ⟨#[]⟩ else payW x.m x.v), .bool (!x.on)]) ∧ Below B w w' := by
  unfold Fed at hf
  cases hon : x.on with
  | true =>
    rw [hon] at hf
    refine (splNext0 hf).mono ?_
    rintro e w' ⟨rfl, rfl⟩
    exact ⟨rfl, Below.refl _ _⟩
  | false =>
    rw [hon] at hf
    obtain ⟨g', a, c, hr, hB2, hs, ht, hc⟩ := at_tell hf
    injection hr with hr
    subst hr
    refine (splNext hs hB2 rfl hc ht).mono ?_
    rintro e w' ⟨rfl, _, hb⟩
    exact ⟨rfl, hb⟩
/-- A result's cell that is no part of the net is written. -/
theorem NetV.other {w : World} {g : Nat} {v : Value} {J : List Wj} (h : NetV w g v J) {R : Nat} (hR : ¬ netO g v R) (cs : Array Value) : NetV (w.setRow R cs) g v J := h.stay fun k hk => setRow_other w R k cs (fun e => hR (e ▸ hk))
theorem Moves.setRowNew {O O' : Nat → Prop} {w w' : World} (h : Moves O O' w w') {R : Nat} (hR : w.heap.size ≤ R) (cs : Array Value) : Moves O O' w (w'.setRow R cs) :=
  ⟨h.os, h.tape, h.output, by simpa using h.size, fun k hk hO => by rw [setRow_other w' R k cs (by omega)]; exact h.block k hk hO, h.own⟩
def zeroM : Array Value := mg0.cells (.slice none 0 0)
theorem zeroM_is : zeroM = #[.int .i64 0, .int .i64 0, .int .i64 0, .int .i64 0, .int .i64 0, .int .i64 0, .int .u64 0, .int .u64 0, .string ⟨#[]⟩, .bool false, .int .u64 0, .bool false, .string ⟨#[]⟩, .slice none 0 0, .string ⟨#[]⟩, .int .u64 0, .int .u64 0] := rfl
theorem zeroM_no {o : Nat} {a c : ByteArray} {b : Bool} (h1 : zeroM[o]? = some (.string a)) (h2 : zeroM[o + 1]? = some (.bool b)) (h3 : zeroM[o + 2]? = some (.string c)) : False := by
  have hlt : o + 2 < 17 := (Array.getElem?_eq_some_iff.1 h3).1
  rw [zeroM_is] at h1 h2 h3
  have hcs : o = 0 ∨ o = 1 ∨ o = 2 ∨ o = 3 ∨ o = 4 ∨ o = 5 ∨ o = 6 ∨ o = 7 ∨ o = 8 ∨ o = 9 ∨ o = 10 ∨ o = 11 ∨ o = 12 ∨ o = 13 ∨ o = 14 := by omega
  rcases hcs with rfl | rfl | rfl | rfl | rfl | rfl | rfl | rfl | rfl | rfl | rfl | rfl | rfl | rfl | rfl
  all_goals first | (simp at h1; done) | (simp at h2; done) | (simp at h3; done)
/-- Writes do not lie in a zero message. -/
theorem WsAt.other_zero {w : World} {sl : Value} {ws : List Wr} {R : Nat} (h : WsAt w sl ws) (hR : w.heap[R]? = some (.cells zeroM 38 (0, 0))) (cs : Array Value) : WsAt (w.setRow R cs) sl ws := by
  obtain ⟨a, len, cap, h1, h2, h3⟩ := h
  refine ⟨a, len, cap, h1, h2, fun i hi => ?_⟩
  obtain ⟨b, off, ha, hlt, c0, c1, c2⟩ := h3 i hi
  have hne : b ≠ R := fun e => by
    subst e
    rw [cell_of_row _ _ _ _ _ _ hR] at c0 c1 c2
    exact zeroM_no c0 c1 c2
  have hb := setRow_other w R b cs hne
  exact ⟨b, off, ha, by simpa using hlt, by rw [World.cell?, hb]; exact c0, by rw [World.cell?, hb]; exact c1, by rw [World.cell?, hb]; exact c2⟩
def TakeOut (m : Mg) (ok : Bool) (g : Nat) (v : Value) (J : List Wj) (w : World) (e : Ending) (w' : World) : Prop :=
  ∃ v' sl, e = .returned (.tuple #[.agg (m.cells sl), .bool ok]) ∧ WsAt w' sl m.ws ∧ NetV w' g v' J ∧ Moves (netO g v) (netO g v') w w'
set_option maxHeartbeats 8000000 in
theorem net_take_none {w : World} {g : Nat} {v : Value} {J : List Wj} (h : NetV w g v J) (i ver : Int) (hc : hasW J i = false) :
    Calls Try.prog 10 #[.pointer (some ⟨g, 0, none⟩), .int .i64 i, .int .i64 ver] w (TakeOut mg0 false g v J w) := by
  have hb1 := (Below.refl w.heap.size w).alloc (Nat.le_refl _) (.cells zeroM 38)
  have hr1 := heap_alloc_new w (.cells zeroM 38)
  have HH := Lib.hid (net_has (h.below hb1) i)
  rw [hc] at HH
  have HN := Lib.hid (h.below hb1)
  have HO := Lib.hid h.olt
  rw [zeroM_is] at HH hb1 hr1 HN
  have HB := Lib.hid hb1
  have HR := Lib.hid hr1
  clear h hc hb1 hr1
  go_enter Try.func10, Try.ntmps10
  go_wp2_with (first
    | (go_at_call 23; (with_reducible refine HH.out.mono ?_); rintro e w1 ⟨rfl, rfl⟩)
    | (refine wpList_store_row rfl 38 _ _ rfl w.heap.size #[.int .i64 0, .int .i64 0, .int .i64 0, .int .i64 0, .int .i64 0, .int .i64 0, .int .u64 0, .int .u64 0, .string ⟨#[]⟩, .bool false, .int .u64 0, .bool false, .string ⟨#[]⟩, .slice none 0 0, .string ⟨#[]⟩, .int .u64 0, .int .u64 0] rfl rfl 38 _ HR.out msg_size rfl zero_one ?_))
  refine bodyPost_ret (msg_ret (setRow_heap _ _ _ _ _ _ HR.out) rfl rfl rfl rfl) rfl ?_
  refine ⟨v, .slice none 0 0, rfl, WsAt.nil _, HN.out.other (fun e => by have := HO.out _ e; omega) _, (Moves.of_below HB.out).setRowNew (Nat.le_refl _) _⟩
set_option maxHeartbeats 8000000 in
theorem net_take_some {w : World} {g : Nat} {v : Value} {J : List Wj} (h : NetV w g v J) (hl : J.length ≤ 1000) (j : Nat) (ver : Int) (hver : I64 ver) (hj : j < J.length) (hx : (J.getD j wj0).ok) :
    Calls Try.prog 10 #[.pointer (some ⟨g, 0, none⟩), .int .i64 (j : Int), .int .i64 ver] w (TakeOut (takeM J (j : Int) ver).1 (takeM J (j : Int) ver).2 g v (cutJ J (j : Int)) w) := by
  have hb1 := (Below.refl w.heap.size w).alloc (Nat.le_refl _) (.cells zeroM 38)
  have hr1 := heap_alloc_new w (.cells zeroM 38)
  have hN1 := h.below hb1
  have HH := Lib.hid (net_has hN1 (j : Int))
  rw [hasW_iff.2 (by omega)] at HH
  have HD := Lib.hid (net_drop hN1 hl (j : Int))
  obtain ⟨k, c, hvk, hk⟩ := hN1.at_ hj
  have c0 := hN1.c
  obtain ⟨w1, hw1⟩ : ∃ w1, w1 = w.alloc (.cells zeroM 38) := ⟨_, rfl⟩
  have hh : hasW J (j : Int) = true := hasW_iff.2 (by omega)
  have htk : takeM J (j : Int) ver = if (J.getD j wj0).on = false then ((projB ver (cut (J.getD j wj0).v (J.getD j wj0).m)).1, decide ((projB ver (cut (J.getD j wj0).v (J.getD j wj0).m)).2 = 0)) else (mg0, false) := by
    unfold takeM
    rw [hh, show ((j : Int)).toNat = j from Int.toNat_natCast j]
    simp
  rw [htk]
  obtain ⟨x, hxx⟩ : ∃ x, x = J.getD j wj0 := ⟨_, rfl⟩
  rw [← hxx] at hx hk ⊢
  have c2 := hk 2 (by decide)
  simp only [Wj.oc, List.getElem?_cons_zero, List.getElem?_cons_succ] at c2
  have hdw := dec_way hx.right hx.fits hx.few hx.v hx.must ver
  have hpl := pay_len hx.right hx.v
  have HDE := Lib.hid (fun W => decOK ver (payW x.m x.v) W hver (by omega))
  rw [payW_list, hdw.1, hdw.2] at HDE
  obtain ⟨M, hM⟩ : ∃ M, M = (projB ver (cut x.v x.m)).1 := ⟨_, rfl⟩
  obtain ⟨E, hE⟩ : ∃ E, E = (projB ver (cut x.v x.m)).2 := ⟨_, rfl⟩
  obtain ⟨L, hL⟩ : ∃ L, L = (decB ver (msgB x.m (lastOfM x.v))).2.1 := ⟨_, rfl⟩
  rw [← hM, ← hE, ← hL] at HDE
  rw [← hM, ← hE]
  have HNW := Lib.hid (fun W => splNew W)
  have HFE := Lib.hid (fun W B g2 hB hs => feed_way hx (w := W) (B := B) (g := g2) hB hs)
  have HNX := Lib.hid (fun W B g2 hf hB => next_way (x := x) (w := W) (B := B) (g := g2) hf hB)
  obtain ⟨b, hb⟩ : ∃ b, b = x.b := ⟨_, rfl⟩
  obtain ⟨P, hP⟩ : ∃ P, P = payW x.m x.v := ⟨_, rfl⟩
  rw [← hb] at c2 HFE
  rw [← hP] at HNX HDE
  obtain ⟨on, hon⟩ : ∃ on, on = x.on := ⟨_, rfl⟩
  rw [← hon] at HNX ⊢
  rw [← hw1] at hb1 hr1 HH HD c0 c2
  rw [zeroM_is] at hr1 hw1
  obtain ⟨R, hR⟩ : ∃ R, R = w.heap.size := ⟨_, rfl⟩
  rw [← hR] at hr1
  have hR1 : R < w1.heap.size := (Array.getElem?_eq_some_iff.1 hr1).1
  have hRO : ¬ netO g v R := fun e => by have := h.olt _ e; omega
  have HR1 := Lib.hid hr1
  have HB1 := Lib.hid hb1
  have HRL := Lib.hid hR1
  have HRO := Lib.hid hRO
  have HRW := Lib.hid (show w.heap.size ≤ R by omega)
  obtain ⟨n, hn⟩ : ∃ n, n = J.length := ⟨_, rfl⟩
  rw [← hn] at hvk hj
  have hjz : (j : Int) < (n : Int) := by omega
  have hjz0 : (0 : Int) ≤ (j : Int) := by omega
  obtain ⟨J2, hJ2⟩ : ∃ J2, J2 = cutJ J (j : Int) := ⟨_, rfl⟩
  rw [← hJ2] at HD ⊢
  have HMV := Lib.hid (fun (w2 : World) (v2 : Value) (hm : Moves (netO g v) (netO g v2) w1 w2) => (Moves.of_below (O := netO g v) hb1).trans hm)
  have HVK := Lib.hid hvk
  rw [hvk] at c0
  clear h hl hver hx hk hN1 hh htk hxx hdw hpl hM hE hL hb hP hon hb1 hr1 hR1 hRO hn hj hJ2 hvk
  go_enter Try.func10, Try.ntmps10
  go_upto_region 1 with fail
  rw [← hw1, ← hR]
  clear hw1 hR
  go_upto_region 5 with (first
    | (go_at_call 23; (with_reducible refine HH.out.mono ?_); rintro e w2 ⟨rfl, rfl⟩)
    | (go_at_call 11; (with_reducible refine HD.out.mono ?_); rintro e w2 ⟨v2, rfl, hn2, hm2⟩; have HN2 := Lib.hid hn2; have HM2 := Lib.hid hm2; clear hn2 hm2))
  have hr2 := (HM2.out.block R HRL.out HRO.out).trans HR1.out
  have HR2 := Lib.hid hr2
  have HRO2 := Lib.hid (show ¬ netO g v2 R from fun e => (HM2.out.own R e).elim HRO.out (fun e2 => by have := HRL.out; omega))
  have HMW := Lib.hid (HMV.out w2 v2 HM2.out)
  have HT2 := Lib.hid HN2.out.table
  have HFIN := Lib.hid (fun (W : World) (cs : Array Value) (hB : Below w2.heap.size w2 W) => And.intro ((HN2.out.below hB).other HRO2.out cs) (((HMW.out).trans (Moves.of_below hB)).setRowNew HRW.out cs))
  have HRR := Lib.hid (fun (W : World) (hB : Below w2.heap.size w2 W) => (hB.block R (Array.getElem?_eq_some_iff.1 hr2).1).trans hr2)
  clear hr2 c0 c2 HMV HM2 HN2 HH HD
  cases on with
  | true =>
    go_wp2_with (first
      | (refine wpList_load_midW rfl 28 _ rfl g 0 rfl tab.toList _ HT2.out Try.underlying28 rfl tabSizeL ?_; dsimp only [Act.put])
      | (go_at_call 24; (with_reducible refine (HNW.out _).mono ?_); rintro e w3 ⟨rfl, hs3, hb3⟩; have HS3 := Lib.hid hs3; have HB3 := Lib.hid hb3; clear hs3 hb3)
      | (go_at_call 25; (with_reducible refine (HFE.out _ w2.heap.size _ (by omega) HS3.out).mono ?_); rintro e w4 ⟨rfl, hf4, hb4⟩; have HF4 := Lib.hid hf4; have HB4 := Lib.hid (HB3.out.trans hb4); clear hf4 hb4)
      | (go_at_call 26; (with_reducible refine (HNX.out _ w2.heap.size _ HF4.out HB4.out.size).mono ?_); rintro e w5 ⟨rfl, hb5⟩; have HB5 := Lib.hid (HB4.out.trans hb5); have HRR5 := Lib.hid (HRR.out _ HB5.out); clear hb5)
      | (refine wpList_store_row rfl 38 _ _ rfl R #[.int .i64 0, .int .i64 0, .int .i64 0, .int .i64 0, .int .i64 0, .int .i64 0, .int .u64 0, .int .u64 0, .string ⟨#[]⟩, .bool false, .int .u64 0, .bool false, .string ⟨#[]⟩, .slice none 0 0, .string ⟨#[]⟩, .int .u64 0, .int .u64 0] rfl rfl 38 _ HRR5.out msg_size rfl zero_one ?_))
    refine bodyPost_ret (msg_ret (setRow_heap _ _ _ _ _ _ HRR5.out) rfl rfl rfl rfl) rfl ?_
    exact ⟨v2, .slice none 0 0, rfl, WsAt.nil _, (HFIN.out w5 _ HB5.out).1, (HFIN.out w5 _ HB5.out).2⟩
  | false =>
    go_upto_region 10 with (first
      | (refine wpList_load_midW rfl 28 _ rfl g 0 rfl tab.toList _ HT2.out Try.underlying28 rfl tabSizeL ?_; dsimp only [Act.put])
      | (go_at_call 24; (with_reducible refine (HNW.out _).mono ?_); rintro e w3 ⟨rfl, hs3, hb3⟩; have HS3 := Lib.hid hs3; have HB3 := Lib.hid hb3; clear hs3 hb3)
      | (go_at_call 25; (with_reducible refine (HFE.out _ w2.heap.size _ (by omega) HS3.out).mono ?_); rintro e w4 ⟨rfl, hf4, hb4⟩; have HF4 := Lib.hid hf4; have HB4 := Lib.hid (HB3.out.trans hb4); clear hf4 hb4)
      | (go_at_call 26; (with_reducible refine (HNX.out _ w2.heap.size _ HF4.out HB4.out.size).mono ?_); rintro e w5 ⟨rfl, hb5⟩; have HB5 := Lib.hid (HB4.out.trans hb5); clear hb5))
    have HRR5 := Lib.hid (HRR.out _ HB5.out)
    clear HNW HFE HNX HT2
    obtain ⟨Z, hZ⟩ : ∃ Z : Array Value, Z = #[.int .i64 0, .int .i64 0, .int .i64 0, .int .i64 0, .int .i64 0, .int .i64 0, .int .u64 0, .int .u64 0, .string ⟨#[]⟩, .bool false, .int .u64 0, .bool false, .string ⟨#[]⟩, .slice none 0 0, .string ⟨#[]⟩, .int .u64 0, .int .u64 0] := ⟨_, rfl⟩
    have HZ := Lib.hid hZ
    have hZ1 : Z.size = 17 := by rw [hZ]; rfl
    have hZ2 : Z.all (·.oneCell') = true := by rw [hZ]; exact zero_one
    clear hZ
    have HDE2 : Hid (∀ W, Calls Try.prog 27 #[.int .i64 ver, .string P] W fun e w' => ∃ C : Array Value, C.size = 17 ∧ C.all (·.oneCell') = true ∧ e = .returned (.tuple #[.agg C, .int .i64 (L : Int), .int .i64 E]) ∧ Hid (∃ sl, C = M.cells sl ∧ WsAt w' sl M.ws) ∧ Below W.heap.size W w') := Lib.hid (fun W => (HDE.out W).mono fun e w' h => by
      obtain ⟨sl, h1, h2, h3⟩ := h
      refine ⟨M.cells sl, rfl, ?_, h1, Lib.hid ⟨sl, rfl, h2⟩, h3⟩
      obtain ⟨a, n, c, rfl, _⟩ := h2
      simp [Mg.cells, Value.oneCell'])
    clear HDE
    go_upto_region 11 with (first
      | (go_at_call 27; (with_reducible refine (HDE2.out _).mono ?_); rintro e w6 ⟨C, hC1, hC2, rfl, hC3, hb6⟩; have HC := Lib.hid hC3; have HB6 := Lib.hid (HB5.out.trans (hb6.mono HB5.out.size)); have HC1 := Lib.hid hC1; have HC2 := Lib.hid hC2; have hr6 := heap_alloc_new w6 (.cells Z 38); have HR6 := Lib.hid hr6; have hs17 : (Try.prog.info? 38).map (·.size) = some C.size := (by rw [hC1]; exact msg_size); have HS17 := Lib.hid hs17; clear hb6 hC3 hC1 hC2 hr6 hs17)
      | (refine wpList_store_row rfl 38 _ _ rfl w6.heap.size C rfl rfl 38 Z (by rw [HZ.out]; rw [HZ.out] at HR6; exact HR6.out) HS17.out (by rw [HC1.out, hZ1]) HC2.out ?_; dsimp only [Act.put]))
    rw [← HZ.out]
    have hb7 : Below w6.heap.size w6 ((w6.alloc (.cells Z 38)).setRow w6.heap.size C) := below_setRow ((Below.refl _ _).alloc (Nat.le_refl _) _) (Nat.le_refl _) C
    have hr7 : ((w6.alloc (.cells Z 38)).setRow w6.heap.size C).heap[w6.heap.size]? = some (.cells C 38 (0, 0)) := setRow_heap _ _ _ _ _ _ HR6.out
    obtain ⟨w7, hw7⟩ : ∃ w7, w7 = (w6.alloc (.cells Z 38)).setRow w6.heap.size C := ⟨_, rfl⟩
    rw [← hw7] at hb7 hr7
    rw [← hw7]
    have HB7 := Lib.hid (HB6.out.trans (hb7.mono HB6.out.size))
    have HC7 := Lib.hid (show ∃ sl, C = M.cells sl ∧ WsAt w7 sl M.ws from by obtain ⟨sl, h1, h2⟩ := HC.out; exact ⟨sl, h1, h2.below hb7⟩)
    have HR7 := Lib.hid hr7
    have HRR7 := Lib.hid (HRR.out _ HB7.out)
    have hne : w6.heap.size ≠ R := by have h1 := HB6.out.size; have h2 := HRR.out _ (Below.refl _ _); have h3 := (Array.getElem?_eq_some_iff.1 h2).1; omega
    have HNE := Lib.hid hne
    clear hw7 hb7 hr7 hne HB6 HC HR6 HRR5 HB5 HDE2
    rw [← HZ.out] at HRR7
    obtain ⟨D, hD⟩ : ∃ D, D = w6.heap.size := ⟨_, rfl⟩
    rw [← hD] at HR7 HNE ⊢
    clear hD
    go_wp2_with (first
      | (refine wpList_load_row rfl 38 _ rfl D rfl 38 C (0, 0) _ HR7.out Try.underlying38 rfl HS17.out ?_; dsimp only [Act.put])
      | (refine wpList_store_row rfl 38 _ _ rfl R C rfl rfl 38 Z HRR7.out HS17.out (by rw [HC1.out, hZ1]) HC2.out ?_; dsimp only [Act.put]))
    refine bodyPost_ret (msg_ret (setRow_heap _ _ _ _ _ _ HRR7.out) HC1.out rfl rfl rfl) rfl ?_
    obtain ⟨sl, h1, h2⟩ := HC7.out
    have hE : (E == 0) = decide (E = 0) := by by_cases h : E = 0 <;> simp [h]
    refine ⟨v2, sl, by rw [h1]; first | rfl | (rw [hE]; rfl) | (simp [hE]), ?_, (HFIN.out w7 C HB7.out).1, (HFIN.out w7 C HB7.out).2⟩
    exact h2.other_zero (by have h3 := HRR7.out; rw [HZ.out] at h3; exact h3) C
end Go.Proofs.Ytbhlgceicfjncaa
