/-
  Joined: MvcPInst, MvcProgram, PrtProgram, OpenOqs.
-/
import Derived.Test.YthcomfcbdlobpaaSet49
import Derived.RegionTactic
import Derived.Deep.RegionWith
import Derived.Deep.DeepCutAuto
import Derived.Deep.CutBlock
import Derived.Test.YthcomfcbdlobpaaSet37
import Derived.Test.YthcomfcbdlobpaaSet43
import Derived.Test.YthcomfcbdlobpaaSet46
import Derived.Test.YthcomfcbdlobpaaSet16
import Derived.OpenShut
import Derived.Deep.Slices
import Derived.Deep.Strs
namespace Go.Proofs.Ythcomfcbdlobpaa
open Go.RowKit
set_option linter.unusedVariables false
set_option linter.unnecessarySimpa false
set_option linter.unusedSimpArgs false
set_option maxRecDepth 100000

/-- What Install tells. -/
def InsAns (w : World) (O : Nat → Prop) (r : Addr) (N : List Im × Nat) (e : Ending) (w' : World) : Prop := ∃ O', e = .returned (.int .i64 (N.2 : Int)) ∧ StAt w' r N.1 O' ∧ Moves O O' w w'
theorem insAns_no {w w' : World} {O : Nat → Prop} {r : Addr} {L : List Im} {k : Nat} {N : List Im × Nat} {z : Int} (h : StAt w r L O) (hb : Below w.heap.size w w') (hN : N = (L, k)) (hz : z = (k : Int)) : InsAns w O r N (.returned (.int .i64 z)) w' := by
  subst hN hz
  exact ⟨O, rfl, h.stay fun k hk => hb.block k (h.lt k hk), Moves.of_below hb⟩

set_option maxHeartbeats 4000000 in
theorem sinstall_any {w : World} {r : Addr} {L : List Im} {O : Nat → Prop} (h : StAt w r L O) (m : Im) (hl : L.length ≤ 1000) (h1 : m.key.size ≤ maxLen) (h2 : m.v.val.size ≤ maxLen) (h3 : m.v.time < 18446744073709551616) :
    Calls Try.prog 16 #[.pointer (some r), .string m.key, .agg #[.int .u64 (m.v.time : Int), .bool m.v.gone, .string m.v.val]] w (InsAns w O r (insM L m)) := by
  have hb0 := (Below.refl w.heap.size w).alloc (Nat.le_refl _) (.cells #[.int .u64 (m.v.time : Int), .bool m.v.gone, .string m.v.val] 42)
  have hr0 := heap_alloc_new w (.cells #[.int .u64 (m.v.time : Int), .bool m.v.gone, .string m.v.val] 42)
  obtain ⟨w1, hw1⟩ : ∃ w1, w1 = w.alloc (.cells #[.int .u64 (m.v.time : Int), .bool m.v.gone, .string m.v.val] 42) := ⟨_, rfl⟩
  rw [← hw1] at hb0 hr0
  obtain ⟨P, hP⟩ : ∃ P, P = w.heap.size := ⟨_, rfl⟩
  rw [← hP] at hr0
  have hPl : P < w1.heap.size := (Array.getElem?_eq_some_iff.1 hr0).1
  have HB1 := Lib.hid hb0
  have HBX := Lib.hid (fun W (hb : Below w1.heap.size w1 W) => hb0.trans (hb.mono hb0.size))
  have HR := Lib.hid (fun W (hb : Below w1.heap.size w1 W) => cells3 ((hb.block P hPl).trans hr0))
  have HST := Lib.hid (fun W (hb : Below w1.heap.size w1 W) => h.stay (w' := W) fun k hk => (hb0.trans (hb.mono hb0.size)).block k (h.lt k hk))
  have HTL := Lib.hid (fun W => tooLong_any m.key m.v.val (m.v.time : Int) m.v.gone W h1 h2)
  have HLA := Lib.hid (fun W (hb : Below w1.heap.size w1 W) => slast_any (HST.out W hb) m.key h1)
  have HRO := Lib.hid (fun W (hb : Below w1.heap.size w1 W) => sroom_any (HST.out W hb) m.key h1)
  have hN : insM L m = if (decide (100 < m.key.size) || decide (500 < m.v.val.size)) then (L, 3) else if badIm m then (L, 1) else if m.v.time ≤ (lastOf m.key L).1 then (L, 8) else if 200 ≤ (lastOf m.key L).2 then (L, 11) else (L ++ [m], 0) := rfl
  have HNO := Lib.hid (fun W k (z : Int) (hb : Below w1.heap.size w1 W) (hN : insM L m = (L, k)) (hz : z = (k : Int)) => insAns_no h (HBX.out W hb) hN hz)
  have HYES := Lib.hid (show ∀ W, Below w1.heap.size w1 W → m.key.size ≤ 100 → m.v.val.size ≤ 500 → insM L m = (L ++ [m], 0) →
      Calls Try.prog 36 #[.pointer (some r), .string m.key, .agg #[.int .u64 (m.v.time : Int), .bool m.v.gone, .string m.v.val]] W fun e w' => e = .returned (.tuple #[]) ∧ Hid (InsAns w O r (insM L m) (.returned (.int .i64 0)) w') from fun W hb q1 q2 hI => by
    obtain ⟨b, a, n, c, l, hS, ha, hg, rfl⟩ := h
    have hS2 := hS.below (HBX.out W hb)
    have hn : n < 100000 := by
      have h4 := acc_len ha
      have h5 := keys_len L
      rw [entsM_len, hS.len] at h4
      omega
    refine (add_any hS2 ha hg m hn q1 q2).mono fun e w' hA => ?_
    obtain ⟨he, a', n', c', l', k1, k2, k3⟩ := hA
    refine ⟨he, Lib.hid ⟨stO b a' n' c' l', by rw [hI]; rfl, ⟨b, a', n', c', l', k1, by rw [hI]; exact k2, good_ins hg h3, rfl⟩, (Moves.of_below (HBX.out W hb)).trans k3⟩⟩)
  obtain ⟨tl, htl⟩ : ∃ tl, tl = (decide (100 < m.key.size) || decide (500 < m.v.val.size)) := ⟨_, rfl⟩
  have hsm : tl = false → m.key.size ≤ 100 ∧ m.v.val.size ≤ 500 := fun h => by
    rw [h] at htl
    have := htl.symm
    simp only [Bool.or_eq_false_iff, decide_eq_false_iff_not] at this
    omega
  rw [← htl] at HTL hN
  obtain ⟨z1, hz1⟩ : ∃ z1, z1 = (lastOf m.key L).1 := ⟨_, rfl⟩
  obtain ⟨z2, hz2⟩ : ∃ z2, z2 = (lastOf m.key L).2 := ⟨_, rfl⟩
  rw [← hz1] at HLA hN
  rw [← hz2] at HRO hN
  have hbad : badIm m = (m.v.time == 0 || (m.v.gone && !m.v.val.toList.isEmpty)) := rfl
  rw [hbad] at hN
  obtain ⟨N, hNN⟩ : ∃ N, N = insM L m := ⟨_, rfl⟩
  rw [← hNN] at HNO HYES hN ⊢
  obtain ⟨K, T, G, V⟩ := m
  simp only at *
  have HN := Lib.hid hN
  have HSM := Lib.hid hsm
  clear hb0 hr0 hPl HST hN hsm h htl hz1 hz2 hbad hNN
  have hB := Below.refl w1.heap.size w1
  cases tl with
  | true =>
    have HE := Lib.hid (show N = (L, 3) from by rw [HN.out, if_pos rfl])
    obtain ⟨c0, c1, c2⟩ := HR.out w1 hB
    clear HN HYES HLA HRO HSM hB
    go_enter Try.func16, Try.ntmps16
    go_upto_region 1 with fail
    rw [← hw1, ← hP]
    clear hw1 hP
    go_wp2_with (go_at_call 35; (with_reducible refine (HTL.out _).mono ?_); rintro e w2 ⟨rfl, hb2⟩; have HB2 := Lib.hid hb2; clear hb2)
    go_ret
    exact HNO.out _ 3 _ HB2.out HE.out rfl
  | false =>
    obtain ⟨t0, ht0⟩ : ∃ t0, t0 = (T == 0) := ⟨_, rfl⟩
    obtain ⟨ve, hve⟩ : ∃ ve, ve = V.toList.isEmpty := ⟨_, rfl⟩
    obtain ⟨bd, hbd⟩ : ∃ bd, bd = (t0 || G && !ve) := ⟨_, rfl⟩
    have hNb := HN.out
    rw [if_neg (by simp), ← ht0, ← hve, ← hbd] at hNb
    have HN2 := Lib.hid hNb
    have htz : ((T : Int) == 0) = t0 := by rw [ht0, Bool.eq_iff_iff]; simp
    have hvz := hve.symm
    obtain ⟨c0, c1, c2⟩ := HR.out w1 hB
    have HBD := Lib.hid hbd
    clear HN hNb ht0 hve hbd hB
    go_enter Try.func16, Try.ntmps16
    go_upto_region 1 with fail
    rw [← hw1, ← hP]
    clear hw1 hP
    go_upto_region 3 with (go_at_call 35; (with_reducible refine (HTL.out _).mono ?_); rintro e w2 ⟨rfl, hb2⟩; have HB2 := Lib.hid hb2; clear hb2)
    clear HTL c0 c1 c2
    obtain ⟨c0, c1, c2⟩ := HR.out w2 HB2.out
    go_cut [21] (fun s21 wc => s21 = .bool bd ∧ w2 = wc)
    case first =>
      have hq := HBD.out
      clear HBD HN2 HNO HYES HLA HRO HSM HR HBX HB1 HB2
      cases t0 <;> cases G <;> cases ve <;> subst hq
      all_goals
        go_wp2_with fail
        go_meet
        case rel => exact ⟨rfl, rfl⟩
    case rest =>
      obtain ⟨rfl, rfl⟩ := hcut
      clear htz hvz HBD
      cases bd with
      | true =>
        have HE := Lib.hid (show N = (L, 1) from by rw [HN2.out, if_pos rfl])
        clear HN2 HYES HLA HRO HSM
        go_wp2_with fail
        go_ret
        exact HNO.out _ 1 _ HB2.out HE.out rfl
      | false =>
        have hNb := HN2.out
        rw [if_neg (by simp)] at hNb
        have HN3 := Lib.hid hNb
        have HL2 := Lib.hid (HLA.out _ (HB2.out.trans (Below.refl _ _).drew))
        clear HN2 hNb
        go_upto_region 5 with fail
        go_cut [27] (fun s27 wc => s27 = .bool (decide (T ≤ z1)) ∧ Hid (Below w1.heap.size w1 wc))
        case first =>
          have HB2d := Lib.hid (fun w' (hb : Below w2.drew.heap.size w2.drew w') => HB2.out.trans ((show Below w2.heap.size w2 w' from undrewM hb).mono HB2.out.size))
          have HR3 := Lib.hid (fun w' (hb : Below w2.drew.heap.size w2.drew w') => HR.out w' (HB2d.out w' hb))
          clear HN3 HYES HRO HSM HR HNO HBX HB1
          go_region_with (go_at_call 25; (with_reducible refine HL2.out.mono ?_); rintro e w3 ⟨rfl, hb3⟩; have HB3 := Lib.hid (HB2d.out w3 hb3); obtain ⟨d0, d1, d2⟩ := HR3.out w3 hb3; clear hb3)
          all_goals
            go_wp2_with fail
            go_meet
            case rel => exact ⟨by first | rfl | simp, HB3⟩
        case rest =>
          obtain ⟨rfl, HB3⟩ := hcut
          clear c0 c1 c2 HL2 HLA HB2
          by_cases hlt : T ≤ z1
          · have HE := Lib.hid (show N = (L, 8) from by rw [HN3.out, if_pos hlt])
            rw [decide_eq_true hlt]
            clear HN3 HYES HRO HSM HR hlt
            go_wp2_with fail
            go_ret
            exact HNO.out _ 8 _ HB3.out HE.out rfl
          · have hNb := HN3.out
            rw [if_neg hlt] at hNb
            rw [decide_eq_false hlt]
            have HN4 := Lib.hid hNb
            have HRx := Lib.hid (HRO.out _ HB3.out)
            clear HN3 hNb hlt
            by_cases h2 : z2 < 200
            · have HE := Lib.hid (show N = (L ++ [⟨K, ⟨T, G, V⟩⟩], 0) from by rw [HN4.out, if_neg (by omega)])
              rw [decide_eq_true h2] at HRx
              clear HN4 h2 HRO
              go_upto_region 9 with (go_at_call 27; (with_reducible refine HRx.out.mono ?_); rintro e w4 ⟨rfl, hb4⟩; have HB4 := Lib.hid (HB3.out.trans (hb4.mono HB3.out.size)); clear hb4)
              obtain ⟨c0, c1, c2⟩ := HR.out _ HB4.out
              have HAD := Lib.hid (HYES.out _ HB4.out (HSM.out (by trivial)).1 (HSM.out (by trivial)).2 HE.out)
              clear HR HYES HSM HNO HBX HB1 HRx
              go_wp2_with (go_at_call 36; (with_reducible refine HAD.out.mono ?_); rintro e w5 ⟨rfl, hA5⟩)
              go_ret
              exact hA5.out
            · have HE := Lib.hid (show N = (L, 11) from by rw [HN4.out, if_pos (by omega)])
              rw [decide_eq_false h2] at HRx
              clear HN4 h2 HRO HYES HSM HR
              go_wp2_with (go_at_call 27; (with_reducible refine HRx.out.mono ?_); rintro e w4 ⟨rfl, hb4⟩; have HB4 := Lib.hid (HB3.out.trans (hb4.mono HB3.out.size)); clear hb4)
              go_ret
              exact HNO.out _ 11 _ HB4.out HE.out rfl
end Go.Proofs.Ythcomfcbdlobpaa

namespace Go.Proofs.Ythcomfcbdlobpaa
open Go.RowKit
set_option linter.unusedVariables false
set_option linter.unnecessarySimpa false
set_option linter.unusedSimpArgs false
set_option maxRecDepth 100000

noncomputable def mvc : MvcC where
  At := StAt
  lt h := h.lt
  stay h hk := h.stay hk
  new := snew_any
  install h m h1 h2 h3 h4 := (sinstall_any h m h1 h2 h3 h4).mono fun e w' ⟨O', q1, q2, q3⟩ => ⟨O', q1, q2, q3⟩
  at_ h key t h1 h2 := sat_any h key t h1 h2
  last h key h1 := slast_any h key h1
  room h key h1 := sroom_any h key h1
noncomputable def mvcD : MvcD where
  toMvcC := mvc
end Go.Proofs.Ythcomfcbdlobpaa

namespace Go.Proofs.Ythcomfcbdlobpaa
open Go.RowKit Go.Maps
set_option linter.unusedVariables false
set_option linter.unnecessarySimpa false
set_option linter.unusedSimpArgs false
set_option maxRecDepth 100000

theorem lt_same {w w' : World} {k : Nat} (h : w'.heap[k]? = w.heap[k]?) (hk : k < w.heap.size) : k < w'.heap.size := by
  rw [Array.getElem?_eq_getElem hk] at h
  exact (Array.getElem?_eq_some_iff.1 h).1
theorem IsWqs.sameC {w w' : World} {a : Option Addr} {n c : Nat} {ws : List Wq} (h : IsWqs w a n c ws) (hb : ∀ p : Addr, a = some p → w'.heap[p.block]? = w.heap[p.block]?) : IsWqs w' a n c ws := by
  refine ⟨h.1, h.2.1, h.2.2.1, fun i hi => ?_⟩
  obtain ⟨b, off, ha, q1, q2, q3, q4, q5, q6⟩ := h.2.2.2 i hi
  have hbk := hb _ ha
  exact ⟨b, off, ha, lt_same hbk q1, q2, q3, by rw [World.cell?, hbk]; exact q4, by rw [World.cell?, hbk]; exact q5, by rw [World.cell?, hbk]; exact q6⟩
theorem PtM.stay2 {M : MvcC} {w w' : World} {r rs : Addr} {b : Nat} {mp ml : Option Nat} {S : List Im} {P : List Pd} {OS R : Nat → Prop} (h : PtM M w r rs b mp ml S P OS R) (hk : ∀ k, ptO b mp ml OS R k → w'.heap[k]? = w.heap[k]?) : PtM M w' r rs b mp ml S P OS R := by
  refine ⟨h.ptr, (hk b (.inl rfl)).trans h.box, M.stay h.store fun k hk' => hk k (.inr (.inr (.inl hk'))), ?_, h.good, fun k hk' => lt_same (hk k (.inr (.inr (.inr hk')))) (h.rlt k hk'), h.ob, h.om, h.orr⟩
  rcases h.maps with h1 | ⟨m, k, e1, e2, h1, ⟨D, d1, d2, d3⟩, h3⟩
  · exact .inl h1
  · refine .inr ⟨m, k, e1, e2, h1, ⟨D, own_map_same d1 (hk m (.inr (.inl (.inl e1)))), d2, fun p hp => ?_⟩, MapL.same h3 (hk k (.inr (.inl (.inr e2))))⟩
    obtain ⟨a, n, c, q1, q2, q3⟩ := d3 p hp
    exact ⟨a, n, c, q1, q2.sameC (fun p hp => hk _ (.inr (.inr (.inr (q3 p hp))))), q3⟩
theorem out_at {M : MvcC} {w w' : World} {r rs : Addr} {b : Nat} {mp ml : Option Nat} {S' : List Im} {P' : List Pd} {OS R O : Nat → Prop} (hO : O = ptO b mp ml OS R) (h : PtOut M w r rs b mp ml S' P' OS R w') : ∃ O', PtAt M w' r rs S' P' O' ∧ Moves O O' w w' := by
  obtain ⟨mp', ml', OS', R', h1, h2⟩ := h
  subst hO
  exact ⟨_, ⟨b, mp', ml', OS', R', h1, rfl⟩, h2⟩

noncomputable def prt : PrtC where
  M := mvc
  At := PtAt mvc
  lt h := by
    obtain ⟨b, mp, ml, OS, R, h, rfl⟩ := h
    exact h.lt
  stay h hk := by
    obtain ⟨b, mp, ml, OS, R, h, rfl⟩ := h
    exact ⟨b, mp, ml, OS, R, h.stay2 hk, rfl⟩
  new h := gnew_any h
  read h key t h1 h2 := by
    obtain ⟨b, mp, ml, OS, R, h, rfl⟩ := h
    exact gread_any h key t h1 h2
  may h t start a n c ws h0 h1 h2 h3 _ := by
    obtain ⟨b, mp, ml, OS, R, h, rfl⟩ := h
    exact gmay_any h t h0 start a n c ws h1 h3
  prepare h p h0 h1 h2 h3 _ h5 := by
    obtain ⟨b, mp, ml, OS, R, h, rfl⟩ := h
    refine (gprepare_any h p h0 h1 h2 h3 h5).mono fun e w' ⟨he, ho⟩ => ?_
    obtain ⟨O', k1, k2⟩ := out_at rfl ho
    exact ⟨O', he, k1, k2⟩
  prepared h t h0 := by
    obtain ⟨b, mp, ml, OS, R, h, rfl⟩ := h
    exact gprep_any h t h0
  commit h t time h0 h1 h2 _ _ := by
    obtain ⟨b, mp, ml, OS, R, h, rfl⟩ := h
    refine (gcommit_any h t time h0 h1 h2).mono fun e w' ⟨he, ho⟩ => ?_
    obtain ⟨O', k1, k2⟩ := out_at rfl ho
    exact ⟨O', he, k1, k2⟩
  abort h t h0 _ := by
    obtain ⟨b, mp, ml, OS, R, h, rfl⟩ := h
    refine (gabort_any h t h0).mono fun e w' ⟨he, ho⟩ => ?_
    obtain ⟨O', k1, k2⟩ := out_at rfl ho
    exact ⟨O', he, k1, k2⟩
  all h h1 := by
    obtain ⟨b, mp, ml, OS, R, h, rfl⟩ := h
    exact gall_any h h1
  store h := by
    obtain ⟨b, mp, ml, OS, R, h, rfl⟩ := h
    exact (gstore_any h).mono fun e w' ⟨he, hw⟩ => ⟨he, by rw [← hw]; exact Below.refl _ _⟩
  install h m h1 h2 h3 h4 := by
    obtain ⟨b, mp, ml, OS, R, h, rfl⟩ := h
    refine (mvc.install h.store m h1 h2 h3 h4).mono fun e w' ⟨O', he, q1, q2⟩ => ?_
    obtain ⟨g1, g2⟩ := h.ins q1 q2
    exact ⟨_, he, ⟨b, mp, ml, O', R, g1, rfl⟩, g2⟩
end Go.Proofs.Ythcomfcbdlobpaa

namespace Go.Proofs.Ythcomfcbdlobpaa
open Go.RowKit Go.ChangeShapes Go.WideShapes Go.Deep
set_option linter.unnecessarySimpa false
set_option linter.unusedVariables false
set_option linter.unusedSimpArgs false
set_option maxRecDepth 100000

theorem w_cells : Try.prog.cellsOf 51 = 3 := by kernel_rfl
theorem w_tn_cells : Try.prog.cellsOf 36 = 3 := by kernel_rfl
theorem w_oq_cells : Try.prog.cellsOf 40 = 7 := by kernel_rfl
theorem w_ws_cells : Try.prog.cellsOf 38 = 1 := by kernel_rfl
theorem w_u8_cells : Try.prog.cellsOf 5 = 1 := by kernel_rfl
theorem w_int_cells : Try.prog.cellsOf 3 = 1 := by kernel_rfl
theorem w_cut3 {cs : List Value} {x y z : Value} (hl : cs.length = 3) (h0 : (cs.drop 0).take 1 = [x]) (h1 : (cs.drop 1).take 1 = [y]) (h2 : (cs.drop 2).take 1 = [z]) : cs = [x, y, z] := by
  match cs, hl with
  | [_, _, _], _ => simp at h0 h1 h2; rw [h0, h1, h2]
theorem w_cut7 {cs : List Value} {k x y z s t l : Value} (hl : cs.length = 7) (h0 : (cs.drop 0).take 1 = [k]) (h1 : (cs.drop 1).take 3 = [x, y, z]) (h2 : (cs.drop 4).take 1 = [s]) (h3 : (cs.drop 5).take 1 = [t]) (h4 : (cs.drop 6).take 1 = [l]) : cs = [k, x, y, z, s, t, l] := by
  match cs, hl with
  | [_, _, _, _, _, _, _], _ => simp at h0 h1 h2 h3 h4; rw [h0, h1.1, h1.2.1, h1.2.2, h2, h3, h4]
section
variable {H : Type} {enc : TypeId × Value → H} {W : World}
theorem wq_open {fuel : Nat} {cs : List Value} {x : DataW H × List MemPlace} (h : DataW.trod enc Try.prog W 0 (fun _ => true) true fuel 51 cs = some x) : ∃ m : Wq, (m.key.size ≤ maxLen ∧ m.val.size ≤ maxLen) ∧ cs = [.string m.key, .bool m.gone, .string m.val] := by
  obtain ⟨z0, z1, z2, n2, _, hl2, f0, f1, f2⟩ := trod_struct3 Try.underlying51 h
  simp only [v_str_cells, v_bool_cells] at f0 f1 f2
  rw [w_cells] at hl2
  obtain ⟨k, d0, _, hk⟩ := DataW.trod_string Try.underlying9 f0
  obtain ⟨g, d1, _⟩ := DataW.trod_bool Try.underlying4 f1
  obtain ⟨v, d2, _, hv⟩ := DataW.trod_string Try.underlying9 f2
  exact ⟨⟨k, g, v⟩, ⟨hk, hv⟩, w_cut3 hl2 d0 d1 d2⟩
theorem wqs_open {fuel : Nat} {cs : List Value} {x : DataW H × List MemPlace} (h : DataW.trod enc Try.prog W 0 (fun _ => true) true fuel 38 cs = some x) :
    ∃ a len cap L, cs = [.slice a len cap] ∧ IsWqs W a len cap L := by
  rcases open_slice Try.underlying38 h with ⟨rfl, _⟩ | ⟨a', len, cap, m, n, D, Pl, rfl, _, hl, hm, hmm, _, hi⟩
  · exact ⟨none, 0, 0, [], rfl, rfl, Nat.zero_le _, Nat.le_refl _, fun i hi => by omega⟩
  · simp only [if_true] at hmm
    have key : ∀ i, ∃ z : Wq, i < len → ∃ b off, some a' = some ⟨b, off, none⟩ ∧ WqAt W b (off + i * 3) z := by
      intro i
      by_cases hil : i < len
      · obtain ⟨cs', hc, ht⟩ := hi i (by omega)
        rw [w_cells] at hc
        obtain ⟨_, hcl, hat⟩ := World.cells?_some hc
        obtain ⟨z, hz, rfl⟩ := wq_open ht
        have q0 := hat 0 (by omega)
        have q1 := hat 1 (by omega)
        have q2 := hat 2 (by omega)
        simp only [List.getElem?_cons_zero, List.getElem?_cons_succ] at q0 q1 q2
        obtain ⟨b, off, spot⟩ := a'
        obtain ⟨cs0, hc0, _⟩ := hi 0 (by omega)
        rw [w_cells] at hc0
        obtain ⟨_, hcl0, hat0⟩ := World.cells?_some hc0
        have q00 := hat0 0 (by omega)
        rw [List.getElem?_eq_getElem (show 0 < cs0.length by omega)] at q00
        have hspot : spot = none := by simpa [Addr.add] using World.cell?_spot q00
        subst hspot
        simp only [Addr.add_lit, Nat.add_zero] at q0 q1 q2
        exact ⟨z, fun _ => ⟨b, off, rfl, World.block_lt_of_cell? W _ q0, hz.1, hz.2, q0, q1, q2⟩⟩
      · exact ⟨wq0, fun h => absurd h hil⟩
    obtain ⟨f, hfz⟩ := Classical.skolem.1 key
    refine ⟨some a', len, cap, (List.range len).map f, rfl, by simp, by omega, hl, fun i hil => ?_⟩
    have e : ((List.range len).map f).getD i wq0 = f i := by simp [List.getD, hil]
    rw [e]
    exact hfz i hil
def Oq.cells (o : Oq) : List Value := [.int .u8 (o.kind : Int), .int .i64 o.t.node, .int .i64 o.t.life, .int .i64 o.t.seq, .string o.key, .int .u64 (o.time : Int), .slice o.a o.n o.c]
theorem oq_open {fuel : Nat} {cs : List Value} {x : DataW H × List MemPlace} (h : DataW.trod enc Try.prog W 0 (fun _ => true) true fuel 40 cs = some x) : ∃ o : Oq, (o.key.size ≤ maxLen ∧ o.small ∧ o.time < 18446744073709551616 ∧ IsWqs W o.a o.n o.c o.w) ∧ cs = o.cells := by
  obtain ⟨xs, n, _, rfl, hl, hlen, hf⟩ := DataW.trod_struct Try.underlying40 h
  rw [w_oq_cells] at hl
  match xs, hlen with
  | [y0, y1, y2, y3, y4], _ =>
    have g0 := hf 0 _ rfl
    have g1 := hf 1 _ rfl
    have g2 := hf 2 _ rfl
    have g3 := hf 3 _ rfl
    have g4 := hf 4 _ rfl
    simp only [v_str_cells, v_u64_cells, w_tn_cells, w_ws_cells, w_u8_cells, List.getElem?_cons_zero, List.getElem?_cons_succ] at g0 g1 g2 g3 g4
    obtain ⟨k, e0, _, w0⟩ := DataW.trod_int Try.underlying5 g0
    obtain ⟨z0, z1, z2, n2, _, hl2, f0, f1, f2⟩ := trod_struct3 Try.underlying36 g1
    simp only [w_int_cells] at f0 f1 f2
    rw [w_tn_cells] at hl2
    obtain ⟨tn, d0, _, wt0⟩ := DataW.trod_int Try.underlying3 f0
    obtain ⟨tl, d1, _, wt1⟩ := DataW.trod_int Try.underlying3 f1
    obtain ⟨ts, d2, _, wt2⟩ := DataW.trod_int Try.underlying3 f2
    obtain ⟨key, e2, _, w2⟩ := DataW.trod_string Try.underlying9 g2
    obtain ⟨time, e3, _, w3⟩ := DataW.trod_int Try.underlying37 g3
    obtain ⟨a, len, cap, L, e4, hw⟩ := wqs_open g4
    have b0 := bounds_u8 w0
    have b3 := bounds_u64 w3
    obtain ⟨k, rfl⟩ := Int.eq_ofNat_of_zero_le b0.1
    obtain ⟨t, rfl⟩ := Int.eq_ofNat_of_zero_le b3.1
    exact ⟨⟨k, ⟨tn, tl, ts⟩, key, t, a, len, cap, L⟩, ⟨w2, ⟨by show k < 256; omega, wt0, wt1, wt2⟩, by show t < _; omega, hw⟩, w_cut7 hl e0 (w_cut3 hl2 d0 d1 d2) e2 e3 e4⟩
theorem open_IsOqs {a : Option Addr} {len cap : Nat} {d : DataW H} {p : List MemPlace}
    (h : DataW.Trod enc Try.prog W 0 (fun _ => true) true 22 (.slice a len cap) d p) : ∃ L, IsOqs W a len cap L := by
  obtain ⟨fuel, hf⟩ := h
  rcases open_slice Try.underlying22 hf with ⟨hcs, _⟩ | ⟨a', len', cap', m, n, D, Pl, hcs, _, hl, hm, hmm, _, hi⟩
  · simp [Value.cells] at hcs
    obtain ⟨rfl, rfl, rfl⟩ := hcs
    exact ⟨[], rfl, Nat.zero_le _, Nat.le_refl _, fun i hi => by omega⟩
  · simp [Value.cells] at hcs
    obtain ⟨rfl, rfl, rfl⟩ := hcs
    simp only [if_true] at hmm
    have key : ∀ i, ∃ z : Oq, i < len → ∃ b off, some a' = some ⟨b, off, none⟩ ∧ OqAt W b (off + i * 7) z := by
      intro i
      by_cases hil : i < len
      · obtain ⟨cs', hc, ht⟩ := hi i (by omega)
        rw [w_oq_cells] at hc
        obtain ⟨_, hcl, hat⟩ := World.cells?_some hc
        obtain ⟨z, hz, rfl⟩ := oq_open ht
        have q0 := hat 0 (by omega)
        have q1 := hat 1 (by omega)
        have q2 := hat 2 (by omega)
        have q3 := hat 3 (by omega)
        have q4 := hat 4 (by omega)
        have q5 := hat 5 (by omega)
        have q6 := hat 6 (by omega)
        simp only [Oq.cells, List.getElem?_cons_zero, List.getElem?_cons_succ] at q0 q1 q2 q3 q4 q5 q6
        obtain ⟨b, off, spot⟩ := a'
        obtain ⟨cs0, hc0, _⟩ := hi 0 (by omega)
        rw [w_oq_cells] at hc0
        obtain ⟨_, hcl0, hat0⟩ := World.cells?_some hc0
        have q00 := hat0 0 (by omega)
        rw [List.getElem?_eq_getElem (show 0 < cs0.length by omega)] at q00
        have hspot : spot = none := by simpa [Addr.add] using World.cell?_spot q00
        subst hspot
        simp only [Addr.add_lit, Nat.add_zero] at q0 q1 q2 q3 q4 q5 q6
        exact ⟨z, fun _ => ⟨b, off, rfl, World.block_lt_of_cell? W _ q0, hz.1, hz.2.1, hz.2.2.1, hz.2.2.2, q0, q1, q2, q3, q4, q5, q6⟩⟩
      · exact ⟨oq0, fun h => absurd h hil⟩
    obtain ⟨f, hfz⟩ := Classical.skolem.1 key
    refine ⟨(List.range len).map f, by simp, by omega, hl, fun i hil => ?_⟩
    have e : ((List.range len).map f).getD i oq0 = f i := by simp [List.getD, hil]
    rw [e]
    exact hfz i hil
end
end Go.Proofs.Ythcomfcbdlobpaa
