/-
  Joined: CrdPRight, CrdPCloned.
-/
import Derived.Test.YtdldplhfpianhaaSet26
namespace Go.Proofs.Ytdldplhfpianhaa
open Go.RowKit Go.Shelf
set_option linter.unusedVariables false
set_option linter.unnecessarySimpa false
set_option linter.unusedSimpArgs false
set_option maxRecDepth 100000

def rightC (p : Pg) : Bool := !((List.range p.W.length).any (badC p.W)) && !(decide (8 < p.R.length ∨ 8 < p.W.length))
def longP (p : Pg) : Bool := p.R.any longK || p.W.any longC
theorem mayC_is (p : Pg) : mayC p = if rightC p = true then (if longP p = true then 3 else 0) else 1 := by
  unfold mayC rightC longP
  by_cases h1 : (List.range p.W.length).any (badC p.W) = true
  · rw [if_pos h1, h1]; rfl
  · have h1' : (List.range p.W.length).any (badC p.W) = false := by rw [Bool.not_eq_true] at h1; exact h1
    rw [if_neg h1, h1']
    by_cases h2 : 8 < p.R.length ∨ 8 < p.W.length
    · rw [if_pos h2, decide_eq_true h2]; rfl
    · rw [if_neg h2, decide_eq_false h2, Bool.or_comm]; rfl
theorem dupC_take (ws : List Wq) {i : Nat} (hi : i < ws.length) : (ws.take i).any (fun x => sameK x.key (ws.getD i wq0).key) = (List.range i).any (dupC ws i) := by
  rw [Bool.eq_iff_iff, crd_range_any, List.any_eq_true]
  constructor
  · rintro ⟨x, hx, e⟩
    obtain ⟨k, hk, rfl⟩ := List.mem_iff_getElem.1 hx
    rw [List.length_take] at hk
    refine ⟨k, by omega, ?_⟩
    unfold dupC
    rw [List.getElem_take] at e
    rw [show ws.getD k wq0 = ws[k]'(by omega) by rw [List.getD, List.getElem?_eq_getElem (by omega)]; rfl]
    exact e
  · rintro ⟨k, hk, e⟩
    unfold dupC at e
    refine ⟨ws.getD k wq0, ?_, e⟩
    rw [List.getD, List.getElem?_eq_getElem (by omega)]
    exact List.mem_iff_getElem.2 ⟨k, by rw [List.length_take]; omega, by rw [List.getElem_take]; rfl⟩
theorem rightC_bad {p : Pg} {i : Nat} (hi : i < p.W.length) (h : badC p.W i = true) : rightC p = false := by
  unfold rightC
  rw [(crd_range_any _ _).2 ⟨i, hi, h⟩]
  rfl
theorem rightC_len {p : Pg} (h : 8 < p.R.length ∨ 8 < p.W.length) : rightC p = false := by
  unfold rightC
  rw [decide_eq_true h]
  simp
theorem rightC_ok {p : Pg} (h1 : ¬ 8 < p.R.length) (h2 : ¬ 8 < p.W.length) (h : ∀ i, i < p.W.length → badC p.W i = false) : rightC p = true := by
  unfold rightC
  rw [show (List.range p.W.length).any (badC p.W) = false from by
    rw [← Bool.not_eq_true]
    intro e
    obtain ⟨i, hi, e⟩ := (crd_range_any _ _).1 e
    rw [h i hi] at e
    cases e]
  rw [decide_eq_false (by omega)]
  rfl
theorem pcells2 {W : World} {B : Nat} {x y : Value} {t : TypeId} (h : W.heap[B]? = some (.cells #[x, y] t (0, 0))) : W.cell? ⟨B, 0, none⟩ = some x ∧ W.cell? ⟨B, 1, none⟩ = some y := by
  refine ⟨?_, ?_⟩
  all_goals
    rw [cell_of_row _ _ _ _ _ _ h]; rfl
set_option maxHeartbeats 4000000 in
theorem pright_any (p : Pg) (w : World) (h : PgOk w p) (hrn : p.rn ≤ 1000) (hwn : p.wn ≤ 1000) :
    Calls Try.prog 40 #[.agg p.cells] w fun e w' => e = .returned (.bool (rightC p)) ∧ Below w.heap.size w w' := by
  have hb0 := (Below.refl w.heap.size w).alloc (Nat.le_refl _) (.cells p.cells 25)
  have hr0 := heap_alloc_new w (.cells p.cells 25)
  obtain ⟨w0, hw0⟩ : ∃ w0, w0 = w.alloc (.cells p.cells 25) := ⟨_, rfl⟩
  rw [← hw0] at hb0 hr0
  obtain ⟨X, hX⟩ : ∃ X, X = w.heap.size := ⟨_, rfl⟩
  rw [← hX] at hr0
  have hXl : X < w0.heap.size := (Array.getElem?_eq_some_iff.1 hr0).1
  have HB0 := Lib.hid hb0
  have HZ := Lib.hid (h.2.below hb0)
  have HLW := Lib.hid h.2.1
  have HLR := Lib.hid h.1.1
  have hcap := h.2.2.2.1
  obtain ⟨R, hR⟩ : ∃ R, R = rightC p := ⟨_, rfl⟩
  have HRL := Lib.hid (fun (e : 8 < p.R.length ∨ 8 < p.W.length) => hR.trans (rightC_len e))
  have HRB := Lib.hid (fun i hi (e : badC p.W i = true) => hR.trans (rightC_bad (i := i) hi e))
  have HRO := Lib.hid (fun h1 h2 e => hR.trans (rightC_ok (p := p) h1 h2 e))
  rw [← hR]
  obtain ⟨ra, rn, rc, Rs, wa, wn, wc, Ws⟩ := p
  unfold Pg.cells at *
  simp only at *
  have HP := Lib.hid (fun W (hb : Below w0.heap.size w0 W) => pcells2 ((hb.block X hXl).trans hr0))
  obtain ⟨p0, p1⟩ := pcells2 hr0
  clear h hb0 hr0 hR
  by_cases h1 : 8 < rn
  · have hz1 : decide ((8 : Int) < (rn : Int)) = true := decide_eq_true (by omega)
    have hy1 : decide (8 < rn) = true := decide_eq_true (by omega)
    have HR := Lib.hid (HRL.out (.inl (by have := HLR.out; omega)))
    go_enter Try.func40, Try.ntmps40
    go_upto_region 1 with fail
    rw [← hw0, ← hX]
    clear hw0 hX
    go_wp2_with fail
    go_ret
    exact ⟨by rw [HR.out]; rfl, HB0.out⟩
  · have hz1 : decide ((8 : Int) < (rn : Int)) = false := decide_eq_false (by omega)
    have hy1 : decide (8 < rn) = false := decide_eq_false (by omega)
    by_cases h2 : 8 < wn
    · have hz2 : decide ((8 : Int) < (wn : Int)) = true := decide_eq_true (by omega)
      have hy2 : decide (8 < wn) = true := decide_eq_true (by omega)
      have HR := Lib.hid (HRL.out (.inr (by have := HLW.out; omega)))
      go_enter Try.func40, Try.ntmps40
      go_upto_region 1 with fail
      rw [← hw0, ← hX]
      clear hw0 hX
      go_wp2_with fail
      go_ret
      exact ⟨by rw [HR.out]; rfl, HB0.out⟩
    · have hz2 : decide ((8 : Int) < (wn : Int)) = false := decide_eq_false (by omega)
      have hy2 : decide (8 < wn) = false := decide_eq_false (by omega)
      go_enter Try.func40, Try.ntmps40
      go_upto_region 1 with fail
      rw [← hw0, ← hX]
      clear hw0 hX
      go_wp2_with fail
      go_loopg [3, 4, 5, 19] wn (fun gg _ _ _ s19 wr => ∃ i : Nat, i + gg = wn ∧ s19 = .int .i64 i ∧ Hid (Below w0.heap.size w0 wr) ∧ Hid (∀ j, j < i → badC Ws j = false))
      case atStart => exact ⟨0, by omega, rfl, Lib.hid (Below.refl _ w0), Lib.hid (fun j hj => absurd hj (Nat.not_lt_zero _))⟩
      case round =>
        obtain ⟨i, hg, rfl, HB, HA⟩ := hrel
        clear p0 p1
        by_cases hlt : i < wn
        · obtain ⟨k, rfl⟩ : ∃ k, gk = k + 1 := ⟨gk - 1, by omega⟩
          have hltz : (i : Int) < (wn : Int) := by omega
          have hci : (i : Int) ≤ (wc : Int) := by omega
          have hci2 : i ≤ wc := by omega
          have HZW := Lib.hid (HZ.out.below HB.out)
          obtain ⟨b, off, rfl, hbl, hk1, hk2, q0, q1, q2⟩ := HZW.out.2.2.2 i hlt
          obtain ⟨m, hm⟩ : ∃ m, m = Ws.getD i wq0 := ⟨_, rfl⟩
          have hdup := dupC_take Ws (i := i) (by have := HLW.out; omega)
          rw [← hm] at hk1 hk2 q0 q1 q2 hdup
          have hbad : badC Ws i = ((List.range i).any (dupC Ws i) || (m.gone && !m.val.toList.isEmpty)) := by rw [hm]; rfl
          rw [← hdup] at hbad
          obtain ⟨K, G, V⟩ := m
          simp only at q0 q1 q2 hbad
          have hb1 := (Below.refl wr.heap.size wr).alloc (Nat.le_refl _) (.cells #[.string K, .bool G, .string V] 64)
          have hr1 := heap_alloc_new wr (.cells #[.string K, .bool G, .string V] 64)
          obtain ⟨w1, hw1⟩ : ∃ w1, w1 = wr.alloc (.cells #[.string K, .bool G, .string V] 64) := ⟨_, rfl⟩
          rw [← hw1] at hb1 hr1
          obtain ⟨A, hA⟩ : ∃ A, A = wr.heap.size := ⟨_, rfl⟩
          rw [← hA] at hr1
          have HC := Lib.hid (pcontW_any 49 #[.pointer (some ⟨A, 0, none⟩)] (enters_of Try.func49 (by kernel_rfl) rfl) (fun x => sameK x.key K) (some ⟨b, off, none⟩) i wc (Ws.take i) w1 ((HZW.out.below hb1).take (by omega))
            (fun W j hj hb => psameW_any _ K G V A W ((hb.block A (Array.getElem?_eq_some_iff.1 hr1).1).trans hr1)) (by omega))
          have HBR := Lib.hid (HB.out.trans (hb1.mono HB.out.size))
          obtain ⟨D, hD⟩ : ∃ D, D = (Ws.take i).any (fun x => sameK x.key K) := ⟨_, rfl⟩
          rw [← hD] at HC hbad
          obtain ⟨E, hE⟩ : ∃ E, E = V.toList.isEmpty := ⟨_, rfl⟩
          rw [← hE] at hbad
          have hE2 := hE.symm
          have hAl : A < w1.heap.size := (Array.getElem?_eq_some_iff.1 hr1).1
          have HR1 := Lib.hid (fun W (hb : Below w1.heap.size w1 W) => pcells3 ((hb.block A hAl).trans hr1))
          obtain ⟨p0, p1⟩ := HP.out _ HBR.out
          have HBD := Lib.hid hbad
          clear hm hk1 hk2 hdup hbad hb1 hr1 hD hE
          go_upto_region 7 with fail
          rw [← hw1, ← hA]
          clear hw1 hA
          have hcase : D = true ∨ (D = false ∧ G = false) ∨ (D = false ∧ G = true ∧ E = false) ∨ (D = false ∧ G = true ∧ E = true) := by cases D <;> cases G <;> cases E <;> simp
          rcases hcase with rfl | ⟨rfl, rfl⟩ | ⟨rfl, rfl, rfl⟩ | ⟨rfl, rfl, rfl⟩
          · have HR := Lib.hid (HRB.out i (by have := HLW.out; omega) (by rw [HBD.out]; rfl))
            go_wp2_with (go_at_call 50; (with_reducible refine HC.out.mono ?_); rintro e w2 ⟨rfl, hb2⟩; obtain ⟨c0, c1, c2⟩ := HR1.out w2 hb2; have HB2 := Lib.hid (HBR.out.trans (hb2.mono HBR.out.size)); clear hb2)
            go_ret
            exact ⟨by rw [HR.out]; rfl, HB0.out.trans (HB2.out.mono HB0.out.size)⟩
          · have HN := Lib.hid (show badC Ws i = false from by rw [HBD.out]; rfl)
            go_wp2_with (go_at_call 50; (with_reducible refine HC.out.mono ?_); rintro e w2 ⟨rfl, hb2⟩; obtain ⟨c0, c1, c2⟩ := HR1.out w2 hb2; have HB2 := Lib.hid (HBR.out.trans (hb2.mono HBR.out.size)); clear hb2)
            go_roundg k
            case measure => omega
            case rel =>
              refine ⟨i + 1, by omega, by go_num, HB2, Lib.hid (fun j hj => ?_)⟩
              by_cases e : j = i
              · subst e; exact HN.out
              · exact HA.out j (by omega)
          · have HR := Lib.hid (HRB.out i (by have := HLW.out; omega) (by rw [HBD.out]; rfl))
            go_wp2_with (go_at_call 50; (with_reducible refine HC.out.mono ?_); rintro e w2 ⟨rfl, hb2⟩; obtain ⟨c0, c1, c2⟩ := HR1.out w2 hb2; have HB2 := Lib.hid (HBR.out.trans (hb2.mono HBR.out.size)); clear hb2)
            go_ret
            exact ⟨by rw [HR.out]; rfl, HB0.out.trans (HB2.out.mono HB0.out.size)⟩
          · have HN := Lib.hid (show badC Ws i = false from by rw [HBD.out]; rfl)
            go_wp2_with (go_at_call 50; (with_reducible refine HC.out.mono ?_); rintro e w2 ⟨rfl, hb2⟩; obtain ⟨c0, c1, c2⟩ := HR1.out w2 hb2; have HB2 := Lib.hid (HBR.out.trans (hb2.mono HBR.out.size)); clear hb2)
            go_roundg k
            case measure => omega
            case rel =>
              refine ⟨i + 1, by omega, by go_num, HB2, Lib.hid (fun j hj => ?_)⟩
              by_cases e : j = i
              · subst e; exact HN.out
              · exact HA.out j (by omega)
        · have hltz : ¬ (i : Int) < (wn : Int) := by omega
          have HR := Lib.hid (HRO.out (by have := HLR.out; omega) (by have := HLW.out; omega) (fun j hj => HA.out j (by have := HLW.out; omega)))
          go_wp2_with fail
          go_ret
          exact ⟨by rw [HR.out]; rfl, HB0.out.trans (HB.out.mono HB0.out.size)⟩
/-! tooLong. -/
set_option maxHeartbeats 2000000 in
theorem plongW_any (m : Wq) (hk : m.key.size ≤ maxLen) (hv : m.val.size ≤ maxLen) (G : Nat) (w : World) (hG : w.heap[G]? = some (.cells #[.func (.func 51) #[] #[]] 86 (0, 0))) :
    Calls Try.prog 52 (#[wqV m] ++ #[.pointer (some ⟨G, 0, none⟩)]) w fun e w' => e = .returned (.bool (longC m)) ∧ Below w.heap.size w w' := by
  have hb0 := (Below.refl w.heap.size w).alloc (Nat.le_refl _) (.cells #[.string m.key, .bool m.gone, .string m.val] 64)
  have hr0 := heap_alloc_new w (.cells #[.string m.key, .bool m.gone, .string m.val] 64)
  obtain ⟨w1, hw1⟩ : ∃ w1, w1 = w.alloc (.cells #[.string m.key, .bool m.gone, .string m.val] 64) := ⟨_, rfl⟩
  rw [← hw1] at hb0 hr0
  obtain ⟨A, hA⟩ : ∃ A, A = w.heap.size := ⟨_, rfl⟩
  rw [← hA] at hr0
  have hGl : G < w.heap.size := (Array.getElem?_eq_some_iff.1 hG).1
  have q0 : w1.cell? ⟨G, 0, none⟩ = some (.func (.func 51) #[] #[]) := by rw [cell_of_row _ _ _ _ _ _ ((hb0.block G hGl).trans hG)]; rfl
  obtain ⟨a0, a1, a2⟩ := pcells3 hr0
  have HR := Lib.hid (fun W (hb : Below w1.heap.size w1 W) => pcells3 ((hb.block A (Array.getElem?_eq_some_iff.1 hr0).1).trans hr0))
  have HB := Lib.hid hb0
  have HL := Lib.hid (plongK_any m.key hk w1)
  have HEN : ∀ args w, (callFunc 51 args).run Try.prog w = .ok (.enter 51 args) w := enters_of Try.func51 (by kernel_rfl) rfl
  unfold longC wqV
  obtain ⟨K, g, V⟩ := m
  simp only at *
  obtain ⟨x, hx⟩ : ∃ x, x = decide (100 < K.size) := ⟨_, rfl⟩
  obtain ⟨y, hy⟩ : ∃ y, y = decide (500 < V.size) := ⟨_, rfl⟩
  unfold longK at HL
  unfold maxLen at hk hv
  have hyz : decide ((500 : Int) < (V.size : Int)) = y := by rw [hy, decide_eq_decide]; omega
  rw [← hx] at HL ⊢
  rw [← hy]
  have hy2 := hy.symm
  clear hx hy hG hb0 hr0 hGl
  show Calls Try.prog 52 #[.agg #[.string K, .bool g, .string V], .pointer (some ⟨G, 0, none⟩)] w _
  cases x with
  | true =>
    go_enter Try.func52, Try.ntmps52
    go_upto_region 1 with fail
    rw [← hw1, ← hA]
    clear hw1 hA
    go_wp2_with (go_at_call 51; (with_reducible refine HL.out.mono ?_); rintro e w2 ⟨rfl, hb2⟩; obtain ⟨c0, c1, c2⟩ := HR.out w2 hb2; have HB2 := Lib.hid (HB.out.trans (hb2.mono HB.out.size)); clear hb2)
    go_ret
    exact ⟨rfl, HB2.out⟩
  | false =>
    go_enter Try.func52, Try.ntmps52
    go_upto_region 1 with fail
    rw [← hw1, ← hA]
    clear hw1 hA
    go_wp2_with (go_at_call 51; (with_reducible refine HL.out.mono ?_); rintro e w2 ⟨rfl, hb2⟩; obtain ⟨c0, c1, c2⟩ := HR.out w2 hb2; have HB2 := Lib.hid (HB.out.trans (hb2.mono HB.out.size)); clear hb2)
    go_ret
    exact ⟨by simp, HB2.out⟩
set_option maxHeartbeats 2000000 in
theorem ptooLong_any (p : Pg) (w : World) (h : PgOk w p) (hrn : p.rn ≤ 1000) (hwn : p.wn ≤ 1000) :
    Calls Try.prog 41 #[.agg p.cells] w fun e w' => e = .returned (.bool (longP p)) ∧ Below w.heap.size w w' := by
  have hb0 := (Below.refl w.heap.size w).alloc (Nat.le_refl _) (.cells p.cells 25)
  have hr0 := heap_alloc_new w (.cells p.cells 25)
  obtain ⟨w0, hw0⟩ : ∃ w0, w0 = w.alloc (.cells p.cells 25) := ⟨_, rfl⟩
  rw [← hw0] at hb0 hr0
  obtain ⟨X, hX⟩ : ∃ X, X = w.heap.size := ⟨_, rfl⟩
  rw [← hX] at hr0
  have hXl : X < w0.heap.size := (Array.getElem?_eq_some_iff.1 hr0).1
  have hs0 : w0.heap.size = X + 1 := by rw [hw0, hX]; simp
  obtain ⟨G, hG⟩ : ∃ G, G = X + 1 := ⟨_, rfl⟩
  have hrn0 := heap_alloc_new w0 (.cells #[.nilFunc] 86)
  rw [hs0, ← hG] at hrn0
  have hst : (store ⟨G, 0, none⟩ (.func (.func 51) #[] #[])).run Try.prog (w0.alloc (.cells #[.nilFunc] 86)) = .ok () ((w0.alloc (.cells #[.nilFunc] 86)).setCell ⟨G, 0, none⟩ (.func (.func 51) #[] #[])) := by
    have hc : (w0.alloc (.cells #[.nilFunc] 86)).cell? ⟨G, 0, none⟩ = some .nilFunc := by rw [cell_of_row _ _ _ _ _ _ hrn0]; rfl
    have hf := frozen_of_row _ _ 0 _ _ hrn0
    simp [run_store Try.prog _ _ (.func (.func 51) #[] #[]) _ rfl, hc, hf]
  have hb1 : Below w0.heap.size w0 ((w0.alloc (.cells #[.nilFunc] 86)).setCell ⟨G, 0, none⟩ (.func (.func 51) #[] #[])) := ((Below.refl w0.heap.size w0).alloc (Nat.le_refl _) _).setCell (p := ⟨G, 0, none⟩) (by show w0.heap.size ≤ G; omega) _
  have hr1 := heap_setCell_same _ G 0 _ _ (.func (.func 51) #[] #[]) hrn0
  obtain ⟨w1, hw1⟩ : ∃ w1, w1 = (w0.alloc (.cells #[.nilFunc] 86)).setCell ⟨G, 0, none⟩ (.func (.func 51) #[] #[]) := ⟨_, rfl⟩
  rw [← hw1] at hb1 hr1 hst
  have hr1 : w1.heap[G]? = some (.cells #[.func (.func 51) #[] #[]] 86 (0, 0)) := hr1
  have hGl : G < w1.heap.size := (Array.getElem?_eq_some_iff.1 hr1).1
  have hr0' := (hb1.block X hXl).trans hr0
  have hXl1 : X < w1.heap.size := (Array.getElem?_eq_some_iff.1 hr0').1
  have hok1 := (show PgOk w1 p from ⟨(h.1.below hb0).below hb1, (h.2.below hb0).below hb1⟩)
  have HBW := Lib.hid (hb0.trans (hb1.mono hb0.size))
  have HEN1 : ∀ args w, (callFunc 51 args).run Try.prog w = .ok (.enter 51 args) w := enters_of Try.func51 (by kernel_rfl) rfl
  have HEN2 : ∀ args w, (callFunc 52 args).run Try.prog w = .ok (.enter 52 args) w := enters_of Try.func52 (by kernel_rfl) rfl
  have HS := Lib.hid (pcontS_any 51 #[] HEN1 longK p.ra p.rn p.rc p.R w1 hok1.1 (fun W i hi hb => plongK_any _ (by
    obtain ⟨_, _, _, _, q, _⟩ := hok1.1.2.2 i (by have := hok1.1.1; omega)
    exact q) W) hrn)
  have HW := Lib.hid (fun W (hb : Below w1.heap.size w1 W) => pcontW_any 52 #[.pointer (some ⟨G, 0, none⟩)] HEN2 longC p.wa p.wn p.wc p.W W (hok1.2.below hb) (fun W2 i hi hb2 => plongW_any _ (by
    obtain ⟨_, _, _, _, q, _⟩ := hok1.2.2.2.2 i (by have := hok1.2.1; omega)
    exact q) (by
    obtain ⟨_, _, _, _, _, q, _⟩ := hok1.2.2.2.2 i (by have := hok1.2.1; omega)
    exact q) G W2 ((hb2.block G (Nat.lt_of_lt_of_le hGl hb.size)).trans ((hb.block G hGl).trans hr1))) hwn)
  have HP := Lib.hid (fun W (hb : Below w1.heap.size w1 W) => And.intro (W.heap[X]? = some (.cells p.cells 25 (0, 0)) |> fun _ => (hb.block X hXl1).trans hr0') (show W.cell? ⟨G, 0, none⟩ = some (.func (.func 51) #[] #[]) by rw [cell_of_row _ _ _ _ _ _ ((hb.block G hGl).trans hr1)]; rfl))
  have HX1 := Lib.hid (show X + 1 = G from hG.symm)
  unfold longP
  obtain ⟨D1, hD1⟩ : ∃ D1, D1 = p.R.any longK := ⟨_, rfl⟩
  obtain ⟨D2, hD2⟩ : ∃ D2, D2 = p.W.any longC := ⟨_, rfl⟩
  rw [← hD1] at HS ⊢
  rw [← hD2] at HW ⊢
  obtain ⟨ra, rn, rc, Rs, wa, wn, wc, Ws⟩ := p
  unfold Pg.cells at *
  simp only at *
  have hne : X ≠ G := by omega
  obtain ⟨y1, g0⟩ := HP.out w1 (Below.refl _ _)
  obtain ⟨p0, p1⟩ := pcells2 y1
  have HSZ := Lib.hid hs0
  clear h hb0 hr0 hb1 hr1 hD1 hD2 hr0' hok1 y1 hXl hG hs0 hrn0 hw1
  cases D1 with
  | true =>
    go_enter Try.func41, Try.ntmps41
    go_upto_region 1 with fail
    rw [← hw0, ← hX]
    clear hw0 hX
    have hsG := HSZ.out.trans HX1.out
    go_upto_region 2 with fail
    clear hst hsG
    go_wp2_with (first
      | (go_at_call 53; (with_reducible refine HS.out.mono ?_); rintro e w2 ⟨rfl, hb2⟩; obtain ⟨y2, g2⟩ := HP.out w2 hb2; obtain ⟨e0, e1⟩ := pcells2 y2; have HB2 := Lib.hid hb2; clear hb2 y2))
    go_ret
    exact ⟨rfl, HBW.out.trans (HB2.out.mono HBW.out.size)⟩
  | false =>
    go_enter Try.func41, Try.ntmps41
    go_upto_region 1 with fail
    rw [← hw0, ← hX]
    clear hw0 hX
    have hsG := HSZ.out.trans HX1.out
    go_upto_region 2 with fail
    clear hst hsG
    go_wp2_with (first
      | (go_at_call 53; (with_reducible refine HS.out.mono ?_); rintro e w2 ⟨rfl, hb2⟩; obtain ⟨y2, g2⟩ := HP.out w2 hb2; obtain ⟨e0, e1⟩ := pcells2 y2; have HB2 := Lib.hid hb2; clear hb2 y2)
      | (go_at_call 50; (with_reducible refine (HW.out _ HB2.out).mono ?_); rintro e w3 ⟨rfl, hb3⟩; have HB3 := Lib.hid (HB2.out.trans (hb3.mono HB2.out.size)); clear hb3))
    go_ret
    exact ⟨by simp, HBW.out.trans (HB3.out.mono HBW.out.size)⟩
end Go.Proofs.Ytdldplhfpianhaa

namespace Go.Proofs.Ytdldplhfpianhaa
open Go.RowKit
set_option linter.unusedVariables false
set_option linter.unnecessarySimpa false
set_option linter.unusedSimpArgs false
set_option maxRecDepth 100000

def ksC (L : List ByteArray) : List Value := L.map Value.string
theorem ksC_len (L : List ByteArray) : (ksC L).length = L.length * 1 := by unfold ksC; rw [List.length_map, Nat.mul_one]
theorem ksC_one (L : List ByteArray) : ∀ u ∈ ksC L, u.oneCell' = true := by
  intro u h
  obtain ⟨k, _, rfl⟩ := List.mem_map.1 h
  rfl
theorem ksInfo : (Try.prog.info? 9).map (fun i => (i.zero, i.size, i.bytes)) = some (some (.string ⟨#[]⟩), 1, 16) := by kernel_rfl
theorem ks_own {w : World} {B n c : Nat} {a : Option Addr} {L : List ByteArray} (h : w.ownsRow B 9 1 (.slice a n c) n (ksC L)) (hn : L.length = n) (hl : n ≤ 1000) (hv : ∀ k ∈ L, k.size ≤ maxLen) : IsKs w a n c L ∧ n ≤ c := by
  have hcap : n ≤ c := by
    rcases h.2 with ⟨h1, h2⟩ | ⟨g, cap, cur, h1, _, _, h2, _⟩
    · omega
    · injection h1 with _ _ h1; omega
  refine ⟨⟨hn, by unfold maxLen; omega, fun i hi => ?_⟩, hcap⟩
  obtain ⟨g, cap, e, hg, hgl⟩ := own_slice h (by omega)
  injection e with e1 e2 e3
  subst e1 e3
  have hil : i < L.length := by omega
  have hm : L.getD i ⟨#[]⟩ ∈ L := by rw [List.getD, List.getElem?_eq_getElem hil]; exact List.getElem_mem hil
  refine ⟨g, 0, rfl, hgl, hv _ hm, ?_⟩
  have hc := h.cellAt i (by omega)
  rw [Nat.zero_add, hc]
  unfold ksC
  rw [List.getElem?_map, List.getD, List.getElem?_eq_getElem hil]
  rfl
/-- The boxes and both rows, in the midst. -/
structure ClSt (w : World) (X G E B : Nat) (pc : Array Value) (v1 v2 : Value) (L1 : List ByteArray) (L2 : List Wq) (W : World) : Prop where
  below : Below w.heap.size w W
  le : w.heap.size ≤ X ∧ w.heap.size ≤ G ∧ w.heap.size ≤ E ∧ X < B ∧ G < B ∧ E < B ∧ B ≤ W.heap.size ∧ X ≠ G ∧ E ≠ G ∧ X ≠ E
  x : W.heap[X]? = some (.cells pc 25 (0, 0))
  g : W.heap[G]? = some (.cells #[v1, v2] 25 (0, 0))
  e : W.heap[E]? = some (.cells #[.slice none 0 0, .slice none 0 0] 25 (0, 0))
  o1 : W.ownsRow 0 9 1 v1 L1.length (ksC L1)
  o2 : W.ownsRow 0 64 3 v2 L2.length (wqCells L2)
  b1 : ∀ k, v1.ownBlock = some k → B ≤ k
  b2 : ∀ k, v2.ownBlock = some k → B ≤ k ∧ v1.ownBlock ≠ some k
theorem own_keep {w w' : World} {B e s n : Nat} {v : Value} {xs : List Value} (h : w.ownsRow B e s v n xs) (hb : ∀ k, v.ownBlock = some k → w'.heap[k]? = w.heap[k]?) : w'.ownsRow B e s v n xs := by
  refine ⟨h.1, ?_⟩
  rcases h.2 with h2 | ⟨g, cap, cur, e1, h1, h2, h3⟩
  · exact .inl h2
  · exact .inr ⟨g, cap, cur, e1, h1, (hb g (by rw [e1]; rfl)).trans h2, h3⟩
section
variable {w W W2 : World} {X G E B : Nat} {pc : Array Value} {v1 v2 : Value} {L1 : List ByteArray} {L2 : List Wq}
theorem ClSt.later (h : ClSt w X G E B pc v1 v2 L1 L2 W) (hb : Below W.heap.size W W2) : ClSt w X G E B pc v1 v2 L1 L2 W2 := by
  have hX := (Array.getElem?_eq_some_iff.1 h.x).1
  have hG := (Array.getElem?_eq_some_iff.1 h.g).1
  have hE := (Array.getElem?_eq_some_iff.1 h.e).1
  obtain ⟨l1, l2, l3, l4, l5, l6, l7, l8⟩ := h.le
  exact ⟨h.below.trans (hb.mono h.below.size), ⟨l1, l2, l3, l4, l5, l6, Nat.le_trans l7 hb.size, l8⟩, (hb.block X hX).trans h.x, (hb.block G hG).trans h.g, (hb.block E hE).trans h.e, own_later h.o1 hb, own_later h.o2 hb, h.b1, h.b2⟩
theorem ClSt.next1 (h : ClSt w X G E B pc v1 (.slice none 0 0) L1 [] W) {K : ByteArray} {v1' : Value} (hk : KeepG 9 1 L1.length (L1.length + 1) (ksC L1) (ksC L1 ++ ksC [K]) v1.ownBlock W W2) (ho : W2.ownsRow 0 9 1 v1' (L1.length + 1) (ksC L1 ++ ksC [K])) (hb : ∀ k, v1'.ownBlock = some k → v1.ownBlock = some k ∨ W.heap.size ≤ k) :
    ClSt w X G E B pc v1' (.slice none 0 0) (L1 ++ [K]) [] (W2.setCell ⟨G, 0, none⟩ v1') := by
  have hX := (Array.getElem?_eq_some_iff.1 h.x).1
  have hG := (Array.getElem?_eq_some_iff.1 h.g).1
  have hE := (Array.getElem?_eq_some_iff.1 h.e).1
  obtain ⟨l1, l2, l3, l4, l5, l6, l7, l8, l9, l10⟩ := h.le
  have hne : ∀ k, k < B → some k ≠ v1.ownBlock := fun k hk e => by have := h.b1 k e.symm; omega
  have hG2 := (hk.block G hG (hne G l5)).trans h.g
  have hot : ∀ k, k ≠ G → (W2.setCell ⟨G, 0, none⟩ v1').heap[k]? = W2.heap[k]? := fun k hk => Below.heap_setCell _ _ _ _ hk
  have hB1 : ∀ k, v1'.ownBlock = some k → B ≤ k := fun k hk => (hb k hk).elim (fun e => h.b1 k e) (fun e => Nat.le_trans l7 e)
  refine ⟨⟨hk.os.trans h.below.os, hk.tape.trans h.below.tape, hk.output.trans h.below.output, ?_, ?_⟩, ⟨l1, l2, l3, l4, l5, l6, ?_, l8, l9, l10⟩, ?_, ?_, ?_, ?_, ?_, hB1, fun k hk => (by cases hk)⟩
  · have := h.below.size; have := hk.size; simp [World.setCell]; omega
  · intro k hk2
    exact (hot k (by omega)).trans ((hk.block k (by have := h.below.size; omega) (hne k (by omega))).trans (h.below.block k hk2))
  · have := hk.size; simp [World.setCell]; omega
  · exact (hot X l8).trans ((hk.block X hX (hne X l4)).trans h.x)
  · rw [heap_setCell_same _ G 0 _ _ v1' hG2]; rfl
  · exact (hot E l9).trans ((hk.block E hE (hne E l6)).trans h.e)
  · have e : ksC (L1 ++ [K]) = ksC L1 ++ ksC [K] := by unfold ksC; rw [List.map_append]
    rw [e, List.length_append]
    exact own_keep ho fun k hk => hot k (by have := hB1 k hk; omega)
  · exact ⟨rfl, .inl ⟨rfl, rfl⟩⟩
theorem ClSt.next2 (h : ClSt w X G E B pc v1 v2 L1 L2 W) {m : Wq} {v2' : Value} (hk : KeepG 64 3 L2.length (L2.length + 1) (wqCells L2) (wqCells L2 ++ wqCells [m]) v2.ownBlock W W2) (ho : W2.ownsRow 0 64 3 v2' (L2.length + 1) (wqCells L2 ++ wqCells [m])) (hb : ∀ k, v2'.ownBlock = some k → v2.ownBlock = some k ∨ W.heap.size ≤ k) :
    ClSt w X G E B pc v1 v2' L1 (L2 ++ [m]) (W2.setCell ⟨G, 1, none⟩ v2') := by
  have hX := (Array.getElem?_eq_some_iff.1 h.x).1
  have hG := (Array.getElem?_eq_some_iff.1 h.g).1
  have hE := (Array.getElem?_eq_some_iff.1 h.e).1
  obtain ⟨l1, l2, l3, l4, l5, l6, l7, l8, l9, l10⟩ := h.le
  have hne : ∀ k, k < B → some k ≠ v2.ownBlock := fun k hk e => by have := (h.b2 k e.symm).1; omega
  have hG2 := (hk.block G hG (hne G l5)).trans h.g
  have hot : ∀ k, k ≠ G → (W2.setCell ⟨G, 1, none⟩ v2').heap[k]? = W2.heap[k]? := fun k hk => Below.heap_setCell _ _ _ _ hk
  have hB2 : ∀ k, v2'.ownBlock = some k → B ≤ k ∧ v1.ownBlock ≠ some k := fun k hk => (hb k hk).elim (fun e => h.b2 k e) (fun e => ⟨Nat.le_trans l7 e, fun e2 => by have := (h.o1.lt k e2).2; omega⟩)
  refine ⟨⟨hk.os.trans h.below.os, hk.tape.trans h.below.tape, hk.output.trans h.below.output, ?_, ?_⟩, ⟨l1, l2, l3, l4, l5, l6, ?_, l8, l9, l10⟩, ?_, ?_, ?_, ?_, ?_, h.b1, hB2⟩
  · have := h.below.size; have := hk.size; simp [World.setCell]; omega
  · intro k hk2
    exact (hot k (by omega)).trans ((hk.block k (by have := h.below.size; omega) (hne k (by omega))).trans (h.below.block k hk2))
  · have := hk.size; simp [World.setCell]; omega
  · exact (hot X l8).trans ((hk.block X hX (hne X l4)).trans h.x)
  · rw [heap_setCell_same _ G 1 _ _ v2' hG2]; rfl
  · exact (hot E l9).trans ((hk.block E hE (hne E l6)).trans h.e)
  · exact own_keep h.o1 fun k hk2 => (hot k (by have := h.b1 k hk2; omega)).trans (hk.block k (h.o1.lt k hk2).2 (fun e => (h.b2 k e.symm).2 hk2))
  · rw [wqCells_app, List.length_append]
    exact own_keep ho fun k hk => hot k (by have := (hB2 k hk).1; omega)
end
def psiK1 (G B : Nat) (v0 : Value) (n : Nat) (L : List ByteArray) (K : ByteArray) (row : Option Nat) (t : Nat) (v : Value) (W : World) : Prop :=
  match t with
  | 3 => v = .pointer (some ⟨G, 0, none⟩)
  | 5 => v = .string K
  | 15 => v = .pointer (some ⟨G, 0, none⟩)
  | 16 => v = v0
  | 17 => v = .string K
  | 18 => v = .string K
  | 19 => ∃ gu, v = .slice (some ⟨gu, 0, none⟩) 1 1 ∧ B ≤ gu ∧ W.heap[gu]? = some (.cells #[.string K] 9 (0, 0))
  | 20 => W.ownsRow 0 9 1 v (n + 1) (ksC L ++ ksC [K]) ∧ ∀ k, v.ownBlock = some k → row = some k ∨ B ≤ k
  | 21 => v = .pointer (some ⟨G, 0, none⟩)
  | _ => True
theorem psiK1_stable {G B : Nat} {v0 : Value} {n : Nat} {L : List ByteArray} {K : ByteArray} {row : Option Nat} (hrow : ∀ k, row = some k → k < B) {t : Nat} {v : Value} {w w' : World} (h : psiK1 G B v0 n L K row t v w) (hb : KeepG 9 1 n (n + 1) (ksC L) (ksC L ++ ksC [K]) row w w') : psiK1 G B v0 n L K row t v w' := by
  by_cases e : t = 19
  · subst e
    obtain ⟨D, h1, h2, h3⟩ := h
    exact ⟨D, h1, h2, (hb.block D (Array.getElem?_eq_some_iff.1 h3).1 (fun e => by have := hrow D e.symm; omega)).trans h3⟩
  · by_cases e2 : t = 20
    · subst e2
      exact ⟨hb.k3 _ h.1, h.2⟩
    · unfold psiK1 at h ⊢
      split at h <;> first | exact h | exact absurd rfl e | exact absurd rfl e2 | trivial
def psiK2 (G A B : Nat) (v0 : Value) (n : Nat) (L : List Wq) (m : Wq) (row : Option Nat) (t : Nat) (v : Value) (W : World) : Prop :=
  match t with
  | 3 => v = .pointer (some ⟨G, 0, none⟩)
  | 7 => v = .pointer (some ⟨A, 0, none⟩)
  | 30 => v = .pointer (some ⟨G, 1, none⟩)
  | 31 => v = v0
  | 32 => v = .agg #[.string m.key, .bool m.gone, .string m.val]
  | 33 => v = .agg #[.string m.key, .bool m.gone, .string m.val]
  | 34 => ∃ gu, v = .slice (some ⟨gu, 0, none⟩) 1 1 ∧ B ≤ gu ∧ W.heap[gu]? = some (.cells m.cells.toArray 64 (0, 0))
  | 35 => W.ownsRow 0 64 3 v (n + 1) (wqCells L ++ wqCells [m]) ∧ ∀ k, v.ownBlock = some k → row = some k ∨ B ≤ k
  | 36 => v = .pointer (some ⟨G, 1, none⟩)
  | _ => True
theorem psiK2_stable {G A B : Nat} {v0 : Value} {n : Nat} {L : List Wq} {m : Wq} {row : Option Nat} (hrow : ∀ k, row = some k → k < B) {t : Nat} {v : Value} {w w' : World} (h : psiK2 G A B v0 n L m row t v w) (hb : KeepG 64 3 n (n + 1) (wqCells L) (wqCells L ++ wqCells [m]) row w w') : psiK2 G A B v0 n L m row t v w' := by
  by_cases e : t = 34
  · subst e
    obtain ⟨D, h1, h2, h3⟩ := h
    exact ⟨D, h1, h2, (hb.block D (Array.getElem?_eq_some_iff.1 h3).1 (fun e => by have := hrow D e.symm; omega)).trans h3⟩
  · by_cases e2 : t = 35
    · subst e2
      exact ⟨hb.k3 _ h.1, h.2⟩
    · unfold psiK2 at h ⊢
      split at h <;> first | exact h | exact absurd rfl e | exact absurd rfl e2 | trivial
end Go.Proofs.Ytdldplhfpianhaa
