/-
  Joined: PrtPMay, PrtPMayB, WqRow.
-/
import Derived.Test.YthcomfcbdlobpaaSet39
import Derived.Test.YthcomfcbdlobpaaSet01
import Derived.Test.YthcomfcbdlobpaaSet02
import Derived.Test.YthcomfcbdlobpaaSet04
namespace Go.Proofs.Ythcomfcbdlobpaa
open Go.RowKit Go.Maps Go.Shelf
set_option linter.unusedVariables false
set_option linter.unnecessarySimpa false
set_option linter.unusedSimpArgs false
set_option maxRecDepth 100000

theorem likes_cellW {w : World} {p : Addr} {v : Value} (hp : p.block < w.heap.size) (h : w.cell? p = some v) : ∀ x : Like w.heap.size w, x.val.cell? p = some v := fun x => (x.below.cell hp).trans h
section
variable {M : MvcC} {w : World} {r rs : Addr} {b : Nat} {mp ml : Option Nat} {S : List Im} {P : List Pd} {OS R : Nat → Prop}
set_option maxHeartbeats 2000000 in
theorem glater_any (h : PtM M w r rs b mp ml S P OS R) (m : Wq) (hk : m.key.size ≤ maxLen) (start : Nat) (G H : Nat) (hG : w.heap[G]? = some (.cells #[.pointer (some r)] 25 (0, 0))) (hH : w.heap[H]? = some (.cells #[.int .u64 (start : Int)] 37 (0, 0))) :
    Calls Try.prog 24 (#[wqV m] ++ #[.pointer (some ⟨G, 0, none⟩), .pointer (some ⟨H, 0, none⟩)]) w fun e w' => e = .returned (.bool (lateQ S start m)) ∧ Below w.heap.size w w' := by
  have hb0 := (Below.refl w.heap.size w).alloc (Nat.le_refl _) (.cells #[.string m.key, .bool m.gone, .string m.val] 51)
  have hr0 := heap_alloc_new w (.cells #[.string m.key, .bool m.gone, .string m.val] 51)
  obtain ⟨w1, hw1⟩ : ∃ w1, w1 = w.alloc (.cells #[.string m.key, .bool m.gone, .string m.val] 51) := ⟨_, rfl⟩
  rw [← hw1] at hb0 hr0
  have hG1 := (hb0.block G (Array.getElem?_eq_some_iff.1 hG).1).trans hG
  have hH1 := (hb0.block H (Array.getElem?_eq_some_iff.1 hH).1).trans hH
  have q0 : ∀ x : Like w1.heap.size w1, x.val.cell? ⟨G, 0, none⟩ = some (.pointer (some r)) := likes_cellW (Array.getElem?_eq_some_iff.1 hG1).1 (by rw [cell_of_row _ _ _ _ _ _ hG1]; rfl)
  have q1 : ∀ x : Like w1.heap.size w1, x.val.cell? ⟨H, 0, none⟩ = some (.int .u64 (start : Int)) := likes_cellW (Array.getElem?_eq_some_iff.1 hH1).1 (by rw [cell_of_row _ _ _ _ _ _ hH1]; rfl)
  have q2 : ∀ x : Like w1.heap.size w1, x.val.cell? ⟨w.heap.size, 0, none⟩ = some (.string m.key) := likes_cellW (Array.getElem?_eq_some_iff.1 hr0).1 (cells3 hr0).1
  have HST := Lib.hid (show ∀ x : Like w1.heap.size w1, Calls Try.prog 15 #[.pointer (some r)] x.val fun e w' => e = .returned (.pointer (some rs)) ∧ w' = x.val from fun x => (gstore_any ((h.below hb0).below x.below)).mono fun _ _ hh => ⟨hh.1, hh.2.symm⟩)
  have HLA := Lib.hid (show ∀ x : Like w1.heap.size w1, Calls Try.prog 25 #[.pointer (some rs), .string m.key] x.val fun e w' => e = .returned (.int .u64 ((lastOf m.key S).1 : Int)) ∧ Below x.val.heap.size x.val w' from fun x => M.last ((h.below hb0).below x.below).store m.key hk)
  unfold lateQ
  obtain ⟨L, hL⟩ : ∃ L, L = (lastOf m.key S).1 := ⟨_, rfl⟩
  rw [← hL] at HLA ⊢
  have HB := Lib.hid hb0
  obtain ⟨A, hA⟩ : ∃ A, A = w.heap.size := ⟨_, rfl⟩
  rw [← hA] at q2
  unfold wqV
  obtain ⟨K, g, V⟩ := m
  simp only at *
  clear hG hH h hb0 hr0 hL hG1 hH1
  have hcmp : ∀ B : Bool, B = decide (start < L) → (decide ((start : Int) < (L : Int))) = B := fun B e => by rw [e, decide_eq_decide]; omega
  have hc2 := hcmp _ rfl
  clear hcmp
  show Calls Try.prog 24 #[.agg #[.string K, .bool g, .string V], .pointer (some ⟨G, 0, none⟩), .pointer (some ⟨H, 0, none⟩)] w _
  go_enter Try.func24, Try.ntmps24
  go_upto_region 1 with fail
  rw [← hw1, ← hA]
  clear hw1 hA
  refine region_likes (by kernel_rfl) (by kernel_rfl) ?_
  repeat (first
    | (go_big_quiet_step (first
        | (go_at_call 15; with_reducible exact calls_likes_same (HST.out _))
        | (go_at_call 25; with_reducible exact calls_likes (Like.size _) (HLA.out _)))))
  refine wpQuiet_nil ?_
  intro x
  have hb4 := Lib.hid (HB.out.trans (x.below.mono HB.out.size))
  go_wp2_with fail
  go_ret
  exact ⟨rfl, hb4.out⟩
set_option maxHeartbeats 2000000 in
theorem gfull_any (h : PtM M w r rs b mp ml S P OS R) (m : Wq) (hk : m.key.size ≤ maxLen) (G : Nat) (hG : w.heap[G]? = some (.cells #[.pointer (some r)] 25 (0, 0))) :
    Calls Try.prog 26 (#[wqV m] ++ #[.pointer (some ⟨G, 0, none⟩)]) w fun e w' => e = .returned (.bool (fullQ S m)) ∧ Below w.heap.size w w' := by
  have hb0 := (Below.refl w.heap.size w).alloc (Nat.le_refl _) (.cells #[.string m.key, .bool m.gone, .string m.val] 51)
  have hr0 := heap_alloc_new w (.cells #[.string m.key, .bool m.gone, .string m.val] 51)
  obtain ⟨w1, hw1⟩ : ∃ w1, w1 = w.alloc (.cells #[.string m.key, .bool m.gone, .string m.val] 51) := ⟨_, rfl⟩
  rw [← hw1] at hb0 hr0
  have hG1 := (hb0.block G (Array.getElem?_eq_some_iff.1 hG).1).trans hG
  have q0 : ∀ x : Like w1.heap.size w1, x.val.cell? ⟨G, 0, none⟩ = some (.pointer (some r)) := likes_cellW (Array.getElem?_eq_some_iff.1 hG1).1 (by rw [cell_of_row _ _ _ _ _ _ hG1]; rfl)
  have q2 : ∀ x : Like w1.heap.size w1, x.val.cell? ⟨w.heap.size, 0, none⟩ = some (.string m.key) := likes_cellW (Array.getElem?_eq_some_iff.1 hr0).1 (cells3 hr0).1
  have HST := Lib.hid (show ∀ x : Like w1.heap.size w1, Calls Try.prog 15 #[.pointer (some r)] x.val fun e w' => e = .returned (.pointer (some rs)) ∧ w' = x.val from fun x => (gstore_any ((h.below hb0).below x.below)).mono fun _ _ hh => ⟨hh.1, hh.2.symm⟩)
  have HLA := Lib.hid (show ∀ x : Like w1.heap.size w1, Calls Try.prog 27 #[.pointer (some rs), .string m.key] x.val fun e w' => e = .returned (.bool (decide ((lastOf m.key S).2 < 200))) ∧ Below x.val.heap.size x.val w' from fun x => M.room ((h.below hb0).below x.below).store m.key hk)
  have hF : fullQ S m = !(decide ((lastOf m.key S).2 < 200)) := by
    unfold fullQ
    by_cases hh : (lastOf m.key S).2 < 200
    · rw [decide_eq_true hh, decide_eq_false (by omega)]; rfl
    · rw [decide_eq_false hh, decide_eq_true (by omega)]; rfl
  rw [hF]
  obtain ⟨L, hL⟩ : ∃ L, L = decide ((lastOf m.key S).2 < 200) := ⟨_, rfl⟩
  rw [← hL] at HLA ⊢
  have HB := Lib.hid hb0
  obtain ⟨A, hA⟩ : ∃ A, A = w.heap.size := ⟨_, rfl⟩
  rw [← hA] at q2
  unfold wqV
  obtain ⟨K, g, V⟩ := m
  simp only at *
  clear hG h hb0 hr0 hL hG1 hF
  show Calls Try.prog 26 #[.agg #[.string K, .bool g, .string V], .pointer (some ⟨G, 0, none⟩)] w _
  go_enter Try.func26, Try.ntmps26
  go_upto_region 1 with fail
  rw [← hw1, ← hA]
  clear hw1 hA
  refine region_likes (by kernel_rfl) (by kernel_rfl) ?_
  repeat (first
    | (go_big_quiet_step (first
        | (go_at_call 15; with_reducible exact calls_likes_same (HST.out _))
        | (go_at_call 27; with_reducible exact calls_likes (Like.size _) (HLA.out _)))))
  refine wpQuiet_nil ?_
  intro x
  have hb4 := Lib.hid (HB.out.trans (x.below.mono HB.out.size))
  go_wp2_with fail
  go_ret
  exact ⟨rfl, hb4.out⟩
end
/-! What one transaction may write. -/
def rightQ (ws : List Wq) : Bool := !(decide (ws.length < 1 ∨ 8 < ws.length)) && !((List.range ws.length).any (badB ws))
theorem dup_take (ws : List Wq) {i : Nat} (hi : i < ws.length) : (ws.take i).any (fun x => sameK x.key (ws.getD i wq0).key) = (List.range i).any (dupB ws i) := by
  rw [Bool.eq_iff_iff, range_any, List.any_eq_true]
  constructor
  · rintro ⟨x, hx, e⟩
    obtain ⟨k, hk, rfl⟩ := List.mem_iff_getElem.1 hx
    rw [List.length_take] at hk
    refine ⟨k, by omega, ?_⟩
    unfold dupB
    rw [List.getElem_take] at e
    rwa [show ws.getD k wq0 = ws[k]'(by omega) by rw [List.getD, List.getElem?_eq_getElem (by omega)]; rfl]
  · rintro ⟨k, hk, e⟩
    unfold dupB at e
    refine ⟨ws.getD k wq0, ?_, e⟩
    rw [List.getD, List.getElem?_eq_getElem (by omega)]
    exact List.mem_iff_getElem.2 ⟨k, by rw [List.length_take]; omega, by rw [List.getElem_take]; rfl⟩
theorem rightQ_bad {ws : List Wq} {i : Nat} (hi : i < ws.length) (h : badB ws i = true) : rightQ ws = false := by
  unfold rightQ
  rw [(range_any _ _).2 ⟨i, hi, h⟩]
  simp
theorem rightQ_ok {ws : List Wq} (h1 : ¬ ws.length < 1) (h2 : ¬ 8 < ws.length) (h : ∀ i, i < ws.length → badB ws i = false) : rightQ ws = true := by
  unfold rightQ
  rw [show (List.range ws.length).any (badB ws) = false from by
    rw [← Bool.not_eq_true]
    intro e
    obtain ⟨i, hi, e⟩ := (range_any _ _).1 e
    rw [h i hi] at e
    cases e]
  rw [decide_eq_false (by omega)]
  rfl
theorem rightQ_len {ws : List Wq} (h : ws.length < 1 ∨ 8 < ws.length) : rightQ ws = false := by
  unfold rightQ
  rw [decide_eq_true h]
  rfl

set_option maxHeartbeats 4000000 in
theorem gright_any (a : Option Addr) (n c : Nat) (ws : List Wq) (w : World) (h : IsWqs w a n c ws) (hn : n ≤ 1000) :
    Calls Try.prog 28 #[.slice a n c] w fun e w' => e = .returned (.bool (rightQ ws)) ∧ Below w.heap.size w w' := by
  have HZ := Lib.hid h
  have HL := Lib.hid h.1
  have hcap := h.2.2.1
  clear h
  by_cases h1 : n = 0
  · subst h1
    have HR := Lib.hid (rightQ_len (ws := ws) (.inl (by have := HL.out; omega)))
    clear HZ
    go_enter Try.func28, Try.ntmps28
    go_wp2_with fail
    go_ret
    exact ⟨by rw [HR.out]; rfl, Below.refl _ _⟩
  · have hz0 : ((n : Int) == 0) = false := by rw [beq_eq_false_iff_ne]; omega
    by_cases h2 : 8 < n
    · have HR := Lib.hid (rightQ_len (ws := ws) (.inr (by have := HL.out; omega)))
      have hz8 : (8 : Int) < (n : Int) := by omega
      clear HZ h1
      go_enter Try.func28, Try.ntmps28
      go_wp2_with fail
      go_ret
      exact ⟨by rw [HR.out]; rfl, Below.refl _ _⟩
    · have hz8 : ¬ (8 : Int) < (n : Int) := by omega
      go_enter Try.func28, Try.ntmps28
      go_wp2_with fail
      go_loopg [3, 4, 5, 16] n (fun gg _ _ _ s16 wr => ∃ i : Nat, i + gg = n ∧ s16 = .int .i64 i ∧ Hid (Below w.heap.size w wr) ∧ Hid (∀ j, j < i → badB ws j = false))
      case atStart => exact ⟨0, by omega, rfl, Lib.hid (Below.refl _ w), Lib.hid (fun j hj => absurd hj (Nat.not_lt_zero _))⟩
      case round =>
        obtain ⟨i, hg, rfl, HB, HA⟩ := hrel
        by_cases hlt : i < n
        · obtain ⟨k, rfl⟩ : ∃ k, gk = k + 1 := ⟨gk - 1, by omega⟩
          have hltz : (i : Int) < (n : Int) := by omega
          have hci : (i : Int) ≤ (c : Int) := by omega
          have hci2 : i ≤ c := by omega
          have HZW := Lib.hid (HZ.out.below HB.out)
          obtain ⟨b, off, rfl, hbl, hk1, hk2, q0, q1, q2⟩ := HZW.out.2.2.2 i hlt
          obtain ⟨m, hm⟩ : ∃ m, m = ws.getD i wq0 := ⟨_, rfl⟩
          have hdup := dup_take ws (i := i) (by have := HL.out; omega)
          rw [← hm] at hk1 hk2 q0 q1 q2 hdup
          have hbad : badB ws i = ((List.range i).any (dupB ws i) || (m.gone && !m.val.toList.isEmpty)) := by rw [hm]; rfl
          rw [← hdup] at hbad
          obtain ⟨K, G, V⟩ := m
          simp only at q0 q1 q2 hbad
          have hb1 := (Below.refl wr.heap.size wr).alloc (Nat.le_refl _) (.cells #[.string K, .bool G, .string V] 51)
          have hr1 := heap_alloc_new wr (.cells #[.string K, .bool G, .string V] 51)
          obtain ⟨w1, hw1⟩ : ∃ w1, w1 = wr.alloc (.cells #[.string K, .bool G, .string V] 51) := ⟨_, rfl⟩
          rw [← hw1] at hb1 hr1
          obtain ⟨A, hA⟩ : ∃ A, A = wr.heap.size := ⟨_, rfl⟩
          rw [← hA] at hr1
          have HC := Lib.hid (gcontains_any 47 #[.pointer (some ⟨A, 0, none⟩)] (enters_of Try.func47 (by kernel_rfl) rfl) (fun x => sameK x.key K) (some ⟨b, off, none⟩) i c (ws.take i) w1 ((HZW.out.below hb1).take (by omega))
            (fun W j hj hb => gsame_any _ K G V A W ((hb.block A (Array.getElem?_eq_some_iff.1 hr1).1).trans hr1)) (by omega))
          have HBR := Lib.hid (HB.out.trans (hb1.mono HB.out.size))
          obtain ⟨D, hD⟩ : ∃ D, D = (ws.take i).any (fun x => sameK x.key K) := ⟨_, rfl⟩
          rw [← hD] at HC hbad
          obtain ⟨E, hE⟩ : ∃ E, E = V.toList.isEmpty := ⟨_, rfl⟩
          rw [← hE] at hbad
          have hE2 := hE.symm
          have hAl : A < w1.heap.size := (Array.getElem?_eq_some_iff.1 hr1).1
          have HR1 := Lib.hid (fun W (hb : Below w1.heap.size w1 W) => cells3 ((hb.block A hAl).trans hr1))
          have HBD := Lib.hid hbad
          clear hm hk1 hk2 hdup hbad hb1 hr1 hD hE
          go_upto_region 6 with fail
          rw [← hw1, ← hA]
          clear hw1 hA
          have hcase : D = true ∨ (D = false ∧ G = false) ∨ (D = false ∧ G = true ∧ E = false) ∨ (D = false ∧ G = true ∧ E = true) := by cases D <;> cases G <;> cases E <;> simp
          rcases hcase with rfl | ⟨rfl, rfl⟩ | ⟨rfl, rfl, rfl⟩ | ⟨rfl, rfl, rfl⟩
          · have HR := Lib.hid (rightQ_bad (ws := ws) (i := i) (by have := HL.out; omega) (by rw [HBD.out]; rfl))
            go_wp2_with (go_at_call 29; (with_reducible refine HC.out.mono ?_); rintro e w2 ⟨rfl, hb2⟩; obtain ⟨c0, c1, c2⟩ := HR1.out w2 hb2; have HB2 := Lib.hid (HBR.out.trans (hb2.mono HBR.out.size)); clear hb2)
            go_ret
            exact ⟨by rw [HR.out]; rfl, HB2.out⟩
          · have HN := Lib.hid (show badB ws i = false from by rw [HBD.out]; rfl)
            go_wp2_with (go_at_call 29; (with_reducible refine HC.out.mono ?_); rintro e w2 ⟨rfl, hb2⟩; obtain ⟨c0, c1, c2⟩ := HR1.out w2 hb2; have HB2 := Lib.hid (HBR.out.trans (hb2.mono HBR.out.size)); clear hb2)
            go_roundg k
            case measure => omega
            case rel =>
              refine ⟨i + 1, by omega, by go_num, HB2, Lib.hid (fun j hj => ?_)⟩
              by_cases e : j = i
              · subst e; exact HN.out
              · exact HA.out j (by omega)
          · have HR := Lib.hid (rightQ_bad (ws := ws) (i := i) (by have := HL.out; omega) (by rw [HBD.out]; rfl))
            go_wp2_with (go_at_call 29; (with_reducible refine HC.out.mono ?_); rintro e w2 ⟨rfl, hb2⟩; obtain ⟨c0, c1, c2⟩ := HR1.out w2 hb2; have HB2 := Lib.hid (HBR.out.trans (hb2.mono HBR.out.size)); clear hb2)
            go_ret
            exact ⟨by rw [HR.out]; rfl, HB2.out⟩
          · have HN := Lib.hid (show badB ws i = false from by rw [HBD.out]; rfl)
            go_wp2_with (go_at_call 29; (with_reducible refine HC.out.mono ?_); rintro e w2 ⟨rfl, hb2⟩; obtain ⟨c0, c1, c2⟩ := HR1.out w2 hb2; have HB2 := Lib.hid (HBR.out.trans (hb2.mono HBR.out.size)); clear hb2)
            go_roundg k
            case measure => omega
            case rel =>
              refine ⟨i + 1, by omega, by go_num, HB2, Lib.hid (fun j hj => ?_)⟩
              by_cases e : j = i
              · subst e; exact HN.out
              · exact HA.out j (by omega)
        · have hltz : ¬ (i : Int) < (n : Int) := by omega
          have HR := Lib.hid (rightQ_ok (ws := ws) (by have := HL.out; omega) (by have := HL.out; omega) (fun j hj => HA.out j (by have := HL.out; omega)))
          go_wp2_with fail
          go_ret
          exact ⟨by rw [HR.out]; rfl, HB.out⟩
end Go.Proofs.Ythcomfcbdlobpaa

namespace Go.Proofs.Ythcomfcbdlobpaa
open Go.RowKit Go.Maps Go.Shelf
set_option linter.unusedVariables false
set_option linter.unnecessarySimpa false
set_option linter.unusedSimpArgs false
set_option maxRecDepth 100000

theorem may_is (S : List Im) (P : List Pd) (t : Tn) (time : Nat) (ws : List Wq) : mayN S P t time ws =
    if atN t P < P.length then 0 else if rightQ ws = false then 1 else if ws.any longQ then 3 else if ws.any (fun m => lockedP m.key P) then 7 else if ws.any (lateQ S time) then 8 else if ws.any (fullQ S) then 11 else 0 := by
  unfold mayN mayP
  by_cases h0 : atN t P < P.length
  · rw [if_pos h0, if_pos h0]; rfl
  · rw [if_neg h0, if_neg h0]
    by_cases h1 : (List.range ws.length).any (badB ws) = true
    · rw [if_pos h1, if_pos (by unfold rightQ; rw [h1]; simp)]; rfl
    · rw [if_neg h1]
      have h1' : (List.range ws.length).any (badB ws) = false := by simpa using h1
      by_cases h2 : ws.length < 1 ∨ 8 < ws.length
      · rw [if_pos h2, if_pos (rightQ_len h2)]; rfl
      · have hq : rightQ ws = true := by unfold rightQ; rw [h1', decide_eq_false h2]; rfl
        rw [if_neg h2, hq]
        cases ws.any longQ <;> cases ws.any (fun m => lockedP m.key P) <;> cases ws.any (lateQ S time) <;> cases ws.any (fullQ S) <;> rfl
section
variable {M : MvcC} {w : World} {r rs : Addr} {b : Nat} {mp ml : Option Nat} {S : List Im} {P : List Pd} {OS R : Nat → Prop}
set_option maxHeartbeats 4000000 in
theorem gmay_any (h : PtM M w r rs b mp ml S P OS R) (t : Tn) (ht : t.ok) (start : Nat) (a : Option Addr) (n c : Nat) (ws : List Wq) (hw : IsWqs w a n c ws) (hn : n ≤ 1000) :
    Calls Try.prog 10 #[.pointer (some r), .agg t.cells, .int .u64 (start : Int), .slice a n c] w fun e w' => e = .returned (.int .i64 (mayN S P t start ws : Int)) ∧ Below w.heap.size w w' := by
  have hb0 := (((Below.refl w.heap.size w).alloc (Nat.le_refl _) (.cells #[.pointer (some r)] 25)).alloc (by simp) (.cells t.cells 36)).alloc (by simp; omega) (.cells #[.int .u64 (start : Int)] 37)
  have hA0 := heap_alloc_new w (.cells #[.pointer (some r)] 25)
  obtain ⟨u1, hu1⟩ : ∃ u1, u1 = w.alloc (.cells #[.pointer (some r)] 25) := ⟨_, rfl⟩
  rw [← hu1] at hb0 hA0
  have hs1 : u1.heap.size = w.heap.size + 1 := by rw [hu1]; simp
  have hB0 := heap_alloc_new u1 (.cells t.cells 36)
  have hA1 := (Below.heap_alloc u1 (.cells t.cells 36) _ (by omega)).trans hA0
  obtain ⟨u2, hu2⟩ : ∃ u2, u2 = u1.alloc (.cells t.cells 36) := ⟨_, rfl⟩
  rw [← hu2] at hb0 hB0 hA1
  have hs2 : u2.heap.size = w.heap.size + 2 := by rw [hu2]; simp; omega
  have hC0 := heap_alloc_new u2 (.cells #[.int .u64 (start : Int)] 37)
  have hA2 := (Below.heap_alloc u2 (.cells #[.int .u64 (start : Int)] 37) _ (by omega)).trans hA1
  have hB2 := (Below.heap_alloc u2 (.cells #[.int .u64 (start : Int)] 37) _ (by omega)).trans hB0
  obtain ⟨w1, hw1⟩ : ∃ w1, w1 = u2.alloc (.cells #[.int .u64 (start : Int)] 37) := ⟨_, rfl⟩
  rw [← hw1] at hb0 hC0 hA2 hB2
  rw [hs1] at hB2
  rw [hs2] at hC0
  obtain ⟨A, hA⟩ : ∃ A, A = w.heap.size := ⟨_, rfl⟩
  rw [← hA] at hA2 hB2 hC0 hs1 hs2
  have hAl : A < w1.heap.size := (Array.getElem?_eq_some_iff.1 hA2).1
  have hBl : A + 1 < w1.heap.size := (Array.getElem?_eq_some_iff.1 hB2).1
  have hCl : A + 2 < w1.heap.size := (Array.getElem?_eq_some_iff.1 hC0).1
  have HH := fun W (hb : Below w1.heap.size w1 W) => (h.below hb0).below hb
  have HW := fun W (hb : Below w1.heap.size w1 W) => (hw.below hb0).below hb
  have HPR := Lib.hid (gprep_any (h.below hb0) t ht)
  have HRI := Lib.hid (fun W hb => gright_any a n c ws W (HW W hb) hn)
  have HC1 := Lib.hid (fun W (hb : Below w1.heap.size w1 W) => gcontains_any 30 #[] (enters_of Try.func30 (by kernel_rfl) rfl) longQ a n c ws W (HW W hb)
    (fun V i hi hv => glong_any _ V (hw.getSize hi).1 (hw.getSize hi).2) hn)
  have HC2 := Lib.hid (fun W (hb : Below w1.heap.size w1 W) => gcontains_any 31 #[.pointer (some ⟨A, 0, none⟩)] (enters_of Try.func31 (by kernel_rfl) rfl) (fun m => lockedP m.key P) a n c ws W (HW W hb)
    (fun V i hi hv => gbusy_any (HH V (hb.trans (hv.mono hb.size))) _ (hw.getSize hi).1 A (((hb.trans (hv.mono hb.size)).block A hAl).trans hA2)) hn)
  have HC3 := Lib.hid (fun W (hb : Below w1.heap.size w1 W) => gcontains_any 24 #[.pointer (some ⟨A, 0, none⟩), .pointer (some ⟨A + 1 + 1, 0, none⟩)] (enters_of Try.func24 (by kernel_rfl) rfl) (lateQ S start) a n c ws W (HW W hb)
    (fun V i hi hv => glater_any (HH V (hb.trans (hv.mono hb.size))) _ (hw.getSize hi).1 start A (A + 1 + 1) (((hb.trans (hv.mono hb.size)).block A hAl).trans hA2) (((hb.trans (hv.mono hb.size)).block (A + 2) hCl).trans hC0)) hn)
  have HC4 := Lib.hid (fun W (hb : Below w1.heap.size w1 W) => gcontains_any 26 #[.pointer (some ⟨A, 0, none⟩)] (enters_of Try.func26 (by kernel_rfl) rfl) (fullQ S) a n c ws W (HW W hb)
    (fun V i hi hv => gfull_any (HH V (hb.trans (hv.mono hb.size))) _ (hw.getSize hi).1 A (((hb.trans (hv.mono hb.size)).block A hAl).trans hA2)) hn)
  rw [may_is]
  have qA : w1.cell? ⟨A, 0, none⟩ = some (.pointer (some r)) := by rw [cell_of_row _ _ _ _ _ _ hA2]; rfl
  obtain ⟨q0, q1, q2⟩ := cells3 hB2
  obtain ⟨x0, hx0⟩ : ∃ x, x = decide (atN t P < P.length) := ⟨_, rfl⟩
  obtain ⟨x1, hx1⟩ : ∃ x, x = rightQ ws := ⟨_, rfl⟩
  obtain ⟨x2, hx2⟩ : ∃ x, x = ws.any longQ := ⟨_, rfl⟩
  obtain ⟨x3, hx3⟩ : ∃ x, x = ws.any (fun m => lockedP m.key P) := ⟨_, rfl⟩
  obtain ⟨x4, hx4⟩ : ∃ x, x = ws.any (lateQ S start) := ⟨_, rfl⟩
  obtain ⟨x5, hx5⟩ : ∃ x, x = ws.any (fullQ S) := ⟨_, rfl⟩
  rw [← hx0] at HPR
  rw [← hx1] at HRI
  rw [← hx2] at HC1
  rw [← hx3] at HC2
  rw [← hx4] at HC3
  rw [← hx5] at HC4
  have HN := Lib.hid (show (if atN t P < P.length then 0 else if rightQ ws = false then 1 else if ws.any longQ then 3 else if ws.any (fun m => lockedP m.key P) then 7 else if ws.any (lateQ S start) then 8 else if ws.any (fullQ S) then 11 else 0) =
    (if x0 = true then 0 else if x1 = false then 1 else if x2 = true then 3 else if x3 = true then 7 else if x4 = true then 8 else if x5 = true then 11 else 0) from by
      rw [hx0, hx1, hx2, hx3, hx4, hx5]
      simp)
  obtain ⟨N, hN⟩ : ∃ N, N = (if atN t P < P.length then 0 else if rightQ ws = false then 1 else if ws.any longQ then 3 else if ws.any (fun m => lockedP m.key P) then 7 else if ws.any (lateQ S start) then 8 else if ws.any (fullQ S) then 11 else 0) := ⟨_, rfl⟩
  rw [← hN] at HN ⊢
  have HB0 := Lib.hid hb0
  clear h hw hA0 hB0 hA1 hC0 hA2 hB2 hb0 HH HW hx0 hx1 hx2 hx3 hx4 hx5 hN ht
  obtain ⟨tn, tl, ts⟩ := t
  unfold Tn.cells at *
  simp only at *
  have HBR := Lib.hid (Below.refl w1.heap.size w1)
  have hcase : x0 = true ∨ (x0 = false ∧ x1 = false) ∨ (x0 = false ∧ x1 = true ∧ x2 = true) ∨ (x0 = false ∧ x1 = true ∧ x2 = false ∧ x3 = true) ∨ (x0 = false ∧ x1 = true ∧ x2 = false ∧ x3 = false ∧ x4 = true) ∨
      (x0 = false ∧ x1 = true ∧ x2 = false ∧ x3 = false ∧ x4 = false ∧ x5 = true) ∨ (x0 = false ∧ x1 = true ∧ x2 = false ∧ x3 = false ∧ x4 = false ∧ x5 = false) := by
    cases x0 <;> cases x1 <;> cases x2 <;> cases x3 <;> cases x4 <;> cases x5 <;> simp
  go_enter Try.func10, Try.ntmps10
  go_upto_region 1 with fail
  rw [← hA, ← hu1, ← hu2, ← hw1]
  clear hA hu1 hu2 hw1 hs1 hs2
  rcases hcase with rfl | ⟨rfl, rfl⟩ | ⟨rfl, rfl, rfl⟩ | ⟨rfl, rfl, rfl, rfl⟩ | ⟨rfl, rfl, rfl, rfl, rfl⟩ | ⟨rfl, rfl, rfl, rfl, rfl, rfl⟩ | ⟨rfl, rfl, rfl, rfl, rfl, rfl⟩
  all_goals
    obtain rfl : N = _ := HN.out
    clear HN
    go_wp2_with (first
      | (go_at_call 19; (with_reducible refine HPR.out.mono ?_); rintro e w2 ⟨rfl, hb2⟩; have HB2 := Lib.hid hb2; clear hb2)
      | (go_at_call 28; (with_reducible refine (HRI.out _ HB2.out).mono ?_); rintro e w3 ⟨rfl, hb3⟩; have HB3 := Lib.hid (HB2.out.trans (hb3.mono HB2.out.size)); clear hb3)
      | (go_at_call 29; (with_reducible refine (HC1.out _ HB3.out).mono ?_); rintro e w4 ⟨rfl, hb4⟩; have HB4 := Lib.hid (HB3.out.trans (hb4.mono HB3.out.size)); clear hb4)
      | (go_at_call 29; (with_reducible refine (HC2.out _ HB4.out).mono ?_); rintro e w5 ⟨rfl, hb5⟩; have HB5 := Lib.hid (HB4.out.trans (hb5.mono HB4.out.size)); clear hb5)
      | (go_at_call 29; (with_reducible refine (HC3.out _ HB5.out).mono ?_); rintro e w6 ⟨rfl, hb6⟩; have HB6 := Lib.hid (HB5.out.trans (hb6.mono HB5.out.size)); clear hb6)
      | (go_at_call 29; (with_reducible refine (HC4.out _ HB6.out).mono ?_); rintro e w7 ⟨rfl, hb7⟩; have HB7 := Lib.hid (HB6.out.trans (hb7.mono HB6.out.size)); clear hb7))
    go_ret
    refine ⟨rfl, ?_⟩
    first
      | exact HB0.out.trans (HB7.out.mono HB0.out.size)
      | exact HB0.out.trans (HB6.out.mono HB0.out.size)
      | exact HB0.out.trans (HB5.out.mono HB0.out.size)
      | exact HB0.out.trans (HB4.out.mono HB0.out.size)
      | exact HB0.out.trans (HB3.out.mono HB0.out.size)
      | exact HB0.out.trans (HB2.out.mono HB0.out.size)
end
end Go.Proofs.Ythcomfcbdlobpaa

namespace Go.Proofs.Ythcomfcbdlobpaa
open Go.RowKit
set_option linter.unusedVariables false
set_option linter.unnecessarySimpa false
set_option linter.unusedSimpArgs false
set_option maxRecDepth 100000

def Wq.cells (p : Wq) : List Value := [.string p.key, .bool p.gone, .string p.val]
def wqCells : List Wq → List Value
  | [] => []
  | m :: L => m.cells ++ wqCells L
theorem wqCells_len : ∀ L : List Wq, (wqCells L).length = L.length * 3
  | [] => rfl
  | m :: L => by rw [wqCells, List.length_append, wqCells_len L, List.length_cons]; simp [Wq.cells]; omega
theorem wqCells_app : ∀ L M : List Wq, wqCells (L ++ M) = wqCells L ++ wqCells M
  | [], _ => rfl
  | m :: L, M => by rw [List.cons_append, wqCells, wqCells, wqCells_app L M, List.append_assoc]
theorem wqCells_at : ∀ (L : List Wq) (i j : Nat), i < L.length → j < 3 → (wqCells L)[i * 3 + j]? = ((L.getD i wq0).cells)[j]?
  | [], i, j, hi, _ => by simp at hi
  | m :: L, 0, j, _, hj => by
    rw [wqCells, List.getElem?_append_left (by simp [Wq.cells]; omega)]
    simp
  | m :: L, i + 1, j, hi, hj => by
    rw [wqCells, List.getElem?_append_right (by simp [Wq.cells]; omega)]
    have := wqCells_at L i j (by simpa using hi) hj
    rw [show (i + 1) * 3 + j - m.cells.length = i * 3 + j by simp [Wq.cells]; omega, this]
    simp
theorem wqCells_one : ∀ (L : List Wq) (u : Value), u ∈ wqCells L → u.oneCell' = true
  | [], u, h => by simp [wqCells] at h
  | m :: L, u, h => by
    rw [wqCells, List.mem_append] at h
    rcases h with h | h
    · simp only [Wq.cells, List.mem_cons, List.not_mem_nil, or_false] at h
      rcases h with rfl | rfl | rfl <;> rfl
    · exact wqCells_one L u h
/-- The cells of what came in, from the k-th on. -/
theorem IsWqs.news {W : World} {b off len cap : Nat} {L : List Wq} (hz : IsWqs W (some ⟨b, off, none⟩) len cap L) (M : List Wq) (k : Nat) (hk : ∀ i, i < M.length → k + i < len ∧ M.getD i wq0 = L.getD (k + i) wq0) :
    ∀ j u, (wqCells M)[j]? = some u → W.cell? ((⟨b, off + k * 3, none⟩ : Addr).add j) = some u := by
  intro j u hu
  have hj : j < M.length * 3 := by rw [← wqCells_len]; exact (List.getElem?_eq_some_iff.1 hu).1
  have hd : j = (j / 3) * 3 + j % 3 := by omega
  have hi : j / 3 < M.length := by omega
  obtain ⟨hkl, hM⟩ := hk (j / 3) hi
  obtain ⟨b', off', ha, _, _, _, k0, k1, k2⟩ := hz.2.2.2 (k + j / 3) hkl
  simp only [Option.some.injEq, Addr.mk.injEq, and_true] at ha
  obtain ⟨rfl, rfl⟩ := ha
  have hm : j % 3 < 3 := Nat.mod_lt _ (by omega)
  rw [hd, wqCells_at M _ _ hi hm, hM] at hu
  have hadd : (⟨b, off + k * 3, none⟩ : Addr).add j = ⟨b, off + k * 3 + j, none⟩ := Addr.add_lit ..
  rw [hadd]
  obtain ⟨r, hr⟩ : ∃ r, r = j % 3 := ⟨_, rfl⟩
  rw [← hr] at hu hm hd
  have e : off + k * 3 + j = off + (k + j / 3) * 3 + r := by omega
  rw [e]
  have hcs : r = 0 ∨ r = 1 ∨ r = 2 := by omega
  rcases hcs with rfl | rfl | rfl
  · simp only [Wq.cells, List.getElem?_cons_zero] at hu; cases hu; exact k0
  · simp only [Wq.cells, List.getElem?_cons_succ, List.getElem?_cons_zero] at hu; cases hu; exact k1
  · simp only [Wq.cells, List.getElem?_cons_succ, List.getElem?_cons_zero] at hu; cases hu; exact k2
/-- A row of them is a slice of them. -/
theorem wqs_own {w : World} {B n c : Nat} {a : Option Addr} {L : List Wq} (h : w.ownsRow B 51 3 (.slice a n c) n (wqCells L)) (hn : L.length = n) (hl : n ≤ 100000) (hv : ∀ p ∈ L, p.key.size ≤ maxLen ∧ p.val.size ≤ maxLen) : IsWqs w a n c L := by
  have hcap : n ≤ c := by
    rcases h.2 with ⟨h1, h2⟩ | ⟨g, cap, cur, h1, _, _, h2, _⟩
    · omega
    · injection h1 with _ _ h1; omega
  refine ⟨hn, by unfold maxLen; omega, hcap, fun i hi => ?_⟩
  obtain ⟨g, cap, e, hg, hgl⟩ := own_slice h (by omega)
  injection e with e1 e2 e3
  subst e1 e3
  have hil : i < L.length := by omega
  have hm : L.getD i wq0 ∈ L := by rw [List.getD, List.getElem?_eq_getElem hil]; exact List.getElem_mem hil
  obtain ⟨k1, k2⟩ := hv _ hm
  have hc := fun j (hj : j < 3) => (h.cellAt (i * 3 + j) (by omega)).trans (wqCells_at L i j hil hj)
  have h0 := hc 0 (by omega)
  have h1 := hc 1 (by omega)
  have h2 := hc 2 (by omega)
  exact ⟨g, 0, rfl, hgl, k1, k2, by rw [Nat.zero_add]; exact h0, by rw [Nat.zero_add]; exact h1, by rw [Nat.zero_add]; exact h2⟩
theorem wqInfo : (Try.prog.info? 51).map (fun i => (i.zero, i.size, i.bytes)) = some (some (.agg #[.string ⟨#[]⟩, .bool false, .string ⟨#[]⟩]), 3, 40) := by kernel_rfl
theorem wqCells_set : ∀ (L : List Wq) (i : Nat) (m : Wq), i < L.length → (((wqCells L).set (i * 3) (.string m.key)).set (i * 3 + 1) (.bool m.gone)).set (i * 3 + 2) (.string m.val) = wqCells (L.set i m)
  | [], i, m, h => by simp at h
  | x :: L, 0, m, h => by
    simp [wqCells, Wq.cells]
  | x :: L, i + 1, m, h => by
    have ih := wqCells_set L i m (by simpa using h)
    simp only [wqCells, Wq.cells, List.set_cons_succ, List.cons_append, List.nil_append]
    rw [← ih, show (i + 1) * 3 = i * 3 + 1 + 1 + 1 by omega, show i * 3 + 1 + 1 + 1 + 1 = (i * 3 + 1) + 1 + 1 + 1 by omega, show i * 3 + 1 + 1 + 1 + 2 = (i * 3 + 2) + 1 + 1 + 1 by omega]
    simp only [List.set_cons_succ]
end Go.Proofs.Ythcomfcbdlobpaa
