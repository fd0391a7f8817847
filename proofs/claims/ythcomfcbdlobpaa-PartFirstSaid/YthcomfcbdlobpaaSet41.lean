/-
  The program's cloned.
-/
import Derived.Test.YthcomfcbdlobpaaSet40
import Derived.Test.YthcomfcbdlobpaaSet37
import Derived.Laws.MakeOwn
namespace Go.Proofs.Ythcomfcbdlobpaa
open Go.RowKit Go.Maps Go.Shelf
set_option linter.unusedVariables false
set_option linter.unnecessarySimpa false
set_option linter.unusedSimpArgs false
set_option maxRecDepth 100000

theorem wqC_empty (n : Nat) : madeCells #[.string ⟨#[]⟩, .bool false, .string ⟨#[]⟩] (n * 3) = (wqCells (List.replicate n wq0)).toArray := by
  apply Array.ext
  · rw [size_madeCells, List.size_toArray, wqCells_len, List.length_replicate]
  · intro i h1 h2
    rw [size_madeCells] at h1
    have h3 : i / 3 < n := by omega
    have h4 : i % 3 < 3 := Nat.mod_lt _ (by omega)
    have e := wqCells_at (List.replicate n wq0) (i / 3) (i % 3) (by simpa using h3) h4
    rw [show i / 3 * 3 + i % 3 = i by omega] at e
    rw [show (List.replicate n wq0).getD (i / 3) wq0 = wq0 by rw [List.getD, List.getElem?_replicate, if_pos h3]; rfl] at e
    have hl : i < (wqCells (List.replicate n wq0)).length := by rw [wqCells_len, List.length_replicate]; omega
    rw [List.getElem?_eq_getElem hl] at e
    have e2 : (madeCells #[Value.string ⟨#[]⟩, .bool false, .string ⟨#[]⟩] (n * 3))[i]? = (wq0.cells)[i % 3]? := by
      unfold madeCells
      rw [Array.getElem?_map, Array.getElem?_range, if_pos h1]
      have : i % 3 = 0 ∨ i % 3 = 1 ∨ i % 3 = 2 := by omega
      rcases this with h | h | h <;> simp [h, wq0, Wq.cells]
    rw [← e] at e2
    rw [Array.getElem?_eq_getElem (by rw [size_madeCells]; exact h1)] at e2
    injection e2
theorem w_mk (n : Nat) (h1 : n ≤ 1000) (w : World) :
    (Instr.makeSlice 38 (.int .i64 (n : Int)) (.int .i64 (n : Int))).run Try.prog w = .ok (.slice (some ⟨w.heap.size, 0, none⟩) n n) (w.alloc (.cells (wqCells (List.replicate n wq0)).toArray 51)) := by
  obtain ⟨i0, hi, hz0, hz1, hz2⟩ := info_parts wqInfo
  have := run_make (P := Try.prog) w 38 51 i0 (.agg #[.string ⟨#[]⟩, .bool false, .string ⟨#[]⟩]) Try.underlying38 hi hz0 .i64 .i64 (n : Int) (n : Int) (by omega) (Int.le_refl _) (by rw [hz2]; omega) (by omega)
  rw [this, hz1, ← wqC_empty]
  rfl
/-- A row of n writes, the first i of which are ws's. -/
def newW (ws : List Wq) (n i : Nat) : List Wq := ws.take i ++ List.replicate (n - i) wq0
theorem newW_zero (ws : List Wq) (n : Nat) : newW ws n 0 = List.replicate n wq0 := by simp [newW]
theorem newW_all {ws : List Wq} {n : Nat} (h : ws.length = n) : newW ws n n = ws := by simp [newW, ← h]
theorem newW_len {ws : List Wq} {n i : Nat} (h : ws.length = n) (hi : i ≤ n) : (newW ws n i).length = n := by simp [newW]; omega
theorem newW_next {ws : List Wq} {n i : Nat} (h : ws.length = n) (hi : i < n) : (newW ws n i).set i (ws.getD i wq0) = newW ws n (i + 1) := by
  unfold newW
  have e : (ws.take i).length = i := by rw [List.length_take]; omega
  rw [List.set_append_right _ _ (by omega), e, Nat.sub_self, show n - i = (n - (i + 1)) + 1 by omega, List.replicate_succ, List.set_cons_zero, List.take_add_one, List.getElem?_eq_getElem (by omega), List.append_assoc]
  rw [List.getD, List.getElem?_eq_getElem (by omega)]
  rfl
/-- The new row at g, in the midst. -/
structure CloW (w : World) (g : Nat) (L : List Wq) (W : World) : Prop where
  below : Below w.heap.size w W
  row : W.heap[g]? = some (.cells (wqCells L).toArray 51 (0, 0))
  le : w.heap.size ≤ g
section
variable {w W W2 : World} {g : Nat} {L : List Wq}
theorem CloW.later (h : CloW w g L W) (hb : Below W.heap.size W W2) : CloW w g L W2 :=
  ⟨h.below.trans (hb.mono h.below.size), (hb.block g (Array.getElem?_eq_some_iff.1 h.row).1).trans h.row, h.le⟩
theorem CloW.cells (h : CloW w g L W) {i : Nat} (hi : i < L.length) : W.cell? ⟨g, i * 3, none⟩ = some (.string (L.getD i wq0).key) ∧ W.cell? ⟨g, i * 3 + 1, none⟩ = some (.bool (L.getD i wq0).gone) ∧ W.cell? ⟨g, i * 3 + 2, none⟩ = some (.string (L.getD i wq0).val) ∧ ∀ j, W.frozen? ⟨g, j, none⟩ = false := by
  refine ⟨?_, ?_, ?_, fun j => frozen_of_row _ _ _ _ _ h.row⟩
  · rw [cell_of_row _ _ _ _ _ _ h.row, List.getElem?_toArray, show i * 3 = i * 3 + 0 from rfl, wqCells_at L i 0 hi (by omega)]; rfl
  · rw [cell_of_row _ _ _ _ _ _ h.row, List.getElem?_toArray, wqCells_at L i 1 hi (by omega)]; rfl
  · rw [cell_of_row _ _ _ _ _ _ h.row, List.getElem?_toArray, wqCells_at L i 2 hi (by omega)]; rfl
theorem CloW.set (h : CloW w g L W) {i : Nat} (hi : i < L.length) (m : Wq) : CloW w g (L.set i m) (((W.setCell ⟨g, i * 3, none⟩ (.string m.key)).setCell ⟨g, i * 3 + 1, none⟩ (.bool m.gone)).setCell ⟨g, i * 3 + 2, none⟩ (.string m.val)) := by
  refine ⟨((h.below.setCell (p := ⟨g, i * 3, none⟩) h.le _).setCell (p := ⟨g, i * 3 + 1, none⟩) h.le _).setCell (p := ⟨g, i * 3 + 2, none⟩) h.le _, ?_, h.le⟩
  have h1 := heap_setCell_same _ g (i * 3) _ _ (.string m.key) h.row
  have h2 := heap_setCell_same _ g (i * 3 + 1) _ _ (.bool m.gone) h1
  have h3 := heap_setCell_same _ g (i * 3 + 2) _ _ (.string m.val) h2
  rw [h3]
  simp only [List.setIfInBounds_toArray]
  rw [wqCells_set L i m hi]
theorem CloW.wqs (h : CloW w g L W) {n : Nat} (hl : L.length = n) (hn : n ≤ 1000) (hs : ∀ m ∈ L, m.key.size ≤ maxLen ∧ m.val.size ≤ maxLen) : IsWqs W (some ⟨g, 0, none⟩) n n L := by
  refine ⟨hl, by unfold maxLen; omega, Nat.le_refl _, fun i hi => ⟨g, 0, rfl, ?_⟩⟩
  obtain ⟨c0, c1, c2, _⟩ := h.cells (i := i) (by omega)
  obtain ⟨k1, k2⟩ := hs _ (getD_mem (i := i) (by omega) wq0)
  exact ⟨(Array.getElem?_eq_some_iff.1 h.row).1, k1, k2, by rw [Nat.zero_add]; exact c0, by rw [Nat.zero_add]; exact c1, by rw [Nat.zero_add]; exact c2⟩
end
theorem gclone_any (s : ByteArray) (w : World) (h : s.size ≤ 281474976710656) : Calls Try.prog 49 #[.string s] w fun e w' => e = .returned (.string s) ∧ Below w.heap.size w w' := by
  have H := Lib.hid (fun W => Try.stringslite_Clone s W h)
  clear h
  go_enter Try.func49, Try.ntmps49
  go_wp2_with (go_at_call 60; (with_reducible refine (H.out _).mono ?_); rintro e w1 ⟨rfl, hb1⟩)
  go_ret
  exact ⟨rfl, hb1⟩

set_option maxHeartbeats 4000000 in
theorem gcloned_any (a : Option Addr) (n c : Nat) (ws : List Wq) (w : World) (h : IsWqs w a n c ws) (hn : n ≤ 1000) (hs : ∀ m ∈ ws, m.key.size ≤ 1000 ∧ m.val.size ≤ 1000) :
    Calls Try.prog 33 #[.slice a n c] w fun e w' => ∃ g, e = .returned (.slice (some ⟨g, 0, none⟩) n n) ∧ w.heap.size ≤ g ∧ IsWqs w' (some ⟨g, 0, none⟩) n n ws ∧ Below w.heap.size w w' := by
  have HZ := Lib.hid h
  have HL := Lib.hid h.1
  have HSM := Lib.hid hs
  have HCL := Lib.hid (fun (s : ByteArray) W (h : s.size ≤ 1000) => gclone_any s W (by omega))
  have hmk := w_mk n hn w
  obtain ⟨Z, hZ⟩ : ∃ Z, Z = (wqCells (List.replicate n wq0)).toArray := ⟨_, rfl⟩
  rw [← hZ] at hmk
  have HZ0 := Lib.hid hZ
  clear h hs hZ
  go_enter Try.func33, Try.ntmps33
  go_upto_region 2 with fail
  clear hmk
  obtain ⟨w1, hw1⟩ : ∃ w1, w1 = w.alloc (.cells Z 51) := ⟨_, rfl⟩
  obtain ⟨g, hg⟩ : ∃ g, g = w.heap.size := ⟨_, rfl⟩
  have HC0 := Lib.hid (show CloW w g (newW ws n 0) w1 from ⟨by rw [hw1]; exact (Below.refl _ _).alloc (Nat.le_refl _) _, by rw [hw1, hg, newW_zero, ← HZ0.out]; exact heap_alloc_new w _, by omega⟩)
  have HGE := Lib.hid (Nat.le_of_eq hg.symm)
  rw [← hw1, ← hg]
  clear hw1 hg HZ0
  go_wp2_with fail
  go_loopg [4, 5, 11] n (fun gg _ _ s11 wr => ∃ i : Nat, i + gg = n ∧ s11 = .int .i64 i ∧ Hid (CloW w g (newW ws n i) wr))
  case atStart => exact ⟨0, by omega, rfl, HC0⟩
  case round =>
    obtain ⟨i, hg, rfl, HB⟩ := hrel
    by_cases hlt : i < n
    · obtain ⟨k, rfl⟩ : ∃ k, gk = k + 1 := ⟨gk - 1, by omega⟩
      have hltz : (i : Int) < (n : Int) := by omega
      obtain ⟨b, off, rfl, hbl, hk1, hk2, q0, q1, q2⟩ := (HZ.out.below HB.out.below).2.2.2 i hlt
      obtain ⟨m, hm⟩ : ∃ m, m = ws.getD i wq0 := ⟨_, rfl⟩
      have HMS := Lib.hid (HSM.out m (by rw [hm]; exact getD_mem (by have := HL.out; omega) wq0))
      have HNX := Lib.hid (show (newW ws n i).set i m = newW ws n (i + 1) from by rw [hm]; exact newW_next HL.out hlt)
      rw [← hm] at hk1 hk2 q0 q1 q2
      obtain ⟨K, G, V⟩ := m
      simp only at q0 q1 q2
      have hb1 := (Below.refl wr.heap.size wr).alloc (Nat.le_refl _) (.cells #[.string K, .bool G, .string V] 51)
      have hr1 := heap_alloc_new wr (.cells #[.string K, .bool G, .string V] 51)
      obtain ⟨w2, hw2⟩ : ∃ w2, w2 = wr.alloc (.cells #[.string K, .bool G, .string V] 51) := ⟨_, rfl⟩
      rw [← hw2] at hb1 hr1
      obtain ⟨A, hA⟩ : ∃ A, A = wr.heap.size := ⟨_, rfl⟩
      rw [← hA] at hr1
      have HB2 := Lib.hid (HB.out.later hb1)
      have hAl : A < w2.heap.size := (Array.getElem?_eq_some_iff.1 hr1).1
      obtain ⟨c0, c1, c2⟩ := cells3 hr1
      have hil : i < (newW ws n i).length := by rw [newW_len HL.out (by omega)]; exact hlt
      have HF := Lib.hid (fun W (hb : Below w2.heap.size w2 W) => And.intro (cells3 ((hb.block A hAl).trans hr1)) ((HB2.out.later hb).cells hil))
      have HD := Lib.hid (fun W (hb : Below w2.drew.heap.size w2.drew W) => (show Below w2.heap.size w2 W from undrewM hb))
      have HCK := Lib.hid (fun W => HCL.out K W HMS.out.1)
      have HCV := Lib.hid (fun W => HCL.out V W HMS.out.2)
      have HIL := Lib.hid hil
      clear hm hk1 hk2 hb1 hr1 hil
      go_upto_region 5 with fail
      rw [← hw2, ← hA]
      clear hw2 hA
      clear q0 q1 q2
      go_region_with (first
          | (go_at_call 49; (with_reducible refine (HCK.out _).mono ?_); rintro e w4 ⟨rfl, hb4⟩; have HB4 := Lib.hid (HB3.out.trans (hb4.mono HB3.out.size)); obtain ⟨⟨e0, e1, e2⟩, y0, y1, y2, yf⟩ := HF.out _ HB4.out; clear hb4)
          | (go_at_call 49; (with_reducible refine (HCV.out _).mono ?_); rintro e w4 ⟨rfl, hb4⟩; have HB4 := Lib.hid (HB3.out.trans (hb4.mono HB3.out.size)); obtain ⟨⟨e0, e1, e2⟩, y0, y1, y2, yf⟩ := HF.out _ HB4.out; clear hb4)
          | (go_at_call 49; (with_reducible refine (HCK.out _).mono ?_); rintro e w3 ⟨rfl, hb3⟩; have HB3 := Lib.hid (HD.out _ hb3); obtain ⟨⟨d0, d1, d2⟩, _⟩ := HF.out _ HB3.out; clear hb3)
          | (go_at_call 49; (with_reducible refine (HCV.out _).mono ?_); rintro e w3 ⟨rfl, hb3⟩; have HB3 := Lib.hid (HD.out _ hb3); obtain ⟨⟨d0, d1, d2⟩, _⟩ := HF.out _ HB3.out; clear hb3))
      all_goals
        have HN := Lib.hid ((HB2.out.later HB4.out).set HIL.out ⟨K, G, V⟩)
        rw [HNX.out] at HN
        go_wp2_with fail
        go_roundg k
        case measure => omega
        case rel => exact ⟨i + 1, by omega, by go_num, HN⟩
    · have hltz : ¬ (i : Int) < (n : Int) := by omega
      have hin : i = n := by omega
      subst hin
      go_wp2_with fail
      go_ret
      exact ⟨g, rfl, HGE.out, by have := HB.out; rw [newW_all HL.out] at this; exact this.wqs HL.out hn (fun m hm => by have := HSM.out m hm; unfold maxLen; omega), HB.out.below⟩
end Go.Proofs.Ythcomfcbdlobpaa
