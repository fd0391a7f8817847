/-
  Sectors of bytes, as mathematics: bytes cut into pieces of 64; sectors of which some were written anew. No program stands here.
-/
import Derived.Test.YtlkifliaaaomeaaLogContracts
namespace Go.Proofs.Ytlkifliaaaomeaa
open Go.RowKit
set_option linter.unusedVariables false
set_option linter.unnecessarySimpa false
set_option linter.unusedSimpArgs false
set_option maxRecDepth 100000

/-- Bytes in n pieces of 64. -/
def pieces (F : List UInt8) : Nat → List (List UInt8)
  | 0 => []
  | n + 1 => F.take 64 :: pieces (F.drop 64) n
theorem pieces_length : ∀ (n : Nat) (F : List UInt8), (pieces F n).length = n
  | 0, _ => rfl
  | n + 1, F => by rw [pieces, List.length_cons, pieces_length]
theorem pieces_flat : ∀ (n : Nat) (F : List UInt8), F.length = 64 * n → (pieces F n).flatten = F
  | 0, F, h => by have : F = [] := List.length_eq_zero_iff.1 (by omega); rw [this]; rfl
  | n + 1, F, h => by
    rw [pieces, List.flatten_cons, pieces_flat n _ (by rw [List.length_drop]; omega), List.take_append_drop]
theorem pieces_at : ∀ (n : Nat) (F : List UInt8) (i : Nat), i < n → (pieces F n).getD i [] = (F.drop (i * 64)).take 64
  | 0, _, _, h => by omega
  | n + 1, F, 0, _ => by rw [pieces, List.getD_cons_zero, Nat.zero_mul, List.drop_zero]
  | n + 1, F, i + 1, h => by
    rw [pieces, List.getD_cons_succ, pieces_at n _ i (by omega), List.drop_drop]
    congr 2; omega
theorem flat_at : ∀ (l : List (List UInt8)) (i : Nat), (∀ s ∈ l, s.length = 64) → i < l.length → (l.flatten.drop (i * 64)).take 64 = l.getD i []
  | [], i, _, h => by simp at h
  | s :: l, 0, h, _ => by
    rw [Nat.zero_mul, List.drop_zero, List.flatten_cons, List.getD_cons_zero, List.take_append_of_le_length (by rw [h s (by simp)]; omega), List.take_of_length_le (by rw [h s (by simp)]; omega)]
  | s :: l, i + 1, h, hi => by
    rw [List.flatten_cons, List.getD_cons_succ, show (i + 1) * 64 = s.length + i * 64 by rw [h s (by simp)]; omega, List.drop_length_add_append, flat_at l i (fun t ht => h t (by simp [ht])) (by simpa using hi)]
theorem flat_take64 : ∀ (l : List (List UInt8)) (i : Nat), (∀ s ∈ l, s.length = 64) → i ≤ l.length → (l.take i).flatten = l.flatten.take (64 * i)
  | l, 0, _, _ => by simp
  | [], i + 1, _, h => by simp at h
  | s :: l, i + 1, h, hi => by
    rw [List.take_succ_cons, List.flatten_cons, List.flatten_cons, flat_take64 l i (fun t ht => h t (by simp [ht])) (by simpa using hi), show 64 * (i + 1) = s.length + 64 * i by rw [h s (by simp)]; omega, List.take_length_add_append]
theorem flat_drop64 : ∀ (l : List (List UInt8)) (i : Nat), (∀ s ∈ l, s.length = 64) → i ≤ l.length → (l.drop i).flatten = l.flatten.drop (64 * i)
  | l, 0, _, _ => by simp
  | [], i + 1, _, h => by simp at h
  | s :: l, i + 1, h, hi => by
    rw [List.drop_succ_cons, List.flatten_cons, flat_drop64 l i (fun t ht => h t (by simp [ht])) (by simpa using hi), show 64 * (i + 1) = s.length + 64 * i by rw [h s (by simp)]; omega, List.drop_length_add_append]

/-- Sectors, from the f-th on i of which are C's. -/
def part (s C : List (List UInt8)) (f i : Nat) : List (List UInt8) := s.take f ++ (C.take i ++ s.drop (f + i))
theorem part_zero (s C : List (List UInt8)) (f : Nat) : part s C f 0 = s := by unfold part; simp
theorem part_length {s C : List (List UInt8)} {f i : Nat} (h : f + i ≤ s.length) (hC : i ≤ C.length) : (part s C f i).length = s.length := by
  unfold part
  simp only [List.length_append, List.length_take, List.length_drop]
  omega
theorem part_at {s C : List (List UInt8)} {f i : Nat} (h : f + i < s.length) (hC : i < C.length) : (part s C f i).getD (f + i) [] = s.getD (f + i) [] := by
  unfold part
  rw [List.getD, List.getD, List.getElem?_append_right (by rw [List.length_take]; omega), List.getElem?_append_right (by rw [List.length_take, List.length_take]; omega), List.getElem?_drop]
  congr 2
  simp only [List.length_take]
  omega
theorem part_step {s C : List (List UInt8)} {f i : Nat} (h : f + i < s.length) (hC : i < C.length) : (part s C f i).set (f + i) (C.getD i []) = part s C f (i + 1) := by
  unfold part
  have h1 : (s.take f).length = f := by rw [List.length_take]; omega
  have h2 : (C.take i).length = i := by rw [List.length_take]; omega
  rw [List.set_append_right _ _ (by omega), h1, List.set_append_right _ _ (by omega), h2, show f + i - f - i = 0 by omega]
  congr 1
  rw [List.take_add_one, List.getElem?_eq_getElem hC, List.getD, List.getElem?_eq_getElem hC, List.drop_eq_getElem_cons h]
  simp only [List.set_cons_zero, Option.getD_some, Option.toList_some, List.append_assoc, List.singleton_append]
  rw [show f + (i + 1) = f + i + 1 by omega]
theorem part_same {s C : List (List UInt8)} {f i : Nat} (h : f + i < s.length) (hC : i < C.length) (he : C.getD i [] = s.getD (f + i) []) : part s C f i = part s C f (i + 1) := by
  have hl := part_length (s := s) (C := C) (f := f) (i := i) (by omega) (by omega)
  rw [← part_step h hC, he, ← part_at h hC]
  apply List.ext_getElem?
  intro j
  rw [List.getElem?_set]
  split
  · rename_i hj
    subst hj
    rw [if_pos (by omega), List.getD, List.getElem?_eq_getElem (by omega)]
    simp
  · rfl
/-- .. all of whose bytes. -/
theorem part_flat {s C : List (List UInt8)} {f : Nat} (hs : ∀ t ∈ s, t.length = 64) (h : f + C.length ≤ s.length) :
    (part s C f C.length).flatten = s.flatten.take (64 * f) ++ (C.flatten ++ s.flatten.drop (64 * (f + C.length))) := by
  unfold part
  rw [List.flatten_append, List.flatten_append, flat_take64 s f hs (by omega), flat_drop64 s _ hs h, List.take_length]

/-- Bytes with noughts behind, cut at a place within the noughts. -/
theorem zeros_cut {all F : List UInt8} {N k : Nat} (h : F = all ++ List.replicate N 0) (hk : all.length ≤ k) (hN : k ≤ all.length + N) : F.drop k = List.replicate (all.length + N - k) 0 := by
  obtain ⟨m, rfl⟩ : ∃ m, k = all.length + m := ⟨k - all.length, by omega⟩
  rw [h, List.drop_length_add_append, List.drop_replicate]
  congr 1; omega
end Go.Proofs.Ytlkifliaaaomeaa
