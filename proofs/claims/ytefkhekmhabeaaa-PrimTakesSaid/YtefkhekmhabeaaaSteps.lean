/-
  Plain mathematics: what a run of takings tells, step by step. No program stands here.
-/
import Derived.Test.YtefkhekmhabeaaaCursorFixed
namespace Go.Proofs.Ytefkhekmhabeaaa
open Go.RowKit

/-- A step: its kind, its size, which way round. -/
abbrev Stp := Nat × Int × Bool

/-- What a step tells (a number, a text), and what it leaves (the bytes, and whether it is bad). -/
def stepA (s : ByteArray) (bad : Bool) (z : Stp) : Nat × ByteArray × ByteArray × Bool :=
  if z.1 % 4 = 0 then ((cUint s bad).1, ByteArray.empty, (cUint s bad).2)
  else if z.1 % 4 = 1 then ((cFixed s bad z.2.1 z.2.2).1, ByteArray.empty, (cFixed s bad z.2.1 z.2.2).2)
  else if z.1 % 4 = 2 then (0, (cBytes s bad z.2.1).1, (cBytes s bad z.2.1).2)
  else (0, (cText s bad).1, (cText s bad).2)

def dflt : Stp := (0, 0, false)

/-- What k steps leave. -/
def stAt (s : ByteArray) (zs : List Stp) : Nat → ByteArray × Bool
  | 0 => (s, false)
  | k + 1 => (stepA (stAt s zs k).1 (stAt s zs k).2 (zs.getD k dflt)).2.2

/-- What step k tells. -/
def ansAt (s : ByteArray) (zs : List Stp) (k : Nat) : Nat × ByteArray × ByteArray × Bool := stepA (stAt s zs k).1 (stAt s zs k).2 (zs.getD k dflt)

theorem stAt_succ (s : ByteArray) (zs : List Stp) (k : Nat) : stAt s zs (k + 1) = (ansAt s zs k).2.2 := rfl

theorem valB_nil (big : Bool) : valB [] big = 0 := by unfold valB; split <;> rfl

theorem cBytes_bad (s : ByteArray) (n : Int) : cBytes s true n = (ByteArray.empty, s, true) := by simp [cBytes]
theorem cFixed_bad (s : ByteArray) (n : Int) (big : Bool) : cFixed s true n big = (0, s, true) := by
  unfold cFixed
  rw [cBytes_bad]
  split
  · rfl
  · show (valB [] big, s, true) = _
    rw [valB_nil]

/-- A bad one stays so, and tells nothing. -/
theorem stepA_bad (s : ByteArray) (z : Stp) : stepA s true z = (0, ByteArray.empty, s, true) := by
  unfold stepA
  rw [cFixed_bad, cBytes_bad, show cUint s true = (0, s, true) by simp [cUint], show cText s true = (ByteArray.empty, s, true) by simp [cText]]
  split
  · rfl
  split
  · rfl
  split <;> rfl

theorem cUint_le (s : ByteArray) (bad : Bool) : (cUint s bad).2.1.size ≤ s.size := by
  unfold cUint; split
  · exact Nat.le_refl _
  split
  · exact Nat.le_refl _
  · simp
theorem cBytes_le (s : ByteArray) (bad : Bool) (n : Int) : (cBytes s bad n).2.1.size ≤ s.size := by
  unfold cBytes; split
  · exact Nat.le_refl _
  · simp
theorem cFixed_le (s : ByteArray) (bad : Bool) (n : Int) (big : Bool) : (cFixed s bad n big).2.1.size ≤ s.size := by
  unfold cFixed; split
  · exact Nat.le_refl _
  · exact cBytes_le s bad n
theorem cText_le (s : ByteArray) (bad : Bool) : (cText s bad).2.1.size ≤ s.size := by
  unfold cText; split
  · exact Nat.le_refl _
  · simp; omega
theorem stepA_le (s : ByteArray) (bad : Bool) (z : Stp) : (stepA s bad z).2.2.1.size ≤ s.size := by
  unfold stepA
  split
  · exact cUint_le s bad
  split
  · exact cFixed_le s bad _ _
  split
  · exact cBytes_le s bad _
  · exact cText_le s bad
theorem stAt_le (s : ByteArray) (zs : List Stp) (k : Nat) : (stAt s zs k).1.size ≤ s.size := by
  induction k with
  | zero => exact Nat.le_refl _
  | succ k ih => exact Nat.le_trans (stepA_le _ _ _) ih

/-- What the document's Run finds of one step, ahead of asking whether it was bad: so and so many bytes are taken, or none can be. -/
def Found (s : ByteArray) (z : Stp) (x : Nat) (y : ByteArray) (kk : Int) : Prop :=
  (kk = -1 ∧ stepA s false z = (0, ByteArray.empty, s, true)) ∨ ∃ K : Nat, kk = K ∧ K ≤ s.size ∧ stepA s false z = (x, y, s.extract K s.size, false)

theorem found_uint_no {s : ByteArray} {z : Stp} (hz : z.1 % 4 = 0) (h : tkK s.data.toList = 0) : Found s z 0 ByteArray.empty (-1) :=
  .inl ⟨rfl, by unfold stepA cUint; rw [if_pos hz]; simp [h]⟩
theorem found_uint {s : ByteArray} {z : Stp} (hz : z.1 % 4 = 0) (h : ¬ tkK s.data.toList = 0) : Found s z (tkN s.data.toList) ByteArray.empty (tkK s.data.toList) :=
  .inr ⟨_, rfl, by have := tkK_le s.data.toList; rwa [list_size] at this, by unfold stepA cUint; rw [if_pos hz]; simp [h]⟩
theorem found_fixed_no {s : ByteArray} {z : Stp} (hz : z.1 % 4 = 1) (h : ¬ (1 ≤ z.2.1 ∧ z.2.1 ≤ 8 ∧ z.2.1 ≤ s.size)) : Found s z 0 ByteArray.empty (-1) := by
  refine .inl ⟨rfl, ?_⟩
  unfold stepA cFixed
  rw [if_neg (by omega), if_pos hz]
  by_cases h1 : z.2.1 < 1 ∨ 8 < z.2.1
  · rw [if_pos h1]
  · rw [if_neg h1]
    have hc : cBytes s false z.2.1 = (ByteArray.empty, s, true) := by unfold cBytes; rw [if_pos (by omega)]
    rw [hc]
    show (valB [] z.2.2, _) = _
    rw [valB_nil]
theorem found_fixed {s : ByteArray} {z : Stp} {K : Nat} (hz : z.1 % 4 = 1) (hk : z.2.1 = K) (h : 1 ≤ K ∧ K ≤ 8 ∧ K ≤ s.size) : Found s z (valB (s.data.toList.take K) z.2.2) ByteArray.empty K := by
  have ex : s.data.toList.take K = (s.extract 0 K).data.toList := by simp
  rw [ex]
  refine .inr ⟨K, rfl, h.2.2, ?_⟩
  unfold stepA cFixed
  rw [if_neg (by omega), if_pos hz, if_neg (by omega), hk]
  have hc : cBytes s false K = (s.extract 0 K, s.extract K s.size, false) := by unfold cBytes; rw [if_neg (by simp; omega)]; simp
  rw [hc]
theorem found_bytes_no {s : ByteArray} {z : Stp} (hz : z.1 % 4 = 2) (h : ¬ (0 ≤ z.2.1 ∧ z.2.1 ≤ s.size)) : Found s z 0 ByteArray.empty (-1) := by
  refine .inl ⟨rfl, ?_⟩
  unfold stepA
  rw [if_neg (by omega), if_neg (by omega), if_pos hz]
  have hc : cBytes s false z.2.1 = (ByteArray.empty, s, true) := by unfold cBytes; rw [if_pos (by omega)]
  rw [hc]
theorem found_bytes {s : ByteArray} {z : Stp} {K : Nat} (hz : z.1 % 4 = 2) (hk : z.2.1 = K) (h : K ≤ s.size) : Found s z 0 (s.extract 0 K) K := by
  refine .inr ⟨K, rfl, h, ?_⟩
  unfold stepA
  rw [if_neg (by omega), if_neg (by omega), if_pos hz, hk]
  have hc : cBytes s false K = (s.extract 0 K, s.extract K s.size, false) := by unfold cBytes; rw [if_neg (by simp; omega)]; simp
  rw [hc]
theorem found_text_no {s : ByteArray} {z : Stp} (hz : z.1 % 4 = 3) (h : tkK s.data.toList = 0 ∨ s.size - tkK s.data.toList < tkN s.data.toList) : Found s z 0 ByteArray.empty (-1) := by
  refine .inl ⟨rfl, ?_⟩
  unfold stepA
  rw [if_neg (by omega), if_neg (by omega), if_neg (by omega)]
  have hc : cText s false = (ByteArray.empty, s, true) := by unfold cText; rw [if_pos (.inr h)]
  rw [hc]
theorem found_text {s : ByteArray} {z : Stp} (hz : z.1 % 4 = 3) (h0 : ¬ tkK s.data.toList = 0) (h : tkN s.data.toList ≤ s.size - tkK s.data.toList) :
    Found s z 0 (s.extract (tkK s.data.toList) (tkK s.data.toList + tkN s.data.toList)) ((tkK s.data.toList + tkN s.data.toList : Nat) : Int) := by
  have hk := tkK_le s.data.toList
  rw [list_size] at hk
  refine .inr ⟨_, rfl, by omega, ?_⟩
  unfold stepA
  rw [if_neg (by omega), if_neg (by omega), if_neg (by omega)]
  have hc : cText s false = (s.extract (tkK s.data.toList) (tkK s.data.toList + tkN s.data.toList), s.extract (tkK s.data.toList + tkN s.data.toList) s.size, false) := by
    unfold cText
    rw [if_neg (by rintro (h | h | h) <;> first | omega | simp at h)]
    refine Prod.ext ?_ (Prod.ext ?_ rfl)
    · apply ByteArray.ext
      simp only [ByteArray.data_extract, Array.extract_extract, Nat.add_zero]
      congr 1
      omega
    · apply ByteArray.ext
      simp only [ByteArray.data_extract, Array.extract_extract]
      congr 1
      omega
  rw [hc]
def nums (s : ByteArray) (zs : List Stp) (k : Nat) : List Value := (List.range k).map fun j => .int .u64 ((ansAt s zs j).1 : Nat)
def strs (s : ByteArray) (zs : List Stp) (k : Nat) : List Value := (List.range k).map fun j => .string (ansAt s zs j).2.1

theorem nums_zero (s : ByteArray) (zs : List Stp) : nums s zs 0 = [] := rfl
theorem strs_zero (s : ByteArray) (zs : List Stp) : strs s zs 0 = [] := rfl

theorem ans_of {s : ByteArray} {zs : List Stp} {k : Nat} {sk : ByteArray} {bk : Bool} {z : Stp} {A : Nat × ByteArray × ByteArray × Bool} (hst : stAt s zs k = (sk, bk)) (ez : zs.getD k dflt = z) (hA : stepA sk bk z = A) : ansAt s zs k = A := by
  unfold ansAt; rw [hst, ez]; exact hA

theorem stepA0 {s : ByteArray} {b : Bool} {z : Stp} (h : z.1 % 4 = 0) : stepA s b z = ((cUint s b).1, ByteArray.empty, (cUint s b).2.1, (cUint s b).2.2) := by unfold stepA; rw [if_pos h]
theorem stepA1 {s : ByteArray} {b : Bool} {z : Stp} (h : z.1 % 4 = 1) : stepA s b z = ((cFixed s b z.2.1 z.2.2).1, ByteArray.empty, (cFixed s b z.2.1 z.2.2).2.1, (cFixed s b z.2.1 z.2.2).2.2) := by unfold stepA; rw [if_neg (by omega), if_pos h]
theorem stepA2 {s : ByteArray} {b : Bool} {z : Stp} (h : z.1 % 4 = 2) : stepA s b z = (0, (cBytes s b z.2.1).1, (cBytes s b z.2.1).2.1, (cBytes s b z.2.1).2.2) := by unfold stepA; rw [if_neg (by omega), if_neg (by omega), if_pos h]
theorem stepA3 {s : ByteArray} {b : Bool} {z : Stp} (h : z.1 % 4 = 3) : stepA s b z = (0, (cText s b).1, (cText s b).2.1, (cText s b).2.2) := by unfold stepA; rw [if_neg (by omega), if_neg (by omega), if_neg (by omega)]

theorem step_next {s : ByteArray} {zs : List Stp} {k : Nat} {sk : ByteArray} {bk : Bool} {z : Stp} {X : Nat} {Y s' : ByteArray} {b' : Bool} (hst : stAt s zs k = (sk, bk)) (ez : zs.getD k dflt = z)
    (hA : stepA sk bk z = (X, Y, s', b')) : stAt s zs (k + 1) = (s', b') ∧ nums s zs (k + 1) = nums s zs k ++ [.int .u64 X] ∧ strs s zs (k + 1) = strs s zs k ++ [.string Y] := by
  have ha : ansAt s zs k = (X, Y, s', b') := by unfold ansAt; rw [hst, ez]; exact hA
  refine ⟨?_, ?_, ?_⟩
  · rw [stAt_succ, ha]
  · unfold nums
    rw [List.range_succ, List.map_append]
    simp [ha]
  · unfold strs
    rw [List.range_succ, List.map_append]
    simp [ha]

theorem own_ne {w : World} {B B' e e' size size' n n' : Nat} {v v' : Value} {xs xs' : List Value} (h : w.ownsRow B e size v n xs) (h' : w.ownsRow B' e' size' v' n' xs') (hne : e ≠ e') :
    v.ownBlock = none ∨ v.ownBlock ≠ v'.ownBlock := by
  rcases h.2 with ⟨rfl, _⟩ | ⟨g, cap, cur, rfl, _, hg, _⟩
  · exact .inl rfl
  · right
    rcases h'.2 with ⟨rfl, _⟩ | ⟨g', cap', cur', rfl, _, hg', _⟩
    · simp [Value.ownBlock]
    · simp only [Value.ownBlock, ne_eq, Option.some.injEq]
      rintro rfl
      rw [hg] at hg'
      simp only [Option.some.injEq, Obj.cells.injEq] at hg'
      exact hne hg'.2.1
end Go.Proofs.Ytefkhekmhabeaaa
