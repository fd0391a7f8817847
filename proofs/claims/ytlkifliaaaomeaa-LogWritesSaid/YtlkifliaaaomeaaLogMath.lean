/-
  Records of a log as lists of bytes; what stands; no program stands here.
-/
import Derived.Test.YtlkifliaaaomeaaFixMath
import Derived.Test.YtlkifliaaaomeaaCrcMath
namespace Go.Proofs.Ytlkifliaaaomeaa
set_option linter.unusedVariables false
set_option linter.unnecessarySimpa false
set_option linter.unusedSimpArgs false
set_option maxRecDepth 100000

theorem lfx_length (n size : Nat) (big : Bool) : (fx n size big).length = size := by rw [fx, cellsF_length]
/-- A record's bytes: how many, their sum, they. -/
def recB (l : List UInt8) : List UInt8 := fx l.length 2 true ++ fx (sumB (fx l.length 2 true ++ l)) 4 true ++ l
theorem recB_length (l : List UInt8) : (recB l).length = l.length + 6 := by
  unfold recB
  rw [List.length_append, List.length_append, lfx_length, lfx_length]; omega
/-- How many bytes the record that comes next says it has. -/
def sayN (b : List UInt8) : Nat := (b.getD 0 0).toNat * 256 + (b.getD 1 0).toNat
/-- The record that comes next, if one does. -/
def nextR (b : List UInt8) : Option (List UInt8) :=
  if b.length ≤ 6 then none else if sayN b < 1 ∨ 4000 < sayN b ∨ b.length < 6 + sayN b then none
  else if recB ((b.drop 6).take (sayN b)) = b.take (6 + sayN b) then some ((b.drop 6).take (sayN b)) else none
theorem nextR_some {b r : List UInt8} (h : nextR b = some r) : 6 < b.length ∧ 1 ≤ sayN b ∧ sayN b ≤ 4000 ∧ 6 + sayN b ≤ b.length ∧ r = (b.drop 6).take (sayN b) ∧ recB r = b.take (6 + sayN b) := by
  unfold nextR at h
  by_cases h1 : b.length ≤ 6
  · rw [if_pos h1] at h; cases h
  rw [if_neg h1] at h
  by_cases h2 : sayN b < 1 ∨ 4000 < sayN b ∨ b.length < 6 + sayN b
  · rw [if_pos h2] at h; cases h
  rw [if_neg h2] at h
  by_cases h3 : recB ((b.drop 6).take (sayN b)) = b.take (6 + sayN b)
  · rw [if_pos h3] at h
    injection h with h
    subst h
    exact ⟨by omega, by omega, by omega, by omega, rfl, h3⟩
  · rw [if_neg h3] at h; cases h
theorem nextR_len {b r : List UInt8} (h : nextR b = some r) : r.length = sayN b := by
  obtain ⟨_, _, _, h4, h5, _⟩ := nextR_some h
  rw [h5, List.length_take, List.length_drop]; omega
/-- What stands, by steps. -/
def standsF : Nat → List UInt8 → List (List UInt8)
  | 0, _ => []
  | k + 1, b => match nextR b with
    | none => []
    | some r => r :: standsF k (b.drop (6 + r.length))
def stands (b : List UInt8) : List (List UInt8) := standsF b.length b
def endOf : List (List UInt8) → Nat
  | [] => 0
  | r :: l => 6 + r.length + endOf l
theorem endOf_snoc (l : List (List UInt8)) (r : List UInt8) : endOf (l ++ [r]) = endOf l + (6 + r.length) := by
  induction l with
  | nil => simp [endOf]
  | cons x l ih => rw [List.cons_append, endOf, endOf, ih]; omega
theorem standsF_none {k : Nat} {b : List UInt8} (h : nextR b = none) : standsF k b = [] := by cases k <;> simp [standsF, h]
theorem standsF_enough : ∀ (k m : Nat) (b : List UInt8), b.length ≤ k → b.length ≤ m → standsF k b = standsF m b
  | 0, m, b, h, _ => by
    have : nextR b = none := by unfold nextR; rw [if_pos (by omega)]
    rw [standsF_none this, standsF_none this]
  | k + 1, 0, b, _, h => by
    have : nextR b = none := by unfold nextR; rw [if_pos (by omega)]
    rw [standsF_none this, standsF_none this]
  | k + 1, m + 1, b, h1, h2 => by
    rw [standsF, standsF]
    cases h : nextR b with
    | none => rfl
    | some r =>
      simp only
      rw [standsF_enough k m _ (by rw [List.length_drop]; omega) (by rw [List.length_drop]; omega)]
theorem stands_none {b : List UInt8} (h : nextR b = none) : stands b = [] := standsF_none h
theorem stands_some {b r : List UInt8} (h : nextR b = some r) : stands b = r :: stands (b.drop (6 + r.length)) := by
  have hl := nextR_some h
  unfold stands
  obtain ⟨n, hn⟩ : ∃ n, b.length = n + 1 := ⟨b.length - 1, by omega⟩
  rw [hn, standsF, h]
  simp only
  rw [standsF_enough n (b.drop (6 + r.length)).length _ (by rw [List.length_drop]; omega) (Nat.le_refl _)]
end Go.Proofs.Ytlkifliaaaomeaa
