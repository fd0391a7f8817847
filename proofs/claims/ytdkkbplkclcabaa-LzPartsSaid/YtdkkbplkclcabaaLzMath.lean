/-
  Plain mathematics of layer 4: what packed bytes mean; no program stands here.
-/
import Derived.Test.YtdkkbplkclcabaaTakeMath
import Derived.Test.YtdkkbplkclcabaaFixMath
import Derived.Lib.Strings
namespace Go.Proofs.Ytdkkbplkclcabaa
open Go.RowKit
set_option linter.unnecessarySimpa false
set_option linter.unusedVariables false
set_option linter.unusedSimpArgs false
set_option maxRecDepth 100000

/-- i bytes more, each the one that stands d ahead of it. -/
def copyTo : Nat → Nat → List UInt8 → List UInt8
  | 0, _, o => o
  | i + 1, d, o => copyTo i d o ++ [(copyTo i d o).getD ((copyTo i d o).length - d) 0]
theorem copyTo_len (i d : Nat) (o : List UInt8) : (copyTo i d o).length = o.length + i := by
  induction i with
  | zero => rfl
  | succ i ih => rw [copyTo, List.length_append, ih]; rfl

/-- One part: of n bytes, 'copy' telling which kind comes next. -/
def uStep (n : Nat) (copy : Bool) (out rest : List UInt8) : Option (List UInt8 × List UInt8) :=
  match tk rest with
  | none => none
  | some (v, m) =>
    if copy then
      match tk (rest.drop m) with
      | none => none
      | some (w, l) => if 1 ≤ v ∧ v ≤ out.length ∧ 4 ≤ w ∧ w ≤ n - out.length then some (copyTo w v out, (rest.drop m).drop l) else none
    else if v ≤ (rest.drop m).length ∧ v ≤ n - out.length then some (out ++ (rest.drop m).take v, (rest.drop m).drop v) else none

def uRun : Nat → Nat → Nat → List UInt8 → List UInt8 → Option (List UInt8)
  | 0, _, _, _, _ => none
  | f + 1, n, t, out, rest =>
    if t = 0 ∨ out.length < n then
      match uStep n (t % 2 == 1) out rest with
      | none => none
      | some (o, r) => uRun f n (t + 1) o r
    else if rest = [] then some out else none

/-- What packed bytes mean, or the error. -/
def unp (s : List UInt8) : List UInt8 × Int :=
  match tk s with
  | none => ([], 2)
  | some (n, k) =>
    if 60000 < n then ([], 3) else
    match s.drop k with
    | [] => ([], 2)
    | how :: rest =>
      if how = 0 ∧ rest.length = n then (rest, 0) else if ¬ how = 1 then ([], 2) else
      match uRun (rest.length + 1) n 0 [] rest with
      | none => ([], 2)
      | some o => (o, 0)

theorem uStep_less {n : Nat} {c : Bool} {out rest o r : List UInt8} (h : uStep n c out rest = some (o, r)) (hn : out.length ≤ n) : r.length < rest.length ∧ o.length ≤ n := by
  unfold uStep at h
  cases h1 : tk rest with
  | none => rw [h1] at h; cases h
  | some p =>
    obtain ⟨v, m⟩ := p
    have h2 := tk_some h1
    rw [h1] at h
    simp only at h
    cases c
    · simp only [Bool.false_eq_true, if_false] at h
      split at h
      · rename_i hc
        injection h with h
        injection h with e1 e2
        subst e1 e2
        simp only [List.length_drop, List.length_append, List.length_take] at *
        omega
      · cases h
    · simp only [if_true] at h
      cases h3 : tk (rest.drop m) with
      | none => rw [h3] at h; cases h
      | some p =>
        obtain ⟨w, l⟩ := p
        have h4 := tk_some h3
        rw [h3] at h
        simp only at h
        split at h
        · rename_i hc
          injection h with h
          injection h with e1 e2
          subst e1 e2
          simp only [List.length_drop, copyTo_len] at *
          omega
        · cases h

theorem uRun_go {f n t : Nat} {out rest : List UInt8} (h : t = 0 ∨ out.length < n) : uRun (f + 1) n t out rest = match uStep n (t % 2 == 1) out rest with
    | none => none
    | some (o, r) => uRun f n (t + 1) o r := by rw [uRun, if_pos h]
theorem uRun_end {f n t : Nat} {out rest : List UInt8} (h : ¬ (t = 0 ∨ out.length < n)) : uRun (f + 1) n t out rest = if rest = [] then some out else none := by rw [uRun, if_neg h]
theorem uRun_none {f n t : Nat} {out rest : List UInt8} (h : t = 0 ∨ out.length < n) (hs : uStep n (t % 2 == 1) out rest = none) : uRun (f + 1) n t out rest = none := by rw [uRun_go h, hs]
theorem uRun_some {f n t : Nat} {out rest o r : List UInt8} (h : t = 0 ∨ out.length < n) (hs : uStep n (t % 2 == 1) out rest = some (o, r)) : uRun (f + 1) n t out rest = uRun f n (t + 1) o r := by rw [uRun_go h, hs]

/-! A step's outcomes, by their conditions. -/
theorem step_bad {n : Nat} {c : Bool} {out rest : List UInt8} (h : tk rest = none) : uStep n c out rest = none := by unfold uStep; rw [h]
theorem step_lit {n v m : Nat} {out rest : List UInt8} (h : tk rest = some (v, m)) : uStep n false out rest = if v ≤ (rest.drop m).length ∧ v ≤ n - out.length then some (out ++ (rest.drop m).take v, (rest.drop m).drop v) else none := by
  unfold uStep; rw [h]; rfl
theorem step_copy_bad {n v m : Nat} {out rest : List UInt8} (h : tk rest = some (v, m)) (h2 : tk (rest.drop m) = none) : uStep n true out rest = none := by
  unfold uStep; rw [h]; simp only [if_true]; rw [h2]
theorem step_copy {n v m w l : Nat} {out rest : List UInt8} (h : tk rest = some (v, m)) (h2 : tk (rest.drop m) = some (w, l)) :
    uStep n true out rest = if 1 ≤ v ∧ v ≤ out.length ∧ 4 ≤ w ∧ w ≤ n - out.length then some (copyTo w v out, (rest.drop m).drop l) else none := by
  unfold uStep; rw [h]; simp only [if_true]; rw [h2]

theorem ext_drop (r : ByteArray) (m : Nat) : (r.extract m r.size).data.toList = r.data.toList.drop m := by
  simp only [ByteArray.data_extract, Array.toList_extract, List.extract_eq_drop_take']
  rw [show r.size = r.data.toList.length from Lib.size_eq r, List.take_length]
theorem ext_take (r : ByteArray) (v : Nat) : (r.extract 0 v).data.toList = r.data.toList.take v := by
  simp only [ByteArray.data_extract, Array.toList_extract, List.extract_eq_drop_take', List.drop_zero]
end Go.Proofs.Ytdkkbplkclcabaa
