/-
  Plain mathematics of Pack: parts that were found make the bytes again; no program stands here.
-/
import Derived.Test.YtplobffkelmokaaSet19
namespace Go.Proofs.Ytplobffkelmokaa
open Go.RowKit
set_option linter.unusedVariables false
set_option linter.unnecessarySimpa false
set_option linter.unusedSimpArgs false
set_option maxRecDepth 100000

theorem take_next {b : List UInt8} {k : Nat} (h : k < b.length) : b.take (k + 1) = b.take k ++ [b.getD k 0] := by
  rw [List.take_add_one, List.getElem?_eq_getElem h]
  simp [List.getD, List.getElem?_eq_getElem h]
theorem take_getD {b : List UInt8} {k j : Nat} (h : j < k) : (b.take k).getD j 0 = b.getD j 0 := by
  simp only [List.getD, List.getElem?_take]
  rw [if_pos h]
theorem copy_take {b : List UInt8} {f a m : Nat} (h1 : f < a) (h2 : a + m ≤ b.length) (h3 : ∀ i, i < m → b.getD (f + i) 0 = b.getD (a + i) 0) : ∀ i, i ≤ m → copyTo i (a - f) (b.take a) = b.take (a + i)
  | 0, _ => rfl
  | i + 1, hi => by
    have ih := copy_take h1 h2 h3 i (by omega)
    have hl : (b.take (a + i)).length = a + i := by rw [List.length_take]; omega
    rw [copyTo, ih, hl, take_getD (by omega), show a + i - (a - f) = f + i by omega, h3 i (by omega), ← Nat.add_assoc, take_next (by omega)]

/-- The parts' bytes so far, and how far they have come. -/
def PInv (b P : List UInt8) (own : Nat) : Prop :=
  ∃ c, c % 2 = 0 ∧ (c = 0 → own = 0) ∧ c ≤ P.length ∧ own ≤ b.length ∧ P.length ≤ 8 * own ∧ ∀ R F, uRun (F + c) b.length 0 [] (P ++ R) = uRun F b.length c (b.take own) R
theorem PInv.start (b : List UInt8) : PInv b [] 0 := ⟨0, rfl, fun _ => rfl, Nat.le_refl _, Nat.zero_le _, Nat.le_refl _, fun R F => by simp⟩
theorem PInv.bound {b P : List UInt8} {own : Nat} (h : PInv b P own) : P.length ≤ 8 * own ∧ own ≤ b.length := by
  obtain ⟨c, _, _, _, h1, h2, _⟩ := h
  exact ⟨h2, h1⟩

/-- Plain bytes, in the run. -/
theorem run_lit {b R : List UInt8} {own a F c : Nat} (hc : c % 2 = 0) (h0 : c = 0 ∨ own < b.length) (h1 : own ≤ a) (h2 : a ≤ b.length) (h64 : b.length < 18446744073709551616) :
    uRun (F + 1) b.length c (b.take own) (ub (a - own) ++ (b.drop own).take (a - own) ++ R) = uRun F b.length (c + 1) (b.take a) R := by
  have hol : (b.take own).length = own := by rw [List.length_take]; omega
  have hSl : ((b.drop own).take (a - own)).length = a - own := by rw [List.length_take, List.length_drop]; omega
  have hk : tk (ub (a - own) ++ (b.drop own).take (a - own) ++ R) = some (a - own, (ub (a - own)).length) := by rw [List.append_assoc]; exact tk_front _ _ (by omega)
  have hd : (ub (a - own) ++ (b.drop own).take (a - own) ++ R).drop (ub (a - own)).length = (b.drop own).take (a - own) ++ R := by rw [List.append_assoc, List.drop_left]
  have e0 : (c % 2 == 1) = false := by rw [beq_eq_false_iff_ne]; omega
  have hs := step_lit (n := b.length) (out := b.take own) hk
  rw [hd, if_pos (by rw [List.length_append, hSl, hol]; omega)] at hs
  have e1 : ((b.drop own).take (a - own) ++ R).take (a - own) = (b.drop own).take (a - own) := by
    rw [List.take_append_of_le_length (by omega)]
    rw [List.take_of_length_le (by omega)]
  have e2 : ((b.drop own).take (a - own) ++ R).drop (a - own) = R := by
    conv => lhs; rw [show a - own = ((b.drop own).take (a - own)).length from hSl.symm]
    rw [hSl, List.drop_append_of_le_length (by omega), List.drop_of_length_le (by omega)]
    rfl
  have e3 : b.take own ++ (b.drop own).take (a - own) = b.take a := by
    conv => rhs; rw [show a = own + (a - own) by omega]
    rw [List.take_add]
  rw [e1, e2, e3] at hs
  exact uRun_some (by rw [hol]; exact h0) (by rw [e0]; exact hs)
/-- A copy, in the run. -/
theorem run_copy {b R : List UInt8} {f a m F c : Nat} (hc : c % 2 = 1) (h1 : f < a) (h3 : 4 ≤ m) (h4 : a + m ≤ b.length) (h5 : ∀ i, i < m → b.getD (f + i) 0 = b.getD (a + i) 0) (h64 : b.length < 18446744073709551616) :
    uRun (F + 1) b.length c (b.take a) (ub (a - f) ++ ub m ++ R) = uRun F b.length (c + 1) (b.take (a + m)) R := by
  have hol : (b.take a).length = a := by rw [List.length_take]; omega
  have hk : tk (ub (a - f) ++ ub m ++ R) = some (a - f, (ub (a - f)).length) := by rw [List.append_assoc]; exact tk_front _ _ (by omega)
  have hd : (ub (a - f) ++ ub m ++ R).drop (ub (a - f)).length = ub m ++ R := by rw [List.append_assoc, List.drop_left]
  have hk2 : tk ((ub (a - f) ++ ub m ++ R).drop (ub (a - f)).length) = some (m, (ub m).length) := by rw [hd]; exact tk_front _ _ (by omega)
  have hs := step_copy (n := b.length) (out := b.take a) hk hk2
  rw [hd, if_pos (by rw [hol]; omega), List.drop_left, copy_take h1 h4 h5 m (Nat.le_refl _)] at hs
  have e0 : (c % 2 == 1) = true := by rw [beq_iff_eq]; exact hc
  exact uRun_some (by rw [hol]; omega) (by rw [e0]; exact hs)

theorem PInv.step {b P : List UInt8} {own f a m : Nat} (h : PInv b P own) (h1 : own ≤ a) (h2 : f < a) (h3 : 4 ≤ m) (h4 : a + m ≤ b.length) (h5 : ∀ i, i < m → b.getD (f + i) 0 = b.getD (a + i) 0) (h64 : b.length < 18446744073709551616) :
    PInv b (P ++ (ub (a - own) ++ (b.drop own).take (a - own)) ++ (ub (a - f) ++ ub m)) (a + m) := by
  obtain ⟨c, hc, hz, hcl, hol, hpl, hr⟩ := h
  have u1 := ub_len10 (n := a - own) (by omega)
  have u2 := ub_len10 (n := a - f) (by omega)
  have u3 := ub_len10 (n := m) (by omega)
  have p1 := ub_pos (a - own)
  have p2 := ub_pos (a - f)
  have hSl : ((b.drop own).take (a - own)).length = a - own := by rw [List.length_take, List.length_drop]; omega
  refine ⟨c + 2, by omega, by omega, ?_, h4, ?_, fun R F => ?_⟩
  · simp only [List.length_append]; omega
  · simp only [List.length_append, hSl]; omega
  · have e := hr ((ub (a - own) ++ (b.drop own).take (a - own)) ++ ((ub (a - f) ++ ub m) ++ R)) (F + 2)
    rw [show F + (c + 2) = F + 2 + c by omega]
    rw [show P ++ (ub (a - own) ++ (b.drop own).take (a - own)) ++ (ub (a - f) ++ ub m) ++ R = P ++ ((ub (a - own) ++ (b.drop own).take (a - own)) ++ ((ub (a - f) ++ ub m) ++ R)) by simp only [List.append_assoc]]
    rw [e, show F + 2 = (F + 1) + 1 from rfl, run_lit hc (.inr (by omega)) h1 (by omega) h64, run_copy (by omega) h2 h3 h4 h5 h64]

theorem unp_in {n : Nat} {rest : List UInt8} (h : n ≤ 60000) : unp (ub n ++ 1 :: rest) = match uRun (rest.length + 1) n 0 [] rest with
    | none => ([], 2)
    | some o => (o, 0) := by
  have hk := tk_front n (1 :: rest) (by omega)
  have hd : (ub n ++ 1 :: rest).drop (ub n).length = 1 :: rest := List.drop_left
  unfold unp
  rw [hk]
  simp only
  rw [if_neg (by omega), hd]
  simp only
  rw [if_neg (by rintro ⟨e, _⟩; cases e), if_neg (by decide)]
  cases uRun (rest.length + 1) n 0 [] rest <;> rfl
theorem run_end {b : List UInt8} {F c : Nat} (hc : c ≠ 0) : uRun (F + 1) b.length c b [] = some b := by
  rw [uRun_end (by rintro (h | h) <;> omega)]
  exact if_pos rfl
theorem unp_stored {b : List UInt8} (h : b.length ≤ 60000) : unp (ub b.length ++ 0 :: b) = (b, 0) := by
  have hk := tk_front b.length (0 :: b) (by omega)
  have hd : (ub b.length ++ 0 :: b).drop (ub b.length).length = 0 :: b := List.drop_left
  unfold unp
  rw [hk]
  simp only
  rw [if_neg (by omega), hd]
  simp
theorem PInv.done {b P : List UInt8} (h : PInv b P b.length) (hb : b.length ≤ 60000) (h0 : 0 < b.length) : unp (ub b.length ++ 1 :: P) = (b, 0) := by
  obtain ⟨c, hc, hz, hcl, hol, hpl, hr⟩ := h
  have e := hr [] (P.length - c + 1)
  rw [List.append_nil, show P.length - c + 1 + c = P.length + 1 by omega, List.take_length, run_end (by intro h; exact absurd (hz h) (by omega))] at e
  rw [unp_in hb, e]
theorem PInv.last {b P : List UInt8} {own : Nat} (h : PInv b P own) (hb : b.length ≤ 60000) (h0 : own < b.length) : unp (ub b.length ++ 1 :: (P ++ (ub (b.length - own) ++ b.drop own))) = (b, 0) := by
  obtain ⟨c, hc, hz, hcl, hol, hpl, hr⟩ := h
  have p1 := ub_pos (b.length - own)
  have e := hr (ub (b.length - own) ++ b.drop own) ((P.length + (ub (b.length - own)).length + (b.drop own).length) - c - 1 + 1 + 1)
  have hlen : (P ++ (ub (b.length - own) ++ b.drop own)).length + 1 = (P.length + (ub (b.length - own)).length + (b.drop own).length) - c - 1 + 1 + 1 + c := by
    simp only [List.length_append]; omega
  have hlit := run_lit (b := b) (R := []) (own := own) (a := b.length) (F := (P.length + (ub (b.length - own)).length + (b.drop own).length) - c - 1 + 1) hc (.inr h0) (by omega) (Nat.le_refl _) (by omega)
  rw [List.append_nil, List.take_of_length_le (show (b.drop own).length ≤ b.length - own by rw [List.length_drop]; omega), List.take_length, run_end (by omega)] at hlit
  rw [unp_in hb, hlen, e, hlit]
end Go.Proofs.Ytplobffkelmokaa
