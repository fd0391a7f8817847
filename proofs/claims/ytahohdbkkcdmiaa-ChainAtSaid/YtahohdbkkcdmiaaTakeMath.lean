/-
  Plain mathematics: a number taken off the head of bytes. No program stands here.
-/
import Derived.Test.YtahohdbkkcdmiaaMath
namespace Go.Proofs.Ytahohdbkkcdmiaa
set_option linter.unnecessarySimpa false
set_option linter.unusedVariables false
set_option linter.unusedSimpArgs false
set_option maxRecDepth 100000

/-- A number's bytes read on from place i, what stands ahead being worth acc: the number, and how many bytes it has. -/
def tkAux (i acc : Nat) : List UInt8 → Option (Nat × Nat)
  | [] => none
  | b :: r =>
    if i = 9 ∧ 1 < b.toNat then none
    else if 128 ≤ b.toNat then tkAux (i + 1) (acc + b.toNat % 128 * 128 ^ i) r
    else if b.toNat = 0 ∧ 0 < i then none else some (acc + b.toNat % 128 * 128 ^ i, i + 1)

def tk (l : List UInt8) : Option (Nat × Nat) := tkAux 0 0 l

theorem ofNat_eq {b : UInt8} {x : Nat} (h : b.toNat = x) : UInt8.ofNat x = b := by subst h; simp

theorem tkAux_some : ∀ (l : List UInt8) (i acc n k : Nat), i ≤ 9 → tkAux i acc l = some (n, k) →
    ∃ m, n = acc + m * 128 ^ i ∧ i < k ∧ k - i ≤ l.length ∧ l.take (k - i) = ub m ∧ m < 2 ^ (64 - 7 * i) ∧ (m = 0 → i = 0) ∧ k - i = (ub m).length := by
  intro l
  induction l with
  | nil => intro i acc n k _ h; simp [tkAux] at h
  | cons b r ih =>
    intro i acc n k hi h
    have hb := b.toNat_lt
    unfold tkAux at h
    by_cases h9 : i = 9 ∧ 1 < b.toNat
    · rw [if_pos h9] at h; simp at h
    rw [if_neg h9] at h
    by_cases h128 : 128 ≤ b.toNat
    · rw [if_pos h128] at h
      have hi' : i + 1 ≤ 9 := by omega
      obtain ⟨m, e1, e2, e3, e4, e5, e6, e7⟩ := ih (i + 1) _ n k hi' h
      have hm : m ≠ 0 := fun e => by have := e6 e; omega
      have hlt : ¬ b.toNat % 128 + 128 * m < 128 := by omega
      have hub : ub (b.toNat % 128 + 128 * m) = b :: ub m := by
        rw [ub_big hlt]
        congr 1
        · exact ofNat_eq (by omega)
        · congr 1; omega
      refine ⟨b.toNat % 128 + 128 * m, ?_, by omega, by simp only [List.length_cons]; omega, ?_, ?_, by omega, ?_⟩
      · rw [e1, Nat.pow_succ, Nat.add_mul, Nat.add_assoc]; congr 2; rw [Nat.mul_comm 128 m, Nat.mul_assoc, Nat.mul_comm 128]
      · rw [hub, show k - i = (k - (i + 1)) + 1 by omega, List.take_succ_cons, e4]
      · rw [show 64 - 7 * i = 7 + (64 - 7 * (i + 1)) by omega, Nat.pow_add]; omega
      · rw [hub, List.length_cons, ← e7]; omega
    · rw [if_neg h128] at h
      by_cases h0 : b.toNat = 0 ∧ 0 < i
      · rw [if_pos h0] at h; simp at h
      rw [if_neg h0] at h
      simp only [Option.some.injEq, Prod.mk.injEq] at h
      obtain ⟨rfl, rfl⟩ := h
      have hub : ub b.toNat = [b] := by rw [ub_small (by omega)]; simp
      refine ⟨b.toNat, by rw [Nat.mod_eq_of_lt (by omega)], by omega, by simp, by rw [hub]; simp, ?_, by omega, by rw [hub]; simp⟩
      by_cases e : i = 9
      · subst e; have : b.toNat ≤ 1 := by omega
        calc b.toNat ≤ 1 := this
          _ < _ := by decide
      · have h7 : (2 : Nat) ^ 7 ≤ 2 ^ (64 - 7 * i) := Nat.pow_le_pow_right (by decide) (by omega)
        omega

/-- What is taken as a number is a number's bytes. -/
theorem tk_some {l : List UInt8} {n k : Nat} (h : tk l = some (n, k)) : l.take k = ub n ∧ n < 18446744073709551616 ∧ k ≤ l.length ∧ 0 < k ∧ k ≤ 10 := by
  obtain ⟨m, e1, e2, e3, e4, e5, _, e7⟩ := tkAux_some l 0 0 n k (by omega) h
  simp only [Nat.pow_zero, Nat.mul_one, Nat.zero_add, Nat.sub_zero] at e1 e3 e4 e5 e7
  subst e1
  exact ⟨e4, e5, e3, e2, by rw [e7]; exact ub_len10 e5⟩

theorem tkAux_ub : ∀ (j m i acc : Nat) (r : List UInt8), (ub m).length ≤ j → i ≤ 9 → m < 2 ^ (64 - 7 * i) → (m = 0 → i = 0) → tkAux i acc (ub m ++ r) = some (acc + m * 128 ^ i, i + (ub m).length) := by
  intro j
  induction j with
  | zero => intro m i acc r h; have := ub_pos m; omega
  | succ j ih =>
    intro m i acc r h hi hm h0
    by_cases hs : m < 128
    · rw [ub_small hs]
      have e : (UInt8.ofNat m).toNat = m := by simp only [UInt8.toNat_ofNat']; omega
      have h9 : ¬ (i = 9 ∧ 1 < m) := by
        rintro ⟨rfl, h1⟩
        have : m < 2 := by simpa using hm
        omega
      show tkAux i acc (UInt8.ofNat m :: r) = _
      unfold tkAux
      rw [e, if_neg h9, if_neg (by omega), if_neg (by omega), Nat.mod_eq_of_lt hs]
      rfl
    · rw [ub_big hs] at h ⊢
      have e : (UInt8.ofNat (m % 128 + 128)).toNat = m % 128 + 128 := by simp only [UInt8.toNat_ofNat']; omega
      have hi' : i < 9 := by
        rcases Nat.lt_or_ge i 9 with h | h
        · exact h
        · have : i = 9 := by omega
          subst this
          have : m < 2 := by simpa using hm
          omega
      show tkAux i acc (UInt8.ofNat (m % 128 + 128) :: (ub (m / 128) ++ r)) = _
      unfold tkAux
      rw [e, if_neg (by omega), if_pos (by omega), ih (m / 128) (i + 1) _ r (by simp only [List.length_cons] at h; omega) (by omega) ?_ (by omega)]
      · simp only [List.length_cons, Option.some.injEq, Prod.mk.injEq]
        refine ⟨?_, by omega⟩
        rw [Nat.pow_succ, show (m % 128 + 128) % 128 = m % 128 by omega, Nat.add_assoc]
        congr 1
        rw [Nat.mul_comm (128 ^ i) 128, ← Nat.mul_assoc, ← Nat.add_mul]
        congr 1
        omega
      · have : 2 ^ (64 - 7 * i) = 128 * 2 ^ (64 - 7 * (i + 1)) := by rw [show 64 - 7 * i = 7 + (64 - 7 * (i + 1)) by omega, Nat.pow_add]
        rw [this] at hm
        exact Nat.div_lt_of_lt_mul hm

theorem tk_ub (n : Nat) (hn : n < 18446744073709551616) (r : List UInt8) : tk (ub n ++ r) = some (n, (ub n).length) := by
  have := tkAux_ub _ n 0 0 r (Nat.le_refl _) (by omega) (by simpa using hn) (fun _ => rfl)
  simpa [tk] using this
theorem tkAux_step (l : List UInt8) (k n b : Nat) (h : k < l.length) (hb : l[k].toNat = b) :
    tkAux k n (l.drop k) = if k = 9 ∧ 1 < b then none else if 128 ≤ b then tkAux (k + 1) (n + b % 128 * 128 ^ k) (l.drop (k + 1))
      else if b = 0 ∧ 0 < k then none else some (n + b % 128 * 128 ^ k, k + 1) := by
  subst hb
  rw [List.drop_eq_getElem_cons h, tkAux]

theorem and127 (b : Nat) (h : b < 256) : bits BinOp.and IntKind.u8 (b : Int) 127 = ((b % 128 : Nat) : Int) := by
  rw [show (127 : Int) = ((127 : Nat) : Int) from rfl, u8_and_nat _ _ h (by decide), nat_mask7]

theorem and128 (b : Nat) (h : b < 256) : bits BinOp.and IntKind.u8 (b : Int) 128 = ((b / 128 * 128 : Nat) : Int) := by
  rw [show (128 : Int) = ((2 ^ 7 : Nat) : Int) from rfl, u8_and_nat _ _ h (by decide), nat_bit]
  have : b / 2 ^ 7 % 2 = b / 128 := by omega
  rw [this]
theorem and128_yes (b : Nat) (h : b < 256) (h1 : 128 ≤ b) : (bits BinOp.and IntKind.u8 (b : Int) 128 != 0) = true := by
  rw [and128 b h]; simp; omega
theorem and128_no (b : Nat) (h : b < 256) (h1 : b < 128) : (bits BinOp.and IntKind.u8 (b : Int) 128 != 0) = false := by
  rw [and128 b h]; simp; omega

theorem or_step (n b k : Nat) (hb : b < 256) (hn : n < 2 ^ (7 * k)) (hk : k ≤ 9) (h9 : k = 9 → b ≤ 1) :
    bits BinOp.or IntKind.u64 (n : Int) (IntKind.u64.wrap (IntKind.u64.wrap (bits BinOp.and IntKind.u8 (b : Int) 127) * 2 ^ (7 * k))) = ((n + b % 128 * 128 ^ k : Nat) : Int) := by
  have hP : (128 : Nat) ^ k = 2 ^ (7 * k) := by rw [show (128 : Nat) = 2 ^ 7 from rfl, ← Nat.pow_mul]
  have hlt : b % 128 * 2 ^ (7 * k) + 2 ^ (7 * k) ≤ 18446744073709551616 := by
    by_cases e : k = 9
    · subst e
      have h1 := h9 rfl
      have : b % 128 ≤ 1 := by omega
      have h3 := Nat.mul_le_mul_right (2 ^ (7 * 9)) this
      exact Nat.le_trans (Nat.add_le_add_right h3 _) (by decide)
    · have h1 : b % 128 + 1 ≤ 128 := by omega
      have h2 : (2 : Nat) ^ (7 * k) ≤ 2 ^ 56 := Nat.pow_le_pow_right (by decide) (by omega)
      have h3 := Nat.mul_le_mul h1 h2
      rw [Nat.add_mul, Nat.one_mul] at h3
      omega
  have hpos : 0 < 2 ^ (7 * k) := Nat.two_pow_pos _
  rw [and127 b hb, hP]
  have e1 : IntKind.u64.wrap ((b % 128 : Nat) : Int) = ((b % 128 : Nat) : Int) := by rw [IntKind.wrap_u64]; omega
  rw [e1]
  have e2 : ((b % 128 : Nat) : Int) * 2 ^ (7 * k) = ((b % 128 * 2 ^ (7 * k) : Nat) : Int) := by simp
  rw [e2]
  have e3 : IntKind.u64.wrap ((b % 128 * 2 ^ (7 * k) : Nat) : Int) = ((b % 128 * 2 ^ (7 * k) : Nat) : Int) := by rw [IntKind.wrap_u64]; omega
  rw [e3, u64_or_nat _ _ (by omega) (by omega), Nat.or_comm, nat_join (7 * k) _ n (Nat.mul_mod_left _ _) hn, Nat.add_comm]

theorem next_lt (n b k : Nat) (hn : n < 2 ^ (7 * k)) : n + b % 128 * 128 ^ k < 2 ^ (7 * (k + 1)) := by
  have hP : (128 : Nat) ^ k = 2 ^ (7 * k) := by rw [show (128 : Nat) = 2 ^ 7 from rfl, ← Nat.pow_mul]
  have h1 : b % 128 + 1 ≤ 128 := by omega
  have h3 := Nat.mul_le_mul_right (2 ^ (7 * k)) h1
  rw [Nat.add_mul, Nat.one_mul] at h3
  rw [hP, show 7 * (k + 1) = 7 * k + 7 by omega, Nat.pow_add]
  omega

/-- What is told: 0, 0 where there is no number. -/
def tkN (l : List UInt8) : Nat := ((tk l).getD (0, 0)).1
def tkK (l : List UInt8) : Nat := ((tk l).getD (0, 0)).2
theorem tk_is_none {l : List UInt8} (h : tk l = none) : tkN l = 0 ∧ tkK l = 0 := by simp [tkN, tkK, h]
theorem tk_is_some {l : List UInt8} {n k : Nat} (h : tk l = some (n, k)) : tkN l = n ∧ tkK l = k := by simp [tkN, tkK, h]

theorem ret_two {k k' : IntKind} {a b c d : Int} (h : a = b) (h' : c = d) : Ending.returned (.tuple #[.int k a, .int k' c]) = .returned (.tuple #[.int k b, .int k' d]) := by rw [h, h']
end Go.Proofs.Ytahohdbkkcdmiaa
