/-
  Plain mathematics of layer 1: a number's bytes by sevens, as a list; no program stands here.
-/
import Derived.Test.YtbekgmcchecnkaaRows
import Derived.WalkKit
import Derived.Lib.UnsafeStr
import Derived.Laws.BitsAllLaws
import Derived.Laws.AppendOwn
import Derived.Laws.IdiomStrings
namespace Go.Proofs.Ytbekgmcchecnkaa
set_option linter.unnecessarySimpa false
set_option linter.unusedVariables false
set_option linter.unusedSimpArgs false
set_option maxRecDepth 100000

theorem ret_int {k : IntKind} {a b : Int} (h : a = b) : Ending.returned (.int k a) = .returned (.int k b) := by rw [h]

/-- A number's bytes: its bits by sevens, the lowest first; all but the last with the bit 80 set. -/
def ub (n : Nat) : List UInt8 :=
  if h : n < 128 then [UInt8.ofNat n] else UInt8.ofNat (n % 128 + 128) :: ub (n / 128)
  termination_by n
  decreasing_by omega

theorem ub_small {n : Nat} (h : n < 128) : ub n = [UInt8.ofNat n] := by rw [ub, dif_pos h]
theorem ub_big {n : Nat} (h : ¬ n < 128) : ub n = UInt8.ofNat (n % 128 + 128) :: ub (n / 128) := by rw [ub, dif_neg h]

theorem ub_len (k : Nat) : ∀ n : Nat, n < 128 ^ (k + 1) → (ub n).length ≤ k + 1 := by
  induction k with
  | zero => intro n h; rw [ub_small (by simpa using h)]; simp
  | succ k ih =>
    intro n h
    by_cases hn : n < 128
    · rw [ub_small hn]; simp
    · rw [ub_big hn]
      have := ih (n / 128) (by rw [Nat.div_lt_iff_lt_mul (by decide)]; rw [Nat.pow_succ] at h; exact h)
      simp only [List.length_cons]; omega

theorem ub_len10 {n : Nat} (h : n < 18446744073709551616) : (ub n).length ≤ 10 :=
  ub_len 9 n (Nat.lt_of_lt_of_le h (by decide))

theorem ub_pos (n : Nat) : 1 ≤ (ub n).length := by
  by_cases hn : n < 128
  · rw [ub_small hn]; simp
  · rw [ub_big hn]; simp

/-- A row of bytes, grown by one: as the walk has it. -/
theorem cells_snoc (done : List UInt8) (b : UInt8) : Lib.byteCells done ++ [.int .u8 (b.toNat : Int)] = Lib.byteCells (done ++ [b]) := by simp [Lib.byteCells]

set_option maxRecDepth 100000 in
theorem or80 (m : Nat) : bits BinOp.or IntKind.u8 ((m : Int) % 256) 128 = ((UInt8.ofNat (m % 128 + 128)).toNat : Int) := by
  have e : ((m : Int) % 256) = ((m % 256 : Nat) : Int) := by omega
  rw [e, show (128 : Int) = ((128 : Nat) : Int) from rfl, u8_or_nat _ _ (by omega) (by omega)]
  have h1 : m % 256 = m / 128 % 2 * 128 + m % 128 := by omega
  have h2 : m % 256 ||| 128 = m % 128 + 128 := by
    have key : ∀ x : Fin 256, x.val ||| 128 = x.val % 128 + 128 := by decide
    have := key ⟨m % 256, by omega⟩
    simp only at this
    rw [this]
    omega
  rw [h2]
  simp only [UInt8.toNat_ofNat']
  omega

/-- 'string(b)' of a row of the call's own. -/
theorem convert_own {P : Program} {w : World} {base e src dst : Nat} {v : Value} {n : Nat} {l : List UInt8} (hown : w.ownsRow base e 1 v n (Lib.byteCells l)) (hne : ¬ v = .slice none 0 0)
    (hs : P.underlying src = some (.slice e)) (he : P.underlying e = some (.int .u8)) (hd : P.underlying dst = some .string) :
    (convert src dst v).run P w = .ok (.string ⟨l.toArray⟩) w := by
  have hn : l.length = n := by have := hown.1; simpa [Lib.byteCells] using this
  subst hn
  rcases hown.2 with ⟨h, _⟩ | ⟨g, cap, cur, rfl, hb, hg, _⟩
  · exact absurd h hne
  · refine run_convert_bytes_back w src dst e _ cap l hs he hd fun j hj => ?_
    exact hown.cells (g := g) rfl j _ (by simp [Lib.byteCells, List.getElem?_eq_getElem hj])

end Go.Proofs.Ytbekgmcchecnkaa
