/-
  Joined: Math, TakeMath, ChnMath, OpenVers, Class, MvcMath.
-/
import Derived.Test.YtdldplhfpianhaaRows
import Derived.WalkKit
import Derived.Lib.UnsafeStr
import Derived.Laws.BitsAllLaws
import Derived.Laws.AppendOwn
import Derived.Laws.IdiomStrings
import Derived.ProofKit
import Derived.Lib.Hide
import Derived.Lib.IndexBytes
import Derived.OpenShut
import Derived.Deep.Slices
import Derived.Deep.Strs
import Derived.Below
import Derived.BigQuiet
import Derived.Deep.QuietTactic
import Derived.Laws.Rows
import Derived.Deep.LoopGhost
import Derived.Deep.DeepCutAuto
import Derived.Deep.CutBlock
namespace Go.Proofs.Ytdldplhfpianhaa
set_option linter.unnecessarySimpa false
set_option linter.unusedVariables false
set_option linter.unusedSimpArgs false
set_option maxRecDepth 100000

theorem ret_int {k : IntKind} {a b : Int} (h : a = b) : Ending.returned (.int k a) = .returned (.int k b) := by rw [h]

/-- A number's bytes: its bits by sevens, the lowest first; all but the last with the bit 80 set. -/
def ub (n : Nat) : List UInt8 :=
  if h : n < 128 then [UInt8.ofNat n] else UInt8.ofNat (n % 128 + 128) :: ub (n / 128)
  termination_by n
  decreasing_by omega

theorem ub_small {n : Nat} (h : n < 128) : ub n = [UInt8.ofNat n] := by rw [ub, dif_pos h]
theorem ub_big {n : Nat} (h : ¬ n < 128) : ub n = UInt8.ofNat (n % 128 + 128) :: ub (n / 128) := by rw [ub, dif_neg h]

theorem ub_len (k : Nat) : ∀ n : Nat, n < 128 ^ (k + 1) → (ub n).length ≤ k + 1 := by
  induction k with
  | zero => intro n h; rw [ub_small (by simpa using h)]; simp
  | succ k ih =>
    intro n h
    by_cases hn : n < 128
    · rw [ub_small hn]; simp
    · rw [ub_big hn]
      have := ih (n / 128) (by rw [Nat.div_lt_iff_lt_mul (by decide)]; rw [Nat.pow_succ] at h; exact h)
      simp only [List.length_cons]; omega

theorem ub_len10 {n : Nat} (h : n < 18446744073709551616) : (ub n).length ≤ 10 :=
  ub_len 9 n (Nat.lt_of_lt_of_le h (by decide))

theorem ub_pos (n : Nat) : 1 ≤ (ub n).length := by
  by_cases hn : n < 128
  · rw [ub_small hn]; simp
  · rw [ub_big hn]; simp

/-- A row of bytes, grown by one: as the walk has it. -/
theorem cells_snoc (done : List UInt8) (b : UInt8) : Lib.byteCells done ++ [.int .u8 (b.toNat : Int)] = Lib.byteCells (done ++ [b]) := by simp [Lib.byteCells]

set_option maxRecDepth 100000 in
theorem or80 (m : Nat) : bits BinOp.or IntKind.u8 ((m : Int) % 256) 128 = ((UInt8.ofNat (m % 128 + 128)).toNat : Int) := by
  have e : ((m : Int) % 256) = ((m % 256 : Nat) : Int) := by omega
  rw [e, show (128 : Int) = ((128 : Nat) : Int) from rfl, u8_or_nat _ _ (by omega) (by omega)]
  have h1 : m % 256 = m / 128 % 2 * 128 + m % 128 := by omega
  have h2 : m % 256 ||| 128 = m % 128 + 128 := by
    have key : ∀ x : Fin 256, x.val ||| 128 = x.val % 128 + 128 := by decide
    have := key ⟨m % 256, by omega⟩
    simp only at this
    rw [this]
    omega
  rw [h2]
  simp only [UInt8.toNat_ofNat']
  omega

/-- 'string(b)' of a row of the call's own. -/
theorem convert_own {P : Program} {w : World} {base e src dst : Nat} {v : Value} {n : Nat} {l : List UInt8} (hown : w.ownsRow base e 1 v n (Lib.byteCells l)) (hne : ¬ v = .slice none 0 0)
    (hs : P.underlying src = some (.slice e)) (he : P.underlying e = some (.int .u8)) (hd : P.underlying dst = some .string) :
    (convert src dst v).run P w = .ok (.string ⟨l.toArray⟩) w := by
  have hn : l.length = n := by have := hown.1; simpa [Lib.byteCells] using this
  subst hn
  rcases hown.2 with ⟨h, _⟩ | ⟨g, cap, cur, rfl, hb, hg, _⟩
  · exact absurd h hne
  · refine run_convert_bytes_back w src dst e _ cap l hs he hd fun j hj => ?_
    exact hown.cells (g := g) rfl j _ (by simp [Lib.byteCells, List.getElem?_eq_getElem hj])

end Go.Proofs.Ytdldplhfpianhaa

namespace Go.Proofs.Ytdldplhfpianhaa
set_option linter.unnecessarySimpa false
set_option linter.unusedVariables false
set_option linter.unusedSimpArgs false
set_option maxRecDepth 100000

/-- A number's bytes read on from place i, what stands ahead being worth acc: the number, and how many bytes it has. -/
def tkAux (i acc : Nat) : List UInt8 → Option (Nat × Nat)
  | [] => none
  | b :: r =>
    if i = 9 ∧ 1 < b.toNat then none
    else if 128 ≤ b.toNat then tkAux (i + 1) (acc + b.toNat % 128 * 128 ^ i) r
    else if b.toNat = 0 ∧ 0 < i then none else some (acc + b.toNat % 128 * 128 ^ i, i + 1)

def tk (l : List UInt8) : Option (Nat × Nat) := tkAux 0 0 l

theorem ofNat_eq {b : UInt8} {x : Nat} (h : b.toNat = x) : UInt8.ofNat x = b := by subst h; simp

theorem tkAux_some : ∀ (l : List UInt8) (i acc n k : Nat), i ≤ 9 → tkAux i acc l = some (n, k) →
    ∃ m, n = acc + m * 128 ^ i ∧ i < k ∧ k - i ≤ l.length ∧ l.take (k - i) = ub m ∧ m < 2 ^ (64 - 7 * i) ∧ (m = 0 → i = 0) ∧ k - i = (ub m).length := by
  intro l
  induction l with
  | nil => intro i acc n k _ h; simp [tkAux] at h
  | cons b r ih =>
    intro i acc n k hi h
    have hb := b.toNat_lt
    unfold tkAux at h
    by_cases h9 : i = 9 ∧ 1 < b.toNat
    · rw [if_pos h9] at h; simp at h
    rw [if_neg h9] at h
    by_cases h128 : 128 ≤ b.toNat
    · rw [if_pos h128] at h
      have hi' : i + 1 ≤ 9 := by omega
      obtain ⟨m, e1, e2, e3, e4, e5, e6, e7⟩ := ih (i + 1) _ n k hi' h
      have hm : m ≠ 0 := fun e => by have := e6 e; omega
      have hlt : ¬ b.toNat % 128 + 128 * m < 128 := by omega
      have hub : ub (b.toNat % 128 + 128 * m) = b :: ub m := by
        rw [ub_big hlt]
        congr 1
        · exact ofNat_eq (by omega)
        · congr 1; omega
      refine ⟨b.toNat % 128 + 128 * m, ?_, by omega, by simp only [List.length_cons]; omega, ?_, ?_, by omega, ?_⟩
      · rw [e1, Nat.pow_succ, Nat.add_mul, Nat.add_assoc]; congr 2; rw [Nat.mul_comm 128 m, Nat.mul_assoc, Nat.mul_comm 128]
      · rw [hub, show k - i = (k - (i + 1)) + 1 by omega, List.take_succ_cons, e4]
      · rw [show 64 - 7 * i = 7 + (64 - 7 * (i + 1)) by omega, Nat.pow_add]; omega
      · rw [hub, List.length_cons, ← e7]; omega
    · rw [if_neg h128] at h
      by_cases h0 : b.toNat = 0 ∧ 0 < i
      · rw [if_pos h0] at h; simp at h
      rw [if_neg h0] at h
      simp only [Option.some.injEq, Prod.mk.injEq] at h
      obtain ⟨rfl, rfl⟩ := h
      have hub : ub b.toNat = [b] := by rw [ub_small (by omega)]; simp
      refine ⟨b.toNat, by rw [Nat.mod_eq_of_lt (by omega)], by omega, by simp, by rw [hub]; simp, ?_, by omega, by rw [hub]; simp⟩
      by_cases e : i = 9
      · subst e; have : b.toNat ≤ 1 := by omega
        calc b.toNat ≤ 1 := this
          _ < _ := by decide
      · have h7 : (2 : Nat) ^ 7 ≤ 2 ^ (64 - 7 * i) := Nat.pow_le_pow_right (by decide) (by omega)
        omega

/-- What is taken as a number is a number's bytes. -/
theorem tk_some {l : List UInt8} {n k : Nat} (h : tk l = some (n, k)) : l.take k = ub n ∧ n < 18446744073709551616 ∧ k ≤ l.length ∧ 0 < k ∧ k ≤ 10 := by
  obtain ⟨m, e1, e2, e3, e4, e5, _, e7⟩ := tkAux_some l 0 0 n k (by omega) h
  simp only [Nat.pow_zero, Nat.mul_one, Nat.zero_add, Nat.sub_zero] at e1 e3 e4 e5 e7
  subst e1
  exact ⟨e4, e5, e3, e2, by rw [e7]; exact ub_len10 e5⟩

theorem tkAux_ub : ∀ (j m i acc : Nat) (r : List UInt8), (ub m).length ≤ j → i ≤ 9 → m < 2 ^ (64 - 7 * i) → (m = 0 → i = 0) → tkAux i acc (ub m ++ r) = some (acc + m * 128 ^ i, i + (ub m).length) := by
  intro j
  induction j with
  | zero => intro m i acc r h; have := ub_pos m; omega
  | succ j ih =>
    intro m i acc r h hi hm h0
    by_cases hs : m < 128
    · rw [ub_small hs]
      have e : (UInt8.ofNat m).toNat = m := by simp only [UInt8.toNat_ofNat']; omega
      have h9 : ¬ (i = 9 ∧ 1 < m) := by
        rintro ⟨rfl, h1⟩
        have : m < 2 := by simpa using hm
        omega
      show tkAux i acc (UInt8.ofNat m :: r) = _
      unfold tkAux
      rw [e, if_neg h9, if_neg (by omega), if_neg (by omega), Nat.mod_eq_of_lt hs]
      rfl
    · rw [ub_big hs] at h ⊢
      have e : (UInt8.ofNat (m % 128 + 128)).toNat = m % 128 + 128 := by simp only [UInt8.toNat_ofNat']; omega
      have hi' : i < 9 := by
        rcases Nat.lt_or_ge i 9 with h | h
        · exact h
        · have : i = 9 := by omega
          subst this
          have : m < 2 := by simpa using hm
          omega
      show tkAux i acc (UInt8.ofNat (m % 128 + 128) :: (ub (m / 128) ++ r)) = _
      unfold tkAux
      rw [e, if_neg (by omega), if_pos (by omega), ih (m / 128) (i + 1) _ r (by simp only [List.length_cons] at h; omega) (by omega) ?_ (by omega)]
      · simp only [List.length_cons, Option.some.injEq, Prod.mk.injEq]
        refine ⟨?_, by omega⟩
        rw [Nat.pow_succ, show (m % 128 + 128) % 128 = m % 128 by omega, Nat.add_assoc]
        congr 1
        rw [Nat.mul_comm (128 ^ i) 128, ← Nat.mul_assoc, ← Nat.add_mul]
        congr 1
        omega
      · have : 2 ^ (64 - 7 * i) = 128 * 2 ^ (64 - 7 * (i + 1)) := by rw [show 64 - 7 * i = 7 + (64 - 7 * (i + 1)) by omega, Nat.pow_add]
        rw [this] at hm
        exact Nat.div_lt_of_lt_mul hm

theorem tk_ub (n : Nat) (hn : n < 18446744073709551616) (r : List UInt8) : tk (ub n ++ r) = some (n, (ub n).length) := by
  have := tkAux_ub _ n 0 0 r (Nat.le_refl _) (by omega) (by simpa using hn) (fun _ => rfl)
  simpa [tk] using this
theorem tkAux_step (l : List UInt8) (k n b : Nat) (h : k < l.length) (hb : l[k].toNat = b) :
    tkAux k n (l.drop k) = if k = 9 ∧ 1 < b then none else if 128 ≤ b then tkAux (k + 1) (n + b % 128 * 128 ^ k) (l.drop (k + 1))
      else if b = 0 ∧ 0 < k then none else some (n + b % 128 * 128 ^ k, k + 1) := by
  subst hb
  rw [List.drop_eq_getElem_cons h, tkAux]

theorem and127 (b : Nat) (h : b < 256) : bits BinOp.and IntKind.u8 (b : Int) 127 = ((b % 128 : Nat) : Int) := by
  rw [show (127 : Int) = ((127 : Nat) : Int) from rfl, u8_and_nat _ _ h (by decide), nat_mask7]

theorem and128 (b : Nat) (h : b < 256) : bits BinOp.and IntKind.u8 (b : Int) 128 = ((b / 128 * 128 : Nat) : Int) := by
  rw [show (128 : Int) = ((2 ^ 7 : Nat) : Int) from rfl, u8_and_nat _ _ h (by decide), nat_bit]
  have : b / 2 ^ 7 % 2 = b / 128 := by omega
  rw [this]
theorem and128_yes (b : Nat) (h : b < 256) (h1 : 128 ≤ b) : (bits BinOp.and IntKind.u8 (b : Int) 128 != 0) = true := by
  rw [and128 b h]; simp; omega
theorem and128_no (b : Nat) (h : b < 256) (h1 : b < 128) : (bits BinOp.and IntKind.u8 (b : Int) 128 != 0) = false := by
  rw [and128 b h]; simp; omega

theorem or_step (n b k : Nat) (hb : b < 256) (hn : n < 2 ^ (7 * k)) (hk : k ≤ 9) (h9 : k = 9 → b ≤ 1) :
    bits BinOp.or IntKind.u64 (n : Int) (IntKind.u64.wrap (IntKind.u64.wrap (bits BinOp.and IntKind.u8 (b : Int) 127) * 2 ^ (7 * k))) = ((n + b % 128 * 128 ^ k : Nat) : Int) := by
  have hP : (128 : Nat) ^ k = 2 ^ (7 * k) := by rw [show (128 : Nat) = 2 ^ 7 from rfl, ← Nat.pow_mul]
  have hlt : b % 128 * 2 ^ (7 * k) + 2 ^ (7 * k) ≤ 18446744073709551616 := by
    by_cases e : k = 9
    · subst e
      have h1 := h9 rfl
      have : b % 128 ≤ 1 := by omega
      have h3 := Nat.mul_le_mul_right (2 ^ (7 * 9)) this
      exact Nat.le_trans (Nat.add_le_add_right h3 _) (by decide)
    · have h1 : b % 128 + 1 ≤ 128 := by omega
      have h2 : (2 : Nat) ^ (7 * k) ≤ 2 ^ 56 := Nat.pow_le_pow_right (by decide) (by omega)
      have h3 := Nat.mul_le_mul h1 h2
      rw [Nat.add_mul, Nat.one_mul] at h3
      omega
  have hpos : 0 < 2 ^ (7 * k) := Nat.two_pow_pos _
  rw [and127 b hb, hP]
  have e1 : IntKind.u64.wrap ((b % 128 : Nat) : Int) = ((b % 128 : Nat) : Int) := by rw [IntKind.wrap_u64]; omega
  rw [e1]
  have e2 : ((b % 128 : Nat) : Int) * 2 ^ (7 * k) = ((b % 128 * 2 ^ (7 * k) : Nat) : Int) := by simp
  rw [e2]
  have e3 : IntKind.u64.wrap ((b % 128 * 2 ^ (7 * k) : Nat) : Int) = ((b % 128 * 2 ^ (7 * k) : Nat) : Int) := by rw [IntKind.wrap_u64]; omega
  rw [e3, u64_or_nat _ _ (by omega) (by omega), Nat.or_comm, nat_join (7 * k) _ n (Nat.mul_mod_left _ _) hn, Nat.add_comm]

theorem next_lt (n b k : Nat) (hn : n < 2 ^ (7 * k)) : n + b % 128 * 128 ^ k < 2 ^ (7 * (k + 1)) := by
  have hP : (128 : Nat) ^ k = 2 ^ (7 * k) := by rw [show (128 : Nat) = 2 ^ 7 from rfl, ← Nat.pow_mul]
  have h1 : b % 128 + 1 ≤ 128 := by omega
  have h3 := Nat.mul_le_mul_right (2 ^ (7 * k)) h1
  rw [Nat.add_mul, Nat.one_mul] at h3
  rw [hP, show 7 * (k + 1) = 7 * k + 7 by omega, Nat.pow_add]
  omega

/-- What is told: 0, 0 where there is no number. -/
def tkN (l : List UInt8) : Nat := ((tk l).getD (0, 0)).1
def tkK (l : List UInt8) : Nat := ((tk l).getD (0, 0)).2
theorem tk_is_none {l : List UInt8} (h : tk l = none) : tkN l = 0 ∧ tkK l = 0 := by simp [tkN, tkK, h]
theorem tk_is_some {l : List UInt8} {n k : Nat} (h : tk l = some (n, k)) : tkN l = n ∧ tkK l = k := by simp [tkN, tkK, h]

theorem ret_two {k k' : IntKind} {a b c d : Int} (h : a = b) (h' : c = d) : Ending.returned (.tuple #[.int k a, .int k' c]) = .returned (.tuple #[.int k b, .int k' d]) := by rw [h, h']
end Go.Proofs.Ytdldplhfpianhaa

namespace Go.Proofs.Ytdldplhfpianhaa
open Go.RowKit
set_option linter.unusedVariables false
set_option linter.unnecessarySimpa false
set_option linter.unusedSimpArgs false
set_option maxRecDepth 100000

/-- A version. -/
structure Vr where
  time : Nat
  gone : Bool
  val : ByteArray
def vr0 : Vr := ⟨0, false, ⟨#[]⟩⟩
def Vr.cells (v : Vr) : Array Value := #[.int .u64 (v.time : Int), .bool v.gone, .string v.val]
/-- With how many bytes two begin alike. -/
def pre : List UInt8 → List UInt8 → Nat
  | a :: x, b :: y => if a = b then pre x y + 1 else 0
  | _, _ => 0
theorem pre_le : ∀ (x y : List UInt8), pre x y ≤ x.length ∧ pre x y ≤ y.length
  | [], _ => by simp [pre]
  | _ :: _, [] => by simp [pre]
  | a :: x, b :: y => by
    have := pre_le x y
    unfold pre
    split <;> simp <;> omega
theorem pre_take : ∀ (x y : List UInt8), x.take (pre x y) = y.take (pre x y)
  | [], y => by simp [pre]
  | _ :: _, [] => by simp [pre]
  | a :: x, b :: y => by
    unfold pre
    split
    · rename_i h
      rw [List.take_succ_cons, List.take_succ_cons, h, pre_take x y]
    · rfl
theorem pre_most : ∀ (x y : List UInt8) (n : Nat), n ≤ x.length → n ≤ y.length → x.take n = y.take n → n ≤ pre x y
  | [], y, n, h, _, _ => by simp at h; omega
  | _ :: _, [], n, _, h, _ => by simp at h; omega
  | a :: x, b :: y, 0, _, _, _ => Nat.zero_le _
  | a :: x, b :: y, n + 1, h1, h2, h => by
    rw [List.take_succ_cons, List.take_succ_cons] at h
    injection h with h3 h4
    have := pre_most x y n (by simpa using h1) (by simpa using h2) h4
    unfold pre
    rw [if_pos h3]; omega
/-- .. and end. -/
def suf (x y : List UInt8) : Nat := pre x.reverse y.reverse
theorem suf_le (x y : List UInt8) : suf x y ≤ x.length ∧ suf x y ≤ y.length := by
  have := pre_le x.reverse y.reverse
  simpa [suf] using this
theorem take_rev (x : List UInt8) {n : Nat} (h : n ≤ x.length) : x.reverse.take n = (x.drop (x.length - n)).reverse := by
  rw [List.take_reverse]
theorem suf_drop (x y : List UInt8) : x.drop (x.length - suf x y) = y.drop (y.length - suf x y) := by
  have h := suf_le x y
  have := pre_take x.reverse y.reverse
  have e : pre x.reverse y.reverse = suf x y := rfl
  rw [e, take_rev x h.1, take_rev y h.2] at this
  have := congrArg List.reverse this
  simpa using this
theorem suf_most (x y : List UInt8) (n : Nat) (h1 : n ≤ x.length) (h2 : n ≤ y.length) (h : x.drop (x.length - n) = y.drop (y.length - n)) : n ≤ suf x y := by
  refine pre_most x.reverse y.reverse n (by simpa using h1) (by simpa using h2) ?_
  rw [take_rev x h1, take_rev y h2, h]

/-- How many bytes of a value are the base's: at its head, at its end. -/
def headN (base v : List UInt8) : Nat := pre base v
def tailN (base v : List UInt8) : Nat := suf (base.drop (headN base v)) (v.drop (headN base v))
def midB (base v : List UInt8) : List UInt8 := (v.drop (headN base v)).take (v.length - headN base v - tailN base v)
/-- A value's bytes. -/
def valB (base v : List UInt8) : List UInt8 := 0 :: (ub (headN base v) ++ ub (tailN base v) ++ (ub (midB base v).length ++ midB base v))
/-- Versions' bytes, behind a time, over a base. -/
def versB : Nat → List UInt8 → List Vr → List UInt8
  | _, _, [] => []
  | t, base, v :: l => ub (v.time - t) ++ (if v.gone then 1 :: versB v.time base l else valB base v.val.data.toList ++ versB v.time v.val.data.toList l)
def chainB (l : List Vr) : List UInt8 := ub l.length ++ versB 0 [] l
/-- A chain, behind a time. -/
def risesB : Nat → List Vr → Bool
  | _, [] => true
  | t, v :: l => decide (t < v.time) && (!v.gone || decide (v.val.size = 0)) && risesB v.time l
def rightB (l : List Vr) : Bool := risesB 0 l && decide (l.length ≤ 200)
/-- The time that the first k versions end at, and the base that they leave. -/
def lastT (l : List Vr) (k : Nat) : Nat := if k = 0 then 0 else (l.getD (k - 1) vr0).time
def baseOf : List UInt8 → List Vr → List UInt8
  | b, [] => b
  | b, v :: l => if v.gone then baseOf b l else baseOf v.val.data.toList l
theorem baseOf_snoc (b : List UInt8) (l : List Vr) (v : Vr) : baseOf b (l ++ [v]) = if v.gone then baseOf b l else v.val.data.toList := by
  induction l generalizing b with
  | nil => simp [baseOf]
  | cons x l ih => simp only [List.cons_append, baseOf]; split <;> exact ih _
def endT (t : Nat) : List Vr → Nat
  | [] => t
  | v :: l => endT v.time l
theorem endT_snoc (t : Nat) (l : List Vr) (v : Vr) : endT t (l ++ [v]) = v.time := by
  induction l generalizing t with
  | nil => rfl
  | cons x l ih => exact ih _
theorem versB_snoc (t : Nat) (b : List UInt8) (l : List Vr) (v : Vr) : versB t b (l ++ [v]) = versB t b l ++ (ub (v.time - endT t l) ++ (if v.gone then [1] else valB (baseOf b l) v.val.data.toList)) := by
  induction l generalizing t b with
  | nil => simp only [List.nil_append, versB, endT, baseOf]; split <;> simp
  | cons x l ih =>
    simp only [List.cons_append, versB, endT, baseOf]
    split
    · rw [ih]; simp
    · rw [ih]; simp
/-- What its values have. -/
def allN (l : List Vr) : Nat := (l.map fun v => v.val.size).sum
/-- The last version up to a time. -/
def atV : List Vr → Nat → Option Vr
  | [], _ => none
  | v :: l, t => match atV l t with
    | some x => some x
    | none => if v.time ≤ t then some v else none
end Go.Proofs.Ytdldplhfpianhaa

namespace Go.Proofs.Ytdldplhfpianhaa
open Go.RowKit Go.ChangeShapes Go.WideShapes Go.Deep
set_option linter.unnecessarySimpa false
set_option linter.unusedVariables false
set_option linter.unusedSimpArgs false
set_option maxRecDepth 100000

/-- Versions that a slice has. -/
def VersAt (W : World) (a : Option Addr) (len : Nat) (zs : List Vr) : Prop :=
  zs.length = len ∧ ∀ i, i < len → ∃ b off, a = some ⟨b, off, none⟩ ∧ b < W.heap.size ∧ (zs.getD i vr0).time < 18446744073709551616 ∧ (zs.getD i vr0).val.size ≤ maxLen ∧
    W.cell? ⟨b, off + i * 3, none⟩ = some (.int .u64 ((zs.getD i vr0).time : Int)) ∧ W.cell? ⟨b, off + i * 3 + 1, none⟩ = some (.bool (zs.getD i vr0).gone) ∧ W.cell? ⟨b, off + i * 3 + 2, none⟩ = some (.string (zs.getD i vr0).val)
def IsVers (W : World) (a : Option Addr) (len _cap : Nat) (zs : List Vr) : Prop := VersAt W a len zs ∧ len ≤ maxLen

theorem ver_cells : Try.prog.cellsOf 43 = 3 := by kernel_rfl
theorem v_str_cells : Try.prog.cellsOf 9 = 1 := by kernel_rfl
theorem v_u64_cells : Try.prog.cellsOf 36 = 1 := by kernel_rfl
theorem v_bool_cells : Try.prog.cellsOf 4 = 1 := by kernel_rfl

theorem v_cut3 {α : Type} {cs : List α} {x y z : α} (h0 : (cs.drop 0).take 1 = [x]) (h1 : (cs.drop 1).take 1 = [y]) (h2 : (cs.drop 2).take 1 = [z]) : cs[0]? = some x ∧ cs[1]? = some y ∧ cs[2]? = some z := by
  refine ⟨?_, ?_, ?_⟩
  · have := congrArg (·[0]?) h0; simpa using this
  · have := congrArg (·[0]?) h1; simpa using this
  · have := congrArg (·[0]?) h2; simpa using this

end Go.Proofs.Ytdldplhfpianhaa

namespace Go.Proofs.Ytdldplhfpianhaa
open Go.RowKit
set_option linter.unnecessarySimpa false
set_option linter.unusedVariables false
set_option linter.unusedSimpArgs false
set_option maxRecDepth 100000

/-- A world that is as w was, below B. -/
structure Like (B : Nat) (w : World) where
  val : World
  below : Below B w val
instance likeInhabited (B : Nat) (w : World) : Inhabited (Like B w) := ⟨⟨w, Below.refl B w⟩⟩
/-- The class. -/
def Likes (B : Nat) (w : World) : World → Prop := fun w' => ∃ x : Like B w, w' = x.val
theorem Likes.of {B : Nat} {w w' : World} (h : Below B w w') : Likes B w w' := ⟨⟨w', h⟩, rfl⟩

/-- A region that draws its order, at the class. -/
theorem region_likes {P : Program} {id : Nat} {Q : Exit → Act → World → Prop} {a : Act} {w : World} {l : List Oper} (hm : P.follows .mixedOrders = true) (hB : Region.lexB .any l.toArray = true)
    (h : wpQuiet P l.toArray (fun w' => ∃ x : Like w.heap.size w, w' = x.val) (fun a' => ∀ x : Like w.heap.size w, Q .normal a' x.val) l a) : (Code.region id l.toArray true).wp P Q a w :=
  wp_region_quiet (C := fun w' => ∃ x : Like w.heap.size w, w' = x.val) hm hB ⟨⟨w.drew, (Below.refl _ _).drew⟩, rfl⟩ (by
    have e : (fun a' => ∀ w', (∃ x : Like w.heap.size w, w' = x.val) → Q .normal a' w') = (fun a' => ∀ x : Like w.heap.size w, Q .normal a' x.val) := by
      funext a'; apply propext; exact ⟨fun h x => h _ ⟨x, rfl⟩, fun h _ ⟨x, hx⟩ => hx ▸ h x⟩
    rw [e]
    exact h)

/-- A callee's contract, met in a world of the class. -/
theorem calls_likes {P : Program} {f : FuncId} {args : Array Value} {B : Nat} {w : World} {x : Like B w} {v : Value} (hB : B ≤ x.val.heap.size)
    (h : Calls P f args x.val fun e w' => e = .returned v ∧ Below x.val.heap.size x.val w') : Calls P f args x.val fun e w'' => e = .returned v ∧ ∃ y : Like B w, w'' = y.val :=
  h.mono fun _ w' ⟨he, hb⟩ => ⟨he, ⟨w', x.below.trans (hb.mono hB)⟩, rfl⟩
/-- .. of a callee that leaves the world as it is. -/
theorem calls_likes_same {P : Program} {f : FuncId} {args : Array Value} {B : Nat} {w : World} {x : Like B w} {v : Value}
    (h : Calls P f args x.val fun e w' => e = .returned v ∧ w' = x.val) : Calls P f args x.val fun e w'' => e = .returned v ∧ ∃ y : Like B w, w'' = y.val :=
  h.mono fun _ _ ⟨he, hb⟩ => ⟨he, x, hb⟩

theorem Like.size {w : World} (x : Like w.heap.size w) : w.heap.size ≤ x.val.heap.size := x.below.size

/-- A whole array (or struct) is loaded: in every world of the class. -/
theorem quiet_row {P : Program} {o : Oper} {a : Act} {C : World → Prop} {K : Act → Prop} (ty : TypeId) (x : Operand) (ho : o.op = .load ty x)
    (g : Nat) (hx : a.eval x = .pointer (some ⟨g, 0, none⟩)) (t : TypeId) (cs : Array Value) (fr : Nat × Nat) (d : TypeDesc) (hg : ∀ w, C w → w.heap[g]? = some (.cells cs t fr))
    (hu : P.underlying ty = some d) (hd : (match d with | .struct _ | .array _ _ => true | _ => false) = true) (hi : (P.info? ty).map (·.size) = some cs.size)
    (h : K (a.put o.dst (.agg cs))) : o.quiet P a C K :=
  ⟨.agg cs, fun w hw => by
    unfold Oper.quietAt execOp
    simp only [ho, hx, Instr.loadAt, Instr.sureAddr, Sem.run_bind, Sem.run_pure, Result.andThen_ok, run_loadVar_row w g t ty cs fr d (hg w hw) hu hd hi, Oper.quietUpon, and_self], h⟩
/-- The row of a block below the bound stays. -/
theorem likes_row {w : World} {g : Nat} {o : Obj} (h : w.heap[g]? = some o) : ∀ w', (∃ x : Like w.heap.size w, w' = x.val) → w'.heap[g]? = some o := fun _ ⟨x, hx⟩ => by
  rw [hx, x.below.block g (Array.getElem?_eq_some_iff.1 h).1, h]
end Go.Proofs.Ytdldplhfpianhaa

namespace Go.Proofs.Ytdldplhfpianhaa
open Go.RowKit
set_option linter.unusedVariables false
set_option linter.unnecessarySimpa false
set_option linter.unusedSimpArgs false
set_option maxRecDepth 100000

/-- A version of a key. -/
structure Im where
  key : ByteArray
  v : Vr
def im0 : Im := ⟨⟨#[]⟩, vr0⟩
def ItmAt (W : World) (b off : Nat) (m : Im) : Prop :=
  b < W.heap.size ∧ m.key.size ≤ maxLen ∧ m.v.val.size ≤ maxLen ∧ m.v.time < 18446744073709551616 ∧ W.cell? ⟨b, off, none⟩ = some (.string m.key) ∧ W.cell? ⟨b, off + 1, none⟩ = some (.int .u64 (m.v.time : Int)) ∧
    W.cell? ⟨b, off + 1 + 1, none⟩ = some (.bool m.v.gone) ∧ W.cell? ⟨b, off + 1 + 2, none⟩ = some (.string m.v.val)
def IsItms (W : World) (a : Option Addr) (len _cap : Nat) (L : List Im) : Prop := L.length = len ∧ len ≤ maxLen ∧ ∀ i, i < len → ∃ b off, a = some ⟨b, off, none⟩ ∧ ItmAt W b (off + i * 4) (L.getD i im0)
theorem ItmAt.below {W W' : World} {b off : Nat} {m : Im} (h : ItmAt W b off m) (hb : Below W.heap.size W W') : ItmAt W' b off m := by
  obtain ⟨h1, h2, h3, h4, k0, k1, k2, k3⟩ := h
  exact ⟨Nat.lt_of_lt_of_le h1 hb.size, h2, h3, h4, (hb.cell (p := ⟨b, off, none⟩) h1).trans k0, (hb.cell (p := ⟨b, off + 1, none⟩) h1).trans k1, (hb.cell (p := ⟨b, off + 1 + 1, none⟩) h1).trans k2, (hb.cell (p := ⟨b, off + 1 + 2, none⟩) h1).trans k3⟩
theorem IsItms.below {W W' : World} {a : Option Addr} {len cap : Nat} {L : List Im} (h : IsItms W a len cap L) (hb : Below W.heap.size W W') : IsItms W' a len cap L :=
  ⟨h.1, h.2.1, fun i hi => by obtain ⟨b, off, ha, he⟩ := h.2.2 i hi; exact ⟨b, off, ha, he.below hb⟩⟩

def fewIm (m : Im) : Prop := m.key.size ≤ 300 ∧ m.v.val.size ≤ 700
def FewIms (L : List Im) (n : Nat) : Prop := (∀ i, i < L.length → i < 500 → fewIm (L.getD i im0)) ∧ L.length ≤ n
open Classical in
noncomputable def fewM (L : List Im) (n : Nat) : Bool := decide (FewIms L n)
theorem fewM_true {L : List Im} {n : Nat} : fewM L n = true ↔ FewIms L n := by unfold fewM; simp

/-! The last time of a key, and how many versions it has. -/
def sameK (a b : ByteArray) : Bool := a.toList == b.toList
def lastOf (key : ByteArray) : List Im → Nat × Nat
  | [] => (0, 0)
  | m :: L => let r := lastOf key L; if sameK m.key key then (max m.v.time r.1, r.2 + 1) else r
def lastStep (key : ByteArray) (r : Nat × Nat) (m : Im) : Nat × Nat := if sameK m.key key then (max r.1 m.v.time, r.2 + 1) else r
theorem lastOf_snoc (key : ByteArray) : ∀ (L : List Im) (m : Im), lastOf key (L ++ [m]) = lastStep key (lastOf key L) m
  | [], m => by
    show (if sameK m.key key then (max m.v.time 0, 0 + 1) else ((0, 0) : Nat × Nat)) = _
    unfold lastStep
    split <;> simp [lastOf]
  | x :: L, m => by
    rw [List.cons_append]
    simp only [lastOf]
    rw [lastOf_snoc key L m]
    unfold lastStep
    by_cases h1 : sameK x.key key = true <;> by_cases h2 : sameK m.key key = true <;> simp [h1, h2, Nat.max_assoc]
theorem lastOf_le (key : ByteArray) : ∀ L : List Im, (lastOf key L).2 ≤ L.length
  | [] => Nat.le_refl _
  | m :: L => by
    have := lastOf_le key L
    simp only [lastOf, List.length_cons]
    split
    · simp only; omega
    · omega
theorem takeI_succ (L : List Im) {i : Nat} (h : i < L.length) : L.take (i + 1) = L.take i ++ [L.getD i im0] := by rw [List.take_add_one, List.getD, List.getElem?_eq_getElem h]; rfl

end Go.Proofs.Ytdldplhfpianhaa
