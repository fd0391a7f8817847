/-
  Joined: BlkInside, MvcEntMath, CrcMath, CrcSmall, CrcMake, CrcSum, RefFixedB, LzMath, RefTakeB, RefUnpack.
-/
import Derived.Test.YthcomfcbdlobpaaSet29
import Derived.Test.YthcomfcbdlobpaaSet27
import Derived.RegionTactic
import Derived.Test.YthcomfcbdlobpaaRows
import Derived.WalkKit
import Derived.Laws.BitsAllLaws
import Derived.ProofKit
import Derived.WalkSpells
import Derived.WalkLawsBesides
import Derived.Lib.Hide
import Derived.Deep.LoopGhost
import Derived.Deep.WholeRow
import Derived.Laws.Rows
import Derived.Laws.Tables
import Derived.Laws.CopyOwn
import Derived.Test.YthcomfcbdlobpaaSet01
import Derived.Lib.IndexBytes
import Derived.Lib.Strings
import Derived.Test.YthcomfcbdlobpaaSet04
import Derived.Lib.AppendStr
import Derived.Deep.DeepCutAuto
import Derived.Deep.CutBlock
import Derived.Deep.QuietTactic
import Derived.BigQuiet
namespace Go.Proofs.Ythcomfcbdlobpaa
open Go.RowKit
set_option linter.unusedVariables false
set_option linter.unnecessarySimpa false
set_option linter.unusedSimpArgs false
set_option maxRecDepth 100000

def txtB (l : List UInt8) : List UInt8 := ub l.length ++ l
/-- An entry's bytes, behind a key. -/
def entB (p : List UInt8) (e : En) : List UInt8 := ub (pre p e.key.data.toList) ++ txtB (e.key.data.toList.drop (pre p e.key.data.toList)) ++ txtB (chainB e.ch)
def entsB : List UInt8 → List En → List UInt8
  | _, [] => []
  | p, e :: l => entB p e ++ entsB e.key.data.toList l
def insideB (es : List En) : List UInt8 := ub es.length ++ entsB [] es
def lastKey : List UInt8 → List En → List UInt8
  | p, [] => p
  | _, e :: l => lastKey e.key.data.toList l
theorem entsB_snoc (p : List UInt8) (l : List En) (e : En) : entsB p (l ++ [e]) = entsB p l ++ entB (lastKey p l) e := by
  induction l generalizing p with
  | nil => simp [entsB, lastKey]
  | cons x l ih => rw [List.cons_append, entsB, ih, entsB, lastKey, List.append_assoc]
theorem lastKey_snoc (p : List UInt8) (l : List En) (e : En) : lastKey p (l ++ [e]) = e.key.data.toList := by
  induction l generalizing p with
  | nil => rfl
  | cons x l ih => rw [List.cons_append, lastKey, ih]
theorem takeE_succ (es : List En) {i : Nat} (h : i < es.length) : es.take (i + 1) = es.take i ++ [es.getD i en0] := by rw [List.take_add_one, List.getD, List.getElem?_eq_getElem h]; rfl
theorem lastKey_take (es : List En) {i : Nat} (h : i < es.length) : lastKey [] (es.take (i + 1)) = (es.getD i en0).key.data.toList := by rw [takeE_succ es h, lastKey_snoc]
theorem txtB_len (l : List UInt8) (h : l.length ≤ 300000) : (txtB l).length ≤ l.length + 10 := by
  unfold txtB
  rw [List.length_append]
  have := ub_len10 (n := l.length) (by omega)
  omega
/-- What is small enough to be looked at. -/
def SmallE (es : List En) : Prop := ∀ e ∈ es, e.key.size ≤ 60000 ∧ (chainB e.ch).length ≤ 200000 ∧ ∀ v ∈ e.ch, v.val.size ≤ 60000
theorem entB_len (p : List UInt8) (e : En) (h1 : e.key.size ≤ 60000) (h2 : (chainB e.ch).length ≤ 200000) : (entB p e).length ≤ 300000 := by
  unfold entB
  have hp := pre_le p e.key.data.toList
  have hk := c_size e.key
  have u1 := ub_len10 (n := pre p e.key.data.toList) (by omega)
  have u2 := txtB_len (e.key.data.toList.drop (pre p e.key.data.toList)) (by rw [List.length_drop]; omega)
  have u3 := txtB_len (chainB e.ch) (by omega)
  rw [List.length_drop] at u2
  rw [List.length_append, List.length_append]
  omega
theorem entOk_right {es : List En} (h : rightE es = true) {i : Nat} (hi : i < es.length) : rightB (es.getD i en0).ch = true := by
  have := rightE_true.1 h i hi
  unfold entOk at this
  simp only [Bool.and_eq_true] at this
  exact this.1.2

theorem right_partsE {zs : List Vr} (h : rightB zs = true) : risesB 0 zs = true ∧ zs.length ≤ 200 := by
  unfold rightB at h
  simpa using h

end Go.Proofs.Ythcomfcbdlobpaa

namespace Go.Proofs.Ythcomfcbdlobpaa
open Go.RowKit
set_option linter.unusedVariables false
set_option linter.unnecessarySimpa false
set_option linter.unusedSimpArgs false
set_option maxRecDepth 100000

def chainOf (k : ByteArray) (L : List Im) : List Vr := (L.filter fun m => sameK m.key k).map (·.v)
def entOf (L : List Im) (k : ByteArray) : En := ⟨k, chainOf k L⟩
def entsM (L : List Im) : List En := (keysM L).map (entOf L)
theorem chainOf_snoc (k : ByteArray) (L : List Im) (m : Im) : chainOf k (L ++ [m]) = if sameK m.key k then chainOf k L ++ [m.v] else chainOf k L := by
  unfold chainOf
  rw [List.filter_append, List.map_append]
  by_cases h : sameK m.key k = true <;> simp [h]
theorem entsM_len (L : List Im) : (entsM L).length = (keysM L).length := by unfold entsM; rw [List.length_map]
theorem chainOf_len (k : ByteArray) (L : List Im) : (chainOf k L).length ≤ L.length := by
  unfold chainOf
  rw [List.length_map]
  exact List.length_filter_le _ _
theorem chainOf_mem {k : ByteArray} {L : List Im} {v : Vr} (h : v ∈ chainOf k L) : ∃ m ∈ L, m.v = v := by
  unfold chainOf at h
  obtain ⟨m, hm, rfl⟩ := List.mem_map.1 h
  exact ⟨m, (List.mem_filter.1 hm).1, rfl⟩
end Go.Proofs.Ythcomfcbdlobpaa

namespace Go.Proofs.Ythcomfcbdlobpaa
set_option linter.unnecessarySimpa false
set_option linter.unusedVariables false
set_option linter.unusedSimpArgs false
set_option maxRecDepth 100000

theorem xor_zero_eq {x y : Nat} (h : x ^^^ y = 0) : x = y := by
  have h1 : x ^^^ (x ^^^ y) = x := by rw [h, Nat.xor_zero]
  rw [← Nat.xor_assoc, Nat.xor_self, Nat.zero_xor] at h1
  exact h1.symm

/-- One step: halved, and, if a one was lost, the polynomial by an exclusive or. -/
def half (n : Nat) : Nat := if n % 2 = 1 then (n / 2) ^^^ 2197175160 else n / 2
def halves : Nat → Nat → Nat
  | 0, n => n
  | k + 1, n => halves k (half n)

theorem half_odd {n : Nat} (h : n % 2 = 1) : half n = (n / 2) ^^^ 2197175160 := if_pos h
theorem half_even {n : Nat} (h : ¬ n % 2 = 1) : half n = n / 2 := if_neg h

theorem half_xor (x y : Nat) : half (x ^^^ y) = half x ^^^ half y := by
  have hm := @Nat.xor_mod_two_eq_one x y
  by_cases hx : x % 2 = 1 <;> by_cases hy : y % 2 = 1
  · rw [half_even (by rw [hm]; simp [hx, hy]), half_odd hx, half_odd hy, Nat.xor_div_two,
      Nat.xor_assoc, ← Nat.xor_assoc 2197175160, Nat.xor_comm 2197175160, Nat.xor_assoc (y / 2), Nat.xor_self, Nat.xor_zero]
  · rw [half_odd (by rw [hm]; simp [hx, hy]), half_odd hx, half_even hy, Nat.xor_div_two, Nat.xor_assoc, Nat.xor_assoc, Nat.xor_comm (y / 2)]
  · rw [half_odd (by rw [hm]; simp [hx, hy]), half_even hx, half_odd hy, Nat.xor_div_two, Nat.xor_assoc]
  · rw [half_even (by rw [hm]; simp [hx, hy]), half_even hx, half_even hy, Nat.xor_div_two]

theorem half_lt {n : Nat} (h : n < 4294967296) : half n < 4294967296 := by
  by_cases hn : n % 2 = 1
  · rw [half_odd hn]
    exact Nat.xor_lt_two_pow (n := 32) (by omega) (by decide)
  · rw [half_even hn]; omega

theorem half_zero {n : Nat} (h : n < 4294967296) (h0 : half n = 0) : n = 0 := by
  by_cases hn : n % 2 = 1
  · rw [half_odd hn] at h0
    have := xor_zero_eq h0
    omega
  · rw [half_even hn] at h0; omega

theorem half_inj {x y : Nat} (hx : x < 4294967296) (hy : y < 4294967296) (h : half x = half y) : x = y := by
  refine xor_zero_eq (half_zero (Nat.xor_lt_two_pow (n := 32) hx hy) ?_)
  rw [half_xor, h, Nat.xor_self]

theorem halves_xor : ∀ (k x y : Nat), halves k (x ^^^ y) = halves k x ^^^ halves k y
  | 0, _, _ => rfl
  | k + 1, x, y => by rw [halves, halves, halves, half_xor, halves_xor k]
theorem halves_lt : ∀ (k : Nat) {n : Nat}, n < 4294967296 → halves k n < 4294967296
  | 0, _, h => h
  | k + 1, _, h => by rw [halves]; exact halves_lt k (half_lt h)
theorem halves_inj : ∀ (k : Nat) {x y : Nat}, x < 4294967296 → y < 4294967296 → halves k x = halves k y → x = y
  | 0, _, _, _, _, h => h
  | k + 1, _, _, hx, hy, h => half_inj hx hy (halves_inj k (half_lt hx) (half_lt hy) h)
theorem halves_snoc : ∀ (k n : Nat), halves (k + 1) n = half (halves k n)
  | 0, _ => rfl
  | k + 1, n => by rw [halves, halves_snoc k, halves]
theorem halves_mul : ∀ (k n : Nat), halves k (2 ^ k * n) = n
  | 0, n => by simp [halves]
  | k + 1, n => by
    have e : 2 ^ (k + 1) * n = 2 * (2 ^ k * n) := by rw [Nat.pow_succ, Nat.mul_comm (2 ^ k) 2, Nat.mul_assoc]
    rw [halves, e, half_even (by omega), Nat.mul_div_cancel_left _ (by decide), halves_mul k]

theorem split256 (s : Nat) : s = (256 * (s / 256)) ^^^ (s % 256) := by
  apply Nat.eq_of_testBit_eq
  intro i
  rw [Nat.testBit_xor, show (256 : Nat) = 2 ^ 8 from rfl, Nat.testBit_mod_two_pow, Nat.mul_comm, Nat.testBit_mul_two_pow, Nat.testBit_div_two_pow]
  by_cases h : i < 8
  · have h' : ¬ 8 ≤ i := by omega
    simp [h, h']
  · have h' : 8 ≤ i := by omega
    simp [h, h', Nat.sub_add_cancel h']

/-- A byte more. -/
def stepB (s : Nat) (b : UInt8) : Nat := halves 8 (s ^^^ b.toNat)
/-- The table's way to it. -/
theorem stepB_table (s : Nat) (b : UInt8) : stepB s b = (s / 256) ^^^ halves 8 ((s % 256) ^^^ b.toNat) := by
  unfold stepB
  conv => lhs; rw [split256 s]
  rw [Nat.xor_assoc, halves_xor, show (256 : Nat) = 2 ^ 8 from rfl, halves_mul]
theorem stepB_lt {s : Nat} (h : s < 4294967296) (b : UInt8) : stepB s b < 4294967296 :=
  halves_lt 8 (Nat.xor_lt_two_pow (n := 32) h (by have := UInt8.toNat_lt b; omega))
theorem stepB_state {s t : Nat} (hs : s < 4294967296) (ht : t < 4294967296) (b : UInt8) (h : stepB s b = stepB t b) : s = t := by
  have hb := UInt8.toNat_lt b
  have h1 := halves_inj 8 (Nat.xor_lt_two_pow (n := 32) hs (by omega)) (Nat.xor_lt_two_pow (n := 32) ht (by omega)) h
  have h2 : (s ^^^ b.toNat) ^^^ b.toNat = (t ^^^ b.toNat) ^^^ b.toNat := by rw [h1]
  simpa [Nat.xor_assoc] using h2
theorem stepB_byte {s : Nat} (hs : s < 4294967296) {b c : UInt8} (h : stepB s b = stepB s c) : b = c := by
  have hb := UInt8.toNat_lt b
  have hc := UInt8.toNat_lt c
  have h1 := halves_inj 8 (Nat.xor_lt_two_pow (n := 32) hs (by omega)) (Nat.xor_lt_two_pow (n := 32) hs (by omega)) h
  have h2 : s ^^^ (s ^^^ b.toNat) = s ^^^ (s ^^^ c.toNat) := by rw [h1]
  rw [← Nat.xor_assoc, ← Nat.xor_assoc, Nat.xor_self, Nat.zero_xor, Nat.zero_xor] at h2
  exact UInt8.toNat_inj.1 h2

/-- The state behind bytes. -/
def moreB (s : Nat) (l : List UInt8) : Nat := l.foldl stepB s
theorem moreB_nil (s : Nat) : moreB s [] = s := rfl
theorem moreB_append (s : Nat) (l m : List UInt8) : moreB s (l ++ m) = moreB (moreB s l) m := List.foldl_append ..
theorem moreB_lt : ∀ (l : List UInt8) {s : Nat}, s < 4294967296 → moreB s l < 4294967296
  | [], _, h => h
  | b :: l, _, h => moreB_lt l (stepB_lt h b)
theorem moreB_state : ∀ (l : List UInt8) {s t : Nat}, s < 4294967296 → t < 4294967296 → moreB s l = moreB t l → s = t
  | [], _, _, _, _, h => h
  | b :: l, _, _, hs, ht, h => stepB_state hs ht b (moreB_state l (stepB_lt hs b) (stepB_lt ht b) h)
/-- Bytes that differ in one place alone make other states. -/
theorem moreB_bent (l m : List UInt8) {b c : UInt8} (h : b ≠ c) {s : Nat} (hs : s < 4294967296) : moreB s (l ++ b :: m) ≠ moreB s (l ++ c :: m) := by
  intro e
  rw [moreB_append, moreB_append] at e
  have hl := moreB_lt l hs
  exact h (stepB_byte hl (moreB_state m (stepB_lt hl b) (stepB_lt hl c) e))

/-- The sum. -/
def sumB (l : List UInt8) : Nat := 4294967295 - moreB 4294967295 l
theorem flip32 {s : Nat} (h : s < 4294967296) : s ^^^ 4294967295 = 4294967295 - s := by
  rw [show (4294967295 : Nat) = 2 ^ 32 - 1 from rfl]
  have := Nat.xor_lt_two_pow (n := 32) h (show (4294967295 : Nat) < 2 ^ 32 by decide)
  apply Nat.eq_of_testBit_eq
  intro i
  rw [Nat.testBit_xor, Nat.testBit_two_pow_sub_one, show 2 ^ 32 - 1 - s = 2 ^ 32 - (s + 1) by omega, Nat.testBit_two_pow_sub_succ (n := 32) h]
  by_cases hi : i < 32
  · simp [hi]
  · have : s.testBit i = false := Nat.testBit_lt_two_pow (Nat.lt_of_lt_of_le h (Nat.pow_le_pow_right (n := 2) (by decide) (show 32 ≤ i by omega)))
    simp [hi, this]
theorem sumB_lt (l : List UInt8) : sumB l < 4294967296 := by unfold sumB; omega
theorem sumB_bent (l m : List UInt8) {b c : UInt8} (h : b ≠ c) : sumB (l ++ b :: m) ≠ sumB (l ++ c :: m) := by
  intro e
  have h1 := moreB_bent l m h (s := 4294967295) (by decide)
  have h2 := moreB_lt (l ++ b :: m) (s := 4294967295) (by decide)
  have h3 := moreB_lt (l ++ c :: m) (s := 4294967295) (by decide)
  unfold sumB at e
  omega

/-- The table, as an array's cells. -/
def tab : Array Value := (Array.range 256).map fun i => .int .u32 (halves 8 i)
theorem tab_size : tab.size = 256 := by simp [tab]
theorem tab_at {i : Nat} (h : i < 256) : tab[i]? = some (.int .u32 (halves 8 i)) := by simp [tab, h]
theorem tab_one : tab.all (·.oneCell') = true := by
  rw [Array.all_eq_true_iff_forall_mem]
  intro v hv
  obtain ⟨j, _, rfl⟩ := Array.mem_map.1 hv
  rfl
/-- The table's first k places, noughts behind them. -/
def tabTo (k : Nat) : Array Value := (Array.range 256).map fun i => .int .u32 (if i < k then (halves 8 i : Int) else 0)
theorem tabTo_size (k : Nat) : (tabTo k).size = 256 := by simp [tabTo]
theorem tabTo_zero : tabTo 0 = Array.replicate 256 (.int .u32 0) := by
  apply Array.ext
  · simp [tabTo]
  · intro i h1 h2; simp [tabTo]
theorem tabTo_all : tabTo 256 = tab := by
  apply Array.ext
  · simp [tabTo, tab]
  · intro i h1 h2
    have : i < 256 := by simpa [tabTo_size] using h1
    simp [tabTo, tab, this]
theorem tabTo_cur {k : Nat} (h : k < 256) : (tabTo k)[k]? = some (.int .u32 0) := by simp [tabTo, h]
theorem tabTo_succ (k : Nat) : (tabTo k).setIfInBounds k (.int .u32 (halves 8 k)) = tabTo (k + 1) := by
  apply Array.ext
  · simp [tabTo]
  · intro i h1 h2
    rw [Array.getElem_setIfInBounds (by simpa [tabTo_size] using h1)]
    by_cases h : k = i
    · subst h; simp [tabTo]
    · have h3 : (i < k + 1) = (i < k) := by apply propext; omega
      simp [tabTo, h, h3]

/-! The model's spellings. -/
theorem and1 {n : Nat} (h : n < 4294967296) : bits BinOp.and IntKind.u32 (n : Int) 1 = ((n % 2 : Nat) : Int) := by
  rw [show (1 : Int) = ((1 : Nat) : Int) from rfl, u32_and_nat n 1 h (by decide), nat_mask1]
theorem xorP32 {n : Nat} (h : n < 4294967296) : bits BinOp.xor IntKind.u32 (n : Int) 2197175160 = ((n ^^^ 2197175160 : Nat) : Int) := by
  rw [show (2197175160 : Int) = ((2197175160 : Nat) : Int) from rfl, u32_xor_nat n _ h (by decide)]
theorem xorP64 {n : Nat} (h : n < 18446744073709551616) : bits BinOp.xor IntKind.u64 (n : Int) 2197175160 = ((n ^^^ 2197175160 : Nat) : Int) := by
  rw [show (2197175160 : Int) = ((2197175160 : Nat) : Int) from rfl, u64_xor_nat n _ h (by decide)]
theorem xorEnd {n : Nat} (h : n < 4294967296) : bits BinOp.xor IntKind.u32 (n : Int) 4294967295 = ((4294967295 - n : Nat) : Int) := by
  rw [show (4294967295 : Int) = ((4294967295 : Nat) : Int) from rfl, u32_xor_nat n _ h (by decide), flip32 h]
end Go.Proofs.Ythcomfcbdlobpaa

namespace Go.Proofs.Ythcomfcbdlobpaa
open Go.RowKit
set_option linter.unnecessarySimpa false
set_option linter.unusedVariables false
set_option linter.unusedSimpArgs false
set_option maxRecDepth 100000

theorem crc_ret_int {k : IntKind} {a b : Int} (h : a = b) : Ending.returned (.int k a) = .returned (.int k b) := by rw [h]

end Go.Proofs.Ythcomfcbdlobpaa

namespace Go.Proofs.Ythcomfcbdlobpaa
open Go.RowKit
set_option linter.unnecessarySimpa false
set_option linter.unusedVariables false
set_option linter.unusedSimpArgs false
set_option maxRecDepth 100000

end Go.Proofs.Ythcomfcbdlobpaa

namespace Go.Proofs.Ythcomfcbdlobpaa
open Go.RowKit
set_option linter.unnecessarySimpa false
set_option linter.unusedVariables false
set_option linter.unusedSimpArgs false
set_option maxRecDepth 100000

/-- The model's way to a place of the table. -/
theorem place8 {s : Nat} (b : UInt8) : bits BinOp.xor IntKind.u8 ((s : Int) % 256) (b.toNat : Int) = ((((s % 256) ^^^ b.toNat) : Nat) : Int) := by
  have e : ((s : Int) % 256) = ((s % 256 : Nat) : Int) := by omega
  rw [e, u8_xor_nat _ _ (by omega) (UInt8.toNat_lt b)]
theorem place_lt (s : Nat) (b : UInt8) : (s % 256) ^^^ b.toNat < 256 := Nat.xor_lt_two_pow (n := 8) (by omega) (UInt8.toNat_lt b)
theorem moreB_take_succ (s : Nat) (l : List UInt8) (i : Nat) {x : UInt8} (h : l[i]? = some x) : moreB s (l.take (i + 1)) = stepB (moreB s (l.take i)) x := by
  rw [List.take_add_one, h, moreB_append]; rfl

theorem zeroTable_size : (Array.replicate 256 (Value.int .u32 0)).size = tab.size := by rw [tab_size, Array.size_replicate]
end Go.Proofs.Ythcomfcbdlobpaa

namespace Go.Proofs.Ythcomfcbdlobpaa
open Go.RowKit
set_option linter.unnecessarySimpa false
set_option linter.unusedVariables false
set_option linter.unusedSimpArgs false
set_option maxRecDepth 100000

end Go.Proofs.Ythcomfcbdlobpaa

namespace Go.Proofs.Ythcomfcbdlobpaa
open Go.RowKit
set_option linter.unnecessarySimpa false
set_option linter.unusedVariables false
set_option linter.unusedSimpArgs false
set_option maxRecDepth 100000

/-- i bytes more, each the one that stands d ahead of it. -/
def copyTo : Nat → Nat → List UInt8 → List UInt8
  | 0, _, o => o
  | i + 1, d, o => copyTo i d o ++ [(copyTo i d o).getD ((copyTo i d o).length - d) 0]
theorem copyTo_len (i d : Nat) (o : List UInt8) : (copyTo i d o).length = o.length + i := by
  induction i with
  | zero => rfl
  | succ i ih => rw [copyTo, List.length_append, ih]; rfl

/-- One part: of n bytes, 'copy' telling which kind comes next. -/
def uStep (n : Nat) (copy : Bool) (out rest : List UInt8) : Option (List UInt8 × List UInt8) :=
  match tk rest with
  | none => none
  | some (v, m) =>
    if copy then
      match tk (rest.drop m) with
      | none => none
      | some (w, l) => if 1 ≤ v ∧ v ≤ out.length ∧ 4 ≤ w ∧ w ≤ n - out.length then some (copyTo w v out, (rest.drop m).drop l) else none
    else if v ≤ (rest.drop m).length ∧ v ≤ n - out.length then some (out ++ (rest.drop m).take v, (rest.drop m).drop v) else none

def uRun : Nat → Nat → Nat → List UInt8 → List UInt8 → Option (List UInt8)
  | 0, _, _, _, _ => none
  | f + 1, n, t, out, rest =>
    if t = 0 ∨ out.length < n then
      match uStep n (t % 2 == 1) out rest with
      | none => none
      | some (o, r) => uRun f n (t + 1) o r
    else if rest = [] then some out else none

/-- What packed bytes mean, or the error. -/
def unp (s : List UInt8) : List UInt8 × Int :=
  match tk s with
  | none => ([], 2)
  | some (n, k) =>
    if 60000 < n then ([], 3) else
    match s.drop k with
    | [] => ([], 2)
    | how :: rest =>
      if how = 0 ∧ rest.length = n then (rest, 0) else if ¬ how = 1 then ([], 2) else
      match uRun (rest.length + 1) n 0 [] rest with
      | none => ([], 2)
      | some o => (o, 0)

theorem uStep_less {n : Nat} {c : Bool} {out rest o r : List UInt8} (h : uStep n c out rest = some (o, r)) (hn : out.length ≤ n) : r.length < rest.length ∧ o.length ≤ n := by
  unfold uStep at h
  cases h1 : tk rest with
  | none => rw [h1] at h; cases h
  | some p =>
    obtain ⟨v, m⟩ := p
    have h2 := tk_some h1
    rw [h1] at h
    simp only at h
    cases c
    · simp only [Bool.false_eq_true, if_false] at h
      split at h
      · rename_i hc
        injection h with h
        injection h with e1 e2
        subst e1 e2
        simp only [List.length_drop, List.length_append, List.length_take] at *
        omega
      · cases h
    · simp only [if_true] at h
      cases h3 : tk (rest.drop m) with
      | none => rw [h3] at h; cases h
      | some p =>
        obtain ⟨w, l⟩ := p
        have h4 := tk_some h3
        rw [h3] at h
        simp only at h
        split at h
        · rename_i hc
          injection h with h
          injection h with e1 e2
          subst e1 e2
          simp only [List.length_drop, copyTo_len] at *
          omega
        · cases h

theorem uRun_go {f n t : Nat} {out rest : List UInt8} (h : t = 0 ∨ out.length < n) : uRun (f + 1) n t out rest = match uStep n (t % 2 == 1) out rest with
    | none => none
    | some (o, r) => uRun f n (t + 1) o r := by rw [uRun, if_pos h]
theorem uRun_end {f n t : Nat} {out rest : List UInt8} (h : ¬ (t = 0 ∨ out.length < n)) : uRun (f + 1) n t out rest = if rest = [] then some out else none := by rw [uRun, if_neg h]
theorem uRun_none {f n t : Nat} {out rest : List UInt8} (h : t = 0 ∨ out.length < n) (hs : uStep n (t % 2 == 1) out rest = none) : uRun (f + 1) n t out rest = none := by rw [uRun_go h, hs]
theorem uRun_some {f n t : Nat} {out rest o r : List UInt8} (h : t = 0 ∨ out.length < n) (hs : uStep n (t % 2 == 1) out rest = some (o, r)) : uRun (f + 1) n t out rest = uRun f n (t + 1) o r := by rw [uRun_go h, hs]

/-! A step's outcomes, by their conditions. -/
theorem step_bad {n : Nat} {c : Bool} {out rest : List UInt8} (h : tk rest = none) : uStep n c out rest = none := by unfold uStep; rw [h]
theorem step_lit {n v m : Nat} {out rest : List UInt8} (h : tk rest = some (v, m)) : uStep n false out rest = if v ≤ (rest.drop m).length ∧ v ≤ n - out.length then some (out ++ (rest.drop m).take v, (rest.drop m).drop v) else none := by
  unfold uStep; rw [h]; rfl
theorem step_copy_bad {n v m : Nat} {out rest : List UInt8} (h : tk rest = some (v, m)) (h2 : tk (rest.drop m) = none) : uStep n true out rest = none := by
  unfold uStep; rw [h]; simp only [if_true]; rw [h2]
theorem step_copy {n v m w l : Nat} {out rest : List UInt8} (h : tk rest = some (v, m)) (h2 : tk (rest.drop m) = some (w, l)) :
    uStep n true out rest = if 1 ≤ v ∧ v ≤ out.length ∧ 4 ≤ w ∧ w ≤ n - out.length then some (copyTo w v out, (rest.drop m).drop l) else none := by
  unfold uStep; rw [h]; simp only [if_true]; rw [h2]

theorem ext_drop (r : ByteArray) (m : Nat) : (r.extract m r.size).data.toList = r.data.toList.drop m := by
  simp only [ByteArray.data_extract, Array.toList_extract, List.extract_eq_drop_take']
  rw [show r.size = r.data.toList.length from Lib.size_eq r, List.take_length]
theorem ext_take (r : ByteArray) (v : Nat) : (r.extract 0 v).data.toList = r.data.toList.take v := by
  simp only [ByteArray.data_extract, Array.toList_extract, List.extract_eq_drop_take', List.drop_zero]
end Go.Proofs.Ythcomfcbdlobpaa

namespace Go.Proofs.Ythcomfcbdlobpaa
open Go.RowKit
set_option linter.unnecessarySimpa false
set_option linter.unusedVariables false
set_option linter.unusedSimpArgs false
set_option maxRecDepth 100000

theorem add_step (n b k : Nat) (hn : n < 2 ^ (7 * k)) (hk : k ≤ 9) (h9 : k = 9 → b % 128 ≤ 1) (u : Int) (hu : u = ((128 ^ k : Nat) : Int)) :
    IntKind.u64.wrap ((n : Int) + IntKind.u64.wrap (((b % 128 : Nat) : Int) * u)) = ((n + b % 128 * 128 ^ k : Nat) : Int) := by
  have hP : (128 : Nat) ^ k = 2 ^ (7 * k) := by rw [show (128 : Nat) = 2 ^ 7 from rfl, ← Nat.pow_mul]
  have hlt : b % 128 * 2 ^ (7 * k) + 2 ^ (7 * k) ≤ 18446744073709551616 := by
    by_cases e : k = 9
    · subst e
      have this := h9 rfl
      have h3 := Nat.mul_le_mul_right (2 ^ (7 * 9)) this
      exact Nat.le_trans (Nat.add_le_add_right h3 _) (by decide)
    · have h1 : b % 128 + 1 ≤ 128 := by omega
      have h2 : (2 : Nat) ^ (7 * k) ≤ 2 ^ 56 := Nat.pow_le_pow_right (by decide) (by omega)
      have h3 := Nat.mul_le_mul h1 h2
      rw [Nat.add_mul, Nat.one_mul] at h3
      omega
  rw [hu, hP, show ((b % 128 : Nat) : Int) * ((2 ^ (7 * k) : Nat) : Int) = ((b % 128 * 2 ^ (7 * k) : Nat) : Int) by simp]
  rw [show IntKind.u64.wrap ((b % 128 * 2 ^ (7 * k) : Nat) : Int) = ((b % 128 * 2 ^ (7 * k) : Nat) : Int) by rw [IntKind.wrap_u64]; omega]
  rw [IntKind.wrap_u64]
  omega

theorem unit_step (k : Nat) (hk : k ≤ 8) (u : Int) (hu : u = ((128 ^ k : Nat) : Int)) : IntKind.u64.wrap (u * 128) = ((128 ^ (k + 1) : Nat) : Int) := by
  have h2 : (128 : Nat) ^ (k + 1) ≤ 128 ^ 9 := Nat.pow_le_pow_right (by decide) (by omega)
  have h3 : (128 : Nat) ^ 9 = 9223372036854775808 := by decide
  rw [hu, show ((128 ^ k : Nat) : Int) * 128 = ((128 ^ (k + 1) : Nat) : Int) by rw [Nat.pow_succ]; simp, IntKind.wrap_u64]
  generalize 128 ^ (k + 1) = z at *
  omega

end Go.Proofs.Ythcomfcbdlobpaa

namespace Go.Proofs.Ythcomfcbdlobpaa
open Go.RowKit
set_option linter.unnecessarySimpa false
set_option linter.unusedVariables false
set_option linter.unusedSimpArgs false
set_option maxRecDepth 100000

theorem unp_none {s : List UInt8} (h : tk s = none) : unp s = ([], 2) := by unfold unp; rw [h]
theorem unp_long {s : List UInt8} {n k : Nat} (h : tk s = some (n, k)) (hn : 60000 < n) : unp s = ([], 3) := by unfold unp; rw [h]; simp only; rw [if_pos hn]
theorem unp_short {s : List UInt8} {n k : Nat} (h : tk s = some (n, k)) (hn : ¬ 60000 < n) (hk : k = s.length) : unp s = ([], 2) := by
  unfold unp; rw [h]; simp only; rw [if_neg hn, List.drop_eq_nil_of_le (by omega)]
theorem unp_how {s : List UInt8} {n k : Nat} {how : UInt8} {rest : List UInt8} (h : tk s = some (n, k)) (hn : ¬ 60000 < n) (hd : s.drop k = how :: rest) :
    unp s = if how = 0 ∧ rest.length = n then (rest, (0 : Int)) else if ¬ how = 1 then ([], 2) else match uRun (rest.length + 1) n 0 [] rest with
      | none => ([], 2)
      | some o => (o, 0) := by
  unfold unp; rw [h]; simp only; rw [if_neg hn, hd] <;> rfl

theorem ret_unp {a b : ByteArray} {c d : Int} (h : a = b) (h' : c = d) : Ending.returned (.tuple #[.string a, .int .i64 c]) = .returned (.tuple #[.string b, .int .i64 d]) := by rw [h, h']
theorem beq_u8 (b : UInt8) (n : Nat) (hn : n < 256) : ((b.toNat : Int) == (n : Int)) = decide (b = UInt8.ofNat n) := by
  by_cases h : b = UInt8.ofNat n
  · rw [decide_eq_true h, beq_iff_eq, h, UInt8.toNat_ofNat']; omega
  · rw [decide_eq_false h, beq_eq_false_iff_ne]; intro e; apply h; apply UInt8.toNat_inj.1; rw [UInt8.toNat_ofNat']; omega

end Go.Proofs.Ythcomfcbdlobpaa
