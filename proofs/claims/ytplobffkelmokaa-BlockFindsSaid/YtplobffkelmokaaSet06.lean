/-
  Joined: CrcMath, CrcSmall, CrcMake.
-/
import Derived.Test.YtplobffkelmokaaRows
import Derived.WalkKit
import Derived.Laws.BitsAllLaws
import Derived.ProofKit
import Derived.WalkSpells
import Derived.WalkLawsBesides
import Derived.Lib.Hide
import Derived.Deep.LoopGhost
import Derived.Deep.WholeRow
import Derived.Laws.Rows
import Derived.Laws.Tables
import Derived.Laws.CopyOwn
namespace Go.Proofs.Ytplobffkelmokaa
set_option linter.unnecessarySimpa false
set_option linter.unusedVariables false
set_option linter.unusedSimpArgs false
set_option maxRecDepth 100000

theorem xor_zero_eq {x y : Nat} (h : x ^^^ y = 0) : x = y := by
  have h1 : x ^^^ (x ^^^ y) = x := by rw [h, Nat.xor_zero]
  rw [← Nat.xor_assoc, Nat.xor_self, Nat.zero_xor] at h1
  exact h1.symm

/-- One step: halved, and, if a one was lost, the polynomial by an exclusive or. -/
def half (n : Nat) : Nat := if n % 2 = 1 then (n / 2) ^^^ 2197175160 else n / 2
def halves : Nat → Nat → Nat
  | 0, n => n
  | k + 1, n => halves k (half n)

theorem half_odd {n : Nat} (h : n % 2 = 1) : half n = (n / 2) ^^^ 2197175160 := if_pos h
theorem half_even {n : Nat} (h : ¬ n % 2 = 1) : half n = n / 2 := if_neg h

theorem half_xor (x y : Nat) : half (x ^^^ y) = half x ^^^ half y := by
  have hm := @Nat.xor_mod_two_eq_one x y
  by_cases hx : x % 2 = 1 <;> by_cases hy : y % 2 = 1
  · rw [half_even (by rw [hm]; simp [hx, hy]), half_odd hx, half_odd hy, Nat.xor_div_two,
      Nat.xor_assoc, ← Nat.xor_assoc 2197175160, Nat.xor_comm 2197175160, Nat.xor_assoc (y / 2), Nat.xor_self, Nat.xor_zero]
  · rw [half_odd (by rw [hm]; simp [hx, hy]), half_odd hx, half_even hy, Nat.xor_div_two, Nat.xor_assoc, Nat.xor_assoc, Nat.xor_comm (y / 2)]
  · rw [half_odd (by rw [hm]; simp [hx, hy]), half_even hx, half_odd hy, Nat.xor_div_two, Nat.xor_assoc]
  · rw [half_even (by rw [hm]; simp [hx, hy]), half_even hx, half_even hy, Nat.xor_div_two]

theorem half_lt {n : Nat} (h : n < 4294967296) : half n < 4294967296 := by
  by_cases hn : n % 2 = 1
  · rw [half_odd hn]
    exact Nat.xor_lt_two_pow (n := 32) (by omega) (by decide)
  · rw [half_even hn]; omega

theorem half_zero {n : Nat} (h : n < 4294967296) (h0 : half n = 0) : n = 0 := by
  by_cases hn : n % 2 = 1
  · rw [half_odd hn] at h0
    have := xor_zero_eq h0
    omega
  · rw [half_even hn] at h0; omega

theorem half_inj {x y : Nat} (hx : x < 4294967296) (hy : y < 4294967296) (h : half x = half y) : x = y := by
  refine xor_zero_eq (half_zero (Nat.xor_lt_two_pow (n := 32) hx hy) ?_)
  rw [half_xor, h, Nat.xor_self]

theorem halves_xor : ∀ (k x y : Nat), halves k (x ^^^ y) = halves k x ^^^ halves k y
  | 0, _, _ => rfl
  | k + 1, x, y => by rw [halves, halves, halves, half_xor, halves_xor k]
theorem halves_lt : ∀ (k : Nat) {n : Nat}, n < 4294967296 → halves k n < 4294967296
  | 0, _, h => h
  | k + 1, _, h => by rw [halves]; exact halves_lt k (half_lt h)
theorem halves_inj : ∀ (k : Nat) {x y : Nat}, x < 4294967296 → y < 4294967296 → halves k x = halves k y → x = y
  | 0, _, _, _, _, h => h
  | k + 1, _, _, hx, hy, h => half_inj hx hy (halves_inj k (half_lt hx) (half_lt hy) h)
theorem halves_snoc : ∀ (k n : Nat), halves (k + 1) n = half (halves k n)
  | 0, _ => rfl
  | k + 1, n => by rw [halves, halves_snoc k, halves]
theorem halves_mul : ∀ (k n : Nat), halves k (2 ^ k * n) = n
  | 0, n => by simp [halves]
  | k + 1, n => by
    have e : 2 ^ (k + 1) * n = 2 * (2 ^ k * n) := by rw [Nat.pow_succ, Nat.mul_comm (2 ^ k) 2, Nat.mul_assoc]
    rw [halves, e, half_even (by omega), Nat.mul_div_cancel_left _ (by decide), halves_mul k]

theorem split256 (s : Nat) : s = (256 * (s / 256)) ^^^ (s % 256) := by
  apply Nat.eq_of_testBit_eq
  intro i
  rw [Nat.testBit_xor, show (256 : Nat) = 2 ^ 8 from rfl, Nat.testBit_mod_two_pow, Nat.mul_comm, Nat.testBit_mul_two_pow, Nat.testBit_div_two_pow]
  by_cases h : i < 8
  · have h' : ¬ 8 ≤ i := by omega
    simp [h, h']
  · have h' : 8 ≤ i := by omega
    simp [h, h', Nat.sub_add_cancel h']

/-- A byte more. -/
def stepB (s : Nat) (b : UInt8) : Nat := halves 8 (s ^^^ b.toNat)
/-- The table's way to it. -/
theorem stepB_table (s : Nat) (b : UInt8) : stepB s b = (s / 256) ^^^ halves 8 ((s % 256) ^^^ b.toNat) := by
  unfold stepB
  conv => lhs; rw [split256 s]
  rw [Nat.xor_assoc, halves_xor, show (256 : Nat) = 2 ^ 8 from rfl, halves_mul]
theorem stepB_lt {s : Nat} (h : s < 4294967296) (b : UInt8) : stepB s b < 4294967296 :=
  halves_lt 8 (Nat.xor_lt_two_pow (n := 32) h (by have := UInt8.toNat_lt b; omega))
theorem stepB_state {s t : Nat} (hs : s < 4294967296) (ht : t < 4294967296) (b : UInt8) (h : stepB s b = stepB t b) : s = t := by
  have hb := UInt8.toNat_lt b
  have h1 := halves_inj 8 (Nat.xor_lt_two_pow (n := 32) hs (by omega)) (Nat.xor_lt_two_pow (n := 32) ht (by omega)) h
  have h2 : (s ^^^ b.toNat) ^^^ b.toNat = (t ^^^ b.toNat) ^^^ b.toNat := by rw [h1]
  simpa [Nat.xor_assoc] using h2
theorem stepB_byte {s : Nat} (hs : s < 4294967296) {b c : UInt8} (h : stepB s b = stepB s c) : b = c := by
  have hb := UInt8.toNat_lt b
  have hc := UInt8.toNat_lt c
  have h1 := halves_inj 8 (Nat.xor_lt_two_pow (n := 32) hs (by omega)) (Nat.xor_lt_two_pow (n := 32) hs (by omega)) h
  have h2 : s ^^^ (s ^^^ b.toNat) = s ^^^ (s ^^^ c.toNat) := by rw [h1]
  rw [← Nat.xor_assoc, ← Nat.xor_assoc, Nat.xor_self, Nat.zero_xor, Nat.zero_xor] at h2
  exact UInt8.toNat_inj.1 h2

/-- The state behind bytes. -/
def moreB (s : Nat) (l : List UInt8) : Nat := l.foldl stepB s
theorem moreB_nil (s : Nat) : moreB s [] = s := rfl
theorem moreB_append (s : Nat) (l m : List UInt8) : moreB s (l ++ m) = moreB (moreB s l) m := List.foldl_append ..
theorem moreB_lt : ∀ (l : List UInt8) {s : Nat}, s < 4294967296 → moreB s l < 4294967296
  | [], _, h => h
  | b :: l, _, h => moreB_lt l (stepB_lt h b)
theorem moreB_state : ∀ (l : List UInt8) {s t : Nat}, s < 4294967296 → t < 4294967296 → moreB s l = moreB t l → s = t
  | [], _, _, _, _, h => h
  | b :: l, _, _, hs, ht, h => stepB_state hs ht b (moreB_state l (stepB_lt hs b) (stepB_lt ht b) h)
/-- Bytes that differ in one place alone make other states. -/
theorem moreB_bent (l m : List UInt8) {b c : UInt8} (h : b ≠ c) {s : Nat} (hs : s < 4294967296) : moreB s (l ++ b :: m) ≠ moreB s (l ++ c :: m) := by
  intro e
  rw [moreB_append, moreB_append] at e
  have hl := moreB_lt l hs
  exact h (stepB_byte hl (moreB_state m (stepB_lt hl b) (stepB_lt hl c) e))

/-- The sum. -/
def sumB (l : List UInt8) : Nat := 4294967295 - moreB 4294967295 l
theorem flip32 {s : Nat} (h : s < 4294967296) : s ^^^ 4294967295 = 4294967295 - s := by
  rw [show (4294967295 : Nat) = 2 ^ 32 - 1 from rfl]
  have := Nat.xor_lt_two_pow (n := 32) h (show (4294967295 : Nat) < 2 ^ 32 by decide)
  apply Nat.eq_of_testBit_eq
  intro i
  rw [Nat.testBit_xor, Nat.testBit_two_pow_sub_one, show 2 ^ 32 - 1 - s = 2 ^ 32 - (s + 1) by omega, Nat.testBit_two_pow_sub_succ (n := 32) h]
  by_cases hi : i < 32
  · simp [hi]
  · have : s.testBit i = false := Nat.testBit_lt_two_pow (Nat.lt_of_lt_of_le h (Nat.pow_le_pow_right (n := 2) (by decide) (show 32 ≤ i by omega)))
    simp [hi, this]
theorem sumB_lt (l : List UInt8) : sumB l < 4294967296 := by unfold sumB; omega
theorem sumB_bent (l m : List UInt8) {b c : UInt8} (h : b ≠ c) : sumB (l ++ b :: m) ≠ sumB (l ++ c :: m) := by
  intro e
  have h1 := moreB_bent l m h (s := 4294967295) (by decide)
  have h2 := moreB_lt (l ++ b :: m) (s := 4294967295) (by decide)
  have h3 := moreB_lt (l ++ c :: m) (s := 4294967295) (by decide)
  unfold sumB at e
  omega

/-- The table, as an array's cells. -/
def tab : Array Value := (Array.range 256).map fun i => .int .u32 (halves 8 i)
theorem tab_size : tab.size = 256 := by simp [tab]
theorem tab_at {i : Nat} (h : i < 256) : tab[i]? = some (.int .u32 (halves 8 i)) := by simp [tab, h]
theorem tab_one : tab.all (·.oneCell') = true := by
  rw [Array.all_eq_true_iff_forall_mem]
  intro v hv
  obtain ⟨j, _, rfl⟩ := Array.mem_map.1 hv
  rfl
/-- The table's first k places, noughts behind them. -/
def tabTo (k : Nat) : Array Value := (Array.range 256).map fun i => .int .u32 (if i < k then (halves 8 i : Int) else 0)
theorem tabTo_size (k : Nat) : (tabTo k).size = 256 := by simp [tabTo]
theorem tabTo_zero : tabTo 0 = Array.replicate 256 (.int .u32 0) := by
  apply Array.ext
  · simp [tabTo]
  · intro i h1 h2; simp [tabTo]
theorem tabTo_all : tabTo 256 = tab := by
  apply Array.ext
  · simp [tabTo, tab]
  · intro i h1 h2
    have : i < 256 := by simpa [tabTo_size] using h1
    simp [tabTo, tab, this]
theorem tabTo_cur {k : Nat} (h : k < 256) : (tabTo k)[k]? = some (.int .u32 0) := by simp [tabTo, h]
theorem tabTo_succ (k : Nat) : (tabTo k).setIfInBounds k (.int .u32 (halves 8 k)) = tabTo (k + 1) := by
  apply Array.ext
  · simp [tabTo]
  · intro i h1 h2
    rw [Array.getElem_setIfInBounds (by simpa [tabTo_size] using h1)]
    by_cases h : k = i
    · subst h; simp [tabTo]
    · have h3 : (i < k + 1) = (i < k) := by apply propext; omega
      simp [tabTo, h, h3]

/-! The model's spellings. -/
theorem and1 {n : Nat} (h : n < 4294967296) : bits BinOp.and IntKind.u32 (n : Int) 1 = ((n % 2 : Nat) : Int) := by
  rw [show (1 : Int) = ((1 : Nat) : Int) from rfl, u32_and_nat n 1 h (by decide), nat_mask1]
theorem xorP32 {n : Nat} (h : n < 4294967296) : bits BinOp.xor IntKind.u32 (n : Int) 2197175160 = ((n ^^^ 2197175160 : Nat) : Int) := by
  rw [show (2197175160 : Int) = ((2197175160 : Nat) : Int) from rfl, u32_xor_nat n _ h (by decide)]
theorem xorP64 {n : Nat} (h : n < 18446744073709551616) : bits BinOp.xor IntKind.u64 (n : Int) 2197175160 = ((n ^^^ 2197175160 : Nat) : Int) := by
  rw [show (2197175160 : Int) = ((2197175160 : Nat) : Int) from rfl, u64_xor_nat n _ h (by decide)]
theorem xorEnd {n : Nat} (h : n < 4294967296) : bits BinOp.xor IntKind.u32 (n : Int) 4294967295 = ((4294967295 - n : Nat) : Int) := by
  rw [show (4294967295 : Int) = ((4294967295 : Nat) : Int) from rfl, u32_xor_nat n _ h (by decide), flip32 h]
end Go.Proofs.Ytplobffkelmokaa

namespace Go.Proofs.Ytplobffkelmokaa
open Go.RowKit
set_option linter.unnecessarySimpa false
set_option linter.unusedVariables false
set_option linter.unusedSimpArgs false
set_option maxRecDepth 100000

theorem crc_ret_int {k : IntKind} {a b : Int} (h : a = b) : Ending.returned (.int k a) = .returned (.int k b) := by rw [h]

theorem begin_any (w : World) : Calls Try.prog 67 #[] w fun e w' => e = .returned (.int .u32 4294967295) ∧ w' = w := by
  go_enter Try.func67, Try.ntmps67
  go_wp2
  go_ret
  exact ⟨rfl, rfl⟩

theorem end_any (n : Nat) (hn : n < 4294967296) (w : World) : Calls Try.prog 65 #[.int .u32 n] w fun e w' => e = .returned (.int .u32 ((4294967295 - n : Nat) : Int)) ∧ w' = w := by
  have hx := Lib.hid (xorEnd hn)
  clear hn
  go_enter Try.func65, Try.ntmps65
  go_wp2
  go_ret
  exact ⟨crc_ret_int hx.out, rfl⟩

set_option maxHeartbeats 1000000 in
theorem divided_any (n : Nat) (hn : n < 4294967296) (w : World) : Calls Try.prog 21 #[.int .u32 n] w fun e w' => e = .returned (.int .u32 (halves 8 n)) ∧ w' = w := by
  have HN := Lib.hid hn
  clear hn
  go_enter Try.func21, Try.ntmps21
  go_wp2
  go_loopg [0, 3, 4] 8 (fun g s0 s3 s4 wx => ∃ i : Nat, i + g = 8 ∧ s0 = .int .u32 (halves i n) ∧ s4 = .int .i64 i ∧ wx = w)
  case atStart => exact ⟨0, by omega, rfl, rfl, rfl⟩
  case round =>
    obtain ⟨i, hig, rfl, rfl, rfl⟩ := hrel
    cases gk with
    | zero =>
      obtain rfl : i = 8 := by omega
      go_wp2
      go_ret
      exact ⟨rfl, rfl⟩
    | succ g =>
      have hi : (i : Int) < 8 := by omega
      obtain ⟨m, hm⟩ : ∃ m, m = halves i n := ⟨_, rfl⟩
      have hml : m < 4294967296 := by rw [hm]; exact halves_lt i HN.out
      have hs := Lib.hid (halves_snoc i n)
      have HM := Lib.hid hm
      rw [← hm]
      clear hm
      have hdiv := Lib.hid (show m / 2 < 4294967296 by omega)
      have ha := Lib.hid (and1 hml)
      have hx := Lib.hid (xorP32 hdiv.out)
      by_cases h : m % 2 = 1
      · have he := Lib.hid (half_odd h)
        have ht : (bits BinOp.and IntKind.u32 (m : Int) 1 == 1) = true := by rw [ha.out, h]; rfl
        clear hml
        go_wp2
        go_roundg g
        case measure => omega
        case rel => exact ⟨i + 1, by omega, congrArg (Value.int .u32) (by rw [show (m : Int) / 2 = ((m / 2 : Nat) : Int) by omega, hx.out, hs.out, ← HM.out, he.out]), by simp, rfl⟩
      · have he := Lib.hid (half_even h)
        have ht : (bits BinOp.and IntKind.u32 (m : Int) 1 == 1) = false := by rw [ha.out]; have : m % 2 = 0 := by omega
                                                                              rw [this]; rfl
        clear hml
        go_wp2
        go_roundg g
        case measure => omega
        case rel => exact ⟨i + 1, by omega, congrArg (Value.int .u32) (by rw [show (m : Int) / 2 = ((m / 2 : Nat) : Int) by omega, hs.out, ← HM.out, he.out]), by simp, rfl⟩

set_option maxHeartbeats 1000000 in
/-- The document's: eight steps, of a number of 32 bits. -/
theorem steps_any (n : Nat) (hn : n < 4294967296) (w : World) : Calls Try.prog 36 #[.int .u64 n, .int .i64 8] w fun e w' => e = .returned (.int .u64 (halves 8 n)) ∧ w' = w := by
  have HN := Lib.hid hn
  clear hn
  go_enter Try.func36, Try.ntmps36
  go_wp2
  go_loopg [0, 5, 6] 8 (fun g s0 s5 s6 wx => ∃ i : Nat, i + g = 8 ∧ s0 = .int .u64 (halves i n) ∧ s5 = .int .i64 i ∧ wx = w)
  case atStart => exact ⟨0, by omega, rfl, rfl, rfl⟩
  case round =>
    obtain ⟨i, hig, rfl, rfl, rfl⟩ := hrel
    cases gk with
    | zero =>
      obtain rfl : i = 8 := by omega
      go_wp2
      go_ret
      exact ⟨rfl, rfl⟩
    | succ g =>
      have hi : (i : Int) < 8 := by omega
      obtain ⟨m, hm⟩ : ∃ m, m = halves i n := ⟨_, rfl⟩
      have hml : m < 4294967296 := by rw [hm]; exact halves_lt i HN.out
      have hs := Lib.hid (halves_snoc i n)
      have HM := Lib.hid hm
      rw [← hm]
      clear hm
      have hdiv := Lib.hid (show m / 2 < 18446744073709551616 by omega)
      have hx := Lib.hid (xorP64 hdiv.out)
      have hw := Lib.hid (show IntKind.u64.wrap ((m / 2 : Nat) : Int) = ((m / 2 : Nat) : Int) by simp [IntKind.wrap, IntKind.bits, IntKind.signed]; omega)
      by_cases h : m % 2 = 1
      · have he := Lib.hid (half_odd h)
        have ht : ((m : Int) % 2 == 1) = true := by rw [beq_iff_eq]; omega
        clear hml h
        go_wp2
        go_roundg g
        case measure => omega
        case rel => exact ⟨i + 1, by omega, congrArg (Value.int .u64) (by rw [show (m : Int) / 2 = ((m / 2 : Nat) : Int) by omega, hw.out, hx.out, hs.out, ← HM.out, he.out]), by simp, rfl⟩
      · have he := Lib.hid (half_even h)
        have ht : ((m : Int) % 2 == 1) = false := by rw [beq_eq_false_iff_ne]; omega
        clear hml h
        go_wp2
        go_roundg g
        case measure => omega
        case rel => exact ⟨i + 1, by omega, congrArg (Value.int .u64) (by rw [show (m : Int) / 2 = ((m / 2 : Nat) : Int) by omega, hw.out, hs.out, ← HM.out, he.out]), by simp, rfl⟩
end Go.Proofs.Ytplobffkelmokaa

namespace Go.Proofs.Ytplobffkelmokaa
open Go.RowKit
set_option linter.unnecessarySimpa false
set_option linter.unusedVariables false
set_option linter.unusedSimpArgs false
set_option maxRecDepth 100000

theorem tableInfo : (Try.prog.info? 27).map (fun i => (i.zero, i.size)) = some (some (.agg (Array.replicate 256 (.int .u32 0))), 256) := by kernel_rfl

set_option maxRecDepth 100000 in
set_option maxHeartbeats 2000000 in
theorem make_any (w : World) : Calls Try.prog 8 #[] w fun e w' => e = .returned (.agg tab) ∧ Below w.heap.size w w' := by
  have hz := (zero_of_info (P := Try.prog) tableInfo).1
  have hi := Lib.hid (zero_of_info (P := Try.prog) tableInfo).2
  go_enter Try.func8, Try.ntmps8
  go_wp2_with fail
  rw [← tabTo_zero]
  go_loopg [2, 3] 256 (fun g s2 s3 wx => ∃ i : Nat, i + g = 256 ∧ s3 = .int .i64 i ∧ wx = (w.alloc (.cells (tabTo 0) 27)).alloc (.cells (tabTo i) 27))
  case atStart => exact ⟨0, by omega, rfl, rfl⟩
  case round =>
    obtain ⟨i, hig, rfl, rfl⟩ := hrel
    cases gk with
    | zero =>
      obtain rfl : i = 256 := by omega
      rw [tabTo_all]
      have hg0 := Lib.hid (show ((w.alloc (.cells (tabTo 0) 27)).alloc (.cells tab 27)).heap[w.heap.size]? = some (.cells (tabTo 0) 27 (0, 0)) by rw [Below.heap_alloc _ _ _ (by simp)]; exact heap_alloc_last w _)
      have hg1 := Lib.hid (show ((w.alloc (.cells (tabTo 0) 27)).alloc (.cells tab 27)).heap[w.heap.size + 1]? = some (.cells tab 27 (0, 0)) by have := heap_alloc_last (w.alloc (.cells (tabTo 0) 27)) (.cells tab 27); simpa using this)
      have his := Lib.hid (show (Try.prog.info? 27).map (·.size) = some tab.size by rw [tab_size]; exact hi.out)
      have hss := Lib.hid (show (tabTo 0).size = tab.size by rw [tab_size, tabTo_size])
      go_wp2_with (first
        | (refine wpList_load_row rfl 27 _ rfl (w.heap.size + 1) rfl 27 tab (0, 0) _ hg1.out Try.underlying27 rfl his.out ?_)
        | (refine wpList_store_row rfl 27 _ _ rfl w.heap.size tab rfl rfl 27 (tabTo 0) hg0.out his.out hss.out tab_one ?_))
      refine bodyPost_ret (v := .agg tab) ?_ rfl ⟨rfl, below_setRow (((Below.refl _ _).alloc (Nat.le_refl _) _).alloc (by simp) _) (Nat.le_refl _) _⟩
      exact results_cell_row rfl _ _ w.heap.size 27 tab (0, 0) _ rfl (setRow_heap _ _ _ _ _ _ hg0.out) Try.underlying27 rfl his.out
    | succ g =>
      have hi : (i : Int) < 256 := by omega
      have hw := Lib.hid (tabTo_succ i)
      have hcell := tabTo_cur (k := i) (by omega)
      have hdiv := Lib.hid (divided_any i (by omega))
      go_wp2_with (go_at_call 21; refine (hdiv.out _).mono ?_; rintro e w' ⟨rfl, rfl⟩)
      rw [hw.out]
      go_roundg g
      case measure => omega
      case rel => exact ⟨i + 1, by omega, by simp, rfl⟩
end Go.Proofs.Ytplobffkelmokaa
