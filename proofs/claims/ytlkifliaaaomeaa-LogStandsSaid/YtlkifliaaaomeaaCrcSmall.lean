/-
  The walks of crc's small functions (divided, Begin, End), and of the document's Steps.
-/
import Derived.Test.YtlkifliaaaomeaaCrcMath
import Derived.ProofKit
import Derived.WalkSpells
import Derived.WalkLawsBesides
import Derived.Lib.Hide
import Derived.Deep.LoopGhost
namespace Go.Proofs.Ytlkifliaaaomeaa
open Go.RowKit
set_option linter.unnecessarySimpa false
set_option linter.unusedVariables false
set_option linter.unusedSimpArgs false
set_option maxRecDepth 100000

theorem crc_ret_int {k : IntKind} {a b : Int} (h : a = b) : Ending.returned (.int k a) = .returned (.int k b) := by rw [h]

theorem begin_any (w : World) : Calls Try.prog 63 #[] w fun e w' => e = .returned (.int .u32 4294967295) ∧ w' = w := by
  go_enter Try.func63, Try.ntmps63
  go_wp2
  go_ret
  exact ⟨rfl, rfl⟩

theorem end_any (n : Nat) (hn : n < 4294967296) (w : World) : Calls Try.prog 64 #[.int .u32 n] w fun e w' => e = .returned (.int .u32 ((4294967295 - n : Nat) : Int)) ∧ w' = w := by
  have hx := Lib.hid (xorEnd hn)
  clear hn
  go_enter Try.func64, Try.ntmps64
  go_wp2
  go_ret
  exact ⟨crc_ret_int hx.out, rfl⟩

set_option maxHeartbeats 1000000 in
theorem divided_any (n : Nat) (hn : n < 4294967296) (w : World) : Calls Try.prog 22 #[.int .u32 n] w fun e w' => e = .returned (.int .u32 (halves 8 n)) ∧ w' = w := by
  have HN := Lib.hid hn
  clear hn
  go_enter Try.func22, Try.ntmps22
  go_wp2
  go_loopg [0, 3, 4] 8 (fun g s0 s3 s4 wx => ∃ i : Nat, i + g = 8 ∧ s0 = .int .u32 (halves i n) ∧ s4 = .int .i64 i ∧ wx = w)
  case atStart => exact ⟨0, by omega, rfl, rfl, rfl⟩
  case round =>
    obtain ⟨i, hig, rfl, rfl, rfl⟩ := hrel
    cases gk with
    | zero =>
      obtain rfl : i = 8 := by omega
      go_wp2
      go_ret
      exact ⟨rfl, rfl⟩
    | succ g =>
      have hi : (i : Int) < 8 := by omega
      obtain ⟨m, hm⟩ : ∃ m, m = halves i n := ⟨_, rfl⟩
      have hml : m < 4294967296 := by rw [hm]; exact halves_lt i HN.out
      have hs := Lib.hid (halves_snoc i n)
      have HM := Lib.hid hm
      rw [← hm]
      clear hm
      have hdiv := Lib.hid (show m / 2 < 4294967296 by omega)
      have ha := Lib.hid (and1 hml)
      have hx := Lib.hid (xorP32 hdiv.out)
      by_cases h : m % 2 = 1
      · have he := Lib.hid (half_odd h)
        have ht : (bits BinOp.and IntKind.u32 (m : Int) 1 == 1) = true := by rw [ha.out, h]; rfl
        clear hml
        go_wp2
        go_roundg g
        case measure => omega
        case rel => exact ⟨i + 1, by omega, congrArg (Value.int .u32) (by rw [show (m : Int) / 2 = ((m / 2 : Nat) : Int) by omega, hx.out, hs.out, ← HM.out, he.out]), by simp, rfl⟩
      · have he := Lib.hid (half_even h)
        have ht : (bits BinOp.and IntKind.u32 (m : Int) 1 == 1) = false := by rw [ha.out]; have : m % 2 = 0 := by omega
                                                                              rw [this]; rfl
        clear hml
        go_wp2
        go_roundg g
        case measure => omega
        case rel => exact ⟨i + 1, by omega, congrArg (Value.int .u32) (by rw [show (m : Int) / 2 = ((m / 2 : Nat) : Int) by omega, hs.out, ← HM.out, he.out]), by simp, rfl⟩

set_option maxHeartbeats 1000000 in
/-- The document's: eight steps, of a number of 32 bits. -/
theorem steps_any (n : Nat) (hn : n < 4294967296) (w : World) : Calls Try.prog 49 #[.int .u64 n, .int .i64 8] w fun e w' => e = .returned (.int .u64 (halves 8 n)) ∧ w' = w := by
  have HN := Lib.hid hn
  clear hn
  go_enter Try.func49, Try.ntmps49
  go_wp2
  go_loopg [0, 5, 6] 8 (fun g s0 s5 s6 wx => ∃ i : Nat, i + g = 8 ∧ s0 = .int .u64 (halves i n) ∧ s5 = .int .i64 i ∧ wx = w)
  case atStart => exact ⟨0, by omega, rfl, rfl, rfl⟩
  case round =>
    obtain ⟨i, hig, rfl, rfl, rfl⟩ := hrel
    cases gk with
    | zero =>
      obtain rfl : i = 8 := by omega
      go_wp2
      go_ret
      exact ⟨rfl, rfl⟩
    | succ g =>
      have hi : (i : Int) < 8 := by omega
      obtain ⟨m, hm⟩ : ∃ m, m = halves i n := ⟨_, rfl⟩
      have hml : m < 4294967296 := by rw [hm]; exact halves_lt i HN.out
      have hs := Lib.hid (halves_snoc i n)
      have HM := Lib.hid hm
      rw [← hm]
      clear hm
      have hdiv := Lib.hid (show m / 2 < 18446744073709551616 by omega)
      have hx := Lib.hid (xorP64 hdiv.out)
      have hw := Lib.hid (show IntKind.u64.wrap ((m / 2 : Nat) : Int) = ((m / 2 : Nat) : Int) by simp [IntKind.wrap, IntKind.bits, IntKind.signed]; omega)
      by_cases h : m % 2 = 1
      · have he := Lib.hid (half_odd h)
        have ht : ((m : Int) % 2 == 1) = true := by rw [beq_iff_eq]; omega
        clear hml h
        go_wp2
        go_roundg g
        case measure => omega
        case rel => exact ⟨i + 1, by omega, congrArg (Value.int .u64) (by rw [show (m : Int) / 2 = ((m / 2 : Nat) : Int) by omega, hw.out, hx.out, hs.out, ← HM.out, he.out]), by simp, rfl⟩
      · have he := Lib.hid (half_even h)
        have ht : ((m : Int) % 2 == 1) = false := by rw [beq_eq_false_iff_ne]; omega
        clear hml h
        go_wp2
        go_roundg g
        case measure => omega
        case rel => exact ⟨i + 1, by omega, congrArg (Value.int .u64) (by rw [show (m : Int) / 2 = ((m / 2 : Nat) : Int) by omega, hw.out, hs.out, ← HM.out, he.out]), by simp, rfl⟩
end Go.Proofs.Ytlkifliaaaomeaa
