/-
  The walks of Zig and Zag, the program's and the document's.
-/
import Derived.Test.YtefkhekmhabeaaaMath
import Derived.ProofKit
import Derived.WalkSpells
import Derived.WalkLawsBesides
import Derived.Lib.Hide
import Derived.Lib.Zigzag
namespace Go.Proofs.Ytefkhekmhabeaaa
open Go.RowKit

set_option maxHeartbeats 800000 in
theorem zig_any (n : Int) (h0 : -9223372036854775808 ≤ n) (h1 : n ≤ 9223372036854775807) (w : World) :
    Calls Try.prog 13 #[.int .i64 n] w fun e w' => e = .returned (.int .u64 (Lib.zigzag n : Nat)) ∧ w = w' := by
  by_cases hn : n < 0
  · have H := Lib.hid (Lib.zigzag_neg h0 hn)
    go_enter Try.func13, Try.ntmps13
    go_wp2
    go_ret
    exact ⟨ret_int H.out, rfl⟩
  · have H := Lib.hid (Lib.zigzag_nonneg (x := n) (by omega))
    go_enter Try.func13, Try.ntmps13
    go_wp2
    go_ret
    exact ⟨ret_int (by rw [H.out]), rfl⟩

set_option maxHeartbeats 800000 in
theorem refZig_any (n : Int) (h0 : -9223372036854775808 ≤ n) (h1 : n ≤ 9223372036854775807) (w : World) :
    Calls Try.prog 14 #[.int .i64 n] w fun e w' => e = .returned (.int .u64 (Lib.zigzag n : Nat)) ∧ w = w' := by
  by_cases hn : n < 0
  · go_enter Try.func14, Try.ntmps14
    go_wp2
    go_ret
    exact ⟨ret_int (by unfold Lib.zigzag; rw [if_neg (by omega)]; omega), rfl⟩
  · go_enter Try.func14, Try.ntmps14
    go_wp2
    go_ret
    exact ⟨ret_int (by unfold Lib.zigzag; rw [if_pos (by omega)]; omega), rfl⟩

/-- The number that zigzag counts as n. -/
def zagI (n : Nat) : Int := if n % 2 = 1 then -((n / 2 : Nat) : Int) - 1 else ((n / 2 : Nat) : Int)

theorem zigzag_zagI (n : Nat) : Lib.zigzag (zagI n) = n := by
  unfold zagI Lib.zigzag
  by_cases h : n % 2 = 1
  · rw [if_pos h, if_neg (by omega)]; omega
  · rw [if_neg h, if_pos (by omega)]; omega

theorem zagI_range {n : Nat} (h : n < 18446744073709551616) : -9223372036854775808 ≤ zagI n ∧ zagI n ≤ 9223372036854775807 := by
  unfold zagI
  split <;> omega

set_option maxHeartbeats 800000 in
theorem zag_any (n : Nat) (h0 : n < 18446744073709551616) (w : World) :
    Calls Try.prog 8 #[.int .u64 n] w fun e w' => e = .returned (.int .i64 (zagI n)) ∧ w = w' := by
  have HA := Lib.u64_and1 (n : Int) (by omega) (by omega)
  by_cases hn : n % 2 = 1
  · have hb : (bits BinOp.and IntKind.u64 (n : Int) 1 == 1) = true := by rw [HA]; simp; omega
    have H := Lib.hid (Lib.i64_not (n / 2) (by omega))
    have hz := Lib.hid (show zagI n = -((n / 2 : Nat) : Int) - 1 by unfold zagI; rw [if_pos hn])
    clear HA hn
    go_enter Try.func8, Try.ntmps8
    go_wp2
    go_ret
    exact ⟨ret_int (by rw [hz.out, ← H.out]; rfl), rfl⟩
  · have hb : (bits BinOp.and IntKind.u64 (n : Int) 1 == 1) = false := by rw [HA]; simp; omega
    have hz := Lib.hid (show zagI n = ((n / 2 : Nat) : Int) by unfold zagI; rw [if_neg hn])
    clear HA hn
    go_enter Try.func8, Try.ntmps8
    go_wp2
    go_ret
    exact ⟨ret_int (by rw [hz.out]; rfl), rfl⟩
end Go.Proofs.Ytefkhekmhabeaaa
