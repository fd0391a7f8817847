/-
  The walk of the statements' own 'awake': true.
-/
import Derived.Test.YtefkhekmhabeaaaUint
import Derived.Test.YtefkhekmhabeaaaZig
namespace Go.Proofs.Ytefkhekmhabeaaa
open Go.RowKit

theorem ub_300 : ub 300 = [172, 2] := by rw [ub_big (by decide), ub_small (by decide)]; rfl

theorem uint_300 (w : World) :
    Calls Try.prog 10 #[.int .u64 300] w fun e w' => e = .returned (.string ⟨#[172, 2]⟩) ∧ Below w.heap.size w w' := by
  have h := uint_any 300 (by decide) w
  rw [ub_300] at h
  exact h

theorem zig_m1 (w : World) :
    Calls Try.prog 13 #[.int .i64 (-1)] w fun e w' => e = .returned (.int .u64 1) ∧ w = w' :=
  zig_any (-1) (by decide) (by decide) w

set_option maxHeartbeats 800000 in
theorem awake_any (w : World) : Calls Try.prog 9 #[] w fun e w' => e = .returned (.bool true) ∧ Below w.heap.size w w' := by
  go_enter Try.func9, Try.ntmps9
  go_wp2_with (first | (go_at_call 10; refine (uint_300 _).mono ?_; rintro e w1 ⟨rfl, hb1⟩) | (go_at_call 13; refine (zig_m1 _).mono ?_; rintro e w2 ⟨rfl, rfl⟩))
  go_ret
  exact ⟨rfl, hb1⟩
end Go.Proofs.Ytefkhekmhabeaaa
