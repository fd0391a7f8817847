/-
  The walk of layer 2's 'awake': true; a table in a variable.
-/
import Derived.Test.YtgnojihleenejaaCrcSum
namespace Go.Proofs.Ytgnojihleenejaa
open Go.RowKit

theorem sum_nine : sumB [49, 50, 51, 52, 53, 54, 55, 56, 57] = 3808858755 := by decide +kernel

theorem sum_nine_any (w : World) : Calls Try.prog 8 #[.agg tab, .string ⟨#[49, 50, 51, 52, 53, 54, 55, 56, 57]⟩] w fun e w' => e = .returned (.int .u32 3808858755) ∧ Below w.heap.size w w' := by
  have h := sum_any ⟨#[49, 50, 51, 52, 53, 54, 55, 56, 57]⟩ (by decide) w
  rw [show (⟨#[49, 50, 51, 52, 53, 54, 55, 56, 57]⟩ : ByteArray).data.toList = [49, 50, 51, 52, 53, 54, 55, 56, 57] from rfl, sum_nine] at h
  exact h

set_option maxHeartbeats 800000 in
theorem crcAwake_any (w : World) : Calls Try.prog 6 #[] w fun e w' => e = .returned (.bool true) ∧ Below w.heap.size w w' := by
  have hm := Lib.hid make_any
  have hn := Lib.hid sum_nine_any
  go_enter Try.func6, Try.ntmps6
  go_wp2_with (first | (go_at_call 7; refine (hm.out _).mono ?_; rintro e w1 ⟨rfl, hb1⟩) | (go_at_call 8; refine (hn.out _).mono ?_; rintro e w2 ⟨rfl, hb2⟩))
  go_ret
  exact ⟨rfl, hb1.trans (hb2.mono hb1.size)⟩

/-- A table's info, as the store asks it. -/
theorem tableSize : (Try.prog.info? 25).map (·.size) = some tab.size := by rw [tab_size]; exact (zero_of_info (P := Try.prog) tableInfo).2
theorem zeroTable_size : (Array.replicate 256 (Value.int .u32 0)).size = tab.size := by rw [tab_size, Array.size_replicate]
end Go.Proofs.Ytgnojihleenejaa
