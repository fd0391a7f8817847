/-
  The walk of crc's Make: it answers the table.
-/
import Derived.Test.YtlkifliaaaomeaaCrcSmall
import Derived.Deep.WholeRow
import Derived.Laws.Rows
import Derived.Laws.Tables
import Derived.Laws.CopyOwn
namespace Go.Proofs.Ytlkifliaaaomeaa
open Go.RowKit
set_option linter.unnecessarySimpa false
set_option linter.unusedVariables false
set_option linter.unusedSimpArgs false
set_option maxRecDepth 100000

theorem tableInfo : (Try.prog.info? 29).map (fun i => (i.zero, i.size)) = some (some (.agg (Array.replicate 256 (.int .u32 0))), 256) := by kernel_rfl

set_option maxRecDepth 100000 in
set_option maxHeartbeats 2000000 in
theorem make_any (w : World) : Calls Try.prog 8 #[] w fun e w' => e = .returned (.agg tab) ∧ Below w.heap.size w w' := by
  have hz := (zero_of_info (P := Try.prog) tableInfo).1
  have hi := Lib.hid (zero_of_info (P := Try.prog) tableInfo).2
  go_enter Try.func8, Try.ntmps8
  go_wp2_with fail
  rw [← tabTo_zero]
  go_loopg [2, 3] 256 (fun g s2 s3 wx => ∃ i : Nat, i + g = 256 ∧ s3 = .int .i64 i ∧ wx = (w.alloc (.cells (tabTo 0) 29)).alloc (.cells (tabTo i) 29))
  case atStart => exact ⟨0, by omega, rfl, rfl⟩
  case round =>
    obtain ⟨i, hig, rfl, rfl⟩ := hrel
    cases gk with
    | zero =>
      obtain rfl : i = 256 := by omega
      rw [tabTo_all]
      have hg0 := Lib.hid (show ((w.alloc (.cells (tabTo 0) 29)).alloc (.cells tab 29)).heap[w.heap.size]? = some (.cells (tabTo 0) 29 (0, 0)) by rw [Below.heap_alloc _ _ _ (by simp)]; exact heap_alloc_last w _)
      have hg1 := Lib.hid (show ((w.alloc (.cells (tabTo 0) 29)).alloc (.cells tab 29)).heap[w.heap.size + 1]? = some (.cells tab 29 (0, 0)) by have := heap_alloc_last (w.alloc (.cells (tabTo 0) 29)) (.cells tab 29); simpa using this)
      have his := Lib.hid (show (Try.prog.info? 29).map (·.size) = some tab.size by rw [tab_size]; exact hi.out)
      have hss := Lib.hid (show (tabTo 0).size = tab.size by rw [tab_size, tabTo_size])
      go_wp2_with (first
        | (refine wpList_load_row rfl 29 _ rfl (w.heap.size + 1) rfl 29 tab (0, 0) _ hg1.out Try.underlying29 rfl his.out ?_)
        | (refine wpList_store_row rfl 29 _ _ rfl w.heap.size tab rfl rfl 29 (tabTo 0) hg0.out his.out hss.out tab_one ?_))
      refine bodyPost_ret (v := .agg tab) ?_ rfl ⟨rfl, below_setRow (((Below.refl _ _).alloc (Nat.le_refl _) _).alloc (by simp) _) (Nat.le_refl _) _⟩
      exact results_cell_row rfl _ _ w.heap.size 29 tab (0, 0) _ rfl (setRow_heap _ _ _ _ _ _ hg0.out) Try.underlying29 rfl his.out
    | succ g =>
      have hi : (i : Int) < 256 := by omega
      have hw := Lib.hid (tabTo_succ i)
      have hcell := tabTo_cur (k := i) (by omega)
      have hdiv := Lib.hid (divided_any i (by omega))
      go_wp2_with (go_at_call 22; refine (hdiv.out _).mono ?_; rintro e w' ⟨rfl, rfl⟩)
      rw [hw.out]
      go_roundg g
      case measure => omega
      case rel => exact ⟨i + 1, by omega, by simp, rfl⟩
end Go.Proofs.Ytlkifliaaaomeaa
