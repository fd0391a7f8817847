/-
  The walk of the statement CrcSums: true.
-/
import Derived.Test.YtgnojihleenejaaCrcAwake
import Derived.OpenShut
import Derived.Deep.DeepCutAuto
import Derived.Deep.CutBlock
namespace Go.Proofs.Ytgnojihleenejaa
open Go.RowKit

set_option maxRecDepth 100000 in
set_option maxHeartbeats 4000000 in
theorem crcSums_walk (b : ByteArray) (_ : b.size ≤ maxLen) (a1 : Int) (w1 : (Lit.int .u8 a1).wf = true) (w : World) :
    Calls Try.prog 3 #[.string b, .int .u8 a1] w fun e w' => e = .returned (.bool true) ∧ Below w.heap.size w w' := by
  have hz := (zero_of_info (P := Try.prog) tableInfo).1
  have haw := Lib.hid crcAwake_any
  have hmk := Lib.hid make_any
  have hbd := bounds_u8 w1
  obtain ⟨n, rfl⟩ : ∃ n : Nat, a1 = n := ⟨a1.toNat, by omega⟩
  have hn : n < 256 := by omega
  have hnz : (n : Int) < 256 := by omega
  clear hbd w1
  by_cases hlen : 2000 < b.size
  · have hd : (2000 : Int) < (b.size : Int) := by omega
    go_enter Try.func3, Try.ntmps3
    go_upto_region 2 with (go_at_call 6; refine (haw.out _).mono ?_; rintro e w1 ⟨rfl, hb1⟩)
    go_wp2_with (go_at_call 6; refine (haw.out _).mono ?_; rintro e w2 ⟨rfl, hb2⟩)
    go_ret
    exact ⟨rfl, hb1.trans (hb2.mono hb1.size)⟩
  · have hd : ¬ (2000 : Int) < (b.size : Int) := by omega
    have hsum := Lib.hid (sum_any b (by omega))
    have href := Lib.hid (refsum_any b (by omega))
    have hst := Lib.hid (steps_any n (by omega))
    have hwn : IntKind.u64.wrap (n : Int) = (n : Int) := by simp [IntKind.wrap, IntKind.bits, IntKind.signed]; omega
    have hwh : IntKind.u64.wrap ((halves 8 n : Nat) : Int) = ((halves 8 n : Nat) : Int) := by
      have := halves_lt 8 (n := n) (by omega)
      simp [IntKind.wrap, IntKind.bits, IntKind.signed]; omega
    clear hlen
    go_enter Try.func3, Try.ntmps3
    go_upto_region 4 with (first
      | (go_at_call 6; refine (haw.out _).mono ?_; rintro e w1 ⟨rfl, hb1⟩)
      | (go_at_call 7; refine (hmk.out _).mono ?_; rintro e w2 ⟨rfl, hb2⟩)
      | (refine wpList_store_row rfl 25 _ _ rfl w2.heap.size tab rfl rfl 25 (Array.replicate 256 (.int .u32 0)) (heap_alloc_last w2 _) tableSize zeroTable_size tab_one ?_; rw [World.setRow_alloc_new]; dsimp only [Act.put]))
    have hrow := Lib.hid (heap_alloc_last w2 (.cells tab 25))
    have hcell : ∀ x : Like (w2.alloc (.cells tab 25)).heap.size (w2.alloc (.cells tab 25)), x.val.cell? ⟨w2.heap.size, n, none⟩ = some (.int .u32 ((halves 8 n : Nat) : Int)) := fun x => by
      rw [x.below.cell (by simp), World.cell?_alloc_at _ _ _ _ (by simp), tab_at hn]
    refine region_likes (by kernel_rfl) (by kernel_rfl) ?_
    repeat (first
      | (go_big_quiet_want; refine quiet_row 25 _ rfl w2.heap.size rfl 25 tab (0, 0) _ (likes_row hrow.out) Try.underlying25 rfl tableSize ?_; go_simp; go_big_quiet_on)
      | (go_big_quiet_step (first
          | (go_at_call 8; exact calls_likes (Like.size _) (hsum.out _))
          | (go_at_call 9; exact calls_likes_same (href.out _))
          | (go_at_call 10; exact calls_likes_same (hst.out _)))))
    refine wpQuiet_nil ?_
    intro x
    have hx := Lib.hid (show Below w.heap.size w x.val from ((hb1.trans (hb2.mono hb1.size)).alloc (Nat.le_trans hb1.size hb2.size) _).trans (x.below.mono (by have := hb1.size; have := hb2.size; simp; omega)))
    go_wp2_with fail
    go_ret
    exact ⟨rfl, hx.out⟩
end Go.Proofs.Ytgnojihleenejaa
