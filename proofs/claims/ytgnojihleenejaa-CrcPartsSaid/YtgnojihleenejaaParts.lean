/-
  The walk of the statement CrcParts: true.
-/
import Derived.Test.YtgnojihleenejaaCrcAwake
import Derived.OpenShut
import Derived.Deep.DeepCutAuto
import Derived.Deep.CutBlock
namespace Go.Proofs.Ytgnojihleenejaa
open Go.RowKit

set_option maxRecDepth 100000 in
set_option maxHeartbeats 4000000 in
theorem crcParts_walk (b : ByteArray) (_ : b.size ≤ maxLen) (a1 : Int) (w1 : (Lit.int .u16 a1).wf = true) (w : World) :
    Calls Try.prog 4 #[.string b, .int .u16 a1] w fun e w' => e = .returned (.bool true) ∧ Below w.heap.size w w' := by
  have hz := (zero_of_info (P := Try.prog) tableInfo).1
  have haw := Lib.hid crcAwake_any
  have hmk := Lib.hid make_any
  have hbd := bounds_u16 w1
  obtain ⟨n, rfl⟩ : ∃ n : Nat, a1 = n := ⟨a1.toNat, by omega⟩
  have hn : n < 65536 := by omega
  clear hbd w1
  by_cases hlen : 2000 < b.size
  · have hd : (2000 : Int) < (b.size : Int) := by omega
    go_enter Try.func4, Try.ntmps4
    go_upto_region 2 with (go_at_call 6; refine (haw.out _).mono ?_; rintro e w1 ⟨rfl, hb1⟩)
    go_wp2_with (go_at_call 6; refine (haw.out _).mono ?_; rintro e w2 ⟨rfl, hb2⟩)
    go_ret
    exact ⟨rfl, hb1.trans (hb2.mono hb1.size)⟩
  · have hd : ¬ (2000 : Int) < (b.size : Int) := by omega
    obtain ⟨k, hk⟩ : ∃ k, k = n % (b.size + 1) := ⟨_, rfl⟩
    have hkl : k ≤ b.size := by rw [hk]; have := Nat.mod_lt n (show b.size + 1 > 0 by omega); omega
    have hkz : (n : Int) % ((b.size : Int) + 1) = (k : Int) := by rw [hk]; rfl
    have hki : (k : Int) ≤ (b.size : Int) := by omega
    clear hk
    have hlst : (b.extract 0 k).data.toList ++ (b.extract k b.size).data.toList = b.data.toList := by
      simp only [ByteArray.data_extract, Array.toList_extract, List.extract_eq_drop_take', List.drop_zero]
      rw [show b.size = b.data.toList.length from Lib.size_eq b, List.take_length, List.take_append_drop]
    obtain ⟨m1, hm1⟩ : ∃ m1, m1 = moreB 4294967295 (b.extract 0 k).data.toList := ⟨_, rfl⟩
    obtain ⟨m2, hm2⟩ : ∃ m2, m2 = moreB m1 (b.extract k b.size).data.toList := ⟨_, rfl⟩
    have hm1l : m1 < 4294967296 := by rw [hm1]; exact moreB_lt _ (by decide)
    have hm2l : m2 < 4294967296 := by rw [hm2]; exact moreB_lt _ hm1l
    have hall : m2 = moreB 4294967295 b.data.toList := by rw [hm2, hm1, ← hlst, moreB_append]
    have hs : sumB b.data.toList = 4294967295 - m2 := by rw [sumB, hall]
    have h1 := more_any 4294967295 (by decide) (b.extract 0 k) (by rw [ByteArray.size_extract]; omega)
    have h2 := more_any m1 hm1l (b.extract k b.size) (by rw [ByteArray.size_extract]; omega)
    have h3 := sum_any b (by omega)
    have h4 := more_any m2 hm2l ⟨#[]⟩ (by decide)
    have h5 := end_any m2 hm2l
    rw [← hm1] at h1
    rw [← hm2] at h2
    rw [hs] at h3
    rw [show moreB m2 (⟨#[]⟩ : ByteArray).data.toList = m2 from rfl] at h4
    have h1 := Lib.hid h1
    have h2 := Lib.hid h2
    have h3 := Lib.hid h3
    have h4 := Lib.hid h4
    have h5 := Lib.hid h5
    clear hs hall hm1 hm2 hm1l hm2l hlst
    clear hlen
    go_enter Try.func4, Try.ntmps4
    go_upto_region 5 with (first
      | (go_at_call 6; refine (haw.out _).mono ?_; rintro e w1 ⟨rfl, hb1⟩)
      | (go_at_call 7; refine (hmk.out _).mono ?_; rintro e w2 ⟨rfl, hb2⟩)
      | (refine wpList_store_row rfl 25 _ _ rfl w2.heap.size tab rfl rfl 25 (Array.replicate 256 (.int .u32 0)) (heap_alloc_last w2 _) tableSize zeroTable_size tab_one ?_; rw [World.setRow_alloc_new]; dsimp only [Act.put]))
    have hrow := Lib.hid (heap_alloc_last w2 (.cells tab 25))
    refine region_likes (by kernel_rfl) (by kernel_rfl) ?_
    repeat (first
      | (go_big_quiet_want; refine quiet_row 25 _ rfl w2.heap.size rfl 25 tab (0, 0) _ (likes_row hrow.out) Try.underlying25 rfl tableSize ?_; go_simp; go_big_quiet_on)
      | (go_big_quiet_step (first
          | (go_at_call 12; exact calls_likes_same (begin_any _))
          | (go_at_call 11; with_reducible exact calls_likes (Like.size _) (h1.out _))
          | (go_at_call 11; with_reducible exact calls_likes (Like.size _) (h2.out _)))))
    refine wpQuiet_nil ?_
    intro x
    have hx := Lib.hid (show Below w.heap.size w x.val from ((hb1.trans (hb2.mono hb1.size)).alloc (Nat.le_trans hb1.size hb2.size) _).trans (x.below.mono (by have := hb1.size; have := hb2.size; simp; omega)))
    have hrow2 := Lib.hid (show x.val.heap[w2.heap.size]? = some (.cells tab 25) by rw [x.below.block _ (by simp)]; exact hrow.out)
    obtain ⟨w3, hw3⟩ : ∃ w3, w3 = x.val := ⟨_, rfl⟩
    rw [← hw3] at hx hrow2
    rw [← hw3]
    clear hw3 x hrow
    go_wp2_with fail
    refine region_likes (by kernel_rfl) (by kernel_rfl) ?_
    repeat (first
      | (go_big_quiet_want; refine quiet_row 25 _ rfl w2.heap.size rfl 25 tab (0, 0) _ (likes_row hrow2.out) Try.underlying25 rfl tableSize ?_; go_simp; go_big_quiet_on)
      | (go_big_quiet_step (first
          | (go_at_call 13; exact calls_likes_same (h5.out _))
          | (go_at_call 8; exact calls_likes (Like.size _) (h3.out _))
          | (go_at_call 11; with_reducible exact calls_likes (Like.size _) (h4.out _)))))
    refine wpQuiet_nil ?_
    intro x
    have hx2 := Lib.hid (show Below w.heap.size w x.val from hx.out.trans (x.below.mono hx.out.size))
    go_wp2_with fail
    go_ret
    exact ⟨rfl, hx2.out⟩
end Go.Proofs.Ytgnojihleenejaa
