/-
  The program's log, its small functions: isLength, lengthOf, sumOf, bytesOf, sectorOf.
-/
import Derived.Test.YtlkifliaaaomeaaLogContracts
import Derived.Test.YtlkifliaaaomeaaCrcSum
import Derived.Test.YtlkifliaaaomeaaFixedB
import Derived.Test.YtlkifliaaaomeaaClass
namespace Go.Proofs.Ytlkifliaaaomeaa
open Go.RowKit
set_option linter.unusedVariables false
set_option linter.unnecessarySimpa false
set_option linter.unusedSimpArgs false
set_option maxRecDepth 100000

theorem ba_eq {a b : ByteArray} (h : a.data.toList = b.data.toList) : a = b := by
  cases a; cases b; simp only [ByteArray.mk.injEq]; exact Array.toList_inj.1 h
theorem ba_of (l : List UInt8) : (⟨l.toArray⟩ : ByteArray).size = l.length := List.size_toArray
theorem ba_self (p : ByteArray) : (⟨p.data.toList.toArray⟩ : ByteArray) = p := ba_eq rfl

set_option maxHeartbeats 800000 in
theorem lp_len_yes (n : Nat) (h1 : 1 ≤ n) (h2 : n ≤ 4000) (w : World) : Calls Try.prog 26 #[.int .u64 n] w fun e w' => e = .returned (.bool true) ∧ w = w' := by
  have e1 : (1 : Int) ≤ (n : Int) := by omega
  have e2 : (n : Int) ≤ 4000 := by omega
  clear h1 h2
  go_enter Try.func26, Try.ntmps26
  go_wp2_with fail
  go_ret
  exact ⟨rfl, rfl⟩
set_option maxHeartbeats 800000 in
theorem lp_len_no (n : Nat) (h : n < 1 ∨ 4000 < n) (w : World) : Calls Try.prog 26 #[.int .u64 n] w fun e w' => e = .returned (.bool false) ∧ w = w' := by
  rcases h with h | h
  · have e1 : ¬ (1 : Int) ≤ (n : Int) := by omega
    clear h
    go_enter Try.func26, Try.ntmps26
    go_wp2_with fail
    go_ret
    exact ⟨rfl, rfl⟩
  · have e1 : (1 : Int) ≤ (n : Int) := by omega
    have e2 : ¬ (n : Int) ≤ 4000 := by omega
    clear h
    go_enter Try.func26, Try.ntmps26
    go_wp2_with fail
    go_ret
    exact ⟨rfl, rfl⟩

set_option maxHeartbeats 800000 in
theorem lp_lengthOf (p : ByteArray) (hp : p.size ≤ 1000000) (w : World) : Calls Try.prog 46 #[.string p] w fun e w' => e = .returned (.string ⟨(fx p.size 2 true).toArray⟩) ∧ Below w.heap.size w w' := by
  have H := Lib.hid (fun w => fixed_any p.size 2 true w (by omega) (by omega))
  have hm : (p.size : Int) % 18446744073709551616 = p.size := by omega
  go_enter Try.func46, Try.ntmps46
  go_wp2_with (go_at_call 47; refine (H.out _).mono ?_; rintro e w1 ⟨rfl, hb1⟩)
  go_ret
  exact ⟨rfl, hb1⟩

/-- The sum of a record, and of its length. -/
def lsum (p : ByteArray) : Nat := sumB (fx p.size 2 true ++ p.data.toList)
theorem lsum_lt (p : ByteArray) : lsum p < 4294967296 := sumB_lt _
set_option maxHeartbeats 1600000 in
theorem lp_sumOf (p : ByteArray) (hp : p.size ≤ 1000000) (w : World) :
    Calls Try.prog 48 #[.agg tab, .string p] w fun e w' => e = .returned (.int .u32 (lsum p)) ∧ Below w.heap.size w w' := by
  have HL := Lib.hid (lp_lengthOf p hp)
  have f1 := lfx_length p.size 2 true
  obtain ⟨F, hF⟩ : ∃ F : ByteArray, F = ⟨(fx p.size 2 true).toArray⟩ := ⟨_, rfl⟩
  have hFs : F.size = 2 := by rw [hF, ba_of, f1]
  have hFl : F.data.toList = fx p.size 2 true := by rw [hF]
  rw [← hF] at HL
  have hm1 := Lib.hid (more_any 4294967295 (by decide) F (by omega))
  obtain ⟨m, hm⟩ : ∃ m, m = moreB 4294967295 F.data.toList := ⟨_, rfl⟩
  have hml : m < 4294967296 := by rw [hm]; exact moreB_lt _ (by decide)
  have hm2 := Lib.hid (more_any m hml p (by omega))
  obtain ⟨k, hk⟩ : ∃ k, k = moreB m p.data.toList := ⟨_, rfl⟩
  have hkl := Lib.hid (show k < 4294967296 by rw [hk]; exact moreB_lt _ hml)
  have hfin := Lib.hid (show ((4294967295 - k : Nat) : Int) = (lsum p : Nat) by rw [hk, hm, hFl]; unfold lsum sumB; rw [moreB_append])
  rw [← hm] at hm1
  rw [← hk] at hm2
  clear hk hm hF hFs hFl f1 hml hp
  have hrow := Lib.hid (heap_alloc_last w (.cells tab 29))
  have his := Lib.hid (show (Try.prog.info? 29).map (·.size) = some tab.size by rw [tab_size]; exact (zero_of_info (P := Try.prog) tableInfo).2)
  go_enter Try.func48, Try.ntmps48
  go_upto_region 1 with fail
  refine region_likes (by kernel_rfl) (by kernel_rfl) ?_
  repeat (first
    | (go_big_quiet_want; refine quiet_row 29 _ rfl w.heap.size rfl 29 tab (0, 0) _ (likes_row hrow.out) Try.underlying29 rfl his.out ?_; go_simp; go_big_quiet_on)
    | (go_big_quiet_step (first
        | (go_at_call 63; exact calls_likes_same (begin_any _))
        | (go_at_call 46; exact calls_likes (Like.size _) (HL.out _))
        | (go_at_call 62; exact calls_likes (Like.size _) (hm1.out _)))))
  refine wpQuiet_nil ?_
  intro x
  obtain ⟨W, hW⟩ : ∃ W, W = x.val := ⟨_, rfl⟩
  have hx := Lib.hid (show Below w.heap.size w W by rw [hW]; exact ((Below.refl _ _).alloc (Nat.le_refl _) _).trans (x.below.mono (by simp)))
  have hr1 := Lib.hid (show W.heap[w.heap.size]? = some (.cells tab 29 (0, 0)) by rw [hW]; exact (x.below.block _ (by simp)).trans hrow.out)
  rw [← hW]
  clear hW
  go_wp2_with (first
    | (refine wpList_load_row rfl 29 _ rfl w.heap.size rfl 29 tab (0, 0) _ hr1.out Try.underlying29 rfl his.out ?_; dsimp only [Act.put])
    | (go_at_call 62; refine (hm2.out _).mono ?_; rintro e w2 ⟨rfl, hb2⟩)
    | (go_at_call 64; refine (end_any _ hkl.out _).mono ?_; rintro e w3 ⟨rfl, rfl⟩))
  go_ret
  exact ⟨congrArg (fun x => Ending.returned (Value.int .u32 x)) hfin.out, hx.out.trans (hb2.mono hx.out.size)⟩

set_option maxHeartbeats 1600000 in
theorem lp_bytesOf (p : ByteArray) (hp : p.size ≤ 1000000) (w : World) :
    Calls Try.prog 28 #[.agg tab, .string p] w fun e w' => e = .returned (.string (recS p)) ∧ Below w.heap.size w w' := by
  have HL := Lib.hid (lp_lengthOf p hp)
  have HS := Lib.hid (lp_sumOf p hp)
  have hs := lsum_lt p
  have H4 := Lib.hid (fun w => fixed_any (lsum p) 4 true w (by omega) (by omega))
  have he := Lib.hid (show (⟨(fx p.size 2 true).toArray⟩ ++ ⟨(fx (lsum p) 4 true).toArray⟩ : ByteArray) ++ p = recS p from recS_eq p)
  obtain ⟨S, hS⟩ : ∃ S, S = lsum p := ⟨_, rfl⟩
  rw [← hS] at HS hs H4 he
  have f1 := lfx_length p.size 2 true
  have f2 := lfx_length S 4 true
  obtain ⟨F, hF⟩ : ∃ F : ByteArray, F = ⟨(fx p.size 2 true).toArray⟩ := ⟨_, rfl⟩
  obtain ⟨G, hG⟩ : ∃ G : ByteArray, G = ⟨(fx S 4 true).toArray⟩ := ⟨_, rfl⟩
  have hFs : F.size = 2 := by rw [hF, ba_of, f1]
  have hGs : G.size = 4 := by rw [hG, ba_of, f2]
  rw [← hF] at HL he
  rw [← hG] at H4 he
  have hsz : F.size + G.size ≤ 9223372036854775807 := by omega
  have hsz2 : F.size + G.size + p.size ≤ 9223372036854775807 := by omega
  have hz : (S : Int) < 4294967296 := by omega
  clear hS hF hG hFs hGs f1 f2 hp
  have hrow := Lib.hid (heap_alloc_last w (.cells tab 29))
  have his := Lib.hid (show (Try.prog.info? 29).map (·.size) = some tab.size by rw [tab_size]; exact (zero_of_info (P := Try.prog) tableInfo).2)
  go_enter Try.func28, Try.ntmps28
  go_upto_region 1 with fail
  refine region_likes (by kernel_rfl) (by kernel_rfl) ?_
  repeat (first
    | (go_big_quiet_want; refine quiet_row 29 _ rfl w.heap.size rfl 29 tab (0, 0) _ (likes_row hrow.out) Try.underlying29 rfl his.out ?_; go_simp; go_big_quiet_on)
    | (go_big_quiet_step (first
        | (go_at_call 46; exact calls_likes (Like.size _) (HL.out _))
        | (go_at_call 48; exact calls_likes (Like.size _) (HS.out _))
        | (go_at_call 47; exact calls_likes (Like.size _) (H4.out _)))))
  refine wpQuiet_nil ?_
  intro x
  have hx := Lib.hid (show Below w.heap.size w x.val from ((Below.refl _ _).alloc (Nat.le_refl _) _).trans (x.below.mono (by simp)))
  go_wp2_with fail
  go_ret
  exact ⟨congrArg (fun x => Ending.returned (Value.string x)) he.out, hx.out⟩

set_option maxHeartbeats 800000 in
theorem lp_sectorOf (b : ByteArray) (i : Nat) (hb : b.size ≤ 1000000) (hi : (i + 1) * 64 ≤ b.size) (w : World) :
    Calls Try.prog 45 #[.string b, .int .i64 i] w fun e w' => e = .returned (.string (b.extract (i * 64) ((i + 1) * 64))) ∧ w = w' := by
  have k1 : IntKind.i64.wrap ((i : Int) * 64) = (i : Int) * 64 := IntWalk.i64_in _ (by omega)
  have k2 : IntKind.i64.wrap ((i : Int) + 1) = (i : Int) + 1 := IntWalk.i64_in _ (by omega)
  have k3 : IntKind.i64.wrap (((i : Int) + 1) * 64) = ((i : Int) + 1) * 64 := IntWalk.i64_in _ (by omega)
  have e1 : ((i : Int) * 64).toNat = i * 64 := by omega
  have e2 : (((i : Int) + 1) * 64).toNat = (i + 1) * 64 := by omega
  have e3 : (0 : Int) ≤ (i : Int) * 64 := by omega
  have e4 : (i : Int) * 64 ≤ ((i : Int) + 1) * 64 := by omega
  have e5 : ((i : Int) + 1) * 64 ≤ (b.size : Int) := by omega
  have e6 : i * 64 ≤ (i + 1) * 64 := by omega
  go_enter Try.func45, Try.ntmps45
  go_wp2_with fail
  go_ret
  exact ⟨rfl, rfl⟩
end Go.Proofs.Ytlkifliaaaomeaa
