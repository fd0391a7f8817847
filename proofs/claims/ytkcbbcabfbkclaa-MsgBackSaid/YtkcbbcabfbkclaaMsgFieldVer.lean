/-
  The walk of the document's Field at V's tag.
-/
import Derived.Test.YtkcbbcabfbkclaaSet06
namespace Go.Proofs.Ytkcbbcabfbkclaa
open Go.RowKit
set_option linter.unusedVariables false
set_option linter.unnecessarySimpa false
set_option linter.unusedSimpArgs false
set_option maxRecDepth 100000

set_option maxHeartbeats 8000000 in
theorem field_8 (m : Mg) (sl : Value) (hm : m.sane) (w : World) : Calls Try.prog 27 #[.agg (m.cells sl), .int .i64 8] w (FieldIs m 8 w.heap.size w) := by
  have hx := field_ix8
  have ht64 := hm.fits.time
  have hvs := hm.few.val
  have hX : fldX m 8 = ub m.time ++ bl m.gone ++ m.val.data.toList := by unfold fldX; rw [if_pos rfl]
  have hS : (fld m 8).isSome = !verZero m := by rw [fld_8]; cases verZero m <;> rfl
  obtain ⟨X, hX0⟩ : ∃ X, X = fldX m 8 := ⟨_, rfl⟩
  unfold FieldIs
  rw [← hX0, hS]
  rw [← hX0] at hX
  unfold verZero
  clear hS hX0 hm
  obtain ⟨kind, frm, to_, node, life, seq, a, b, key, found, time, gone, val, ws, note, hint, must⟩ := m
  simp only at hX ht64 hvs
  have hu := Lib.hid (refUint_any time ht64)
  have hgn := Lib.hid (gone_any gone)
  have hs1 := ub_size' time ht64
  obtain ⟨U, hU⟩ : ∃ U : ByteArray, U = ⟨(ub time).toArray⟩ := ⟨_, rfl⟩
  obtain ⟨G, hG⟩ : ∃ U : ByteArray, U = ⟨(bl gone).toArray⟩ := ⟨_, rfl⟩
  have hs2 : G.size = 1 := by rw [hG]; cases gone <;> rfl
  have hadd := Lib.hid (show U ++ G ++ val = ⟨X.toArray⟩ by rw [hX, hU, hG]; apply ByteArray.ext; simp)
  rw [← hU] at hu hs1
  rw [← hG] at hgn
  have ha1 : U.size + G.size ≤ 9223372036854775807 := by omega
  have ha2 : (U ++ G).size + val.size ≤ 9223372036854775807 := by rw [ByteArray.size_append]; omega
  clear hX hU hG hs2
  by_cases h1 : time = 0
  · subst h1
    cases gone
    · by_cases h2 : val.size = 0
      · obtain rfl := ba_empty h2
        clear h2
        show Calls _ _ _ w fun e w' => e = .returned (.tuple #[.string ⟨X.toArray⟩, .bool false]) ∧ Below w.heap.size w w'
        have hcells : ∀ x : Like (w.alloc (.cells #[.int .i64 kind, .int .i64 frm, .int .i64 to_, .int .i64 node, .int .i64 life, .int .i64 seq, .int .u64 a, .int .u64 b, .string key, .bool found, .int .u64 0, .bool false, .string ByteArray.empty, sl, .string note, .int .u64 hint, .int .u64 must] 29)).heap.size (w.alloc (.cells #[.int .i64 kind, .int .i64 frm, .int .i64 to_, .int .i64 node, .int .i64 life, .int .i64 seq, .int .u64 a, .int .u64 b, .string key, .bool found, .int .u64 0, .bool false, .string ByteArray.empty, sl, .string note, .int .u64 hint, .int .u64 must] 29)), x.val.cell? ⟨w.heap.size, 10, none⟩ = some (.int .u64 0) ∧ x.val.cell? ⟨w.heap.size, 11, none⟩ = some (.bool false) ∧ x.val.cell? ⟨w.heap.size, 12, none⟩ = some (.string ByteArray.empty) := fun x => by
          have hb := x.below.block w.heap.size (by simp)
          rw [heap_alloc_new] at hb
          simp [World.cell?, hb]
        have hc10 := fun x => (hcells x).1
        have hc11 := fun x => (hcells x).2.1
        have hc12 := fun x => (hcells x).2.2
        clear hcells
        show Calls _ _ #[.agg #[.int .i64 kind, .int .i64 frm, .int .i64 to_, .int .i64 node, .int .i64 life, .int .i64 seq, .int .u64 a, .int .u64 b, .string key, .bool found, .int .u64 0, .bool false, .string ByteArray.empty, sl, .string note, .int .u64 hint, .int .u64 must], .int .i64 8] w _
        go_enter Try.func27, Try.ntmps27
        go_upto_region 14 with fail
        refine region_likes (by kernel_rfl) (by kernel_rfl) ?_
        repeat (go_big_quiet_step (first
          | (go_at_call 26; exact calls_likes (Like.size _) (hu.out _))
          | (go_at_call 60; exact calls_likes_same ((hgn.out _).mono fun _ _ hh => ⟨hh.1, hh.2.symm⟩))))
        refine wpQuiet_nil ?_
        intro x
        have hbx := Lib.hid (show Below w.heap.size w x.val from ((Below.refl _ _).alloc (Nat.le_refl _) _).trans (x.below.mono (by simp)))
        go_wp2_with fail
        go_ret2
        exact ⟨congrArg (fun z => Ending.returned (.tuple #[.string z, .bool false])) (by simpa using hadd.out), hbx.out⟩
      · obtain ⟨k1, k2, k3⟩ := ba_some h2
        have hr : (!((0 : Nat) == 0 && !false && val.size == 0)) = true := by simp [h2]
        show Calls _ _ _ w fun e w' => e = .returned (.tuple #[.string ⟨X.toArray⟩, .bool (!((0 : Nat) == 0 && !false && val.size == 0))]) ∧ Below w.heap.size w w'
        rw [hr]
        clear h2 hr
        have hcells : ∀ x : Like (w.alloc (.cells #[.int .i64 kind, .int .i64 frm, .int .i64 to_, .int .i64 node, .int .i64 life, .int .i64 seq, .int .u64 a, .int .u64 b, .string key, .bool found, .int .u64 0, .bool false, .string val, sl, .string note, .int .u64 hint, .int .u64 must] 29)).heap.size (w.alloc (.cells #[.int .i64 kind, .int .i64 frm, .int .i64 to_, .int .i64 node, .int .i64 life, .int .i64 seq, .int .u64 a, .int .u64 b, .string key, .bool found, .int .u64 0, .bool false, .string val, sl, .string note, .int .u64 hint, .int .u64 must] 29)), x.val.cell? ⟨w.heap.size, 10, none⟩ = some (.int .u64 0) ∧ x.val.cell? ⟨w.heap.size, 11, none⟩ = some (.bool false) ∧ x.val.cell? ⟨w.heap.size, 12, none⟩ = some (.string val) := fun x => by
          have hb := x.below.block w.heap.size (by simp)
          rw [heap_alloc_new] at hb
          simp [World.cell?, hb]
        have hc10 := fun x => (hcells x).1
        have hc11 := fun x => (hcells x).2.1
        have hc12 := fun x => (hcells x).2.2
        clear hcells
        show Calls _ _ #[.agg #[.int .i64 kind, .int .i64 frm, .int .i64 to_, .int .i64 node, .int .i64 life, .int .i64 seq, .int .u64 a, .int .u64 b, .string key, .bool found, .int .u64 0, .bool false, .string val, sl, .string note, .int .u64 hint, .int .u64 must], .int .i64 8] w _
        go_enter Try.func27, Try.ntmps27
        go_upto_region 14 with fail
        refine region_likes (by kernel_rfl) (by kernel_rfl) ?_
        repeat (go_big_quiet_step (first
          | (go_at_call 26; exact calls_likes (Like.size _) (hu.out _))
          | (go_at_call 60; exact calls_likes_same ((hgn.out _).mono fun _ _ hh => ⟨hh.1, hh.2.symm⟩))))
        refine wpQuiet_nil ?_
        intro x
        have hbx := Lib.hid (show Below w.heap.size w x.val from ((Below.refl _ _).alloc (Nat.le_refl _) _).trans (x.below.mono (by simp)))
        go_wp2_with fail
        go_ret2
        exact ⟨congrArg (fun z => Ending.returned (.tuple #[.string z, .bool true])) hadd.out, hbx.out⟩
    · show Calls _ _ _ w fun e w' => e = .returned (.tuple #[.string ⟨X.toArray⟩, .bool true]) ∧ Below w.heap.size w w'
      have hcells : ∀ x : Like (w.alloc (.cells #[.int .i64 kind, .int .i64 frm, .int .i64 to_, .int .i64 node, .int .i64 life, .int .i64 seq, .int .u64 a, .int .u64 b, .string key, .bool found, .int .u64 0, .bool true, .string val, sl, .string note, .int .u64 hint, .int .u64 must] 29)).heap.size (w.alloc (.cells #[.int .i64 kind, .int .i64 frm, .int .i64 to_, .int .i64 node, .int .i64 life, .int .i64 seq, .int .u64 a, .int .u64 b, .string key, .bool found, .int .u64 0, .bool true, .string val, sl, .string note, .int .u64 hint, .int .u64 must] 29)), x.val.cell? ⟨w.heap.size, 10, none⟩ = some (.int .u64 0) ∧ x.val.cell? ⟨w.heap.size, 11, none⟩ = some (.bool true) ∧ x.val.cell? ⟨w.heap.size, 12, none⟩ = some (.string val) := fun x => by
        have hb := x.below.block w.heap.size (by simp)
        rw [heap_alloc_new] at hb
        simp [World.cell?, hb]
      have hc10 := fun x => (hcells x).1
      have hc11 := fun x => (hcells x).2.1
      have hc12 := fun x => (hcells x).2.2
      clear hcells
      show Calls _ _ #[.agg #[.int .i64 kind, .int .i64 frm, .int .i64 to_, .int .i64 node, .int .i64 life, .int .i64 seq, .int .u64 a, .int .u64 b, .string key, .bool found, .int .u64 0, .bool true, .string val, sl, .string note, .int .u64 hint, .int .u64 must], .int .i64 8] w _
      go_enter Try.func27, Try.ntmps27
      go_upto_region 14 with fail
      refine region_likes (by kernel_rfl) (by kernel_rfl) ?_
      repeat (go_big_quiet_step (first
        | (go_at_call 26; exact calls_likes (Like.size _) (hu.out _))
        | (go_at_call 60; exact calls_likes_same ((hgn.out _).mono fun _ _ hh => ⟨hh.1, hh.2.symm⟩))))
      refine wpQuiet_nil ?_
      intro x
      have hbx := Lib.hid (show Below w.heap.size w x.val from ((Below.refl _ _).alloc (Nat.le_refl _) _).trans (x.below.mono (by simp)))
      go_wp2_with fail
      go_ret2
      exact ⟨congrArg (fun z => Ending.returned (.tuple #[.string z, .bool true])) hadd.out, hbx.out⟩
  · have hr : (!(time == 0 && !gone && val.size == 0)) = true := by simp [h1]
    have hq : ((time : Int) != 0) = true := by rw [bne_iff_ne]; omega
    show Calls _ _ _ w fun e w' => e = .returned (.tuple #[.string ⟨X.toArray⟩, .bool (!(time == 0 && !gone && val.size == 0))]) ∧ Below w.heap.size w w'
    rw [hr]
    clear h1 hr
    have hcells : ∀ x : Like (w.alloc (.cells #[.int .i64 kind, .int .i64 frm, .int .i64 to_, .int .i64 node, .int .i64 life, .int .i64 seq, .int .u64 a, .int .u64 b, .string key, .bool found, .int .u64 time, .bool gone, .string val, sl, .string note, .int .u64 hint, .int .u64 must] 29)).heap.size (w.alloc (.cells #[.int .i64 kind, .int .i64 frm, .int .i64 to_, .int .i64 node, .int .i64 life, .int .i64 seq, .int .u64 a, .int .u64 b, .string key, .bool found, .int .u64 time, .bool gone, .string val, sl, .string note, .int .u64 hint, .int .u64 must] 29)), x.val.cell? ⟨w.heap.size, 10, none⟩ = some (.int .u64 time) ∧ x.val.cell? ⟨w.heap.size, 11, none⟩ = some (.bool gone) ∧ x.val.cell? ⟨w.heap.size, 12, none⟩ = some (.string val) := fun x => by
      have hb := x.below.block w.heap.size (by simp)
      rw [heap_alloc_new] at hb
      simp [World.cell?, hb]
    have hc10 := fun x => (hcells x).1
    have hc11 := fun x => (hcells x).2.1
    have hc12 := fun x => (hcells x).2.2
    clear hcells
    show Calls _ _ #[.agg #[.int .i64 kind, .int .i64 frm, .int .i64 to_, .int .i64 node, .int .i64 life, .int .i64 seq, .int .u64 a, .int .u64 b, .string key, .bool found, .int .u64 time, .bool gone, .string val, sl, .string note, .int .u64 hint, .int .u64 must], .int .i64 8] w _
    go_enter Try.func27, Try.ntmps27
    go_upto_region 14 with fail
    refine region_likes (by kernel_rfl) (by kernel_rfl) ?_
    repeat (go_big_quiet_step (first
      | (go_at_call 26; exact calls_likes (Like.size _) (hu.out _))
      | (go_at_call 60; exact calls_likes_same ((hgn.out _).mono fun _ _ hh => ⟨hh.1, hh.2.symm⟩))))
    refine wpQuiet_nil ?_
    intro x
    have hbx := Lib.hid (show Below w.heap.size w x.val from ((Below.refl _ _).alloc (Nat.le_refl _) _).trans (x.below.mono (by simp)))
    go_wp2_with fail
    go_ret2
    exact ⟨congrArg (fun z => Ending.returned (.tuple #[.string z, .bool true])) hadd.out, hbx.out⟩
end Go.Proofs.Ytkcbbcabfbkclaa
