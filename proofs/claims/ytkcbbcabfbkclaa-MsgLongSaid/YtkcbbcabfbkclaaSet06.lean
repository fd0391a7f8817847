/-
  Joined: MsgFieldTxn, MsgFieldStr.
-/
import Derived.Test.YtkcbbcabfbkclaaMsgFieldNum
namespace Go.Proofs.Ytkcbbcabfbkclaa
open Go.RowKit
set_option linter.unusedVariables false
set_option linter.unnecessarySimpa false
set_option linter.unusedSimpArgs false
set_option maxRecDepth 100000

theorem str_add3 (a b c : List UInt8) : (⟨a.toArray⟩ : ByteArray) ++ ⟨b.toArray⟩ ++ ⟨c.toArray⟩ = ⟨(a ++ b ++ c).toArray⟩ := by apply ByteArray.ext; simp

set_option maxHeartbeats 4000000 in
theorem field_3 (m : Mg) (sl : Value) (hm : m.sane) (w : World) : Calls Try.prog 27 #[.agg (m.cells sl), .int .i64 3] w (FieldIs m 3 w.heap.size w) := by
  obtain ⟨_, _, b3, b4, b5⟩ := nums_all hm.nums
  have hx := field_ix3
  have hX1 : txnZero m = true → fldX m 3 = [] ∧ (fld m 3).isSome = false := fun h => by
    have e : fld m 3 = none := by rw [fld_3, if_pos h]
    unfold fldX; rw [e]; exact ⟨rfl, rfl⟩
  have hX2 : txnZero m = false → fldX m 3 = ub m.node.toNat ++ ub m.life.toNat ++ ub m.seq.toNat ∧ (fld m 3).isSome = true := fun h => by
    have e : fld m 3 = some (ub m.node.toNat ++ ub m.life.toNat ++ ub m.seq.toNat) := by rw [fld_3, if_neg (by rw [h]; decide)]
    unfold fldX; rw [e]; exact ⟨rfl, rfl⟩
  unfold txnZero at hX1 hX2
  obtain ⟨X, hX⟩ : ∃ X, X = fldX m 3 := ⟨_, rfl⟩
  obtain ⟨S, hS⟩ : ∃ S, S = (fld m 3).isSome := ⟨_, rfl⟩
  rw [← hX, ← hS] at hX1 hX2
  unfold FieldIs
  rw [← hX, ← hS]
  clear hX hS
  obtain ⟨kind, frm, to_, node, life, seq, a, b, key, found, time, gone, val, ws, note, hint, must⟩ := m
  simp only at b3 b4 b5 hX1 hX2
  clear hm
  obtain ⟨n, rfl⟩ : ∃ n : Nat, node = n := ⟨node.toNat, by omega⟩
  obtain ⟨l, rfl⟩ : ∃ n : Nat, life = n := ⟨life.toNat, by omega⟩
  obtain ⟨s, rfl⟩ : ∃ n : Nat, seq = n := ⟨seq.toNat, by omega⟩
  simp only [Int.toNat_natCast] at hX2
  by_cases hz : ((n : Int) == 0 && (l : Int) == 0 && (s : Int) == 0) = true
  · obtain ⟨rfl, rfl⟩ := hX1 hz
    simp only [Bool.and_eq_true] at hz
    obtain ⟨⟨z1, z2⟩, z3⟩ := hz
    clear hX1 hX2
    show Calls _ _ #[.agg #[.int .i64 kind, .int .i64 frm, .int .i64 to_, .int .i64 n, .int .i64 l, .int .i64 s, .int .u64 a, .int .u64 b, .string key, .bool found, .int .u64 time, .bool gone, .string val, sl, .string note, .int .u64 hint, .int .u64 must], .int .i64 3] w _
    go_enter Try.func27, Try.ntmps27
    go_wp2_with fail
    go_ret2
    exact ⟨rfl, (Below.refl _ _).alloc (Nat.le_refl _) _⟩
  · obtain ⟨hXe, rfl⟩ := hX2 (by simpa using hz)
    have hu1 := Lib.hid (refUint_any n (by omega))
    have hu2 := Lib.hid (refUint_any l (by omega))
    have hu3 := Lib.hid (refUint_any s (by omega))
    have hs1 := ub_size' n (by omega)
    have hs2 := ub_size' l (by omega)
    have hs3 := ub_size' s (by omega)
    obtain ⟨U1, hU1⟩ : ∃ U : ByteArray, U = ⟨(ub n).toArray⟩ := ⟨_, rfl⟩
    obtain ⟨U2, hU2⟩ : ∃ U : ByteArray, U = ⟨(ub l).toArray⟩ := ⟨_, rfl⟩
    obtain ⟨U3, hU3⟩ : ∃ U : ByteArray, U = ⟨(ub s).toArray⟩ := ⟨_, rfl⟩
    have hadd := Lib.hid (show U1 ++ U2 ++ U3 = ⟨X.toArray⟩ by rw [hXe, hU1, hU2, hU3]; exact str_add3 _ _ _)
    rw [← hU1] at hu1 hs1
    rw [← hU2] at hu2 hs2
    rw [← hU3] at hu3 hs3
    have w1 := u64_small b3
    have w2 := u64_small b4
    have w3 := u64_small b5
    have ha1 : U1.size + U2.size ≤ 9223372036854775807 := by omega
    have ha2 : (U1 ++ U2).size + U3.size ≤ 9223372036854775807 := by rw [ByteArray.size_append]; omega
    clear hX1 hX2 hU1 hU2 hU3 hXe
    have h3 : ((n : Int) == 0) = false ∨ (((n : Int) == 0) = true ∧ ((l : Int) == 0) = false) ∨ (((n : Int) == 0) = true ∧ ((l : Int) == 0) = true ∧ ((s : Int) == 0) = false) := by
      cases h1 : ((n : Int) == 0)
      · exact .inl rfl
      · cases h2 : ((l : Int) == 0)
        · exact .inr (.inl ⟨rfl, rfl⟩)
        · refine .inr (.inr ⟨rfl, rfl, ?_⟩)
          rw [h1, h2] at hz
          simpa using hz
    clear hz
    have hcells : ∀ x : Like (w.alloc (.cells #[.int .i64 kind, .int .i64 frm, .int .i64 to_, .int .i64 n, .int .i64 l, .int .i64 s, .int .u64 a, .int .u64 b, .string key, .bool found, .int .u64 time, .bool gone, .string val, sl, .string note, .int .u64 hint, .int .u64 must] 29)).heap.size (w.alloc (.cells #[.int .i64 kind, .int .i64 frm, .int .i64 to_, .int .i64 n, .int .i64 l, .int .i64 s, .int .u64 a, .int .u64 b, .string key, .bool found, .int .u64 time, .bool gone, .string val, sl, .string note, .int .u64 hint, .int .u64 must] 29)), x.val.cell? ⟨w.heap.size, 3, none⟩ = some (.int .i64 n) ∧ x.val.cell? ⟨w.heap.size, 4, none⟩ = some (.int .i64 l) ∧ x.val.cell? ⟨w.heap.size, 5, none⟩ = some (.int .i64 s) := fun x => by
      have hb := x.below.block w.heap.size (by simp)
      rw [heap_alloc_new] at hb
      simp [World.cell?, hb]
    have hc3 := fun x => (hcells x).1
    have hc4 := fun x => (hcells x).2.1
    have hc5 := fun x => (hcells x).2.2
    clear hcells
    show Calls _ _ #[.agg #[.int .i64 kind, .int .i64 frm, .int .i64 to_, .int .i64 n, .int .i64 l, .int .i64 s, .int .u64 a, .int .u64 b, .string key, .bool found, .int .u64 time, .bool gone, .string val, sl, .string note, .int .u64 hint, .int .u64 must], .int .i64 3] w _
    rcases h3 with z1 | ⟨z1, z2⟩ | ⟨z1, z2, z3⟩
    all_goals
      go_enter Try.func27, Try.ntmps27
      go_upto_region 8 with fail
      refine region_likes (by kernel_rfl) (by kernel_rfl) ?_
      repeat (go_big_quiet_step (first
        | (go_at_call 26; with_reducible exact calls_likes (Like.size _) (hu1.out _))
        | (go_at_call 26; with_reducible exact calls_likes (Like.size _) (hu2.out _))
        | (go_at_call 26; with_reducible exact calls_likes (Like.size _) (hu3.out _))))
      refine wpQuiet_nil ?_
      intro x
      have hbx := Lib.hid (show Below w.heap.size w x.val from ((Below.refl _ _).alloc (Nat.le_refl _) _).trans (x.below.mono (by simp)))
      go_wp2_with fail
      go_ret2
      exact ⟨congrArg (fun z => Ending.returned (.tuple #[.string z, .bool true])) hadd.out, hbx.out⟩
end Go.Proofs.Ytkcbbcabfbkclaa

namespace Go.Proofs.Ytkcbbcabfbkclaa
open Go.RowKit
set_option linter.unusedVariables false
set_option linter.unnecessarySimpa false
set_option linter.unusedSimpArgs false
set_option maxRecDepth 100000

theorem ba_empty {s : ByteArray} (h : s.size = 0) : s = ByteArray.empty := ByteArray.ext (Array.eq_empty_of_size_eq_zero h)
theorem ba_some {s : ByteArray} (h : ¬ s.size = 0) : s.toList.isEmpty = false ∧ (s.toList == []) = false ∧ (s.toList != []) = true := by
  have h1 : ¬ s.toList = [] := by
    rw [Lib.toList_data]
    intro e
    have := congrArg List.length e
    rw [← Lib.size_eq] at this
    exact h this
  refine ⟨?_, ?_, ?_⟩
  · cases hs : s.toList with
    | nil => exact absurd hs h1
    | cons x l => rfl
  · rw [beq_eq_false_iff_ne]; exact h1
  · rw [bne_iff_ne]; exact h1
theorem below_drewN' {B : Nat} {w w' : World} (h : Below B w w') (n : Nat) : Below B w (w'.drewN n) := ⟨h.os, h.tape, h.output, h.size, h.block⟩
theorem ba_of (s : ByteArray) : (⟨s.data.toList.toArray⟩ : ByteArray) = s := by simp


set_option maxHeartbeats 4000000 in
theorem field_6 (m : Mg) (sl : Value) (hm : m.sane) (w : World) : Calls Try.prog 27 #[.agg (m.cells sl), .int .i64 6] w (FieldIs m 6 w.heap.size w) := by
  have hx := field_ix6
  have hX1 : m.key.size = 0 → fldX m 6 = [] ∧ (fld m 6).isSome = false := fun h => by
    have e : fld m 6 = none := by rw [fld_6, if_pos h]
    unfold fldX; rw [e]; exact ⟨rfl, rfl⟩
  have hX2 : ¬ m.key.size = 0 → fldX m 6 = m.key.data.toList ∧ (fld m 6).isSome = true := fun h => by
    have e : fld m 6 = some m.key.data.toList := by rw [fld_6, if_neg h]
    unfold fldX; rw [e]; exact ⟨rfl, rfl⟩
  obtain ⟨X, hX⟩ : ∃ X, X = fldX m 6 := ⟨_, rfl⟩
  obtain ⟨S, hS⟩ : ∃ S, S = (fld m 6).isSome := ⟨_, rfl⟩
  rw [← hX, ← hS] at hX1 hX2
  unfold FieldIs
  rw [← hX, ← hS]
  clear hX hS hm
  obtain ⟨kind, frm, to_, node, life, seq, a, b, key, found, time, gone, val, ws, note, hint, must⟩ := m
  simp only at hX1 hX2
  by_cases h0 : key.size = 0
  · obtain ⟨rfl, rfl⟩ := hX1 h0
    obtain rfl := ba_empty h0
    clear hX1 hX2 h0
    show Calls _ _ #[.agg #[.int .i64 kind, .int .i64 frm, .int .i64 to_, .int .i64 node, .int .i64 life, .int .i64 seq, .int .u64 a, .int .u64 b, .string ByteArray.empty, .bool found, .int .u64 time, .bool gone, .string val, sl, .string note, .int .u64 hint, .int .u64 must], .int .i64 6] w _
    go_enter Try.func27, Try.ntmps27
    go_upto_region 10 with fail
    go_quiet (fail)
    go_wp2_with fail
    go_ret2
    exact ⟨rfl, below_drewN' ((Below.refl _ _).alloc (Nat.le_refl _) _) nq⟩
  · obtain ⟨hXe, rfl⟩ := hX2 h0
    obtain ⟨k1, k2, k3⟩ := ba_some h0
    have HK := Lib.hid (show key = ⟨X.toArray⟩ by rw [hXe])
    clear hX1 hX2 h0 hXe
    show Calls _ _ #[.agg #[.int .i64 kind, .int .i64 frm, .int .i64 to_, .int .i64 node, .int .i64 life, .int .i64 seq, .int .u64 a, .int .u64 b, .string key, .bool found, .int .u64 time, .bool gone, .string val, sl, .string note, .int .u64 hint, .int .u64 must], .int .i64 6] w _
    go_enter Try.func27, Try.ntmps27
    go_upto_region 10 with fail
    go_quiet (fail)
    go_wp2_with fail
    go_ret2
    exact ⟨congrArg (fun z => Ending.returned (.tuple #[.string z, .bool true])) HK.out, below_drewN' ((Below.refl _ _).alloc (Nat.le_refl _) _) nq⟩


set_option maxHeartbeats 4000000 in
theorem field_10 (m : Mg) (sl : Value) (hm : m.sane) (w : World) : Calls Try.prog 27 #[.agg (m.cells sl), .int .i64 10] w (FieldIs m 10 w.heap.size w) := by
  have hx := field_ix10
  have hX1 : m.note.size = 0 → fldX m 10 = [] ∧ (fld m 10).isSome = false := fun h => by
    have e : fld m 10 = none := by rw [fld_10, if_pos h]
    unfold fldX; rw [e]; exact ⟨rfl, rfl⟩
  have hX2 : ¬ m.note.size = 0 → fldX m 10 = m.note.data.toList ∧ (fld m 10).isSome = true := fun h => by
    have e : fld m 10 = some m.note.data.toList := by rw [fld_10, if_neg h]
    unfold fldX; rw [e]; exact ⟨rfl, rfl⟩
  obtain ⟨X, hX⟩ : ∃ X, X = fldX m 10 := ⟨_, rfl⟩
  obtain ⟨S, hS⟩ : ∃ S, S = (fld m 10).isSome := ⟨_, rfl⟩
  rw [← hX, ← hS] at hX1 hX2
  unfold FieldIs
  rw [← hX, ← hS]
  clear hX hS hm
  obtain ⟨kind, frm, to_, node, life, seq, a, b, key, found, time, gone, val, ws, note, hint, must⟩ := m
  simp only at hX1 hX2
  by_cases h0 : note.size = 0
  · obtain ⟨rfl, rfl⟩ := hX1 h0
    obtain rfl := ba_empty h0
    clear hX1 hX2 h0
    show Calls _ _ #[.agg #[.int .i64 kind, .int .i64 frm, .int .i64 to_, .int .i64 node, .int .i64 life, .int .i64 seq, .int .u64 a, .int .u64 b, .string key, .bool found, .int .u64 time, .bool gone, .string val, sl, .string ByteArray.empty, .int .u64 hint, .int .u64 must], .int .i64 10] w _
    go_enter Try.func27, Try.ntmps27
    go_upto_region 24 with fail
    go_quiet (fail)
    go_wp2_with fail
    go_ret2
    exact ⟨rfl, below_drewN' ((Below.refl _ _).alloc (Nat.le_refl _) _) nq⟩
  · obtain ⟨hXe, rfl⟩ := hX2 h0
    obtain ⟨k1, k2, k3⟩ := ba_some h0
    have HK := Lib.hid (show note = ⟨X.toArray⟩ by rw [hXe])
    clear hX1 hX2 h0 hXe
    show Calls _ _ #[.agg #[.int .i64 kind, .int .i64 frm, .int .i64 to_, .int .i64 node, .int .i64 life, .int .i64 seq, .int .u64 a, .int .u64 b, .string key, .bool found, .int .u64 time, .bool gone, .string val, sl, .string note, .int .u64 hint, .int .u64 must], .int .i64 10] w _
    go_enter Try.func27, Try.ntmps27
    go_upto_region 24 with fail
    go_quiet (fail)
    go_wp2_with fail
    go_ret2
    exact ⟨congrArg (fun z => Ending.returned (.tuple #[.string z, .bool true])) HK.out, below_drewN' ((Below.refl _ _).alloc (Nat.le_refl _) _) nq⟩


set_option maxHeartbeats 4000000 in
theorem field_7 (m : Mg) (sl : Value) (hm : m.sane) (w : World) : Calls Try.prog 27 #[.agg (m.cells sl), .int .i64 7] w (FieldIs m 7 w.heap.size w) := by
  have hx := field_ix7
  have hX : fldX m 7 = [] ∧ (fld m 7).isSome = m.found := by
    unfold fldX
    rw [fld_7]
    cases m.found <;> exact ⟨rfl, rfl⟩
  unfold FieldIs
  rw [hX.1, hX.2]
  clear hX hm
  obtain ⟨kind, frm, to_, node, life, seq, a, b, key, found, time, gone, val, ws, note, hint, must⟩ := m
  show Calls _ _ #[.agg #[.int .i64 kind, .int .i64 frm, .int .i64 to_, .int .i64 node, .int .i64 life, .int .i64 seq, .int .u64 a, .int .u64 b, .string key, .bool found, .int .u64 time, .bool gone, .string val, sl, .string note, .int .u64 hint, .int .u64 must], .int .i64 7] w _
  go_enter Try.func27, Try.ntmps27
  go_upto_region 12 with fail
  go_quiet (fail)
  go_wp2_with fail
  go_ret2
  exact ⟨rfl, below_drewN' ((Below.refl _ _).alloc (Nat.le_refl _) _) nq⟩
end Go.Proofs.Ytkcbbcabfbkclaa
