/-
  The walk of the document's Field at the tags of numbers.
-/
import Derived.Test.YtkcbbcabfbkclaaSet05
namespace Go.Proofs.Ytkcbbcabfbkclaa
open Go.RowKit
set_option linter.unusedVariables false
set_option linter.unnecessarySimpa false
set_option linter.unusedSimpArgs false
set_option maxRecDepth 100000

/-- What Field answers. -/
def FieldIs (m : Mg) (tag : Nat) (B : Nat) (w : World) (e : Ending) (w' : World) : Prop := e = .returned (.tuple #[.string ⟨(fldX m tag).toArray⟩, .bool (fld m tag).isSome]) ∧ Below B w w'
theorem fldX_num {m : Mg} {tag n : Nat} (h : fld m tag = numF n) (h8 : tag ≠ 8) (h9 : tag ≠ 9) : fldX m tag = if n = 0 then [] else ub n := by
  unfold fldX
  rw [if_neg h8, if_neg h9, h]
  unfold numF
  split <;> rfl
theorem fldX_zero {m : Mg} {tag n : Nat} (h : fld m tag = numF n) (h8 : tag ≠ 8) (h9 : tag ≠ 9) (h0 : n = 0) : fldX m tag = [] ∧ (fld m tag).isSome = false := by
  rw [fldX_num h h8 h9, h, if_pos h0]
  unfold numF
  rw [if_pos h0]
  exact ⟨rfl, rfl⟩
theorem fldX_pos {m : Mg} {tag n : Nat} (h : fld m tag = numF n) (h8 : tag ≠ 8) (h9 : tag ≠ 9) (h0 : ¬ n = 0) : fldX m tag = ub n ∧ (fld m tag).isSome = true := by
  rw [fldX_num h h8 h9, h, if_neg h0]
  unfold numF
  rw [if_neg h0]
  exact ⟨rfl, rfl⟩
theorem in31_yes {n : Int} (h : in31 n = true) : 0 ≤ n ∧ n ≤ 2147483647 := of_decide_eq_true h
theorem nums_all {m : Mg} (h : nums31 m = true) : (0 ≤ m.frm ∧ m.frm ≤ 2147483647) ∧ (0 ≤ m.to_ ∧ m.to_ ≤ 2147483647) ∧ (0 ≤ m.node ∧ m.node ≤ 2147483647) ∧ (0 ≤ m.life ∧ m.life ≤ 2147483647) ∧ (0 ≤ m.seq ∧ m.seq ≤ 2147483647) := by
  unfold nums31 at h
  simp only [Bool.and_eq_true] at h
  exact ⟨in31_yes h.1.1.1.1, in31_yes h.1.1.1.2, in31_yes h.1.1.2, in31_yes h.1.2, in31_yes h.2⟩
theorem u64_small {n : Int} (h : 0 ≤ n ∧ n ≤ 2147483647) : IntKind.u64.wrap n = n := by simp [IntKind.wrap, IntKind.bits, IntKind.signed]; omega

theorem field_ix0 (x0 x1 x2 x3 x4 x5 x6 x7 x8 x9 x10 x11 x12 : Value) (w : World) : (Instr.index 100 (.agg #[x0, x1, x2, x3, x4, x5, x6, x7, x8, x9, x10, x11, x12]) (.int .i64 0)).run Try.prog w = .ok x0 w := by kernel_rfl
theorem field_ix1 (x0 x1 x2 x3 x4 x5 x6 x7 x8 x9 x10 x11 x12 : Value) (w : World) : (Instr.index 100 (.agg #[x0, x1, x2, x3, x4, x5, x6, x7, x8, x9, x10, x11, x12]) (.int .i64 1)).run Try.prog w = .ok x1 w := by kernel_rfl
theorem field_ix2 (x0 x1 x2 x3 x4 x5 x6 x7 x8 x9 x10 x11 x12 : Value) (w : World) : (Instr.index 100 (.agg #[x0, x1, x2, x3, x4, x5, x6, x7, x8, x9, x10, x11, x12]) (.int .i64 2)).run Try.prog w = .ok x2 w := by kernel_rfl
theorem field_ix3 (x0 x1 x2 x3 x4 x5 x6 x7 x8 x9 x10 x11 x12 : Value) (w : World) : (Instr.index 100 (.agg #[x0, x1, x2, x3, x4, x5, x6, x7, x8, x9, x10, x11, x12]) (.int .i64 3)).run Try.prog w = .ok x3 w := by kernel_rfl
theorem field_ix4 (x0 x1 x2 x3 x4 x5 x6 x7 x8 x9 x10 x11 x12 : Value) (w : World) : (Instr.index 100 (.agg #[x0, x1, x2, x3, x4, x5, x6, x7, x8, x9, x10, x11, x12]) (.int .i64 4)).run Try.prog w = .ok x4 w := by kernel_rfl
theorem field_ix5 (x0 x1 x2 x3 x4 x5 x6 x7 x8 x9 x10 x11 x12 : Value) (w : World) : (Instr.index 100 (.agg #[x0, x1, x2, x3, x4, x5, x6, x7, x8, x9, x10, x11, x12]) (.int .i64 5)).run Try.prog w = .ok x5 w := by kernel_rfl
theorem field_ix6 (x0 x1 x2 x3 x4 x5 x6 x7 x8 x9 x10 x11 x12 : Value) (w : World) : (Instr.index 100 (.agg #[x0, x1, x2, x3, x4, x5, x6, x7, x8, x9, x10, x11, x12]) (.int .i64 6)).run Try.prog w = .ok x6 w := by kernel_rfl
theorem field_ix7 (x0 x1 x2 x3 x4 x5 x6 x7 x8 x9 x10 x11 x12 : Value) (w : World) : (Instr.index 100 (.agg #[x0, x1, x2, x3, x4, x5, x6, x7, x8, x9, x10, x11, x12]) (.int .i64 7)).run Try.prog w = .ok x7 w := by kernel_rfl
theorem field_ix8 (x0 x1 x2 x3 x4 x5 x6 x7 x8 x9 x10 x11 x12 : Value) (w : World) : (Instr.index 100 (.agg #[x0, x1, x2, x3, x4, x5, x6, x7, x8, x9, x10, x11, x12]) (.int .i64 8)).run Try.prog w = .ok x8 w := by kernel_rfl
theorem field_ix9 (x0 x1 x2 x3 x4 x5 x6 x7 x8 x9 x10 x11 x12 : Value) (w : World) : (Instr.index 100 (.agg #[x0, x1, x2, x3, x4, x5, x6, x7, x8, x9, x10, x11, x12]) (.int .i64 9)).run Try.prog w = .ok x9 w := by kernel_rfl
theorem field_ix10 (x0 x1 x2 x3 x4 x5 x6 x7 x8 x9 x10 x11 x12 : Value) (w : World) : (Instr.index 100 (.agg #[x0, x1, x2, x3, x4, x5, x6, x7, x8, x9, x10, x11, x12]) (.int .i64 10)).run Try.prog w = .ok x10 w := by kernel_rfl
theorem field_ix11 (x0 x1 x2 x3 x4 x5 x6 x7 x8 x9 x10 x11 x12 : Value) (w : World) : (Instr.index 100 (.agg #[x0, x1, x2, x3, x4, x5, x6, x7, x8, x9, x10, x11, x12]) (.int .i64 11)).run Try.prog w = .ok x11 w := by kernel_rfl
theorem field_ix12 (x0 x1 x2 x3 x4 x5 x6 x7 x8 x9 x10 x11 x12 : Value) (w : World) : (Instr.index 100 (.agg #[x0, x1, x2, x3, x4, x5, x6, x7, x8, x9, x10, x11, x12]) (.int .i64 12)).run Try.prog w = .ok x12 w := by kernel_rfl

set_option maxHeartbeats 2000000 in
theorem field_1 (m : Mg) (sl : Value) (hm : m.sane) (w : World) : Calls Try.prog 27 #[.agg (m.cells sl), .int .i64 1] w (FieldIs m 1 w.heap.size w) := by
  obtain ⟨b1, b2, b3, b4, b5⟩ := nums_all hm.nums
  have hfits := hm.fits.frm
  obtain ⟨n, hn⟩ : ∃ n, n = m.frm.toNat := ⟨_, rfl⟩
  have hx0 := fun h => fldX_zero (m := m) (tag := 1) (n := n) (by rw [hn]; rfl) (by decide) (by decide) h
  have hx1 := fun h => fldX_pos (m := m) (tag := 1) (n := n) (by rw [hn]; rfl) (by decide) (by decide) h
  have hnz : (m.frm : Int) = (n : Int) := by rw [hn]; omega
  have hn64 : n < 18446744073709551616 := by omega
  have hu := Lib.hid (refUint_any n hn64)
  have w1 := u64_small b1
  have w2 := u64_small b2
  have hx := field_ix1
  obtain ⟨X, hX⟩ : ∃ X, X = fldX m 1 := ⟨_, rfl⟩
  obtain ⟨S, hS⟩ : ∃ S, S = (fld m 1).isSome := ⟨_, rfl⟩
  rw [← hX, ← hS] at hx0 hx1
  unfold FieldIs
  rw [← hX, ← hS]
  clear hX hS hn hfits
  obtain ⟨kind, frm, to_, node, life, seq, a, b, key, found, time, gone, val, ws, note, hint, must⟩ := m
  simp only at b1 b2 w1 w2 hnz
  clear hm b3 b4 b5
  by_cases h0 : n = 0
  · obtain ⟨rfl, rfl⟩ := hx0 h0
    subst h0
    subst hnz
    clear hx0 hx1 hu hn64
    show Calls _ _ #[.agg #[.int .i64 kind, .int .i64 _, .int .i64 to_, .int .i64 node, .int .i64 life, .int .i64 seq, .int .u64 a, .int .u64 b, .string key, .bool found, .int .u64 time, .bool gone, .string val, sl, .string note, .int .u64 hint, .int .u64 must], .int .i64 1] w _
    go_enter Try.func27, Try.ntmps27
    go_wp2_with fail
    go_ret2
    exact ⟨rfl, (Below.refl _ _).alloc (Nat.le_refl _) _⟩
  · obtain ⟨rfl, rfl⟩ := hx1 h0
    have ht : ((n : Int) != 0) = true := by rw [bne_iff_ne]; omega
    subst hnz
    clear hx0 hx1 h0 hn64
    show Calls _ _ #[.agg #[.int .i64 kind, .int .i64 _, .int .i64 to_, .int .i64 node, .int .i64 life, .int .i64 seq, .int .u64 a, .int .u64 b, .string key, .bool found, .int .u64 time, .bool gone, .string val, sl, .string note, .int .u64 hint, .int .u64 must], .int .i64 1] w _
    go_enter Try.func27, Try.ntmps27
    go_wp2_with (go_at_call 26; refine (hu.out _).mono ?_; rintro e w1 ⟨rfl, hb1⟩)
    go_ret2
    exact ⟨rfl, ((Below.refl _ _).alloc (Nat.le_refl _) _).trans (hb1.mono (by simp))⟩


set_option maxHeartbeats 2000000 in
theorem field_2 (m : Mg) (sl : Value) (hm : m.sane) (w : World) : Calls Try.prog 27 #[.agg (m.cells sl), .int .i64 2] w (FieldIs m 2 w.heap.size w) := by
  obtain ⟨b1, b2, b3, b4, b5⟩ := nums_all hm.nums
  have hfits := hm.fits.to_
  obtain ⟨n, hn⟩ : ∃ n, n = m.to_.toNat := ⟨_, rfl⟩
  have hx0 := fun h => fldX_zero (m := m) (tag := 2) (n := n) (by rw [hn]; rfl) (by decide) (by decide) h
  have hx1 := fun h => fldX_pos (m := m) (tag := 2) (n := n) (by rw [hn]; rfl) (by decide) (by decide) h
  have hnz : (m.to_ : Int) = (n : Int) := by rw [hn]; omega
  have hn64 : n < 18446744073709551616 := by omega
  have hu := Lib.hid (refUint_any n hn64)
  have w1 := u64_small b1
  have w2 := u64_small b2
  have hx := field_ix2
  obtain ⟨X, hX⟩ : ∃ X, X = fldX m 2 := ⟨_, rfl⟩
  obtain ⟨S, hS⟩ : ∃ S, S = (fld m 2).isSome := ⟨_, rfl⟩
  rw [← hX, ← hS] at hx0 hx1
  unfold FieldIs
  rw [← hX, ← hS]
  clear hX hS hn hfits
  obtain ⟨kind, frm, to_, node, life, seq, a, b, key, found, time, gone, val, ws, note, hint, must⟩ := m
  simp only at b1 b2 w1 w2 hnz
  clear hm b3 b4 b5
  by_cases h0 : n = 0
  · obtain ⟨rfl, rfl⟩ := hx0 h0
    subst h0
    subst hnz
    clear hx0 hx1 hu hn64
    show Calls _ _ #[.agg #[.int .i64 kind, .int .i64 frm, .int .i64 _, .int .i64 node, .int .i64 life, .int .i64 seq, .int .u64 a, .int .u64 b, .string key, .bool found, .int .u64 time, .bool gone, .string val, sl, .string note, .int .u64 hint, .int .u64 must], .int .i64 2] w _
    go_enter Try.func27, Try.ntmps27
    go_wp2_with fail
    go_ret2
    exact ⟨rfl, (Below.refl _ _).alloc (Nat.le_refl _) _⟩
  · obtain ⟨rfl, rfl⟩ := hx1 h0
    have ht : ((n : Int) != 0) = true := by rw [bne_iff_ne]; omega
    subst hnz
    clear hx0 hx1 h0 hn64
    show Calls _ _ #[.agg #[.int .i64 kind, .int .i64 frm, .int .i64 _, .int .i64 node, .int .i64 life, .int .i64 seq, .int .u64 a, .int .u64 b, .string key, .bool found, .int .u64 time, .bool gone, .string val, sl, .string note, .int .u64 hint, .int .u64 must], .int .i64 2] w _
    go_enter Try.func27, Try.ntmps27
    go_wp2_with (go_at_call 26; refine (hu.out _).mono ?_; rintro e w1 ⟨rfl, hb1⟩)
    go_ret2
    exact ⟨rfl, ((Below.refl _ _).alloc (Nat.le_refl _) _).trans (hb1.mono (by simp))⟩


set_option maxHeartbeats 2000000 in
theorem field_4 (m : Mg) (sl : Value) (hm : m.sane) (w : World) : Calls Try.prog 27 #[.agg (m.cells sl), .int .i64 4] w (FieldIs m 4 w.heap.size w) := by
  obtain ⟨b1, b2, b3, b4, b5⟩ := nums_all hm.nums
  have hfits := hm.fits.a
  obtain ⟨n, hn⟩ : ∃ n, n = m.a := ⟨_, rfl⟩
  have hx0 := fun h => fldX_zero (m := m) (tag := 4) (n := n) (by rw [hn]; rfl) (by decide) (by decide) h
  have hx1 := fun h => fldX_pos (m := m) (tag := 4) (n := n) (by rw [hn]; rfl) (by decide) (by decide) h
  have hnz : ((m.a : Int) : Int) = (n : Int) := by rw [hn]
  have hn64 : n < 18446744073709551616 := by omega
  have hu := Lib.hid (refUint_any n hn64)
  have w1 := u64_small b1
  have w2 := u64_small b2
  have hx := field_ix4
  obtain ⟨X, hX⟩ : ∃ X, X = fldX m 4 := ⟨_, rfl⟩
  obtain ⟨S, hS⟩ : ∃ S, S = (fld m 4).isSome := ⟨_, rfl⟩
  rw [← hX, ← hS] at hx0 hx1
  unfold FieldIs
  rw [← hX, ← hS]
  clear hX hS hn hfits
  obtain ⟨kind, frm, to_, node, life, seq, a, b, key, found, time, gone, val, ws, note, hint, must⟩ := m
  simp only at b1 b2 w1 w2 hnz
  clear hm b3 b4 b5
  by_cases h0 : n = 0
  · obtain ⟨rfl, rfl⟩ := hx0 h0
    subst h0
    obtain rfl : a = _ := Int.ofNat.inj hnz
    clear hx0 hx1 hu hn64
    show Calls _ _ #[.agg #[.int .i64 kind, .int .i64 frm, .int .i64 to_, .int .i64 node, .int .i64 life, .int .i64 seq, .int .u64 _, .int .u64 b, .string key, .bool found, .int .u64 time, .bool gone, .string val, sl, .string note, .int .u64 hint, .int .u64 must], .int .i64 4] w _
    go_enter Try.func27, Try.ntmps27
    go_wp2_with fail
    go_ret2
    exact ⟨rfl, (Below.refl _ _).alloc (Nat.le_refl _) _⟩
  · obtain ⟨rfl, rfl⟩ := hx1 h0
    have ht : ((n : Int) != 0) = true := by rw [bne_iff_ne]; omega
    obtain rfl : a = _ := Int.ofNat.inj hnz
    clear hx0 hx1 h0 hn64
    show Calls _ _ #[.agg #[.int .i64 kind, .int .i64 frm, .int .i64 to_, .int .i64 node, .int .i64 life, .int .i64 seq, .int .u64 _, .int .u64 b, .string key, .bool found, .int .u64 time, .bool gone, .string val, sl, .string note, .int .u64 hint, .int .u64 must], .int .i64 4] w _
    go_enter Try.func27, Try.ntmps27
    go_wp2_with (go_at_call 26; refine (hu.out _).mono ?_; rintro e w1 ⟨rfl, hb1⟩)
    go_ret2
    exact ⟨rfl, ((Below.refl _ _).alloc (Nat.le_refl _) _).trans (hb1.mono (by simp))⟩


set_option maxHeartbeats 2000000 in
theorem field_5 (m : Mg) (sl : Value) (hm : m.sane) (w : World) : Calls Try.prog 27 #[.agg (m.cells sl), .int .i64 5] w (FieldIs m 5 w.heap.size w) := by
  obtain ⟨b1, b2, b3, b4, b5⟩ := nums_all hm.nums
  have hfits := hm.fits.b
  obtain ⟨n, hn⟩ : ∃ n, n = m.b := ⟨_, rfl⟩
  have hx0 := fun h => fldX_zero (m := m) (tag := 5) (n := n) (by rw [hn]; rfl) (by decide) (by decide) h
  have hx1 := fun h => fldX_pos (m := m) (tag := 5) (n := n) (by rw [hn]; rfl) (by decide) (by decide) h
  have hnz : ((m.b : Int) : Int) = (n : Int) := by rw [hn]
  have hn64 : n < 18446744073709551616 := by omega
  have hu := Lib.hid (refUint_any n hn64)
  have w1 := u64_small b1
  have w2 := u64_small b2
  have hx := field_ix5
  obtain ⟨X, hX⟩ : ∃ X, X = fldX m 5 := ⟨_, rfl⟩
  obtain ⟨S, hS⟩ : ∃ S, S = (fld m 5).isSome := ⟨_, rfl⟩
  rw [← hX, ← hS] at hx0 hx1
  unfold FieldIs
  rw [← hX, ← hS]
  clear hX hS hn hfits
  obtain ⟨kind, frm, to_, node, life, seq, a, b, key, found, time, gone, val, ws, note, hint, must⟩ := m
  simp only at b1 b2 w1 w2 hnz
  clear hm b3 b4 b5
  by_cases h0 : n = 0
  · obtain ⟨rfl, rfl⟩ := hx0 h0
    subst h0
    obtain rfl : b = _ := Int.ofNat.inj hnz
    clear hx0 hx1 hu hn64
    show Calls _ _ #[.agg #[.int .i64 kind, .int .i64 frm, .int .i64 to_, .int .i64 node, .int .i64 life, .int .i64 seq, .int .u64 a, .int .u64 _, .string key, .bool found, .int .u64 time, .bool gone, .string val, sl, .string note, .int .u64 hint, .int .u64 must], .int .i64 5] w _
    go_enter Try.func27, Try.ntmps27
    go_wp2_with fail
    go_ret2
    exact ⟨rfl, (Below.refl _ _).alloc (Nat.le_refl _) _⟩
  · obtain ⟨rfl, rfl⟩ := hx1 h0
    have ht : ((n : Int) != 0) = true := by rw [bne_iff_ne]; omega
    obtain rfl : b = _ := Int.ofNat.inj hnz
    clear hx0 hx1 h0 hn64
    show Calls _ _ #[.agg #[.int .i64 kind, .int .i64 frm, .int .i64 to_, .int .i64 node, .int .i64 life, .int .i64 seq, .int .u64 a, .int .u64 _, .string key, .bool found, .int .u64 time, .bool gone, .string val, sl, .string note, .int .u64 hint, .int .u64 must], .int .i64 5] w _
    go_enter Try.func27, Try.ntmps27
    go_wp2_with (go_at_call 26; refine (hu.out _).mono ?_; rintro e w1 ⟨rfl, hb1⟩)
    go_ret2
    exact ⟨rfl, ((Below.refl _ _).alloc (Nat.le_refl _) _).trans (hb1.mono (by simp))⟩


set_option maxHeartbeats 2000000 in
theorem field_11 (m : Mg) (sl : Value) (hm : m.sane) (w : World) : Calls Try.prog 27 #[.agg (m.cells sl), .int .i64 11] w (FieldIs m 11 w.heap.size w) := by
  obtain ⟨b1, b2, b3, b4, b5⟩ := nums_all hm.nums
  have hfits := hm.fits.hint
  obtain ⟨n, hn⟩ : ∃ n, n = m.hint := ⟨_, rfl⟩
  have hx0 := fun h => fldX_zero (m := m) (tag := 11) (n := n) (by rw [hn]; rfl) (by decide) (by decide) h
  have hx1 := fun h => fldX_pos (m := m) (tag := 11) (n := n) (by rw [hn]; rfl) (by decide) (by decide) h
  have hnz : ((m.hint : Int) : Int) = (n : Int) := by rw [hn]
  have hn64 : n < 18446744073709551616 := by omega
  have hu := Lib.hid (refUint_any n hn64)
  have w1 := u64_small b1
  have w2 := u64_small b2
  have hx := field_ix11
  obtain ⟨X, hX⟩ : ∃ X, X = fldX m 11 := ⟨_, rfl⟩
  obtain ⟨S, hS⟩ : ∃ S, S = (fld m 11).isSome := ⟨_, rfl⟩
  rw [← hX, ← hS] at hx0 hx1
  unfold FieldIs
  rw [← hX, ← hS]
  clear hX hS hn hfits
  obtain ⟨kind, frm, to_, node, life, seq, a, b, key, found, time, gone, val, ws, note, hint, must⟩ := m
  simp only at b1 b2 w1 w2 hnz
  clear hm b3 b4 b5
  by_cases h0 : n = 0
  · obtain ⟨rfl, rfl⟩ := hx0 h0
    subst h0
    obtain rfl : hint = _ := Int.ofNat.inj hnz
    clear hx0 hx1 hu hn64
    show Calls _ _ #[.agg #[.int .i64 kind, .int .i64 frm, .int .i64 to_, .int .i64 node, .int .i64 life, .int .i64 seq, .int .u64 a, .int .u64 b, .string key, .bool found, .int .u64 time, .bool gone, .string val, sl, .string note, .int .u64 _, .int .u64 must], .int .i64 11] w _
    go_enter Try.func27, Try.ntmps27
    go_wp2_with fail
    go_ret2
    exact ⟨rfl, (Below.refl _ _).alloc (Nat.le_refl _) _⟩
  · obtain ⟨rfl, rfl⟩ := hx1 h0
    have ht : ((n : Int) != 0) = true := by rw [bne_iff_ne]; omega
    obtain rfl : hint = _ := Int.ofNat.inj hnz
    clear hx0 hx1 h0 hn64
    show Calls _ _ #[.agg #[.int .i64 kind, .int .i64 frm, .int .i64 to_, .int .i64 node, .int .i64 life, .int .i64 seq, .int .u64 a, .int .u64 b, .string key, .bool found, .int .u64 time, .bool gone, .string val, sl, .string note, .int .u64 _, .int .u64 must], .int .i64 11] w _
    go_enter Try.func27, Try.ntmps27
    go_wp2_with (go_at_call 26; refine (hu.out _).mono ?_; rintro e w1 ⟨rfl, hb1⟩)
    go_ret2
    exact ⟨rfl, ((Below.refl _ _).alloc (Nat.le_refl _) _).trans (hb1.mono (by simp))⟩


set_option maxHeartbeats 2000000 in
theorem field_12 (m : Mg) (sl : Value) (hm : m.sane) (w : World) : Calls Try.prog 27 #[.agg (m.cells sl), .int .i64 12] w (FieldIs m 12 w.heap.size w) := by
  obtain ⟨b1, b2, b3, b4, b5⟩ := nums_all hm.nums
  have hfits := hm.fits.must
  obtain ⟨n, hn⟩ : ∃ n, n = m.must := ⟨_, rfl⟩
  have hx0 := fun h => fldX_zero (m := m) (tag := 12) (n := n) (by rw [hn]; rfl) (by decide) (by decide) h
  have hx1 := fun h => fldX_pos (m := m) (tag := 12) (n := n) (by rw [hn]; rfl) (by decide) (by decide) h
  have hnz : ((m.must : Int) : Int) = (n : Int) := by rw [hn]
  have hn64 : n < 18446744073709551616 := by omega
  have hu := Lib.hid (refUint_any n hn64)
  have w1 := u64_small b1
  have w2 := u64_small b2
  have hx := field_ix12
  obtain ⟨X, hX⟩ : ∃ X, X = fldX m 12 := ⟨_, rfl⟩
  obtain ⟨S, hS⟩ : ∃ S, S = (fld m 12).isSome := ⟨_, rfl⟩
  rw [← hX, ← hS] at hx0 hx1
  unfold FieldIs
  rw [← hX, ← hS]
  clear hX hS hn hfits
  obtain ⟨kind, frm, to_, node, life, seq, a, b, key, found, time, gone, val, ws, note, hint, must⟩ := m
  simp only at b1 b2 w1 w2 hnz
  clear hm b3 b4 b5
  by_cases h0 : n = 0
  · obtain ⟨rfl, rfl⟩ := hx0 h0
    subst h0
    obtain rfl : must = _ := Int.ofNat.inj hnz
    clear hx0 hx1 hu hn64
    show Calls _ _ #[.agg #[.int .i64 kind, .int .i64 frm, .int .i64 to_, .int .i64 node, .int .i64 life, .int .i64 seq, .int .u64 a, .int .u64 b, .string key, .bool found, .int .u64 time, .bool gone, .string val, sl, .string note, .int .u64 hint, .int .u64 _], .int .i64 12] w _
    go_enter Try.func27, Try.ntmps27
    go_wp2_with fail
    go_ret2
    exact ⟨rfl, (Below.refl _ _).alloc (Nat.le_refl _) _⟩
  · obtain ⟨rfl, rfl⟩ := hx1 h0
    have ht : ((n : Int) != 0) = true := by rw [bne_iff_ne]; omega
    obtain rfl : must = _ := Int.ofNat.inj hnz
    clear hx0 hx1 h0 hn64
    show Calls _ _ #[.agg #[.int .i64 kind, .int .i64 frm, .int .i64 to_, .int .i64 node, .int .i64 life, .int .i64 seq, .int .u64 a, .int .u64 b, .string key, .bool found, .int .u64 time, .bool gone, .string val, sl, .string note, .int .u64 hint, .int .u64 _], .int .i64 12] w _
    go_enter Try.func27, Try.ntmps27
    go_wp2_with (go_at_call 26; refine (hu.out _).mono ?_; rintro e w1 ⟨rfl, hb1⟩)
    go_ret2
    exact ⟨rfl, ((Below.refl _ _).alloc (Nat.le_refl _) _).trans (hb1.mono (by simp))⟩

end Go.Proofs.Ytkcbbcabfbkclaa
