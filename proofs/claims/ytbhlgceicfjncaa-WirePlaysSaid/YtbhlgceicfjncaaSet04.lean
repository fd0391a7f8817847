/-
  Joined: MsgFieldNum, MsgFieldTxn, MsgFieldStr.
-/
import Derived.Test.YtbhlgceicfjncaaSet03
namespace Go.Proofs.Ytbhlgceicfjncaa
open Go.RowKit
set_option linter.unusedVariables false
set_option linter.unnecessarySimpa false
set_option linter.unusedSimpArgs false
set_option maxRecDepth 100000

/-- What Field answers. -/
def FieldIs (m : Mg) (tag : Nat) (B : Nat) (w : World) (e : Ending) (w' : World) : Prop := e = .returned (.tuple #[.string ⟨(fldX m tag).toArray⟩, .bool (fld m tag).isSome]) ∧ Below B w w'
theorem fldX_num {m : Mg} {tag n : Nat} (h : fld m tag = numF n) (h8 : tag ≠ 8) (h9 : tag ≠ 9) : fldX m tag = if n = 0 then [] else ub n := by
  unfold fldX
  rw [if_neg h8, if_neg h9, h]
  unfold numF
  split <;> rfl
theorem fldX_zero {m : Mg} {tag n : Nat} (h : fld m tag = numF n) (h8 : tag ≠ 8) (h9 : tag ≠ 9) (h0 : n = 0) : fldX m tag = [] ∧ (fld m tag).isSome = false := by
  rw [fldX_num h h8 h9, h, if_pos h0]
  unfold numF
  rw [if_pos h0]
  exact ⟨rfl, rfl⟩
theorem fldX_pos {m : Mg} {tag n : Nat} (h : fld m tag = numF n) (h8 : tag ≠ 8) (h9 : tag ≠ 9) (h0 : ¬ n = 0) : fldX m tag = ub n ∧ (fld m tag).isSome = true := by
  rw [fldX_num h h8 h9, h, if_neg h0]
  unfold numF
  rw [if_neg h0]
  exact ⟨rfl, rfl⟩
theorem in31_yes {n : Int} (h : in31 n = true) : 0 ≤ n ∧ n ≤ 2147483647 := of_decide_eq_true h
theorem nums_all {m : Mg} (h : nums31 m = true) : (0 ≤ m.frm ∧ m.frm ≤ 2147483647) ∧ (0 ≤ m.to_ ∧ m.to_ ≤ 2147483647) ∧ (0 ≤ m.node ∧ m.node ≤ 2147483647) ∧ (0 ≤ m.life ∧ m.life ≤ 2147483647) ∧ (0 ≤ m.seq ∧ m.seq ≤ 2147483647) := by
  unfold nums31 at h
  simp only [Bool.and_eq_true] at h
  exact ⟨in31_yes h.1.1.1.1, in31_yes h.1.1.1.2, in31_yes h.1.1.2, in31_yes h.1.2, in31_yes h.2⟩
theorem u64_small {n : Int} (h : 0 ≤ n ∧ n ≤ 2147483647) : IntKind.u64.wrap n = n := by simp [IntKind.wrap, IntKind.bits, IntKind.signed]; omega

theorem field_ix0 (x0 x1 x2 x3 x4 x5 x6 x7 x8 x9 x10 x11 x12 : Value) (w : World) : (Instr.index 126 (.agg #[x0, x1, x2, x3, x4, x5, x6, x7, x8, x9, x10, x11, x12]) (.int .i64 0)).run Try.prog w = .ok x0 w := by kernel_rfl
theorem field_ix1 (x0 x1 x2 x3 x4 x5 x6 x7 x8 x9 x10 x11 x12 : Value) (w : World) : (Instr.index 126 (.agg #[x0, x1, x2, x3, x4, x5, x6, x7, x8, x9, x10, x11, x12]) (.int .i64 1)).run Try.prog w = .ok x1 w := by kernel_rfl
theorem field_ix2 (x0 x1 x2 x3 x4 x5 x6 x7 x8 x9 x10 x11 x12 : Value) (w : World) : (Instr.index 126 (.agg #[x0, x1, x2, x3, x4, x5, x6, x7, x8, x9, x10, x11, x12]) (.int .i64 2)).run Try.prog w = .ok x2 w := by kernel_rfl
theorem field_ix3 (x0 x1 x2 x3 x4 x5 x6 x7 x8 x9 x10 x11 x12 : Value) (w : World) : (Instr.index 126 (.agg #[x0, x1, x2, x3, x4, x5, x6, x7, x8, x9, x10, x11, x12]) (.int .i64 3)).run Try.prog w = .ok x3 w := by kernel_rfl
theorem field_ix4 (x0 x1 x2 x3 x4 x5 x6 x7 x8 x9 x10 x11 x12 : Value) (w : World) : (Instr.index 126 (.agg #[x0, x1, x2, x3, x4, x5, x6, x7, x8, x9, x10, x11, x12]) (.int .i64 4)).run Try.prog w = .ok x4 w := by kernel_rfl
theorem field_ix5 (x0 x1 x2 x3 x4 x5 x6 x7 x8 x9 x10 x11 x12 : Value) (w : World) : (Instr.index 126 (.agg #[x0, x1, x2, x3, x4, x5, x6, x7, x8, x9, x10, x11, x12]) (.int .i64 5)).run Try.prog w = .ok x5 w := by kernel_rfl
theorem field_ix6 (x0 x1 x2 x3 x4 x5 x6 x7 x8 x9 x10 x11 x12 : Value) (w : World) : (Instr.index 126 (.agg #[x0, x1, x2, x3, x4, x5, x6, x7, x8, x9, x10, x11, x12]) (.int .i64 6)).run Try.prog w = .ok x6 w := by kernel_rfl
theorem field_ix7 (x0 x1 x2 x3 x4 x5 x6 x7 x8 x9 x10 x11 x12 : Value) (w : World) : (Instr.index 126 (.agg #[x0, x1, x2, x3, x4, x5, x6, x7, x8, x9, x10, x11, x12]) (.int .i64 7)).run Try.prog w = .ok x7 w := by kernel_rfl
theorem field_ix8 (x0 x1 x2 x3 x4 x5 x6 x7 x8 x9 x10 x11 x12 : Value) (w : World) : (Instr.index 126 (.agg #[x0, x1, x2, x3, x4, x5, x6, x7, x8, x9, x10, x11, x12]) (.int .i64 8)).run Try.prog w = .ok x8 w := by kernel_rfl
theorem field_ix9 (x0 x1 x2 x3 x4 x5 x6 x7 x8 x9 x10 x11 x12 : Value) (w : World) : (Instr.index 126 (.agg #[x0, x1, x2, x3, x4, x5, x6, x7, x8, x9, x10, x11, x12]) (.int .i64 9)).run Try.prog w = .ok x9 w := by kernel_rfl
theorem field_ix10 (x0 x1 x2 x3 x4 x5 x6 x7 x8 x9 x10 x11 x12 : Value) (w : World) : (Instr.index 126 (.agg #[x0, x1, x2, x3, x4, x5, x6, x7, x8, x9, x10, x11, x12]) (.int .i64 10)).run Try.prog w = .ok x10 w := by kernel_rfl
theorem field_ix11 (x0 x1 x2 x3 x4 x5 x6 x7 x8 x9 x10 x11 x12 : Value) (w : World) : (Instr.index 126 (.agg #[x0, x1, x2, x3, x4, x5, x6, x7, x8, x9, x10, x11, x12]) (.int .i64 11)).run Try.prog w = .ok x11 w := by kernel_rfl
theorem field_ix12 (x0 x1 x2 x3 x4 x5 x6 x7 x8 x9 x10 x11 x12 : Value) (w : World) : (Instr.index 126 (.agg #[x0, x1, x2, x3, x4, x5, x6, x7, x8, x9, x10, x11, x12]) (.int .i64 12)).run Try.prog w = .ok x12 w := by kernel_rfl

set_option maxHeartbeats 2000000 in
theorem field_1 (m : Mg) (sl : Value) (hm : m.sane) (w : World) : Calls Try.prog 45 #[.agg (m.cells sl), .int .i64 1] w (FieldIs m 1 w.heap.size w) := by
  obtain ⟨b1, b2, b3, b4, b5⟩ := nums_all hm.nums
  have hfits := hm.fits.frm
  obtain ⟨n, hn⟩ : ∃ n, n = m.frm.toNat := ⟨_, rfl⟩
  have hx0 := fun h => fldX_zero (m := m) (tag := 1) (n := n) (by rw [hn]; rfl) (by decide) (by decide) h
  have hx1 := fun h => fldX_pos (m := m) (tag := 1) (n := n) (by rw [hn]; rfl) (by decide) (by decide) h
  have hnz : (m.frm : Int) = (n : Int) := by rw [hn]; omega
  have hn64 : n < 18446744073709551616 := by omega
  have hu := Lib.hid (refUint_any n hn64)
  have w1 := u64_small b1
  have w2 := u64_small b2
  have hx := field_ix1
  obtain ⟨X, hX⟩ : ∃ X, X = fldX m 1 := ⟨_, rfl⟩
  obtain ⟨S, hS⟩ : ∃ S, S = (fld m 1).isSome := ⟨_, rfl⟩
  rw [← hX, ← hS] at hx0 hx1
  unfold FieldIs
  rw [← hX, ← hS]
  clear hX hS hn hfits
  obtain ⟨kind, frm, to_, node, life, seq, a, b, key, found, time, gone, val, ws, note, hint, must⟩ := m
  simp only at b1 b2 w1 w2 hnz
  clear hm b3 b4 b5
  by_cases h0 : n = 0
  · obtain ⟨rfl, rfl⟩ := hx0 h0
    subst h0
    subst hnz
    clear hx0 hx1 hu hn64
    show Calls _ _ #[.agg #[.int .i64 kind, .int .i64 _, .int .i64 to_, .int .i64 node, .int .i64 life, .int .i64 seq, .int .u64 a, .int .u64 b, .string key, .bool found, .int .u64 time, .bool gone, .string val, sl, .string note, .int .u64 hint, .int .u64 must], .int .i64 1] w _
    go_enter Try.func45, Try.ntmps45
    go_wp2_with fail
    go_ret2
    exact ⟨rfl, (Below.refl _ _).alloc (Nat.le_refl _) _⟩
  · obtain ⟨rfl, rfl⟩ := hx1 h0
    have ht : ((n : Int) != 0) = true := by rw [bne_iff_ne]; omega
    subst hnz
    clear hx0 hx1 h0 hn64
    show Calls _ _ #[.agg #[.int .i64 kind, .int .i64 _, .int .i64 to_, .int .i64 node, .int .i64 life, .int .i64 seq, .int .u64 a, .int .u64 b, .string key, .bool found, .int .u64 time, .bool gone, .string val, sl, .string note, .int .u64 hint, .int .u64 must], .int .i64 1] w _
    go_enter Try.func45, Try.ntmps45
    go_wp2_with (go_at_call 44; refine (hu.out _).mono ?_; rintro e w1 ⟨rfl, hb1⟩)
    go_ret2
    exact ⟨rfl, ((Below.refl _ _).alloc (Nat.le_refl _) _).trans (hb1.mono (by simp))⟩


set_option maxHeartbeats 2000000 in
theorem field_2 (m : Mg) (sl : Value) (hm : m.sane) (w : World) : Calls Try.prog 45 #[.agg (m.cells sl), .int .i64 2] w (FieldIs m 2 w.heap.size w) := by
  obtain ⟨b1, b2, b3, b4, b5⟩ := nums_all hm.nums
  have hfits := hm.fits.to_
  obtain ⟨n, hn⟩ : ∃ n, n = m.to_.toNat := ⟨_, rfl⟩
  have hx0 := fun h => fldX_zero (m := m) (tag := 2) (n := n) (by rw [hn]; rfl) (by decide) (by decide) h
  have hx1 := fun h => fldX_pos (m := m) (tag := 2) (n := n) (by rw [hn]; rfl) (by decide) (by decide) h
  have hnz : (m.to_ : Int) = (n : Int) := by rw [hn]; omega
  have hn64 : n < 18446744073709551616 := by omega
  have hu := Lib.hid (refUint_any n hn64)
  have w1 := u64_small b1
  have w2 := u64_small b2
  have hx := field_ix2
  obtain ⟨X, hX⟩ : ∃ X, X = fldX m 2 := ⟨_, rfl⟩
  obtain ⟨S, hS⟩ : ∃ S, S = (fld m 2).isSome := ⟨_, rfl⟩
  rw [← hX, ← hS] at hx0 hx1
  unfold FieldIs
  rw [← hX, ← hS]
  clear hX hS hn hfits
  obtain ⟨kind, frm, to_, node, life, seq, a, b, key, found, time, gone, val, ws, note, hint, must⟩ := m
  simp only at b1 b2 w1 w2 hnz
  clear hm b3 b4 b5
  by_cases h0 : n = 0
  · obtain ⟨rfl, rfl⟩ := hx0 h0
    subst h0
    subst hnz
    clear hx0 hx1 hu hn64
    show Calls _ _ #[.agg #[.int .i64 kind, .int .i64 frm, .int .i64 _, .int .i64 node, .int .i64 life, .int .i64 seq, .int .u64 a, .int .u64 b, .string key, .bool found, .int .u64 time, .bool gone, .string val, sl, .string note, .int .u64 hint, .int .u64 must], .int .i64 2] w _
    go_enter Try.func45, Try.ntmps45
    go_wp2_with fail
    go_ret2
    exact ⟨rfl, (Below.refl _ _).alloc (Nat.le_refl _) _⟩
  · obtain ⟨rfl, rfl⟩ := hx1 h0
    have ht : ((n : Int) != 0) = true := by rw [bne_iff_ne]; omega
    subst hnz
    clear hx0 hx1 h0 hn64
    show Calls _ _ #[.agg #[.int .i64 kind, .int .i64 frm, .int .i64 _, .int .i64 node, .int .i64 life, .int .i64 seq, .int .u64 a, .int .u64 b, .string key, .bool found, .int .u64 time, .bool gone, .string val, sl, .string note, .int .u64 hint, .int .u64 must], .int .i64 2] w _
    go_enter Try.func45, Try.ntmps45
    go_wp2_with (go_at_call 44; refine (hu.out _).mono ?_; rintro e w1 ⟨rfl, hb1⟩)
    go_ret2
    exact ⟨rfl, ((Below.refl _ _).alloc (Nat.le_refl _) _).trans (hb1.mono (by simp))⟩


set_option maxHeartbeats 2000000 in
theorem field_4 (m : Mg) (sl : Value) (hm : m.sane) (w : World) : Calls Try.prog 45 #[.agg (m.cells sl), .int .i64 4] w (FieldIs m 4 w.heap.size w) := by
  obtain ⟨b1, b2, b3, b4, b5⟩ := nums_all hm.nums
  have hfits := hm.fits.a
  obtain ⟨n, hn⟩ : ∃ n, n = m.a := ⟨_, rfl⟩
  have hx0 := fun h => fldX_zero (m := m) (tag := 4) (n := n) (by rw [hn]; rfl) (by decide) (by decide) h
  have hx1 := fun h => fldX_pos (m := m) (tag := 4) (n := n) (by rw [hn]; rfl) (by decide) (by decide) h
  have hnz : ((m.a : Int) : Int) = (n : Int) := by rw [hn]
  have hn64 : n < 18446744073709551616 := by omega
  have hu := Lib.hid (refUint_any n hn64)
  have w1 := u64_small b1
  have w2 := u64_small b2
  have hx := field_ix4
  obtain ⟨X, hX⟩ : ∃ X, X = fldX m 4 := ⟨_, rfl⟩
  obtain ⟨S, hS⟩ : ∃ S, S = (fld m 4).isSome := ⟨_, rfl⟩
  rw [← hX, ← hS] at hx0 hx1
  unfold FieldIs
  rw [← hX, ← hS]
  clear hX hS hn hfits
  obtain ⟨kind, frm, to_, node, life, seq, a, b, key, found, time, gone, val, ws, note, hint, must⟩ := m
  simp only at b1 b2 w1 w2 hnz
  clear hm b3 b4 b5
  by_cases h0 : n = 0
  · obtain ⟨rfl, rfl⟩ := hx0 h0
    subst h0
    obtain rfl : a = _ := Int.ofNat.inj hnz
    clear hx0 hx1 hu hn64
    show Calls _ _ #[.agg #[.int .i64 kind, .int .i64 frm, .int .i64 to_, .int .i64 node, .int .i64 life, .int .i64 seq, .int .u64 _, .int .u64 b, .string key, .bool found, .int .u64 time, .bool gone, .string val, sl, .string note, .int .u64 hint, .int .u64 must], .int .i64 4] w _
    go_enter Try.func45, Try.ntmps45
    go_wp2_with fail
    go_ret2
    exact ⟨rfl, (Below.refl _ _).alloc (Nat.le_refl _) _⟩
  · obtain ⟨rfl, rfl⟩ := hx1 h0
    have ht : ((n : Int) != 0) = true := by rw [bne_iff_ne]; omega
    obtain rfl : a = _ := Int.ofNat.inj hnz
    clear hx0 hx1 h0 hn64
    show Calls _ _ #[.agg #[.int .i64 kind, .int .i64 frm, .int .i64 to_, .int .i64 node, .int .i64 life, .int .i64 seq, .int .u64 _, .int .u64 b, .string key, .bool found, .int .u64 time, .bool gone, .string val, sl, .string note, .int .u64 hint, .int .u64 must], .int .i64 4] w _
    go_enter Try.func45, Try.ntmps45
    go_wp2_with (go_at_call 44; refine (hu.out _).mono ?_; rintro e w1 ⟨rfl, hb1⟩)
    go_ret2
    exact ⟨rfl, ((Below.refl _ _).alloc (Nat.le_refl _) _).trans (hb1.mono (by simp))⟩


set_option maxHeartbeats 2000000 in
theorem field_5 (m : Mg) (sl : Value) (hm : m.sane) (w : World) : Calls Try.prog 45 #[.agg (m.cells sl), .int .i64 5] w (FieldIs m 5 w.heap.size w) := by
  obtain ⟨b1, b2, b3, b4, b5⟩ := nums_all hm.nums
  have hfits := hm.fits.b
  obtain ⟨n, hn⟩ : ∃ n, n = m.b := ⟨_, rfl⟩
  have hx0 := fun h => fldX_zero (m := m) (tag := 5) (n := n) (by rw [hn]; rfl) (by decide) (by decide) h
  have hx1 := fun h => fldX_pos (m := m) (tag := 5) (n := n) (by rw [hn]; rfl) (by decide) (by decide) h
  have hnz : ((m.b : Int) : Int) = (n : Int) := by rw [hn]
  have hn64 : n < 18446744073709551616 := by omega
  have hu := Lib.hid (refUint_any n hn64)
  have w1 := u64_small b1
  have w2 := u64_small b2
  have hx := field_ix5
  obtain ⟨X, hX⟩ : ∃ X, X = fldX m 5 := ⟨_, rfl⟩
  obtain ⟨S, hS⟩ : ∃ S, S = (fld m 5).isSome := ⟨_, rfl⟩
  rw [← hX, ← hS] at hx0 hx1
  unfold FieldIs
  rw [← hX, ← hS]
  clear hX hS hn hfits
  obtain ⟨kind, frm, to_, node, life, seq, a, b, key, found, time, gone, val, ws, note, hint, must⟩ := m
  simp only at b1 b2 w1 w2 hnz
  clear hm b3 b4 b5
  by_cases h0 : n = 0
  · obtain ⟨rfl, rfl⟩ := hx0 h0
    subst h0
    obtain rfl : b = _ := Int.ofNat.inj hnz
    clear hx0 hx1 hu hn64
    show Calls _ _ #[.agg #[.int .i64 kind, .int .i64 frm, .int .i64 to_, .int .i64 node, .int .i64 life, .int .i64 seq, .int .u64 a, .int .u64 _, .string key, .bool found, .int .u64 time, .bool gone, .string val, sl, .string note, .int .u64 hint, .int .u64 must], .int .i64 5] w _
    go_enter Try.func45, Try.ntmps45
    go_wp2_with fail
    go_ret2
    exact ⟨rfl, (Below.refl _ _).alloc (Nat.le_refl _) _⟩
  · obtain ⟨rfl, rfl⟩ := hx1 h0
    have ht : ((n : Int) != 0) = true := by rw [bne_iff_ne]; omega
    obtain rfl : b = _ := Int.ofNat.inj hnz
    clear hx0 hx1 h0 hn64
    show Calls _ _ #[.agg #[.int .i64 kind, .int .i64 frm, .int .i64 to_, .int .i64 node, .int .i64 life, .int .i64 seq, .int .u64 a, .int .u64 _, .string key, .bool found, .int .u64 time, .bool gone, .string val, sl, .string note, .int .u64 hint, .int .u64 must], .int .i64 5] w _
    go_enter Try.func45, Try.ntmps45
    go_wp2_with (go_at_call 44; refine (hu.out _).mono ?_; rintro e w1 ⟨rfl, hb1⟩)
    go_ret2
    exact ⟨rfl, ((Below.refl _ _).alloc (Nat.le_refl _) _).trans (hb1.mono (by simp))⟩


set_option maxHeartbeats 2000000 in
theorem field_11 (m : Mg) (sl : Value) (hm : m.sane) (w : World) : Calls Try.prog 45 #[.agg (m.cells sl), .int .i64 11] w (FieldIs m 11 w.heap.size w) := by
  obtain ⟨b1, b2, b3, b4, b5⟩ := nums_all hm.nums
  have hfits := hm.fits.hint
  obtain ⟨n, hn⟩ : ∃ n, n = m.hint := ⟨_, rfl⟩
  have hx0 := fun h => fldX_zero (m := m) (tag := 11) (n := n) (by rw [hn]; rfl) (by decide) (by decide) h
  have hx1 := fun h => fldX_pos (m := m) (tag := 11) (n := n) (by rw [hn]; rfl) (by decide) (by decide) h
  have hnz : ((m.hint : Int) : Int) = (n : Int) := by rw [hn]
  have hn64 : n < 18446744073709551616 := by omega
  have hu := Lib.hid (refUint_any n hn64)
  have w1 := u64_small b1
  have w2 := u64_small b2
  have hx := field_ix11
  obtain ⟨X, hX⟩ : ∃ X, X = fldX m 11 := ⟨_, rfl⟩
  obtain ⟨S, hS⟩ : ∃ S, S = (fld m 11).isSome := ⟨_, rfl⟩
  rw [← hX, ← hS] at hx0 hx1
  unfold FieldIs
  rw [← hX, ← hS]
  clear hX hS hn hfits
  obtain ⟨kind, frm, to_, node, life, seq, a, b, key, found, time, gone, val, ws, note, hint, must⟩ := m
  simp only at b1 b2 w1 w2 hnz
  clear hm b3 b4 b5
  by_cases h0 : n = 0
  · obtain ⟨rfl, rfl⟩ := hx0 h0
    subst h0
    obtain rfl : hint = _ := Int.ofNat.inj hnz
    clear hx0 hx1 hu hn64
    show Calls _ _ #[.agg #[.int .i64 kind, .int .i64 frm, .int .i64 to_, .int .i64 node, .int .i64 life, .int .i64 seq, .int .u64 a, .int .u64 b, .string key, .bool found, .int .u64 time, .bool gone, .string val, sl, .string note, .int .u64 _, .int .u64 must], .int .i64 11] w _
    go_enter Try.func45, Try.ntmps45
    go_wp2_with fail
    go_ret2
    exact ⟨rfl, (Below.refl _ _).alloc (Nat.le_refl _) _⟩
  · obtain ⟨rfl, rfl⟩ := hx1 h0
    have ht : ((n : Int) != 0) = true := by rw [bne_iff_ne]; omega
    obtain rfl : hint = _ := Int.ofNat.inj hnz
    clear hx0 hx1 h0 hn64
    show Calls _ _ #[.agg #[.int .i64 kind, .int .i64 frm, .int .i64 to_, .int .i64 node, .int .i64 life, .int .i64 seq, .int .u64 a, .int .u64 b, .string key, .bool found, .int .u64 time, .bool gone, .string val, sl, .string note, .int .u64 _, .int .u64 must], .int .i64 11] w _
    go_enter Try.func45, Try.ntmps45
    go_wp2_with (go_at_call 44; refine (hu.out _).mono ?_; rintro e w1 ⟨rfl, hb1⟩)
    go_ret2
    exact ⟨rfl, ((Below.refl _ _).alloc (Nat.le_refl _) _).trans (hb1.mono (by simp))⟩


set_option maxHeartbeats 2000000 in
theorem field_12 (m : Mg) (sl : Value) (hm : m.sane) (w : World) : Calls Try.prog 45 #[.agg (m.cells sl), .int .i64 12] w (FieldIs m 12 w.heap.size w) := by
  obtain ⟨b1, b2, b3, b4, b5⟩ := nums_all hm.nums
  have hfits := hm.fits.must
  obtain ⟨n, hn⟩ : ∃ n, n = m.must := ⟨_, rfl⟩
  have hx0 := fun h => fldX_zero (m := m) (tag := 12) (n := n) (by rw [hn]; rfl) (by decide) (by decide) h
  have hx1 := fun h => fldX_pos (m := m) (tag := 12) (n := n) (by rw [hn]; rfl) (by decide) (by decide) h
  have hnz : ((m.must : Int) : Int) = (n : Int) := by rw [hn]
  have hn64 : n < 18446744073709551616 := by omega
  have hu := Lib.hid (refUint_any n hn64)
  have w1 := u64_small b1
  have w2 := u64_small b2
  have hx := field_ix12
  obtain ⟨X, hX⟩ : ∃ X, X = fldX m 12 := ⟨_, rfl⟩
  obtain ⟨S, hS⟩ : ∃ S, S = (fld m 12).isSome := ⟨_, rfl⟩
  rw [← hX, ← hS] at hx0 hx1
  unfold FieldIs
  rw [← hX, ← hS]
  clear hX hS hn hfits
  obtain ⟨kind, frm, to_, node, life, seq, a, b, key, found, time, gone, val, ws, note, hint, must⟩ := m
  simp only at b1 b2 w1 w2 hnz
  clear hm b3 b4 b5
  by_cases h0 : n = 0
  · obtain ⟨rfl, rfl⟩ := hx0 h0
    subst h0
    obtain rfl : must = _ := Int.ofNat.inj hnz
    clear hx0 hx1 hu hn64
    show Calls _ _ #[.agg #[.int .i64 kind, .int .i64 frm, .int .i64 to_, .int .i64 node, .int .i64 life, .int .i64 seq, .int .u64 a, .int .u64 b, .string key, .bool found, .int .u64 time, .bool gone, .string val, sl, .string note, .int .u64 hint, .int .u64 _], .int .i64 12] w _
    go_enter Try.func45, Try.ntmps45
    go_wp2_with fail
    go_ret2
    exact ⟨rfl, (Below.refl _ _).alloc (Nat.le_refl _) _⟩
  · obtain ⟨rfl, rfl⟩ := hx1 h0
    have ht : ((n : Int) != 0) = true := by rw [bne_iff_ne]; omega
    obtain rfl : must = _ := Int.ofNat.inj hnz
    clear hx0 hx1 h0 hn64
    show Calls _ _ #[.agg #[.int .i64 kind, .int .i64 frm, .int .i64 to_, .int .i64 node, .int .i64 life, .int .i64 seq, .int .u64 a, .int .u64 b, .string key, .bool found, .int .u64 time, .bool gone, .string val, sl, .string note, .int .u64 hint, .int .u64 _], .int .i64 12] w _
    go_enter Try.func45, Try.ntmps45
    go_wp2_with (go_at_call 44; refine (hu.out _).mono ?_; rintro e w1 ⟨rfl, hb1⟩)
    go_ret2
    exact ⟨rfl, ((Below.refl _ _).alloc (Nat.le_refl _) _).trans (hb1.mono (by simp))⟩

end Go.Proofs.Ytbhlgceicfjncaa

namespace Go.Proofs.Ytbhlgceicfjncaa
open Go.RowKit
set_option linter.unusedVariables false
set_option linter.unnecessarySimpa false
set_option linter.unusedSimpArgs false
set_option maxRecDepth 100000

theorem str_add3 (a b c : List UInt8) : (⟨a.toArray⟩ : ByteArray) ++ ⟨b.toArray⟩ ++ ⟨c.toArray⟩ = ⟨(a ++ b ++ c).toArray⟩ := by apply ByteArray.ext; simp

set_option maxHeartbeats 4000000 in
theorem field_3 (m : Mg) (sl : Value) (hm : m.sane) (w : World) : Calls Try.prog 45 #[.agg (m.cells sl), .int .i64 3] w (FieldIs m 3 w.heap.size w) := by
  obtain ⟨_, _, b3, b4, b5⟩ := nums_all hm.nums
  have hx := field_ix3
  have hX1 : txnZero m = true → fldX m 3 = [] ∧ (fld m 3).isSome = false := fun h => by
    have e : fld m 3 = none := by rw [fld_3, if_pos h]
    unfold fldX; rw [e]; exact ⟨rfl, rfl⟩
  have hX2 : txnZero m = false → fldX m 3 = ub m.node.toNat ++ ub m.life.toNat ++ ub m.seq.toNat ∧ (fld m 3).isSome = true := fun h => by
    have e : fld m 3 = some (ub m.node.toNat ++ ub m.life.toNat ++ ub m.seq.toNat) := by rw [fld_3, if_neg (by rw [h]; decide)]
    unfold fldX; rw [e]; exact ⟨rfl, rfl⟩
  unfold txnZero at hX1 hX2
  obtain ⟨X, hX⟩ : ∃ X, X = fldX m 3 := ⟨_, rfl⟩
  obtain ⟨S, hS⟩ : ∃ S, S = (fld m 3).isSome := ⟨_, rfl⟩
  rw [← hX, ← hS] at hX1 hX2
  unfold FieldIs
  rw [← hX, ← hS]
  clear hX hS
  obtain ⟨kind, frm, to_, node, life, seq, a, b, key, found, time, gone, val, ws, note, hint, must⟩ := m
  simp only at b3 b4 b5 hX1 hX2
  clear hm
  obtain ⟨n, rfl⟩ : ∃ n : Nat, node = n := ⟨node.toNat, by omega⟩
  obtain ⟨l, rfl⟩ : ∃ n : Nat, life = n := ⟨life.toNat, by omega⟩
  obtain ⟨s, rfl⟩ : ∃ n : Nat, seq = n := ⟨seq.toNat, by omega⟩
  simp only [Int.toNat_natCast] at hX2
  by_cases hz : ((n : Int) == 0 && (l : Int) == 0 && (s : Int) == 0) = true
  · obtain ⟨rfl, rfl⟩ := hX1 hz
    simp only [Bool.and_eq_true] at hz
    obtain ⟨⟨z1, z2⟩, z3⟩ := hz
    clear hX1 hX2
    show Calls _ _ #[.agg #[.int .i64 kind, .int .i64 frm, .int .i64 to_, .int .i64 n, .int .i64 l, .int .i64 s, .int .u64 a, .int .u64 b, .string key, .bool found, .int .u64 time, .bool gone, .string val, sl, .string note, .int .u64 hint, .int .u64 must], .int .i64 3] w _
    go_enter Try.func45, Try.ntmps45
    go_wp2_with fail
    go_ret2
    exact ⟨rfl, (Below.refl _ _).alloc (Nat.le_refl _) _⟩
  · obtain ⟨hXe, rfl⟩ := hX2 (by simpa using hz)
    have hu1 := Lib.hid (refUint_any n (by omega))
    have hu2 := Lib.hid (refUint_any l (by omega))
    have hu3 := Lib.hid (refUint_any s (by omega))
    have hs1 := ub_size' n (by omega)
    have hs2 := ub_size' l (by omega)
    have hs3 := ub_size' s (by omega)
    obtain ⟨U1, hU1⟩ : ∃ U : ByteArray, U = ⟨(ub n).toArray⟩ := ⟨_, rfl⟩
    obtain ⟨U2, hU2⟩ : ∃ U : ByteArray, U = ⟨(ub l).toArray⟩ := ⟨_, rfl⟩
    obtain ⟨U3, hU3⟩ : ∃ U : ByteArray, U = ⟨(ub s).toArray⟩ := ⟨_, rfl⟩
    have hadd := Lib.hid (show U1 ++ U2 ++ U3 = ⟨X.toArray⟩ by rw [hXe, hU1, hU2, hU3]; exact str_add3 _ _ _)
    rw [← hU1] at hu1 hs1
    rw [← hU2] at hu2 hs2
    rw [← hU3] at hu3 hs3
    have w1 := u64_small b3
    have w2 := u64_small b4
    have w3 := u64_small b5
    have ha1 : U1.size + U2.size ≤ 9223372036854775807 := by omega
    have ha2 : (U1 ++ U2).size + U3.size ≤ 9223372036854775807 := by rw [ByteArray.size_append]; omega
    clear hX1 hX2 hU1 hU2 hU3 hXe
    have h3 : ((n : Int) == 0) = false ∨ (((n : Int) == 0) = true ∧ ((l : Int) == 0) = false) ∨ (((n : Int) == 0) = true ∧ ((l : Int) == 0) = true ∧ ((s : Int) == 0) = false) := by
      cases h1 : ((n : Int) == 0)
      · exact .inl rfl
      · cases h2 : ((l : Int) == 0)
        · exact .inr (.inl ⟨rfl, rfl⟩)
        · refine .inr (.inr ⟨rfl, rfl, ?_⟩)
          rw [h1, h2] at hz
          simpa using hz
    clear hz
    have hcells : ∀ x : Like (w.alloc (.cells #[.int .i64 kind, .int .i64 frm, .int .i64 to_, .int .i64 n, .int .i64 l, .int .i64 s, .int .u64 a, .int .u64 b, .string key, .bool found, .int .u64 time, .bool gone, .string val, sl, .string note, .int .u64 hint, .int .u64 must] 38)).heap.size (w.alloc (.cells #[.int .i64 kind, .int .i64 frm, .int .i64 to_, .int .i64 n, .int .i64 l, .int .i64 s, .int .u64 a, .int .u64 b, .string key, .bool found, .int .u64 time, .bool gone, .string val, sl, .string note, .int .u64 hint, .int .u64 must] 38)), x.val.cell? ⟨w.heap.size, 3, none⟩ = some (.int .i64 n) ∧ x.val.cell? ⟨w.heap.size, 4, none⟩ = some (.int .i64 l) ∧ x.val.cell? ⟨w.heap.size, 5, none⟩ = some (.int .i64 s) := fun x => by
      have hb := x.below.block w.heap.size (by simp)
      rw [heap_alloc_new] at hb
      simp [World.cell?, hb]
    have hc3 := fun x => (hcells x).1
    have hc4 := fun x => (hcells x).2.1
    have hc5 := fun x => (hcells x).2.2
    clear hcells
    show Calls _ _ #[.agg #[.int .i64 kind, .int .i64 frm, .int .i64 to_, .int .i64 n, .int .i64 l, .int .i64 s, .int .u64 a, .int .u64 b, .string key, .bool found, .int .u64 time, .bool gone, .string val, sl, .string note, .int .u64 hint, .int .u64 must], .int .i64 3] w _
    rcases h3 with z1 | ⟨z1, z2⟩ | ⟨z1, z2, z3⟩
    all_goals
      go_enter Try.func45, Try.ntmps45
      go_upto_region 8 with fail
      refine region_likes (by kernel_rfl) (by kernel_rfl) ?_
      repeat (go_big_quiet_step (first
        | (go_at_call 44; with_reducible exact calls_likes (Like.size _) (hu1.out _))
        | (go_at_call 44; with_reducible exact calls_likes (Like.size _) (hu2.out _))
        | (go_at_call 44; with_reducible exact calls_likes (Like.size _) (hu3.out _))))
      refine wpQuiet_nil ?_
      intro x
      have hbx := Lib.hid (show Below w.heap.size w x.val from ((Below.refl _ _).alloc (Nat.le_refl _) _).trans (x.below.mono (by simp)))
      go_wp2_with fail
      go_ret2
      exact ⟨congrArg (fun z => Ending.returned (.tuple #[.string z, .bool true])) hadd.out, hbx.out⟩
end Go.Proofs.Ytbhlgceicfjncaa

namespace Go.Proofs.Ytbhlgceicfjncaa
open Go.RowKit
set_option linter.unusedVariables false
set_option linter.unnecessarySimpa false
set_option linter.unusedSimpArgs false
set_option maxRecDepth 100000

theorem ba_empty {s : ByteArray} (h : s.size = 0) : s = ByteArray.empty := ByteArray.ext (Array.eq_empty_of_size_eq_zero h)
theorem ba_some {s : ByteArray} (h : ¬ s.size = 0) : s.toList.isEmpty = false ∧ (s.toList == []) = false ∧ (s.toList != []) = true := by
  have h1 : ¬ s.toList = [] := by
    rw [Lib.toList_data]
    intro e
    have := congrArg List.length e
    rw [← Lib.size_eq] at this
    exact h this
  refine ⟨?_, ?_, ?_⟩
  · cases hs : s.toList with
    | nil => exact absurd hs h1
    | cons x l => rfl
  · rw [beq_eq_false_iff_ne]; exact h1
  · rw [bne_iff_ne]; exact h1
theorem below_drewN' {B : Nat} {w w' : World} (h : Below B w w') (n : Nat) : Below B w (w'.drewN n) := ⟨h.os, h.tape, h.output, h.size, h.block⟩
theorem ba_ofM (s : ByteArray) : (⟨s.data.toList.toArray⟩ : ByteArray) = s := by simp


set_option maxHeartbeats 4000000 in
theorem field_6 (m : Mg) (sl : Value) (hm : m.sane) (w : World) : Calls Try.prog 45 #[.agg (m.cells sl), .int .i64 6] w (FieldIs m 6 w.heap.size w) := by
  have hx := field_ix6
  have hX1 : m.key.size = 0 → fldX m 6 = [] ∧ (fld m 6).isSome = false := fun h => by
    have e : fld m 6 = none := by rw [fld_6, if_pos h]
    unfold fldX; rw [e]; exact ⟨rfl, rfl⟩
  have hX2 : ¬ m.key.size = 0 → fldX m 6 = m.key.data.toList ∧ (fld m 6).isSome = true := fun h => by
    have e : fld m 6 = some m.key.data.toList := by rw [fld_6, if_neg h]
    unfold fldX; rw [e]; exact ⟨rfl, rfl⟩
  obtain ⟨X, hX⟩ : ∃ X, X = fldX m 6 := ⟨_, rfl⟩
  obtain ⟨S, hS⟩ : ∃ S, S = (fld m 6).isSome := ⟨_, rfl⟩
  rw [← hX, ← hS] at hX1 hX2
  unfold FieldIs
  rw [← hX, ← hS]
  clear hX hS hm
  obtain ⟨kind, frm, to_, node, life, seq, a, b, key, found, time, gone, val, ws, note, hint, must⟩ := m
  simp only at hX1 hX2
  by_cases h0 : key.size = 0
  · obtain ⟨rfl, rfl⟩ := hX1 h0
    obtain rfl := ba_empty h0
    clear hX1 hX2 h0
    show Calls _ _ #[.agg #[.int .i64 kind, .int .i64 frm, .int .i64 to_, .int .i64 node, .int .i64 life, .int .i64 seq, .int .u64 a, .int .u64 b, .string ByteArray.empty, .bool found, .int .u64 time, .bool gone, .string val, sl, .string note, .int .u64 hint, .int .u64 must], .int .i64 6] w _
    go_enter Try.func45, Try.ntmps45
    go_upto_region 10 with fail
    go_quiet (fail)
    go_wp2_with fail
    go_ret2
    exact ⟨rfl, below_drewN' ((Below.refl _ _).alloc (Nat.le_refl _) _) nq⟩
  · obtain ⟨hXe, rfl⟩ := hX2 h0
    obtain ⟨k1, k2, k3⟩ := ba_some h0
    have HK := Lib.hid (show key = ⟨X.toArray⟩ by rw [hXe])
    clear hX1 hX2 h0 hXe
    show Calls _ _ #[.agg #[.int .i64 kind, .int .i64 frm, .int .i64 to_, .int .i64 node, .int .i64 life, .int .i64 seq, .int .u64 a, .int .u64 b, .string key, .bool found, .int .u64 time, .bool gone, .string val, sl, .string note, .int .u64 hint, .int .u64 must], .int .i64 6] w _
    go_enter Try.func45, Try.ntmps45
    go_upto_region 10 with fail
    go_quiet (fail)
    go_wp2_with fail
    go_ret2
    exact ⟨congrArg (fun z => Ending.returned (.tuple #[.string z, .bool true])) HK.out, below_drewN' ((Below.refl _ _).alloc (Nat.le_refl _) _) nq⟩


set_option maxHeartbeats 4000000 in
theorem field_10 (m : Mg) (sl : Value) (hm : m.sane) (w : World) : Calls Try.prog 45 #[.agg (m.cells sl), .int .i64 10] w (FieldIs m 10 w.heap.size w) := by
  have hx := field_ix10
  have hX1 : m.note.size = 0 → fldX m 10 = [] ∧ (fld m 10).isSome = false := fun h => by
    have e : fld m 10 = none := by rw [fld_10, if_pos h]
    unfold fldX; rw [e]; exact ⟨rfl, rfl⟩
  have hX2 : ¬ m.note.size = 0 → fldX m 10 = m.note.data.toList ∧ (fld m 10).isSome = true := fun h => by
    have e : fld m 10 = some m.note.data.toList := by rw [fld_10, if_neg h]
    unfold fldX; rw [e]; exact ⟨rfl, rfl⟩
  obtain ⟨X, hX⟩ : ∃ X, X = fldX m 10 := ⟨_, rfl⟩
  obtain ⟨S, hS⟩ : ∃ S, S = (fld m 10).isSome := ⟨_, rfl⟩
  rw [← hX, ← hS] at hX1 hX2
  unfold FieldIs
  rw [← hX, ← hS]
  clear hX hS hm
  obtain ⟨kind, frm, to_, node, life, seq, a, b, key, found, time, gone, val, ws, note, hint, must⟩ := m
  simp only at hX1 hX2
  by_cases h0 : note.size = 0
  · obtain ⟨rfl, rfl⟩ := hX1 h0
    obtain rfl := ba_empty h0
    clear hX1 hX2 h0
    show Calls _ _ #[.agg #[.int .i64 kind, .int .i64 frm, .int .i64 to_, .int .i64 node, .int .i64 life, .int .i64 seq, .int .u64 a, .int .u64 b, .string key, .bool found, .int .u64 time, .bool gone, .string val, sl, .string ByteArray.empty, .int .u64 hint, .int .u64 must], .int .i64 10] w _
    go_enter Try.func45, Try.ntmps45
    go_upto_region 24 with fail
    go_quiet (fail)
    go_wp2_with fail
    go_ret2
    exact ⟨rfl, below_drewN' ((Below.refl _ _).alloc (Nat.le_refl _) _) nq⟩
  · obtain ⟨hXe, rfl⟩ := hX2 h0
    obtain ⟨k1, k2, k3⟩ := ba_some h0
    have HK := Lib.hid (show note = ⟨X.toArray⟩ by rw [hXe])
    clear hX1 hX2 h0 hXe
    show Calls _ _ #[.agg #[.int .i64 kind, .int .i64 frm, .int .i64 to_, .int .i64 node, .int .i64 life, .int .i64 seq, .int .u64 a, .int .u64 b, .string key, .bool found, .int .u64 time, .bool gone, .string val, sl, .string note, .int .u64 hint, .int .u64 must], .int .i64 10] w _
    go_enter Try.func45, Try.ntmps45
    go_upto_region 24 with fail
    go_quiet (fail)
    go_wp2_with fail
    go_ret2
    exact ⟨congrArg (fun z => Ending.returned (.tuple #[.string z, .bool true])) HK.out, below_drewN' ((Below.refl _ _).alloc (Nat.le_refl _) _) nq⟩


set_option maxHeartbeats 4000000 in
theorem field_7 (m : Mg) (sl : Value) (hm : m.sane) (w : World) : Calls Try.prog 45 #[.agg (m.cells sl), .int .i64 7] w (FieldIs m 7 w.heap.size w) := by
  have hx := field_ix7
  have hX : fldX m 7 = [] ∧ (fld m 7).isSome = m.found := by
    unfold fldX
    rw [fld_7]
    cases m.found <;> exact ⟨rfl, rfl⟩
  unfold FieldIs
  rw [hX.1, hX.2]
  clear hX hm
  obtain ⟨kind, frm, to_, node, life, seq, a, b, key, found, time, gone, val, ws, note, hint, must⟩ := m
  show Calls _ _ #[.agg #[.int .i64 kind, .int .i64 frm, .int .i64 to_, .int .i64 node, .int .i64 life, .int .i64 seq, .int .u64 a, .int .u64 b, .string key, .bool found, .int .u64 time, .bool gone, .string val, sl, .string note, .int .u64 hint, .int .u64 must], .int .i64 7] w _
  go_enter Try.func45, Try.ntmps45
  go_upto_region 12 with fail
  go_quiet (fail)
  go_wp2_with fail
  go_ret2
  exact ⟨rfl, below_drewN' ((Below.refl _ _).alloc (Nat.le_refl _) _) nq⟩
end Go.Proofs.Ytbhlgceicfjncaa
