/-
  The walk of the statement PrimMakes: true.
-/
import Derived.Test.YtefkhekmhabeaaaAwake
import Derived.Test.YtefkhekmhabeaaaRefUint
import Derived.Test.YtefkhekmhabeaaaRefFixed
namespace Go.Proofs.Ytefkhekmhabeaaa
open Go.RowKit

/-- The document's Zig of what zag tells: the number itself. -/
theorem refZig_zag (n : Nat) (hn : n < 18446744073709551616) (w : World) :
    Calls Try.prog 14 #[.int .i64 (zagI n)] w fun e w' => e = .returned (.int .u64 n) ∧ w = w' := by
  have h := refZig_any (zagI n) (zagI_range hn).1 (zagI_range hn).2 w
  rw [zigzag_zagI] at h
  exact h

theorem wrap_i64_range (n : Int) : -9223372036854775808 ≤ wrap64 n ∧ wrap64 n ≤ 9223372036854775807 := by
  unfold wrap64; omega

set_option maxHeartbeats 1600000 in
set_option maxRecDepth 100000 in
theorem makes_yes (n size : Nat) (big : Bool) (w : World) (hn : n < 18446744073709551616) (h1 : 1 ≤ size) (h2 : size ≤ 8) :
    Calls Try.prog 3 #[.int .u64 n, .int .i64 size, .bool big] w fun e w' => e = .returned (.bool true) ∧ Below w.heap.size w w' := by
  have HN := Lib.hid hn
  clear hn
  go_enter Try.func3, Try.ntmps3
  go_wp2_with (first
    | (go_at_call 7; refine (refFixed_any n size big _ HN.out h1 h2).mono ?_; rintro e w1 ⟨rfl, hb1⟩)
    | (go_at_call 8; refine (zag_any n HN.out _).mono ?_; rintro e w2 ⟨rfl, rfl⟩)
    | (go_at_call 9; refine (awake_any _).mono ?_; rintro e w3 ⟨rfl, hb3⟩)
    | (go_at_call 10; refine (uint_any n HN.out _).mono ?_; rintro e w4 ⟨rfl, hb4⟩)
    | (go_at_call 11; refine (refUint_any n HN.out _).mono ?_; rintro e w5 ⟨rfl, hb5⟩)
    | (go_at_call 12; refine (fixed_any n size big _ h1 h2).mono ?_; rintro e w6 ⟨rfl, hb6⟩))
  refine (zig_any (wrap64 n) (wrap_i64_range n).1 (wrap_i64_range n).2 _).mono ?_
  rintro e w7 ⟨rfl, rfl⟩
  go_wp2_with fail
  refine (refZig_any (wrap64 n) (wrap_i64_range n).1 (wrap_i64_range n).2 _).mono ?_
  rintro e w8 ⟨rfl, rfl⟩
  go_wp2_with fail
  refine (refZig_zag n HN.out _).mono ?_
  rintro e w9 ⟨rfl, rfl⟩
  go_wp2_with fail
  go_ret
  refine ⟨rfl, ?_⟩
  have s1 := hb1.size
  have s3 := hb3.size
  have s4 := hb4.size
  have s5 := hb5.size
  exact ((((hb1.trans (hb3.mono s1)).trans (hb4.mono (by omega))).trans (hb5.mono (by omega))).trans (hb6.mono (by omega)))

set_option maxHeartbeats 1600000 in
set_option maxRecDepth 100000 in
theorem makes_no (n : Nat) (size : Int) (big : Bool) (w : World) (hn : n < 18446744073709551616) (h : size < 1 ∨ 8 < size) :
    Calls Try.prog 3 #[.int .u64 n, .int .i64 size, .bool big] w fun e w' => e = .returned (.bool true) ∧ Below w.heap.size w w' := by
  have HN := Lib.hid hn
  clear hn
  have H := Lib.hid h
  rcases h with h | h
  · have g1 : ¬ 1 ≤ size := by omega
    go_enter Try.func3, Try.ntmps3
    go_wp2_with (first
      | (go_at_call 8; refine (zag_any n HN.out _).mono ?_; rintro e w2 ⟨rfl, rfl⟩)
      | (go_at_call 9; refine (awake_any _).mono ?_; rintro e w3 ⟨rfl, hb3⟩)
      | (go_at_call 10; refine (uint_any n HN.out _).mono ?_; rintro e w4 ⟨rfl, hb4⟩)
      | (go_at_call 11; refine (refUint_any n HN.out _).mono ?_; rintro e w5 ⟨rfl, hb5⟩)
      | (go_at_call 12; refine (fixed_none n size big _ H.out).mono ?_; rintro e w6 ⟨rfl, rfl⟩))
    refine (zig_any (wrap64 n) (wrap_i64_range n).1 (wrap_i64_range n).2 _).mono ?_
    rintro e w7 ⟨rfl, rfl⟩
    go_wp2_with fail
    refine (refZig_any (wrap64 n) (wrap_i64_range n).1 (wrap_i64_range n).2 _).mono ?_
    rintro e w8 ⟨rfl, rfl⟩
    go_wp2_with fail
    refine (refZig_zag n HN.out _).mono ?_
    rintro e w9 ⟨rfl, rfl⟩
    go_wp2_with fail
    go_ret
    refine ⟨rfl, ?_⟩
    have s3 := hb3.size
    have s4 := hb4.size
    exact (hb3.trans (hb4.mono s3)).trans (hb5.mono (by omega))
  · have g1 : 1 ≤ size := by omega
    have g2 : ¬ size ≤ 8 := by omega
    go_enter Try.func3, Try.ntmps3
    go_wp2_with (first
      | (go_at_call 8; refine (zag_any n HN.out _).mono ?_; rintro e w2 ⟨rfl, rfl⟩)
      | (go_at_call 9; refine (awake_any _).mono ?_; rintro e w3 ⟨rfl, hb3⟩)
      | (go_at_call 10; refine (uint_any n HN.out _).mono ?_; rintro e w4 ⟨rfl, hb4⟩)
      | (go_at_call 11; refine (refUint_any n HN.out _).mono ?_; rintro e w5 ⟨rfl, hb5⟩)
      | (go_at_call 12; refine (fixed_none n size big _ H.out).mono ?_; rintro e w6 ⟨rfl, rfl⟩))
    refine (zig_any (wrap64 n) (wrap_i64_range n).1 (wrap_i64_range n).2 _).mono ?_
    rintro e w7 ⟨rfl, rfl⟩
    go_wp2_with fail
    refine (refZig_any (wrap64 n) (wrap_i64_range n).1 (wrap_i64_range n).2 _).mono ?_
    rintro e w8 ⟨rfl, rfl⟩
    go_wp2_with fail
    refine (refZig_zag n HN.out _).mono ?_
    rintro e w9 ⟨rfl, rfl⟩
    go_wp2_with fail
    go_ret
    refine ⟨rfl, ?_⟩
    have s3 := hb3.size
    have s4 := hb4.size
    exact (hb3.trans (hb4.mono s3)).trans (hb5.mono (by omega))

theorem primMakes_walk (a0 : Int) (w0 : (Lit.int .u64 a0).wf = true) (a1 : Int) (w1 : (Lit.int .i64 a1).wf = true) (a2 : Bool) (w : World) :
    Calls Try.prog 3 #[.int .u64 a0, .int .i64 a1, .bool a2] w fun e w' => e = .returned (.bool true) ∧ Below w.heap.size w w' := by
  have hx : 0 ≤ a0 ∧ a0 ≤ 18446744073709551615 := by simpa [Lit.wf, IntKind.min, IntKind.max, IntKind.signed, IntKind.bits] using w0
  obtain ⟨n, rfl⟩ := Int.eq_ofNat_of_zero_le hx.1
  by_cases h : 1 ≤ a1 ∧ a1 ≤ 8
  · obtain ⟨k, rfl⟩ := Int.eq_ofNat_of_zero_le (show 0 ≤ a1 by omega)
    exact makes_yes n k a2 w (by omega) (by omega) (by omega)
  · exact makes_no n a1 a2 w (by omega) (by omega)
end Go.Proofs.Ytefkhekmhabeaaa
