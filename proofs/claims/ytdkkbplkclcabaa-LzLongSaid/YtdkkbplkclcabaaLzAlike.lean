/-
  The walks of the program's alike, copyOf.
-/
import Derived.Test.YtdkkbplkclcabaaLzFour
namespace Go.Proofs.Ytdkkbplkclcabaa
open Go.RowKit
set_option linter.unusedVariables false
set_option linter.unnecessarySimpa false
set_option linter.unusedSimpArgs false
set_option maxRecDepth 100000

/-- As many bytes are the same, and no more. -/
def Same (s : ByteArray) (a b m : Nat) : Prop := b + m ≤ s.size ∧ (∀ i, i < m → bt s (a + i) = bt s (b + i)) ∧ (b + m < s.size → ¬ bt s (a + m) = bt s (b + m))
theorem bt_eq {s : ByteArray} {i j : Nat} : (((bt s i).toNat : Int) == ((bt s j).toNat : Int)) = decide (bt s i = bt s j) := by
  by_cases h : bt s i = bt s j
  · rw [h]; simp
  · rw [decide_eq_false h, beq_eq_false_iff_ne]
    intro e
    exact h (UInt8.toNat_inj.1 (by omega))

theorem below_drewN {B : Nat} {w w' : World} (h : Below B w w') (n : Nat) : Below B w (w'.drewN n) := ⟨h.os, h.tape, h.output, h.size, h.block⟩

set_option maxHeartbeats 2000000 in
theorem alike_any (s : ByteArray) (a b : Nat) (hab : a < b) (hb : b ≤ s.size) (hs : s.size ≤ 100000) (w : World) :
    Calls Try.prog 23 #[.string s, .int .i64 a, .int .i64 b] w fun e w' => ∃ m : Nat, e = .returned (.int .i64 m) ∧ Hid (Same s a b m) ∧ Below w.heap.size w w' := by
  go_enter Try.func23, Try.ntmps23
  go_wp2_with fail
  go_loopg [7] (s.size - b) (fun q s7 wx => ∃ m : Nat, b + m + q = s.size ∧ s7 = .int .i64 m ∧ Hid (∀ i, i < m → bt s (a + i) = bt s (b + i)) ∧ Hid (Below w.heap.size w wx))
  case atStart => exact ⟨0, by omega, rfl, Lib.hid (fun i hi => absurd hi (Nat.not_lt_zero _)), Lib.hid (Below.refl _ _)⟩
  case round =>
    obtain ⟨m, hmq, rfl, hsame, hbel⟩ := hrel
    by_cases hlt : b + m < s.size
    · obtain ⟨q, rfl⟩ : ∃ q, gk = q + 1 := ⟨gk - 1, by omega⟩
      have hla : a + m < s.size := by omega
      have b0 := bt_nat s (a + m) hla
      have b1 := bt_nat s (b + m) hlt
      have q0 : (a : Int) + (m : Int) < (s.size : Int) := by omega
      have q1 : (b : Int) + (m : Int) < (s.size : Int) := by omega
      have p0 : (0 : Int) ≤ (a : Int) + (m : Int) := by omega
      have p1 : (0 : Int) ≤ (b : Int) + (m : Int) := by omega
      have n0 : ((a : Int) + (m : Int)).toNat = a + m := by omega
      have n1 : ((b : Int) + (m : Int)).toNat = b + m := by omega
      have hm1 : m ≤ 100000 := by omega
      have HM := Lib.hid (show b + (m + 1) + q = s.size by omega)
      have HL := Lib.hid hlt
      have HC := Lib.hid (show b + m ≤ s.size by omega)
      have hd : decide ((b : Int) + (m : Int) < (s.size : Int)) = true := decide_eq_true q1
      obtain ⟨e0, e1, w0, w1⟩ := same_wraps a b m s.size (by omega) (by omega) hs
      by_cases heq : bt s (a + m) = bt s (b + m)
      · have hbe : (((bt s (a + m)).toNat : Int) == ((bt s (b + m)).toNat : Int)) = true := by rw [bt_eq]; exact decide_eq_true heq
        have HE := Lib.hid (show ∀ i, i < m + 1 → bt s (a + i) = bt s (b + i) from fun i hi => by
          by_cases e : i = m
          · subst e; exact heq
          · exact hsame.out i (by omega))
        clear heq hmq
        go_upto_region 2 with fail
        go_quiet (fail)
        go_wp2_with fail
        go_roundg q
        case measure => omega
        case rel => exact ⟨m + 1, HM.out, by simp, HE, Lib.hid (below_drewN hbel.out nq)⟩
      · have hbe : (((bt s (a + m)).toNat : Int) == ((bt s (b + m)).toNat : Int)) = false := by rw [bt_eq]; exact decide_eq_false heq
        have HE := Lib.hid (show Same s a b m from ⟨by omega, hsame.out, fun _ => heq⟩)
        clear heq hmq
        go_upto_region 2 with fail
        go_quiet (fail)
        go_wp2_with fail
        go_ret
        exact ⟨m, rfl, HE, below_drewN hbel.out nq⟩
    · have hd : decide ((b : Int) + (m : Int) < (s.size : Int)) = false := decide_eq_false (by omega)
      have HE := Lib.hid (show Same s a b m from ⟨by omega, hsame.out, fun h => absurd h hlt⟩)
      obtain ⟨_, e1, _, w1⟩ := same_wraps 0 b m s.size (by omega) (by omega) hs
      clear hmq
      go_upto_region 2 with fail
      go_quiet (fail)
      go_wp2_with fail
      go_ret
      exact ⟨m, rfl, HE, below_drewN hbel.out nq⟩

set_option maxHeartbeats 1000000 in
theorem copyOf_any (d n : Nat) (hd : d ≤ 100000) (hn : n ≤ 100000) (w : World) :
    Calls Try.prog 25 #[.int .i64 d, .int .i64 n] w fun e w' => e = .returned (.string ⟨(ub d ++ ub n).toArray⟩) ∧ Below w.heap.size w w' := by
  have hu1 := Lib.hid (fun w => uint_any d (by omega) w)
  have hu2 := Lib.hid (fun w => uint_any n (by omega) w)
  have hz1 : (⟨(ub d).toArray⟩ : ByteArray).size ≤ 10 := by rw [arr_size]; exact ub_len10 (by omega)
  have hz2 : (⟨(ub n).toArray⟩ : ByteArray).size ≤ 10 := by rw [arr_size]; exact ub_len10 (by omega)
  obtain ⟨U1, hU1⟩ : ∃ U : ByteArray, U = ⟨(ub d).toArray⟩ := ⟨_, rfl⟩
  obtain ⟨U2, hU2⟩ : ∃ U : ByteArray, U = ⟨(ub n).toArray⟩ := ⟨_, rfl⟩
  have hadd := Lib.hid (show U1 ++ U2 = ⟨(ub d ++ ub n).toArray⟩ by rw [hU1, hU2]; apply ByteArray.ext; simp)
  rw [← hU1] at hu1 hz1
  rw [← hU2] at hu2 hz2
  have hwd : IntKind.u64.wrap (d : Int) = (d : Int) := by simp [IntKind.wrap, IntKind.bits, IntKind.signed]; omega
  have hwn : IntKind.u64.wrap (n : Int) = (n : Int) := by simp [IntKind.wrap, IntKind.bits, IntKind.signed]; omega
  have hsA : U1.size + U2.size ≤ 9223372036854775807 := by omega
  clear hU1 hU2
  go_enter Try.func25, Try.ntmps25
  go_wp2_with (first
    | (go_at_call 12; with_reducible refine (hu1.out _).mono ?_; rintro e w5 ⟨rfl, hb5⟩)
    | (go_at_call 12; with_reducible refine (hu2.out _).mono ?_; rintro e w6 ⟨rfl, hb6⟩))
  go_ret
  exact ⟨by rw [← hadd.out]; rfl, hb5.trans (hb6.mono hb5.size)⟩
end Go.Proofs.Ytdkkbplkclcabaa
