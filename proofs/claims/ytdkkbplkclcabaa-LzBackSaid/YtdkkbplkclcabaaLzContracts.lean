/-
  What is asked of the program's Pack and Unpack, as the statements' walks take it; 'awake', LzUnpacks, LzBack.
-/
import Derived.Test.YtdkkbplkclcabaaRefUnpack
import Derived.ProofKit
import Derived.OpenShut
namespace Go.Proofs.Ytdkkbplkclcabaa
open Go.RowKit
set_option linter.unnecessarySimpa false
set_option linter.unusedVariables false
set_option linter.unusedSimpArgs false
set_option maxRecDepth 100000

def UnpackOK : Prop := ∀ (s : ByteArray) (w : World), s.size ≤ 100000 →
  Calls Try.prog 9 #[.string s] w fun e w' => e = .returned (.tuple #[.string ⟨(unp s.data.toList).1.toArray⟩, .int .i64 (unp s.data.toList).2]) ∧ Below w.heap.size w w'
def PackOK : Prop := ∀ (b : ByteArray) (w : World), b.size ≤ 60000 →
  Calls Try.prog 8 #[.string b] w fun e w' => ∃ p : ByteArray, e = .returned (.tuple #[.string p, .int .i64 0]) ∧ unp p.data.toList = (b.data.toList, 0) ∧ p.size ≤ b.size + 4 ∧ Below w.heap.size w w'
def PackLong : Prop := ∀ (b : ByteArray) (w : World), 60000 < b.size → b.size ≤ 100000 →
  Calls Try.prog 8 #[.string b] w fun e w' => e = .returned (.tuple #[.string ⟨#[]⟩, .int .i64 3]) ∧ Below w.heap.size w w'

theorem unp_abc : unp [3, 0, 97, 98, 99] = ([97, 98, 99], 0) := by decide +kernel

set_option maxHeartbeats 1000000 in
theorem lzAwake_any (hU : UnpackOK) (w : World) : Calls Try.prog 7 #[] w fun e w' => e = .returned (.bool true) ∧ Below w.heap.size w w' := by
  have h := hU ⟨#[3, 0, 97, 98, 99]⟩ w (by decide)
  rw [show (⟨#[3, 0, 97, 98, 99]⟩ : ByteArray).data.toList = [3, 0, 97, 98, 99] from rfl, unp_abc] at h
  have H := Lib.hid h
  clear h
  go_enter Try.func7, Try.ntmps7
  go_wp2_with (go_at_call 9; refine H.out.mono ?_; rintro e w1 ⟨rfl, hb1⟩)
  go_ret
  exact ⟨rfl, hb1⟩

set_option maxHeartbeats 2000000 in
theorem lzUnpacks_of (hU : UnpackOK) (s : ByteArray) (_ : s.size ≤ maxLen) (w : World) :
    Calls Try.prog 4 #[.string s] w fun e w' => e = .returned (.bool true) ∧ Below w.heap.size w w' := by
  have haw := Lib.hid (lzAwake_any hU)
  by_cases hlen : 1000 < s.size
  · have hd : (1000 : Int) < (s.size : Int) := by omega
    go_enter Try.func4, Try.ntmps4
    go_upto_region 2 with (go_at_call 7; refine (haw.out _).mono ?_; rintro e w1 ⟨rfl, hb1⟩)
    go_wp2_with (go_at_call 7; refine (haw.out _).mono ?_; rintro e w2 ⟨rfl, hb2⟩)
    go_ret
    exact ⟨rfl, hb1.trans (hb2.mono hb1.size)⟩
  · have hd : ¬ (1000 : Int) < (s.size : Int) := by omega
    have hu := Lib.hid (fun w => hU s w (by omega))
    have hr := Lib.hid (refUnpack_any s (by omega))
    obtain ⟨X, hX⟩ : ∃ X : ByteArray, X = ⟨(unp s.data.toList).1.toArray⟩ := ⟨_, rfl⟩
    obtain ⟨E, hE⟩ : ∃ E : Int, E = (unp s.data.toList).2 := ⟨_, rfl⟩
    rw [← hX, ← hE] at hu hr
    clear hX hE hlen hU
    go_enter Try.func4, Try.ntmps4
    go_wp2_with (first
      | (go_at_call 7; refine (haw.out _).mono ?_; rintro e w1 ⟨rfl, hb1⟩)
      | (go_at_call 9; refine (hu.out _).mono ?_; rintro e w2 ⟨rfl, hb2⟩)
      | (go_at_call 10; refine (hr.out _).mono ?_; rintro e w3 ⟨rfl, hb3⟩))
    go_ret
    exact ⟨rfl, (hb1.trans (hb2.mono hb1.size)).trans (hb3.mono (Nat.le_trans hb1.size hb2.size))⟩

theorem ba_of (b : ByteArray) : (⟨b.data.toList.toArray⟩ : ByteArray) = b := by simp

set_option maxHeartbeats 4000000 in
theorem lzBack_of (hU : UnpackOK) (hP : PackOK) (b : ByteArray) (_ : b.size ≤ maxLen) (a1 : Int) (w1 : (Lit.int .u8 a1).wf = true) (w : World) :
    Calls Try.prog 3 #[.string b, .int .u8 a1] w fun e w' => e = .returned (.bool true) ∧ Below w.heap.size w w' := by
  have haw := Lib.hid (lzAwake_any hU)
  have hbd := bounds_u8 w1
  obtain ⟨n, rfl⟩ : ∃ n : Nat, a1 = n := ⟨a1.toNat, by omega⟩
  have hn : n < 256 := by omega
  clear hbd w1
  by_cases hlen : 5000 < b.size
  · have hd : (5000 : Int) < (b.size : Int) := by omega
    go_enter Try.func3, Try.ntmps3
    go_upto_region 2 with (go_at_call 7; refine (haw.out _).mono ?_; rintro e w1 ⟨rfl, hb1⟩)
    go_wp2_with (go_at_call 7; refine (haw.out _).mono ?_; rintro e w2 ⟨rfl, hb2⟩)
    go_ret
    exact ⟨rfl, hb1.trans (hb2.mono hb1.size)⟩
  · have hd : ¬ (5000 : Int) < (b.size : Int) := by omega
    obtain ⟨m, hm⟩ : ∃ m, m = n % 4 := ⟨_, rfl⟩
    have hmz : (n : Int) % 4 = (m : Int) := by omega
    have hm4 : m < 4 := by omega
    have hb5 : b.size ≤ 5000 := by omega
    clear hm hlen
    go_enter Try.func3, Try.ntmps3
    go_upto_region 3 with (go_at_call 7; refine (haw.out _).mono ?_; rintro e w1 ⟨rfl, hb1⟩)
    have HB1 := Lib.hid hb1
    clear hb1
    go_wp2_with fail
    go_loopg [5, 6] (m + 1) (fun g s5 s6 wx => ∃ (i : Nat) (s : ByteArray), i + g = m + 1 ∧ s5 = .string s ∧ s6 = .int .i64 i ∧ s.size ≤ 5000 * i ∧ wx = w1)
    case atStart => exact ⟨0, ⟨#[]⟩, by omega, rfl, rfl, Nat.zero_le _, rfl⟩
    case round =>
      obtain ⟨i, s, hig, rfl, rfl, hsz, rfl⟩ := hrel
      by_cases hlt : i ≤ m
      · obtain ⟨g, rfl⟩ : ∃ g, gk = g + 1 := ⟨gk - 1, by omega⟩
        have hiz : (i : Int) ≤ (m : Int) := by omega
        have hsum : (s ++ b).size ≤ 5000 * (i + 1) := by rw [ByteArray.size_append]; omega
        have hss : s.size + b.size ≤ 9223372036854775807 := by omega
        go_wp2_with fail
        go_roundg g
        case measure => omega
        case rel => exact ⟨i + 1, s ++ b, by omega, rfl, by simp, hsum, rfl⟩
      · have hiz : ¬ (i : Int) ≤ (m : Int) := by omega
        have hp := Lib.hid (fun w => hP s w (by omega))
        have hs6 := Lib.hid (show s.size ≤ 60000 by omega)
        have HU := Lib.hid hU
        go_upto_region 9 with (go_at_call 8; refine (hp.out _).mono ?_; rintro e w2 ⟨p, rfl, hpu, hps, hb2⟩)
        have hu := Lib.hid (fun w => HU.out p w (by have := hs6.out; omega))
        have hr := Lib.hid (refUnpack_any p (by have := hs6.out; omega))
        rw [hpu] at hu hr
        simp only [ba_of] at hu hr
        have hpz : (p.size : Int) ≤ (s.size : Int) + 4 := by omega
        have B2 := Lib.hid (HB1.out.trans (hb2.mono HB1.out.size))
        clear hpu hb2 hp
        go_wp2_with (first
          | (go_at_call 9; refine (hu.out _).mono ?_; rintro e w3 ⟨rfl, hb3⟩)
          | (go_at_call 10; refine (hr.out _).mono ?_; rintro e w4 ⟨rfl, hb4⟩))
        go_ret
        exact ⟨rfl, (B2.out.trans (hb3.mono B2.out.size)).trans (hb4.mono (Nat.le_trans B2.out.size hb3.size))⟩
end Go.Proofs.Ytdkkbplkclcabaa
