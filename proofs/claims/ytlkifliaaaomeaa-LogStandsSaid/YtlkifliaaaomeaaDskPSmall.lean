/-
  The walks of the program's disk: lost, isSector, Sectors, Waits, Read.
-/
import Derived.Test.YtlkifliaaaomeaaDskPMath
import Derived.ProofKit
import Derived.Deep.DeepCutAuto
import Derived.Deep.CutBlock
namespace Go.Proofs.Ytlkifliaaaomeaa
open Go.RowKit
set_option linter.unusedVariables false
set_option linter.unnecessarySimpa false
set_option linter.unusedSimpArgs false
set_option maxRecDepth 100000

section
variable (w : World) (g gs n : Nat) (vb : Value) (P : List Sec) (W : List (Nat × List UInt8)) (f : Bool) (F : Int) (h : DP w g gs n vb P W f F)
include h
theorem p_lost : Calls Try.prog 36 #[.pointer (some ⟨g, 0, none⟩)] w fun e w' => e = .returned (.bool (f && F == 0)) ∧ w = w' := by
  obtain ⟨c0, c1, c2, c3, cf⟩ := h.cells
  clear h
  cases f
  · go_enter Try.func36, Try.ntmps36
    go_wp2_with fail
    go_ret
    simp
  · go_enter Try.func36, Try.ntmps36
    go_wp2_with fail
    go_ret
    simp
theorem p_isSector (i : Int) : Calls Try.prog 37 #[.pointer (some ⟨g, 0, none⟩), .int .i64 i] w fun e w' => e = .returned (.bool (decide (0 ≤ i) && decide (i < (n : Int)))) ∧ w = w' := by
  obtain ⟨c0, c1, c2, c3, cf⟩ := h.cells
  clear h
  by_cases hi : 0 ≤ i
  · have e1 : decide (0 ≤ i) = true := by simpa using hi
    go_enter Try.func37, Try.ntmps37
    go_wp2_with fail
    go_ret
    simp [hi]
  · have e1 : decide (0 ≤ i) = false := by simpa using hi
    go_enter Try.func37, Try.ntmps37
    go_wp2_with fail
    go_ret
    simp [hi]
theorem p_sectors : Calls Try.prog 18 #[.pointer (some ⟨g, 0, none⟩)] w fun e w' => e = .returned (.int .i64 (n : Int)) ∧ w = w' := by
  obtain ⟨c0, c1, c2, c3, cf⟩ := h.cells
  clear h
  go_enter Try.func18, Try.ntmps18
  go_wp2_with fail
  go_ret
  simp
theorem p_waits : Calls Try.prog 20 #[.pointer (some ⟨g, 0, none⟩)] w fun e w' => e = .returned (.int .i64 (W.length : Int)) ∧ w = w' := by
  obtain ⟨c0, c1, c2, c3, cf⟩ := h.cells
  obtain ⟨a, cap, hv⟩ := h.waitForm
  rw [hv] at c1
  clear h hv
  go_enter Try.func20, Try.ntmps20
  go_wp2_with fail
  go_ret
  simp
theorem p_readLost (i : Int) (hf : (f && F == 0) = true) : Calls Try.prog 32 #[.pointer (some ⟨g, 0, none⟩), .int .i64 i] w fun e w' => e = .returned (.tuple #[.string ⟨#[]⟩, .int .i64 6]) ∧ w = w' := by
  have HL := Lib.hid (p_lost w g gs n vb P W f F h)
  rw [hf] at HL
  clear h hf
  go_enter Try.func32, Try.ntmps32
  go_wp2_with (go_at_call 36; refine HL.out.mono ?_; rintro e w1 ⟨rfl, rfl⟩)
  go_ret2
  exact ⟨rfl, rfl⟩
theorem p_readNone (i : Int) (hf : (f && F == 0) = false) (hi : (decide (0 ≤ i) && decide (i < (n : Int))) = false) : Calls Try.prog 32 #[.pointer (some ⟨g, 0, none⟩), .int .i64 i] w fun e w' => e = .returned (.tuple #[.string ⟨#[]⟩, .int .i64 1]) ∧ w = w' := by
  have HL := Lib.hid (p_lost w g gs n vb P W f F h)
  have HS := Lib.hid (p_isSector w g gs n vb P W f F h i)
  rw [hf] at HL
  rw [hi] at HS
  clear h hf hi
  go_enter Try.func32, Try.ntmps32
  go_wp2_with (first
    | (go_at_call 36; refine HL.out.mono ?_; rintro e w1 ⟨rfl, rfl⟩)
    | (go_at_call 37; refine HS.out.mono ?_; rintro e w1 ⟨rfl, rfl⟩))
  go_ret2
  exact ⟨rfl, rfl⟩
theorem p_read (i : Nat) (hf : (f && F == 0) = false) (hi : i < n) (hn : n ≤ 4096) (p : Sec) (hp : P[i]? = some p) : Calls Try.prog 32 #[.pointer (some ⟨g, 0, none⟩), .int .i64 i] w fun e w' => e = .returned (.tuple #[.string ⟨p.1.toArray⟩, .int .i64 0]) ∧ w = w' := by
  have HL := Lib.hid (p_lost w g gs n vb P W f F h)
  have HS := Lib.hid (p_isSector w g gs n vb P W f F h i)
  rw [hf] at HL
  rw [show (decide (0 ≤ (i : Int)) && decide ((i : Int) < (n : Int))) = true by simp; omega] at HS
  obtain ⟨c0, c1, c2, c3, cf⟩ := h.cells
  obtain ⟨s0, s1, sf⟩ := h.sec hp
  unfold vS at s0
  obtain ⟨B, hB⟩ : ∃ B : ByteArray, B = ⟨p.1.toArray⟩ := ⟨_, rfl⟩
  rw [← hB] at s0 ⊢
  clear h hf hp hB s1
  go_enter Try.func32, Try.ntmps32
  go_wp2_with (first
    | (go_at_call 36; refine HL.out.mono ?_; rintro e w1 ⟨rfl, rfl⟩)
    | (go_at_call 37; refine HS.out.mono ?_; rintro e w1 ⟨rfl, rfl⟩))
  go_ret2
  exact ⟨rfl, rfl⟩
end
end Go.Proofs.Ytlkifliaaaomeaa
