/-
  The walk of the document's Text.
-/
import Derived.Test.YtahohdbkkcdmiaaConvert
import Derived.Test.YtahohdbkkcdmiaaRefUintB
namespace Go.Proofs.Ytahohdbkkcdmiaa
open Go.RowKit
set_option linter.unusedVariables false
set_option linter.unnecessarySimpa false
set_option linter.unusedSimpArgs false
set_option maxRecDepth 100000

theorem ub_size' (n : Nat) (h : n < 18446744073709551616) : (⟨(ub n).toArray⟩ : ByteArray).size ≤ 10 := by
  show (ub n).toArray.size ≤ 10; rw [List.size_toArray]; exact ub_len10 h
set_option maxHeartbeats 1000000 in
theorem refTextB_any (s : ByteArray) (hs : s.size ≤ 300000) (w : World) :
    Calls Try.prog 27 #[.string s] w fun e w' => e = .returned (.string ⟨(ub s.size ++ s.data.toList).toArray⟩) ∧ Below w.heap.size w w' := by
  have hu := Lib.hid (refUint_any s.size (by omega))
  have hsz := ub_size' s.size (by omega)
  have hw : IntKind.u64.wrap (s.size : Int) = (s.size : Int) := by simp [IntKind.wrap, IntKind.bits, IntKind.signed]; omega
  obtain ⟨U, hU⟩ : ∃ U : ByteArray, U = ⟨(ub s.size).toArray⟩ := ⟨_, rfl⟩
  have hadd := Lib.hid (show U ++ s = ⟨(ub s.size ++ s.data.toList).toArray⟩ by rw [hU]; apply ByteArray.ext; simp)
  rw [← hU] at hu hsz
  have hss : U.size + s.size ≤ 9223372036854775807 := by omega
  clear hU
  go_enter Try.func27, Try.ntmps27
  go_wp2_with (go_at_call 26; refine (hu.out _).mono ?_; rintro e w1 ⟨rfl, hb1⟩)
  go_ret
  exact ⟨by rw [← hadd.out]; rfl, hb1⟩
end Go.Proofs.Ytahohdbkkcdmiaa
