/-
  The walk of the cursor's Bytes (for seats of every layer).
-/
import Derived.Test.YtlkifliaaaomeaaCurB
namespace Go.Proofs.Ytlkifliaaaomeaa
open Go.RowKit
set_option linter.unnecessarySimpa false
set_option linter.unusedSimpArgs false
set_option maxRecDepth 100000
set_option linter.unusedVariables false

/-- What Bytes tells, and what it leaves. -/
def cBytes (s : ByteArray) (bad : Bool) (n : Int) : ByteArray × ByteArray × Bool :=
  if bad = true ∨ n < 0 ∨ (s.size : Int) < n then (ByteArray.empty, s, true) else (s.extract 0 n.toNat, s.extract n.toNat s.size, false)

set_option maxHeartbeats 1600000 in
theorem cur_bytes (g : Nat) (s : ByteArray) (bad : Bool) (n : Int) (w : World) (hs : s.size ≤ maxLen) (h : CurAt w g s bad) :
    Calls Try.prog 52 #[.pointer (some ⟨g, 0, none⟩), .int .i64 n] w fun e w' => e = .returned (.string (cBytes s bad n).1) ∧ CurAt w' g (cBytes s bad n).2.1 (cBytes s bad n).2.2 ∧ w.grownBy w' (some g) := by
  have HS := Lib.hid hs
  have hs' := hs
  unfold maxLen at hs'
  have H := Lib.hid h
  have c0 := h.c0
  have c1 := h.c1
  have f1 := h.f1
  clear h hs
  cases bad
  · by_cases h0 : n < 0
    · have hd := Lib.hid (show cBytes s false n = (ByteArray.empty, s, true) by simp [cBytes, h0])
      go_enter Try.func52, Try.ntmps52
      go_wp2_with fail
      go_ret
      rw [hd.out]
      exact ⟨rfl, H.out.set1 true, grownBy_setCell _ _ _ _⟩
    · obtain ⟨k, rfl⟩ := Int.eq_ofNat_of_zero_le (show 0 ≤ n by omega)
      by_cases h1 : s.size < k
      · have hd := Lib.hid (show cBytes s false k = (ByteArray.empty, s, true) by simp [cBytes, h1])
        go_enter Try.func52, Try.ntmps52
        go_wp2_with fail
        go_ret
        rw [hd.out]
        exact ⟨rfl, H.out.set1 true, grownBy_setCell _ _ _ _⟩
      · have hd := Lib.hid (show cBytes s false k = (s.extract 0 k, s.extract k s.size, false) by simp [cBytes, h1])
        have hk : k ≤ s.size := by omega
        go_enter Try.func52, Try.ntmps52
        go_wp2_with (go_at_call 65; refine (take_any g s false k HS.out hk _ H.out).mono ?_; rintro e w' ⟨rfl, hc, hg⟩)
        go_ret
        rw [hd.out]
        exact ⟨rfl, hc, hg⟩
  · have hd := Lib.hid (show cBytes s true n = (ByteArray.empty, s, true) by simp [cBytes])
    go_enter Try.func52, Try.ntmps52
    go_wp2_with fail
    go_ret
    rw [hd.out]
    exact ⟨rfl, H.out.set1 true, grownBy_setCell _ _ _ _⟩

end Go.Proofs.Ytlkifliaaaomeaa
