/-
  'string(b)' of a row of the call's own, nil too.
-/
import Derived.Test.YtahohdbkkcdmiaaFixMath
namespace Go.Proofs.Ytahohdbkkcdmiaa
open Go.RowKit
set_option linter.unusedVariables false
set_option linter.unusedSimpArgs false
set_option linter.unnecessarySimpa false
set_option maxRecDepth 100000

theorem convert_row {w : World} {base n : Nat} {v : Value} {l : List UInt8} (h : w.ownsRow base 5 1 v n (Lib.byteCells l)) : (convert 43 9 v).run Try.prog w = .ok (.string ⟨l.toArray⟩) w := by
  by_cases hv : v = .slice none 0 0
  · have hl : l = [] := by
      rcases h.2 with ⟨_, h0⟩ | ⟨g, cap, cur, h0, _⟩
      · have := h.1
        subst h0
        rw [Lib.byteCells_length] at this
        exact List.length_eq_zero_iff.1 (by omega)
      · rw [hv] at h0; cases h0
    subst hv hl
    simp [convert, Conv.bytesToString]
    rfl
  · exact convert_own h hv Try.underlying43 Try.underlying5 Try.underlying9

end Go.Proofs.Ytahohdbkkcdmiaa
