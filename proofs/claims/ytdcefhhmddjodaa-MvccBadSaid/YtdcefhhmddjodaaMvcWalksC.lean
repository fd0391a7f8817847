/-
  The walk of MvccBad, as its frame asks for it.
-/
import Derived.Test.YtdcefhhmddjodaaMvcBad
import Derived.Test.YtdcefhhmddjodaaSet36
import Derived.Test.YtdcefhhmddjodaaOpenEnts
namespace Go.Proofs.Ytdcefhhmddjodaa
open Go.RowKit
set_option linter.unusedVariables false
set_option linter.unnecessarySimpa false
set_option linter.unusedSimpArgs false
set_option maxRecDepth 100000

theorem mvccBad_walk (a : Option Addr) (len cap : Nat) (es : List En) (n : Int) (hn : (Lit.int .u16 n).wf = true) (w : World) (hz : IsEnts w a len cap es) :
    Calls Try.prog 5 #[.slice a len cap, .int .u16 n] w fun e w' => e = .returned (.bool true) ∧ Below w.heap.size w w' := by
  have hb := bounds_u16 hn
  obtain ⟨N, rfl⟩ : ∃ N : Nat, n = (N : Int) := ⟨n.toNat, by omega⟩
  by_cases h : fewB es 10 = true ∧ rightE es = true
  · exact bad_yes mvcD a len cap es N (by omega) w hz h.1 h.2
  · exact bad_no mvcD a len cap es (N : Int) w hz h
end Go.Proofs.Ytdcefhhmddjodaa
