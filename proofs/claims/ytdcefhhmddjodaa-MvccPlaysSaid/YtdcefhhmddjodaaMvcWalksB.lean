/-
  The walk of MvccPlays, as its frame asks for it.
-/
import Derived.Test.YtdcefhhmddjodaaMvcPlays
import Derived.Test.YtdcefhhmddjodaaMvcPlaysNo
import Derived.Test.YtdcefhhmddjodaaSet36
import Derived.Test.YtdcefhhmddjodaaOpenAsks
namespace Go.Proofs.Ytdcefhhmddjodaa
open Go.RowKit
set_option linter.unusedVariables false
set_option linter.unnecessarySimpa false
set_option linter.unusedSimpArgs false
set_option maxRecDepth 100000

theorem mvccPlays_walk (a : Option Addr) (len cap : Nat) (L : List Im) (aq : Option Addr) (lenq capq : Nat) (qs : List Ask) (w : World) (hz : IsItms w a len cap L) (hq : IsAsks w aq lenq capq qs) :
    Calls Try.prog 3 #[.slice a len cap, .slice aq lenq capq] w fun e w' => e = .returned (.bool true) ∧ Below w.heap.size w w' := by
  by_cases h : fewM L 60 = true ∧ lenq ≤ 10
  · exact plays_yes mvc a len cap L aq lenq capq qs w hz hq h.1 h.2
  · exact plays_no mvc a len cap L aq lenq capq w hz hq.2.1 h
end Go.Proofs.Ytdcefhhmddjodaa
