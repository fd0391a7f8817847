/-
  The walks of layer 11's statements, as their frames ask for them.
-/
import Derived.Test.YtdcefhhmddjodaaSet07
import Derived.Test.YtdcefhhmddjodaaSet36
import Derived.Test.YtdcefhhmddjodaaSet38
import Derived.Test.YtdcefhhmddjodaaSet39
namespace Go.Proofs.Ytdcefhhmddjodaa
open Go.RowKit
set_option linter.unusedVariables false
set_option linter.unnecessarySimpa false
set_option linter.unusedSimpArgs false
set_option maxRecDepth 100000

theorem mvccPast_walk (a : Option Addr) (len cap : Nat) (L : List Im) (m : Im) (hm : m.ok) (t1 : True) (q : Ask) (hq : q.ok) (t2 : True) (w : World) (hz : IsItms w a len cap L) :
    Calls Try.prog 6 #[.slice a len cap, .agg m.cells.toArray, .agg q.cells] w fun e w' => e = .returned (.bool true) ∧ Below w.heap.size w w' := by
  by_cases h : fewM L 40 = true ∧ fewM [m] 1 = true ∧ q.key.size ≤ 300 ∧ q.lo.size ≤ 300 ∧ q.hi.size ≤ 300
  · exact past_yes mvc a len cap L m q w hz hm hq.2.2.2.1 h.1 h.2.1 h.2.2.1 h.2.2.2.1 h.2.2.2.2
  · exact past_no mvc a len cap L m q w hz hm h
theorem mvccLoads_walk (a : Option Addr) (len cap : Nat) (L : List Im) (q : Ask) (hq : q.ok) (t1 : True) (w : World) (hz : IsItms w a len cap L) :
    Calls Try.prog 4 #[.slice a len cap, .agg q.cells] w fun e w' => e = .returned (.bool true) ∧ Below w.heap.size w w' := by
  by_cases h : fewM L 60 = true ∧ q.key.size ≤ 300
  · exact loads_yes mvcD blkC a len cap L q w hz hq.2.2.2.1 h.1 h.2
  · exact loads_no mvcD a len cap L q w hz h
end Go.Proofs.Ytdcefhhmddjodaa
