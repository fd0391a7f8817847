/-
  The walks of layer 6's statements, as their frames ask for them.
-/
import Derived.Test.YtaabpjnjglnjoaaFrmBack
import Derived.Test.YtaabpjnjglnjoaaFrmProgram
namespace Go.Proofs.Ytaabpjnjglnjoaa
open Go.RowKit
set_option linter.unnecessarySimpa false
set_option linter.unusedSimpArgs false
set_option maxRecDepth 100000
set_option linter.unusedVariables false

theorem frameMakes_walk (s : ByteArray) (hs : s.size ≤ maxLen) (w : World) :
    Calls Try.prog 3 #[.string s] w fun e w' => e = .returned (.bool true) ∧ Below w.heap.size w w' := frameMakes_of makeOK makeLong s hs w
theorem frameBack_walk (a : Option Addr) (len cap : Nat) (zs : List ByteArray) (w : World) (hz : IsStrs w a len cap zs) :
    Calls Try.prog 4 #[.slice a len cap] w fun e w' => e = .returned (.bool true) ∧ Below w.heap.size w w' := frameBack_of makeOK makeLong spl a len cap zs w hz
end Go.Proofs.Ytaabpjnjglnjoaa
