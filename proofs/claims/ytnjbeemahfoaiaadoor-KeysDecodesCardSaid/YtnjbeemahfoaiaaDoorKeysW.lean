/-
  The walks of layer 3's statements, from the contracts of the program.
-/
import Derived.Test.YtnjbeemahfoaiaaDoorKeysDecodes
import Derived.Test.YtnjbeemahfoaiaaDoorKeysOrder
import Derived.Test.YtnjbeemahfoaiaaDoorKeysFirst
import Derived.Test.YtnjbeemahfoaiaaDoorKeysEncodes
import Derived.Test.YtnjbeemahfoaiaaDoorKeysItems
import Derived.Test.YtnjbeemahfoaiaaDoorKeysProgram
namespace Go.Proofs.YtnjbeemahfoaiaaDoor
open Go.RowKit
set_option linter.unnecessarySimpa false
set_option linter.unusedVariables false
set_option linter.unusedSimpArgs false
set_option maxRecDepth 100000






theorem keysEncodes_walk (a : Option Addr) (len cap : Nat) (xs : List It) (w : World) (hx : IsItems w a len cap xs) :
    Calls Tryd.prog 3 #[.slice a len cap] w fun e w' => e = .returned (.bool true) ∧ Below w.heap.size w w' := keysEncodes_of encOK decOK a len cap xs w hx
theorem keysDecodes_walk (b : ByteArray) (hb : b.size ≤ maxLen) (w : World) :
    Calls Tryd.prog 4 #[.string b] w fun e w' => e = .returned (.bool true) ∧ Below w.heap.size w w' := keysDecodes_of encOK decOK b hb w
theorem keysOrder_walk (a : Option Addr) (len cap : Nat) (xs : List It) (a' : Option Addr) (len' cap' : Nat) (ys : List It) (w : World) (hx : IsItems w a len cap xs) (hy : IsItems w a' len' cap' ys) :
    Calls Tryd.prog 5 #[.slice a len cap, .slice a' len' cap'] w fun e w' => e = .returned (.bool true) ∧ Below w.heap.size w w' := keysOrder_of encOK cmpOK a len cap xs a' len' cap' ys w hx hy
theorem keysItems_walk (n : Int) (hn : (Lit.int .i64 n).wf = true) (s : ByteArray) (hs : s.size ≤ 1048576) (w : World) :
    Calls Tryd.prog 6 #[.int .i64 n, .string s] w fun e w' => e = .returned (.bool true) ∧ Below w.heap.size w w' := keysItems_of encOK encBad cmpBad n hn s hs w
theorem keysFirst_walk (x : It) (hx : x.ok) (hxt : x.text.size ≤ maxLen) (y : It) (hy : y.ok) (hyt : y.text.size ≤ maxLen) (w : World) :
    Calls Tryd.prog 7 #[.agg x.cells, .agg y.cells] w fun e w' => e = .returned (.bool true) ∧ Below w.heap.size w w' := keysFirst_of encOK x y hx hxt hy hyt w
end Go.Proofs.YtnjbeemahfoaiaaDoor
