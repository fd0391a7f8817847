/-
  The walks of layer 7's statements, as their frames ask for them.
-/
import Derived.Test.YtmgdjnkdnakmhaaDskPlays
import Derived.Test.YtmgdjnkdnakmhaaDskFuses
import Derived.Test.YtmgdjnkdnakmhaaOpenOps
import Derived.Test.YtmgdjnkdnakmhaaDskProgram
namespace Go.Proofs.Ytmgdjnkdnakmhaa
open Go.RowKit
set_option linter.unnecessarySimpa false
set_option linter.unusedSimpArgs false
set_option maxRecDepth 100000
set_option linter.unusedVariables false

theorem diskPlays_walk (a0 : Int) (h0 : (Lit.int .i8 a0).wf = true) (a : Option Addr) (len cap : Nat) (zs : List Opz) (w : World) (hz : IsOps w a len cap zs) :
    Calls Try.prog 3 #[.int .i8 a0, .slice a len cap] w fun e w' => e = .returned (.bool true) ∧ Below w.heap.size w w' := diskPlays_of dsk a0 h0 a len cap zs w hz
theorem diskTears_walk (a0 : Int) (h0 : (Lit.int .u8 a0).wf = true) (a1 : Int) (h1 : (Lit.int .u8 a1).wf = true) (a2 : Int) (h2 : (Lit.int .u8 a2).wf = true) (w : World) :
    Calls Try.prog 4 #[.int .u8 a0, .int .u8 a1, .int .u8 a2] w fun e w' => e = .returned (.bool true) ∧ Below w.heap.size w w' := diskTears_of dsk a0 h0 a1 h1 a2 h2 w
theorem diskFuses_walk (a0 : Int) (h0 : (Lit.int .u8 a0).wf = true) (keep : Bool) (w : World) :
    Calls Try.prog 5 #[.int .u8 a0, .bool keep] w fun e w' => e = .returned (.bool true) ∧ Below w.heap.size w w' := diskFuses_of dsk a0 h0 keep w
end Go.Proofs.Ytmgdjnkdnakmhaa
