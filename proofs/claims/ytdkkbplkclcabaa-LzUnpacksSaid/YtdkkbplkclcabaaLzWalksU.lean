/-
  The walks of the statements LzUnpacks and LzParts, over the program's Unpack.
-/
import Derived.Test.YtdkkbplkclcabaaLzTake
import Derived.Test.YtdkkbplkclcabaaLzParts
import Derived.Test.YtdkkbplkclcabaaOpenParts
namespace Go.Proofs.Ytdkkbplkclcabaa
open Go.RowKit
set_option linter.unusedVariables false
set_option linter.unnecessarySimpa false
set_option linter.unusedSimpArgs false
set_option maxRecDepth 100000

theorem lzUnpacks_walk (s : ByteArray) (hs : s.size ≤ maxLen) (w : World) :
    Calls Try.prog 4 #[.string s] w fun e w' => e = .returned (.bool true) ∧ Below w.heap.size w w' := lzUnpacks_of unpackOK s hs w
theorem lzParts_walk (a : Option Addr) (len cap : Nat) (zs : List Prt) (a1 : Int) (w1 : (Lit.int .u16 a1).wf = true) (a2 : Int) (w2 : (Lit.int .u8 a2).wf = true) (w : World) (hz : IsParts w a len cap zs) :
    Calls Try.prog 5 #[.slice a len cap, .int .u16 a1, .int .u8 a2] w fun e w' => e = .returned (.bool true) ∧ Below w.heap.size w w' :=
  lzParts_of unpackOK a len cap zs hz.2 a1 w1 a2 w2 w hz.1
end Go.Proofs.Ytdkkbplkclcabaa
