/-
  The library's modules that the walks of layer 4 want; no program stands here.
-/
import Derived.Test.YtdkkbplkclcabaaLzCur
import Derived.Lib.AppendStr
import Derived.Lib.IndexBytes
import Derived.Deep.LoopGhost
import Derived.Deep.DeepCutAuto
import Derived.Deep.CutBlock
import Derived.Deep.QuietTactic
import Derived.BigQuiet
namespace Go.Proofs.Ytdkkbplkclcabaa
open Go.RowKit
set_option linter.unusedVariables false
set_option linter.unnecessarySimpa false
set_option linter.unusedSimpArgs false
set_option maxRecDepth 100000
theorem cells_len (o : List UInt8) : (Lib.byteCells o).length = o.length := Lib.byteCells_length o
end Go.Proofs.Ytdkkbplkclcabaa
