/-
  The program's contracts, by the names that the statements' walks ask for.
-/
import Derived.Test.YtnjbeemahfoaiaaDoorKeyDec
import Derived.Test.YtnjbeemahfoaiaaDoorKeyEnc
namespace Go.Proofs.YtnjbeemahfoaiaaDoor
open Go.RowKit

theorem cmpBad : CmpBad := fun v v' u w hb h h' => compare_bad v v' u w hb h h'
end Go.Proofs.YtnjbeemahfoaiaaDoor
