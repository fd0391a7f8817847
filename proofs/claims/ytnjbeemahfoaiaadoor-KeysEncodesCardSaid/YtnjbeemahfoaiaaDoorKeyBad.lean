/-
  What is no item, as a value of Go.
-/
import Derived.Test.YtnjbeemahfoaiaaDoorKeyValue
namespace Go.Proofs.YtnjbeemahfoaiaaDoor
open Go.RowKit

/-- What is no item. -/
inductive Bad : Value → Prop
  | num (n : Int) : Bad (.iface 3 (.int .i64 n))
  | bytes (a : Option Addr) (l c : Nat) : Bad (.iface 42 (.slice a l c))
  | twice (x : Value) : Bad (.iface 44 (.agg #[.iface 44 x]))
  | down (n : Int) : Bad (.iface 44 (.agg #[.iface 3 (.int .i64 n)]))
  | small (n : Int) : Bad (.iface 21 (.int .i32 n))
  | ptr (a : Option Addr) : Bad (.iface 45 (.pointer a))
theorem Bad.one {u : Value} (h : Bad u) : u.oneCell' = true := by cases h <;> rfl
end Go.Proofs.YtnjbeemahfoaiaaDoor
