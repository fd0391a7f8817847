/-
  The statements' own items, as plain data and as Go's values; the walk of 'value'.
-/
import Derived.Test.YtnjbeemahfoaiaaDoorKeyMath
namespace Go.Proofs.YtnjbeemahfoaiaaDoor
open Go.RowKit
set_option linter.unnecessarySimpa false
set_option linter.unusedVariables false
set_option linter.unusedSimpArgs false
set_option maxRecDepth 100000

structure It where
  kind : Nat
  int : Int
  uint : Nat
  text : ByteArray
  down : Bool

def It.cells (x : It) : Array Value := #[.int .u8 x.kind, .int .i64 x.int, .int .u64 x.uint, .string x.text, .bool x.down]
def It.ok (x : It) : Prop := x.kind < 256 ∧ (-9223372036854775808 ≤ x.int ∧ x.int < 9223372036854775808) ∧ x.uint < 18446744073709551616
def It.kv (x : It) : KV :=
  if x.kind % 6 = 1 then .bool false else if x.kind % 6 = 2 then .bool true else if x.kind % 6 = 3 then .int x.int
  else if x.kind % 6 = 4 then .uint x.uint else if x.kind % 6 = 5 then .text x.text else .nil
def It.item (x : It) : KV × Bool := (x.kv, x.down)
theorem It.item_ok {x : It} (h : x.ok) : x.item.1.ok := by
  obtain ⟨_, h2, h3⟩ := h
  unfold It.item It.kv
  repeat' split
  all_goals first | trivial | exact h2 | exact h3

/-- Go's value of an item. -/
def anyV : KV → Value
  | .nil => .nilIface
  | .bool b => .iface 4 (.bool b)
  | .int n => .iface 2 (.int .i64 n)
  | .uint n => .iface 34 (.int .u64 n)
  | .text s => .iface 9 (.string s)
def anyI (x : KV × Bool) : Value := if x.2 then .iface 44 (.agg #[anyV x.1]) else anyV x.1

theorem mod6 (k : Nat) : k % 6 = 0 ∨ k % 6 = 1 ∨ k % 6 = 2 ∨ k % 6 = 3 ∨ k % 6 = 4 ∨ k % 6 = 5 := by omega

set_option maxHeartbeats 2000000 in
theorem value_any (x : It) (w : World) (hx : x.kind < 256) :
    Calls Tryd.prog 14 #[.agg x.cells] w fun e w' => e = .returned (anyI x.item) ∧ Below w.heap.size w w' := by
  obtain ⟨kind, int, uint, text, down⟩ := x
  unfold It.item It.kv anyI It.cells
  have hB := Lib.hid (fun (o : Obj) => (Below.refl w.heap.size w).alloc (Nat.le_refl _) o)
  rcases mod6 kind with h | h | h | h | h | h <;> cases down
  all_goals
    have hz : (kind : Int) % 6 = ((kind % 6 : Nat) : Int) := by omega
    rw [h] at hz
    simp only [h]
    go_enter Tryd.func14, Tryd.ntmps14
    go_wp2
    go_ret
    exact ⟨rfl, hB.out _⟩
end Go.Proofs.YtnjbeemahfoaiaaDoor
