/-
  No cell of these rows narrows 'for every input' (looked for: loops, veiled, ifaces, maps, wideKeys, modest, calm, conditions, laid).
  DERIVED. THE GIVEN ROWS OF THIS SEAT. 4 by the template 'for every input the law returns true; each argument reads behind the call as it read before'; 0 by the template 'total and deterministic' (their statements: YtefkhekmhabeaaaTotals.lean).
  GIVEN WITH THE SEED: the statements are not yours to turn. If you find one false, say at which input.
  Laid BY PROGRAM, IN A SANDBOX (cutbox-rows.mjs): the forced cells as the released guide's own fill.sh prints them over the translation fd07f68d11244808… (all of the seat's roots in one cut). By AI agents, Wed Nov 11 2026. No macro, syntax, notation, axiom, sorry.
-/
import Derived.Test.YtefkhekmhabeaaaChecked
import GoSem.Claim
import GoSem.ClaimJoined
import GoSem.ClaimMapViews
import Derived.JoinedTies
import Derived.KernelRfl
namespace Go.Proofs.Ytefkhekmhabeaaa
/- THE CELL 'sum', in the pinned program and in every row, IS THE sha256 OF THE DUMP (.gsa) THAT YtefkhekmhabeaaaProg.lean LOADS. Nothing in Lean hashes anything: it is a label: what it is worth is what the hold of that sum in a sandbox is worth. -/
noncomputable def Try.pinned : Pinned := { name := "ytefkhekmhabeaaa", sum := "fd07f68d1124480880c783b02ddeb0c0bba4352149f718058ce802339060a3d8", checked := Try.checked }
namespace Rows
def none {H : Type} : Left H := { results := [], args := [] }

/-- 'isoglosslaw01.PrimMakes': WHATEVER THE INPUT: true; the input reads as it did. -/
def primMakesSpec : ChangeSpec := { name := "primMakes", fn := fun _ => fun
  | [d1, d2, d3] => { results := [.lit (.bool true)], args := [d1, d2, d3] }
  | _ => none }
def primMakesRow : OpenClaim := { program := "ytefkhekmhabeaaa", sum := "fd07f68d1124480880c783b02ddeb0c0bba4352149f718058ce802339060a3d8", func := "isogloss/isoglosslaw01.PrimMakes", spec := "primMakes", apart := false }
def PrimMakesSaid : Prop := primMakesRow.holds Try.pinned (OpenSpec.ofChange primMakesSpec)

/-- ITS FALSE NEIGHBOUR: 'it returns false'. Refute it at one input. -/
def primMakesWrong : ChangeSpec := { name := "primMakes", fn := fun _ => fun
  | [d1, d2, d3] => { results := [.lit (.bool false)], args := [d1, d2, d3] }
  | _ => none }
def PrimMakesWrongFalsely : Prop := primMakesRow.holds Try.pinned (OpenSpec.ofChange primMakesWrong)

/-- 'isoglosslaw01.PrimTakes': WHATEVER THE INPUT: true; the input reads as it did. -/
def primTakesSpec : ChangeSpec := { name := "primTakes", fn := fun _ => fun
  | [d1, d2] => { results := [.lit (.bool true)], args := [d1, d2] }
  | _ => none }
def primTakesRow : OpenClaim := { program := "ytefkhekmhabeaaa", sum := "fd07f68d1124480880c783b02ddeb0c0bba4352149f718058ce802339060a3d8", func := "isogloss/isoglosslaw01.PrimTakes", spec := "primTakes", apart := false }
def PrimTakesSaid : Prop := primTakesRow.holds Try.pinned (OpenSpec.ofChange primTakesSpec)

/-- ITS FALSE NEIGHBOUR: 'it returns false'. Refute it at one input. -/
def primTakesWrong : ChangeSpec := { name := "primTakes", fn := fun _ => fun
  | [d1, d2] => { results := [.lit (.bool false)], args := [d1, d2] }
  | _ => none }
def PrimTakesWrongFalsely : Prop := primTakesRow.holds Try.pinned (OpenSpec.ofChange primTakesWrong)

/-- 'isoglosslaw01.PrimBack': WHATEVER THE INPUT: true; the input reads as it did. -/
def primBackSpec : ChangeSpec := { name := "primBack", fn := fun _ => fun
  | [d1, d2, d3] => { results := [.lit (.bool true)], args := [d1, d2, d3] }
  | _ => none }
def primBackRow : OpenClaim := { program := "ytefkhekmhabeaaa", sum := "fd07f68d1124480880c783b02ddeb0c0bba4352149f718058ce802339060a3d8", func := "isogloss/isoglosslaw01.PrimBack", spec := "primBack", apart := false }
def PrimBackSaid : Prop := primBackRow.holds Try.pinned (OpenSpec.ofChange primBackSpec)

/-- ITS FALSE NEIGHBOUR: 'it returns false'. Refute it at one input. -/
def primBackWrong : ChangeSpec := { name := "primBack", fn := fun _ => fun
  | [d1, d2, d3] => { results := [.lit (.bool false)], args := [d1, d2, d3] }
  | _ => none }
def PrimBackWrongFalsely : Prop := primBackRow.holds Try.pinned (OpenSpec.ofChange primBackWrong)

/-- 'isoglosslaw01.PrimOne': WHATEVER THE INPUT: true; the input reads as it did. -/
def primOneSpec : ChangeSpec := { name := "primOne", fn := fun _ => fun
  | [d] => { results := [.lit (.bool true)], args := [d] }
  | _ => none }
def primOneRow : OpenClaim := { program := "ytefkhekmhabeaaa", sum := "fd07f68d1124480880c783b02ddeb0c0bba4352149f718058ce802339060a3d8", func := "isogloss/isoglosslaw01.PrimOne", spec := "primOne", apart := false }
def PrimOneSaid : Prop := primOneRow.holds Try.pinned (OpenSpec.ofChange primOneSpec)

/-- ITS FALSE NEIGHBOUR: 'it returns false'. Refute it at one input. -/
def primOneWrong : ChangeSpec := { name := "primOne", fn := fun _ => fun
  | [d] => { results := [.lit (.bool false)], args := [d] }
  | _ => none }
def PrimOneWrongFalsely : Prop := primOneRow.holds Try.pinned (OpenSpec.ofChange primOneWrong)

/- THE SECOND FORM. 'bulk': how many values and letters a reading holds, each counted each time it is reached (what is shared counts as often as it is met; a slice's spare places count too). A statement '..UptoSaid' is the law's where the arguments, and the package variables that the reading takes, are together of bulk at most 1048576: NARROWER than '..Said'. Prove '..Said' where nothing that the law and all that it calls make is longer than what came in: it says more and counts as full. Else prove '..UptoSaid'. A law counts once. -/
mutual
def uptoBulk {H : Type} : DataW H → Nat
  | .lit (.string bytes) => bytes.length + 1
  | .lit _ => 1
  | .nil => 1
  | .ptr d => uptoBulk d + 1
  | .slice elems spare => uptoBulkAll elems + uptoBulkAll spare + 1
  | .agg parts => uptoBulkAll parts + 1
  | .iface _ d => uptoBulk d + 1
  | .map entries => uptoBulkEntries entries + 1
  | .held _ => 1
def uptoBulkAll {H : Type} : List (DataW H) → Nat
  | [] => 0
  | d :: r => uptoBulk d + uptoBulkAll r
def uptoBulkEntries {H : Type} : List (Lit × DataW H) → Nat
  | [] => 0
  | x :: r => uptoBulkEntry x + uptoBulkEntries r
def uptoBulkEntry {H : Type} : Lit × DataW H → Nat
  | (.string bytes, d) => bytes.length + uptoBulk d + 1
  | (_, d) => uptoBulk d + 1
 end
def uptoSmall : (H : Type) → List (DataW H) → Bool := fun _ ds => decide (uptoBulkAll ds ≤ 1048576)
def OpenSpec.upto (s : _root_.Go.ChangeSpec) : _root_.Go.OpenSpec := { _root_.Go.OpenSpec.ofChange s with cond := some uptoSmall }

/-- 'isoglosslaw01.PrimMakes', WHERE WHAT IT READS IS OF BULK AT MOST 1048576: true; the input reads as it did. -/
def primMakesUptoRow : OpenClaim := { program := "ytefkhekmhabeaaa", sum := "fd07f68d1124480880c783b02ddeb0c0bba4352149f718058ce802339060a3d8", func := "isogloss/isoglosslaw01.PrimMakes", spec := "primMakes", apart := false, narrowed := true }
def PrimMakesUptoSaid : Prop := primMakesUptoRow.holds Try.pinned (OpenSpec.upto primMakesSpec)

/-- 'isoglosslaw01.PrimTakes', WHERE WHAT IT READS IS OF BULK AT MOST 1048576: true; the input reads as it did. -/
def primTakesUptoRow : OpenClaim := { program := "ytefkhekmhabeaaa", sum := "fd07f68d1124480880c783b02ddeb0c0bba4352149f718058ce802339060a3d8", func := "isogloss/isoglosslaw01.PrimTakes", spec := "primTakes", apart := false, narrowed := true }
def PrimTakesUptoSaid : Prop := primTakesUptoRow.holds Try.pinned (OpenSpec.upto primTakesSpec)

/-- 'isoglosslaw01.PrimBack', WHERE WHAT IT READS IS OF BULK AT MOST 1048576: true; the input reads as it did. -/
def primBackUptoRow : OpenClaim := { program := "ytefkhekmhabeaaa", sum := "fd07f68d1124480880c783b02ddeb0c0bba4352149f718058ce802339060a3d8", func := "isogloss/isoglosslaw01.PrimBack", spec := "primBack", apart := false, narrowed := true }
def PrimBackUptoSaid : Prop := primBackUptoRow.holds Try.pinned (OpenSpec.upto primBackSpec)

/-- 'isoglosslaw01.PrimOne', WHERE WHAT IT READS IS OF BULK AT MOST 1048576: true; the input reads as it did. -/
def primOneUptoRow : OpenClaim := { program := "ytefkhekmhabeaaa", sum := "fd07f68d1124480880c783b02ddeb0c0bba4352149f718058ce802339060a3d8", func := "isogloss/isoglosslaw01.PrimOne", spec := "primOne", apart := false, narrowed := true }
def PrimOneUptoSaid : Prop := primOneUptoRow.holds Try.pinned (OpenSpec.upto primOneSpec)

end Rows
end Go.Proofs.Ytefkhekmhabeaaa
