/-
  No cell of these rows narrows 'for every input' (looked for: loops, veiled, ifaces, maps, wideKeys, modest, calm, conditions, laid).
  DERIVED. THE GIVEN ROWS OF THIS SEAT. 2 by the template 'for every input the law returns true; each argument reads behind the call as it read before'; 0 by the template 'total and deterministic' (their statements: YthcomfcbdlobpaaTotals.lean).
  GIVEN WITH THE SEED: the statements are not yours to turn. If you find one false, say at which input.
  Laid BY PROGRAM, IN A SANDBOX (cutbox-rows.mjs): the forced cells as the released guide's own fill.sh prints them over the translation 912b68c00e5945dd… (all of the seat's roots in one cut). By AI agents, Wed Nov 11 2026. No macro, syntax, notation, axiom, sorry.
-/
import Derived.Test.YthcomfcbdlobpaaChecked
import GoSem.Claim
import GoSem.ClaimJoined
import GoSem.ClaimMapViews
import Derived.JoinedTies
import Derived.KernelRfl
namespace Go.Proofs.Ythcomfcbdlobpaa
/- THE CELL 'sum', in the pinned program and in every row, IS THE sha256 OF THE DUMP (.gsa) THAT YthcomfcbdlobpaaProg.lean LOADS. Nothing in Lean hashes anything: it is a label: what it is worth is what the hold of that sum in a sandbox is worth. -/
noncomputable def Try.pinned : Pinned := { name := "ythcomfcbdlobpaa", sum := "912b68c00e5945ddc1f5b202dbdfc16678f8251437a937e4b6432e3235948f11", checked := Try.checked }
namespace Rows
def none {H : Type} : Left H := { results := [], args := [] }

/-- 'isoglosslaw13.PartPlays': WHATEVER THE INPUT: true; the input reads as it did. -/
def partPlaysSpec : ChangeSpec := { name := "partPlays", fn := fun _ => fun
  | [d] => { results := [.lit (.bool true)], args := [d] }
  | _ => none }
def partPlaysRow : OpenClaim := { program := "ythcomfcbdlobpaa", sum := "912b68c00e5945ddc1f5b202dbdfc16678f8251437a937e4b6432e3235948f11", func := "isogloss/isoglosslaw13.PartPlays", spec := "partPlays", inPlace := ["internal/bytealg.abigen_runtime_cmpstring", "slices.overlaps[isogloss/block.Entry]"], unfollowed := true, recurses := true, plainKeys := false, apart := false }
def PartPlaysSaid : Prop := partPlaysRow.holds Try.pinned (OpenSpec.ofChange partPlaysSpec)

/-- ITS FALSE NEIGHBOUR: 'it returns false'. Refute it at one input. -/
def partPlaysWrong : ChangeSpec := { name := "partPlays", fn := fun _ => fun
  | [d] => { results := [.lit (.bool false)], args := [d] }
  | _ => none }
def PartPlaysWrongFalsely : Prop := partPlaysRow.holds Try.pinned (OpenSpec.ofChange partPlaysWrong)

/-- 'isoglosslaw13.PartFirst': WHATEVER THE INPUT: true; the input reads as it did. -/
def partFirstSpec : ChangeSpec := { name := "partFirst", fn := fun _ => fun
  | [d] => { results := [.lit (.bool true)], args := [d] }
  | _ => none }
def partFirstRow : OpenClaim := { program := "ythcomfcbdlobpaa", sum := "912b68c00e5945ddc1f5b202dbdfc16678f8251437a937e4b6432e3235948f11", func := "isogloss/isoglosslaw13.PartFirst", spec := "partFirst", inPlace := ["internal/bytealg.abigen_runtime_cmpstring", "slices.overlaps[isogloss/block.Entry]"], unfollowed := true, recurses := true, plainKeys := false, apart := false }
def PartFirstSaid : Prop := partFirstRow.holds Try.pinned (OpenSpec.ofChange partFirstSpec)

/-- ITS FALSE NEIGHBOUR: 'it returns false'. Refute it at one input. -/
def partFirstWrong : ChangeSpec := { name := "partFirst", fn := fun _ => fun
  | [d] => { results := [.lit (.bool false)], args := [d] }
  | _ => none }
def PartFirstWrongFalsely : Prop := partFirstRow.holds Try.pinned (OpenSpec.ofChange partFirstWrong)

/- THE SECOND FORM. 'bulk': how many values and letters a reading holds, each counted each time it is reached (what is shared counts as often as it is met; a slice's spare places count too). A statement '..UptoSaid' is the law's where the arguments, and the package variables that the reading takes, are together of bulk at most 1048576: NARROWER than '..Said'. Prove '..Said' where nothing that the law and all that it calls make is longer than what came in: it says more and counts as full. Else prove '..UptoSaid'. A law counts once. -/
mutual
def uptoBulk {H : Type} : DataW H → Nat
  | .lit (.string bytes) => bytes.length + 1
  | .lit _ => 1
  | .nil => 1
  | .ptr d => uptoBulk d + 1
  | .slice elems spare => uptoBulkAll elems + uptoBulkAll spare + 1
  | .agg parts => uptoBulkAll parts + 1
  | .iface _ d => uptoBulk d + 1
  | .map entries => uptoBulkEntries entries + 1
  | .held _ => 1
def uptoBulkAll {H : Type} : List (DataW H) → Nat
  | [] => 0
  | d :: r => uptoBulk d + uptoBulkAll r
def uptoBulkEntries {H : Type} : List (Lit × DataW H) → Nat
  | [] => 0
  | x :: r => uptoBulkEntry x + uptoBulkEntries r
def uptoBulkEntry {H : Type} : Lit × DataW H → Nat
  | (.string bytes, d) => bytes.length + uptoBulk d + 1
  | (_, d) => uptoBulk d + 1
 end
def uptoSmall : (H : Type) → List (DataW H) → Bool := fun _ ds => decide (uptoBulkAll ds ≤ 1048576)
def OpenSpec.upto (s : _root_.Go.ChangeSpec) : _root_.Go.OpenSpec := { _root_.Go.OpenSpec.ofChange s with cond := some uptoSmall }

/-- 'isoglosslaw13.PartPlays', WHERE WHAT IT READS IS OF BULK AT MOST 1048576: true; the input reads as it did. -/
def partPlaysUptoRow : OpenClaim := { program := "ythcomfcbdlobpaa", sum := "912b68c00e5945ddc1f5b202dbdfc16678f8251437a937e4b6432e3235948f11", func := "isogloss/isoglosslaw13.PartPlays", spec := "partPlays", inPlace := ["internal/bytealg.abigen_runtime_cmpstring", "slices.overlaps[isogloss/block.Entry]"], unfollowed := true, recurses := true, plainKeys := false, apart := false, narrowed := true }
def PartPlaysUptoSaid : Prop := partPlaysUptoRow.holds Try.pinned (OpenSpec.upto partPlaysSpec)

/-- 'isoglosslaw13.PartFirst', WHERE WHAT IT READS IS OF BULK AT MOST 1048576: true; the input reads as it did. -/
def partFirstUptoRow : OpenClaim := { program := "ythcomfcbdlobpaa", sum := "912b68c00e5945ddc1f5b202dbdfc16678f8251437a937e4b6432e3235948f11", func := "isogloss/isoglosslaw13.PartFirst", spec := "partFirst", inPlace := ["internal/bytealg.abigen_runtime_cmpstring", "slices.overlaps[isogloss/block.Entry]"], unfollowed := true, recurses := true, plainKeys := false, apart := false, narrowed := true }
def PartFirstUptoSaid : Prop := partFirstUptoRow.holds Try.pinned (OpenSpec.upto partFirstSpec)

end Rows
end Go.Proofs.Ythcomfcbdlobpaa
