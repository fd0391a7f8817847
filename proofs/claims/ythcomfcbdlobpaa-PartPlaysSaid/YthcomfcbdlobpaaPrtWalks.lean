/-
  The walks of layer 13's statements, as their frames ask for them.
-/
import Derived.Test.YthcomfcbdlobpaaSet25
import Derived.Test.YthcomfcbdlobpaaSet50
namespace Go.Proofs.Ythcomfcbdlobpaa
open Go.RowKit
set_option linter.unusedVariables false
set_option linter.unnecessarySimpa false
set_option linter.unusedSimpArgs false
set_option maxRecDepth 100000

theorem partPlays_walk (a : Option Addr) (len cap : Nat) (zs : List Oq) (w : World) (hz : IsOqs w a len cap zs) :
    Calls Try.prog 3 #[.slice a len cap] w fun e w' => e = .returned (.bool true) ∧ Below w.heap.size w w' := by
  cases h : fewO zs 80 with
  | true => exact partPlays_yes prt a len cap zs w hz h
  | false => exact partPlays_no prt a len cap zs w hz h
theorem partFirst_walk (a : Option Addr) (len cap : Nat) (zs : List Oq) (w : World) (hz : IsOqs w a len cap zs) :
    Calls Try.prog 4 #[.slice a len cap] w fun e w' => e = .returned (.bool true) ∧ Below w.heap.size w w' := by
  cases h : fewO zs 40 with
  | true => exact partFirst_yes prt a len cap zs w hz h
  | false => exact partFirst_no prt a len cap zs w hz h
end Go.Proofs.Ythcomfcbdlobpaa
