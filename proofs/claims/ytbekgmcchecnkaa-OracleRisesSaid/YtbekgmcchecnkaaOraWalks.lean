/-
  The walks of layer 12's statements, as their frames ask for them.
-/
import Derived.Test.YtbekgmcchecnkaaOraRises
import Derived.Test.YtbekgmcchecnkaaOraProgram
import Derived.Test.YtbekgmcchecnkaaOpenU8s
namespace Go.Proofs.Ytbekgmcchecnkaa
open Go.RowKit
set_option linter.unusedVariables false
set_option linter.unnecessarySimpa false
set_option linter.unusedSimpArgs false
set_option maxRecDepth 100000

theorem oraclePlays_walk (a0 : Int) (w0 : (Lit.int .u64 a0).wf = true) (a : Option Addr) (len cap : Nat) (zs : List Oz) (w : World) (hz : IsOra w a len cap zs) :
    Calls Try.prog 3 #[.int .u64 a0, .slice a len cap] w fun e w' => e = .returned (.bool true) ∧ Below w.heap.size w w' := by
  have hb := bounds_u64 w0
  obtain ⟨L, rfl⟩ := Int.eq_ofNat_of_zero_le hb.1
  by_cases h : len ≤ 300
  · exact oraPlays_yes ora L (by unfold oMax; omega) a len cap zs w hz h
  · exact oraPlays_no ora L a len cap w (by omega)
theorem oracleRises_walk (a : Option Addr) (len cap : Nat) (l : List UInt8) (w : World) (hz : IsU8s w a len cap l) :
    Calls Try.prog 4 #[.slice a len cap] w fun e w' => e = .returned (.bool true) ∧ Below w.heap.size w w' := by
  by_cases h : len ≤ 20
  · exact oraRises_yes ora a len cap l w hz.1 h
  · exact oraRises_no ora a len cap w (by omega)
end Go.Proofs.Ytbekgmcchecnkaa
