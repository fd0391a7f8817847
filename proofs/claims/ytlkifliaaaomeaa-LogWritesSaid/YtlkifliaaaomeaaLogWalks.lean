/-
  The walks of layer 8's statements, as their frames ask for them.
-/
import Derived.Test.YtlkifliaaaomeaaLogStandsL
import Derived.Test.YtlkifliaaaomeaaLogProgram
import Derived.Test.YtlkifliaaaomeaaOpenB2
namespace Go.Proofs.Ytlkifliaaaomeaa
open Go.RowKit
set_option linter.unnecessarySimpa false
set_option linter.unusedSimpArgs false
set_option maxRecDepth 100000
set_option linter.unusedVariables false

theorem logWrites_walk (a0 : Int) (w0 : (Lit.int .u8 a0).wf = true) (a : Option Addr) (len cap : Nat) (zs : List ByteArray) (w : World) (hz : IsStrs w a len cap zs) :
    Calls Try.prog 3 #[.int .u8 a0, .slice a len cap] w fun e w' => e = .returned (.bool true) ∧ Below w.heap.size w w' := by
  by_cases hf : FewStrs zs 20 200
  · obtain ⟨s, rfl, hs⟩ := u8_nat w0
    exact logWrites_yes logC s hs a len cap zs w hz hf
  · exact logWrites_no logC a0 a len cap zs w hz hf
theorem logStands_walk (a : Option Addr) (len cap : Nat) (zs : List ByteArray) (t : ByteArray) (ht : t.size ≤ maxLen) (z : B2) (w : World) (hz : IsStrs w a len cap zs) :
    Calls Try.prog 4 #[.slice a len cap, .string t, .agg z.cells] w fun e w' => e = .returned (.bool true) ∧ Below w.heap.size w w' := by
  by_cases hf : FewStrs zs 8 100
  · by_cases hs : t.size ≤ 500
    · exact logStands_yes logC a len cap zs t z.x z.y z.hx z.hy w hz hf hs
    · exact logStands_no logC a len cap zs t _ _ w hz ht (.inr ⟨hf, by omega⟩)
  · exact logStands_no logC a len cap zs t _ _ w hz ht (.inl hf)
end Go.Proofs.Ytlkifliaaaomeaa
