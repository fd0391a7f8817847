/-
  The walks of layer 10's statements, as their frames ask for them.
-/
import Derived.Test.YtplobffkelmokaaBlkBent
import Derived.Test.YtplobffkelmokaaSet12
import Derived.Test.YtplobffkelmokaaBlkProgram
namespace Go.Proofs.Ytplobffkelmokaa
open Go.RowKit
set_option linter.unusedVariables false
set_option linter.unnecessarySimpa false
set_option linter.unusedSimpArgs false
set_option maxRecDepth 100000

theorem blockBack_walk (a : Option Addr) (len cap : Nat) (es : List En) (w : World) (hz : IsEnts w a len cap es) :
    Calls Try.prog 3 #[.slice a len cap] w fun e w' => e = .returned (.bool true) ∧ Below w.heap.size w w' := blockBack_of blkC a len cap es w hz
theorem blockBent_walk (a : Option Addr) (len cap : Nat) (es : List En) (a1 : Int) (w1 : (Lit.int .u16 a1).wf = true) (a2 : Int) (w2 : (Lit.int .u8 a2).wf = true) (w : World) (hz : IsEnts w a len cap es) :
    Calls Try.prog 4 #[.slice a len cap, .int .u16 a1, .int .u8 a2] w fun e w' => e = .returned (.bool true) ∧ Below w.heap.size w w' := by
  have h1 := bounds_u16 w1
  have h2 := bounds_u8 w2
  obtain ⟨x, rfl⟩ := Int.eq_ofNat_of_zero_le h1.1
  obtain ⟨y, rfl⟩ := Int.eq_ofNat_of_zero_le h2.1
  exact blockBent_of blkC a len cap es x y (by omega) (by omega) w hz
theorem blockFinds_walk (a : Option Addr) (len cap : Nat) (es : List En) (key : ByteArray) (hk : key.size ≤ maxLen) (w : World) (hz : IsEnts w a len cap es) :
    Calls Try.prog 5 #[.slice a len cap, .string key] w fun e w' => e = .returned (.bool true) ∧ Below w.heap.size w w' := by
  by_cases hf : FewEnts es 10
  · cases hr : rightE es with
    | false => exact finds_no blkC a len cap es key w hz hk (.inr (.inl hr))
    | true =>
      by_cases h : key.size ≤ 200
      · exact finds_yes blkC a len cap es key w hz hf hr h
      · exact finds_no blkC a len cap es key w hz hk (.inr (.inr (by omega)))
  · exact finds_no blkC a len cap es key w hz hk (.inl hf)
end Go.Proofs.Ytplobffkelmokaa
