/-
  The walks of layer 9's statements, as their frames ask for them.
-/
import Derived.Test.YtahohdbkkcdmiaaChnAtLaw
import Derived.Test.YtahohdbkkcdmiaaChnLong
import Derived.Test.YtahohdbkkcdmiaaChnProgram
import Derived.Test.YtahohdbkkcdmiaaOpenI2
namespace Go.Proofs.Ytahohdbkkcdmiaa
open Go.RowKit
set_option linter.unusedVariables false
set_option linter.unnecessarySimpa false
set_option linter.unusedSimpArgs false
set_option maxRecDepth 100000

theorem u64_natC {a : Int} (h : (Lit.int .u64 a).wf = true) : ∃ n : Nat, a = (n : Int) ∧ n < 18446744073709551616 := by
  have := bounds_u64 h
  exact ⟨a.toNat, by omega, by omega⟩
theorem u16_natC {a : Int} (h : (Lit.int .u16 a).wf = true) : ∃ n : Nat, a = (n : Int) ∧ n < 65536 := by
  have := bounds_u16 h
  exact ⟨a.toNat, by omega, by omega⟩
theorem u8_byteC {a : Int} (h : (Lit.int .u8 a).wf = true) : ∃ c : UInt8, a = (c.toNat : Int) := by
  have := bounds_u8 h
  exact ⟨UInt8.ofNat a.toNat, by rw [UInt8.toNat_ofNat']; omega⟩
theorem chainBack_walk (a : Option Addr) (len cap : Nat) (zs : List Vr) (w : World) (hz : IsVers w a len cap zs) :
    Calls Try.prog 3 #[.slice a len cap] w fun e w' => e = .returned (.bool true) ∧ Below w.heap.size w w' := chainBack_of chnC a len cap zs w hz
theorem chainDecodes_walk (b : ByteArray) (hb : b.size ≤ maxLen) (w : World) :
    Calls Try.prog 4 #[.string b] w fun e w' => e = .returned (.bool true) ∧ Below w.heap.size w w' := chainDecodes_of chnC b hb w
theorem chainAt_walk (a : Option Addr) (len cap : Nat) (zs : List Vr) (t : Int) (ht : (Lit.int .u64 t).wf = true) (z : I2) (w : World) (hz : IsVers w a len cap zs) :
    Calls Try.prog 5 #[.slice a len cap, .int .u64 t, .agg z.cells] w fun e w' => e = .returned (.bool true) ∧ Below w.heap.size w w' := by
  obtain ⟨n, rfl, hn⟩ := u64_natC ht
  exact chainAt_of chnC a len cap zs n hn z.x z.y z.hx z.hy w hz
theorem chainLong_walk (n : Int) (hn : (Lit.int .u16 n).wf = true) (c : Int) (hc : (Lit.int .u8 c).wf = true) (w : World) :
    Calls Try.prog 6 #[.int .u16 n, .int .u8 c] w fun e w' => e = .returned (.bool true) ∧ Below w.heap.size w w' := by
  obtain ⟨m, rfl, hm⟩ := u16_natC hn
  obtain ⟨b, rfl⟩ := u8_byteC hc
  exact chainLong_of chnC m hm b w
end Go.Proofs.Ytahohdbkkcdmiaa
