/-
  The walks of layer 5's five statements, in the form of their frames, from the program's four contracts.
-/
import Derived.Test.YtkcbbcabfbkclaaMsgBack
import Derived.Test.YtkcbbcabfbkclaaMsgLong
import Derived.Test.YtkcbbcabfbkclaaOpenMsg
import Derived.Test.YtkcbbcabfbkclaaSet16
namespace Go.Proofs.Ytkcbbcabfbkclaa
open Go.RowKit
set_option linter.unusedVariables false
set_option linter.unnecessarySimpa false
set_option linter.unusedSimpArgs false
set_option maxRecDepth 100000

theorem msgEncodes_walk (v : Int) (hv : (Lit.int .i64 v).wf = true) (m : Mg) (sl : Value) (hm : MsgIn m) (w : World) (hws : WsAt w sl m.ws) :
    Calls Try.prog 3 #[.int .i64 v, .agg (m.cells sl)] w (AllTrue w) :=
  msgEncodes_of encOK projOK negOK v (bounds_i64 hv) m sl hm w hws
theorem msgBack_walk (m : Mg) (sl : Value) (hm : MsgIn m) (a : Int) (ha : (Lit.int .u8 a).wf = true) (b : Int) (hb : (Lit.int .u8 b).wf = true) (w : World) (hws : WsAt w sl m.ws) :
    Calls Try.prog 4 #[.agg (m.cells sl), .int .u8 a, .int .u8 b] w (AllTrue w) := by
  have h1 := bounds_u8 ha
  have h2 := bounds_u8 hb
  obtain ⟨n1, rfl⟩ := Int.eq_ofNat_of_zero_le h1.1
  obtain ⟨n2, rfl⟩ := Int.eq_ofNat_of_zero_le h2.1
  exact msgBack_of encOK negOK decOK m sl hm n1 n2 (by omega) (by omega) w hws
theorem msgDecodes_walk (v : Int) (hv : (Lit.int .i64 v).wf = true) (b : ByteArray) (hb : b.size ≤ maxLen) (w : World) :
    Calls Try.prog 5 #[.int .i64 v, .string b] w (AllTrue w) :=
  msgDecodes_of encOK negOK decOK v (bounds_i64 hv) b hb w
theorem msgExtra_walk (m : Mg) (sl : Value) (hm : MsgIn m) (a : Option Addr) (len cap : Nat) (zs : List Ex) (n : Int) (hn : (Lit.int .u8 n).wf = true) (w : World) (hws : WsAt w sl m.ws) (hz : IsExtras w a len cap zs) :
    Calls Try.prog 6 #[.agg (m.cells sl), .slice a len cap, .int .u8 n] w (AllTrue w) := by
  have h1 := bounds_u8 hn
  obtain ⟨n1, rfl⟩ := Int.eq_ofNat_of_zero_le h1.1
  exact msgExtra_of encOK negOK decOK m sl hm a len cap zs hz.2.2 n1 (by omega) w hws hz.1
theorem msgLong_walk (m : Mg) (sl : Value) (hm : MsgIn m) (a1 : Int) (w1 : (Lit.int .u16 a1).wf = true) (a2 : Int) (w2 : (Lit.int .u8 a2).wf = true) (w : World) (hws : WsAt w sl m.ws) :
    Calls Try.prog 7 #[.agg (m.cells sl), .int .u16 a1, .int .u8 a2] w (AllTrue w) :=
  msgLong_of encOK negOK decOK m sl hm a1 w1 a2 w2 w hws
end Go.Proofs.Ytkcbbcabfbkclaa
