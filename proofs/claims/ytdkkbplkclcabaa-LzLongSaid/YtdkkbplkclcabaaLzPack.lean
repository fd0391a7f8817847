/-
  The walk of the program's Pack, and the walks of the statements LzBack, LzLong.
-/
import Derived.Test.YtdkkbplkclcabaaLzPartsOf
import Derived.Test.YtdkkbplkclcabaaLzTake
import Derived.Test.YtdkkbplkclcabaaLzLong
namespace Go.Proofs.Ytdkkbplkclcabaa
open Go.RowKit
set_option linter.unusedVariables false
set_option linter.unnecessarySimpa false
set_option linter.unusedSimpArgs false
set_option maxRecDepth 100000

set_option maxHeartbeats 1000000 in
theorem packLong : PackLong := fun b w h1 h2 => by
  have hz : (60000 : Int) < (b.size : Int) := by omega
  go_enter Try.func8, Try.ntmps8
  go_wp2_with fail
  go_ret2
  exact ⟨rfl, Below.refl _ _⟩

theorem packed_in (b : ByteArray) (P : List UInt8) : (((⟨(ub b.size).toArray⟩ : ByteArray) ++ ⟨#[1]⟩) ++ ⟨P.toArray⟩).data.toList = ub b.size ++ 1 :: P := by simp
theorem packed_as (b : ByteArray) : (((⟨(ub b.size).toArray⟩ : ByteArray) ++ ⟨#[0]⟩) ++ b).data.toList = ub b.size ++ 0 :: b.data.toList := by simp

set_option maxHeartbeats 4000000 in
theorem packOK : PackOK := fun b w hb => by
  have hz : ¬ (60000 : Int) < (b.size : Int) := by omega
  have hu := Lib.hid (fun W => uint_any b.size (by omega) W)
  have hp := Lib.hid (fun W => partsOf_any b hb W)
  have hul : (⟨(ub b.size).toArray⟩ : ByteArray).size ≤ 3 := by rw [arr_size]; exact ub_len 2 b.size (by omega)
  have HIN := Lib.hid (packed_in b)
  have HAS := Lib.hid (packed_as b)
  have hwb : IntKind.u64.wrap (b.size : Int) = (b.size : Int) := by simp [IntKind.wrap, IntKind.bits, IntKind.signed]; omega
  obtain ⟨U, hU⟩ : ∃ U : ByteArray, U = ⟨(ub b.size).toArray⟩ := ⟨_, rfl⟩
  rw [← hU] at hu hul HIN HAS
  clear hU
  go_enter Try.func8, Try.ntmps8
  go_upto_region 5 with (first
    | (go_at_call 12; refine (hu.out _).mono ?_; rintro e w1 ⟨rfl, hb1⟩)
    | (go_at_call 13; refine (hp.out _).mono ?_; rintro e w2 ⟨P, rfl, hg, hb2⟩))
  have HB := Lib.hid (hb1.trans (hb2.mono hb1.size))
  have hPs : (⟨P.toArray⟩ : ByteArray).size = P.length := arr_size P
  have hPl := hg.out.1
  obtain ⟨Q, hQ⟩ : ∃ Q : ByteArray, Q = ⟨P.toArray⟩ := ⟨_, rfl⟩
  have HIN2 := Lib.hid (HIN.out P)
  rw [← hQ] at hPs HIN2
  rw [← hQ]
  have HPS := Lib.hid hPs
  have hQ6 : Q.size ≤ 600000 := by omega
  clear hPs hPl hQ hb1 hb2 hp hu HIN
  by_cases hsh : Q.size < b.size
  · have hsz : (Q.size : Int) < (b.size : Int) := by omega
    have ha1 : U.size + 1 ≤ 9223372036854775807 := by omega
    have ha2 : (U ++ (⟨#[1]⟩ : ByteArray)).size + Q.size ≤ 9223372036854775807 := by rw [ByteArray.size_append]; show U.size + 1 + Q.size ≤ _; omega
    go_wp2_with fail
    go_ret2
    refine ⟨(U ++ ⟨#[1]⟩) ++ Q, rfl, ?_, ?_, HB.out⟩
    · rw [HIN2.out]; exact hg.out.2 (by omega)
    · rw [ByteArray.size_append, ByteArray.size_append]; show U.size + 1 + Q.size ≤ _; omega
  · have hsz : ¬ (Q.size : Int) < (b.size : Int) := by omega
    have ha1 : U.size + 1 ≤ 9223372036854775807 := by omega
    have ha2 : (U ++ (⟨#[0]⟩ : ByteArray)).size + b.size ≤ 9223372036854775807 := by rw [ByteArray.size_append]; show U.size + 1 + b.size ≤ _; omega
    go_wp2_with fail
    go_ret2
    refine ⟨(U ++ ⟨#[0]⟩) ++ b, rfl, ?_, ?_, HB.out⟩
    · rw [HAS.out, Lib.size_eq]; exact unp_stored (by rw [← Lib.size_eq]; exact hb)
    · rw [ByteArray.size_append, ByteArray.size_append]; show U.size + 1 + b.size ≤ _; omega

theorem lzBack_walk (b : ByteArray) (hb : b.size ≤ maxLen) (a1 : Int) (w1 : (Lit.int .u8 a1).wf = true) (w : World) :
    Calls Try.prog 3 #[.string b, .int .u8 a1] w fun e w' => e = .returned (.bool true) ∧ Below w.heap.size w w' := lzBack_of unpackOK packOK b hb a1 w1 w
theorem lzLong_walk (a0 : Int) (w0 : (Lit.int .u32 a0).wf = true) (a1 : Int) (w1 : (Lit.int .u8 a1).wf = true) (w : World) :
    Calls Try.prog 6 #[.int .u32 a0, .int .u8 a1] w fun e w' => e = .returned (.bool true) ∧ Below w.heap.size w w' := lzLong_of unpackOK packOK packLong a0 w0 a1 w1 w
end Go.Proofs.Ytdkkbplkclcabaa
