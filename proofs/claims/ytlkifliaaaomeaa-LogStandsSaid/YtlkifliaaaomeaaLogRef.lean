/-
  The document's Made, Few, Common and Same of layer 8.
-/
import Derived.Test.YtlkifliaaaomeaaLogMath
import Derived.Test.YtlkifliaaaomeaaCrcSum
import Derived.Test.YtlkifliaaaomeaaRefFixedB
import Derived.Test.YtlkifliaaaomeaaOpenStrs
import Derived.Deep.DeepCutAuto
import Derived.Deep.CutBlock
namespace Go.Proofs.Ytlkifliaaaomeaa
open Go.RowKit
set_option linter.unusedVariables false
set_option linter.unnecessarySimpa false
set_option linter.unusedSimpArgs false
set_option maxRecDepth 100000

/-- A record's bytes, as Go's string. -/
def recS (p : ByteArray) : ByteArray := ⟨(recB p.data.toList).toArray⟩
theorem recS_size (p : ByteArray) : (recS p).size = p.size + 6 := by
  show (recB p.data.toList).toArray.size = _
  rw [List.size_toArray, recB_length, Lib.size_eq]
theorem l_ba_ext (a b : ByteArray) (h : a.data.toList = b.data.toList) : a = b := by
  cases a; cases b; simp only [ByteArray.mk.injEq]; exact Array.toList_inj.1 h
theorem recS_eq (p : ByteArray) : (⟨(fx p.size 2 true).toArray⟩ ++ ⟨(fx (sumB (fx p.size 2 true ++ p.data.toList)) 4 true).toArray⟩ : ByteArray) ++ p = recS p := by
  apply l_ba_ext
  show _ = (recB p.data.toList)
  unfold recB
  rw [← Lib.size_eq]
  simp [ByteArray.data_append]

theorem refFixed2 (n : Nat) (hn : n < 18446744073709551616) (w : World) :
    Calls Try.prog 30 #[.int .u64 n, .int .i64 2, .bool true] w fun e w' => e = .returned (.string ⟨(fx n 2 true).toArray⟩) ∧ Below w.heap.size w w' :=
  refFixed_any n 2 true w hn (by omega) (by omega)
theorem lrefFixed4 (n : Nat) (hn : n < 18446744073709551616) (w : World) :
    Calls Try.prog 30 #[.int .u64 n, .int .i64 4, .bool true] w fun e w' => e = .returned (.string ⟨(fx n 4 true).toArray⟩) ∧ Below w.heap.size w w' :=
  refFixed_any n 4 true w hn (by omega) (by omega)

set_option maxHeartbeats 800000 in
theorem made_any (p : ByteArray) (hp : p.size ≤ 1000000) (w : World) :
    Calls Try.prog 12 #[.string p] w fun e w' => e = .returned (.string (recS p)) ∧ Below w.heap.size w w' := by
  have he := recS_eq p
  have h1 := Lib.hid (refFixed2 p.size (by omega))
  obtain ⟨F1, hF1⟩ : ∃ F1 : ByteArray, F1 = ⟨(fx p.size 2 true).toArray⟩ := ⟨_, rfl⟩
  have g1 : F1.size = 2 := by rw [hF1]; show (fx p.size 2 true).toArray.size = 2; rw [List.size_toArray, lfx_length]
  have hl : (F1 ++ p).data.toList = fx p.size 2 true ++ p.data.toList := by rw [hF1]; simp [ByteArray.data_append]
  rw [← hF1] at h1 he
  have h3 := refsum_any (F1 ++ p) (by rw [ByteArray.size_append]; omega)
  rw [hl] at h3
  have hs := sumB_lt (fx p.size 2 true ++ p.data.toList)
  obtain ⟨S, hS⟩ : ∃ S, S = sumB (fx p.size 2 true ++ p.data.toList) := ⟨_, rfl⟩
  rw [← hS] at he h3 hs
  have h2 := Lib.hid (lrefFixed4 S (by omega))
  obtain ⟨F2, hF2⟩ : ∃ F2 : ByteArray, F2 = ⟨(fx S 4 true).toArray⟩ := ⟨_, rfl⟩
  have g2 : F2.size = 4 := by rw [hF2]; show (fx S 4 true).toArray.size = 4; rw [List.size_toArray, lfx_length]
  rw [← hF2] at h2 he
  have H3 := Lib.hid h3
  have HE := Lib.hid he
  have G1 : F1.size ≤ 2 := by omega
  have G2 : F2.size ≤ 4 := by omega
  have hsz0 : F1.size + p.size ≤ 9223372036854775807 := by omega
  have hsz : F1.size + F2.size ≤ 9223372036854775807 := by omega
  have hsz2 : F1.size + F2.size + p.size ≤ 9223372036854775807 := by omega
  have hz : (S : Int) < 4294967296 := by omega
  clear hF1 hF2 g1 g2 hS hl h3 he
  go_enter Try.func12, Try.ntmps12
  go_wp2_with (first
    | (go_at_call 31; refine (H3.out _).mono ?_; rintro e w2 ⟨rfl, rfl⟩)
    | (go_at_call 30; (with_reducible refine (h1.out _).mono ?_); rintro e w1 ⟨rfl, hb1⟩)
    | (go_at_call 30; (with_reducible refine (h2.out _).mono ?_); rintro e w3 ⟨rfl, hb3⟩))
  go_ret
  exact ⟨congrArg (fun x => Ending.returned (Value.string x)) HE.out, hb1.trans (hb3.mono hb1.size)⟩

def FewStrs (zs : List ByteArray) (n size : Nat) : Prop := (∀ i, i < zs.length → i < 300 → (zs.getD i ByteArray.empty).size ≤ size) ∧ zs.length ≤ n

set_option maxHeartbeats 2000000 in
theorem lfew_yes (a : Option Addr) (len cap n size : Nat) (zs : List ByteArray) (w : World) (hz : IsStrs w a len cap zs) (hn : n < 300) (hs : size < 10000) (hf : FewStrs zs n size) :
    Calls Try.prog 6 #[.slice a len cap, .int .i64 (n : Int), .int .i64 (size : Int)] w fun e w' => e = .returned (.bool true) ∧ w' = w := by
  have HZ := Lib.hid hz
  have HF := Lib.hid hf
  have hln : len ≤ n := by rw [← hz.1]; exact hf.2
  have hlz : ((len : Int) ≤ (n : Int)) := by omega
  clear hz hf
  go_enter Try.func6, Try.ntmps6
  go_wp2_with fail
  go_loopg [7] len (fun g s5 wx => ∃ i : Nat, i + g = len ∧ s5 = .int .i64 i ∧ wx = w)
  case atStart => exact ⟨0, by omega, rfl, rfl⟩
  case round =>
    obtain ⟨i, hig, rfl, rfl⟩ := hrel
    cases gk with
    | zero =>
      obtain rfl : len = i := by omega
      go_wp2_with fail
      go_ret
      exact ⟨rfl, rfl⟩
    | succ g =>
      have hil : i < len := by omega
      have hiz : (i : Int) < (len : Int) := by omega
      have hi3 : (i : Int) < 300 := by omega
      obtain ⟨b, off, rfl, hbl, hop⟩ := HZ.out.2.2.2 (by omega)
      have c := hop i hil
      have h2 := HF.out.1 i (by rw [HZ.out.1]; exact hil) (by omega)
      obtain ⟨z, hzz⟩ : ∃ z, z = zs.getD i ByteArray.empty := ⟨_, rfl⟩
      rw [← hzz] at c h2
      have hb2 : ¬ (size : Int) < (z.size : Int) := by omega
      have hb3 : decide (size < z.size) = false := by rw [decide_eq_false_iff_not]; omega
      clear hop h2 hzz hbl
      go_wp2_with fail
      go_roundg g
      case measure => omega
      case rel => exact ⟨i + 1, by omega, by go_num, rfl⟩

set_option maxHeartbeats 2000000 in
theorem common_all (a1 a2 : Option Addr) (len c1 c2 : Nat) (zs : List ByteArray) (w : World) (h1 : IsStrs w a1 len c1 zs) (h2 : IsStrs w a2 len c2 zs) :
    Calls Try.prog 33 #[.slice a1 len c1, .slice a2 len c2] w fun e w' => e = .returned (.int .i64 len) ∧ ∃ n, w' = w.drewN n := by
  have H1 := Lib.hid h1
  have H2 := Lib.hid h2
  have hlm := h1.2.1
  unfold maxLen at hlm
  clear h1 h2
  go_enter Try.func33, Try.ntmps33
  go_wp2_with fail
  go_loopg [5] len (fun g s5 wx => ∃ i n : Nat, i + g = len ∧ s5 = .int .i64 i ∧ wx = w.drewN n)
  case atStart => exact ⟨0, 0, by omega, rfl, rfl⟩
  case round =>
    obtain ⟨i, n, hig, rfl, rfl⟩ := hrel
    cases gk with
    | zero =>
      obtain rfl : len = i := by omega
      go_wp2_with fail
      go_ret
      exact ⟨rfl, n, rfl⟩
    | succ g =>
      have hil : i < len := by omega
      have hiz : (i : Int) < (len : Int) := by omega
      obtain ⟨b1, o1, rfl, hbl1, hop1⟩ := H1.out.2.2.2 (by omega)
      obtain ⟨b2, o2, rfl, hbl2, hop2⟩ := H2.out.2.2.2 (by omega)
      have k1 := hop1 i hil
      have k2 := hop2 i hil
      obtain ⟨z, hzz⟩ : ∃ z, z = zs.getD i ByteArray.empty := ⟨_, rfl⟩
      rw [← hzz] at k1 k2
      have e1 : decide ((len : Int) ≤ (i : Int)) = false := by rw [decide_eq_false_iff_not]; omega
      have e2 : decide (len ≤ i) = false := by rw [decide_eq_false_iff_not]; omega
      clear hop1 hop2 hzz
      go_upto_region 4 with fail
      go_quiet (fail)
      go_wp2_with fail
      go_roundg g
      case measure => omega
      case rel => exact ⟨i + 1, _, by omega, by go_num, rfl⟩
set_option maxHeartbeats 1000000 in
theorem same_yes (a1 a2 : Option Addr) (len c1 c2 : Nat) (zs : List ByteArray) (w : World) (h1 : IsStrs w a1 len c1 zs) (h2 : IsStrs w a2 len c2 zs) :
    Calls Try.prog 14 #[.slice a1 len c1, .slice a2 len c2] w fun e w' => e = .returned (.bool true) ∧ ∃ n, w' = w.drewN n := by
  have H := Lib.hid (common_all a1 a2 len c1 c2 zs w h1 h2)
  clear h1 h2
  go_enter Try.func14, Try.ntmps14
  go_wp2_with (go_at_call 33; refine H.out.mono ?_; rintro e w' ⟨rfl, n, rfl⟩)
  go_ret
  exact ⟨rfl, n, rfl⟩
end Go.Proofs.Ytlkifliaaaomeaa
