/-
  What is asked of the program's frames; the document's Make; layer 6's 'awake'; FrameMakes from that.
-/
import Derived.Test.YtaabpjnjglnjoaaFrmMath
import Derived.Test.YtaabpjnjglnjoaaCrcSum
import Derived.Test.YtaabpjnjglnjoaaRefFixedB
import Derived.ProofKit
import Derived.OpenShut
import Derived.Deep.DeepCutAuto
import Derived.Deep.CutBlock
namespace Go.Proofs.Ytaabpjnjglnjoaa
open Go.RowKit
set_option linter.unusedVariables false
set_option linter.unnecessarySimpa false
set_option linter.unusedSimpArgs false
set_option maxRecDepth 100000

/-- A frame, as Go's string. -/
def frmS (p : ByteArray) : ByteArray := ⟨(frmB p.data.toList).toArray⟩
theorem frmS_size (p : ByteArray) : (frmS p).size = p.size + 8 := by
  show (frmB p.data.toList).toArray.size = _
  rw [List.size_toArray, frmB_length, Lib.size_eq]
theorem frmS_eq (p : ByteArray) : (⟨(fx p.size 4 true).toArray⟩ ++ ⟨(fx (sumB p.data.toList) 4 true).toArray⟩ : ByteArray) ++ p = frmS p := by
  have h : ∀ a b : ByteArray, a.data.toList = b.data.toList → a = b := fun a b h => by
    cases a; cases b; simp only [ByteArray.mk.injEq]; exact Array.toList_inj.1 h
  apply h
  show _ = (frmB p.data.toList)
  unfold frmB
  rw [← Lib.size_eq]
  simp [ByteArray.data_append]

def MakeOK : Prop := ∀ (p : ByteArray) (w : World), 1 ≤ p.size → p.size ≤ 4000 →
  Calls Try.prog 6 #[.agg tab, .string p] w fun e w' => e = .returned (.tuple #[.string (frmS p), .int .i64 0]) ∧ Below w.heap.size w w'
def MakeLong : Prop := ∀ (p : ByteArray) (w : World), (p.size < 1 ∨ 4000 < p.size) → p.size ≤ 9000 →
  Calls Try.prog 6 #[.agg tab, .string p] w fun e w' => e = .returned (.tuple #[.string ⟨#[]⟩, .int .i64 3]) ∧ Below w.heap.size w w'

theorem frm_a : (frmS ⟨#[97]⟩) = ⟨#[0, 0, 0, 1, 193, 208, 67, 48, 97]⟩ := by
  have : frmB [97] = [0, 0, 0, 1, 193, 208, 67, 48, 97] := by decide +kernel
  show (⟨(frmB [97]).toArray⟩ : ByteArray) = _
  rw [this]

set_option maxHeartbeats 800000 in
theorem frmAwake_any (hM : MakeOK) (w : World) : Calls Try.prog 5 #[] w fun e w' => e = .returned (.bool true) ∧ Below w.heap.size w w' := by
  have hm := Lib.hid make_any
  have hn := Lib.hid (fun w => hM ⟨#[97]⟩ w (by decide) (by decide))
  rw [frm_a] at hn
  clear hM
  go_enter Try.func5, Try.ntmps5
  go_wp2_with (first | (go_at_call 7; refine (hm.out _).mono ?_; rintro e w1 ⟨rfl, hb1⟩) | (go_at_call 6; refine (hn.out _).mono ?_; rintro e w2 ⟨rfl, hb2⟩))
  go_ret
  exact ⟨rfl, hb1.trans (hb2.mono hb1.size)⟩

theorem refFixed4 (n : Nat) (hn : n < 18446744073709551616) (w : World) :
    Calls Try.prog 18 #[.int .u64 n, .int .i64 4, .bool true] w fun e w' => e = .returned (.string ⟨(fx n 4 true).toArray⟩) ∧ Below w.heap.size w w' :=
  refFixed_any n 4 true w hn (by omega) (by omega)
set_option maxHeartbeats 800000 in
theorem refMake_any (p : ByteArray) (hp : p.size ≤ 9000) (w : World) :
    Calls Try.prog 8 #[.string p] w fun e w' => e = .returned (.string (frmS p)) ∧ Below w.heap.size w w' := by
  have h1 := Lib.hid (refFixed4 p.size (by omega))
  have h2 := Lib.hid (refFixed4 (sumB p.data.toList) (by have := sumB_lt p.data.toList; omega))
  have h3 := Lib.hid (refsum_any p (by omega))
  have he := Lib.hid (frmS_eq p)
  have hs := sumB_lt p.data.toList
  obtain ⟨S, hS⟩ : ∃ S, S = sumB p.data.toList := ⟨_, rfl⟩
  rw [← hS] at h2 h3 he hs
  clear hS
  have f1 := fx_length p.size 4 true
  have f2 := fx_length S 4 true
  obtain ⟨F1, hF1⟩ : ∃ F1 : ByteArray, F1 = ⟨(fx p.size 4 true).toArray⟩ := ⟨_, rfl⟩
  obtain ⟨F2, hF2⟩ : ∃ F2 : ByteArray, F2 = ⟨(fx S 4 true).toArray⟩ := ⟨_, rfl⟩
  have g1 : F1.size = 4 := by rw [hF1]; show (fx p.size 4 true).toArray.size = 4; rw [List.size_toArray, f1]
  have g2 : F2.size = 4 := by rw [hF2]; show (fx S 4 true).toArray.size = 4; rw [List.size_toArray, f2]
  rw [← hF1] at h1 he
  rw [← hF2] at h2 he
  have G1 : F1.size ≤ 4 := by omega
  have G2 : F2.size ≤ 4 := by omega
  have hsz : F1.size + F2.size ≤ 9223372036854775807 := by omega
  have hsz2 : F1.size + F2.size + p.size ≤ 9223372036854775807 := by omega
  clear hF1 hF2 f1 f2 g1 g2
  have hz : (S : Int) < 4294967296 := by omega
  go_enter Try.func8, Try.ntmps8
  go_wp2_with (first
    | (go_at_call 19; refine (h3.out _).mono ?_; rintro e w2 ⟨rfl, rfl⟩)
    | (go_at_call 18; (with_reducible refine (h1.out _).mono ?_); rintro e w1 ⟨rfl, hb1⟩)
    | (go_at_call 18; (with_reducible refine (h2.out _).mono ?_); rintro e w3 ⟨rfl, hb3⟩))
  go_ret
  exact ⟨congrArg (fun x => Ending.returned (Value.string x)) he.out, hb1.trans (hb3.mono hb1.size)⟩

set_option maxHeartbeats 2000000 in
theorem frameMakes_of (hM : MakeOK) (hL : MakeLong) (s : ByteArray) (_ : s.size ≤ maxLen) (w : World) :
    Calls Try.prog 3 #[.string s] w fun e w' => e = .returned (.bool true) ∧ Below w.heap.size w w' := by
  have haw := Lib.hid (frmAwake_any hM)
  have hmk := Lib.hid make_any
  by_cases hlen : 5000 < s.size
  · have hd : (5000 : Int) < (s.size : Int) := by omega
    clear hM hL hlen
    go_enter Try.func3, Try.ntmps3
    go_upto_region 2 with (go_at_call 5; refine (haw.out _).mono ?_; rintro e w1 ⟨rfl, hb1⟩)
    go_wp2_with (go_at_call 5; refine (haw.out _).mono ?_; rintro e w2 ⟨rfl, hb2⟩)
    go_ret
    exact ⟨rfl, hb1.trans (hb2.mono hb1.size)⟩
  · have hd : ¬ (5000 : Int) < (s.size : Int) := by omega
    by_cases hg : s.size < 1 ∨ 4000 < s.size
    · have hl := Lib.hid (fun w => hL s w hg (by omega))
      have hc : (s.size : Int) < 1 ∨ ¬ (s.size : Int) < 1 ∧ (4000 : Int) < (s.size : Int) := by omega
      clear hM hL hlen hg
      rcases hc with h1 | ⟨h1, h2⟩
      all_goals
        go_enter Try.func3, Try.ntmps3
        go_wp2_with (first
          | (go_at_call 5; refine (haw.out _).mono ?_; rintro e w1 ⟨rfl, hb1⟩)
          | (go_at_call 7; refine (hmk.out _).mono ?_; rintro e w2 ⟨rfl, hb2⟩)
          | (go_at_call 6; refine (hl.out _).mono ?_; rintro e w3 ⟨rfl, hb3⟩))
        go_ret
        exact ⟨rfl, (hb1.trans (hb2.mono hb1.size)).trans (hb3.mono (Nat.le_trans hb1.size hb2.size))⟩
    · have hl := Lib.hid (fun w => hM s w (by omega) (by omega))
      have hr := Lib.hid (refMake_any s (by omega))
      have h1 : ¬ (s.size : Int) < 1 := by omega
      have h2 : ¬ (4000 : Int) < (s.size : Int) := by omega
      clear hM hL hlen hg
      obtain ⟨F, hF⟩ : ∃ F, F = frmS s := ⟨_, rfl⟩
      rw [← hF] at hl hr
      clear hF
      go_enter Try.func3, Try.ntmps3
      go_wp2_with (first
        | (go_at_call 5; refine (haw.out _).mono ?_; rintro e w1 ⟨rfl, hb1⟩)
        | (go_at_call 7; refine (hmk.out _).mono ?_; rintro e w2 ⟨rfl, hb2⟩)
        | (go_at_call 6; refine (hl.out _).mono ?_; rintro e w3 ⟨rfl, hb3⟩)
        | (go_at_call 8; refine (hr.out _).mono ?_; rintro e w4 ⟨rfl, hb4⟩))
      go_ret
      have B2 := hb1.trans (hb2.mono hb1.size)
      have B3 := B2.trans (hb3.mono B2.size)
      exact ⟨rfl, B3.trans (hb4.mono B3.size)⟩
end Go.Proofs.Ytaabpjnjglnjoaa
