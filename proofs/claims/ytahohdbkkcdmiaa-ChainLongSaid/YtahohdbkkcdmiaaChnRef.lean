/-
  The document's Few, Same, At of layer 9.
-/
import Derived.Test.YtahohdbkkcdmiaaOpenVers
import Derived.ProofKit
import Derived.OpenShut
import Derived.Deep.DeepCutAuto
import Derived.Deep.CutBlock
import Derived.Deep.QuietTactic
import Derived.BigQuiet
namespace Go.Proofs.Ytahohdbkkcdmiaa
open Go.RowKit
set_option linter.unusedVariables false
set_option linter.unnecessarySimpa false
set_option linter.unusedSimpArgs false
set_option maxRecDepth 100000

def FewVers (zs : List Vr) (n : Nat) : Prop := (∀ i, i < zs.length → i < 500 → (zs.getD i vr0).val.size ≤ 500) ∧ zs.length ≤ n

set_option maxHeartbeats 2000000 in
theorem vfew_yes (a : Option Addr) (len cap n : Nat) (zs : List Vr) (w : World) (hz : IsVers w a len cap zs) (hn : n < 300) (hf : FewVers zs n) :
    Calls Try.prog 8 #[.slice a len cap, .int .i64 (n : Int)] w fun e w' => e = .returned (.bool true) ∧ w' = w := by
  have HZ := Lib.hid hz
  have HF := Lib.hid hf
  have hln : len ≤ n := by rw [← hz.1.1]; exact hf.2
  have hlz : ((len : Int) ≤ (n : Int)) := by omega
  clear hz hf
  go_enter Try.func8, Try.ntmps8
  go_wp2_with fail
  go_loopg [5] len (fun g s5 wx => ∃ i : Nat, i + g = len ∧ s5 = .int .i64 i ∧ wx = w)
  case atStart => exact ⟨0, by omega, rfl, rfl⟩
  case round =>
    obtain ⟨i, hig, rfl, rfl⟩ := hrel
    cases gk with
    | zero =>
      obtain rfl : len = i := by omega
      go_wp2_with fail
      go_ret
      exact ⟨rfl, rfl⟩
    | succ g =>
      have hil : i < len := by omega
      have hiz : (i : Int) < (len : Int) := by omega
      have hi3 : (i : Int) < 500 := by omega
      obtain ⟨b, off, rfl, hbl, _, _, _, _, c⟩ := HZ.out.1.2 i hil
      have h2 := HF.out.1 i (by rw [HZ.out.1.1]; exact hil) (by omega)
      obtain ⟨z, hzz⟩ : ∃ z, z = (zs.getD i vr0).val := ⟨_, rfl⟩
      rw [← hzz] at c h2
      have hb2 : ¬ (500 : Int) < (z.size : Int) := by omega
      have hb3 : decide (500 < z.size) = false := by rw [decide_eq_false_iff_not]; omega
      clear h2 hzz hbl
      go_wp2_with fail
      go_roundg g
      case measure => omega
      case rel => exact ⟨i + 1, by omega, by go_num, rfl⟩

set_option maxHeartbeats 2000000 in
theorem vfew_no (a : Option Addr) (len cap n : Nat) (zs : List Vr) (w : World) (hz : IsVers w a len cap zs) (hn : n < 300) (hf : ¬ FewVers zs n) :
    Calls Try.prog 8 #[.slice a len cap, .int .i64 (n : Int)] w fun e w' => e = .returned (.bool false) ∧ w' = w := by
  have HZ := Lib.hid hz
  have hlm := hz.2
  unfold maxLen at hlm
  have hcase : (∃ i0, i0 < len ∧ i0 < 500 ∧ ¬ (zs.getD i0 vr0).val.size ≤ 500 ∧ ∀ i, i < i0 → (zs.getD i vr0).val.size ≤ 500) ∨ (n < len ∧ ∀ i, i < len → i < 500 → (zs.getD i vr0).val.size ≤ 500) := by
    by_cases h : ∀ i, i < len → i < 500 → (zs.getD i vr0).val.size ≤ 500
    · refine .inr ⟨?_, h⟩
      have : ¬ zs.length ≤ n := fun h2 => hf ⟨fun i h3 h4 => h i (by rw [← hz.1.1]; exact h3) h4, h2⟩
      rw [hz.1.1] at this
      omega
    · left
      have key : ∀ k, (∀ i, i < k → i < len → i < 500 → (zs.getD i vr0).val.size ≤ 500) ∨ ∃ i0, i0 < len ∧ i0 < 500 ∧ ¬ (zs.getD i0 vr0).val.size ≤ 500 ∧ ∀ i, i < i0 → (zs.getD i vr0).val.size ≤ 500 := by
        intro k
        induction k with
        | zero => exact .inl fun i h0 => absurd h0 (by omega)
        | succ k ih =>
          rcases ih with ih | ih
          · by_cases hk : k < len ∧ k < 500 ∧ ¬ (zs.getD k vr0).val.size ≤ 500
            · exact .inr ⟨k, hk.1, hk.2.1, hk.2.2, fun i hi => ih i hi (by omega) (by omega)⟩
            · refine .inl fun i hi h1 h2 => ?_
              by_cases hik : i < k
              · exact ih i hik h1 h2
              · obtain rfl : i = k := by omega
                exact Classical.byContradiction fun h3 => hk ⟨h1, h2, h3⟩
          · exact .inr ih
      rcases key len with h2 | h2
      · exact absurd (fun i hi h3 => h2 i hi hi h3) h
      · exact h2
  clear hz hf
  rcases hcase with ⟨i0, h1, h2, h3, h4⟩ | ⟨h1, h2⟩
  · have H3 := Lib.hid h3
    have H4 := Lib.hid h4
    clear h3 h4
    go_enter Try.func8, Try.ntmps8
    go_wp2_with fail
    go_loopg [5] i0 (fun g s5 wx => ∃ i : Nat, i + g = i0 ∧ s5 = .int .i64 i ∧ wx = w)
    case atStart => exact ⟨0, by omega, rfl, rfl⟩
    case round =>
      obtain ⟨i, hig, rfl, rfl⟩ := hrel
      have hil : i < len := by omega
      have hiz : (i : Int) < (len : Int) := by omega
      have hi3 : (i : Int) < 500 := by omega
      obtain ⟨b, off, rfl, hbl, _, hm, _, _, c⟩ := HZ.out.1.2 i hil
      cases gk with
      | zero =>
        obtain rfl : i = i0 := by omega
        have hs := H3.out
        obtain ⟨z, hzz⟩ : ∃ z, z = (zs.getD i vr0).val := ⟨_, rfl⟩
        unfold maxLen at hm
        rw [← hzz] at c hs hm
        have hb2 : (500 : Int) < (z.size : Int) := by omega
        have hb3 : decide (500 < z.size) = true := by rw [decide_eq_true_iff]; omega
        clear hzz hbl hs
        go_wp2_with fail
        go_ret
        exact ⟨rfl, rfl⟩
      | succ g =>
        have hs := H4.out i (by omega)
        obtain ⟨z, hzz⟩ : ∃ z, z = (zs.getD i vr0).val := ⟨_, rfl⟩
        unfold maxLen at hm
        rw [← hzz] at c hs hm
        have hb2 : ¬ (500 : Int) < (z.size : Int) := by omega
        have hb3 : decide (500 < z.size) = false := by rw [decide_eq_false_iff_not]; omega
        clear hzz hbl hs
        go_wp2_with fail
        go_roundg g
        case measure => omega
        case rel => exact ⟨i + 1, by omega, by go_num, rfl⟩
  · have H2 := Lib.hid h2
    have hnz : ¬ ((len : Int) ≤ (n : Int)) := by omega
    have hnd : decide ((len : Int) ≤ (n : Int)) = false := by simpa using h1
    have hnd2 : decide (len ≤ n) = false := by simpa using h1
    clear h2
    go_enter Try.func8, Try.ntmps8
    go_wp2_with fail
    go_loopg [5] (min len 500) (fun g s5 wx => ∃ i : Nat, i + g = min len 500 ∧ s5 = .int .i64 i ∧ wx = w)
    case atStart => exact ⟨0, by omega, rfl, rfl⟩
    case round =>
      obtain ⟨i, hig, rfl, rfl⟩ := hrel
      cases gk with
      | zero =>
        have hcs : (i = len) ∨ (i < len ∧ i = 500) := by omega
        clear hig
        rcases hcs with rfl | ⟨h5, rfl⟩
        · go_wp2_with fail
          go_ret
          exact ⟨rfl, rfl⟩
        · have h6 : (500 : Int) < (len : Int) := by omega
          go_wp2_with fail
          go_ret
          exact ⟨rfl, rfl⟩
      | succ g =>
        have hil : i < len := by omega
        have hiz : (i : Int) < (len : Int) := by omega
        have hi3 : (i : Int) < 500 := by omega
        obtain ⟨b, off, rfl, hbl, _, hm, _, _, c⟩ := HZ.out.1.2 i hil
        have hs := H2.out i hil (by omega)
        obtain ⟨z, hzz⟩ : ∃ z, z = (zs.getD i vr0).val := ⟨_, rfl⟩
        unfold maxLen at hm
        rw [← hzz] at c hs hm
        have hb2 : ¬ (500 : Int) < (z.size : Int) := by omega
        have hb3 : decide (500 < z.size) = false := by rw [decide_eq_false_iff_not]; omega
        clear hzz hbl hs
        go_wp2_with fail
        go_roundg g
        case measure => omega
        case rel => exact ⟨i + 1, by omega, by go_num, rfl⟩


set_option maxHeartbeats 2000000 in
/-- Of equal versions. -/
theorem vsame_yes (a1 a2 : Option Addr) (len c1 c2 : Nat) (zs : List Vr) (w : World) (h1 : IsVers w a1 len c1 zs) (h2 : IsVers w a2 len c2 zs) :
    Calls Try.prog 14 #[.slice a1 len c1, .slice a2 len c2] w fun e w' => e = .returned (.bool true) ∧ ∃ n, w' = w.drewN n := by
  have H1 := Lib.hid h1
  have H2 := Lib.hid h2
  have hlm := h1.2
  unfold maxLen at hlm
  clear h1 h2
  go_enter Try.func14, Try.ntmps14
  go_wp2_with fail
  go_loopg [5] len (fun g s5 wx => ∃ i n : Nat, i + g = len ∧ s5 = .int .i64 i ∧ wx = w.drewN n)
  case atStart => exact ⟨0, 0, by omega, rfl, rfl⟩
  case round =>
    obtain ⟨i, n, hig, rfl, rfl⟩ := hrel
    cases gk with
    | zero =>
      obtain rfl : len = i := by omega
      go_wp2_with fail
      go_ret
      exact ⟨rfl, n, rfl⟩
    | succ g =>
      have hil : i < len := by omega
      have hiz : (i : Int) < (len : Int) := by omega
      obtain ⟨b, off, rfl, hbl, _, _, k0, k1, k2⟩ := H1.out.1.2 i hil
      obtain ⟨b', off', rfl, hbl', _, _, j0, j1, j2⟩ := H2.out.1.2 i hil
      obtain ⟨z, hzz⟩ : ∃ z, z = zs.getD i vr0 := ⟨_, rfl⟩
      rw [← hzz] at k0 k1 k2 j0 j1 j2
      clear hzz hbl hbl'
      go_wp2_with fail
      go_quiet (fail)
      go_wp2_with fail
      go_roundg g
      case measure => omega
      case rel => exact ⟨i + 1, n + nq, by omega, by go_num, rfl⟩
end Go.Proofs.Ytahohdbkkcdmiaa
