/-
  The program's chains do what is asked of them.
-/
import Derived.Test.YtahohdbkkcdmiaaChnPDec
namespace Go.Proofs.Ytahohdbkkcdmiaa
open Go.RowKit
set_option linter.unusedVariables false
set_option linter.unnecessarySimpa false
set_option linter.unusedSimpArgs false
set_option maxRecDepth 100000

theorem versB_len : ∀ (zs : List Vr) (t : Nat) (b : List UInt8), (∀ v ∈ zs, v.time < 18446744073709551616 ∧ v.val.size ≤ 60000) → b.length ≤ 60000 → (versB t b zs).length ≤ zs.length * 60100
  | [], t, b, _, _ => by simp [versB]
  | v :: zs, t, b, h, hb => by
    have h1 := h v (by simp)
    have h2 := verB_len (t := t) hb h1.1 h1.2
    have h3 : (nextB b v).length ≤ 60000 := by
      unfold nextB; split
      · exact hb
      · rw [c_size]; exact h1.2
    have h4 := versB_len zs v.time (nextB b v) (fun x hx => h x (by simp [hx])) h3
    rw [versB_cons, List.length_append, List.length_cons]
    omega
theorem chainS_size {zs : List Vr} (h : okV zs) (hv : ∀ v ∈ zs, v.val.size ≤ 60000) : (chainS zs).size ≤ 20000000 := by
  have h2 := (right_parts h.1).2
  have h3 := versB_len zs 0 [] (fun v hx => ⟨h.2 v hx, hv v hx⟩) (by simp)
  have h4 := ub_len10 (n := zs.length) (by omega)
  unfold chainS chainB
  rw [arr_size, List.length_append]
  omega
theorem chainS_list (zs : List Vr) : (chainS zs).data.toList = chainB zs := rfl
theorem chnC : ChnC where
  encYes a len cap zs w hz hr hv := encode_yes a len cap zs w hz hr hv
  encNo a len cap zs w hz hr _ _ := encode_no a len cap zs w hz hr
  right a len cap zs w hz _ _ := right_any a len cap zs w hz
  at_ a len cap zs t w hz hr hv ht := at_any a len cap zs t w hz hr hv ht
  decYes zs w h ha := by
    have hv : ∀ v ∈ zs, v.val.size ≤ 60000 := fun v hx => Nat.le_trans (allN_mem zs v hx) ha
    refine (decode_any (chainS zs) (chainS_size h hv) w).mono fun e w' hd => ?_
    rw [chainS_list, decB_chain h hv, if_pos ha] at hd
    exact hd
  decLong zs w h ha hv := by
    refine (decode_any (chainS zs) (chainS_size h hv) w).mono fun e w' hd => ?_
    rw [chainS_list, decB_chain h hv, if_neg (by omega)] at hd
    exact hd
  decNo b w hb hno := by
    refine (decode_any b (by omega) w).mono fun e w' hd => ?_
    cases hF : decB b.data.toList with
    | form => rw [hF] at hd; exact .inl hd
    | long => rw [hF] at hd; exact .inr hd
    | all zs r =>
      exfalso
      obtain ⟨h1, h2, h3, _⟩ := decB_all hF
      exact hno ⟨zs, h2, h3, c_ba_ext h1⟩
end Go.Proofs.Ytahohdbkkcdmiaa
