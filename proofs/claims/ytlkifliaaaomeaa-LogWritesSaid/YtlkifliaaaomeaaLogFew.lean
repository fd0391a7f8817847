/-
  The document's Few of layer 8 where something is too much; what stands in records that were put together.
-/
import Derived.Test.YtlkifliaaaomeaaLogStands
namespace Go.Proofs.Ytlkifliaaaomeaa
open Go.RowKit
set_option linter.unusedVariables false
set_option linter.unnecessarySimpa false
set_option linter.unusedSimpArgs false
set_option maxRecDepth 100000

set_option maxHeartbeats 2000000 in
theorem lfew_no (a : Option Addr) (len cap n size : Nat) (zs : List ByteArray) (w : World) (hz : IsStrs w a len cap zs) (hn : n < 300) (hs : size < 10000) (hf : ¬ FewStrs zs n size) :
    Calls Try.prog 6 #[.slice a len cap, .int .i64 (n : Int), .int .i64 (size : Int)] w fun e w' => e = .returned (.bool false) ∧ w' = w := by
  have HZ := Lib.hid hz
  have hlm := hz.2.1
  unfold maxLen at hlm
  have hcase : (∃ i0, i0 < len ∧ i0 < 300 ∧ ¬ (zs.getD i0 ByteArray.empty).size ≤ size ∧ ∀ i, i < i0 → (zs.getD i ByteArray.empty).size ≤ size) ∨ (n < len ∧ ∀ i, i < len → i < 300 → (zs.getD i ByteArray.empty).size ≤ size) := by
    by_cases h : ∀ i, i < len → i < 300 → (zs.getD i ByteArray.empty).size ≤ size
    · refine .inr ⟨?_, h⟩
      have : ¬ zs.length ≤ n := fun h2 => hf ⟨fun i h3 h4 => h i (by rw [← hz.1]; exact h3) h4, h2⟩
      rw [hz.1] at this
      omega
    · left
      have key : ∀ k, (∀ i, i < k → i < len → i < 300 → (zs.getD i ByteArray.empty).size ≤ size) ∨ ∃ i0, i0 < len ∧ i0 < 300 ∧ ¬ (zs.getD i0 ByteArray.empty).size ≤ size ∧ ∀ i, i < i0 → (zs.getD i ByteArray.empty).size ≤ size := by
        intro k
        induction k with
        | zero => exact .inl fun i h0 => absurd h0 (by omega)
        | succ k ih =>
          rcases ih with ih | ih
          · by_cases hk : k < len ∧ k < 300 ∧ ¬ (zs.getD k ByteArray.empty).size ≤ size
            · exact .inr ⟨k, hk.1, hk.2.1, hk.2.2, fun i hi => ih i hi (by omega) (by omega)⟩
            · refine .inl fun i hi h1 h2 => ?_
              by_cases hik : i < k
              · exact ih i hik h1 h2
              · obtain rfl : i = k := by omega
                exact Classical.byContradiction fun h3 => hk ⟨h1, h2, h3⟩
          · exact .inr ih
      rcases key len with h2 | h2
      · exact absurd (fun i hi h3 => h2 i hi hi h3) h
      · exact h2
  have hsm := fun i (hi : i < len) => (by
    have := hz.2.2.1 (zs.getD i ByteArray.empty) (by rw [List.getD, List.getElem?_eq_getElem (by rw [hz.1]; exact hi)]; exact List.getElem_mem _)
    unfold maxLen at this; exact this : (zs.getD i ByteArray.empty).size ≤ 9223372036854775807)
  have HSM := Lib.hid hsm
  clear hz hf hsm
  rcases hcase with ⟨i0, h1, h2, h3, h4⟩ | ⟨h1, h2⟩
  · have H3 := Lib.hid h3
    have H4 := Lib.hid h4
    clear h3 h4
    go_enter Try.func6, Try.ntmps6
    go_wp2_with fail
    go_loopg [7] i0 (fun g s5 wx => ∃ i : Nat, i + g = i0 ∧ s5 = .int .i64 i ∧ wx = w)
    case atStart => exact ⟨0, by omega, rfl, rfl⟩
    case round =>
      obtain ⟨i, hig, rfl, rfl⟩ := hrel
      have hil : i < len := by omega
      have hiz : (i : Int) < (len : Int) := by omega
      have hi3 : (i : Int) < 300 := by omega
      obtain ⟨b, off, rfl, hbl, hop⟩ := HZ.out.2.2.2 (by omega)
      have c := hop i hil
      have hm := HSM.out i hil
      cases gk with
      | zero =>
        obtain rfl : i = i0 := by omega
        have hs := H3.out
        obtain ⟨z, hzz⟩ : ∃ z, z = zs.getD i ByteArray.empty := ⟨_, rfl⟩
        rw [← hzz] at c hs hm
        have hb2 : (size : Int) < (z.size : Int) := by omega
        have hb3 : decide (size < z.size) = true := by rw [decide_eq_true_iff]; omega
        clear hop hzz hbl hs
        go_wp2_with fail
        go_ret
        exact ⟨rfl, rfl⟩
      | succ g =>
        have hs := H4.out i (by omega)
        obtain ⟨z, hzz⟩ : ∃ z, z = zs.getD i ByteArray.empty := ⟨_, rfl⟩
        rw [← hzz] at c hs hm
        have hb2 : ¬ (size : Int) < (z.size : Int) := by omega
        have hb3 : decide (size < z.size) = false := by rw [decide_eq_false_iff_not]; omega
        clear hop hzz hbl hs
        go_wp2_with fail
        go_roundg g
        case measure => omega
        case rel => exact ⟨i + 1, by omega, by go_num, rfl⟩
  · have H2 := Lib.hid h2
    have hnz : ¬ ((len : Int) ≤ (n : Int)) := by omega
    have hnd : decide ((len : Int) ≤ (n : Int)) = false := by simpa using h1
    have hnd2 : decide (len ≤ n) = false := by simpa using h1
    clear h2
    go_enter Try.func6, Try.ntmps6
    go_wp2_with fail
    go_loopg [7] (min len 300) (fun g s5 wx => ∃ i : Nat, i + g = min len 300 ∧ s5 = .int .i64 i ∧ wx = w)
    case atStart => exact ⟨0, by omega, rfl, rfl⟩
    case round =>
      obtain ⟨i, hig, rfl, rfl⟩ := hrel
      cases gk with
      | zero =>
        have hcs : (i = len) ∨ (i < len ∧ i = 300) := by omega
        clear hig
        rcases hcs with rfl | ⟨h5, rfl⟩
        · go_wp2_with fail
          go_ret
          exact ⟨rfl, rfl⟩
        · have h6 : (300 : Int) < (len : Int) := by omega
          go_wp2_with fail
          go_ret
          exact ⟨rfl, rfl⟩
      | succ g =>
        have hil : i < len := by omega
        have hiz : (i : Int) < (len : Int) := by omega
        have hi3 : (i : Int) < 300 := by omega
        obtain ⟨b, off, rfl, hbl, hop⟩ := HZ.out.2.2.2 (by omega)
        have c := hop i hil
        have hs := H2.out i hil (by omega)
        have hm := HSM.out i hil
        obtain ⟨z, hzz⟩ : ∃ z, z = zs.getD i ByteArray.empty := ⟨_, rfl⟩
        rw [← hzz] at c hs hm
        have hb2 : ¬ (size : Int) < (z.size : Int) := by omega
        have hb3 : decide (size < z.size) = false := by rw [decide_eq_false_iff_not]; omega
        clear hop hzz hbl hs
        go_wp2_with fail
        go_roundg g
        case measure => omega
        case rel => exact ⟨i + 1, by omega, by go_num, rfl⟩

/-! What stands in records that were put together. -/
theorem fx2 (n : Nat) : fx n 2 true = [UInt8.ofNat (n / 256), UInt8.ofNat n] := by
  unfold fx cellsF fxAt pl
  simp [List.range_succ]
theorem sayN_rec {r rest : List UInt8} (h : r.length < 65536) : sayN (recB r ++ rest) = r.length := by
  unfold recB
  rw [fx2]
  simp only [List.cons_append, List.nil_append, sayN, List.getD_cons_zero, List.getD_cons_succ]
  simp only [UInt8.toNat_ofNat']
  omega
theorem nextR_rec {r rest : List UInt8} (h1 : 1 ≤ r.length) (h2 : r.length ≤ 4000) : nextR (recB r ++ rest) = some r := by
  have hl := recB_length r
  have hs := sayN_rec (r := r) (rest := rest) (by omega)
  have hd : ((recB r ++ rest).drop 6).take r.length = r := by
    unfold recB
    rw [List.append_assoc, List.drop_left' (by rw [List.length_append, lfx_length, lfx_length])]
    exact List.take_left
  have ht : (recB r ++ rest).take (6 + r.length) = recB r := List.take_left' (by omega)
  unfold nextR
  rw [if_neg (by rw [List.length_append]; omega), hs, if_neg (by rw [List.length_append]; omega), hd, ht, if_pos rfl]
theorem nextR_zeros (z : Nat) : nextR (List.replicate z 0) = none := by
  unfold nextR
  by_cases h : (List.replicate z (0 : UInt8)).length ≤ 6
  · rw [if_pos h]
  · rw [if_neg h, if_pos]
    left
    have hz : 6 < z := by simpa using h
    have e : ∀ j, j < z → (List.replicate z (0 : UInt8)).getD j 0 = 0 := fun j hj => by rw [List.getD, List.getElem?_replicate, if_pos hj]; rfl
    unfold sayN
    rw [e 0 (by omega), e 1 (by omega)]
    decide
/-- Records, one behind the other. -/
def recsB (l : List (List UInt8)) : List UInt8 := (l.map recB).flatten
theorem recsB_snoc (l : List (List UInt8)) (r : List UInt8) : recsB (l ++ [r]) = recsB l ++ recB r := by simp [recsB]
theorem recsB_length (l : List (List UInt8)) : (recsB l).length = endOf l := by
  induction l with
  | nil => rfl
  | cons r l ih =>
    rw [recsB, List.map_cons, List.flatten_cons, List.length_append, endOf, recB_length]
    have : ((l.map recB).flatten).length = endOf l := ih
    omega
theorem stands_recs (z : Nat) : ∀ (l : List (List UInt8)), (∀ r ∈ l, 1 ≤ r.length ∧ r.length ≤ 4000) → stands (recsB l ++ List.replicate z 0) = l
  | [], _ => by simpa [recsB] using stands_none (nextR_zeros z)
  | r :: l, h => by
    have h0 := h r (by simp)
    have e : recsB (r :: l) ++ List.replicate z 0 = recB r ++ (recsB l ++ List.replicate z 0) := by simp [recsB]
    rw [e, stands_some (nextR_rec h0.1 h0.2), List.drop_left' (by rw [recB_length]; omega), stands_recs z l (fun x hx => h x (by simp [hx]))]
/-- The end lies within the bytes. -/
theorem endOf_standsF : ∀ (k : Nat) (b : List UInt8), endOf (standsF k b) ≤ b.length
  | 0, b => Nat.zero_le _
  | k + 1, b => by
    rw [standsF]
    cases h : nextR b with
    | none => exact Nat.zero_le _
    | some r =>
      have hl := nextR_some h
      have hr := nextR_len h
      have := endOf_standsF k (b.drop (6 + r.length))
      rw [List.length_drop] at this
      simp only [endOf]
      omega
theorem endOf_stands (b : List UInt8) : endOf (stands b) ≤ b.length := endOf_standsF _ _
end Go.Proofs.Ytlkifliaaaomeaa
