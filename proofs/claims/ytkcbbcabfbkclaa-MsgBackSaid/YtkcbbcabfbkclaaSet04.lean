/-
  Joined: MsgRun, MsgBackMath.
-/
import Derived.Test.YtkcbbcabfbkclaaSet03
namespace Go.Proofs.Ytkcbbcabfbkclaa
open Go.RowKit
set_option linter.unusedVariables false
set_option linter.unnecessarySimpa false
set_option linter.unusedSimpArgs false
set_option maxRecDepth 100000

theorem numF_none {n : Nat} (h : numF n = none) : n = 0 := by
  unfold numF at h
  split at h
  · assumption
  · cases h
theorem ba_none {s : ByteArray} (h : s.size = 0) : s = ByteArray.empty := ByteArray.ext (Array.eq_empty_of_size_eq_zero h)
theorem int_none {n : Int} (h1 : in31 n = true) (h : numF n.toNat = none) : n = 0 := by
  have h2 := numF_none h
  have h3 := of_decide_eq_true h1
  omega
theorem upto_none {m : Mg} (hn : nums31 m = true) {k : Nat} (hk : k < 12) (h : fld m (k + 1) = none) : upto m (k + 1) = upto m k := by
  have hn' := hn
  unfold nums31 at hn'
  simp only [Bool.and_eq_true] at hn'
  obtain ⟨⟨⟨⟨c1, c2⟩, _⟩, _⟩, _⟩ := hn'
  have : k = 0 ∨ k = 1 ∨ k = 2 ∨ k = 3 ∨ k = 4 ∨ k = 5 ∨ k = 6 ∨ k = 7 ∨ k = 8 ∨ k = 9 ∨ k = 10 ∨ k = 11 := by omega
  rw [upto_put hk]
  rcases this with rfl | rfl | rfl | rfl | rfl | rfl | rfl | rfl | rfl | rfl | rfl | rfl
  · have e : m.frm = 0 := int_none c1 h
    show { upto m 0 with frm := m.frm } = upto m 0
    rw [e]; rfl
  · have e : m.to_ = 0 := int_none c2 h
    show { upto m 1 with to_ := m.to_ } = upto m 1
    rw [e]; rfl
  · rw [show fld m (2 + 1) = fld m 3 from rfl, fld_3] at h
    split at h
    · rename_i hz
      unfold txnZero at hz
      simp only [Bool.and_eq_true, beq_iff_eq] at hz
      show { upto m 2 with node := m.node, life := m.life, seq := m.seq } = upto m 2
      rw [hz.1.1, hz.1.2, hz.2]; rfl
    · cases h
  · have e : m.a = 0 := numF_none h
    show { upto m 3 with a := m.a } = upto m 3
    rw [e]; rfl
  · have e : m.b = 0 := numF_none h
    show { upto m 4 with b := m.b } = upto m 4
    rw [e]; rfl
  · rw [show fld m (5 + 1) = fld m 6 from rfl, fld_6] at h
    split at h
    · rename_i hz
      show { upto m 5 with key := m.key } = upto m 5
      rw [ba_none hz]; rfl
    · cases h
  · rw [show fld m (6 + 1) = fld m 7 from rfl, fld_7] at h
    split at h
    · cases h
    · rename_i hz
      show { upto m 6 with found := m.found } = upto m 6
      rw [show m.found = false by simpa using hz]; rfl
  · rw [show fld m (7 + 1) = fld m 8 from rfl, fld_8] at h
    split at h
    · rename_i hz
      unfold verZero at hz
      simp only [Bool.and_eq_true, beq_iff_eq, Bool.not_eq_true'] at hz
      show { upto m 7 with time := m.time, gone := m.gone, val := m.val } = upto m 7
      rw [hz.1.1, hz.1.2, ba_none hz.2]; rfl
    · cases h
  · rw [show fld m (8 + 1) = fld m 9 from rfl, fld_9] at h
    split at h
    · rename_i hz
      show { upto m 8 with ws := m.ws } = upto m 8
      rw [List.length_eq_zero_iff.1 hz]; rfl
    · cases h
  · rw [show fld m (9 + 1) = fld m 10 from rfl, fld_10] at h
    split at h
    · rename_i hz
      show { upto m 9 with note := m.note } = upto m 9
      rw [ba_none hz]; rfl
    · cases h
  · have e : m.hint = 0 := numF_none h
    show { upto m 10 with hint := m.hint } = upto m 10
    rw [e]; rfl
  · have e : m.must = 0 := numF_none h
    show { upto m 11 with must := m.must } = upto m 11
    rw [e]; rfl
theorem upto_cut {v : Int} {m : Mg} (hv : v = 1 ∨ v = 2 ∨ v = 3) (hm : v = 3 ∨ m.must = 0) : upto m (lastOf v) = cut v m := by
  rcases hv with rfl | rfl | rfl
  · have h0 : m.must = 0 := by rcases hm with h | h; · omega
                               · exact h
    obtain ⟨kind, frm, to_, node, life, seq, a, b, key, found, time, gone, val, ws, note, hint, must⟩ := m
    simp only at h0
    subst h0
    rfl
  · have h0 : m.must = 0 := by rcases hm with h | h; · omega
                               · exact h
    obtain ⟨kind, frm, to_, node, life, seq, a, b, key, found, time, gone, val, ws, note, hint, must⟩ := m
    simp only at h0
    subst h0
    rfl
  · rfl

theorem head_half (tag : Nat) : headT tag / 2 = tag := by unfold headT; split <;> omega
theorem head_odd (tag : Nat) : (headT tag % 2 == 1) = (tag == 12) := by
  unfold headT
  split
  · rename_i h; subst h; rfl
  · rename_i h
    rw [show (tag == 12) = false by rw [beq_eq_false_iff_ne]; exact h]
    rw [beq_eq_false_iff_ne]
    omega
/-- The fields that the version has. -/
theorem run_known {m : Mg} (hn : nums31 m = true) (hf : m.fits) (hw : m.few) (h8 : m.ws.length ≤ 8) (hb : ∀ k t, fld m k = some t → t.length < 18446744073709551616) {last : Nat} (hl : last ≤ 12) :
    ∀ (k : Nat) (R : List UInt8), k ≤ last → ∃ p, p ≤ k ∧ dAll last ⟨0, upto m 0, 0, false⟩ (fldsB m k ++ R) = dAll last ⟨p, upto m k, 0, false⟩ R
  | 0, R, _ => ⟨0, Nat.le_refl _, rfl⟩
  | k + 1, R, hk => by
    obtain ⟨p, hp, e⟩ := run_known hn hf hw h8 hb hl k (fldB m (k + 1) ++ R) (by omega)
    have e0 : fldsB m (k + 1) ++ R = fldsB m k ++ (fldB m (k + 1) ++ R) := by rw [fldsB, List.append_assoc]
    rw [e0, e]
    cases h : fld m (k + 1) with
    | none =>
      have : fldB m (k + 1) = [] := by unfold fldB; rw [h]
      rw [this, List.nil_append, upto_none hn (by omega) h]
      exact ⟨p, by omega, rfl⟩
    | some t =>
      have : fldB m (k + 1) = ub (headT (k + 1)) ++ (ub t.length ++ t) := by unfold fldB; rw [h]; rfl
      rw [this]
      have h1 := oneS_enc (r := R) (h := headT (k + 1)) (t := t) (by unfold headT; split <;> omega) (hb _ _ h)
      have h2 : dstep last ⟨p, upto m k, 0, false⟩ (headT (k + 1)) t = some ⟨k + 1, upto m (k + 1), 0, false⟩ := by
        unfold dstep
        rw [head_half, if_neg (by simp only; omega), if_neg (by omega), if_neg (by simp), set_fld hn hf hw h8 (by omega) (by omega) h, upto_put (by omega)]
      exact ⟨k + 1, Nat.le_refl _, dAll_step h1 h2⟩
/-- A field that the version hasn't. -/
theorem run_unknown {m M : Mg} {last tag p l : Nat} {c : Bool} {R : List UInt8} (hb : ∀ k t, fld m k = some t → t.length < 18446744073709551616) (h1 : last < tag) (h2 : p < tag) (h3 : tag ≤ 12) :
    ∃ p', p' ≤ tag ∧ dAll last ⟨p, M, l, c⟩ (fldB m tag ++ R) = dAll last ⟨p', M, l + (if (fld m tag).isSome then 1 else 0), c || ((fld m tag).isSome && tag == 12)⟩ R := by
  cases h : fld m tag with
  | none =>
    have : fldB m tag = [] := by unfold fldB; rw [h]
    rw [this, List.nil_append]
    exact ⟨p, by omega, by simp⟩
  | some t =>
    have : fldB m tag = ub (headT tag) ++ (ub t.length ++ t) := by unfold fldB; rw [h]; rfl
    rw [this]
    have e1 := oneS_enc (r := R) (h := headT tag) (t := t) (by unfold headT; split <;> omega) (hb _ _ h)
    have e2 : dstep last ⟨p, M, l, c⟩ (headT tag) t = some ⟨tag, M, l + 1, c || tag == 12⟩ := by
      unfold dstep
      rw [head_half, if_neg (by simp only; omega), if_pos h1, head_odd]
    exact ⟨tag, Nat.le_refl _, by rw [dAll_step e1 e2]; simp⟩
end Go.Proofs.Ytkcbbcabfbkclaa

namespace Go.Proofs.Ytkcbbcabfbkclaa
open Go.RowKit
set_option linter.unusedVariables false
set_option linter.unnecessarySimpa false
set_option linter.unusedSimpArgs false
set_option maxRecDepth 100000

theorem fldsB_mono (m : Mg) : ∀ {j k : Nat}, j ≤ k → (fldsB m j).length ≤ (fldsB m k).length
  | j, 0, h => by obtain rfl : j = 0 := by omega
                  exact Nat.le_refl _
  | j, k + 1, h => by
    by_cases e : j = k + 1
    · subst e; exact Nat.le_refl _
    · have := fldsB_mono m (j := j) (k := k) (by omega)
      rw [fldsB, List.length_append]
      omega
theorem fldB_le (m : Mg) {k : Nat} (h1 : 1 ≤ k) (h2 : k ≤ 12) : (fldB m k).length ≤ (fldsB m 12).length := by
  obtain ⟨j, rfl⟩ : ∃ j, k = j + 1 := ⟨k - 1, by omega⟩
  have := fldsB_mono m (j := j + 1) (k := 12) h2
  rw [fldsB, List.length_append] at this
  omega
theorem fld_range {m : Mg} {k : Nat} {t : List UInt8} (h : fld m k = some t) : 1 ≤ k ∧ k ≤ 12 := by
  match k, h with
  | 0, h => cases h
  | 1, _ => omega
  | 2, _ => omega
  | 3, _ => omega
  | 4, _ => omega
  | 5, _ => omega
  | 6, _ => omega
  | 7, _ => omega
  | 8, _ => omega
  | 9, _ => omega
  | 10, _ => omega
  | 11, _ => omega
  | 12, _ => omega
  | n + 13, h => cases h
theorem fld_text {m : Mg} {k : Nat} {t : List UInt8} (h : fld m k = some t) : t.length ≤ (fldsB m 12).length := by
  obtain ⟨h1, h2⟩ := fld_range h
  have := fldB_le m h1 h2
  unfold fldB at this
  rw [h] at this
  simp only [encT, List.length_append] at this
  omega
theorem right_parts {m : Mg} (h : rightB m = true) : nums31 m = true ∧ kindOK m = true ∧ verOK m = true ∧ m.ws.length ≤ 8 ∧ m.ws.all wrOK = true ∧ (msgB m 12).length ≤ 4000 := by
  unfold rightB at h
  simp only [Bool.and_eq_true, decide_eq_true_eq] at h
  exact ⟨h.1, h.2.1, h.2.2.1, h.2.2.2.1, h.2.2.2.2.1, h.2.2.2.2.2⟩
theorem right_of {m : Mg} (h1 : nums31 m = true) (h2 : kindOK m = true) (h3 : verOK m = true) (h4 : m.ws.length ≤ 8) (h5 : m.ws.all wrOK = true) (h6 : (msgB m 12).length ≤ 4000) : rightB m = true := by
  unfold rightB
  rw [h1, h2, h3, h5, decide_eq_true h4, decide_eq_true h6]
  rfl
theorem flds_len {m : Mg} (h : rightB m = true) : (fldsB m 12).length ≤ 4000 := by
  have := (right_parts h).2.2.2.2.2
  unfold msgB at this
  rw [List.length_append] at this
  omega

theorem upto_fld (m : Mg) {k : Nat} (hk : k = 9 ∨ k = 10 ∨ k = 12) (tag : Nat) : fld (upto m k) tag = fld m tag ∨ fld (upto m k) tag = none := by
  rcases hk with rfl | rfl | rfl
  all_goals
    match tag with
    | 0 => exact .inl rfl
    | 1 => exact .inl rfl
    | 2 => exact .inl rfl
    | 3 => exact .inl rfl
    | 4 => exact .inl rfl
    | 5 => exact .inl rfl
    | 6 => exact .inl rfl
    | 7 => exact .inl rfl
    | 8 => exact .inl rfl
    | 9 => exact .inl rfl
    | 10 => first | exact .inl rfl | exact .inr rfl
    | 11 => first | exact .inl rfl | exact .inr rfl
    | 12 => first | exact .inl rfl | exact .inr rfl
    | n + 13 => exact .inl rfl
theorem upto_flds (m : Mg) {k : Nat} (hk : k = 9 ∨ k = 10 ∨ k = 12) : ∀ j, (fldsB (upto m k) j).length ≤ (fldsB m j).length
  | 0 => Nat.le_refl _
  | j + 1 => by
    have ih := upto_flds m hk j
    rw [fldsB, fldsB, List.length_append, List.length_append]
    rcases upto_fld m hk (j + 1) with e | e
    · have : fldB (upto m k) (j + 1) = fldB m (j + 1) := by unfold fldB; rw [e]
      rw [this]; omega
    · have : fldB (upto m k) (j + 1) = [] := by unfold fldB; rw [e]
      rw [this]
      show _ + 0 ≤ _
      omega
theorem upto_right {m : Mg} (h : rightB m = true) {k : Nat} (hk : k = 9 ∨ k = 10 ∨ k = 12) : rightB (upto m k) = true := by
  obtain ⟨h1, h2, h3, h4, h5, h6⟩ := right_parts h
  have hl := upto_flds m hk 12
  have e1 : nums31 (upto m k) = nums31 m := by rcases hk with rfl | rfl | rfl <;> rfl
  have e2 : kindOK (upto m k) = kindOK m := rfl
  have e3 : verOK (upto m k) = verOK m := by rcases hk with rfl | rfl | rfl <;> rfl
  have e4 : (upto m k).ws = m.ws := by rcases hk with rfl | rfl | rfl <;> rfl
  have e5 : (msgB (upto m k) 12).length ≤ (msgB m 12).length := by
    unfold msgB
    rw [List.length_append, List.length_append]
    have : (upto m k).kind = m.kind := rfl
    rw [this]
    omega
  exact right_of (e1.trans h1) (e2.trans h2) (e3.trans h3) (by rw [e4]; exact h4) (by rw [e4]; exact h5) (by omega)

theorem some_10 (m : Mg) : (fld m 10).isSome = !(m.note.size == 0) := by
  rw [fld_10]
  by_cases h : m.note.size = 0
  · rw [if_pos h]; simp [h]
  · rw [if_neg h]; simp [h]
theorem some_num (n : Nat) : (numF n).isSome = !(n == 0) := by
  unfold numF
  by_cases h : n = 0
  · rw [if_pos h]; simp [h]
  · rw [if_neg h]; simp [h]
theorem some_11 (m : Mg) : (fld m 11).isSome = !(m.hint == 0) := some_num m.hint
theorem some_12 (m : Mg) : (fld m 12).isSome = !(m.must == 0) := some_num m.must

/-- How many fields are left out, from one version down to another. -/
def lostB (m : Mg) (lo hi : Int) : Nat := (if m.note.size ≠ 0 ∧ lo < 2 ∧ 2 ≤ hi then 1 else 0) + (if m.hint ≠ 0 ∧ lo < 3 ∧ hi = 3 then 1 else 0) + (if m.must ≠ 0 ∧ lo < 3 ∧ hi = 3 then 1 else 0)
theorem ite_not (a b : Prop) [Decidable a] [Decidable b] (h : a ↔ b) : (if a then 1 else 0 : Nat) = if b then 1 else 0 := by
  by_cases hb : b
  · rw [if_pos hb, if_pos (h.2 hb)]
  · rw [if_neg hb, if_neg (fun ha => hb (h.1 ha))]

theorem run_all {m : Mg} (hr : rightB m = true) (hf : m.fits) (hw : m.few) {lo hi : Int} (hlo : lo = 1 ∨ lo = 2 ∨ lo = 3) (hhi : hi = 1 ∨ hi = 2 ∨ hi = 3) (hle : lo ≤ hi) (R : List UInt8) :
    ∃ p, p ≤ lastOf hi ∧ dAll (lastOf lo) ⟨0, upto m 0, 0, false⟩ (fldsB m (lastOf hi) ++ R) = dAll (lastOf lo) ⟨p, upto m (lastOf lo), lostB m lo hi, decide (lo < 3 ∧ hi = 3 ∧ m.must ≠ 0)⟩ R := by
  obtain ⟨hn, _, _, h8, _, _⟩ := right_parts hr
  have hfl := flds_len hr
  have hb : ∀ k t, fld m k = some t → t.length < 18446744073709551616 := fun k t h => by have := fld_text h; omega
  have K := fun {last : Nat} (hl : last ≤ 12) R => run_known (m := m) hn hf hw h8 hb hl last R (Nat.le_refl _)
  have s10 := some_10 m
  have s11 := some_11 m
  have s12 := some_12 m
  have hsame : ∀ v : Int, (v = 1 ∨ v = 2 ∨ v = 3) → lostB m v v = 0 ∧ decide (v < 3 ∧ v = 3 ∧ m.must ≠ 0) = false := fun v hv => by
    refine ⟨?_, decide_eq_false (by omega)⟩
    unfold lostB
    rw [if_neg (by omega), if_neg (by omega), if_neg (by omega)]
  by_cases he : lo = hi
  · subst he
    obtain ⟨p, hp, e⟩ := K (last := lastOf lo) (by rcases hlo with rfl | rfl | rfl <;> decide) R
    refine ⟨p, hp, ?_⟩
    rw [e, (hsame lo hlo).1, (hsame lo hlo).2]
  · have h3 : (lo = 1 ∧ hi = 2) ∨ (lo = 1 ∧ hi = 3) ∨ (lo = 2 ∧ hi = 3) := by omega
    rcases h3 with ⟨rfl, rfl⟩ | ⟨rfl, rfl⟩ | ⟨rfl, rfl⟩
    · have e0 : fldsB m (lastOf 2) ++ R = fldsB m 9 ++ (fldB m 10 ++ R) := by show fldsB m 10 ++ R = _; rw [fldsB, List.append_assoc]
      obtain ⟨p, hp, e⟩ := K (last := 9) (by decide) (fldB m 10 ++ R)
      obtain ⟨p1, hp1, e1⟩ := run_unknown (m := m) (M := upto m 9) (last := 9) (tag := 10) (p := p) (l := 0) (c := false) (R := R) hb (by decide) (by omega) (by decide)
      refine ⟨p1, hp1, ?_⟩
      rw [e0]
      show dAll 9 _ _ = dAll 9 _ _
      rw [e, e1, s10]
      have a1 : 0 + (if (!(m.note.size == 0)) = true then 1 else 0) = lostB m 1 2 := by
        unfold lostB
        rw [if_neg (c := m.hint ≠ 0 ∧ (1 : Int) < 3 ∧ (2 : Int) = 3) (by omega), if_neg (c := m.must ≠ 0 ∧ (1 : Int) < 3 ∧ (2 : Int) = 3) (by omega), Nat.zero_add, Nat.add_zero]
        exact ite_not _ _ (by simp)
      rw [a1]
      congr 2
      simp
    · have e0 : fldsB m (lastOf 3) ++ R = fldsB m 9 ++ (fldB m 10 ++ (fldB m 11 ++ (fldB m 12 ++ R))) := by show fldsB m 12 ++ R = _; simp only [fldsB, List.append_assoc]
      obtain ⟨p, hp, e⟩ := K (last := 9) (by decide) (fldB m 10 ++ (fldB m 11 ++ (fldB m 12 ++ R)))
      obtain ⟨p1, hp1, e1⟩ := run_unknown (m := m) (M := upto m 9) (last := 9) (tag := 10) (p := p) (l := 0) (c := false) (R := fldB m 11 ++ (fldB m 12 ++ R)) hb (by decide) (by omega) (by decide)
      obtain ⟨p2, hp2, e2⟩ := run_unknown (m := m) (M := upto m 9) (last := 9) (tag := 11) (p := p1) (l := 0 + (if (fld m 10).isSome then 1 else 0)) (c := false || ((fld m 10).isSome && 10 == 12)) (R := fldB m 12 ++ R) hb (by decide) (by omega) (by decide)
      obtain ⟨p3, hp3, e3⟩ := run_unknown (m := m) (M := upto m 9) (last := 9) (tag := 12) (p := p2) (l := 0 + (if (fld m 10).isSome then 1 else 0) + (if (fld m 11).isSome then 1 else 0)) (c := false || ((fld m 10).isSome && 10 == 12) || ((fld m 11).isSome && 11 == 12)) (R := R) hb (by decide) (by omega) (by decide)
      refine ⟨p3, hp3, ?_⟩
      rw [e0]
      show dAll 9 _ _ = dAll 9 _ _
      rw [e, e1, e2, e3, s10, s11, s12]
      have a1 : 0 + (if (!(m.note.size == 0)) = true then 1 else 0) + (if (!(m.hint == 0)) = true then 1 else 0) + (if (!(m.must == 0)) = true then 1 else 0) = lostB m 1 3 := by
        unfold lostB
        rw [Nat.zero_add, ite_not _ (m.note.size ≠ 0 ∧ (1 : Int) < 2 ∧ (2 : Int) ≤ 3) (by simp), ite_not ((!(m.hint == 0)) = true) (m.hint ≠ 0 ∧ (1 : Int) < 3 ∧ (3 : Int) = 3) (by simp), ite_not ((!(m.must == 0)) = true) (m.must ≠ 0 ∧ (1 : Int) < 3 ∧ (3 : Int) = 3) (by simp)]
      rw [a1]
      congr 2
      simp
      rfl
    · have e0 : fldsB m (lastOf 3) ++ R = fldsB m 10 ++ (fldB m 11 ++ (fldB m 12 ++ R)) := by show fldsB m 12 ++ R = _; rw [fldsB, fldsB]; simp only [List.append_assoc]
      obtain ⟨p, hp, e⟩ := K (last := 10) (by decide) (fldB m 11 ++ (fldB m 12 ++ R))
      obtain ⟨p2, hp2, e2⟩ := run_unknown (m := m) (M := upto m 10) (last := 10) (tag := 11) (p := p) (l := 0) (c := false) (R := fldB m 12 ++ R) hb (by decide) (by omega) (by decide)
      obtain ⟨p3, hp3, e3⟩ := run_unknown (m := m) (M := upto m 10) (last := 10) (tag := 12) (p := p2) (l := 0 + (if (fld m 11).isSome then 1 else 0)) (c := false || ((fld m 11).isSome && 11 == 12)) (R := R) hb (by decide) (by omega) (by decide)
      refine ⟨p3, hp3, ?_⟩
      rw [e0]
      show dAll 10 _ _ = dAll 10 _ _
      rw [e, e2, e3, s11, s12]
      have a1 : 0 + (if (!(m.hint == 0)) = true then 1 else 0) + (if (!(m.must == 0)) = true then 1 else 0) = lostB m 2 3 := by
        unfold lostB
        rw [if_neg (c := m.note.size ≠ 0 ∧ (2 : Int) < 2 ∧ (2 : Int) ≤ 3) (by omega), ite_not ((!(m.hint == 0)) = true) (m.hint ≠ 0 ∧ (2 : Int) < 3 ∧ (3 : Int) = 3) (by simp), ite_not ((!(m.must == 0)) = true) (m.must ≠ 0 ∧ (2 : Int) < 3 ∧ (3 : Int) = 3) (by simp)]
      rw [a1]
      congr 2
      simp
      rfl
end Go.Proofs.Ytkcbbcabfbkclaa
