/-
  Joined: MsgLaws, MsgInvAll.
-/
import Derived.Test.YtkcbbcabfbkclaaSet04
import Derived.Test.YtkcbbcabfbkclaaSet07
import Derived.Test.YtkcbbcabfbkclaaMsgInv
namespace Go.Proofs.Ytkcbbcabfbkclaa
open Go.RowKit
set_option linter.unusedVariables false
set_option linter.unnecessarySimpa false
set_option linter.unusedSimpArgs false
set_option maxRecDepth 100000

/-- What the end of the fields gives. -/
def finB (x : Option Dst) : Mg × Nat × Int := match x with
  | none => (mg0, 0, 2)
  | some s => if rightB s.m = false then (mg0, 0, 2) else if s.crit = true then (mg0, 0, 4) else (s.m, s.left, 0)
theorem decB_fin {v : Int} {b : List UInt8} {kind k : Nat} (h1 : ¬ lastOf v = 0) (h2 : b.length ≤ 4000) (h3 : tk b = some (kind, k)) : decB v b = finB (dAll (lastOf v) (dst0 kind) (b.drop k)) := by
  unfold decB
  rw [if_neg h1, if_neg (by omega), h3]
  simp only
  unfold finB
  cases dAll (lastOf v) (dst0 kind) (b.drop k) <;> rfl
theorem last_ne {v : Int} (h : v = 1 ∨ v = 2 ∨ v = 3) : ¬ lastOf v = 0 := by rcases h with rfl | rfl | rfl <;> decide
theorem last_912 {v : Int} (h : v = 1 ∨ v = 2 ∨ v = 3) : lastOf v = 9 ∨ lastOf v = 10 ∨ lastOf v = 12 := by
  rcases h with rfl | rfl | rfl
  · exact .inl rfl
  · exact .inr (.inl rfl)
  · exact .inr (.inr rfl)
theorem kind_of {m : Mg} (h : rightB m = true) : 1 ≤ m.kind ∧ m.kind ≤ 9 := of_decide_eq_true (right_parts h).2.1

theorem dec_front {m : Mg} (hr : rightB m = true) (hf : m.fits) (hw : m.few) {lo hi : Int} (hlo : lo = 1 ∨ lo = 2 ∨ lo = 3) (hhi : hi = 1 ∨ hi = 2 ∨ hi = 3) (hle : lo ≤ hi) (R : List UInt8) (hl : (msgB m (lastOf hi) ++ R).length ≤ 4000) :
    ∃ p, p ≤ lastOf hi ∧ decB lo (msgB m (lastOf hi) ++ R) = finB (dAll (lastOf lo) ⟨p, upto m (lastOf lo), lostB m lo hi, decide (lo < 3 ∧ hi = 3 ∧ m.must ≠ 0)⟩ R) := by
  obtain ⟨p, hp, e⟩ := run_all hr hf hw hlo hhi hle R
  have hk := kind_of hr
  have hs : msgB m (lastOf hi) ++ R = ub m.kind.toNat ++ (fldsB m (lastOf hi) ++ R) := by unfold msgB; rw [List.append_assoc]
  have h3 : tk (msgB m (lastOf hi) ++ R) = some (m.kind.toNat, (ub m.kind.toNat).length) := by rw [hs]; exact tk_front' _ _ (by omega)
  refine ⟨p, hp, ?_⟩
  rw [decB_fin (last_ne hlo) hl h3, hs, List.drop_left, ← e]
  have : dst0 m.kind.toNat = ⟨0, upto m 0, 0, false⟩ := by
    unfold dst0
    rw [show ((m.kind.toNat : Nat) : Int) = m.kind by omega]
    rfl
  rw [this]
theorem msgB_le (m : Mg) {v : Int} (h : v = 1 ∨ v = 2 ∨ v = 3) : (msgB m (lastOf v)).length ≤ (msgB m 12).length := by
  have := fldsB_mono m (j := lastOf v) (k := 12) (by rcases h with rfl | rfl | rfl <;> decide)
  unfold msgB
  rw [List.length_append, List.length_append]
  omega
/-- A message's bytes are decoded, in the version or a lesser one. -/
theorem dec_enc {m : Mg} (hr : rightB m = true) (hf : m.fits) (hw : m.few) {lo hi : Int} (hlo : lo = 1 ∨ lo = 2 ∨ lo = 3) (hhi : hi = 1 ∨ hi = 2 ∨ hi = 3) (hle : lo ≤ hi) (hmu : hi = 3 ∨ m.must = 0) :
    decB lo (msgB m (lastOf hi)) = if lo < 3 ∧ m.must ≠ 0 then (mg0, 0, 4) else (cut lo m, lostB m lo hi, 0) := by
  have hl := msgB_le m hhi
  have h4 := (right_parts hr).2.2.2.2.2
  obtain ⟨p, _, e⟩ := dec_front hr hf hw hlo hhi hle [] (by rw [List.append_nil]; omega)
  rw [List.append_nil] at e
  rw [e, dAll_nil]
  unfold finB
  simp only
  rw [if_neg (by rw [upto_right hr (last_912 hlo)]; decide)]
  by_cases hc : lo < 3 ∧ m.must ≠ 0
  · rw [if_pos hc, decide_eq_true (show lo < 3 ∧ hi = 3 ∧ m.must ≠ 0 by
      rcases hmu with h | h
      · exact ⟨hc.1, h, hc.2⟩
      · exact absurd h hc.2), if_pos rfl]
  · rw [if_neg hc, decide_eq_false (fun h => hc ⟨h.1, h.2.2⟩), if_neg (by decide), upto_cut hlo (by omega)]
/-- One byte behind a message is none's. -/
theorem dec_behind {m : Mg} (hr : rightB m = true) (hf : m.fits) (hw : m.few) (c : UInt8) : (decB 3 (msgB m 12 ++ [c])).2.2 ≠ 0 := by
  by_cases hl : (msgB m (lastOf 3) ++ [c]).length ≤ 4000
  · obtain ⟨p, _, e⟩ := dec_front hr hf hw (lo := 3) (hi := 3) (by omega) (by omega) (by omega) [c] hl
    have h1 : oneS [c] = none := by
      unfold oneS
      cases h : tk [c] with
      | none => rfl
      | some q =>
        obtain ⟨n, k⟩ := q
        have := tk_some h
        have hk : k = 1 := by simp at this; omega
        subst hk
        rfl
    rw [dAll_none (by simp) h1] at e
    show (decB 3 (msgB m (lastOf 3) ++ [c])).2.2 ≠ 0
    rw [e]
    unfold finB
    decide
  · unfold decB
    rw [if_neg (by decide), if_pos (by show 4000 < (msgB m (lastOf 3) ++ [c]).length; omega)]
    decide
theorem dec_empty : (decB 3 []).2.2 ≠ 0 := by
  unfold decB
  rw [if_neg (by decide), if_neg (by simp)]
  decide
/-- Fields more, of no version's tags. -/
theorem ex_run {last : Nat} (hlast : last ≤ 12) : ∀ (l : List Ex) (t p : Nat) (M : Mg) (L : Nat) (C : Bool), p ≤ t → last ≤ t → t + 101 * l.length < 1000000 → (∀ x ∈ l, x.2.size < 18446744073709551616) →
    ∃ p', dAll last ⟨p, M, L, C⟩ (exB t l) = some ⟨p', M, L + l.length, C || exC l⟩
  | [], t, p, M, L, C, _, _, _, _ => ⟨p, by show dAll last _ [] = _; rw [dAll_nil]; simp [exC]⟩
  | x :: l, t, p, M, L, C, h1, h2, h3, h4 => by
    obtain ⟨hd, tx⟩ := x
    have h5 := h4 (hd, tx) (by simp)
    simp only at h5
    rw [List.length_cons] at h3
    obtain ⟨t', ht'⟩ : ∃ t', t' = t + (1 + hd / 2 % 100) := ⟨_, rfl⟩
    have e0 : exB t ((hd, tx) :: l) = ub (2 * t' + hd % 2) ++ (ub tx.data.toList.length ++ tx.data.toList) ++ exB t' l := by
      rw [ht', exB]
      simp only [txB, Lib.size_eq]
    have e1 := oneS_enc (r := exB t' l) (h := 2 * t' + hd % 2) (t := tx.data.toList) (by omega) (by rw [← Lib.size_eq]; exact h5)
    have e2 : dstep last ⟨p, M, L, C⟩ (2 * t' + hd % 2) tx.data.toList = some ⟨t', M, L + 1, C || hd % 2 == 1⟩ := by
      unfold dstep
      rw [show (2 * t' + hd % 2) / 2 = t' by omega, show (2 * t' + hd % 2) % 2 = hd % 2 by omega, if_neg (by simp only; omega), if_pos (by omega)]
    obtain ⟨p', e3⟩ := ex_run hlast l t' t' M (L + 1) (C || hd % 2 == 1) (Nat.le_refl _) (by omega) (by omega) (fun y hy => h4 y (by simp [hy]))
    refine ⟨p', ?_⟩
    rw [e0, dAll_step e1 e2, e3]
    congr 2
    · rw [List.length_cons]; omega
    · simp [exC, Bool.or_assoc]
/-- A message with fields more behind it. -/
theorem dec_more {m : Mg} (hr : rightB m = true) (hf : m.fits) (hw : m.few) {v : Int} (hv : v = 1 ∨ v = 2 ∨ v = 3) (hmu : v = 3 ∨ m.must = 0) (l : List Ex) (hl : l.length ≤ 6) (hx : ∀ x ∈ l, x.2.size ≤ 50) (hlen : (msgB m (lastOf v) ++ exB 12 l).length ≤ 4000) :
    decB v (msgB m (lastOf v) ++ exB 12 l) = if exC l = true then (mg0, 0, 4) else (cut v m, l.length, 0) := by
  obtain ⟨p, hp, e⟩ := dec_front hr hf hw hv hv (Int.le_refl _) (exB 12 l) hlen
  have h12 : lastOf v ≤ 12 := by rcases hv with rfl | rfl | rfl <;> decide
  have hl0 : lostB m v v = 0 := by unfold lostB; rw [if_neg (by omega), if_neg (by omega), if_neg (by omega)]
  obtain ⟨p', e2⟩ := ex_run h12 l 12 p (upto m (lastOf v)) 0 false (by omega) h12 (by omega) (fun x h => by have := hx x h; omega)
  rw [e, hl0, decide_eq_false (by omega), e2]
  unfold finB
  simp only
  rw [if_neg (by rw [upto_right hr (last_912 hv)]; decide), Bool.false_or, Nat.zero_add, upto_cut hv (by omega)]
theorem exB_len : ∀ (l : List Ex) (t : Nat), t + 101 * l.length < 8000 → (∀ x ∈ l, x.2.size ≤ 50) → (exB t l).length ≤ 60 * l.length
  | [], _, _, _ => Nat.le_refl _
  | x :: l, t, h1, h2 => by
    have h3 := h2 x (by simp)
    rw [List.length_cons] at h1
    have ih := exB_len l (t + (1 + x.1 / 2 % 100)) (by omega) (fun y hy => h2 y (by simp [hy]))
    have u1 := ub_len 1 (2 * (t + (1 + x.1 / 2 % 100)) + x.1 % 2) (by omega)
    have u2 := ub_len 0 x.2.size (by omega)
    rw [exB]
    simp only [txB, List.length_append, List.length_cons, ← Lib.size_eq]
    omega
end Go.Proofs.Ytkcbbcabfbkclaa

namespace Go.Proofs.Ytkcbbcabfbkclaa
open Go.RowKit
set_option linter.unusedVariables false
set_option linter.unnecessarySimpa false
set_option linter.unusedSimpArgs false
set_option maxRecDepth 100000

theorem wsB_mem {l : List Wr} {x : Wr} (h : x ∈ l) : x.key.size + x.val.size ≤ (wsB l).length := by
  induction l with
  | nil => cases h
  | cons y l ih =>
    have e : wsB (y :: l) = wrB y ++ wsB l := rfl
    rw [e, List.length_append]
    rcases List.mem_cons.1 h with rfl | h
    · simp only [wrB, txB, bl, List.length_append, List.length_cons, List.length_nil, ← Lib.size_eq]
      omega
    · have := ih h
      omega
theorem right_few {m : Mg} (h : rightB m = true) : m.few := by
  have hl := flds_len h
  have h8 := (right_parts h).2.2.2.1
  refine ⟨?_, ?_, ?_, by omega, fun x hx => ?_⟩
  · by_cases h0 : m.key.size = 0
    · omega
    · have := fld_text (m := m) (k := 6) (t := m.key.data.toList) (by rw [fld_6, if_neg h0])
      rw [← Lib.size_eq] at this
      omega
  · by_cases h0 : m.note.size = 0
    · omega
    · have := fld_text (m := m) (k := 10) (t := m.note.data.toList) (by rw [fld_10, if_neg h0])
      rw [← Lib.size_eq] at this
      omega
  · cases h0 : verZero m
    · have := fld_text (m := m) (k := 8) (by rw [fld_8, if_neg (by rw [h0]; decide)])
      simp only [List.length_append] at this
      rw [← Lib.size_eq m.val] at this
      omega
    · unfold verZero at h0
      simp only [Bool.and_eq_true, beq_iff_eq] at h0
      omega
  · have h0 : ¬ m.ws.length = 0 := fun e => by rw [List.length_eq_zero_iff.1 e] at hx; cases hx
    have := fld_text (m := m) (k := 9) (by rw [fld_9, if_neg h0])
    rw [List.length_append] at this
    have := wsB_mem hx
    omega
theorem fld_start (kind : Nat) (j : Nat) : fld (dst0 kind).m j = none := by
  match j with
  | 0 => rfl
  | 1 => rfl
  | 2 => rfl
  | 3 => rfl
  | 4 => rfl
  | 5 => rfl
  | 6 => rfl
  | 7 => rfl
  | 8 => rfl
  | 9 => rfl
  | 10 => rfl
  | 11 => rfl
  | 12 => rfl
  | k + 13 => rfl
theorem start_fits {kind : Nat} (h : kind ≤ 9) : (dst0 kind).m.fits := by
  have f := mg0_fits
  exact ⟨⟨by show -9223372036854775808 ≤ (kind : Int); omega, by show (kind : Int) ≤ 9223372036854775807; omega⟩, f.frm, f.to_, f.node, f.life, f.seq, f.a, f.b, f.time, f.hint, f.must⟩

theorem proj_ok {v : Int} {m : Mg} (h1 : ¬ lastOf v = 0) (hr : rightB m = true) (hm : ¬ (v < 3 ∧ m.must ≠ 0)) : projB v m = (cut v m, 0) := by
  unfold projB
  rw [if_neg (by rw [hr]; rintro (h | h); exact h1 h; cases h), if_neg hm]
theorem enc_ok {v : Int} {m : Mg} (h1 : ¬ lastOf v = 0) (hr : rightB m = true) (hm : ¬ (v < 3 ∧ m.must ≠ 0)) : encB v m = (msgB m (lastOf v), 0) := by
  unfold encB
  rw [proj_ok h1 hr hm, if_pos rfl]
/-- What goes with an encoding. -/
theorem enc_is {v : Int} {m : Mg} (h : (encB v m).2 = 0) : ¬ lastOf v = 0 ∧ rightB m = true ∧ ¬ (v < 3 ∧ m.must ≠ 0) := by
  have hp : (projB v m).2 = 0 := by
    unfold encB at h
    split at h
    · assumption
    · rename_i h2; exact absurd h h2
  unfold projB at hp
  split at hp
  · cases hp
  · rename_i h1
    split at hp
    · cases hp
    · rename_i h2
      exact ⟨fun e => h1 (.inl e), by cases hr : rightB m; exact absurd (.inr hr) h1; rfl, h2⟩

/-- What a decoded message is. -/
structure DecIs (v : Int) (b : List UInt8) (m : Mg) (left : Nat) : Prop where
  ver : ¬ lastOf v = 0
  right : rightB m = true
  fits : m.fits
  few : m.few
  enc : encB v m = (msgB m (lastOf v), 0)
  len : (msgB m (lastOf v)).length ≤ b.length
  same : left = 0 → b = msgB m (lastOf v)
theorem lastOf_le (v : Int) : lastOf v ≤ 12 := by unfold lastOf; split <;> (try split) <;> (try split) <;> omega
theorem dec_is {v : Int} {b : List UInt8} {m : Mg} {left : Nat} (h : decB v b = (m, left, 0)) : DecIs v b m left := by
  have h1 : ¬ lastOf v = 0 := by
    intro e
    unfold decB at h
    rw [if_pos e] at h
    simp at h
  have h2 : ¬ 4000 < b.length := by
    intro e
    unfold decB at h
    rw [if_neg h1, if_pos e] at h
    simp at h
  cases h3 : tk b with
  | none =>
    unfold decB at h
    rw [if_neg h1, if_neg h2, h3] at h
    simp at h
  | some p =>
    obtain ⟨kind, k⟩ := p
    rw [decB_fin h1 (by omega) h3] at h
    cases h4 : dAll (lastOf v) (dst0 kind) (b.drop k) with
    | none => rw [h4] at h; simp [finB] at h
    | some s =>
      rw [h4] at h
      unfold finB at h
      simp only at h
      split at h
      · simp at h
      · rename_i hr
        split at h
        · simp at h
        · injection h with e1 e2
          injection e2 with e2 e3
          subst e1 e2
          have hr : rightB s.m = true := by simpa using hr
          have hrun := run_is (lastOf_le v) _ _ _ _ (Nat.le_refl _) (fun j _ => fld_start kind j) h4
          have hk := kind_of hr
          have hkd : s.m.kind = (kind : Int) := hrun.kind
          have hb : b = ub kind ++ b.drop k := by
            conv => lhs; rw [← List.take_append_drop k b]
            rw [(tk_some h3).1]
          have hseg : segB s.m (dst0 kind).prev (lastOf v - (dst0 kind).prev) = fldsB s.m (lastOf v) := segB_all _ _
          have hlen := hrun.len
          have hsame := hrun.same
          rw [hseg] at hlen hsame
          have hmsg : msgB s.m (lastOf v) = ub kind ++ fldsB s.m (lastOf v) := by unfold msgB; rw [hkd, Int.toNat_natCast]
          refine ⟨h1, hr, hrun.fits (start_fits (by omega)), right_few hr, ?_, ?_, ?_⟩
          · have hm : ¬ (v < 3 ∧ s.m.must ≠ 0) := by
              rintro ⟨hv, hm⟩
              have h12 : lastOf v < 12 := by unfold lastOf; split <;> (try split) <;> (try split) <;> omega
              have := (hrun.high 12 h12).trans (fld_start kind 12)
              exact hm (numF_none this)
            exact enc_ok h1 hr hm
          · rw [hmsg, hb, List.length_append, List.length_append]; omega
          · intro h0
            rw [hmsg]
            conv => lhs; rw [hb]
            rw [← hsame h0]
/-- What goes with an error. -/
theorem dec_err (v : Int) (b : List UInt8) (h : (decB v b).2.2 ≠ 0) : (decB v b).1 = mg0 ∧ (decB v b).2.1 = 0 ∧ ((decB v b).2.2 = 2 ∨ ((decB v b).2.2 = 4 ∧ ¬ lastOf v = 0) ∨ ((decB v b).2.2 = 1 ∧ lastOf v = 0) ∨ ((decB v b).2.2 = 3 ∧ 4000 < b.length)) := by
  unfold decB at h ⊢
  by_cases h1 : lastOf v = 0
  · rw [if_pos h1]
    exact ⟨rfl, rfl, .inr (.inr (.inl ⟨rfl, h1⟩))⟩
  · rw [if_neg h1] at h ⊢
    by_cases h2 : 4000 < b.length
    · rw [if_pos h2]
      exact ⟨rfl, rfl, .inr (.inr (.inr ⟨rfl, h2⟩))⟩
    · rw [if_neg h2] at h ⊢
      cases h3 : tk b with
      | none => exact ⟨rfl, rfl, .inl rfl⟩
      | some p =>
        obtain ⟨kind, k⟩ := p
        rw [h3] at h
        simp only at h ⊢
        cases h4 : dAll (lastOf v) (dst0 kind) (b.drop k) with
        | none => exact ⟨rfl, rfl, .inl rfl⟩
        | some s =>
          rw [h4] at h
          simp only at h ⊢
          split at h
          · rename_i h5
            rw [if_pos h5]
            exact ⟨rfl, rfl, .inl rfl⟩
          · rename_i h5
            rw [if_neg h5]
            split at h
            · rename_i h6
              rw [if_pos h6]
              exact ⟨rfl, rfl, .inr (.inl ⟨rfl, h1⟩)⟩
            · exact absurd rfl h
end Go.Proofs.Ytkcbbcabfbkclaa
