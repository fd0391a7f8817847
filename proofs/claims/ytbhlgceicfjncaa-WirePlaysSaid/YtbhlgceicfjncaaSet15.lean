/-
  Joined: MsgInv, MsgInvAll.
-/
import Derived.Test.YtbhlgceicfjncaaSet03
import Derived.Test.YtbhlgceicfjncaaSet09
namespace Go.Proofs.Ytbhlgceicfjncaa
open Go.RowKit
set_option linter.unusedVariables false
set_option linter.unnecessarySimpa false
set_option linter.unusedSimpArgs false
set_option maxRecDepth 100000

theorem wsS_some : ∀ (n : Nat) (l : List UInt8) {ws : List Wr} {r : List UInt8}, wsS n l = some (ws, r) → ws.length = n ∧ l = wsB ws ++ r
  | 0, l, ws, r, h => by
    injection h with h
    injection h with e1 e2
    subst e1 e2
    exact ⟨rfl, rfl⟩
  | n + 1, [], ws, r, h => by cases h
  | n + 1, g :: l, ws, r, h => by
    rw [wsS] at h
    split at h
    · cases h
    · rename_i hg
      cases h1 : txtS l with
      | none => rw [h1] at h; cases h
      | some p =>
        obtain ⟨k, r1⟩ := p
        rw [h1] at h
        simp only at h
        cases h2 : txtS r1 with
        | none => rw [h2] at h; cases h
        | some p =>
          obtain ⟨v, r2⟩ := p
          rw [h2] at h
          simp only at h
          cases h3 : wsS n r2 with
          | none => rw [h3] at h; cases h
          | some p =>
            obtain ⟨ws', r3⟩ := p
            rw [h3] at h
            injection h with h
            injection h with e1 e2
            subst e1 e2
            have i1 := wsS_some n r2 h3
            have a1 := (txtS_some h1).1
            have a2 := (txtS_some h2).1
            refine ⟨by rw [List.length_cons, i1.1], ?_⟩
            have e : wsB (⟨⟨k.toArray⟩, g == 1, ⟨v.toArray⟩⟩ :: ws') = wrB ⟨⟨k.toArray⟩, g == 1, ⟨v.toArray⟩⟩ ++ wsB ws' := rfl
            have hgb : bl (g == 1) = [g] := by
              have : g = 0 ∨ g = 1 := Classical.not_not.1 hg
              rcases this with rfl | rfl <;> rfl
            have z1 : (⟨k.toArray⟩ : ByteArray).size = k.length := List.size_toArray
            have z2 : (⟨v.toArray⟩ : ByteArray).size = v.length := List.size_toArray
            rw [e, wrB, hgb, txB, txB, z1, z2, a1, a2, i1.2]
            simp only [List.append_assoc, List.cons_append, List.nil_append]
/-- What reading one field does. -/
structure SetIs (m m1 : Mg) (tag : Nat) (t : List UInt8) : Prop where
  low : 1 ≤ tag
  high : tag ≤ 12
  same : fld m1 tag = some t
  other : ∀ j, j ≠ tag → fld m1 j = fld m j
  kind : m1.kind = m.kind
  fits : m.fits → m1.fits

theorem setF_1' (m : Mg) (t : List UInt8) : setF m 1 t = (numS t 2147483647).map fun (n : Nat) => { m with frm := (n : Int) } := rfl
theorem set_is1 {m m1 : Mg} {t : List UInt8} (h : setF m 1 t = some m1) : SetIs m m1 1 t := by
  rw [setF_1'] at h
  cases h1 : numS t 2147483647 with
  | none => rw [h1] at h; cases h
  | some n =>
    rw [h1] at h
    injection h with h
    subst h
    obtain ⟨rfl, h0, hl, h64⟩ := numS_some h1
    exact ⟨by decide, by decide, by show numF (n : Int).toNat = _; rw [Int.toNat_natCast, numF_of h0], fun j hj => by
      match j, hj with
      | 0, _ => rfl
      | 1, hj => exact absurd rfl hj
      | 2, _ => rfl
      | 3, _ => rfl
      | 4, _ => rfl
      | 5, _ => rfl
      | 6, _ => rfl
      | 7, _ => rfl
      | 8, _ => rfl
      | 9, _ => rfl
      | 10, _ => rfl
      | 11, _ => rfl
      | 12, _ => rfl
      | k + 13, _ => rfl, rfl, fun f => ⟨f.kind, ⟨by simp only; omega, by simp only; omega⟩, f.to_, f.node, f.life, f.seq, f.a, f.b, f.time, f.hint, f.must⟩⟩

theorem setF_2' (m : Mg) (t : List UInt8) : setF m 2 t = (numS t 2147483647).map fun (n : Nat) => { m with to_ := (n : Int) } := rfl
theorem set_is2 {m m1 : Mg} {t : List UInt8} (h : setF m 2 t = some m1) : SetIs m m1 2 t := by
  rw [setF_2'] at h
  cases h1 : numS t 2147483647 with
  | none => rw [h1] at h; cases h
  | some n =>
    rw [h1] at h
    injection h with h
    subst h
    obtain ⟨rfl, h0, hl, h64⟩ := numS_some h1
    exact ⟨by decide, by decide, by show numF (n : Int).toNat = _; rw [Int.toNat_natCast, numF_of h0], fun j hj => by
      match j, hj with
      | 0, _ => rfl
      | 1, _ => rfl
      | 2, hj => exact absurd rfl hj
      | 3, _ => rfl
      | 4, _ => rfl
      | 5, _ => rfl
      | 6, _ => rfl
      | 7, _ => rfl
      | 8, _ => rfl
      | 9, _ => rfl
      | 10, _ => rfl
      | 11, _ => rfl
      | 12, _ => rfl
      | k + 13, _ => rfl, rfl, fun f => ⟨f.kind, f.frm, ⟨by simp only; omega, by simp only; omega⟩, f.node, f.life, f.seq, f.a, f.b, f.time, f.hint, f.must⟩⟩

theorem setF_4' (m : Mg) (t : List UInt8) : setF m 4 t = (numS t 18446744073709551615).map fun (n : Nat) => { m with a := n } := rfl
theorem set_is4 {m m1 : Mg} {t : List UInt8} (h : setF m 4 t = some m1) : SetIs m m1 4 t := by
  rw [setF_4'] at h
  cases h1 : numS t 18446744073709551615 with
  | none => rw [h1] at h; cases h
  | some n =>
    rw [h1] at h
    injection h with h
    subst h
    obtain ⟨rfl, h0, hl, h64⟩ := numS_some h1
    exact ⟨by decide, by decide, by show numF n = _; rw [numF_of h0], fun j hj => by
      match j, hj with
      | 0, _ => rfl
      | 1, _ => rfl
      | 2, _ => rfl
      | 3, _ => rfl
      | 4, hj => exact absurd rfl hj
      | 5, _ => rfl
      | 6, _ => rfl
      | 7, _ => rfl
      | 8, _ => rfl
      | 9, _ => rfl
      | 10, _ => rfl
      | 11, _ => rfl
      | 12, _ => rfl
      | k + 13, _ => rfl, rfl, fun f => ⟨f.kind, f.frm, f.to_, f.node, f.life, f.seq, h64, f.b, f.time, f.hint, f.must⟩⟩

theorem setF_5' (m : Mg) (t : List UInt8) : setF m 5 t = (numS t 18446744073709551615).map fun (n : Nat) => { m with b := n } := rfl
theorem set_is5 {m m1 : Mg} {t : List UInt8} (h : setF m 5 t = some m1) : SetIs m m1 5 t := by
  rw [setF_5'] at h
  cases h1 : numS t 18446744073709551615 with
  | none => rw [h1] at h; cases h
  | some n =>
    rw [h1] at h
    injection h with h
    subst h
    obtain ⟨rfl, h0, hl, h64⟩ := numS_some h1
    exact ⟨by decide, by decide, by show numF n = _; rw [numF_of h0], fun j hj => by
      match j, hj with
      | 0, _ => rfl
      | 1, _ => rfl
      | 2, _ => rfl
      | 3, _ => rfl
      | 4, _ => rfl
      | 5, hj => exact absurd rfl hj
      | 6, _ => rfl
      | 7, _ => rfl
      | 8, _ => rfl
      | 9, _ => rfl
      | 10, _ => rfl
      | 11, _ => rfl
      | 12, _ => rfl
      | k + 13, _ => rfl, rfl, fun f => ⟨f.kind, f.frm, f.to_, f.node, f.life, f.seq, f.a, h64, f.time, f.hint, f.must⟩⟩

theorem setF_11' (m : Mg) (t : List UInt8) : setF m 11 t = (numS t 18446744073709551615).map fun (n : Nat) => { m with hint := n } := rfl
theorem set_is11 {m m1 : Mg} {t : List UInt8} (h : setF m 11 t = some m1) : SetIs m m1 11 t := by
  rw [setF_11'] at h
  cases h1 : numS t 18446744073709551615 with
  | none => rw [h1] at h; cases h
  | some n =>
    rw [h1] at h
    injection h with h
    subst h
    obtain ⟨rfl, h0, hl, h64⟩ := numS_some h1
    exact ⟨by decide, by decide, by show numF n = _; rw [numF_of h0], fun j hj => by
      match j, hj with
      | 0, _ => rfl
      | 1, _ => rfl
      | 2, _ => rfl
      | 3, _ => rfl
      | 4, _ => rfl
      | 5, _ => rfl
      | 6, _ => rfl
      | 7, _ => rfl
      | 8, _ => rfl
      | 9, _ => rfl
      | 10, _ => rfl
      | 11, hj => exact absurd rfl hj
      | 12, _ => rfl
      | k + 13, _ => rfl, rfl, fun f => ⟨f.kind, f.frm, f.to_, f.node, f.life, f.seq, f.a, f.b, f.time, h64, f.must⟩⟩

theorem setF_12' (m : Mg) (t : List UInt8) : setF m 12 t = (numS t 18446744073709551615).map fun (n : Nat) => { m with must := n } := rfl
theorem set_is12 {m m1 : Mg} {t : List UInt8} (h : setF m 12 t = some m1) : SetIs m m1 12 t := by
  rw [setF_12'] at h
  cases h1 : numS t 18446744073709551615 with
  | none => rw [h1] at h; cases h
  | some n =>
    rw [h1] at h
    injection h with h
    subst h
    obtain ⟨rfl, h0, hl, h64⟩ := numS_some h1
    exact ⟨by decide, by decide, by show numF n = _; rw [numF_of h0], fun j hj => by
      match j, hj with
      | 0, _ => rfl
      | 1, _ => rfl
      | 2, _ => rfl
      | 3, _ => rfl
      | 4, _ => rfl
      | 5, _ => rfl
      | 6, _ => rfl
      | 7, _ => rfl
      | 8, _ => rfl
      | 9, _ => rfl
      | 10, _ => rfl
      | 11, _ => rfl
      | 12, hj => exact absurd rfl hj
      | k + 13, _ => rfl, rfl, fun f => ⟨f.kind, f.frm, f.to_, f.node, f.life, f.seq, f.a, f.b, f.time, f.hint, h64⟩⟩

theorem set_is6 {m m1 : Mg} {t : List UInt8} (h : setF m 6 t = some m1) : SetIs m m1 6 t := by
  have e : setF m 6 t = if t = [] then none else some { m with key := ⟨t.toArray⟩ } := rfl
  rw [e] at h
  split at h
  · cases h
  · rename_i h0
    injection h with h
    subst h
    have hz : ¬ (⟨t.toArray⟩ : ByteArray).size = 0 := by
      show ¬ t.toArray.size = 0
      rw [List.size_toArray]
      exact fun e => h0 (List.length_eq_zero_iff.1 e)
    exact ⟨by decide, by decide, by rw [fld_6, if_neg hz], fun j hj => by
      match j, hj with
      | 0, _ => rfl
      | 1, _ => rfl
      | 2, _ => rfl
      | 3, _ => rfl
      | 4, _ => rfl
      | 5, _ => rfl
      | 6, hj => exact absurd rfl hj
      | 7, _ => rfl
      | 8, _ => rfl
      | 9, _ => rfl
      | 10, _ => rfl
      | 11, _ => rfl
      | 12, _ => rfl
      | k + 13, _ => rfl, rfl, fun f => ⟨f.kind, f.frm, f.to_, f.node, f.life, f.seq, f.a, f.b, f.time, f.hint, f.must⟩⟩

theorem set_is10 {m m1 : Mg} {t : List UInt8} (h : setF m 10 t = some m1) : SetIs m m1 10 t := by
  have e : setF m 10 t = if t = [] then none else some { m with note := ⟨t.toArray⟩ } := rfl
  rw [e] at h
  split at h
  · cases h
  · rename_i h0
    injection h with h
    subst h
    have hz : ¬ (⟨t.toArray⟩ : ByteArray).size = 0 := by
      show ¬ t.toArray.size = 0
      rw [List.size_toArray]
      exact fun e => h0 (List.length_eq_zero_iff.1 e)
    exact ⟨by decide, by decide, by rw [fld_10, if_neg hz], fun j hj => by
      match j, hj with
      | 0, _ => rfl
      | 1, _ => rfl
      | 2, _ => rfl
      | 3, _ => rfl
      | 4, _ => rfl
      | 5, _ => rfl
      | 6, _ => rfl
      | 7, _ => rfl
      | 8, _ => rfl
      | 9, _ => rfl
      | 10, hj => exact absurd rfl hj
      | 11, _ => rfl
      | 12, _ => rfl
      | k + 13, _ => rfl, rfl, fun f => ⟨f.kind, f.frm, f.to_, f.node, f.life, f.seq, f.a, f.b, f.time, f.hint, f.must⟩⟩

theorem set_is7 {m m1 : Mg} {t : List UInt8} (h : setF m 7 t = some m1) : SetIs m m1 7 t := by
  have e : setF m 7 t = if t = [] then some { m with found := true } else none := rfl
  rw [e] at h
  split at h
  · rename_i h0
    injection h with h
    subst h h0
    exact ⟨by decide, by decide, rfl, fun j hj => by
      match j, hj with
      | 0, _ => rfl
      | 1, _ => rfl
      | 2, _ => rfl
      | 3, _ => rfl
      | 4, _ => rfl
      | 5, _ => rfl
      | 6, _ => rfl
      | 7, hj => exact absurd rfl hj
      | 8, _ => rfl
      | 9, _ => rfl
      | 10, _ => rfl
      | 11, _ => rfl
      | 12, _ => rfl
      | k + 13, _ => rfl, rfl, fun f => ⟨f.kind, f.frm, f.to_, f.node, f.life, f.seq, f.a, f.b, f.time, f.hint, f.must⟩⟩
  · cases h

theorem set_is3 {m m1 : Mg} {t : List UInt8} (h : setF m 3 t = some m1) : SetIs m m1 3 t := by
  have e : setF m 3 t = set3 m t := rfl
  rw [e] at h
  unfold set3 at h
  cases h1 : tk t with
  | none => rw [h1] at h; cases h
  | some p =>
    obtain ⟨x, k1⟩ := p
    rw [h1] at h
    simp only at h
    cases h2 : tk (t.drop k1) with
    | none => rw [h2] at h; cases h
    | some p =>
      obtain ⟨y, k2⟩ := p
      rw [h2] at h
      simp only at h
      cases h3 : tk ((t.drop k1).drop k2) with
      | none => rw [h3] at h; cases h
      | some p =>
        obtain ⟨z, k3⟩ := p
        rw [h3] at h
        simp only at h
        split at h
        · rename_i hc
          injection h with h
          subst h
          have a1 := (tk_some h1).1
          have a2 := (tk_some h2).1
          have a3 := (tk_some h3).1
          rw [hc.1, List.take_length] at a3
          have ht : t = ub x ++ ub y ++ ub z := by
            conv => lhs; rw [← List.take_append_drop k1 t, ← List.take_append_drop k2 (t.drop k1)]
            rw [a1, a2, a3, List.append_assoc]
          obtain ⟨_, hz, l1, l2, l3⟩ := hc
          refine ⟨by decide, by decide, ?_, fun j hj => by
            match j, hj with
            | 0, _ => rfl
            | 1, _ => rfl
            | 2, _ => rfl
            | 3, hj => exact absurd rfl hj
            | 4, _ => rfl
            | 5, _ => rfl
            | 6, _ => rfl
            | 7, _ => rfl
            | 8, _ => rfl
            | 9, _ => rfl
            | 10, _ => rfl
            | 11, _ => rfl
            | 12, _ => rfl
            | k + 13, _ => rfl, rfl, fun f => ⟨f.kind, f.frm, f.to_, ⟨by simp only; omega, by simp only; omega⟩, ⟨by simp only; omega, by simp only; omega⟩, ⟨by simp only; omega, by simp only; omega⟩, f.a, f.b, f.time, f.hint, f.must⟩⟩
          rw [fld_3, if_neg, ht]
          · simp only [Int.toNat_natCast]
          · unfold txnZero
            simp only [Bool.and_eq_true, beq_iff_eq]
            intro h
            exact hz ⟨by omega, by omega, by omega⟩
        · cases h

theorem set_is8 {m m1 : Mg} {t : List UInt8} (h : setF m 8 t = some m1) : SetIs m m1 8 t := by
  have e : setF m 8 t = set8 m t := rfl
  rw [e] at h
  unfold set8 at h
  cases h1 : tk t with
  | none => rw [h1] at h; cases h
  | some p =>
    obtain ⟨n, k⟩ := p
    rw [h1] at h
    simp only at h
    have a1 := tk_some h1
    cases h2 : t.drop k with
    | nil => rw [h2] at h; cases h
    | cons g v =>
      rw [h2] at h
      simp only at h
      split at h
      · rename_i hc
        injection h with h
        subst h
        have ht : t = ub n ++ (g :: v) := by
          conv => lhs; rw [← List.take_append_drop k t]
          rw [a1.1, h2]
        have hg : bl (g == 1) = [g] := by rcases hc.1 with rfl | rfl <;> rfl
        refine ⟨by decide, by decide, ?_, fun j hj => by
          match j, hj with
          | 0, _ => rfl
          | 1, _ => rfl
          | 2, _ => rfl
          | 3, _ => rfl
          | 4, _ => rfl
          | 5, _ => rfl
          | 6, _ => rfl
          | 7, _ => rfl
          | 8, hj => exact absurd rfl hj
          | 9, _ => rfl
          | 10, _ => rfl
          | 11, _ => rfl
          | 12, _ => rfl
          | k + 13, _ => rfl, rfl, fun f => ⟨f.kind, f.frm, f.to_, f.node, f.life, f.seq, f.a, f.b, a1.2.1, f.hint, f.must⟩⟩
        rw [fld_8, if_neg]
        · simp only [hg, ht, List.append_assoc, List.cons_append, List.nil_append]
        · unfold verZeroM
          simp only [Bool.and_eq_true, beq_iff_eq, Bool.not_eq_true']
          rintro ⟨⟨z1, z2⟩, z3⟩
          refine hc.2 ⟨z1, ?_, ?_⟩
          · rcases hc.1 with rfl | rfl
            · rfl
            · cases z2
          · have : v.length = 0 := by rw [← z3]; exact List.size_toArray.symm
            exact List.length_eq_zero_iff.1 this
      · cases h

theorem set_is9 {m m1 : Mg} {t : List UInt8} (h : setF m 9 t = some m1) : SetIs m m1 9 t := by
  have e : setF m 9 t = set9 m t := rfl
  rw [e] at h
  unfold set9 at h
  cases h1 : tk t with
  | none => rw [h1] at h; cases h
  | some p =>
    obtain ⟨n, k⟩ := p
    rw [h1] at h
    simp only at h
    have a1 := tk_some h1
    split at h
    · cases h
    · rename_i hn
      cases h2 : wsS n (t.drop k) with
      | none => rw [h2] at h; cases h
      | some p =>
        obtain ⟨ws, r⟩ := p
        rw [h2] at h
        simp only at h
        split at h
        · rename_i hr
          injection h with h
          subst h hr
          have a2 := wsS_some n _ h2
          have ht : t = ub n ++ wsB ws := by
            conv => lhs; rw [← List.take_append_drop k t]
            rw [a1.1, a2.2, List.append_nil]
          refine ⟨by decide, by decide, ?_, fun j hj => by
            match j, hj with
            | 0, _ => rfl
            | 1, _ => rfl
            | 2, _ => rfl
            | 3, _ => rfl
            | 4, _ => rfl
            | 5, _ => rfl
            | 6, _ => rfl
            | 7, _ => rfl
            | 8, _ => rfl
            | 9, hj => exact absurd rfl hj
            | 10, _ => rfl
            | 11, _ => rfl
            | 12, _ => rfl
            | k + 13, _ => rfl, rfl, fun f => ⟨f.kind, f.frm, f.to_, f.node, f.life, f.seq, f.a, f.b, f.time, f.hint, f.must⟩⟩
          rw [fld_9, if_neg (by simp only; omega), ht]
          simp only [a2.1]
        · cases h

theorem set_is {m m1 : Mg} {tag : Nat} {t : List UInt8} (h : setF m tag t = some m1) : SetIs m m1 tag t := by
  match tag, h with
  | 0, h => cases h
  | 1, h => exact set_is1 h
  | 2, h => exact set_is2 h
  | 3, h => exact set_is3 h
  | 4, h => exact set_is4 h
  | 5, h => exact set_is5 h
  | 6, h => exact set_is6 h
  | 7, h => exact set_is7 h
  | 8, h => exact set_is8 h
  | 9, h => exact set_is9 h
  | 10, h => exact set_is10 h
  | 11, h => exact set_is11 h
  | 12, h => exact set_is12 h
  | k + 13, h => cases h

/-- The fields behind a tag. -/
def segB (m : Mg) (p : Nat) : Nat → List UInt8
  | 0 => []
  | n + 1 => segB m p n ++ fldB m (p + n + 1)
theorem segB_zero {m : Mg} {p : Nat} : ∀ {n : Nat}, (∀ j, p < j → j ≤ p + n → fld m j = none) → segB m p n = []
  | 0, _ => rfl
  | n + 1, h => by
    rw [segB, segB_zero (fun j h1 h2 => h j h1 (by omega))]
    unfold fldB
    rw [h (p + n + 1) (by omega) (by omega)]
    rfl
theorem segB_cut {m : Mg} {p : Nat} : ∀ (n k : Nat), segB m p (n + k) = segB m p n ++ segB m (p + n) k
  | n, 0 => by simp [segB]
  | n, k + 1 => by
    rw [show n + (k + 1) = (n + k) + 1 by omega, segB, segB_cut n k, segB, List.append_assoc, show p + (n + k) + 1 = p + n + k + 1 by omega]
theorem segB_all (m : Mg) : ∀ n, segB m 0 n = fldsB m n
  | 0 => rfl
  | n + 1 => by rw [segB, segB_all m n, fldsB, Nat.zero_add]

/-- What a run over fields comes to. -/
structure RunIs (last : Nat) (s s' : Dst) (rest : List UInt8) : Prop where
  left : s.left ≤ s'.left
  kind : s'.m.kind = s.m.kind
  fits : s.m.fits → s'.m.fits
  low : ∀ j, j ≤ s.prev → fld s'.m j = fld s.m j
  high : ∀ j, last < j → fld s'.m j = fld s.m j
  same : s'.left = s.left → rest = segB s'.m s.prev (last - s.prev)
  len : (segB s'.m s.prev (last - s.prev)).length ≤ rest.length
theorem run_is {last : Nat} (hl : last ≤ 12) : ∀ (N : Nat) (rest : List UInt8) (s s' : Dst), rest.length ≤ N → (∀ j, s.prev < j → fld s.m j = none) → dAll last s rest = some s' → RunIs last s s' rest
  | 0, rest, s, s', hN, hz, h => by
    obtain rfl : rest = [] := List.length_eq_zero_iff.1 (by omega)
    rw [dAll_nil] at h
    injection h with h
    subst h
    have e := segB_zero (m := s.m) (p := s.prev) (n := last - s.prev) (fun j h1 _ => hz j h1)
    exact ⟨Nat.le_refl _, rfl, id, fun _ _ => rfl, fun _ _ => rfl, fun _ => e.symm, by rw [e]; exact Nat.le_refl _⟩
  | N + 1, rest, s, s', hN, hz, h => by
    by_cases h0 : rest = []
    · subst h0
      exact run_is hl N [] s s' (Nat.zero_le _) hz h
    · cases h1 : oneS rest with
      | none => rw [dAll_none h0 h1] at h; cases h
      | some p =>
        obtain ⟨hd, t, r⟩ := p
        obtain ⟨hr, _, _, hrl⟩ := oneS_some h1
        cases h2 : dstep last s hd t with
        | none => rw [dAll_bad h1 h2] at h; cases h
        | some s1 =>
          rw [dAll_step h1 h2] at h
          unfold dstep at h2
          split at h2
          · cases h2
          · rename_i hp
            split at h2
            · rename_i hlast
              injection h2 with h2
              have ih := run_is hl N r s1 s' (by omega) (by rw [← h2]; exact fun j hj => hz j (by simp only at hj; omega)) h
              rw [← h2] at ih
              have hle := ih.left
              have hlow := ih.low
              simp only at hle hlow
              have e := segB_zero (m := s'.m) (p := s.prev) (n := last - s.prev) (fun j a1 a2 => by rw [hlow j (by omega)]; exact hz j a1)
              exact ⟨by omega, ih.kind, ih.fits, fun j hj => hlow j (by omega), ih.high, fun hs => by omega, by rw [e]; exact Nat.zero_le _⟩
            · rename_i hlast
              split at h2
              · cases h2
              · rename_i hh
                cases h3 : setF s.m (hd / 2) t with
                | none => rw [h3] at h2; cases h2
                | some m1 =>
                  rw [h3] at h2
                  injection h2 with h2
                  have hset := set_is h3
                  have hhd : hd = headT (hd / 2) := Classical.not_not.1 hh
                  obtain ⟨tag, htag⟩ : ∃ tag, tag = hd / 2 := ⟨_, rfl⟩
                  rw [← htag] at hset h2 hp hlast hhd
                  have ih := run_is hl N r s1 s' (by omega) (by
                    rw [← h2]
                    intro j hj
                    simp only at hj
                    simp only
                    rw [hset.other j (by omega)]
                    exact hz j (by omega)) h
                  rw [← h2] at ih
                  have hlow := ih.low
                  have hhigh := ih.high
                  have hsame := ih.same
                  have hlen := ih.len
                  have hleft := ih.left
                  have hkind := ih.kind
                  have hfits := ih.fits
                  simp only at hlow hhigh hsame hlen hleft hkind hfits
                  have hseg : segB s'.m s.prev (last - s.prev) = encT tag t ++ segB s'.m tag (last - tag) := by
                    rw [show last - s.prev = (tag - s.prev - 1) + 1 + (last - tag) by omega, segB_cut, segB]
                    rw [segB_zero (m := s'.m) (p := s.prev) (n := tag - s.prev - 1) (fun j a1 a2 => by rw [hlow j (by omega), hset.other j (by omega)]; exact hz j a1), List.nil_append]
                    rw [show s.prev + (tag - s.prev - 1) + 1 = tag by omega, show s.prev + (tag - s.prev - 1 + 1) = tag by omega]
                    unfold fldB
                    rw [hlow tag (Nat.le_refl _), hset.same]
                  have hrest : rest = encT tag t ++ r := by rw [hr, encT, ← hhd]
                  exact ⟨hleft, hkind.trans hset.kind, fun f => hfits (hset.fits f), fun j hj => (hlow j (by omega)).trans (hset.other j (by omega)), fun j hj => (hhigh j hj).trans (hset.other j (by omega)), fun hs => by rw [hseg, hrest, hsame hs],
                    by rw [hseg, hrest, List.length_append, List.length_append]; omega⟩
end Go.Proofs.Ytbhlgceicfjncaa

namespace Go.Proofs.Ytbhlgceicfjncaa
open Go.RowKit
set_option linter.unusedVariables false
set_option linter.unnecessarySimpa false
set_option linter.unusedSimpArgs false
set_option maxRecDepth 100000

theorem wsB_mem {l : List Wr} {x : Wr} (h : x ∈ l) : x.key.size + x.val.size ≤ (wsB l).length := by
  induction l with
  | nil => cases h
  | cons y l ih =>
    have e : wsB (y :: l) = wrB y ++ wsB l := rfl
    rw [e, List.length_append]
    rcases List.mem_cons.1 h with rfl | h
    · simp only [wrB, txB, bl, List.length_append, List.length_cons, List.length_nil, ← Lib.size_eq]
      omega
    · have := ih h
      omega
theorem right_few {m : Mg} (h : rightBM m = true) : m.few := by
  have hl := flds_len h
  have h8 := (right_partsM h).2.2.2.1
  refine ⟨?_, ?_, ?_, by omega, fun x hx => ?_⟩
  · by_cases h0 : m.key.size = 0
    · omega
    · have := fld_text (m := m) (k := 6) (t := m.key.data.toList) (by rw [fld_6, if_neg h0])
      rw [← Lib.size_eq] at this
      omega
  · by_cases h0 : m.note.size = 0
    · omega
    · have := fld_text (m := m) (k := 10) (t := m.note.data.toList) (by rw [fld_10, if_neg h0])
      rw [← Lib.size_eq] at this
      omega
  · cases h0 : verZeroM m
    · have := fld_text (m := m) (k := 8) (by rw [fld_8, if_neg (by rw [h0]; decide)])
      simp only [List.length_append] at this
      rw [← Lib.size_eq m.val] at this
      omega
    · unfold verZeroM at h0
      simp only [Bool.and_eq_true, beq_iff_eq] at h0
      omega
  · have h0 : ¬ m.ws.length = 0 := fun e => by rw [List.length_eq_zero_iff.1 e] at hx; cases hx
    have := fld_text (m := m) (k := 9) (by rw [fld_9, if_neg h0])
    rw [List.length_append] at this
    have := wsB_mem hx
    omega
theorem fld_start (kind : Nat) (j : Nat) : fld (dst0 kind).m j = none := by
  match j with
  | 0 => rfl
  | 1 => rfl
  | 2 => rfl
  | 3 => rfl
  | 4 => rfl
  | 5 => rfl
  | 6 => rfl
  | 7 => rfl
  | 8 => rfl
  | 9 => rfl
  | 10 => rfl
  | 11 => rfl
  | 12 => rfl
  | k + 13 => rfl
theorem start_fits {kind : Nat} (h : kind ≤ 9) : (dst0 kind).m.fits := by
  have f := mg0_fits
  exact ⟨⟨by show -9223372036854775808 ≤ (kind : Int); omega, by show (kind : Int) ≤ 9223372036854775807; omega⟩, f.frm, f.to_, f.node, f.life, f.seq, f.a, f.b, f.time, f.hint, f.must⟩

theorem proj_ok {v : Int} {m : Mg} (h1 : ¬ lastOfM v = 0) (hr : rightBM m = true) (hm : ¬ (v < 3 ∧ m.must ≠ 0)) : projB v m = (cut v m, 0) := by
  unfold projB
  rw [if_neg (by rw [hr]; rintro (h | h); exact h1 h; cases h), if_neg hm]
theorem enc_ok {v : Int} {m : Mg} (h1 : ¬ lastOfM v = 0) (hr : rightBM m = true) (hm : ¬ (v < 3 ∧ m.must ≠ 0)) : encB v m = (msgB m (lastOfM v), 0) := by
  unfold encB
  rw [proj_ok h1 hr hm, if_pos rfl]
/-- What goes with an encoding. -/
theorem enc_is {v : Int} {m : Mg} (h : (encB v m).2 = 0) : ¬ lastOfM v = 0 ∧ rightBM m = true ∧ ¬ (v < 3 ∧ m.must ≠ 0) := by
  have hp : (projB v m).2 = 0 := by
    unfold encB at h
    split at h
    · assumption
    · rename_i h2; exact absurd h h2
  unfold projB at hp
  split at hp
  · cases hp
  · rename_i h1
    split at hp
    · cases hp
    · rename_i h2
      exact ⟨fun e => h1 (.inl e), by cases hr : rightBM m; exact absurd (.inr hr) h1; rfl, h2⟩

/-- What a decoded message is. -/
structure DecIs (v : Int) (b : List UInt8) (m : Mg) (left : Nat) : Prop where
  ver : ¬ lastOfM v = 0
  right : rightBM m = true
  fits : m.fits
  few : m.few
  enc : encB v m = (msgB m (lastOfM v), 0)
  len : (msgB m (lastOfM v)).length ≤ b.length
  same : left = 0 → b = msgB m (lastOfM v)
theorem lastOfM_le (v : Int) : lastOfM v ≤ 12 := by unfold lastOfM; split <;> (try split) <;> (try split) <;> omega
theorem dec_is {v : Int} {b : List UInt8} {m : Mg} {left : Nat} (h : decB v b = (m, left, 0)) : DecIs v b m left := by
  have h1 : ¬ lastOfM v = 0 := by
    intro e
    unfold decB at h
    rw [if_pos e] at h
    simp at h
  have h2 : ¬ 4000 < b.length := by
    intro e
    unfold decB at h
    rw [if_neg h1, if_pos e] at h
    simp at h
  cases h3 : tk b with
  | none =>
    unfold decB at h
    rw [if_neg h1, if_neg h2, h3] at h
    simp at h
  | some p =>
    obtain ⟨kind, k⟩ := p
    rw [decB_fin h1 (by omega) h3] at h
    cases h4 : dAll (lastOfM v) (dst0 kind) (b.drop k) with
    | none => rw [h4] at h; simp [finB] at h
    | some s =>
      rw [h4] at h
      unfold finB at h
      simp only at h
      split at h
      · simp at h
      · rename_i hr
        split at h
        · simp at h
        · injection h with e1 e2
          injection e2 with e2 e3
          subst e1 e2
          have hr : rightBM s.m = true := by simpa using hr
          have hrun := run_is (lastOfM_le v) _ _ _ _ (Nat.le_refl _) (fun j _ => fld_start kind j) h4
          have hk := kind_of hr
          have hkd : s.m.kind = (kind : Int) := hrun.kind
          have hb : b = ub kind ++ b.drop k := by
            conv => lhs; rw [← List.take_append_drop k b]
            rw [(tk_some h3).1]
          have hseg : segB s.m (dst0 kind).prev (lastOfM v - (dst0 kind).prev) = fldsB s.m (lastOfM v) := segB_all _ _
          have hlen := hrun.len
          have hsame := hrun.same
          rw [hseg] at hlen hsame
          have hmsg : msgB s.m (lastOfM v) = ub kind ++ fldsB s.m (lastOfM v) := by unfold msgB; rw [hkd, Int.toNat_natCast]
          refine ⟨h1, hr, hrun.fits (start_fits (by omega)), right_few hr, ?_, ?_, ?_⟩
          · have hm : ¬ (v < 3 ∧ s.m.must ≠ 0) := by
              rintro ⟨hv, hm⟩
              have h12 : lastOfM v < 12 := by unfold lastOfM; split <;> (try split) <;> (try split) <;> omega
              have := (hrun.high 12 h12).trans (fld_start kind 12)
              exact hm (numF_none this)
            exact enc_ok h1 hr hm
          · rw [hmsg, hb, List.length_append, List.length_append]; omega
          · intro h0
            rw [hmsg]
            conv => lhs; rw [hb]
            rw [← hsame h0]
/-- What goes with an error. -/
theorem dec_err (v : Int) (b : List UInt8) (h : (decB v b).2.2 ≠ 0) : (decB v b).1 = mg0 ∧ (decB v b).2.1 = 0 ∧ ((decB v b).2.2 = 2 ∨ ((decB v b).2.2 = 4 ∧ ¬ lastOfM v = 0) ∨ ((decB v b).2.2 = 1 ∧ lastOfM v = 0) ∨ ((decB v b).2.2 = 3 ∧ 4000 < b.length)) := by
  unfold decB at h ⊢
  by_cases h1 : lastOfM v = 0
  · rw [if_pos h1]
    exact ⟨rfl, rfl, .inr (.inr (.inl ⟨rfl, h1⟩))⟩
  · rw [if_neg h1] at h ⊢
    by_cases h2 : 4000 < b.length
    · rw [if_pos h2]
      exact ⟨rfl, rfl, .inr (.inr (.inr ⟨rfl, h2⟩))⟩
    · rw [if_neg h2] at h ⊢
      cases h3 : tk b with
      | none => exact ⟨rfl, rfl, .inl rfl⟩
      | some p =>
        obtain ⟨kind, k⟩ := p
        rw [h3] at h
        simp only at h ⊢
        cases h4 : dAll (lastOfM v) (dst0 kind) (b.drop k) with
        | none => exact ⟨rfl, rfl, .inl rfl⟩
        | some s =>
          rw [h4] at h
          simp only at h ⊢
          split at h
          · rename_i h5
            rw [if_pos h5]
            exact ⟨rfl, rfl, .inl rfl⟩
          · rename_i h5
            rw [if_neg h5]
            split at h
            · rename_i h6
              rw [if_pos h6]
              exact ⟨rfl, rfl, .inr (.inl ⟨rfl, h1⟩)⟩
            · exact absurd rfl h
end Go.Proofs.Ytbhlgceicfjncaa
