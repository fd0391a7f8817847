/-
  Joined: MsgDec, MsgSet, MsgRun.
-/
import Derived.Test.YtbhlgceicfjncaaSet01
namespace Go.Proofs.Ytbhlgceicfjncaa
open Go.RowKit
set_option linter.unusedVariables false
set_option linter.unnecessarySimpa false
set_option linter.unusedSimpArgs false
set_option maxRecDepth 100000

/-- A number that is all of a text, and not zero. -/
def numS (t : List UInt8) (lim : Nat) : Option Nat := match tk t with
  | none => none
  | some (n, k) => if k = t.length ∧ n ≠ 0 ∧ n ≤ lim then some n else none
/-- A text off the head. -/
def txtS (l : List UInt8) : Option (List UInt8 × List UInt8) := match tk l with
  | none => none
  | some (n, k) => if n ≤ (l.drop k).length then some ((l.drop k).take n, (l.drop k).drop n) else none
def wsS : Nat → List UInt8 → Option (List Wr × List UInt8)
  | 0, l => some ([], l)
  | n + 1, l => match l with
    | [] => none
    | g :: r => if ¬ (g = 0 ∨ g = 1) then none else match txtS r with
      | none => none
      | some (k, r1) => match txtS r1 with
        | none => none
        | some (v, r2) => match wsS n r2 with
          | none => none
          | some (ws, r3) => some (⟨⟨k.toArray⟩, g == 1, ⟨v.toArray⟩⟩ :: ws, r3)
def set3 (m : Mg) (t : List UInt8) : Option Mg := match tk t with
  | none => none
  | some (x, k1) => match tk (t.drop k1) with
    | none => none
    | some (y, k2) => match tk ((t.drop k1).drop k2) with
      | none => none
      | some (z, k3) => if k3 = ((t.drop k1).drop k2).length ∧ ¬ (x = 0 ∧ y = 0 ∧ z = 0) ∧ x ≤ 2147483647 ∧ y ≤ 2147483647 ∧ z ≤ 2147483647 then some { m with node := x, life := y, seq := z } else none
def set8 (m : Mg) (t : List UInt8) : Option Mg := match tk t with
  | none => none
  | some (n, k) => match t.drop k with
    | [] => none
    | g :: v => if (g = 0 ∨ g = 1) ∧ ¬ (n = 0 ∧ g = 0 ∧ v = []) then some { m with time := n, gone := g == 1, val := ⟨v.toArray⟩ } else none
def set9 (m : Mg) (t : List UInt8) : Option Mg := match tk t with
  | none => none
  | some (n, k) => if n = 0 ∨ 8 < n then none else match wsS n (t.drop k) with
    | none => none
    | some (ws, r) => if r = [] then some { m with ws := ws } else none
/-- A tag's field is read. -/
def setF (m : Mg) (tag : Nat) (t : List UInt8) : Option Mg := match tag with
  | 1 => (numS t 2147483647).map fun (n : Nat) => { m with frm := (n : Int) }
  | 2 => (numS t 2147483647).map fun (n : Nat) => { m with to_ := (n : Int) }
  | 3 => set3 m t
  | 4 => (numS t 18446744073709551615).map fun n => { m with a := n }
  | 5 => (numS t 18446744073709551615).map fun n => { m with b := n }
  | 6 => if t = [] then none else some { m with key := ⟨t.toArray⟩ }
  | 7 => if t = [] then some { m with found := true } else none
  | 8 => set8 m t
  | 9 => set9 m t
  | 10 => if t = [] then none else some { m with note := ⟨t.toArray⟩ }
  | 11 => (numS t 18446744073709551615).map fun n => { m with hint := n }
  | 12 => (numS t 18446744073709551615).map fun n => { m with must := n }
  | _ => none

/-- A field off the head: its head, its text, what is left. -/
def oneS (l : List UInt8) : Option (Nat × List UInt8 × List UInt8) := match tk l with
  | none => none
  | some (h, k) => match txtS (l.drop k) with
    | none => none
    | some (t, r) => some (h, t, r)
theorem txtS_some {l t r : List UInt8} (h : txtS l = some (t, r)) : l = ub t.length ++ t ++ r ∧ t.length < 18446744073709551616 := by
  unfold txtS at h
  cases h1 : tk l with
  | none => rw [h1] at h; cases h
  | some p =>
    obtain ⟨n, k⟩ := p
    have h2 := tk_some h1
    rw [h1] at h
    simp only at h
    split at h
    · rename_i hc
      injection h with h
      injection h with e1 e2
      have hl : t.length = n := by rw [← e1, List.length_take]; omega
      refine ⟨?_, by omega⟩
      rw [hl, ← h2.1, ← e1, ← e2, List.append_assoc, List.take_append_drop, List.take_append_drop]
    · cases h
theorem tk_front' (m : Nat) (r : List UInt8) (hm : m < 18446744073709551616) : tk (ub m ++ r) = some (m, (ub m).length) := by
  have := tkAux_ub (ub m).length m 0 0 r (Nat.le_refl _) (by omega) (by simpa using hm) (fun _ => rfl)
  simpa [tk] using this
theorem txtS_enc {t r : List UInt8} (h : t.length < 18446744073709551616) : txtS (ub t.length ++ t ++ r) = some (t, r) := by
  unfold txtS
  rw [List.append_assoc, tk_front' _ _ h]
  simp only [List.drop_left]
  rw [if_pos (by rw [List.length_append]; omega), List.take_left]
theorem oneS_some {l t r : List UInt8} {h : Nat} (e : oneS l = some (h, t, r)) : l = ub h ++ (ub t.length ++ t) ++ r ∧ h < 18446744073709551616 ∧ t.length < 18446744073709551616 ∧ r.length < l.length := by
  unfold oneS at e
  cases h1 : tk l with
  | none => rw [h1] at e; cases e
  | some p =>
    obtain ⟨n, k⟩ := p
    have h2 := tk_some h1
    rw [h1] at e
    simp only at e
    cases h3 : txtS (l.drop k) with
    | none => rw [h3] at e; cases e
    | some p =>
      obtain ⟨t', r'⟩ := p
      rw [h3] at e
      injection e with e
      injection e with e1 e
      injection e with e2 e3
      subst e1 e2 e3
      have h4 := txtS_some h3
      have hl : l = ub n ++ (ub t'.length ++ t') ++ r' := by
        conv => lhs; rw [← List.take_append_drop k l]
        rw [h2.1, h4.1]
        simp only [List.append_assoc]
      refine ⟨hl, h2.2.1, h4.2, ?_⟩
      have := congrArg List.length hl
      have p1 := ub_pos n
      simp only [List.length_append] at this
      omega
theorem oneS_enc {t r : List UInt8} {h : Nat} (hh : h < 18446744073709551616) (ht : t.length < 18446744073709551616) : oneS (ub h ++ (ub t.length ++ t) ++ r) = some (h, t, r) := by
  unfold oneS
  rw [List.append_assoc, tk_front' _ _ hh]
  simp only [List.drop_left]
  rw [txtS_enc ht]

structure Dst where
  prev : Nat
  m : Mg
  left : Nat
  crit : Bool
def dstep (last : Nat) (s : Dst) (h : Nat) (t : List UInt8) : Option Dst :=
  if h / 2 ≤ s.prev then none else if last < h / 2 then some ⟨h / 2, s.m, s.left + 1, s.crit || h % 2 == 1⟩
  else if ¬ h = headT (h / 2) then none else match setF s.m (h / 2) t with
    | none => none
    | some m' => some ⟨h / 2, m', s.left, s.crit⟩
def dRun : Nat → Nat → Dst → List UInt8 → Option Dst
  | 0, _, _, _ => none
  | f + 1, last, s, rest => if rest = [] then some s else match oneS rest with
    | none => none
    | some (h, t, r) => match dstep last s h t with
      | none => none
      | some s' => dRun f last s' r
theorem dRun_fuel : ∀ (f g last : Nat) (s : Dst) (rest : List UInt8), rest.length < f → rest.length < g → dRun f last s rest = dRun g last s rest
  | 0, _, _, _, _, h, _ => by omega
  | _ + 1, 0, _, _, _, _, h => by omega
  | f + 1, g + 1, last, s, rest, hf, hg => by
    unfold dRun
    by_cases h0 : rest = []
    · rw [if_pos h0, if_pos h0]
    · rw [if_neg h0, if_neg h0]
      cases h1 : oneS rest with
      | none => rfl
      | some p =>
        obtain ⟨h, t, r⟩ := p
        have := (oneS_some h1).2.2.2
        simp only
        cases h2 : dstep last s h t with
        | none => rfl
        | some s' => exact dRun_fuel f g last s' r (by omega) (by omega)
/-- The fields, with fuel enough. -/
def dAll (last : Nat) (s : Dst) (rest : List UInt8) : Option Dst := dRun (rest.length + 1) last s rest
theorem dAll_nil (last : Nat) (s : Dst) : dAll last s [] = some s := by unfold dAll dRun; rw [if_pos rfl]
theorem dAll_none {last : Nat} {s : Dst} {rest : List UInt8} (h0 : ¬ rest = []) (h : oneS rest = none) : dAll last s rest = none := by unfold dAll dRun; rw [if_neg h0, h]
theorem dAll_bad {last : Nat} {s : Dst} {rest t r : List UInt8} {h : Nat} (h1 : oneS rest = some (h, t, r)) (h2 : dstep last s h t = none) : dAll last s rest = none := by
  have h0 : ¬ rest = [] := by rintro rfl; have := (oneS_some h1).2.2.2; simp at this
  unfold dAll dRun; rw [if_neg h0, h1]; simp only; rw [h2]
theorem dAll_step {last : Nat} {s s' : Dst} {rest t r : List UInt8} {h : Nat} (h1 : oneS rest = some (h, t, r)) (h2 : dstep last s h t = some s') : dAll last s rest = dAll last s' r := by
  have h3 := (oneS_some h1).2.2.2
  have h0 : ¬ rest = [] := by rintro rfl; simp at h3
  have e : dAll last s rest = dRun rest.length last s' r := by unfold dAll; rw [dRun, if_neg h0, h1]; simp only; rw [h2]
  rw [e]
  exact dRun_fuel _ _ _ _ _ h3 (Nat.lt_succ_self _)
def dst0 (kind : Nat) : Dst := ⟨0, { mg0 with kind := kind }, 0, false⟩
/-- Bytes as a message, in a version. -/
def decB (v : Int) (b : List UInt8) : Mg × Nat × Int :=
  if lastOfM v = 0 then (mg0, 0, 1) else if 4000 < b.length then (mg0, 0, 3) else match tk b with
    | none => (mg0, 0, 2)
    | some (kind, k) => match dAll (lastOfM v) (dst0 kind) (b.drop k) with
      | none => (mg0, 0, 2)
      | some s => if rightBM s.m = false then (mg0, 0, 2) else if s.crit = true then (mg0, 0, 4) else (s.m, s.left, 0)
end Go.Proofs.Ytbhlgceicfjncaa

namespace Go.Proofs.Ytbhlgceicfjncaa
open Go.RowKit
set_option linter.unusedVariables false
set_option linter.unnecessarySimpa false
set_option linter.unusedSimpArgs false
set_option maxRecDepth 100000

theorem numS_some {t : List UInt8} {lim n : Nat} (h : numS t lim = some n) : t = ub n ∧ n ≠ 0 ∧ n ≤ lim ∧ n < 18446744073709551616 := by
  unfold numS at h
  cases h1 : tk t with
  | none => rw [h1] at h; cases h
  | some p =>
    obtain ⟨x, k⟩ := p
    have h2 := tk_some h1
    rw [h1] at h
    simp only at h
    split at h
    · rename_i hc
      injection h with h
      subst h
      refine ⟨?_, hc.2.1, hc.2.2, h2.2.1⟩
      rw [← h2.1, hc.1, List.take_length]
    · cases h
theorem numS_ub {lim n : Nat} (h0 : n ≠ 0) (h : n ≤ lim) (h64 : n < 18446744073709551616) : numS (ub n) lim = some n := by
  have h1 : tk (ub n) = some (n, (ub n).length) := by have := tk_front' n [] h64; simpa using this
  unfold numS
  rw [h1]
  exact if_pos ⟨rfl, h0, h⟩
theorem numF_ub {n : Nat} {t : List UInt8} (h : numF n = some t) : t = ub n ∧ n ≠ 0 := by
  unfold numF at h
  split at h
  · cases h
  · rename_i h0
    injection h with h
    exact ⟨h.symm, h0⟩
theorem numF_of {n : Nat} (h : n ≠ 0) : numF n = some (ub n) := by unfold numF; rw [if_neg h]
theorem ba_back (s : ByteArray) : (⟨s.data.toList.toArray⟩ : ByteArray) = s := by simp

/-- One field of another message. -/
def putT (m0 m : Mg) : Nat → Mg
  | 1 => { m0 with frm := m.frm }
  | 2 => { m0 with to_ := m.to_ }
  | 3 => { m0 with node := m.node, life := m.life, seq := m.seq }
  | 4 => { m0 with a := m.a }
  | 5 => { m0 with b := m.b }
  | 6 => { m0 with key := m.key }
  | 7 => { m0 with found := m.found }
  | 8 => { m0 with time := m.time, gone := m.gone, val := m.val }
  | 9 => { m0 with ws := m.ws }
  | 10 => { m0 with note := m.note }
  | 11 => { m0 with hint := m.hint }
  | 12 => { m0 with must := m.must }
  | _ => m0
/-- A message's fields up to a tag. -/
def upto (m : Mg) (k : Nat) : Mg :=
  ⟨m.kind, if 1 ≤ k then m.frm else 0, if 2 ≤ k then m.to_ else 0, if 3 ≤ k then m.node else 0, if 3 ≤ k then m.life else 0, if 3 ≤ k then m.seq else 0, if 4 ≤ k then m.a else 0, if 5 ≤ k then m.b else 0,
    if 6 ≤ k then m.key else ByteArray.empty, if 7 ≤ k then m.found else false, if 8 ≤ k then m.time else 0, if 8 ≤ k then m.gone else false, if 8 ≤ k then m.val else ByteArray.empty, if 9 ≤ k then m.ws else [],
    if 10 ≤ k then m.note else ByteArray.empty, if 11 ≤ k then m.hint else 0, if 12 ≤ k then m.must else 0⟩
theorem upto_put {m : Mg} {k : Nat} (hk : k < 12) : upto m (k + 1) = putT (upto m k) m (k + 1) := by
  have : k = 0 ∨ k = 1 ∨ k = 2 ∨ k = 3 ∨ k = 4 ∨ k = 5 ∨ k = 6 ∨ k = 7 ∨ k = 8 ∨ k = 9 ∨ k = 10 ∨ k = 11 := by omega
  rcases this with rfl | rfl | rfl | rfl | rfl | rfl | rfl | rfl | rfl | rfl | rfl | rfl <;> rfl

theorem wsS_enc : ∀ (l : List Wr) (r : List UInt8), (∀ w ∈ l, w.key.size < 18446744073709551616 ∧ w.val.size < 18446744073709551616) → wsS l.length (wsB l ++ r) = some (l, r)
  | [], r, _ => rfl
  | x :: l, r, h => by
    have h1 := h x (by simp)
    have ih := wsS_enc l r (fun w hw => h w (by simp [hw]))
    obtain ⟨key, gone, val⟩ := x
    simp only at h1
    rw [Lib.size_eq, Lib.size_eq] at h1
    have e : wsB (⟨key, gone, val⟩ :: l) ++ r = (if gone then 1 else 0) :: (ub key.data.toList.length ++ key.data.toList ++ (ub val.data.toList.length ++ val.data.toList ++ (wsB l ++ r))) := by
      show wrB ⟨key, gone, val⟩ ++ wsB l ++ r = _
      simp only [wrB, bl, txB, Lib.size_eq, List.append_assoc, List.cons_append, List.nil_append]
    rw [e]
    show wsS (l.length + 1) _ = _
    rw [wsS]
    rw [if_neg (by cases gone <;> simp), txtS_enc h1.1]
    simp only
    rw [txtS_enc h1.2]
    simp only
    rw [ih]
    simp only [ba_back]
    cases gone <;> rfl
theorem set3_enc {m0 m : Mg} {t : List UInt8} (hn : nums31 m = true) (h : fld m 3 = some t) : set3 m0 t = some (putT m0 m 3) := by
  rw [fld_3] at h
  split at h
  · cases h
  · rename_i hz
    injection h with h
    subst h
    unfold nums31 in31 at hn
    simp only [Bool.and_eq_true, decide_eq_true_eq] at hn
    obtain ⟨⟨⟨⟨_, _⟩, b3⟩, b4⟩, b5⟩ := hn
    unfold txnZero at hz
    simp only [Bool.and_eq_true, beq_iff_eq] at hz
    obtain ⟨x, hx⟩ : ∃ x : Nat, m.node = x := ⟨m.node.toNat, by omega⟩
    obtain ⟨y, hy⟩ : ∃ x : Nat, m.life = x := ⟨m.life.toNat, by omega⟩
    obtain ⟨z, hz3⟩ : ∃ x : Nat, m.seq = x := ⟨m.seq.toNat, by omega⟩
    have e : putT m0 m 3 = { m0 with node := (x : Int), life := (y : Int), seq := (z : Int) } := by show { m0 with node := m.node, life := m.life, seq := m.seq } = _; rw [hx, hy, hz3]
    rw [e, hx, hy, hz3]
    rw [hx] at b3 hz
    rw [hy] at b4 hz
    rw [hz3] at b5 hz
    simp only [Int.toNat_natCast]
    have k3 : tk (ub z) = some (z, (ub z).length) := by have := tk_front' z [] (by omega); simpa using this
    unfold set3
    rw [List.append_assoc, tk_front' x _ (by omega)]
    simp only [List.drop_left]
    rw [tk_front' y _ (by omega)]
    simp only [List.drop_left]
    rw [k3]
    simp only
    exact if_pos ⟨trivial, by rintro ⟨rfl, rfl, rfl⟩; exact hz ⟨⟨rfl, rfl⟩, rfl⟩, by omega, by omega, by omega⟩
theorem set8_enc {m0 m : Mg} {t : List UInt8} (ht : m.time < 18446744073709551616) (h : fld m 8 = some t) : set8 m0 t = some (putT m0 m 8) := by
  rw [fld_8] at h
  split at h
  · cases h
  · rename_i hz
    injection h with h
    subst h
    unfold verZeroM at hz
    unfold set8
    rw [List.append_assoc, tk_front' _ _ ht]
    simp only [List.drop_left]
    have e : bl m.gone ++ m.val.data.toList = (if m.gone then 1 else 0) :: m.val.data.toList := rfl
    rw [e]
    simp only
    rw [if_pos]
    · show some { m0 with time := m.time, gone := _, val := _ } = some { m0 with time := m.time, gone := m.gone, val := m.val }
      rw [ba_back]
      cases m.gone <;> rfl
    · refine ⟨by cases m.gone <;> simp, ?_⟩
      rintro ⟨h1, h2, h3⟩
      apply hz
      have h4 : m.val.size = 0 := by rw [Lib.size_eq, h3]; rfl
      cases hg : m.gone
      · simp [h1, h4]
      · rw [hg] at h2; simp at h2
theorem set9_enc {m0 m : Mg} {t : List UInt8} (hw : m.few) (h8 : m.ws.length ≤ 8) (h : fld m 9 = some t) : set9 m0 t = some (putT m0 m 9) := by
  rw [fld_9] at h
  split at h
  · cases h
  · rename_i hz
    injection h with h
    subst h
    unfold set9
    rw [tk_front' _ _ (by omega)]
    simp only [List.drop_left]
    rw [if_neg (by omega)]
    have := wsS_enc m.ws [] (fun x hx => by have := hw.all x hx; omega)
    rw [List.append_nil] at this
    rw [this]
    simp only
    exact if_pos trivial
theorem setF_1 (m : Mg) (t : List UInt8) : setF m 1 t = (numS t 2147483647).map fun n => { m with frm := (n : Int) } := rfl
theorem setF_2 (m : Mg) (t : List UInt8) : setF m 2 t = (numS t 2147483647).map fun n => { m with to_ := (n : Int) } := rfl
theorem nat_back {n : Int} (h : in31 n = true) : ((n.toNat : Nat) : Int) = n := by have := of_decide_eq_true h; omega
theorem set_fld {m0 m : Mg} (hn : nums31 m = true) (hf : m.fits) (hw : m.few) (h8 : m.ws.length ≤ 8) {tag : Nat} (h1 : 1 ≤ tag) (h12 : tag ≤ 12) {t : List UInt8} (h : fld m tag = some t) : setF m0 tag t = some (putT m0 m tag) := by
  have hn' := hn
  unfold nums31 at hn'
  simp only [Bool.and_eq_true] at hn'
  obtain ⟨⟨⟨⟨c1, c2⟩, _⟩, _⟩, _⟩ := hn'
  have d1 := of_decide_eq_true c1
  have d2 := of_decide_eq_true c2
  have : tag = 1 ∨ tag = 2 ∨ tag = 3 ∨ tag = 4 ∨ tag = 5 ∨ tag = 6 ∨ tag = 7 ∨ tag = 8 ∨ tag = 9 ∨ tag = 10 ∨ tag = 11 ∨ tag = 12 := by omega
  rcases this with rfl | rfl | rfl | rfl | rfl | rfl | rfl | rfl | rfl | rfl | rfl | rfl
  · obtain ⟨rfl, h0⟩ := numF_ub (n := m.frm.toNat) h
    rw [setF_1, numS_ub h0 (by omega) (by omega), Option.map_some, nat_back c1]
    rfl
  · obtain ⟨rfl, h0⟩ := numF_ub (n := m.to_.toNat) h
    rw [setF_2, numS_ub h0 (by omega) (by omega), Option.map_some, nat_back c2]
    rfl
  · exact set3_enc hn h
  · obtain ⟨rfl, h0⟩ := numF_ub (n := m.a) h
    have := hf.a
    show (numS _ _).map _ = _
    rw [numS_ub h0 (by omega) this]
    rfl
  · obtain ⟨rfl, h0⟩ := numF_ub (n := m.b) h
    have := hf.b
    show (numS _ _).map _ = _
    rw [numS_ub h0 (by omega) this]
    rfl
  · rw [fld_6] at h
    split at h
    · cases h
    · rename_i h0
      injection h with h
      subst h
      show (if m.key.data.toList = [] then none else some { m0 with key := ⟨m.key.data.toList.toArray⟩ }) = _
      rw [if_neg (fun e => h0 (by rw [Lib.size_eq, e]; rfl)), ba_back]
      rfl
  · rw [fld_7] at h
    split at h
    · rename_i h0
      injection h with h
      subst h
      show some { m0 with found := true } = some { m0 with found := m.found }
      rw [h0]
    · cases h
  · exact set8_enc hf.time h
  · exact set9_enc hw h8 h
  · rw [fld_10] at h
    split at h
    · cases h
    · rename_i h0
      injection h with h
      subst h
      show (if m.note.data.toList = [] then none else some { m0 with note := ⟨m.note.data.toList.toArray⟩ }) = _
      rw [if_neg (fun e => h0 (by rw [Lib.size_eq, e]; rfl)), ba_back]
      rfl
  · obtain ⟨rfl, h0⟩ := numF_ub (n := m.hint) h
    have := hf.hint
    show (numS _ _).map _ = _
    rw [numS_ub h0 (by omega) this]
    rfl
  · obtain ⟨rfl, h0⟩ := numF_ub (n := m.must) h
    have := hf.must
    show (numS _ _).map _ = _
    rw [numS_ub h0 (by omega) this]
    rfl
end Go.Proofs.Ytbhlgceicfjncaa

namespace Go.Proofs.Ytbhlgceicfjncaa
open Go.RowKit
set_option linter.unusedVariables false
set_option linter.unnecessarySimpa false
set_option linter.unusedSimpArgs false
set_option maxRecDepth 100000

theorem numF_none {n : Nat} (h : numF n = none) : n = 0 := by
  unfold numF at h
  split at h
  · assumption
  · cases h
theorem ba_none {s : ByteArray} (h : s.size = 0) : s = ByteArray.empty := ByteArray.ext (Array.eq_empty_of_size_eq_zero h)
theorem int_none {n : Int} (h1 : in31 n = true) (h : numF n.toNat = none) : n = 0 := by
  have h2 := numF_none h
  have h3 := of_decide_eq_true h1
  omega
theorem upto_none {m : Mg} (hn : nums31 m = true) {k : Nat} (hk : k < 12) (h : fld m (k + 1) = none) : upto m (k + 1) = upto m k := by
  have hn' := hn
  unfold nums31 at hn'
  simp only [Bool.and_eq_true] at hn'
  obtain ⟨⟨⟨⟨c1, c2⟩, _⟩, _⟩, _⟩ := hn'
  have : k = 0 ∨ k = 1 ∨ k = 2 ∨ k = 3 ∨ k = 4 ∨ k = 5 ∨ k = 6 ∨ k = 7 ∨ k = 8 ∨ k = 9 ∨ k = 10 ∨ k = 11 := by omega
  rw [upto_put hk]
  rcases this with rfl | rfl | rfl | rfl | rfl | rfl | rfl | rfl | rfl | rfl | rfl | rfl
  · have e : m.frm = 0 := int_none c1 h
    show { upto m 0 with frm := m.frm } = upto m 0
    rw [e]; rfl
  · have e : m.to_ = 0 := int_none c2 h
    show { upto m 1 with to_ := m.to_ } = upto m 1
    rw [e]; rfl
  · rw [show fld m (2 + 1) = fld m 3 from rfl, fld_3] at h
    split at h
    · rename_i hz
      unfold txnZero at hz
      simp only [Bool.and_eq_true, beq_iff_eq] at hz
      show { upto m 2 with node := m.node, life := m.life, seq := m.seq } = upto m 2
      rw [hz.1.1, hz.1.2, hz.2]; rfl
    · cases h
  · have e : m.a = 0 := numF_none h
    show { upto m 3 with a := m.a } = upto m 3
    rw [e]; rfl
  · have e : m.b = 0 := numF_none h
    show { upto m 4 with b := m.b } = upto m 4
    rw [e]; rfl
  · rw [show fld m (5 + 1) = fld m 6 from rfl, fld_6] at h
    split at h
    · rename_i hz
      show { upto m 5 with key := m.key } = upto m 5
      rw [ba_none hz]; rfl
    · cases h
  · rw [show fld m (6 + 1) = fld m 7 from rfl, fld_7] at h
    split at h
    · cases h
    · rename_i hz
      show { upto m 6 with found := m.found } = upto m 6
      rw [show m.found = false by simpa using hz]; rfl
  · rw [show fld m (7 + 1) = fld m 8 from rfl, fld_8] at h
    split at h
    · rename_i hz
      unfold verZeroM at hz
      simp only [Bool.and_eq_true, beq_iff_eq, Bool.not_eq_true'] at hz
      show { upto m 7 with time := m.time, gone := m.gone, val := m.val } = upto m 7
      rw [hz.1.1, hz.1.2, ba_none hz.2]; rfl
    · cases h
  · rw [show fld m (8 + 1) = fld m 9 from rfl, fld_9] at h
    split at h
    · rename_i hz
      show { upto m 8 with ws := m.ws } = upto m 8
      rw [List.length_eq_zero_iff.1 hz]; rfl
    · cases h
  · rw [show fld m (9 + 1) = fld m 10 from rfl, fld_10] at h
    split at h
    · rename_i hz
      show { upto m 9 with note := m.note } = upto m 9
      rw [ba_none hz]; rfl
    · cases h
  · have e : m.hint = 0 := numF_none h
    show { upto m 10 with hint := m.hint } = upto m 10
    rw [e]; rfl
  · have e : m.must = 0 := numF_none h
    show { upto m 11 with must := m.must } = upto m 11
    rw [e]; rfl
theorem upto_cut {v : Int} {m : Mg} (hv : v = 1 ∨ v = 2 ∨ v = 3) (hm : v = 3 ∨ m.must = 0) : upto m (lastOfM v) = cut v m := by
  rcases hv with rfl | rfl | rfl
  · have h0 : m.must = 0 := by rcases hm with h | h; · omega
                               · exact h
    obtain ⟨kind, frm, to_, node, life, seq, a, b, key, found, time, gone, val, ws, note, hint, must⟩ := m
    simp only at h0
    subst h0
    rfl
  · have h0 : m.must = 0 := by rcases hm with h | h; · omega
                               · exact h
    obtain ⟨kind, frm, to_, node, life, seq, a, b, key, found, time, gone, val, ws, note, hint, must⟩ := m
    simp only at h0
    subst h0
    rfl
  · rfl

theorem head_half (tag : Nat) : headT tag / 2 = tag := by unfold headT; split <;> omega
theorem head_odd (tag : Nat) : (headT tag % 2 == 1) = (tag == 12) := by
  unfold headT
  split
  · rename_i h; subst h; rfl
  · rename_i h
    rw [show (tag == 12) = false by rw [beq_eq_false_iff_ne]; exact h]
    rw [beq_eq_false_iff_ne]
    omega
/-- The fields that the version has. -/
theorem run_known {m : Mg} (hn : nums31 m = true) (hf : m.fits) (hw : m.few) (h8 : m.ws.length ≤ 8) (hb : ∀ k t, fld m k = some t → t.length < 18446744073709551616) {last : Nat} (hl : last ≤ 12) :
    ∀ (k : Nat) (R : List UInt8), k ≤ last → ∃ p, p ≤ k ∧ dAll last ⟨0, upto m 0, 0, false⟩ (fldsB m k ++ R) = dAll last ⟨p, upto m k, 0, false⟩ R
  | 0, R, _ => ⟨0, Nat.le_refl _, rfl⟩
  | k + 1, R, hk => by
    obtain ⟨p, hp, e⟩ := run_known hn hf hw h8 hb hl k (fldB m (k + 1) ++ R) (by omega)
    have e0 : fldsB m (k + 1) ++ R = fldsB m k ++ (fldB m (k + 1) ++ R) := by rw [fldsB, List.append_assoc]
    rw [e0, e]
    cases h : fld m (k + 1) with
    | none =>
      have : fldB m (k + 1) = [] := by unfold fldB; rw [h]
      rw [this, List.nil_append, upto_none hn (by omega) h]
      exact ⟨p, by omega, rfl⟩
    | some t =>
      have : fldB m (k + 1) = ub (headT (k + 1)) ++ (ub t.length ++ t) := by unfold fldB; rw [h]; rfl
      rw [this]
      have h1 := oneS_enc (r := R) (h := headT (k + 1)) (t := t) (by unfold headT; split <;> omega) (hb _ _ h)
      have h2 : dstep last ⟨p, upto m k, 0, false⟩ (headT (k + 1)) t = some ⟨k + 1, upto m (k + 1), 0, false⟩ := by
        unfold dstep
        rw [head_half, if_neg (by simp only; omega), if_neg (by omega), if_neg (by simp), set_fld hn hf hw h8 (by omega) (by omega) h, upto_put (by omega)]
      exact ⟨k + 1, Nat.le_refl _, dAll_step h1 h2⟩
/-- A field that the version hasn't. -/
theorem run_unknown {m M : Mg} {last tag p l : Nat} {c : Bool} {R : List UInt8} (hb : ∀ k t, fld m k = some t → t.length < 18446744073709551616) (h1 : last < tag) (h2 : p < tag) (h3 : tag ≤ 12) :
    ∃ p', p' ≤ tag ∧ dAll last ⟨p, M, l, c⟩ (fldB m tag ++ R) = dAll last ⟨p', M, l + (if (fld m tag).isSome then 1 else 0), c || ((fld m tag).isSome && tag == 12)⟩ R := by
  cases h : fld m tag with
  | none =>
    have : fldB m tag = [] := by unfold fldB; rw [h]
    rw [this, List.nil_append]
    exact ⟨p, by omega, by simp⟩
  | some t =>
    have : fldB m tag = ub (headT tag) ++ (ub t.length ++ t) := by unfold fldB; rw [h]; rfl
    rw [this]
    have e1 := oneS_enc (r := R) (h := headT tag) (t := t) (by unfold headT; split <;> omega) (hb _ _ h)
    have e2 : dstep last ⟨p, M, l, c⟩ (headT tag) t = some ⟨tag, M, l + 1, c || tag == 12⟩ := by
      unfold dstep
      rw [head_half, if_neg (by simp only; omega), if_pos h1, head_odd]
    exact ⟨tag, Nat.le_refl _, by rw [dAll_step e1 e2]; simp⟩
end Go.Proofs.Ytbhlgceicfjncaa
