/-
  Joined: LzPass, LzOps, LzPackMath, LzPartsOf, LzCopy, LzPart, LzContracts.
-/
import Derived.Test.YthcomfcbdlobpaaSet35
import Derived.Test.YthcomfcbdlobpaaSet30
import Derived.Test.YthcomfcbdlobpaaSet04
import Derived.ProofKit
import Derived.OpenShut
namespace Go.Proofs.Ythcomfcbdlobpaa
open Go.RowKit Go.Maps
set_option linter.unusedVariables false
set_option linter.unnecessarySimpa false
set_option linter.unusedSimpArgs false
set_option maxRecDepth 100000

/-- Where four bytes stood last, ahead of p. -/
def lastAt (s : ByteArray) (x : F4) : Nat → Option Nat
  | 0 => none
  | p + 1 => if p + 4 ≤ s.size ∧ fours s p = x then some p else lastAt s x p
theorem lastAt_some {s : ByteArray} {x : F4} : ∀ {p i : Nat}, lastAt s x p = some i → i < p ∧ i + 4 ≤ s.size ∧ fours s i = x
  | 0, _, h => by cases h
  | p + 1, i, h => by
    rw [lastAt] at h
    split at h
    · rename_i hc
      cases h
      exact ⟨Nat.lt_succ_self _, hc.1, hc.2⟩
    · have := lastAt_some h
      exact ⟨by omega, this.2⟩
theorem lastAt_end {s : ByteArray} {x : F4} {p : Nat} (h : ¬ p + 4 ≤ s.size) : ∀ d, lastAt s x (p + d) = lastAt s x p
  | 0 => rfl
  | d + 1 => by
    rw [← Nat.add_assoc, lastAt, if_neg (by omega), lastAt_end h d]
/-- At each key stands where its bytes stood last, ahead of p. -/
def MapOK (D : DataW Unit) (s : ByteArray) (p : Nat) : Prop :=
  IsMap D ∧ ∀ x : F4, match lastAt s x p with
    | none => Maps.has D (key4 x) = false
    | some i => Maps.has D (key4 x) = true ∧ D.atKey (key4 x) (.lit (.int .i64 0)) = .lit (.int .i64 (i : Int))
theorem MapOK.none {D : DataW Unit} {s : ByteArray} {p : Nat} (h : MapOK D s p) {x : F4} (hx : lastAt s x p = .none) : Maps.has D (key4 x) = false := by
  have := h.2 x
  rw [hx] at this
  exact this
theorem MapOK.some {D : DataW Unit} {s : ByteArray} {p i : Nat} (h : MapOK D s p) {x : F4} (hx : lastAt s x p = .some i) : Maps.has D (key4 x) = true ∧ D.atKey (key4 x) (.lit (.int .i64 0)) = .lit (.int .i64 (i : Int)) := by
  have := h.2 x
  rw [hx] at this
  exact this
theorem MapOK.start (s : ByteArray) : MapOK (.map []) s 0 := ⟨isMap_empty, fun x => rfl⟩
theorem MapOK.stay {D : DataW Unit} {s : ByteArray} {p q : Nat} (h : MapOK D s p) (hpq : p ≤ q) (he : p = q ∨ ¬ p + 4 ≤ s.size) : MapOK D s q := by
  rcases he with rfl | he
  · exact h
  · refine ⟨h.1, fun x => ?_⟩
    obtain ⟨d, rfl⟩ : ∃ d, q = p + d := ⟨q - p, by omega⟩
    rw [lastAt_end he d]
    exact h.2 x
theorem map_below {w w' : World} {P : Program} {k : TypeId} {R : Value → Option (DataW Unit × List MemPlace)} {b n : Nat} {D : DataW Unit} (h : w.ownsMap P k R b n D) (hb : Below w.heap.size w w') : w'.ownsMap P k R b n D := by
  have hlt := h.lt
  obtain ⟨es, clock, hb2, F, hs, hD⟩ := h
  exact ⟨es, clock, (hb.block b hlt).trans hb2, F, hs, hD⟩

end Go.Proofs.Ythcomfcbdlobpaa

namespace Go.Proofs.Ythcomfcbdlobpaa
open Go.RowKit
set_option linter.unnecessarySimpa false
set_option linter.unusedVariables false
set_option linter.unusedSimpArgs false
set_option maxRecDepth 100000

inductive LOp where
  | lit (p : List UInt8)
  | cpy (d w : Nat)
def enc1 : LOp → List UInt8
  | .lit p => ub p.length ++ p
  | .cpy d w => ub d ++ ub w
def app1 (o : List UInt8) : LOp → List UInt8
  | .lit p => o ++ p
  | .cpy d w => copyTo w d o
def encs (l : List LOp) : List UInt8 := l.flatMap enc1
def apps (l : List LOp) (o : List UInt8) : List UInt8 := l.foldl app1 o
/-- Plain bytes and copies, one after the other. -/
def alt : Bool → List LOp → Prop
  | _, [] => True
  | false, .lit p :: r => p.length < 18446744073709551616 ∧ alt true r
  | true, .cpy d w :: r => d < 18446744073709551616 ∧ w < 18446744073709551616 ∧ alt false r
  | _, _ => False
theorem encs_append (l m : List LOp) : encs (l ++ m) = encs l ++ encs m := by simp [encs]
theorem apps_append (l m : List LOp) (o : List UInt8) : apps (l ++ m) o = apps m (apps l o) := by simp [apps]
/-- Which kind comes next. -/
def nxt : Bool → List LOp → Bool
  | c, [] => c
  | c, _ :: r => nxt (!c) r
theorem alt_lit : ∀ (l : List LOp) (c : Bool) (p : List UInt8), alt c l → nxt c l = false → p.length < 18446744073709551616 → alt c (l ++ [.lit p]) ∧ nxt c (l ++ [.lit p]) = true
  | [], c, p, _, hn, hp => by
    have : c = false := hn
    subst this
    exact ⟨⟨hp, trivial⟩, rfl⟩
  | x :: r, c, p, h, hn, hp => by
    cases c <;> cases x
    · have := alt_lit r true p h.2 hn hp
      exact ⟨⟨h.1, this.1⟩, this.2⟩
    · exact absurd h id
    · exact absurd h id
    · have := alt_lit r false p h.2.2 hn hp
      exact ⟨⟨h.1, h.2.1, this.1⟩, this.2⟩
theorem alt_cpy : ∀ (l : List LOp) (c : Bool) (d w : Nat), alt c l → nxt c l = true → d < 18446744073709551616 → w < 18446744073709551616 → alt c (l ++ [.cpy d w]) ∧ nxt c (l ++ [.cpy d w]) = false
  | [], c, d, w, _, hn, hd, hw => by
    have : c = true := hn
    subst this
    exact ⟨⟨hd, hw, trivial⟩, rfl⟩
  | x :: r, c, d, w, h, hn, hd, hw => by
    cases c <;> cases x
    · have := alt_cpy r true d w h.2 hn hd hw
      exact ⟨⟨h.1, this.1⟩, this.2⟩
    · exact absurd h id
    · exact absurd h id
    · have := alt_cpy r false d w h.2.2 hn hd hw
      exact ⟨⟨h.1, h.2.1, this.1⟩, this.2⟩

theorem tk_front (m : Nat) (r : List UInt8) (hm : m < 18446744073709551616) : tk (ub m ++ r) = some (m, (ub m).length) := by
  have := tkAux_ub (ub m).length m 0 0 r (Nat.le_refl _) (by omega) (by simpa using hm) (fun _ => rfl)
  simpa [tk] using this

/-- Whoever reads parts on gets what they mean, or nothing. -/
theorem uRun_parts : ∀ (l : List LOp) (f n t : Nat) (out : List UInt8) (c : Bool), alt c l → (t % 2 == 1) = c → uRun f n t out (encs l) = none ∨ uRun f n t out (encs l) = some (apps l out)
  | l, 0, _, _, _, _, _, _ => .inl rfl
  | [], f + 1, n, t, out, c, _, _ => by
    by_cases h : t = 0 ∨ out.length < n
    · left
      rw [uRun_none h (step_bad (by rfl))]
    · rw [uRun_end h]
      right
      rfl
  | x :: r, f + 1, n, t, out, c, ha, ht => by
    have he : encs (x :: r) = enc1 x ++ encs r := rfl
    by_cases h : t = 0 ∨ out.length < n
    · rw [uRun_go h, ht]
      cases c <;> cases x
      · rename_i p
        obtain ⟨hp, ha⟩ := ha
        have hk : tk (encs (.lit p :: r)) = some (p.length, (ub p.length).length) := by
          rw [he]; show tk ((ub p.length ++ p) ++ encs r) = _; rw [List.append_assoc]; exact tk_front _ _ hp
        have hd : (encs (.lit p :: r)).drop (ub p.length).length = p ++ encs r := by
          rw [he]; show ((ub p.length ++ p) ++ encs r).drop _ = _; rw [List.append_assoc, List.drop_left]
        rw [step_lit hk, hd]
        by_cases hc : p.length ≤ (p ++ encs r).length ∧ p.length ≤ n - out.length
        · rw [if_pos hc]
          have e1 : (p ++ encs r).take p.length = p := List.take_left
          have e2 : (p ++ encs r).drop p.length = encs r := List.drop_left
          simp only [e1, e2]
          have := uRun_parts r f n (t + 1) (out ++ p) true ha (by rw [beq_iff_eq]; rw [beq_eq_false_iff_ne] at ht; omega)
          exact this
        · rw [if_neg hc]; exact .inl rfl
      · exact absurd ha id
      · exact absurd ha id
      · rename_i d w
        obtain ⟨hd0, hw0, ha⟩ := ha
        have hk : tk (encs (.cpy d w :: r)) = some (d, (ub d).length) := by
          rw [he]; show tk ((ub d ++ ub w) ++ encs r) = _; rw [List.append_assoc]; exact tk_front _ _ hd0
        have hd : (encs (.cpy d w :: r)).drop (ub d).length = ub w ++ encs r := by
          rw [he]; show ((ub d ++ ub w) ++ encs r).drop _ = _; rw [List.append_assoc, List.drop_left]
        have hk2 : tk ((encs (.cpy d w :: r)).drop (ub d).length) = some (w, (ub w).length) := by rw [hd]; exact tk_front _ _ hw0
        rw [step_copy hk hk2, hd]
        by_cases hc : 1 ≤ d ∧ d ≤ out.length ∧ 4 ≤ w ∧ w ≤ n - out.length
        · rw [if_pos hc]
          have e2 : (ub w ++ encs r).drop (ub w).length = encs r := List.drop_left
          simp only [e2]
          have := uRun_parts r f n (t + 1) (copyTo w d out) false ha (by rw [beq_eq_false_iff_ne]; rw [beq_iff_eq] at ht; omega)
          exact this
        · rw [if_neg hc]; exact .inl rfl
    · rw [uRun_end h]
      left
      have hne : encs (x :: r) ≠ [] := by
        rw [he]
        cases x <;> simp only [enc1]
        · rename_i p
          have := ub_pos p.length
          intro e
          have e2 := congrArg List.length e
          simp only [List.length_append, List.length_nil] at e2
          omega
        · rename_i d w
          have := ub_pos d
          intro e
          have e2 := congrArg List.length e
          simp only [List.length_append, List.length_nil] at e2
          omega
      rw [if_neg hne]
/-- What is joined means what its parts mean, or is no packed bytes. -/
theorem unp_joined {l : List LOp} (h : alt false l) (hn : (apps l []).length ≤ 60000) : (unp (ub (apps l []).length ++ 1 :: encs l)).2 = 0 → (unp (ub (apps l []).length ++ 1 :: encs l)).1 = apps l [] := by
  have hk := tk_front (apps l []).length (1 :: encs l) (by omega)
  have hd : (ub (apps l []).length ++ 1 :: encs l).drop (ub (apps l []).length).length = 1 :: encs l := List.drop_left
  unfold unp
  rw [hk]
  simp only
  rw [if_neg (by omega), hd]
  simp only
  rw [if_neg (by rintro ⟨e, _⟩; cases e), if_neg (by decide)]
  rcases uRun_parts l ((encs l).length + 1) (apps l []).length 0 [] false h rfl with e | e <;> rw [e]
  · intro h; cases h
  · intro _; rfl
end Go.Proofs.Ythcomfcbdlobpaa

namespace Go.Proofs.Ythcomfcbdlobpaa
open Go.RowKit
set_option linter.unusedVariables false
set_option linter.unnecessarySimpa false
set_option linter.unusedSimpArgs false
set_option maxRecDepth 100000

theorem take_next {b : List UInt8} {k : Nat} (h : k < b.length) : b.take (k + 1) = b.take k ++ [b.getD k 0] := by
  rw [List.take_add_one, List.getElem?_eq_getElem h]
  simp [List.getD, List.getElem?_eq_getElem h]
theorem take_getD {b : List UInt8} {k j : Nat} (h : j < k) : (b.take k).getD j 0 = b.getD j 0 := by
  simp only [List.getD, List.getElem?_take]
  rw [if_pos h]
theorem copy_take {b : List UInt8} {f a m : Nat} (h1 : f < a) (h2 : a + m ≤ b.length) (h3 : ∀ i, i < m → b.getD (f + i) 0 = b.getD (a + i) 0) : ∀ i, i ≤ m → copyTo i (a - f) (b.take a) = b.take (a + i)
  | 0, _ => rfl
  | i + 1, hi => by
    have ih := copy_take h1 h2 h3 i (by omega)
    have hl : (b.take (a + i)).length = a + i := by rw [List.length_take]; omega
    rw [copyTo, ih, hl, take_getD (by omega), show a + i - (a - f) = f + i by omega, h3 i (by omega), ← Nat.add_assoc, take_next (by omega)]

/-- The parts' bytes so far, and how far they have come. -/
def PInv (b P : List UInt8) (own : Nat) : Prop :=
  ∃ c, c % 2 = 0 ∧ (c = 0 → own = 0) ∧ c ≤ P.length ∧ own ≤ b.length ∧ P.length ≤ 8 * own ∧ ∀ R F, uRun (F + c) b.length 0 [] (P ++ R) = uRun F b.length c (b.take own) R
theorem PInv.start (b : List UInt8) : PInv b [] 0 := ⟨0, rfl, fun _ => rfl, Nat.le_refl _, Nat.zero_le _, Nat.le_refl _, fun R F => by simp⟩
theorem PInv.bound {b P : List UInt8} {own : Nat} (h : PInv b P own) : P.length ≤ 8 * own ∧ own ≤ b.length := by
  obtain ⟨c, _, _, _, h1, h2, _⟩ := h
  exact ⟨h2, h1⟩

/-- Plain bytes, in the run. -/
theorem run_lit {b R : List UInt8} {own a F c : Nat} (hc : c % 2 = 0) (h0 : c = 0 ∨ own < b.length) (h1 : own ≤ a) (h2 : a ≤ b.length) (h64 : b.length < 18446744073709551616) :
    uRun (F + 1) b.length c (b.take own) (ub (a - own) ++ (b.drop own).take (a - own) ++ R) = uRun F b.length (c + 1) (b.take a) R := by
  have hol : (b.take own).length = own := by rw [List.length_take]; omega
  have hSl : ((b.drop own).take (a - own)).length = a - own := by rw [List.length_take, List.length_drop]; omega
  have hk : tk (ub (a - own) ++ (b.drop own).take (a - own) ++ R) = some (a - own, (ub (a - own)).length) := by rw [List.append_assoc]; exact tk_front _ _ (by omega)
  have hd : (ub (a - own) ++ (b.drop own).take (a - own) ++ R).drop (ub (a - own)).length = (b.drop own).take (a - own) ++ R := by rw [List.append_assoc, List.drop_left]
  have e0 : (c % 2 == 1) = false := by rw [beq_eq_false_iff_ne]; omega
  have hs := step_lit (n := b.length) (out := b.take own) hk
  rw [hd, if_pos (by rw [List.length_append, hSl, hol]; omega)] at hs
  have e1 : ((b.drop own).take (a - own) ++ R).take (a - own) = (b.drop own).take (a - own) := by
    rw [List.take_append_of_le_length (by omega)]
    rw [List.take_of_length_le (by omega)]
  have e2 : ((b.drop own).take (a - own) ++ R).drop (a - own) = R := by
    conv => lhs; rw [show a - own = ((b.drop own).take (a - own)).length from hSl.symm]
    rw [hSl, List.drop_append_of_le_length (by omega), List.drop_of_length_le (by omega)]
    rfl
  have e3 : b.take own ++ (b.drop own).take (a - own) = b.take a := by
    conv => rhs; rw [show a = own + (a - own) by omega]
    rw [List.take_add]
  rw [e1, e2, e3] at hs
  exact uRun_some (by rw [hol]; exact h0) (by rw [e0]; exact hs)
/-- A copy, in the run. -/
theorem run_copy {b R : List UInt8} {f a m F c : Nat} (hc : c % 2 = 1) (h1 : f < a) (h3 : 4 ≤ m) (h4 : a + m ≤ b.length) (h5 : ∀ i, i < m → b.getD (f + i) 0 = b.getD (a + i) 0) (h64 : b.length < 18446744073709551616) :
    uRun (F + 1) b.length c (b.take a) (ub (a - f) ++ ub m ++ R) = uRun F b.length (c + 1) (b.take (a + m)) R := by
  have hol : (b.take a).length = a := by rw [List.length_take]; omega
  have hk : tk (ub (a - f) ++ ub m ++ R) = some (a - f, (ub (a - f)).length) := by rw [List.append_assoc]; exact tk_front _ _ (by omega)
  have hd : (ub (a - f) ++ ub m ++ R).drop (ub (a - f)).length = ub m ++ R := by rw [List.append_assoc, List.drop_left]
  have hk2 : tk ((ub (a - f) ++ ub m ++ R).drop (ub (a - f)).length) = some (m, (ub m).length) := by rw [hd]; exact tk_front _ _ (by omega)
  have hs := step_copy (n := b.length) (out := b.take a) hk hk2
  rw [hd, if_pos (by rw [hol]; omega), List.drop_left, copy_take h1 h4 h5 m (Nat.le_refl _)] at hs
  have e0 : (c % 2 == 1) = true := by rw [beq_iff_eq]; exact hc
  exact uRun_some (by rw [hol]; omega) (by rw [e0]; exact hs)

theorem PInv.step {b P : List UInt8} {own f a m : Nat} (h : PInv b P own) (h1 : own ≤ a) (h2 : f < a) (h3 : 4 ≤ m) (h4 : a + m ≤ b.length) (h5 : ∀ i, i < m → b.getD (f + i) 0 = b.getD (a + i) 0) (h64 : b.length < 18446744073709551616) :
    PInv b (P ++ (ub (a - own) ++ (b.drop own).take (a - own)) ++ (ub (a - f) ++ ub m)) (a + m) := by
  obtain ⟨c, hc, hz, hcl, hol, hpl, hr⟩ := h
  have u1 := ub_len10 (n := a - own) (by omega)
  have u2 := ub_len10 (n := a - f) (by omega)
  have u3 := ub_len10 (n := m) (by omega)
  have p1 := ub_pos (a - own)
  have p2 := ub_pos (a - f)
  have hSl : ((b.drop own).take (a - own)).length = a - own := by rw [List.length_take, List.length_drop]; omega
  refine ⟨c + 2, by omega, by omega, ?_, h4, ?_, fun R F => ?_⟩
  · simp only [List.length_append]; omega
  · simp only [List.length_append, hSl]; omega
  · have e := hr ((ub (a - own) ++ (b.drop own).take (a - own)) ++ ((ub (a - f) ++ ub m) ++ R)) (F + 2)
    rw [show F + (c + 2) = F + 2 + c by omega]
    rw [show P ++ (ub (a - own) ++ (b.drop own).take (a - own)) ++ (ub (a - f) ++ ub m) ++ R = P ++ ((ub (a - own) ++ (b.drop own).take (a - own)) ++ ((ub (a - f) ++ ub m) ++ R)) by simp only [List.append_assoc]]
    rw [e, show F + 2 = (F + 1) + 1 from rfl, run_lit hc (.inr (by omega)) h1 (by omega) h64, run_copy (by omega) h2 h3 h4 h5 h64]

theorem unp_in {n : Nat} {rest : List UInt8} (h : n ≤ 60000) : unp (ub n ++ 1 :: rest) = match uRun (rest.length + 1) n 0 [] rest with
    | none => ([], 2)
    | some o => (o, 0) := by
  have hk := tk_front n (1 :: rest) (by omega)
  have hd : (ub n ++ 1 :: rest).drop (ub n).length = 1 :: rest := List.drop_left
  unfold unp
  rw [hk]
  simp only
  rw [if_neg (by omega), hd]
  simp only
  rw [if_neg (by rintro ⟨e, _⟩; cases e), if_neg (by decide)]
  cases uRun (rest.length + 1) n 0 [] rest <;> rfl
theorem run_end {b : List UInt8} {F c : Nat} (hc : c ≠ 0) : uRun (F + 1) b.length c b [] = some b := by
  rw [uRun_end (by rintro (h | h) <;> omega)]
  exact if_pos rfl
theorem unp_stored {b : List UInt8} (h : b.length ≤ 60000) : unp (ub b.length ++ 0 :: b) = (b, 0) := by
  have hk := tk_front b.length (0 :: b) (by omega)
  have hd : (ub b.length ++ 0 :: b).drop (ub b.length).length = 0 :: b := List.drop_left
  unfold unp
  rw [hk]
  simp only
  rw [if_neg (by omega), hd]
  simp
theorem PInv.done {b P : List UInt8} (h : PInv b P b.length) (hb : b.length ≤ 60000) (h0 : 0 < b.length) : unp (ub b.length ++ 1 :: P) = (b, 0) := by
  obtain ⟨c, hc, hz, hcl, hol, hpl, hr⟩ := h
  have e := hr [] (P.length - c + 1)
  rw [List.append_nil, show P.length - c + 1 + c = P.length + 1 by omega, List.take_length, run_end (by intro h; exact absurd (hz h) (by omega))] at e
  rw [unp_in hb, e]
theorem PInv.last {b P : List UInt8} {own : Nat} (h : PInv b P own) (hb : b.length ≤ 60000) (h0 : own < b.length) : unp (ub b.length ++ 1 :: (P ++ (ub (b.length - own) ++ b.drop own))) = (b, 0) := by
  obtain ⟨c, hc, hz, hcl, hol, hpl, hr⟩ := h
  have p1 := ub_pos (b.length - own)
  have e := hr (ub (b.length - own) ++ b.drop own) ((P.length + (ub (b.length - own)).length + (b.drop own).length) - c - 1 + 1 + 1)
  have hlen : (P ++ (ub (b.length - own) ++ b.drop own)).length + 1 = (P.length + (ub (b.length - own)).length + (b.drop own).length) - c - 1 + 1 + 1 + c := by
    simp only [List.length_append]; omega
  have hlit := run_lit (b := b) (R := []) (own := own) (a := b.length) (F := (P.length + (ub (b.length - own)).length + (b.drop own).length) - c - 1 + 1) hc (.inr h0) (by omega) (Nat.le_refl _) (by omega)
  rw [List.append_nil, List.take_of_length_le (show (b.drop own).length ≤ b.length - own by rw [List.length_drop]; omega), List.take_length, run_end (by omega)] at hlit
  rw [unp_in hb, hlen, e, hlit]
end Go.Proofs.Ythcomfcbdlobpaa

namespace Go.Proofs.Ythcomfcbdlobpaa
open Go.RowKit Go.Maps
set_option linter.unusedVariables false
set_option linter.unnecessarySimpa false
set_option linter.unusedSimpArgs false
set_option maxRecDepth 100000

theorem zero_int (w : World) : (zeroValue 3).run Try.prog w = .ok (.int .i64 0) w := by kernel_rfl
/-- 'v, ok := m[k]' where it is known what stands there. -/
theorem wpList_lookup_known {P : Program} (w : World) {ops : Array Oper} {rest : List Oper} {o : Oper} {a : Act} {Q : Exit → Act → World → Prop} (hg : o.guard = none) (m x : Operand) (t : TypeId) (hop : o.op = Op.lookup t m x true)
    (k e : TypeId) (q : IntKind) (K : Keyed P k) (ht : P.underlying t = some (.map k e)) (he : P.underlying e = some (.int q)) (hz : (zeroValue e).run P w = .ok (.int q 0) w) (b n : Nat) (D : DataW Unit)
    (hm : a.eval m = .map (some b)) (hown : w.ownsMap P k (plainElem P e) b n D) (key : Value) (kl : Lit) (hx : a.eval x = key) (hkey : keyOf P k key = some kl)
    (c : Int) (ok : Bool) (hc : D.atKey kl (.lit (.int q 0)) = .lit (.int q c)) (hh : Maps.has D kl = ok) (h : wpList P ops Q rest (a.put o.dst (.tuple #[.int q c, .bool ok])) w) :
    wpList P ops Q (o :: rest) a w :=
  wpList_lookup_own_ok_int w hg m x t hop k e q K ht he hz b n D hm hown key kl hx hkey (fun c' hc' _ => by
    rw [hc] at hc'
    simp only [DataW.lit.injEq, Lit.int.injEq, true_and] at hc'
    subst hc'
    subst hh
    exact h)

theorem Kept.into {B B0 M : Nat} {w w' : World} (h : Kept B M w w') (h1 : B0 ≤ M) (h2 : B0 ≤ B) : Below B0 w w' := ⟨h.os, h.tape, h.output, h.size, fun k hk => h.block k (by omega) (by omega)⟩
theorem own_kept {w w' : World} {B M e size n : Nat} {v : Value} {xs : List Value} (h : w.ownsRow B e size v n xs) (hM : M < B) (hk : Kept w.heap.size M w w') : w'.ownsRow B e size v n xs := by
  refine ⟨h.1, ?_⟩
  rcases h.2 with h2 | ⟨g, cap, cur, hv, hB, hg, h3⟩
  · exact .inl h2
  · exact .inr ⟨g, cap, cur, hv, hB, by rw [hk.block g (Array.getElem?_eq_some_iff.1 hg).1 (by omega)]; exact hg, h3⟩

theorem same_bytes {s : ByteArray} {a b m : Nat} (h : Same s a b m) : ∀ i, i < m → s.data.toList.getD (a + i) 0 = s.data.toList.getD (b + i) 0 := h.2.1
theorem same_four {s : ByteArray} {a b m : Nat} (h : Same s a b m) (h4 : fours s a = fours s b) (hb : b + 4 ≤ s.size) : 4 ≤ m := by
  simp only [fours, Prod.mk.injEq] at h4
  obtain ⟨e0, e1, e2, e3⟩ := h4
  by_cases hm : 4 ≤ m
  · exact hm
  · have hn := h.2.2 (by omega)
    have : m = 0 ∨ m = 1 ∨ m = 2 ∨ m = 3 := by omega
    rcases this with rfl | rfl | rfl | rfl
    · exact absurd e0 hn
    · exact absurd e1 hn
    · exact absurd e2 hn
    · exact absurd e3 hn

/-! Which parts: those that are come to step by step, and no others. -/
structure PkSt where
  k : Nat
  own : Nat
  P : List UInt8
def txtP (s : ByteArray) (own k : Nat) : List UInt8 := ub (k - own) ++ (s.data.toList.drop own).take (k - own)
inductive PStep (s : ByteArray) : PkSt → PkSt → Prop where
  | copy (k own : Nat) (P : List UInt8) (f m : Nat) (h1 : k + 4 ≤ s.size) (h2 : lastAt s (fours s k) k = some f) (h3 : Same s f k m) : PStep s ⟨k, own, P⟩ ⟨k + m, k + m, P ++ txtP s own k ++ (ub (k - f) ++ ub m)⟩
  | next (k own : Nat) (P : List UInt8) (h1 : k + 4 ≤ s.size) (h2 : lastAt s (fours s k) k = none) : PStep s ⟨k, own, P⟩ ⟨k + 1, own, P⟩
inductive PStar (s : ByteArray) : PkSt → PkSt → Prop where
  | refl (a : PkSt) : PStar s a a
  | head {a b c : PkSt} (h : PStep s a b) (g : PStar s b c) : PStar s a c
theorem same_unique {s : ByteArray} {a b m n : Nat} (h : Same s a b m) (g : Same s a b n) : m = n := by
  rcases Nat.lt_trichotomy m n with h1 | h1 | h1
  · exact absurd (g.2.1 m h1) (h.2.2 (by have := g.1; omega))
  · exact h1
  · exact absurd (h.2.1 n h1) (g.2.2 (by have := h.1; omega))
theorem pstep_one {s : ByteArray} {a b c : PkSt} (h : PStep s a b) (g : PStep s a c) : b = c := by
  cases h with
  | copy k own P f m h1 h2 h3 =>
    cases g with
    | copy _ _ _ f' m' g1 g2 g3 =>
      rw [h2] at g2
      injection g2 with g2
      subst g2
      have := same_unique h3 g3
      subst this
      rfl
    | next _ _ _ g1 g2 => rw [h2] at g2; cases g2
  | next k own P h1 h2 =>
    cases g with
    | copy _ _ _ f' m' g1 g2 g3 => rw [h2] at g2; cases g2
    | next _ _ _ g1 g2 => rfl
theorem PStar.snoc {s : ByteArray} {a b c : PkSt} (h : PStar s a b) (g : PStep s b c) : PStar s a c := by
  induction h with
  | refl => exact .head g (.refl _)
  | head h1 _ ih => exact .head h1 (ih g)
theorem pstar_end {s : ByteArray} {a b c : PkSt} (h : PStar s a b) (hb : ∀ x, ¬ PStep s b x) (g : PStar s a c) (hc : ∀ x, ¬ PStep s c x) : b = c := by
  induction h with
  | refl =>
    cases g with
    | refl => rfl
    | head g1 _ => exact absurd g1 (hb _)
  | head h1 _ ih =>
    cases g with
    | refl => exact absurd h1 (hc _)
    | head g1 g2 =>
      have := pstep_one h1 g1
      subst this
      exact ih hb g2
theorem pstep_fit {s : ByteArray} {k own : Nat} {P : List UInt8} (h : ¬ k + 4 ≤ s.size) : ∀ x, ¬ PStep s ⟨k, own, P⟩ x := fun x hx => by
  cases hx with
  | copy _ _ _ f m h1 h2 h3 => exact h h1
  | next _ _ _ h1 h2 => exact h h1
/-- The parts of bytes. -/
def PartsIs (s : ByteArray) (Q : List UInt8) : Prop := ∃ k own P, PStar s ⟨0, 0, []⟩ ⟨k, own, P⟩ ∧ ¬ k + 4 ≤ s.size ∧ Q = if own < s.size then P ++ txtP s own s.size else P
theorem parts_one {s : ByteArray} {Q R : List UInt8} (h : PartsIs s Q) (g : PartsIs s R) : Q = R := by
  obtain ⟨k, own, P, h1, h2, rfl⟩ := h
  obtain ⟨k', own', P', g1, g2, rfl⟩ := g
  have := pstar_end h1 (pstep_fit h2) g1 (pstep_fit g2)
  injection this with e1 e2 e3
  subst e1 e2 e3
  rfl
open Classical in
noncomputable def partsF (s : ByteArray) : List UInt8 := if h : ∃ P, PartsIs s P then h.choose else []
theorem partsF_is {s : ByteArray} {P : List UInt8} (h : PartsIs s P) : partsF s = P := by
  have hx : ∃ P, PartsIs s P := ⟨P, h⟩
  unfold partsF
  rw [dif_pos hx]
  exact parts_one hx.choose_spec h

/-- What is told of the parts. -/
def PartsGood (s : ByteArray) (P : List UInt8) : Prop := P.length ≤ 600000 ∧ (0 < s.size → unp (ub s.size ++ 1 :: P) = (s.data.toList, 0)) ∧ PartsIs s P

end Go.Proofs.Ythcomfcbdlobpaa

namespace Go.Proofs.Ythcomfcbdlobpaa
open Go.RowKit
set_option linter.unusedVariables false
set_option linter.unnecessarySimpa false
set_option linter.unusedSimpArgs false
set_option maxRecDepth 100000

end Go.Proofs.Ythcomfcbdlobpaa

namespace Go.Proofs.Ythcomfcbdlobpaa
open Go.RowKit
set_option linter.unusedSectionVars false
set_option linter.unusedVariables false
set_option linter.unnecessarySimpa false
set_option linter.unusedSimpArgs false
set_option maxRecDepth 100000

/-- A part: the bytes that are there behind it, and what is left. -/
def partR (n : Nat) (o l : List UInt8) : Option (List UInt8 × List UInt8) :=
  match uStep n false o l with
  | none => none
  | some (o1, r1) => if o1.length = n then some (o1, r1) else uStep n true o1 r1
/-! A part's outcomes. -/
theorem partR_none {n : Nat} {o l : List UInt8} (h : tk l = none) : partR n o l = none := by unfold partR; rw [step_bad h]
theorem partR_short {n v m : Nat} {o l : List UInt8} (h : tk l = some (v, m)) (h2 : ¬ (v ≤ (l.drop m).length ∧ v ≤ n - o.length)) : partR n o l = none := by unfold partR; rw [step_lit h, if_neg h2]
theorem partR_full {n v m : Nat} {o l : List UInt8} (h : tk l = some (v, m)) (h2 : v ≤ (l.drop m).length ∧ v ≤ n - o.length) :
    partR n o l = if (o ++ (l.drop m).take v).length = n then some (o ++ (l.drop m).take v, (l.drop m).drop v) else uStep n true (o ++ (l.drop m).take v) ((l.drop m).drop v) := by unfold partR; rw [step_lit h, if_pos h2]

/-- Two numbers, one behind the other, as the cursor tells them: a copy, or none. -/
theorem two_step {n : Nat} {o r : List UInt8} {d m : Nat} {R1 R2 : ByteArray} {b1 b2 : Bool} (h1 : cUint ⟨r.toArray⟩ false = (d, R1, b1)) (h2 : cUint R1 b1 = (m, R2, b2)) :
    d < 18446744073709551616 ∧ m < 18446744073709551616 ∧ (uStep n true o r = if 1 ≤ d ∧ d ≤ o.length ∧ 4 ≤ m ∧ m ≤ n - o.length then some (copyTo m d o, R2.data.toList) else none) ∧
      ((1 ≤ d ∧ d ≤ o.length ∧ 4 ≤ m ∧ m ≤ n - o.length) → b2 = false) := by
  cases hk : tk r with
  | none =>
    rw [uN_none hk] at h1
    simp only [Prod.mk.injEq] at h1
    obtain ⟨rfl, rfl, rfl⟩ := h1
    rw [uN_bad] at h2
    simp only [Prod.mk.injEq] at h2
    obtain ⟨rfl, rfl, rfl⟩ := h2
    refine ⟨by omega, by omega, ?_, fun h => by omega⟩
    rw [step_bad hk, if_neg (by omega)]
  | some p =>
    obtain ⟨d', k⟩ := p
    have hd := (tk_some hk).2.1
    rw [uN_some hk] at h1
    simp only [Prod.mk.injEq] at h1
    obtain ⟨rfl, rfl, rfl⟩ := h1
    cases hk2 : tk (r.drop k) with
    | none =>
      rw [uN_none hk2] at h2
      simp only [Prod.mk.injEq] at h2
      obtain ⟨rfl, rfl, rfl⟩ := h2
      refine ⟨hd, by omega, ?_, fun h => by omega⟩
      rw [step_copy_bad hk hk2, if_neg (by omega)]
    | some p =>
      obtain ⟨m', k2⟩ := p
      have hm := (tk_some hk2).2.1
      rw [uN_some hk2] at h2
      simp only [Prod.mk.injEq] at h2
      obtain ⟨rfl, rfl, rfl⟩ := h2
      exact ⟨hd, hm, step_copy hk hk2, fun _ => rfl⟩
theorem cUint_size (s : ByteArray) (bad : Bool) : (cUint s bad).2.1.size ≤ s.size := by
  unfold cUint
  split
  · exact Nat.le_refl _
  · split
    · exact Nat.le_refl _
    · simp

section
end
end Go.Proofs.Ythcomfcbdlobpaa

namespace Go.Proofs.Ythcomfcbdlobpaa
open Go.RowKit
set_option linter.unnecessarySimpa false
set_option linter.unusedVariables false
set_option linter.unusedSimpArgs false
set_option maxRecDepth 100000

theorem unp_abc : unp [3, 0, 97, 98, 99] = ([97, 98, 99], 0) := by decide +kernel

theorem ba_of (b : ByteArray) : (⟨b.data.toList.toArray⟩ : ByteArray) = b := by simp

end Go.Proofs.Ythcomfcbdlobpaa
