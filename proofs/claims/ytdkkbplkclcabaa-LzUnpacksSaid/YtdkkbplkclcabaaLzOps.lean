/-
  Plain mathematics of layer 4: parts as a list, their bytes, what they mean; no program stands here.
-/
import Derived.Test.YtdkkbplkclcabaaLzMath
namespace Go.Proofs.Ytdkkbplkclcabaa
open Go.RowKit
set_option linter.unnecessarySimpa false
set_option linter.unusedVariables false
set_option linter.unusedSimpArgs false
set_option maxRecDepth 100000

inductive LOp where
  | lit (p : List UInt8)
  | cpy (d w : Nat)
def enc1 : LOp → List UInt8
  | .lit p => ub p.length ++ p
  | .cpy d w => ub d ++ ub w
def app1 (o : List UInt8) : LOp → List UInt8
  | .lit p => o ++ p
  | .cpy d w => copyTo w d o
def encs (l : List LOp) : List UInt8 := l.flatMap enc1
def apps (l : List LOp) (o : List UInt8) : List UInt8 := l.foldl app1 o
/-- Plain bytes and copies, one after the other. -/
def alt : Bool → List LOp → Prop
  | _, [] => True
  | false, .lit p :: r => p.length < 18446744073709551616 ∧ alt true r
  | true, .cpy d w :: r => d < 18446744073709551616 ∧ w < 18446744073709551616 ∧ alt false r
  | _, _ => False
theorem encs_append (l m : List LOp) : encs (l ++ m) = encs l ++ encs m := by simp [encs]
theorem apps_append (l m : List LOp) (o : List UInt8) : apps (l ++ m) o = apps m (apps l o) := by simp [apps]
/-- Which kind comes next. -/
def nxt : Bool → List LOp → Bool
  | c, [] => c
  | c, _ :: r => nxt (!c) r
theorem alt_lit : ∀ (l : List LOp) (c : Bool) (p : List UInt8), alt c l → nxt c l = false → p.length < 18446744073709551616 → alt c (l ++ [.lit p]) ∧ nxt c (l ++ [.lit p]) = true
  | [], c, p, _, hn, hp => by
    have : c = false := hn
    subst this
    exact ⟨⟨hp, trivial⟩, rfl⟩
  | x :: r, c, p, h, hn, hp => by
    cases c <;> cases x
    · have := alt_lit r true p h.2 hn hp
      exact ⟨⟨h.1, this.1⟩, this.2⟩
    · exact absurd h id
    · exact absurd h id
    · have := alt_lit r false p h.2.2 hn hp
      exact ⟨⟨h.1, h.2.1, this.1⟩, this.2⟩
theorem alt_cpy : ∀ (l : List LOp) (c : Bool) (d w : Nat), alt c l → nxt c l = true → d < 18446744073709551616 → w < 18446744073709551616 → alt c (l ++ [.cpy d w]) ∧ nxt c (l ++ [.cpy d w]) = false
  | [], c, d, w, _, hn, hd, hw => by
    have : c = true := hn
    subst this
    exact ⟨⟨hd, hw, trivial⟩, rfl⟩
  | x :: r, c, d, w, h, hn, hd, hw => by
    cases c <;> cases x
    · have := alt_cpy r true d w h.2 hn hd hw
      exact ⟨⟨h.1, this.1⟩, this.2⟩
    · exact absurd h id
    · exact absurd h id
    · have := alt_cpy r false d w h.2.2 hn hd hw
      exact ⟨⟨h.1, h.2.1, this.1⟩, this.2⟩

theorem tk_front (m : Nat) (r : List UInt8) (hm : m < 18446744073709551616) : tk (ub m ++ r) = some (m, (ub m).length) := by
  have := tkAux_ub (ub m).length m 0 0 r (Nat.le_refl _) (by omega) (by simpa using hm) (fun _ => rfl)
  simpa [tk] using this

/-- Whoever reads parts on gets what they mean, or nothing. -/
theorem uRun_parts : ∀ (l : List LOp) (f n t : Nat) (out : List UInt8) (c : Bool), alt c l → (t % 2 == 1) = c → uRun f n t out (encs l) = none ∨ uRun f n t out (encs l) = some (apps l out)
  | l, 0, _, _, _, _, _, _ => .inl rfl
  | [], f + 1, n, t, out, c, _, _ => by
    by_cases h : t = 0 ∨ out.length < n
    · left
      rw [uRun_none h (step_bad (by rfl))]
    · rw [uRun_end h]
      right
      rfl
  | x :: r, f + 1, n, t, out, c, ha, ht => by
    have he : encs (x :: r) = enc1 x ++ encs r := rfl
    by_cases h : t = 0 ∨ out.length < n
    · rw [uRun_go h, ht]
      cases c <;> cases x
      · rename_i p
        obtain ⟨hp, ha⟩ := ha
        have hk : tk (encs (.lit p :: r)) = some (p.length, (ub p.length).length) := by
          rw [he]; show tk ((ub p.length ++ p) ++ encs r) = _; rw [List.append_assoc]; exact tk_front _ _ hp
        have hd : (encs (.lit p :: r)).drop (ub p.length).length = p ++ encs r := by
          rw [he]; show ((ub p.length ++ p) ++ encs r).drop _ = _; rw [List.append_assoc, List.drop_left]
        rw [step_lit hk, hd]
        by_cases hc : p.length ≤ (p ++ encs r).length ∧ p.length ≤ n - out.length
        · rw [if_pos hc]
          have e1 : (p ++ encs r).take p.length = p := List.take_left
          have e2 : (p ++ encs r).drop p.length = encs r := List.drop_left
          simp only [e1, e2]
          have := uRun_parts r f n (t + 1) (out ++ p) true ha (by rw [beq_iff_eq]; rw [beq_eq_false_iff_ne] at ht; omega)
          exact this
        · rw [if_neg hc]; exact .inl rfl
      · exact absurd ha id
      · exact absurd ha id
      · rename_i d w
        obtain ⟨hd0, hw0, ha⟩ := ha
        have hk : tk (encs (.cpy d w :: r)) = some (d, (ub d).length) := by
          rw [he]; show tk ((ub d ++ ub w) ++ encs r) = _; rw [List.append_assoc]; exact tk_front _ _ hd0
        have hd : (encs (.cpy d w :: r)).drop (ub d).length = ub w ++ encs r := by
          rw [he]; show ((ub d ++ ub w) ++ encs r).drop _ = _; rw [List.append_assoc, List.drop_left]
        have hk2 : tk ((encs (.cpy d w :: r)).drop (ub d).length) = some (w, (ub w).length) := by rw [hd]; exact tk_front _ _ hw0
        rw [step_copy hk hk2, hd]
        by_cases hc : 1 ≤ d ∧ d ≤ out.length ∧ 4 ≤ w ∧ w ≤ n - out.length
        · rw [if_pos hc]
          have e2 : (ub w ++ encs r).drop (ub w).length = encs r := List.drop_left
          simp only [e2]
          have := uRun_parts r f n (t + 1) (copyTo w d out) false ha (by rw [beq_eq_false_iff_ne]; rw [beq_iff_eq] at ht; omega)
          exact this
        · rw [if_neg hc]; exact .inl rfl
    · rw [uRun_end h]
      left
      have hne : encs (x :: r) ≠ [] := by
        rw [he]
        cases x <;> simp only [enc1]
        · rename_i p
          have := ub_pos p.length
          intro e
          have e2 := congrArg List.length e
          simp only [List.length_append, List.length_nil] at e2
          omega
        · rename_i d w
          have := ub_pos d
          intro e
          have e2 := congrArg List.length e
          simp only [List.length_append, List.length_nil] at e2
          omega
      rw [if_neg hne]
/-- What is joined means what its parts mean, or is no packed bytes. -/
theorem unp_joined {l : List LOp} (h : alt false l) (hn : (apps l []).length ≤ 60000) : (unp (ub (apps l []).length ++ 1 :: encs l)).2 = 0 → (unp (ub (apps l []).length ++ 1 :: encs l)).1 = apps l [] := by
  have hk := tk_front (apps l []).length (1 :: encs l) (by omega)
  have hd : (ub (apps l []).length ++ 1 :: encs l).drop (ub (apps l []).length).length = 1 :: encs l := List.drop_left
  unfold unp
  rw [hk]
  simp only
  rw [if_neg (by omega), hd]
  simp only
  rw [if_neg (by rintro ⟨e, _⟩; cases e), if_neg (by decide)]
  rcases uRun_parts l ((encs l).length + 1) (apps l []).length 0 [] false h rfl with e | e <;> rw [e]
  · intro h; cases h
  · intro _; rfl
end Go.Proofs.Ytdkkbplkclcabaa
