/-
  Joined: LzPass, LzOps.
-/
import Derived.Test.YtplobffkelmokaaSet18
import Derived.Test.YtplobffkelmokaaSet07
namespace Go.Proofs.Ytplobffkelmokaa
open Go.RowKit Go.Maps
set_option linter.unusedVariables false
set_option linter.unnecessarySimpa false
set_option linter.unusedSimpArgs false
set_option maxRecDepth 100000

/-- Whatever stands at a key stood there, ahead of p. -/
def MapOK (D : DataW Unit) (s : ByteArray) (p : Nat) : Prop :=
  IsMap D ∧ ∀ x : F4, Maps.has D (key4 x) = true → ∃ i : Nat, D.atKey (key4 x) (.lit (.int .i64 0)) = .lit (.int .i64 i) ∧ i < p ∧ i + 4 ≤ s.size ∧ fours s i = x
theorem MapOK.start (s : ByteArray) (p : Nat) : MapOK (.map []) s p := ⟨isMap_empty, fun x h => by cases h⟩
theorem MapOK.mono {D : DataW Unit} {s : ByteArray} {p q : Nat} (h : MapOK D s p) (hpq : p ≤ q) : MapOK D s q := ⟨h.1, fun x hx => by
  obtain ⟨i, h1, h2, h3⟩ := h.2 x hx
  exact ⟨i, h1, by omega, h3⟩⟩
theorem MapOK.put {D : DataW Unit} {s : ByteArray} {i : Nat} (h : MapOK D s i) (hi : i + 4 ≤ s.size) : MapOK (D.put (key4 (fours s i)) (.lit (.int .i64 i))) s (i + 1) := by
  refine ⟨h.1.put _ _, fun x hx => ?_⟩
  by_cases e : x = fours s i
  · subst e
    exact ⟨i, atKey_put_same h.1 (klaw.key (keyOf_four _)) _ _, by omega, hi, rfl⟩
  · have hne : key4 x ≠ key4 (fours s i) := fun h => e (key4_inj h)
    rw [has_put_other hne] at hx
    obtain ⟨j, h1, h2, h3⟩ := h.2 x hx
    exact ⟨j, by rw [atKey_put_other hne]; exact h1, by omega, h3⟩

theorem map_below {w w' : World} {P : Program} {k : TypeId} {R : Value → Option (DataW Unit × List MemPlace)} {b n : Nat} {D : DataW Unit} (h : w.ownsMap P k R b n D) (hb : Below w.heap.size w w') : w'.ownsMap P k R b n D := by
  have hlt := h.lt
  obtain ⟨es, clock, hb2, F, hs, hD⟩ := h
  exact ⟨es, clock, (hb.block b hlt).trans hb2, F, hs, hD⟩

/-- The map, as the walks carry it. -/
abbrev MapAt (w : World) (M n : Nat) (D : DataW Unit) : Prop := w.ownsMap Try.prog 99 (plainElem Try.prog 3) M n D

set_option maxHeartbeats 4000000 in
theorem pass_any (M : Nat) (s : ByteArray) (a b : Nat) (hab : a ≤ b) (hb : b ≤ 100000) (hs : s.size ≤ 100000) (D : DataW Unit) (w : World) (hM : MapAt w M a D) (hD : MapOK D s a) :
    Calls Try.prog 62 #[.map (some M), .string s, .int .i64 a, .int .i64 b] w fun e w' => e = .returned (.tuple #[]) ∧ ∃ D', Hid (MapAt w' M b D') ∧ Hid (MapOK D' s b) ∧ Kept w.heap.size M w w' := by
  have HM := Lib.hid hM
  have HD := Lib.hid hD
  have H4 := Lib.hid (fun i h W => fourAt_any s i h hs W)
  clear hM hD
  go_enter Try.func62, Try.ntmps62
  go_wp2_with fail
  go_loopg [8] (b - a) (fun q s8 wx => ∃ (i : Nat) (D : DataW Unit), i + q = b ∧ s8 = .int .i64 i ∧ Hid (MapAt wx M i D) ∧ Hid (MapOK D s i) ∧ Hid (Kept w.heap.size M w wx))
  case atStart => exact ⟨a, D, by omega, rfl, HM, HD, Lib.hid (Kept.refl _ _ _)⟩
  case round =>
    obtain ⟨i, D, hiq, rfl, hown, hok, hk⟩ := hrel
    by_cases hlt : i < b
    · have hltz : (i : Int) < (b : Int) := by omega
      by_cases hfit : i + 4 ≤ s.size
      · have hfz : (i : Int) + 4 ≤ (s.size : Int) := by omega
        obtain ⟨q, rfl⟩ : ∃ q, gk = q + 1 := ⟨gk - 1, by omega⟩
        have hi6 : i ≤ 100000 := by omega
        have HI := Lib.hid (show i + 1 + q = b by omega)
        have h4 := Lib.hid (H4.out i hfit)
        have HP := Lib.hid (hok.out.put hfit)
        clear hiq hok
        go_wp2_with (first
          | (go_at_call 59; refine (h4.out _).mono ?_; rintro e w1 ⟨rfl, hb1⟩; have hown1 := map_below hown.out hb1)
          | (at_mapUpdate; refine wpList_mapUpdate_own _ rfl _ _ _ 98 rfl 99 3 klaw Try.underlying98 _ M i D rfl hown1 (by unfold maxLen; omega) _ _ _ rfl rfl (keyOf_four _) _ [] (plainElem_int Try.underlying3 (WalkArith.wf_i64 (by omega))) ?_; intro w2 hown2 hgrow2))
        have K2 := Lib.hid (hk.out.trans ((Kept.of_below (hb1.mono hk.out.size)).trans (Kept.of_grown hgrow2 (Nat.le_trans hk.out.size hb1.size))))
        have M2 := Lib.hid (show MapAt w2 M (i + 1) _ from hown2)
        clear hown hown1 hown2 hgrow2 hb1 hk
        go_roundg q
        case measure => omega
        case rel => exact ⟨i + 1, _, HI.out, by simp, M2, HP, K2⟩
      · have hfz : ¬ (i : Int) + 4 ≤ (s.size : Int) := by omega
        have M2 := Lib.hid (show MapAt wr M b D from hown.out.mono (by omega))
        have HP := Lib.hid (hok.out.mono (q := b) (by omega))
        clear hiq hok hown
        go_wp2_with fail
        go_end0
        exact ⟨rfl, D, M2, HP, hk.out⟩
    · have hltz : ¬ (i : Int) < (b : Int) := by omega
      have M2 := Lib.hid (show MapAt wr M b D from hown.out.mono (by omega))
      have HP := Lib.hid (hok.out.mono (q := b) (by omega))
      clear hiq hok hown
      go_wp2_with fail
      go_end0
      exact ⟨rfl, D, M2, HP, hk.out⟩
end Go.Proofs.Ytplobffkelmokaa

namespace Go.Proofs.Ytplobffkelmokaa
open Go.RowKit
set_option linter.unnecessarySimpa false
set_option linter.unusedVariables false
set_option linter.unusedSimpArgs false
set_option maxRecDepth 100000

inductive LOp where
  | lit (p : List UInt8)
  | cpy (d w : Nat)
def enc1 : LOp → List UInt8
  | .lit p => ub p.length ++ p
  | .cpy d w => ub d ++ ub w
def app1 (o : List UInt8) : LOp → List UInt8
  | .lit p => o ++ p
  | .cpy d w => copyTo w d o
def encs (l : List LOp) : List UInt8 := l.flatMap enc1
def apps (l : List LOp) (o : List UInt8) : List UInt8 := l.foldl app1 o
/-- Plain bytes and copies, one after the other. -/
def alt : Bool → List LOp → Prop
  | _, [] => True
  | false, .lit p :: r => p.length < 18446744073709551616 ∧ alt true r
  | true, .cpy d w :: r => d < 18446744073709551616 ∧ w < 18446744073709551616 ∧ alt false r
  | _, _ => False
theorem encs_append (l m : List LOp) : encs (l ++ m) = encs l ++ encs m := by simp [encs]
theorem apps_append (l m : List LOp) (o : List UInt8) : apps (l ++ m) o = apps m (apps l o) := by simp [apps]
/-- Which kind comes next. -/
def nxt : Bool → List LOp → Bool
  | c, [] => c
  | c, _ :: r => nxt (!c) r
theorem alt_lit : ∀ (l : List LOp) (c : Bool) (p : List UInt8), alt c l → nxt c l = false → p.length < 18446744073709551616 → alt c (l ++ [.lit p]) ∧ nxt c (l ++ [.lit p]) = true
  | [], c, p, _, hn, hp => by
    have : c = false := hn
    subst this
    exact ⟨⟨hp, trivial⟩, rfl⟩
  | x :: r, c, p, h, hn, hp => by
    cases c <;> cases x
    · have := alt_lit r true p h.2 hn hp
      exact ⟨⟨h.1, this.1⟩, this.2⟩
    · exact absurd h id
    · exact absurd h id
    · have := alt_lit r false p h.2.2 hn hp
      exact ⟨⟨h.1, h.2.1, this.1⟩, this.2⟩
theorem alt_cpy : ∀ (l : List LOp) (c : Bool) (d w : Nat), alt c l → nxt c l = true → d < 18446744073709551616 → w < 18446744073709551616 → alt c (l ++ [.cpy d w]) ∧ nxt c (l ++ [.cpy d w]) = false
  | [], c, d, w, _, hn, hd, hw => by
    have : c = true := hn
    subst this
    exact ⟨⟨hd, hw, trivial⟩, rfl⟩
  | x :: r, c, d, w, h, hn, hd, hw => by
    cases c <;> cases x
    · have := alt_cpy r true d w h.2 hn hd hw
      exact ⟨⟨h.1, this.1⟩, this.2⟩
    · exact absurd h id
    · exact absurd h id
    · have := alt_cpy r false d w h.2.2 hn hd hw
      exact ⟨⟨h.1, h.2.1, this.1⟩, this.2⟩

theorem tk_front (m : Nat) (r : List UInt8) (hm : m < 18446744073709551616) : tk (ub m ++ r) = some (m, (ub m).length) := by
  have := tkAux_ub (ub m).length m 0 0 r (Nat.le_refl _) (by omega) (by simpa using hm) (fun _ => rfl)
  simpa [tk] using this

/-- Whoever reads parts on gets what they mean, or nothing. -/
theorem uRun_parts : ∀ (l : List LOp) (f n t : Nat) (out : List UInt8) (c : Bool), alt c l → (t % 2 == 1) = c → uRun f n t out (encs l) = none ∨ uRun f n t out (encs l) = some (apps l out)
  | l, 0, _, _, _, _, _, _ => .inl rfl
  | [], f + 1, n, t, out, c, _, _ => by
    by_cases h : t = 0 ∨ out.length < n
    · left
      rw [uRun_none h (step_bad (by rfl))]
    · rw [uRun_end h]
      right
      rfl
  | x :: r, f + 1, n, t, out, c, ha, ht => by
    have he : encs (x :: r) = enc1 x ++ encs r := rfl
    by_cases h : t = 0 ∨ out.length < n
    · rw [uRun_go h, ht]
      cases c <;> cases x
      · rename_i p
        obtain ⟨hp, ha⟩ := ha
        have hk : tk (encs (.lit p :: r)) = some (p.length, (ub p.length).length) := by
          rw [he]; show tk ((ub p.length ++ p) ++ encs r) = _; rw [List.append_assoc]; exact tk_front _ _ hp
        have hd : (encs (.lit p :: r)).drop (ub p.length).length = p ++ encs r := by
          rw [he]; show ((ub p.length ++ p) ++ encs r).drop _ = _; rw [List.append_assoc, List.drop_left]
        rw [step_lit hk, hd]
        by_cases hc : p.length ≤ (p ++ encs r).length ∧ p.length ≤ n - out.length
        · rw [if_pos hc]
          have e1 : (p ++ encs r).take p.length = p := List.take_left
          have e2 : (p ++ encs r).drop p.length = encs r := List.drop_left
          simp only [e1, e2]
          have := uRun_parts r f n (t + 1) (out ++ p) true ha (by rw [beq_iff_eq]; rw [beq_eq_false_iff_ne] at ht; omega)
          exact this
        · rw [if_neg hc]; exact .inl rfl
      · exact absurd ha id
      · exact absurd ha id
      · rename_i d w
        obtain ⟨hd0, hw0, ha⟩ := ha
        have hk : tk (encs (.cpy d w :: r)) = some (d, (ub d).length) := by
          rw [he]; show tk ((ub d ++ ub w) ++ encs r) = _; rw [List.append_assoc]; exact tk_front _ _ hd0
        have hd : (encs (.cpy d w :: r)).drop (ub d).length = ub w ++ encs r := by
          rw [he]; show ((ub d ++ ub w) ++ encs r).drop _ = _; rw [List.append_assoc, List.drop_left]
        have hk2 : tk ((encs (.cpy d w :: r)).drop (ub d).length) = some (w, (ub w).length) := by rw [hd]; exact tk_front _ _ hw0
        rw [step_copy hk hk2, hd]
        by_cases hc : 1 ≤ d ∧ d ≤ out.length ∧ 4 ≤ w ∧ w ≤ n - out.length
        · rw [if_pos hc]
          have e2 : (ub w ++ encs r).drop (ub w).length = encs r := List.drop_left
          simp only [e2]
          have := uRun_parts r f n (t + 1) (copyTo w d out) false ha (by rw [beq_eq_false_iff_ne]; rw [beq_iff_eq] at ht; omega)
          exact this
        · rw [if_neg hc]; exact .inl rfl
    · rw [uRun_end h]
      left
      have hne : encs (x :: r) ≠ [] := by
        rw [he]
        cases x <;> simp only [enc1]
        · rename_i p
          have := ub_pos p.length
          intro e
          have e2 := congrArg List.length e
          simp only [List.length_append, List.length_nil] at e2
          omega
        · rename_i d w
          have := ub_pos d
          intro e
          have e2 := congrArg List.length e
          simp only [List.length_append, List.length_nil] at e2
          omega
      rw [if_neg hne]
/-- What is joined means what its parts mean, or is no packed bytes. -/
theorem unp_joined {l : List LOp} (h : alt false l) (hn : (apps l []).length ≤ 60000) : (unp (ub (apps l []).length ++ 1 :: encs l)).2 = 0 → (unp (ub (apps l []).length ++ 1 :: encs l)).1 = apps l [] := by
  have hk := tk_front (apps l []).length (1 :: encs l) (by omega)
  have hd : (ub (apps l []).length ++ 1 :: encs l).drop (ub (apps l []).length).length = 1 :: encs l := List.drop_left
  unfold unp
  rw [hk]
  simp only
  rw [if_neg (by omega), hd]
  simp only
  rw [if_neg (by rintro ⟨e, _⟩; cases e), if_neg (by decide)]
  rcases uRun_parts l ((encs l).length + 1) (apps l []).length 0 [] false h rfl with e | e <;> rw [e]
  · intro h; cases h
  · intro _; rfl
end Go.Proofs.Ytplobffkelmokaa
