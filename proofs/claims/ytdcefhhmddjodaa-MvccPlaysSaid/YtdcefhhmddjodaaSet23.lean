/-
  Joined: LzKey, LzPass, LzOps, LzPackMath.
-/
import Derived.Test.YtdcefhhmddjodaaSet22
import Derived.Maps.OwnSet
import Derived.DeepKeys4
import Derived.Test.YtdcefhhmddjodaaSet12
namespace Go.Proofs.Ytdcefhhmddjodaa
open Go.RowKit Go.Maps
set_option linter.unusedVariables false
set_option linter.unnecessarySimpa false
set_option linter.unusedSimpArgs false
set_option maxRecDepth 100000

abbrev F4 := UInt8 × UInt8 × UInt8 × UInt8
def key4 (x : F4) : Lit := .string [x.1, x.2.1, x.2.2.1, x.2.2.2]
theorem key4_inj {x y : F4} (h : key4 x = key4 y) : x = y := by
  obtain ⟨a, b, c, d⟩ := x
  obtain ⟨a', b', c', d'⟩ := y
  simp only [key4, Lit.string.injEq, List.cons.injEq, and_true] at h
  obtain ⟨rfl, rfl, rfl, rfl⟩ := h
  rfl
theorem key_laidOut : laidOutB Try.prog = true := by kernel_rfl
theorem key_row : 138 < Try.prog.types.size := of_decide_eq_true (by kernel_rfl)
theorem key_type : Try.prog.keyTypeAt 2 138 = true := by kernel_rfl
theorem key_wide : (match Try.prog.underlying 138 with | some (.array _ _) | some (.struct _) => true | _ => false) = true := by kernel_rfl
theorem klaw : Keyed Try.prog 138 := Keyed.of_law (deep_law_laid key_laidOut (m := 2) (by omega) key_row key_type key_wide)
theorem key_ok : Try.prog.keyType 138 = true := by kernel_rfl
theorem key_cells : Try.prog.cellsOf 138 = 4 := by kernel_rfl
theorem u8_cells : Try.prog.cellsOf 5 = 1 := by kernel_rfl
theorem u8_wf (x : UInt8) : (Lit.int .u8 (x.toNat : Int)).wf = true := by
  have := UInt8.toNat_lt x
  simp [Lit.wf, IntKind.min, IntKind.max, IntKind.bits, IntKind.signed]
  omega

theorem lits_u8 (m : Nat) (x : UInt8) : Try.prog.keyLits (m + 1) 5 [.int .u8 x.toNat] = some [.int .u8 x.toNat] := by
  unfold Program.keyLits
  rw [Try.underlying5]
  simp [u8_wf]
theorem ba_byte (x : UInt8) : bytesBE 1 ((x.toNat : Int) % 2 ^ 8).toNat = [x] := by
  have := UInt8.toNat_lt x
  have e : ((x.toNat : Int) % 2 ^ 8).toNat = x.toNat := by omega
  rw [e]
  simp only [bytesBE, bytesLE, List.reverse_cons, List.reverse_nil, List.nil_append]
  rw [Nat.mod_eq_of_lt (by omega)]
  simp
theorem keyOf_four (x : F4) : keyOf Try.prog 138 (.agg (four x)) = some (key4 x) := by
  obtain ⟨a, b, c, d⟩ := x
  have hf : (Value.agg (four (a, b, c, d))).formed Try.prog 138 = true := by
    unfold Value.formed
    rw [Try.underlying138, key_cells]
    rfl
  obtain ⟨m, hm⟩ : ∃ m, Try.prog.types.size = m + 1 := ⟨Try.prog.types.size - 1, by have := key_row; omega⟩
  have hl : Try.prog.keyLits (Try.prog.types.size + 1) 138 (Value.agg (four (a, b, c, d))).cells.toList = some [.int .u8 a.toNat, .int .u8 b.toNat, .int .u8 c.toNat, .int .u8 d.toNat] := by
    rw [hm]
    unfold Program.keyLits
    rw [Try.underlying138]
    simp only [key_cells, u8_cells, Value.cells, four]
    rw [if_pos (by rfl)]
    simp [List.range, List.range.loop, lits_u8]
  unfold keyOf
  rw [Try.underlying138]
  simp only [key_ok, hf, hl, Bool.and_self, if_true, Option.map_some]
  simp only [key4, keyBytes, List.flatMap_cons, List.flatMap_nil, Lit.keyBytes, IntKind.bits]
  have e := fun y => ba_byte y
  simp only [e, show 8 / 8 = 1 from rfl, List.cons_append, List.nil_append, List.append_nil]
end Go.Proofs.Ytdcefhhmddjodaa

namespace Go.Proofs.Ytdcefhhmddjodaa
open Go.RowKit Go.Maps
set_option linter.unusedVariables false
set_option linter.unnecessarySimpa false
set_option linter.unusedSimpArgs false
set_option maxRecDepth 100000

/-- Where four bytes stood last, ahead of p. -/
def lastAt (s : ByteArray) (x : F4) : Nat → Option Nat
  | 0 => none
  | p + 1 => if p + 4 ≤ s.size ∧ fours s p = x then some p else lastAt s x p
theorem lastAt_some {s : ByteArray} {x : F4} : ∀ {p i : Nat}, lastAt s x p = some i → i < p ∧ i + 4 ≤ s.size ∧ fours s i = x
  | 0, _, h => by cases h
  | p + 1, i, h => by
    rw [lastAt] at h
    split at h
    · rename_i hc
      cases h
      exact ⟨Nat.lt_succ_self _, hc.1, hc.2⟩
    · have := lastAt_some h
      exact ⟨by omega, this.2⟩
theorem lastAt_end {s : ByteArray} {x : F4} {p : Nat} (h : ¬ p + 4 ≤ s.size) : ∀ d, lastAt s x (p + d) = lastAt s x p
  | 0 => rfl
  | d + 1 => by
    rw [← Nat.add_assoc, lastAt, if_neg (by omega), lastAt_end h d]
/-- At each key stands where its bytes stood last, ahead of p. -/
def MapOK (D : DataW Unit) (s : ByteArray) (p : Nat) : Prop :=
  IsMap D ∧ ∀ x : F4, match lastAt s x p with
    | none => Maps.has D (key4 x) = false
    | some i => Maps.has D (key4 x) = true ∧ D.atKey (key4 x) (.lit (.int .i64 0)) = .lit (.int .i64 (i : Int))
theorem MapOK.none {D : DataW Unit} {s : ByteArray} {p : Nat} (h : MapOK D s p) {x : F4} (hx : lastAt s x p = .none) : Maps.has D (key4 x) = false := by
  have := h.2 x
  rw [hx] at this
  exact this
theorem MapOK.some {D : DataW Unit} {s : ByteArray} {p i : Nat} (h : MapOK D s p) {x : F4} (hx : lastAt s x p = .some i) : Maps.has D (key4 x) = true ∧ D.atKey (key4 x) (.lit (.int .i64 0)) = .lit (.int .i64 (i : Int)) := by
  have := h.2 x
  rw [hx] at this
  exact this
theorem MapOK.start (s : ByteArray) : MapOK (.map []) s 0 := ⟨isMap_empty, fun x => rfl⟩
theorem MapOK.stay {D : DataW Unit} {s : ByteArray} {p q : Nat} (h : MapOK D s p) (hpq : p ≤ q) (he : p = q ∨ ¬ p + 4 ≤ s.size) : MapOK D s q := by
  rcases he with rfl | he
  · exact h
  · refine ⟨h.1, fun x => ?_⟩
    obtain ⟨d, rfl⟩ : ∃ d, q = p + d := ⟨q - p, by omega⟩
    rw [lastAt_end he d]
    exact h.2 x
theorem MapOK.put {D : DataW Unit} {s : ByteArray} {i : Nat} (h : MapOK D s i) (hi : i + 4 ≤ s.size) : MapOK (D.put (key4 (fours s i)) (.lit (.int .i64 i))) s (i + 1) := by
  refine ⟨h.1.put _ _, fun x => ?_⟩
  rw [lastAt]
  by_cases e : fours s i = x
  · rw [if_pos ⟨hi, e⟩]
    subst e
    exact ⟨has_put_same h.1 (klaw.key (keyOf_four _)) _, atKey_put_same h.1 (klaw.key (keyOf_four _)) _ _⟩
  · rw [if_neg (fun h => e h.2)]
    have hne : key4 x ≠ key4 (fours s i) := fun h => e (key4_inj h).symm
    rw [has_put_other hne, atKey_put_other hne]
    exact h.2 x

theorem map_below {w w' : World} {P : Program} {k : TypeId} {R : Value → Option (DataW Unit × List MemPlace)} {b n : Nat} {D : DataW Unit} (h : w.ownsMap P k R b n D) (hb : Below w.heap.size w w') : w'.ownsMap P k R b n D := by
  have hlt := h.lt
  obtain ⟨es, clock, hb2, F, hs, hD⟩ := h
  exact ⟨es, clock, (hb.block b hlt).trans hb2, F, hs, hD⟩

/-- The map, as the walks carry it. -/
abbrev MapAt (w : World) (M n : Nat) (D : DataW Unit) : Prop := w.ownsMap Try.prog 138 (plainElem Try.prog 3) M n D

set_option maxHeartbeats 4000000 in
theorem pass_any (M : Nat) (s : ByteArray) (a b : Nat) (hab : a ≤ b) (hb : b ≤ 100000) (hs : s.size ≤ 100000) (D : DataW Unit) (w : World) (hM : MapAt w M a D) (hD : MapOK D s a) :
    Calls Try.prog 90 #[.map (some M), .string s, .int .i64 a, .int .i64 b] w fun e w' => e = .returned (.tuple #[]) ∧ ∃ D', Hid (MapAt w' M b D') ∧ Hid (MapOK D' s b) ∧ Kept w.heap.size M w w' := by
  have HM := Lib.hid hM
  have HD := Lib.hid hD
  have H4 := Lib.hid (fun i h W => fourAt_any s i h hs W)
  clear hM hD
  go_enter Try.func90, Try.ntmps90
  go_wp2_with fail
  go_loopg [8] (b - a) (fun q s8 wx => ∃ (i : Nat) (D : DataW Unit), i + q = b ∧ s8 = .int .i64 i ∧ Hid (MapAt wx M i D) ∧ Hid (MapOK D s i) ∧ Hid (Kept w.heap.size M w wx))
  case atStart => exact ⟨a, D, by omega, rfl, HM, HD, Lib.hid (Kept.refl _ _ _)⟩
  case round =>
    obtain ⟨i, D, hiq, rfl, hown, hok, hk⟩ := hrel
    by_cases hlt : i < b
    · have hltz : (i : Int) < (b : Int) := by omega
      by_cases hfit : i + 4 ≤ s.size
      · have hfz : (i : Int) + 4 ≤ (s.size : Int) := by omega
        obtain ⟨q, rfl⟩ : ∃ q, gk = q + 1 := ⟨gk - 1, by omega⟩
        have hi6 : i ≤ 100000 := by omega
        have HI := Lib.hid (show i + 1 + q = b by omega)
        have h4 := Lib.hid (H4.out i hfit)
        have HP := Lib.hid (hok.out.put hfit)
        clear hiq hok
        go_wp2_with (first
          | (go_at_call 87; refine (h4.out _).mono ?_; rintro e w1 ⟨rfl, hb1⟩; have hown1 := map_below hown.out hb1)
          | (at_mapUpdate; refine wpList_mapUpdate_own _ rfl _ _ _ 137 rfl 138 3 klaw Try.underlying137 _ M i D rfl hown1 (by unfold maxLen; omega) _ _ _ rfl rfl (keyOf_four _) _ [] (plainElem_int Try.underlying3 (WalkArith.wf_i64 (by omega))) ?_; intro w2 hown2 hgrow2))
        have K2 := Lib.hid (hk.out.trans ((Kept.of_below (hb1.mono hk.out.size)).trans (Kept.of_grown hgrow2 (Nat.le_trans hk.out.size hb1.size))))
        have M2 := Lib.hid (show MapAt w2 M (i + 1) _ from hown2)
        clear hown hown1 hown2 hgrow2 hb1 hk
        go_roundg q
        case measure => omega
        case rel => exact ⟨i + 1, _, HI.out, by simp, M2, HP, K2⟩
      · have hfz : ¬ (i : Int) + 4 ≤ (s.size : Int) := by omega
        have M2 := Lib.hid (show MapAt wr M b D from hown.out.mono (by omega))
        have HP := Lib.hid (hok.out.stay (q := b) (by omega) (.inr hfit))
        clear hiq hok hown
        go_wp2_with fail
        go_end0
        exact ⟨rfl, D, M2, HP, hk.out⟩
    · have hltz : ¬ (i : Int) < (b : Int) := by omega
      have M2 := Lib.hid (show MapAt wr M b D from hown.out.mono (by omega))
      have HP := Lib.hid (hok.out.stay (q := b) (by omega) (.inl (by omega)))
      clear hiq hok hown
      go_wp2_with fail
      go_end0
      exact ⟨rfl, D, M2, HP, hk.out⟩
end Go.Proofs.Ytdcefhhmddjodaa

namespace Go.Proofs.Ytdcefhhmddjodaa
open Go.RowKit
set_option linter.unnecessarySimpa false
set_option linter.unusedVariables false
set_option linter.unusedSimpArgs false
set_option maxRecDepth 100000

inductive LOp where
  | lit (p : List UInt8)
  | cpy (d w : Nat)
def enc1 : LOp → List UInt8
  | .lit p => ub p.length ++ p
  | .cpy d w => ub d ++ ub w
def app1 (o : List UInt8) : LOp → List UInt8
  | .lit p => o ++ p
  | .cpy d w => copyTo w d o
def encs (l : List LOp) : List UInt8 := l.flatMap enc1
def apps (l : List LOp) (o : List UInt8) : List UInt8 := l.foldl app1 o
/-- Plain bytes and copies, one after the other. -/
def alt : Bool → List LOp → Prop
  | _, [] => True
  | false, .lit p :: r => p.length < 18446744073709551616 ∧ alt true r
  | true, .cpy d w :: r => d < 18446744073709551616 ∧ w < 18446744073709551616 ∧ alt false r
  | _, _ => False
theorem encs_append (l m : List LOp) : encs (l ++ m) = encs l ++ encs m := by simp [encs]
theorem apps_append (l m : List LOp) (o : List UInt8) : apps (l ++ m) o = apps m (apps l o) := by simp [apps]
/-- Which kind comes next. -/
def nxt : Bool → List LOp → Bool
  | c, [] => c
  | c, _ :: r => nxt (!c) r
theorem alt_lit : ∀ (l : List LOp) (c : Bool) (p : List UInt8), alt c l → nxt c l = false → p.length < 18446744073709551616 → alt c (l ++ [.lit p]) ∧ nxt c (l ++ [.lit p]) = true
  | [], c, p, _, hn, hp => by
    have : c = false := hn
    subst this
    exact ⟨⟨hp, trivial⟩, rfl⟩
  | x :: r, c, p, h, hn, hp => by
    cases c <;> cases x
    · have := alt_lit r true p h.2 hn hp
      exact ⟨⟨h.1, this.1⟩, this.2⟩
    · exact absurd h id
    · exact absurd h id
    · have := alt_lit r false p h.2.2 hn hp
      exact ⟨⟨h.1, h.2.1, this.1⟩, this.2⟩
theorem alt_cpy : ∀ (l : List LOp) (c : Bool) (d w : Nat), alt c l → nxt c l = true → d < 18446744073709551616 → w < 18446744073709551616 → alt c (l ++ [.cpy d w]) ∧ nxt c (l ++ [.cpy d w]) = false
  | [], c, d, w, _, hn, hd, hw => by
    have : c = true := hn
    subst this
    exact ⟨⟨hd, hw, trivial⟩, rfl⟩
  | x :: r, c, d, w, h, hn, hd, hw => by
    cases c <;> cases x
    · have := alt_cpy r true d w h.2 hn hd hw
      exact ⟨⟨h.1, this.1⟩, this.2⟩
    · exact absurd h id
    · exact absurd h id
    · have := alt_cpy r false d w h.2.2 hn hd hw
      exact ⟨⟨h.1, h.2.1, this.1⟩, this.2⟩

theorem tk_front (m : Nat) (r : List UInt8) (hm : m < 18446744073709551616) : tk (ub m ++ r) = some (m, (ub m).length) := by
  have := tkAux_ub (ub m).length m 0 0 r (Nat.le_refl _) (by omega) (by simpa using hm) (fun _ => rfl)
  simpa [tk] using this

/-- Whoever reads parts on gets what they mean, or nothing. -/
theorem uRun_parts : ∀ (l : List LOp) (f n t : Nat) (out : List UInt8) (c : Bool), alt c l → (t % 2 == 1) = c → uRun f n t out (encs l) = none ∨ uRun f n t out (encs l) = some (apps l out)
  | l, 0, _, _, _, _, _, _ => .inl rfl
  | [], f + 1, n, t, out, c, _, _ => by
    by_cases h : t = 0 ∨ out.length < n
    · left
      rw [uRun_none h (step_bad (by rfl))]
    · rw [uRun_end h]
      right
      rfl
  | x :: r, f + 1, n, t, out, c, ha, ht => by
    have he : encs (x :: r) = enc1 x ++ encs r := rfl
    by_cases h : t = 0 ∨ out.length < n
    · rw [uRun_go h, ht]
      cases c <;> cases x
      · rename_i p
        obtain ⟨hp, ha⟩ := ha
        have hk : tk (encs (.lit p :: r)) = some (p.length, (ub p.length).length) := by
          rw [he]; show tk ((ub p.length ++ p) ++ encs r) = _; rw [List.append_assoc]; exact tk_front _ _ hp
        have hd : (encs (.lit p :: r)).drop (ub p.length).length = p ++ encs r := by
          rw [he]; show ((ub p.length ++ p) ++ encs r).drop _ = _; rw [List.append_assoc, List.drop_left]
        rw [step_lit hk, hd]
        by_cases hc : p.length ≤ (p ++ encs r).length ∧ p.length ≤ n - out.length
        · rw [if_pos hc]
          have e1 : (p ++ encs r).take p.length = p := List.take_left
          have e2 : (p ++ encs r).drop p.length = encs r := List.drop_left
          simp only [e1, e2]
          have := uRun_parts r f n (t + 1) (out ++ p) true ha (by rw [beq_iff_eq]; rw [beq_eq_false_iff_ne] at ht; omega)
          exact this
        · rw [if_neg hc]; exact .inl rfl
      · exact absurd ha id
      · exact absurd ha id
      · rename_i d w
        obtain ⟨hd0, hw0, ha⟩ := ha
        have hk : tk (encs (.cpy d w :: r)) = some (d, (ub d).length) := by
          rw [he]; show tk ((ub d ++ ub w) ++ encs r) = _; rw [List.append_assoc]; exact tk_front _ _ hd0
        have hd : (encs (.cpy d w :: r)).drop (ub d).length = ub w ++ encs r := by
          rw [he]; show ((ub d ++ ub w) ++ encs r).drop _ = _; rw [List.append_assoc, List.drop_left]
        have hk2 : tk ((encs (.cpy d w :: r)).drop (ub d).length) = some (w, (ub w).length) := by rw [hd]; exact tk_front _ _ hw0
        rw [step_copy hk hk2, hd]
        by_cases hc : 1 ≤ d ∧ d ≤ out.length ∧ 4 ≤ w ∧ w ≤ n - out.length
        · rw [if_pos hc]
          have e2 : (ub w ++ encs r).drop (ub w).length = encs r := List.drop_left
          simp only [e2]
          have := uRun_parts r f n (t + 1) (copyTo w d out) false ha (by rw [beq_eq_false_iff_ne]; rw [beq_iff_eq] at ht; omega)
          exact this
        · rw [if_neg hc]; exact .inl rfl
    · rw [uRun_end h]
      left
      have hne : encs (x :: r) ≠ [] := by
        rw [he]
        cases x <;> simp only [enc1]
        · rename_i p
          have := ub_pos p.length
          intro e
          have e2 := congrArg List.length e
          simp only [List.length_append, List.length_nil] at e2
          omega
        · rename_i d w
          have := ub_pos d
          intro e
          have e2 := congrArg List.length e
          simp only [List.length_append, List.length_nil] at e2
          omega
      rw [if_neg hne]
/-- What is joined means what its parts mean, or is no packed bytes. -/
theorem unp_joined {l : List LOp} (h : alt false l) (hn : (apps l []).length ≤ 60000) : (unp (ub (apps l []).length ++ 1 :: encs l)).2 = 0 → (unp (ub (apps l []).length ++ 1 :: encs l)).1 = apps l [] := by
  have hk := tk_front (apps l []).length (1 :: encs l) (by omega)
  have hd : (ub (apps l []).length ++ 1 :: encs l).drop (ub (apps l []).length).length = 1 :: encs l := List.drop_left
  unfold unp
  rw [hk]
  simp only
  rw [if_neg (by omega), hd]
  simp only
  rw [if_neg (by rintro ⟨e, _⟩; cases e), if_neg (by decide)]
  rcases uRun_parts l ((encs l).length + 1) (apps l []).length 0 [] false h rfl with e | e <;> rw [e]
  · intro h; cases h
  · intro _; rfl
end Go.Proofs.Ytdcefhhmddjodaa

namespace Go.Proofs.Ytdcefhhmddjodaa
open Go.RowKit
set_option linter.unusedVariables false
set_option linter.unnecessarySimpa false
set_option linter.unusedSimpArgs false
set_option maxRecDepth 100000

theorem take_next {b : List UInt8} {k : Nat} (h : k < b.length) : b.take (k + 1) = b.take k ++ [b.getD k 0] := by
  rw [List.take_add_one, List.getElem?_eq_getElem h]
  simp [List.getD, List.getElem?_eq_getElem h]
theorem take_getD {b : List UInt8} {k j : Nat} (h : j < k) : (b.take k).getD j 0 = b.getD j 0 := by
  simp only [List.getD, List.getElem?_take]
  rw [if_pos h]
theorem copy_take {b : List UInt8} {f a m : Nat} (h1 : f < a) (h2 : a + m ≤ b.length) (h3 : ∀ i, i < m → b.getD (f + i) 0 = b.getD (a + i) 0) : ∀ i, i ≤ m → copyTo i (a - f) (b.take a) = b.take (a + i)
  | 0, _ => rfl
  | i + 1, hi => by
    have ih := copy_take h1 h2 h3 i (by omega)
    have hl : (b.take (a + i)).length = a + i := by rw [List.length_take]; omega
    rw [copyTo, ih, hl, take_getD (by omega), show a + i - (a - f) = f + i by omega, h3 i (by omega), ← Nat.add_assoc, take_next (by omega)]

/-- The parts' bytes so far, and how far they have come. -/
def PInv (b P : List UInt8) (own : Nat) : Prop :=
  ∃ c, c % 2 = 0 ∧ (c = 0 → own = 0) ∧ c ≤ P.length ∧ own ≤ b.length ∧ P.length ≤ 8 * own ∧ ∀ R F, uRun (F + c) b.length 0 [] (P ++ R) = uRun F b.length c (b.take own) R
theorem PInv.start (b : List UInt8) : PInv b [] 0 := ⟨0, rfl, fun _ => rfl, Nat.le_refl _, Nat.zero_le _, Nat.le_refl _, fun R F => by simp⟩
theorem PInv.bound {b P : List UInt8} {own : Nat} (h : PInv b P own) : P.length ≤ 8 * own ∧ own ≤ b.length := by
  obtain ⟨c, _, _, _, h1, h2, _⟩ := h
  exact ⟨h2, h1⟩

/-- Plain bytes, in the run. -/
theorem run_lit {b R : List UInt8} {own a F c : Nat} (hc : c % 2 = 0) (h0 : c = 0 ∨ own < b.length) (h1 : own ≤ a) (h2 : a ≤ b.length) (h64 : b.length < 18446744073709551616) :
    uRun (F + 1) b.length c (b.take own) (ub (a - own) ++ (b.drop own).take (a - own) ++ R) = uRun F b.length (c + 1) (b.take a) R := by
  have hol : (b.take own).length = own := by rw [List.length_take]; omega
  have hSl : ((b.drop own).take (a - own)).length = a - own := by rw [List.length_take, List.length_drop]; omega
  have hk : tk (ub (a - own) ++ (b.drop own).take (a - own) ++ R) = some (a - own, (ub (a - own)).length) := by rw [List.append_assoc]; exact tk_front _ _ (by omega)
  have hd : (ub (a - own) ++ (b.drop own).take (a - own) ++ R).drop (ub (a - own)).length = (b.drop own).take (a - own) ++ R := by rw [List.append_assoc, List.drop_left]
  have e0 : (c % 2 == 1) = false := by rw [beq_eq_false_iff_ne]; omega
  have hs := step_lit (n := b.length) (out := b.take own) hk
  rw [hd, if_pos (by rw [List.length_append, hSl, hol]; omega)] at hs
  have e1 : ((b.drop own).take (a - own) ++ R).take (a - own) = (b.drop own).take (a - own) := by
    rw [List.take_append_of_le_length (by omega)]
    rw [List.take_of_length_le (by omega)]
  have e2 : ((b.drop own).take (a - own) ++ R).drop (a - own) = R := by
    conv => lhs; rw [show a - own = ((b.drop own).take (a - own)).length from hSl.symm]
    rw [hSl, List.drop_append_of_le_length (by omega), List.drop_of_length_le (by omega)]
    rfl
  have e3 : b.take own ++ (b.drop own).take (a - own) = b.take a := by
    conv => rhs; rw [show a = own + (a - own) by omega]
    rw [List.take_add]
  rw [e1, e2, e3] at hs
  exact uRun_some (by rw [hol]; exact h0) (by rw [e0]; exact hs)
/-- A copy, in the run. -/
theorem run_copy {b R : List UInt8} {f a m F c : Nat} (hc : c % 2 = 1) (h1 : f < a) (h3 : 4 ≤ m) (h4 : a + m ≤ b.length) (h5 : ∀ i, i < m → b.getD (f + i) 0 = b.getD (a + i) 0) (h64 : b.length < 18446744073709551616) :
    uRun (F + 1) b.length c (b.take a) (ub (a - f) ++ ub m ++ R) = uRun F b.length (c + 1) (b.take (a + m)) R := by
  have hol : (b.take a).length = a := by rw [List.length_take]; omega
  have hk : tk (ub (a - f) ++ ub m ++ R) = some (a - f, (ub (a - f)).length) := by rw [List.append_assoc]; exact tk_front _ _ (by omega)
  have hd : (ub (a - f) ++ ub m ++ R).drop (ub (a - f)).length = ub m ++ R := by rw [List.append_assoc, List.drop_left]
  have hk2 : tk ((ub (a - f) ++ ub m ++ R).drop (ub (a - f)).length) = some (m, (ub m).length) := by rw [hd]; exact tk_front _ _ (by omega)
  have hs := step_copy (n := b.length) (out := b.take a) hk hk2
  rw [hd, if_pos (by rw [hol]; omega), List.drop_left, copy_take h1 h4 h5 m (Nat.le_refl _)] at hs
  have e0 : (c % 2 == 1) = true := by rw [beq_iff_eq]; exact hc
  exact uRun_some (by rw [hol]; omega) (by rw [e0]; exact hs)

theorem PInv.step {b P : List UInt8} {own f a m : Nat} (h : PInv b P own) (h1 : own ≤ a) (h2 : f < a) (h3 : 4 ≤ m) (h4 : a + m ≤ b.length) (h5 : ∀ i, i < m → b.getD (f + i) 0 = b.getD (a + i) 0) (h64 : b.length < 18446744073709551616) :
    PInv b (P ++ (ub (a - own) ++ (b.drop own).take (a - own)) ++ (ub (a - f) ++ ub m)) (a + m) := by
  obtain ⟨c, hc, hz, hcl, hol, hpl, hr⟩ := h
  have u1 := ub_len10 (n := a - own) (by omega)
  have u2 := ub_len10 (n := a - f) (by omega)
  have u3 := ub_len10 (n := m) (by omega)
  have p1 := ub_pos (a - own)
  have p2 := ub_pos (a - f)
  have hSl : ((b.drop own).take (a - own)).length = a - own := by rw [List.length_take, List.length_drop]; omega
  refine ⟨c + 2, by omega, by omega, ?_, h4, ?_, fun R F => ?_⟩
  · simp only [List.length_append]; omega
  · simp only [List.length_append, hSl]; omega
  · have e := hr ((ub (a - own) ++ (b.drop own).take (a - own)) ++ ((ub (a - f) ++ ub m) ++ R)) (F + 2)
    rw [show F + (c + 2) = F + 2 + c by omega]
    rw [show P ++ (ub (a - own) ++ (b.drop own).take (a - own)) ++ (ub (a - f) ++ ub m) ++ R = P ++ ((ub (a - own) ++ (b.drop own).take (a - own)) ++ ((ub (a - f) ++ ub m) ++ R)) by simp only [List.append_assoc]]
    rw [e, show F + 2 = (F + 1) + 1 from rfl, run_lit hc (.inr (by omega)) h1 (by omega) h64, run_copy (by omega) h2 h3 h4 h5 h64]

theorem unp_in {n : Nat} {rest : List UInt8} (h : n ≤ 60000) : unp (ub n ++ 1 :: rest) = match uRun (rest.length + 1) n 0 [] rest with
    | none => ([], 2)
    | some o => (o, 0) := by
  have hk := tk_front n (1 :: rest) (by omega)
  have hd : (ub n ++ 1 :: rest).drop (ub n).length = 1 :: rest := List.drop_left
  unfold unp
  rw [hk]
  simp only
  rw [if_neg (by omega), hd]
  simp only
  rw [if_neg (by rintro ⟨e, _⟩; cases e), if_neg (by decide)]
  cases uRun (rest.length + 1) n 0 [] rest <;> rfl
theorem run_end {b : List UInt8} {F c : Nat} (hc : c ≠ 0) : uRun (F + 1) b.length c b [] = some b := by
  rw [uRun_end (by rintro (h | h) <;> omega)]
  exact if_pos rfl
theorem unp_stored {b : List UInt8} (h : b.length ≤ 60000) : unp (ub b.length ++ 0 :: b) = (b, 0) := by
  have hk := tk_front b.length (0 :: b) (by omega)
  have hd : (ub b.length ++ 0 :: b).drop (ub b.length).length = 0 :: b := List.drop_left
  unfold unp
  rw [hk]
  simp only
  rw [if_neg (by omega), hd]
  simp
theorem PInv.done {b P : List UInt8} (h : PInv b P b.length) (hb : b.length ≤ 60000) (h0 : 0 < b.length) : unp (ub b.length ++ 1 :: P) = (b, 0) := by
  obtain ⟨c, hc, hz, hcl, hol, hpl, hr⟩ := h
  have e := hr [] (P.length - c + 1)
  rw [List.append_nil, show P.length - c + 1 + c = P.length + 1 by omega, List.take_length, run_end (by intro h; exact absurd (hz h) (by omega))] at e
  rw [unp_in hb, e]
theorem PInv.last {b P : List UInt8} {own : Nat} (h : PInv b P own) (hb : b.length ≤ 60000) (h0 : own < b.length) : unp (ub b.length ++ 1 :: (P ++ (ub (b.length - own) ++ b.drop own))) = (b, 0) := by
  obtain ⟨c, hc, hz, hcl, hol, hpl, hr⟩ := h
  have p1 := ub_pos (b.length - own)
  have e := hr (ub (b.length - own) ++ b.drop own) ((P.length + (ub (b.length - own)).length + (b.drop own).length) - c - 1 + 1 + 1)
  have hlen : (P ++ (ub (b.length - own) ++ b.drop own)).length + 1 = (P.length + (ub (b.length - own)).length + (b.drop own).length) - c - 1 + 1 + 1 + c := by
    simp only [List.length_append]; omega
  have hlit := run_lit (b := b) (R := []) (own := own) (a := b.length) (F := (P.length + (ub (b.length - own)).length + (b.drop own).length) - c - 1 + 1) hc (.inr h0) (by omega) (Nat.le_refl _) (by omega)
  rw [List.append_nil, List.take_of_length_le (show (b.drop own).length ≤ b.length - own by rw [List.length_drop]; omega), List.take_length, run_end (by omega)] at hlit
  rw [unp_in hb, hlen, e, hlit]
end Go.Proofs.Ytdcefhhmddjodaa
