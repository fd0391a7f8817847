/-
  The walk of the program's pass: what stands at each place is noted in the map.
-/
import Derived.Test.YtdkkbplkclcabaaLzKey
namespace Go.Proofs.Ytdkkbplkclcabaa
open Go.RowKit Go.Maps
set_option linter.unusedVariables false
set_option linter.unnecessarySimpa false
set_option linter.unusedSimpArgs false
set_option maxRecDepth 100000

/-- Whatever stands at a key stood there, ahead of p. -/
def MapOK (D : DataW Unit) (s : ByteArray) (p : Nat) : Prop :=
  IsMap D ∧ ∀ x : F4, Maps.has D (key4 x) = true → ∃ i : Nat, D.atKey (key4 x) (.lit (.int .i64 0)) = .lit (.int .i64 i) ∧ i < p ∧ i + 4 ≤ s.size ∧ fours s i = x
theorem MapOK.start (s : ByteArray) (p : Nat) : MapOK (.map []) s p := ⟨isMap_empty, fun x h => by cases h⟩
theorem MapOK.mono {D : DataW Unit} {s : ByteArray} {p q : Nat} (h : MapOK D s p) (hpq : p ≤ q) : MapOK D s q := ⟨h.1, fun x hx => by
  obtain ⟨i, h1, h2, h3⟩ := h.2 x hx
  exact ⟨i, h1, by omega, h3⟩⟩
theorem MapOK.put {D : DataW Unit} {s : ByteArray} {i : Nat} (h : MapOK D s i) (hi : i + 4 ≤ s.size) : MapOK (D.put (key4 (fours s i)) (.lit (.int .i64 i))) s (i + 1) := by
  refine ⟨h.1.put _ _, fun x hx => ?_⟩
  by_cases e : x = fours s i
  · subst e
    exact ⟨i, atKey_put_same h.1 (klaw.key (keyOf_four _)) _ _, by omega, hi, rfl⟩
  · have hne : key4 x ≠ key4 (fours s i) := fun h => e (key4_inj h)
    rw [has_put_other hne] at hx
    obtain ⟨j, h1, h2, h3⟩ := h.2 x hx
    exact ⟨j, by rw [atKey_put_other hne]; exact h1, by omega, h3⟩

theorem map_below {w w' : World} {P : Program} {k : TypeId} {R : Value → Option (DataW Unit × List MemPlace)} {b n : Nat} {D : DataW Unit} (h : w.ownsMap P k R b n D) (hb : Below w.heap.size w w') : w'.ownsMap P k R b n D := by
  have hlt := h.lt
  obtain ⟨es, clock, hb2, F, hs, hD⟩ := h
  exact ⟨es, clock, (hb.block b hlt).trans hb2, F, hs, hD⟩

/-- The map, as the walks carry it. -/
abbrev MapAt (w : World) (M n : Nat) (D : DataW Unit) : Prop := w.ownsMap Try.prog 52 (plainElem Try.prog 3) M n D

set_option maxHeartbeats 4000000 in
theorem pass_any (M : Nat) (s : ByteArray) (a b : Nat) (hab : a ≤ b) (hb : b ≤ 100000) (hs : s.size ≤ 100000) (D : DataW Unit) (w : World) (hM : MapAt w M a D) (hD : MapOK D s a) :
    Calls Try.prog 26 #[.map (some M), .string s, .int .i64 a, .int .i64 b] w fun e w' => e = .returned (.tuple #[]) ∧ ∃ D', Hid (MapAt w' M b D') ∧ Hid (MapOK D' s b) ∧ Kept w.heap.size M w w' := by
  have HM := Lib.hid hM
  have HD := Lib.hid hD
  have H4 := Lib.hid (fun i h W => fourAt_any s i h hs W)
  clear hM hD
  go_enter Try.func26, Try.ntmps26
  go_wp2_with fail
  go_loopg [8] (b - a) (fun q s8 wx => ∃ (i : Nat) (D : DataW Unit), i + q = b ∧ s8 = .int .i64 i ∧ Hid (MapAt wx M i D) ∧ Hid (MapOK D s i) ∧ Hid (Kept w.heap.size M w wx))
  case atStart => exact ⟨a, D, by omega, rfl, HM, HD, Lib.hid (Kept.refl _ _ _)⟩
  case round =>
    obtain ⟨i, D, hiq, rfl, hown, hok, hk⟩ := hrel
    by_cases hlt : i < b
    · have hltz : (i : Int) < (b : Int) := by omega
      by_cases hfit : i + 4 ≤ s.size
      · have hfz : (i : Int) + 4 ≤ (s.size : Int) := by omega
        obtain ⟨q, rfl⟩ : ∃ q, gk = q + 1 := ⟨gk - 1, by omega⟩
        have hi6 : i ≤ 100000 := by omega
        have HI := Lib.hid (show i + 1 + q = b by omega)
        have h4 := Lib.hid (H4.out i hfit)
        have HP := Lib.hid (hok.out.put hfit)
        clear hiq hok
        go_wp2_with (first
          | (go_at_call 22; refine (h4.out _).mono ?_; rintro e w1 ⟨rfl, hb1⟩; have hown1 := map_below hown.out hb1)
          | (at_mapUpdate; refine wpList_mapUpdate_own _ rfl _ _ _ 50 rfl 52 3 klaw Try.underlying50 _ M i D rfl hown1 (by unfold maxLen; omega) _ _ _ rfl rfl (keyOf_four _) _ [] (plainElem_int Try.underlying3 (WalkArith.wf_i64 (by omega))) ?_; intro w2 hown2 hgrow2))
        have K2 := Lib.hid (hk.out.trans ((Kept.of_below (hb1.mono hk.out.size)).trans (Kept.of_grown hgrow2 (Nat.le_trans hk.out.size hb1.size))))
        have M2 := Lib.hid (show MapAt w2 M (i + 1) _ from hown2)
        clear hown hown1 hown2 hgrow2 hb1 hk
        go_roundg q
        case measure => omega
        case rel => exact ⟨i + 1, _, HI.out, by simp, M2, HP, K2⟩
      · have hfz : ¬ (i : Int) + 4 ≤ (s.size : Int) := by omega
        have M2 := Lib.hid (show MapAt wr M b D from hown.out.mono (by omega))
        have HP := Lib.hid (hok.out.mono (q := b) (by omega))
        clear hiq hok hown
        go_wp2_with fail
        go_end0
        exact ⟨rfl, D, M2, HP, hk.out⟩
    · have hltz : ¬ (i : Int) < (b : Int) := by omega
      have M2 := Lib.hid (show MapAt wr M b D from hown.out.mono (by omega))
      have HP := Lib.hid (hok.out.mono (q := b) (by omega))
      clear hiq hok hown
      go_wp2_with fail
      go_end0
      exact ⟨rfl, D, M2, HP, hk.out⟩
end Go.Proofs.Ytdkkbplkclcabaa
