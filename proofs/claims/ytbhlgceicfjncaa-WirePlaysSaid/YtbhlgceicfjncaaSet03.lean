/-
  Joined: MsgBackMath, RefUintB, Convert, RefText, Class, MsgField.
-/
import Derived.Test.YtbhlgceicfjncaaSet02
import Derived.Test.YtbhlgceicfjncaaSet01
import Derived.ProofKit
import Derived.WalkSpells
import Derived.WalkLawsBesides
import Derived.Lib.Hide
import Derived.Test.YtbhlgceicfjncaaRows
import Derived.WalkKit
import Derived.Below
import Derived.BigQuiet
import Derived.Deep.QuietTactic
import Derived.Laws.Rows
import Derived.Lib.IndexBytes
import Derived.Deep.LoopGhost
import Derived.Deep.DeepCutAuto
import Derived.Deep.CutBlock
namespace Go.Proofs.Ytbhlgceicfjncaa
open Go.RowKit
set_option linter.unusedVariables false
set_option linter.unnecessarySimpa false
set_option linter.unusedSimpArgs false
set_option maxRecDepth 100000

theorem fldsB_mono (m : Mg) : ∀ {j k : Nat}, j ≤ k → (fldsB m j).length ≤ (fldsB m k).length
  | j, 0, h => by obtain rfl : j = 0 := by omega
                  exact Nat.le_refl _
  | j, k + 1, h => by
    by_cases e : j = k + 1
    · subst e; exact Nat.le_refl _
    · have := fldsB_mono m (j := j) (k := k) (by omega)
      rw [fldsB, List.length_append]
      omega
theorem fldB_le (m : Mg) {k : Nat} (h1 : 1 ≤ k) (h2 : k ≤ 12) : (fldB m k).length ≤ (fldsB m 12).length := by
  obtain ⟨j, rfl⟩ : ∃ j, k = j + 1 := ⟨k - 1, by omega⟩
  have := fldsB_mono m (j := j + 1) (k := 12) h2
  rw [fldsB, List.length_append] at this
  omega
theorem fld_range {m : Mg} {k : Nat} {t : List UInt8} (h : fld m k = some t) : 1 ≤ k ∧ k ≤ 12 := by
  match k, h with
  | 0, h => cases h
  | 1, _ => omega
  | 2, _ => omega
  | 3, _ => omega
  | 4, _ => omega
  | 5, _ => omega
  | 6, _ => omega
  | 7, _ => omega
  | 8, _ => omega
  | 9, _ => omega
  | 10, _ => omega
  | 11, _ => omega
  | 12, _ => omega
  | n + 13, h => cases h
theorem fld_text {m : Mg} {k : Nat} {t : List UInt8} (h : fld m k = some t) : t.length ≤ (fldsB m 12).length := by
  obtain ⟨h1, h2⟩ := fld_range h
  have := fldB_le m h1 h2
  unfold fldB at this
  rw [h] at this
  simp only [encT, List.length_append] at this
  omega
theorem right_partsM {m : Mg} (h : rightBM m = true) : nums31 m = true ∧ kindOK m = true ∧ verOK m = true ∧ m.ws.length ≤ 8 ∧ m.ws.all wrOK = true ∧ (msgB m 12).length ≤ 4000 := by
  unfold rightBM at h
  simp only [Bool.and_eq_true, decide_eq_true_eq] at h
  exact ⟨h.1, h.2.1, h.2.2.1, h.2.2.2.1, h.2.2.2.2.1, h.2.2.2.2.2⟩
theorem right_of {m : Mg} (h1 : nums31 m = true) (h2 : kindOK m = true) (h3 : verOK m = true) (h4 : m.ws.length ≤ 8) (h5 : m.ws.all wrOK = true) (h6 : (msgB m 12).length ≤ 4000) : rightBM m = true := by
  unfold rightBM
  rw [h1, h2, h3, h5, decide_eq_true h4, decide_eq_true h6]
  rfl
theorem flds_len {m : Mg} (h : rightBM m = true) : (fldsB m 12).length ≤ 4000 := by
  have := (right_partsM h).2.2.2.2.2
  unfold msgB at this
  rw [List.length_append] at this
  omega

theorem upto_fld (m : Mg) {k : Nat} (hk : k = 9 ∨ k = 10 ∨ k = 12) (tag : Nat) : fld (upto m k) tag = fld m tag ∨ fld (upto m k) tag = none := by
  rcases hk with rfl | rfl | rfl
  all_goals
    match tag with
    | 0 => exact .inl rfl
    | 1 => exact .inl rfl
    | 2 => exact .inl rfl
    | 3 => exact .inl rfl
    | 4 => exact .inl rfl
    | 5 => exact .inl rfl
    | 6 => exact .inl rfl
    | 7 => exact .inl rfl
    | 8 => exact .inl rfl
    | 9 => exact .inl rfl
    | 10 => first | exact .inl rfl | exact .inr rfl
    | 11 => first | exact .inl rfl | exact .inr rfl
    | 12 => first | exact .inl rfl | exact .inr rfl
    | n + 13 => exact .inl rfl
theorem upto_flds (m : Mg) {k : Nat} (hk : k = 9 ∨ k = 10 ∨ k = 12) : ∀ j, (fldsB (upto m k) j).length ≤ (fldsB m j).length
  | 0 => Nat.le_refl _
  | j + 1 => by
    have ih := upto_flds m hk j
    rw [fldsB, fldsB, List.length_append, List.length_append]
    rcases upto_fld m hk (j + 1) with e | e
    · have : fldB (upto m k) (j + 1) = fldB m (j + 1) := by unfold fldB; rw [e]
      rw [this]; omega
    · have : fldB (upto m k) (j + 1) = [] := by unfold fldB; rw [e]
      rw [this]
      show _ + 0 ≤ _
      omega
theorem upto_right {m : Mg} (h : rightBM m = true) {k : Nat} (hk : k = 9 ∨ k = 10 ∨ k = 12) : rightBM (upto m k) = true := by
  obtain ⟨h1, h2, h3, h4, h5, h6⟩ := right_partsM h
  have hl := upto_flds m hk 12
  have e1 : nums31 (upto m k) = nums31 m := by rcases hk with rfl | rfl | rfl <;> rfl
  have e2 : kindOK (upto m k) = kindOK m := rfl
  have e3 : verOK (upto m k) = verOK m := by rcases hk with rfl | rfl | rfl <;> rfl
  have e4 : (upto m k).ws = m.ws := by rcases hk with rfl | rfl | rfl <;> rfl
  have e5 : (msgB (upto m k) 12).length ≤ (msgB m 12).length := by
    unfold msgB
    rw [List.length_append, List.length_append]
    have : (upto m k).kind = m.kind := rfl
    rw [this]
    omega
  exact right_of (e1.trans h1) (e2.trans h2) (e3.trans h3) (by rw [e4]; exact h4) (by rw [e4]; exact h5) (by omega)

theorem some_10 (m : Mg) : (fld m 10).isSome = !(m.note.size == 0) := by
  rw [fld_10]
  by_cases h : m.note.size = 0
  · rw [if_pos h]; simp [h]
  · rw [if_neg h]; simp [h]
theorem some_num (n : Nat) : (numF n).isSome = !(n == 0) := by
  unfold numF
  by_cases h : n = 0
  · rw [if_pos h]; simp [h]
  · rw [if_neg h]; simp [h]
theorem some_11 (m : Mg) : (fld m 11).isSome = !(m.hint == 0) := some_num m.hint
theorem some_12 (m : Mg) : (fld m 12).isSome = !(m.must == 0) := some_num m.must

/-- How many fields are left out, from one version down to another. -/
def lostB (m : Mg) (lo hi : Int) : Nat := (if m.note.size ≠ 0 ∧ lo < 2 ∧ 2 ≤ hi then 1 else 0) + (if m.hint ≠ 0 ∧ lo < 3 ∧ hi = 3 then 1 else 0) + (if m.must ≠ 0 ∧ lo < 3 ∧ hi = 3 then 1 else 0)
theorem ite_not (a b : Prop) [Decidable a] [Decidable b] (h : a ↔ b) : (if a then 1 else 0 : Nat) = if b then 1 else 0 := by
  by_cases hb : b
  · rw [if_pos hb, if_pos (h.2 hb)]
  · rw [if_neg hb, if_neg (fun ha => hb (h.1 ha))]

theorem run_all {m : Mg} (hr : rightBM m = true) (hf : m.fits) (hw : m.few) {lo hi : Int} (hlo : lo = 1 ∨ lo = 2 ∨ lo = 3) (hhi : hi = 1 ∨ hi = 2 ∨ hi = 3) (hle : lo ≤ hi) (R : List UInt8) :
    ∃ p, p ≤ lastOfM hi ∧ dAll (lastOfM lo) ⟨0, upto m 0, 0, false⟩ (fldsB m (lastOfM hi) ++ R) = dAll (lastOfM lo) ⟨p, upto m (lastOfM lo), lostB m lo hi, decide (lo < 3 ∧ hi = 3 ∧ m.must ≠ 0)⟩ R := by
  obtain ⟨hn, _, _, h8, _, _⟩ := right_partsM hr
  have hfl := flds_len hr
  have hb : ∀ k t, fld m k = some t → t.length < 18446744073709551616 := fun k t h => by have := fld_text h; omega
  have K := fun {last : Nat} (hl : last ≤ 12) R => run_known (m := m) hn hf hw h8 hb hl last R (Nat.le_refl _)
  have s10 := some_10 m
  have s11 := some_11 m
  have s12 := some_12 m
  have hsame : ∀ v : Int, (v = 1 ∨ v = 2 ∨ v = 3) → lostB m v v = 0 ∧ decide (v < 3 ∧ v = 3 ∧ m.must ≠ 0) = false := fun v hv => by
    refine ⟨?_, decide_eq_false (by omega)⟩
    unfold lostB
    rw [if_neg (by omega), if_neg (by omega), if_neg (by omega)]
  by_cases he : lo = hi
  · subst he
    obtain ⟨p, hp, e⟩ := K (last := lastOfM lo) (by rcases hlo with rfl | rfl | rfl <;> decide) R
    refine ⟨p, hp, ?_⟩
    rw [e, (hsame lo hlo).1, (hsame lo hlo).2]
  · have h3 : (lo = 1 ∧ hi = 2) ∨ (lo = 1 ∧ hi = 3) ∨ (lo = 2 ∧ hi = 3) := by omega
    rcases h3 with ⟨rfl, rfl⟩ | ⟨rfl, rfl⟩ | ⟨rfl, rfl⟩
    · have e0 : fldsB m (lastOfM 2) ++ R = fldsB m 9 ++ (fldB m 10 ++ R) := by show fldsB m 10 ++ R = _; rw [fldsB, List.append_assoc]
      obtain ⟨p, hp, e⟩ := K (last := 9) (by decide) (fldB m 10 ++ R)
      obtain ⟨p1, hp1, e1⟩ := run_unknown (m := m) (M := upto m 9) (last := 9) (tag := 10) (p := p) (l := 0) (c := false) (R := R) hb (by decide) (by omega) (by decide)
      refine ⟨p1, hp1, ?_⟩
      rw [e0]
      show dAll 9 _ _ = dAll 9 _ _
      rw [e, e1, s10]
      have a1 : 0 + (if (!(m.note.size == 0)) = true then 1 else 0) = lostB m 1 2 := by
        unfold lostB
        rw [if_neg (c := m.hint ≠ 0 ∧ (1 : Int) < 3 ∧ (2 : Int) = 3) (by omega), if_neg (c := m.must ≠ 0 ∧ (1 : Int) < 3 ∧ (2 : Int) = 3) (by omega), Nat.zero_add, Nat.add_zero]
        exact ite_not _ _ (by simp)
      rw [a1]
      congr 2
      simp
    · have e0 : fldsB m (lastOfM 3) ++ R = fldsB m 9 ++ (fldB m 10 ++ (fldB m 11 ++ (fldB m 12 ++ R))) := by show fldsB m 12 ++ R = _; simp only [fldsB, List.append_assoc]
      obtain ⟨p, hp, e⟩ := K (last := 9) (by decide) (fldB m 10 ++ (fldB m 11 ++ (fldB m 12 ++ R)))
      obtain ⟨p1, hp1, e1⟩ := run_unknown (m := m) (M := upto m 9) (last := 9) (tag := 10) (p := p) (l := 0) (c := false) (R := fldB m 11 ++ (fldB m 12 ++ R)) hb (by decide) (by omega) (by decide)
      obtain ⟨p2, hp2, e2⟩ := run_unknown (m := m) (M := upto m 9) (last := 9) (tag := 11) (p := p1) (l := 0 + (if (fld m 10).isSome then 1 else 0)) (c := false || ((fld m 10).isSome && 10 == 12)) (R := fldB m 12 ++ R) hb (by decide) (by omega) (by decide)
      obtain ⟨p3, hp3, e3⟩ := run_unknown (m := m) (M := upto m 9) (last := 9) (tag := 12) (p := p2) (l := 0 + (if (fld m 10).isSome then 1 else 0) + (if (fld m 11).isSome then 1 else 0)) (c := false || ((fld m 10).isSome && 10 == 12) || ((fld m 11).isSome && 11 == 12)) (R := R) hb (by decide) (by omega) (by decide)
      refine ⟨p3, hp3, ?_⟩
      rw [e0]
      show dAll 9 _ _ = dAll 9 _ _
      rw [e, e1, e2, e3, s10, s11, s12]
      have a1 : 0 + (if (!(m.note.size == 0)) = true then 1 else 0) + (if (!(m.hint == 0)) = true then 1 else 0) + (if (!(m.must == 0)) = true then 1 else 0) = lostB m 1 3 := by
        unfold lostB
        rw [Nat.zero_add, ite_not _ (m.note.size ≠ 0 ∧ (1 : Int) < 2 ∧ (2 : Int) ≤ 3) (by simp), ite_not ((!(m.hint == 0)) = true) (m.hint ≠ 0 ∧ (1 : Int) < 3 ∧ (3 : Int) = 3) (by simp), ite_not ((!(m.must == 0)) = true) (m.must ≠ 0 ∧ (1 : Int) < 3 ∧ (3 : Int) = 3) (by simp)]
      rw [a1]
      congr 2
      simp
      rfl
    · have e0 : fldsB m (lastOfM 3) ++ R = fldsB m 10 ++ (fldB m 11 ++ (fldB m 12 ++ R)) := by show fldsB m 12 ++ R = _; rw [fldsB, fldsB]; simp only [List.append_assoc]
      obtain ⟨p, hp, e⟩ := K (last := 10) (by decide) (fldB m 11 ++ (fldB m 12 ++ R))
      obtain ⟨p2, hp2, e2⟩ := run_unknown (m := m) (M := upto m 10) (last := 10) (tag := 11) (p := p) (l := 0) (c := false) (R := fldB m 12 ++ R) hb (by decide) (by omega) (by decide)
      obtain ⟨p3, hp3, e3⟩ := run_unknown (m := m) (M := upto m 10) (last := 10) (tag := 12) (p := p2) (l := 0 + (if (fld m 11).isSome then 1 else 0)) (c := false || ((fld m 11).isSome && 11 == 12)) (R := R) hb (by decide) (by omega) (by decide)
      refine ⟨p3, hp3, ?_⟩
      rw [e0]
      show dAll 10 _ _ = dAll 10 _ _
      rw [e, e2, e3, s11, s12]
      have a1 : 0 + (if (!(m.hint == 0)) = true then 1 else 0) + (if (!(m.must == 0)) = true then 1 else 0) = lostB m 2 3 := by
        unfold lostB
        rw [if_neg (c := m.note.size ≠ 0 ∧ (2 : Int) < 2 ∧ (2 : Int) ≤ 3) (by omega), ite_not ((!(m.hint == 0)) = true) (m.hint ≠ 0 ∧ (2 : Int) < 3 ∧ (3 : Int) = 3) (by simp), ite_not ((!(m.must == 0)) = true) (m.must ≠ 0 ∧ (2 : Int) < 3 ∧ (3 : Int) = 3) (by simp)]
      rw [a1]
      congr 2
      simp
      rfl
end Go.Proofs.Ytbhlgceicfjncaa

namespace Go.Proofs.Ytbhlgceicfjncaa
open Go.RowKit
set_option linter.unnecessarySimpa false
set_option linter.unusedVariables false
set_option linter.unusedSimpArgs false
set_option maxRecDepth 100000

set_option maxRecDepth 100000 in
set_option maxHeartbeats 800000 in
theorem refUint_any (n : Nat) (hn : n < 18446744073709551616) (w : World) :
    Calls Try.prog 44 #[.int .u64 n] w fun e w' => e = .returned (.string ⟨(ub n).toArray⟩) ∧ Below w.heap.size w w' := by
  obtain ⟨i0, hi, hz0, hz1, hz2⟩ := info_parts u8info
  have hlen := Lib.hid (ub_len10 hn)
  have HN := Lib.hid hn
  clear hn
  go_enter Try.func44, Try.ntmps44
  go_wp2_with fail
  go_loopw [0, 3] (fun t v wr => ∃ (m : Nat) (done : List UInt8), t = .int .u64 m ∧ Hid (m < 18446744073709551616) ∧ wr.ownsRow w.heap.size 5 1 v done.length (Lib.byteCells done) ∧ Hid (done ++ ub m = ub n) ∧ Below w.heap.size w wr) (fun t _ _ => (intOf t).toNat)
  case atStart => exact ⟨n, [], rfl, HN, World.ownsRow_nil _ _ _ _, Lib.hid rfl, Below.refl _ _⟩
  case round =>
    obtain ⟨m, done, rfl, hm, hown, hd, hb⟩ := hrel
    have hl := congrArg List.length hd.out
    rw [List.length_append] at hl
    have hp := ub_pos m
    have hll := hlen.out
    have hdl : done.length ≤ 9 := by omega
    clear hl hll hp
    have hor := Lib.hid (show (m : Int) % 128 + 128 = ((UInt8.ofNat (m % 128 + 128)).toNat : Int) by simp only [UInt8.toNat_ofNat']; omega)
    have hone := Lib.hid (cell_one_new wr (.int .u8 ((m : Int) % 128 + 128)) 5)
    by_cases h : 128 ≤ m
    · have hm64 : (m : Int) ≤ 18446744073709551615 := by have := hm.out; omega
      have hub := Lib.hid (ub_big (n := m) (by omega))
      go_wp2_with (at_builtin; refine wpList_append_own _ rfl _ _ 91 rfl w.heap.size 5 i0 (.int .u8 0) 1 1 Try.underlying91 hi hz0 hz1 hz2 rfl (by decide) _ _ _ rfl (hown.alloc _) ⟨wr.heap.size, 0, none⟩ 1 1 [.int .u8 ((m : Int) % 128 + 128)] rfl rfl ?c1 ?c2 ?c3 ?c4 ?c5 ?c6)
      case c1 => exact hone.out
      case c2 => simp [Value.oneCell']
      case c3 => simp [maxLen]; omega
      case c4 => simp; omega
      case c5 => have := hb.size; simp; omega
      case c6 =>
        intro v' w1 hown1 hg1 _
        rw [hor.out, cells_snoc] at hown1
        go_wp2_with fail
        clear hone hor
        refine ⟨⟨m / 128, done ++ [UInt8.ofNat (m % 128 + 128)], by go_num, Lib.hid (by have := hm.out; omega), by rw [List.length_append]; exact hown1, Lib.hid ?_, (hb.alloc hb.size _).grown hg1 (by have := hb.size; simp; omega) (fun k hk => (hown.lt k hk).1)⟩, ?_⟩
        · have h1 := hd.out
          rw [hub.out] at h1
          simpa using h1
        · simp [intOf]; omega
    · have hm' : m ≤ 127 := by omega
      have hub := Lib.hid (ub_small (n := m) (by omega))
      have hone2 := Lib.hid (cell_one_new wr (.int .u8 (m : Int)) 5)
      have e256 := Lib.hid (show (m : Int) = ((UInt8.ofNat m).toNat : Int) by simp only [UInt8.toNat_ofNat']; omega)
      go_wp2_with (at_builtin; refine wpList_append_own _ rfl _ _ 91 rfl w.heap.size 5 i0 (.int .u8 0) 1 1 Try.underlying91 hi hz0 hz1 hz2 rfl (by decide) _ _ _ rfl (hown.alloc _) ⟨wr.heap.size, 0, none⟩ 1 1 [.int .u8 (m : Int)] rfl rfl ?c1 ?c2 ?c3 ?c4 ?c5 ?c6)
      case c1 => exact hone2.out
      case c2 => simp [Value.oneCell']
      case c3 => simp [maxLen]; omega
      case c4 => simp; omega
      case c5 => have := hb.size; simp; omega
      case c6 =>
        intro v' w1 hown1 hg1 hnil
        have hown2 : w1.ownsRow w.heap.size 5 1 v' (done.length + 1) (Lib.byteCells (done ++ [UInt8.ofNat m])) := by rw [← cells_snoc, ← e256.out]; exact hown1
        have hnn : ¬ v' = .slice none 0 0 := hnil
        have hcv := convert_own (P := Try.prog) (src := 91) (dst := 9) hown2 hnn Try.underlying91 Try.underlying5 Try.underlying9
        have hfin : done ++ [UInt8.ofNat m] = ub n := by have h1 := hd.out; rw [hub.out] at h1; exact h1
        rw [hfin] at hcv
        have HB := (hb.alloc hb.size (.cells #[.int .u8 (m : Int)] 5)).grown hg1 (by have := hb.size; simp; omega) (fun k hk => (hown.lt k hk).1)
        clear hone hor hone2 e256 hnil hfin hown1 hown2
        go_wp2_with fail
        go_ret
        exact ⟨rfl, HB⟩
end Go.Proofs.Ytbhlgceicfjncaa

namespace Go.Proofs.Ytbhlgceicfjncaa
open Go.RowKit
set_option linter.unusedVariables false
set_option linter.unusedSimpArgs false
set_option linter.unnecessarySimpa false
set_option maxRecDepth 100000

theorem convert_row {w : World} {base n : Nat} {v : Value} {l : List UInt8} (h : w.ownsRow base 5 1 v n (Lib.byteCells l)) : (convert 91 9 v).run Try.prog w = .ok (.string ⟨l.toArray⟩) w := by
  by_cases hv : v = .slice none 0 0
  · have hl : l = [] := by
      rcases h.2 with ⟨_, h0⟩ | ⟨g, cap, cur, h0, _⟩
      · have := h.1
        subst h0
        rw [Lib.byteCells_length] at this
        exact List.length_eq_zero_iff.1 (by omega)
      · rw [hv] at h0; cases h0
    subst hv hl
    simp [convert, Conv.bytesToString]
    rfl
  · exact convert_own h hv Try.underlying91 Try.underlying5 Try.underlying9

end Go.Proofs.Ytbhlgceicfjncaa

namespace Go.Proofs.Ytbhlgceicfjncaa
open Go.RowKit
set_option linter.unusedVariables false
set_option linter.unnecessarySimpa false
set_option linter.unusedSimpArgs false
set_option maxRecDepth 100000

theorem ub_size' (n : Nat) (h : n < 18446744073709551616) : (⟨(ub n).toArray⟩ : ByteArray).size ≤ 10 := by
  show (ub n).toArray.size ≤ 10; rw [List.size_toArray]; exact ub_len10 h
set_option maxHeartbeats 1000000 in
theorem refTextB_any (s : ByteArray) (hs : s.size ≤ 300000) (w : World) :
    Calls Try.prog 46 #[.string s] w fun e w' => e = .returned (.string ⟨(ub s.size ++ s.data.toList).toArray⟩) ∧ Below w.heap.size w w' := by
  have hu := Lib.hid (refUint_any s.size (by omega))
  have hsz := ub_size' s.size (by omega)
  have hw : IntKind.u64.wrap (s.size : Int) = (s.size : Int) := by simp [IntKind.wrap, IntKind.bits, IntKind.signed]; omega
  obtain ⟨U, hU⟩ : ∃ U : ByteArray, U = ⟨(ub s.size).toArray⟩ := ⟨_, rfl⟩
  have hadd := Lib.hid (show U ++ s = ⟨(ub s.size ++ s.data.toList).toArray⟩ by rw [hU]; apply ByteArray.ext; simp)
  rw [← hU] at hu hsz
  have hss : U.size + s.size ≤ 9223372036854775807 := by omega
  clear hU
  go_enter Try.func46, Try.ntmps46
  go_wp2_with (go_at_call 44; refine (hu.out _).mono ?_; rintro e w1 ⟨rfl, hb1⟩)
  go_ret
  exact ⟨by rw [← hadd.out]; rfl, hb1⟩
end Go.Proofs.Ytbhlgceicfjncaa

namespace Go.Proofs.Ytbhlgceicfjncaa
open Go.RowKit
set_option linter.unnecessarySimpa false
set_option linter.unusedVariables false
set_option linter.unusedSimpArgs false
set_option maxRecDepth 100000

/-- A world that is as w was, below B. -/
structure Like (B : Nat) (w : World) where
  val : World
  below : Below B w val
instance likeInhabited (B : Nat) (w : World) : Inhabited (Like B w) := ⟨⟨w, Below.refl B w⟩⟩
/-- The class. -/
def Likes (B : Nat) (w : World) : World → Prop := fun w' => ∃ x : Like B w, w' = x.val
theorem Likes.of {B : Nat} {w w' : World} (h : Below B w w') : Likes B w w' := ⟨⟨w', h⟩, rfl⟩

/-- A region that draws its order, at the class. -/
theorem region_likes {P : Program} {id : Nat} {Q : Exit → Act → World → Prop} {a : Act} {w : World} {l : List Oper} (hm : P.follows .mixedOrders = true) (hB : Region.lexB .any l.toArray = true)
    (h : wpQuiet P l.toArray (fun w' => ∃ x : Like w.heap.size w, w' = x.val) (fun a' => ∀ x : Like w.heap.size w, Q .normal a' x.val) l a) : (Code.region id l.toArray true).wp P Q a w :=
  wp_region_quiet (C := fun w' => ∃ x : Like w.heap.size w, w' = x.val) hm hB ⟨⟨w.drew, (Below.refl _ _).drew⟩, rfl⟩ (by
    have e : (fun a' => ∀ w', (∃ x : Like w.heap.size w, w' = x.val) → Q .normal a' w') = (fun a' => ∀ x : Like w.heap.size w, Q .normal a' x.val) := by
      funext a'; apply propext; exact ⟨fun h x => h _ ⟨x, rfl⟩, fun h _ ⟨x, hx⟩ => hx ▸ h x⟩
    rw [e]
    exact h)

/-- A callee's contract, met in a world of the class. -/
theorem calls_likes {P : Program} {f : FuncId} {args : Array Value} {B : Nat} {w : World} {x : Like B w} {v : Value} (hB : B ≤ x.val.heap.size)
    (h : Calls P f args x.val fun e w' => e = .returned v ∧ Below x.val.heap.size x.val w') : Calls P f args x.val fun e w'' => e = .returned v ∧ ∃ y : Like B w, w'' = y.val :=
  h.mono fun _ w' ⟨he, hb⟩ => ⟨he, ⟨w', x.below.trans (hb.mono hB)⟩, rfl⟩
/-- .. of a callee that leaves the world as it is. -/
theorem calls_likes_same {P : Program} {f : FuncId} {args : Array Value} {B : Nat} {w : World} {x : Like B w} {v : Value}
    (h : Calls P f args x.val fun e w' => e = .returned v ∧ w' = x.val) : Calls P f args x.val fun e w'' => e = .returned v ∧ ∃ y : Like B w, w'' = y.val :=
  h.mono fun _ _ ⟨he, hb⟩ => ⟨he, x, hb⟩

theorem Like.size {w : World} (x : Like w.heap.size w) : w.heap.size ≤ x.val.heap.size := x.below.size

/-- A whole array (or struct) is loaded: in every world of the class. -/
theorem quiet_row {P : Program} {o : Oper} {a : Act} {C : World → Prop} {K : Act → Prop} (ty : TypeId) (x : Operand) (ho : o.op = .load ty x)
    (g : Nat) (hx : a.eval x = .pointer (some ⟨g, 0, none⟩)) (t : TypeId) (cs : Array Value) (fr : Nat × Nat) (d : TypeDesc) (hg : ∀ w, C w → w.heap[g]? = some (.cells cs t fr))
    (hu : P.underlying ty = some d) (hd : (match d with | .struct _ | .array _ _ => true | _ => false) = true) (hi : (P.info? ty).map (·.size) = some cs.size)
    (h : K (a.put o.dst (.agg cs))) : o.quiet P a C K :=
  ⟨.agg cs, fun w hw => by
    unfold Oper.quietAt execOp
    simp only [ho, hx, Instr.loadAt, Instr.sureAddr, Sem.run_bind, Sem.run_pure, Result.andThen_ok, run_loadVar_row w g t ty cs fr d (hg w hw) hu hd hi, Oper.quietUpon, and_self], h⟩
/-- The row of a block below the bound stays. -/
theorem likes_row {w : World} {g : Nat} {o : Obj} (h : w.heap[g]? = some o) : ∀ w', (∃ x : Like w.heap.size w, w' = x.val) → w'.heap[g]? = some o := fun _ ⟨x, hx⟩ => by
  rw [hx, x.below.block g (Array.getElem?_eq_some_iff.1 h).1, h]
end Go.Proofs.Ytbhlgceicfjncaa

namespace Go.Proofs.Ytbhlgceicfjncaa
open Go.RowKit
set_option linter.unusedVariables false
set_option linter.unnecessarySimpa false
set_option linter.unusedSimpArgs false
set_option maxRecDepth 100000

theorem last_ix1 (w : World) : (Instr.index 102 (.agg #[.int .i64 0, .int .i64 9, .int .i64 10, .int .i64 12]) (.int .i64 1)).run Try.prog w = .ok (.int .i64 9) w := by kernel_rfl
theorem last_ix2 (w : World) : (Instr.index 102 (.agg #[.int .i64 0, .int .i64 9, .int .i64 10, .int .i64 12]) (.int .i64 2)).run Try.prog w = .ok (.int .i64 10) w := by kernel_rfl
theorem last_ix3 (w : World) : (Instr.index 102 (.agg #[.int .i64 0, .int .i64 9, .int .i64 10, .int .i64 12]) (.int .i64 3)).run Try.prog w = .ok (.int .i64 12) w := by kernel_rfl
theorem last_any (v : Int) (hv : -9223372036854775808 ≤ v ∧ v ≤ 9223372036854775807) (w : World) : Calls Try.prog 32 #[.int .i64 v] w fun e w' => e = .returned (.int .i64 (lastOfM v)) ∧ w = w' := by
  by_cases h1 : v < 1
  · have e : lastOfM v = 0 := by unfold lastOfM; rw [if_neg (by omega), if_neg (by omega), if_neg (by omega)]
    have E := Lib.hid e
    clear e
    go_enter Try.func32, Try.ntmps32
    go_wp2_with fail
    go_ret
    exact ⟨by rw [E.out]; rfl, rfl⟩
  · by_cases h2 : 3 < v
    · have e : lastOfM v = 0 := by unfold lastOfM; rw [if_neg (by omega), if_neg (by omega), if_neg (by omega)]
      have E := Lib.hid e
      clear e
      go_enter Try.func32, Try.ntmps32
      go_wp2_with fail
      go_ret
      exact ⟨by rw [E.out]; rfl, rfl⟩
    · have : v = 1 ∨ v = 2 ∨ v = 3 := by omega
      rcases this with rfl | rfl | rfl
      all_goals
        clear h1 h2 hv
        have i1 := last_ix1
        have i2 := last_ix2
        have i3 := last_ix3
        go_enter Try.func32, Try.ntmps32
        go_wp2_with fail
        go_ret
        exact ⟨rfl, rfl⟩
theorem gone_any (b : Bool) (w : World) : Calls Try.prog 71 #[.bool b] w fun e w' => e = .returned (.string ⟨(bl b).toArray⟩) ∧ w = w' := by
  cases b
  all_goals
    go_enter Try.func71, Try.ntmps71
    go_wp2_with fail
    go_ret
    exact ⟨rfl, rfl⟩
end Go.Proofs.Ytbhlgceicfjncaa
