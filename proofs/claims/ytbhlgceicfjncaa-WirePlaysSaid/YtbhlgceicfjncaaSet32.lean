/-
  Joined: CursorTextB, MsgSmall, OwnM.
-/
import Derived.Test.YtbhlgceicfjncaaSet31
import Derived.WalkSpells
import Derived.WalkLawsBesides
import Derived.Lib.Hide
import Derived.Deep.CutBlock
import Derived.Test.YtbhlgceicfjncaaSet03
import Derived.Test.YtbhlgceicfjncaaSet01
import Derived.Lib.FrozenHead
import Derived.Laws.IdiomStrings
namespace Go.Proofs.Ytbhlgceicfjncaa
open Go.RowKit
set_option linter.unnecessarySimpa false
set_option linter.unusedVariables false
set_option linter.unusedSimpArgs false
set_option maxRecDepth 100000

/-- What Bytes tells, and what it leaves. -/
def cBytes (s : ByteArray) (bad : Bool) (n : Int) : ByteArray × ByteArray × Bool :=
  if bad = true ∨ n < 0 ∨ (s.size : Int) < n then (ByteArray.empty, s, true) else (s.extract 0 n.toNat, s.extract n.toNat s.size, false)

set_option maxHeartbeats 1600000 in
theorem cur_bytes (g : Nat) (s : ByteArray) (bad : Bool) (n : Int) (w : World) (hs : s.size ≤ maxLen) (h : CurAt w g s bad) :
    Calls Try.prog 78 #[.pointer (some ⟨g, 0, none⟩), .int .i64 n] w fun e w' => e = .returned (.string (cBytes s bad n).1) ∧ CurAt w' g (cBytes s bad n).2.1 (cBytes s bad n).2.2 ∧ w.grownBy w' (some g) := by
  have HS := Lib.hid hs
  have hs' := hs
  unfold maxLen at hs'
  have H := Lib.hid h
  have c0 := h.c0
  have c1 := h.c1
  have f1 := h.f1
  clear h hs
  cases bad
  · by_cases h0 : n < 0
    · have hd := Lib.hid (show cBytes s false n = (ByteArray.empty, s, true) by simp [cBytes, h0])
      go_enter Try.func78, Try.ntmps78
      go_wp2_with fail
      go_ret
      rw [hd.out]
      exact ⟨rfl, H.out.set1 true, grownBy_setCell _ _ _ _⟩
    · obtain ⟨k, rfl⟩ := Int.eq_ofNat_of_zero_le (show 0 ≤ n by omega)
      by_cases h1 : s.size < k
      · have hd := Lib.hid (show cBytes s false k = (ByteArray.empty, s, true) by simp [cBytes, h1])
        go_enter Try.func78, Try.ntmps78
        go_wp2_with fail
        go_ret
        rw [hd.out]
        exact ⟨rfl, H.out.set1 true, grownBy_setCell _ _ _ _⟩
      · have hd := Lib.hid (show cBytes s false k = (s.extract 0 k, s.extract k s.size, false) by simp [cBytes, h1])
        have hk : k ≤ s.size := by omega
        go_enter Try.func78, Try.ntmps78
        go_wp2_with (go_at_call 96; refine (take_any g s false k HS.out hk _ H.out).mono ?_; rintro e w' ⟨rfl, hc, hg⟩)
        go_ret
        rw [hd.out]
        exact ⟨rfl, hc, hg⟩
  · have hd := Lib.hid (show cBytes s true n = (ByteArray.empty, s, true) by simp [cBytes])
    go_enter Try.func78, Try.ntmps78
    go_wp2_with fail
    go_ret
    rw [hd.out]
    exact ⟨rfl, H.out.set1 true, grownBy_setCell _ _ _ _⟩

/-- What Text tells, and what it leaves. -/
def cText (s : ByteArray) (bad : Bool) : ByteArray × ByteArray × Bool :=
  if bad = true ∨ tkK s.data.toList = 0 ∨ s.size - tkK s.data.toList < tkN s.data.toList then (ByteArray.empty, s, true)
  else ((s.extract (tkK s.data.toList) s.size).extract 0 (tkN s.data.toList), (s.extract (tkK s.data.toList) s.size).extract (tkN s.data.toList) (s.size - tkK s.data.toList), false)

set_option maxHeartbeats 1600000 in
theorem cur_text (g : Nat) (s : ByteArray) (bad : Bool) (w : World) (hs : s.size ≤ maxLen) (h : CurAt w g s bad) :
    Calls Try.prog 65 #[.pointer (some ⟨g, 0, none⟩)] w fun e w' => e = .returned (.string (cText s bad).1) ∧ CurAt w' g (cText s bad).2.1 (cText s bad).2.2 ∧ w.grownBy w' (some g) := by
  have HS := Lib.hid hs
  have hs' := hs
  unfold maxLen at hs'
  have H := Lib.hid h
  have c0 := h.c0
  have c1 := h.c1
  have f1 := h.f1
  clear h hs
  cases bad
  · have hk := tkK_le s.data.toList
    rw [list_size] at hk
    by_cases h0 : tkK s.data.toList = 0
    · have hb : (((tkK s.data.toList : Nat) : Int) == 0) = true := by simp [h0]
      have hd := Lib.hid (show cText s false = (ByteArray.empty, s, true) by simp [cText, h0])
      clear h0
      go_enter Try.func65, Try.ntmps65
      go_wp2_with (go_at_call 95; refine (leading_any s HS.out _).mono ?_; rintro e w' ⟨rfl, rfl⟩)
      go_ret
      rw [hd.out]
      exact ⟨rfl, H.out.set1 true, grownBy_setCell _ _ _ _⟩
    · have hb : (((tkK s.data.toList : Nat) : Int) == 0) = false := by simp; omega
      by_cases h1 : s.size - tkK s.data.toList < tkN s.data.toList
      · have hd := Lib.hid (show cText s false = (ByteArray.empty, s, true) by simp [cText, h1])
        clear h0
        go_enter Try.func65, Try.ntmps65
        go_wp2_with (go_at_call 95; refine (leading_any s HS.out _).mono ?_; rintro e w' ⟨rfl, rfl⟩)
        go_ret
        rw [hd.out]
        exact ⟨rfl, H.out.set1 true, grownBy_setCell _ _ _ _⟩
      · have hd := Lib.hid (show cText s false = ((s.extract (tkK s.data.toList) s.size).extract 0 (tkN s.data.toList), (s.extract (tkK s.data.toList) s.size).extract (tkN s.data.toList) (s.size - tkK s.data.toList), false) by simp [cText, h0, h1])
        have hn : tkN s.data.toList ≤ s.size - tkK s.data.toList := by omega
        obtain ⟨s2, e2⟩ : ∃ s2, s.extract (tkK s.data.toList) s.size = s2 := ⟨_, rfl⟩
        have hz : s2.size = s.size - tkK s.data.toList := by rw [← e2]; simp
        have HZ := Lib.hid hz
        have E2 := Lib.hid e2
        have hn2 : tkN s.data.toList ≤ s2.size := by omega
        have hs2 : s2.size ≤ maxLen := by have := HS.out; omega
        have HS2 := Lib.hid hs2
        clear h0 h1 e2 hz hs2
        go_enter Try.func65, Try.ntmps65
        go_wp2_with (go_at_call 95; refine (leading_any s HS.out _).mono ?_; rintro e w' ⟨rfl, rfl⟩)
        refine (take_any g s false (tkK s.data.toList) HS.out hk _ H.out).mono ?_
        rintro e w1 ⟨rfl, hc, hg⟩
        rw [E2.out] at hc
        have HC := Lib.hid hc
        clear hc c0 c1 f1
        go_wp2_with fail
        refine (take_any g s2 false (tkN s.data.toList) HS2.out hn2 _ HC.out).mono ?_
        rintro e w2 ⟨rfl, hc2, hg2⟩
        rw [HZ.out] at hc2
        have HC2 := Lib.hid hc2
        clear hc2
        go_wp2_with fail
        go_ret
        rw [hd.out, E2.out]
        exact ⟨rfl, HC2.out, grownBy_trans hg hg2⟩
  · have hd := Lib.hid (show cText s true = (ByteArray.empty, s, true) by simp [cText])
    go_enter Try.func65, Try.ntmps65
    go_wp2_with fail
    go_ret
    rw [hd.out]
    exact ⟨rfl, H.out, grownBy_refl _ _⟩

set_option maxHeartbeats 800000 in
theorem text_any (s : ByteArray) (hs : s.size ≤ 140737488355328) (w : World) :
    Calls Try.prog 52 #[.string s] w fun e w' => e = .returned (.string (⟨(ub s.size).toArray⟩ ++ s)) ∧ Below w.heap.size w w' := by
  have HU := Lib.hid (uint_any s.size (by omega) w)
  have hl := ub_len10 (n := s.size) (by omega)
  go_enter Try.func52, Try.ntmps52
  go_wp2_with (go_at_call 50; refine HU.out.mono ?_; rintro e w' ⟨rfl, hb⟩)
  go_ret
  exact ⟨rfl, hb⟩
end Go.Proofs.Ytbhlgceicfjncaa

namespace Go.Proofs.Ytbhlgceicfjncaa
open Go.RowKit
set_option linter.unusedVariables false
set_option linter.unnecessarySimpa false
set_option linter.unusedSimpArgs false
set_option maxRecDepth 100000

theorem isVersion_any (v : Int) (w : World) : Calls Try.prog 33 #[.int .i64 v] w fun e w' => e = .returned (.bool (verB v)) ∧ w = w' := by
  unfold verB
  by_cases h1 : 1 ≤ v
  · have e1 : decide (1 ≤ v) = true := by simpa using h1
    go_enter Try.func33, Try.ntmps33
    go_wp2
    go_ret
    exact ⟨by simp [e1], rfl⟩
  · have e1 : decide (1 ≤ v) = false := by simpa using h1
    go_enter Try.func33, Try.ntmps33
    go_wp2
    go_ret
    exact ⟨by simp [e1], rfl⟩

theorem isCritical_any (t : Nat) (w : World) : Calls Try.prog 48 #[.int .u64 t] w fun e w' => e = .returned (.bool (decide (t = 12))) ∧ w = w' := by
  by_cases h : t = 12
  · subst h
    go_enter Try.func48, Try.ntmps48
    go_wp2
    go_ret
    exact ⟨rfl, rfl⟩
  · have e1 : ((t : Int) == 12) = false := by rw [beq_eq_false_iff_ne]; omega
    rw [show decide (t = 12) = false by simpa using h]
    go_enter Try.func48, Try.ntmps48
    go_wp2
    go_ret
    exact ⟨rfl, rfl⟩

theorem headOf_any (t : Nat) (h1 : 1 ≤ t) (h2 : t ≤ 12) (w : World) : Calls Try.prog 51 #[.int .u64 t] w fun e w' => e = .returned (.int .u64 (headT t : Nat)) ∧ w = w' := by
  have hc := isCritical_any t
  have : t = 1 ∨ t = 2 ∨ t = 3 ∨ t = 4 ∨ t = 5 ∨ t = 6 ∨ t = 7 ∨ t = 8 ∨ t = 9 ∨ t = 10 ∨ t = 11 ∨ t = 12 := by omega
  clear h1 h2
  rcases this with rfl | rfl | rfl | rfl | rfl | rfl | rfl | rfl | rfl | rfl | rfl | rfl
  all_goals
    have HC := Lib.hid hc
    clear hc
    go_enter Try.func51, Try.ntmps51
    go_wp2_with (go_at_call 48; refine (HC.out _).mono ?_; rintro e w' ⟨rfl, rfl⟩)
    go_ret
    exact ⟨rfl, rfl⟩

theorem goneText_any (b : Bool) (w : World) : Calls Try.prog 99 #[.bool b] w fun e w' => e = .returned (.string ⟨(bl b).toArray⟩) ∧ w = w' := by
  cases b
  all_goals
    go_enter Try.func99, Try.ntmps99
    go_wp2
    go_ret
    exact ⟨rfl, rfl⟩

set_option maxHeartbeats 1000000 in
theorem since_any (t : Nat) (w : World) : Calls Try.prog 77 #[.int .u64 t] w fun e w' => e = .returned (.int .i64 (sinceN t : Nat)) ∧ w = w' := by
  have : t = 1 ∨ t = 2 ∨ t = 3 ∨ t = 4 ∨ t = 5 ∨ t = 6 ∨ t = 7 ∨ t = 8 ∨ t = 9 ∨ t = 10 ∨ t = 11 ∨ t = 12 ∨ (t = 0 ∨ 12 < t) := by omega
  rcases this with rfl | rfl | rfl | rfl | rfl | rfl | rfl | rfl | rfl | rfl | rfl | rfl | h
  case inr.inr.inr.inr.inr.inr.inr.inr.inr.inr.inr.inr =>
    rw [show sinceN t = 4 by unfold sinceN; rw [if_neg (by omega), if_neg (by omega), if_neg (by omega)]]
    have e1 : ((t : Int) == 1) = false := by rw [beq_eq_false_iff_ne]; omega
    have e2 : ((t : Int) == 2) = false := by rw [beq_eq_false_iff_ne]; omega
    have e3 : ((t : Int) == 3) = false := by rw [beq_eq_false_iff_ne]; omega
    have e4 : ((t : Int) == 4) = false := by rw [beq_eq_false_iff_ne]; omega
    have e5 : ((t : Int) == 5) = false := by rw [beq_eq_false_iff_ne]; omega
    have e6 : ((t : Int) == 6) = false := by rw [beq_eq_false_iff_ne]; omega
    have e7 : ((t : Int) == 7) = false := by rw [beq_eq_false_iff_ne]; omega
    have e8 : ((t : Int) == 8) = false := by rw [beq_eq_false_iff_ne]; omega
    have e9 : ((t : Int) == 9) = false := by rw [beq_eq_false_iff_ne]; omega
    have e10 : ((t : Int) == 10) = false := by rw [beq_eq_false_iff_ne]; omega
    have e11 : ((t : Int) == 11) = false := by rw [beq_eq_false_iff_ne]; omega
    have e12 : ((t : Int) == 12) = false := by rw [beq_eq_false_iff_ne]; omega
    clear h
    go_enter Try.func77, Try.ntmps77
    go_wp2
    go_ret
    exact ⟨rfl, rfl⟩
  all_goals
    go_enter Try.func77, Try.ntmps77
    go_wp2
    go_ret
    exact ⟨rfl, rfl⟩

theorem has_any (v : Int) (t : Nat) (w : World) : Calls Try.prog 49 #[.int .i64 v, .int .u64 t] w fun e w' => e = .returned (.bool (hasB v t)) ∧ w = w' := by
  have HS := Lib.hid (since_any t)
  go_enter Try.func49, Try.ntmps49
  go_wp2_with (go_at_call 77; refine (HS.out _).mono ?_; rintro e w' ⟨rfl, rfl⟩)
  go_ret
  exact ⟨rfl, rfl⟩

theorem ver_noM {v : Int} (h : lastOfM v = 0) : verB v = false := by
  cases hv : verB v
  · rfl
  · exact absurd h (verB_is.1 hv)
theorem negOK : NegOK := fun a b w ha hb => by
  unfold negB
  by_cases h1 : lastOfM a = 0
  · rw [if_pos (.inl h1)]
    have HA := isVersion_any a
    rw [ver_noM h1] at HA
    have HA := Lib.hid HA
    clear h1
    go_enter Try.func20, Try.ntmps20
    go_wp2_with (go_at_call 33; refine (HA.out _).mono ?_; rintro e w' ⟨rfl, rfl⟩)
    go_ret
    exact ⟨rfl, Below.refl _ _⟩
  · have HA := isVersion_any a
    rw [verB_is.2 h1] at HA
    have HA := Lib.hid HA
    by_cases h2 : lastOfM b = 0
    · rw [if_pos (.inr h2)]
      have HB := isVersion_any b
      rw [ver_noM h2] at HB
      have HB := Lib.hid HB
      clear h1 h2
      go_enter Try.func20, Try.ntmps20
      go_wp2_with fail
      refine (HA.out _).mono ?_
      rintro e w' ⟨rfl, rfl⟩
      go_wp2_with fail
      refine (HB.out _).mono ?_
      rintro e w' ⟨rfl, rfl⟩
      go_wp2_with fail
      go_ret
      exact ⟨rfl, Below.refl _ _⟩
    · rw [if_neg (by rintro (h | h); exact h1 h; exact h2 h)]
      have HB := isVersion_any b
      rw [verB_is.2 h2] at HB
      have HB := Lib.hid HB
      clear h1 h2
      go_enter Try.func20, Try.ntmps20
      go_wp2_with fail
      refine (HA.out _).mono ?_
      rintro e w' ⟨rfl, rfl⟩
      go_wp2_with fail
      refine (HB.out _).mono ?_
      rintro e w' ⟨rfl, rfl⟩
      go_wp2_with fail
      all_goals
        go_ret
        exact ⟨ret_int (by omega), Below.refl _ _⟩
end Go.Proofs.Ytbhlgceicfjncaa

namespace Go.Proofs.Ytbhlgceicfjncaa
open Go.RowKit
set_option linter.unusedVariables false
set_option linter.unnecessarySimpa false
set_option linter.unusedSimpArgs false
set_option maxRecDepth 100000

/-- The slice value v owns the bytes xs; what is marked of its row lies behind its end. -/
def OwnsM (w : World) (base : Nat) (e : TypeId) (v : Value) (n : Nat) (xs : List Value) : Prop :=
  xs.length = n ∧
  ((v = .slice none 0 0 ∧ n = 0) ∨
   ∃ g cap cur fz, v = .slice (some ⟨g, 0, none⟩) n cap ∧ base ≤ g ∧ w.heap[g]? = some (.cells cur e fz) ∧ (fz = (0, 0) ∨ cur.size ≤ fz.1) ∧ n ≤ cap ∧ cap ≤ maxLen ∧ cur.size = cap ∧ cur.toList.take n = xs)
section
variable {w : World} {base : Nat} {e : TypeId} {v : Value} {n : Nat} {xs : List Value}
theorem OwnsM.of (h : w.ownsRow base e 1 v n xs) : OwnsM w base e v n xs := by
  refine ⟨by simpa using h.1, ?_⟩
  rcases h.2 with hn | ⟨g, cap, cur, hv, hb, hg, h1, h2, h3, h4⟩
  · exact .inl hn
  · exact .inr ⟨g, cap, cur, (0, 0), hv, hb, hg, .inl rfl, h1, h2, by simpa using h3, by simpa using h4⟩
theorem OwnsM.lt (h : OwnsM w base e v n xs) : ∀ k, v.ownBlock = some k → base ≤ k ∧ k < w.heap.size := by
  intro k hk
  rcases h.2 with ⟨rfl, _⟩ | ⟨g, cap, cur, fz, rfl, hb, hg, _⟩
  · simp [Value.ownBlock] at hk
  · simp [Value.ownBlock] at hk
    subst hk
    exact ⟨hb, (Array.getElem?_eq_some_iff.1 hg).1⟩
theorem OwnsM.below {w' : World} (h : OwnsM w base e v n xs) (hb : Below w.heap.size w w') : OwnsM w' base e v n xs := by
  refine ⟨h.1, ?_⟩
  rcases h.2 with hn | ⟨g, cap, cur, fz, rfl, hb0, hgg, rest⟩
  · exact .inl hn
  · exact .inr ⟨g, cap, cur, fz, rfl, hb0, (hb.block g (Array.getElem?_eq_some_iff.1 hgg).1).trans hgg, rest⟩
theorem OwnsM.grown {w' : World} {row : Option Nat} (h : OwnsM w base e v n xs) (hg : w.grownBy w' row) (hne : v.ownBlock = none ∨ v.ownBlock ≠ row) : OwnsM w' base e v n xs := by
  refine ⟨h.1, ?_⟩
  rcases h.2 with hn | ⟨g, cap, cur, fz, rfl, hb, hgg, rest⟩
  · exact .inl hn
  · refine .inr ⟨g, cap, cur, fz, rfl, hb, ?_, rest⟩
    rw [hg.block g (Array.getElem?_eq_some_iff.1 hgg).1 (by simpa [Value.ownBlock] using hne)]
    exact hgg
theorem OwnsM.lower {b : Nat} (h : OwnsM w base e v n xs) (hb : b ≤ base) : OwnsM w b e v n xs := by
  refine ⟨h.1, ?_⟩
  rcases h.2 with hn | ⟨g, cap, cur, fz, rfl, hb0, rest⟩
  · exact .inl hn
  · exact .inr ⟨g, cap, cur, fz, rfl, Nat.le_trans hb hb0, rest⟩
theorem OwnsM.form (h : OwnsM w base e v n xs) : ∃ a cap, v = .slice a n cap := by
  rcases h.2 with ⟨h1, rfl⟩ | ⟨g, cap, cur, fz, rfl, _⟩
  · exact ⟨none, 0, h1⟩
  · exact ⟨_, cap, rfl⟩
theorem OwnsM.cells (h : OwnsM w base e v n xs) {g : Nat} (hg : v.ownBlock = some g) : ∀ j u, xs[j]? = some u → w.cell? ((⟨g, 0, none⟩ : Addr).add j) = some u := by
  intro j u hu
  rcases h.2 with ⟨rfl, _⟩ | ⟨g', cap, cur, fz, rfl, _, hgg, _, _, _, _, htake⟩
  · simp [Value.ownBlock] at hg
  · simp [Value.ownBlock] at hg
    subst hg
    have hadd : (⟨g', 0, none⟩ : Addr).add j = ⟨g', j, none⟩ := by unfold Addr.add; split <;> simp_all
    rw [hadd, cell_of_row w g' j cur e fz hgg]
    rw [← htake, List.getElem?_take] at hu
    split at hu
    · simpa using hu
    · cases hu
end

theorem run_storeCells_atM (P : Program) (g o : Nat) (t : TypeId) (fz : Nat × Nat) : ∀ (vs : List Value) (i : Nat) (cur : Array Value) (w : World), w.heap[g]? = some (.cells cur t fz) → (fz = (0, 0) ∨ cur.size ≤ fz.1) → o + i + vs.length ≤ cur.size → (∀ v ∈ vs, v.oneCell' = true) →
    (storeCells ⟨g, o, none⟩ vs i).run P w = .ok () (w.setRow g (cur.toList.take (o + i) ++ vs ++ cur.toList.drop (o + i + vs.length)).toArray)
  | [], i, cur, w, hg, _, _, _ => by
    simp only [storeCells, List.append_nil, List.length_nil, Nat.add_zero, List.take_append_drop, Array.toArray_toList]
    rw [setRow_self w g cur t fz hg]
    rfl
  | v :: rest, i, cur, w, hg, hfz, hl, h1 => by
    have hi : o + i < cur.size := by simp at hl; omega
    have hadd : (⟨g, o, none⟩ : Addr).add i = ⟨g, o + i, none⟩ := by unfold Addr.add; split <;> simp_all
    have hcell : w.cell? ⟨g, o + i, none⟩ = some cur[o + i] := by simp [World.cell?, hg, hi]
    have hfro : w.frozen? ⟨g, o + i, none⟩ = false := by
      obtain ⟨lo, hi'⟩ := fz
      simp only [World.frozen?, hg, Bool.and_eq_false_iff, decide_eq_false_iff_not]
      rcases hfz with hz | hz
      · injection hz with z1 z2
        subst z1 z2
        right; omega
      · left
        simp only at hz
        omega
    have hst : (store ((⟨g, o, none⟩ : Addr).add i) v).run P w = .ok () (w.setRow g (cur.setIfInBounds (o + i) v)) := by
      rw [hadd, run_store P w _ v _ (h1 v (by simp)), hcell]
      simp [hfro, setCell_eq_setRow w g (o + i) cur t fz v hg]
    have ih := run_storeCells_atM P g o t fz rest (i + 1) (cur.setIfInBounds (o + i) v) (w.setRow g (cur.setIfInBounds (o + i) v)) (setRow_heap w g cur _ t _ hg) (by simpa using hfz) (by simp at hl ⊢; omega) (fun x hx => h1 x (by simp [hx]))
    simp only [storeCells, Sem.run_bind, hst, Result.andThen_ok, ih, setRow_setRow]
    congr 3
    have e := list_seg_step cur.toList (o + i) v rest (by simp at hl ⊢; omega)
    simpa [Array.toList_setIfInBounds, Nat.add_assoc] using e

theorem run_append_own_stringM {P : Program} (w : World) (base : Nat) (t u ty e : TypeId) (i : TypeInfo) (ht : P.underlying t = some (.slice e)) (hu : P.underlying u = some .string) (hi : P.info? e = some i) (hz : i.zero = some (.int .u8 0))
    (hsize : i.size = 1) (hby : i.bytes = 1) (v : Value) (n : Nat) (xs : List Value) (hown : OwnsM w base e v n xs) (s : ByteArray)
    (h63 : n + s.size ≤ maxLen) (hbytes : n + s.size ≤ 140737488355328) (hbase : base ≤ w.heap.size) :
    ∃ v' w', (Builtin.append_ #[t, u] ty #[v, .string s]).run P w = .ok v' w' ∧ OwnsM w' base e v' (n + s.size) (xs ++ Lib.strCells s) ∧ w.grownBy w' v.ownBlock ∧ (∀ g, g < w.heap.size → v.ownBlock ≠ some g → v'.ownBlock ≠ some g) := by
  rcases hown.2 with ⟨rfl, rfl⟩ | ⟨g, cap, cur, fz, rfl, hbg, hg, hfz, hnc, hcm, hcs, htake⟩
  · obtain ⟨v', w', h1, h2, h3, h4⟩ := Lib.run_append_own_string (P := P) w w.heap.size t u ty e i ht hu hi hz hsize hby (.slice none 0 0) 0 xs ⟨by simpa using hown.1, .inl ⟨rfl, rfl⟩⟩ s h63 hbytes (Nat.le_refl _)
    exact ⟨v', w', h1, (OwnsM.of h2).lower hbase, h3, fun g hg _ e => by have := ((OwnsM.of h2).lt g e).1; omega⟩
  · have hsmall : n + s.size ≤ 9223372036854775807 := by simp only [maxLen] at h63; omega
    have hxl : xs.length = n := hown.1
    have hlen : (xs ++ Lib.strCells s).length = n + s.size := by rw [List.length_append, hxl, Lib.strCells_length]
    by_cases hroom : n + s.size ≤ cap
    · have hf := Lib.run_firstCells_string (P := P) w 1 s
      have hst := run_storeCells_atM P g n e fz (Lib.strCells s) 0 cur w hg hfz (by simpa [Lib.strCells_length] using (by omega : n + s.size ≤ cur.size)) (Lib.strCells_oneCell s)
      simp only [Nat.add_zero, Lib.strCells_length] at hst
      have hr : (Builtin.append_ #[t, u] ty #[.slice (some ⟨g, 0, none⟩) n cap, .string s]).run P w =
          .ok (.slice (some ⟨g, 0, none⟩) (n + s.size) cap) (w.setRow g (cur.toList.take n ++ Lib.strCells s ++ cur.toList.drop (n + s.size)).toArray) := by
        simp [Builtin.append_, run_underlying ht, run_underlying hu, sizeOf, typeInfo, hi, hsize, Builtin.lenOf, hroom, hf, Addr.add_lit, hst]
      refine ⟨_, _, hr, ⟨hlen, .inr ⟨g, cap, _, fz, rfl, hbg, setRow_heap w g cur _ e _ hg, ?_, hroom, hcm, ?_, ?_⟩⟩, ⟨rfl, rfl, rfl, by simp, fun k _ hk => setRow_other w g k _ (fun e => hk (by simp [Value.ownBlock, e]))⟩, fun _ _ h => h⟩
      · rcases hfz with hz | hz
        · exact .inl hz
        · right
          simp only [List.size_toArray, List.length_append, List.length_take, List.length_drop, Array.length_toList, Lib.strCells_length]
          omega
      · simp only [List.size_toArray, List.length_append, List.length_take, List.length_drop, Array.length_toList, Lib.strCells_length]
        omega
      · rw [htake, ← hlen]
        exact List.take_left
    · have holds : ∀ j u, xs[j]? = some u → w.cell? ((⟨g, 0, none⟩ : Addr).add j) = some u := hown.cells (g := g) rfl
      have hr := Lib.run_append_grow_string (P := P) w t u ty e i (.int .u8 0) ht hu hi hz ⟨g, 0, none⟩ n cap xs (by rw [hsize]; simpa using hxl) holds s (by omega) (by omega) (by rw [hby]; exact growslice_fits (by omega) (by omega))
      have hge := grownCap_ge w (n + s.size) cap e
      have hcm2 : grownCap w (n + s.size) cap e ≤ maxLen := grownCap_le_maxLen w (n + s.size) cap e h63
      refine ⟨_, _, hr, ⟨hlen, .inr ⟨w.heap.size, _, _, (0, 0), rfl, hbase, heap_alloc_new w.drew _, .inl rfl, hge, hcm2, ?_, ?_⟩⟩, ⟨rfl, rfl, rfl, by simp, fun k hk _ => Below.heap_alloc w.drew _ k hk⟩, fun k hk _ e => by simp [Value.ownBlock] at e; omega⟩
      · have hz1 : (Value.int IntKind.u8 0).cells.size = 1 := rfl
        simp only [Array.size_append, List.size_toArray, size_zeroCells, hz1, hxl, Lib.strCells_length]
        omega
      · simp only [Array.toList_append, List.append_assoc]
        rw [← List.append_assoc, ← hlen]
        exact List.take_left

/-- 'append(b, s...)', for the walk. -/
theorem wpList_append_stringM {P : Program} {w : World} {ops : Array Oper} {rest : List Oper} {o : Oper} {a : Act} {Q : Exit → Act → World → Prop} (hgd : o.guard = none) (sl x : Operand) (t u : TypeId)
    (ho : o.op = .call { callee := .builtin .append, args := #[sl, x], argTypes := #[t, u] })
    (base : Nat) (e : TypeId) (i : TypeInfo) (ht : P.underlying t = some (.slice e)) (hu : P.underlying u = some .string) (hi : P.info? e = some i) (hz : i.zero = some (.int .u8 0))
    (hsize : i.size = 1) (hby : i.bytes = 1)
    (v : Value) (n : Nat) (xs : List Value) (hs : a.eval sl = v) (hown : OwnsM w base e v n xs) (s : ByteArray) (hx : a.eval x = .string s)
    (h63 : n + s.size ≤ maxLen) (hbytes : n + s.size ≤ 140737488355328) (hbase : base ≤ w.heap.size)
    (h : ∀ v' w', OwnsM w' base e v' (n + s.size) (xs ++ Lib.strCells s) → w.grownBy w' v.ownBlock → (∀ g, g < w.heap.size → v.ownBlock ≠ some g → v'.ownBlock ≠ some g) → wpList P ops Q rest (a.put o.dst v') w') : wpList P ops Q (o :: rest) a w := by
  refine wpList_plain hgd fun K hK => ?_
  obtain ⟨v', w', hr, h2, h3, h4⟩ := run_append_own_stringM (P := P) w base t u o.type e i ht hu hi hz hsize hby v n xs hown s h63 hbytes hbase
  unfold Oper.wp execOp
  simp only [ho, resolve, invoke, builtin, Sem.run_bind, Sem.run_pure, Result.andThen_ok, List.map_toArray, List.map_cons, List.map_nil, hs, hx, hr]
  exact hK _ _ (h v' w' h2 h3 h4)

/-- '[]byte(s)', for the walk: a row of the call's own. -/
theorem wpList_bytes_of {P : Program} {w : World} {ops : Array Oper} {rest : List Oper} {o : Oper} {a : Act} {Q : Exit → Act → World → Prop} (hgd : o.guard = none) (x : Operand) (src dst e : TypeId)
    (ho : o.op = .convert src dst x) (hs : P.underlying src = some .string) (hd : P.underlying dst = some (.slice e)) (he : P.underlying e = some (.int .u8)) (s : ByteArray) (hx : a.eval x = .string s) (hsz : s.size ≤ 140737488355328)
    (base : Nat) (hbase : base ≤ w.heap.size)
    (h : ∀ v' w', OwnsM w' base e v' s.size (Lib.strCells s) → Below w.heap.size w w' → wpList P ops Q rest (a.put o.dst v') w') : wpList P ops Q (o :: rest) a w := by
  refine wpList_plain hgd fun K hK => ?_
  have hr := run_bytes_of_string (P := P) w src dst e s hs hd he
  unfold Oper.wp execOp
  simp only [ho, Sem.run_bind, Sem.run_pure, Result.andThen_ok, hx, hr]
  refine hK _ _ (h _ _ ?_ ?_)
  · have hge := grownCap_ge w s.size 0 e
    have hcm : grownCap w s.size 0 e ≤ maxLen := grownCap_le_maxLen w s.size 0 e (by unfold maxLen; omega)
    refine ⟨Lib.strCells_length s, .inr ⟨w.heap.size, _, _, _, rfl, hbase, heap_alloc_new w.drew _, .inr (Nat.le_refl _), hge, hcm, ?_, ?_⟩⟩
    · unfold bytesRow
      rw [Array.size_append, Array.size_map, Array.size_replicate]
      have : s.data.size = s.size := rfl
      omega
    · unfold bytesRow
      rw [Array.toList_append]
      have e2 : (s.data.map (fun b => Value.int IntKind.u8 b.toNat)).toList = Lib.strCells s := by
        simp [Lib.strCells]
      rw [e2, ← Lib.strCells_length s]
      exact List.take_left
  · exact (Below.refl _ _).drew.alloc (Nat.le_refl _) _

/-- 'string(b)' of such a row. -/
theorem convert_rowM {w : World} {base n : Nat} {v : Value} {l : List UInt8} (h : OwnsM w base 5 v n (Lib.byteCells l)) : (convert 91 9 v).run Try.prog w = .ok (.string ⟨l.toArray⟩) w := by
  have hn : l.length = n := by have := h.1; rwa [Lib.byteCells_length] at this
  rcases h.2 with ⟨rfl, h0⟩ | ⟨g, cap, cur, fz, rfl, _, _⟩
  · have : w.ownsRow base 5 1 (.slice none 0 0) n (Lib.byteCells l) := ⟨by rw [Nat.mul_one]; exact h.1, .inl ⟨rfl, h0⟩⟩
    exact convert_row this
  · have hc := h.cells (g := g) rfl
    subst hn
    exact run_convert_bytes_back w _ _ _ ⟨g, 0, none⟩ cap l Try.underlying91 Try.underlying5 Try.underlying9 (fun j hj => hc j _ (by simp [Lib.byteCells, List.getElem?_eq_getElem hj]))
end Go.Proofs.Ytbhlgceicfjncaa
