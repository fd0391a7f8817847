/-
  The program's oracle: a row of two cells, the last time and the limit; New, Next, Want, Noted, Last as is asked of it.
-/
import Derived.Test.YtbekgmcchecnkaaOraContracts
import Derived.Test.YtbekgmcchecnkaaClass
import Derived.Laws.Rows
import Derived.BigQuiet
import Derived.RegionTactic
namespace Go.Proofs.Ytbekgmcchecnkaa
open Go.RowKit
set_option linter.unusedVariables false
set_option linter.unnecessarySimpa false
set_option linter.unusedSimpArgs false
set_option maxRecDepth 100000

/-- The program's oracle in memory. -/
def OpAt (w : World) (g a b : Nat) : Prop := w.heap[g]? = some (.cells #[.int .u64 a, .int .u64 b] 41 (0, 0))
theorem OpAt.cells {w : World} {g a b : Nat} (h : OpAt w g a b) : w.cell? ⟨g, 0, none⟩ = some (.int .u64 a) ∧ w.cell? ⟨g, 1, none⟩ = some (.int .u64 b) ∧ ∀ j, w.frozen? ⟨g, j, none⟩ = false := by
  refine ⟨?_, ?_, fun j => frozen_of_row _ _ _ _ _ h⟩
  · rw [cell_of_row _ _ _ _ _ _ h]; rfl
  · rw [cell_of_row _ _ _ _ _ _ h]; rfl
theorem OpAt.lt {w : World} {g a b : Nat} (h : OpAt w g a b) : g < w.heap.size := (Array.getElem?_eq_some_iff.1 h).1
/-- One cell of a row is written. -/
theorem op_moves (w : World) (g i : Nat) (v : Value) : Moves (fun k => k = g) (fun k => k = g) w (w.setCell ⟨g, i, none⟩ v) :=
  ⟨rfl, rfl, rfl, by simp [World.setCell], fun k hk hO => Below.heap_setCell _ _ _ _ (fun e => hO e), fun k hk => .inl hk⟩

theorem OpAt.put0 {w : World} {g a b : Nat} (h : OpAt w g a b) (x : Nat) : OpAt (w.setCell ⟨g, 0, none⟩ (.int .u64 (x : Int))) g x b := by
  unfold OpAt
  rw [heap_setCell_same _ _ 0 _ _ _ h]
  rfl
theorem OpAt.put1 {w : World} {g a b : Nat} (h : OpAt w g a b) (x : Nat) : OpAt (w.setCell ⟨g, 1, none⟩ (.int .u64 (x : Int))) g a x := by
  unfold OpAt
  rw [heap_setCell_same _ _ 1 _ _ _ h]
  rfl

theorem op_new (n : Nat) (w : World) : Calls Try.prog 6 #[.int .u64 n] w fun e w' => e = .returned (.pointer (some ⟨w.heap.size, 0, none⟩)) ∧ OpAt w' w.heap.size n n ∧ Below w.heap.size w w' := by
  go_enter Try.func6, Try.ntmps6
  go_wp2_with fail
  go_ret
  exact ⟨rfl, heap_alloc_new w _, (Below.refl _ _).alloc (Nat.le_refl _) _⟩
theorem op_last {w : World} {g a b : Nat} (h : OpAt w g a b) : Calls Try.prog 11 #[.pointer (some ⟨g, 0, none⟩)] w fun e w' => e = .returned (.int .u64 a) ∧ w = w' := by
  obtain ⟨c0, c1, cf⟩ := h.cells
  clear h
  go_enter Try.func11, Try.ntmps11
  go_wp2_with fail
  go_ret
  exact ⟨rfl, rfl⟩
theorem op_noted {w : World} {g a b : Nat} (h : OpAt w g a b) (n : Nat) : Calls Try.prog 9 #[.pointer (some ⟨g, 0, none⟩), .int .u64 n] w fun e w' => e = .returned (.tuple #[]) ∧ w' = w.setCell ⟨g, 1, none⟩ (.int .u64 ((max b n : Nat) : Int)) := by
  obtain ⟨c0, c1, cf⟩ := h.cells
  clear h
  go_enter Try.func9, Try.ntmps9
  go_wp2_with fail
  all_goals
    go_end0
    refine ⟨rfl, ?_⟩
    congr 2
    omega
theorem op_next_no {w : World} {g a : Nat} (h : OpAt w g a a) : Calls Try.prog 7 #[.pointer (some ⟨g, 0, none⟩)] w fun e w' => e = .returned (.tuple #[.int .u64 0, .bool false]) ∧ Below w.heap.size w w' := by
  obtain ⟨c0, c1, cf⟩ := h.cells
  clear h
  go_enter Try.func7, Try.ntmps7
  go_wp2_with fail
  go_quiet (fail)
  revert nq; intro n1
  go_wp2_with fail
  go_ret2
  exact ⟨rfl, below_drewN (Below.refl _ _) _⟩
theorem op_next_yes {w : World} {g a b : Nat} (h : OpAt w g a b) (hab : a < b) (hb : b ≤ oMax) : Calls Try.prog 7 #[.pointer (some ⟨g, 0, none⟩)] w fun e w' => e = .returned (.tuple #[.int .u64 ((a + 1 : Nat) : Int), .bool true]) ∧ OpAt w' g (a + 1) b ∧ Moves (fun k => k = g) (fun k => k = g) w w' := by
  obtain ⟨c0, c1, cf⟩ := h.cells
  have H := Lib.hid h
  have hne : ((a : Int) == (b : Int)) = false := by rw [beq_eq_false_iff_ne]; omega
  unfold oMax at hb
  have hw1 : ((a : Int) + 1) % 18446744073709551616 = ((a + 1 : Nat) : Int) := by omega
  have hw2 : IntKind.u64.wrap ((a : Int) + 1) = ((a + 1 : Nat) : Int) := by simp [IntKind.wrap, IntKind.bits, IntKind.signed]; omega
  clear h hab hb
  go_enter Try.func7, Try.ntmps7
  go_wp2_with fail
  go_quiet (fail)
  revert nq; intro n1
  go_wp2_with fail
  go_ret2
  have hd : Below w.heap.size w (w.drewN n1) := below_drewN (Below.refl _ _) _
  have H1 : OpAt (w.drewN n1) g a b := (hd.block g H.out.lt).trans H.out
  exact ⟨rfl, H1.put0 (a + 1), (Moves.of_below hd).trans (op_moves _ g 0 _)⟩

theorem op_want_no {w : World} {g a b : Nat} (h : OpAt w g a b) (hab : a ≠ b ∨ b = oMax) (hb : b ≤ oMax) : Calls Try.prog 8 #[.pointer (some ⟨g, 0, none⟩)] w fun e w' => e = .returned (.tuple #[.int .u64 0, .bool false]) ∧ Below w.heap.size w w' := by
  obtain ⟨c0, c1, cf⟩ := h.cells
  clear h
  unfold oMax at hb hab
  have hw1 : (18446744073709551615 - (b : Int)) % 18446744073709551616 = ((18446744073709551615 - b : Nat) : Int) := by omega
  have hw2 : IntKind.u64.wrap (18446744073709551615 - (b : Int)) = ((18446744073709551615 - b : Nat) : Int) := by simp [IntKind.wrap, IntKind.bits, IntKind.signed]; omega
  obtain ⟨z, hz⟩ : ∃ z, z = 18446744073709551615 - b := ⟨_, rfl⟩
  rw [← hz] at hw1 hw2
  by_cases hne : a = b
  · subst hne
    have e0 : z = 0 := by omega
    subst e0
    clear hz hab hb
    go_enter Try.func8, Try.ntmps8
    go_wp2_with fail
    go_quiet (fail)
    revert nq; intro n1
    go_wp2_with fail
    go_ret2
    exact ⟨rfl, below_drewN (Below.refl _ _) _⟩
  · have e1 : ((a : Int) != (b : Int)) = true := by rw [bne_iff_ne]; omega
    clear hz hab hb hne
    go_enter Try.func8, Try.ntmps8
    go_wp2_with fail
    go_quiet (fail)
    revert nq; intro n1
    go_wp2_with fail
    go_ret2
    exact ⟨rfl, below_drewN (Below.refl _ _) _⟩
theorem op_want_yes {w : World} {g a : Nat} (h : OpAt w g a a) (hb : a < oMax) : Calls Try.prog 8 #[.pointer (some ⟨g, 0, none⟩)] w fun e w' => e = .returned (.tuple #[.int .u64 ((min (a + 100) oMax : Nat) : Int), .bool true]) ∧ Below w.heap.size w w' := by
  obtain ⟨c0, c1, cf⟩ := h.cells
  clear h
  unfold oMax at hb ⊢
  have hw1 : (18446744073709551615 - (a : Int)) % 18446744073709551616 = ((18446744073709551615 - a : Nat) : Int) := by omega
  have hw2 : IntKind.u64.wrap (18446744073709551615 - (a : Int)) = ((18446744073709551615 - a : Nat) : Int) := by simp [IntKind.wrap, IntKind.bits, IntKind.signed]; omega
  obtain ⟨m, hm⟩ : ∃ m, m = min (a + 100) 18446744073709551615 := ⟨_, rfl⟩
  by_cases hc : 100 ≤ 18446744073709551615 - a
  · have hw3 : ((a : Int) + 100) % 18446744073709551616 = (m : Int) := by omega
    have hw4 : IntKind.u64.wrap ((a : Int) + 100) = (m : Int) := by simp [IntKind.wrap, IntKind.bits, IntKind.signed]; omega
    obtain ⟨z, hz⟩ : ∃ z, z = 18446744073709551615 - a := ⟨_, rfl⟩
    rw [← hz] at hw1 hw2 hc
    have ez : ((z : Int) == 0) = false := by rw [beq_eq_false_iff_ne]; omega
    have en : ¬ z < 100 := by omega
    rw [← hm]
    clear hz hb hm hc
    go_enter Try.func8, Try.ntmps8
    go_wp2_with fail
    go_quiet (fail)
    revert nq; intro n1
    go_wp2_with fail
    all_goals
      go_ret2
      exact ⟨rfl, below_drewN (Below.refl _ _) _⟩
  · have hw3 : ((a : Int) + ((18446744073709551615 - a : Nat) : Int)) % 18446744073709551616 = (m : Int) := by omega
    have hw4 : IntKind.u64.wrap ((a : Int) + ((18446744073709551615 - a : Nat) : Int)) = (m : Int) := by simp [IntKind.wrap, IntKind.bits, IntKind.signed]; omega
    obtain ⟨z, hz⟩ : ∃ z, z = 18446744073709551615 - a := ⟨_, rfl⟩
    rw [← hz] at hw1 hw2 hw3 hw4 hc
    have ez : ((z : Int) == 0) = false := by rw [beq_eq_false_iff_ne]; omega
    have en : z < 100 := by omega
    rw [← hm]
    clear hz hb hm hc
    go_enter Try.func8, Try.ntmps8
    go_wp2_with fail
    go_quiet (fail)
    revert nq; intro n1
    go_wp2_with fail
    all_goals
      go_ret2
      exact ⟨rfl, below_drewN (Below.refl _ _) _⟩

/-- The program's oracle, as is asked. -/
noncomputable def ora : OraC where
  At w r a b O := ∃ g, r = ⟨g, 0, none⟩ ∧ OpAt w g a b ∧ a ≤ b ∧ b ≤ oMax ∧ O = fun k => k = g
  lt := by
    rintro w r a b O ⟨g, rfl, h, _, _, rfl⟩ k hk
    subst hk
    exact h.lt
  good := by
    rintro w r a b O ⟨g, rfl, h, h1, h2, rfl⟩
    exact ⟨h1, h2⟩
  stay := by
    rintro w w' r a b O ⟨g, rfl, h, h1, h2, rfl⟩ hs
    exact ⟨g, rfl, (hs g rfl).trans h, h1, h2, rfl⟩
  new n w hn := (op_new n w).mono fun e w' ⟨he, h, hb⟩ => ⟨_, fun k => k = w.heap.size, he, ⟨w.heap.size, rfl, h, Nat.le_refl _, hn, rfl⟩,
    ⟨hb.os, hb.tape, hb.output, hb.size, fun k hk _ => hb.block k hk, fun k hk => .inr (Nat.le_of_eq hk.symm)⟩⟩
  next := by
    rintro w r a b O ⟨g, rfl, h, h1, h2, rfl⟩
    by_cases e : a = b
    · subst e
      refine (op_next_no h).mono fun e w' ⟨he, hb⟩ => ⟨fun k => k = g, ?_, ⟨g, rfl, ?_, ?_, h2, rfl⟩, Moves.of_below hb⟩
      · simp [oNextV, oNextR, he]
      · simp only [oNextA, if_true]
        exact (hb.block g h.lt).trans h
      · simp [oNextA]
    · refine (op_next_yes h (by omega) h2).mono fun e' w' ⟨he, hat, hm⟩ => ⟨fun k => k = g, ?_, ⟨g, rfl, ?_, ?_, h2, rfl⟩, hm⟩
      · simp [oNextV, oNextR, he, e]
      · simp only [oNextA, e, if_false]
        exact hat
      · simp only [oNextA, e, if_false]
        omega
  want := by
    rintro w r a b O ⟨g, rfl, h, h1, h2, rfl⟩
    by_cases e : a = b ∧ b < oMax
    · obtain ⟨rfl, hlt⟩ := e
      refine (op_want_yes h hlt).mono fun e w' ⟨he, hb⟩ => ⟨fun k => k = g, ?_, ⟨g, rfl, (hb.block g h.lt).trans h, h1, h2, rfl⟩, Moves.of_below hb⟩
      simp only [oWantV, oWantR, hlt, and_self, if_true, decide_true]
      exact he
    · refine (op_want_no h (by omega) h2).mono fun e' w' ⟨he, hb⟩ => ⟨fun k => k = g, ?_, ⟨g, rfl, (hb.block g h.lt).trans h, h1, h2, rfl⟩, Moves.of_below hb⟩
      simp only [oWantV, oWantR, e, if_false, decide_false]
      exact he
  noted := by
    rintro w r a b O ⟨g, rfl, h, h1, h2, rfl⟩ n hn
    refine (op_noted h n).mono fun e w' ⟨he, hw⟩ => ⟨fun k => k = g, he, ⟨g, rfl, ?_, by omega, by omega, rfl⟩, ?_⟩
    · rw [hw]; exact h.put1 _
    · rw [hw]; exact op_moves _ g 1 _
  last := by
    rintro w r a b O ⟨g, rfl, h, h1, h2, rfl⟩
    refine (op_last h).mono fun e w' ⟨he, hw⟩ => ⟨he, ?_⟩
    rw [← hw]
    exact Below.refl _ _
end Go.Proofs.Ytbekgmcchecnkaa
