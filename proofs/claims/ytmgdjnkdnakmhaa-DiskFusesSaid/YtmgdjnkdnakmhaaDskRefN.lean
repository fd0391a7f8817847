/-
  The document's New and Few.
-/
import Derived.Test.YtmgdjnkdnakmhaaDskRefS
import Derived.RegionTactic
namespace Go.Proofs.Ytmgdjnkdnakmhaa
open Go.RowKit
set_option linter.unusedVariables false
set_option linter.unnecessarySimpa false
set_option linter.unusedSimpArgs false
set_option maxRecDepth 100000

theorem mk_zero (c : Int) (h0 : 0 ≤ c) (h1 : c ≤ 300000) (w : World) :
    (Instr.makeSlice 30 (.int .i64 c) (.int .i64 c)).run Try.prog w = .ok (.slice (some ⟨w.heap.size, 0, none⟩) c.toNat c.toNat) (w.alloc (.cells (Lib.byteCells (List.replicate c.toNat 0)).toArray 5)) := by
  obtain ⟨i0, hi, hz0, hz1, hz2⟩ := info_parts u8info
  have := run_make (P := Try.prog) w 30 5 i0 (.int .u8 0) Try.underlying30 hi hz0 .i64 .i64 c c h0 (Int.le_refl _) (by rw [hz2]; omega) (by omega)
  rw [this, hz1, Nat.mul_one]
  have e : madeCells (Value.int .u8 0).cells c.toNat = (Lib.byteCells (List.replicate c.toNat 0)).toArray := by
    apply Array.toList_inj.1
    show (madeCells #[Value.int .u8 0] c.toNat).toList = _
    rw [toList_madeCells_one]
    simp [Lib.byteCells]
  rw [e]

/-- A new one. -/
def NewOut (w : World) (m : Nat) (e : Ending) (w' : World) : Prop :=
  ∃ g gs gn, e = .returned (.pointer (some ⟨g, 0, none⟩)) ∧ RefP w' g (64 * m) gs gn (.slice none 0 0) (.slice none 0 0) (-1) (List.replicate (64 * m) 0) (List.replicate (64 * m) 0) [] [] ∧ w.heap.size ≤ g ∧ w.heap.size ≤ gs ∧ w.heap.size ≤ gn ∧ Below w.heap.size w w'

theorem heap_three (w : World) (o1 o2 o3 : Obj) : (((w.alloc o1).alloc o2).alloc o3).heap[w.heap.size]? = some o1 ∧ (((w.alloc o1).alloc o2).alloc o3).heap[w.heap.size + 1]? = some o2 ∧ (((w.alloc o1).alloc o2).alloc o3).heap[w.heap.size + 1 + 1]? = some o3 := by
  refine ⟨?_, ?_, ?_⟩
  · rw [Below.heap_alloc _ _ _ (by simp; omega), Below.heap_alloc _ _ _ (by simp)]
    show (w.heap.push o1)[w.heap.size]? = _
    rw [Array.getElem?_push, if_pos rfl]
  · rw [Below.heap_alloc _ _ _ (by simp)]
    show ((w.heap.push o1).push o2)[w.heap.size + 1]? = _
    rw [Array.getElem?_push, if_pos (by simp)]
  · show (((w.heap.push o1).push o2).push o3)[w.heap.size + 1 + 1]? = _
    rw [Array.getElem?_push, if_pos (by simp)]
theorem new_refp (w : World) (N a b : Nat) (hab : (a = w.heap.size ∧ b = w.heap.size + 1) ∨ (a = w.heap.size + 1 ∧ b = w.heap.size)) (W : World)
    (hW : W = (((w.alloc (.cells (Lib.byteCells (List.replicate N 0)).toArray 5)).alloc (.cells (Lib.byteCells (List.replicate N 0)).toArray 5)).alloc (.cells #[.slice (some ⟨a, 0, none⟩) N N, .slice (some ⟨b, 0, none⟩) N N, .slice none 0 0, .slice none 0 0, .int .i64 (-1)] 45)).drew) :
    RefP W (w.heap.size + 1 + 1) N a b (.slice none 0 0) (.slice none 0 0) (-1) (List.replicate N 0) (List.replicate N 0) [] [] := by
  subst hW
  obtain ⟨h1, h2, h3⟩ := heap_three w (.cells (Lib.byteCells (List.replicate N 0)).toArray 5) (.cells (Lib.byteCells (List.replicate N 0)).toArray 5) (.cells #[.slice (some ⟨a, 0, none⟩) N N, .slice (some ⟨b, 0, none⟩) N N, .slice none 0 0, .slice none 0 0, .int .i64 (-1)] 45)
  refine ⟨h3, ?_, ?_, ⟨rfl, .inl ⟨rfl, rfl⟩⟩, ⟨rfl, .inl ⟨rfl, rfl⟩⟩, by omega⟩
  · rcases hab with ⟨rfl, rfl⟩ | ⟨rfl, rfl⟩
    · exact h1
    · exact h2
  · rcases hab with ⟨rfl, rfl⟩ | ⟨rfl, rfl⟩
    · exact h2
    · exact h1
theorem clampD_le (n : Int) : clampD n ≤ 4096 := by unfold clampD; split; omega; split <;> omega
theorem clampD_max (n : Int) : max (min n 4096) 0 = ((clampD n : Nat) : Int) := by unfold clampD; split; omega; split <;> omega

set_option maxHeartbeats 4000000 in
theorem refNew_any (n : Int) (hn1 : -9223372036854775808 ≤ n) (hn2 : n ≤ 9223372036854775807) (w : World) : Calls Try.prog 9 #[.int .i64 n] w (NewOut w (clampD n)) := by
  have hmx := Lib.hid (clampD_max n)
  have hml := clampD_le n
  obtain ⟨m, hm⟩ : ∃ m, m = clampD n := ⟨_, rfl⟩
  rw [← hm] at hmx hml
  rw [← hm]
  clear hm
  have hk1 := Lib.hid (show IntKind.i64.wrap (64 * (m : Int)) = 64 * (m : Int) from IntWalk.i64_in _ (by omega))
  have hmk := mk_zero (64 * (m : Int)) (by omega) (by omega)
  rw [show (64 * (m : Int)).toNat = 64 * m by omega] at hmk
  obtain ⟨Z, hZ⟩ : ∃ Z, Z = (Lib.byteCells (List.replicate (64 * m) 0)).toArray := ⟨_, rfl⟩
  rw [← hZ] at hmk
  have HZ := Lib.hid hZ
  obtain ⟨N, hN⟩ : ∃ N, N = 64 * m := ⟨_, rfl⟩
  rw [← hN] at hmk HZ
  have HN := Lib.hid hN
  have HMK := Lib.hid hmk
  clear hZ hN hmk
  go_enter Try.func9, Try.ntmps9
  go_wp2_with fail
  rw [hmx.out]
  have hk := hk1.out
  have hmk := HMK.out
  clear hmx
  go_region
  all_goals
    go_wp2_with fail
    go_ret
    have hN := HN.out
    have hZ := HZ.out
    subst hN hZ
    exact ⟨_, _, _, rfl, new_refp w _ _ _ (by omega) _ rfl, by omega, by omega, by omega, ((((Below.refl _ _).alloc (Nat.le_refl _) _).alloc (by simp) _).alloc (by simp; omega) _).drew⟩
end Go.Proofs.Ytmgdjnkdnakmhaa
