/-
  A cursor in memory; the walks of New, take, Bad, Left (for seats of every layer).
-/
import Derived.Test.YtlkifliaaaomeaaMath
import Derived.ProofKit
import Derived.WalkSpells
import Derived.WalkLawsBesides
import Derived.Lib.Hide
namespace Go.Proofs.Ytlkifliaaaomeaa
open Go.RowKit
set_option linter.unnecessarySimpa false
set_option linter.unusedSimpArgs false
set_option maxRecDepth 100000
set_option linter.unusedVariables false

/-- A cursor in memory: what is left, and whether it is bad. -/
def CurAt (w : World) (g : Nat) (s : ByteArray) (bad : Bool) : Prop := w.heap[g]? = some (.cells #[.string s, .bool bad] 104 (0, 0))

section
variable {w : World} {g : Nat} {s : ByteArray} {bad : Bool}
theorem CurAt.lt (h : CurAt w g s bad) : g < w.heap.size := (Array.getElem?_eq_some_iff.1 h).1
theorem CurAt.c0 (h : CurAt w g s bad) : w.cell? ⟨g, 0, none⟩ = some (.string s) := by unfold CurAt at h; simp [World.cell?, h]
theorem CurAt.c1 (h : CurAt w g s bad) : w.cell? ⟨g, 1, none⟩ = some (.bool bad) := by unfold CurAt at h; simp [World.cell?, h]
theorem CurAt.f0 (h : CurAt w g s bad) : w.frozen? ⟨g, 0, none⟩ = false := by unfold CurAt at h; simp [World.frozen?, h]
theorem CurAt.f1 (h : CurAt w g s bad) : w.frozen? ⟨g, 1, none⟩ = false := by unfold CurAt at h; simp [World.frozen?, h]
theorem CurAt.set0 (h : CurAt w g s bad) (s' : ByteArray) : CurAt (w.setCell ⟨g, 0, none⟩ (.string s')) g s' bad := by
  unfold CurAt at *
  rw [heap_setCell_same w g 0 _ _ _ h]
  rfl
theorem CurAt.set1 (h : CurAt w g s bad) (bad' : Bool) : CurAt (w.setCell ⟨g, 1, none⟩ (.bool bad')) g s bad' := by
  unfold CurAt at *
  rw [heap_setCell_same w g 1 _ _ _ h]
  rfl
theorem grownBy_setCell (w : World) (g j : Nat) (v : Value) : w.grownBy (w.setCell ⟨g, j, none⟩ v) (some g) :=
  ⟨rfl, rfl, rfl, by simp [World.setCell], fun k _ hk => heap_setCell_other w ⟨g, j, none⟩ k v (fun e => hk (by simp [e]))⟩
theorem grownBy_refl (w : World) (row : Option Nat) : w.grownBy w row := ⟨rfl, rfl, rfl, Nat.le_refl _, fun _ _ _ => rfl⟩
theorem grownBy_trans {w w1 w2 : World} {row : Option Nat} (h1 : w.grownBy w1 row) (h2 : w1.grownBy w2 row) : w.grownBy w2 row :=
  ⟨h2.os.trans h1.os, h2.tape.trans h1.tape, h2.output.trans h1.output, Nat.le_trans h1.size h2.size, fun k hk hr => (h2.block k (Nat.lt_of_lt_of_le hk h1.size) hr).trans (h1.block k hk hr)⟩
theorem CurAt.kept {w' : World} {B : Nat} (h : CurAt w g s bad) (hb : Below B w w') (hg : g < B) : CurAt w' g s bad := (hb.block g hg).trans h
end

theorem below_grown {w w1 w2 : World} {g : Nat} (h : Below w.heap.size w w1) (hg : w1.grownBy w2 (some g)) (hl : w.heap.size ≤ g) : Below w.heap.size w w2 :=
  h.grown hg h.size (fun k hk => by cases hk; exact hl)

set_option maxHeartbeats 800000 in
theorem new_any (s : ByteArray) (w : World) :
    Calls Try.prog 50 #[.string s] w fun e w' => e = .returned (.pointer (some ⟨w.heap.size, 0, none⟩)) ∧ CurAt w' w.heap.size s false ∧ Below w.heap.size w w' := by
  have hn : CurAt (w.alloc (.cells #[.string s, .bool false] 104)) w.heap.size s false := heap_alloc_new w _
  go_enter Try.func50, Try.ntmps50
  go_wp2
  go_ret
  exact ⟨rfl, hn, (Below.refl _ _).alloc (Nat.le_refl _) _⟩

set_option maxHeartbeats 800000 in
theorem take_any (g : Nat) (s : ByteArray) (bad : Bool) (n : Nat) (hs : s.size ≤ maxLen) (hn : n ≤ s.size) (w : World) (h : CurAt w g s bad) :
    Calls Try.prog 65 #[.pointer (some ⟨g, 0, none⟩), .int .i64 n] w fun e w' => e = .returned (.string (s.extract 0 n)) ∧ CurAt w' g (s.extract n s.size) bad ∧ w.grownBy w' (some g) := by
  unfold maxLen at hs
  have c0 := h.c0
  have f0 := h.f0
  have hq := Lib.hid (h.set0 (s.extract n s.size))
  clear h
  go_enter Try.func65, Try.ntmps65
  go_wp2
  go_ret
  exact ⟨rfl, hq.out, grownBy_setCell _ _ _ _⟩


theorem list_size (s : ByteArray) : s.data.toList.length = s.size := by rw [Array.length_toList]; rfl

end Go.Proofs.Ytlkifliaaaomeaa
