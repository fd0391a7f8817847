/-
  The walks of slices.IndexFunc and slices.DeleteFunc over the program's fields, at the program's own function.
-/
import Derived.Test.YtkcbbcabfbkclaaMsgTexts
import Derived.Lib.SliceRun
namespace Go.Proofs.Ytkcbbcabfbkclaa
open Go.RowKit
set_option linter.unusedVariables false
set_option linter.unnecessarySimpa false
set_option linter.unusedSimpArgs false
set_option maxRecDepth 100000

/-! ### A row of fields -/
def rowF (l : List F3) : Array Value := (l.flatMap F3.cells).toArray
theorem rowF_size (l : List F3) : (rowF l).size = l.length * 3 := by
  unfold rowF
  rw [List.size_toArray]
  induction l with
  | nil => rfl
  | cons x l ih => rw [List.flatMap_cons, List.length_append, ih, List.length_cons]; show 3 + _ = _; omega
theorem flat_at : ∀ (l : List F3) (j k : Nat), k < 3 → (l.flatMap F3.cells)[j * 3 + k]? = (l[j]?).bind fun f => f.cells[k]?
  | [], j, k, hk => by simp
  | x :: l, 0, k, hk => by
    rw [List.flatMap_cons, List.getElem?_append_left (by show 0 * 3 + k < 3; omega)]
    simp
  | x :: l, j + 1, k, hk => by
    rw [List.flatMap_cons, List.getElem?_append_right (by show 3 ≤ _; omega)]
    rw [show (j + 1) * 3 + k - x.cells.length = j * 3 + k by show (j + 1) * 3 + k - 3 = _; omega]
    rw [flat_at l j k hk]
    simp
theorem rowF_at {l : List F3} {j : Nat} {f : F3} (h : l[j]? = some f) : (rowF l)[j * 3]? = some (.int .u64 f.tag) ∧ (rowF l)[j * 3 + 1]? = some (.bool f.is) ∧ (rowF l)[j * 3 + 2]? = some (.string ⟨f.text.toArray⟩) := by
  unfold rowF
  refine ⟨?_, ?_, ?_⟩
  · have := flat_at l j 0 (by omega)
    rw [h] at this
    simpa [F3.cells] using this
  · have := flat_at l j 1 (by omega)
    rw [h] at this
    simpa [F3.cells] using this
  · have := flat_at l j 2 (by omega)
    rw [h] at this
    simpa [F3.cells] using this
/-- A row of fields, in memory. -/
def RowAt (w : World) (g : Nat) (l : List F3) : Prop := w.heap[g]? = some (.cells (rowF l) 64 (0, 0))
theorem RowAt.lt {w : World} {g : Nat} {l : List F3} (h : RowAt w g l) : g < w.heap.size := (Array.getElem?_eq_some_iff.1 h).1
theorem RowAt.at {w : World} {g : Nat} {l : List F3} (h : RowAt w g l) {j : Nat} {f : F3} (hj : l[j]? = some f) :
    w.cell? ⟨g, j * 3, none⟩ = some (.int .u64 f.tag) ∧ w.cell? ⟨g, j * 3 + 1, none⟩ = some (.bool f.is) ∧ w.cell? ⟨g, j * 3 + 2, none⟩ = some (.string ⟨f.text.toArray⟩) := by
  obtain ⟨h0, h1, h2⟩ := rowF_at hj
  unfold RowAt at h
  simp [World.cell?, h, h0, h1, h2]
theorem RowAt.free {w : World} {g : Nat} {l : List F3} (h : RowAt w g l) (k : Nat) : w.frozen? ⟨g, k, none⟩ = false := by
  unfold RowAt at h
  simp [World.frozen?, h]
theorem RowAt.below {w w' : World} {g : Nat} {l : List F3} (h : RowAt w g l) (hb : Below w.heap.size w w') : RowAt w' g l := (hb.block g h.lt).trans h
theorem set_flat : ∀ (l : List F3) (i : Nat) (x : F3), i < l.length → (((l.flatMap F3.cells).set (i * 3) (.int .u64 x.tag)).set (i * 3 + 1) (.bool x.is)).set (i * 3 + 2) (.string ⟨x.text.toArray⟩) = (l.set i x).flatMap F3.cells
  | [], i, x, h => by simp at h
  | y :: l, 0, x, h => by
    simp [F3.cells]
  | y :: l, i + 1, x, h => by
    have ih := set_flat l i x (by simpa using h)
    rw [List.set_cons_succ, List.flatMap_cons, List.flatMap_cons, ← ih]
    rw [List.set_append_right _ _ (by show 3 ≤ _; omega), show (i + 1) * 3 - y.cells.length = i * 3 by show (i + 1) * 3 - 3 = _; omega]
    rw [List.set_append_right _ _ (by show 3 ≤ _; omega), show (i + 1) * 3 + 1 - y.cells.length = i * 3 + 1 by show (i + 1) * 3 + 1 - 3 = _; omega]
    rw [List.set_append_right _ _ (by show 3 ≤ _; omega), show (i + 1) * 3 + 2 - y.cells.length = i * 3 + 2 by show (i + 1) * 3 + 2 - 3 = _; omega]
theorem heap_set {w : World} {g k : Nat} {cur : Array Value} {t : TypeId} {fr : Nat × Nat} (h : w.heap[g]? = some (.cells cur t fr)) (v : Value) : (w.setCell ⟨g, k, none⟩ v).heap[g]? = some (.cells (cur.setIfInBounds k v) t fr) := by
  simp [World.setCell, Array.getElem?_modify, h]
theorem RowAt.set {w : World} {g : Nat} {l : List F3} (h : RowAt w g l) {i : Nat} (hi : i < l.length) (x : F3) :
    RowAt (((w.setCell ⟨g, i * 3, none⟩ (.int .u64 x.tag)).setCell ⟨g, i * 3 + 1, none⟩ (.bool x.is)).setCell ⟨g, i * 3 + 2, none⟩ (.string ⟨x.text.toArray⟩)) g (l.set i x) := by
  unfold RowAt at *
  rw [heap_set (heap_set (heap_set h _) _) _]
  refine congrArg (fun c => some (Obj.cells c 64 (0, 0))) ?_
  unfold rowF
  rw [← set_flat l i x hi]
  simp
theorem grown_set {w : World} {g k : Nat} {v : Value} : w.grownBy (w.setCell ⟨g, k, none⟩ v) (some g) := grownBy_setCell w g k v
theorem grown_three {w : World} {g i j k : Nat} {a b c : Value} : w.grownBy (((w.setCell ⟨g, i, none⟩ a).setCell ⟨g, j, none⟩ b).setCell ⟨g, k, none⟩ c) (some g) :=
  grownBy_trans (grownBy_trans grown_set grown_set) grown_set
theorem grown_of_below {w w' : World} {g : Nat} (h : Below w.heap.size w w') : w.grownBy w' (some g) := ⟨h.os, h.tape, h.output, h.size, fun k hk _ => h.block k hk⟩

/-! ### The function that is handed over -/
set_option maxHeartbeats 400000 in
theorem isNot_any (f : F3) (w : World) : Calls Try.prog 58 #[.agg #[.int .u64 f.tag, .bool f.is, .string ⟨f.text.toArray⟩]] w fun e w' => e = .returned (.bool (!f.is)) ∧ Below w.heap.size w w' := by
  go_enter Try.func58, Try.ntmps58
  go_wp2_with fail
  go_ret
  exact ⟨rfl, (Below.refl _ _).alloc (Nat.le_refl _) _⟩

/-- The place of the first field that is zero; -1: there is none. -/
def fidx : List F3 → Int
  | [] => -1
  | f :: l => if f.is then (if fidx l = -1 then -1 else fidx l + 1) else 0
theorem fidx_none : ∀ {l : List F3}, (∀ f ∈ l, f.is = true) → fidx l = -1
  | [], _ => rfl
  | f :: l, h => by
    unfold fidx
    rw [h f (by simp), fidx_none (fun g hg => h g (by simp [hg]))]
    simp
theorem fidx_some : ∀ {l : List F3} {i : Nat}, (∀ j, j < i → ∀ f, l[j]? = some f → f.is = true) → (∃ f, l[i]? = some f ∧ f.is = false) → fidx l = (i : Int)
  | [], i, _, ⟨f, h, _⟩ => by simp at h
  | x :: l, 0, _, ⟨f, h, hf⟩ => by
    simp at h
    subst h
    unfold fidx
    rw [hf]
    rfl
  | x :: l, i + 1, h, ⟨f, hf, hz⟩ => by
    have ih := fidx_some (l := l) (i := i) (fun j hj f hf => h (j + 1) (by omega) f (by simpa using hf)) ⟨f, by simpa using hf, hz⟩
    unfold fidx
    rw [h 0 (by omega) x (by simp), ih, if_pos rfl, if_neg (by omega)]
    omega
theorem all_of {l : List F3} {i : Nat} (h : ∀ j, j < i → ∀ f, l[j]? = some f → f.is = true) (hi : l.length ≤ i) : ∀ f ∈ l, f.is = true := fun f hf => by
  obtain ⟨j, hj, e⟩ := List.getElem_of_mem hf
  exact h j (by omega) f (by rw [List.getElem?_eq_getElem hj, e])

set_option maxHeartbeats 4000000 in
theorem indexFunc_any (l : List F3) (g cap : Nat) (hl : l.length ≤ 1000) (w : World) (h : RowAt w g l) :
    Calls Try.prog 75 #[.slice (some ⟨g, 0, none⟩) l.length cap, (.func (.func 58) #[] #[])] w fun e w' => e = .returned (.int .i64 (fidx l)) ∧ Below w.heap.size w w' := by
  obtain ⟨len, hlen⟩ : ∃ len, len = l.length := ⟨_, rfl⟩
  have HL := Lib.hid hlen
  have HR := Lib.hid h
  rw [← hlen] at hl
  rw [← hlen]
  clear hlen h
  go_enter Try.func75, Try.ntmps75
  go_wp2_with fail
  go_loopg [5, 8] len (fun k s5 s8 wx => ∃ i : Nat, i + k = len ∧ s8 = .int .i64 i ∧ Hid (∀ j, j < i → ∀ f, l[j]? = some f → f.is = true) ∧ Hid (Below w.heap.size w wx))
  case atStart => exact ⟨0, by omega, rfl, Lib.hid (fun j hj => by omega), Lib.hid (Below.refl _ _)⟩
  case round =>
    obtain ⟨i, hig, rfl, HJ, HB⟩ := hrel
    by_cases hlt : i < len
    · obtain ⟨k, rfl⟩ : ∃ k, gk = k + 1 := ⟨gk - 1, by omega⟩
      have hiz : (i : Int) < (len : Int) := by omega
      obtain ⟨f, hf⟩ : ∃ f, l[i]? = some f := ⟨_, List.getElem?_eq_getElem (by rw [← HL.out]; exact hlt)⟩
      obtain ⟨c0, c1, c2⟩ := (HR.out.below HB.out).at hf
      have HF := Lib.hid hf
      have HI := isNot_any f
      obtain ⟨t, b, s⟩ := f
      simp only at c0 c1 c2 HI
      clear hf
      cases b with
      | true =>
        rw [show (!true) = false from rfl] at HI
        have HI := Lib.hid HI
        go_wp2_with (go_at_call 58; refine (HI.out _).mono ?_; rintro e w1 ⟨rfl, hb1⟩)
        go_roundg k
        case measure => omega
        case rel =>
          refine ⟨i + 1, by omega, by simp, Lib.hid (fun j hj f hf => ?_), Lib.hid (HB.out.trans (hb1.mono HB.out.size))⟩
          by_cases hji : j = i
          · subst hji
            rw [HF.out] at hf
            injection hf with hf
            rw [← hf]
          · exact HJ.out j (by omega) f hf
      | false =>
        rw [show (!false) = true from rfl] at HI
        have HI := Lib.hid HI
        have hfin := Lib.hid (fidx_some HJ.out ⟨_, HF.out, rfl⟩)
        go_wp2_with (go_at_call 58; refine (HI.out _).mono ?_; rintro e w1 ⟨rfl, hb1⟩)
        go_ret
        exact ⟨ret_int hfin.out.symm, HB.out.trans (hb1.mono HB.out.size)⟩
    · have hiz : ¬ (i : Int) < (len : Int) := by omega
      have hfin := Lib.hid (fidx_none (all_of HJ.out (by rw [← HL.out]; omega)))
      go_wp2_with fail
      go_ret
      exact ⟨ret_int hfin.out.symm, HB.out⟩
end Go.Proofs.Ytkcbbcabfbkclaa
