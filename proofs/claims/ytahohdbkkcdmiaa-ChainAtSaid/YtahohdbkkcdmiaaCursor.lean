/-
  The walks of the cursor's calls, but for Fixed: what each answers, and what the cursor holds behind it.
-/
import Derived.Test.YtahohdbkkcdmiaaLeading
namespace Go.Proofs.Ytahohdbkkcdmiaa
open Go.RowKit
set_option linter.unnecessarySimpa false
set_option linter.unusedVariables false
set_option linter.unusedSimpArgs false
set_option maxRecDepth 100000

/-- A cursor in memory: what is left, and whether it is bad. -/
def CurAt (w : World) (g : Nat) (s : ByteArray) (bad : Bool) : Prop := w.heap[g]? = some (.cells #[.string s, .bool bad] 70 (0, 0))

section
variable {w : World} {g : Nat} {s : ByteArray} {bad : Bool}
theorem CurAt.lt (h : CurAt w g s bad) : g < w.heap.size := (Array.getElem?_eq_some_iff.1 h).1
theorem CurAt.c0 (h : CurAt w g s bad) : w.cell? ⟨g, 0, none⟩ = some (.string s) := by unfold CurAt at h; simp [World.cell?, h]
theorem CurAt.c1 (h : CurAt w g s bad) : w.cell? ⟨g, 1, none⟩ = some (.bool bad) := by unfold CurAt at h; simp [World.cell?, h]
theorem CurAt.f0 (h : CurAt w g s bad) : w.frozen? ⟨g, 0, none⟩ = false := by unfold CurAt at h; simp [World.frozen?, h]
theorem CurAt.f1 (h : CurAt w g s bad) : w.frozen? ⟨g, 1, none⟩ = false := by unfold CurAt at h; simp [World.frozen?, h]
theorem CurAt.set0 (h : CurAt w g s bad) (s' : ByteArray) : CurAt (w.setCell ⟨g, 0, none⟩ (.string s')) g s' bad := by
  unfold CurAt at *
  rw [heap_setCell_same w g 0 _ _ _ h]
  rfl
theorem CurAt.set1 (h : CurAt w g s bad) (bad' : Bool) : CurAt (w.setCell ⟨g, 1, none⟩ (.bool bad')) g s bad' := by
  unfold CurAt at *
  rw [heap_setCell_same w g 1 _ _ _ h]
  rfl
theorem grownBy_setCell (w : World) (g j : Nat) (v : Value) : w.grownBy (w.setCell ⟨g, j, none⟩ v) (some g) :=
  ⟨rfl, rfl, rfl, by simp [World.setCell], fun k _ hk => heap_setCell_other w ⟨g, j, none⟩ k v (fun e => hk (by simp [e]))⟩
theorem grownBy_refl (w : World) (row : Option Nat) : w.grownBy w row := ⟨rfl, rfl, rfl, Nat.le_refl _, fun _ _ _ => rfl⟩
theorem grownBy_trans {w w1 w2 : World} {row : Option Nat} (h1 : w.grownBy w1 row) (h2 : w1.grownBy w2 row) : w.grownBy w2 row :=
  ⟨h2.os.trans h1.os, h2.tape.trans h1.tape, h2.output.trans h1.output, Nat.le_trans h1.size h2.size, fun k hk hr => (h2.block k (Nat.lt_of_lt_of_le hk h1.size) hr).trans (h1.block k hk hr)⟩
theorem CurAt.kept {w' : World} {B : Nat} (h : CurAt w g s bad) (hb : Below B w w') (hg : g < B) : CurAt w' g s bad := (hb.block g hg).trans h
end

theorem below_grown {w w1 w2 : World} {g : Nat} (h : Below w.heap.size w w1) (hg : w1.grownBy w2 (some g)) (hl : w.heap.size ≤ g) : Below w.heap.size w w2 :=
  h.grown hg h.size (fun k hk => by cases hk; exact hl)

set_option maxHeartbeats 800000 in
theorem new_any (s : ByteArray) (w : World) :
    Calls Try.prog 22 #[.string s] w fun e w' => e = .returned (.pointer (some ⟨w.heap.size, 0, none⟩)) ∧ CurAt w' w.heap.size s false ∧ Below w.heap.size w w' := by
  have hn : CurAt (w.alloc (.cells #[.string s, .bool false] 70)) w.heap.size s false := heap_alloc_new w _
  go_enter Try.func22, Try.ntmps22
  go_wp2
  go_ret
  exact ⟨rfl, hn, (Below.refl _ _).alloc (Nat.le_refl _) _⟩

set_option maxHeartbeats 800000 in
theorem take_any (g : Nat) (s : ByteArray) (bad : Bool) (n : Nat) (hs : s.size ≤ maxLen) (hn : n ≤ s.size) (w : World) (h : CurAt w g s bad) :
    Calls Try.prog 35 #[.pointer (some ⟨g, 0, none⟩), .int .i64 n] w fun e w' => e = .returned (.string (s.extract 0 n)) ∧ CurAt w' g (s.extract n s.size) bad ∧ w.grownBy w' (some g) := by
  unfold maxLen at hs
  have c0 := h.c0
  have f0 := h.f0
  have hq := Lib.hid (h.set0 (s.extract n s.size))
  clear h
  go_enter Try.func35, Try.ntmps35
  go_wp2
  go_ret
  exact ⟨rfl, hq.out, grownBy_setCell _ _ _ _⟩

set_option maxHeartbeats 800000 in
theorem bad_any (g : Nat) (s : ByteArray) (bad : Bool) (w : World) (h : CurAt w g s bad) :
    Calls Try.prog 41 #[.pointer (some ⟨g, 0, none⟩)] w fun e w' => e = .returned (.bool bad) ∧ w = w' := by
  have c1 := h.c1
  clear h
  go_enter Try.func41, Try.ntmps41
  go_wp2
  go_ret
  exact ⟨rfl, rfl⟩


set_option maxHeartbeats 800000 in
theorem done_any (g : Nat) (s : ByteArray) (bad : Bool) (w : World) (hs : s.size ≤ maxLen) (h : CurAt w g s bad) :
    Calls Try.prog 25 #[.pointer (some ⟨g, 0, none⟩)] w fun e w' => e = .returned (.bool (!bad && s.size == 0)) ∧ w = w' := by
  unfold maxLen at hs
  have c0 := h.c0
  have c1 := h.c1
  clear h
  cases bad
  · by_cases h0 : s.size = 0
    · have hb : ((s.size : Int) == 0) = true := by simp [h0]
      have H0 := Lib.hid h0
      clear h0
      go_enter Try.func25, Try.ntmps25
      go_wp2
      go_ret
      exact ⟨by rw [H0.out]; rfl, rfl⟩
    · have hb : ((s.size : Int) == 0) = false := by simp only [beq_eq_false_iff_ne, ne_eq]; omega
      have H0 : Hid ((s.size == 0) = false) := Lib.hid (by simpa using h0)
      clear h0
      go_enter Try.func25, Try.ntmps25
      go_wp2
      go_ret
      exact ⟨by rw [H0.out]; rfl, rfl⟩
  · go_enter Try.func25, Try.ntmps25
    go_wp2
    go_ret
    exact ⟨rfl, rfl⟩

/-- What Uint tells, and what it leaves. -/
def cUint (s : ByteArray) (bad : Bool) : Nat × ByteArray × Bool :=
  if bad then (0, s, true) else if tkK s.data.toList = 0 then (0, s, true) else (tkN s.data.toList, s.extract (tkK s.data.toList) s.size, false)

theorem tkK_le (l : List UInt8) : tkK l ≤ l.length := by
  unfold tkK
  cases h : tk l with
  | none => simp
  | some p => exact (tk_some (n := p.1) (k := p.2) h).2.2.1

theorem list_size (s : ByteArray) : s.data.toList.length = s.size := by rw [Array.length_toList]; rfl

set_option maxHeartbeats 800000 in
theorem cur_uint (g : Nat) (s : ByteArray) (bad : Bool) (w : World) (hs : s.size ≤ maxLen) (h : CurAt w g s bad) :
    Calls Try.prog 23 #[.pointer (some ⟨g, 0, none⟩)] w fun e w' => e = .returned (.int .u64 (cUint s bad).1) ∧ CurAt w' g (cUint s bad).2.1 (cUint s bad).2.2 ∧ w.grownBy w' (some g) := by
  have HS := Lib.hid hs
  have H := Lib.hid h
  have c0 := h.c0
  have c1 := h.c1
  have f1 := h.f1
  clear h hs
  cases bad
  · have hk := tkK_le s.data.toList
    rw [list_size] at hk
    by_cases h0 : tkK s.data.toList = 0
    · have hb : (((tkK s.data.toList : Nat) : Int) == 0) = true := by simp [h0]
      have hd := Lib.hid (show cUint s false = (0, s, true) by simp [cUint, h0])
      clear h0
      go_enter Try.func23, Try.ntmps23
      go_wp2_with (go_at_call 34; refine (leading_any s HS.out _).mono ?_; rintro e w' ⟨rfl, rfl⟩)
      go_ret
      rw [hd.out]
      exact ⟨rfl, H.out.set1 true, grownBy_setCell _ _ _ _⟩
    · have hb : (((tkK s.data.toList : Nat) : Int) == 0) = false := by simp; omega
      have hd := Lib.hid (show cUint s false = (tkN s.data.toList, s.extract (tkK s.data.toList) s.size, false) by simp [cUint, h0])
      clear h0
      go_enter Try.func23, Try.ntmps23
      go_wp2_with (first | (go_at_call 34; refine (leading_any s HS.out _).mono ?_; rintro e w' ⟨rfl, rfl⟩) | (go_at_call 35; refine (take_any g s false (tkK s.data.toList) HS.out hk _ H.out).mono ?_; rintro e w' ⟨rfl, hc, hg⟩))
      go_ret
      rw [hd.out]
      exact ⟨rfl, hc, hg⟩
  · have hd := Lib.hid (show cUint s true = (0, s, true) by simp [cUint])
    go_enter Try.func23, Try.ntmps23
    go_wp2_with fail
    go_ret
    rw [hd.out]
    exact ⟨rfl, H.out, grownBy_refl _ _⟩
end Go.Proofs.Ytahohdbkkcdmiaa
