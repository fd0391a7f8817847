/-
  The walk of the program's Project.
-/
import Derived.Test.YtkcbbcabfbkclaaMsgRel
import Derived.Test.YtkcbbcabfbkclaaRegion
import Derived.Test.YtkcbbcabfbkclaaMsgEncodes
namespace Go.Proofs.Ytkcbbcabfbkclaa
open Go.RowKit
set_option linter.unusedVariables false
set_option linter.unnecessarySimpa false
set_option linter.unusedSimpArgs false
set_option maxRecDepth 100000

/-! ### What is projected, field by field -/
def prjS (m : Mg) (last : Nat) (p : Mg) (f : F3) : Mg := if f.tag ≤ last then putT p m f.tag else p
def prj (m : Mg) (last : Nat) (p : Mg) (l : List F3) : Mg := l.foldl (prjS m last) p
theorem prj_take {m : Mg} {last : Nat} {p : Mg} {l : List F3} {i : Nat} {f : F3} (h : l[i]? = some f) : prj m last p (l.take (i + 1)) = prjS m last (prj m last p (l.take i)) f := by
  unfold prj
  rw [List.take_add_one, h, List.foldl_append]
  rfl
theorem prj_step {m : Mg} (hn : nums31 m = true) {last k : Nat} (hk : k < 12) (hl : k + 1 ≤ last) : (if (f3 m (k + 1)).is = true then prjS m last (upto m k) (f3 m (k + 1)) else upto m k) = upto m (k + 1) := by
  have hT : (f3 m (k + 1)).is = isT m (k + 1) := rfl
  rw [hT]
  cases h : isT m (k + 1) with
  | true =>
    simp only [if_true]
    show (if k + 1 ≤ last then putT (upto m k) m (k + 1) else upto m k) = _
    rw [if_pos hl, upto_put hk]
  | false =>
    simp only [Bool.false_eq_true, if_false]
    have hfld : fld m (k + 1) = none := by rw [fld_is (by omega) (by omega), h]; rfl
    exact (upto_none hn hk hfld).symm
theorem prj_over {m : Mg} {last t : Nat} {p : Mg} (hl : last < t) : (if (f3 m t).is = true then prjS m last p (f3 m t) else p) = p := by
  have : prjS m last p (f3 m t) = p := if_neg (by show ¬ t ≤ last; omega)
  rw [this]
  split <;> rfl
theorem prj_all {m : Mg} (hn : nums31 m = true) {last : Nat} (hl : last = 9 ∨ last = 10 ∨ last = 12) : prj m last { mg0 with kind := m.kind } (fldsL m) = upto m last := by
  have h0 : ({ mg0 with kind := m.kind } : Mg) = upto m 0 := rfl
  unfold prj fldsL
  rw [List.foldl_filter, h0]
  unfold all12
  simp only [List.foldl_cons, List.foldl_nil]
  rcases hl with rfl | rfl | rfl
  · rw [prj_step hn (k := 0) (by omega) (by omega), prj_step hn (k := 1) (by omega) (by omega), prj_step hn (k := 2) (by omega) (by omega), prj_step hn (k := 3) (by omega) (by omega), prj_step hn (k := 4) (by omega) (by omega), prj_step hn (k := 5) (by omega) (by omega),
      prj_step hn (k := 6) (by omega) (by omega), prj_step hn (k := 7) (by omega) (by omega), prj_step hn (k := 8) (by omega) (by omega), prj_over (by omega), prj_over (by omega), prj_over (by omega)]
  · rw [prj_step hn (k := 0) (by omega) (by omega), prj_step hn (k := 1) (by omega) (by omega), prj_step hn (k := 2) (by omega) (by omega), prj_step hn (k := 3) (by omega) (by omega), prj_step hn (k := 4) (by omega) (by omega), prj_step hn (k := 5) (by omega) (by omega),
      prj_step hn (k := 6) (by omega) (by omega), prj_step hn (k := 7) (by omega) (by omega), prj_step hn (k := 8) (by omega) (by omega), prj_step hn (k := 9) (by omega) (by omega), prj_over (by omega), prj_over (by omega)]
  · rw [prj_step hn (k := 0) (by omega) (by omega), prj_step hn (k := 1) (by omega) (by omega), prj_step hn (k := 2) (by omega) (by omega), prj_step hn (k := 3) (by omega) (by omega), prj_step hn (k := 4) (by omega) (by omega), prj_step hn (k := 5) (by omega) (by omega),
      prj_step hn (k := 6) (by omega) (by omega), prj_step hn (k := 7) (by omega) (by omega), prj_step hn (k := 8) (by omega) (by omega), prj_step hn (k := 9) (by omega) (by omega), prj_step hn (k := 10) (by omega) (by omega), prj_step hn (k := 11) (by omega) (by omega)]
/-- A function by its tag. -/
theorem fn_of {t : Nat} (h1 : 1 ≤ t) (h2 : t ≤ 12) : ∃ f, (t, f) ∈ fnsL := by
  have : t = 1 ∨ t = 2 ∨ t = 3 ∨ t = 4 ∨ t = 5 ∨ t = 6 ∨ t = 7 ∨ t = 8 ∨ t = 9 ∨ t = 10 ∨ t = 11 ∨ t = 12 := by omega
  unfold fnsL
  rcases this with rfl | rfl | rfl | rfl | rfl | rfl | rfl | rfl | rfl | rfl | rfl | rfl <;> exact ⟨_, by simp; rfl⟩
theorem FnMap.grown {w w' : World} {b G : Nat} {l : List (Nat × Nat)} (h : FnMap w b l) (hg : w.grownBy w' (some G)) (hne : b ≠ G) : FnMap w' b l :=
  h.same (hg.block b h.lt (fun e => hne (by injection e)))

set_option maxHeartbeats 8000000 in
theorem project_err (v : Int) (m : Mg) (sl : Value) (hf : m.fits) (hw : m.few) (h0 : ¬ (projB v m).2 = 0) (w : World) (hws : WsAt w sl m.ws) :
    Calls Try.prog 11 #[.int .i64 v, .agg (m.cells sl)] w (MsgOut (projB v m).1 (projB v m).2 w) := by
  have hp1 : (projB v m).1 = mg0 := by
    unfold projB at h0 ⊢
    split
    · rfl
    · split
      · rfl
      · rename_i h1 h2; rw [if_neg h1, if_neg h2] at h0; exact absurd rfl h0
  rw [hp1]
  have hrf := fun (W : World) (hW : WsAt W sl m.ws) => refusal_any v m sl hf hw W hW
  obtain ⟨C, hC⟩ : ∃ C, C = m.cells sl := ⟨_, rfl⟩
  have HC : CellsOf C m sl := ⟨hC⟩
  have HSZ := Lib.hid (show (Try.prog.info? 29).map (·.size) = some C.size by rw [HC.size]; exact msg_size)
  obtain ⟨E, hE⟩ : ∃ E, E = (projB v m).2 := ⟨_, rfl⟩
  rw [← hE] at hrf h0 ⊢
  rw [← hC] at hrf ⊢
  have hne : (E != 0) = true := by rw [bne_iff_ne]; exact h0
  have HRF := Lib.hid hrf
  have HWS := Lib.hid hws
  obtain ⟨W2, hW2⟩ : ∃ W2, W2 = (w.alloc (.cells C 29)).alloc (.cells zeroMsg 29) := ⟨_, rfl⟩
  have hrow : W2.heap[w.heap.size]? = some (.cells C 29 (0, 0)) := by rw [hW2]; exact alloc_two w _ _
  have hres : W2.heap[w.heap.size + 1]? = some (.cells zeroMsg 29 (0, 0)) := by rw [hW2]; exact two_second _ _ _
  have HB2 := Lib.hid (show Below w.heap.size w W2 by rw [hW2]; exact two_below _ _ _)
  have HROW := Lib.hid hrow
  have HRES := Lib.hid hres
  have HZ := Lib.hid (Array.getElem?_eq_some_iff.1 hres).1
  clear HC hC hE hp1 hrf hws hf hw h0 hrow hres
  unfold zeroMsg at hW2 HRES
  go_enter Try.func11, Try.ntmps11
  go_upto_region 1 with fail
  rw [← hW2]
  clear hW2
  go_wp2_with (first
    | (refine wpList_load_row_w rfl 29 _ rfl w.heap.size rfl 29 C (0, 0) _ HROW.out Try.underlying29 rfl HSZ.out ?_)
    | (go_at_call 19; refine (HRF.out _ (HWS.out.below HB2.out)).mono ?_; rintro e w3 ⟨rfl, hb3⟩; have HRES3 := Lib.hid ((hb3.block (w.heap.size + 1) HZ.out).trans HRES.out); have B3 := Lib.hid (HB2.out.trans (hb3.mono HB2.out.size)); clear hb3 HRES HROW)
    | (refine wpList_store_row rfl 29 _ _ rfl (w.heap.size + 1) #[.int .i64 0, .int .i64 0, .int .i64 0, .int .i64 0, .int .i64 0, .int .i64 0, .int .u64 0, .int .u64 0, .string ⟨#[]⟩, .bool false, .int .u64 0, .bool false, .string ⟨#[]⟩, .slice none 0 0, .string ⟨#[]⟩, .int .u64 0, .int .u64 0] rfl rfl 29 #[.int .i64 0, .int .i64 0, .int .i64 0, .int .i64 0, .int .i64 0, .int .i64 0, .int .u64 0, .int .u64 0, .string ⟨#[]⟩, .bool false, .int .u64 0, .bool false, .string ⟨#[]⟩, .slice none 0 0, .string ⟨#[]⟩, .int .u64 0, .int .u64 0] HRES3.out msg_size rfl zero_one ?_))
  exact bodyPost_ret (msg_ret (setRow_heap _ _ _ _ _ _ HRES3.out) rfl rfl rfl rfl) rfl ⟨.slice none 0 0, rfl, WsAt.nil _, below_setRow B3.out (by omega) _⟩
end Go.Proofs.Ytkcbbcabfbkclaa
