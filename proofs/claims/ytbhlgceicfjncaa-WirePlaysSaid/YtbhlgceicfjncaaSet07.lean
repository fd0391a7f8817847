/-
  The walk of the document's Project.
-/
import Derived.Test.YtbhlgceicfjncaaSet06
import Derived.Laws.Tables
import Derived.Deep.WholeRow
import Derived.Laws.CopyOwn
namespace Go.Proofs.Ytbhlgceicfjncaa
open Go.RowKit
set_option linter.unusedVariables false
set_option linter.unnecessarySimpa false
set_option linter.unusedSimpArgs false
set_option maxRecDepth 100000

theorem results_row_tmp {P : Program} {fn : Func} {p u : Tmp} {ty : TypeId} (h : fn.results = #[.cell p ty, .tmp u]) (tmps : Array Value) (w : World) (g : Nat) (t : TypeId) (cs : Array Value) (fr : Nat × Nat) (d : TypeDesc) (v : Value)
    (hp : tmps.getD p undef = .pointer (some ⟨g, 0, none⟩)) (hg : w.heap[g]? = some (.cells cs t fr))
    (hu : P.underlying ty = some d) (hd : (match d with | .struct _ | .array _ _ => true | _ => false) = true) (hi : (P.info? ty).map (·.size) = some cs.size) (hv : tmps.getD u undef = v) :
    (results fn tmps).run P w = .ok (.tuple #[.agg cs, v]) w := by
  rw [results_cell_tmp h, hp, hv]
  simp [asAddr, run_loadVar_row w g t ty cs fr d hg hu hd hi, Result.andThen]
theorem alloc_two (w : World) (o o' : Obj) : ((w.alloc o).alloc o').heap[w.heap.size]? = some o := by
  rw [((Below.refl _ (w.alloc o)).alloc (Nat.le_refl _) o').block w.heap.size (by simp), heap_alloc_new]
theorem alloc_three (w : World) (o o' o'' : Obj) : (((w.alloc o).alloc o').alloc o'').heap[w.heap.size]? = some o := by
  rw [((Below.refl _ ((w.alloc o).alloc o')).alloc (Nat.le_refl _) o'').block w.heap.size (by simp; omega), alloc_two]

/-- A message handed back. -/
def MsgOut (m : Mg) (e : Int) (w : World) (en : Ending) (w' : World) : Prop := ∃ sl, en = .returned (.tuple #[.agg (m.cells sl), .int .i64 e]) ∧ WsAt w' sl m.ws ∧ Below w.heap.size w w'
theorem lastOf_zero {v : Int} : lastOfM v = 0 ↔ ¬ (v = 1 ∨ v = 2 ∨ v = 3) := by
  unfold lastOfM
  constructor
  · intro h hv
    rcases hv with rfl | rfl | rfl <;> simp at h
  · intro h
    rw [if_neg (fun e => h (.inl e)), if_neg (fun e => h (.inr (.inl e))), if_neg (fun e => h (.inr (.inr e)))]
theorem msg_ret {w : World} {g : Nat} {cs : Array Value} {fn : Func} {p u : Tmp} {tmps : Array Value} {v : Value} (h : w.heap[g]? = some (.cells cs 38 (0, 0))) (hcs : cs.size = 17)
    (hf : fn.results = #[.cell p 38, .tmp u]) (hp : tmps.getD p undef = .pointer (some ⟨g, 0, none⟩)) (hv : tmps.getD u undef = v) :
    (results fn tmps).run Try.prog w = .ok (.tuple #[.agg cs, v]) w :=
  results_row_tmp hf tmps w g _ _ _ _ v hp h Try.underlying38 rfl (by rw [hcs]; exact msg_size) hv
theorem row17 {w : World} {g : Nat} {x0 x1 x2 x3 x4 x5 x6 x7 x8 x9 x10 x11 x12 x13 x14 x15 x16 : Value} {t : TypeId} {fr : Nat × Nat} (h : w.heap[g]? = some (.cells #[x0, x1, x2, x3, x4, x5, x6, x7, x8, x9, x10, x11, x12, x13, x14, x15, x16] t fr)) : w.cell? ⟨g, 0, none⟩ = some x0 ∧ w.cell? ⟨g, 1, none⟩ = some x1 ∧ w.cell? ⟨g, 2, none⟩ = some x2 ∧ w.cell? ⟨g, 3, none⟩ = some x3 ∧ w.cell? ⟨g, 4, none⟩ = some x4 ∧ w.cell? ⟨g, 5, none⟩ = some x5 ∧ w.cell? ⟨g, 6, none⟩ = some x6 ∧ w.cell? ⟨g, 7, none⟩ = some x7 ∧ w.cell? ⟨g, 8, none⟩ = some x8 ∧ w.cell? ⟨g, 9, none⟩ = some x9 ∧ w.cell? ⟨g, 10, none⟩ = some x10 ∧ w.cell? ⟨g, 11, none⟩ = some x11 ∧ w.cell? ⟨g, 12, none⟩ = some x12 ∧ w.cell? ⟨g, 13, none⟩ = some x13 ∧ w.cell? ⟨g, 14, none⟩ = some x14 ∧ w.cell? ⟨g, 15, none⟩ = some x15 ∧ w.cell? ⟨g, 16, none⟩ = some x16 := by
  simp [World.cell?, h]
theorem zero_one : (#[.int .i64 0, .int .i64 0, .int .i64 0, .int .i64 0, .int .i64 0, .int .i64 0, .int .u64 0, .int .u64 0, .string ⟨#[]⟩, .bool false, .int .u64 0, .bool false, .string ⟨#[]⟩, .slice none 0 0, .string ⟨#[]⟩, .int .u64 0, .int .u64 0] : Array Value).all (·.oneCell') = true := by simp [Value.oneCell']
theorem two_second (w : World) (o o' : Obj) : ((w.alloc o).alloc o').heap[w.heap.size + 1]? = some o' := by
  have := heap_alloc_new (w.alloc o) o'
  simpa using this
theorem two_below (w : World) (o o' : Obj) : Below w.heap.size w ((w.alloc o).alloc o') := ((Below.refl _ _).alloc (Nat.le_refl _) _).alloc (by simp) _

set_option maxHeartbeats 8000000 in
theorem refProject_none (v : Int) (hv : -9223372036854775808 ≤ v ∧ v ≤ 9223372036854775807) (h : lastOfM v = 0) (m : Mg) (sl : Value) (w : World) :
    Calls Try.prog 29 #[.int .i64 v, .agg (m.cells sl)] w (MsgOut mg0 1 w) := by
  have hl := last_any v hv
  rw [h] at hl
  have HL := Lib.hid hl
  obtain ⟨kind, frm, to_, node, life, seq, a, b, key, found, time, gone, val, ws, note, hint, must⟩ := m
  clear hl h
  show Calls _ _ #[.int .i64 v, .agg #[.int .i64 kind, .int .i64 frm, .int .i64 to_, .int .i64 node, .int .i64 life, .int .i64 seq, .int .u64 a, .int .u64 b, .string key, .bool found, .int .u64 time, .bool gone, .string val, sl, .string note, .int .u64 hint, .int .u64 must]] w _
  go_enter Try.func29, Try.ntmps29
  go_wp2_with (go_at_call 32; refine (HL.out _).mono ?_; rintro e w' ⟨rfl, rfl⟩)
  exact bodyPost_ret (msg_ret (two_second _ _ _) rfl rfl rfl rfl) rfl ⟨.slice none 0 0, rfl, WsAt.nil _, two_below _ _ _⟩

set_option maxHeartbeats 8000000 in
theorem refProject_wrong (v : Int) (hv : -9223372036854775808 ≤ v ∧ v ≤ 9223372036854775807) (h : ¬ lastOfM v = 0) (m : Mg) (sl : Value) (hf : m.fits) (hw : m.few) (hr : rightBM m = false) (w : World) (hws : WsAt w sl m.ws) :
    Calls Try.prog 29 #[.int .i64 v, .agg (m.cells sl)] w (MsgOut mg0 1 w) := by
  have HL := Lib.hid (last_any v hv)
  have hrt := fun (W : World) (hW : WsAt W sl m.ws) => refRight_any m sl hf hw W hW
  rw [hr] at hrt
  unfold Mg.cells at hrt
  have HR := Lib.hid hrt
  have HWS := Lib.hid hws
  obtain ⟨kind, frm, to_, node, life, seq, a, b, key, found, time, gone, val, ws, note, hint, must⟩ := m
  simp only at HR HWS
  have hne : (((lastOfM v : Nat) : Int) == 0) = false := by rw [beq_eq_false_iff_ne]; omega
  obtain ⟨lv, hlv⟩ : ∃ lv, lv = lastOfM v := ⟨_, rfl⟩
  rw [← hlv] at hne HL
  clear hrt hr hws hf hw h hlv
  show Calls _ _ #[.int .i64 v, .agg #[.int .i64 kind, .int .i64 frm, .int .i64 to_, .int .i64 node, .int .i64 life, .int .i64 seq, .int .u64 a, .int .u64 b, .string key, .bool found, .int .u64 time, .bool gone, .string val, sl, .string note, .int .u64 hint, .int .u64 must]] w _
  go_enter Try.func29, Try.ntmps29
  go_upto_region 1 with fail
  obtain ⟨W2, hW2⟩ : ∃ W2, W2 = (w.alloc (.cells #[.int .i64 kind, .int .i64 frm, .int .i64 to_, .int .i64 node, .int .i64 life, .int .i64 seq, .int .u64 a, .int .u64 b, .string key, .bool found, .int .u64 time, .bool gone, .string val, sl, .string note, .int .u64 hint, .int .u64 must] 38)).alloc (.cells #[.int .i64 0, .int .i64 0, .int .i64 0, .int .i64 0, .int .i64 0, .int .i64 0, .int .u64 0, .int .u64 0, .string ⟨#[]⟩, .bool false, .int .u64 0, .bool false, .string ⟨#[]⟩, .slice none 0 0, .string ⟨#[]⟩, .int .u64 0, .int .u64 0] 38) := ⟨_, rfl⟩
  have hB2 : Below w.heap.size w W2 := by rw [hW2]; exact two_below _ _ _
  have hrow : W2.heap[w.heap.size]? = some (.cells #[.int .i64 kind, .int .i64 frm, .int .i64 to_, .int .i64 node, .int .i64 life, .int .i64 seq, .int .u64 a, .int .u64 b, .string key, .bool found, .int .u64 time, .bool gone, .string val, sl, .string note, .int .u64 hint, .int .u64 must] 38 (0, 0)) := by rw [hW2, Below.heap_alloc _ _ _ (by simp)]; exact heap_alloc_new w _
  have hres : W2.heap[w.heap.size + 1]? = some (.cells #[.int .i64 0, .int .i64 0, .int .i64 0, .int .i64 0, .int .i64 0, .int .i64 0, .int .u64 0, .int .u64 0, .string ⟨#[]⟩, .bool false, .int .u64 0, .bool false, .string ⟨#[]⟩, .slice none 0 0, .string ⟨#[]⟩, .int .u64 0, .int .u64 0] 38 (0, 0)) := by rw [hW2]; exact two_second _ _ _
  have hz2 : W2.heap.size = w.heap.size + 2 := by rw [hW2]; simp
  rw [← hW2]
  obtain ⟨c0, c1, c2, c3, c4, c5, c6, c7, c8, c9, c10, c11, c12, c13, c14, c15, c16⟩ := row17 hrow
  have HB2 := Lib.hid hB2
  have HROW := Lib.hid hrow
  have HRES := Lib.hid hres
  have HZ2 := Lib.hid hz2
  clear hW2 hB2 hrow hres hz2
  go_wp2_with (first
    | (go_at_call 32; refine (HL.out _).mono ?_; rintro e w' ⟨rfl, rfl⟩)
    | (go_at_call 43; refine (HR.out _ (HWS.out.below HB2.out)).mono ?_; rintro e w3 ⟨rfl, hb3⟩; have hres3 := (hb3.block (w.heap.size + 1) (by rw [HZ2.out]; omega)).trans HRES.out; clear c0 c1 c2 c3 c4 c5 c6 c7 c8 c9 c10 c11 c12 c13 c14 c15 c16)
    | (refine wpList_store_row rfl 38 _ _ rfl (w.heap.size + 1) #[.int .i64 0, .int .i64 0, .int .i64 0, .int .i64 0, .int .i64 0, .int .i64 0, .int .u64 0, .int .u64 0, .string ⟨#[]⟩, .bool false, .int .u64 0, .bool false, .string ⟨#[]⟩, .slice none 0 0, .string ⟨#[]⟩, .int .u64 0, .int .u64 0] rfl rfl 38 #[.int .i64 0, .int .i64 0, .int .i64 0, .int .i64 0, .int .i64 0, .int .i64 0, .int .u64 0, .int .u64 0, .string ⟨#[]⟩, .bool false, .int .u64 0, .bool false, .string ⟨#[]⟩, .slice none 0 0, .string ⟨#[]⟩, .int .u64 0, .int .u64 0] hres3 msg_size rfl zero_one ?_))
  exact bodyPost_ret (msg_ret (setRow_heap _ _ _ _ _ _ hres3) rfl rfl rfl rfl) rfl ⟨.slice none 0 0, rfl, WsAt.nil _, below_setRow (HB2.out.trans (hb3.mono HB2.out.size)) (by omega) _⟩
end Go.Proofs.Ytbhlgceicfjncaa
