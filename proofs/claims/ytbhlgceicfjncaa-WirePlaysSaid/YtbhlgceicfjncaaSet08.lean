/-
  The walk of the document's Project, of right messages.
-/
import Derived.Test.YtbhlgceicfjncaaSet07
namespace Go.Proofs.Ytbhlgceicfjncaa
open Go.RowKit
set_option linter.unusedVariables false
set_option linter.unnecessarySimpa false
set_option linter.unusedSimpArgs false
set_option maxRecDepth 100000

theorem below_set {B g j : Nat} {w0 w : World} (h : Below B w0 w) (hg : B ≤ g) (v : Value) : Below B w0 (w.setCell ⟨g, j, none⟩ v) := h.setCell hg v


set_option maxHeartbeats 8000000 in
theorem refProject_crit1 (m : Mg) (sl : Value) (hf : m.fits) (hw : m.few) (hr : rightBM m = true) (hmu : ¬ m.must = 0) (w : World) (hws : WsAt w sl m.ws) :
    Calls Try.prog 29 #[.int .i64 1, .agg (m.cells sl)] w (MsgOut mg0 4 w) := by
  have HL := Lib.hid (last_any (1 : Int) (by omega))
  have hrt := fun (W : World) (hW : WsAt W sl m.ws) => refRight_any m sl hf hw W hW
  rw [hr] at hrt
  unfold Mg.cells at hrt
  have HR := Lib.hid hrt
  have HWS := Lib.hid hws
  obtain ⟨p, len, cap, rfl, _, _⟩ := hws
  obtain ⟨kind, frm, to_, node, life, seq, a, b, key, found, time, gone, val, ws, note, hint, must⟩ := m
  simp only at HR HWS
  simp only at hmu
  have hmt : ((must : Int) != 0) = true := by rw [bne_iff_ne]; omega
  clear hmu
  clear hrt hr hf hw
  show Calls _ _ #[.int .i64 1, .agg #[.int .i64 kind, .int .i64 frm, .int .i64 to_, .int .i64 node, .int .i64 life, .int .i64 seq, .int .u64 a, .int .u64 b, .string key, .bool found, .int .u64 time, .bool gone, .string val, .slice p len cap, .string note, .int .u64 hint, .int .u64 must]] w _
  go_enter Try.func29, Try.ntmps29
  go_upto_region 1 with fail
  obtain ⟨W2, hW2⟩ : ∃ W2, W2 = (w.alloc (.cells #[.int .i64 kind, .int .i64 frm, .int .i64 to_, .int .i64 node, .int .i64 life, .int .i64 seq, .int .u64 a, .int .u64 b, .string key, .bool found, .int .u64 time, .bool gone, .string val, .slice p len cap, .string note, .int .u64 hint, .int .u64 must] 38)).alloc (.cells #[.int .i64 0, .int .i64 0, .int .i64 0, .int .i64 0, .int .i64 0, .int .i64 0, .int .u64 0, .int .u64 0, .string ⟨#[]⟩, .bool false, .int .u64 0, .bool false, .string ⟨#[]⟩, .slice none 0 0, .string ⟨#[]⟩, .int .u64 0, .int .u64 0] 38) := ⟨_, rfl⟩
  have hB2 : Below w.heap.size w W2 := by rw [hW2]; exact two_below _ _ _
  have hrow : W2.heap[w.heap.size]? = some (.cells #[.int .i64 kind, .int .i64 frm, .int .i64 to_, .int .i64 node, .int .i64 life, .int .i64 seq, .int .u64 a, .int .u64 b, .string key, .bool found, .int .u64 time, .bool gone, .string val, .slice p len cap, .string note, .int .u64 hint, .int .u64 must] 38 (0, 0)) := by rw [hW2, Below.heap_alloc _ _ _ (by simp)]; exact heap_alloc_new w _
  have hres : W2.heap[w.heap.size + 1]? = some (.cells #[.int .i64 0, .int .i64 0, .int .i64 0, .int .i64 0, .int .i64 0, .int .i64 0, .int .u64 0, .int .u64 0, .string ⟨#[]⟩, .bool false, .int .u64 0, .bool false, .string ⟨#[]⟩, .slice none 0 0, .string ⟨#[]⟩, .int .u64 0, .int .u64 0] 38 (0, 0)) := by rw [hW2]; exact two_second _ _ _
  have hz2 : W2.heap.size = w.heap.size + 2 := by rw [hW2]; simp
  rw [← hW2]
  obtain ⟨c0, c1, c2, c3, c4, c5, c6, c7, c8, c9, c10, c11, c12, c13, c14, c15, c16⟩ := row17 hrow
  have HB2 := Lib.hid hB2
  have HROW := Lib.hid hrow
  have HRES := Lib.hid hres
  have HZ2 := Lib.hid hz2
  clear hW2 hB2 hrow hres hz2
  go_upto_region 3 with (first
    | (go_at_call 32; refine (HL.out _).mono ?_; rintro e w' ⟨rfl, rfl⟩)
    | (go_at_call 43; refine (HR.out _ (HWS.out.below HB2.out)).mono ?_; rintro e w3 ⟨rfl, hb3⟩))
  have hres3 := (hb3.block (w.heap.size + 1) (by rw [HZ2.out]; omega)).trans HRES.out
  have hrow3 := (hb3.block w.heap.size (by rw [HZ2.out]; omega)).trans HROW.out
  have HB3 := Lib.hid (HB2.out.trans (hb3.mono HB2.out.size))
  have d16 : w3.cell? ⟨w.heap.size, 16, none⟩ = some (.int .u64 must) := by simp [World.cell?, hrow3]
  have HRES3 := Lib.hid hres3
  have HROW3 := Lib.hid hrow3
  clear c0 c1 c2 c3 c4 c5 c6 c7 c8 c9 c10 c11 c12 c13 c14 c15 c16 hb3 HB2 HRES HROW hres3 hrow3
  go_wp2_with (refine wpList_store_row rfl 38 _ _ rfl (w.heap.size + 1) #[.int .i64 0, .int .i64 0, .int .i64 0, .int .i64 0, .int .i64 0, .int .i64 0, .int .u64 0, .int .u64 0, .string ⟨#[]⟩, .bool false, .int .u64 0, .bool false, .string ⟨#[]⟩, .slice none 0 0, .string ⟨#[]⟩, .int .u64 0, .int .u64 0] rfl rfl 38 #[.int .i64 0, .int .i64 0, .int .i64 0, .int .i64 0, .int .i64 0, .int .i64 0, .int .u64 0, .int .u64 0, .string ⟨#[]⟩, .bool false, .int .u64 0, .bool false, .string ⟨#[]⟩, .slice none 0 0, .string ⟨#[]⟩, .int .u64 0, .int .u64 0] HRES3.out msg_size rfl zero_one ?_)
  exact bodyPost_ret (msg_ret (setRow_heap _ _ _ _ _ _ HRES3.out) rfl rfl rfl rfl) rfl ⟨.slice none 0 0, rfl, WsAt.nil _, below_setRow HB3.out (by omega) _⟩


set_option maxHeartbeats 8000000 in
theorem refProject_crit2 (m : Mg) (sl : Value) (hf : m.fits) (hw : m.few) (hr : rightBM m = true) (hmu : ¬ m.must = 0) (w : World) (hws : WsAt w sl m.ws) :
    Calls Try.prog 29 #[.int .i64 2, .agg (m.cells sl)] w (MsgOut mg0 4 w) := by
  have HL := Lib.hid (last_any (2 : Int) (by omega))
  have hrt := fun (W : World) (hW : WsAt W sl m.ws) => refRight_any m sl hf hw W hW
  rw [hr] at hrt
  unfold Mg.cells at hrt
  have HR := Lib.hid hrt
  have HWS := Lib.hid hws
  obtain ⟨p, len, cap, rfl, _, _⟩ := hws
  obtain ⟨kind, frm, to_, node, life, seq, a, b, key, found, time, gone, val, ws, note, hint, must⟩ := m
  simp only at HR HWS
  simp only at hmu
  have hmt : ((must : Int) != 0) = true := by rw [bne_iff_ne]; omega
  clear hmu
  clear hrt hr hf hw
  show Calls _ _ #[.int .i64 2, .agg #[.int .i64 kind, .int .i64 frm, .int .i64 to_, .int .i64 node, .int .i64 life, .int .i64 seq, .int .u64 a, .int .u64 b, .string key, .bool found, .int .u64 time, .bool gone, .string val, .slice p len cap, .string note, .int .u64 hint, .int .u64 must]] w _
  go_enter Try.func29, Try.ntmps29
  go_upto_region 1 with fail
  obtain ⟨W2, hW2⟩ : ∃ W2, W2 = (w.alloc (.cells #[.int .i64 kind, .int .i64 frm, .int .i64 to_, .int .i64 node, .int .i64 life, .int .i64 seq, .int .u64 a, .int .u64 b, .string key, .bool found, .int .u64 time, .bool gone, .string val, .slice p len cap, .string note, .int .u64 hint, .int .u64 must] 38)).alloc (.cells #[.int .i64 0, .int .i64 0, .int .i64 0, .int .i64 0, .int .i64 0, .int .i64 0, .int .u64 0, .int .u64 0, .string ⟨#[]⟩, .bool false, .int .u64 0, .bool false, .string ⟨#[]⟩, .slice none 0 0, .string ⟨#[]⟩, .int .u64 0, .int .u64 0] 38) := ⟨_, rfl⟩
  have hB2 : Below w.heap.size w W2 := by rw [hW2]; exact two_below _ _ _
  have hrow : W2.heap[w.heap.size]? = some (.cells #[.int .i64 kind, .int .i64 frm, .int .i64 to_, .int .i64 node, .int .i64 life, .int .i64 seq, .int .u64 a, .int .u64 b, .string key, .bool found, .int .u64 time, .bool gone, .string val, .slice p len cap, .string note, .int .u64 hint, .int .u64 must] 38 (0, 0)) := by rw [hW2, Below.heap_alloc _ _ _ (by simp)]; exact heap_alloc_new w _
  have hres : W2.heap[w.heap.size + 1]? = some (.cells #[.int .i64 0, .int .i64 0, .int .i64 0, .int .i64 0, .int .i64 0, .int .i64 0, .int .u64 0, .int .u64 0, .string ⟨#[]⟩, .bool false, .int .u64 0, .bool false, .string ⟨#[]⟩, .slice none 0 0, .string ⟨#[]⟩, .int .u64 0, .int .u64 0] 38 (0, 0)) := by rw [hW2]; exact two_second _ _ _
  have hz2 : W2.heap.size = w.heap.size + 2 := by rw [hW2]; simp
  rw [← hW2]
  obtain ⟨c0, c1, c2, c3, c4, c5, c6, c7, c8, c9, c10, c11, c12, c13, c14, c15, c16⟩ := row17 hrow
  have HB2 := Lib.hid hB2
  have HROW := Lib.hid hrow
  have HRES := Lib.hid hres
  have HZ2 := Lib.hid hz2
  clear hW2 hB2 hrow hres hz2
  go_upto_region 3 with (first
    | (go_at_call 32; refine (HL.out _).mono ?_; rintro e w' ⟨rfl, rfl⟩)
    | (go_at_call 43; refine (HR.out _ (HWS.out.below HB2.out)).mono ?_; rintro e w3 ⟨rfl, hb3⟩))
  have hres3 := (hb3.block (w.heap.size + 1) (by rw [HZ2.out]; omega)).trans HRES.out
  have hrow3 := (hb3.block w.heap.size (by rw [HZ2.out]; omega)).trans HROW.out
  have HB3 := Lib.hid (HB2.out.trans (hb3.mono HB2.out.size))
  have d16 : w3.cell? ⟨w.heap.size, 16, none⟩ = some (.int .u64 must) := by simp [World.cell?, hrow3]
  have HRES3 := Lib.hid hres3
  have HROW3 := Lib.hid hrow3
  clear c0 c1 c2 c3 c4 c5 c6 c7 c8 c9 c10 c11 c12 c13 c14 c15 c16 hb3 HB2 HRES HROW hres3 hrow3
  go_wp2_with (refine wpList_store_row rfl 38 _ _ rfl (w.heap.size + 1) #[.int .i64 0, .int .i64 0, .int .i64 0, .int .i64 0, .int .i64 0, .int .i64 0, .int .u64 0, .int .u64 0, .string ⟨#[]⟩, .bool false, .int .u64 0, .bool false, .string ⟨#[]⟩, .slice none 0 0, .string ⟨#[]⟩, .int .u64 0, .int .u64 0] rfl rfl 38 #[.int .i64 0, .int .i64 0, .int .i64 0, .int .i64 0, .int .i64 0, .int .i64 0, .int .u64 0, .int .u64 0, .string ⟨#[]⟩, .bool false, .int .u64 0, .bool false, .string ⟨#[]⟩, .slice none 0 0, .string ⟨#[]⟩, .int .u64 0, .int .u64 0] HRES3.out msg_size rfl zero_one ?_)
  exact bodyPost_ret (msg_ret (setRow_heap _ _ _ _ _ _ HRES3.out) rfl rfl rfl rfl) rfl ⟨.slice none 0 0, rfl, WsAt.nil _, below_setRow HB3.out (by omega) _⟩


set_option maxHeartbeats 8000000 in
theorem refProject_ok1 (m : Mg) (sl : Value) (hf : m.fits) (hw : m.few) (hr : rightBM m = true) (hmu : m.must = 0) (w : World) (hws : WsAt w sl m.ws) :
    Calls Try.prog 29 #[.int .i64 1, .agg (m.cells sl)] w (MsgOut (cut 1 m) 0 w) := by
  have HL := Lib.hid (last_any (1 : Int) (by omega))
  have hrt := fun (W : World) (hW : WsAt W sl m.ws) => refRight_any m sl hf hw W hW
  rw [hr] at hrt
  unfold Mg.cells at hrt
  have HR := Lib.hid hrt
  have HWS := Lib.hid hws
  obtain ⟨p, len, cap, rfl, _, _⟩ := hws
  obtain ⟨kind, frm, to_, node, life, seq, a, b, key, found, time, gone, val, ws, note, hint, must⟩ := m
  simp only at HR HWS
  have hmt : ((must : Int) != 0) = false := by simp only at hmu; subst hmu; rfl
  clear hmu
  clear hrt hr hf hw
  show Calls _ _ #[.int .i64 1, .agg #[.int .i64 kind, .int .i64 frm, .int .i64 to_, .int .i64 node, .int .i64 life, .int .i64 seq, .int .u64 a, .int .u64 b, .string key, .bool found, .int .u64 time, .bool gone, .string val, .slice p len cap, .string note, .int .u64 hint, .int .u64 must]] w _
  go_enter Try.func29, Try.ntmps29
  go_upto_region 1 with fail
  obtain ⟨W2, hW2⟩ : ∃ W2, W2 = (w.alloc (.cells #[.int .i64 kind, .int .i64 frm, .int .i64 to_, .int .i64 node, .int .i64 life, .int .i64 seq, .int .u64 a, .int .u64 b, .string key, .bool found, .int .u64 time, .bool gone, .string val, .slice p len cap, .string note, .int .u64 hint, .int .u64 must] 38)).alloc (.cells #[.int .i64 0, .int .i64 0, .int .i64 0, .int .i64 0, .int .i64 0, .int .i64 0, .int .u64 0, .int .u64 0, .string ⟨#[]⟩, .bool false, .int .u64 0, .bool false, .string ⟨#[]⟩, .slice none 0 0, .string ⟨#[]⟩, .int .u64 0, .int .u64 0] 38) := ⟨_, rfl⟩
  have hB2 : Below w.heap.size w W2 := by rw [hW2]; exact two_below _ _ _
  have hrow : W2.heap[w.heap.size]? = some (.cells #[.int .i64 kind, .int .i64 frm, .int .i64 to_, .int .i64 node, .int .i64 life, .int .i64 seq, .int .u64 a, .int .u64 b, .string key, .bool found, .int .u64 time, .bool gone, .string val, .slice p len cap, .string note, .int .u64 hint, .int .u64 must] 38 (0, 0)) := by rw [hW2, Below.heap_alloc _ _ _ (by simp)]; exact heap_alloc_new w _
  have hres : W2.heap[w.heap.size + 1]? = some (.cells #[.int .i64 0, .int .i64 0, .int .i64 0, .int .i64 0, .int .i64 0, .int .i64 0, .int .u64 0, .int .u64 0, .string ⟨#[]⟩, .bool false, .int .u64 0, .bool false, .string ⟨#[]⟩, .slice none 0 0, .string ⟨#[]⟩, .int .u64 0, .int .u64 0] 38 (0, 0)) := by rw [hW2]; exact two_second _ _ _
  have hz2 : W2.heap.size = w.heap.size + 2 := by rw [hW2]; simp
  rw [← hW2]
  obtain ⟨c0, c1, c2, c3, c4, c5, c6, c7, c8, c9, c10, c11, c12, c13, c14, c15, c16⟩ := row17 hrow
  have HB2 := Lib.hid hB2
  have HROW := Lib.hid hrow
  have HRES := Lib.hid hres
  have HZ2 := Lib.hid hz2
  clear hW2 hB2 hrow hres hz2
  go_upto_region 3 with (first
    | (go_at_call 32; refine (HL.out _).mono ?_; rintro e w' ⟨rfl, rfl⟩)
    | (go_at_call 43; refine (HR.out _ (HWS.out.below HB2.out)).mono ?_; rintro e w3 ⟨rfl, hb3⟩))
  have hres3 := (hb3.block (w.heap.size + 1) (by rw [HZ2.out]; omega)).trans HRES.out
  have hrow3 := (hb3.block w.heap.size (by rw [HZ2.out]; omega)).trans HROW.out
  have HB3 := Lib.hid (HB2.out.trans (hb3.mono HB2.out.size))
  have d16 : w3.cell? ⟨w.heap.size, 16, none⟩ = some (.int .u64 must) := by simp [World.cell?, hrow3]
  have HRES3 := Lib.hid hres3
  have HROW3 := Lib.hid hrow3
  clear c0 c1 c2 c3 c4 c5 c6 c7 c8 c9 c10 c11 c12 c13 c14 c15 c16 hb3 HB2 HRES HROW hres3 hrow3
  have d15 : w3.cell? ⟨w.heap.size, 15, none⟩ = some (.int .u64 hint) := by simp [World.cell?, HROW3.out]
  have f15 : w3.frozen? ⟨w.heap.size, 15, none⟩ = false := by simp [World.frozen?, HROW3.out]
  have d14 : w3.cell? ⟨w.heap.size, 14, none⟩ = some (.string note) := by simp [World.cell?, HROW3.out]
  have f14 : w3.frozen? ⟨w.heap.size, 14, none⟩ = false := by simp [World.frozen?, HROW3.out]
  have HROW4 := Lib.hid (show ((w3.setCell ⟨w.heap.size, 15, none⟩ (.int .u64 0)).setCell ⟨w.heap.size, 14, none⟩ (.string ⟨#[]⟩)).heap[w.heap.size]? = some (.cells #[.int .i64 kind, .int .i64 frm, .int .i64 to_, .int .i64 node, .int .i64 life, .int .i64 seq, .int .u64 a, .int .u64 b, .string key, .bool found, .int .u64 time, .bool gone, .string val, .slice p len cap, .string ⟨#[]⟩, .int .u64 0, .int .u64 must] 38 (0, 0)) from by rw [heap_setCell_same _ _ _ _ _ _ (heap_setCell_same _ _ _ _ _ _ HROW3.out)]; rfl)
  have HRES4 := Lib.hid (show ((w3.setCell ⟨w.heap.size, 15, none⟩ (.int .u64 0)).setCell ⟨w.heap.size, 14, none⟩ (.string ⟨#[]⟩)).heap[w.heap.size + 1]? = some (.cells #[.int .i64 0, .int .i64 0, .int .i64 0, .int .i64 0, .int .i64 0, .int .i64 0, .int .u64 0, .int .u64 0, .string ⟨#[]⟩, .bool false, .int .u64 0, .bool false, .string ⟨#[]⟩, .slice none 0 0, .string ⟨#[]⟩, .int .u64 0, .int .u64 0] 38 (0, 0)) from by rw [heap_setCell_other _ _ _ _ (by simp), heap_setCell_other _ _ _ _ (by simp)]; exact HRES3.out)
  have HB4 := Lib.hid (show Below w.heap.size w ((w3.setCell ⟨w.heap.size, 15, none⟩ (.int .u64 0)).setCell ⟨w.heap.size, 14, none⟩ (.string ⟨#[]⟩)) from below_set (below_set HB3.out (Nat.le_refl _) _) (Nat.le_refl _) _)
  go_wp2_with (first
    | (refine wpList_load_row rfl 38 _ rfl w.heap.size rfl 38 #[.int .i64 kind, .int .i64 frm, .int .i64 to_, .int .i64 node, .int .i64 life, .int .i64 seq, .int .u64 a, .int .u64 b, .string key, .bool found, .int .u64 time, .bool gone, .string val, .slice p len cap, .string ⟨#[]⟩, .int .u64 0, .int .u64 must] (0, 0) _ HROW4.out Try.underlying38 rfl msg_size ?_)
    | (refine wpList_store_row rfl 38 _ _ rfl (w.heap.size + 1) #[.int .i64 kind, .int .i64 frm, .int .i64 to_, .int .i64 node, .int .i64 life, .int .i64 seq, .int .u64 a, .int .u64 b, .string key, .bool found, .int .u64 time, .bool gone, .string val, .slice p len cap, .string ⟨#[]⟩, .int .u64 0, .int .u64 must] rfl rfl 38 #[.int .i64 0, .int .i64 0, .int .i64 0, .int .i64 0, .int .i64 0, .int .i64 0, .int .u64 0, .int .u64 0, .string ⟨#[]⟩, .bool false, .int .u64 0, .bool false, .string ⟨#[]⟩, .slice none 0 0, .string ⟨#[]⟩, .int .u64 0, .int .u64 0] HRES4.out msg_size rfl (by simp [Value.oneCell']) ?_))
  exact bodyPost_ret (msg_ret (setRow_heap _ _ _ _ _ _ HRES4.out) rfl rfl rfl rfl) rfl ⟨.slice p len cap, rfl, HWS.out.below (below_setRow HB4.out (by omega) _), below_setRow HB4.out (by omega) _⟩


set_option maxHeartbeats 8000000 in
theorem refProject_ok2 (m : Mg) (sl : Value) (hf : m.fits) (hw : m.few) (hr : rightBM m = true) (hmu : m.must = 0) (w : World) (hws : WsAt w sl m.ws) :
    Calls Try.prog 29 #[.int .i64 2, .agg (m.cells sl)] w (MsgOut (cut 2 m) 0 w) := by
  have HL := Lib.hid (last_any (2 : Int) (by omega))
  have hrt := fun (W : World) (hW : WsAt W sl m.ws) => refRight_any m sl hf hw W hW
  rw [hr] at hrt
  unfold Mg.cells at hrt
  have HR := Lib.hid hrt
  have HWS := Lib.hid hws
  obtain ⟨p, len, cap, rfl, _, _⟩ := hws
  obtain ⟨kind, frm, to_, node, life, seq, a, b, key, found, time, gone, val, ws, note, hint, must⟩ := m
  simp only at HR HWS
  have hmt : ((must : Int) != 0) = false := by simp only at hmu; subst hmu; rfl
  clear hmu
  clear hrt hr hf hw
  show Calls _ _ #[.int .i64 2, .agg #[.int .i64 kind, .int .i64 frm, .int .i64 to_, .int .i64 node, .int .i64 life, .int .i64 seq, .int .u64 a, .int .u64 b, .string key, .bool found, .int .u64 time, .bool gone, .string val, .slice p len cap, .string note, .int .u64 hint, .int .u64 must]] w _
  go_enter Try.func29, Try.ntmps29
  go_upto_region 1 with fail
  obtain ⟨W2, hW2⟩ : ∃ W2, W2 = (w.alloc (.cells #[.int .i64 kind, .int .i64 frm, .int .i64 to_, .int .i64 node, .int .i64 life, .int .i64 seq, .int .u64 a, .int .u64 b, .string key, .bool found, .int .u64 time, .bool gone, .string val, .slice p len cap, .string note, .int .u64 hint, .int .u64 must] 38)).alloc (.cells #[.int .i64 0, .int .i64 0, .int .i64 0, .int .i64 0, .int .i64 0, .int .i64 0, .int .u64 0, .int .u64 0, .string ⟨#[]⟩, .bool false, .int .u64 0, .bool false, .string ⟨#[]⟩, .slice none 0 0, .string ⟨#[]⟩, .int .u64 0, .int .u64 0] 38) := ⟨_, rfl⟩
  have hB2 : Below w.heap.size w W2 := by rw [hW2]; exact two_below _ _ _
  have hrow : W2.heap[w.heap.size]? = some (.cells #[.int .i64 kind, .int .i64 frm, .int .i64 to_, .int .i64 node, .int .i64 life, .int .i64 seq, .int .u64 a, .int .u64 b, .string key, .bool found, .int .u64 time, .bool gone, .string val, .slice p len cap, .string note, .int .u64 hint, .int .u64 must] 38 (0, 0)) := by rw [hW2, Below.heap_alloc _ _ _ (by simp)]; exact heap_alloc_new w _
  have hres : W2.heap[w.heap.size + 1]? = some (.cells #[.int .i64 0, .int .i64 0, .int .i64 0, .int .i64 0, .int .i64 0, .int .i64 0, .int .u64 0, .int .u64 0, .string ⟨#[]⟩, .bool false, .int .u64 0, .bool false, .string ⟨#[]⟩, .slice none 0 0, .string ⟨#[]⟩, .int .u64 0, .int .u64 0] 38 (0, 0)) := by rw [hW2]; exact two_second _ _ _
  have hz2 : W2.heap.size = w.heap.size + 2 := by rw [hW2]; simp
  rw [← hW2]
  obtain ⟨c0, c1, c2, c3, c4, c5, c6, c7, c8, c9, c10, c11, c12, c13, c14, c15, c16⟩ := row17 hrow
  have HB2 := Lib.hid hB2
  have HROW := Lib.hid hrow
  have HRES := Lib.hid hres
  have HZ2 := Lib.hid hz2
  clear hW2 hB2 hrow hres hz2
  go_upto_region 3 with (first
    | (go_at_call 32; refine (HL.out _).mono ?_; rintro e w' ⟨rfl, rfl⟩)
    | (go_at_call 43; refine (HR.out _ (HWS.out.below HB2.out)).mono ?_; rintro e w3 ⟨rfl, hb3⟩))
  have hres3 := (hb3.block (w.heap.size + 1) (by rw [HZ2.out]; omega)).trans HRES.out
  have hrow3 := (hb3.block w.heap.size (by rw [HZ2.out]; omega)).trans HROW.out
  have HB3 := Lib.hid (HB2.out.trans (hb3.mono HB2.out.size))
  have d16 : w3.cell? ⟨w.heap.size, 16, none⟩ = some (.int .u64 must) := by simp [World.cell?, hrow3]
  have HRES3 := Lib.hid hres3
  have HROW3 := Lib.hid hrow3
  clear c0 c1 c2 c3 c4 c5 c6 c7 c8 c9 c10 c11 c12 c13 c14 c15 c16 hb3 HB2 HRES HROW hres3 hrow3
  have d15 : w3.cell? ⟨w.heap.size, 15, none⟩ = some (.int .u64 hint) := by simp [World.cell?, HROW3.out]
  have f15 : w3.frozen? ⟨w.heap.size, 15, none⟩ = false := by simp [World.frozen?, HROW3.out]
  have HROW4 := Lib.hid (show (w3.setCell ⟨w.heap.size, 15, none⟩ (.int .u64 0)).heap[w.heap.size]? = some (.cells #[.int .i64 kind, .int .i64 frm, .int .i64 to_, .int .i64 node, .int .i64 life, .int .i64 seq, .int .u64 a, .int .u64 b, .string key, .bool found, .int .u64 time, .bool gone, .string val, .slice p len cap, .string note, .int .u64 0, .int .u64 must] 38 (0, 0)) from by rw [heap_setCell_same _ _ _ _ _ _ HROW3.out]; rfl)
  have HRES4 := Lib.hid (show (w3.setCell ⟨w.heap.size, 15, none⟩ (.int .u64 0)).heap[w.heap.size + 1]? = some (.cells #[.int .i64 0, .int .i64 0, .int .i64 0, .int .i64 0, .int .i64 0, .int .i64 0, .int .u64 0, .int .u64 0, .string ⟨#[]⟩, .bool false, .int .u64 0, .bool false, .string ⟨#[]⟩, .slice none 0 0, .string ⟨#[]⟩, .int .u64 0, .int .u64 0] 38 (0, 0)) from by rw [heap_setCell_other _ _ _ _ (by simp)]; exact HRES3.out)
  have HB4 := Lib.hid (show Below w.heap.size w (w3.setCell ⟨w.heap.size, 15, none⟩ (.int .u64 0)) from below_set HB3.out (Nat.le_refl _) _)
  go_wp2_with (first
    | (refine wpList_load_row rfl 38 _ rfl w.heap.size rfl 38 #[.int .i64 kind, .int .i64 frm, .int .i64 to_, .int .i64 node, .int .i64 life, .int .i64 seq, .int .u64 a, .int .u64 b, .string key, .bool found, .int .u64 time, .bool gone, .string val, .slice p len cap, .string note, .int .u64 0, .int .u64 must] (0, 0) _ HROW4.out Try.underlying38 rfl msg_size ?_)
    | (refine wpList_store_row rfl 38 _ _ rfl (w.heap.size + 1) #[.int .i64 kind, .int .i64 frm, .int .i64 to_, .int .i64 node, .int .i64 life, .int .i64 seq, .int .u64 a, .int .u64 b, .string key, .bool found, .int .u64 time, .bool gone, .string val, .slice p len cap, .string note, .int .u64 0, .int .u64 must] rfl rfl 38 #[.int .i64 0, .int .i64 0, .int .i64 0, .int .i64 0, .int .i64 0, .int .i64 0, .int .u64 0, .int .u64 0, .string ⟨#[]⟩, .bool false, .int .u64 0, .bool false, .string ⟨#[]⟩, .slice none 0 0, .string ⟨#[]⟩, .int .u64 0, .int .u64 0] HRES4.out msg_size rfl (by simp [Value.oneCell']) ?_))
  exact bodyPost_ret (msg_ret (setRow_heap _ _ _ _ _ _ HRES4.out) rfl rfl rfl rfl) rfl ⟨.slice p len cap, rfl, HWS.out.below (below_setRow HB4.out (by omega) _), below_setRow HB4.out (by omega) _⟩


set_option maxHeartbeats 8000000 in
theorem refProject_ok3 (m : Mg) (sl : Value) (hf : m.fits) (hw : m.few) (hr : rightBM m = true) (hmu : True) (w : World) (hws : WsAt w sl m.ws) :
    Calls Try.prog 29 #[.int .i64 3, .agg (m.cells sl)] w (MsgOut (cut 3 m) 0 w) := by
  have HL := Lib.hid (last_any (3 : Int) (by omega))
  have hrt := fun (W : World) (hW : WsAt W sl m.ws) => refRight_any m sl hf hw W hW
  rw [hr] at hrt
  unfold Mg.cells at hrt
  have HR := Lib.hid hrt
  have HWS := Lib.hid hws
  obtain ⟨p, len, cap, rfl, _, _⟩ := hws
  obtain ⟨kind, frm, to_, node, life, seq, a, b, key, found, time, gone, val, ws, note, hint, must⟩ := m
  simp only at HR HWS
  clear hmu
  clear hrt hr hf hw
  show Calls _ _ #[.int .i64 3, .agg #[.int .i64 kind, .int .i64 frm, .int .i64 to_, .int .i64 node, .int .i64 life, .int .i64 seq, .int .u64 a, .int .u64 b, .string key, .bool found, .int .u64 time, .bool gone, .string val, .slice p len cap, .string note, .int .u64 hint, .int .u64 must]] w _
  go_enter Try.func29, Try.ntmps29
  go_upto_region 1 with fail
  obtain ⟨W2, hW2⟩ : ∃ W2, W2 = (w.alloc (.cells #[.int .i64 kind, .int .i64 frm, .int .i64 to_, .int .i64 node, .int .i64 life, .int .i64 seq, .int .u64 a, .int .u64 b, .string key, .bool found, .int .u64 time, .bool gone, .string val, .slice p len cap, .string note, .int .u64 hint, .int .u64 must] 38)).alloc (.cells #[.int .i64 0, .int .i64 0, .int .i64 0, .int .i64 0, .int .i64 0, .int .i64 0, .int .u64 0, .int .u64 0, .string ⟨#[]⟩, .bool false, .int .u64 0, .bool false, .string ⟨#[]⟩, .slice none 0 0, .string ⟨#[]⟩, .int .u64 0, .int .u64 0] 38) := ⟨_, rfl⟩
  have hB2 : Below w.heap.size w W2 := by rw [hW2]; exact two_below _ _ _
  have hrow : W2.heap[w.heap.size]? = some (.cells #[.int .i64 kind, .int .i64 frm, .int .i64 to_, .int .i64 node, .int .i64 life, .int .i64 seq, .int .u64 a, .int .u64 b, .string key, .bool found, .int .u64 time, .bool gone, .string val, .slice p len cap, .string note, .int .u64 hint, .int .u64 must] 38 (0, 0)) := by rw [hW2, Below.heap_alloc _ _ _ (by simp)]; exact heap_alloc_new w _
  have hres : W2.heap[w.heap.size + 1]? = some (.cells #[.int .i64 0, .int .i64 0, .int .i64 0, .int .i64 0, .int .i64 0, .int .i64 0, .int .u64 0, .int .u64 0, .string ⟨#[]⟩, .bool false, .int .u64 0, .bool false, .string ⟨#[]⟩, .slice none 0 0, .string ⟨#[]⟩, .int .u64 0, .int .u64 0] 38 (0, 0)) := by rw [hW2]; exact two_second _ _ _
  have hz2 : W2.heap.size = w.heap.size + 2 := by rw [hW2]; simp
  rw [← hW2]
  obtain ⟨c0, c1, c2, c3, c4, c5, c6, c7, c8, c9, c10, c11, c12, c13, c14, c15, c16⟩ := row17 hrow
  have HB2 := Lib.hid hB2
  have HROW := Lib.hid hrow
  have HRES := Lib.hid hres
  have HZ2 := Lib.hid hz2
  clear hW2 hB2 hrow hres hz2
  go_upto_region 3 with (first
    | (go_at_call 32; refine (HL.out _).mono ?_; rintro e w' ⟨rfl, rfl⟩)
    | (go_at_call 43; refine (HR.out _ (HWS.out.below HB2.out)).mono ?_; rintro e w3 ⟨rfl, hb3⟩))
  have hres3 := (hb3.block (w.heap.size + 1) (by rw [HZ2.out]; omega)).trans HRES.out
  have hrow3 := (hb3.block w.heap.size (by rw [HZ2.out]; omega)).trans HROW.out
  have HB3 := Lib.hid (HB2.out.trans (hb3.mono HB2.out.size))
  have d16 : w3.cell? ⟨w.heap.size, 16, none⟩ = some (.int .u64 must) := by simp [World.cell?, hrow3]
  have HRES3 := Lib.hid hres3
  have HROW3 := Lib.hid hrow3
  clear c0 c1 c2 c3 c4 c5 c6 c7 c8 c9 c10 c11 c12 c13 c14 c15 c16 hb3 HB2 HRES HROW hres3 hrow3
  have HROW4 := Lib.hid (show w3.heap[w.heap.size]? = some (.cells #[.int .i64 kind, .int .i64 frm, .int .i64 to_, .int .i64 node, .int .i64 life, .int .i64 seq, .int .u64 a, .int .u64 b, .string key, .bool found, .int .u64 time, .bool gone, .string val, .slice p len cap, .string note, .int .u64 hint, .int .u64 must] 38 (0, 0)) from HROW3.out)
  have HRES4 := Lib.hid (show w3.heap[w.heap.size + 1]? = some (.cells #[.int .i64 0, .int .i64 0, .int .i64 0, .int .i64 0, .int .i64 0, .int .i64 0, .int .u64 0, .int .u64 0, .string ⟨#[]⟩, .bool false, .int .u64 0, .bool false, .string ⟨#[]⟩, .slice none 0 0, .string ⟨#[]⟩, .int .u64 0, .int .u64 0] 38 (0, 0)) from HRES3.out)
  have HB4 := Lib.hid (show Below w.heap.size w w3 from HB3.out)
  go_wp2_with (first
    | (refine wpList_load_row rfl 38 _ rfl w.heap.size rfl 38 #[.int .i64 kind, .int .i64 frm, .int .i64 to_, .int .i64 node, .int .i64 life, .int .i64 seq, .int .u64 a, .int .u64 b, .string key, .bool found, .int .u64 time, .bool gone, .string val, .slice p len cap, .string note, .int .u64 hint, .int .u64 must] (0, 0) _ HROW4.out Try.underlying38 rfl msg_size ?_)
    | (refine wpList_store_row rfl 38 _ _ rfl (w.heap.size + 1) #[.int .i64 kind, .int .i64 frm, .int .i64 to_, .int .i64 node, .int .i64 life, .int .i64 seq, .int .u64 a, .int .u64 b, .string key, .bool found, .int .u64 time, .bool gone, .string val, .slice p len cap, .string note, .int .u64 hint, .int .u64 must] rfl rfl 38 #[.int .i64 0, .int .i64 0, .int .i64 0, .int .i64 0, .int .i64 0, .int .i64 0, .int .u64 0, .int .u64 0, .string ⟨#[]⟩, .bool false, .int .u64 0, .bool false, .string ⟨#[]⟩, .slice none 0 0, .string ⟨#[]⟩, .int .u64 0, .int .u64 0] HRES4.out msg_size rfl (by simp [Value.oneCell']) ?_))
  exact bodyPost_ret (msg_ret (setRow_heap _ _ _ _ _ _ HRES4.out) rfl rfl rfl rfl) rfl ⟨.slice p len cap, rfl, HWS.out.below (below_setRow HB4.out (by omega) _), below_setRow HB4.out (by omega) _⟩

end Go.Proofs.Ytbhlgceicfjncaa
