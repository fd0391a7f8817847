/-
  The program's behind and bytesOf: the place behind a version, a version's bytes.
-/
import Derived.Test.YtahohdbkkcdmiaaChnPShared
import Derived.Test.YtahohdbkkcdmiaaCursorTextB
namespace Go.Proofs.Ytahohdbkkcdmiaa
open Go.RowKit
set_option linter.unusedVariables false
set_option linter.unnecessarySimpa false
set_option linter.unusedSimpArgs false
set_option maxRecDepth 100000

/-- A place, as its struct's cells. -/
def plc (t : Nat) (b : ByteArray) : Array Value := #[.int .u64 (t : Int), .string b]
def nextS (b : ByteArray) (v : Vr) : ByteArray := if v.gone then b else v.val
theorem nextS_list (b : ByteArray) (v : Vr) : (nextS b v).data.toList = nextB b.data.toList v := by
  unfold nextS nextB; split <;> rfl

theorem cells3 {W : World} {B : Nat} {x y z : Value} {t : TypeId} (h : W.heap[B]? = some (.cells #[x, y, z] t (0, 0))) : W.cell? ⟨B, 0, none⟩ = some x ∧ W.cell? ⟨B, 1, none⟩ = some y ∧ W.cell? ⟨B, 2, none⟩ = some z := by
  refine ⟨?_, ?_, ?_⟩ <;> rw [cell_of_row _ _ _ _ _ _ h] <;> rfl
theorem cells2 {W : World} {B : Nat} {x y : Value} {t : TypeId} (h : W.heap[B]? = some (.cells #[x, y] t (0, 0))) : W.cell? ⟨B, 0, none⟩ = some x ∧ W.cell? ⟨B, 1, none⟩ = some y := by
  refine ⟨?_, ?_⟩ <;> rw [cell_of_row _ _ _ _ _ _ h] <;> rfl
theorem plc_size : (Try.prog.info? 54).map (·.size) = some 2 := by kernel_rfl
set_option maxHeartbeats 1000000 in
theorem behind_any (t : Nat) (b : ByteArray) (v : Vr) (w : World) :
    Calls Try.prog 20 #[.agg (plc t b), .agg v.cells] w fun e w' => e = .returned (.agg (plc v.time (nextS b v))) ∧ Below w.heap.size w w' := by
  obtain ⟨vt, vg, vv⟩ := v
  have hrow := Lib.hid (fun (A B O : Obj) => show ((((w.alloc A).alloc B).alloc O).heap[w.heap.size + 1 + 1]? = some O) by have := heap_alloc_new ((w.alloc A).alloc B) O; simpa using this)
  have hbel := Lib.hid (fun (A B O : Obj) => show Below w.heap.size w (((w.alloc A).alloc B).alloc O) from (((Below.refl _ _).alloc (Nat.le_refl _) A).alloc (by simp) B).alloc (by simp; omega) O)
  unfold plc Vr.cells nextS
  simp only
  go_enter Try.func20, Try.ntmps20
  cases vg with
  | true =>
    go_wp2
    refine bodyPost_ret (results_cell_row rfl _ _ (w.heap.size + 1 + 1) 54 (plc vt b) (0, 0) _ rfl (hrow.out _ _ _) Try.underlying54 rfl plc_size) rfl ⟨rfl, hbel.out _ _ _⟩
  | false =>
    go_wp2
    refine bodyPost_ret (results_cell_row rfl _ _ (w.heap.size + 1 + 1) 54 (plc vt vv) (0, 0) _ rfl (hrow.out _ _ _) Try.underlying54 rfl plc_size) rfl ⟨rfl, hbel.out _ _ _⟩

set_option maxHeartbeats 4000000 in
theorem bytesOf_any (t : Nat) (b : ByteArray) (v : Vr) (w : World) (ht : t ≤ v.time) (hv : v.time < 18446744073709551616) (hb : b.size ≤ 60000) (hs : v.val.size ≤ 60000) :
    Calls Try.prog 19 #[.agg v.cells, .agg (plc t b)] w fun e w' => e = .returned (.string ⟨(verB t b.data.toList v).toArray⟩) ∧ Below w.heap.size w w' := by
  obtain ⟨vt, vg, V⟩ := v
  simp only at ht hv hs
  have hsub : (vt : Int) - (t : Int) = ((vt - t : Nat) : Int) := by omega
  have HUt := Lib.hid (uint_any (vt - t) (by omega))
  have hut := ub_len10 (n := vt - t) (by omega)
  obtain ⟨UT, hUT⟩ : ∃ UT : ByteArray, UT = ⟨(ub (vt - t)).toArray⟩ := ⟨_, rfl⟩
  have hUTs : UT.size ≤ 10 := by rw [hUT, arr_size]; exact hut
  rw [← hUT] at HUt
  have HUT := Lib.hid hUT
  obtain ⟨B, hB⟩ : ∃ B, B = w.heap.size := ⟨_, rfl⟩
  obtain ⟨w1, hw1⟩ : ∃ w1, w1 = (w.alloc (.cells #[.int .u64 (vt : Int), .bool vg, .string V] 38)).alloc (.cells #[.int .u64 (t : Int), .string b] 54) := ⟨_, rfl⟩
  have r0 : w1.heap[B]? = some (.cells #[.int .u64 (vt : Int), .bool vg, .string V] 38 (0, 0)) := by
    rw [hw1, hB, heap_alloc_old _ _ (by simp)]; exact heap_alloc_new _ _
  have r1 : w1.heap[B + 1]? = some (.cells #[.int .u64 (t : Int), .string b] 54 (0, 0)) := by
    rw [hw1, hB]; have := heap_alloc_new (w.alloc (.cells #[.int .u64 (vt : Int), .bool vg, .string V] 38)) (.cells #[.int .u64 (t : Int), .string b] 54); simpa using this
  have hbel : Below w.heap.size w w1 := by rw [hw1]; exact ((Below.refl _ _).alloc (Nat.le_refl _) _).alloc (by simp) _
  have R0 := Lib.hid (fun W (h : Below w1.heap.size w1 W) => (h.block B (Array.getElem?_eq_some_iff.1 r0).1).trans r0)
  have R1 := Lib.hid (fun W (h : Below w1.heap.size w1 W) => (h.block (B + 1) (Array.getElem?_eq_some_iff.1 r1).1).trans r1)
  unfold plc Vr.cells verB
  simp only
  go_enter Try.func19, Try.ntmps19
  go_upto_region 1 with fail
  rw [← hw1, ← hB]
  obtain ⟨c0, c1, c2⟩ := cells3 r0
  obtain ⟨d0, d1⟩ := cells2 r1
  have HBel := Lib.hid hbel
  clear hw1 hB r0 r1 hbel hUT hut
  cases vg with
  | true =>
    have hS1 : UT.size + 1 ≤ 9223372036854775807 := by omega
    go_wp2_with (go_at_call 18; (with_reducible refine (HUt.out _).mono ?_); rintro e w2 ⟨rfl, hb2⟩; have hc1 := (cells3 (R0.out w2 hb2)).2.1)
    go_ret
    refine ⟨?_, HBel.out.trans (hb2.mono HBel.out.size)⟩
    rw [HUT.out, show (⟨#[1]⟩ : ByteArray) = ⟨([1] : List UInt8).toArray⟩ from rfl, c_ba_app]
    rfl
  | false =>
    have HS := Lib.hid (shared_any V b (by omega) (by omega))
    have hle := tailN_le b.data.toList V.data.toList
    rw [c_size, c_size] at hle
    obtain ⟨H, hH⟩ : ∃ H, H = headN b.data.toList V.data.toList := ⟨_, rfl⟩
    obtain ⟨T, hT⟩ : ∃ T, T = tailN b.data.toList V.data.toList := ⟨_, rfl⟩
    rw [← hH, ← hT] at HS hle
    have HUH := Lib.hid (uint_any H (by omega))
    have HUT2 := Lib.hid (uint_any T (by omega))
    obtain ⟨XH, hXH⟩ : ∃ X : ByteArray, X = ⟨(ub H).toArray⟩ := ⟨_, rfl⟩
    obtain ⟨XT, hXT⟩ : ∃ X : ByteArray, X = ⟨(ub T).toArray⟩ := ⟨_, rfl⟩
    have hXHs : XH.size ≤ 10 := by rw [hXH, arr_size]; exact ub_len10 (by omega)
    have hXTs : XT.size ≤ 10 := by rw [hXT, arr_size]; exact ub_len10 (by omega)
    obtain ⟨M, hM⟩ : ∃ M, M = V.extract H (V.size - T) := ⟨_, rfl⟩
    have hMs : M.size ≤ 60000 := by rw [hM, ByteArray.size_extract]; omega
    have hMl : M.data.toList = midB b.data.toList V.data.toList := by
      rw [hM, ext_list]; unfold midB; rw [← hH, ← hT, c_size, Nat.sub_right_comm]
    have HTx := Lib.hid (text_any M (by omega))
    obtain ⟨XM, hXM⟩ : ∃ X, X = (⟨(ub M.size).toArray⟩ : ByteArray) ++ M := ⟨_, rfl⟩
    have hXMs : XM.size ≤ 60010 := by rw [hXM, ByteArray.size_append, arr_size]; have := ub_len10 (n := M.size) (by omega); omega
    rw [← hXH] at HUH
    rw [← hXT] at HUT2
    rw [← hXM] at HTx
    have HFin := Lib.hid (show (UT ++ ⟨#[0]⟩) ++ XH ++ XT ++ XM = ⟨(ub (vt - t) ++ valB b.data.toList V.data.toList).toArray⟩ by
      rw [HUT.out, hXH, hXT, hXM, show (⟨#[0]⟩ : ByteArray) = ⟨([0] : List UInt8).toArray⟩ from rfl]
      have hMM : M = ⟨(midB b.data.toList V.data.toList).toArray⟩ := c_ba_ext (by rw [hMl])
      have hms : M.size = (midB b.data.toList V.data.toList).length := by rw [← c_size, hMl]
      rw [hms, hMM]
      simp only [c_ba_app]
      unfold valB
      rw [← hH, ← hT]
      simp)
    obtain ⟨E, hE⟩ : ∃ E : ByteArray, E = ⟨(ub (vt - t) ++ valB b.data.toList V.data.toList).toArray⟩ := ⟨_, rfl⟩
    rw [← hE] at HFin
    have HE := Lib.hid hE
    have z1 : (H : Int) % 18446744073709551616 = H := by omega
    have z2 : (T : Int) % 18446744073709551616 = T := by omega
    have z3 : (V.size : Int) - (T : Int) = ((V.size - T : Nat) : Int) := by omega
    have z4 : H ≤ V.size - T := by omega
    have z5 : V.size - T ≤ V.size := by omega
    have z6 : (H : Int) ≤ ((V.size - T : Nat) : Int) := by omega
    have z7 : ((V.size - T : Nat) : Int) ≤ (V.size : Int) := by omega
    have z8 : (0 : Int) ≤ (H : Int) := by omega
    obtain ⟨q, hq⟩ : ∃ q, q = V.size - T := ⟨_, rfl⟩
    rw [← hq] at z3 z4 z5 z6 z7 hM
    have s1 : UT.size + 1 ≤ 9223372036854775807 := by omega
    have s2 : UT.size + 1 + XH.size ≤ 9223372036854775807 := by omega
    have s3 : UT.size + 1 + XH.size + XT.size ≤ 9223372036854775807 := by omega
    have s4 : UT.size + 1 + XH.size + XT.size + XM.size ≤ 9223372036854775807 := by omega
    replace hM := hM.symm
    clear hH hT hXH hXT hXM hMl hE hq HUT hle
    go_upto_region 2 with (go_at_call 18; (with_reducible refine (HUt.out _).mono ?_); rintro e w2 ⟨rfl, hb2⟩)
    have hc1 := (cells3 (R0.out w2 hb2)).2.1
    have hc2 := (cells3 (R0.out w2 hb2)).2.2
    have hd1 := (cells2 (R1.out w2 hb2)).2
    have HB2 := Lib.hid (HBel.out.trans (hb2.mono HBel.out.size))
    clear hsub c0 c1 c2 d0 d1 hb2 HUt HBel R0 R1 ht hv
    go_wp2_with (first
      | (go_at_call 32; (with_reducible refine (HS.out _).mono ?_); rintro e w3 ⟨rfl, n3, rfl⟩)
      | (go_at_call 18; (with_reducible refine (HUH.out _).mono ?_); rintro e w4 ⟨rfl, hb4⟩)
      | (go_at_call 18; (with_reducible refine (HUT2.out _).mono ?_); rintro e w5 ⟨rfl, hb5⟩)
      | (go_at_call 33; (with_reducible refine (HTx.out _).mono ?_); rintro e w6 ⟨rfl, hb6⟩))
    go_ret
    have hb3 := below_drewV HB2.out n3
    have hb34 := hb3.trans (hb4.mono hb3.size)
    have hb35 := hb34.trans (hb5.mono hb34.size)
    refine ⟨?_, hb35.trans (hb6.mono hb35.size)⟩
    rw [HFin.out, HE.out]
    rfl
end Go.Proofs.Ytahohdbkkcdmiaa
