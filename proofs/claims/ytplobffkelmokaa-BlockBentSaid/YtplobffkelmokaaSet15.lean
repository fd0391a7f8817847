/-
  Joined: BlkPSmall, ChnPBytes.
-/
import Derived.Test.YtplobffkelmokaaBlkPMath
import Derived.Test.YtplobffkelmokaaSet14
import Derived.BigQuiet
import Derived.Test.YtplobffkelmokaaSet13
namespace Go.Proofs.Ytplobffkelmokaa
open Go.RowKit
set_option linter.unusedVariables false
set_option linter.unnecessarySimpa false
set_option linter.unusedSimpArgs false
set_option maxRecDepth 100000

set_option maxHeartbeats 4000000 in
theorem bshared_any (v b : ByteArray) (hv : v.size ≤ 1000000000) (hb : b.size ≤ 1000000000) (w : World) :
    Calls Try.prog 43 #[.string v, .string b] w fun e w' => e = .returned (.int .i64 (pre b.data.toList v.data.toList : Nat)) ∧ ∃ n, w' = w.drewN n := by
  have HA := fun i => head_at (b := b.data.toList) (v := v.data.toList) (i := i)
  have HE := head_end (b := b.data.toList) (v := v.data.toList)
  have hle := pre_le b.data.toList v.data.toList
  rw [c_size, c_size] at hle HE
  simp only [show headN b.data.toList v.data.toList = pre b.data.toList v.data.toList from rfl] at HA HE
  obtain ⟨H, hH⟩ : ∃ H, H = pre b.data.toList v.data.toList := ⟨_, rfl⟩
  simp only [← hH] at HA HE hle ⊢
  replace HA := Lib.hid HA
  replace HE := Lib.hid HE
  clear hH
  go_enter Try.func43, Try.ntmps43
  go_wp2_with fail
  go_loopg [5] H (fun g s5 wx => ∃ i : Nat, i + g = H ∧ s5 = .int .i64 i ∧ ∃ n, wx = w.drewN n)
  case atStart => exact ⟨0, by omega, rfl, 0, rfl⟩
  case round =>
    obtain ⟨i, hig, rfl, n1, rfl⟩ := hrel
    cases gk with
    | succ g =>
      have i1 : i < v.size := by omega
      have i2 : i < b.size := by omega
      have i3 : (i : Int) < (v.size : Int) := by omega
      have i4 : (i : Int) < (b.size : Int) := by omega
      have hi := HA.out i (by omega)
      rw [ba_getD v i i1, ba_getD b i i2] at hi
      obtain ⟨x, hx⟩ : ∃ x : Nat, v[i].toNat = x := ⟨_, rfl⟩
      have hy : b[i].toNat = x := by rw [← hi]; exact hx
      have hd : decide ((i : Int) < (v.size : Int)) = true := by simpa using i3
      have hd2 : decide ((i : Int) < (b.size : Int)) = true := by simpa using i4
      clear hi
      go_wp2_with fail
      go_quiet (fail)
      go_wp2_with fail
      go_roundg g
      case measure => omega
      case rel => exact ⟨i + 1, by omega, by go_num, _, rfl⟩
    | zero =>
      obtain rfl : i = H := by omega
      rcases Nat.lt_or_ge i v.size with i1 | i1
      · have i3 : (i : Int) < (v.size : Int) := by omega
        have hd : decide ((i : Int) < (v.size : Int)) = true := by simpa using i3
        rcases Nat.lt_or_ge i b.size with i2 | i2
        · have i4 : (i : Int) < (b.size : Int) := by omega
          have hd2 : decide ((i : Int) < (b.size : Int)) = true := by simpa using i4
          have hi := HE.out (by omega) (by omega)
          rw [ba_getD v i i1, ba_getD b i i2] at hi
          obtain ⟨x, hx⟩ : ∃ x : Nat, v[i].toNat = x := ⟨_, rfl⟩
          obtain ⟨y, hy⟩ : ∃ y : Nat, b[i].toNat = y := ⟨_, rfl⟩
          have hxy : ((x : Int) == (y : Int)) = false := by
            rw [beq_eq_false_iff_ne]
            intro e
            exact hi (UInt8.toNat_inj.1 (by rw [hx, hy]; omega))
          clear hi
          go_wp2_with fail
          go_quiet (fail)
          go_wp2_with fail
          go_ret
          exact ⟨rfl, n1 + nq, by rw [World.drewN_drewN]⟩
        · have i4 : ¬ (i : Int) < (b.size : Int) := by omega
          have hd2 : decide ((i : Int) < (b.size : Int)) = false := by simpa using i4
          have hd3 : decide (i < b.size) = false := by simp; omega
          go_wp2_with fail
          go_quiet (fail)
          go_wp2_with fail
          go_ret
          exact ⟨rfl, n1 + nq, by rw [World.drewN_drewN]⟩
      · have i3 : ¬ (i : Int) < (v.size : Int) := by omega
        have hd : decide ((i : Int) < (v.size : Int)) = false := by simpa using i3
        have hd3 : decide (i < v.size) = false := by simp; omega
        go_wp2_with fail
        go_quiet (fail)
        go_wp2_with fail
        go_ret
        exact ⟨rfl, n1 + nq, by rw [World.drewN_drewN]⟩

theorem ents_take {w : World} {a : Option Addr} {len cap : Nat} {es : List En} (h : IsEnts w a len cap es) {i : Nat} (hi : i ≤ len) : IsEnts w a i cap (es.take i) := by
  have hl := h.1.1
  refine ⟨⟨by rw [List.length_take]; omega, fun j hj => ?_⟩, by have := h.2.1; omega, by have := h.2.2; omega⟩
  obtain ⟨b, off, ha, he⟩ := h.1.2 j (by omega)
  refine ⟨b, off, ha, ?_⟩
  have : (es.take i).getD j en0 = es.getD j en0 := by simp only [List.getD, List.getElem?_take, if_pos hj]
  rw [this]
  exact he

set_option maxHeartbeats 1000000 in
theorem blast_any (a : Option Addr) (len cap : Nat) (es : List En) (w : World) (hz : IsEnts w a len cap es) :
    Calls Try.prog 44 #[.slice a len cap] w fun e w' => e = .returned (.string (lastS es)) ∧ w = w' := by
  have hlm := hz.2.1
  unfold maxLen at hlm
  have hel := hz.1.1
  rcases Nat.eq_zero_or_pos len with rfl | h0
  · have he := Lib.hid (show lastS es = ⟨#[]⟩ by rw [List.eq_nil_of_length_eq_zero hel]; rfl)
    clear hz hel
    go_enter Try.func44, Try.ntmps44
    go_wp2_with fail
    go_ret
    exact ⟨by rw [he.out]; rfl, rfl⟩
  · obtain ⟨b, off, rfl, hbl, hm, k0, _⟩ := hz.1.2 (len - 1) (by omega)
    have he := Lib.hid (show lastS es = (es.getD (len - 1) en0).key by unfold lastS; rw [hel])
    obtain ⟨K, hK⟩ : ∃ K, K = (es.getD (len - 1) en0).key := ⟨_, rfl⟩
    rw [← hK] at he k0
    obtain ⟨j, hj⟩ : ∃ j, j = len - 1 := ⟨_, rfl⟩
    rw [← hj] at k0
    have h1 : (len : Int) - 1 = (j : Int) := by omega
    have h2 : ((len : Int) == 0) = false := by rw [beq_eq_false_iff_ne]; omega
    have h3 : (j : Int) < (len : Int) := by omega
    have h4 : (0 : Int) ≤ (j : Int) := by omega
    have h5 : j < len := by omega
    clear hz hel hK hj
    go_enter Try.func44, Try.ntmps44
    go_wp2_with fail
    go_ret
    exact ⟨by rw [he.out]; rfl, rfl⟩

set_option maxHeartbeats 1000000 in
theorem brises_any (key : ByteArray) (a : Option Addr) (len cap : Nat) (es : List En) (w : World) (hz : IsEnts w a len cap es) :
    Calls Try.prog 41 #[.string key, .slice a len cap] w fun e w' => e = .returned (.bool (risesS es key)) ∧ w = w' := by
  have hlm := hz.2.1
  unfold maxLen at hlm
  have hel := hz.1.1
  have HL := Lib.hid (blast_any a len cap es w hz)
  rcases Nat.eq_zero_or_pos len with rfl | h0
  · have he := Lib.hid (show risesS es key = true by unfold risesS; rw [hel]; rfl)
    clear hz hel
    go_enter Try.func41, Try.ntmps41
    go_wp2_with fail
    go_ret
    exact ⟨by rw [he.out]; rfl, rfl⟩
  · have he := Lib.hid (show risesS es key = ltS (lastS es) key by unfold risesS; rw [hel, decide_eq_false (by omega)]; rfl)
    have h2 : ((len : Int) == 0) = false := by rw [beq_eq_false_iff_ne]; omega
    obtain ⟨K, hK⟩ : ∃ K, K = lastS es := ⟨_, rfl⟩
    rw [← hK] at he HL
    clear hz hel hK
    go_enter Try.func41, Try.ntmps41
    go_wp2_with (go_at_call 44; (with_reducible refine HL.out.mono ?_); rintro e w1 ⟨rfl, rfl⟩)
    go_ret
    exact ⟨by rw [he.out]; rfl, rfl⟩

set_option maxHeartbeats 1000000 in
theorem sumOf_any (p : ByteArray) (hp : p.size < 4000000000) (w : World) :
    Calls Try.prog 27 #[.agg tab, .string p] w fun e w' => e = .returned (.string ⟨(sumS p).toArray⟩) ∧ Below w.heap.size w w' := by
  have hs := Lib.hid (sum_any p hp)
  have hlt : sumB p.data.toList < 4294967296 := by unfold sumB; omega
  have hf := Lib.hid (show ∀ W, Calls Try.prog 47 #[.int .u64 (sumB p.data.toList : Nat), .int .i64 4, .bool true] W fun e w' => e = .returned (.string ⟨(fx (sumB p.data.toList) 4 true).toArray⟩) ∧ Below W.heap.size W w' from fun W => fixed_any (sumB p.data.toList) 4 true W (by decide) (by decide))
  unfold sumS
  obtain ⟨m, hm⟩ : ∃ m, m = sumB p.data.toList := ⟨_, rfl⟩
  rw [← hm] at hs hlt hf ⊢
  have hmz : (m : Int) % 18446744073709551616 = (m : Int) := by omega
  have hb0 := (Below.refl w.heap.size w).alloc (Nat.le_refl _) (.cells tab 27)
  have hr0 := heap_alloc_new w (.cells tab 27)
  obtain ⟨w1, hw1⟩ : ∃ w1, w1 = w.alloc (.cells tab 27) := ⟨_, rfl⟩
  rw [← hw1] at hb0 hr0
  have HB0 := Lib.hid hb0
  have HR0 := Lib.hid hr0
  have his := Lib.hid tableSize
  clear hm hp hb0 hr0
  go_enter Try.func27, Try.ntmps27
  go_upto_region 1 with fail
  rw [← hw1]
  clear hw1
  go_wp2_with (first
    | (refine wpList_load_row rfl 27 _ rfl w.heap.size rfl 27 tab (0, 0) _ HR0.out Try.underlying27 rfl his.out ?_; dsimp only [Act.put])
    | (go_at_call 48; (with_reducible refine (hs.out _).mono ?_); rintro e w2 ⟨rfl, hb2⟩)
    | (go_at_call 47; (with_reducible refine (hf.out _).mono ?_); rintro e w3 ⟨rfl, hb3⟩))
  go_ret
  have h2 := HB0.out.trans (hb2.mono HB0.out.size)
  exact ⟨rfl, h2.trans (hb3.mono h2.size)⟩
end Go.Proofs.Ytplobffkelmokaa

namespace Go.Proofs.Ytplobffkelmokaa
open Go.RowKit
set_option linter.unusedVariables false
set_option linter.unnecessarySimpa false
set_option linter.unusedSimpArgs false
set_option maxRecDepth 100000

/-- A place, as its struct's cells. -/
def plc (t : Nat) (b : ByteArray) : Array Value := #[.int .u64 (t : Int), .string b]
def nextS (b : ByteArray) (v : Vr) : ByteArray := if v.gone then b else v.val
theorem nextS_list (b : ByteArray) (v : Vr) : (nextS b v).data.toList = nextB b.data.toList v := by
  unfold nextS nextB; split <;> rfl

theorem cells3 {W : World} {B : Nat} {x y z : Value} {t : TypeId} (h : W.heap[B]? = some (.cells #[x, y, z] t (0, 0))) : W.cell? ⟨B, 0, none⟩ = some x ∧ W.cell? ⟨B, 1, none⟩ = some y ∧ W.cell? ⟨B, 2, none⟩ = some z := by
  refine ⟨?_, ?_, ?_⟩ <;> rw [cell_of_row _ _ _ _ _ _ h] <;> rfl
theorem cells2 {W : World} {B : Nat} {x y : Value} {t : TypeId} (h : W.heap[B]? = some (.cells #[x, y] t (0, 0))) : W.cell? ⟨B, 0, none⟩ = some x ∧ W.cell? ⟨B, 1, none⟩ = some y := by
  refine ⟨?_, ?_⟩ <;> rw [cell_of_row _ _ _ _ _ _ h] <;> rfl
theorem plc_size : (Try.prog.info? 94).map (·.size) = some 2 := by kernel_rfl
set_option maxHeartbeats 1000000 in
theorem behind_any (t : Nat) (b : ByteArray) (v : Vr) (w : World) :
    Calls Try.prog 58 #[.agg (plc t b), .agg v.cells] w fun e w' => e = .returned (.agg (plc v.time (nextS b v))) ∧ Below w.heap.size w w' := by
  obtain ⟨vt, vg, vv⟩ := v
  have hrow := Lib.hid (fun (A B O : Obj) => show ((((w.alloc A).alloc B).alloc O).heap[w.heap.size + 1 + 1]? = some O) by have := heap_alloc_new ((w.alloc A).alloc B) O; simpa using this)
  have hbel := Lib.hid (fun (A B O : Obj) => show Below w.heap.size w (((w.alloc A).alloc B).alloc O) from (((Below.refl _ _).alloc (Nat.le_refl _) A).alloc (by simp) B).alloc (by simp; omega) O)
  unfold plc Vr.cells nextS
  simp only
  go_enter Try.func58, Try.ntmps58
  cases vg with
  | true =>
    go_wp2
    refine bodyPost_ret (results_cell_row rfl _ _ (w.heap.size + 1 + 1) 94 (plc vt b) (0, 0) _ rfl (hrow.out _ _ _) Try.underlying94 rfl plc_size) rfl ⟨rfl, hbel.out _ _ _⟩
  | false =>
    go_wp2
    refine bodyPost_ret (results_cell_row rfl _ _ (w.heap.size + 1 + 1) 94 (plc vt vv) (0, 0) _ rfl (hrow.out _ _ _) Try.underlying94 rfl plc_size) rfl ⟨rfl, hbel.out _ _ _⟩

set_option maxHeartbeats 4000000 in
theorem bytesOf_any (t : Nat) (b : ByteArray) (v : Vr) (w : World) (ht : t ≤ v.time) (hv : v.time < 18446744073709551616) (hb : b.size ≤ 60000) (hs : v.val.size ≤ 60000) :
    Calls Try.prog 57 #[.agg v.cells, .agg (plc t b)] w fun e w' => e = .returned (.string ⟨(verB t b.data.toList v).toArray⟩) ∧ Below w.heap.size w w' := by
  obtain ⟨vt, vg, V⟩ := v
  simp only at ht hv hs
  have hsub : (vt : Int) - (t : Int) = ((vt - t : Nat) : Int) := by omega
  have HUt := Lib.hid (uint_any (vt - t) (by omega))
  have hut := ub_len10 (n := vt - t) (by omega)
  obtain ⟨UT, hUT⟩ : ∃ UT : ByteArray, UT = ⟨(ub (vt - t)).toArray⟩ := ⟨_, rfl⟩
  have hUTs : UT.size ≤ 10 := by rw [hUT, arr_size]; exact hut
  rw [← hUT] at HUt
  have HUT := Lib.hid hUT
  obtain ⟨B, hB⟩ : ∃ B, B = w.heap.size := ⟨_, rfl⟩
  obtain ⟨w1, hw1⟩ : ∃ w1, w1 = (w.alloc (.cells #[.int .u64 (vt : Int), .bool vg, .string V] 78)).alloc (.cells #[.int .u64 (t : Int), .string b] 94) := ⟨_, rfl⟩
  have r0 : w1.heap[B]? = some (.cells #[.int .u64 (vt : Int), .bool vg, .string V] 78 (0, 0)) := by
    rw [hw1, hB, heap_alloc_old _ _ (by simp)]; exact heap_alloc_new _ _
  have r1 : w1.heap[B + 1]? = some (.cells #[.int .u64 (t : Int), .string b] 94 (0, 0)) := by
    rw [hw1, hB]; have := heap_alloc_new (w.alloc (.cells #[.int .u64 (vt : Int), .bool vg, .string V] 78)) (.cells #[.int .u64 (t : Int), .string b] 94); simpa using this
  have hbel : Below w.heap.size w w1 := by rw [hw1]; exact ((Below.refl _ _).alloc (Nat.le_refl _) _).alloc (by simp) _
  have R0 := Lib.hid (fun W (h : Below w1.heap.size w1 W) => (h.block B (Array.getElem?_eq_some_iff.1 r0).1).trans r0)
  have R1 := Lib.hid (fun W (h : Below w1.heap.size w1 W) => (h.block (B + 1) (Array.getElem?_eq_some_iff.1 r1).1).trans r1)
  unfold plc Vr.cells verB
  simp only
  go_enter Try.func57, Try.ntmps57
  go_upto_region 1 with fail
  rw [← hw1, ← hB]
  obtain ⟨c0, c1, c2⟩ := cells3 r0
  obtain ⟨d0, d1⟩ := cells2 r1
  have HBel := Lib.hid hbel
  clear hw1 hB r0 r1 hbel hUT hut
  cases vg with
  | true =>
    have hS1 : UT.size + 1 ≤ 9223372036854775807 := by omega
    go_wp2_with (go_at_call 23; (with_reducible refine (HUt.out _).mono ?_); rintro e w2 ⟨rfl, hb2⟩; have hc1 := (cells3 (R0.out w2 hb2)).2.1)
    go_ret
    refine ⟨?_, HBel.out.trans (hb2.mono HBel.out.size)⟩
    rw [HUT.out, show (⟨#[1]⟩ : ByteArray) = ⟨([1] : List UInt8).toArray⟩ from rfl, c_ba_app]
    rfl
  | false =>
    have HS := Lib.hid (shared_any V b (by omega) (by omega))
    have hle := tailN_le b.data.toList V.data.toList
    rw [c_size, c_size] at hle
    obtain ⟨H, hH⟩ : ∃ H, H = headN b.data.toList V.data.toList := ⟨_, rfl⟩
    obtain ⟨T, hT⟩ : ∃ T, T = tailN b.data.toList V.data.toList := ⟨_, rfl⟩
    rw [← hH, ← hT] at HS hle
    have HUH := Lib.hid (uint_any H (by omega))
    have HUT2 := Lib.hid (uint_any T (by omega))
    obtain ⟨XH, hXH⟩ : ∃ X : ByteArray, X = ⟨(ub H).toArray⟩ := ⟨_, rfl⟩
    obtain ⟨XT, hXT⟩ : ∃ X : ByteArray, X = ⟨(ub T).toArray⟩ := ⟨_, rfl⟩
    have hXHs : XH.size ≤ 10 := by rw [hXH, arr_size]; exact ub_len10 (by omega)
    have hXTs : XT.size ≤ 10 := by rw [hXT, arr_size]; exact ub_len10 (by omega)
    obtain ⟨M, hM⟩ : ∃ M, M = V.extract H (V.size - T) := ⟨_, rfl⟩
    have hMs : M.size ≤ 60000 := by rw [hM, ByteArray.size_extract]; omega
    have hMl : M.data.toList = midB b.data.toList V.data.toList := by
      rw [hM, ext_list]; unfold midB; rw [← hH, ← hT, c_size, Nat.sub_right_comm]
    have HTx := Lib.hid (text_any M (by omega))
    obtain ⟨XM, hXM⟩ : ∃ X, X = (⟨(ub M.size).toArray⟩ : ByteArray) ++ M := ⟨_, rfl⟩
    have hXMs : XM.size ≤ 60010 := by rw [hXM, ByteArray.size_append, arr_size]; have := ub_len10 (n := M.size) (by omega); omega
    rw [← hXH] at HUH
    rw [← hXT] at HUT2
    rw [← hXM] at HTx
    have HFin := Lib.hid (show (UT ++ ⟨#[0]⟩) ++ XH ++ XT ++ XM = ⟨(ub (vt - t) ++ valB b.data.toList V.data.toList).toArray⟩ by
      rw [HUT.out, hXH, hXT, hXM, show (⟨#[0]⟩ : ByteArray) = ⟨([0] : List UInt8).toArray⟩ from rfl]
      have hMM : M = ⟨(midB b.data.toList V.data.toList).toArray⟩ := c_ba_ext (by rw [hMl])
      have hms : M.size = (midB b.data.toList V.data.toList).length := by rw [← c_size, hMl]
      rw [hms, hMM]
      simp only [c_ba_app]
      unfold valB
      rw [← hH, ← hT]
      simp)
    obtain ⟨E, hE⟩ : ∃ E : ByteArray, E = ⟨(ub (vt - t) ++ valB b.data.toList V.data.toList).toArray⟩ := ⟨_, rfl⟩
    rw [← hE] at HFin
    have HE := Lib.hid hE
    have z1 : (H : Int) % 18446744073709551616 = H := by omega
    have z2 : (T : Int) % 18446744073709551616 = T := by omega
    have z3 : (V.size : Int) - (T : Int) = ((V.size - T : Nat) : Int) := by omega
    have z4 : H ≤ V.size - T := by omega
    have z5 : V.size - T ≤ V.size := by omega
    have z6 : (H : Int) ≤ ((V.size - T : Nat) : Int) := by omega
    have z7 : ((V.size - T : Nat) : Int) ≤ (V.size : Int) := by omega
    have z8 : (0 : Int) ≤ (H : Int) := by omega
    obtain ⟨q, hq⟩ : ∃ q, q = V.size - T := ⟨_, rfl⟩
    rw [← hq] at z3 z4 z5 z6 z7 hM
    have s1 : UT.size + 1 ≤ 9223372036854775807 := by omega
    have s2 : UT.size + 1 + XH.size ≤ 9223372036854775807 := by omega
    have s3 : UT.size + 1 + XH.size + XT.size ≤ 9223372036854775807 := by omega
    have s4 : UT.size + 1 + XH.size + XT.size + XM.size ≤ 9223372036854775807 := by omega
    replace hM := hM.symm
    clear hH hT hXH hXT hXM hMl hE hq HUT hle
    go_upto_region 2 with (go_at_call 23; (with_reducible refine (HUt.out _).mono ?_); rintro e w2 ⟨rfl, hb2⟩)
    have hc1 := (cells3 (R0.out w2 hb2)).2.1
    have hc2 := (cells3 (R0.out w2 hb2)).2.2
    have hd1 := (cells2 (R1.out w2 hb2)).2
    have HB2 := Lib.hid (HBel.out.trans (hb2.mono HBel.out.size))
    clear hsub c0 c1 c2 d0 d1 hb2 HUt HBel R0 R1 ht hv
    go_wp2_with (first
      | (go_at_call 77; (with_reducible refine (HS.out _).mono ?_); rintro e w3 ⟨rfl, n3, rfl⟩)
      | (go_at_call 23; (with_reducible refine (HUH.out _).mono ?_); rintro e w4 ⟨rfl, hb4⟩)
      | (go_at_call 23; (with_reducible refine (HUT2.out _).mono ?_); rintro e w5 ⟨rfl, hb5⟩)
      | (go_at_call 45; (with_reducible refine (HTx.out _).mono ?_); rintro e w6 ⟨rfl, hb6⟩))
    go_ret
    have hb3 := below_drewV HB2.out n3
    have hb34 := hb3.trans (hb4.mono hb3.size)
    have hb35 := hb34.trans (hb5.mono hb34.size)
    refine ⟨?_, hb35.trans (hb6.mono hb35.size)⟩
    rw [HFin.out, HE.out]
    rfl
end Go.Proofs.Ytplobffkelmokaa
