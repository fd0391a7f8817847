/-
  Joined: ChnPBytes, ChnPRight.
-/
import Derived.Test.YtdcefhhmddjodaaSet16
import Derived.Test.YtdcefhhmddjodaaSet13
namespace Go.Proofs.Ytdcefhhmddjodaa
open Go.RowKit
set_option linter.unusedVariables false
set_option linter.unnecessarySimpa false
set_option linter.unusedSimpArgs false
set_option maxRecDepth 100000

/-- A place, as its struct's cells. -/
def plc (t : Nat) (b : ByteArray) : Array Value := #[.int .u64 (t : Int), .string b]
def nextS (b : ByteArray) (v : Vr) : ByteArray := if v.gone then b else v.val
theorem nextS_list (b : ByteArray) (v : Vr) : (nextS b v).data.toList = nextB b.data.toList v := by
  unfold nextS nextB; split <;> rfl

theorem cells3 {W : World} {B : Nat} {x y z : Value} {t : TypeId} (h : W.heap[B]? = some (.cells #[x, y, z] t (0, 0))) : W.cell? ⟨B, 0, none⟩ = some x ∧ W.cell? ⟨B, 1, none⟩ = some y ∧ W.cell? ⟨B, 2, none⟩ = some z := by
  refine ⟨?_, ?_, ?_⟩ <;> rw [cell_of_row _ _ _ _ _ _ h] <;> rfl
theorem cells2 {W : World} {B : Nat} {x y : Value} {t : TypeId} (h : W.heap[B]? = some (.cells #[x, y] t (0, 0))) : W.cell? ⟨B, 0, none⟩ = some x ∧ W.cell? ⟨B, 1, none⟩ = some y := by
  refine ⟨?_, ?_⟩ <;> rw [cell_of_row _ _ _ _ _ _ h] <;> rfl
theorem plc_size : (Try.prog.info? 147).map (·.size) = some 2 := by kernel_rfl
set_option maxHeartbeats 1000000 in
theorem behind_any (t : Nat) (b : ByteArray) (v : Vr) (w : World) :
    Calls Try.prog 96 #[.agg (plc t b), .agg v.cells] w fun e w' => e = .returned (.agg (plc v.time (nextS b v))) ∧ Below w.heap.size w w' := by
  obtain ⟨vt, vg, vv⟩ := v
  have hrow := Lib.hid (fun (A B O : Obj) => show ((((w.alloc A).alloc B).alloc O).heap[w.heap.size + 1 + 1]? = some O) by have := heap_alloc_new ((w.alloc A).alloc B) O; simpa using this)
  have hbel := Lib.hid (fun (A B O : Obj) => show Below w.heap.size w (((w.alloc A).alloc B).alloc O) from (((Below.refl _ _).alloc (Nat.le_refl _) A).alloc (by simp) B).alloc (by simp; omega) O)
  unfold plc Vr.cells nextS
  simp only
  go_enter Try.func96, Try.ntmps96
  cases vg with
  | true =>
    go_wp2
    refine bodyPost_ret (results_cell_row rfl _ _ (w.heap.size + 1 + 1) 147 (plc vt b) (0, 0) _ rfl (hrow.out _ _ _) Try.underlying147 rfl plc_size) rfl ⟨rfl, hbel.out _ _ _⟩
  | false =>
    go_wp2
    refine bodyPost_ret (results_cell_row rfl _ _ (w.heap.size + 1 + 1) 147 (plc vt vv) (0, 0) _ rfl (hrow.out _ _ _) Try.underlying147 rfl plc_size) rfl ⟨rfl, hbel.out _ _ _⟩

set_option maxHeartbeats 4000000 in
theorem bytesOf_any (t : Nat) (b : ByteArray) (v : Vr) (w : World) (ht : t ≤ v.time) (hv : v.time < 18446744073709551616) (hb : b.size ≤ 60000) (hs : v.val.size ≤ 60000) :
    Calls Try.prog 99 #[.agg v.cells, .agg (plc t b)] w fun e w' => e = .returned (.string ⟨(verB t b.data.toList v).toArray⟩) ∧ Below w.heap.size w w' := by
  obtain ⟨vt, vg, V⟩ := v
  simp only at ht hv hs
  have hsub : (vt : Int) - (t : Int) = ((vt - t : Nat) : Int) := by omega
  have HUt := Lib.hid (uint_any (vt - t) (by omega))
  have hut := ub_len10 (n := vt - t) (by omega)
  obtain ⟨UT, hUT⟩ : ∃ UT : ByteArray, UT = ⟨(ub (vt - t)).toArray⟩ := ⟨_, rfl⟩
  have hUTs : UT.size ≤ 10 := by rw [hUT, arr_size]; exact hut
  rw [← hUT] at HUt
  have HUT := Lib.hid hUT
  obtain ⟨B, hB⟩ : ∃ B, B = w.heap.size := ⟨_, rfl⟩
  obtain ⟨w1, hw1⟩ : ∃ w1, w1 = (w.alloc (.cells #[.int .u64 (vt : Int), .bool vg, .string V] 35)).alloc (.cells #[.int .u64 (t : Int), .string b] 147) := ⟨_, rfl⟩
  have r0 : w1.heap[B]? = some (.cells #[.int .u64 (vt : Int), .bool vg, .string V] 35 (0, 0)) := by
    rw [hw1, hB, heap_alloc_old _ _ (by simp)]; exact heap_alloc_new _ _
  have r1 : w1.heap[B + 1]? = some (.cells #[.int .u64 (t : Int), .string b] 147 (0, 0)) := by
    rw [hw1, hB]; have := heap_alloc_new (w.alloc (.cells #[.int .u64 (vt : Int), .bool vg, .string V] 35)) (.cells #[.int .u64 (t : Int), .string b] 147); simpa using this
  have hbel : Below w.heap.size w w1 := by rw [hw1]; exact ((Below.refl _ _).alloc (Nat.le_refl _) _).alloc (by simp) _
  have R0 := Lib.hid (fun W (h : Below w1.heap.size w1 W) => (h.block B (Array.getElem?_eq_some_iff.1 r0).1).trans r0)
  have R1 := Lib.hid (fun W (h : Below w1.heap.size w1 W) => (h.block (B + 1) (Array.getElem?_eq_some_iff.1 r1).1).trans r1)
  unfold plc Vr.cells verB
  simp only
  go_enter Try.func99, Try.ntmps99
  go_upto_region 1 with fail
  rw [← hw1, ← hB]
  obtain ⟨c0, c1, c2⟩ := cells3 r0
  obtain ⟨d0, d1⟩ := cells2 r1
  have HBel := Lib.hid hbel
  clear hw1 hB r0 r1 hbel hUT hut
  cases vg with
  | true =>
    have hS1 : UT.size + 1 ≤ 9223372036854775807 := by omega
    go_wp2_with (go_at_call 62; (with_reducible refine (HUt.out _).mono ?_); rintro e w2 ⟨rfl, hb2⟩; have hc1 := (cells3 (R0.out w2 hb2)).2.1)
    go_ret
    refine ⟨?_, HBel.out.trans (hb2.mono HBel.out.size)⟩
    rw [HUT.out, show (⟨#[1]⟩ : ByteArray) = ⟨([1] : List UInt8).toArray⟩ from rfl, c_ba_app]
    rfl
  | false =>
    have HS := Lib.hid (shared_any V b (by omega) (by omega))
    have hle := tailN_le b.data.toList V.data.toList
    rw [c_size, c_size] at hle
    obtain ⟨H, hH⟩ : ∃ H, H = headN b.data.toList V.data.toList := ⟨_, rfl⟩
    obtain ⟨T, hT⟩ : ∃ T, T = tailN b.data.toList V.data.toList := ⟨_, rfl⟩
    rw [← hH, ← hT] at HS hle
    have HUH := Lib.hid (uint_any H (by omega))
    have HUT2 := Lib.hid (uint_any T (by omega))
    obtain ⟨XH, hXH⟩ : ∃ X : ByteArray, X = ⟨(ub H).toArray⟩ := ⟨_, rfl⟩
    obtain ⟨XT, hXT⟩ : ∃ X : ByteArray, X = ⟨(ub T).toArray⟩ := ⟨_, rfl⟩
    have hXHs : XH.size ≤ 10 := by rw [hXH, arr_size]; exact ub_len10 (by omega)
    have hXTs : XT.size ≤ 10 := by rw [hXT, arr_size]; exact ub_len10 (by omega)
    obtain ⟨M, hM⟩ : ∃ M, M = V.extract H (V.size - T) := ⟨_, rfl⟩
    have hMs : M.size ≤ 60000 := by rw [hM, ByteArray.size_extract]; omega
    have hMl : M.data.toList = midB b.data.toList V.data.toList := by
      rw [hM, ext_list]; unfold midB; rw [← hH, ← hT, c_size, Nat.sub_right_comm]
    have HTx := Lib.hid (text_any M (by omega))
    obtain ⟨XM, hXM⟩ : ∃ X, X = (⟨(ub M.size).toArray⟩ : ByteArray) ++ M := ⟨_, rfl⟩
    have hXMs : XM.size ≤ 60010 := by rw [hXM, ByteArray.size_append, arr_size]; have := ub_len10 (n := M.size) (by omega); omega
    rw [← hXH] at HUH
    rw [← hXT] at HUT2
    rw [← hXM] at HTx
    have HFin := Lib.hid (show (UT ++ ⟨#[0]⟩) ++ XH ++ XT ++ XM = ⟨(ub (vt - t) ++ valB b.data.toList V.data.toList).toArray⟩ by
      rw [HUT.out, hXH, hXT, hXM, show (⟨#[0]⟩ : ByteArray) = ⟨([0] : List UInt8).toArray⟩ from rfl]
      have hMM : M = ⟨(midB b.data.toList V.data.toList).toArray⟩ := c_ba_ext (by rw [hMl])
      have hms : M.size = (midB b.data.toList V.data.toList).length := by rw [← c_size, hMl]
      rw [hms, hMM]
      simp only [c_ba_app]
      unfold valB
      rw [← hH, ← hT]
      simp)
    obtain ⟨E, hE⟩ : ∃ E : ByteArray, E = ⟨(ub (vt - t) ++ valB b.data.toList V.data.toList).toArray⟩ := ⟨_, rfl⟩
    rw [← hE] at HFin
    have HE := Lib.hid hE
    have z1 : (H : Int) % 18446744073709551616 = H := by omega
    have z2 : (T : Int) % 18446744073709551616 = T := by omega
    have z3 : (V.size : Int) - (T : Int) = ((V.size - T : Nat) : Int) := by omega
    have z4 : H ≤ V.size - T := by omega
    have z5 : V.size - T ≤ V.size := by omega
    have z6 : (H : Int) ≤ ((V.size - T : Nat) : Int) := by omega
    have z7 : ((V.size - T : Nat) : Int) ≤ (V.size : Int) := by omega
    have z8 : (0 : Int) ≤ (H : Int) := by omega
    obtain ⟨q, hq⟩ : ∃ q, q = V.size - T := ⟨_, rfl⟩
    rw [← hq] at z3 z4 z5 z6 z7 hM
    have s1 : UT.size + 1 ≤ 9223372036854775807 := by omega
    have s2 : UT.size + 1 + XH.size ≤ 9223372036854775807 := by omega
    have s3 : UT.size + 1 + XH.size + XT.size ≤ 9223372036854775807 := by omega
    have s4 : UT.size + 1 + XH.size + XT.size + XM.size ≤ 9223372036854775807 := by omega
    replace hM := hM.symm
    clear hH hT hXH hXT hXM hMl hE hq HUT hle
    go_upto_region 2 with (go_at_call 62; (with_reducible refine (HUt.out _).mono ?_); rintro e w2 ⟨rfl, hb2⟩)
    have hc1 := (cells3 (R0.out w2 hb2)).2.1
    have hc2 := (cells3 (R0.out w2 hb2)).2.2
    have hd1 := (cells2 (R1.out w2 hb2)).2
    have HB2 := Lib.hid (HBel.out.trans (hb2.mono HBel.out.size))
    clear hsub c0 c1 c2 d0 d1 hb2 HUt HBel R0 R1 ht hv
    go_wp2_with (first
      | (go_at_call 104; (with_reducible refine (HS.out _).mono ?_); rintro e w3 ⟨rfl, n3, rfl⟩)
      | (go_at_call 62; (with_reducible refine (HUH.out _).mono ?_); rintro e w4 ⟨rfl, hb4⟩)
      | (go_at_call 62; (with_reducible refine (HUT2.out _).mono ?_); rintro e w5 ⟨rfl, hb5⟩)
      | (go_at_call 86; (with_reducible refine (HTx.out _).mono ?_); rintro e w6 ⟨rfl, hb6⟩))
    go_ret
    have hb3 := below_drewV HB2.out n3
    have hb34 := hb3.trans (hb4.mono hb3.size)
    have hb35 := hb34.trans (hb5.mono hb34.size)
    refine ⟨?_, hb35.trans (hb6.mono hb35.size)⟩
    rw [HFin.out, HE.out]
    rfl
end Go.Proofs.Ytdcefhhmddjodaa

namespace Go.Proofs.Ytdcefhhmddjodaa
open Go.RowKit
set_option linter.unusedVariables false
set_option linter.unnecessarySimpa false
set_option linter.unusedSimpArgs false
set_option maxRecDepth 100000

theorem okAt_step {zs : List Vr} {i : Nat} (h : ∀ j, j < i → okAt 0 zs j) (hi : okAt 0 zs i) : ∀ j, j < i + 1 → okAt 0 zs j := fun j hj => by
  rcases Nat.lt_or_ge j i with h1 | h1
  · exact h j h1
  · have : j = i := by omega
    rw [this]; exact hi
theorem not_right {zs : List Vr} {i : Nat} (hi : i < zs.length) (h : ¬ okAt 0 zs i) : rightB zs = false := by
  unfold rightB
  have : risesB 0 zs = false := by
    rw [← Bool.not_eq_true]; intro h2; exact h ((rises_iff zs 0).1 h2 i hi)
  rw [this, Bool.false_and]
/-- A version in a slice, in a world where it stands yet. -/
theorem ver_at {w wx : World} {a : Option Addr} {len cap : Nat} {zs : List Vr} (h : IsVers w a len cap zs) (hb : Below w.heap.size w wx) {i : Nat} (hi : i < len) :
    ∃ b off, a = some ⟨b, off, none⟩ ∧ b < w.heap.size ∧ (zs.getD i vr0).time < 18446744073709551616 ∧ wx.cell? ⟨b, off + i * 3, none⟩ = some (.int .u64 ((zs.getD i vr0).time : Int)) ∧ wx.cell? ⟨b, off + i * 3 + 1, none⟩ = some (.bool (zs.getD i vr0).gone) ∧ wx.cell? ⟨b, off + i * 3 + 2, none⟩ = some (.string (zs.getD i vr0).val) := by
  obtain ⟨b, off, ha, hbl, h1, _, h2, h3, h4⟩ := h.1.2 i hi
  exact ⟨b, off, ha, hbl, h1, (hb.cell (p := ⟨b, off + i * 3, none⟩) hbl).trans h2, (hb.cell (p := ⟨b, off + i * 3 + 1, none⟩) hbl).trans h3, (hb.cell (p := ⟨b, off + i * 3 + 2, none⟩) hbl).trans h4⟩

set_option maxHeartbeats 4000000 in
theorem right_any (a : Option Addr) (len cap : Nat) (zs : List Vr) (w : World) (hz : IsVers w a len cap zs) :
    Calls Try.prog 98 #[.slice a len cap] w fun e w' => e = .returned (.bool (rightB zs)) ∧ Below w.heap.size w w' := by
  have HZ := Lib.hid hz
  have hlm := hz.2
  unfold maxLen at hlm
  have hzl := Lib.hid hz.1.1
  clear hz
  by_cases h200 : len ≤ 200
  · have hlz : ¬ (200 : Int) < (len : Int) := by omega
    go_enter Try.func98, Try.ntmps98
    go_wp2_with fail
    go_loopg [3, 11] len (fun g s3 s11 wx => ∃ i : Nat, i + g = len ∧ s3 = .int .u64 (prevT 0 zs i : Int) ∧ s11 = .int .i64 i ∧ Hid (∀ j, j < i → okAt 0 zs j) ∧ Hid (Below w.heap.size w wx))
    case atStart => exact ⟨0, by omega, rfl, rfl, Lib.hid (fun j hj => absurd hj (by omega)), Lib.hid (Below.refl _ _)⟩
    case round =>
      obtain ⟨i, hig, rfl, rfl, hok, hb⟩ := hrel
      cases gk with
      | zero =>
        obtain rfl : i = len := by omega
        have HR := Lib.hid (show rightB zs = true by
          unfold rightB
          rw [(rises_iff zs 0).2 (fun j hj => hok.out j (by rw [← hzl.out]; exact hj)), hzl.out]; simpa using h200)
        go_wp2_with fail
        go_ret
        exact ⟨by rw [HR.out]; rfl, hb.out⟩
      | succ g =>
        have hil : i < len := by omega
        have hiz : (i : Int) < (len : Int) := by omega
        obtain ⟨b, off, rfl, hbl, ht1, c0, c1, c2⟩ := ver_at HZ.out hb.out hil
        have HBx := Lib.hid (fun (o : Obj) => show Below w.heap.size w (wr.alloc o) from hb.out.alloc hb.out.size o)
        have hil2 := Lib.hid (show i < zs.length by rw [hzl.out]; exact hil)
        have hnx := Lib.hid (show prevT 0 zs (i + 1) = (zs.getD i vr0).time by unfold prevT; rw [if_neg (by omega)]; rfl)
        have HO := Lib.hid (show okAt 0 zs i ↔ (prevT 0 zs i < (zs.getD i vr0).time ∧ ((zs.getD i vr0).gone = true → (zs.getD i vr0).val.size = 0)) from Iff.rfl)
        obtain ⟨p, hp⟩ : ∃ p, p = prevT 0 zs i := ⟨_, rfl⟩
        obtain ⟨z, hzz⟩ : ∃ z, z = zs.getD i vr0 := ⟨_, rfl⟩
        rw [← hzz] at c0 c1 c2 ht1 hnx HO
        rw [← hp] at HO ⊢
        clear hzz hp
        obtain ⟨zt, zg, zv⟩ := z
        simp only at c0 c1 c2 ht1 hnx HO
        by_cases hlt : p < zt
        · have hle : ¬ (zt : Int) ≤ (p : Int) := by omega
          cases zg with
          | false =>
            have HN := Lib.hid (okAt_step hok.out (HO.out.2 ⟨hlt, fun h => by cases h⟩))
            clear hlt
            go_wp2_with fail
            go_roundg g
            case measure => omega
            case rel => exact ⟨i + 1, by omega, by rw [hnx.out], by go_num, HN, HBx.out _⟩
          | true =>
            by_cases hv : zv.size = 0
            · obtain rfl := str_none hv
              have HN := Lib.hid (okAt_step hok.out (HO.out.2 ⟨hlt, fun _ => rfl⟩))
              clear hlt hv
              go_wp2_with fail
              go_roundg g
              case measure => omega
              case rel => exact ⟨i + 1, by omega, by rw [hnx.out], by go_num, HN, HBx.out _⟩
            · obtain ⟨e1, e2, e3⟩ := str_some hv
              have HR := Lib.hid (not_right hil2.out (fun h => hv ((HO.out.1 h).2 rfl)))
              clear hlt hv
              go_wp2_with fail
              go_ret
              exact ⟨by rw [HR.out]; rfl, HBx.out _⟩
        · have hle : (zt : Int) ≤ (p : Int) := by omega
          have HR := Lib.hid (not_right hil2.out (fun h => hlt (HO.out.1 h).1))
          clear hlt
          go_wp2_with fail
          go_ret
          exact ⟨by rw [HR.out]; rfl, HBx.out _⟩
  · have HR := Lib.hid (show rightB zs = false by
      unfold rightB
      rw [hzl.out, Bool.and_eq_false_iff]
      exact .inr (by simpa using h200))
    have hlz : (200 : Int) < (len : Int) := by omega
    go_enter Try.func98, Try.ntmps98
    go_wp2_with fail
    go_ret
    exact ⟨by rw [HR.out]; rfl, Below.refl _ _⟩
end Go.Proofs.Ytdcefhhmddjodaa
