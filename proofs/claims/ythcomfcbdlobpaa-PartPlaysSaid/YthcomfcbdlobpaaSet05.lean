/-
  The document's At of versions as they came.
-/
import Derived.Test.YthcomfcbdlobpaaSet02
import Derived.Laws.ResultCell
import Derived.Laws.Rows
import Derived.RegionTactic
import Derived.Deep.QuietTactic
namespace Go.Proofs.Ythcomfcbdlobpaa
open Go.RowKit
set_option linter.unusedVariables false
set_option linter.unnecessarySimpa false
set_option linter.unusedSimpArgs false
set_option maxRecDepth 100000

def bestStep (key : ByteArray) (t : Nat) (r : Vr × Bool) (m : Im) : Vr × Bool := if sameK m.key key && (decide (m.v.time ≤ t) && decide (r.1.time < m.v.time)) then (m.v, true) else r
def bestOf (key : ByteArray) (t : Nat) (L : List Im) : Vr × Bool := L.foldl (bestStep key t) (vr0, false)
theorem bestOf_snoc (key : ByteArray) (t : Nat) (L : List Im) (m : Im) : bestOf key t (L ++ [m]) = bestStep key t (bestOf key t L) m := by unfold bestOf; rw [List.foldl_append]; rfl
theorem results_row_tmpM {P : Program} {fn : Func} {p u : Tmp} {ty : TypeId} (h : fn.results = #[.cell p ty, .tmp u]) (tmps : Array Value) (w : World) (g : Nat) (t : TypeId) (cs : Array Value) (fr : Nat × Nat) (d : TypeDesc) (v : Value)
    (hp : tmps.getD p undef = .pointer (some ⟨g, 0, none⟩)) (hg : w.heap[g]? = some (.cells cs t fr))
    (hu : P.underlying ty = some d) (hd : (match d with | .struct _ | .array _ _ => true | _ => false) = true) (hi : (P.info? ty).map (·.size) = some cs.size) (hv : tmps.getD u undef = v) :
    (results fn tmps).run P w = .ok (.tuple #[.agg cs, v]) w := by
  rw [results_cell_tmp h, hp, hv]
  simp [asAddr, run_loadVar_row w g t ty cs fr d hg hu hd hi, Result.andThen]
theorem verSizeM : (Try.prog.info? 42).map (·.size) = some 3 := by kernel_rfl
/-- The world of the call: the store's box, the result's cell, the best one. -/
structure AtW (w : World) (a : Option Addr) (len cap : Nat) (v : Vr) (wx : World) : Prop where
  below : Below w.heap.size w wx
  box : wx.heap[w.heap.size]? = some (.cells #[.slice a len cap] 31 (0, 0))
  res : wx.heap[w.heap.size + 1]? = some (.cells #[.int .u64 0, .bool false, .string ⟨#[]⟩] 42 (0, 0))
  best : wx.heap[w.heap.size + 1 + 1]? = some (.cells #[.int .u64 (v.time : Int), .bool v.gone, .string v.val] 42 (0, 0))
theorem AtW.start (w : World) (a : Option Addr) (len cap : Nat) : AtW w a len cap vr0 (((w.alloc (.cells #[.slice a len cap] 31)).alloc (.cells #[.int .u64 0, .bool false, .string ⟨#[]⟩] 42)).alloc (.cells #[.int .u64 0, .bool false, .string ⟨#[]⟩] 42)) := by
  refine ⟨(((Below.refl w.heap.size w).alloc (Nat.le_refl _) _).alloc (by simp) _).alloc (by simp; omega) _, ?_, ?_, ?_⟩
  · show (((w.heap.push _).push _).push _)[w.heap.size]? = _
    rw [Array.getElem?_push, if_neg (by simp; omega), Array.getElem?_push, if_neg (by simp), Array.getElem?_push, if_pos rfl]
  · show (((w.heap.push _).push _).push _)[w.heap.size + 1]? = _
    rw [Array.getElem?_push, if_neg (by simp), Array.getElem?_push, if_pos (by simp)]
  · show (((w.heap.push _).push _).push _)[w.heap.size + 1 + 1]? = _
    rw [Array.getElem?_push, if_pos (by simp)]
    rfl
theorem AtW.drewN {w wx : World} {a : Option Addr} {len cap : Nat} {v : Vr} (h : AtW w a len cap v wx) (n : Nat) : AtW w a len cap v (wx.drewN n) := ⟨⟨h.below.os, h.below.tape, h.below.output, h.below.size, h.below.block⟩, h.box, h.res, h.best⟩
theorem AtW.put {w wx : World} {a : Option Addr} {len cap : Nat} {v : Vr} (h : AtW w a len cap v wx) (z : Vr) :
    AtW w a len cap z (((wx.setCell ⟨w.heap.size + 1 + 1, 0, none⟩ (.int .u64 (z.time : Int))).setCell ⟨w.heap.size + 1 + 1, 1, none⟩ (.bool z.gone)).setCell ⟨w.heap.size + 1 + 1, 2, none⟩ (.string z.val)) := by
  refine ⟨((h.below.setCell (by simp; omega) _).setCell (by simp; omega) _).setCell (by simp; omega) _, ?_, ?_, ?_⟩
  · rw [Below.heap_setCell _ _ _ _ (by simp; omega), Below.heap_setCell _ _ _ _ (by simp; omega), Below.heap_setCell _ _ _ _ (by simp; omega)]; exact h.box
  · rw [Below.heap_setCell _ _ _ _ (by simp), Below.heap_setCell _ _ _ _ (by simp), Below.heap_setCell _ _ _ _ (by simp)]; exact h.res
  · rw [heap_setCell_same _ _ 2 _ _ _ (heap_setCell_same _ _ 1 _ _ _ (heap_setCell_same _ _ 0 _ _ _ h.best))]; rfl
theorem AtW.cells {w wx : World} {a : Option Addr} {len cap : Nat} {v : Vr} (h : AtW w a len cap v wx) :
    wx.cell? ⟨w.heap.size, 0, none⟩ = some (.slice a len cap) ∧ wx.cell? ⟨w.heap.size + 1 + 1, 0, none⟩ = some (.int .u64 (v.time : Int)) ∧ wx.cell? ⟨w.heap.size + 1 + 1, 1, none⟩ = some (.bool v.gone) ∧ wx.cell? ⟨w.heap.size + 1 + 1, 2, none⟩ = some (.string v.val) ∧
      (∀ j, wx.frozen? ⟨w.heap.size + 1 + 1, j, none⟩ = false) ∧ (∀ j, wx.frozen? ⟨w.heap.size + 1, j, none⟩ = false) ∧
      wx.cell? ⟨w.heap.size + 1, 0, none⟩ = some (.int .u64 0) ∧ wx.cell? ⟨w.heap.size + 1, 1, none⟩ = some (.bool false) ∧ wx.cell? ⟨w.heap.size + 1, 2, none⟩ = some (.string ⟨#[]⟩) := by
  refine ⟨?_, ?_, ?_, ?_, fun j => frozen_of_row _ _ _ _ _ h.best, fun j => frozen_of_row _ _ _ _ _ h.res, ?_, ?_, ?_⟩
  · rw [cell_of_row _ _ _ _ _ _ h.box]; rfl
  · rw [cell_of_row _ _ _ _ _ _ h.best]; rfl
  · rw [cell_of_row _ _ _ _ _ _ h.best]; rfl
  · rw [cell_of_row _ _ _ _ _ _ h.best]; rfl
  · rw [cell_of_row _ _ _ _ _ _ h.res]; rfl
  · rw [cell_of_row _ _ _ _ _ _ h.res]; rfl
  · rw [cell_of_row _ _ _ _ _ _ h.res]; rfl

set_option maxHeartbeats 4000000 in
theorem mat_any (a : Option Addr) (len cap : Nat) (L : List Im) (key : ByteArray) (t : Nat) (ht : t < 18446744073709551616) (w : World) (hz : IsItms w a len cap L) (hl : len ≤ 100000) :
    Calls Try.prog 38 #[.agg #[.slice a len cap], .string key, .int .u64 (t : Int)] w fun e w' => e = .returned (.tuple #[.agg (bestOf key t L).1.cells, .bool (bestOf key t L).2]) ∧ Below w.heap.size w w' := by
  have HZ := Lib.hid hz
  have hel := Lib.hid hz.1
  clear hz
  go_enter Try.func38, Try.ntmps38
  go_wp2_with fail
  have HW0 := Lib.hid (AtW.start w a len cap)
  go_loopg [9, 10] len (fun g s9 s10 wx => ∃ (i : Nat) (v : Vr) (ok : Bool), i + g = len ∧ s9 = .bool ok ∧ s10 = .int .i64 i ∧ Hid (bestOf key t (L.take i) = (v, ok)) ∧ Hid (AtW w a len cap v wx))
  case atStart => exact ⟨0, vr0, false, by omega, rfl, rfl, Lib.hid rfl, HW0⟩
  case round =>
    obtain ⟨i, v, ok, hig, rfl, rfl, HL, HW⟩ := hrel
    clear HW0
    obtain ⟨b0, m0, m1, m2, mf, rf, r0, r1, r2⟩ := HW.out.cells
    cases gk with
    | zero =>
      obtain rfl : i = len := by omega
      have hfin := HL.out
      rw [List.take_of_length_le (Nat.le_of_eq hel.out)] at hfin
      have HFin := Lib.hid hfin
      clear hfin
      go_wp2_with fail
      refine bodyPost_ret (v := .tuple #[.agg #[.int .u64 (v.time : Int), .bool v.gone, .string v.val], .bool ok]) ?_ rfl ⟨by rw [HFin.out]; rfl, ((HW.out.below.setCell (by simp) _).setCell (by simp) _).setCell (by simp) _⟩
      refine results_row_tmpM rfl _ _ (w.heap.size + 1) 42 _ (0, 0) _ _ rfl ?_ Try.underlying42 rfl verSizeM rfl
      rw [heap_setCell_same _ _ 2 _ _ _ (heap_setCell_same _ _ 1 _ _ _ (heap_setCell_same _ _ 0 _ _ _ HW.out.res))]
      rfl
    | succ g =>
      have hil : i < len := by omega
      have hiz : (i : Int) < (len : Int) := by omega
      have hie : i < L.length := by rw [hel.out]; exact hil
      obtain ⟨b, off, rfl, hbl, _, _, ht64, k0, k1, k2, k3⟩ := (HZ.out.below HW.out.below).2.2 i hil
      have HS := Lib.hid (bestOf_snoc key t (L.take i) (L.getD i im0))
      rw [← takeI_succ L hie, HL.out] at HS
      unfold bestStep sameK at HS
      obtain ⟨K, hK⟩ : ∃ K, K = (L.getD i im0).key := ⟨_, rfl⟩
      obtain ⟨z, hz⟩ : ∃ z, z = (L.getD i im0).v := ⟨_, rfl⟩
      rw [← hK, ← hz] at HS
      rw [← hK] at k0
      rw [← hz] at k1 k2 k3 ht64
      obtain ⟨E, hE⟩ : ∃ E, E = (K.toList == key.toList) := ⟨_, rfl⟩
      rw [← hE] at HS
      have hE2 := hE.symm
      clear hE hK hz HL
      cases E with
      | false =>
        have HS2 := Lib.hid (show bestOf key t (L.take (i + 1)) = (v, ok) by rw [HS.out]; rfl)
        clear HS k1 k2 k3
        go_wp2_with fail
        go_quiet (fail)
        go_wp2_with fail
        go_roundg g
        case measure => omega
        case rel => exact ⟨i + 1, v, ok, by omega, rfl, by go_num, HS2, Lib.hid (HW.out.drewN _)⟩
      | true =>
        by_cases h1 : z.time ≤ t
        · have c1 : (z.time : Int) ≤ (t : Int) := by omega
          have c1b : decide ((z.time : Int) ≤ (t : Int)) = true := by simpa using h1
          have c1c : decide (z.time ≤ t) = true := by simpa using h1
          by_cases h2 : v.time < z.time
          · have c2 : (v.time : Int) < (z.time : Int) := by omega
            have c2b : decide ((v.time : Int) < (z.time : Int)) = true := by simpa using h2
            have c2c : decide (v.time < z.time) = true := by simpa using h2
            have HS2 := Lib.hid (show bestOf key t (L.take (i + 1)) = (z, true) by rw [HS.out, c1c, c2c]; rfl)
            clear HS h1 h2
            go_wp2_with fail
            go_quiet (fail)
            go_wp2_with fail
            go_roundg g
            case measure => omega
            case rel => exact ⟨i + 1, z, true, by omega, rfl, by go_num, HS2, Lib.hid ((HW.out.drewN _).put z)⟩
          · have c2b : decide ((v.time : Int) < (z.time : Int)) = false := by simpa using h2
            have c2c : decide (v.time < z.time) = false := by simpa using h2
            have HS2 := Lib.hid (show bestOf key t (L.take (i + 1)) = (v, ok) by rw [HS.out, c1c, c2c]; rfl)
            clear HS h1 h2
            go_wp2_with fail
            go_quiet (fail)
            go_wp2_with fail
            go_roundg g
            case measure => omega
            case rel => exact ⟨i + 1, v, ok, by omega, rfl, by go_num, HS2, Lib.hid (HW.out.drewN _)⟩
        · have c1b : decide ((z.time : Int) ≤ (t : Int)) = false := by simpa using h1
          have c1c : decide (z.time ≤ t) = false := by simpa using h1
          have HS2 := Lib.hid (show bestOf key t (L.take (i + 1)) = (v, ok) by rw [HS.out, c1c]; rfl)
          clear HS h1
          go_wp2_with fail
          go_quiet (fail)
          go_wp2_with fail
          go_roundg g
          case measure => omega
          case rel => exact ⟨i + 1, v, ok, by omega, rfl, by go_num, HS2, Lib.hid (HW.out.drewN _)⟩
end Go.Proofs.Ythcomfcbdlobpaa
