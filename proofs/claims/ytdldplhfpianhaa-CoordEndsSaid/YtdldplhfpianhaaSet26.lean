/-
  Joined: CrdPReads, CrdPFunc.
-/
import Derived.Test.YtdldplhfpianhaaSet25
import Derived.Laws.MakeOwn
import Derived.Test.YtdldplhfpianhaaSet04
import Derived.Shelf.Abstract
namespace Go.Proofs.Ytdldplhfpianhaa
open Go.RowKit
set_option linter.unusedVariables false
set_option linter.unnecessarySimpa false
set_option linter.unusedSimpArgs false
set_option maxRecDepth 100000

def rdz : Array Value := #[.string ⟨#[]⟩, .bool false, .int .u64 0, .bool false, .string ⟨#[]⟩]
theorem rdInfo : (Try.prog.info? 45).map (fun i => (i.zero, i.size, i.bytes)) = some (some (.agg rdz), 5, 56) := by kernel_rfl
theorem rdC_empty (n : Nat) : madeCells rdz (n * 5) = (rdCells (List.replicate n rd0)).toArray := by
  apply Array.ext
  · rw [size_madeCells, List.size_toArray, rdCells_len, List.length_replicate]
  · intro i h1 h2
    rw [size_madeCells] at h1
    have h3 : i / 5 < n := by omega
    have h4 : i % 5 < 5 := Nat.mod_lt _ (by omega)
    have e := rdCells_at (List.replicate n rd0) (i / 5) (i % 5) (by simpa using h3) h4
    rw [show i / 5 * 5 + i % 5 = i by omega] at e
    rw [show (List.replicate n rd0).getD (i / 5) rd0 = rd0 by rw [List.getD, List.getElem?_replicate, if_pos h3]; rfl] at e
    have hl : i < (rdCells (List.replicate n rd0)).length := by rw [rdCells_len, List.length_replicate]; omega
    rw [List.getElem?_eq_getElem hl] at e
    have e2 : (madeCells rdz (n * 5))[i]? = (rd0.cells)[i % 5]? := by
      unfold madeCells
      rw [Array.getElem?_map, Array.getElem?_range, if_pos h1]
      have : i % 5 = 0 ∨ i % 5 = 1 ∨ i % 5 = 2 ∨ i % 5 = 3 ∨ i % 5 = 4 := by omega
      rcases this with h | h | h | h | h <;> simp [h, rd0, Rd.cells, rdz, vr0]
    rw [← e] at e2
    rw [Array.getElem?_eq_getElem (by rw [size_madeCells]; exact h1)] at e2
    injection e2
theorem r_mk (n : Nat) (h1 : n ≤ 1000) (w : World) :
    (Instr.makeSlice 37 (.int .i64 (n : Int)) (.int .i64 (n : Int))).run Try.prog w = .ok (.slice (some ⟨w.heap.size, 0, none⟩) n n) (w.alloc (.cells (rdCells (List.replicate n rd0)).toArray 45)) := by
  obtain ⟨i0, hi, hz0, hz1, hz2⟩ := info_parts rdInfo
  have := run_make (P := Try.prog) w 37 45 i0 (.agg rdz) Try.underlying37 hi hz0 .i64 .i64 (n : Int) (n : Int) (by omega) (Int.le_refl _) (by rw [hz2]; omega) (by omega)
  rw [this, hz1, ← rdC_empty]
  rfl
theorem rdCells_set : ∀ (L : List Rd) (i : Nat) (m : Rd), i < L.length → (((((rdCells L).set (i * 5) (.string m.key)).set (i * 5 + 1) (.bool m.found)).set (i * 5 + 2) (.int .u64 (m.v.time : Int))).set (i * 5 + 3) (.bool m.v.gone)).set (i * 5 + 4) (.string m.v.val) = rdCells (L.set i m)
  | [], i, m, h => by simp at h
  | x :: L, 0, m, h => by
    simp [rdCells, Rd.cells]
  | x :: L, i + 1, m, h => by
    have ih := rdCells_set L i m (by simpa using h)
    simp only [rdCells, Rd.cells, List.set_cons_succ, List.cons_append, List.nil_append]
    rw [← ih, show (i + 1) * 5 = i * 5 + 1 + 1 + 1 + 1 + 1 by omega, show i * 5 + 1 + 1 + 1 + 1 + 1 + 1 = (i * 5 + 1) + 1 + 1 + 1 + 1 + 1 by omega, show i * 5 + 1 + 1 + 1 + 1 + 1 + 2 = (i * 5 + 2) + 1 + 1 + 1 + 1 + 1 by omega, show i * 5 + 1 + 1 + 1 + 1 + 1 + 3 = (i * 5 + 3) + 1 + 1 + 1 + 1 + 1 by omega, show i * 5 + 1 + 1 + 1 + 1 + 1 + 4 = (i * 5 + 4) + 1 + 1 + 1 + 1 + 1 by omega]
    simp only [List.set_cons_succ]
/-- A row of n of them, the first i of which are ws's. -/
def newR (ws : List Rd) (n i : Nat) : List Rd := ws.take i ++ List.replicate (n - i) rd0
theorem newR_zero (ws : List Rd) (n : Nat) : newR ws n 0 = List.replicate n rd0 := by simp [newR]
theorem newR_all {ws : List Rd} {n : Nat} (h : ws.length = n) : newR ws n n = ws := by simp [newR, ← h]
theorem newR_len {ws : List Rd} {n i : Nat} (h : ws.length = n) (hi : i ≤ n) : (newR ws n i).length = n := by simp [newR]; omega
theorem newR_next {ws : List Rd} {n i : Nat} (h : ws.length = n) (hi : i < n) : (newR ws n i).set i (ws.getD i rd0) = newR ws n (i + 1) := by
  unfold newR
  have e : (ws.take i).length = i := by rw [List.length_take]; omega
  rw [List.set_append_right _ _ (by omega), e, Nat.sub_self, show n - i = (n - (i + 1)) + 1 by omega, List.replicate_succ, List.set_cons_zero, List.take_add_one, List.getElem?_eq_getElem (by omega), List.append_assoc]
  rw [List.getD, List.getElem?_eq_getElem (by omega)]
  rfl
/-- The new row at g, in the midst. -/
structure CloR (w : World) (g : Nat) (L : List Rd) (W : World) : Prop where
  below : Below w.heap.size w W
  row : W.heap[g]? = some (.cells (rdCells L).toArray 45 (0, 0))
  le : w.heap.size ≤ g
section
variable {w W W2 : World} {g : Nat} {L : List Rd}
theorem CloR.later (h : CloR w g L W) (hb : Below W.heap.size W W2) : CloR w g L W2 :=
  ⟨h.below.trans (hb.mono h.below.size), (hb.block g (Array.getElem?_eq_some_iff.1 h.row).1).trans h.row, h.le⟩
theorem CloR.cells (h : CloR w g L W) {i : Nat} (hi : i < L.length) : W.cell? ⟨g, i * 5, none⟩ = some (.string (L.getD i rd0).key) ∧ W.cell? ⟨g, i * 5 + 1, none⟩ = some (.bool (L.getD i rd0).found) ∧ W.cell? ⟨g, i * 5 + 2, none⟩ = some (.int .u64 ((L.getD i rd0).v.time : Int)) ∧ W.cell? ⟨g, i * 5 + 3, none⟩ = some (.bool (L.getD i rd0).v.gone) ∧ W.cell? ⟨g, i * 5 + 4, none⟩ = some (.string (L.getD i rd0).v.val) ∧ ∀ j, W.frozen? ⟨g, j, none⟩ = false := by
  refine ⟨?_, ?_, ?_, ?_, ?_, fun j => frozen_of_row _ _ _ _ _ h.row⟩
  · rw [cell_of_row _ _ _ _ _ _ h.row, List.getElem?_toArray, show i * 5 = i * 5 + 0 from rfl, rdCells_at L i 0 hi (by omega)]; rfl
  · rw [cell_of_row _ _ _ _ _ _ h.row, List.getElem?_toArray, rdCells_at L i 1 hi (by omega)]; rfl
  · rw [cell_of_row _ _ _ _ _ _ h.row, List.getElem?_toArray, rdCells_at L i 2 hi (by omega)]; rfl
  · rw [cell_of_row _ _ _ _ _ _ h.row, List.getElem?_toArray, rdCells_at L i 3 hi (by omega)]; rfl
  · rw [cell_of_row _ _ _ _ _ _ h.row, List.getElem?_toArray, rdCells_at L i 4 hi (by omega)]; rfl
theorem CloR.set (h : CloR w g L W) {i : Nat} (hi : i < L.length) (m : Rd) : CloR w g (L.set i m) (((((W.setCell ⟨g, i * 5, none⟩ (.string m.key)).setCell ⟨g, i * 5 + 1, none⟩ (.bool m.found)).setCell ⟨g, i * 5 + 2, none⟩ (.int .u64 (m.v.time : Int))).setCell ⟨g, i * 5 + 3, none⟩ (.bool m.v.gone)).setCell ⟨g, i * 5 + 4, none⟩ (.string m.v.val)) := by
  refine ⟨((((h.below.setCell (p := ⟨g, i * 5, none⟩) h.le _).setCell (p := ⟨g, i * 5 + 1, none⟩) h.le _).setCell (p := ⟨g, i * 5 + 2, none⟩) h.le _).setCell (p := ⟨g, i * 5 + 3, none⟩) h.le _).setCell (p := ⟨g, i * 5 + 4, none⟩) h.le _, ?_, h.le⟩
  have h1 := heap_setCell_same _ g (i * 5) _ _ (.string m.key) h.row
  have h2 := heap_setCell_same _ g (i * 5 + 1) _ _ (.bool m.found) h1
  have h3 := heap_setCell_same _ g (i * 5 + 2) _ _ (.int .u64 (m.v.time : Int)) h2
  have h4 := heap_setCell_same _ g (i * 5 + 3) _ _ (.bool m.v.gone) h3
  have h5 := heap_setCell_same _ g (i * 5 + 4) _ _ (.string m.v.val) h4
  rw [h5]
  simp only [List.setIfInBounds_toArray]
  rw [rdCells_set L i m hi]
theorem CloR.rds (h : CloR w g L W) {n : Nat} (hl : L.length = n) (hn : n ≤ 1000) (hs : ∀ m ∈ L, m.ok) : IsRds W (some ⟨g, 0, none⟩) n n L := by
  refine ⟨hl, hn, Nat.le_refl _, fun i hi => ⟨g, 0, rfl, ?_⟩⟩
  obtain ⟨c0, c1, c2, c3, c4, _⟩ := h.cells (i := i) (by omega)
  have k1 := hs (L.getD i rd0) (by rw [List.getD, List.getElem?_eq_getElem (show i < L.length by omega)]; exact List.getElem_mem _)
  exact ⟨(Array.getElem?_eq_some_iff.1 h.row).1, k1, by rw [Nat.zero_add]; exact c0, by rw [Nat.zero_add]; exact c1, by rw [Nat.zero_add]; exact c2, by rw [Nat.zero_add]; exact c3, by rw [Nat.zero_add]; exact c4⟩
end
section
variable {w : World} {r : Addr} {b : Nat} {u : Rw} {F : Nat → Prop} {p : Pn} {t : Tn} {x : Rn}
set_option maxHeartbeats 4000000 in
theorem preads_any (h : RnM w r b u F p t x) (hok : RnOk p x) :
    Calls Try.prog 18 #[.pointer (some r)] w fun e w' => ∃ a c, e = .returned (.slice a x.read.length c) ∧ IsRds w' a x.read.length c x.read ∧ Below w.heap.size w w' := by
  obtain ⟨-, -, -, -, -, c5, -⟩ := h.cells
  have hp := h.ptr
  subst hp
  have hblt := h.blt
  have hbx := h.box
  obtain ⟨ws, hws⟩ : ∃ ws, ws = x.read := ⟨_, rfl⟩
  obtain ⟨n, hn⟩ : ∃ n, n = ws.length := ⟨_, rfl⟩
  have hn8 : n ≤ 8 := by rw [hn, hws]; have := hok.most; have := h.pn.R.1; omega
  have hrds := rds_own h.reads rfl (by rw [← hws, ← hn]; omega) hok.ok
  obtain ⟨ra, hra⟩ : ∃ ra, ra = u.ra := ⟨_, rfl⟩
  rw [← hws, ← hn, ← hra] at hrds c5
  rw [← hws, ← hn]
  have HZ := Lib.hid hrds
  have HL := Lib.hid hn.symm
  have HSM := Lib.hid (show ∀ m ∈ ws, m.ok by rw [hws]; exact hok.ok)
  have HCL := Lib.hid (fun W m hm => pcloneR_any m W hm)
  have hmk := r_mk n (by omega) w
  obtain ⟨Z, hZ⟩ : ∃ Z, Z = (rdCells (List.replicate n rd0)).toArray := ⟨_, rfl⟩
  rw [← hZ] at hmk
  have HZ0 := Lib.hid hZ
  have hn8' := Lib.hid hn8
  clear h hok hrds hZ hn hws hra hbx
  go_enter Try.func18, Try.ntmps18
  go_upto_region 2 with fail
  clear hmk
  obtain ⟨w1, hw1⟩ : ∃ w1, w1 = w.alloc (.cells Z 45) := ⟨_, rfl⟩
  obtain ⟨g, hg⟩ : ∃ g, g = w.heap.size := ⟨_, rfl⟩
  have HC0 := Lib.hid (show CloR w g (newR ws n 0) w1 from ⟨by rw [hw1]; exact (Below.refl _ _).alloc (Nat.le_refl _) _, by rw [hw1, hg, newR_zero, ← HZ0.out]; exact heap_alloc_new w _, by omega⟩)
  have HGE := Lib.hid (Nat.le_of_eq hg.symm)
  have d5 : w1.cell? ⟨b, 5, none⟩ = some (.slice ra n u.rc) := (HC0.out.below.cell (p := ⟨b, 5, none⟩) hblt).trans c5
  rw [← hw1, ← hg]
  clear hw1 hg HZ0 c5
  go_wp2_with fail
  go_loopg [4, 5, 17] n (fun gg _ _ s17 wr => ∃ i : Nat, i + gg = n ∧ s17 = .int .i64 i ∧ Hid (CloR w g (newR ws n i) wr))
  case atStart => exact ⟨0, by omega, rfl, HC0⟩
  case round =>
    obtain ⟨i, hg, rfl, HB⟩ := hrel
    clear d5
    by_cases hlt : i < n
    · obtain ⟨k, rfl⟩ : ∃ k, gk = k + 1 := ⟨gk - 1, by omega⟩
      have hltz : (i : Int) < (n : Int) := by omega
      obtain ⟨rb, off, rfl, hbl, hk1, q0, q1, q2, q3, q4⟩ := (HZ.out.below HB.out.below).2.2.2 i hlt
      obtain ⟨m, hm⟩ : ∃ m, m = ws.getD i rd0 := ⟨_, rfl⟩
      have HNX := Lib.hid (show (newR ws n i).set i m = newR ws n (i + 1) from by rw [hm]; exact newR_next HL.out hlt)
      rw [← hm] at hk1 q0 q1 q2 q3 q4
      have HCM := Lib.hid (fun W => HCL.out W m hk1)
      obtain ⟨K, G, ⟨T, J, V⟩⟩ := m
      simp only at q0 q1 q2 q3 q4
      have q3' : wr.cell? ⟨rb, off + i * 5 + 3, none⟩ = some (.bool J) := q3
      have q4' : wr.cell? ⟨rb, off + i * 5 + 4, none⟩ = some (.string V) := q4
      have hb1 := (Below.refl wr.heap.size wr).alloc (Nat.le_refl _) (.cells #[.string K, .bool G, .int .u64 (T : Int), .bool J, .string V] 45)
      have hr1 := heap_alloc_new wr (.cells #[.string K, .bool G, .int .u64 (T : Int), .bool J, .string V] 45)
      obtain ⟨w2, hw2⟩ : ∃ w2, w2 = wr.alloc (.cells #[.string K, .bool G, .int .u64 (T : Int), .bool J, .string V] 45) := ⟨_, rfl⟩
      rw [← hw2] at hb1 hr1
      obtain ⟨A, hA⟩ : ∃ A, A = wr.heap.size := ⟨_, rfl⟩
      rw [← hA] at hr1
      have HB2 := Lib.hid (HB.out.later hb1)
      obtain ⟨c0, c1, c2, c3, c4⟩ := pcells5 hr1
      have hil : i < (newR ws n i).length := by rw [newR_len HL.out (by omega)]; exact hlt
      have HIL := Lib.hid hil
      clear hm hk1 hb1 hr1 hil q3 q4
      go_upto_region 5 with fail
      rw [← hw2, ← hA]
      clear hw2 hA
      clear q0 q1 q2 q3' q4'
      go_wp2_with (go_at_call 37; (with_reducible refine (HCM.out _).mono ?_); rintro e w4 ⟨rfl, hb4⟩; have HB4 := Lib.hid (HB2.out.later hb4); obtain ⟨y0, y1, y2, y3, y4, yf⟩ := HB4.out.cells HIL.out; clear hb4)
      have HN := Lib.hid (HB4.out.set HIL.out ⟨K, G, ⟨T, J, V⟩⟩)
      rw [HNX.out] at HN
      go_roundg k
      case measure => omega
      case rel => exact ⟨i + 1, by omega, by go_num, HN⟩
    · have hltz : ¬ (i : Int) < (n : Int) := by omega
      have hin : i = n := by omega
      subst hin
      go_wp2_with fail
      go_ret
      exact ⟨some ⟨g, 0, none⟩, i, rfl, by have := HB.out; rw [newR_all HL.out] at this; exact this.rds HL.out (by omega) HSM.out, HB.out.below⟩
end
end Go.Proofs.Ytdldplhfpianhaa

namespace Go.Proofs.Ytdldplhfpianhaa
open Go.RowKit Go.Shelf
set_option linter.unusedVariables false
set_option linter.unnecessarySimpa false
set_option linter.unusedSimpArgs false
set_option maxRecDepth 100000

def wqV (m : Wq) : Value := .agg #[.string m.key, .bool m.gone, .string m.val]
/-- A function value tells f of each of the writes, wherever what lay in w lies as it lay. -/
def TellsW (g : Nat) (lb : Array Value) (f : Wq → Bool) (ws : List Wq) (w : World) : Prop :=
  ∀ W i, i < ws.length → Below w.heap.size w W → Calls Try.prog g (#[wqV (ws.getD i wq0)] ++ lb) W fun e w' => e = .returned (.bool (f (ws.getD i wq0))) ∧ Below W.heap.size W w'
theorem IsWqs.take {w : World} {a : Option Addr} {n c : Nat} {ws : List Wq} (h : IsWqs w a n c ws) {i : Nat} (hi : i ≤ n) : IsWqs w a i c (ws.take i) := by
  have hl := h.1
  refine ⟨by rw [List.length_take]; omega, Nat.le_trans hi h.2.1, Nat.le_trans hi h.2.2.1, fun j hj => ?_⟩
  obtain ⟨b, off, e, q⟩ := h.2.2.2 j (by omega)
  refine ⟨b, off, e, ?_⟩
  rw [show (ws.take i).getD j wq0 = ws.getD j wq0 by rw [List.getD, List.getD, List.getElem?_take, if_pos hj]]
  exact q
theorem IsWqs.getSize {w : World} {a : Option Addr} {n c : Nat} {ws : List Wq} (h : IsWqs w a n c ws) {i : Nat} (hi : i < ws.length) : (ws.getD i wq0).key.size ≤ maxLen ∧ (ws.getD i wq0).val.size ≤ maxLen := by
  obtain ⟨b, off, e, q1, q2, q3, _⟩ := h.2.2.2 i (by have := h.1; omega)
  exact ⟨q2, q3⟩

set_option maxHeartbeats 4000000 in
theorem pindexW_any (g : Nat) (lb : Array Value) (eg : ∀ args w, (callFunc g args).run Try.prog w = .ok (.enter g args) w) (f : Wq → Bool) (a : Option Addr) (n c : Nat) (ws : List Wq) (w : World) (h : IsWqs w a n c ws) (hp : TellsW g lb f ws w) (hn : n ≤ 1000) :
    Calls Try.prog 60 #[.slice a n c, .func (.func g) #[] lb] w fun e w' => ∃ k : Int, e = .returned (.int .i64 k) ∧ decide (0 ≤ k) = ws.any f ∧ Below w.heap.size w w' := by
  have HZ := Lib.hid h
  have HP := Lib.hid hp
  have HL := Lib.hid h.1
  clear h hp
  go_enter Try.func60, Try.ntmps60
  go_wp2_with fail
  go_loopg [5, 8] n (fun gg _ s8 wr => ∃ i : Nat, i + gg = n ∧ s8 = .int .i64 i ∧ Hid (Below w.heap.size w wr) ∧ Hid (∀ j, j < i → f (ws.getD j wq0) = false))
  case atStart => exact ⟨0, by omega, rfl, Lib.hid (Below.refl _ w), Lib.hid (fun j hj => absurd hj (Nat.not_lt_zero _))⟩
  case round =>
    obtain ⟨i, hg, rfl, HB, HA⟩ := hrel
    by_cases hlt : i < n
    · obtain ⟨k, rfl⟩ : ∃ k, gk = k + 1 := ⟨gk - 1, by omega⟩
      have hltz : (i : Int) < (n : Int) := by omega
      obtain ⟨b, off, rfl, hbl, hk1, hk2, q0, q1, q2⟩ := (HZ.out.below HB.out).2.2.2 i hlt
      have hcall := HP.out wr i (by have := HL.out; omega) HB.out
      obtain ⟨m, hm⟩ : ∃ m, m = ws.getD i wq0 := ⟨_, rfl⟩
      rw [← hm] at hk1 hk2 q0 q1 q2 hcall
      have HM := Lib.hid hm
      clear hm hk1 hk2
      unfold wqV at hcall
      obtain ⟨K, G, V⟩ := m
      simp only at q0 q1 q2 hcall
      cases hq : f ⟨K, G, V⟩ with
      | true =>
        rw [hq] at hcall
        have HQ := Lib.hid hq
        clear hq
        go_wp2_with (go_at_fn g; refine hcall.mono ?_; rintro e w' ⟨rfl, hb'⟩)
        go_ret
        refine ⟨(i : Int), rfl, ?_, HB.out.trans (hb'.mono HB.out.size)⟩
        rw [decide_eq_true (by omega)]
        exact (any_getD (d := wq0) (i := i) (by have := HL.out; omega) (by rw [← HM.out]; exact HQ.out)).symm
      | false =>
        rw [hq] at hcall
        have HQ := Lib.hid hq
        clear hq
        go_wp2_with (go_at_fn g; refine hcall.mono ?_; rintro e w' ⟨rfl, hb'⟩)
        go_roundg k
        case measure => omega
        case rel =>
          refine ⟨i + 1, by omega, by go_num, Lib.hid (HB.out.trans (hb'.mono HB.out.size)), Lib.hid (fun j hj => ?_)⟩
          by_cases e : j = i
          · subst e
            rw [← HM.out]; exact HQ.out
          · exact HA.out j (by omega)
    · have hltz : ¬ (i : Int) < (n : Int) := by omega
      have hin : i = n := by omega
      go_wp2_with fail
      go_ret
      refine ⟨-1, rfl, ?_, HB.out⟩
      rw [decide_eq_false (by omega)]
      exact (any_none (d := wq0) (fun j hj => HA.out j (by have := HL.out; omega))).symm

theorem pcontW_any (g : Nat) (lb : Array Value) (eg : ∀ args w, (callFunc g args).run Try.prog w = .ok (.enter g args) w) (f : Wq → Bool) (a : Option Addr) (n c : Nat) (ws : List Wq) (w : World) (h : IsWqs w a n c ws) (hp : TellsW g lb f ws w) (hn : n ≤ 1000) :
    Calls Try.prog 50 #[.slice a n c, .func (.func g) #[] lb] w fun e w' => e = .returned (.bool (ws.any f)) ∧ Below w.heap.size w w' := by
  have H := Lib.hid (pindexW_any g lb eg f a n c ws w h hp hn)
  obtain ⟨B, hB⟩ : ∃ B, B = ws.any f := ⟨_, rfl⟩
  rw [← hB] at H ⊢
  clear h hp hB eg
  go_enter Try.func50, Try.ntmps50
  go_wp2_with (go_at_call 60; refine H.out.mono ?_; rintro e w1 ⟨k, rfl, hk, hb1⟩)
  go_ret
  exact ⟨rfl, hb1⟩

/-! The function values. -/
set_option maxHeartbeats 1000000 in
theorem psameW_any (m : Wq) (key : ByteArray) (gone : Bool) (val : ByteArray) (G : Nat) (w : World) (hG : w.heap[G]? = some (.cells #[.string key, .bool gone, .string val] 64 (0, 0))) :
    Calls Try.prog 49 (#[wqV m] ++ #[.pointer (some ⟨G, 0, none⟩)]) w fun e w' => e = .returned (.bool (sameK m.key key)) ∧ Below w.heap.size w w' := by
  have HB := Lib.hid ((Below.refl w.heap.size w).alloc (Nat.le_refl _) (.cells #[.string m.key, .bool m.gone, .string m.val] 64))
  have hGl : G < w.heap.size := (Array.getElem?_eq_some_iff.1 hG).1
  obtain ⟨q0, q1, q2⟩ := pcells3 hG
  clear hG
  unfold wqV sameK
  obtain ⟨K, g, V⟩ := m
  simp only at *
  show Calls Try.prog 49 #[.agg #[.string K, .bool g, .string V], .pointer (some ⟨G, 0, none⟩)] w _
  go_enter Try.func49, Try.ntmps49
  go_wp2_with fail
  go_ret
  exact ⟨rfl, HB.out⟩

/-- A function value tells f of each of the keys. -/
def TellsS (g : Nat) (lb : Array Value) (f : ByteArray → Bool) (ws : List ByteArray) (w : World) : Prop :=
  ∀ W i, i < ws.length → Below w.heap.size w W → Calls Try.prog g (#[.string (ws.getD i ⟨#[]⟩)] ++ lb) W fun e w' => e = .returned (.bool (f (ws.getD i ⟨#[]⟩))) ∧ Below W.heap.size W w'
set_option maxHeartbeats 4000000 in
theorem pindexS_any (g : Nat) (lb : Array Value) (eg : ∀ args w, (callFunc g args).run Try.prog w = .ok (.enter g args) w) (f : ByteArray → Bool) (a : Option Addr) (n c : Nat) (ws : List ByteArray) (w : World) (h : IsKs w a n c ws) (hp : TellsS g lb f ws w) (hn : n ≤ 1000) :
    Calls Try.prog 61 #[.slice a n c, .func (.func g) #[] lb] w fun e w' => ∃ k : Int, e = .returned (.int .i64 k) ∧ decide (0 ≤ k) = ws.any f ∧ Below w.heap.size w w' := by
  have HZ := Lib.hid h
  have HP := Lib.hid hp
  have HL := Lib.hid h.1
  clear h hp
  go_enter Try.func61, Try.ntmps61
  go_wp2_with fail
  go_loopg [5, 8] n (fun gg _ s8 wr => ∃ i : Nat, i + gg = n ∧ s8 = .int .i64 i ∧ Hid (Below w.heap.size w wr) ∧ Hid (∀ j, j < i → f (ws.getD j ⟨#[]⟩) = false))
  case atStart => exact ⟨0, by omega, rfl, Lib.hid (Below.refl _ w), Lib.hid (fun j hj => absurd hj (Nat.not_lt_zero _))⟩
  case round =>
    obtain ⟨i, hg, rfl, HB, HA⟩ := hrel
    by_cases hlt : i < n
    · obtain ⟨k, rfl⟩ : ∃ k, gk = k + 1 := ⟨gk - 1, by omega⟩
      have hltz : (i : Int) < (n : Int) := by omega
      obtain ⟨b, off, rfl, hbl, hk1, q0⟩ := (HZ.out.below HB.out).2.2 i hlt
      have hcall := HP.out wr i (by have := HL.out; omega) HB.out
      obtain ⟨K, hm⟩ : ∃ K, K = ws.getD i ⟨#[]⟩ := ⟨_, rfl⟩
      rw [← hm] at hk1 q0 hcall
      have HM := Lib.hid hm
      clear hm hk1
      cases hq : f K with
      | true =>
        rw [hq] at hcall
        have HQ := Lib.hid hq
        clear hq
        go_wp2_with (go_at_fn g; refine hcall.mono ?_; rintro e w' ⟨rfl, hb'⟩)
        go_ret
        refine ⟨(i : Int), rfl, ?_, HB.out.trans (hb'.mono HB.out.size)⟩
        rw [decide_eq_true (by omega)]
        exact (any_getD (d := ⟨#[]⟩) (i := i) (by have := HL.out; omega) (by rw [← HM.out]; exact HQ.out)).symm
      | false =>
        rw [hq] at hcall
        have HQ := Lib.hid hq
        clear hq
        go_wp2_with (go_at_fn g; refine hcall.mono ?_; rintro e w' ⟨rfl, hb'⟩)
        go_roundg k
        case measure => omega
        case rel =>
          refine ⟨i + 1, by omega, by go_num, Lib.hid (HB.out.trans (hb'.mono HB.out.size)), Lib.hid (fun j hj => ?_)⟩
          by_cases e : j = i
          · subst e
            rw [← HM.out]; exact HQ.out
          · exact HA.out j (by omega)
    · have hltz : ¬ (i : Int) < (n : Int) := by omega
      have hin : i = n := by omega
      go_wp2_with fail
      go_ret
      refine ⟨-1, rfl, ?_, HB.out⟩
      rw [decide_eq_false (by omega)]
      exact (any_none (d := ⟨#[]⟩) (fun j hj => HA.out j (by have := HL.out; omega))).symm
theorem pcontS_any (g : Nat) (lb : Array Value) (eg : ∀ args w, (callFunc g args).run Try.prog w = .ok (.enter g args) w) (f : ByteArray → Bool) (a : Option Addr) (n c : Nat) (ws : List ByteArray) (w : World) (h : IsKs w a n c ws) (hp : TellsS g lb f ws w) (hn : n ≤ 1000) :
    Calls Try.prog 53 #[.slice a n c, .func (.func g) #[] lb] w fun e w' => e = .returned (.bool (ws.any f)) ∧ Below w.heap.size w w' := by
  have H := Lib.hid (pindexS_any g lb eg f a n c ws w h hp hn)
  obtain ⟨B, hB⟩ : ∃ B, B = ws.any f := ⟨_, rfl⟩
  rw [← hB] at H ⊢
  clear h hp hB eg
  go_enter Try.func53, Try.ntmps53
  go_wp2_with (go_at_call 61; refine H.out.mono ?_; rintro e w1 ⟨k, rfl, hk, hb1⟩)
  go_ret
  exact ⟨rfl, hb1⟩
/-! tooLong. -/
set_option maxHeartbeats 1000000 in
theorem plongK_any (K : ByteArray) (hK : K.size ≤ maxLen) (w : World) : Calls Try.prog 51 #[.string K] w fun e w' => e = .returned (.bool (longK K)) ∧ Below w.heap.size w w' := by
  unfold longK maxLen at *
  obtain ⟨x, hx⟩ : ∃ x, x = decide (100 < K.size) := ⟨_, rfl⟩
  have hxz : decide ((100 : Int) < (K.size : Int)) = x := by rw [hx, decide_eq_decide]; omega
  rw [← hx]
  have hx2 := hx.symm
  clear hx
  go_enter Try.func51, Try.ntmps51
  go_wp2_with fail
  go_ret
  exact ⟨by first | rfl | rw [hx2] | rw [hxz], Below.refl _ _⟩
end Go.Proofs.Ytdldplhfpianhaa
