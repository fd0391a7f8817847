/-
  The document's Install: the store behind it, the error.
-/
import Derived.Test.YthcomfcbdlobpaaSet05
import Derived.Test.YthcomfcbdlobpaaSet07
import Derived.Test.YthcomfcbdlobpaaSet04
namespace Go.Proofs.Ythcomfcbdlobpaa
open Go.RowKit
set_option linter.unusedVariables false
set_option linter.unnecessarySimpa false
set_option linter.unusedSimpArgs false
set_option maxRecDepth 100000

theorem run_bs0 (w : World) : (Instr.buildSlice 29 0 #[]).run Try.prog w = .ok (.slice (some ⟨w.heap.size, 0, none⟩) 0 0) (w.alloc (.cells #[] 111)) := by
  obtain ⟨i, z, hi, hz0, hz1, hz2, hz3⟩ := itemI
  unfold Instr.buildSlice
  have hr : Array.range 0 = #[] := rfl
  simp [run_underlying Try.underlying29, sizeOf, typeInfo, zeroValue, hi, hz2, Instr.fill, newRow, Sem.run_bind, hr]
theorem wp_bs0 {op : Oper} {a : Act} {w : World} {K : Act → World → Prop} {Q : Exit → Act → World → Prop} (ho : op.op = .buildSlice 29 0 #[])
    (h : K (a.put op.dst (.slice (some ⟨w.heap.size, 0, none⟩) 0 0)) (w.alloc (.cells #[] 111))) : op.wp Try.prog a w K Q := by
  unfold Oper.wp execOp
  simp [ho, run_bs0 w, Oper.upon]
  exact h
theorem run_bs1 (w : World) (m : Im) : (Instr.buildSlice 29 1 #[(0, .agg m.cells.toArray)]).run Try.prog w = .ok (.slice (some ⟨w.heap.size, 0, none⟩) 1 1) (w.alloc (.cells m.cells.toArray 111)) := by
  obtain ⟨i, z, hi, hz0, hz1, hz2, hz3⟩ := itemI
  unfold Instr.buildSlice
  have hr : Array.range 4 = #[0, 1, 2, 3] := rfl
  simp [run_underlying Try.underlying29, sizeOf, typeInfo, zeroValue, hi, hz0, hz1, hz2, Instr.fill, newRow, Sem.run_bind, hr, Im.cells, Value.cells]
theorem wp_bs1 {op : Oper} {a : Act} {w : World} {K : Act → World → Prop} {Q : Exit → Act → World → Prop} (x : Operand) (m : Im) (ho : op.op = .buildSlice 29 1 #[(0, x)]) (hx : a.eval x = .agg m.cells.toArray)
    (h : K (a.put op.dst (.slice (some ⟨w.heap.size, 0, none⟩) 1 1)) (w.alloc (.cells m.cells.toArray 111))) : op.wp Try.prog a w K Q := by
  unfold Oper.wp execOp
  simp [ho, hx, run_bs1 w m, Oper.upon]
  exact h

def badIm (m : Im) : Bool := m.v.time == 0 || (m.v.gone && !m.v.val.toList.isEmpty)
/-- The document's Install. -/
def insM (L : List Im) (m : Im) : List Im × Nat :=
  if 100 < m.key.size || 500 < m.v.val.size then (L, 3) else if badIm m then (L, 1) else if m.v.time ≤ (lastOf m.key L).1 then (L, 8) else if 200 ≤ (lastOf m.key L).2 then (L, 11) else (L ++ [m], 0)

/-- A store of the document's: its value. -/
def StV (w : World) (s : Value) (L : List Im) : Prop := ∃ a cap, s = .slice a L.length cap ∧ IsItms w a L.length cap L ∧ (L.length = 0 → a = none → cap = 0)
theorem StV.below {w w' : World} {s : Value} {L : List Im} (h : StV w s L) (hb : Below w.heap.size w w') : StV w' s L := by
  obtain ⟨a, cap, h1, h2, h3⟩ := h
  exact ⟨a, cap, h1, h2.below hb, h3⟩

/-- The world of the call. -/
structure InsW (w : World) (s : Value) (v : Vr) (wx : World) : Prop where
  below : Below w.heap.size w wx
  box : wx.heap[w.heap.size]? = some (.cells #[s] 31 (0, 0))
  ver : wx.heap[w.heap.size + 1]? = some (.cells #[.int .u64 (v.time : Int), .bool v.gone, .string v.val] 42 (0, 0))
  res : wx.heap[w.heap.size + 1 + 1]? = some (.cells #[.slice none 0 0] 31 (0, 0))
theorem InsW.start (w : World) (s : Value) (v : Vr) : InsW w s v (((w.alloc (.cells #[s] 31)).alloc (.cells #[.int .u64 (v.time : Int), .bool v.gone, .string v.val] 42)).alloc (.cells #[.slice none 0 0] 31)) := by
  refine ⟨(((Below.refl w.heap.size w).alloc (Nat.le_refl _) _).alloc (by simp) _).alloc (by simp; omega) _, ?_, ?_, ?_⟩
  · show (((w.heap.push _).push _).push _)[w.heap.size]? = _
    rw [Array.getElem?_push, if_neg (by simp; omega), Array.getElem?_push, if_neg (by simp), Array.getElem?_push, if_pos rfl]
  · show (((w.heap.push _).push _).push _)[w.heap.size + 1]? = _
    rw [Array.getElem?_push, if_neg (by simp), Array.getElem?_push, if_pos (by simp)]
  · show (((w.heap.push _).push _).push _)[w.heap.size + 1 + 1]? = _
    rw [Array.getElem?_push, if_pos (by simp)]
theorem InsW.later {w wx w' : World} {s : Value} {v : Vr} (h : InsW w s v wx) (hb : Below wx.heap.size wx w') : InsW w s v w' := by
  have hl : ∀ {k : Nat} {o : Obj}, wx.heap[k]? = some o → k < wx.heap.size := fun h => (Array.getElem?_eq_some_iff.1 h).1
  exact ⟨h.below.trans (hb.mono h.below.size), (hb.block _ (hl h.box)).trans h.box, (hb.block _ (hl h.ver)).trans h.ver, (hb.block _ (hl h.res)).trans h.res⟩
theorem InsW.cells {w wx : World} {s : Value} {v : Vr} (h : InsW w s v wx) :
    wx.cell? ⟨w.heap.size, 0, none⟩ = some s ∧ wx.cell? ⟨w.heap.size + 1, 0, none⟩ = some (.int .u64 (v.time : Int)) ∧ wx.cell? ⟨w.heap.size + 1, 1, none⟩ = some (.bool v.gone) ∧ wx.cell? ⟨w.heap.size + 1, 2, none⟩ = some (.string v.val) ∧
      wx.cell? ⟨w.heap.size + 1 + 1, 0, none⟩ = some (.slice none 0 0) ∧ (∀ j, wx.frozen? ⟨w.heap.size + 1 + 1, j, none⟩ = false) := by
  refine ⟨?_, ?_, ?_, ?_, ?_, fun j => frozen_of_row _ _ _ _ _ h.res⟩
  · rw [cell_of_row _ _ _ _ _ _ h.box]; rfl
  · rw [cell_of_row _ _ _ _ _ _ h.ver]; rfl
  · rw [cell_of_row _ _ _ _ _ _ h.ver]; rfl
  · rw [cell_of_row _ _ _ _ _ _ h.ver]; rfl
  · rw [cell_of_row _ _ _ _ _ _ h.res]; rfl
theorem storeSize : (Try.prog.info? 31).map (·.size) = some 1 := by kernel_rfl
theorem verSize3 : (Try.prog.info? 42).map (·.size) = some 3 := by kernel_rfl

def psiI (B H : Nat) (s : Value) (L : List Im) (m : Im) : Nat → Value → World → Prop
  | 1 => fun v _ => v = .string m.key
  | 3 => fun v _ => v = .pointer (some ⟨H, 0, none⟩)
  | 5 => fun v _ => v = .pointer (some ⟨H + 1, 0, none⟩)
  | 6 => fun v _ => v = .pointer (some ⟨H + 1 + 1, 0, none⟩)
  | 47 => fun v w => RowOf B true [] v w
  | 48 => fun v _ => v = .pointer (some ⟨H, 0, none⟩)
  | 49 => fun v _ => v = s
  | 50 => fun v w => RowOf B (L.length == 0) L v w
  | 51 => fun v _ => v = .string m.key
  | 52 => fun v _ => v = .agg #[.int .u64 (m.v.time : Int), .bool m.v.gone, .string m.v.val]
  | 53 => fun v _ => v = .agg m.cells.toArray
  | 54 => fun v w => RowOf B true [m] v w
  | 55 => fun v w => RowOf B false (L ++ [m]) v w
  | 56 => fun v w => ∃ s', v = .agg #[s'] ∧ RowOf B false (L ++ [m]) s' w
  | 7 => fun v _ => v = .int .i64 0
  | _ => fun _ _ => True
theorem psiI_stable (B H R : Nat) (s : Value) (L : List Im) (m : Im) : ∀ t v w w', psiI B H s L m t v w → RowKeep B R L m w w' → psiI B H s L m t v w' := by
  intro t v w w' hp hk
  unfold psiI at *
  split at hp <;> first
    | exact hp
    | exact hk.k0 _ hp
    | exact hk.k1 _ hp
    | exact hk.k2 _ hp
    | exact hk.k3 _ hp
    | (obtain ⟨s', h1, h2⟩ := hp; exact ⟨s', h1, hk.k3 _ h2⟩)
def GoodI (B R : Nat) (L : List Im) (m : Im) (i : Nat) (w : World) : Prop := i = 10 → ∃ s', RowOf B false (L ++ [m]) s' w ∧ w.heap[R]? = some (.cells #[s'] 31 (0, 0))
theorem goodI_stable (B R : Nat) (L : List Im) (m : Im) : ∀ i w w', GoodI B R L m i w → RowKeep B R L m w w' → GoodI B R L m i w' := by
  intro i w w' h hk e
  obtain ⟨s', h1, h2⟩ := h e
  exact hk.good s' h1 h2

/-- What Install leaves. -/
def InsOut (w : World) (s0 : Value) (L : List Im) (c : Nat) (e : Ending) (w' : World) : Prop := ∃ s, e = .returned (.tuple #[.agg #[s], .int .i64 (c : Int)]) ∧ StV w' s L ∧ Below w.heap.size w w' ∧ (s = s0 ∨ ∃ h n c, s = .slice (some ⟨h, 0, none⟩) n c ∧ w.heap.size ≤ h)
theorem RowKeep.refl {B R : Nat} {L : List Im} {m : Im} {w : World} : RowKeep B R L m w w :=
  ⟨rfl, rfl, rfl, Nat.le_refl _, fun _ _ _ => rfl, fun _ h => h, fun _ h => h, fun _ h => h, fun _ h => h, fun s h1 h2 => ⟨s, h1, h2⟩, fun s h => ⟨s, h⟩⟩
theorem row_empty {B : Nat} (w : World) (hB : B ≤ w.heap.size) : RowOf B true [] (.slice (some ⟨w.heap.size, 0, none⟩) 0 0) (w.alloc (.cells #[] 111)) :=
  ⟨w.heap.size, 0, #[], rfl, hB, heap_alloc_new w _, rfl, Nat.le_refl _, Nat.zero_le _, rfl, fun _ => rfl⟩
theorem row_one {B : Nat} (w : World) (m : Im) (hB : B ≤ w.heap.size) : RowOf B true [m] (.slice (some ⟨w.heap.size, 0, none⟩) 1 1) (w.alloc (.cells m.cells.toArray 111)) :=
  ⟨w.heap.size, 1, m.cells.toArray, rfl, hB, heap_alloc_new w _, rfl, Nat.le_refl _, by unfold maxLen; omega, rfl, fun _ => rfl⟩
theorem wp_app {op : Oper} {a : Act} {w : World} {K : Act → World → Prop} {Q : Exit → Act → World → Prop} (x y : Operand) (ho : op.op = .call { callee := .builtin .append, args := #[x, y], argTypes := #[29, 29] })
    (hty : op.type = 29) (u v v' : Value) (w' : World) (hx : a.eval x = u) (hy : a.eval y = v)
    (hr : (Builtin.append_ #[29, 29] 29 #[u, v]).run Try.prog w = .ok v' w') (h : K (a.put op.dst v') w') : op.wp Try.prog a w K Q := by
  unfold Oper.wp execOp
  simp only [ho, hty, resolve, invoke, builtin, Sem.run_bind, Sem.run_pure, Result.andThen_ok, List.map_toArray, List.map_cons, List.map_nil, hx, hy, hr]
  exact h
theorem getD_snoc (L : List Im) (m : Im) (i : Nat) (hi : i < (L ++ [m]).length) : (i < L.length ∧ (L ++ [m]).getD i im0 = L.getD i im0) ∨ (L ++ [m]).getD i im0 = m := by
  by_cases h : i < L.length
  · exact .inl ⟨h, by simp [List.getD, List.getElem?_append_left h]⟩
  · right
    simp only [List.length_append, List.length_cons, List.length_nil] at hi
    obtain rfl : i = L.length := by omega
    simp [List.getD]

set_option maxHeartbeats 4000000 in
theorem minstall_any (s : Value) (L : List Im) (m : Im) (w : World) (hs : StV w s L) (hl : L.length ≤ 1000) (hm : m.key.size ≤ maxLen ∧ m.v.val.size ≤ maxLen ∧ m.v.time < 18446744073709551616)
    (hL : ∀ i, i < L.length → (L.getD i im0).key.size ≤ maxLen ∧ (L.getD i im0).v.val.size ≤ maxLen ∧ (L.getD i im0).v.time < 18446744073709551616) :
    Calls Try.prog 40 #[.agg #[s], .string m.key, .agg #[.int .u64 (m.v.time : Int), .bool m.v.gone, .string m.v.val]] w (InsOut w s (insM L m).1 (insM L m).2) := by
  obtain ⟨a, cap, rfl, hz, hnil⟩ := hs
  have HZ := Lib.hid hz
  have HNIL := Lib.hid hnil
  have HLL := Lib.hid hL
  have HLN := Lib.hid hl
  have HMM := Lib.hid hm
  have HW0 := Lib.hid (InsW.start w (.slice a L.length cap) m.v)
  have HLA := Lib.hid (fun W (h : InsW w (.slice a L.length cap) m.v W) => mlast_any a L.length cap L m.key W (hz.below h.below) (by omega))
  have HI : Hid (insM L m = if 100 < m.key.size || 500 < m.v.val.size then (L, 3) else if badIm m then (L, 1) else if m.v.time ≤ (lastOf m.key L).1 then (L, 8) else if 200 ≤ (lastOf m.key L).2 then (L, 11) else (L ++ [m], 0)) := Lib.hid rfl
  obtain ⟨R, hR⟩ : ∃ R, R = insM L m := ⟨_, rfl⟩
  rw [← hR] at HI ⊢
  obtain ⟨T, hT⟩ : ∃ T, T = lastOf m.key L := ⟨_, rfl⟩
  rw [← hT] at HI HLA
  obtain ⟨lt, ln⟩ := T
  have HB : Hid (badIm m = (m.v.time == 0 || (m.v.gone && !m.v.val.toList.isEmpty))) := Lib.hid rfl
  have HSV := Lib.hid (fun W (h : Below w.heap.size w W) => (show StV W (.slice a L.length cap) L from ⟨a, cap, rfl, hz.below h, hnil⟩))
  clear hz hnil hL hl hm hR hT
  obtain ⟨n, hn⟩ : ∃ n, n = L.length := ⟨_, rfl⟩
  obtain ⟨key, time, gone, val⟩ := m
  go_enter Try.func40, Try.ntmps40
  go_upto_region 2 with (go_at_call 52; with_reducible refine (HLA.out _ HW0.out).mono ?_; rintro e w1 ⟨rfl, hb1⟩)
  have HW1 := Lib.hid (HW0.out.later hb1)
  clear hb1 HW0 HLA hn
  obtain ⟨b0, v0, v1, v2, r0, rf⟩ := HW1.out.cells
  by_cases h1 : 100 < key.size
  · have HR := Lib.hid (show R = (L, 3) by rw [HI.out, if_pos (by simp [h1])])
    have c1 : (100 : Int) < (key.size : Int) := by omega
    have c1b : decide (100 < key.size) = true := by simpa using h1
    clear h1 HI
    go_wp2_with fail
    refine bodyPost_ret (v := .tuple #[.agg #[.slice a L.length cap], .int .i64 3]) ?_ rfl ⟨_, by rw [HR.out]; rfl, by rw [HR.out]; exact HSV.out _ (HW1.out.below.setCell (by show w.heap.size ≤ w.heap.size + 1 + 1; omega) _), HW1.out.below.setCell (by show w.heap.size ≤ w.heap.size + 1 + 1; omega) _, .inl rfl⟩
    refine results_row_tmpM rfl _ _ (w.heap.size + 1 + 1) 31 _ (0, 0) _ _ rfl ?_ Try.underlying31 rfl storeSize rfl
    rw [heap_setCell_same _ _ 0 _ _ _ HW1.out.res]
    rfl
  · have c1 : ¬ (100 : Int) < (key.size : Int) := by omega
    have c1b : decide (100 < key.size) = false := by simpa using h1
    by_cases h2 : 500 < val.size
    · have HR := Lib.hid (show R = (L, 3) by rw [HI.out, if_pos (by simp [h2])])
      have c2 : (500 : Int) < (val.size : Int) := by omega
      have c2b : decide (500 < val.size) = true := by simpa using h2
      clear h1 h2 HI
      go_wp2_with fail
      refine bodyPost_ret (v := .tuple #[.agg #[.slice a L.length cap], .int .i64 3]) ?_ rfl ⟨_, by rw [HR.out]; rfl, by rw [HR.out]; exact HSV.out _ (HW1.out.below.setCell (by show w.heap.size ≤ w.heap.size + 1 + 1; omega) _), HW1.out.below.setCell (by show w.heap.size ≤ w.heap.size + 1 + 1; omega) _, .inl rfl⟩
      refine results_row_tmpM rfl _ _ (w.heap.size + 1 + 1) 31 _ (0, 0) _ _ rfl ?_ Try.underlying31 rfl storeSize rfl
      rw [heap_setCell_same _ _ 0 _ _ _ HW1.out.res]
      rfl
    · have c2 : ¬ (500 : Int) < (val.size : Int) := by omega
      have c2b : decide (500 < val.size) = false := by simpa using h2
      have HI2 := Lib.hid (HI.out.trans (if_neg (by rw [c1b, c2b]; simp)))
      clear HI h1 h2
      go_upto_region 4 with fail
      cases hbad : badIm ⟨key, ⟨time, gone, val⟩⟩ with
      | true =>
        have HR := Lib.hid (show R = (L, 1) by rw [HI2.out, if_pos hbad])
        have hb := HB.out.symm.trans hbad
        clear HI2 HB hbad
        by_cases h3 : time = 0
        · have c3 : ((time : Int) == 0) = true := by rw [beq_iff_eq]; omega
          have c3b : (time == 0) = true := by rw [beq_iff_eq]; exact h3
          clear h3 hb
          go_wp2_with fail
          refine bodyPost_ret (v := .tuple #[.agg #[.slice a L.length cap], .int .i64 1]) ?_ rfl ⟨_, by rw [HR.out]; rfl, by rw [HR.out]; exact HSV.out _ (HW1.out.below.setCell (by show w.heap.size ≤ w.heap.size + 1 + 1; omega) _), HW1.out.below.setCell (by show w.heap.size ≤ w.heap.size + 1 + 1; omega) _, .inl rfl⟩
          refine results_row_tmpM rfl _ _ (w.heap.size + 1 + 1) 31 _ (0, 0) _ _ rfl ?_ Try.underlying31 rfl storeSize rfl
          rw [heap_setCell_same _ _ 0 _ _ _ HW1.out.res]
          rfl
        · have c3 : ((time : Int) == 0) = false := by rw [beq_eq_false_iff_ne]; omega
          have c3b : (time == 0) = false := by rw [beq_eq_false_iff_ne]; exact h3
          rw [c3b, Bool.false_or, Bool.and_eq_true] at hb
          obtain ⟨rfl, hb2⟩ := hb
          have c4 : val.toList.isEmpty = false := by simpa using hb2
          clear h3 hb2
          go_wp2_with fail
          refine bodyPost_ret (v := .tuple #[.agg #[.slice a L.length cap], .int .i64 1]) ?_ rfl ⟨_, by rw [HR.out]; rfl, by rw [HR.out]; exact HSV.out _ (HW1.out.below.setCell (by show w.heap.size ≤ w.heap.size + 1 + 1; omega) _), HW1.out.below.setCell (by show w.heap.size ≤ w.heap.size + 1 + 1; omega) _, .inl rfl⟩
          refine results_row_tmpM rfl _ _ (w.heap.size + 1 + 1) 31 _ (0, 0) _ _ rfl ?_ Try.underlying31 rfl storeSize rfl
          rw [heap_setCell_same _ _ 0 _ _ _ HW1.out.res]
          rfl
      | false =>
        have HI3 := Lib.hid (HI2.out.trans (if_neg (by rw [hbad]; simp)))
        have hb := HB.out.symm.trans hbad
        clear HI2 HB hbad
        rw [Bool.or_eq_false_iff] at hb
        obtain ⟨c3b, hb2⟩ := hb
        have c3 : ((time : Int) == 0) = false := by rw [beq_eq_false_iff_ne] at c3b ⊢; omega
        have hcs : (gone = false) ∨ (gone = true ∧ val.toList.isEmpty = true) := by
          cases gone with
          | false => exact .inl rfl
          | true => exact .inr ⟨rfl, by simpa using hb2⟩
        clear hb2
        obtain ⟨gn, hgn⟩ : ∃ gn, gn = gone := ⟨_, rfl⟩
        rcases hcs with rfl | ⟨rfl, c4⟩
        all_goals
          go_upto_region 6 with fail
          by_cases h5 : time ≤ lt
          · have HR := Lib.hid (show R = (L, 8) by rw [HI3.out, if_pos h5])
            have c5 : (time : Int) ≤ (lt : Int) := by omega
            have c5b : decide (time ≤ lt) = true := by simpa using h5
            have c5c : decide ((time : Int) ≤ (lt : Int)) = true := by simpa using h5
            clear h5 HI3
            go_wp2_with fail
            refine bodyPost_ret (v := .tuple #[.agg #[.slice a L.length cap], .int .i64 8]) ?_ rfl ⟨_, by rw [HR.out]; rfl, by rw [HR.out]; exact HSV.out _ (HW1.out.below.setCell (by show w.heap.size ≤ w.heap.size + 1 + 1; omega) _), HW1.out.below.setCell (by show w.heap.size ≤ w.heap.size + 1 + 1; omega) _, .inl rfl⟩
            refine results_row_tmpM rfl _ _ (w.heap.size + 1 + 1) 31 _ (0, 0) _ _ rfl ?_ Try.underlying31 rfl storeSize rfl
            rw [heap_setCell_same _ _ 0 _ _ _ HW1.out.res]
            rfl
          · have c5 : ¬ (time : Int) ≤ (lt : Int) := by omega
            have c5b : decide (time ≤ lt) = false := by simpa using h5
            have c5c : decide ((time : Int) ≤ (lt : Int)) = false := by simpa using h5
            have HI4 := Lib.hid (HI3.out.trans (if_neg h5))
            clear h5 HI3
            go_upto_region 8 with fail
            by_cases h6 : 200 ≤ ln
            · have HR := Lib.hid (show R = (L, 11) by rw [HI4.out, if_pos h6])
              have c6 : (200 : Int) ≤ (ln : Int) := by omega
              have c6b : decide (200 ≤ ln) = true := by simpa using h6
              have c6c : decide ((200 : Int) ≤ (ln : Int)) = true := by simpa using c6
              clear h6 HI4
              go_wp2_with fail
              refine bodyPost_ret (v := .tuple #[.agg #[.slice a L.length cap], .int .i64 11]) ?_ rfl ⟨_, by rw [HR.out]; rfl, by rw [HR.out]; exact HSV.out _ (HW1.out.below.setCell (by show w.heap.size ≤ w.heap.size + 1 + 1; omega) _), HW1.out.below.setCell (by show w.heap.size ≤ w.heap.size + 1 + 1; omega) _, .inl rfl⟩
              refine results_row_tmpM rfl _ _ (w.heap.size + 1 + 1) 31 _ (0, 0) _ _ rfl ?_ Try.underlying31 rfl storeSize rfl
              rw [heap_setCell_same _ _ 0 _ _ _ HW1.out.res]
              rfl
            · have c6 : ¬ (200 : Int) ≤ (ln : Int) := by omega
              have c6b : decide (200 ≤ ln) = false := by simpa using h6
              have c6c : decide ((200 : Int) ≤ (ln : Int)) = false := by simpa using c6
              have HR := Lib.hid (HI4.out.trans (if_neg h6))
              clear h6 HI4
              go_upto_region 10 with fail
              rw [← hgn] at HR HW1
              clear hgn
              obtain ⟨H, hH⟩ : ∃ H, H = w.heap.size := ⟨_, rfl⟩
              have hHb : H + 1 + 1 < w1.heap.size := by rw [hH]; exact (Array.getElem?_eq_some_iff.1 HW1.out.res).1
              have hBOX := Lib.hid HW1.out.box
              have hVER := Lib.hid HW1.out.ver
              have hRES := Lib.hid HW1.out.res
              rw [← hH] at hBOX hVER hRES rf b0 v0 v1 v2 r0 ⊢
              have HH := Lib.hid hH
              obtain ⟨B, hBe⟩ : ∃ B, B = w1.heap.size := ⟨_, rfl⟩
              have HBe := Lib.hid hBe
              rw [← hBe] at hHb
              obtain ⟨sv, hsv⟩ : ∃ sv, sv = Value.slice a L.length cap := ⟨_, rfl⟩
              have HSVE := Lib.hid hsv
              rw [← hsv] at hBOX HSV HW1 b0
              clear hH hBe hsv
              have hToB : ∀ w', RowKeep B (H + 1 + 1) L (⟨key, ⟨time, gn, val⟩⟩ : Im) w1 w' → Below w.heap.size w w' := fun w' k =>
                ⟨k.os.trans HW1.out.below.os, k.tape.trans HW1.out.below.tape, k.output.trans HW1.out.below.output, Nat.le_trans HW1.out.below.size k.size, fun j hj => by
                  have := HH.out
                  exact (k.block j (by omega) (by omega)).trans (HW1.out.below.block j hj)⟩
              have HToB := Lib.hid hToB
              clear hToB
              refine wp_region_rel [1, 3, 5, 6] [7] (RowKeep B (H + 1 + 1) L (⟨key, ⟨time, gn, val⟩⟩ : Im)) (psiI B H sv L (⟨key, ⟨time, gn, val⟩⟩ : Im)) (GoodI B (H + 1 + 1) L (⟨key, ⟨time, gn, val⟩⟩ : Im)) 57 (by kernel_rfl) (by kernel_rfl) rfl (by kernel_rfl) (by kernel_rfl)
                (RowKeep.of (by have := HBe.out; omega) (by rw [HBe.out]; exact Nat.le_refl _) ((Below.refl _ _).drew)) (fun _ _ _ => RowKeep.trans) (psiI_stable _ _ _ _ _ _) (goodI_stable _ _ _ _) ?_ ?_ ?_
              · intro t ht w' _
                simp only [List.mem_cons, List.not_mem_nil, or_false] at ht
                rcases ht with rfl | rfl | rfl | rfl <;> rfl
              · repeat' (first | exact AllStepsR.nil | refine AllStepsR.cons ?_ ?_)
                all_goals
                  intro a' w' K' Q' hRl hP hK'
                  have hB1 : B ≤ w'.heap.size := by rw [HBe.out]; exact hRl.size
                  have hR1 : H + 1 + 1 < w'.heap.size := by omega
                  have box' : w'.heap[H]? = some (.cells #[sv] 31 (0, 0)) := (hRl.block H (by omega) (by omega)).trans hBOX.out
                  have ver' := (hRl.block (H + 1) (by omega) (by omega)).trans hVER.out
                  have c0' : w'.cell? ⟨H, 0, none⟩ = some sv := by rw [cell_of_row _ _ _ _ _ _ box']; rfl
                  first
                    | (obtain ⟨h6, ⟨s', h56, hrow⟩, _⟩ := hP
                       obtain ⟨old, hold⟩ := hRl.res _ hRES.out
                       have hok : (#[s'] : Array Value).all (·.oneCell') = true := by obtain ⟨_, _, _, e, _⟩ := hrow; rw [e]; simp [Value.oneCell']
                       refine wp_store_row 31 _ _ rfl (H + 1 + 1) #[s'] (by simp only [Act.eval, Array.getD_eq_getD_getElem?]; exact h6) (by simp only [Act.eval, Array.getD_eq_getD_getElem?]; exact h56) 31 #[old] hold storeSize rfl hok ?_
                       have hput := RowKeep.put (by omega) hold hrow
                       refine hK' _ _ hput (fun _ => ⟨s', hput.k3 _ hrow, setRow_heap _ _ _ _ _ _ hold⟩) ?_
                       intro d hd; cases hd)
                    | (refine wp_bs0 rfl ?_
                       refine hK' _ _ (RowKeep.of hR1 hB1 ((Below.refl _ _).alloc (Nat.le_refl _) _)) (fun e => by omega) ?_
                       intro d hd; cases hd
                       exact row_empty w' hB1)
                    | (obtain ⟨h53, _⟩ := hP
                       refine wp_bs1 _ (⟨key, ⟨time, gn, val⟩⟩ : Im) rfl (by simp only [Act.eval, Array.getD_eq_getD_getElem?]; exact h53) ?_
                       refine hK' _ _ (RowKeep.of hR1 hB1 ((Below.refl _ _).alloc (Nat.le_refl _) _)) (fun e => by omega) ?_
                       intro d hd; cases hd
                       exact row_one w' _ hB1)
                    | (obtain ⟨h47, h49, _⟩ := hP
                       have h49 := (show _ = sv from h49).trans HSVE.out
                       obtain ⟨v', w2, hr, hb2, hrow⟩ := app_first (B := B) w' _ a L.length cap L h47 (HZ.out.below (HToB.out _ hRl)) (by have := HLN.out; omega) HNIL.out hB1
                       refine wp_app _ _ rfl rfl _ _ v' w2 (by simp only [Act.eval, Array.getD_eq_getD_getElem?]) (by simp only [Act.eval, Array.getD_eq_getD_getElem?]; exact h49) hr ?_
                       refine hK' _ _ (RowKeep.of hR1 hB1 hb2) (fun e => by omega) ?_
                       intro d hd; cases hd
                       exact hrow)
                    | (obtain ⟨h50, h54, _⟩ := hP
                       obtain ⟨v', w2, hr, hk2, hrow⟩ := app_second (B := B) (R := H + 1 + 1) w' _ _ L (⟨key, ⟨time, gn, val⟩⟩ : Im) h50 h54 (by have := HLN.out; omega) hB1 (by omega)
                       refine wp_app _ _ rfl rfl _ _ v' w2 (by simp only [Act.eval, Array.getD_eq_getD_getElem?]) (by simp only [Act.eval, Array.getD_eq_getD_getElem?]) hr ?_
                       refine hK' _ _ hk2 (fun e => by omega) ?_
                       intro d hd; cases hd
                       exact hrow)
                    | (obtain ⟨h5, _⟩ := hP
                       refine wp_load_row 42 _ rfl (H + 1) (by simp only [Act.eval, Array.getD_eq_getD_getElem?]; exact h5) 42 _ (0, 0) _ ver' Try.underlying42 rfl verSize3 ?_
                       refine hK' _ _ RowKeep.refl (fun e => by omega) ?_
                       intro d hd; cases hd; rfl)
                    | (obtain ⟨⟨g, c, cur, hv, hrest⟩, _⟩ := hP
                       obtain ⟨nn, hnn⟩ : ∃ nn, nn = (L ++ [(⟨key, ⟨time, gn, val⟩⟩ : Im)]).length := ⟨_, rfl⟩
                       rw [← hnn] at hv
                       have hnn := Lib.hid hnn
                       go_simp
                       refine hK' _ _ RowKeep.refl (fun e => by omega) ?_
                       intro d hd; cases hd
                       exact ⟨_, rfl, g, c, cur, by rw [List.length_append]; rfl, hrest⟩)
                    | (repeat (obtain ⟨h, hP⟩ := hP; conv at h => whnf)
                       go_simp
                       refine hK' _ _ RowKeep.refl (fun e => by omega) ?_
                       intro d hd; cases hd; first | rfl | exact h)
              · intro a' w' hRl hsz hdf hold hnew hT
                have h7 : a'.tmps.getD 7 undef = .int .i64 0 := hnew 7 (by simp)
                have h6 : a'.tmps.getD 6 undef = .pointer (some ⟨H + 1 + 1, 0, none⟩) := hold 6 (by simp)
                obtain ⟨s', hrow, hres⟩ := hT 10 (by decide) rfl
                have hfin : InsOut w (.slice a L.length cap) R.1 R.2 (.returned (.tuple #[.agg #[s'], .int .i64 0])) w' := by
                  rw [HR.out]
                  obtain ⟨a2, cap2, e1, e2⟩ := hrow.items (fun i hi => by
                    rcases getD_snoc L (⟨key, ⟨time, gn, val⟩⟩ : Im) i hi with ⟨k1, k2⟩ | k2
                    · rw [k2]; exact HLL.out i k1
                    · rw [k2]; exact HMM.out) (by have := HLN.out; rw [List.length_append]; unfold maxLen; show L.length + 1 ≤ _; omega)
                  obtain ⟨gq, cq, _, eq1, eq2, _⟩ := id hrow
                  exact ⟨s', rfl, ⟨a2, cap2, e1, e2, fun e => by simp at e⟩, HToB.out _ hRl, .inr ⟨gq, _, cq, eq1, by have := HBe.out; have := HW1.out.below.size; omega⟩⟩
                go_wp2_with fail
                exact bodyPost_ret (results_row_tmpM rfl _ _ (H + 1 + 1) 31 _ (0, 0) _ _ h6 hres Try.underlying31 rfl storeSize h7) hdf hfin
end Go.Proofs.Ythcomfcbdlobpaa
