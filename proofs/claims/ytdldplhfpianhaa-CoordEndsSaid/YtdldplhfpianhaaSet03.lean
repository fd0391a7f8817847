/-
  Joined: CrdFew, CrdPart, CrdNew, CrdOne.
-/
import Derived.Test.YtdldplhfpianhaaSet02
import Derived.BigQuiet
namespace Go.Proofs.Ytdldplhfpianhaa
open Go.RowKit
set_option linter.unusedVariables false
set_option linter.unnecessarySimpa false
set_option linter.unusedSimpArgs false
set_option maxRecDepth 100000

/-- A box that a call makes first. -/
structure CrdW (w : World) (b0 : Array Value) (t0 : TypeId) (wx : World) : Prop where
  below : Below w.heap.size w wx
  r0 : wx.heap[w.heap.size]? = some (.cells b0 t0 (0, 0))
theorem CrdW.start (w : World) (b0 : Array Value) (t0 : TypeId) : CrdW w b0 t0 (w.alloc (.cells b0 t0)) := ⟨(Below.refl w.heap.size w).alloc (Nat.le_refl _) _, heap_alloc_new w _⟩
theorem CrdW.drewN {w wx : World} {b0 : Array Value} {t0 : TypeId} (h : CrdW w b0 t0 wx) (n : Nat) : CrdW w b0 t0 (wx.drewN n) := ⟨⟨h.below.os, h.below.tape, h.below.output, h.below.size, h.below.block⟩, h.r0⟩
theorem CrdW.later {w wx w' : World} {b0 : Array Value} {t0 : TypeId} (h : CrdW w b0 t0 wx) (hb : Below wx.heap.size wx w') : CrdW w b0 t0 w' := ⟨h.below.trans (hb.mono h.below.size), (hb.block _ (Array.getElem?_eq_some_iff.1 h.r0).1).trans h.r0⟩
theorem CrdW.c0 {w wx : World} {b0 : Array Value} {t0 : TypeId} (h : CrdW w b0 t0 wx) (j : Nat) : wx.cell? ⟨w.heap.size, j, none⟩ = b0[j]? := cell_of_row _ _ _ _ _ _ h.r0

def fewQ (m : Wq) : Prop := m.key.size ≤ 300 ∧ m.val.size ≤ 700
/-- A program of a size that is looked at. -/
def FewPg (p : Pg) : Prop := (∀ i, i < p.R.length → i < 30 → (p.R.getD i ⟨#[]⟩).size ≤ 300) ∧ (∀ i, i < p.W.length → i < 30 → fewQ (p.W.getD i wq0)) ∧ p.R.length ≤ 20 ∧ p.W.length ≤ 20
open Classical in
noncomputable def fewC (p : Pg) : Bool := decide (FewPg p)
theorem fewC_true {p : Pg} : fewC p = true ↔ FewPg p := by unfold fewC; simp
theorem fewC_false {p : Pg} (h : ¬ FewPg p) : fewC p = false := by rw [← Bool.not_eq_true, fewC_true]; exact h

set_option maxHeartbeats 4000000 in
theorem cfew_any (p : Pg) (w : World) (hp : PgOk w p) :
    Calls Try.prog 6 #[.agg p.cells] w fun e w' => e = .returned (.bool (fewC p)) ∧ Below w.heap.size w w' := by
  obtain ⟨pc, hpc⟩ : ∃ pc, pc = fewC p := ⟨_, rfl⟩
  have HPC := Lib.hid hpc
  rw [← hpc]
  clear hpc
  obtain ⟨ra, rn, rc, R, wa, wn, wc, Ws⟩ := p
  have HR := Lib.hid hp.1
  have HQ := Lib.hid hp.2
  have her := Lib.hid (show R.length = rn from hp.1.1)
  have heq := Lib.hid (show Ws.length = wn from hp.2.1)
  have hlr : rn ≤ maxLen := hp.1.2.1
  have hlq : wn ≤ maxLen := hp.2.2.1
  unfold maxLen at hlr hlq
  clear hp
  unfold Pg.cells
  have HW0 := Lib.hid (CrdW.start w #[.slice ra rn rc, .slice wa wn wc] 25)
  go_enter Try.func6, Try.ntmps6
  go_wp2_with fail
  go_loopg [3] (min rn 30) (fun g s3 wx => ∃ (i : Nat), i + g = min rn 30 ∧ s3 = .int .i64 i ∧ Hid (∀ j, j < i → (R.getD j ⟨#[]⟩).size ≤ 300) ∧ Hid (CrdW w #[.slice ra rn rc, .slice wa wn wc] 25 wx))
  case atStart => exact ⟨0, by omega, rfl, Lib.hid (fun j hj => by omega), HW0⟩
  case round =>
    obtain ⟨i, hig, rfl, HA, HW⟩ := hrel
    clear HW0
    have c0 : wr.cell? ⟨w.heap.size, 0, none⟩ = some (.slice ra rn rc) := by rw [HW.out.c0]; rfl
    have c1 : wr.cell? ⟨w.heap.size, 1, none⟩ = some (.slice wa wn wc) := by rw [HW.out.c0]; rfl
    cases gk with
    | zero =>
      have HB : Hid (∀ j, j < R.length → j < 30 → (R.getD j ⟨#[]⟩).size ≤ 300) := Lib.hid (fun j hj h => HA.out j (by rw [her.out] at hj; omega))
      have hcs : (rn = i ∧ 0 ≤ rn) ∨ (i < rn ∧ i = 30 ∧ (30 : Int) < (rn : Int)) := by omega
      clear hig HA
      rcases hcs with ⟨rfl, h6⟩ | ⟨h5, rfl, h6⟩
      all_goals
        go_wp2_with fail
        go_loopg [4] (min wn 30) (fun g s4 wx => ∃ (i : Nat), i + g = min wn 30 ∧ s4 = .int .i64 i ∧ Hid (∀ j, j < i → fewQ (Ws.getD j wq0)) ∧ wx = wr)
        case atStart => exact ⟨0, by omega, rfl, Lib.hid (fun j hj => by omega), rfl⟩
        case round =>
          obtain ⟨k, hkg, rfl, HC, rfl⟩ := hrel
          cases gk with
          | zero =>
            have HD : Hid (∀ j, j < Ws.length → j < 30 → fewQ (Ws.getD j wq0)) := Lib.hid (fun j hj h => HC.out j (by rw [heq.out] at hj; omega))
            have hcs2 : (wn = k ∧ 0 ≤ wn) ∨ (k < wn ∧ k = 30 ∧ (30 : Int) < (wn : Int)) := by omega
            have HF : Hid (pc = decide (rn ≤ 20 ∧ wn ≤ 20)) := Lib.hid (by
              rw [HPC.out]
              by_cases h : rn ≤ 20 ∧ wn ≤ 20
              · rw [decide_eq_true h]; exact fewC_true.2 ⟨HB.out, HD.out, by rw [show R.length = rn from her.out]; exact h.1, by rw [show Ws.length = wn from heq.out]; exact h.2⟩
              · rw [decide_eq_false h]; exact fewC_false (fun h2 => h ⟨by rw [← show R.length = rn from her.out]; exact h2.2.2.1, by rw [← show Ws.length = wn from heq.out]; exact h2.2.2.2⟩))
            clear hkg HC HB HD
            by_cases h1 : rn ≤ 20
            · have h1z : (rn : Int) ≤ 20 := by omega
              have h1d : decide (rn ≤ 20) = true := decide_eq_true h1
              by_cases h2 : wn ≤ 20
              · have h2z : (wn : Int) ≤ 20 := by omega
                have h2d : decide (wn ≤ 20) = true := decide_eq_true h2
                have HG : Hid (pc = true) := Lib.hid (by rw [HF.out]; exact decide_eq_true ⟨h1, h2⟩)
                clear h1 h2
                rcases hcs2 with ⟨rfl, h7⟩ | ⟨h7, rfl, h8⟩
                all_goals
                  first
                    | (exfalso; omega)
                    | (go_wp2_with fail; go_ret; exact ⟨by rw [HG.out]; rfl, HW.out.below⟩)
              · have h2z : ¬ (wn : Int) ≤ 20 := by omega
                have h2d : decide (wn ≤ 20) = false := decide_eq_false h2
                have HG : Hid (pc = false) := Lib.hid (by rw [HF.out]; exact decide_eq_false (fun h => h2 h.2))
                clear h1 h2
                rcases hcs2 with ⟨rfl, h7⟩ | ⟨h7, rfl, h8⟩
                all_goals
                  first
                    | (exfalso; omega)
                    | (go_wp2_with fail; go_ret; exact ⟨by rw [HG.out]; rfl, HW.out.below⟩)
            · have h1z : ¬ (rn : Int) ≤ 20 := by omega
              have h1d : decide (rn ≤ 20) = false := decide_eq_false h1
              have HG : Hid (pc = false) := Lib.hid (by rw [HF.out]; exact decide_eq_false (fun h => h1 h.1))
              clear h1
              rcases hcs2 with ⟨rfl, h7⟩ | ⟨h7, rfl, h8⟩
              all_goals
                first
                  | (exfalso; omega)
                  | (go_wp2_with fail; go_ret; exact ⟨by rw [HG.out]; rfl, HW.out.below⟩)
          | succ g =>
            have hkl : k < wn := by omega
            have hkz : (k : Int) < (wn : Int) := by omega
            have hk3 : (k : Int) < 30 := by omega
            obtain ⟨b, off, rfl, hbl, hv1, hv2, j0, _, j2⟩ := (HQ.out.below HW.out.below).2.2.2 k hkl
            obtain ⟨z, hz⟩ : ∃ z, z = Ws.getD k wq0 := ⟨_, rfl⟩
            rw [← hz] at j0 j2 hv1 hv2
            have HO := Lib.hid (show fewQ z → (∀ j, j < k + 1 → fewQ (Ws.getD j wq0)) from fun h j hj => by
              by_cases hjk : j < k
              · exact HC.out j hjk
              · obtain rfl : j = k := by omega
                rw [← hz]; exact h)
            have HN := Lib.hid (show ¬ fewQ z → pc = false from fun h => by
              rw [HPC.out]
              exact fewC_false (fun h2 => h (by rw [hz]; exact h2.2.1 k (by rw [show Ws.length = wn from heq.out]; exact hkl) (by omega))))
            clear hz hbl HC
            obtain ⟨K, zg, V⟩ := z
            unfold fewQ at HO HN
            simp only at j0 j2 hv1 hv2 HO HN
            unfold maxLen at hv1 hv2
            by_cases e1 : K.size ≤ 300
            · have e1z : ¬ (300 : Int) < (K.size : Int) := by omega
              have e1d : decide (300 < K.size) = false := by rw [decide_eq_false_iff_not]; omega
              by_cases e2 : V.size ≤ 700
              · have e2z : ¬ (700 : Int) < (V.size : Int) := by omega
                have e2d : decide (700 < V.size) = false := by rw [decide_eq_false_iff_not]; omega
                have HO2 := Lib.hid (HO.out ⟨e1, e2⟩)
                clear e1 e2 HO HN
                go_wp2_with fail
                go_roundg g
                case measure => omega
                case rel => exact ⟨k + 1, by omega, by go_num, HO2, rfl⟩
              · have e2z : (700 : Int) < (V.size : Int) := by omega
                have e2d : decide (700 < V.size) = true := by rw [decide_eq_true_eq]; omega
                have HN2 := Lib.hid (HN.out (fun h => e2 h.2))
                clear e1 e2 HO HN
                go_wp2_with fail
                go_ret
                exact ⟨by rw [HN2.out]; rfl, HW.out.below⟩
            · have e1z : (300 : Int) < (K.size : Int) := by omega
              have e1d : decide (300 < K.size) = true := by rw [decide_eq_true_eq]; omega
              have HN2 := Lib.hid (HN.out (fun h => e1 h.1))
              clear e1 HO HN
              go_wp2_with fail
              go_ret
              exact ⟨by rw [HN2.out]; rfl, HW.out.below⟩
    | succ g =>
      have hil : i < rn := by omega
      have hiz : (i : Int) < (rn : Int) := by omega
      have hi3 : (i : Int) < 30 := by omega
      obtain ⟨b, off, rfl, hbl, hv1, j0⟩ := (HR.out.below HW.out.below).2.2 i hil
      obtain ⟨K, hK⟩ : ∃ K, K = R.getD i ⟨#[]⟩ := ⟨_, rfl⟩
      rw [← hK] at j0 hv1
      unfold maxLen at hv1
      have HO := Lib.hid (show K.size ≤ 300 → (∀ j, j < i + 1 → (R.getD j ⟨#[]⟩).size ≤ 300) from fun h j hj => by
        by_cases hji : j < i
        · exact HA.out j hji
        · obtain rfl : j = i := by omega
          rw [← hK]; exact h)
      have HN := Lib.hid (show ¬ K.size ≤ 300 → pc = false from fun h => by
        rw [HPC.out]
        exact fewC_false (fun h2 => h (by rw [hK]; exact h2.1 i (by rw [show R.length = rn from her.out]; exact hil) (by omega))))
      have HWW := HW
      clear hK hbl HA
      by_cases e1 : K.size ≤ 300
      · have e1z : ¬ (300 : Int) < (K.size : Int) := by omega
        have e1d : decide (300 < K.size) = false := by rw [decide_eq_false_iff_not]; omega
        have HO2 := Lib.hid (HO.out e1)
        clear e1 HO HN
        go_wp2_with fail
        go_roundg g
        case measure => omega
        case rel => exact ⟨i + 1, by omega, by go_num, HO2, HWW⟩
      · have e1z : (300 : Int) < (K.size : Int) := by omega
        have e1d : decide (300 < K.size) = true := by rw [decide_eq_true_eq]; omega
        have HN2 := Lib.hid (HN.out e1)
        clear e1 HO HN
        go_wp2_with fail
        go_ret
        exact ⟨by rw [HN2.out]; rfl, HWW.out.below⟩
end Go.Proofs.Ytdldplhfpianhaa

namespace Go.Proofs.Ytdldplhfpianhaa
open Go.RowKit
set_option linter.unusedVariables false
set_option linter.unnecessarySimpa false
set_option linter.unusedSimpArgs false
set_option maxRecDepth 100000

/-- What is written at a node. -/
def partC (nodes : Nat) (node : Int) (l : List Wq) : List Wq := l.filter fun m => (ownN m.key nodes : Int) == node
theorem partC_next {nodes : Nat} {node : Int} {l : List Wq} {i : Nat} (hi : i < l.length) :
    partC nodes node (l.take (i + 1)) = if ((ownN (l.getD i wq0).key nodes : Int) == node) = true then partC nodes node (l.take i) ++ [l.getD i wq0] else partC nodes node (l.take i) := by
  unfold partC
  rw [List.take_add_one, List.getElem?_eq_getElem hi, List.filter_append, List.getD, List.getElem?_eq_getElem hi]
  simp only [Option.toList_some, Option.getD_some, List.filter_cons, List.filter_nil]
  split
  · rfl
  · rw [List.append_nil]
theorem wqI : ∃ i z, Try.prog.info? 64 = some i ∧ i.zero = some z ∧ z.cells.size = 3 ∧ i.size = 3 ∧ i.bytes = 40 := by
  have h := wqInfo
  cases hq : Try.prog.info? 64 with
  | none => rw [hq] at h; simp at h
  | some i =>
    rw [hq] at h
    simp only [Option.map_some, Option.some.injEq, Prod.mk.injEq] at h
    obtain ⟨h1, h2, h3⟩ := h
    exact ⟨i, _, rfl, h1, rfl, h2, h3⟩
theorem wqrun_bs1 (w : World) (m : Wq) : (Instr.buildSlice 23 1 #[(0, .agg m.cells.toArray)]).run Try.prog w = .ok (.slice (some ⟨w.heap.size, 0, none⟩) 1 1) (w.alloc (.cells m.cells.toArray 64)) := by
  obtain ⟨i, z, hi, hz0, hz1, hz2, hz3⟩ := wqI
  unfold Instr.buildSlice
  have hr : Array.range 3 = #[0, 1, 2] := rfl
  simp [run_underlying Try.underlying23, sizeOf, typeInfo, zeroValue, hi, hz0, hz1, hz2, Instr.fill, newRow, Sem.run_bind, hr, Wq.cells, Value.cells]
theorem wqwp_bs1 {op : Oper} {a : Act} {w : World} {K : Act → World → Prop} {Q : Exit → Act → World → Prop} (x : Operand) (m : Wq) (ho : op.op = .buildSlice 23 1 #[(0, x)]) (hx : a.eval x = .agg m.cells.toArray)
    (h : K (a.put op.dst (.slice (some ⟨w.heap.size, 0, none⟩) 1 1)) (w.alloc (.cells m.cells.toArray 64))) : op.wp Try.prog a w K Q := by
  unfold Oper.wp execOp
  simp [ho, hx, wqrun_bs1 w m, Oper.upon]
  exact h
def runCells (ra : Option Addr) (rn rc : Nat) (wa : Option Addr) (wn wc : Nat) (nodes : Nat) (st : Int) (sa co : Nat) (da : Option Addr) (dn dc : Nat) (va : Option Addr) (vn vc : Nat) : Array Value :=
  #[.slice ra rn rc, .slice wa wn wc, .int .i64 (nodes : Int), .int .i64 st, .int .u64 (sa : Int), .int .u64 (co : Int), .slice da dn dc, .slice va vn vc]

set_option maxHeartbeats 4000000 in
theorem cpart_any (ra : Option Addr) (rn rc : Nat) (wa : Option Addr) (wn wc : Nat) (nodes : Nat) (st : Int) (sa co : Nat) (da : Option Addr) (dn dc : Nat) (va : Option Addr) (vn vc : Nat) (Ws : List Wq) (node : Int) (w : World)
    (hq : IsWqs w wa wn wc Ws) (hwn : wn ≤ 1000) (hn : nodes ≤ 1000) :
    Calls Try.prog 21 #[.agg (runCells ra rn rc wa wn wc nodes st sa co da dn dc va vn vc), .int .i64 node] w fun e w' => ∃ a n c, e = .returned (.slice a n c) ∧ IsWqs w' a n c (partC nodes node Ws) ∧ Below w.heap.size w w' := by
  have HQ := Lib.hid hq
  have heq := Lib.hid hq.1
  have HOW := Lib.hid (fun W key => owner_any key nodes hn W)
  have hvs := Lib.hid (show ∀ p ∈ Ws, p.key.size ≤ maxLen ∧ p.val.size ≤ maxLen from fun p hp => by
    obtain ⟨j, hjl, rfl⟩ := List.mem_iff_getElem.1 hp
    obtain ⟨_, _, _, _, k1, k2, _⟩ := hq.2.2.2 j (by rw [← hq.1]; exact hjl)
    rw [List.getD, List.getElem?_eq_getElem hjl] at k1 k2
    exact ⟨k1, k2⟩)
  clear hq
  have HW0 := Lib.hid (CrdW.start w (runCells ra rn rc wa wn wc nodes st sa co da dn dc va vn vc) 40)
  unfold runCells at HW0 ⊢
  obtain ⟨inf, hj, hy0, hy1, hy2⟩ := info_parts wqInfo
  go_enter Try.func21, Try.ntmps21
  go_wp2_with fail
  go_loopg [5, 6] wn (fun g s5 s6 wx => ∃ (i : Nat) (L : List Wq) (v : Value), i + g = wn ∧ s5 = v ∧ s6 = .int .i64 i ∧ Hid (L = partC nodes node (Ws.take i)) ∧ Hid (L.length ≤ i) ∧ Hid (wx.ownsRow (w.heap.size + 1) 64 3 v L.length (wqCells L)) ∧
    Hid (CrdW w #[.slice ra rn rc, .slice wa wn wc, .int .i64 (nodes : Int), .int .i64 st, .int .u64 (sa : Int), .int .u64 (co : Int), .slice da dn dc, .slice va vn vc] 40 wx))
  case atStart => exact ⟨0, [], _, by omega, rfl, rfl, Lib.hid rfl, Lib.hid (Nat.le_refl _), Lib.hid ⟨rfl, .inl ⟨rfl, rfl⟩⟩, HW0⟩
  case round =>
    obtain ⟨i, L, v, hig, rfl, rfl, HL, HN, HO, HW⟩ := hrel
    clear HW0
    have c1 : wr.cell? ⟨w.heap.size, 1, none⟩ = some (.slice wa wn wc) := by rw [HW.out.c0]; rfl
    have c2 : wr.cell? ⟨w.heap.size, 2, none⟩ = some (.int .i64 (nodes : Int)) := by rw [HW.out.c0]; rfl
    cases gk with
    | zero =>
      obtain rfl : wn = i := by omega
      have hfin : L = partC nodes node Ws := by
        have e : Ws.take wn = Ws := List.take_of_length_le (Nat.le_of_eq heq.out)
        rw [HL.out, e]
      obtain ⟨a, n, c, rfl, hz⟩ : ∃ a n c, u5 = .slice a n c ∧ IsWqs wr a n c L := by
        rcases HO.out.2 with ⟨h1, h2⟩ | ⟨g, cap', cur, h, hB, _⟩
        · subst h1
          have hn0 : L = [] := List.eq_nil_of_length_eq_zero h2
          subst hn0
          exact ⟨none, 0, 0, rfl, rfl, Nat.zero_le _, Nat.le_refl _, fun i hi => absurd hi (Nat.not_lt_zero i)⟩
        · have ho := HO.out
          subst h
          refine ⟨_, _, _, rfl, wqs_own ho rfl (by have := HN.out; omega) (fun p hp => hvs.out p ?_)⟩
          rw [hfin] at hp
          exact (List.mem_filter.1 hp).1
      rw [hfin] at hz
      have HZ := Lib.hid hz
      clear hz hfin
      go_wp2_with fail
      go_ret
      exact ⟨a, n, c, rfl, HZ.out, HW.out.below⟩
    | succ g =>
      have hil : i < wn := by omega
      have hiz : (i : Int) < (wn : Int) := by omega
      obtain ⟨b, off, rfl, hbl, _, _, j0, j1, j2⟩ := (HQ.out.below HW.out.below).2.2.2 i hil
      have hnx := partC_next (nodes := nodes) (node := node) (l := Ws) (i := i) (by rw [heq.out]; exact hil)
      obtain ⟨z, hz⟩ : ∃ z, z = Ws.getD i wq0 := ⟨_, rfl⟩
      rw [← hz] at j0 j1 j2 hnx
      obtain ⟨K, G, V⟩ := z
      simp only at j0 j1 j2 hnx
      obtain ⟨B, hB⟩ : ∃ B, ((ownN K nodes : Int) == node) = B := ⟨_, rfl⟩
      rw [hB, ← HL.out] at hnx
      have HNX := Lib.hid hnx
      clear hz hbl hnx
      go_wp2_with fail
      cases B with
      | false =>
        rw [if_neg (by decide)] at HNX
        go_quiet ((go_at_call 39; exact Calls.quiet_of_same ((HOW.out _ K).mono fun _ _ hh => ⟨hh.1, hh.2.symm⟩)))
        go_wp2_with fail
        go_roundg g
        case measure => omega
        case rel => exact ⟨i + 1, L, _, by omega, rfl, by go_num, Lib.hid HNX.out.symm, Lib.hid (by have := HN.out; omega), Lib.hid HO.out, Lib.hid (HW.out.drewN nq)⟩
      | true =>
        rw [if_pos rfl] at HNX
        go_quiet ((go_at_call 39; exact Calls.quiet_of_same ((HOW.out _ K).mono fun _ _ hh => ⟨hh.1, hh.2.symm⟩)))
        have q1 := Lib.hid (show (wqCells [(⟨K, G, V⟩ : Wq)]).length = 1 * 3 from rfl)
        have q3 := Lib.hid (wqCells_one [(⟨K, G, V⟩ : Wq)])
        have q4 := Lib.hid (show L.length + 1 ≤ maxLen by have := HN.out; unfold maxLen; omega)
        have q5 := Lib.hid (show (L.length + 1) * 40 ≤ 140737488355328 by have := HN.out; omega)
        obtain ⟨wy, hwy⟩ : ∃ wy, wy = wr.drewN nq := ⟨_, rfl⟩
        have HWy : Hid (CrdW w #[.slice ra rn rc, .slice (some ⟨b, off, none⟩) wn wc, .int .i64 (nodes : Int), .int .i64 st, .int .u64 (sa : Int), .int .u64 (co : Int), .slice da dn dc, .slice va vn vc] 40 wy) := Lib.hid (by rw [hwy]; exact HW.out.drewN nq)
        have HOy : Hid (wy.ownsRow (w.heap.size + 1) 64 3 u5 L.length (wqCells L)) := Lib.hid (by rw [hwy]; exact HO.out)
        have k0 : wy.cell? ⟨b, off + i * 3, none⟩ = some (.string K) := by rw [hwy]; exact j0
        have k1 : wy.cell? ⟨b, off + i * 3 + 1, none⟩ = some (.bool G) := by rw [hwy]; exact j1
        have k2 : wy.cell? ⟨b, off + i * 3 + 2, none⟩ = some (.string V) := by rw [hwy]; exact j2
        have d1 : wy.cell? ⟨w.heap.size, 1, none⟩ = some (.slice (some ⟨b, off, none⟩) wn wc) := by rw [hwy]; exact c1
        rw [← hwy]
        have hs1 := (Array.getElem?_eq_some_iff.1 HWy.out.r0).1
        clear hwy j0 j1 j2 c1 c2 HO HW
        obtain ⟨w8, hw8⟩ : ∃ w8, w8 = wy.alloc (.cells #[.string K, .bool G, .string V] 64) := ⟨_, rfl⟩
        have hb8 : Below wy.heap.size wy w8 := by rw [hw8]; exact (Below.refl _ _).alloc (Nat.le_refl _) _
        have HO8 : Hid (w8.ownsRow (w.heap.size + 1) 64 3 u5 L.length (wqCells L)) := Lib.hid (by rw [hw8]; exact HOy.out.alloc _)
        have HW8 := Lib.hid (HWy.out.later hb8)
        have q2 := Lib.hid (show ∀ j u, (wqCells [(⟨K, G, V⟩ : Wq)])[j]? = some u → w8.cell? ((⟨wy.heap.size, 0, none⟩ : Addr).add j) = some u from fun j u h => by
          rw [Addr.add_lit, Nat.zero_add, hw8, cell_of_row _ _ _ _ _ _ (heap_alloc_new wy _)]
          simpa [wqCells, Wq.cells] using h)
        have q6 := Lib.hid (show w.heap.size + 1 ≤ w8.heap.size from Nat.le_trans hs1 hb8.size)
        have HB8 := Lib.hid hb8
        clear hb8
        go_wp2_with (first
          | (refine wpList_plain rfl fun K' hK' => wqwp_bs1 _ ⟨K, G, V⟩ rfl rfl ?_; refine hK' _ _ ?_; (try simp only [Wq.cells]); rw [← hw8])
          | (at_builtin; refine wpList_append_own _ rfl _ _ 23 rfl (w.heap.size + 1) 64 inf (.agg #[.string ⟨#[]⟩, .bool false, .string ⟨#[]⟩]) 3 40 Try.underlying23 hj hy0 hy1 hy2 rfl (by decide) u5 L.length (wqCells L) rfl HO8.out ⟨wy.heap.size, 0, none⟩ 1 1 (wqCells [(⟨K, G, V⟩ : Wq)]) rfl q1.out q2.out q3.out q4.out q5.out q6.out ?_; intro v9 w9 hown9 hg9 hn9))
        have hb9 : Below w.heap.size w8 w9 := ⟨hg9.os, hg9.tape, hg9.output, hg9.size, fun k hk => hg9.block k (by have := q6.out; omega) (fun e => by have := (HO8.out.lt k e.symm).1; omega)⟩
        have HW9 : Hid (CrdW w #[.slice ra rn rc, .slice (some ⟨b, off, none⟩) wn wc, .int .i64 (nodes : Int), .int .i64 st, .int .u64 (sa : Int), .int .u64 (co : Int), .slice da dn dc, .slice va vn vc] 40 w9) :=
          Lib.hid ⟨HW8.out.below.trans hb9, (hg9.block w.heap.size (by have := q6.out; omega) (fun e => by have := (HO8.out.lt _ e.symm).1; omega)).trans HW8.out.r0⟩
        have HO9 : Hid (w9.ownsRow (w.heap.size + 1) 64 3 v9 (L ++ [(⟨K, G, V⟩ : Wq)]).length (wqCells (L ++ [(⟨K, G, V⟩ : Wq)]))) := Lib.hid (by rw [wqCells_app, List.length_append]; exact hown9)
        clear hown9 hg9 hn9 hb9
        go_roundg g
        case measure => omega
        case rel => exact ⟨i + 1, _, _, by omega, rfl, by go_num, Lib.hid HNX.out.symm, Lib.hid (by have := HN.out; simp; omega), HO9, HW9⟩
end Go.Proofs.Ytdldplhfpianhaa

namespace Go.Proofs.Ytdldplhfpianhaa
open Go.RowKit
set_option linter.unusedVariables false
set_option linter.unnecessarySimpa false
set_option linter.unusedSimpArgs false
set_option maxRecDepth 100000

theorem runSize : (Try.prog.info? 40).map (·.size) = some 8 := by kernel_rfl
set_option maxHeartbeats 2000000 in
theorem cnew_any (p : Pg) (nodes : Nat) (w : World) :
    Calls Try.prog 9 #[.agg p.cells, .int .i64 (nodes : Int)] w fun e w' => e = .returned (.agg (runCells p.ra p.rn p.rc p.wa p.wn p.wc nodes 1 0 0 none 0 0 none 0 0)) ∧ Below w.heap.size w w' := by
  obtain ⟨ra, rn, rc, R, wa, wn, wc, Ws⟩ := p
  unfold Pg.cells runCells
  go_enter Try.func9, Try.ntmps9
  go_wp2_with fail
  have hr := heap_alloc_new (w.alloc (.cells #[.slice ra rn rc, .slice wa wn wc] 25)) (.cells #[.slice ra rn rc, .slice wa wn wc, .int .i64 (nodes : Int), .int .i64 1, .int .u64 0, .int .u64 0, .slice none 0 0, .slice none 0 0] 40)
  exact bodyPost_ret (results_cell_row rfl _ _ (w.heap.size + 1) 40 #[.slice ra rn rc, .slice wa wn wc, .int .i64 (nodes : Int), .int .i64 1, .int .u64 0, .int .u64 0, .slice none 0 0, .slice none 0 0] (0, 0) _ rfl (by simpa using hr) Try.underlying40 rfl runSize) rfl ⟨rfl, ((Below.refl w.heap.size w).alloc (Nat.le_refl _) _).alloc (by simp) _⟩
end Go.Proofs.Ytdldplhfpianhaa

namespace Go.Proofs.Ytdldplhfpianhaa
open Go.RowKit
set_option linter.unusedVariables false
set_option linter.unnecessarySimpa false
set_option linter.unusedSimpArgs false
set_option maxRecDepth 100000

set_option maxHeartbeats 1000000 in
theorem crd_one (key : ByteArray) (w : World) : Calls Try.prog 24 #[.string key] w fun e w' => e = .returned (.int .i64 ((ownN key 1 : Nat) : Int)) ∧ w = w' := by
  have H : Hid (Calls Try.prog 39 #[.string key, .int .i64 1] w fun e w' => e = .returned (.int .i64 ((ownN key 1 : Nat) : Int)) ∧ w = w') := Lib.hid (owner_any key 1 (by decide) w)
  go_enter Try.func24, Try.ntmps24
  go_wp2_with (go_at_call 39; (with_reducible refine (H.out).mono ?_); rintro e w1 ⟨rfl, rfl⟩)
  go_ret
  exact ⟨rfl, rfl⟩
set_option maxHeartbeats 1000000 in
theorem crd_two (key : ByteArray) (w : World) : Calls Try.prog 25 #[.string key] w fun e w' => e = .returned (.int .i64 ((ownN key 2 : Nat) : Int)) ∧ w = w' := by
  have H : Hid (Calls Try.prog 39 #[.string key, .int .i64 2] w fun e w' => e = .returned (.int .i64 ((ownN key 2 : Nat) : Int)) ∧ w = w') := Lib.hid (owner_any key 2 (by decide) w)
  go_enter Try.func25, Try.ntmps25
  go_wp2_with (go_at_call 39; (with_reducible refine (H.out).mono ?_); rintro e w1 ⟨rfl, rfl⟩)
  go_ret
  exact ⟨rfl, rfl⟩
set_option maxHeartbeats 1000000 in
theorem crd_three (key : ByteArray) (w : World) : Calls Try.prog 26 #[.string key] w fun e w' => e = .returned (.int .i64 ((ownN key 3 : Nat) : Int)) ∧ w = w' := by
  have H : Hid (Calls Try.prog 39 #[.string key, .int .i64 3] w fun e w' => e = .returned (.int .i64 ((ownN key 3 : Nat) : Int)) ∧ w = w') := Lib.hid (owner_any key 3 (by decide) w)
  go_enter Try.func26, Try.ntmps26
  go_wp2_with (go_at_call 39; (with_reducible refine (H.out).mono ?_); rintro e w1 ⟨rfl, rfl⟩)
  go_ret
  exact ⟨rfl, rfl⟩
set_option maxHeartbeats 1000000 in
theorem crd_four (key : ByteArray) (w : World) : Calls Try.prog 27 #[.string key] w fun e w' => e = .returned (.int .i64 ((ownN key 4 : Nat) : Int)) ∧ w = w' := by
  have H : Hid (Calls Try.prog 39 #[.string key, .int .i64 4] w fun e w' => e = .returned (.int .i64 ((ownN key 4 : Nat) : Int)) ∧ w = w') := Lib.hid (owner_any key 4 (by decide) w)
  go_enter Try.func27, Try.ntmps27
  go_wp2_with (go_at_call 39; (with_reducible refine (H.out).mono ?_); rintro e w1 ⟨rfl, rfl⟩)
  go_ret
  exact ⟨rfl, rfl⟩
set_option maxHeartbeats 1000000 in
theorem crd_five (key : ByteArray) (w : World) : Calls Try.prog 28 #[.string key] w fun e w' => e = .returned (.int .i64 ((ownN key 5 : Nat) : Int)) ∧ w = w' := by
  have H : Hid (Calls Try.prog 39 #[.string key, .int .i64 5] w fun e w' => e = .returned (.int .i64 ((ownN key 5 : Nat) : Int)) ∧ w = w') := Lib.hid (owner_any key 5 (by decide) w)
  go_enter Try.func28, Try.ntmps28
  go_wp2_with (go_at_call 39; (with_reducible refine (H.out).mono ?_); rintro e w1 ⟨rfl, rfl⟩)
  go_ret
  exact ⟨rfl, rfl⟩
/-- A list of numbers. -/
def IsNs (W : World) (a : Option Addr) (len : Nat) (L : List Nat) : Prop := L.length = len ∧ len ≤ 1000 ∧ ∀ i, i < len → ∃ b off, a = some ⟨b, off, none⟩ ∧ b < W.heap.size ∧ L.getD i 0 < 1000 ∧ W.cell? ⟨b, off + i, none⟩ = some (.int .i64 ((L.getD i 0 : Nat) : Int))
theorem IsNs.below {W W' : World} {a : Option Addr} {len : Nat} {L : List Nat} (h : IsNs W a len L) (hb : Below W.heap.size W W') : IsNs W' a len L :=
  ⟨h.1, h.2.1, fun i hi => by obtain ⟨b, off, ha, h1, h2, h3⟩ := h.2.2 i hi; exact ⟨b, off, ha, Nat.lt_of_lt_of_le h1 hb.size, h2, (hb.cell (p := ⟨b, off + i, none⟩) h1).trans h3⟩⟩
set_option maxHeartbeats 2000000 in
/-- Of equal lists. -/
theorem nsame_yes (a1 a2 : Option Addr) (len c1 c2 : Nat) (L : List Nat) (w : World) (h1 : IsNs w a1 len L) (h2 : IsNs w a2 len L) :
    Calls Try.prog 15 #[.slice a1 len c1, .slice a2 len c2] w fun e w' => e = .returned (.bool true) ∧ Below w.heap.size w w' := by
  have H1 := Lib.hid h1
  have H2 := Lib.hid h2
  have hlm := h1.2.1
  clear h1 h2
  go_enter Try.func15, Try.ntmps15
  go_wp2_with fail
  go_loopg [5] len (fun g s5 wx => ∃ i n : Nat, i + g = len ∧ s5 = .int .i64 i ∧ wx = w.drewN n)
  case atStart => exact ⟨0, 0, by omega, rfl, rfl⟩
  case round =>
    obtain ⟨i, n, hig, rfl, rfl⟩ := hrel
    cases gk with
    | zero =>
      obtain rfl : len = i := by omega
      go_wp2_with fail
      go_ret
      exact ⟨rfl, ⟨rfl, rfl, rfl, Nat.le_refl _, fun _ _ => rfl⟩⟩
    | succ g =>
      have hil : i < len := by omega
      have hiz : (i : Int) < (len : Int) := by omega
      obtain ⟨b, off, rfl, hbl, _, k0⟩ := H1.out.2.2 i hil
      obtain ⟨b', off', rfl, hbl', _, j0⟩ := H2.out.2.2 i hil
      obtain ⟨z, hzz⟩ : ∃ z, z = L.getD i 0 := ⟨_, rfl⟩
      rw [← hzz] at k0 j0
      clear hzz hbl hbl'
      go_wp2_with fail
      go_quiet (fail)
      go_wp2_with fail
      go_roundg g
      case measure => omega
      case rel => exact ⟨i + 1, _, by omega, by go_num, rfl⟩
end Go.Proofs.Ytdldplhfpianhaa
