/-
  Joined: MvcPInsert, MvcPGrow, MvcPEnd.
-/
import Derived.Test.YthcomfcbdlobpaaSet35
import Derived.Test.YthcomfcbdlobpaaSet29
import Derived.Lib.AppendZerosOnto
import Derived.Lib.Overlaps
import Derived.Lib.SlBuf
import Derived.Laws.CopyRow
import Derived.Laws.NewBlocks
import Derived.Deep.RegionLaw
import Derived.Test.YthcomfcbdlobpaaSet38
namespace Go.Proofs.Ythcomfcbdlobpaa
open Go.RowKit
set_option linter.unusedVariables false
set_option linter.unnecessarySimpa false
set_option linter.unusedSimpArgs false
set_option maxRecDepth 100000

theorem run_copy_rowK {P : Program} (w : World) (dT sT ty elem : TypeId) (size : Nat) (g o dLen dCap : Nat) (a : Addr) (sLen sCap m : Nat) (cur : Array Value) (t : TypeId) (cs : List Value)
    (hu : P.underlying dT = some (.slice elem)) (hs : (P.info? elem).map (·.size) = some size)
    (hg : w.heap[g]? = some (.cells cur t (0, 0))) (hm : Nat.min sLen dLen = m) (hn : cs.length = m * size)
    (hsrc : ∀ j v, cs[j]? = some v → w.cell? (a.add j) = some v) (hfit : o + cs.length ≤ cur.size) (h1 : ∀ v ∈ cs, v.oneCell' = true) :
    (Builtin.copy_ #[dT, sT] ty #[.slice (some ⟨g, o, none⟩) dLen dCap, .slice (some a) sLen sCap]).run P w =
      .ok (goInt m) (w.setRow g (cur.toList.take o ++ cs ++ cur.toList.drop (o + cs.length)).toArray) := by
  have hl := run_firstCells_some (P := P) w size m a sLen sCap cs hn hsrc
  have hst := run_storeCells_at P g o t cs 0 cur w hg (by simpa using hfit) h1
  cases hq : P.info? elem with
  | none => simp [hq] at hs
  | some i =>
    have hi : i.size = size := by simpa [hq] using hs
    simp [Builtin.copy_, run_underlying hu, Builtin.lenOf, sizeOf, typeInfo, hq, hi, hm, hl, hst]
/-- 'copy' as one step of a region that draws its order. -/
theorem step_copy_run {P : Program} {ops : Array Oper} {o : Oper} {a : Act} {w : World} {K : Act → World → Prop} {Q : Exit → Act → World → Prop} {E : Prop}
    (hg : o.guard = none) (d x : Operand) (dT sT : TypeId) (hop : o.op = Op.call { callee := Callee.builtin Builtin.copy, args := #[d, x], argTypes := #[dT, sT] })
    (v u : Value) (hd : a.eval d = v) (hx : a.eval x = u) {v' : Value} {w' : World} (hr : (Builtin.copy_ #[dT, sT] o.type #[v, u]).run P w = .ok v' w') (hK : K (a.put o.dst v') w') :
    if Region.wanted o (yielded ops a.tmps) = true then Oper.wp P o a w K Q else E := by
  rw [if_pos (show Region.wanted o (yielded ops a.tmps) = true by simp [Region.wanted, hg])]
  unfold Oper.wp
  simp [execOp, hop, resolve, invoke, builtin, hd, hx, hr, Result.andThen]
  exact hK

theorem entSz : ∀ w, (sizeOf 109).run Try.prog w = .ok 2 w := fun w => by
  obtain ⟨i, hi, h0, h1, h2⟩ := info_parts entInfoP
  simp [sizeOf, typeInfo, hi, h1]
theorem entSz2 : (Try.prog.info? 109).map (·.size) = some 2 := by kernel_rfl
theorem shape_row {w : World} {g : Nat} {cs : Array Value} {t : TypeId} (h : w.heap[g]? = some (.cells cs t (0, 0))) : w.shape? g = some (t, cs.size) := by simp [World.shape?, h]
theorem overlaps_no (w : World) (vb g o : Nat) (vs cur : Array Value) (la ca lb cb : Nat) (hne : vb ≠ g) (hv : w.heap[vb]? = some (.cells vs 109 (0, 0))) (hg : w.heap[g]? = some (.cells cur 109 (0, 0))) (h0 : cur.size ≠ 0) :
    (callFunc 64 #[.slice (some ⟨vb, 0, none⟩) la ca, .slice (some ⟨g, o, none⟩) lb cb]).run Try.prog w = .ok (.value (.bool false)) w := by
  rw [run_callFunc_extern Try.func64 (by kernel_rfl) (by kernel_rfl) (by kernel_rfl) (e := Extern.SlicesOverlaps.overlaps #[69, 69] #[4]) (by kernel_rfl),
    Lib.run_overlaps_apart w 69 4 109 Try.underlying69 2 entSz ⟨vb, 0, none⟩ ⟨g, o, none⟩ la ca lb cb hne _ _ _ _ (shape_row hv) (shape_row hg) h0 (frozen_of_row _ _ _ _ _ hv) (frozen_of_row _ _ _ _ _ hv)]
  rfl
theorem take_seg {xs cur vs : List Value} {i n : Nat} (hi : i ≤ n) (hx : cur.take (n * 2) = xs) (hv : vs.length = 2) (hc : n * 2 ≤ cur.length) :
    let R1 := cur.take ((i + 1) * 2) ++ xs.drop (i * 2) ++ cur.drop ((i + 1) * 2 + (xs.drop (i * 2)).length)
    let R2 := R1.take (i * 2) ++ vs ++ R1.drop (i * 2 + vs.length)
    (n + 1) * 2 ≤ cur.length → R1.length = cur.length ∧ R2.length = cur.length ∧ R2.take ((n + 1) * 2) = xs.take (i * 2) ++ vs ++ xs.drop (i * 2) := by
  intro R1 R2 hr
  have hxl : xs.length = n * 2 := by rw [← hx, List.length_take]; omega
  have hdl : (xs.drop (i * 2)).length = n * 2 - i * 2 := by rw [List.length_drop, hxl]
  have h1 : (cur.take ((i + 1) * 2)).length = (i + 1) * 2 := by rw [List.length_take]; omega
  have l1 : R1.length = cur.length := by
    show (cur.take ((i + 1) * 2) ++ xs.drop (i * 2) ++ cur.drop ((i + 1) * 2 + (xs.drop (i * 2)).length)).length = _
    rw [List.length_append, List.length_append, h1, hdl, List.length_drop]; omega
  have t1 : R1.take (i * 2) = xs.take (i * 2) := by
    show (cur.take ((i + 1) * 2) ++ xs.drop (i * 2) ++ _).take (i * 2) = _
    rw [List.append_assoc, List.take_append_of_le_length (by rw [h1]; omega), List.take_take, ← hx, List.take_take]
    congr 1; omega
  have d1 : R1.drop (i * 2 + vs.length) = xs.drop (i * 2) ++ cur.drop ((i + 1) * 2 + (xs.drop (i * 2)).length) := by
    show (cur.take ((i + 1) * 2) ++ xs.drop (i * 2) ++ _).drop (i * 2 + vs.length) = _
    rw [List.append_assoc, hv, show i * 2 + 2 = (cur.take ((i + 1) * 2)).length by rw [h1]; omega, List.drop_left]
  refine ⟨l1, ?_, ?_⟩
  · show (R1.take (i * 2) ++ vs ++ R1.drop (i * 2 + vs.length)).length = _
    rw [List.length_append, List.length_append, List.length_take, List.length_drop, l1]; omega
  · show (R1.take (i * 2) ++ vs ++ R1.drop (i * 2 + vs.length)).take ((n + 1) * 2) = _
    rw [t1, d1, ← List.append_assoc]
    have hl : (xs.take (i * 2) ++ vs ++ xs.drop (i * 2)).length = (n + 1) * 2 := by
      rw [List.length_append, List.length_append, hdl, List.length_take, hxl, hv]; omega
    rw [← hl]
    exact List.take_left

set_option maxHeartbeats 4000000 in
/-- There is room, and the place is ahead of the end. -/
theorem insert_shift (B g n cap i vb vc : Nat) (xs vs : List Value) (w : World) (hi : i < n) (hn : n ≤ 100000) (hroom : n + 1 ≤ cap) (hown : w.ownsRow B 109 2 (.slice (some ⟨g, 0, none⟩) n cap) n xs) (hx1 : ∀ u ∈ xs, u.oneCell' = true)
    (hvb : vb ≠ g) (hvr : w.heap[vb]? = some (.cells vs.toArray 109 (0, 0))) (hvl : vs.length = 2) (hv1 : ∀ u ∈ vs, u.oneCell' = true) :
    Calls Try.prog 51 #[.slice (some ⟨g, 0, none⟩) n cap, .int .i64 (i : Int), .slice (some ⟨vb, 0, none⟩) 1 vc] w fun e w' =>
      e = .returned (.slice (some ⟨g, 0, none⟩) (n + 1) cap) ∧ w'.ownsRow B 109 2 (.slice (some ⟨g, 0, none⟩) (n + 1) cap) (n + 1) (xs.take (i * 2) ++ vs ++ xs.drop (i * 2)) ∧ w.grownBy w' (some g) := by
  rcases hown.2 with ⟨h', _⟩ | ⟨g', cap', cur, h', hbg, hg, hnc, hcm, hcs, htake⟩
  · cases h'
  injection h' with e1 e2 e3
  injection e1 with e1
  injection e1 with e1
  subst e1 e3
  have hcl : cur.toList.length = cap * 2 := by simpa using hcs
  have hxl : xs.length = n * 2 := hown.1
  obtain ⟨l1, l2, l3⟩ := take_seg (i := i) (by omega) htake hvl (by omega) (by omega)
  obtain ⟨R1, hR1⟩ : ∃ R1, R1 = cur.toList.take ((i + 1) * 2) ++ xs.drop (i * 2) ++ cur.toList.drop ((i + 1) * 2 + (xs.drop (i * 2)).length) := ⟨_, rfl⟩
  rw [← hR1] at l1 l2 l3
  obtain ⟨R2, hR2⟩ : ∃ R2, R2 = R1.take (i * 2) ++ vs ++ R1.drop (i * 2 + vs.length) := ⟨_, rfl⟩
  rw [← hR2] at l2 l3
  have hdl : (xs.drop (i * 2)).length = (n - i) * 2 := by rw [List.length_drop, hxl]; omega
  have hga : ∀ (j k : Nat), (⟨g, j, none⟩ : Addr).add k = ⟨g, j + k, none⟩ := fun j k => by unfold Addr.add; split <;> simp_all
  have hva : ∀ (k : Nat), (⟨vb, 0, none⟩ : Addr).add k = ⟨vb, k, none⟩ := fun k => by unfold Addr.add; split <;> simp_all
  have hcp1 := Lib.hid (show ∀ ty dc sc, (Builtin.copy_ #[69, 69] ty #[.slice (some ⟨g, (i + 1) * 2, none⟩) (n - i) dc, .slice (some ⟨g, i * 2, none⟩) (n + 1 - i) sc]).run Try.prog w.drew = .ok (goInt ((n - i : Nat) : Int)) (w.drew.setRow g R1.toArray) from fun ty dc sc => by
    rw [hR1]
    exact run_copy_rowK w.drew _ _ ty 109 2 g ((i + 1) * 2) _ dc ⟨g, i * 2, none⟩ _ sc (n - i) cur 109 (xs.drop (i * 2)) Try.underlying69 entSz2 hg (by simp only [Nat.min_def]; split <;> omega) hdl
      (fun j v hj => by
        rw [hga]
        show w.cell? _ = _
        rw [cell_of_row _ _ _ _ _ _ hg]
        rw [List.getElem?_drop, ← htake, List.getElem?_take] at hj
        split at hj
        · simpa using hj
        · cases hj)
      (by rw [hdl, hcs]; omega) (fun v hv => hx1 v (List.mem_of_mem_drop hv)))
  have hg1 : (w.drew.setRow g R1.toArray).heap[g]? = some (.cells R1.toArray 109 (0, 0)) := setRow_heap w.drew g cur _ _ _ hg
  have hv1r : (w.drew.setRow g R1.toArray).heap[vb]? = some (.cells vs.toArray 109 (0, 0)) := (setRow_other w.drew g vb _ hvb).trans hvr
  have hcp2 := Lib.hid (show ∀ ty dc, (Builtin.copy_ #[69, 69] ty #[.slice (some ⟨g, i * 2, none⟩) (n + 1 - i) dc, .slice (some ⟨vb, 0, none⟩) 1 vc]).run Try.prog (w.drew.setRow g R1.toArray) = .ok (goInt 1) ((w.drew.setRow g R1.toArray).setRow g R2.toArray) from fun ty dc => by
    rw [hR2]
    exact run_copy_rowK _ _ _ ty 109 2 g (i * 2) _ dc ⟨vb, 0, none⟩ 1 vc 1 R1.toArray 109 vs Try.underlying69 entSz2 hg1 (by simp only [Nat.min_def]; split <;> omega) (by omega)
      (fun j v hj => by rw [hva, cell_of_row _ _ _ _ _ _ hv1r]; simpa using hj) (by simp only [List.size_toArray]; omega) hv1)
  have hov := fun lb cb => overlaps_no w vb g ((i + 1) * 2) vs.toArray cur 1 vc lb cb hvb hvr hg (by omega)
  have HE := Lib.hid (show ((w.drew.setRow g R1.toArray).setRow g R2.toArray).ownsRow B 109 2 (.slice (some ⟨g, 0, none⟩) (n + 1) cap) (n + 1) (xs.take (i * 2) ++ vs ++ xs.drop (i * 2)) ∧ w.grownBy ((w.drew.setRow g R1.toArray).setRow g R2.toArray) (some g) from by
    refine ⟨⟨?_, .inr ⟨g, cap, R2.toArray, rfl, hbg, setRow_heap _ g _ _ _ _ hg1, hroom, hcm, by simp only [List.size_toArray]; omega, by simpa using l3⟩⟩, ⟨rfl, rfl, rfl, by simp, fun k hk hne => ?_⟩⟩
    · rw [← l3, List.length_take, l2]; omega
    · have hk2 : k ≠ g := fun e => hne (by rw [e])
      rw [setRow_other _ g k _ hk2, setRow_other _ g k _ hk2]; rfl)
  have hz2 : ¬ ((i : Int) = (n : Int)) := by omega
  have hz3 : ¬ ((cap : Int) < (n : Int) + 1) := by omega
  have hw1 : IntKind.i64.wrap ((i : Int) + 1) = (i : Int) + 1 := by rw [IntKind.wrap_i64]; omega
  have hb1 : (0 : Int) ≤ (i : Int) + 1 := by omega
  have hin : i ≤ n := by omega
  have htn : ((i : Int) + 1).toNat = i + 1 := by omega
  have hb2 : ¬ (cap = i + 1) := by omega
  have hb3 : (i : Int) ≤ (n : Int) + 1 := by omega
  have hb4 : ¬ (cap = i) := by omega
  clear hown hcs htake hcl hxl hR1 hR2 hdl l1 l2 l3 hg1 hv1r hg hvr hx1 hv1 hga hva hnc hcm hbg
  go_enter Try.func51, Try.ntmps51
  go_wp2_with (simp only [hov])
  go_region_law (refine step_copy_run rfl _ _ 69 69 rfl _ _ (by simp [Act.eval, Act.put]) (by simp [Act.eval, Act.put]) (hcp1.out _ (cap - (i + 1)) (cap - i)) ?_)
  go_wp2_with (refine Lib.wpList_copy_run _ rfl (.tmp 80) (.tmp 81) 69 69 rfl _ _ rfl rfl (hcp2.out _ (cap - i)) ?_; dsimp only [Act.put]; simp only [Array.setIfInBounds_def]; go_simp)
  go_ret
  exact ⟨rfl, HE.out⟩
end Go.Proofs.Ythcomfcbdlobpaa

namespace Go.Proofs.Ythcomfcbdlobpaa
open Go.RowKit
set_option linter.unusedVariables false
set_option linter.unnecessarySimpa false
set_option linter.unusedSimpArgs false
set_option maxRecDepth 100000

theorem take_len {α : Type} {l r : List α} {k : Nat} (h : l.length = k) : (l ++ r).take k = l := by subst h; exact List.take_left
theorem take_new {xs Z vs : List Value} {i n : Nat} (hi : i ≤ n) (hx : xs.length = n * 2) (hv : vs.length = 2) (hz : (n + 1 - i) * 2 ≤ Z.length) :
    let R0 := xs.take (i * 2) ++ Z
    let R1 := R0.take (i * 2) ++ vs ++ R0.drop (i * 2 + vs.length)
    let R2 := R1.take ((i + 1) * 2) ++ xs.drop (i * 2) ++ R1.drop ((i + 1) * 2 + (xs.drop (i * 2)).length)
    R1.length = R0.length ∧ R2.length = R0.length ∧ R2.take ((n + 1) * 2) = xs.take (i * 2) ++ vs ++ xs.drop (i * 2) := by
  intro R0 R1 R2
  have h1 : (xs.take (i * 2)).length = i * 2 := by rw [List.length_take]; omega
  have hdl : (xs.drop (i * 2)).length = n * 2 - i * 2 := by rw [List.length_drop, hx]
  have t0 : R0.take (i * 2) = xs.take (i * 2) := by
    exact take_len h1
  have l0 : R0.length = i * 2 + Z.length := by show (xs.take (i * 2) ++ Z).length = _; rw [List.length_append, h1]
  have l1 : R1.length = R0.length := by
    show (R0.take (i * 2) ++ vs ++ R0.drop (i * 2 + vs.length)).length = _
    rw [List.length_append, List.length_append, List.length_take, List.length_drop]; omega
  have t1 : R1.take ((i + 1) * 2) = xs.take (i * 2) ++ vs := by
    show (R0.take (i * 2) ++ vs ++ R0.drop (i * 2 + vs.length)).take ((i + 1) * 2) = _
    have hl : (xs.take (i * 2) ++ vs).length = (i + 1) * 2 := by rw [List.length_append, h1]; omega
    rw [t0, ← hl]
    exact List.take_left
  refine ⟨l1, ?_, ?_⟩
  · show (R1.take ((i + 1) * 2) ++ xs.drop (i * 2) ++ R1.drop ((i + 1) * 2 + (xs.drop (i * 2)).length)).length = _
    rw [List.length_append, List.length_append, List.length_take, hdl, List.length_drop, l1]; omega
  · show (R1.take ((i + 1) * 2) ++ xs.drop (i * 2) ++ R1.drop ((i + 1) * 2 + (xs.drop (i * 2)).length)).take ((n + 1) * 2) = _
    have hl : (xs.take (i * 2) ++ vs ++ xs.drop (i * 2)).length = (n + 1) * 2 := by
      rw [List.length_append, List.length_append, hdl, h1, hv]; omega
    rw [t1, ← hl]
    exact List.take_left

set_option maxHeartbeats 4000000 in
/-- There is no room, and the place is ahead of the end. -/
theorem insert_grow (B g n cap i vb vc : Nat) (xs vs : List Value) (w : World) (hi : i < n) (hn : n ≤ 100000) (hroom : cap < n + 1) (hown : w.ownsRow B 109 2 (.slice (some ⟨g, 0, none⟩) n cap) n xs) (hx1 : ∀ u ∈ xs, u.oneCell' = true)
    (hvr : w.heap[vb]? = some (.cells vs.toArray 109 (0, 0))) (hvl : vs.length = 2) (hv1 : ∀ u ∈ vs, u.oneCell' = true) (hB : B ≤ w.heap.size) :
    Calls Try.prog 51 #[.slice (some ⟨g, 0, none⟩) n cap, .int .i64 (i : Int), .slice (some ⟨vb, 0, none⟩) 1 vc] w fun e w' =>
      ∃ c', e = .returned (.slice (some ⟨w.heap.size, 0, none⟩) (n + 1) c') ∧ w'.ownsRow B 109 2 (.slice (some ⟨w.heap.size, 0, none⟩) (n + 1) c') (n + 1) (xs.take (i * 2) ++ vs ++ xs.drop (i * 2)) ∧ Below w.heap.size w w' := by
  rcases hown.2 with ⟨h', _⟩ | ⟨g', cap', cur, h', hbg, hg, hnc, hcm, hcs, htake⟩
  · cases h'
  injection h' with e1 e2 e3
  injection e1 with e1
  injection e1 with e1
  subst e1 e3
  have hcl : cur.toList.length = cap * 2 := by simpa using hcs
  have hxl : xs.length = n * 2 := hown.1
  obtain ⟨i0, hi0, hz0, hzs, hzb⟩ := info_parts entInfoP
  have hga : ∀ (g j k : Nat), (⟨g, j, none⟩ : Addr).add k = ⟨g, j + k, none⟩ := fun g j k => by unfold Addr.add; split <;> simp_all
  have hold : (Builtin.firstCells i0.size i (.slice (some ⟨g, 0, none⟩) i cap)).run Try.prog w.drew = .ok (xs.take (i * 2)).toArray w.drew := by
    rw [hzs]
    exact run_firstCells_some w.drew 2 i ⟨g, 0, none⟩ i cap (xs.take (i * 2)) (by rw [List.length_take]; omega) (fun j v hj => by
      rw [hga, Nat.zero_add]
      show w.cell? _ = _
      have h := hown.cells (g := g) rfl j v (by
        rw [List.getElem?_take] at hj
        by_cases h : j < i * 2
        · rwa [if_pos h] at hj
        · rw [if_neg h] at hj; cases hj)
      rwa [hga, Nat.zero_add] at h)
  have hkk : (n : Int) + 1 - (i : Int) = ((n + 1 - i : Nat) : Int) := by omega
  have hik : i + (n + 1 - i) = n + 1 := by omega
  have hrz := Lib.hid (show ∀ ty, (Builtin.append_ #[69, 3] ty #[.slice (some ⟨g, 0, none⟩) i cap, .int .i64 ((n : Int) + 1 - (i : Int))]).run Try.prog w =
      .ok (.slice (some ⟨w.heap.size, 0, none⟩) (n + 1) (grownCap w (n + 1) cap 109)) (w.drew.alloc (.cells ((xs.take (i * 2)).toArray ++ Builtin.zeroCells (Value.agg #[.string ⟨#[]⟩, .slice none 0 0]).cells (n + 1 - i) ++ Builtin.zeroCells (Value.agg #[.string ⟨#[]⟩, .slice none 0 0]).cells (grownCap w (n + 1) cap 109 - (n + 1))) 109)) from fun ty => by
    have h := Lib.run_append_grow_zeros w 69 3 ty 109 i0 _ .i64 .i64 Try.underlying69 Try.underlying3 hi0 hz0 (some ⟨g, 0, none⟩) i cap (xs.take (i * 2)) hold (n + 1 - i) (by omega) (by omega) (by omega) (by omega) (by rw [hzb]; omega) (by rw [hzb, hik]; exact growslice_fits hroom (by omega))
    rw [hik] at h
    rw [hkk]
    exact h)
  have hGn := grownCap_ge w (n + 1) cap 109
  have hGm : grownCap w (n + 1) cap 109 ≤ maxLen := grownCap_le_maxLen w (n + 1) cap 109 (by unfold maxLen; omega)
  obtain ⟨G, hG⟩ : ∃ G, G = grownCap w (n + 1) cap 109 := ⟨_, rfl⟩
  rw [← hG] at hrz hGn hGm
  obtain ⟨Z, hZ⟩ : ∃ Z : List Value, Z = (Builtin.zeroCells (Value.agg #[.string ⟨#[]⟩, .slice none 0 0]).cells (n + 1 - i) ++ Builtin.zeroCells (Value.agg #[.string ⟨#[]⟩, .slice none 0 0]).cells (G - (n + 1))).toList := ⟨_, rfl⟩
  have hZl : Z.length = (G - i) * 2 := by
    have hz2 : (Value.agg #[.string ⟨#[]⟩, .slice none 0 0]).cells.size = 2 := rfl
    rw [hZ, Array.length_toList, Array.size_append, size_zeroCells, size_zeroCells, hz2]; omega
  have hrow : (xs.take (i * 2)).toArray ++ Builtin.zeroCells (Value.agg #[.string ⟨#[]⟩, .slice none 0 0]).cells (n + 1 - i) ++ Builtin.zeroCells (Value.agg #[.string ⟨#[]⟩, .slice none 0 0]).cells (G - (n + 1)) = (xs.take (i * 2) ++ Z).toArray := by
    rw [hZ, Array.append_assoc]
    apply Array.toList_inj.1
    simp
  rw [hrow] at hrz
  obtain ⟨l1, l2, l3⟩ := take_new (i := i) (n := n) (Z := Z) (by omega) hxl hvl (by omega)
  have hRl : (xs.take (i * 2) ++ Z).length = G * 2 := by rw [List.length_append, List.length_take, hZl]; omega
  have ht1 : (xs.take (i * 2) ++ Z).take (i * 2) = xs.take (i * 2) := by
    exact take_len (by rw [List.length_take]; omega)
  obtain ⟨R0, hR0⟩ : ∃ R0, R0 = xs.take (i * 2) ++ Z := ⟨_, rfl⟩
  rw [← hR0] at hrz l1 l2 l3 hRl
  obtain ⟨R1, hR1⟩ : ∃ R1, R1 = R0.take (i * 2) ++ vs ++ R0.drop (i * 2 + vs.length) := ⟨_, rfl⟩
  rw [← hR1] at l1 l2 l3
  obtain ⟨R2, hR2⟩ : ∃ R2, R2 = R1.take ((i + 1) * 2) ++ xs.drop (i * 2) ++ R1.drop ((i + 1) * 2 + (xs.drop (i * 2)).length) := ⟨_, rfl⟩
  rw [← hR2] at l2 l3
  have hdl : (xs.drop (i * 2)).length = (n - i) * 2 := by rw [List.length_drop, hxl]; omega
  have hgw : g < w.heap.size := (Array.getElem?_eq_some_iff.1 hg).1
  have hvw : vb < w.heap.size := (Array.getElem?_eq_some_iff.1 hvr).1
  have hA := Lib.hid (show ∀ W : World, W.heap = (w.alloc (.cells R0.toArray 109)).heap → ∀ ty dc, (Builtin.copy_ #[69, 69] ty #[.slice (some ⟨w.heap.size, i * 2, none⟩) (n + 1 - i) dc, .slice (some ⟨vb, 0, none⟩) 1 vc]).run Try.prog W = .ok (goInt 1) (W.setRow w.heap.size R1.toArray) from fun W hW ty dc => by
    rw [hR1]
    refine run_copy_rowK W _ _ ty 109 2 w.heap.size (i * 2) _ dc ⟨vb, 0, none⟩ 1 vc 1 R0.toArray 109 vs Try.underlying69 entSz2 (by rw [hW]; exact heap_alloc_new w _) (by simp only [Nat.min_def]; split <;> omega) (by omega)
      (fun j v hj => ?_) (by simp only [List.size_toArray]; omega) hv1
    rw [hga, Nat.zero_add]
    have : W.heap[vb]? = some (.cells vs.toArray 109 (0, 0)) := by rw [hW]; exact (heap_alloc_old w _ hvw).trans hvr
    rw [cell_of_row _ _ _ _ _ _ this]; simpa using hj)
  have hBc := Lib.hid (show ∀ W : World, W.heap = ((w.alloc (.cells R0.toArray 109)).setRow w.heap.size R1.toArray).heap → ∀ ty dc sc, (Builtin.copy_ #[69, 69] ty #[.slice (some ⟨w.heap.size, (i + 1) * 2, none⟩) (n - i) dc, .slice (some ⟨g, i * 2, none⟩) (n - i) sc]).run Try.prog W = .ok (goInt ((n - i : Nat) : Int)) (W.setRow w.heap.size R2.toArray) from fun W hW ty dc sc => by
    rw [hR2]
    refine run_copy_rowK W _ _ ty 109 2 w.heap.size ((i + 1) * 2) _ dc ⟨g, i * 2, none⟩ _ sc (n - i) R1.toArray 109 (xs.drop (i * 2)) Try.underlying69 entSz2 (by rw [hW]; exact setRow_heap _ _ _ _ _ _ (heap_alloc_new w _)) (by simp only [Nat.min_def]; split <;> omega) hdl
      (fun j v hj => ?_) (by simp only [List.size_toArray]; omega) (fun v hv => hx1 v (List.mem_of_mem_drop hv))
    rw [hga]
    have : W.heap[g]? = some (.cells cur 109 (0, 0)) := by rw [hW, setRow_other _ _ g _ (by omega)]; exact (heap_alloc_old w _ hgw).trans hg
    rw [cell_of_row _ _ _ _ _ _ this]
    rw [List.getElem?_drop, ← htake, List.getElem?_take] at hj
    split at hj
    · simpa using hj
    · cases hj)
  have HE := Lib.hid (show ∀ W : World, W.heap = (((w.alloc (.cells R0.toArray 109)).setRow w.heap.size R1.toArray).setRow w.heap.size R2.toArray).heap → W.os = w.os → W.tape = w.tape → W.output = w.output →
      W.ownsRow B 109 2 (.slice (some ⟨w.heap.size, 0, none⟩) (n + 1) G) (n + 1) (xs.take (i * 2) ++ vs ++ xs.drop (i * 2)) ∧ Below w.heap.size w W from fun W hW h1 h2 h3 => by
    refine ⟨⟨?_, .inr ⟨w.heap.size, G, R2.toArray, rfl, hB, ?_, hGn, hGm, by simp only [List.size_toArray]; omega, by simpa using l3⟩⟩, ⟨h1, h2, h3, ?_, fun k hk => ?_⟩⟩
    · rw [← l3, List.length_take, l2]; omega
    · rw [hW]; exact setRow_heap _ _ _ _ _ _ (setRow_heap _ _ _ _ _ _ (heap_alloc_new w _))
    · rw [hW]; simp
    · rw [hW, setRow_other _ _ k _ (by omega), setRow_other _ _ k _ (by omega)]; exact heap_alloc_old w _ hk)
  have hz2 : ¬ ((i : Int) = (n : Int)) := by omega
  have hz3 : (cap : Int) < (n : Int) + 1 := by omega
  have hw1 : IntKind.i64.wrap ((i : Int) + 1) = (i : Int) + 1 := by rw [IntKind.wrap_i64]; omega
  have hb1 : (0 : Int) ≤ (i : Int) + 1 := by omega
  have hin : i ≤ n := by omega
  have htn : ((i : Int) + 1).toNat = i + 1 := by omega
  have hb3 : (i : Int) ≤ (n : Int) := by omega
  have hGi : ¬ (G = i) := by omega
  have hGim : ¬ (G = i + 1) := by omega
  have hci : ¬ (cap = i) := by omega
  have hG63 : G ≤ 9223372036854775807 := by unfold maxLen at hGm; omega
  have hic : (i : Int) ≤ (cap : Int) := by omega
  have hic2 : i ≤ cap := by omega
  clear hik hnc
  clear hown hcs htake hcl hxl hR0 hR1 hR2 hdl l1 l2 l3 hg hvr hx1 hv1 hga hcm hbg hG hZ hZl hrow hRl ht1 hold hi0 hz0 hzs hzb hgw hvw hGm hkk
  go_enter Try.func51, Try.ntmps51
  go_wp2_with (first
    | (at_builtin; refine Lib.wpList_append_run _ rfl (.tmp 34) (.tmp 39) 69 3 rfl _ _ rfl rfl _ _ (hrz.out _) ?_; dsimp only [Act.put]; simp only [Array.setIfInBounds_def]; go_simp)
    | (refine Lib.wpList_copy_run _ rfl (.tmp 43) (.tmp 44) 69 69 rfl _ _ rfl rfl (hA.out (w.alloc (.cells R0.toArray 109)).drew rfl _ (G - i)) ?_; dsimp only [Act.put]; simp only [Array.setIfInBounds_def]; go_simp))
  go_region_law (refine step_copy_run rfl _ _ 69 69 rfl _ _ (by simp [Act.eval, Act.put]) (by simp [Act.eval, Act.put]) (hBc.out ((w.alloc (.cells R0.toArray 109)).drew.setRow w.heap.size R1.toArray).drew rfl _ (G - (i + 1)) (cap - i)) ?_)
  go_wp2_with fail
  go_ret
  exact ⟨G, rfl, HE.out (((w.alloc (.cells R0.toArray 109)).drew.setRow w.heap.size R1.toArray).drew.setRow w.heap.size R2.toArray) rfl rfl rfl rfl⟩
end Go.Proofs.Ythcomfcbdlobpaa

namespace Go.Proofs.Ythcomfcbdlobpaa
open Go.RowKit
set_option linter.unusedVariables false
set_option linter.unnecessarySimpa false
set_option linter.unusedSimpArgs false
set_option maxRecDepth 100000

/-- What Insert tells. -/
def InsTo (B i n : Nat) (v : Value) (xs vs : List Value) (w : World) (e : Ending) (w' : World) : Prop := ∃ (a' : Option Addr) (c' : Nat), e = .returned (.slice a' (n + 1) c') ∧ w'.ownsRow B 109 2 (.slice a' (n + 1) c') (n + 1) (xs.take (i * 2) ++ vs ++ xs.drop (i * 2)) ∧ w.grownBy w' v.ownBlock ∧
  (∀ k, (Value.slice a' (n + 1) c').ownBlock = some k → v.ownBlock = some k ∨ w.heap.size ≤ k)
theorem insTo_end {B n : Nat} {v v9 : Value} {xs vs : List Value} {w w9 : World} (hx : xs.length = n * 2) (ho : w9.ownsRow B 109 2 v9 (n + 1) (xs ++ vs)) (hg : w.grownBy w9 v.ownBlock) (hk : ∀ k, v9.ownBlock = some k → v.ownBlock = some k ∨ w.heap.size ≤ k) : InsTo B n n v xs vs w (.returned v9) w9 := by
  obtain ⟨g9, c9, rfl, _, _⟩ := own_slice ho (Nat.succ_pos n)
  refine ⟨_, c9, rfl, ?_, hg, hk⟩
  rw [List.take_of_length_le (by omega), List.drop_eq_nil_of_le (by omega), List.append_nil]
  exact ho

set_option maxHeartbeats 4000000 in
theorem insert_nil (B vb vc : Nat) (vs : List Value) (w : World) (hvr : w.heap[vb]? = some (.cells vs.toArray 109 (0, 0))) (hvl : vs.length = 2) (hv1 : ∀ u ∈ vs, u.oneCell' = true) (hB : B ≤ w.heap.size) :
    Calls Try.prog 51 #[.slice none 0 0, .int .i64 0, .slice (some ⟨vb, 0, none⟩) 1 vc] w (InsTo B 0 0 (.slice none 0 0) [] vs w) := by
  obtain ⟨inf, hj, hy0, hy1, hy2⟩ := info_parts entInfoP
  have hva : ∀ (k : Nat), (⟨vb, 0, none⟩ : Addr).add k = ⟨vb, k, none⟩ := fun k => by unfold Addr.add; split <;> simp_all
  have HC := Lib.hid (show ∀ j u, vs[j]? = some u → w.cell? ((⟨vb, 0, none⟩ : Addr).add j) = some u from fun j u h => by rw [hva, cell_of_row _ _ _ _ _ _ hvr]; simpa using h)
  have HV := Lib.hid hv1
  have HL := Lib.hid hvl
  have HB := Lib.hid hB
  clear hva hvr hvl hv1 hB
  go_enter Try.func51, Try.ntmps51
  go_wp2_with (at_builtin; refine wpList_append_own2 rfl _ _ 69 rfl B 109 inf (.agg #[.string ⟨#[]⟩, .slice none 0 0]) 2 40 Try.underlying69 hj hy0 hy1 hy2 rfl (by decide) (.slice none 0 0) 0 [] rfl (World.ownsRow_nil _ _ _ _) ⟨vb, 0, none⟩ 1 vc vs rfl HL.out HC.out HV.out (by unfold maxLen; omega) (by omega) HB.out ?_; intro v9 w9 hown9 hg9 hk9; have HN := Lib.hid (insTo_end (n := 0) rfl hown9 hg9 hk9); clear hown9 hg9 hk9)
  go_ret
  exact HN.out

set_option maxHeartbeats 4000000 in
theorem insert_end (B g n cap vb vc : Nat) (xs vs : List Value) (w : World) (hn : n ≤ 100000) (hown : w.ownsRow B 109 2 (.slice (some ⟨g, 0, none⟩) n cap) n xs) (hvr : w.heap[vb]? = some (.cells vs.toArray 109 (0, 0))) (hvl : vs.length = 2) (hv1 : ∀ u ∈ vs, u.oneCell' = true) (hB : B ≤ w.heap.size) :
    Calls Try.prog 51 #[.slice (some ⟨g, 0, none⟩) n cap, .int .i64 (n : Int), .slice (some ⟨vb, 0, none⟩) 1 vc] w (InsTo B n n (.slice (some ⟨g, 0, none⟩) n cap) xs vs w) := by
  obtain ⟨inf, hj, hy0, hy1, hy2⟩ := info_parts entInfoP
  have hva : ∀ (k : Nat), (⟨vb, 0, none⟩ : Addr).add k = ⟨vb, k, none⟩ := fun k => by unfold Addr.add; split <;> simp_all
  have HC := Lib.hid (show ∀ j u, vs[j]? = some u → w.cell? ((⟨vb, 0, none⟩ : Addr).add j) = some u from fun j u h => by rw [hva, cell_of_row _ _ _ _ _ _ hvr]; simpa using h)
  have HV := Lib.hid hv1
  have HL := Lib.hid hvl
  have HB := Lib.hid hB
  have HO := Lib.hid hown
  have hnc : n ≤ cap := by
    rcases hown.2 with ⟨h', _⟩ | ⟨g', cap', cur, h', hbg, hg, hnc, _⟩
    · cases h'
    · injection h' with _ _ h'; omega
  have hncz : (n : Int) ≤ (cap : Int) := by omega
  have HM := Lib.hid (show n + 1 ≤ maxLen by unfold maxLen; omega)
  have HM2 := Lib.hid (show (n + 1) * 40 ≤ 140737488355328 by omega)
  have HXL := Lib.hid (show xs.length = n * 2 from hown.1)
  clear hva hvr hvl hv1 hB hown hn
  go_enter Try.func51, Try.ntmps51
  go_wp2_with (at_builtin; refine wpList_append_own2 rfl _ _ 69 rfl B 109 inf (.agg #[.string ⟨#[]⟩, .slice none 0 0]) 2 40 Try.underlying69 hj hy0 hy1 hy2 rfl (by decide) (.slice (some ⟨g, 0, none⟩) n cap) n xs rfl HO.out ⟨vb, 0, none⟩ 1 vc vs rfl HL.out HC.out HV.out HM.out HM2.out HB.out ?_; intro v9 w9 hown9 hg9 hk9; have HN := Lib.hid (insTo_end HXL.out hown9 hg9 hk9); clear hown9 hg9 hk9)
  all_goals
    go_ret
    exact HN.out

theorem insert_any (B i n c vb vc : Nat) (a : Option Addr) (xs vs : List Value) (w : World) (hi : i ≤ n) (hn : n ≤ 100000) (hown : w.ownsRow B 109 2 (.slice a n c) n xs) (hx1 : ∀ u ∈ xs, u.oneCell' = true)
    (hvb : (Value.slice a n c).ownBlock ≠ some vb) (hvr : w.heap[vb]? = some (.cells vs.toArray 109 (0, 0))) (hvl : vs.length = 2) (hv1 : ∀ u ∈ vs, u.oneCell' = true) (hB : B ≤ w.heap.size) :
    Calls Try.prog 51 #[.slice a n c, .int .i64 (i : Int), .slice (some ⟨vb, 0, none⟩) 1 vc] w (InsTo B i n (.slice a n c) xs vs w) := by
  rcases id hown.2 with ⟨h', h0⟩ | ⟨g, cap, cur, h', hbg, hg, hnc, _⟩
  · cases h'
    obtain rfl : i = 0 := by omega
    have hx : xs = [] := List.eq_nil_of_length_eq_zero (by simpa using hown.1)
    subst hx
    exact insert_nil B vb vc vs w hvr hvl hv1 hB
  · cases h'
    rcases Nat.lt_or_ge i n with h1 | h1
    · rcases Nat.lt_or_ge c (n + 1) with h2 | h2
      · refine (insert_grow B g n c i vb vc xs vs w h1 hn h2 hown hx1 hvr hvl hv1 hB).mono fun e w' ⟨c', he, ho, hb⟩ => ⟨_, c', he, ho, grown_of_below hb, fun k hk => .inr ?_⟩
        injection hk with hk
        exact Nat.le_of_eq hk
      · refine (insert_shift B g n c i vb vc xs vs w h1 hn h2 hown hx1 (fun e => hvb (by rw [e]; rfl)) hvr hvl hv1).mono fun e w' ⟨he, ho, hb⟩ => ⟨_, c, he, ho, hb, fun k hk => .inl hk⟩
    · obtain rfl : i = n := by omega
      exact insert_end B g i c vb vc xs vs w hn hown hvr hvl hv1 hB
end Go.Proofs.Ythcomfcbdlobpaa
