/-
  Joined: NsApp, CrdTell.
-/
import Derived.Test.YtdldplhfpianhaaSet07
import Derived.Test.YtdldplhfpianhaaSet05
import Derived.BigQuiet
import Derived.Shelf.Abstract
namespace Go.Proofs.Ytdldplhfpianhaa
open Go.RowKit
set_option linter.unusedVariables false
set_option linter.unnecessarySimpa false
set_option linter.unusedSimpArgs false
set_option maxRecDepth 100000

/-- A row of the call's own, from block B on, that begins with the cells of these versions; 'tight': it has no room. -/
def NRow (B : Nat) (tight : Bool) (L : List Nat) (v : Value) (w : World) : Prop :=
  ∃ h cap cur, v = .slice (some ⟨h, 0, none⟩) L.length cap ∧ B ≤ h ∧ w.heap[h]? = some (.cells cur 3 (0, 0)) ∧ cur.size = cap * 1 ∧ L.length ≤ cap ∧ cap ≤ maxLen ∧ cur.toList.take (L.length * 1) = nsCells L ∧ (tight = true → cap = L.length)
section
variable {B : Nat} {tight : Bool} {L M : List Nat} {v : Value} {w w' : World}
theorem NRow.below (h : NRow B tight L v w) (hb : Below w.heap.size w w') : NRow B tight L v w' := by
  obtain ⟨g, cap, cur, h1, h2, h3, h4⟩ := h
  exact ⟨g, cap, cur, h1, h2, (hb.block g (Array.getElem?_eq_some_iff.1 h3).1).trans h3, h4⟩
theorem NRow.own (h : NRow B tight L v w) : w.ownsRow B 3 1 v L.length (nsCells L) := by
  obtain ⟨g, cap, cur, h1, h2, h3, h4, h5, h6, h7, _⟩ := h
  exact ⟨nsCells_len L, .inr ⟨g, cap, cur, h1, h2, h3, h5, h6, h4, h7⟩⟩
end

theorem nsInfo2 : (Try.prog.info? 3).map (fun i => (i.zero.map (fun z => z.cells.size), i.size, i.bytes)) = some (some 1, 1, 8) := by kernel_rfl
theorem nsJ : ∃ i z, Try.prog.info? 3 = some i ∧ i.zero = some z ∧ z.cells.size = 1 ∧ i.size = 1 ∧ i.bytes = 8 := by
  have h := nsInfo2
  cases hq : Try.prog.info? 3 with
  | none => rw [hq] at h; simp at h
  | some i =>
    rw [hq] at h
    simp only [Option.map_some, Option.some.injEq, Prod.mk.injEq] at h
    obtain ⟨h1, h2, h3⟩ := h
    cases hz : i.zero with
    | none => rw [hz] at h1; simp at h1
    | some z => rw [hz] at h1; exact ⟨i, z, rfl, hz, by simpa using h1, h2, h3⟩

theorem nzcells_size {i : TypeInfo} (z : Value) (n : Nat) (hz : z.cells.size = 1) : (Builtin.zeroCells z.cells n).size = n * 1 := by rw [size_zeroCells, hz]

/-- 'append([]Item{}, l...)'. -/
theorem napp_first {B : Nat} (w : World) (v : Value) (a : Option Addr) (len cap : Nat) (L : List Nat) (h : NRow B true [] v w) (hz : IsNs w a len L) (hl : len ≤ 100000) (ha : len = 0 → a = none → cap = 0) (hB : B ≤ w.heap.size) :
    ∃ v' w', (Builtin.append_ #[38, 38] 38 #[v, .slice a len cap]).run Try.prog w = .ok v' w' ∧ Below w.heap.size w w' ∧ NRow B (L.length == 0) L v' w' := by
  obtain ⟨i, z, hi, hz0, hz1, hz2, hz3⟩ := nsJ
  have hlen := hz.1
  by_cases h0 : len = 0
  · subst h0
    have hL : L = [] := List.eq_nil_of_length_eq_zero hlen
    subst hL
    cases a with
    | none =>
      rw [ha rfl rfl]
      exact ⟨v, w, run_append_owned_none (P := Try.prog) (w := w) B _ _ _ i 1 Try.underlying38 hi v 0 (nsCells []) h.own, Below.refl _ _, h⟩
    | some ad =>
      obtain ⟨g, c, cur, rfl, h2, h3, h4, h5, h6, h7, h8⟩ := h
      have hr := run_append_room (P := Try.prog) w 38 38 3 i Try.underlying38 hi g 0 c cur h3 ad 0 cap [] (by simp) (by simp) (by simp) (by omega) (by simp)
      have hself : (cur.toList.take (0 * i.size) ++ [] ++ cur.toList.drop (0 * i.size + ([] : List Value).length)).toArray = cur := by simp
      rw [hself, setRow_self w g cur _ _ h3] at hr
      exact ⟨_, w, hr, Below.refl _ _, g, c, cur, rfl, h2, h3, h4, h5, h6, h7, fun _ => h8 rfl⟩
  · have hL : ¬ L.length = 0 := by omega
    obtain ⟨b, off, rfl, _⟩ := hz.2.2 0 (by omega)
    have hzn := hz.news L 0 (fun i hi => ⟨by omega, by simp⟩)
    rw [Nat.zero_mul, Nat.add_zero] at hzn
    obtain ⟨g, c, cur, rfl, h2, h3, h4, h5, h6, h7, h8⟩ := h
    have hc0 : c = 0 := h8 rfl
    subst hc0
    have hr := run_append_grow (P := Try.prog) w 38 38 3 i z Try.underlying38 hi hz0 ⟨g, 0, none⟩ 0 0 [] (by simp) (by simp) ⟨b, off, none⟩ len cap (nsCells L) (by rw [nsCells_len, hz2, hlen]) hzn (by omega) (by omega) (growslice_fits (by omega) (by rw [hz3]; omega))
    have hge := grownCap_ge w (0 + len) 0 3
    have hcm := grownCap_le_maxLen w (0 + len) 0 3 (by unfold maxLen; omega)
    refine ⟨_, _, hr, ?_, w.heap.size, _, _, by rw [hlen, Nat.zero_add], hB, heap_alloc_new w.drew _, ?_, ?_, hcm, ?_, ?_⟩
    · exact ((Below.refl _ _).drew).alloc (Nat.le_refl _) _
    · simp only [Array.size_append, List.size_toArray, size_zeroCells, hz1, nsCells_len, List.length_nil]
      omega
    · omega
    · simp only [Array.toList_append, List.nil_append, List.append_assoc]
      rw [← nsCells_len L]
      exact List.take_left
    · intro e; simp at e; subst e; simp at hL

/-- What worlds keep while a region makes a row. -/
structure NKeep (B : Nat) (L : List Nat) (m : Nat) (w w' : World) : Prop where
  os : w'.os = w.os
  tape : w'.tape = w.tape
  output : w'.output = w.output
  size : w.heap.size ≤ w'.heap.size
  block : ∀ k, k < B → w'.heap[k]? = w.heap[k]?
  k0 : ∀ v, NRow B true [] v w → NRow B true [] v w'
  k1 : ∀ v, NRow B true [m] v w → NRow B true [m] v w'
  k2 : ∀ v, NRow B (L.length == 0) L v w → NRow B (L.length == 0) L v w'
  k3 : ∀ v, NRow B false (L ++ [m]) v w → NRow B false (L ++ [m]) v w'
section
variable {B : Nat} {L : List Nat} {m : Nat} {w w' w2 : World}
theorem NKeep.of (hB : B ≤ w.heap.size) (hb : Below w.heap.size w w') : NKeep B L m w w' :=
  ⟨hb.os, hb.tape, hb.output, hb.size, fun k hk => hb.block k (by omega), fun _ h => h.below hb, fun _ h => h.below hb, fun _ h => h.below hb, fun _ h => h.below hb⟩
theorem NKeep.trans (h : NKeep B L m w w') (g : NKeep B L m w' w2) : NKeep B L m w w2 :=
  ⟨g.os.trans h.os, g.tape.trans h.tape, g.output.trans h.output, Nat.le_trans h.size g.size, fun k hk => (g.block k hk).trans (h.block k hk), fun v x => g.k0 v (h.k0 v x), fun v x => g.k1 v (h.k1 v x), fun v x => g.k2 v (h.k2 v x), fun v x => g.k3 v (h.k3 v x)⟩
theorem NKeep.below (hB : B ≤ w.heap.size) (h : NKeep B L m w w') : Below B w w' := ⟨h.os, h.tape, h.output, h.size, h.block⟩
end

/-- 'append(row, item)'. -/
theorem napp_second {B : Nat} (w : World) (v u : Value) (L : List Nat) (m : Nat) (h : NRow B (L.length == 0) L v w) (hu : NRow B true [m] u w) (hl : L.length ≤ 100000) (hB : B ≤ w.heap.size) :
    ∃ v' w', (Builtin.append_ #[38, 38] 38 #[v, u]).run Try.prog w = .ok v' w' ∧ NKeep B L m w w' ∧ NRow B false (L ++ [m]) v' w' := by
  obtain ⟨i, z, hi, hz0, hz1, hz2, hz3⟩ := nsJ
  have hown := h.own
  have houn := hu.own
  obtain ⟨gu, cu, curu, rfl, u2, u3, u4, u5, u6, u7, u8⟩ := hu
  obtain ⟨g, c, cur, rfl, h2, h3, h4, h5, h6, h7, h8⟩ := h
  have hnews : ∀ j x, (nsCells [m])[j]? = some x → w.cell? ((⟨gu, 0, none⟩ : Addr).add j) = some x := houn.cells rfl
  have hnl : (nsCells [m]).length = 1 * i.size := by rw [nsCells_len, hz2]; rfl
  by_cases hroom : L.length + 1 ≤ c
  · have hpos : 0 < L.length := by
      by_cases e : L.length = 0
      · have := h8 (by rw [e]; rfl); omega
      · omega
    have hr := run_append_room (P := Try.prog) w 38 38 3 i Try.underlying38 hi g L.length c cur h3 ⟨gu, 0, none⟩ 1 cu (nsCells [m]) hnl hnews (nsCells_one _) hroom (by rw [hnl, hz2]; omega)
    rw [hz2, nsCells_len] at hr
    have hcl : cur.toList.length = cur.size := Array.length_toList
    obtain ⟨N, hN⟩ : ∃ N, N = (cur.toList.take (L.length * 1) ++ nsCells [m] ++ cur.toList.drop (L.length * 1 + [m].length * 1)).toArray := ⟨_, rfl⟩
    rw [← hN] at hr
    have hNs : N.size = cur.size := by
      rw [hN, List.size_toArray, List.length_append, List.length_append, List.length_take, List.length_drop, nsCells_len, hcl]
      simp only [List.length_cons, List.length_nil]
      omega
    have hN4 : ∀ k, k ≤ L.length * 1 → N.toList.take k = cur.toList.take k := fun k hk => by
      rw [hN]
      simp only [List.append_assoc]
      rw [List.take_append_of_le_length (by rw [List.length_take, hcl]; omega), List.take_take, Nat.min_eq_left hk]
    have hN5 : N.toList.take ((L ++ [m]).length * 1) = nsCells (L ++ [m]) := by
      rw [hN, h7, ← nsCells_app, List.length_append, ← List.length_append, ← nsCells_len]
      exact List.take_left
    have hset := setRow_heap w g cur N _ _ h3
    have kp : ∀ (t : Bool) (M : List Nat) (x : Value), M.length ≤ L.length → NRow B t M x w → NRow B t M x (w.setRow g N) := fun t M x hM hx => by
      obtain ⟨g', c', cur', e1, e2, e3, e4, e5, e6, e7, e8⟩ := hx
      by_cases hg : g' = g
      · subst hg
        rw [h3] at e3
        injection e3 with e3
        injection e3 with e3 _ _
        subst e3
        exact ⟨g', c', N, e1, e2, hset, by rw [hNs]; exact e4, e5, e6, by rw [hN4 _ (Nat.mul_le_mul_right 1 hM)]; exact e7, e8⟩
      · exact ⟨g', c', cur', e1, e2, by rw [setRow_other _ _ _ _ hg]; exact e3, e4, e5, e6, e7, e8⟩
    have kp3 : ∀ x, NRow B false (L ++ [m]) x w → NRow B false (L ++ [m]) x (w.setRow g N) := fun x hx => by
      obtain ⟨g', c', cur', e1, e2, e3, e4, e5, e6, e7, e8⟩ := hx
      by_cases hg : g' = g
      · subst hg
        rw [h3] at e3
        injection e3 with e3
        injection e3 with e3 _ _
        subst e3
        exact ⟨g', c', N, e1, e2, hset, by rw [hNs]; exact e4, e5, e6, hN5, e8⟩
      · exact ⟨g', c', cur', e1, e2, by rw [setRow_other _ _ _ _ hg]; exact e3, e4, e5, e6, e7, e8⟩
    refine ⟨_, _, hr, ⟨rfl, rfl, rfl, by simp, fun k hk => setRow_other _ _ _ _ (by omega), fun x => kp _ _ x (by simp), fun x => kp _ _ x (by simp only [List.length_cons, List.length_nil]; omega), fun x => kp _ _ x (Nat.le_refl _), kp3⟩, ?_⟩
    exact ⟨g, c, N, by simp, h2, hset, by rw [hNs]; exact h4, by simpa using hroom, h6, hN5, fun e => by cases e⟩
  · have hr := run_append_grow (P := Try.prog) w 38 38 3 i z Try.underlying38 hi hz0 ⟨g, 0, none⟩ L.length c (nsCells L) (by rw [nsCells_len, hz2]) (hown.cells rfl) ⟨gu, 0, none⟩ 1 cu (nsCells [m]) hnl hnews (by omega) (by omega) (growslice_fits (by omega) (by rw [hz3]; omega))
    have hge := grownCap_ge w (L.length + 1) c 3
    have hcm := grownCap_le_maxLen w (L.length + 1) c 3 (by unfold maxLen; omega)
    have hb : Below w.heap.size w (w.drew.alloc (.cells ((nsCells L).toArray ++ (nsCells [m]).toArray ++ Builtin.zeroCells z.cells (grownCap w (L.length + 1) c 3 - (L.length + 1))) 3)) := ((Below.refl _ _).drew).alloc (Nat.le_refl _) _
    refine ⟨_, _, hr, NKeep.of hB hb, w.heap.size, _, _, by simp, hB, heap_alloc_new w.drew _, ?_, by simpa using hge, hcm, ?_, fun e => by cases e⟩
    · simp only [Array.size_append, List.size_toArray, size_zeroCells, hz1, nsCells_len, List.length_cons, List.length_nil]
      omega
    · simp only [Array.toList_append]
      rw [← nsCells_app, ← nsCells_len]
      exact List.take_left
theorem nrun_bs0 (w : World) : (Instr.buildSlice 38 0 #[]).run Try.prog w = .ok (.slice (some ⟨w.heap.size, 0, none⟩) 0 0) (w.alloc (.cells #[] 3)) := by
  obtain ⟨i, z, hi, hz0, hz1, hz2, hz3⟩ := nsJ
  unfold Instr.buildSlice
  have hr : Array.range 0 = #[] := rfl
  simp [run_underlying Try.underlying38, sizeOf, typeInfo, zeroValue, hi, hz2, Instr.fill, newRow, Sem.run_bind, hr]
theorem nwp_bs0 {op : Oper} {a : Act} {w : World} {K : Act → World → Prop} {Q : Exit → Act → World → Prop} (ho : op.op = .buildSlice 38 0 #[])
    (h : K (a.put op.dst (.slice (some ⟨w.heap.size, 0, none⟩) 0 0)) (w.alloc (.cells #[] 3))) : op.wp Try.prog a w K Q := by
  unfold Oper.wp execOp
  simp [ho, nrun_bs0 w, Oper.upon]
  exact h
theorem nrun_bs1 (w : World) (m : Nat) : (Instr.buildSlice 38 1 #[(0, .int .i64 (m : Int))]).run Try.prog w = .ok (.slice (some ⟨w.heap.size, 0, none⟩) 1 1) (w.alloc (.cells #[.int .i64 (m : Int)] 3)) := by
  obtain ⟨i, z, hi, hz0, hz1, hz2, hz3⟩ := nsJ
  unfold Instr.buildSlice
  have hr : Array.range 1 = #[0] := rfl
  simp [run_underlying Try.underlying38, sizeOf, typeInfo, zeroValue, hi, hz0, hz1, hz2, Instr.fill, newRow, Sem.run_bind, hr, Value.cells]
theorem nwp_bs1 {op : Oper} {a : Act} {w : World} {K : Act → World → Prop} {Q : Exit → Act → World → Prop} (x : Operand) (m : Nat) (ho : op.op = .buildSlice 38 1 #[(0, x)]) (hx : a.eval x = .int .i64 (m : Int))
    (h : K (a.put op.dst (.slice (some ⟨w.heap.size, 0, none⟩) 1 1)) (w.alloc (.cells #[.int .i64 (m : Int)] 3))) : op.wp Try.prog a w K Q := by
  unfold Oper.wp execOp
  simp [ho, hx, nrun_bs1 w m, Oper.upon]
  exact h

theorem NKeep.refl {B : Nat} {L : List Nat} {m : Nat} {w : World} : NKeep B L m w w :=
  ⟨rfl, rfl, rfl, Nat.le_refl _, fun _ _ => rfl, fun _ h => h, fun _ h => h, fun _ h => h, fun _ h => h⟩
theorem nrow_empty {B : Nat} (w : World) (hB : B ≤ w.heap.size) : NRow B true [] (.slice (some ⟨w.heap.size, 0, none⟩) 0 0) (w.alloc (.cells #[] 3)) :=
  ⟨w.heap.size, 0, #[], rfl, hB, heap_alloc_new w _, rfl, Nat.le_refl _, Nat.zero_le _, rfl, fun _ => rfl⟩
theorem nrow_one {B : Nat} (w : World) (m : Nat) (hB : B ≤ w.heap.size) : NRow B true [m] (.slice (some ⟨w.heap.size, 0, none⟩) 1 1) (w.alloc (.cells #[.int .i64 (m : Int)] 3)) :=
  ⟨w.heap.size, 1, #[.int .i64 (m : Int)], rfl, hB, heap_alloc_new w _, rfl, Nat.le_refl _, by unfold maxLen; omega, rfl, fun _ => rfl⟩
theorem nwp_app {op : Oper} {a : Act} {w : World} {K : Act → World → Prop} {Q : Exit → Act → World → Prop} (x y : Operand) (ho : op.op = .call { callee := .builtin .append, args := #[x, y], argTypes := #[38, 38] })
    (hty : op.type = 38) (u v v' : Value) (w' : World) (hx : a.eval x = u) (hy : a.eval y = v)
    (hr : (Builtin.append_ #[38, 38] 38 #[u, v]).run Try.prog w = .ok v' w') (h : K (a.put op.dst v') w') : op.wp Try.prog a w K Q := by
  unfold Oper.wp execOp
  simp only [ho, hty, resolve, invoke, builtin, Sem.run_bind, Sem.run_pure, Result.andThen_ok, List.map_toArray, List.map_cons, List.map_nil, hx, hy, hr]
  exact h
end Go.Proofs.Ytdldplhfpianhaa

namespace Go.Proofs.Ytdldplhfpianhaa
open Go.RowKit Go.Shelf
set_option linter.unusedVariables false
set_option linter.unnecessarySimpa false
set_option linter.unusedSimpArgs false
set_option maxRecDepth 100000

theorem cellsA2 {W : World} {B : Nat} {x y : Value} {t : TypeId} (h : W.heap[B]? = some (.cells #[x, y] t (0, 0))) : W.cell? ⟨B, 0, none⟩ = some x ∧ W.cell? ⟨B, 1, none⟩ = some y := by
  constructor <;> (rw [cell_of_row _ _ _ _ _ _ h]; rfl)
theorem cellsA3 {W : World} {B : Nat} {x y z : Value} {t : TypeId} (h : W.heap[B]? = some (.cells #[x, y, z] t (0, 0))) : W.cell? ⟨B, 0, none⟩ = some x ∧ W.cell? ⟨B, 1, none⟩ = some y ∧ W.cell? ⟨B, 2, none⟩ = some z := by
  refine ⟨?_, ?_, ?_⟩ <;> (rw [cell_of_row _ _ _ _ _ _ h]; rfl)
/-- The law's owners. -/
def ownF (n : Nat) : Nat := if n = 1 then 24 else if n = 2 then 25 else if n = 3 then 26 else if n = 4 then 27 else 28
theorem ownF_own (n : Nat) (h1 : 1 ≤ n) (h5 : n ≤ 5) : (∀ args w, (callFunc (ownF n) args).run Try.prog w = .ok (.enter (ownF n) args) w) ∧ ∀ key W, Calls Try.prog (ownF n) #[.string key] W fun e w' => e = .returned (.int .i64 ((ownN key n : Nat) : Int)) ∧ W = w' := by
  have hc : n = 1 ∨ n = 2 ∨ n = 3 ∨ n = 4 ∨ n = 5 := by omega
  rcases hc with rfl | rfl | rfl | rfl | rfl
  · exact ⟨enters_of Try.func24 (by kernel_rfl) rfl, crd_one⟩
  · exact ⟨enters_of Try.func25 (by kernel_rfl) rfl, crd_two⟩
  · exact ⟨enters_of Try.func26 (by kernel_rfl) rfl, crd_three⟩
  · exact ⟨enters_of Try.func27 (by kernel_rfl) rfl, crd_four⟩
  · exact ⟨enters_of Try.func28 (by kernel_rfl) rfl, crd_five⟩
/-- What made tells. -/
def MadeOut (C : CrdC) (w : World) (t : Tn) (p : Pg) (n : Nat) (e : Ending) (w' : World) : Prop :=
  (mayC p = 0 ∧ ∃ r, e = .returned (.tuple #[.pointer (some r), .int .i64 0]) ∧ CSt C w w.heap.size (fun _ => False) r ⟨p.R, p.W, n⟩ t rn0 w') ∨ (mayC p ≠ 0 ∧ e = .returned (.tuple #[.pointer none, .int .i64 (mayC p)]) ∧ Below w.heap.size w w')
set_option maxHeartbeats 4000000 in
theorem made_any (C : CrdC) (t : Tn) (p : Pg) (n : Nat) (w : World) (ht : t.ok) (hp : PgOk w p) (hr : p.rn ≤ 1000) (hw : p.wn ≤ 1000) (h1 : 1 ≤ n) (h5 : n ≤ 5) :
    Calls Try.prog 7 #[.agg t.cells, .agg p.cells, .int .i64 (n : Int)] w (MadeOut C w t p n) := by
  obtain ⟨eg, how⟩ := ownF_own n h1 h5
  have hb0 := ((Below.refl w.heap.size w).alloc (Nat.le_refl _) (.cells t.cells 30)).alloc (by simp) (.cells p.cells 25)
  have hA0 := heap_alloc_new w (.cells t.cells 30)
  obtain ⟨u1, hu1⟩ : ∃ u1, u1 = w.alloc (.cells t.cells 30) := ⟨_, rfl⟩
  rw [← hu1] at hb0 hA0
  have hs1 : u1.heap.size = w.heap.size + 1 := by rw [hu1]; simp
  have hB0 := heap_alloc_new u1 (.cells p.cells 25)
  have hA1 := (Below.heap_alloc u1 (.cells p.cells 25) _ (by omega)).trans hA0
  obtain ⟨w1, hw1⟩ : ∃ w1, w1 = u1.alloc (.cells p.cells 25) := ⟨_, rfl⟩
  rw [← hw1] at hb0 hB0 hA1
  rw [hs1] at hB0
  obtain ⟨A, hA⟩ : ∃ A, A = w.heap.size := ⟨_, rfl⟩
  rw [← hA] at hA1 hB0 hs1
  obtain ⟨q0, q1, q2⟩ := cellsA3 hA1
  obtain ⟨y0, y1⟩ := cellsA2 hB0
  have HNE : Hid (Calls Try.prog 23 #[.agg t.cells, .agg p.cells, .func (.func (ownF n)) #[] #[]] w1 fun e w' => ∃ v k, e = .returned (.tuple #[v, .int .i64 k]) ∧ Hid (MadeOut C w t p n (.returned (.tuple #[v, .int .i64 k])) w')) := Lib.hid (by
    by_cases hm : mayC p = 0
    · exact (C.newYes w1 t p n (ownF n) ht (hp.below hb0) hr hw h1 h5 eg how hm).mono fun e w' ⟨r, O, he, h2, h3⟩ => ⟨_, _, he, Lib.hid (.inl ⟨hm, r, rfl, O, h2, fun k hk => ⟨(h3.own k hk).elim False.elim (fun h => Nat.le_trans hb0.size h), fun h => h⟩, hb0.trans ((h3.below (fun k hk => hk.elim) (Nat.le_refl _)).mono hb0.size), Nat.le_trans hb0.size h3.size, fun k hk => hk.elim⟩)⟩
    · exact (C.newNo w1 t p n (ownF n) ht (hp.below hb0) hr hw h1 h5 eg how hm).mono fun e w' ⟨he, h2⟩ => ⟨_, _, he, Lib.hid (.inr ⟨hm, rfl, hb0.trans (h2.mono hb0.size)⟩)⟩)
  have hc : n = 1 ∨ n = 2 ∨ n = 3 ∨ n = 4 ∨ n = 5 := by omega
  obtain ⟨ra, rn, rc, R, wa, wn, wc, Ws⟩ := p
  unfold Pg.cells at *
  simp only at *
  clear hb0 hA0 hB0 hA1 eg how hp h1 h5
  unfold Tn.cells at *
  go_enter Try.func7, Try.ntmps7
  go_upto_region 1 with fail
  rw [← hA, ← hu1, ← hw1]
  clear hA hu1 hw1 hs1
  rcases hc with rfl | rfl | rfl | rfl | rfl
  all_goals
    first
      | rw [show ownF 1 = 24 from rfl] at HNE
      | rw [show ownF 2 = 25 from rfl] at HNE
      | rw [show ownF 3 = 26 from rfl] at HNE
      | rw [show ownF 4 = 27 from rfl] at HNE
      | rw [show ownF 5 = 28 from rfl] at HNE
    go_wp2_with (go_at_call 23; refine HNE.out.mono ?_; rintro e w2 ⟨v, k, rfl, ho⟩)
    go_ret2
    exact ho.out
set_option maxHeartbeats 2000000 in
theorem cawake_any (C : CrdC) (w : World) : Calls Try.prog 5 #[] w fun e w' => e = .returned (.bool true) ∧ Below w.heap.size w w' := by
  have hp0 : PgOk w ⟨none, 0, 0, [], none, 0, 0, []⟩ := ⟨⟨rfl, (by decide : (0 : Nat) ≤ maxLen), fun i hi => absurd (show i < 0 from hi) (by omega)⟩, ⟨rfl, (by decide : (0 : Nat) ≤ maxLen), (by decide : (0 : Nat) ≤ 0), fun i hi => absurd (show i < 0 from hi) (by omega)⟩⟩
  have hm0 : mayC ⟨none, 0, 0, [], none, 0, 0, []⟩ = 0 := by decide
  have HM := Lib.hid (show Calls Try.prog 7 #[.agg #[.int .i64 0, .int .i64 0, .int .i64 0], .agg #[.slice none 0 0, .slice none 0 0], .int .i64 1] w fun e w' => ∃ r, e = .returned (.tuple #[.pointer (some r), .int .i64 0]) ∧ Hid (CSt C w w.heap.size (fun _ => False) r ⟨[], [], 1⟩ ⟨0, 0, 0⟩ rn0 w') from
    (made_any C ⟨0, 0, 0⟩ ⟨none, 0, 0, [], none, 0, 0, []⟩ 1 w ⟨by decide, by decide, by decide⟩ hp0 (by decide) (by decide) (by decide) (by decide)).mono fun e w' h => by
      rcases h with ⟨_, r, h1, h2⟩ | ⟨h1, _⟩
      · exact ⟨r, h1, Lib.hid h2⟩
      · exact absurd hm0 h1)
  clear hp0 hm0
  go_enter Try.func5, Try.ntmps5
  go_wp2_with (first
    | (go_at_call 7; (with_reducible refine HM.out.mono ?_); rintro e w1 ⟨r, rfl, hs⟩; have HS := Lib.hid hs.out.stageC; clear hs)
    | (go_at_call 14; (with_reducible refine HS.out.mono ?_); rintro e w2 ⟨rfl, hs2, _⟩; have HB := Lib.hid hs2.below; clear hs2))
  go_ret
  exact ⟨rfl, HB.out⟩
/-- A call's cells. -/
def Cq.cells (o : Cq) : Array Value := #[.int .u8 (o.kind : Int), .int .u64 (o.time : Int), .string o.x.key, .bool o.x.found, .int .u64 (o.x.v.time : Int), .bool o.x.v.gone, .string o.x.v.val, .int .i64 o.node, .bool o.good]
def Cq.ok (o : Cq) : Prop := o.kind < 256 ∧ o.time < 18446744073709551616 ∧ o.x.ok ∧ (Lit.int .i64 o.node).wf = true
set_option maxHeartbeats 4000000 in
theorem tell_any {C : CrdC} {w0 w : World} {B : Nat} {far : Nat → Prop} {r : Addr} {p : Pn} {t : Tn} {x : Rn} (h : CSt C w0 B far r p t x w) (o : Cq) (ho : o.ok) :
    Calls Try.prog 10 #[.pointer (some r), .agg o.cells] w fun e w' => e = .returned (.tuple #[]) ∧ CSt C w0 B far r p t (tellR p x o) w' ∧ FarSame2 far w w' := by
  obtain ⟨hk, htm, hx, hnd⟩ := ho
  have hb0 := (Below.refl w.heap.size w).alloc (Nat.le_refl _) (.cells o.cells 47)
  have hr0 := heap_alloc_new w (.cells o.cells 47)
  obtain ⟨w1, hw1⟩ : ∃ w1, w1 = w.alloc (.cells o.cells 47) := ⟨_, rfl⟩
  rw [← hw1] at hb0 hr0
  obtain ⟨A, hA⟩ : ∃ A, A = w.heap.size := ⟨_, rfl⟩
  rw [← hA] at hr0
  have hc := fun j => cell_of_row w1 A j _ _ _ hr0
  have q0 := hc 0
  have q1 := hc 1
  have q2 := hc 2
  have q3 := hc 3
  have q4 := hc 4
  have q5 := hc 5
  have q6 := hc 6
  have q7 := hc 7
  have q8 := hc 8
  obtain ⟨h1, h2⟩ := h.later hb0
  have HF := Lib.hid (fun W (hf : FarSame2 far w1 W) => (show FarSame2 far w W from ⟨Nat.le_trans h2.1 hf.1, fun k hk => (hf.2 k hk).trans (h2.2 k hk)⟩))
  have H0 := Lib.hid (h1.startC o.time htm)
  have H1 := Lib.hid (h1.tookC o.x hx)
  have H2 := Lib.hid (h1.voteC o.node o.good hnd)
  have H3 := Lib.hid (h1.commitC o.time htm)
  have H4 := Lib.hid h1.abortC
  obtain ⟨N, hN⟩ : ∃ N, N = tellR p x o := ⟨_, rfl⟩
  rw [← hN]
  have HN := Lib.hid hN
  unfold tellR at HN
  have h5 : o.kind % 5 = 0 ∨ o.kind % 5 = 1 ∨ o.kind % 5 = 2 ∨ o.kind % 5 = 3 ∨ o.kind % 5 = 4 := by omega
  have hz : (o.kind : Int) % 5 = ((o.kind % 5 : Nat) : Int) := by omega
  obtain ⟨z, hzz⟩ : ∃ z, z = o.kind % 5 := ⟨_, rfl⟩
  rw [← hzz] at hz h5 HN
  obtain ⟨kind, time, ⟨xk, xf, ⟨vt, vg, vv⟩⟩, node, good⟩ := o
  unfold Cq.cells Rd.cells at *
  simp only [List.getElem?_toArray, List.getElem?_cons_zero, List.getElem?_cons_succ] at *
  clear h h1 h2 hb0 hr0 hc hN hzz htm hx hnd
  go_enter Try.func10, Try.ntmps10
  go_upto_region 1 with fail
  rw [← hw1, ← hA]
  clear hw1 hA
  go_upto_region 3 with fail
  rw [hz]
  clear hz
  rcases h5 with rfl | rfl | rfl | rfl | rfl
  · obtain rfl : N = _ := HN.out
    clear HN H1 H2 H3 H4
    go_wp2_with (go_at_call 29; (with_reducible refine H0.out.mono ?_); rintro e w2 ⟨rfl, h2, hf2⟩; have HS := Lib.hid (And.intro h2 (HF.out _ hf2)); clear h2 hf2)
    go_end0
    exact ⟨rfl, HS.out⟩
  · obtain rfl : N = _ := HN.out
    clear HN H0 H2 H3 H4
    go_wp2_with (go_at_call 30; (with_reducible refine H1.out.mono ?_); rintro e w2 ⟨rfl, h2, hf2⟩; have HS := Lib.hid (And.intro h2 (HF.out _ hf2)); clear h2 hf2)
    go_end0
    exact ⟨rfl, HS.out⟩
  · obtain rfl : N = _ := HN.out
    clear HN H0 H1 H3 H4
    go_wp2_with (go_at_call 31; (with_reducible refine H2.out.mono ?_); rintro e w2 ⟨rfl, h2, hf2⟩; have HS := Lib.hid (And.intro h2 (HF.out _ hf2)); clear h2 hf2)
    go_end0
    exact ⟨rfl, HS.out⟩
  · obtain rfl : N = _ := HN.out
    clear HN H0 H1 H2 H4
    go_wp2_with (go_at_call 32; (with_reducible refine H3.out.mono ?_); rintro e w2 ⟨rfl, h2, hf2⟩; have HS := Lib.hid (And.intro h2 (HF.out _ hf2)); clear h2 hf2)
    go_end0
    exact ⟨rfl, HS.out⟩
  · obtain rfl : N = _ := HN.out
    clear HN H0 H1 H2 H3
    go_wp2_with (go_at_call 33; (with_reducible refine H4.out.mono ?_); rintro e w2 ⟨rfl, h2, hf2⟩; have HS := Lib.hid (And.intro h2 (HF.out _ hf2)); clear h2 hf2)
    go_end0
    exact ⟨rfl, HS.out⟩
end Go.Proofs.Ytdldplhfpianhaa
