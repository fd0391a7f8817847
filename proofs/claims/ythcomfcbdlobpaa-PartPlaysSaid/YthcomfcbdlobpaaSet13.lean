/-
  Joined: PrtApp, RegionS.
-/
import Derived.Test.YthcomfcbdlobpaaSet09
import Derived.Test.YthcomfcbdlobpaaSet07
namespace Go.Proofs.Ythcomfcbdlobpaa
open Go.RowKit
set_option linter.unusedVariables false
set_option linter.unnecessarySimpa false
set_option linter.unusedSimpArgs false
set_option maxRecDepth 100000

/-- A row of the call's own, from block B on, that begins with the cells of these versions; 'tight': it has no room. -/
def PRow (B : Nat) (tight : Bool) (L : List Pd) (v : Value) (w : World) : Prop :=
  ∃ h cap cur, v = .slice (some ⟨h, 0, none⟩) L.length cap ∧ B ≤ h ∧ w.heap[h]? = some (.cells cur 85 (0, 0)) ∧ cur.size = cap * 5 ∧ L.length ≤ cap ∧ cap ≤ maxLen ∧ cur.toList.take (L.length * 5) = pdCells L ∧ (tight = true → cap = L.length)
section
variable {B : Nat} {tight : Bool} {L M : List Pd} {v : Value} {w w' : World}
theorem PRow.below (h : PRow B tight L v w) (hb : Below w.heap.size w w') : PRow B tight L v w' := by
  obtain ⟨g, cap, cur, h1, h2, h3, h4⟩ := h
  exact ⟨g, cap, cur, h1, h2, (hb.block g (Array.getElem?_eq_some_iff.1 h3).1).trans h3, h4⟩
theorem PRow.own (h : PRow B tight L v w) : w.ownsRow B 85 5 v L.length (pdCells L) := by
  obtain ⟨g, cap, cur, h1, h2, h3, h4, h5, h6, h7, _⟩ := h
  exact ⟨pdCells_len L, .inr ⟨g, cap, cur, h1, h2, h3, h5, h6, h4, h7⟩⟩
end

theorem pdInfo2 : (Try.prog.info? 85).map (fun i => (i.zero.map (fun z => z.cells.size), i.size, i.bytes)) = some (some 5, 5, 56) := by kernel_rfl
theorem pdI : ∃ i z, Try.prog.info? 85 = some i ∧ i.zero = some z ∧ z.cells.size = 5 ∧ i.size = 5 ∧ i.bytes = 56 := by
  have h := pdInfo2
  cases hq : Try.prog.info? 85 with
  | none => rw [hq] at h; simp at h
  | some i =>
    rw [hq] at h
    simp only [Option.map_some, Option.some.injEq, Prod.mk.injEq] at h
    obtain ⟨h1, h2, h3⟩ := h
    cases hz : i.zero with
    | none => rw [hz] at h1; simp at h1
    | some z => rw [hz] at h1; exact ⟨i, z, rfl, hz, by simpa using h1, h2, h3⟩

theorem pzcells_size {i : TypeInfo} (z : Value) (n : Nat) (hz : z.cells.size = 5) : (Builtin.zeroCells z.cells n).size = n * 5 := by rw [size_zeroCells, hz]

/-- 'append([]Item{}, l...)'. -/
theorem papp_first {B : Nat} (w : World) (v : Value) (a : Option Addr) (len cap : Nat) (L : List Pd) (h : PRow B true [] v w) (hz : IsPds w a len cap L) (hl : len ≤ 100000) (ha : len = 0 → a = none → cap = 0) (hB : B ≤ w.heap.size) :
    ∃ v' w', (Builtin.append_ #[32, 32] 32 #[v, .slice a len cap]).run Try.prog w = .ok v' w' ∧ Below w.heap.size w w' ∧ PRow B (L.length == 0) L v' w' := by
  obtain ⟨i, z, hi, hz0, hz1, hz2, hz3⟩ := pdI
  have hlen := hz.1
  by_cases h0 : len = 0
  · subst h0
    have hL : L = [] := List.eq_nil_of_length_eq_zero hlen
    subst hL
    cases a with
    | none =>
      rw [ha rfl rfl]
      exact ⟨v, w, run_append_owned_none (P := Try.prog) (w := w) B _ _ _ i 5 Try.underlying32 hi v 0 (pdCells []) h.own, Below.refl _ _, h⟩
    | some ad =>
      obtain ⟨g, c, cur, rfl, h2, h3, h4, h5, h6, h7, h8⟩ := h
      have hr := run_append_room (P := Try.prog) w 32 32 85 i Try.underlying32 hi g 0 c cur h3 ad 0 cap [] (by simp) (by simp) (by simp) (by omega) (by simp)
      have hself : (cur.toList.take (0 * i.size) ++ [] ++ cur.toList.drop (0 * i.size + ([] : List Value).length)).toArray = cur := by simp
      rw [hself, setRow_self w g cur _ _ h3] at hr
      exact ⟨_, w, hr, Below.refl _ _, g, c, cur, rfl, h2, h3, h4, h5, h6, h7, fun _ => h8 rfl⟩
  · have hL : ¬ L.length = 0 := by omega
    obtain ⟨b, off, rfl, _⟩ := hz.2.2.2 0 (by omega)
    have hzn := hz.news L 0 (fun i hi => ⟨by omega, by simp⟩)
    rw [Nat.zero_mul, Nat.add_zero] at hzn
    obtain ⟨g, c, cur, rfl, h2, h3, h4, h5, h6, h7, h8⟩ := h
    have hc0 : c = 0 := h8 rfl
    subst hc0
    have hr := run_append_grow (P := Try.prog) w 32 32 85 i z Try.underlying32 hi hz0 ⟨g, 0, none⟩ 0 0 [] (by simp) (by simp) ⟨b, off, none⟩ len cap (pdCells L) (by rw [pdCells_len, hz2, hlen]) hzn (by omega) (by omega) (growslice_fits (by omega) (by rw [hz3]; omega))
    have hge := grownCap_ge w (0 + len) 0 85
    have hcm := grownCap_le_maxLen w (0 + len) 0 85 (by unfold maxLen; omega)
    refine ⟨_, _, hr, ?_, w.heap.size, _, _, by rw [hlen, Nat.zero_add], hB, heap_alloc_new w.drew _, ?_, ?_, hcm, ?_, ?_⟩
    · exact ((Below.refl _ _).drew).alloc (Nat.le_refl _) _
    · simp only [Array.size_append, List.size_toArray, size_zeroCells, hz1, pdCells_len, List.length_nil]
      omega
    · omega
    · simp only [Array.toList_append, List.nil_append, List.append_assoc]
      rw [← pdCells_len L]
      exact List.take_left
    · intro e; simp at e; subst e; simp at hL

/-- What worlds keep while a region makes a row. -/
structure PKeep (B : Nat) (L : List Pd) (m : Pd) (w w' : World) : Prop where
  os : w'.os = w.os
  tape : w'.tape = w.tape
  output : w'.output = w.output
  size : w.heap.size ≤ w'.heap.size
  block : ∀ k, k < B → w'.heap[k]? = w.heap[k]?
  k0 : ∀ v, PRow B true [] v w → PRow B true [] v w'
  k1 : ∀ v, PRow B true [m] v w → PRow B true [m] v w'
  k2 : ∀ v, PRow B (L.length == 0) L v w → PRow B (L.length == 0) L v w'
  k3 : ∀ v, PRow B false (L ++ [m]) v w → PRow B false (L ++ [m]) v w'
section
variable {B : Nat} {L : List Pd} {m : Pd} {w w' w2 : World}
theorem PKeep.of (hB : B ≤ w.heap.size) (hb : Below w.heap.size w w') : PKeep B L m w w' :=
  ⟨hb.os, hb.tape, hb.output, hb.size, fun k hk => hb.block k (by omega), fun _ h => h.below hb, fun _ h => h.below hb, fun _ h => h.below hb, fun _ h => h.below hb⟩
theorem PKeep.trans (h : PKeep B L m w w') (g : PKeep B L m w' w2) : PKeep B L m w w2 :=
  ⟨g.os.trans h.os, g.tape.trans h.tape, g.output.trans h.output, Nat.le_trans h.size g.size, fun k hk => (g.block k hk).trans (h.block k hk), fun v x => g.k0 v (h.k0 v x), fun v x => g.k1 v (h.k1 v x), fun v x => g.k2 v (h.k2 v x), fun v x => g.k3 v (h.k3 v x)⟩
theorem PKeep.below (hB : B ≤ w.heap.size) (h : PKeep B L m w w') : Below B w w' := ⟨h.os, h.tape, h.output, h.size, h.block⟩
end

/-- 'append(row, item)'. -/
theorem papp_second {B : Nat} (w : World) (v u : Value) (L : List Pd) (m : Pd) (h : PRow B (L.length == 0) L v w) (hu : PRow B true [m] u w) (hl : L.length ≤ 100000) (hB : B ≤ w.heap.size) :
    ∃ v' w', (Builtin.append_ #[32, 32] 32 #[v, u]).run Try.prog w = .ok v' w' ∧ PKeep B L m w w' ∧ PRow B false (L ++ [m]) v' w' := by
  obtain ⟨i, z, hi, hz0, hz1, hz2, hz3⟩ := pdI
  have hown := h.own
  have houn := hu.own
  obtain ⟨gu, cu, curu, rfl, u2, u3, u4, u5, u6, u7, u8⟩ := hu
  obtain ⟨g, c, cur, rfl, h2, h3, h4, h5, h6, h7, h8⟩ := h
  have hnews : ∀ j x, (pdCells [m])[j]? = some x → w.cell? ((⟨gu, 0, none⟩ : Addr).add j) = some x := houn.cells rfl
  have hnl : (pdCells [m]).length = 1 * i.size := by rw [pdCells_len, hz2]; rfl
  by_cases hroom : L.length + 1 ≤ c
  · have hpos : 0 < L.length := by
      by_cases e : L.length = 0
      · have := h8 (by rw [e]; rfl); omega
      · omega
    have hr := run_append_room (P := Try.prog) w 32 32 85 i Try.underlying32 hi g L.length c cur h3 ⟨gu, 0, none⟩ 1 cu (pdCells [m]) hnl hnews (pdCells_one _) hroom (by rw [hnl, hz2]; omega)
    rw [hz2, pdCells_len] at hr
    have hcl : cur.toList.length = cur.size := Array.length_toList
    obtain ⟨N, hN⟩ : ∃ N, N = (cur.toList.take (L.length * 5) ++ pdCells [m] ++ cur.toList.drop (L.length * 5 + [m].length * 5)).toArray := ⟨_, rfl⟩
    rw [← hN] at hr
    have hNs : N.size = cur.size := by
      rw [hN, List.size_toArray, List.length_append, List.length_append, List.length_take, List.length_drop, pdCells_len, hcl]
      simp only [List.length_cons, List.length_nil]
      omega
    have hN4 : ∀ k, k ≤ L.length * 5 → N.toList.take k = cur.toList.take k := fun k hk => by
      rw [hN]
      simp only [List.append_assoc]
      rw [List.take_append_of_le_length (by rw [List.length_take, hcl]; omega), List.take_take, Nat.min_eq_left hk]
    have hN5 : N.toList.take ((L ++ [m]).length * 5) = pdCells (L ++ [m]) := by
      rw [hN, h7, ← pdCells_app, List.length_append, ← List.length_append, ← pdCells_len]
      exact List.take_left
    have hset := setRow_heap w g cur N _ _ h3
    have kp : ∀ (t : Bool) (M : List Pd) (x : Value), M.length ≤ L.length → PRow B t M x w → PRow B t M x (w.setRow g N) := fun t M x hM hx => by
      obtain ⟨g', c', cur', e1, e2, e3, e4, e5, e6, e7, e8⟩ := hx
      by_cases hg : g' = g
      · subst hg
        rw [h3] at e3
        injection e3 with e3
        injection e3 with e3 _ _
        subst e3
        exact ⟨g', c', N, e1, e2, hset, by rw [hNs]; exact e4, e5, e6, by rw [hN4 _ (Nat.mul_le_mul_right 5 hM)]; exact e7, e8⟩
      · exact ⟨g', c', cur', e1, e2, by rw [setRow_other _ _ _ _ hg]; exact e3, e4, e5, e6, e7, e8⟩
    have kp3 : ∀ x, PRow B false (L ++ [m]) x w → PRow B false (L ++ [m]) x (w.setRow g N) := fun x hx => by
      obtain ⟨g', c', cur', e1, e2, e3, e4, e5, e6, e7, e8⟩ := hx
      by_cases hg : g' = g
      · subst hg
        rw [h3] at e3
        injection e3 with e3
        injection e3 with e3 _ _
        subst e3
        exact ⟨g', c', N, e1, e2, hset, by rw [hNs]; exact e4, e5, e6, hN5, e8⟩
      · exact ⟨g', c', cur', e1, e2, by rw [setRow_other _ _ _ _ hg]; exact e3, e4, e5, e6, e7, e8⟩
    refine ⟨_, _, hr, ⟨rfl, rfl, rfl, by simp, fun k hk => setRow_other _ _ _ _ (by omega), fun x => kp _ _ x (by simp), fun x => kp _ _ x (by simp only [List.length_cons, List.length_nil]; omega), fun x => kp _ _ x (Nat.le_refl _), kp3⟩, ?_⟩
    exact ⟨g, c, N, by simp, h2, hset, by rw [hNs]; exact h4, by simpa using hroom, h6, hN5, fun e => by cases e⟩
  · have hr := run_append_grow (P := Try.prog) w 32 32 85 i z Try.underlying32 hi hz0 ⟨g, 0, none⟩ L.length c (pdCells L) (by rw [pdCells_len, hz2]) (hown.cells rfl) ⟨gu, 0, none⟩ 1 cu (pdCells [m]) hnl hnews (by omega) (by omega) (growslice_fits (by omega) (by rw [hz3]; omega))
    have hge := grownCap_ge w (L.length + 1) c 85
    have hcm := grownCap_le_maxLen w (L.length + 1) c 85 (by unfold maxLen; omega)
    have hb : Below w.heap.size w (w.drew.alloc (.cells ((pdCells L).toArray ++ (pdCells [m]).toArray ++ Builtin.zeroCells z.cells (grownCap w (L.length + 1) c 85 - (L.length + 1))) 85)) := ((Below.refl _ _).drew).alloc (Nat.le_refl _) _
    refine ⟨_, _, hr, PKeep.of hB hb, w.heap.size, _, _, by simp, hB, heap_alloc_new w.drew _, ?_, by simpa using hge, hcm, ?_, fun e => by cases e⟩
    · simp only [Array.size_append, List.size_toArray, size_zeroCells, hz1, pdCells_len, List.length_cons, List.length_nil]
      omega
    · simp only [Array.toList_append]
      rw [← pdCells_app, ← pdCells_len]
      exact List.take_left
theorem prun_bs0 (w : World) : (Instr.buildSlice 32 0 #[]).run Try.prog w = .ok (.slice (some ⟨w.heap.size, 0, none⟩) 0 0) (w.alloc (.cells #[] 85)) := by
  obtain ⟨i, z, hi, hz0, hz1, hz2, hz3⟩ := pdI
  unfold Instr.buildSlice
  have hr : Array.range 0 = #[] := rfl
  simp [run_underlying Try.underlying32, sizeOf, typeInfo, zeroValue, hi, hz2, Instr.fill, newRow, Sem.run_bind, hr]
theorem pwp_bs0 {op : Oper} {a : Act} {w : World} {K : Act → World → Prop} {Q : Exit → Act → World → Prop} (ho : op.op = .buildSlice 32 0 #[])
    (h : K (a.put op.dst (.slice (some ⟨w.heap.size, 0, none⟩) 0 0)) (w.alloc (.cells #[] 85))) : op.wp Try.prog a w K Q := by
  unfold Oper.wp execOp
  simp [ho, prun_bs0 w, Oper.upon]
  exact h
theorem prun_bs1 (w : World) (m : Pd) : (Instr.buildSlice 32 1 #[(0, .agg m.cells.toArray)]).run Try.prog w = .ok (.slice (some ⟨w.heap.size, 0, none⟩) 1 1) (w.alloc (.cells m.cells.toArray 85)) := by
  obtain ⟨i, z, hi, hz0, hz1, hz2, hz3⟩ := pdI
  unfold Instr.buildSlice
  have hr : Array.range 5 = #[0, 1, 2, 3, 4] := rfl
  simp [run_underlying Try.underlying32, sizeOf, typeInfo, zeroValue, hi, hz0, hz1, hz2, Instr.fill, newRow, Sem.run_bind, hr, Pd.cells, Value.cells]
theorem pwp_bs1 {op : Oper} {a : Act} {w : World} {K : Act → World → Prop} {Q : Exit → Act → World → Prop} (x : Operand) (m : Pd) (ho : op.op = .buildSlice 32 1 #[(0, x)]) (hx : a.eval x = .agg m.cells.toArray)
    (h : K (a.put op.dst (.slice (some ⟨w.heap.size, 0, none⟩) 1 1)) (w.alloc (.cells m.cells.toArray 85))) : op.wp Try.prog a w K Q := by
  unfold Oper.wp execOp
  simp [ho, hx, prun_bs1 w m, Oper.upon]
  exact h

theorem PKeep.refl {B : Nat} {L : List Pd} {m : Pd} {w : World} : PKeep B L m w w :=
  ⟨rfl, rfl, rfl, Nat.le_refl _, fun _ _ => rfl, fun _ h => h, fun _ h => h, fun _ h => h, fun _ h => h⟩
theorem prow_empty {B : Nat} (w : World) (hB : B ≤ w.heap.size) : PRow B true [] (.slice (some ⟨w.heap.size, 0, none⟩) 0 0) (w.alloc (.cells #[] 85)) :=
  ⟨w.heap.size, 0, #[], rfl, hB, heap_alloc_new w _, rfl, Nat.le_refl _, Nat.zero_le _, rfl, fun _ => rfl⟩
theorem prow_one {B : Nat} (w : World) (m : Pd) (hB : B ≤ w.heap.size) : PRow B true [m] (.slice (some ⟨w.heap.size, 0, none⟩) 1 1) (w.alloc (.cells m.cells.toArray 85)) :=
  ⟨w.heap.size, 1, m.cells.toArray, rfl, hB, heap_alloc_new w _, rfl, Nat.le_refl _, by unfold maxLen; omega, rfl, fun _ => rfl⟩
theorem pwp_app {op : Oper} {a : Act} {w : World} {K : Act → World → Prop} {Q : Exit → Act → World → Prop} (x y : Operand) (ho : op.op = .call { callee := .builtin .append, args := #[x, y], argTypes := #[32, 32] })
    (hty : op.type = 32) (u v v' : Value) (w' : World) (hx : a.eval x = u) (hy : a.eval y = v)
    (hr : (Builtin.append_ #[32, 32] 32 #[u, v]).run Try.prog w = .ok v' w') (h : K (a.put op.dst v') w') : op.wp Try.prog a w K Q := by
  unfold Oper.wp execOp
  simp only [ho, hty, resolve, invoke, builtin, Sem.run_bind, Sem.run_pure, Result.andThen_ok, List.map_toArray, List.map_cons, List.map_nil, hx, hy, hr]
  exact h
end Go.Proofs.Ythcomfcbdlobpaa

namespace Go.Proofs.Ythcomfcbdlobpaa
open Go.RowKit
set_option linter.unusedVariables false
set_option linter.unnecessarySimpa false
set_option linter.unusedSimpArgs false
set_option maxRecDepth 100000

section
variable {P : Program} {ops : Array Oper} {md : Region.Mode}

/-- What an operation leaves, wherever it comes up: S says of each slot what it holds; TS what holds behind the store (operation st) of the slots p, q. -/
def StepS (P : Program) (B : Nat) (w0 : World) (S : Nat → Value → World → Prop) (TS : Value → Value → World → Prop) (p q : Tmp) (st : Nat) (rs : List Tmp) (i : Nat) (o : Oper) : Prop :=
  ∀ (a : Act) (w : World) (K : Act → World → Prop) (Q : Exit → Act → World → Prop), Below B w0 w → (∀ t ∈ rs, S t (a.tmps.getD t undef) w) →
    (∀ v w', Below B w w' → (∀ t u, S t u w → S t u w') → (i ≠ st → ∀ x y, TS x y w → TS x y w') → (i = st → TS (a.tmps.getD p undef) (a.tmps.getD q undef) w') → (∀ d, o.dst = some d → S d v w') → K (a.put o.dst v) w') → o.wp P a w K Q
/-- The store waits for those that write p and q; it writes no slot. -/
def pqB (md : Region.Mode) (ops : Array Oper) (p q : Tmp) (st : Nat) : Bool := match ops[st]? with
  | none => false
  | some o => o.dst == none && o.after.any (fun e => Region.binds md e && ((ops[e.on]?).bind (·.dst) == some p)) && o.after.any (fun e => Region.binds md e && ((ops[e.on]?).bind (·.dst) == some q))

structure RegS (ops : Array Oper) (B : Nat) (w0 : World) (a0 : Act) (S : Nat → Value → World → Prop) (TS : Value → Value → World → Prop) (p q : Tmp) (st : Nat) (listed : Array Bool) (a : Act) (w : World) : Prop where
  rel : Below B w0 w
  size : a.tmps.size = a0.tmps.size
  defers : a.defers = a0.defers
  rest : ∀ t, (∀ (j : Nat) (o : Oper), ops[j]? = some o → o.dst ≠ some t) → a.tmps.getD t undef = a0.tmps.getD t undef
  done : ∀ (j : Nat) (o : Oper) (d : Tmp), ops[j]? = some o → listed.getD j false = true → o.dst = some d → S d (a.tmps.getD d undef) w
  fact : listed.getD st false = true → TS (a.tmps.getD p undef) (a.tmps.getD q undef) w ∧ (∃ j o, ops[j]? = some o ∧ listed.getD j false = true ∧ o.dst = some p) ∧ (∃ j o, ops[j]? = some o ∧ listed.getD j false = true ∧ o.dst = some q)

variable {B : Nat} {w0 : World} {a0 : Act} {S : Nat → Value → World → Prop} {TS : Value → Value → World → Prop} {p q : Tmp} {st : Nat} {outer : List Tmp} {Q : Exit → Act → World → Prop}

theorem wpAny_S (hf : Flow md ops outer) (hpq : pqB md ops p q st = true)
    (hout : ∀ t ∈ outer, ∀ w, Below B w0 w → S t (a0.tmps.getD t undef) w)
    (hsize : ∀ (i : Nat) (o : Oper) (d : Tmp), ops[i]? = some o → o.dst = some d → d < a0.tmps.size)
    (hstep : ∀ (i : Nat) (o : Oper), ops[i]? = some o → StepS P B w0 S TS p q st (o.looksAt ops) i o)
    (hdone : ∀ a w, RegS ops B w0 a0 S TS p q st (Array.replicate ops.size true) a w → Q .normal a w) :
    ∀ (fuel : Nat) (listed : Array Bool) (a : Act) (w : World), listed.size = ops.size → ops.size ≤ fuel + listed.toList.countP id → RegS ops B w0 a0 S TS p q st listed a w → wpAny P md ops Q fuel listed a w := by
  have hstl : st < ops.size := by
    unfold pqB at hpq
    cases ho : ops[st]? with
    | none => rw [ho] at hpq; cases hpq
    | some o => exact (Array.getElem?_eq_some_iff.1 ho).1
  have hfin : ∀ (listed : Array Bool) a w, (∀ i, i < ops.size → listed.getD i false = true) → RegS ops B w0 a0 S TS p q st listed a w → Q .normal a w := fun listed a w hall hI => by
    have hr : ∀ j, (Array.replicate ops.size true).getD j false = true → j < ops.size := fun j h => by
      refine Classical.byContradiction fun hn => ?_
      rw [Array.getD_eq_getD_getElem?, Array.getElem?_eq_none (by simp; omega)] at h
      cases h
    have hrt : ∀ j, j < ops.size → (Array.replicate ops.size true).getD j false = true := fun j h => by
      rw [Array.getD_eq_getD_getElem?, Array.getElem?_eq_getElem (by simpa using h)]; simp
    obtain ⟨f1, ⟨j1, o1, g1, g2, g3⟩, ⟨j2, o2, k1, k2, k3⟩⟩ := hI.fact (hall st hstl)
    exact hdone a w ⟨hI.rel, hI.size, hI.defers, hI.rest, fun j o d ho _ hd => hI.done j o d ho (hall j (Array.getElem?_eq_some_iff.1 ho).1) hd,
      fun _ => ⟨f1, ⟨j1, o1, g1, hrt j1 (Array.getElem?_eq_some_iff.1 g1).1, g3⟩, ⟨j2, o2, k1, hrt j2 (Array.getElem?_eq_some_iff.1 k1).1, k3⟩⟩⟩
  intro fuel
  induction fuel with
  | zero =>
    intro listed a w hsz hfu hI
    have hall : ∀ i, i < ops.size → listed.getD i false = true := by
      intro i hi
      have hle := List.countP_le_length (p := id) (l := listed.toList)
      have hl : listed.toList.length = ops.size := by simpa using hsz
      have heq : listed.toList.countP id = listed.toList.length := by omega
      rw [List.countP_eq_length] at heq
      have hm : listed[i]'(by omega) ∈ listed.toList := by simp
      have := heq _ hm
      rw [Array.getD_eq_getD_getElem?, Array.getElem?_eq_getElem (by omega)]
      simpa using this
    have hrn : Region.ready md ops listed = [] := by
      rw [List.eq_nil_iff_forall_not_mem]
      intro i hi
      obtain ⟨h0, o, ho, _⟩ := mem_ready.1 hi
      have hlt : i < ops.size := (Array.getElem?_eq_some_iff.1 ho).1
      have := hall i hlt
      rw [Array.getD_eq_getD_getElem?, Array.getElem?_eq_getElem (by omega)] at h0 this
      simp at h0 this
      rw [h0] at this
      cases this
    exact ⟨hrn, hfin listed a w hall hI⟩
  | succ fuel ih =>
    intro listed a w hsz hfu hI
    refine ⟨fun hn => hfin listed a w (fun i hi => ready_nil hf hsz hn i hi) hI, fun i hi => ?_⟩
    obtain ⟨h0, o, ho, hall⟩ := mem_ready.1 hi
    have hlt : i < ops.size := (Array.getElem?_eq_some_iff.1 ho).1
    unfold wpOp
    rw [ho]
    simp only
    have hw : Region.wanted o (yielded ops a.tmps) = true := by
      unfold Region.wanted
      rw [hf.plain i o ho]
    rw [if_pos hw]
    have h0f : listed.getD i false = false := by
      rw [Array.getD_eq_getD_getElem?, Array.getElem?_eq_getElem (by omega)] at h0 ⊢
      simpa using h0
    refine .inl (hstep i o ho a w _ Q hI.rel ?_ ?_)
    · intro t ht
      rcases hf.reads i o ho t ht with h | ⟨e, he, hb, o', ho', hd'⟩
      · rw [hI.rest t (fun j o2 ho2 => hf.out t h j o2 ho2)]
        exact hout t h w hI.rel
      · exact hI.done e.on o' t ho' (hall e he hb) hd'
    · intro v w' hb hSS hTk hTs hS
      have hset : ∀ j, listed.getD j false = true → (listed.setIfInBounds i true).getD j false = true := fun j hj => by
        by_cases hji : i = j
        · subst hji; rw [h0f] at hj; cases hj
        · rw [getD_set_ne false hji]; exact hj
      refine ih _ _ _ (by simpa using hsz) ?_ ?_
      · have hl0 : listed[i]'(by omega) = false := by
          rw [Array.getD_eq_getD_getElem?, Array.getElem?_eq_getElem (by omega)] at h0
          simpa using h0
        have hc : (listed.setIfInBounds i true).toList.countP id = listed.toList.countP id + 1 := by
          rw [Array.toList_setIfInBounds, List.countP_set (by simpa using (show i < listed.size by omega))]
          simp [hl0]
        omega
      · refine ⟨hI.rel.trans hb, by rw [put_size]; exact hI.size, by rw [put_defers']; exact hI.defers, ?_, ?_, ?_⟩
        · intro t ht
          rw [put_other (ht i o ho)]
          exact hI.rest t ht
        · intro j o' d ho' hj hd
          by_cases hji : i = j
          · subst hji
            rw [ho] at ho'
            injection ho' with ho'
            subst ho'
            rw [hd, put_self (by rw [hI.size]; exact hsize i o d ho hd)]
            exact hS d hd
          · rw [getD_set_ne false hji] at hj
            rw [put_other (fun e => hji (hf.once i j o o' d ho ho' e hd))]
            exact hSS _ _ (hI.done j o' d ho' hj hd)
        · intro hst
          by_cases his : i = st
          · subst his
            unfold pqB at hpq
            rw [ho] at hpq
            simp only [Bool.and_eq_true, beq_iff_eq] at hpq
            obtain ⟨⟨hn, h1⟩, h2⟩ := hpq
            rw [hn]
            have key : ∀ x : Tmp, (o.after.any fun e => Region.binds md e && ((ops[e.on]?).bind (·.dst) == some x)) = true → ∃ j o', ops[j]? = some o' ∧ (listed.setIfInBounds i true).getD j false = true ∧ o'.dst = some x := fun x hx => by
              rw [Array.any_eq_true] at hx
              obtain ⟨k, hk, h5⟩ := hx
              rw [Bool.and_eq_true] at h5
              have h6 := h5.2
              cases hq : ops[o.after[k].on]? with
              | none => rw [hq] at h6; simp at h6
              | some o' => rw [hq] at h6; exact ⟨_, o', hq, hset _ (hall _ (Array.getElem_mem hk) h5.1), by simpa using h6⟩
            exact ⟨hTs rfl, key p h1, key q h2⟩
          · rw [getD_set_ne false his] at hst
            obtain ⟨f1, ⟨j1, o1, g1, g2, g3⟩, ⟨j2, o2, k1, k2, k3⟩⟩ := hI.fact hst
            have hp' : o.dst ≠ some p := fun e => by
              have := hf.once i j1 o o1 p ho g1 e g3
              subst this
              rw [h0f] at g2; cases g2
            have hq' : o.dst ≠ some q := fun e => by
              have := hf.once i j2 o o2 q ho k1 e k3
              subst this
              rw [h0f] at k2; cases k2
            rw [put_other hp', put_other hq']
            exact ⟨hTk his _ _ f1, ⟨j1, o1, g1, hset j1 g2, g3⟩, ⟨j2, o2, k1, hset j2 k2, k3⟩⟩

/-- What an operation leaves, of its own words alone. -/
def StepAtS (P : Program) (B : Nat) (w0 : World) (S : Nat → Value → World → Prop) (TS : Value → Value → World → Prop) (p q : Tmp) (st : Nat) (i : Nat) (d : Option Tmp) (op : Op) (ty : TypeId) : Prop :=
  ∀ (a : Act) (w : World) (K : Act → World → Prop) (Q : Exit → Act → World → Prop), Below B w0 w → Reads S a w (tmpsOf op) →
    (∀ v w', Below B w w' → (∀ t u, S t u w → S t u w') → (i ≠ st → ∀ x y, TS x y w → TS x y w') → (i = st → TS (a.tmps.getD p undef) (a.tmps.getD q undef) w') → (∀ t, d = some t → S t v w') → K (a.put d v) w') → ({ dst := d, op := op, type := ty, pos := "", after := #[], guard := none } : Oper).wp P a w K Q
def AllStepsS (P : Program) (B : Nat) (w0 : World) (S : Nat → Value → World → Prop) (TS : Value → Value → World → Prop) (p q : Tmp) (st : Nat) : Nat → List Oper → Prop
  | _, [] => True
  | i, o :: l => StepAtS P B w0 S TS p q st i o.dst o.op o.type ∧ AllStepsS P B w0 S TS p q st (i + 1) l
theorem AllStepsS.nil {i : Nat} : AllStepsS P B w0 S TS p q st i [] := trivial
theorem AllStepsS.cons {i : Nat} {d : Option Tmp} {op : Op} {ty : TypeId} {pos : String} {af : Array Edge} {gd : Option (Nat × Bool)} {l : List Oper} (h : StepAtS P B w0 S TS p q st i d op ty) (hl : AllStepsS P B w0 S TS p q st (i + 1) l) :
    AllStepsS P B w0 S TS p q st i ({ dst := d, op := op, type := ty, pos := pos, after := af, guard := gd } :: l) := ⟨h, hl⟩
theorem AllStepsS.at {l : List Oper} : ∀ {k : Nat} (h : AllStepsS P B w0 S TS p q st k l) (i : Nat) (o : Oper), l[i]? = some o → StepS P B w0 S TS p q st (tmpsOf o.op) (k + i) o := by
  induction l with
  | nil => intro k h i o ho; simp at ho
  | cons x l ih =>
    intro k h i o ho
    cases i with
    | zero =>
      simp at ho
      subst ho
      exact fun a w K Q hB hr hK => h.1 a w K Q hB (Reads.of hr) hK
    | succ i =>
      have := ih h.2 i o (by simpa using ho)
      rw [show k + (i + 1) = k + 1 + i by omega]
      exact this
/-- A step that makes new memory alone. -/
theorem stepS_new {i : Nat} {d : Option Tmp} {a : Act} {w : World} {K : Act → World → Prop} (hBw : B ≤ w.heap.size) (hst : i ≠ st) (stable : ∀ t v w w', S t v w → Below w.heap.size w w' → S t v w') (stableT : ∀ x y w w', TS x y w → Below w.heap.size w w' → TS x y w')
    (hK : ∀ v w', Below B w w' → (∀ t u, S t u w → S t u w') → (i ≠ st → ∀ x y, TS x y w → TS x y w') → (i = st → TS (a.tmps.getD p undef) (a.tmps.getD q undef) w') → (∀ t, d = some t → S t v w') → K (a.put d v) w') :
    ∀ v w', Below w.heap.size w w' → (∀ t, d = some t → S t v w') → K (a.put d v) w' := fun v w' hb hd =>
  hK v w' (hb.mono hBw) (fun t u h => stable _ _ _ _ h hb) (fun _ x y h => stableT _ _ _ _ h hb) (fun e => absurd e hst) hd

theorem wp_region_S {id : Nat} {l : List Oper} {a : Act} {w : World} (outer outs : List Tmp) (B : Nat) (S : Nat → Value → World → Prop) (TS : Value → Value → World → Prop) (p q : Tmp) (st : Nat) (n : Nat) (hm : P.follows .mixedOrders = true) (hf : flowB .any l.toArray outer = true)
    (hn : a.tmps.size = n) (hd : dstsIn n l.toArray = true) (ho : outsIn outs l.toArray = true) (hpq : pqB .any l.toArray p q st = true)
    (hout : ∀ t ∈ outer, ∀ w', Below B w w' → S t (a.tmps.getD t undef) w')
    (hstep : AllStepsS P B w S TS p q st 0 l)
    (hdone : ∀ a' w', Below B w w' → a'.tmps.size = n → a'.defers = a.defers → (∀ t ∈ outer, a'.tmps.getD t undef = a.tmps.getD t undef) → (∀ t ∈ outs, S t (a'.tmps.getD t undef) w') → TS (a'.tmps.getD p undef) (a'.tmps.getD q undef) w' → Q .normal a' w') :
    (Code.region id l.toArray true).wp P Q a w := by
  refine wp_region_any hm ?_
  have hfl := flow_of hf
  have hstl : st < l.toArray.size := by
    unfold pqB at hpq
    cases ho : l.toArray[st]? with
    | none => rw [ho] at hpq; cases hpq
    | some o => exact (Array.getElem?_eq_some_iff.1 ho).1
  refine wpAny_S (w0 := w) (a0 := a) (B := B) (S := S) (TS := TS) hfl hpq hout ?_ ?_ ?_ _ _ _ _ (by simp) (by omega) ?_
  · intro i o d ho hdo
    unfold dstsIn at hd
    rw [Array.all_eq_true_iff_forall_mem] at hd
    have := hd o (Array.mem_of_getElem? ho)
    rw [hdo] at this
    simpa [hn] using this
  · intro i o ho
    rw [looksAt_plain (hfl.plain i o ho)]
    have := hstep.at i o (by simpa using ho)
    rw [Nat.zero_add] at this
    exact this
  · intro a' w' h
    have hall : ∀ i, i < l.toArray.size → (Array.replicate l.toArray.size true).getD i false = true := fun i hi => by
      rw [Array.getD_eq_getD_getElem?, Array.getElem?_replicate]; simp only [if_pos hi]; rfl
    refine hdone a' w' h.rel (h.size.trans hn) h.defers (fun t ht => h.rest t (fun j o ho => hfl.out t ht j o ho)) (fun t ht => ?_) (h.fact (hall st hstl)).1
    unfold outsIn at ho
    rw [List.all_eq_true] at ho
    have := ho t ht
    rw [Array.any_eq_true] at this
    obtain ⟨j, hj, e⟩ := this
    exact h.done j _ t (Array.getElem?_eq_getElem hj) (hall j hj) (by simpa using e)
  · refine ⟨(Below.refl _ _).drew, rfl, rfl, fun _ _ => rfl, ?_, ?_⟩
    · intro j o d ho hj
      rw [Array.getD_eq_getD_getElem?] at hj
      have hlt : j < l.toArray.size := (Array.getElem?_eq_some_iff.1 ho).1
      rw [Array.getElem?_eq_getElem (by simpa using hlt)] at hj
      simp at hj
    · intro hjl
      rw [Array.getD_eq_getD_getElem?, Array.getElem?_eq_getElem (by simpa using hstl)] at hjl
      simp at hjl
end
end Go.Proofs.Ythcomfcbdlobpaa
