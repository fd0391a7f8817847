/-
  Joined: CrdRd, RdApp.
-/
import Derived.Test.YtdldplhfpianhaaSet06
import Derived.Laws.Rows
import Derived.Laws.AppendOwn
import Derived.Laws.OwnMore
namespace Go.Proofs.Ytdldplhfpianhaa
open Go.RowKit
set_option linter.unusedVariables false
set_option linter.unnecessarySimpa false
set_option linter.unusedSimpArgs false
set_option maxRecDepth 100000

def rdCells : List Rd → List Value
  | [] => []
  | m :: L => m.cells ++ rdCells L
theorem rdCells_len : ∀ L : List Rd, (rdCells L).length = L.length * 5
  | [] => rfl
  | m :: L => by rw [rdCells, List.length_append, rdCells_len L, List.length_cons]; simp [Rd.cells]; omega
theorem rdCells_app : ∀ L M : List Rd, rdCells (L ++ M) = rdCells L ++ rdCells M
  | [], _ => rfl
  | m :: L, M => by rw [List.cons_append, rdCells, rdCells, rdCells_app L M, List.append_assoc]
theorem rdCells_at : ∀ (L : List Rd) (i j : Nat), i < L.length → j < 5 → (rdCells L)[i * 5 + j]? = ((L.getD i rd0).cells)[j]?
  | [], i, j, hi, _ => by simp at hi
  | m :: L, 0, j, _, hj => by
    rw [rdCells, List.getElem?_append_left (by simp [Rd.cells]; omega)]
    simp
  | m :: L, i + 1, j, hi, hj => by
    rw [rdCells, List.getElem?_append_right (by simp [Rd.cells]; omega)]
    have := rdCells_at L i j (by simpa using hi) hj
    rw [show (i + 1) * 5 + j - m.cells.length = i * 5 + j by simp [Rd.cells]; omega, this]
    simp
theorem rdCells_one : ∀ (L : List Rd) (u : Value), u ∈ rdCells L → u.oneCell' = true
  | [], u, h => by simp [rdCells] at h
  | m :: L, u, h => by
    rw [rdCells, List.mem_append] at h
    rcases h with h | h
    · simp only [Rd.cells, List.mem_cons, List.not_mem_nil, or_false] at h
      rcases h with rfl | rfl | rfl | rfl | rfl <;> rfl
    · exact rdCells_one L u h
/-- The cells of what came in, from the k-th on. -/
theorem IsRds.news {W : World} {b off len cap : Nat} {L : List Rd} (hz : IsRds W (some ⟨b, off, none⟩) len cap L) (M : List Rd) (k : Nat) (hk : ∀ i, i < M.length → k + i < len ∧ M.getD i rd0 = L.getD (k + i) rd0) :
    ∀ j u, (rdCells M)[j]? = some u → W.cell? ((⟨b, off + k * 5, none⟩ : Addr).add j) = some u := by
  intro j u hu
  have hj : j < M.length * 5 := by rw [← rdCells_len]; exact (List.getElem?_eq_some_iff.1 hu).1
  have hd : j = (j / 5) * 5 + j % 5 := by omega
  have hi : j / 5 < M.length := by omega
  obtain ⟨hkl, hM⟩ := hk (j / 5) hi
  obtain ⟨b', off', ha, _, _, k0, k1, k2, k3, k4⟩ := hz.2.2.2 (k + j / 5) hkl
  simp only [Option.some.injEq, Addr.mk.injEq, and_true] at ha
  obtain ⟨rfl, rfl⟩ := ha
  have hm : j % 5 < 5 := Nat.mod_lt _ (by omega)
  rw [hd, rdCells_at M _ _ hi hm, hM] at hu
  have hadd : (⟨b, off + k * 5, none⟩ : Addr).add j = ⟨b, off + k * 5 + j, none⟩ := Addr.add_lit ..
  rw [hadd]
  obtain ⟨r, hr⟩ : ∃ r, r = j % 5 := ⟨_, rfl⟩
  rw [← hr] at hu hm hd
  have e : off + k * 5 + j = off + (k + j / 5) * 5 + r := by omega
  rw [e]
  have hcs : r = 0 ∨ r = 1 ∨ r = 2 ∨ r = 3 ∨ r = 4 := by omega
  rcases hcs with rfl | rfl | rfl | rfl | rfl
  · simp only [Rd.cells, List.getElem?_cons_zero] at hu; cases hu; exact k0
  · simp only [Rd.cells, List.getElem?_cons_succ, List.getElem?_cons_zero] at hu; cases hu; exact k1
  · simp only [Rd.cells, List.getElem?_cons_succ, List.getElem?_cons_zero] at hu; cases hu; exact k2
  · simp only [Rd.cells, List.getElem?_cons_succ, List.getElem?_cons_zero] at hu; cases hu; exact k3
  · simp only [Rd.cells, List.getElem?_cons_succ, List.getElem?_cons_zero] at hu; cases hu; exact k4
/-- A row of them is a slice of them. -/
theorem rds_own {w : World} {B n c : Nat} {a : Option Addr} {L : List Rd} (h : w.ownsRow B 45 5 (.slice a n c) n (rdCells L)) (hn : L.length = n) (hl : n ≤ 1000) (hv : ∀ p ∈ L, p.ok) : IsRds w a n c L := by
  have hcap : n ≤ c := by
    rcases h.2 with ⟨h1, h2⟩ | ⟨g, cap, cur, h1, _, _, h2, _⟩
    · omega
    · injection h1 with _ _ h1; omega
  refine ⟨hn, by omega, hcap, fun i hi => ?_⟩
  obtain ⟨g, cap, e, hg, hgl⟩ := own_slice h (by omega)
  injection e with e1 e2 e3
  subst e1 e3
  have hil : i < L.length := by omega
  have hm : L.getD i rd0 ∈ L := by rw [List.getD, List.getElem?_eq_getElem hil]; exact List.getElem_mem hil
  have k1 := hv _ hm
  have hc := fun j (hj : j < 5) => (h.cellAt (i * 5 + j) (by omega)).trans (rdCells_at L i j hil hj)
  have h0 := hc 0 (by omega)
  have h1 := hc 1 (by omega)
  have h2 := hc 2 (by omega)
  have h3 := hc 3 (by omega)
  have h4 := hc 4 (by omega)
  exact ⟨g, 0, rfl, hgl, k1, by rw [Nat.zero_add]; exact h0, by rw [Nat.zero_add]; exact h1, by rw [Nat.zero_add]; exact h2, by rw [Nat.zero_add]; exact h3, by rw [Nat.zero_add]; exact h4⟩
theorem nsCells_len (L : List Nat) : (nsCells L).length = L.length * 1 := by unfold nsCells; rw [List.length_map, Nat.mul_one]
theorem IsNs.news {W : World} {b off len : Nat} {L : List Nat} (hz : IsNs W (some ⟨b, off, none⟩) len L) (M : List Nat) (k : Nat) (hk : ∀ i, i < M.length → k + i < len ∧ M.getD i 0 = L.getD (k + i) 0) :
    ∀ j u, (nsCells M)[j]? = some u → W.cell? ((⟨b, off + k * 1, none⟩ : Addr).add j) = some u := by
  intro j u hu
  have hj : j < M.length := by have := (List.getElem?_eq_some_iff.1 hu).1; rw [nsCells_len] at this; omega
  obtain ⟨hkl, hM⟩ := hk j hj
  obtain ⟨b', off', ha, _, _, k0⟩ := hz.2.2 (k + j) hkl
  simp only [Option.some.injEq, Addr.mk.injEq, and_true] at ha
  obtain ⟨rfl, rfl⟩ := ha
  rw [nsCells_at hj, hM] at hu
  cases hu
  rw [show (⟨b, off + k * 1, none⟩ : Addr).add j = ⟨b, off + k * 1 + j, none⟩ from Addr.add_lit .., Nat.mul_one, Nat.add_assoc]
  exact k0
end Go.Proofs.Ytdldplhfpianhaa

namespace Go.Proofs.Ytdldplhfpianhaa
open Go.RowKit
set_option linter.unusedVariables false
set_option linter.unnecessarySimpa false
set_option linter.unusedSimpArgs false
set_option maxRecDepth 100000

/-- A row of the call's own, from block B on, that begins with the cells of these versions; 'tight': it has no room. -/
def RRow (B : Nat) (tight : Bool) (L : List Rd) (v : Value) (w : World) : Prop :=
  ∃ h cap cur, v = .slice (some ⟨h, 0, none⟩) L.length cap ∧ B ≤ h ∧ w.heap[h]? = some (.cells cur 45 (0, 0)) ∧ cur.size = cap * 5 ∧ L.length ≤ cap ∧ cap ≤ maxLen ∧ cur.toList.take (L.length * 5) = rdCells L ∧ (tight = true → cap = L.length)
section
variable {B : Nat} {tight : Bool} {L M : List Rd} {v : Value} {w w' : World}
theorem RRow.below (h : RRow B tight L v w) (hb : Below w.heap.size w w') : RRow B tight L v w' := by
  obtain ⟨g, cap, cur, h1, h2, h3, h4⟩ := h
  exact ⟨g, cap, cur, h1, h2, (hb.block g (Array.getElem?_eq_some_iff.1 h3).1).trans h3, h4⟩
theorem RRow.own (h : RRow B tight L v w) : w.ownsRow B 45 5 v L.length (rdCells L) := by
  obtain ⟨g, cap, cur, h1, h2, h3, h4, h5, h6, h7, _⟩ := h
  exact ⟨rdCells_len L, .inr ⟨g, cap, cur, h1, h2, h3, h5, h6, h4, h7⟩⟩
end

theorem rdInfo2 : (Try.prog.info? 45).map (fun i => (i.zero.map (fun z => z.cells.size), i.size, i.bytes)) = some (some 5, 5, 56) := by kernel_rfl
theorem rdI : ∃ i z, Try.prog.info? 45 = some i ∧ i.zero = some z ∧ z.cells.size = 5 ∧ i.size = 5 ∧ i.bytes = 56 := by
  have h := rdInfo2
  cases hq : Try.prog.info? 45 with
  | none => rw [hq] at h; simp at h
  | some i =>
    rw [hq] at h
    simp only [Option.map_some, Option.some.injEq, Prod.mk.injEq] at h
    obtain ⟨h1, h2, h3⟩ := h
    cases hz : i.zero with
    | none => rw [hz] at h1; simp at h1
    | some z => rw [hz] at h1; exact ⟨i, z, rfl, hz, by simpa using h1, h2, h3⟩

theorem rzcells_size {i : TypeInfo} (z : Value) (n : Nat) (hz : z.cells.size = 5) : (Builtin.zeroCells z.cells n).size = n * 5 := by rw [size_zeroCells, hz]

/-- 'append([]Item{}, l...)'. -/
theorem rapp_first {B : Nat} (w : World) (v : Value) (a : Option Addr) (len cap : Nat) (L : List Rd) (h : RRow B true [] v w) (hz : IsRds w a len cap L) (hl : len ≤ 100000) (ha : len = 0 → a = none → cap = 0) (hB : B ≤ w.heap.size) :
    ∃ v' w', (Builtin.append_ #[37, 37] 37 #[v, .slice a len cap]).run Try.prog w = .ok v' w' ∧ Below w.heap.size w w' ∧ RRow B (L.length == 0) L v' w' := by
  obtain ⟨i, z, hi, hz0, hz1, hz2, hz3⟩ := rdI
  have hlen := hz.1
  by_cases h0 : len = 0
  · subst h0
    have hL : L = [] := List.eq_nil_of_length_eq_zero hlen
    subst hL
    cases a with
    | none =>
      rw [ha rfl rfl]
      exact ⟨v, w, run_append_owned_none (P := Try.prog) (w := w) B _ _ _ i 5 Try.underlying37 hi v 0 (rdCells []) h.own, Below.refl _ _, h⟩
    | some ad =>
      obtain ⟨g, c, cur, rfl, h2, h3, h4, h5, h6, h7, h8⟩ := h
      have hr := run_append_room (P := Try.prog) w 37 37 45 i Try.underlying37 hi g 0 c cur h3 ad 0 cap [] (by simp) (by simp) (by simp) (by omega) (by simp)
      have hself : (cur.toList.take (0 * i.size) ++ [] ++ cur.toList.drop (0 * i.size + ([] : List Value).length)).toArray = cur := by simp
      rw [hself, setRow_self w g cur _ _ h3] at hr
      exact ⟨_, w, hr, Below.refl _ _, g, c, cur, rfl, h2, h3, h4, h5, h6, h7, fun _ => h8 rfl⟩
  · have hL : ¬ L.length = 0 := by omega
    obtain ⟨b, off, rfl, _⟩ := hz.2.2.2 0 (by omega)
    have hzn := hz.news L 0 (fun i hi => ⟨by omega, by simp⟩)
    rw [Nat.zero_mul, Nat.add_zero] at hzn
    obtain ⟨g, c, cur, rfl, h2, h3, h4, h5, h6, h7, h8⟩ := h
    have hc0 : c = 0 := h8 rfl
    subst hc0
    have hr := run_append_grow (P := Try.prog) w 37 37 45 i z Try.underlying37 hi hz0 ⟨g, 0, none⟩ 0 0 [] (by simp) (by simp) ⟨b, off, none⟩ len cap (rdCells L) (by rw [rdCells_len, hz2, hlen]) hzn (by omega) (by omega) (growslice_fits (by omega) (by rw [hz3]; omega))
    have hge := grownCap_ge w (0 + len) 0 45
    have hcm := grownCap_le_maxLen w (0 + len) 0 45 (by unfold maxLen; omega)
    refine ⟨_, _, hr, ?_, w.heap.size, _, _, by rw [hlen, Nat.zero_add], hB, heap_alloc_new w.drew _, ?_, ?_, hcm, ?_, ?_⟩
    · exact ((Below.refl _ _).drew).alloc (Nat.le_refl _) _
    · simp only [Array.size_append, List.size_toArray, size_zeroCells, hz1, rdCells_len, List.length_nil]
      omega
    · omega
    · simp only [Array.toList_append, List.nil_append, List.append_assoc]
      rw [← rdCells_len L]
      exact List.take_left
    · intro e; simp at e; subst e; simp at hL

/-- What worlds keep while a region makes a row. -/
structure RKeep (B : Nat) (L : List Rd) (m : Rd) (w w' : World) : Prop where
  os : w'.os = w.os
  tape : w'.tape = w.tape
  output : w'.output = w.output
  size : w.heap.size ≤ w'.heap.size
  block : ∀ k, k < B → w'.heap[k]? = w.heap[k]?
  k0 : ∀ v, RRow B true [] v w → RRow B true [] v w'
  k1 : ∀ v, RRow B true [m] v w → RRow B true [m] v w'
  k2 : ∀ v, RRow B (L.length == 0) L v w → RRow B (L.length == 0) L v w'
  k3 : ∀ v, RRow B false (L ++ [m]) v w → RRow B false (L ++ [m]) v w'
section
variable {B : Nat} {L : List Rd} {m : Rd} {w w' w2 : World}
theorem RKeep.of (hB : B ≤ w.heap.size) (hb : Below w.heap.size w w') : RKeep B L m w w' :=
  ⟨hb.os, hb.tape, hb.output, hb.size, fun k hk => hb.block k (by omega), fun _ h => h.below hb, fun _ h => h.below hb, fun _ h => h.below hb, fun _ h => h.below hb⟩
theorem RKeep.trans (h : RKeep B L m w w') (g : RKeep B L m w' w2) : RKeep B L m w w2 :=
  ⟨g.os.trans h.os, g.tape.trans h.tape, g.output.trans h.output, Nat.le_trans h.size g.size, fun k hk => (g.block k hk).trans (h.block k hk), fun v x => g.k0 v (h.k0 v x), fun v x => g.k1 v (h.k1 v x), fun v x => g.k2 v (h.k2 v x), fun v x => g.k3 v (h.k3 v x)⟩
theorem RKeep.below (hB : B ≤ w.heap.size) (h : RKeep B L m w w') : Below B w w' := ⟨h.os, h.tape, h.output, h.size, h.block⟩
end

/-- 'append(row, item)'. -/
theorem rapp_second {B : Nat} (w : World) (v u : Value) (L : List Rd) (m : Rd) (h : RRow B (L.length == 0) L v w) (hu : RRow B true [m] u w) (hl : L.length ≤ 100000) (hB : B ≤ w.heap.size) :
    ∃ v' w', (Builtin.append_ #[37, 37] 37 #[v, u]).run Try.prog w = .ok v' w' ∧ RKeep B L m w w' ∧ RRow B false (L ++ [m]) v' w' := by
  obtain ⟨i, z, hi, hz0, hz1, hz2, hz3⟩ := rdI
  have hown := h.own
  have houn := hu.own
  obtain ⟨gu, cu, curu, rfl, u2, u3, u4, u5, u6, u7, u8⟩ := hu
  obtain ⟨g, c, cur, rfl, h2, h3, h4, h5, h6, h7, h8⟩ := h
  have hnews : ∀ j x, (rdCells [m])[j]? = some x → w.cell? ((⟨gu, 0, none⟩ : Addr).add j) = some x := houn.cells rfl
  have hnl : (rdCells [m]).length = 1 * i.size := by rw [rdCells_len, hz2]; rfl
  by_cases hroom : L.length + 1 ≤ c
  · have hpos : 0 < L.length := by
      by_cases e : L.length = 0
      · have := h8 (by rw [e]; rfl); omega
      · omega
    have hr := run_append_room (P := Try.prog) w 37 37 45 i Try.underlying37 hi g L.length c cur h3 ⟨gu, 0, none⟩ 1 cu (rdCells [m]) hnl hnews (rdCells_one _) hroom (by rw [hnl, hz2]; omega)
    rw [hz2, rdCells_len] at hr
    have hcl : cur.toList.length = cur.size := Array.length_toList
    obtain ⟨N, hN⟩ : ∃ N, N = (cur.toList.take (L.length * 5) ++ rdCells [m] ++ cur.toList.drop (L.length * 5 + [m].length * 5)).toArray := ⟨_, rfl⟩
    rw [← hN] at hr
    have hNs : N.size = cur.size := by
      rw [hN, List.size_toArray, List.length_append, List.length_append, List.length_take, List.length_drop, rdCells_len, hcl]
      simp only [List.length_cons, List.length_nil]
      omega
    have hN4 : ∀ k, k ≤ L.length * 5 → N.toList.take k = cur.toList.take k := fun k hk => by
      rw [hN]
      simp only [List.append_assoc]
      rw [List.take_append_of_le_length (by rw [List.length_take, hcl]; omega), List.take_take, Nat.min_eq_left hk]
    have hN5 : N.toList.take ((L ++ [m]).length * 5) = rdCells (L ++ [m]) := by
      rw [hN, h7, ← rdCells_app, List.length_append, ← List.length_append, ← rdCells_len]
      exact List.take_left
    have hset := setRow_heap w g cur N _ _ h3
    have kp : ∀ (t : Bool) (M : List Rd) (x : Value), M.length ≤ L.length → RRow B t M x w → RRow B t M x (w.setRow g N) := fun t M x hM hx => by
      obtain ⟨g', c', cur', e1, e2, e3, e4, e5, e6, e7, e8⟩ := hx
      by_cases hg : g' = g
      · subst hg
        rw [h3] at e3
        injection e3 with e3
        injection e3 with e3 _ _
        subst e3
        exact ⟨g', c', N, e1, e2, hset, by rw [hNs]; exact e4, e5, e6, by rw [hN4 _ (Nat.mul_le_mul_right 5 hM)]; exact e7, e8⟩
      · exact ⟨g', c', cur', e1, e2, by rw [setRow_other _ _ _ _ hg]; exact e3, e4, e5, e6, e7, e8⟩
    have kp3 : ∀ x, RRow B false (L ++ [m]) x w → RRow B false (L ++ [m]) x (w.setRow g N) := fun x hx => by
      obtain ⟨g', c', cur', e1, e2, e3, e4, e5, e6, e7, e8⟩ := hx
      by_cases hg : g' = g
      · subst hg
        rw [h3] at e3
        injection e3 with e3
        injection e3 with e3 _ _
        subst e3
        exact ⟨g', c', N, e1, e2, hset, by rw [hNs]; exact e4, e5, e6, hN5, e8⟩
      · exact ⟨g', c', cur', e1, e2, by rw [setRow_other _ _ _ _ hg]; exact e3, e4, e5, e6, e7, e8⟩
    refine ⟨_, _, hr, ⟨rfl, rfl, rfl, by simp, fun k hk => setRow_other _ _ _ _ (by omega), fun x => kp _ _ x (by simp), fun x => kp _ _ x (by simp only [List.length_cons, List.length_nil]; omega), fun x => kp _ _ x (Nat.le_refl _), kp3⟩, ?_⟩
    exact ⟨g, c, N, by simp, h2, hset, by rw [hNs]; exact h4, by simpa using hroom, h6, hN5, fun e => by cases e⟩
  · have hr := run_append_grow (P := Try.prog) w 37 37 45 i z Try.underlying37 hi hz0 ⟨g, 0, none⟩ L.length c (rdCells L) (by rw [rdCells_len, hz2]) (hown.cells rfl) ⟨gu, 0, none⟩ 1 cu (rdCells [m]) hnl hnews (by omega) (by omega) (growslice_fits (by omega) (by rw [hz3]; omega))
    have hge := grownCap_ge w (L.length + 1) c 45
    have hcm := grownCap_le_maxLen w (L.length + 1) c 45 (by unfold maxLen; omega)
    have hb : Below w.heap.size w (w.drew.alloc (.cells ((rdCells L).toArray ++ (rdCells [m]).toArray ++ Builtin.zeroCells z.cells (grownCap w (L.length + 1) c 45 - (L.length + 1))) 45)) := ((Below.refl _ _).drew).alloc (Nat.le_refl _) _
    refine ⟨_, _, hr, RKeep.of hB hb, w.heap.size, _, _, by simp, hB, heap_alloc_new w.drew _, ?_, by simpa using hge, hcm, ?_, fun e => by cases e⟩
    · simp only [Array.size_append, List.size_toArray, size_zeroCells, hz1, rdCells_len, List.length_cons, List.length_nil]
      omega
    · simp only [Array.toList_append]
      rw [← rdCells_app, ← rdCells_len]
      exact List.take_left
theorem rrun_bs0 (w : World) : (Instr.buildSlice 37 0 #[]).run Try.prog w = .ok (.slice (some ⟨w.heap.size, 0, none⟩) 0 0) (w.alloc (.cells #[] 45)) := by
  obtain ⟨i, z, hi, hz0, hz1, hz2, hz3⟩ := rdI
  unfold Instr.buildSlice
  have hr : Array.range 0 = #[] := rfl
  simp [run_underlying Try.underlying37, sizeOf, typeInfo, zeroValue, hi, hz2, Instr.fill, newRow, Sem.run_bind, hr]
theorem rwp_bs0 {op : Oper} {a : Act} {w : World} {K : Act → World → Prop} {Q : Exit → Act → World → Prop} (ho : op.op = .buildSlice 37 0 #[])
    (h : K (a.put op.dst (.slice (some ⟨w.heap.size, 0, none⟩) 0 0)) (w.alloc (.cells #[] 45))) : op.wp Try.prog a w K Q := by
  unfold Oper.wp execOp
  simp [ho, rrun_bs0 w, Oper.upon]
  exact h
theorem rrun_bs1 (w : World) (m : Rd) : (Instr.buildSlice 37 1 #[(0, .agg m.cells.toArray)]).run Try.prog w = .ok (.slice (some ⟨w.heap.size, 0, none⟩) 1 1) (w.alloc (.cells m.cells.toArray 45)) := by
  obtain ⟨i, z, hi, hz0, hz1, hz2, hz3⟩ := rdI
  unfold Instr.buildSlice
  have hr : Array.range 5 = #[0, 1, 2, 3, 4] := rfl
  simp [run_underlying Try.underlying37, sizeOf, typeInfo, zeroValue, hi, hz0, hz1, hz2, Instr.fill, newRow, Sem.run_bind, hr, Rd.cells, Value.cells]
theorem rwp_bs1 {op : Oper} {a : Act} {w : World} {K : Act → World → Prop} {Q : Exit → Act → World → Prop} (x : Operand) (m : Rd) (ho : op.op = .buildSlice 37 1 #[(0, x)]) (hx : a.eval x = .agg m.cells.toArray)
    (h : K (a.put op.dst (.slice (some ⟨w.heap.size, 0, none⟩) 1 1)) (w.alloc (.cells m.cells.toArray 45))) : op.wp Try.prog a w K Q := by
  unfold Oper.wp execOp
  simp [ho, hx, rrun_bs1 w m, Oper.upon]
  exact h

theorem RKeep.refl {B : Nat} {L : List Rd} {m : Rd} {w : World} : RKeep B L m w w :=
  ⟨rfl, rfl, rfl, Nat.le_refl _, fun _ _ => rfl, fun _ h => h, fun _ h => h, fun _ h => h, fun _ h => h⟩
theorem rrow_empty {B : Nat} (w : World) (hB : B ≤ w.heap.size) : RRow B true [] (.slice (some ⟨w.heap.size, 0, none⟩) 0 0) (w.alloc (.cells #[] 45)) :=
  ⟨w.heap.size, 0, #[], rfl, hB, heap_alloc_new w _, rfl, Nat.le_refl _, Nat.zero_le _, rfl, fun _ => rfl⟩
theorem rrow_one {B : Nat} (w : World) (m : Rd) (hB : B ≤ w.heap.size) : RRow B true [m] (.slice (some ⟨w.heap.size, 0, none⟩) 1 1) (w.alloc (.cells m.cells.toArray 45)) :=
  ⟨w.heap.size, 1, m.cells.toArray, rfl, hB, heap_alloc_new w _, rfl, Nat.le_refl _, by unfold maxLen; omega, rfl, fun _ => rfl⟩
theorem rwp_app {op : Oper} {a : Act} {w : World} {K : Act → World → Prop} {Q : Exit → Act → World → Prop} (x y : Operand) (ho : op.op = .call { callee := .builtin .append, args := #[x, y], argTypes := #[37, 37] })
    (hty : op.type = 37) (u v v' : Value) (w' : World) (hx : a.eval x = u) (hy : a.eval y = v)
    (hr : (Builtin.append_ #[37, 37] 37 #[u, v]).run Try.prog w = .ok v' w') (h : K (a.put op.dst v') w') : op.wp Try.prog a w K Q := by
  unfold Oper.wp execOp
  simp only [ho, hty, resolve, invoke, builtin, Sem.run_bind, Sem.run_pure, Result.andThen_ok, List.map_toArray, List.map_cons, List.map_nil, hx, hy, hr]
  exact h
end Go.Proofs.Ytdldplhfpianhaa
