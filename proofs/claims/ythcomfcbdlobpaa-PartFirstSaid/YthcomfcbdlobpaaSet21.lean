/-
  Rows of those that have committed, and one more; what worlds keep meanwhile.
-/
import Derived.Test.YthcomfcbdlobpaaSet20
import Derived.Test.YthcomfcbdlobpaaSet13
namespace Go.Proofs.Ythcomfcbdlobpaa
open Go.RowKit
set_option linter.unusedVariables false
set_option linter.unnecessarySimpa false
set_option linter.unusedSimpArgs false
set_option maxRecDepth 100000

def dn0 : Dn := ⟨0, 0, none, 0, 0, []⟩
def DnAt (W : World) (b off : Nat) (p : Dn) : Prop :=
  b < W.heap.size ∧ p.start < 18446744073709551616 ∧ p.time < 18446744073709551616 ∧ IsWqs W p.a p.n p.c p.w ∧ W.cell? ⟨b, off, none⟩ = some (.int .u64 (p.start : Int)) ∧ W.cell? ⟨b, off + 1, none⟩ = some (.int .u64 (p.time : Int)) ∧ W.cell? ⟨b, off + 2, none⟩ = some (.slice p.a p.n p.c)
def IsDns (W : World) (a : Option Addr) (len cap : Nat) (L : List Dn) : Prop := L.length = len ∧ len ≤ maxLen ∧ len ≤ cap ∧ ∀ i, i < len → ∃ b off, a = some ⟨b, off, none⟩ ∧ DnAt W b (off + i * 3) (L.getD i dn0)
theorem DnAt.below {W W' : World} {b off : Nat} {p : Dn} (h : DnAt W b off p) (hb : Below W.heap.size W W') : DnAt W' b off p := by
  obtain ⟨h1, h2, h2', h3, k0, k1, k2⟩ := h
  exact ⟨Nat.lt_of_lt_of_le h1 hb.size, h2, h2', h3.below hb, (hb.cell (p := ⟨b, off, none⟩) h1).trans k0, (hb.cell (p := ⟨b, off + 1, none⟩) h1).trans k1, (hb.cell (p := ⟨b, off + 2, none⟩) h1).trans k2⟩
theorem IsDns.below {W W' : World} {a : Option Addr} {len cap : Nat} {L : List Dn} (h : IsDns W a len cap L) (hb : Below W.heap.size W W') : IsDns W' a len cap L :=
  ⟨h.1, h.2.1, h.2.2.1, fun i hi => by obtain ⟨b, off, ha, he⟩ := h.2.2.2 i hi; exact ⟨b, off, ha, he.below hb⟩⟩
def Dn.cells (p : Dn) : List Value := [.int .u64 (p.start : Int), .int .u64 (p.time : Int), .slice p.a p.n p.c]
def dnCells : List Dn → List Value
  | [] => []
  | m :: L => m.cells ++ dnCells L
theorem dnCells_len : ∀ L : List Dn, (dnCells L).length = L.length * 3
  | [] => rfl
  | m :: L => by rw [dnCells, List.length_append, dnCells_len L, List.length_cons]; simp [Dn.cells]; omega
theorem dnCells_app : ∀ L M : List Dn, dnCells (L ++ M) = dnCells L ++ dnCells M
  | [], _ => rfl
  | m :: L, M => by rw [List.cons_append, dnCells, dnCells, dnCells_app L M, List.append_assoc]
theorem dnCells_at : ∀ (L : List Dn) (i j : Nat), i < L.length → j < 3 → (dnCells L)[i * 3 + j]? = ((L.getD i dn0).cells)[j]?
  | [], i, j, hi, _ => by simp at hi
  | m :: L, 0, j, _, hj => by
    rw [dnCells, List.getElem?_append_left (by simp [Dn.cells]; omega)]
    simp
  | m :: L, i + 1, j, hi, hj => by
    rw [dnCells, List.getElem?_append_right (by simp [Dn.cells]; omega)]
    have := dnCells_at L i j (by simpa using hi) hj
    rw [show (i + 1) * 3 + j - m.cells.length = i * 3 + j by simp [Dn.cells]; omega, this]
    simp
theorem dnCells_one : ∀ (L : List Dn) (u : Value), u ∈ dnCells L → u.oneCell' = true
  | [], u, h => by simp [dnCells] at h
  | m :: L, u, h => by
    rw [dnCells, List.mem_append] at h
    rcases h with h | h
    · simp only [Dn.cells, List.mem_cons, List.not_mem_nil, or_false] at h
      rcases h with rfl | rfl | rfl <;> rfl
    · exact dnCells_one L u h
/-- The cells of a slice of them. -/
theorem IsDns.news {W : World} {b off len cap : Nat} {L : List Dn} (hz : IsDns W (some ⟨b, off, none⟩) len cap L) :
    ∀ j u, (dnCells L)[j]? = some u → W.cell? ((⟨b, off, none⟩ : Addr).add j) = some u := by
  intro j u hu
  have hj : j < L.length * 3 := by rw [← dnCells_len]; exact (List.getElem?_eq_some_iff.1 hu).1
  have hd : j = (j / 3) * 3 + j % 3 := by omega
  have hi : j / 3 < L.length := by omega
  obtain ⟨b', off', ha, _, _, _, _, k0, k1, k2⟩ := hz.2.2.2 (j / 3) (by have := hz.1; omega)
  simp only [Option.some.injEq, Addr.mk.injEq, and_true] at ha
  obtain ⟨rfl, rfl⟩ := ha
  have hm : j % 3 < 3 := Nat.mod_lt _ (by omega)
  rw [hd, dnCells_at L _ _ hi hm] at hu
  have hadd : (⟨b, off, none⟩ : Addr).add j = ⟨b, off + j, none⟩ := Addr.add_lit ..
  rw [hadd]
  obtain ⟨r, hr⟩ : ∃ r, r = j % 3 := ⟨_, rfl⟩
  rw [← hr] at hu hm hd
  have e : off + j = off + (j / 3) * 3 + r := by omega
  rw [e]
  have hcs : r = 0 ∨ r = 1 ∨ r = 2 := by omega
  rcases hcs with rfl | rfl | rfl
  · simp only [Dn.cells, List.getElem?_cons_zero] at hu; cases hu; exact k0
  · simp only [Dn.cells, List.getElem?_cons_succ, List.getElem?_cons_zero] at hu; cases hu; exact k1
  · simp only [Dn.cells, List.getElem?_cons_succ, List.getElem?_cons_zero] at hu; cases hu; exact k2
/-- A row of them is a slice of them. -/
theorem dns_own {w : World} {B n c : Nat} {a : Option Addr} {L : List Dn} (h : w.ownsRow B 63 3 (.slice a n c) n (dnCells L)) (hn : L.length = n) (hl : n ≤ 100000) (hv : ∀ p ∈ L, p.start < 18446744073709551616 ∧ p.time < 18446744073709551616 ∧ IsWqs w p.a p.n p.c p.w) : IsDns w a n c L := by
  have hcap : n ≤ c := by
    rcases h.2 with ⟨h1, h2⟩ | ⟨g, cap, cur, h1, _, _, h2, _⟩
    · omega
    · injection h1 with _ _ h1; omega
  refine ⟨hn, by unfold maxLen; omega, hcap, fun i hi => ?_⟩
  obtain ⟨g, cap, e, hg, hgl⟩ := own_slice h (by omega)
  injection e with e1 e2 e3
  subst e1 e3
  have hil : i < L.length := by omega
  have hm : L.getD i dn0 ∈ L := by rw [List.getD, List.getElem?_eq_getElem hil]; exact List.getElem_mem hil
  obtain ⟨k1, k2, k3⟩ := hv _ hm
  have hc := fun j (hj : j < 3) => (h.cellAt (i * 3 + j) (by omega)).trans (dnCells_at L i j hil hj)
  have h0 := hc 0 (by omega)
  have h1 := hc 1 (by omega)
  have h2 := hc 2 (by omega)
  exact ⟨g, 0, rfl, hgl, k1, k2, k3, by rw [Nat.zero_add]; exact h0, by rw [Nat.zero_add]; exact h1, by rw [Nat.zero_add]; exact h2⟩
/-- A row of the call's own, from block B on, that begins with the cells of these versions; 'tight': it has no room. -/
def DRow (B : Nat) (tight : Bool) (L : List Dn) (v : Value) (w : World) : Prop :=
  ∃ h cap cur, v = .slice (some ⟨h, 0, none⟩) L.length cap ∧ B ≤ h ∧ w.heap[h]? = some (.cells cur 63 (0, 0)) ∧ cur.size = cap * 3 ∧ L.length ≤ cap ∧ cap ≤ maxLen ∧ cur.toList.take (L.length * 3) = dnCells L ∧ (tight = true → cap = L.length)
section
variable {B : Nat} {tight : Bool} {L M : List Dn} {v : Value} {w w' : World}
theorem DRow.below (h : DRow B tight L v w) (hb : Below w.heap.size w w') : DRow B tight L v w' := by
  obtain ⟨g, cap, cur, h1, h2, h3, h4⟩ := h
  exact ⟨g, cap, cur, h1, h2, (hb.block g (Array.getElem?_eq_some_iff.1 h3).1).trans h3, h4⟩
theorem DRow.own (h : DRow B tight L v w) : w.ownsRow B 63 3 v L.length (dnCells L) := by
  obtain ⟨g, cap, cur, h1, h2, h3, h4, h5, h6, h7, _⟩ := h
  exact ⟨dnCells_len L, .inr ⟨g, cap, cur, h1, h2, h3, h5, h6, h4, h7⟩⟩
end

theorem dnInfo2 : (Try.prog.info? 63).map (fun i => (i.zero.map (fun z => z.cells.size), i.size, i.bytes)) = some (some 3, 3, 40) := by kernel_rfl
theorem dnI : ∃ i z, Try.prog.info? 63 = some i ∧ i.zero = some z ∧ z.cells.size = 3 ∧ i.size = 3 ∧ i.bytes = 40 := by
  have h := dnInfo2
  cases hq : Try.prog.info? 63 with
  | none => rw [hq] at h; simp at h
  | some i =>
    rw [hq] at h
    simp only [Option.map_some, Option.some.injEq, Prod.mk.injEq] at h
    obtain ⟨h1, h2, h3⟩ := h
    cases hz : i.zero with
    | none => rw [hz] at h1; simp at h1
    | some z => rw [hz] at h1; exact ⟨i, z, rfl, hz, by simpa using h1, h2, h3⟩

theorem dzcells_size {i : TypeInfo} (z : Value) (n : Nat) (hz : z.cells.size = 3) : (Builtin.zeroCells z.cells n).size = n * 3 := by rw [size_zeroCells, hz]

/-- 'append([]Item{}, l...)'. -/
theorem dapp_first {B : Nat} (w : World) (v : Value) (a : Option Addr) (len cap : Nat) (L : List Dn) (h : DRow B true [] v w) (hz : IsDns w a len cap L) (hl : len ≤ 100000) (ha : len = 0 → a = none → cap = 0) (hB : B ≤ w.heap.size) :
    ∃ v' w', (Builtin.append_ #[61, 61] 61 #[v, .slice a len cap]).run Try.prog w = .ok v' w' ∧ Below w.heap.size w w' ∧ DRow B (L.length == 0) L v' w' := by
  obtain ⟨i, z, hi, hz0, hz1, hz2, hz3⟩ := dnI
  have hlen := hz.1
  by_cases h0 : len = 0
  · subst h0
    have hL : L = [] := List.eq_nil_of_length_eq_zero hlen
    subst hL
    cases a with
    | none =>
      rw [ha rfl rfl]
      exact ⟨v, w, run_append_owned_none (P := Try.prog) (w := w) B _ _ _ i 3 Try.underlying61 hi v 0 (dnCells []) h.own, Below.refl _ _, h⟩
    | some ad =>
      obtain ⟨g, c, cur, rfl, h2, h3, h4, h5, h6, h7, h8⟩ := h
      have hr := run_append_room (P := Try.prog) w 61 61 63 i Try.underlying61 hi g 0 c cur h3 ad 0 cap [] (by simp) (by simp) (by simp) (by omega) (by simp)
      have hself : (cur.toList.take (0 * i.size) ++ [] ++ cur.toList.drop (0 * i.size + ([] : List Value).length)).toArray = cur := by simp
      rw [hself, setRow_self w g cur _ _ h3] at hr
      exact ⟨_, w, hr, Below.refl _ _, g, c, cur, rfl, h2, h3, h4, h5, h6, h7, fun _ => h8 rfl⟩
  · have hL : ¬ L.length = 0 := by omega
    obtain ⟨b, off, rfl, _⟩ := hz.2.2.2 0 (by omega)
    have hzn := hz.news
    obtain ⟨g, c, cur, rfl, h2, h3, h4, h5, h6, h7, h8⟩ := h
    have hc0 : c = 0 := h8 rfl
    subst hc0
    have hr := run_append_grow (P := Try.prog) w 61 61 63 i z Try.underlying61 hi hz0 ⟨g, 0, none⟩ 0 0 [] (by simp) (by simp) ⟨b, off, none⟩ len cap (dnCells L) (by rw [dnCells_len, hz2, hlen]) hzn (by omega) (by omega) (growslice_fits (by omega) (by rw [hz3]; omega))
    have hge := grownCap_ge w (0 + len) 0 63
    have hcm := grownCap_le_maxLen w (0 + len) 0 63 (by unfold maxLen; omega)
    refine ⟨_, _, hr, ?_, w.heap.size, _, _, by rw [hlen, Nat.zero_add], hB, heap_alloc_new w.drew _, ?_, ?_, hcm, ?_, ?_⟩
    · exact ((Below.refl _ _).drew).alloc (Nat.le_refl _) _
    · simp only [Array.size_append, List.size_toArray, size_zeroCells, hz1, dnCells_len, List.length_nil]
      omega
    · omega
    · simp only [Array.toList_append, List.nil_append, List.append_assoc]
      rw [← dnCells_len L]
      exact List.take_left
    · intro e; simp at e; subst e; simp at hL

/-- What worlds keep while a region makes a row. -/
structure DKeep (B : Nat) (L : List Dn) (m : Dn) (w w' : World) : Prop where
  os : w'.os = w.os
  tape : w'.tape = w.tape
  output : w'.output = w.output
  size : w.heap.size ≤ w'.heap.size
  block : ∀ k, k < B → w'.heap[k]? = w.heap[k]?
  k0 : ∀ v, DRow B true [] v w → DRow B true [] v w'
  k1 : ∀ v, DRow B true [m] v w → DRow B true [m] v w'
  k2 : ∀ v, DRow B (L.length == 0) L v w → DRow B (L.length == 0) L v w'
  k3 : ∀ v, DRow B false (L ++ [m]) v w → DRow B false (L ++ [m]) v w'
section
variable {B : Nat} {L : List Dn} {m : Dn} {w w' w2 : World}
theorem DKeep.of (hB : B ≤ w.heap.size) (hb : Below w.heap.size w w') : DKeep B L m w w' :=
  ⟨hb.os, hb.tape, hb.output, hb.size, fun k hk => hb.block k (by omega), fun _ h => h.below hb, fun _ h => h.below hb, fun _ h => h.below hb, fun _ h => h.below hb⟩
theorem DKeep.trans (h : DKeep B L m w w') (g : DKeep B L m w' w2) : DKeep B L m w w2 :=
  ⟨g.os.trans h.os, g.tape.trans h.tape, g.output.trans h.output, Nat.le_trans h.size g.size, fun k hk => (g.block k hk).trans (h.block k hk), fun v x => g.k0 v (h.k0 v x), fun v x => g.k1 v (h.k1 v x), fun v x => g.k2 v (h.k2 v x), fun v x => g.k3 v (h.k3 v x)⟩
theorem DKeep.below (hB : B ≤ w.heap.size) (h : DKeep B L m w w') : Below B w w' := ⟨h.os, h.tape, h.output, h.size, h.block⟩
end

/-- 'append(row, item)'. -/
theorem dapp_second {B : Nat} (w : World) (v u : Value) (L : List Dn) (m : Dn) (h : DRow B (L.length == 0) L v w) (hu : DRow B true [m] u w) (hl : L.length ≤ 100000) (hB : B ≤ w.heap.size) :
    ∃ v' w', (Builtin.append_ #[61, 61] 61 #[v, u]).run Try.prog w = .ok v' w' ∧ DKeep B L m w w' ∧ DRow B false (L ++ [m]) v' w' := by
  obtain ⟨i, z, hi, hz0, hz1, hz2, hz3⟩ := dnI
  have hown := h.own
  have houn := hu.own
  obtain ⟨gu, cu, curu, rfl, u2, u3, u4, u5, u6, u7, u8⟩ := hu
  obtain ⟨g, c, cur, rfl, h2, h3, h4, h5, h6, h7, h8⟩ := h
  have hnews : ∀ j x, (dnCells [m])[j]? = some x → w.cell? ((⟨gu, 0, none⟩ : Addr).add j) = some x := houn.cells rfl
  have hnl : (dnCells [m]).length = 1 * i.size := by rw [dnCells_len, hz2]; rfl
  by_cases hroom : L.length + 1 ≤ c
  · have hpos : 0 < L.length := by
      by_cases e : L.length = 0
      · have := h8 (by rw [e]; rfl); omega
      · omega
    have hr := run_append_room (P := Try.prog) w 61 61 63 i Try.underlying61 hi g L.length c cur h3 ⟨gu, 0, none⟩ 1 cu (dnCells [m]) hnl hnews (dnCells_one _) hroom (by rw [hnl, hz2]; omega)
    rw [hz2, dnCells_len] at hr
    have hcl : cur.toList.length = cur.size := Array.length_toList
    obtain ⟨N, hN⟩ : ∃ N, N = (cur.toList.take (L.length * 3) ++ dnCells [m] ++ cur.toList.drop (L.length * 3 + [m].length * 3)).toArray := ⟨_, rfl⟩
    rw [← hN] at hr
    have hNs : N.size = cur.size := by
      rw [hN, List.size_toArray, List.length_append, List.length_append, List.length_take, List.length_drop, dnCells_len, hcl]
      simp only [List.length_cons, List.length_nil]
      omega
    have hN4 : ∀ k, k ≤ L.length * 3 → N.toList.take k = cur.toList.take k := fun k hk => by
      rw [hN]
      simp only [List.append_assoc]
      rw [List.take_append_of_le_length (by rw [List.length_take, hcl]; omega), List.take_take, Nat.min_eq_left hk]
    have hN5 : N.toList.take ((L ++ [m]).length * 3) = dnCells (L ++ [m]) := by
      rw [hN, h7, ← dnCells_app, List.length_append, ← List.length_append, ← dnCells_len]
      exact List.take_left
    have hset := setRow_heap w g cur N _ _ h3
    have kp : ∀ (t : Bool) (M : List Dn) (x : Value), M.length ≤ L.length → DRow B t M x w → DRow B t M x (w.setRow g N) := fun t M x hM hx => by
      obtain ⟨g', c', cur', e1, e2, e3, e4, e5, e6, e7, e8⟩ := hx
      by_cases hg : g' = g
      · subst hg
        rw [h3] at e3
        injection e3 with e3
        injection e3 with e3 _ _
        subst e3
        exact ⟨g', c', N, e1, e2, hset, by rw [hNs]; exact e4, e5, e6, by rw [hN4 _ (Nat.mul_le_mul_right 3 hM)]; exact e7, e8⟩
      · exact ⟨g', c', cur', e1, e2, by rw [setRow_other _ _ _ _ hg]; exact e3, e4, e5, e6, e7, e8⟩
    have kp3 : ∀ x, DRow B false (L ++ [m]) x w → DRow B false (L ++ [m]) x (w.setRow g N) := fun x hx => by
      obtain ⟨g', c', cur', e1, e2, e3, e4, e5, e6, e7, e8⟩ := hx
      by_cases hg : g' = g
      · subst hg
        rw [h3] at e3
        injection e3 with e3
        injection e3 with e3 _ _
        subst e3
        exact ⟨g', c', N, e1, e2, hset, by rw [hNs]; exact e4, e5, e6, hN5, e8⟩
      · exact ⟨g', c', cur', e1, e2, by rw [setRow_other _ _ _ _ hg]; exact e3, e4, e5, e6, e7, e8⟩
    refine ⟨_, _, hr, ⟨rfl, rfl, rfl, by simp, fun k hk => setRow_other _ _ _ _ (by omega), fun x => kp _ _ x (by simp), fun x => kp _ _ x (by simp only [List.length_cons, List.length_nil]; omega), fun x => kp _ _ x (Nat.le_refl _), kp3⟩, ?_⟩
    exact ⟨g, c, N, by simp, h2, hset, by rw [hNs]; exact h4, by simpa using hroom, h6, hN5, fun e => by cases e⟩
  · have hr := run_append_grow (P := Try.prog) w 61 61 63 i z Try.underlying61 hi hz0 ⟨g, 0, none⟩ L.length c (dnCells L) (by rw [dnCells_len, hz2]) (hown.cells rfl) ⟨gu, 0, none⟩ 1 cu (dnCells [m]) hnl hnews (by omega) (by omega) (growslice_fits (by omega) (by rw [hz3]; omega))
    have hge := grownCap_ge w (L.length + 1) c 63
    have hcm := grownCap_le_maxLen w (L.length + 1) c 63 (by unfold maxLen; omega)
    have hb : Below w.heap.size w (w.drew.alloc (.cells ((dnCells L).toArray ++ (dnCells [m]).toArray ++ Builtin.zeroCells z.cells (grownCap w (L.length + 1) c 63 - (L.length + 1))) 63)) := ((Below.refl _ _).drew).alloc (Nat.le_refl _) _
    refine ⟨_, _, hr, DKeep.of hB hb, w.heap.size, _, _, by simp, hB, heap_alloc_new w.drew _, ?_, by simpa using hge, hcm, ?_, fun e => by cases e⟩
    · simp only [Array.size_append, List.size_toArray, size_zeroCells, hz1, dnCells_len, List.length_cons, List.length_nil]
      omega
    · simp only [Array.toList_append]
      rw [← dnCells_app, ← dnCells_len]
      exact List.take_left
theorem drun_bs0 (w : World) : (Instr.buildSlice 61 0 #[]).run Try.prog w = .ok (.slice (some ⟨w.heap.size, 0, none⟩) 0 0) (w.alloc (.cells #[] 63)) := by
  obtain ⟨i, z, hi, hz0, hz1, hz2, hz3⟩ := dnI
  unfold Instr.buildSlice
  have hr : Array.range 0 = #[] := rfl
  simp [run_underlying Try.underlying61, sizeOf, typeInfo, zeroValue, hi, hz2, Instr.fill, newRow, Sem.run_bind, hr]
theorem dwp_bs0 {op : Oper} {a : Act} {w : World} {K : Act → World → Prop} {Q : Exit → Act → World → Prop} (ho : op.op = .buildSlice 61 0 #[])
    (h : K (a.put op.dst (.slice (some ⟨w.heap.size, 0, none⟩) 0 0)) (w.alloc (.cells #[] 63))) : op.wp Try.prog a w K Q := by
  unfold Oper.wp execOp
  simp [ho, drun_bs0 w, Oper.upon]
  exact h
theorem drun_bs1 (w : World) (m : Dn) : (Instr.buildSlice 61 1 #[(0, .agg m.cells.toArray)]).run Try.prog w = .ok (.slice (some ⟨w.heap.size, 0, none⟩) 1 1) (w.alloc (.cells m.cells.toArray 63)) := by
  obtain ⟨i, z, hi, hz0, hz1, hz2, hz3⟩ := dnI
  unfold Instr.buildSlice
  have hr : Array.range 3 = #[0, 1, 2] := rfl
  simp [run_underlying Try.underlying61, sizeOf, typeInfo, zeroValue, hi, hz0, hz1, hz2, Instr.fill, newRow, Sem.run_bind, hr, Dn.cells, Value.cells]
theorem dwp_bs1 {op : Oper} {a : Act} {w : World} {K : Act → World → Prop} {Q : Exit → Act → World → Prop} (x : Operand) (m : Dn) (ho : op.op = .buildSlice 61 1 #[(0, x)]) (hx : a.eval x = .agg m.cells.toArray)
    (h : K (a.put op.dst (.slice (some ⟨w.heap.size, 0, none⟩) 1 1)) (w.alloc (.cells m.cells.toArray 63))) : op.wp Try.prog a w K Q := by
  unfold Oper.wp execOp
  simp [ho, hx, drun_bs1 w m, Oper.upon]
  exact h

theorem DKeep.refl {B : Nat} {L : List Dn} {m : Dn} {w : World} : DKeep B L m w w :=
  ⟨rfl, rfl, rfl, Nat.le_refl _, fun _ _ => rfl, fun _ h => h, fun _ h => h, fun _ h => h, fun _ h => h⟩
theorem drow_empty {B : Nat} (w : World) (hB : B ≤ w.heap.size) : DRow B true [] (.slice (some ⟨w.heap.size, 0, none⟩) 0 0) (w.alloc (.cells #[] 63)) :=
  ⟨w.heap.size, 0, #[], rfl, hB, heap_alloc_new w _, rfl, Nat.le_refl _, Nat.zero_le _, rfl, fun _ => rfl⟩
theorem drow_one {B : Nat} (w : World) (m : Dn) (hB : B ≤ w.heap.size) : DRow B true [m] (.slice (some ⟨w.heap.size, 0, none⟩) 1 1) (w.alloc (.cells m.cells.toArray 63)) :=
  ⟨w.heap.size, 1, m.cells.toArray, rfl, hB, heap_alloc_new w _, rfl, Nat.le_refl _, by unfold maxLen; omega, rfl, fun _ => rfl⟩
theorem dwp_app {op : Oper} {a : Act} {w : World} {K : Act → World → Prop} {Q : Exit → Act → World → Prop} (x y : Operand) (ho : op.op = .call { callee := .builtin .append, args := #[x, y], argTypes := #[61, 61] })
    (hty : op.type = 61) (u v v' : Value) (w' : World) (hx : a.eval x = u) (hy : a.eval y = v)
    (hr : (Builtin.append_ #[61, 61] 61 #[u, v]).run Try.prog w = .ok v' w') (h : K (a.put op.dst v') w') : op.wp Try.prog a w K Q := by
  unfold Oper.wp execOp
  simp only [ho, hty, resolve, invoke, builtin, Sem.run_bind, Sem.run_pure, Result.andThen_ok, List.map_toArray, List.map_cons, List.map_nil, hx, hy, hr]
  exact h
end Go.Proofs.Ythcomfcbdlobpaa
