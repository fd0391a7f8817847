/-
  The document's list of what is on its way, in memory: items, each with the word of its bits; rows of them.
-/
import Derived.Test.YtbhlgceicfjncaaSet17
import Derived.Test.YtbhlgceicfjncaaSet12
import Derived.Laws.Rows
import Derived.Laws.OwnMore
import Derived.Deep.MidRow
namespace Go.Proofs.Ytbhlgceicfjncaa
open Go.RowKit
set_option linter.unusedVariables false
set_option linter.unnecessarySimpa false
set_option linter.unusedSimpArgs false
set_option maxRecDepth 100000

abbrev Dj := Wj × Value
def dj0 : Dj := (wj0, .slice none 0 0)
def djc (d : Dj) : List Value := (d.1.m.cells d.1.sl).toList ++ [.int .i64 d.1.v, d.2]
theorem djc_len (d : Dj) : (djc d).length = 19 := rfl
def dcs : List Dj → List Value
  | [] => []
  | x :: J => djc x ++ dcs J
theorem dcs_len : ∀ J : List Dj, (dcs J).length = J.length * 19
  | [] => rfl
  | x :: J => by rw [dcs, List.length_append, dcs_len J, List.length_cons, djc_len]; omega
theorem dcs_app : ∀ J K : List Dj, dcs (J ++ K) = dcs J ++ dcs K
  | [], _ => rfl
  | x :: J, K => by rw [List.cons_append, dcs, dcs, dcs_app J K, List.append_assoc]
theorem dcs_at : ∀ (J : List Dj) (i j : Nat), i < J.length → j < 19 → (dcs J)[i * 19 + j]? = (djc (J.getD i dj0))[j]?
  | [], i, j, hi, _ => by simp at hi
  | x :: J, 0, j, _, hj => by
    rw [dcs, List.getElem?_append_left (by rw [djc_len]; omega)]
    simp
  | x :: J, i + 1, j, hi, hj => by
    rw [dcs, List.getElem?_append_right (by rw [djc_len]; omega)]
    have := dcs_at J i j (by simpa using hi) hj
    rw [show (i + 1) * 19 + j - (djc x).length = i * 19 + j by rw [djc_len]; omega, this]
    simp
theorem dcs_one1 (x : Dj) : dcs [x] = djc x := by rw [dcs, dcs, List.append_nil]
theorem dcs_take (J : List Dj) (i : Nat) : dcs (J.take i) = (dcs J).take (i * 19) := by
  rcases Nat.lt_or_ge i J.length with h | h
  · have e : dcs J = dcs (J.take i) ++ dcs (J.drop i) := by rw [← dcs_app, List.take_append_drop]
    have hl : (dcs (J.take i)).length = i * 19 := by rw [dcs_len, List.length_take]; omega
    rw [e, ← hl, List.take_left]
  · rw [List.take_of_length_le h, List.take_of_length_le (by rw [dcs_len]; omega)]
theorem dcs_drop (J : List Dj) (i : Nat) : dcs (J.drop i) = (dcs J).drop (i * 19) := by
  rcases Nat.lt_or_ge i J.length with h | h
  · have e : dcs J = dcs (J.take i) ++ dcs (J.drop i) := by rw [← dcs_app, List.take_append_drop]
    have hl : (dcs (J.take i)).length = i * 19 := by rw [dcs_len, List.length_take]; omega
    rw [e, ← hl, List.drop_left]
  · rw [List.drop_eq_nil_of_le h, List.drop_eq_nil_of_le (by rw [dcs_len]; omega)]; rfl
/-- A slice's word. -/
def IsSl (v : Value) : Prop := ∃ a n c, v = .slice a n c
theorem IsSl.one {v : Value} (h : IsSl v) : v.oneCell' = true := by obtain ⟨a, n, c, rfl⟩ := h; rfl
theorem djc_one (d : Dj) (h1 : IsSl d.1.sl) (h2 : IsSl d.2) : ∀ u ∈ djc d, u.oneCell' = true := by
  intro u h
  unfold djc at h
  simp only [Mg.cells, List.mem_append, List.mem_cons, List.not_mem_nil, or_false] at h
  rcases h with (rfl | rfl | rfl | rfl | rfl | rfl | rfl | rfl | rfl | rfl | rfl | rfl | rfl | rfl | rfl | rfl | rfl) | rfl | rfl <;> first | rfl | exact h1.one | exact h2.one
theorem dcs_one : ∀ (D : List Dj), (∀ d ∈ D, IsSl d.1.sl ∧ IsSl d.2) → ∀ u ∈ dcs D, u.oneCell' = true
  | [], _, u, h => by simp [dcs] at h
  | x :: J, hd, u, h => by
    rw [dcs, List.mem_append] at h
    rcases h with h | h
    · exact djc_one x (hd x (by simp)).1 (hd x (by simp)).2 u h
    · exact dcs_one J (fun d hm => hd d (by simp [hm])) u h
/-- The word of an item's bits. -/
def BvAt (w : World) (x : Wj) (bv : Value) : Prop :=
  (x.on = true ∧ ∃ b, bv = .slice (some ⟨b, 0, none⟩) 1 1 ∧ b < w.heap.size ∧ w.cell? ⟨b, 0, none⟩ = some (.int .i64 (x.k : Int))) ∨ (x.on = false ∧ bv = .slice none 0 0)
theorem BvAt.sl {w : World} {x : Wj} {bv : Value} (h : BvAt w x bv) : IsSl bv := by
  rcases h with ⟨_, b, rfl, _⟩ | ⟨_, rfl⟩
  · exact ⟨_, _, _, rfl⟩
  · exact ⟨_, _, _, rfl⟩
theorem WsAt.isSl {w : World} {sl : Value} {ws : List Wr} (h : WsAt w sl ws) : IsSl sl := by obtain ⟨a, n, c, rfl, _⟩ := h; exact ⟨_, _, _, rfl⟩
/-- The document's list: w is where messages' writes are, wx where the rest is. -/
structure DocW (w wx : World) (D : List Dj) (dv : Value) : Prop where
  own : wx.ownsRow 0 54 19 dv D.length (dcs D)
  sl : ∀ d ∈ D, WsAt w d.1.sl d.1.m.ws
  bv : ∀ d ∈ D, BvAt wx d.1 d.2
def docO (dv : Value) (D : List Dj) : Nat → Prop := fun k => dv.ownBlock = some k ∨ ∃ d ∈ D, d.2.ownBlock = some k
section
variable {w wx wy : World} {D : List Dj} {dv : Value}
theorem DocW.ones (h : DocW w wx D dv) : ∀ u ∈ dcs D, u.oneCell' = true := dcs_one D fun d hd => ⟨(h.sl d hd).isSl, (h.bv d hd).sl⟩
theorem DocW.lt (h : DocW w wx D dv) : ∀ k, docO dv D k → k < wx.heap.size := fun k hk => by
  rcases hk with hk | ⟨d, hd, hk⟩
  · exact (h.own.lt k hk).2
  · rcases h.bv d hd with ⟨_, b, e, hb, _⟩ | ⟨_, e⟩
    · rw [e] at hk; simp only [Value.ownBlock, Option.some.injEq] at hk; omega
    · rw [e] at hk; cases hk
theorem DocW.stay (h : DocW w wx D dv) (hs : ∀ k, docO dv D k → wy.heap[k]? = wx.heap[k]?) : DocW w wy D dv := by
  refine ⟨⟨h.own.1, ?_⟩, h.sl, fun d hd => ?_⟩
  · rcases h.own.2 with h2 | ⟨k, c, cur, rfl, h3, h4, h5⟩
    · exact .inl h2
    · exact .inr ⟨k, c, cur, rfl, h3, (hs k (.inl rfl)).trans h4, h5⟩
  · rcases h.bv d hd with ⟨h1, b, e, hb, hc⟩ | h2
    · have hh := hs b (.inr ⟨d, hd, by rw [e]; rfl⟩)
      refine .inl ⟨h1, b, e, ?_, by rw [World.cell?, hh]; exact hc⟩
      have : wx.heap[b]? ≠ none := by rw [Array.getElem?_eq_getElem hb]; simp
      rw [← hh] at this
      exact Classical.byContradiction fun hn => this (Array.getElem?_eq_none (by omega))
    · exact .inr h2
theorem DocW.below (h : DocW w wx D dv) (hb : Below wx.heap.size wx wy) : DocW w wy D dv := h.stay fun k hk => hb.block k (h.lt k hk)
theorem DocW.base {w2 : World} (h : DocW w wx D dv) (hb : Below w.heap.size w w2) : DocW w2 wx D dv := ⟨h.own, fun d hd => (h.sl d hd).below hb, h.bv⟩
theorem DocW.slice (h : DocW w wx D dv) : ∃ a c, dv = .slice a D.length c ∧ D.length ≤ c ∧ c ≤ maxLen ∧ (a = none → c = 0) := by
  rcases h.own.2 with ⟨rfl, h0⟩ | ⟨k, c, cur, rfl, _, _, h1, h2, _⟩
  · exact ⟨none, 0, by rw [h0], by omega, by decide, fun _ => rfl⟩
  · exact ⟨_, c, rfl, h1, h2, fun e => by cases e⟩
/-- The cells of an item. -/
theorem DocW.at_ (h : DocW w wx D dv) {i : Nat} (hi : i < D.length) : ∃ k c, dv = .slice (some ⟨k, 0, none⟩) D.length c ∧ k < wx.heap.size ∧ ∀ j, j < 19 → wx.cell? ⟨k, i * 19 + j, none⟩ = (djc (D.getD i dj0))[j]? := by
  rcases h.own.2 with ⟨rfl, h0⟩ | ⟨k, c, cur, rfl, _, h2, h3, h4, h5, h6⟩
  · omega
  · refine ⟨k, c, rfl, (Array.getElem?_eq_some_iff.1 h2).1, fun j hj => ?_⟩
    rw [cell_of_row _ _ _ _ _ _ h2, ← dcs_at D i j hi hj, ← h6, List.getElem?_take, if_pos (by omega), Array.getElem?_toList]
theorem dj_mem {i : Nat} (hi : i < D.length) : D.getD i dj0 ∈ D := by rw [List.getD, List.getElem?_eq_getElem hi]; exact List.getElem_mem hi
theorem dj_fst (i : Nat) : (D.getD i dj0).1 = (D.map Prod.fst).getD i wj0 := by
  rw [List.getD, List.getD, List.getElem?_map]
  cases D[i]? <;> rfl
end
theorem itemInfo2 : (Try.prog.info? 54).map (fun i => (i.zero.map (fun z => z.cells.size), i.size, i.bytes)) = some (some 19, 19, 208) := by kernel_rfl
theorem itemI : ∃ i z, Try.prog.info? 54 = some i ∧ i.zero = some z ∧ z.cells.size = 19 ∧ i.size = 19 ∧ i.bytes = 208 := by
  have h := itemInfo2
  cases hq : Try.prog.info? 54 with
  | none => rw [hq] at h; simp at h
  | some i =>
    rw [hq] at h
    simp only [Option.map_some, Option.some.injEq, Prod.mk.injEq] at h
    obtain ⟨h1, h2, h3⟩ := h
    cases hz : i.zero with
    | none => rw [hz] at h1; simp at h1
    | some z => rw [hz] at h1; exact ⟨i, z, rfl, hz, by simpa using h1, h2, h3⟩
/-- A struct in the midst of a row is loaded. -/
theorem wpList_load_midW {P : Program} {ops : Array Oper} {rest : List Oper} {o : Oper} {a : Act} {w : World} {Q : Exit → Act → World → Prop} (hw : Region.wanted o (yielded ops a.tmps) = true) (ty : TypeId) (x : Operand) (ho : o.op = .load ty x)
    (g off : Nat) (hx : a.eval x = .pointer (some ⟨g, off, none⟩)) (cs : List Value) (d : TypeDesc) (hg : w.rangeAt g off cs)
    (hu : P.underlying ty = some d) (hd : d.isRow = true) (hi : (P.info? ty).map (·.size) = some cs.length)
    (h : wpList P ops Q rest (a.put o.dst (.agg cs.toArray)) w) : wpList P ops Q (o :: rest) a w := by
  unfold wpList
  rw [if_pos hw]
  refine .inl ?_
  unfold Oper.wp execOp
  simp only [ho, hx, Instr.loadAt, Instr.sureAddr, Sem.run_bind, Sem.run_pure, Result.andThen_ok, run_loadVar_mid w g off ty cs d hg hu hd hi]
  exact h
end Go.Proofs.Ytbhlgceicfjncaa
