/-
  The document's Do, part by part.
-/
import Derived.Test.YtbhlgceicfjncaaSet27
import Derived.Test.YtbhlgceicfjncaaSet09
import Derived.Test.YtbhlgceicfjncaaSet12
import Derived.Test.YtbhlgceicfjncaaSet01
import Derived.Test.YtbhlgceicfjncaaSet03
import Derived.Deep.DeepCutAuto
import Derived.Deep.CutBlock
import Derived.Laws.AppendOwn
import Derived.Test.YtbhlgceicfjncaaSet44
import Derived.Test.YtbhlgceicfjncaaSet21
import Derived.Deep.MidRow
namespace Go.Proofs.Ytbhlgceicfjncaa
open Go.RowKit
set_option linter.unusedVariables false
set_option linter.unnecessarySimpa false
set_option linter.unusedSimpArgs false
set_option maxRecDepth 100000

theorem irun_bs1 (w : World) (d : Dj) : (Instr.buildSlice 30 1 #[(0, .agg (djc d).toArray)]).run Try.prog w = .ok (.slice (some ⟨w.heap.size, 0, none⟩) 1 1) (w.alloc (.cells (djc d).toArray 54)) := by
  obtain ⟨i, z, hi, hz0, hz1, hz2, hz3⟩ := itemI
  unfold Instr.buildSlice
  have hr : Array.range 19 = #[0, 1, 2, 3, 4, 5, 6, 7, 8, 9, 10, 11, 12, 13, 14, 15, 16, 17, 18] := rfl
  simp [run_underlying Try.underlying30, sizeOf, typeInfo, hi, hz0, hz1, hz2, Instr.fill, newRow, Sem.run_bind, hr, djc, Mg.cells, Value.cells]
theorem iwp_bs1 {op : Oper} {a : Act} {w : World} {K : Act → World → Prop} {Q : Exit → Act → World → Prop} (x : Operand) (d : Dj) (ho : op.op = .buildSlice 30 1 #[(0, x)]) (hx : a.eval x = .agg (djc d).toArray)
    (h : K (a.put op.dst (.slice (some ⟨w.heap.size, 0, none⟩) 1 1)) (w.alloc (.cells (djc d).toArray 54))) : op.wp Try.prog a w K Q := by
  unfold Oper.wp execOp
  simp [ho, hx, irun_bs1 w d, Oper.upon]
  exact h
theorem irun_bs0 (w : World) : (Instr.buildSlice 30 0 #[]).run Try.prog w = .ok (.slice (some ⟨w.heap.size, 0, none⟩) 0 0) (w.alloc (.cells #[] 54)) := by
  obtain ⟨i, z, hi, hz0, hz1, hz2, hz3⟩ := itemI
  unfold Instr.buildSlice
  have hr : Array.range 0 = #[] := rfl
  simp [run_underlying Try.underlying30, sizeOf, typeInfo, zeroValue, hi, hz2, Instr.fill, newRow, Sem.run_bind, hr]
theorem iwp_bs0 {op : Oper} {a : Act} {w : World} {K : Act → World → Prop} {Q : Exit → Act → World → Prop} (ho : op.op = .buildSlice 30 0 #[])
    (h : K (a.put op.dst (.slice (some ⟨w.heap.size, 0, none⟩) 0 0)) (w.alloc (.cells #[] 54))) : op.wp Try.prog a w K Q := by
  unfold Oper.wp execOp
  simp [ho, irun_bs0 w, Oper.upon]
  exact h
theorem itemSz : (Try.prog.info? 54).map (·.size) = some 19 := by kernel_rfl
set_option maxHeartbeats 800000 in
theorem odd_any (a : Option Addr) (n c : Nat) (w : World) :
    Calls Try.prog 30 #[.slice a n c] w fun e w' => e = .returned (.bool (decide (0 < n))) ∧ w = w' := by
  go_enter Try.func30, Try.ntmps30
  go_wp2_with fail
  go_ret
  exact ⟨rfl, rfl⟩
/-- Do's boxes: the call at H, the result's message at R, in a world behind w. -/
structure DoS (w : World) (H R : Nat) (C Z : Array Value) (W : World) : Prop where
  h : W.heap[H]? = some (.cells C 40 (0, 0))
  r : W.heap[R]? = some (.cells Z 38 (0, 0))
  below : Below w.heap.size w W
  hw : w.heap.size ≤ H
  rw_ : w.heap.size ≤ R
  ne : H ≠ R
section
variable {w W W' : World} {H R : Nat} {C Z : Array Value}
theorem DoS.start (w : World) (C Z : Array Value) : DoS w w.heap.size (w.heap.size + 1) C Z ((w.alloc (.cells C 40)).alloc (.cells Z 38)) :=
  ⟨by rw [heap_alloc_old _ _ (by simp)]; exact heap_alloc_new w _, two_second w _ _, two_below w _ _, Nat.le_refl _, Nat.le_succ _, by omega⟩
theorem DoS.hl (h : DoS w H R C Z W) : H < W.heap.size := (Array.getElem?_eq_some_iff.1 h.h).1
theorem DoS.rl (h : DoS w H R C Z W) : R < W.heap.size := (Array.getElem?_eq_some_iff.1 h.r).1
theorem DoS.keep (h : DoS w H R C Z W) (h1 : W'.heap[H]? = W.heap[H]?) (h2 : W'.heap[R]? = W.heap[R]?) (hb : Below w.heap.size w W') : DoS w H R C Z W' := ⟨h1.trans h.h, h2.trans h.r, hb, h.hw, h.rw_, h.ne⟩
theorem DoS.later (h : DoS w H R C Z W) (hb : Below W.heap.size W W') : DoS w H R C Z W' := h.keep (hb.block H h.hl) (hb.block R h.rl) (h.below.trans (hb.mono h.below.size))
theorem DoS.c (h : DoS w H R C Z W) (j : Nat) : W.cell? ⟨H, j, none⟩ = C[j]? := cell_of_row _ _ _ _ _ _ h.h
/-- The result is written. -/
theorem DoS.res (h : DoS w H R C Z W) (D : Array Value) : (W.setRow R D).heap[R]? = some (.cells D 38 (0, 0)) ∧ Below w.heap.size w (W.setRow R D) := ⟨setRow_heap _ _ _ _ _ _ h.r, below_setRow h.below h.rw_ D⟩
end
theorem doc_res {wb W : World} {D : List Dj} {dv : Value} {w : World} {H R : Nat} {C Z : Array Value} (h : DocW wb W D dv) (hs : DoS w H R C Z W) (hR : ¬ docO dv D R) (Y : Array Value) : DocW wb (W.setRow R Y) D dv := h.stay fun k hk => setRow_other W R k Y (fun e => hR (e ▸ hk))
theorem results_4W {P : Program} {fn : Func} {a p u x : Tmp} {ty : TypeId} (h : fn.results = #[.tmp a, .cell p ty, .tmp u, .tmp x]) (tmps : Array Value) (w : World) (g : Nat) (t : TypeId) (cs : Array Value) (fr : Nat × Nat) (d : TypeDesc) (z v y : Value)
    (hp : tmps.getD p undef = .pointer (some ⟨g, 0, none⟩)) (hg : w.heap[g]? = some (.cells cs t fr))
    (hu : P.underlying ty = some d) (hd : (match d with | .struct _ | .array _ _ => true | _ => false) = true) (hi : (P.info? ty).map (·.size) = some cs.size) (hz : tmps.getD a undef = z) (hv : tmps.getD u undef = v) (hy : tmps.getD x undef = y) :
    (results fn tmps).run P w = .ok (.tuple #[z, .agg cs, v, y]) w := by
  have hp' : tmps[p]?.getD undef = .pointer (some ⟨g, 0, none⟩) := by simpa using hp
  have hv' : tmps[u]?.getD undef = v := by simpa using hv
  have hy' : tmps[x]?.getD undef = y := by simpa using hy
  have hz' : tmps[a]?.getD undef = z := by simpa using hz
  simp [results, h, hp', hv', hy', hz', asAddr, run_loadVar_row w g t ty cs fr d hg hu hd hi, Result.andThen]
/-- Results: a slice, a message, two more. -/
theorem do_ret {w : World} {R : Nat} {cs : Array Value} {tmps : Array Value} {v4 v6 v7 : Value} (h : w.heap[R]? = some (.cells cs 38 (0, 0))) (hcs : cs.size = 17)
    (h4 : tmps.getD 4 undef = v4) (h5 : tmps.getD 5 undef = .pointer (some ⟨R, 0, none⟩)) (h6 : tmps.getD 6 undef = v6) (h7 : tmps.getD 7 undef = v7) :
    (results Try.f14 tmps).run Try.prog w = .ok (.tuple #[v4, .agg cs, v6, v7]) w :=
  results_4W rfl tmps w R _ _ _ _ _ _ _ h5 h Try.underlying38 rfl (by rw [hcs]; exact msg_size) h4 h6 h7
/-- The rest without one, step by step. -/
theorem erase_same {D : List Dj} {j : Nat} (h : j < D.length) : (D.take (j + 1)).eraseIdx j = (D.take j).eraseIdx j := by
  have hl : (D.take j).length = j := by rw [List.length_take]; omega
  have e : D.take (j + 1) = D.take j ++ [D[j]] := by rw [List.take_add_one, List.getElem?_eq_getElem h]; rfl
  have e2 : (D.take j).eraseIdx j = D.take j := List.eraseIdx_of_length_le (by omega)
  rw [e2, e, List.eraseIdx_append_of_length_le (by omega), hl, Nat.sub_self]
  simp
theorem erase_step {D : List Dj} {i j : Nat} (h : i < D.length) (hne : ¬ i = j) : (D.take (i + 1)).eraseIdx j = (D.take i).eraseIdx j ++ [D.getD i dj0] := by
  have hl : (D.take i).length = i := by rw [List.length_take]; omega
  have e : D.take (i + 1) = D.take i ++ [D.getD i dj0] := by rw [List.take_add_one, List.getElem?_eq_getElem h, List.getD, List.getElem?_eq_getElem h]; rfl
  rw [e]
  rcases Nat.lt_or_ge j i with h2 | h2
  · rw [List.eraseIdx_append_of_lt_length (by omega)]
  · rw [List.eraseIdx_of_length_le (by rw [List.length_append, hl]; simp; omega), List.eraseIdx_of_length_le (by omega)]
/-- What Do comes to. -/
def DoOut (wb w : World) (D : List Dj) (dv : Value) (J : List Wj) (m : Mg) (ok : Bool) (er : Int) (e : Ending) (w' : World) : Prop :=
  ∃ D' dv' sl, e = .returned (.tuple #[dv', .agg (m.cells sl), .bool ok, .int .i64 er]) ∧ D'.map Prod.fst = J ∧ DocW wb w' D' dv' ∧ WsAt w' sl m.ws ∧ Below w.heap.size w w' ∧ (∀ k, docO dv' D' k → docO dv D k ∨ w.heap.size ≤ k)
section
variable {wb w W : World} {D : List Dj} {dv rv : Value} {H R j : Nat} {C Z : Array Value}
/-- The end of a call of Do: the rest without the j-th. -/
theorem DoOut.rest (hS : DoS w H R C Z W) (hR : R = w.heap.size + 1) (hlt : ∀ k, docO dv D k → k < w.heap.size) (hD : DocW wb W D dv) (hO : W.ownsRow (R + 1) 54 19 rv (D.eraseIdx j).length (dcs (D.eraseIdx j)))
    {J : List Wj} (hJ : (D.map Prod.fst).eraseIdx j = J) (m : Mg) (sl : Value) (ok : Bool) (er : Int) (hsl : WsAt (W.setRow R (m.cells sl)) sl m.ws) :
    DoOut wb w D dv J m ok er (.returned (.tuple #[rv, .agg (m.cells sl), .bool ok, .int .i64 er])) (W.setRow R (m.cells sl)) := by
  have hk : ∀ k, k ≠ R → (W.setRow R (m.cells sl)).heap[k]? = W.heap[k]? := fun k hk => setRow_other W R k _ hk
  have hm : ∀ d ∈ D.eraseIdx j, d ∈ D := fun d hd => List.mem_of_mem_eraseIdx hd
  refine ⟨D.eraseIdx j, rv, sl, rfl, ?_, ⟨⟨hO.1, ?_⟩, fun d hd => hD.sl d (hm d hd), fun d hd => ?_⟩, hsl, (hS.res _).2, fun k hk2 => ?_⟩
  · rw [← hJ, List.eraseIdx_eq_take_drop_succ, List.eraseIdx_eq_take_drop_succ, List.map_append, List.map_take, List.map_drop]
  · rcases hO.2 with h2 | ⟨k, c, cur, e, h3, h4, h5⟩
    · exact .inl h2
    · exact .inr ⟨k, c, cur, e, Nat.zero_le _, (hk k (by omega)).trans h4, h5⟩
  · have hd2 := (hD.stay (wy := W.setRow R (m.cells sl)) fun k hk2 => hk k (by have := hlt k hk2; omega)).bv d (hm d hd)
    exact hd2
  · rcases hk2 with hk2 | ⟨d, hd, hk2⟩
    · exact .inr (by have := (hO.lt k hk2).1; omega)
    · exact .inl (.inr ⟨d, hm d hd, hk2⟩)
/-- The end of a call of Do: the list as it came. -/
theorem DoOut.same (hS : DoS w H R C Z W) (hR : R = w.heap.size + 1) (hlt : ∀ k, docO dv D k → k < w.heap.size) (hD : DocW wb W D dv) {J : List Wj} (hJ : D.map Prod.fst = J) (m : Mg) (sl : Value) (ok : Bool) (er : Int) (hsl : WsAt (W.setRow R (m.cells sl)) sl m.ws) :
    DoOut wb w D dv J m ok er (.returned (.tuple #[dv, .agg (m.cells sl), .bool ok, .int .i64 er])) (W.setRow R (m.cells sl)) :=
  ⟨D, dv, sl, rfl, hJ, hD.stay fun k hk => setRow_other W R k _ (by have := hlt k hk; omega), hsl, (hS.res _).2, fun k hk => .inl hk⟩
end
/-- Worlds of a region that writes the message at R, and nothing else. -/
structure RlR (R : Nat) (Y : Array Value) (w w' : World) : Prop where
  os : w'.os = w.os
  tape : w'.tape = w.tape
  output : w'.output = w.output
  size : w'.heap.size = w.heap.size
  block : ∀ k, k < w.heap.size → k ≠ R → w'.heap[k]? = w.heap[k]?
  r : w'.heap[R]? = w.heap[R]? ∨ w'.heap[R]? = some (.cells Y 38 (0, 0))
section
variable {R : Nat} {Y : Array Value} {w w' w2 : World}
theorem RlR.refl : RlR R Y w w := ⟨rfl, rfl, rfl, rfl, fun _ _ _ => rfl, .inl rfl⟩
theorem RlR.drew (w : World) : RlR R Y w w.drew := ⟨rfl, rfl, rfl, rfl, fun _ _ _ => rfl, .inl rfl⟩
theorem RlR.trans (h : RlR R Y w w') (g : RlR R Y w' w2) : RlR R Y w w2 :=
  ⟨g.os.trans h.os, g.tape.trans h.tape, g.output.trans h.output, g.size.trans h.size, fun k hk hn => (g.block k (by rw [h.size]; exact hk) hn).trans (h.block k hk hn), g.r.elim (fun e => h.r.elim (fun e2 => .inl (e.trans e2)) (fun e2 => .inr (e.trans e2))) .inr⟩
theorem RlR.keep (h : RlR R Y w w') (hr : w.heap[R]? = some (.cells Y 38 (0, 0))) : w'.heap[R]? = some (.cells Y 38 (0, 0)) := h.r.elim (fun e => e.trans hr) id
theorem RlR.store {V : Array Value} (hr : w.heap[R]? = some (.cells V 38 (0, 0))) : RlR R Y w (w.setRow R Y) := ⟨rfl, rfl, rfl, by simp, fun k _ hn => setRow_other w R k Y hn, .inr (setRow_heap w R V Y _ _ hr)⟩
end
theorem RlR.done {R : Nat} {Y : Array Value} {w w' : World} (h : RlR R Y w w') (hr : w'.heap[R]? = some (.cells Y 38 (0, 0))) {V : Array Value} (hV : w.heap[R]? = some (.cells V 38 (0, 0))) : Below (w.setRow R Y).heap.size (w.setRow R Y) w' :=
  ⟨h.os, h.tape, h.output, by rw [h.size]; simp, fun k hk => by
    by_cases e : k = R
    · subst e; rw [hr]; exact (setRow_heap w k V Y _ _ hV).symm
    · rw [setRow_other w R k Y e]; exact h.block k (by simpa using hk) e⟩
theorem DoOut.later {wb w W W' : World} {D : List Dj} {dv : Value} {J : List Wj} {m : Mg} {ok : Bool} {er : Int} {e : Ending} (h : DoOut wb w D dv J m ok er e W) (hb : Below W.heap.size W W') : DoOut wb w D dv J m ok er e W' := by
  obtain ⟨D', dv', sl, h1, h2, h3, h4, h5, h6⟩ := h
  exact ⟨D', dv', sl, h1, h2, h3.below hb, h4.below hb, h5.trans (hb.mono h5.size), h6⟩
theorem msgcells_no {m : Mg} {sl : Value} (hsl : IsSl sl) {o : Nat} {a c : ByteArray} {b : Bool} (h1 : (m.cells sl)[o]? = some (.string a)) (h2 : (m.cells sl)[o + 1]? = some (.bool b)) (h3 : (m.cells sl)[o + 2]? = some (.string c)) : False := by
  obtain ⟨x, y, z, rfl⟩ := hsl
  have hlt : o + 2 < 17 := (Array.getElem?_eq_some_iff.1 h3).1
  unfold Mg.cells at h1 h2 h3
  have hcs : o = 0 ∨ o = 1 ∨ o = 2 ∨ o = 3 ∨ o = 4 ∨ o = 5 ∨ o = 6 ∨ o = 7 ∨ o = 8 ∨ o = 9 ∨ o = 10 ∨ o = 11 ∨ o = 12 ∨ o = 13 ∨ o = 14 := by omega
  rcases hcs with rfl | rfl | rfl | rfl | rfl | rfl | rfl | rfl | rfl | rfl | rfl | rfl | rfl | rfl | rfl
  all_goals first | (simp at h1; done) | (simp at h2; done) | (simp at h3; done)
/-- Writes do not lie in a message. -/
theorem WsAt.other_msg {w : World} {sl sl0 : Value} {ws : List Wr} {R : Nat} {m : Mg} (h : WsAt w sl ws) (hsl : IsSl sl0) (hR : w.heap[R]? = some (.cells (m.cells sl0) 38 (0, 0))) (cs : Array Value) : WsAt (w.setRow R cs) sl ws := by
  obtain ⟨a, len, cap, h1, h2, h3⟩ := h
  refine ⟨a, len, cap, h1, h2, fun i hi => ?_⟩
  obtain ⟨b, off, ha, hlt, c0, c1, c2⟩ := h3 i hi
  have hne : b ≠ R := fun e => by
    subst e
    rw [cell_of_row _ _ _ _ _ _ hR] at c0 c1 c2
    exact msgcells_no hsl c0 c1 c2
  have hb := setRow_other w R b cs hne
  exact ⟨b, off, ha, by simpa using hlt, by rw [World.cell?, hb]; exact c0, by rw [World.cell?, hb]; exact c1, by rw [World.cell?, hb]; exact c2⟩
def psi25 (R M : Nat) (rv : Value) (Y : Array Value) (e : Int) (t : Nat) (v : Value) (W : World) : Prop :=
  match t with
  | 4 => v = rv
  | 5 => v = .pointer (some ⟨R, 0, none⟩)
  | 6 => v = .bool (decide (e = 0))
  | 9 => v = rv
  | 15 => v = .pointer (some ⟨M, 0, none⟩)
  | 16 => v = .int .i64 e
  | 118 => v = rv
  | 119 => v = .agg Y
  | 120 => v = .int .i64 e
  | 121 => v = .bool (decide (e = 0))
  | _ => True
end Go.Proofs.Ytbhlgceicfjncaa

namespace Go.Proofs.Ytbhlgceicfjncaa
open Go.RowKit
set_option linter.unusedVariables false
set_option linter.unnecessarySimpa false
set_option linter.unusedSimpArgs false
set_option maxRecDepth 100000

/-- A row of the call's own, from block B on, that begins with the cells of these versions; 'tight': it has no room. -/
def wRRow (B : Nat) (tight : Bool) (L : List Dj) (v : Value) (w : World) : Prop :=
  ∃ h cap cur, v = .slice (some ⟨h, 0, none⟩) L.length cap ∧ B ≤ h ∧ w.heap[h]? = some (.cells cur 54 (0, 0)) ∧ cur.size = cap * 19 ∧ L.length ≤ cap ∧ cap ≤ maxLen ∧ cur.toList.take (L.length * 19) = dcs L ∧ (tight = true → cap = L.length)
section
variable {B : Nat} {tight : Bool} {L M : List Dj} {v : Value} {w w' : World}
theorem wRRow.below (h : wRRow B tight L v w) (hb : Below w.heap.size w w') : wRRow B tight L v w' := by
  obtain ⟨g, cap, cur, h1, h2, h3, h4⟩ := h
  exact ⟨g, cap, cur, h1, h2, (hb.block g (Array.getElem?_eq_some_iff.1 h3).1).trans h3, h4⟩
theorem wRRow.own (h : wRRow B tight L v w) : w.ownsRow B 54 19 v L.length (dcs L) := by
  obtain ⟨g, cap, cur, h1, h2, h3, h4, h5, h6, h7, _⟩ := h
  exact ⟨dcs_len L, .inr ⟨g, cap, cur, h1, h2, h3, h5, h6, h4, h7⟩⟩
end

/-- 'append([]Item{}, l...)'. -/
theorem wrapp_first {B : Nat} (w : World) (v : Value) (a : Option Addr) (len cap : Nat) (L : List Dj) (h : wRRow B true [] v w) (hz : w.ownsRow 0 54 19 (.slice a len cap) len (dcs L)) (hlen : L.length = len) (hone : ∀ u ∈ dcs L, u.oneCell' = true) (hl : len ≤ 100000) (ha : a = none → cap = 0) (hB : B ≤ w.heap.size) :
    ∃ v' w', (Builtin.append_ #[30, 30] 30 #[v, .slice a len cap]).run Try.prog w = .ok v' w' ∧ Below w.heap.size w w' ∧ wRRow B (L.length == 0) L v' w' := by
  obtain ⟨i, z, hi, hz0, hz1, hz2, hz3⟩ := itemI
  by_cases h0 : len = 0
  · subst h0
    have hL : L = [] := List.eq_nil_of_length_eq_zero hlen
    subst hL
    cases a with
    | none =>
      rw [ha rfl]
      exact ⟨v, w, run_append_owned_none (P := Try.prog) (w := w) B _ _ _ i 19 Try.underlying30 hi v 0 (dcs []) h.own, Below.refl _ _, h⟩
    | some ad =>
      obtain ⟨g, c, cur, rfl, h2, h3, h4, h5, h6, h7, h8⟩ := h
      have hr := run_append_room (P := Try.prog) w 30 30 54 i Try.underlying30 hi g 0 c cur h3 ad 0 cap [] (by simp) (by simp) (by simp) (by omega) (by simp)
      have hself : (cur.toList.take (0 * i.size) ++ [] ++ cur.toList.drop (0 * i.size + ([] : List Value).length)).toArray = cur := by simp
      rw [hself, setRow_self w g cur _ _ h3] at hr
      exact ⟨_, w, hr, Below.refl _ _, g, c, cur, rfl, h2, h3, h4, h5, h6, h7, fun _ => h8 rfl⟩
  · have hL : ¬ L.length = 0 := by omega
    obtain ⟨b, cap', e, _, _⟩ := own_slice hz (by omega)
    injection e with e1 _ e3
    subst e1 e3
    have hzn := hz.cells rfl
    obtain ⟨g, c, cur, rfl, h2, h3, h4, h5, h6, h7, h8⟩ := h
    have hc0 : c = 0 := h8 rfl
    subst hc0
    have hr := run_append_grow (P := Try.prog) w 30 30 54 i z Try.underlying30 hi hz0 ⟨g, 0, none⟩ 0 0 [] (by simp) (by simp) ⟨b, 0, none⟩ len cap (dcs L) (by rw [dcs_len, hz2, hlen]) hzn (by omega) (by omega) (growslice_fits (by omega) (by rw [hz3]; omega))
    have hge := grownCap_ge w (0 + len) 0 54
    have hcm := grownCap_le_maxLen w (0 + len) 0 54 (by unfold maxLen; omega)
    refine ⟨_, _, hr, ?_, w.heap.size, _, _, by rw [hlen, Nat.zero_add], hB, heap_alloc_new w.drew _, ?_, ?_, hcm, ?_, ?_⟩
    · exact ((Below.refl _ _).drew).alloc (Nat.le_refl _) _
    · simp only [Array.size_append, List.size_toArray, size_zeroCells, hz1, dcs_len, List.length_nil]
      omega
    · omega
    · simp only [Array.toList_append, List.nil_append, List.append_assoc]
      rw [← dcs_len L]
      exact List.take_left
    · intro e; simp at e; subst e; simp at hL

/-- What worlds keep while a region makes a row. -/
structure wRKeep (B : Nat) (L : List Dj) (m : Dj) (w w' : World) : Prop where
  os : w'.os = w.os
  tape : w'.tape = w.tape
  output : w'.output = w.output
  size : w.heap.size ≤ w'.heap.size
  block : ∀ k, k < B → w'.heap[k]? = w.heap[k]?
  k0 : ∀ v, wRRow B true [] v w → wRRow B true [] v w'
  k1 : ∀ v, wRRow B true [m] v w → wRRow B true [m] v w'
  k2 : ∀ v, wRRow B (L.length == 0) L v w → wRRow B (L.length == 0) L v w'
  k3 : ∀ v, wRRow B false (L ++ [m]) v w → wRRow B false (L ++ [m]) v w'
section
variable {B : Nat} {L : List Dj} {m : Dj} {w w' w2 : World}
theorem wRKeep.of (hB : B ≤ w.heap.size) (hb : Below w.heap.size w w') : wRKeep B L m w w' :=
  ⟨hb.os, hb.tape, hb.output, hb.size, fun k hk => hb.block k (by omega), fun _ h => h.below hb, fun _ h => h.below hb, fun _ h => h.below hb, fun _ h => h.below hb⟩
theorem wRKeep.trans (h : wRKeep B L m w w') (g : wRKeep B L m w' w2) : wRKeep B L m w w2 :=
  ⟨g.os.trans h.os, g.tape.trans h.tape, g.output.trans h.output, Nat.le_trans h.size g.size, fun k hk => (g.block k hk).trans (h.block k hk), fun v x => g.k0 v (h.k0 v x), fun v x => g.k1 v (h.k1 v x), fun v x => g.k2 v (h.k2 v x), fun v x => g.k3 v (h.k3 v x)⟩
theorem wRKeep.below (hB : B ≤ w.heap.size) (h : wRKeep B L m w w') : Below B w w' := ⟨h.os, h.tape, h.output, h.size, h.block⟩
end

/-- 'append(row, item)'. -/
theorem wrapp_second {B : Nat} (w : World) (v u : Value) (L : List Dj) (m : Dj) (h : wRRow B (L.length == 0) L v w) (hu : wRRow B true [m] u w) (hone1 : ∀ u ∈ dcs [m], u.oneCell' = true) (hl : L.length ≤ 100000) (hB : B ≤ w.heap.size) :
    ∃ v' w', (Builtin.append_ #[30, 30] 30 #[v, u]).run Try.prog w = .ok v' w' ∧ wRKeep B L m w w' ∧ wRRow B false (L ++ [m]) v' w' := by
  obtain ⟨i, z, hi, hz0, hz1, hz2, hz3⟩ := itemI
  have hown := h.own
  have houn := hu.own
  obtain ⟨gu, cu, curu, rfl, u2, u3, u4, u5, u6, u7, u8⟩ := hu
  obtain ⟨g, c, cur, rfl, h2, h3, h4, h5, h6, h7, h8⟩ := h
  have hnews : ∀ j x, (dcs [m])[j]? = some x → w.cell? ((⟨gu, 0, none⟩ : Addr).add j) = some x := houn.cells rfl
  have hnl : (dcs [m]).length = 1 * i.size := by rw [dcs_len, hz2]; rfl
  by_cases hroom : L.length + 1 ≤ c
  · have hpos : 0 < L.length := by
      by_cases e : L.length = 0
      · have := h8 (by rw [e]; rfl); omega
      · omega
    have hr := run_append_room (P := Try.prog) w 30 30 54 i Try.underlying30 hi g L.length c cur h3 ⟨gu, 0, none⟩ 1 cu (dcs [m]) hnl hnews (hone1) hroom (by rw [hnl, hz2]; omega)
    rw [hz2, dcs_len] at hr
    have hcl : cur.toList.length = cur.size := Array.length_toList
    obtain ⟨N, hN⟩ : ∃ N, N = (cur.toList.take (L.length * 19) ++ dcs [m] ++ cur.toList.drop (L.length * 19 + [m].length * 19)).toArray := ⟨_, rfl⟩
    rw [← hN] at hr
    have hNs : N.size = cur.size := by
      rw [hN, List.size_toArray, List.length_append, List.length_append, List.length_take, List.length_drop, dcs_len, hcl]
      simp only [List.length_cons, List.length_nil]
      omega
    have hN4 : ∀ k, k ≤ L.length * 19 → N.toList.take k = cur.toList.take k := fun k hk => by
      rw [hN]
      simp only [List.append_assoc]
      rw [List.take_append_of_le_length (by rw [List.length_take, hcl]; omega), List.take_take, Nat.min_eq_left hk]
    have hN5 : N.toList.take ((L ++ [m]).length * 19) = dcs (L ++ [m]) := by
      rw [hN, h7, ← dcs_app, List.length_append, ← List.length_append, ← dcs_len]
      exact List.take_left
    have hset := setRow_heap w g cur N _ _ h3
    have kp : ∀ (t : Bool) (M : List Dj) (x : Value), M.length ≤ L.length → wRRow B t M x w → wRRow B t M x (w.setRow g N) := fun t M x hM hx => by
      obtain ⟨g', c', cur', e1, e2, e3, e4, e5, e6, e7, e8⟩ := hx
      by_cases hg : g' = g
      · subst hg
        rw [h3] at e3
        injection e3 with e3
        injection e3 with e3 _ _
        subst e3
        exact ⟨g', c', N, e1, e2, hset, by rw [hNs]; exact e4, e5, e6, by rw [hN4 _ (Nat.mul_le_mul_right 19 hM)]; exact e7, e8⟩
      · exact ⟨g', c', cur', e1, e2, by rw [setRow_other _ _ _ _ hg]; exact e3, e4, e5, e6, e7, e8⟩
    have kp3 : ∀ x, wRRow B false (L ++ [m]) x w → wRRow B false (L ++ [m]) x (w.setRow g N) := fun x hx => by
      obtain ⟨g', c', cur', e1, e2, e3, e4, e5, e6, e7, e8⟩ := hx
      by_cases hg : g' = g
      · subst hg
        rw [h3] at e3
        injection e3 with e3
        injection e3 with e3 _ _
        subst e3
        exact ⟨g', c', N, e1, e2, hset, by rw [hNs]; exact e4, e5, e6, hN5, e8⟩
      · exact ⟨g', c', cur', e1, e2, by rw [setRow_other _ _ _ _ hg]; exact e3, e4, e5, e6, e7, e8⟩
    refine ⟨_, _, hr, ⟨rfl, rfl, rfl, by simp, fun k hk => setRow_other _ _ _ _ (by omega), fun x => kp _ _ x (by simp), fun x => kp _ _ x (by simp only [List.length_cons, List.length_nil]; omega), fun x => kp _ _ x (Nat.le_refl _), kp3⟩, ?_⟩
    exact ⟨g, c, N, by simp, h2, hset, by rw [hNs]; exact h4, by simpa using hroom, h6, hN5, fun e => by cases e⟩
  · have hr := run_append_grow (P := Try.prog) w 30 30 54 i z Try.underlying30 hi hz0 ⟨g, 0, none⟩ L.length c (dcs L) (by rw [dcs_len, hz2]) (hown.cells rfl) ⟨gu, 0, none⟩ 1 cu (dcs [m]) hnl hnews (by omega) (by omega) (growslice_fits (by omega) (by rw [hz3]; omega))
    have hge := grownCap_ge w (L.length + 1) c 54
    have hcm := grownCap_le_maxLen w (L.length + 1) c 54 (by unfold maxLen; omega)
    have hb : Below w.heap.size w (w.drew.alloc (.cells ((dcs L).toArray ++ (dcs [m]).toArray ++ Builtin.zeroCells z.cells (grownCap w (L.length + 1) c 54 - (L.length + 1))) 54)) := ((Below.refl _ _).drew).alloc (Nat.le_refl _) _
    refine ⟨_, _, hr, wRKeep.of hB hb, w.heap.size, _, _, by simp, hB, heap_alloc_new w.drew _, ?_, by simpa using hge, hcm, ?_, fun e => by cases e⟩
    · simp only [Array.size_append, List.size_toArray, size_zeroCells, hz1, dcs_len, List.length_cons, List.length_nil]
      omega
    · simp only [Array.toList_append]
      rw [← dcs_app, ← dcs_len]
      exact List.take_left
theorem wRKeep.refl {B : Nat} {L : List Dj} {m : Dj} {w : World} : wRKeep B L m w w :=
  ⟨rfl, rfl, rfl, Nat.le_refl _, fun _ _ => rfl, fun _ h => h, fun _ h => h, fun _ h => h, fun _ h => h⟩
theorem wrrow_empty {B : Nat} (w : World) (hB : B ≤ w.heap.size) : wRRow B true [] (.slice (some ⟨w.heap.size, 0, none⟩) 0 0) (w.alloc (.cells #[] 54)) :=
  ⟨w.heap.size, 0, #[], rfl, hB, heap_alloc_new w _, rfl, Nat.le_refl _, Nat.zero_le _, rfl, fun _ => rfl⟩
theorem wrrow_one {B : Nat} (w : World) (m : Dj) (hB : B ≤ w.heap.size) : wRRow B true [m] (.slice (some ⟨w.heap.size, 0, none⟩) 1 1) (w.alloc (.cells (djc m).toArray 54)) :=
  ⟨w.heap.size, 1, (djc m).toArray, rfl, hB, heap_alloc_new w _, rfl, Nat.le_refl _, by unfold maxLen; omega, rfl, fun _ => rfl⟩
theorem wrwp_app {op : Oper} {a : Act} {w : World} {K : Act → World → Prop} {Q : Exit → Act → World → Prop} (x y : Operand) (ho : op.op = .call { callee := .builtin .append, args := #[x, y], argTypes := #[30, 30] })
    (hty : op.type = 30) (u v v' : Value) (w' : World) (hx : a.eval x = u) (hy : a.eval y = v)
    (hr : (Builtin.append_ #[30, 30] 30 #[u, v]).run Try.prog w = .ok v' w') (h : K (a.put op.dst v') w') : op.wp Try.prog a w K Q := by
  unfold Oper.wp execOp
  simp only [ho, hty, resolve, invoke, builtin, Sem.run_bind, Sem.run_pure, Result.andThen_ok, List.map_toArray, List.map_cons, List.map_nil, hx, hy, hr]
  exact h
def psiWT (B H kb j R : Nat) (dv : Value) (D : List Dj) (m : Dj) (Z : Array Value) (t : Nat) (v : Value) (W : World) : Prop :=
  match t with
  | 0 => v = dv
  | 3 => v = .pointer (some ⟨H, 0, none⟩)
  | 5 => v = .pointer (some ⟨R, 0, none⟩)
  | 130 => wRRow B true [] v W
  | 131 => v = dv
  | 132 => wRRow B (D.length == 0) D v W
  | 133 => v = dv
  | 134 => v = .pointer (some ⟨H, 20, none⟩)
  | 135 => v = .int .i64 (j : Int)
  | 136 => v = .pointer (some ⟨kb, j * 19, none⟩)
  | 137 => v = .agg (djc m).toArray
  | 138 => wRRow B true [m] v W
  | 139 => wRRow B false (D ++ [m]) v W
  | 140 => v = .agg Z
  | 4 => wRRow B false (D ++ [m]) v W
  | 6 => v = .bool false
  | _ => True
theorem psiWT_stable {B H kb j R : Nat} {dv : Value} {D : List Dj} {m : Dj} {Z : Array Value} {t : Nat} {v : Value} {w w' : World} (h : psiWT B H kb j R dv D m Z t v w) (hb : wRKeep B D m w w') : psiWT B H kb j R dv D m Z t v w' := by
  by_cases e130 : t = 130
  · subst e130; exact hb.k0 v h
  by_cases e132 : t = 132
  · subst e132; exact hb.k2 v h
  by_cases e138 : t = 138
  · subst e138; exact hb.k1 v h
  by_cases e139 : t = 139
  · subst e139; exact hb.k3 v h
  by_cases e4 : t = 4
  · subst e4; exact hb.k3 v h
  unfold psiWT at h ⊢
  split at h <;> first | exact h | exact absurd rfl e130 | exact absurd rfl e132 | exact absurd rfl e138 | exact absurd rfl e139 | exact absurd rfl e4 | trivial
def psiWP (B H R : Nat) (dv : Value) (D : List Dj) (m : Dj) (mc : List Value) (ver : Int) (Z : Array Value) (t : Nat) (v : Value) (W : World) : Prop :=
  match t with
  | 0 => v = dv
  | 3 => v = .pointer (some ⟨H, 0, none⟩)
  | 5 => v = .pointer (some ⟨R, 0, none⟩)
  | 11 => v = .int .i64 ver
  | 73 => wRRow B true [] v W
  | 74 => v = dv
  | 75 => wRRow B (D.length == 0) D v W
  | 76 => v = .pointer (some ⟨H, 1, none⟩)
  | 77 => v = .agg mc.toArray
  | 78 => v = .int .i64 ver
  | 79 => v = .agg (djc m).toArray
  | 80 => wRRow B true [m] v W
  | 81 => wRRow B false (D ++ [m]) v W
  | 82 => v = .agg Z
  | 4 => wRRow B false (D ++ [m]) v W
  | 6 => v = .bool false
  | _ => True
theorem psiWP_stable {B H R : Nat} {dv : Value} {D : List Dj} {m : Dj} {mc : List Value} {ver : Int} {Z : Array Value} {t : Nat} {v : Value} {w w' : World} (h : psiWP B H R dv D m mc ver Z t v w) (hb : wRKeep B D m w w') : psiWP B H R dv D m mc ver Z t v w' := by
  by_cases e73 : t = 73
  · subst e73; exact hb.k0 v h
  by_cases e75 : t = 75
  · subst e75; exact hb.k2 v h
  by_cases e80 : t = 80
  · subst e80; exact hb.k1 v h
  by_cases e81 : t = 81
  · subst e81; exact hb.k3 v h
  by_cases e4 : t = 4
  · subst e4; exact hb.k3 v h
  unfold psiWP at h ⊢
  split at h <;> first | exact h | exact absurd rfl e73 | exact absurd rfl e75 | exact absurd rfl e80 | exact absurd rfl e81 | exact absurd rfl e4 | trivial
theorem wp_load_midO {P : Program} {o : Oper} {a : Act} {w : World} {K : Act → World → Prop} {Q : Exit → Act → World → Prop} (ty : TypeId) (x : Operand) (ho : o.op = .load ty x)
    (g off : Nat) (hx : a.eval x = .pointer (some ⟨g, off, none⟩)) (cs : List Value) (d : TypeDesc) (hg : w.rangeAt g off cs)
    (hu : P.underlying ty = some d) (hd : d.isRow = true) (hi : (P.info? ty).map (·.size) = some cs.length)
    (h : K (a.put o.dst (.agg cs.toArray)) w) : o.wp P a w K Q := by
  unfold Oper.wp execOp
  simp only [ho, hx, Instr.loadAt, Instr.sureAddr, Sem.run_bind, Sem.run_pure, Result.andThen_ok, run_loadVar_mid w g off ty cs d hg hu hd hi]
  exact h
/-- An item is built of a message and a version. -/
theorem iwp_bi {op : Oper} {a : Act} {w : World} {K : Act → World → Prop} {Q : Exit → Act → World → Prop} (x y : Operand) (m : Mg) (sl : Value) (ver : Int) (ho : op.op = .build 54 #[(0, x), (1, y)]) (hx : a.eval x = .agg (m.cells sl)) (hy : a.eval y = .int .i64 ver)
    (h : K (a.put op.dst (.agg ((m.cells sl).toList ++ [.int .i64 ver, Value.slice none 0 0]).toArray)) w) : op.wp Try.prog a w K Q := by
  have hb : (Instr.build 54 #[(0, .agg (m.cells sl)), (1, .int .i64 ver)]).run Try.prog w = .ok (.agg ((m.cells sl).toList ++ [.int .i64 ver, Value.slice none 0 0]).toArray) w := by
    unfold Mg.cells
    kernel_rfl
  unfold Oper.wp execOp
  simp [ho, hx, hy, hb, Oper.upon]
  exact h
theorem iwp_bi2 {op : Oper} {a : Act} {w : World} {K : Act → World → Prop} {Q : Exit → Act → World → Prop} (x y : Operand) (m : Mg) (sl : Value) (ver : Int) (mc Y : Array Value) (hm : mc = m.cells sl) (hY : Y = ((m.cells sl).toList ++ [.int .i64 ver, Value.slice none 0 0]).toArray) (ho : op.op = .build 54 #[(0, x), (1, y)]) (hx : a.eval x = .agg mc) (hy : a.eval y = .int .i64 ver)
    (h : K (a.put op.dst (.agg Y)) w) : op.wp Try.prog a w K Q := iwp_bi x y m sl ver ho (by rw [hx, hm]) hy (by rw [← hY]; exact h)
/-- The end of a call of Do: the list and one more. -/
theorem DoOut.snoc {wb w W : World} {D : List Dj} {dv v4 : Value} {H R : Nat} {C Z : Array Value} {m : Dj} (hS : DoS w H R C Z W) (hR : R = w.heap.size + 1) (hlt : ∀ k, docO dv D k → k < w.heap.size) (hD : DocW wb W D dv) (hv : wRRow (R + 1) false (D ++ [m]) v4 W)
    (hm : WsAt wb m.1.sl m.1.m.ws) (hbv : BvAt W m.1 m.2) (hbl : ∀ k, m.2.ownBlock = some k → docO dv D k) {J : List Wj} (hJ : D.map Prod.fst ++ [m.1] = J) (mm : Mg) (sl : Value) (ok : Bool) (er : Int) (hsl : WsAt W sl mm.ws) (hrow : W.heap[R]? = some (.cells (mm.cells sl) 38 (0, 0))) :
    DoOut wb w D dv J mm ok er (.returned (.tuple #[v4, .agg (mm.cells sl), .bool ok, .int .i64 er])) W := by
  have ho := hv.own
  refine ⟨D ++ [m], v4, sl, rfl, by rw [List.map_append, ← hJ]; rfl, ⟨⟨ho.1, ?_⟩, fun d hd => ?_, fun d hd => ?_⟩, hsl, hS.below, fun k hk => ?_⟩
  · rcases ho.2 with h2 | ⟨k, c, cur, e, h3, h4⟩
    · exact .inl h2
    · exact .inr ⟨k, c, cur, e, Nat.zero_le _, h4⟩
  · rcases List.mem_append.1 hd with hd | hd
    · exact hD.sl d hd
    · rw [List.mem_singleton.1 hd]; exact hm
  · rcases List.mem_append.1 hd with hd | hd
    · exact hD.bv d hd
    · rw [List.mem_singleton.1 hd]; exact hbv
  · rcases hk with hk | ⟨d, hd, hk⟩
    · exact .inr (by have := (ho.lt k hk).1; omega)
    · rcases List.mem_append.1 hd with hd | hd
      · exact .inl (.inr ⟨d, hd, hk⟩)
      · rw [List.mem_singleton.1 hd] at hk; exact .inl (hbl k hk)
end Go.Proofs.Ytbhlgceicfjncaa

namespace Go.Proofs.Ytbhlgceicfjncaa
open Go.RowKit
set_option linter.unusedVariables false
set_option linter.unnecessarySimpa false
set_option linter.unusedSimpArgs false
set_option maxRecDepth 100000

/-- A struct in the midst of a row is loaded: in every world of a class. -/
theorem quiet_midW {P : Program} {o : Oper} {a : Act} {C : World → Prop} {K : Act → Prop} (ty : TypeId) (x : Operand) (ho : o.op = .load ty x)
    (g off : Nat) (hx : a.eval x = .pointer (some ⟨g, off, none⟩)) (cs : List Value) (d : TypeDesc) (hg : ∀ w, C w → w.rangeAt g off cs)
    (hu : P.underlying ty = some d) (hd : d.isRow = true) (hi : (P.info? ty).map (·.size) = some cs.length)
    (h : K (a.put o.dst (.agg cs.toArray))) : o.quiet P a C K :=
  ⟨.agg cs.toArray, fun w hw => by
    unfold Oper.quietAt execOp
    simp only [ho, hx, Instr.loadAt, Instr.sureAddr, Sem.run_bind, Sem.run_pure, Result.andThen_ok, run_loadVar_mid w g off ty cs d (hg w hw) hu hd hi, Oper.quietUpon, and_self], h⟩
structure SetsW (b o : Nat) (vs cur : List Value) (t : TypeId) (w w' : World) : Prop where
  row : w'.heap[b]? = some (.cells (cur.take o ++ vs ++ cur.drop (o + vs.length)).toArray t (0, 0))
  other : ∀ k, k ≠ b → w'.heap[k]? = w.heap[k]?
  size : w'.heap.size = w.heap.size
  os : w'.os = w.os
  tape : w'.tape = w.tape
  output : w'.output = w.output
theorem setCells_row (b : Nat) (t : TypeId) : ∀ (vs : List Value) (o : Nat) (w : World) (cur : List Value), w.heap[b]? = some (.cells cur.toArray t (0, 0)) → o + vs.length ≤ cur.length → SetsW b o vs cur t w (w.setCells b o vs)
  | [], o, w, cur, h, _ => ⟨by show w.heap[b]? = _; rw [h]; simp, fun _ _ => rfl, rfl, rfl, rfl, rfl⟩
  | v :: vs, o, w, cur, h, hl => by
    have hl2 : o + (vs.length + 1) ≤ cur.length := by simpa using hl
    have h1 : (w.setCell ⟨b, o, none⟩ v).heap[b]? = some (.cells (cur.set o v).toArray t (0, 0)) := by rw [heap_setCell_same w b o _ _ _ h, List.setIfInBounds_toArray]
    have h2 := setCells_row b t vs (o + 1) _ _ h1 (by rw [List.length_set]; omega)
    have e : (cur.set o v).take (o + 1) ++ vs ++ (cur.set o v).drop (o + 1 + vs.length) = cur.take o ++ (v :: vs) ++ cur.drop (o + (v :: vs).length) := by
      rw [List.drop_set_of_lt (by omega), List.length_cons, show o + (vs.length + 1) = o + 1 + vs.length by omega, List.take_set, List.take_add_one, List.getElem?_eq_getElem (by omega)]
      rw [List.set_append_right _ _ (by rw [List.length_take]; omega), List.length_take, Nat.min_eq_left (by omega), Nat.sub_self]
      simp
    refine ⟨by rw [← e]; exact h2.row, fun k hk => (h2.other k hk).trans (Below.heap_setCell _ _ _ _ hk), h2.size.trans (by simp), h2.os, h2.tape, h2.output⟩
theorem dcs_set {D : List Dj} {j : Nat} (hj : j < D.length) (y : Dj) : dcs (D.set j y) = (dcs D).take (j * 19) ++ djc y ++ (dcs D).drop (j * 19 + 19) := by
  have e : D.set j y = D.take j ++ [y] ++ D.drop (j + 1) := by rw [List.set_eq_take_append_cons_drop, if_pos hj]; simp
  rw [e, dcs_app, dcs_app, dcs_one1, dcs_take, dcs_drop, show (j + 1) * 19 = j * 19 + 19 by omega]
theorem there_row {w : World} {b : Nat} {cur : Array Value} {t : TypeId} (h : w.heap[b]? = some (.cells cur t (0, 0))) {o n : Nat} (hl : o + n ≤ cur.size) : w.there b o n := fun j hj => by
  refine ⟨?_, frozen_of_row _ _ _ _ _ h⟩
  rw [cell_of_row _ _ _ _ _ _ h, Array.getElem?_eq_getElem (by omega)]
  rfl
/-- The end of a call of Do: the j-th is another. -/
theorem DoOut.set {wb w W : World} {D : List Dj} {dv : Value} {H R j h cap : Nat} {C Z cur : Array Value} {y : Dj} (hS : DoS w H R C Z W) (hR : R = w.heap.size + 1) (hlt : ∀ k, docO dv D k → k < w.heap.size) (hD : DocW wb W D dv) (hj : j < D.length)
    (hh : R + 1 ≤ h) (hcur : W.heap[h]? = some (.cells cur 54 (0, 0))) (hcs : cur.size = cap * 19) (hl1 : D.length ≤ cap) (hl2 : cap ≤ maxLen) (htk : cur.toList.take (D.length * 19) = dcs D)
    (hm : WsAt wb y.1.sl y.1.m.ws) (hbv : BvAt W y.1 y.2) (hbl : ∀ k, y.2.ownBlock = some k → w.heap.size ≤ k ∧ k ≠ h ∧ k ≠ R) {J : List Wj} (hJ : (D.map Prod.fst).set j y.1 = J) :
    DoOut wb w D dv J mg0 false 0 (.returned (.tuple #[.slice (some ⟨h, 0, none⟩) D.length cap, .agg (mg0.cells (.slice none 0 0)), .bool false, .int .i64 0])) ((W.setCells h (j * 19) (djc y)).setRow R (mg0.cells (.slice none 0 0))) := by
  have hcl : j * 19 + (djc y).length ≤ cur.toList.length := by rw [djc_len]; show _ ≤ cur.toList.length; rw [Array.length_toList, hcs]; omega
  have hs := setCells_row h 54 (djc y) (j * 19) W cur.toList (by rw [hcur]) hcl
  obtain ⟨W1, hW1⟩ : ∃ W1, W1 = W.setCells h (j * 19) (djc y) := ⟨_, rfl⟩
  rw [← hW1] at hs ⊢
  have hk : ∀ k, k ≠ R → k ≠ h → (W1.setRow R (mg0.cells (.slice none 0 0))).heap[k]? = W.heap[k]? := fun k h1 h2 => (setRow_other W1 R k _ h1).trans (hs.other k h2)
  have hsz : (W1.setRow R (mg0.cells (.slice none 0 0))).heap.size = W.heap.size := by rw [← hs.size]; simp
  have hstay := hD.stay (wy := W1.setRow R (mg0.cells (.slice none 0 0))) fun k h1 => hk k (by have := hlt k h1; omega) (by have := hlt k h1; omega)
  have hbs := hS.below
  refine ⟨D.set j y, _, .slice none 0 0, rfl, by rw [List.map_set]; exact hJ, ⟨⟨by rw [dcs_len], .inr ⟨h, cap, _, by rw [List.length_set], Nat.zero_le _, (setRow_other W1 R h _ (by omega)).trans hs.row, by rw [List.length_set]; exact hl1, hl2, ?_, ?_⟩⟩, fun d hd => ?_, fun d hd => ?_⟩, WsAt.nil _, ?_, fun k h1 => ?_⟩
  · rw [List.size_toArray, List.length_append, List.length_append, List.length_take, List.length_drop, djc_len, Array.length_toList]; rw [djc_len, Array.length_toList] at hcl; omega
  · rw [List.length_set, dcs_set hj, ← htk, djc_len]
    have h3 : cur.toList.length = cap * 19 := by rw [Array.length_toList]; exact hcs
    have h2 : D.length * 19 ≤ cur.toList.length := by rw [h3]; exact Nat.mul_le_mul_right _ hl1
    show (cur.toList.take (j * 19) ++ djc y ++ cur.toList.drop (j * 19 + 19)).take (D.length * 19) = _
    rw [List.take_append, List.take_of_length_le (by rw [List.length_append, List.length_take, djc_len]; omega), List.take_take, Nat.min_eq_left (by omega), List.length_append, List.length_take, djc_len, Nat.min_eq_left (by omega), List.drop_take]
  · rcases List.mem_or_eq_of_mem_set hd with hd | hd
    · exact hD.sl d hd
    · rw [hd]; exact hm
  · rcases List.mem_or_eq_of_mem_set hd with hd | hd
    · exact hstay.bv d hd
    · rw [hd]
      rcases hbv with ⟨h1, b, e, h2, h3⟩ | h2
      · have h4 := hbl b (by rw [e]; rfl)
        exact .inl ⟨h1, b, e, by rw [hsz]; exact h2, by rw [World.cell?, hk b h4.2.2 h4.2.1]; exact h3⟩
      · exact .inr h2
  · exact below_setRow ⟨hs.os.trans hbs.os, hs.tape.trans hbs.tape, hs.output.trans hbs.output, by rw [hs.size]; exact hbs.size, fun k h1 => (hs.other k (by omega)).trans (hbs.block k h1)⟩ (by omega) _
  · rcases h1 with h1 | ⟨d, hd, h1⟩
    · simp only [Value.ownBlock, Option.some.injEq] at h1; exact .inr (by omega)
    · rcases List.mem_or_eq_of_mem_set hd with hd | hd
      · exact .inl (.inr ⟨d, hd, h1⟩)
      · rw [hd] at h1; exact .inr (hbl k h1).1
def psi36 (B H kb i c j : Nat) (ver : Int) (mc Y ZI : Array Value) (t : Nat) (v : Value) (W : World) : Prop :=
  match t with
  | 0 => v = .slice (some ⟨kb, 0, none⟩) i c
  | 3 => v = .pointer (some ⟨H, 0, none⟩)
  | 169 => v = .slice (some ⟨kb, 0, none⟩) i c
  | 170 => v = .pointer (some ⟨H, 20, none⟩)
  | 171 => v = .int .i64 (j : Int)
  | 172 => v = .pointer (some ⟨kb, j * 19, none⟩)
  | 173 => v = .pointer (some ⟨kb, j * 19, none⟩)
  | 174 => v = .agg mc
  | 175 => v = .slice (some ⟨kb, 0, none⟩) i c
  | 176 => v = .pointer (some ⟨H, 20, none⟩)
  | 177 => v = .int .i64 (j : Int)
  | 178 => v = .pointer (some ⟨kb, j * 19, none⟩)
  | 179 => v = .pointer (some ⟨kb, j * 19 + 17, none⟩)
  | 180 => v = .int .i64 ver
  | 181 => v = .agg Y
  | 19 => ∃ g, v = .pointer (some ⟨g, 0, none⟩) ∧ B ≤ g ∧ W.heap[g]? = some (.cells ZI 54 (0, 0))
  | _ => True
theorem psi36_stable {B H kb i c j : Nat} {ver : Int} {mc Y ZI : Array Value} {t : Nat} {v : Value} {w w' : World} (h : psi36 B H kb i c j ver mc Y ZI t v w) (hb : Below w.heap.size w w') : psi36 B H kb i c j ver mc Y ZI t v w' := by
  by_cases e : t = 19
  · subst e
    obtain ⟨g, h1, h2, h3⟩ := h
    exact ⟨g, h1, h2, (hb.block g (Array.getElem?_eq_some_iff.1 h3).1).trans h3⟩
  · unfold psi36 at h ⊢
    split at h <;> first | exact h | exact absurd rfl e | trivial
end Go.Proofs.Ytbhlgceicfjncaa

namespace Go.Proofs.Ytbhlgceicfjncaa
open Go.RowKit
set_option linter.unusedVariables false
set_option linter.unnecessarySimpa false
set_option linter.unusedSimpArgs false
set_option maxRecDepth 100000

set_option maxHeartbeats 16000000 in
theorem do_drop_yes {wb w : World} {D : List Dj} {dv : Value} (o : Wo) (hd : DocW wb w D dv) (hl : D.length ≤ 1000) (hk : o.kind % 5 = 2) (hhas : hasW (D.map Prod.fst) o.i = true) :
    Calls Try.prog 14 #[dv, .agg o.cells] w (DoOut wb w D dv (cutJ (D.map Prod.fst) o.i) mg0 false 0) := by
  have hh := hasW_iff.1 hhas
  rw [List.length_map] at hh
  obtain ⟨j, hj⟩ : ∃ j : Nat, o.i = (j : Int) := ⟨o.i.toNat, by omega⟩
  have hjD : j < D.length := by omega
  obtain ⟨kb, c, rfl, hkb, _⟩ := hd.at_ hjD
  obtain ⟨kind, hkd⟩ : ∃ kind, kind = o.kind := ⟨_, rfl⟩
  have hz : (kind : Int) % 5 = 2 := by rw [hkd]; omega
  have HS0 := DoS.start w o.cells #[.int .i64 0, .int .i64 0, .int .i64 0, .int .i64 0, .int .i64 0, .int .i64 0, .int .u64 0, .int .u64 0, .string ⟨#[]⟩, .bool false, .int .u64 0, .bool false, .string ⟨#[]⟩, .slice none 0 0, .string ⟨#[]⟩, .int .u64 0, .int .u64 0]
  obtain ⟨w0, hw0⟩ : ∃ w0, w0 = (w.alloc (.cells o.cells 40)).alloc (.cells #[.int .i64 0, .int .i64 0, .int .i64 0, .int .i64 0, .int .i64 0, .int .i64 0, .int .u64 0, .int .u64 0, .string ⟨#[]⟩, .bool false, .int .u64 0, .bool false, .string ⟨#[]⟩, .slice none 0 0, .string ⟨#[]⟩, .int .u64 0, .int .u64 0] 38) := ⟨_, rfl⟩
  rw [← hw0] at HS0
  obtain ⟨R, hR⟩ : ∃ R, R = w.heap.size + 1 := ⟨_, rfl⟩
  obtain ⟨H, hH⟩ : ∃ H, H = w.heap.size := ⟨_, rfl⟩
  rw [← hR, ← hH] at HS0
  have HHR := Lib.hid (And.intro hR hH)
  have HDL := Lib.hid hd.lt
  have HD0 := Lib.hid (hd.below HS0.below)
  obtain ⟨C, hC⟩ : ∃ C, C = o.cells := ⟨_, rfl⟩
  rw [← hC] at HS0 hw0 ⊢
  have hc0 : C[0]? = some (.int .u8 (kind : Int)) := by rw [hC, hkd]; rfl
  have hc20 : C[20]? = some (.int .i64 o.i) := by rw [hC]; rfl
  have HS := Lib.hid HS0
  have c0 := (HS0.c 0).trans hc0
  have c20 := (HS0.c 20).trans hc20
  rw [hj] at c20 hc20
  obtain ⟨n, hn⟩ : ∃ n, n = D.length := ⟨_, rfl⟩
  have HL := Lib.hid hl
  have HN := Lib.hid hn
  have hjn : (j : Int) < (n : Int) := by omega
  have hjz : (0 : Int) ≤ (j : Int) := by omega
  have hnm : n ≤ 1000 := by omega
  have HC0 := Lib.hid hc0
  have HC20 := Lib.hid hc20
  have HJ := Lib.hid hj
  have HHAS := Lib.hid hhas
  have HONE := Lib.hid hd.ones
  rw [← hn]
  clear hd HS0 hc0 hc20 hC hkd hl hhas hh hkb hjD hn hj hk
  go_enter Try.func14, Try.ntmps14
  go_upto_region 1 with fail
  rw [← hw0, ← hR, ← hH]
  clear hw0 hR hH
  go_wp2_with fail
  go_loopg [9, 10] n (fun g s9 s10 wx => ∃ (i : Nat) (rv : Value), i + g = n ∧ rv = s9 ∧ s10 = .int .i64 i ∧ Hid (DoS w H R C #[.int .i64 0, .int .i64 0, .int .i64 0, .int .i64 0, .int .i64 0, .int .i64 0, .int .u64 0, .int .u64 0, .string ⟨#[]⟩, .bool false, .int .u64 0, .bool false, .string ⟨#[]⟩, .slice none 0 0, .string ⟨#[]⟩, .int .u64 0, .int .u64 0] wx) ∧ Hid (DocW wb wx D (.slice (some ⟨kb, 0, none⟩) n c)) ∧ Hid (wx.ownsRow (R + 1) 54 19 rv ((D.take i).eraseIdx j).length (dcs ((D.take i).eraseIdx j))))
  case atStart => exact ⟨0, _, by omega, rfl, rfl, HS, by rw [← HN.out] at HD0; exact HD0, Lib.hid (by rw [List.take_zero, List.eraseIdx_nil]; exact World.ownsRow_nil _ _ _ _)⟩
  case round =>
    obtain ⟨i, rv, hig, rfl, rfl, hS, hD, hO⟩ := hrel
    clear HS HD0
    have c0 := (hS.out.c 0).trans HC0.out
    have c20 := (hS.out.c 20).trans HC20.out
    cases gk with
    | succ g =>
      have hin : i < n := by omega
      have hiz : (i : Int) < (n : Int) := by omega
      obtain ⟨rl, hrl⟩ : ∃ rl, rl = ((D.take i).eraseIdx j).length := ⟨_, rfl⟩
      have hO2 := hO
      rw [← hrl] at hO2
      by_cases hij : i = j
      · have hne : ((i : Int) != (j : Int)) = false := by rw [bne_eq_false_iff_eq]; omega
        have he : (D.take (i + 1)).eraseIdx j = (D.take i).eraseIdx j := by rw [hij]; exact erase_same (by have := HN.out; omega)
        have HE := Lib.hid he
        clear he hij hO2 hrl
        go_wp2_with fail
        go_roundg g
        case measure => omega
        case rel => exact ⟨i + 1, _, by omega, rfl, by go_num, hS, hD, Lib.hid (by rw [HE.out]; exact hO.out)⟩
      · have hne : ((i : Int) != (j : Int)) = true := by rw [bne_iff_ne]; omega
        obtain ⟨d, hdd⟩ : ∃ d, d = D.getD i dj0 := ⟨_, rfl⟩
        have he : (D.take (i + 1)).eraseIdx j = (D.take i).eraseIdx j ++ [d] := by rw [hdd]; exact erase_step (by have := HN.out; omega) hij
        have HE := Lib.hid he
        obtain ⟨k', c', e', hkl, hci⟩ := hD.out.at_ (i := i) (by have := HN.out; omega)
        injection e' with e1 e2 e3
        injection e1 with e1
        injection e1 with e1
        subst e1
        rw [← hdd] at hci
        have hra : wr.rangeAt kb (i * 19) (djc d) := fun q u hq => (hci q (by rw [← djc_len d]; exact (List.getElem?_eq_some_iff.1 hq).1)).trans hq
        have HRA := Lib.hid hra
        have hon : ∀ u ∈ djc d, u.oneCell' = true := djc_one d (hD.out.sl d (by rw [hdd]; exact dj_mem (by have := HN.out; omega))).isSl (hD.out.bv d (by rw [hdd]; exact dj_mem (by have := HN.out; omega))).sl
        have HON := Lib.hid hon
        have hrlm : rl ≤ i := by rw [hrl]; exact Nat.le_trans (List.length_eraseIdx_le _ _) (by rw [List.length_take]; omega)
        have HRL := Lib.hid hrl
        have HBS := Lib.hid (show R + 1 ≤ wr.heap.size from hS.out.rl)
        obtain ⟨nf, nz, hi, hz0, hz1, hz2, hz3⟩ := itemI
        have HIJ := Lib.hid hij
        clear he hdd hci hra hon hrl hij hkl e2 e3
        go_wp2_with (first
          | (refine wpList_load_midW rfl 54 _ rfl kb (i * 19) (by simp only [Act.eval, Act.put]; first | rfl | simp) (djc d) _ HRA.out Try.underlying54 rfl itemSz ?_; dsimp only [Act.put])
          | (refine wpList_plain rfl fun K hK => iwp_bs1 _ d rfl (by first | rfl | simp) ?_; refine hK _ _ ?_; dsimp only [Act.put])
          | (at_builtin; refine wpList_append_own2 rfl _ _ 30 rfl (R + 1) 54 nf nz 19 208 Try.underlying30 hi hz0 hz2 hz3 hz1 (by decide) rv rl (dcs ((D.take i).eraseIdx j)) rfl (hO2.out.alloc _) ⟨wr.heap.size, 0, none⟩ 1 1 (djc d) rfl rfl (fun q u hq => by rw [Addr.add_lit, Nat.zero_add, cell_of_row _ _ _ _ _ _ (heap_alloc_new wr _)]; simpa using hq) HON.out (by unfold maxLen; omega) (by omega) (Nat.le_trans HBS.out (by simp)) ?_; intro v9 w9 hown9 hg9 hk9; have HO9 := Lib.hid hown9; have HG9 := Lib.hid hg9; clear hown9 hg9 hk9)
          )
        have hal := (Below.refl wr.heap.size wr).alloc (Nat.le_refl _) (.cells (djc d).toArray 54)
        have hno : ∀ q, q < R + 1 → some q ≠ rv.ownBlock := fun q hq e => by have := (hO2.out.lt q e.symm).1; omega
        have hkk : ∀ q, q < R + 1 → w9.heap[q]? = wr.heap[q]? := fun q hq => (HG9.out.block q (by have := HBS.out; simp; omega) (hno q hq)).trans (hal.block q (by have := HBS.out; omega))
        have hb9 : Below w.heap.size w w9 := ⟨HG9.out.os.trans (hal.os.trans hS.out.below.os), HG9.out.tape.trans (hal.tape.trans hS.out.below.tape), HG9.out.output.trans (hal.output.trans hS.out.below.output), Nat.le_trans hS.out.below.size (Nat.le_trans hal.size HG9.out.size), fun q hq => (hkk q (by have := HHR.out; omega)).trans (hS.out.below.block q hq)⟩
        have hS9 := Lib.hid (hS.out.keep (hkk H (by have := HHR.out; omega)) (hkk R (by omega)) hb9)
        have hD9 := Lib.hid (hD.out.stay (fun q hq => hkk q (by have h1 := HDL.out q; rw [← HN.out] at h1; have := h1 hq; have := HHR.out; omega)))
        clear hal hno hkk hb9
        go_wp2_with fail
        go_roundg g
        case measure => omega
        case rel => exact ⟨i + 1, _, by omega, rfl, by go_num, hS9, hD9, Lib.hid (by rw [HE.out, dcs_app, dcs_one1, List.length_append, ← HRL.out]; exact HO9.out)⟩
    | zero =>
      obtain rfl : i = n := by omega
      have he : D.take i = D := List.take_of_length_le (by have := HN.out; omega)
      rw [he] at hO
      have HDL2 := Lib.hid (show ∀ k, docO (.slice (some ⟨kb, 0, none⟩) i c) D k → k < w.heap.size from by rw [HN.out]; exact HDL.out)
      go_wp2_with ((refine wpList_store_row rfl 38 _ _ rfl R #[.int .i64 0, .int .i64 0, .int .i64 0, .int .i64 0, .int .i64 0, .int .i64 0, .int .u64 0, .int .u64 0, .string ⟨#[]⟩, .bool false, .int .u64 0, .bool false, .string ⟨#[]⟩, .slice none 0 0, .string ⟨#[]⟩, .int .u64 0, .int .u64 0] rfl rfl 38 _ hS.out.r msg_size rfl zero_one ?_))
      refine bodyPost_ret (do_ret (hS.out.res _).1 rfl rfl rfl rfl rfl) rfl ?_
      exact DoOut.rest hS.out HHR.out.1 HDL2.out hD.out (hO.out) (by unfold cutJ; rw [HHAS.out, HJ.out]; rfl) mg0 (.slice none 0 0) false 0 (WsAt.nil _)
end Go.Proofs.Ytbhlgceicfjncaa

namespace Go.Proofs.Ytbhlgceicfjncaa
open Go.RowKit
set_option linter.unusedVariables false
set_option linter.unnecessarySimpa false
set_option linter.unusedSimpArgs false
set_option maxRecDepth 100000

set_option maxHeartbeats 16000000 in
theorem do_take_no {wb w : World} {D : List Dj} {dv : Value} (o : Wo) (hd : DocW wb w D dv) (hl : D.length ≤ 1000) (hk : o.kind % 5 = 1) (hhas : hasW (D.map Prod.fst) o.i = false) :
    Calls Try.prog 14 #[dv, .agg o.cells] w (DoOut wb w D dv (cutJ (D.map Prod.fst) o.i) mg0 false 0) := by
  have hno := hasW_no.1 hhas
  rw [List.length_map] at hno
  obtain ⟨a, c, rfl, _⟩ := hd.slice
  obtain ⟨kind, hkd⟩ : ∃ kind, kind = o.kind := ⟨_, rfl⟩
  have hz : (kind : Int) % 5 = 1 := by rw [hkd]; omega
  have HS0 := DoS.start w o.cells #[.int .i64 0, .int .i64 0, .int .i64 0, .int .i64 0, .int .i64 0, .int .i64 0, .int .u64 0, .int .u64 0, .string ⟨#[]⟩, .bool false, .int .u64 0, .bool false, .string ⟨#[]⟩, .slice none 0 0, .string ⟨#[]⟩, .int .u64 0, .int .u64 0]
  obtain ⟨w0, hw0⟩ : ∃ w0, w0 = (w.alloc (.cells o.cells 40)).alloc (.cells #[.int .i64 0, .int .i64 0, .int .i64 0, .int .i64 0, .int .i64 0, .int .i64 0, .int .u64 0, .int .u64 0, .string ⟨#[]⟩, .bool false, .int .u64 0, .bool false, .string ⟨#[]⟩, .slice none 0 0, .string ⟨#[]⟩, .int .u64 0, .int .u64 0] 38) := ⟨_, rfl⟩
  rw [← hw0] at HS0
  obtain ⟨R, hR⟩ : ∃ R, R = w.heap.size + 1 := ⟨_, rfl⟩
  obtain ⟨H, hH⟩ : ∃ H, H = w.heap.size := ⟨_, rfl⟩
  rw [← hR, ← hH] at HS0
  have HHR := Lib.hid (And.intro hR hH)
  have HDL := Lib.hid hd.lt
  have HD0 := Lib.hid (hd.below HS0.below)
  obtain ⟨C, hC⟩ : ∃ C, C = o.cells := ⟨_, rfl⟩
  rw [← hC] at HS0 hw0 ⊢
  have hc0 : C[0]? = some (.int .u8 (kind : Int)) := by rw [hC, hkd]; rfl
  have hc20 : C[20]? = some (.int .i64 o.i) := by rw [hC]; rfl
  have HS := Lib.hid HS0
  have c0 := (HS0.c 0).trans hc0
  have c20 := (HS0.c 20).trans hc20
  obtain ⟨ii, hii⟩ : ∃ ii, ii = o.i := ⟨_, rfl⟩
  rw [← hii] at c20 hc20 hno
  obtain ⟨n, hn⟩ : ∃ n, n = D.length := ⟨_, rfl⟩
  rw [← hn] at hno
  have HL := Lib.hid hl
  have HN := Lib.hid hn
  have HHAS := Lib.hid hhas
  have HII := Lib.hid hii
  have hcs : (decide (0 ≤ ii) = false ∧ True) ∨ (decide (0 ≤ ii) = true ∧ decide (ii < (n : Int)) = false) := by
    by_cases h0 : 0 ≤ ii
    · exact .inr ⟨by simpa using h0, by rw [decide_eq_false_iff_not]; exact fun h1 => hno ⟨h0, h1⟩⟩
    · exact .inl ⟨by simpa using h0, trivial⟩
  have hns : (decide ((0 : Int) < (n : Int)) = false ∧ decide (0 < n) = false) ∨ (decide ((0 : Int) < (n : Int)) = true ∧ decide (0 < n) = true) := by
    by_cases h0 : n = 0
    · exact .inl ⟨by rw [decide_eq_false_iff_not]; omega, by rw [decide_eq_false_iff_not]; omega⟩
    · exact .inr ⟨by rw [decide_eq_true_eq]; omega, by rw [decide_eq_true_eq]; omega⟩
  have HC0 := Lib.hid hc0
  have HNS := Lib.hid hns
  rw [← hn]
  clear hd HS0 hc0 hc20 hC hkd hl hhas hno hn hii hns hk
  rcases hcs with ⟨d0, _⟩ | ⟨d0, d1⟩
  all_goals
    go_enter Try.func14, Try.ntmps14
    go_upto_region 1 with fail
    rw [← hw0, ← hR, ← hH]
    clear hw0 hR hH
    go_wp2_with fail
    go_loopg [9, 10] 0 (fun g s9 s10 wx => s9 = .slice none 0 0 ∧ s10 = .int .i64 0 ∧ wx = w0)
    case atStart => exact ⟨rfl, rfl, rfl⟩
    case round =>
      obtain ⟨rfl, rfl, rfl⟩ := hrel
      obtain ⟨w0, rfl⟩ : ∃ w0, w0 = wr := ⟨_, rfl⟩
      have c0 := (HS.out.c 0).trans HC0.out
      rcases HNS.out with ⟨n0, n1⟩ | ⟨n0, n1⟩
      all_goals
        go_wp2_with ((refine wpList_store_row rfl 38 _ _ rfl R #[.int .i64 0, .int .i64 0, .int .i64 0, .int .i64 0, .int .i64 0, .int .i64 0, .int .u64 0, .int .u64 0, .string ⟨#[]⟩, .bool false, .int .u64 0, .bool false, .string ⟨#[]⟩, .slice none 0 0, .string ⟨#[]⟩, .int .u64 0, .int .u64 0] rfl rfl 38 _ HS.out.r msg_size rfl zero_one ?_))
        refine bodyPost_ret (do_ret (HS.out.res _).1 rfl rfl rfl rfl rfl) rfl ?_
        rw [HN.out]
        have hJ : D.map Prod.fst = cutJ (D.map Prod.fst) o.i := by unfold cutJ; rw [HHAS.out]; rfl
        exact DoOut.same HS.out HHR.out.1 HDL.out HD0.out hJ mg0 (.slice none 0 0) false 0 (WsAt.nil _)
set_option maxHeartbeats 16000000 in
theorem do_drop_no {wb w : World} {D : List Dj} {dv : Value} (o : Wo) (hd : DocW wb w D dv) (hl : D.length ≤ 1000) (hk : o.kind % 5 = 2) (hhas : hasW (D.map Prod.fst) o.i = false) :
    Calls Try.prog 14 #[dv, .agg o.cells] w (DoOut wb w D dv (cutJ (D.map Prod.fst) o.i) mg0 false 0) := by
  have hno := hasW_no.1 hhas
  rw [List.length_map] at hno
  obtain ⟨a, c, rfl, _⟩ := hd.slice
  obtain ⟨kind, hkd⟩ : ∃ kind, kind = o.kind := ⟨_, rfl⟩
  have hz : (kind : Int) % 5 = 2 := by rw [hkd]; omega
  have HS0 := DoS.start w o.cells #[.int .i64 0, .int .i64 0, .int .i64 0, .int .i64 0, .int .i64 0, .int .i64 0, .int .u64 0, .int .u64 0, .string ⟨#[]⟩, .bool false, .int .u64 0, .bool false, .string ⟨#[]⟩, .slice none 0 0, .string ⟨#[]⟩, .int .u64 0, .int .u64 0]
  obtain ⟨w0, hw0⟩ : ∃ w0, w0 = (w.alloc (.cells o.cells 40)).alloc (.cells #[.int .i64 0, .int .i64 0, .int .i64 0, .int .i64 0, .int .i64 0, .int .i64 0, .int .u64 0, .int .u64 0, .string ⟨#[]⟩, .bool false, .int .u64 0, .bool false, .string ⟨#[]⟩, .slice none 0 0, .string ⟨#[]⟩, .int .u64 0, .int .u64 0] 38) := ⟨_, rfl⟩
  rw [← hw0] at HS0
  obtain ⟨R, hR⟩ : ∃ R, R = w.heap.size + 1 := ⟨_, rfl⟩
  obtain ⟨H, hH⟩ : ∃ H, H = w.heap.size := ⟨_, rfl⟩
  rw [← hR, ← hH] at HS0
  have HHR := Lib.hid (And.intro hR hH)
  have HDL := Lib.hid hd.lt
  have HD0 := Lib.hid (hd.below HS0.below)
  obtain ⟨C, hC⟩ : ∃ C, C = o.cells := ⟨_, rfl⟩
  rw [← hC] at HS0 hw0 ⊢
  have hc0 : C[0]? = some (.int .u8 (kind : Int)) := by rw [hC, hkd]; rfl
  have hc20 : C[20]? = some (.int .i64 o.i) := by rw [hC]; rfl
  have HS := Lib.hid HS0
  have c0 := (HS0.c 0).trans hc0
  have c20 := (HS0.c 20).trans hc20
  obtain ⟨ii, hii⟩ : ∃ ii, ii = o.i := ⟨_, rfl⟩
  rw [← hii] at c20 hc20 hno
  obtain ⟨n, hn⟩ : ∃ n, n = D.length := ⟨_, rfl⟩
  rw [← hn] at hno
  have HL := Lib.hid hl
  have HN := Lib.hid hn
  have HHAS := Lib.hid hhas
  have HII := Lib.hid hii
  have hcs : (decide (0 ≤ ii) = false ∧ True) ∨ (decide (0 ≤ ii) = true ∧ decide (ii < (n : Int)) = false) := by
    by_cases h0 : 0 ≤ ii
    · exact .inr ⟨by simpa using h0, by rw [decide_eq_false_iff_not]; exact fun h1 => hno ⟨h0, h1⟩⟩
    · exact .inl ⟨by simpa using h0, trivial⟩
  have hns : (decide ((0 : Int) < (n : Int)) = false ∧ decide (0 < n) = false) ∨ (decide ((0 : Int) < (n : Int)) = true ∧ decide (0 < n) = true) := by
    by_cases h0 : n = 0
    · exact .inl ⟨by rw [decide_eq_false_iff_not]; omega, by rw [decide_eq_false_iff_not]; omega⟩
    · exact .inr ⟨by rw [decide_eq_true_eq]; omega, by rw [decide_eq_true_eq]; omega⟩
  have HC0 := Lib.hid hc0
  have HNS := Lib.hid hns
  rw [← hn]
  clear hd HS0 hc0 hc20 hC hkd hl hhas hno hn hii hns hk
  rcases hcs with ⟨d0, _⟩ | ⟨d0, d1⟩
  all_goals
    go_enter Try.func14, Try.ntmps14
    go_upto_region 1 with fail
    rw [← hw0, ← hR, ← hH]
    clear hw0 hR hH
    go_wp2_with fail
    go_loopg [9, 10] 0 (fun g s9 s10 wx => s9 = .slice none 0 0 ∧ s10 = .int .i64 0 ∧ wx = w0)
    case atStart => exact ⟨rfl, rfl, rfl⟩
    case round =>
      obtain ⟨rfl, rfl, rfl⟩ := hrel
      obtain ⟨w0, rfl⟩ : ∃ w0, w0 = wr := ⟨_, rfl⟩
      have c0 := (HS.out.c 0).trans HC0.out
      rcases HNS.out with ⟨n0, n1⟩ | ⟨n0, n1⟩
      all_goals
        go_wp2_with ((refine wpList_store_row rfl 38 _ _ rfl R #[.int .i64 0, .int .i64 0, .int .i64 0, .int .i64 0, .int .i64 0, .int .i64 0, .int .u64 0, .int .u64 0, .string ⟨#[]⟩, .bool false, .int .u64 0, .bool false, .string ⟨#[]⟩, .slice none 0 0, .string ⟨#[]⟩, .int .u64 0, .int .u64 0] rfl rfl 38 _ HS.out.r msg_size rfl zero_one ?_))
        refine bodyPost_ret (do_ret (HS.out.res _).1 rfl rfl rfl rfl rfl) rfl ?_
        rw [HN.out]
        have hJ : D.map Prod.fst = cutJ (D.map Prod.fst) o.i := by unfold cutJ; rw [HHAS.out]; rfl
        exact DoOut.same HS.out HHR.out.1 HDL.out HD0.out hJ mg0 (.slice none 0 0) false 0 (WsAt.nil _)
set_option maxHeartbeats 16000000 in
theorem do_twice_no {wb w : World} {D : List Dj} {dv : Value} (o : Wo) (hd : DocW wb w D dv) (hl : D.length ≤ 1000) (hk : o.kind % 5 = 3) (hhas : hasW (D.map Prod.fst) o.i = false) :
    Calls Try.prog 14 #[dv, .agg o.cells] w (DoOut wb w D dv (twiceJ (D.map Prod.fst) o.i) mg0 false 0) := by
  have hno := hasW_no.1 hhas
  rw [List.length_map] at hno
  obtain ⟨a, c, rfl, _⟩ := hd.slice
  obtain ⟨kind, hkd⟩ : ∃ kind, kind = o.kind := ⟨_, rfl⟩
  have hz : (kind : Int) % 5 = 3 := by rw [hkd]; omega
  have HS0 := DoS.start w o.cells #[.int .i64 0, .int .i64 0, .int .i64 0, .int .i64 0, .int .i64 0, .int .i64 0, .int .u64 0, .int .u64 0, .string ⟨#[]⟩, .bool false, .int .u64 0, .bool false, .string ⟨#[]⟩, .slice none 0 0, .string ⟨#[]⟩, .int .u64 0, .int .u64 0]
  obtain ⟨w0, hw0⟩ : ∃ w0, w0 = (w.alloc (.cells o.cells 40)).alloc (.cells #[.int .i64 0, .int .i64 0, .int .i64 0, .int .i64 0, .int .i64 0, .int .i64 0, .int .u64 0, .int .u64 0, .string ⟨#[]⟩, .bool false, .int .u64 0, .bool false, .string ⟨#[]⟩, .slice none 0 0, .string ⟨#[]⟩, .int .u64 0, .int .u64 0] 38) := ⟨_, rfl⟩
  rw [← hw0] at HS0
  obtain ⟨R, hR⟩ : ∃ R, R = w.heap.size + 1 := ⟨_, rfl⟩
  obtain ⟨H, hH⟩ : ∃ H, H = w.heap.size := ⟨_, rfl⟩
  rw [← hR, ← hH] at HS0
  have HHR := Lib.hid (And.intro hR hH)
  have HDL := Lib.hid hd.lt
  have HD0 := Lib.hid (hd.below HS0.below)
  obtain ⟨C, hC⟩ : ∃ C, C = o.cells := ⟨_, rfl⟩
  rw [← hC] at HS0 hw0 ⊢
  have hc0 : C[0]? = some (.int .u8 (kind : Int)) := by rw [hC, hkd]; rfl
  have hc20 : C[20]? = some (.int .i64 o.i) := by rw [hC]; rfl
  have HS := Lib.hid HS0
  have c0 := (HS0.c 0).trans hc0
  have c20 := (HS0.c 20).trans hc20
  obtain ⟨ii, hii⟩ : ∃ ii, ii = o.i := ⟨_, rfl⟩
  rw [← hii] at c20 hc20 hno
  obtain ⟨n, hn⟩ : ∃ n, n = D.length := ⟨_, rfl⟩
  rw [← hn] at hno
  have HL := Lib.hid hl
  have HN := Lib.hid hn
  have HHAS := Lib.hid hhas
  have HII := Lib.hid hii
  have hcs : (decide (0 ≤ ii) = false ∧ True) ∨ (decide (0 ≤ ii) = true ∧ decide (ii < (n : Int)) = false) := by
    by_cases h0 : 0 ≤ ii
    · exact .inr ⟨by simpa using h0, by rw [decide_eq_false_iff_not]; exact fun h1 => hno ⟨h0, h1⟩⟩
    · exact .inl ⟨by simpa using h0, trivial⟩
  have hns : (decide ((0 : Int) < (n : Int)) = false ∧ decide (0 < n) = false) ∨ (decide ((0 : Int) < (n : Int)) = true ∧ decide (0 < n) = true) := by
    by_cases h0 : n = 0
    · exact .inl ⟨by rw [decide_eq_false_iff_not]; omega, by rw [decide_eq_false_iff_not]; omega⟩
    · exact .inr ⟨by rw [decide_eq_true_eq]; omega, by rw [decide_eq_true_eq]; omega⟩
  have HC0 := Lib.hid hc0
  have HNS := Lib.hid hns
  rw [← hn]
  clear hd HS0 hc0 hc20 hC hkd hl hhas hno hn hii hns hk
  rcases hcs with ⟨d0, _⟩ | ⟨d0, d1⟩
  all_goals
    go_enter Try.func14, Try.ntmps14
    go_upto_region 1 with fail
    rw [← hw0, ← hR, ← hH]
    clear hw0 hR hH
    go_wp2_with fail
    go_loopg [9, 10] 0 (fun g s9 s10 wx => s9 = .slice none 0 0 ∧ s10 = .int .i64 0 ∧ wx = w0)
    case atStart => exact ⟨rfl, rfl, rfl⟩
    case round =>
      obtain ⟨rfl, rfl, rfl⟩ := hrel
      obtain ⟨w0, rfl⟩ : ∃ w0, w0 = wr := ⟨_, rfl⟩
      have c0 := (HS.out.c 0).trans HC0.out
      rcases HNS.out with ⟨n0, n1⟩ | ⟨n0, n1⟩
      all_goals
        go_wp2_with ((refine wpList_store_row rfl 38 _ _ rfl R #[.int .i64 0, .int .i64 0, .int .i64 0, .int .i64 0, .int .i64 0, .int .i64 0, .int .u64 0, .int .u64 0, .string ⟨#[]⟩, .bool false, .int .u64 0, .bool false, .string ⟨#[]⟩, .slice none 0 0, .string ⟨#[]⟩, .int .u64 0, .int .u64 0] rfl rfl 38 _ HS.out.r msg_size rfl zero_one ?_))
        refine bodyPost_ret (do_ret (HS.out.res _).1 rfl rfl rfl rfl rfl) rfl ?_
        rw [HN.out]
        have hJ : D.map Prod.fst = twiceJ (D.map Prod.fst) o.i := by unfold twiceJ; rw [HHAS.out]; rfl
        exact DoOut.same HS.out HHR.out.1 HDL.out HD0.out hJ mg0 (.slice none 0 0) false 0 (WsAt.nil _)
set_option maxHeartbeats 16000000 in
theorem do_flip_no {wb w : World} {D : List Dj} {dv : Value} (o : Wo) (hd : DocW wb w D dv) (hl : D.length ≤ 1000) (hk : o.kind % 5 = 4) (hhas : hasW (D.map Prod.fst) o.i = false) :
    Calls Try.prog 14 #[dv, .agg o.cells] w (DoOut wb w D dv (flipJ (D.map Prod.fst) o.i o.bit) mg0 false 0) := by
  have hno := hasW_no.1 hhas
  rw [List.length_map] at hno
  obtain ⟨a, c, rfl, _⟩ := hd.slice
  obtain ⟨kind, hkd⟩ : ∃ kind, kind = o.kind := ⟨_, rfl⟩
  have hz : (kind : Int) % 5 = 4 := by rw [hkd]; omega
  have HS0 := DoS.start w o.cells #[.int .i64 0, .int .i64 0, .int .i64 0, .int .i64 0, .int .i64 0, .int .i64 0, .int .u64 0, .int .u64 0, .string ⟨#[]⟩, .bool false, .int .u64 0, .bool false, .string ⟨#[]⟩, .slice none 0 0, .string ⟨#[]⟩, .int .u64 0, .int .u64 0]
  obtain ⟨w0, hw0⟩ : ∃ w0, w0 = (w.alloc (.cells o.cells 40)).alloc (.cells #[.int .i64 0, .int .i64 0, .int .i64 0, .int .i64 0, .int .i64 0, .int .i64 0, .int .u64 0, .int .u64 0, .string ⟨#[]⟩, .bool false, .int .u64 0, .bool false, .string ⟨#[]⟩, .slice none 0 0, .string ⟨#[]⟩, .int .u64 0, .int .u64 0] 38) := ⟨_, rfl⟩
  rw [← hw0] at HS0
  obtain ⟨R, hR⟩ : ∃ R, R = w.heap.size + 1 := ⟨_, rfl⟩
  obtain ⟨H, hH⟩ : ∃ H, H = w.heap.size := ⟨_, rfl⟩
  rw [← hR, ← hH] at HS0
  have HHR := Lib.hid (And.intro hR hH)
  have HDL := Lib.hid hd.lt
  have HD0 := Lib.hid (hd.below HS0.below)
  obtain ⟨C, hC⟩ : ∃ C, C = o.cells := ⟨_, rfl⟩
  rw [← hC] at HS0 hw0 ⊢
  have hc0 : C[0]? = some (.int .u8 (kind : Int)) := by rw [hC, hkd]; rfl
  have hc20 : C[20]? = some (.int .i64 o.i) := by rw [hC]; rfl
  have HS := Lib.hid HS0
  have c0 := (HS0.c 0).trans hc0
  have c20 := (HS0.c 20).trans hc20
  obtain ⟨ii, hii⟩ : ∃ ii, ii = o.i := ⟨_, rfl⟩
  rw [← hii] at c20 hc20 hno
  obtain ⟨n, hn⟩ : ∃ n, n = D.length := ⟨_, rfl⟩
  rw [← hn] at hno
  have HL := Lib.hid hl
  have HN := Lib.hid hn
  have HHAS := Lib.hid hhas
  have HII := Lib.hid hii
  have hcs : (decide (0 ≤ ii) = false ∧ True) ∨ (decide (0 ≤ ii) = true ∧ decide (ii < (n : Int)) = false) := by
    by_cases h0 : 0 ≤ ii
    · exact .inr ⟨by simpa using h0, by rw [decide_eq_false_iff_not]; exact fun h1 => hno ⟨h0, h1⟩⟩
    · exact .inl ⟨by simpa using h0, trivial⟩
  have hns : (decide ((0 : Int) < (n : Int)) = false ∧ decide (0 < n) = false) ∨ (decide ((0 : Int) < (n : Int)) = true ∧ decide (0 < n) = true) := by
    by_cases h0 : n = 0
    · exact .inl ⟨by rw [decide_eq_false_iff_not]; omega, by rw [decide_eq_false_iff_not]; omega⟩
    · exact .inr ⟨by rw [decide_eq_true_eq]; omega, by rw [decide_eq_true_eq]; omega⟩
  have HC0 := Lib.hid hc0
  have HNS := Lib.hid hns
  rw [← hn]
  clear hd HS0 hc0 hc20 hC hkd hl hhas hno hn hii hns hk
  rcases hcs with ⟨d0, _⟩ | ⟨d0, d1⟩
  all_goals
    go_enter Try.func14, Try.ntmps14
    go_upto_region 1 with fail
    rw [← hw0, ← hR, ← hH]
    clear hw0 hR hH
    go_wp2_with fail
    go_loopg [9, 10] 0 (fun g s9 s10 wx => s9 = .slice none 0 0 ∧ s10 = .int .i64 0 ∧ wx = w0)
    case atStart => exact ⟨rfl, rfl, rfl⟩
    case round =>
      obtain ⟨rfl, rfl, rfl⟩ := hrel
      obtain ⟨w0, rfl⟩ : ∃ w0, w0 = wr := ⟨_, rfl⟩
      have c0 := (HS.out.c 0).trans HC0.out
      rcases HNS.out with ⟨n0, n1⟩ | ⟨n0, n1⟩
      all_goals
        go_wp2_with ((refine wpList_store_row rfl 38 _ _ rfl R #[.int .i64 0, .int .i64 0, .int .i64 0, .int .i64 0, .int .i64 0, .int .i64 0, .int .u64 0, .int .u64 0, .string ⟨#[]⟩, .bool false, .int .u64 0, .bool false, .string ⟨#[]⟩, .slice none 0 0, .string ⟨#[]⟩, .int .u64 0, .int .u64 0] rfl rfl 38 _ HS.out.r msg_size rfl zero_one ?_))
        refine bodyPost_ret (do_ret (HS.out.res _).1 rfl rfl rfl rfl rfl) rfl ?_
        rw [HN.out]
        have hJ : D.map Prod.fst = flipJ (D.map Prod.fst) o.i o.bit := by unfold flipJ; rw [if_neg (fun e => by rw [HHAS.out] at e; cases e.1)]
        exact DoOut.same HS.out HHR.out.1 HDL.out HD0.out hJ mg0 (.slice none 0 0) false 0 (WsAt.nil _)
end Go.Proofs.Ytbhlgceicfjncaa

namespace Go.Proofs.Ytbhlgceicfjncaa
open Go.RowKit
set_option linter.unusedVariables false
set_option linter.unnecessarySimpa false
set_option linter.unusedSimpArgs false
set_option maxRecDepth 100000

set_option maxHeartbeats 16000000 in
theorem do_flip_neg {wb w : World} {D : List Dj} {dv : Value} (o : Wo) (hd : DocW wb w D dv) (hl : D.length ≤ 1000) (hk : o.kind % 5 = 4) (hhas : hasW (D.map Prod.fst) o.i = true) (hbit : ¬ 0 ≤ o.bit) :
    Calls Try.prog 14 #[dv, .agg o.cells] w (DoOut wb w D dv (flipJ (D.map Prod.fst) o.i o.bit) mg0 false 0) := by
  have HBIT := Lib.hid hbit
  clear hbit
  have hh := hasW_iff.1 hhas
  rw [List.length_map] at hh
  obtain ⟨j, hj⟩ : ∃ j : Nat, o.i = (j : Int) := ⟨o.i.toNat, by omega⟩
  have hjD : j < D.length := by omega
  obtain ⟨kb, c, rfl, hkb, _⟩ := hd.at_ hjD
  obtain ⟨kind, hkd⟩ : ∃ kind, kind = o.kind := ⟨_, rfl⟩
  have hz : (kind : Int) % 5 = 4 := by rw [hkd]; omega
  have HS0 := DoS.start w o.cells #[.int .i64 0, .int .i64 0, .int .i64 0, .int .i64 0, .int .i64 0, .int .i64 0, .int .u64 0, .int .u64 0, .string ⟨#[]⟩, .bool false, .int .u64 0, .bool false, .string ⟨#[]⟩, .slice none 0 0, .string ⟨#[]⟩, .int .u64 0, .int .u64 0]
  obtain ⟨w0, hw0⟩ : ∃ w0, w0 = (w.alloc (.cells o.cells 40)).alloc (.cells #[.int .i64 0, .int .i64 0, .int .i64 0, .int .i64 0, .int .i64 0, .int .i64 0, .int .u64 0, .int .u64 0, .string ⟨#[]⟩, .bool false, .int .u64 0, .bool false, .string ⟨#[]⟩, .slice none 0 0, .string ⟨#[]⟩, .int .u64 0, .int .u64 0] 38) := ⟨_, rfl⟩
  rw [← hw0] at HS0
  obtain ⟨R, hR⟩ : ∃ R, R = w.heap.size + 1 := ⟨_, rfl⟩
  obtain ⟨H, hH⟩ : ∃ H, H = w.heap.size := ⟨_, rfl⟩
  rw [← hR, ← hH] at HS0
  have HHR := Lib.hid (And.intro hR hH)
  have HDL := Lib.hid hd.lt
  have HD0 := Lib.hid (hd.below HS0.below)
  obtain ⟨C, hC⟩ : ∃ C, C = o.cells := ⟨_, rfl⟩
  rw [← hC] at HS0 hw0 ⊢
  have hc0 : C[0]? = some (.int .u8 (kind : Int)) := by rw [hC, hkd]; rfl
  have hc20 : C[20]? = some (.int .i64 o.i) := by rw [hC]; rfl
  have HS := Lib.hid HS0
  have c0 := (HS0.c 0).trans hc0
  have c20 := (HS0.c 20).trans hc20
  have HC21 : Hid (C[21]? = some (.int .i64 o.bit)) := Lib.hid (by rw [hC]; rfl)
  rw [hj] at c20 hc20
  obtain ⟨n, hn⟩ : ∃ n, n = D.length := ⟨_, rfl⟩
  have HL := Lib.hid hl
  have HN := Lib.hid hn
  have hjn : (j : Int) < (n : Int) := by omega
  have hjz : (0 : Int) ≤ (j : Int) := by omega
  have hnm : n ≤ 1000 := by omega
  have HC0 := Lib.hid hc0
  have HC20 := Lib.hid hc20
  have HJ := Lib.hid hj
  have HHAS := Lib.hid hhas
  have HONE := Lib.hid hd.ones
  rw [← hn]
  clear hd HS0 hc0 hc20 hC hkd hl hhas hh hkb hjD hn hj hk
  go_enter Try.func14, Try.ntmps14
  go_upto_region 1 with fail
  rw [← hw0, ← hR, ← hH]
  clear hw0 hR hH
  go_wp2_with fail
  go_loopg [9, 10] n (fun g s9 s10 wx => ∃ (i : Nat) (rv : Value), i + g = n ∧ rv = s9 ∧ s10 = .int .i64 i ∧ Hid (DoS w H R C #[.int .i64 0, .int .i64 0, .int .i64 0, .int .i64 0, .int .i64 0, .int .i64 0, .int .u64 0, .int .u64 0, .string ⟨#[]⟩, .bool false, .int .u64 0, .bool false, .string ⟨#[]⟩, .slice none 0 0, .string ⟨#[]⟩, .int .u64 0, .int .u64 0] wx) ∧ Hid (DocW wb wx D (.slice (some ⟨kb, 0, none⟩) n c)) ∧ Hid (wx.ownsRow (R + 1) 54 19 rv ((D.take i).eraseIdx j).length (dcs ((D.take i).eraseIdx j))))
  case atStart => exact ⟨0, _, by omega, rfl, rfl, HS, by rw [← HN.out] at HD0; exact HD0, Lib.hid (by rw [List.take_zero, List.eraseIdx_nil]; exact World.ownsRow_nil _ _ _ _)⟩
  case round =>
    obtain ⟨i, rv, hig, rfl, rfl, hS, hD, hO⟩ := hrel
    clear HS HD0
    have c0 := (hS.out.c 0).trans HC0.out
    have c20 := (hS.out.c 20).trans HC20.out
    cases gk with
    | succ g =>
      have hin : i < n := by omega
      have hiz : (i : Int) < (n : Int) := by omega
      obtain ⟨rl, hrl⟩ : ∃ rl, rl = ((D.take i).eraseIdx j).length := ⟨_, rfl⟩
      have hO2 := hO
      rw [← hrl] at hO2
      by_cases hij : i = j
      · have hne : ((i : Int) != (j : Int)) = false := by rw [bne_eq_false_iff_eq]; omega
        have he : (D.take (i + 1)).eraseIdx j = (D.take i).eraseIdx j := by rw [hij]; exact erase_same (by have := HN.out; omega)
        have HE := Lib.hid he
        clear he hij hO2 hrl
        go_wp2_with fail
        go_roundg g
        case measure => omega
        case rel => exact ⟨i + 1, _, by omega, rfl, by go_num, hS, hD, Lib.hid (by rw [HE.out]; exact hO.out)⟩
      · have hne : ((i : Int) != (j : Int)) = true := by rw [bne_iff_ne]; omega
        obtain ⟨d, hdd⟩ : ∃ d, d = D.getD i dj0 := ⟨_, rfl⟩
        have he : (D.take (i + 1)).eraseIdx j = (D.take i).eraseIdx j ++ [d] := by rw [hdd]; exact erase_step (by have := HN.out; omega) hij
        have HE := Lib.hid he
        obtain ⟨k', c', e', hkl, hci⟩ := hD.out.at_ (i := i) (by have := HN.out; omega)
        injection e' with e1 e2 e3
        injection e1 with e1
        injection e1 with e1
        subst e1
        rw [← hdd] at hci
        have hra : wr.rangeAt kb (i * 19) (djc d) := fun q u hq => (hci q (by rw [← djc_len d]; exact (List.getElem?_eq_some_iff.1 hq).1)).trans hq
        have HRA := Lib.hid hra
        have hon : ∀ u ∈ djc d, u.oneCell' = true := djc_one d (hD.out.sl d (by rw [hdd]; exact dj_mem (by have := HN.out; omega))).isSl (hD.out.bv d (by rw [hdd]; exact dj_mem (by have := HN.out; omega))).sl
        have HON := Lib.hid hon
        have hrlm : rl ≤ i := by rw [hrl]; exact Nat.le_trans (List.length_eraseIdx_le _ _) (by rw [List.length_take]; omega)
        have HRL := Lib.hid hrl
        have HBS := Lib.hid (show R + 1 ≤ wr.heap.size from hS.out.rl)
        obtain ⟨nf, nz, hi, hz0, hz1, hz2, hz3⟩ := itemI
        have HIJ := Lib.hid hij
        clear he hdd hci hra hon hrl hij hkl e2 e3
        go_wp2_with (first
          | (refine wpList_load_midW rfl 54 _ rfl kb (i * 19) (by simp only [Act.eval, Act.put]; first | rfl | simp) (djc d) _ HRA.out Try.underlying54 rfl itemSz ?_; dsimp only [Act.put])
          | (refine wpList_plain rfl fun K hK => iwp_bs1 _ d rfl (by first | rfl | simp) ?_; refine hK _ _ ?_; dsimp only [Act.put])
          | (at_builtin; refine wpList_append_own2 rfl _ _ 30 rfl (R + 1) 54 nf nz 19 208 Try.underlying30 hi hz0 hz2 hz3 hz1 (by decide) rv rl (dcs ((D.take i).eraseIdx j)) rfl (hO2.out.alloc _) ⟨wr.heap.size, 0, none⟩ 1 1 (djc d) rfl rfl (fun q u hq => by rw [Addr.add_lit, Nat.zero_add, cell_of_row _ _ _ _ _ _ (heap_alloc_new wr _)]; simpa using hq) HON.out (by unfold maxLen; omega) (by omega) (Nat.le_trans HBS.out (by simp)) ?_; intro v9 w9 hown9 hg9 hk9; have HO9 := Lib.hid hown9; have HG9 := Lib.hid hg9; clear hown9 hg9 hk9)
          )
        have hal := (Below.refl wr.heap.size wr).alloc (Nat.le_refl _) (.cells (djc d).toArray 54)
        have hno : ∀ q, q < R + 1 → some q ≠ rv.ownBlock := fun q hq e => by have := (hO2.out.lt q e.symm).1; omega
        have hkk : ∀ q, q < R + 1 → w9.heap[q]? = wr.heap[q]? := fun q hq => (HG9.out.block q (by have := HBS.out; simp; omega) (hno q hq)).trans (hal.block q (by have := HBS.out; omega))
        have hb9 : Below w.heap.size w w9 := ⟨HG9.out.os.trans (hal.os.trans hS.out.below.os), HG9.out.tape.trans (hal.tape.trans hS.out.below.tape), HG9.out.output.trans (hal.output.trans hS.out.below.output), Nat.le_trans hS.out.below.size (Nat.le_trans hal.size HG9.out.size), fun q hq => (hkk q (by have := HHR.out; omega)).trans (hS.out.below.block q hq)⟩
        have hS9 := Lib.hid (hS.out.keep (hkk H (by have := HHR.out; omega)) (hkk R (by omega)) hb9)
        have hD9 := Lib.hid (hD.out.stay (fun q hq => hkk q (by have h1 := HDL.out q; rw [← HN.out] at h1; have := h1 hq; have := HHR.out; omega)))
        clear hal hno hkk hb9
        go_wp2_with fail
        go_roundg g
        case measure => omega
        case rel => exact ⟨i + 1, _, by omega, rfl, by go_num, hS9, hD9, Lib.hid (by rw [HE.out, dcs_app, dcs_one1, List.length_append, ← HRL.out]; exact HO9.out)⟩
    | zero =>
      obtain rfl : i = n := by omega
      have he : D.take i = D := List.take_of_length_le (by have := HN.out; omega)
      rw [he] at hO
      have HDL2 := Lib.hid (show ∀ k, docO (.slice (some ⟨kb, 0, none⟩) i c) D k → k < w.heap.size from by rw [HN.out]; exact HDL.out)
      have c21 := (hS.out.c 21).trans HC21.out
      have hbt2 : ¬ 0 ≤ o.bit := by have := HBIT.out; omega
      have hbt : (decide (0 ≤ o.bit)) = false := by rw [decide_eq_false_iff_not]; exact hbt2
      have HBT2 := Lib.hid hbt2

      go_wp2_with ((refine wpList_store_row rfl 38 _ _ rfl R #[.int .i64 0, .int .i64 0, .int .i64 0, .int .i64 0, .int .i64 0, .int .i64 0, .int .u64 0, .int .u64 0, .string ⟨#[]⟩, .bool false, .int .u64 0, .bool false, .string ⟨#[]⟩, .slice none 0 0, .string ⟨#[]⟩, .int .u64 0, .int .u64 0] rfl rfl 38 _ hS.out.r msg_size rfl zero_one ?_))
      refine bodyPost_ret (do_ret (hS.out.res _).1 rfl rfl rfl rfl rfl) rfl ?_
      have hJ : D.map Prod.fst = flipJ (D.map Prod.fst) o.i o.bit := by unfold flipJ; rw [if_neg (fun e => (by have h1 := HBIT.out; have h2 := e.2.1; omega))]
      exact DoOut.same hS.out HHR.out.1 HDL2.out hD.out hJ mg0 (.slice none 0 0) false 0 (WsAt.nil _)
end Go.Proofs.Ytbhlgceicfjncaa
