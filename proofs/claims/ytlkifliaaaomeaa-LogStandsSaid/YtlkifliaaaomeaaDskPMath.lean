/-
  The program's disk in memory: its sectors (what is read, what is sure), its writes that wait, its fuse; what each write to a cell leaves of it.
-/
import Derived.Test.YtlkifliaaaomeaaDskContracts
import Derived.Test.YtlkifliaaaomeaaAppOwn
import Derived.Deep.MidRow
import Derived.OwnWalk
namespace Go.Proofs.Ytlkifliaaaomeaa
open Go.RowKit
set_option linter.unusedVariables false
set_option linter.unnecessarySimpa false
set_option linter.unusedSimpArgs false
set_option maxRecDepth 100000

/-! Rows of two cells an element. -/
section
variable {α : Type} (f g : α → Value)
def twoC (l : List α) : List Value := l.flatMap fun x => [f x, g x]
theorem twoC_cons (x : α) (l : List α) : twoC f g (x :: l) = f x :: g x :: twoC f g l := rfl
theorem twoC_len (l : List α) : (twoC f g l).length = l.length * 2 := by
  induction l with
  | nil => rfl
  | cons x l ih => rw [twoC_cons, List.length_cons, List.length_cons, ih, List.length_cons]; omega
theorem twoC_at0 : ∀ (l : List α) (j : Nat), (twoC f g l)[j * 2]? = (l[j]?).map f
  | [], j => by simp [twoC]
  | x :: l, 0 => rfl
  | x :: l, j + 1 => by
    rw [twoC_cons, show (j + 1) * 2 = j * 2 + 1 + 1 by omega, List.getElem?_cons_succ, List.getElem?_cons_succ, twoC_at0 l j, List.getElem?_cons_succ]
theorem twoC_at1 : ∀ (l : List α) (j : Nat), (twoC f g l)[j * 2 + 1]? = (l[j]?).map g
  | [], j => by simp [twoC]
  | x :: l, 0 => rfl
  | x :: l, j + 1 => by
    rw [twoC_cons, show (j + 1) * 2 + 1 = j * 2 + 1 + 1 + 1 by omega, List.getElem?_cons_succ, List.getElem?_cons_succ, twoC_at1 l j, List.getElem?_cons_succ]
theorem twoC_set0 : ∀ (l : List α) (j : Nat) (x y : α), l[j]? = some x → g y = g x → (twoC f g l).set (j * 2) (f y) = twoC f g (l.set j y)
  | [], j, x, y, h, _ => by simp at h
  | z :: l, 0, x, y, h, e => by
    simp at h
    subst h
    rw [twoC_cons, Nat.zero_mul, List.set_cons_zero, ← e]; rfl
  | z :: l, j + 1, x, y, h, e => by
    rw [twoC_cons, List.set_cons_succ, twoC_cons, show (j + 1) * 2 = j * 2 + 1 + 1 by omega, List.set_cons_succ, List.set_cons_succ, twoC_set0 l j x y (by simpa using h) e]
theorem twoC_set1 : ∀ (l : List α) (j : Nat) (x y : α), l[j]? = some x → f y = f x → (twoC f g l).set (j * 2 + 1) (g y) = twoC f g (l.set j y)
  | [], j, x, y, h, _ => by simp at h
  | z :: l, 0, x, y, h, e => by
    simp at h
    subst h
    rw [twoC_cons, Nat.zero_mul, List.set_cons_succ, List.set_cons_zero, ← e]; rfl
  | z :: l, j + 1, x, y, h, e => by
    rw [twoC_cons, show (j + 1) * 2 + 1 = j * 2 + 1 + 1 + 1 by omega, List.set_cons_succ, List.set_cons_succ, twoC_set1 l j x y (by simpa using h) e]; rfl
theorem twoC_snoc (l : List α) (x : α) : twoC f g l ++ [f x, g x] = twoC f g (l ++ [x]) := by unfold twoC; rw [List.flatMap_append]; simp
end

/-- A sector: what is read of it, what is sure. -/
abbrev Sec := List UInt8 × List UInt8
def vS (l : List UInt8) : Value := .string ⟨l.toArray⟩
def secC (P : List Sec) : List Value := twoC (fun p : Sec => vS p.1) (fun p => vS p.2) P
def wtC (l : List (Nat × List UInt8)) : List Value := twoC (fun x : Nat × List UInt8 => .int .i64 (x.1 : Int)) (fun x => vS x.2) l
structure DP (w : World) (g gs n : Nat) (vb : Value) (P : List Sec) (W : List (Nat × List UInt8)) (f : Bool) (F : Int) : Prop where
  len : P.length = n
  cell : w.heap[g]? = some (.cells #[.slice (some ⟨gs, 0, none⟩) n n, vb, .bool f, .int .i64 F] 51 (0, 0))
  rows : w.heap[gs]? = some (.cells (secC P).toArray 54 (0, 0))
  wait : w.ownsRow 0 74 2 vb W.length (wtC W)
/-- What it owns. -/
def pOwn (g gs : Nat) (vb : Value) (k : Nat) : Prop := k = g ∨ k = gs ∨ vb.ownBlock = some k

theorem pRow_lt {w : World} {g : Nat} {o : Obj} (h : w.heap[g]? = some o) : g < w.heap.size := (Array.getElem?_eq_some_iff.1 h).1
theorem pOwn_row {w : World} {e n size base k : Nat} {v : Value} {xs : List Value} (h : w.ownsRow base e size v n xs) (hk : v.ownBlock = some k) : ∃ cs, w.heap[k]? = some (.cells cs e (0, 0)) := by
  rcases h.2 with ⟨rfl, _⟩ | ⟨g, cap, cur, rfl, hb, hg, _⟩
  · simp [Value.ownBlock] at hk
  · simp only [Value.ownBlock, Option.some.injEq] at hk
    subst hk
    exact ⟨cur, hg⟩
theorem pOwn_keep {w w' : World} {e n size base : Nat} {v : Value} {xs : List Value} (h : w.ownsRow base e size v n xs) (hk : ∀ k, v.ownBlock = some k → w'.heap[k]? = w.heap[k]?) : w'.ownsRow base e size v n xs := by
  refine ⟨h.1, ?_⟩
  rcases h.2 with h2 | ⟨g, cap, cur, rfl, hb, hg, rest⟩
  · exact .inl h2
  · exact .inr ⟨g, cap, cur, rfl, hb, (hk g rfl).trans hg, rest⟩
theorem pBlk_ne {w : World} {k k' : Nat} {cs cs' : Array Value} {t t' : TypeId} {f f' : Nat × Nat} (h : w.heap[k]? = some (.cells cs t f)) (h' : w.heap[k']? = some (.cells cs' t' f')) (ht : t ≠ t') : k ≠ k' := by
  intro e
  rw [e, h'] at h
  injection h with h
  injection h with _ h2
  exact ht h2.symm

/-! What worlds keep, step by step. -/
section
variable {O O' O'' : Nat → Prop} {w w' w'' : World}
theorem Moves.cellP (h : Moves O O' w w') {a : Addr} (ha : O a.block ∨ w.heap.size ≤ a.block) (v : Value) : Moves O O' w (w'.setCell a v) :=
  ⟨h.os, h.tape, h.output, by simpa [World.setCell] using h.size, fun k hk hO => by
    rw [Below.heap_setCell _ _ _ _ (fun e => by subst e; rcases ha with ha | ha; exact hO ha; omega)]; exact h.block k hk hO, h.own⟩
theorem Moves.grownP {row : Option Nat} (h : Moves O O' w w') (hg : w'.grownBy w'' row) (hr : ∀ k, row = some k → O k ∨ w.heap.size ≤ k) : Moves O O' w w'' :=
  ⟨hg.os.trans h.os, hg.tape.trans h.tape, hg.output.trans h.output, Nat.le_trans h.size hg.size,
    fun k hk hO => (hg.block k (Nat.lt_of_lt_of_le hk h.size) (fun e => by rcases hr k e.symm with h2 | h2; exact hO h2; omega)).trans (h.block k hk hO), h.own⟩
theorem Moves.belowP (h : Moves O O' w w') (hb : Below w'.heap.size w' w'') : Moves O O' w w'' := h.trans (Moves.of_below hb)
theorem Moves.owns (h : Moves O O' w w') (hO : ∀ k, O'' k → O k ∨ w.heap.size ≤ k) : Moves O O'' w w' := ⟨h.os, h.tape, h.output, h.size, h.block, hO⟩
end

section
variable {w w1 : World} {g gs n : Nat} {vb vb' : Value} {P : List Sec} {W W' : List (Nat × List UInt8)} {f f' : Bool} {F F' : Int}
theorem DP.lt (h : DP w g gs n vb P W f F) : ∀ k, pOwn g gs vb k → k < w.heap.size := by
  rintro k (rfl | rfl | hk)
  · exact pRow_lt h.cell
  · exact pRow_lt h.rows
  · obtain ⟨cs, hr⟩ := pOwn_row h.wait hk; exact pRow_lt hr
theorem DP.stay (h : DP w g gs n vb P W f F) (hk : ∀ k, pOwn g gs vb k → w1.heap[k]? = w.heap[k]?) : DP w1 g gs n vb P W f F :=
  ⟨h.len, (hk g (.inl rfl)).trans h.cell, (hk gs (.inr (.inl rfl))).trans h.rows, pOwn_keep h.wait (fun k e => hk k (.inr (.inr e)))⟩
theorem DP.below (h : DP w g gs n vb P W f F) (hb : Below w.heap.size w w1) : DP w1 g gs n vb P W f F := h.stay fun k hk => hb.block k (h.lt k hk)
theorem DP.cells (h : DP w g gs n vb P W f F) :
    w.cell? ⟨g, 0, none⟩ = some (.slice (some ⟨gs, 0, none⟩) n n) ∧ w.cell? ⟨g, 1, none⟩ = some vb ∧ w.cell? ⟨g, 2, none⟩ = some (.bool f) ∧ w.cell? ⟨g, 3, none⟩ = some (.int .i64 F) ∧ ∀ j, w.frozen? ⟨g, j, none⟩ = false := by
  have hc := h.cell
  refine ⟨?_, ?_, ?_, ?_, fun j => frozen_of_row _ _ _ _ _ hc⟩
  all_goals (rw [cell_of_row _ _ _ _ _ _ hc]; rfl)
theorem DP.sec (h : DP w g gs n vb P W f F) {i : Nat} {p : Sec} (hp : P[i]? = some p) :
    w.cell? ⟨gs, i * 2, none⟩ = some (vS p.1) ∧ w.cell? ⟨gs, i * 2 + 1, none⟩ = some (vS p.2) ∧ ∀ j, w.frozen? ⟨gs, j, none⟩ = false := by
  have hc := h.rows
  refine ⟨?_, ?_, fun j => frozen_of_row _ _ _ _ _ hc⟩
  · rw [cell_of_row _ _ _ _ _ _ hc, List.getElem?_toArray]; unfold secC; rw [twoC_at0, hp]; rfl
  · rw [cell_of_row _ _ _ _ _ _ hc, List.getElem?_toArray]; unfold secC; rw [twoC_at1, hp]; rfl
/-- A write that waits. -/
theorem DP.write (h : DP w g gs n vb P W f F) {i : Nat} {x : Nat × List UInt8} (hx : W[i]? = some x) :
    ∃ gw cap, vb = .slice (some ⟨gw, 0, none⟩) W.length cap ∧ w.cell? ⟨gw, i * 2, none⟩ = some (.int .i64 (x.1 : Int)) ∧ w.cell? ⟨gw, i * 2 + 1, none⟩ = some (vS x.2) := by
  have hi : i < W.length := (List.getElem?_eq_some_iff.1 hx).1
  rcases h.wait.2 with ⟨_, h0⟩ | ⟨gw, cap, cur, rfl, _, hg, _, _, _, ht⟩
  · omega
  · refine ⟨gw, cap, rfl, ?_, ?_⟩
    · have := twoC_at0 (fun x : Nat × List UInt8 => Value.int .i64 (x.1 : Int)) (fun x => vS x.2) W i
      rw [hx, show twoC (fun x : Nat × List UInt8 => Value.int .i64 (x.1 : Int)) (fun x => vS x.2) W = wtC W from rfl, ← ht, List.getElem?_take, if_pos (by omega)] at this
      rw [cell_of_row _ _ _ _ _ _ hg]
      simpa using this
    · have := twoC_at1 (fun x : Nat × List UInt8 => Value.int .i64 (x.1 : Int)) (fun x => vS x.2) W i
      rw [hx, show twoC (fun x : Nat × List UInt8 => Value.int .i64 (x.1 : Int)) (fun x => vS x.2) W = wtC W from rfl, ← ht, List.getElem?_take, if_pos (by omega)] at this
      rw [cell_of_row _ _ _ _ _ _ hg]
      simpa using this
theorem DP.waitForm (h : DP w g gs n vb P W f F) : ∃ a cap, vb = .slice a W.length cap := by
  rcases h.wait.2 with ⟨h1, h0⟩ | ⟨gw, cap, cur, rfl, _⟩
  · exact ⟨none, 0, by rw [h1, h0]⟩
  · exact ⟨_, cap, rfl⟩
theorem DP.ne (h : DP w g gs n vb P W f F) : g ≠ gs := pBlk_ne h.cell h.rows (by decide)
theorem DP.neW (h : DP w g gs n vb P W f F) : vb.ownBlock ≠ some g ∧ vb.ownBlock ≠ some gs :=
  ⟨fun e => by obtain ⟨cs, hr⟩ := pOwn_row h.wait e; exact pBlk_ne hr h.cell (by decide) rfl, fun e => by obtain ⟨cs, hr⟩ := pOwn_row h.wait e; exact pBlk_ne hr h.rows (by decide) rfl⟩

/-- A cell of the object is written. -/
theorem DP.putCell (h : DP w g gs n vb P W f F) (i : Nat) (v : Value) (vb' : Value) (W' : List (Nat × List UInt8)) (f' : Bool) (F' : Int)
    (hs : (#[.slice (some ⟨gs, 0, none⟩) n n, vb, .bool f, .int .i64 F] : Array Value).setIfInBounds i v = #[.slice (some ⟨gs, 0, none⟩) n n, vb', .bool f', .int .i64 F'])
    (hw : (w.setCell ⟨g, i, none⟩ v).ownsRow 0 74 2 vb' W'.length (wtC W')) : DP (w.setCell ⟨g, i, none⟩ v) g gs n vb' P W' f' F' :=
  ⟨h.len, by rw [heap_setCell_same _ _ i _ _ _ h.cell, hs], by rw [Below.heap_setCell _ _ _ _ (fun e => h.ne e.symm)]; exact h.rows, hw⟩
theorem DP.keepW (h : DP w g gs n vb P W f F) (i : Nat) (v : Value) : (w.setCell ⟨g, i, none⟩ v).ownsRow 0 74 2 vb W.length (wtC W) :=
  pOwn_keep h.wait fun k e => Below.heap_setCell _ _ _ _ (fun e2 => h.neW.1 (by rw [e, e2]))
theorem DP.putF (h : DP w g gs n vb P W f F) (f' : Bool) : DP (w.setCell ⟨g, 2, none⟩ (.bool f')) g gs n vb P W f' F := h.putCell 2 _ _ _ _ _ rfl (h.keepW _ _)
theorem DP.putL (h : DP w g gs n vb P W f F) (F' : Int) : DP (w.setCell ⟨g, 3, none⟩ (.int .i64 F')) g gs n vb P W f F' := h.putCell 3 _ _ _ _ _ rfl (h.keepW _ _)
theorem DP.noWaits (h : DP w g gs n vb P W f F) : DP (w.setCell ⟨g, 1, none⟩ (.slice none 0 0)) g gs n (.slice none 0 0) P [] f F := h.putCell 1 _ _ _ _ _ rfl (World.ownsRow_nil _ _ _ _)
/-- What waits has grown. -/
theorem DP.grow (h : DP w g gs n vb P W f F) (hg : w.grownBy w1 vb.ownBlock) (hown : w1.ownsRow 0 74 2 vb' W'.length (wtC W')) : DP (w1.setCell ⟨g, 1, none⟩ vb') g gs n vb' P W' f F := by
  have c1 : w1.heap[g]? = _ := (hg.block g (pRow_lt h.cell) (fun e => h.neW.1 e.symm)).trans h.cell
  have c2 : w1.heap[gs]? = _ := (hg.block gs (pRow_lt h.rows) (fun e => h.neW.2 e.symm)).trans h.rows
  refine ⟨h.len, by rw [heap_setCell_same _ _ 1 _ _ _ c1]; rfl, by rw [Below.heap_setCell _ _ _ _ (fun e => h.ne e.symm)]; exact c2, ?_⟩
  exact pOwn_keep hown fun k e => Below.heap_setCell _ _ _ _ (fun e2 => by obtain ⟨cs, hr⟩ := pOwn_row hown e; exact pBlk_ne hr c1 (by decide) e2)
/-- A cell of a sector is written. -/
theorem DP.putS (h : DP w g gs n vb P W f F) (i : Nat) (v : Value) (P' : List Sec) (hl : P'.length = n) (hs : (secC P).toArray.setIfInBounds i v = (secC P').toArray) : DP (w.setCell ⟨gs, i, none⟩ v) g gs n vb P' W f F :=
  ⟨hl, by rw [Below.heap_setCell _ _ _ _ h.ne]; exact h.cell, by rw [heap_setCell_same _ _ i _ _ _ h.rows, hs],
    pOwn_keep h.wait fun k e => Below.heap_setCell _ _ _ _ (fun e2 => h.neW.2 (by rw [e, e2]))⟩
theorem DP.putNow (h : DP w g gs n vb P W f F) {i : Nat} {p : Sec} (hp : P[i]? = some p) (b : List UInt8) : DP (w.setCell ⟨gs, i * 2, none⟩ (vS b)) g gs n vb (P.set i (b, p.2)) W f F :=
  h.putS _ _ _ (by rw [List.length_set]; exact h.len) (by
    apply Array.toList_inj.1
    rw [Array.toList_setIfInBounds]
    exact twoC_set0 (fun p : Sec => vS p.1) (fun p => vS p.2) P i p (b, p.2) hp rfl)
theorem DP.putSure (h : DP w g gs n vb P W f F) {i : Nat} {p : Sec} (hp : P[i]? = some p) (b : List UInt8) : DP (w.setCell ⟨gs, i * 2 + 1, none⟩ (vS b)) g gs n vb (P.set i (p.1, b)) W f F :=
  h.putS _ _ _ (by rw [List.length_set]; exact h.len) (by
    apply Array.toList_inj.1
    rw [Array.toList_setIfInBounds]
    exact twoC_set1 (fun p : Sec => vS p.1) (fun p => vS p.2) P i p (p.1, b) hp rfl)
end

/-! All writes made; what isn't written stays. -/
def madeAll : List (List UInt8) → List (Nat × List UInt8) → List (List UInt8)
  | s, [] => s
  | s, x :: l => madeAll (s.set x.1 x.2) l
theorem madeAll_snoc : ∀ (s : List (List UInt8)) (l : List (Nat × List UInt8)) (x : Nat × List UInt8), madeAll s (l ++ [x]) = (madeAll s l).set x.1 x.2
  | s, [], x => rfl
  | s, y :: l, x => by rw [List.cons_append, madeAll, madeAll_snoc]; rfl
theorem madeAll_away : ∀ (s : List (List UInt8)) (l : List (Nat × List UInt8)) (i : Nat), (∀ x ∈ l, x.1 ≠ i) → (madeAll s l)[i]? = s[i]?
  | s, [], i, _ => rfl
  | s, y :: l, i, h => by
    rw [madeAll, madeAll_away _ l i (fun x hx => h x (by simp [hx])), List.getElem?_set_ne (h y (by simp))]

/-- The program's disk: the one at g is D. -/
structure PD (w : World) (g gs : Nat) (vb : Value) (D : DK) (P : List Sec) : Prop where
  mem : DP w g gs P.length vb P D.waits (decide (0 ≤ D.fuse)) (max D.fuse 0)
  seen : D.seen = P.map (·.1)
  sure : D.sure = P.map (·.2)
  made : D.seen = madeAll D.sure D.waits
  few : D.waits.length ≤ 1000000
def PAt (w : World) (r : Addr) (D : DK) (O : Nat → Prop) : Prop := D.ok ∧ ∃ g gs vb P, r = ⟨g, 0, none⟩ ∧ PD w g gs vb D P ∧ ∀ k, O k ↔ pOwn g gs vb k
theorem PAt.lt {w : World} {r : Addr} {D : DK} {O : Nat → Prop} (h : PAt w r D O) : ∀ k, O k → k < w.heap.size := by
  obtain ⟨_, g, gs, vb, P, rfl, hp, hO⟩ := h
  exact fun k hk => hp.mem.lt k ((hO k).1 hk)
theorem PAt.stay {w w' : World} {r : Addr} {D : DK} {O : Nat → Prop} (h : PAt w r D O) (hk : ∀ k, O k → w'.heap[k]? = w.heap[k]?) : PAt w' r D O := by
  obtain ⟨hok, g, gs, vb, P, rfl, hp, hO⟩ := h
  exact ⟨hok, g, gs, vb, P, rfl, ⟨hp.mem.stay (fun k e => hk k ((hO k).2 e)), hp.seen, hp.sure, hp.made, hp.few⟩, hO⟩
theorem PD.len {w : World} {g gs : Nat} {vb : Value} {D : DK} {P : List Sec} (h : PD w g gs vb D P) : P.length = D.seen.length := by rw [h.seen, List.length_map]
theorem PD.getP {w : World} {g gs : Nat} {vb : Value} {D : DK} {P : List Sec} (h : PD w g gs vb D P) {i : Nat} (hi : i < D.seen.length) : P[i]? = some (D.seen.getD i [], D.sure.getD i []) := by
  have hp : i < P.length := by rw [h.len]; exact hi
  rw [List.getElem?_eq_getElem hp, h.seen, h.sure]
  simp [List.getD, List.getElem?_map, List.getElem?_eq_getElem hp]
end Go.Proofs.Ytlkifliaaaomeaa
