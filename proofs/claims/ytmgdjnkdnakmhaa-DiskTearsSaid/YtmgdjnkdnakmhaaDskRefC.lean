/-
  The document's disk in memory, its parts apart; an append to a field, as one step of a region that draws its order.
-/
import Derived.Test.YtmgdjnkdnakmhaaDskRefB
import Derived.Test.YtmgdjnkdnakmhaaAppOwn
import Derived.Deep.RegionLaw
import Derived.OwnWalk
namespace Go.Proofs.Ytmgdjnkdnakmhaa
open Go.RowKit
set_option linter.unusedVariables false
set_option linter.unnecessarySimpa false
set_option linter.unusedSimpArgs false
set_option maxRecDepth 100000

/-- The document's disk, its parts. -/
structure RefP (w : World) (g N gs gn : Nat) (va vb : Value) (F : Int) (sl nl : List UInt8) (A : List Nat) (T : List (List UInt8)) : Prop where
  cell : w.heap[g]? = some (.cells #[.slice (some ⟨gs, 0, none⟩) N N, .slice (some ⟨gn, 0, none⟩) N N, va, vb, .int .i64 F] 45 (0, 0))
  sure : ByteRow w gs sl
  seen : ByteRow w gn nl
  at_ : w.ownsRow 0 3 1 va A.length (A.map fun x : Nat => Value.int .i64 (x : Int))
  tx : w.ownsRow 0 9 1 vb T.length (T.map fun x => Value.string ⟨x.toArray⟩)
  ne : gs ≠ gn
theorem RefAt.parts {w : World} {g N gs gn : Nat} {D : DK} {va vb : Value} (h : RefAt w g D N gs gn va vb) : RefP w g N gs gn va vb D.fuse D.sure.flatten D.seen.flatten (D.waits.map (·.1)) (D.waits.map (·.2)) :=
  ⟨h.cell, h.sure, h.seen, by have := h.at_; simpa [atCells, Function.comp_def] using this, by have := h.tx; simpa [txCells, Function.comp_def] using this, h.ne⟩
theorem RefP.whole {w : World} {g N gs gn : Nat} {D : DK} {va vb : Value} (h : RefP w g N gs gn va vb D.fuse D.sure.flatten D.seen.flatten (D.waits.map (·.1)) (D.waits.map (·.2))) (hN : N = 64 * D.seen.length) : RefAt w g D N gs gn va vb :=
  ⟨hN, h.cell, h.sure, h.seen, by have := h.at_; simpa [atCells, Function.comp_def] using this, by have := h.tx; simpa [txCells, Function.comp_def] using this, h.ne⟩

theorem blk_ne {w : World} {k k' : Nat} {cs cs' : Array Value} {t t' : TypeId} {f f' : Nat × Nat} (h : w.heap[k]? = some (.cells cs t f)) (h' : w.heap[k']? = some (.cells cs' t' f')) (ht : t ≠ t') : k ≠ k' := by
  intro e
  rw [e, h'] at h
  injection h with h
  injection h with _ h2
  exact ht h2.symm
theorem own_row {w : World} {e n base k : Nat} {v : Value} {xs : List Value} (h : w.ownsRow base e 1 v n xs) (hk : v.ownBlock = some k) : ∃ cs, w.heap[k]? = some (.cells cs e (0, 0)) := by
  rcases h.2 with ⟨rfl, _⟩ | ⟨g, cap, cur, rfl, hb, hg, _⟩
  · simp [Value.ownBlock] at hk
  · simp only [Value.ownBlock, Option.some.injEq] at hk
    subst hk
    exact ⟨cur, hg⟩
section
variable {w w1 : World} {g N gs gn : Nat} {va vb va' vb' : Value} {F F' : Int} {sl nl : List UInt8} {A A' : List Nat} {T T' : List (List UInt8)}
theorem RefP.lt (h : RefP w g N gs gn va vb F sl nl A T) : ∀ k, refOwn g gs gn va vb k → k < w.heap.size := by
  rintro k (rfl | rfl | rfl | hk | hk)
  · exact row_lt h.cell
  · exact row_lt h.sure
  · exact row_lt h.seen
  · exact (own_blk h.at_ hk).1
  · exact (own_blk h.tx hk).1
theorem RefP.stay (h : RefP w g N gs gn va vb F sl nl A T) (hk : ∀ k, refOwn g gs gn va vb k → w1.heap[k]? = w.heap[k]?) : RefP w1 g N gs gn va vb F sl nl A T :=
  ⟨(hk g (.inl rfl)).trans h.cell, (hk gs (.inr (.inl rfl))).trans h.sure, (hk gn (.inr (.inr (.inl rfl)))).trans h.seen,
    own_keep h.at_ (fun k e => hk k (.inr (.inr (.inr (.inl e))))), own_keep h.tx (fun k e => hk k (.inr (.inr (.inr (.inr e))))), h.ne⟩
theorem RefP.below (h : RefP w g N gs gn va vb F sl nl A T) (hb : Below w.heap.size w w1) : RefP w1 g N gs gn va vb F sl nl A T := h.stay fun k hk => hb.block k (h.lt k hk)
theorem RefP.cells (h : RefP w g N gs gn va vb F sl nl A T) :
    w.cell? ⟨g, 0, none⟩ = some (.slice (some ⟨gs, 0, none⟩) N N) ∧ w.cell? ⟨g, 1, none⟩ = some (.slice (some ⟨gn, 0, none⟩) N N) ∧ w.cell? ⟨g, 2, none⟩ = some va ∧ w.cell? ⟨g, 3, none⟩ = some vb ∧ w.cell? ⟨g, 4, none⟩ = some (.int .i64 F) ∧
      ∀ j, w.frozen? ⟨g, j, none⟩ = false := by
  have hc := h.cell
  refine ⟨?_, ?_, ?_, ?_, ?_, fun j => ?_⟩
  all_goals first | (rw [cell_of_row _ _ _ _ _ _ hc]; rfl) | (simp [World.frozen?, hc])
theorem RefP.append2 (h : RefP w g N gs gn va vb F sl nl A T) (hg : w.grownBy w1 va.ownBlock) (hown : w1.ownsRow 0 3 1 va' A'.length (A'.map fun x : Nat => Value.int .i64 (x : Int))) :
    RefP (w1.setCell ⟨g, 2, none⟩ va') g N gs gn va' vb F sl nl A' T := by
  have old : ∀ (k : Nat) (cs : Array Value) (t : TypeId), w.heap[k]? = some (.cells cs t (0, 0)) → t ≠ 3 → w1.heap[k]? = some (.cells cs t (0, 0)) := fun k cs t hk ht => by
    rw [hg.block k (row_lt hk) (fun e => by obtain ⟨cs', hr⟩ := own_row h.at_ e.symm; exact blk_ne hk hr ht rfl)]; exact hk
  have hg1 := old g _ _ h.cell (by decide)
  have oth : ∀ (k : Nat) (cs : Array Value) (t : TypeId), w1.heap[k]? = some (.cells cs t (0, 0)) → t ≠ 45 → (w1.setCell ⟨g, 2, none⟩ va').heap[k]? = some (.cells cs t (0, 0)) := fun k cs t hk ht => by
    rw [Below.heap_setCell _ _ _ _ (fun e => blk_ne hk hg1 ht e)]; exact hk
  refine ⟨?_, oth _ _ _ (old _ _ _ h.sure (by decide)) (by decide), oth _ _ _ (old _ _ _ h.seen (by decide)) (by decide), ?_, ?_, h.ne⟩
  · rw [heap_setCell_same _ _ 2 _ _ _ hg1]; rfl
  · exact own_keep hown fun k e => by obtain ⟨cs, hr⟩ := own_row hown e; rw [hr]; exact oth _ _ _ hr (by decide)
  · exact own_keep h.tx fun k e => by obtain ⟨cs, hr⟩ := own_row h.tx e; rw [hr]; exact oth _ _ _ (old _ _ _ hr (by decide)) (by decide)
theorem RefP.append3 (h : RefP w g N gs gn va vb F sl nl A T) (hg : w.grownBy w1 vb.ownBlock) (hown : w1.ownsRow 0 9 1 vb' T'.length (T'.map fun x => Value.string ⟨x.toArray⟩)) :
    RefP (w1.setCell ⟨g, 3, none⟩ vb') g N gs gn va vb' F sl nl A T' := by
  have old : ∀ (k : Nat) (cs : Array Value) (t : TypeId), w.heap[k]? = some (.cells cs t (0, 0)) → t ≠ 9 → w1.heap[k]? = some (.cells cs t (0, 0)) := fun k cs t hk ht => by
    rw [hg.block k (row_lt hk) (fun e => by obtain ⟨cs', hr⟩ := own_row h.tx e.symm; exact blk_ne hk hr ht rfl)]; exact hk
  have hg1 := old g _ _ h.cell (by decide)
  have oth : ∀ (k : Nat) (cs : Array Value) (t : TypeId), w1.heap[k]? = some (.cells cs t (0, 0)) → t ≠ 45 → (w1.setCell ⟨g, 3, none⟩ vb').heap[k]? = some (.cells cs t (0, 0)) := fun k cs t hk ht => by
    rw [Below.heap_setCell _ _ _ _ (fun e => blk_ne hk hg1 ht e)]; exact hk
  refine ⟨?_, oth _ _ _ (old _ _ _ h.sure (by decide)) (by decide), oth _ _ _ (old _ _ _ h.seen (by decide)) (by decide), ?_, ?_, h.ne⟩
  · rw [heap_setCell_same _ _ 3 _ _ _ hg1]; rfl
  · exact own_keep h.at_ fun k e => by obtain ⟨cs, hr⟩ := own_row h.at_ e; rw [hr]; exact oth _ _ _ (old _ _ _ hr (by decide)) (by decide)
  · exact own_keep hown fun k e => by obtain ⟨cs, hr⟩ := own_row hown e; rw [hr]; exact oth _ _ _ hr (by decide)
theorem RefP.grow2 (h : RefP w g N gs gn va vb F sl nl A T) (hg : w.grownBy w1 va.ownBlock) : w1.cell? ⟨g, 2, none⟩ = some va ∧ w1.frozen? ⟨g, 2, none⟩ = false := by
  have hg1 : w1.heap[g]? = w.heap[g]? := hg.block g (row_lt h.cell) (fun e => by obtain ⟨cs', hr⟩ := own_row h.at_ e.symm; exact blk_ne h.cell hr (by decide) rfl)
  have hc := hg1.trans h.cell
  exact ⟨by rw [cell_of_row _ _ _ _ _ _ hc]; rfl, by simp [World.frozen?, hc]⟩
theorem RefP.grow3 (h : RefP w g N gs gn va vb F sl nl A T) (hg : w.grownBy w1 vb.ownBlock) : w1.cell? ⟨g, 3, none⟩ = some vb ∧ w1.frozen? ⟨g, 3, none⟩ = false := by
  have hg1 : w1.heap[g]? = w.heap[g]? := hg.block g (row_lt h.cell) (fun e => by obtain ⟨cs', hr⟩ := own_row h.tx e.symm; exact blk_ne h.cell hr (by decide) rfl)
  have hc := hg1.trans h.cell
  exact ⟨by rw [cell_of_row _ _ _ _ _ _ hc]; rfl, by simp [World.frozen?, hc]⟩
theorem RefP.grow2b {w' : World} (h : RefP w g N gs gn va vb F sl nl A T) (hb : Below w.heap.size w w') (hg : w'.grownBy w1 va.ownBlock) : Below w.heap.size w w' ∧ w1.cell? ⟨g, 2, none⟩ = some va ∧ w1.frozen? ⟨g, 2, none⟩ = false := ⟨hb, (h.below hb).grow2 hg⟩
theorem RefP.grow3b {w' : World} (h : RefP w g N gs gn va vb F sl nl A T) (hb : Below w.heap.size w w') (hg : w'.grownBy w1 vb.ownBlock) : Below w.heap.size w w' ∧ w1.cell? ⟨g, 3, none⟩ = some vb ∧ w1.frozen? ⟨g, 3, none⟩ = false := ⟨hb, (h.below hb).grow3 hg⟩
/-- What is owned behind an append. -/
theorem own_moves2 {W w2 w3 w4 : World} (hm : Moves (refOwn g gs gn va vb) (refOwn g gs gn va vb) W w2) (hb : Below w2.heap.size w2 w3) (hg : w3.grownBy w1 va.ownBlock) (hn : ∀ k, va'.ownBlock = some k → va.ownBlock = some k ∨ w3.heap.size ≤ k) (h4 : w4 = w1.setCell ⟨g, 2, none⟩ va') :
    Moves (refOwn g gs gn va vb) (refOwn g gs gn va' vb) W w4 := by
  subst h4
  have h1 := ((hm.trans (Moves.of_below hb)).grown hg (fun k e => .inl (.inr (.inr (.inr (.inl e)))))).setCell (a := ⟨g, 2, none⟩) (.inl (.inl rfl)) va'
  refine ⟨h1.os, h1.tape, h1.output, h1.size, h1.block, ?_⟩
  have hs := Nat.le_trans hm.size hb.size
  rintro k (e | e | e | e | e)
  · exact .inl (.inl e)
  · exact .inl (.inr (.inl e))
  · exact .inl (.inr (.inr (.inl e)))
  · rcases hn k e with e2 | e2
    · exact .inl (.inr (.inr (.inr (.inl e2))))
    · exact .inr (Nat.le_trans hs e2)
  · exact .inl (.inr (.inr (.inr (.inr e))))
theorem own_moves3 {W w2 w3 w4 : World} (hm : Moves (refOwn g gs gn va vb) (refOwn g gs gn va' vb') W w2) (hb : Below w2.heap.size w2 w3) (hg : w3.grownBy w1 vb'.ownBlock) {vb'' : Value} (hn : ∀ k, vb''.ownBlock = some k → vb'.ownBlock = some k ∨ w3.heap.size ≤ k) (h4 : w4 = w1.setCell ⟨g, 3, none⟩ vb'') :
    Moves (refOwn g gs gn va vb) (refOwn g gs gn va' vb'') W w4 := by
  subst h4
  have hs := Nat.le_trans hm.size hb.size
  have h2 : Moves (refOwn g gs gn va' vb') (refOwn g gs gn va' vb'') w2 (w1.setCell ⟨g, 3, none⟩ vb'') := by
    have h1 := ((Moves.of_below (O := refOwn g gs gn va' vb') hb).grown hg (fun k e => .inl (.inr (.inr (.inr (.inr e)))))).setCell (a := ⟨g, 3, none⟩) (.inl (.inl rfl)) vb''
    refine ⟨h1.os, h1.tape, h1.output, h1.size, h1.block, ?_⟩
    rintro k (e | e | e | e | e)
    · exact .inl (.inl e)
    · exact .inl (.inr (.inl e))
    · exact .inl (.inr (.inr (.inl e)))
    · exact .inl (.inr (.inr (.inr (.inl e))))
    · rcases hn k e with e2 | e2
      · exact .inl (.inr (.inr (.inr (.inr e2))))
      · exact .inr (Nat.le_trans hb.size e2)
  exact hm.trans h2
theorem RefP.keep2 {w' : World} {q : Nat} {cs : Array Value} (h : RefP w g N gs gn va vb F sl nl A T) (hop : w.heap[q]? = some (.cells cs 32 (0, 0))) (hb : Below w.heap.size w w') (hg : w'.grownBy w1 va.ownBlock) (v : Value) :
    (w1.setCell ⟨g, 2, none⟩ v).heap[q]? = some (.cells cs 32 (0, 0)) := by
  rw [Below.heap_setCell _ _ _ _ (blk_ne hop h.cell (by decide)), hg.block q (Nat.lt_of_lt_of_le (row_lt hop) hb.size) (fun e => by obtain ⟨cs', hr⟩ := own_row h.at_ e.symm; exact blk_ne hop hr (by decide) rfl), hb.block q (row_lt hop)]
  exact hop
theorem RefP.keep3 {w' : World} {q : Nat} {cs : Array Value} (h : RefP w g N gs gn va vb F sl nl A T) (hop : w.heap[q]? = some (.cells cs 32 (0, 0))) (hb : Below w.heap.size w w') (hg : w'.grownBy w1 vb.ownBlock) (v : Value) :
    (w1.setCell ⟨g, 3, none⟩ v).heap[q]? = some (.cells cs 32 (0, 0)) := by
  rw [Below.heap_setCell _ _ _ _ (blk_ne hop h.cell (by decide)), hg.block q (Nat.lt_of_lt_of_le (row_lt hop) hb.size) (fun e => by obtain ⟨cs', hr⟩ := own_row h.tx e.symm; exact blk_ne hop hr (by decide) rfl), hb.block q (row_lt hop)]
  exact hop
theorem RefP.put4 (h : RefP w g N gs gn va vb F sl nl A T) : RefP (w.setCell ⟨g, 4, none⟩ (.int .i64 F')) g N gs gn va vb F' sl nl A T := by
  have oth : ∀ (k : Nat) (cs : Array Value) (t : TypeId), w.heap[k]? = some (.cells cs t (0, 0)) → t ≠ 45 → (w.setCell ⟨g, 4, none⟩ (.int .i64 F')).heap[k]? = some (.cells cs t (0, 0)) := fun k cs t hk ht => by
    rw [Below.heap_setCell _ _ _ _ (fun e => blk_ne hk h.cell ht e)]; exact hk
  refine ⟨?_, oth _ _ _ h.sure (by decide), oth _ _ _ h.seen (by decide), ?_, ?_, h.ne⟩
  · rw [heap_setCell_same _ _ 4 _ _ _ h.cell]; rfl
  · exact own_keep h.at_ fun k e => by obtain ⟨cs, hr⟩ := own_row h.at_ e; rw [hr]; exact oth _ _ _ hr (by decide)
  · exact own_keep h.tx fun k e => by obtain ⟨cs, hr⟩ := own_row h.tx e; rw [hr]; exact oth _ _ _ hr (by decide)
/-- A field of the object alone is written. -/
theorem RefP.put2 (h : RefP w g N gs gn va vb F sl nl A T) : RefP (w.setCell ⟨g, 2, none⟩ (.slice none 0 0)) g N gs gn (.slice none 0 0) vb F sl nl [] T :=
  h.append2 (w1 := w) (va' := .slice none 0 0) (A' := []) (World.grownBy.refl w _) ⟨rfl, .inl ⟨rfl, rfl⟩⟩
end
end Go.Proofs.Ytmgdjnkdnakmhaa
