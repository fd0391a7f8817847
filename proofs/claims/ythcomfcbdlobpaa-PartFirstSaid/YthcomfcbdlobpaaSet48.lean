/-
  Joined: MvcPStB, MvcPast.
-/
import Derived.Test.YthcomfcbdlobpaaSet38
import Derived.Test.YthcomfcbdlobpaaSet47
import Derived.Test.YthcomfcbdlobpaaSet28
import Derived.StillTailTactics
namespace Go.Proofs.Ythcomfcbdlobpaa
open Go.RowKit
set_option linter.unusedVariables false
set_option linter.unnecessarySimpa false
set_option linter.unusedSimpArgs false
set_option maxRecDepth 100000

theorem own_storedE {w : World} {base g n cap size : Nat} {e : TypeId} {xs : List Value} (h : w.ownsRow base e size (.slice (some ⟨g, 0, none⟩) n cap) n xs) (j : Nat) (u : Value) : (w.setCell ⟨g, j, none⟩ u).ownsRow base e size (.slice (some ⟨g, 0, none⟩) n cap) n (xs.set j u) := by
  rcases h.2 with ⟨h', _⟩ | ⟨g', cap', cur, h', hb, hg, hnc, hcm, hcs, htake⟩
  · cases h'
  · cases h'
    refine ⟨by rw [List.length_set]; exact h.1, .inr ⟨g, cap, cur.setIfInBounds j u, rfl, hb, heap_setCell_same _ _ j _ _ _ hg, hnc, hcm, by rw [Array.size_setIfInBounds]; exact hcs, ?_⟩⟩
    rw [Array.toList_setIfInBounds, ← htake, List.take_set]
theorem entC_app (l1 l2 : List EP) : entC (l1 ++ l2) = entC l1 ++ entC l2 := by simp [entC]
theorem entC_take : ∀ (l : List EP) (i : Nat), entC (l.take i) = (entC l).take (i * 2) ∧ entC (l.drop i) = (entC l).drop (i * 2)
  | [], i => by simp [entC]
  | x :: l, 0 => by simp [entC]
  | x :: l, i + 1 => by
    obtain ⟨h1, h2⟩ := entC_take l i
    have e : entC (x :: l) = .string x.e.key :: .slice x.a x.n x.c :: entC l := rfl
    have e2 : entC (x :: l.take i) = .string x.e.key :: .slice x.a x.n x.c :: entC (l.take i) := rfl
    rw [List.take_succ_cons, List.drop_succ_cons, e, e2, show (i + 1) * 2 = i * 2 + 1 + 1 by omega, List.take_succ_cons, List.take_succ_cons, List.drop_succ_cons, List.drop_succ_cons, h1, h2]
    exact ⟨rfl, rfl⟩
theorem entC_set : ∀ (l : List EP) (i : Nat) (hi : i < l.length) (y : EP), y.e.key = (l[i]).e.key → entC (l.set i y) = (entC l).set (i * 2 + 1) (.slice y.a y.n y.c)
  | [], i, hi, y, _ => by simp at hi
  | x :: l, 0, hi, y, hk => by
    have e : ∀ z : EP, entC (z :: l) = .string z.e.key :: .slice z.a z.n z.c :: entC l := fun z => rfl
    rw [List.set_cons_zero, e, e, hk]
    rfl
  | x :: l, i + 1, hi, y, hk => by
    have e : ∀ l : List EP, entC (x :: l) = .string x.e.key :: .slice x.a x.n x.c :: entC l := fun z => rfl
    rw [List.set_cons_succ, e, e, entC_set l i (by simpa using hi) y (by simpa using hk), show (i + 1) * 2 + 1 = i * 2 + 1 + 1 + 1 by omega, List.set_cons_succ, List.set_cons_succ]
theorem accE_app (l1 l2 : List EP) : accE (l1 ++ l2) = accE l1 ++ accE l2 := by simp [accE]
theorem accE_take (l : List EP) (i : Nat) : accE (l.take i) = (accE l).take i ∧ accE (l.drop i) = (accE l).drop i := by simp [accE, List.map_take, List.map_drop]
theorem accE_set (l : List EP) (i : Nat) (y : EP) : accE (l.set i y) = (accE l).set i y.e := by simp [accE, List.map_set]

section
variable {w w1 w9 : World} {r : Addr} {b n c : Nat} {a : Option Addr} {l : List EP}
/-- An entry more, of no version. -/
theorem StM.more {a' : Option Addr} {c' i : Nat} {K : ByteArray} (h : StM w r b a n c l) (hn : n < 100000) (hb : Below w.heap.size w w1) (hg9 : w1.grownBy w9 (Value.slice a n c).ownBlock) (hk9 : ∀ k, (Value.slice a' (n + 1) c').ownBlock = some k → (Value.slice a n c).ownBlock = some k ∨ w1.heap.size ≤ k)
    (hown9 : w9.ownsRow 0 109 2 (.slice a' (n + 1) c') (n + 1) ((entC l).take (i * 2) ++ [.string K, .slice none 0 0] ++ (entC l).drop (i * 2))) :
    StM (w9.setCell ⟨b, 0, none⟩ (.slice a' (n + 1) c')) r b a' (n + 1) c' (l.take i ++ [⟨⟨K, []⟩, none, 0, 0⟩] ++ l.drop i) ∧ Moves (stO b a n c l) (stO b a' (n + 1) c' (l.take i ++ [⟨⟨K, []⟩, none, 0, 0⟩] ++ l.drop i)) w (w9.setCell ⟨b, 0, none⟩ (.slice a' (n + 1) c')) := by
  have hbs := (Array.getElem?_eq_some_iff.1 h.box).1
  have hs1 := hb.size
  have hs9 := hg9.size
  have hmem : ∀ x ∈ l.take i ++ [(⟨⟨K, []⟩, none, 0, 0⟩ : EP)] ++ l.drop i, x ∈ l ∨ x = ⟨⟨K, []⟩, none, 0, 0⟩ := fun x hx => by
    simp only [List.mem_append, List.mem_singleton] at hx
    rcases hx with (hx | hx) | hx
    · exact .inl (List.mem_of_mem_take hx)
    · exact .inr hx
    · exact .inl (List.mem_of_mem_drop hx)
  have hkeep : ∀ k, k < w.heap.size → (Value.slice a n c).ownBlock ≠ some k → k ≠ b → (w9.setCell ⟨b, 0, none⟩ (.slice a' (n + 1) c')).heap[k]? = w.heap[k]? := fun k h1 h2 h3 => by
    rw [Below.heap_setCell _ _ _ _ h3, hg9.block k (by omega) (fun e => h2 e.symm)]
    exact hb.block k h1
  have hbox9 : w9.heap[b]? = some (.cells #[.slice a n c] 71 (0, 0)) := by
    rw [hg9.block b (by omega) (fun e => h.nb e.symm)]
    exact (hb.block b hbs).trans h.box
  have hnb : (Value.slice a' (n + 1) c').ownBlock ≠ some b := fun e => by
    rcases hk9 b e with h1 | h1
    · exact h.nb h1
    · omega
  refine ⟨⟨h.ptr, ?_, ?_, ?_, by omega, fun x hx => ?_, ?_, hnb⟩, ⟨?_, ?_, ?_, ?_, fun k h1 h2 => ?_, ?_⟩⟩
  · exact heap_setCell_same _ _ 0 _ _ _ hbox9
  · rw [entC_app, entC_app, (entC_take l i).1, (entC_take l i).2]
    refine own_same hown9 fun k e => Below.heap_setCell _ _ _ _ ?_
    rintro rfl
    exact hnb e
  · rw [List.length_append, List.length_append, List.length_singleton, List.length_take, List.length_drop]
    have := h.len
    omega
  · rcases hmem x hx with hx | rfl
    · have hE := h.each x hx
      refine ⟨hE.len, own_same hE.row fun k e => ?_, fun p hp => ⟨fun e => ?_, (hE.far p hp).2⟩⟩
      · obtain ⟨p, hp, rfl⟩ := slice_block e
        exact hkeep _ (hE.row.lt p.block e).2 (hE.far p hp).1 (hE.far p hp).2
      · rcases hk9 _ e with h1 | h1
        · exact (hE.far p hp).1 h1
        · have := (hE.row.lt p.block (by rw [hp]; rfl)).2
          omega
    · exact ⟨rfl, World.ownsRow_nil _ _ _ _, fun p hp => by cases hp⟩
  · have ha := h.apart
    rw [← List.take_append_drop i l] at ha
    obtain ⟨h1, h2, h3⟩ := List.pairwise_append.1 ha
    refine List.pairwise_append.2 ⟨List.pairwise_append.2 ⟨h1, List.pairwise_singleton _ _, fun x hx y hy p q hp hq => ?_⟩, h2, fun x hx y hy p q hp hq => ?_⟩
    · rw [List.mem_singleton.1 hy] at hq; cases hq
    · rcases List.mem_append.1 hx with hx | hx
      · exact h3 x hx y hy p q hp hq
      · rw [List.mem_singleton.1 hx] at hp; cases hp
  · exact hg9.os.trans hb.os
  · exact hg9.tape.trans hb.tape
  · exact hg9.output.trans hb.output
  · simp only [World.setCell, Array.size_modify]; omega
  · exact hkeep k h1 (fun e => h2 (.inr (.inl e))) (fun e => h2 (.inl e))
  · rintro k (rfl | hk | ⟨x, hx, p, hp, rfl⟩)
    · exact .inl (.inl rfl)
    · rcases hk9 k hk with h1 | h1
      · exact .inl (.inr (.inl h1))
      · exact .inr (by omega)
    · rcases hmem x hx with hx | rfl
      · exact .inl (.inr (.inr ⟨x, hx, p, hp, rfl⟩))
      · cases hp
/-- A version more behind a chain. -/
theorem StM.put {g i n9 c9 : Nat} {a9 : Option Addr} {ch9 : List Vr} (h : StM w r b a n c l) (hi : i < l.length) (ha : a = some ⟨g, 0, none⟩) (hb : Below w.heap.size w w1) (hg9 : w1.grownBy w9 (Value.slice (l[i]).a (l[i]).n (l[i]).c).ownBlock) (hk9 : ∀ k, (Value.slice a9 n9 c9).ownBlock = some k → (Value.slice (l[i]).a (l[i]).n (l[i]).c).ownBlock = some k ∨ w1.heap.size ≤ k)
    (hown9 : w9.ownsRow 0 42 3 (.slice a9 n9 c9) n9 (versC ch9)) (hl9 : ch9.length = n9) :
    StM (w9.setCell ⟨g, i * 2 + 1, none⟩ (.slice a9 n9 c9)) r b a n c (l.set i ⟨⟨(l[i]).e.key, ch9⟩, a9, n9, c9⟩) ∧ Moves (stO b a n c l) (stO b a n c (l.set i ⟨⟨(l[i]).e.key, ch9⟩, a9, n9, c9⟩)) w (w9.setCell ⟨g, i * 2 + 1, none⟩ (.slice a9 n9 c9)) := by
  subst ha
  have hbs := (Array.getElem?_eq_some_iff.1 h.box).1
  have hs1 := hb.size
  have hs9 := hg9.size
  have hX := h.each _ (List.getElem_mem hi)
  have hgs := (h.row.lt g rfl).2
  have hgn : g ≠ b := fun e => h.nb (by rw [← e]; rfl)
  have hoff : ∀ k, (Value.slice (l[i]).a (l[i]).n (l[i]).c).ownBlock = some k → k ≠ g ∧ k ≠ b ∧ k < w.heap.size := fun k e => by
    obtain ⟨p, hp, rfl⟩ := slice_block e
    exact ⟨fun e2 => (hX.far p hp).1 (by rw [e2]; rfl), (hX.far p hp).2, (hX.row.lt _ e).2⟩
  have hkeep9 : ∀ k, k < w.heap.size → (Value.slice (l[i]).a (l[i]).n (l[i]).c).ownBlock ≠ some k → w9.heap[k]? = w.heap[k]? := fun k h1 h2 => by
    rw [hg9.block k (by omega) (fun e => h2 e.symm)]
    exact hb.block k h1
  have hkeep : ∀ k, k < w.heap.size → (Value.slice (l[i]).a (l[i]).n (l[i]).c).ownBlock ≠ some k → k ≠ g → (w9.setCell ⟨g, i * 2 + 1, none⟩ (.slice a9 n9 c9)).heap[k]? = w.heap[k]? := fun k h1 h2 h3 => by
    rw [Below.heap_setCell _ _ _ _ h3]
    exact hkeep9 k h1 h2
  have hnew : ∀ p : Addr, a9 = some p → (Value.slice (l[i]).a (l[i]).n (l[i]).c).ownBlock = some p.block ∨ w.heap.size ≤ p.block := fun p hp => by
    rcases hk9 p.block (by rw [hp]; rfl) with h1 | h1
    · exact .inl h1
    · exact .inr (by omega)
  have hmem : ∀ x ∈ l.set i ⟨⟨(l[i]).e.key, ch9⟩, a9, n9, c9⟩, x = ⟨⟨(l[i]).e.key, ch9⟩, a9, n9, c9⟩ ∨ ∃ j, ∃ hj : j < l.length, j ≠ i ∧ x = l[j] := fun x hx => by
    obtain ⟨j, hj, rfl⟩ := List.mem_iff_getElem.1 hx
    rw [List.getElem_set]
    split
    · exact .inl rfl
    · rename_i hji
      rw [List.length_set] at hj
      exact .inr ⟨j, hj, fun e => hji e.symm, rfl⟩
  have hapart : ∀ j (hj : j < l.length), j ≠ i → ∀ p : Addr, (l[j]).a = some p → (Value.slice (l[i]).a (l[i]).n (l[i]).c).ownBlock ≠ some p.block := fun j hj hji p hp e => by
    obtain ⟨q, hq, hqp⟩ := slice_block e
    rcases Nat.lt_or_ge j i with h1 | h1
    · exact List.pairwise_iff_getElem.1 h.apart j i hj hi h1 p q hp hq hqp.symm
    · exact List.pairwise_iff_getElem.1 h.apart i j hi hj (by omega) q p hq hp hqp
  have hplt : ∀ j (hj : j < l.length) (p : Addr), (l[j]).a = some p → p.block < w.heap.size := fun j hj p hp => ((h.each _ (List.getElem_mem hj)).row.lt p.block (by rw [hp]; rfl)).2
  have hsz : ∀ u, (w9.setCell ⟨g, i * 2 + 1, none⟩ u).heap.size = w9.heap.size := fun u => by simp [World.setCell]
  refine ⟨⟨h.ptr, ?_, ?_, by rw [List.length_set]; exact h.len, h.big, fun x hx => ?_, ?_, h.nb⟩, ⟨?_, ?_, ?_, ?_, fun k h1 h2 => ?_, ?_⟩⟩
  · exact (hkeep b hbs (fun e => (hoff b e).2.1 rfl) (fun e => hgn e.symm)).trans h.box
  · rw [entC_set l i hi ⟨⟨(l[i]).e.key, ch9⟩, a9, n9, c9⟩ rfl]
    refine own_storedE (own_same h.row fun k e => ?_) _ _
    injection e with e
    subst e
    exact hkeep9 g hgs (fun e => (hoff g e).1 rfl)
  · rcases hmem x hx with rfl | ⟨j, hj, hji, rfl⟩
    · refine ⟨hl9, own_same hown9 fun k e => Below.heap_setCell _ _ _ _ ?_, fun p hp => ?_⟩
      · show k ≠ g
        rcases hk9 k e with h1 | h1
        · exact (hoff k h1).1
        · omega
      · rcases hnew p hp with h1 | h1
        · exact ⟨fun e => (hoff _ h1).1 (by injection e with e; exact e.symm), (hoff _ h1).2.1⟩
        · exact ⟨fun e => by injection e with e; simp only at e; omega, by omega⟩
    · have hE := h.each _ (List.getElem_mem hj)
      refine ⟨hE.len, own_same hE.row fun k e => ?_, hE.far⟩
      obtain ⟨p, hp, rfl⟩ := slice_block e
      exact hkeep _ (hplt j hj p hp) (hapart j hj hji p hp) (fun e2 => (hE.far p hp).1 (by rw [e2]; rfl))
  · refine List.pairwise_iff_getElem.2 fun j k hj hk hjk p q hp hq => ?_
    rw [List.length_set] at hj hk
    rw [List.getElem_set] at hp hq
    by_cases hji : i = j
    · rw [if_pos hji] at hp
      rw [if_neg (by omega)] at hq
      rcases hnew p hp with h1 | h1
      · intro e
        exact hapart k hk (by omega) q hq (by rw [h1, e])
      · have := hplt k hk q hq
        omega
    · rw [if_neg hji] at hp
      by_cases hki : i = k
      · rw [if_pos hki] at hq
        rcases hnew q hq with h1 | h1
        · intro e
          exact hapart j hj (by omega) p hp (by rw [h1, e])
        · have := hplt j hj p hp
          omega
      · rw [if_neg hki] at hq
        exact List.pairwise_iff_getElem.1 h.apart j k hj hk hjk p q hp hq
  · exact hg9.os.trans hb.os
  · exact hg9.tape.trans hb.tape
  · exact hg9.output.trans hb.output
  · rw [hsz]; omega
  · refine hkeep k h1 (fun e => ?_) (fun e => h2 (.inr (.inl (by rw [e]; rfl))))
    obtain ⟨p, hp, rfl⟩ := slice_block e
    exact h2 (.inr (.inr ⟨_, List.getElem_mem hi, p, hp, rfl⟩))
  · rintro k (rfl | hk | ⟨x, hx, p, hp, rfl⟩)
    · exact .inl (.inl rfl)
    · exact .inl (.inr (.inl hk))
    · rcases hmem x hx with rfl | ⟨j, hj, hji, rfl⟩
      · rcases hnew p hp with h1 | h1
        · obtain ⟨q, hq, hqp⟩ := slice_block h1
          exact .inl (.inr (.inr ⟨_, List.getElem_mem hi, q, hq, hqp⟩))
        · exact .inr h1
      · exact .inl (.inr (.inr ⟨_, List.getElem_mem hj, p, hp, rfl⟩))
end
end Go.Proofs.Ythcomfcbdlobpaa

namespace Go.Proofs.Ythcomfcbdlobpaa
open Go.RowKit
set_option linter.unusedVariables false
set_option linter.unnecessarySimpa false
set_option linter.unusedSimpArgs false
set_option maxRecDepth 100000

/-- What is asked of a store. -/
structure Ask where
  key : ByteArray
  time : Nat
  lo : ByteArray
  hi : ByteArray
  most : Int
def Ask.cells (q : Ask) : Array Value := #[.string q.key, .int .u64 (q.time : Int), .string q.lo, .string q.hi, .int .i64 q.most]
def Im.ok (m : Im) : Prop := m.key.size ≤ maxLen ∧ m.v.val.size ≤ maxLen ∧ m.v.time < 18446744073709551616
theorem items_one {W : World} {g : Nat} {m : Im} (hm : m.ok) (h : W.heap[g]? = some (.cells m.cells.toArray 111 (0, 0))) : IsItms W (some ⟨g, 0, none⟩) 1 1 [m] := by
  refine ⟨rfl, by unfold maxLen; omega, fun i hi => ⟨g, 0, rfl, ?_⟩⟩
  obtain rfl : i = 0 := by omega
  exact ⟨(Array.getElem?_eq_some_iff.1 h).1, hm.1, hm.2.1, hm.2.2, by rw [cell_of_row _ _ _ _ _ _ h]; rfl, by rw [cell_of_row _ _ _ _ _ _ h]; rfl, by rw [cell_of_row _ _ _ _ _ _ h]; rfl, by rw [cell_of_row _ _ _ _ _ _ h]; rfl⟩

section
variable {w wx w' : World} {mc qc : Array Value}
end
def farP (w : World) : Nat → Prop := fun k => k = w.heap.size ∨ k = w.heap.size + 1
section
variable {S : MvcC} {w wx w' : World} {mc qc : Array Value} {r : Addr} {L L' : List Im}
end
theorem IsWts.same {W W' : World} {a : Option Addr} {n c : Nat} {L : List Wt} (h : IsWts W a n c L) (hs : W.heap.size ≤ W'.heap.size) (hk : 0 < n → ∀ b off, a = some ⟨b, off, none⟩ → W'.heap[b]? = W.heap[b]?) : IsWts W' a n c L := by
  refine ⟨h.1, h.2.1, fun i hi => ?_⟩
  obtain ⟨b, off, ha, h1, h2, h3, k0, k1, k2⟩ := h.2.2 i hi
  have hb := hk (by omega) b off ha
  exact ⟨b, off, ha, Nat.lt_of_lt_of_le h1 hs, h2, h3, by rw [World.cell?, hb]; exact k0, by rw [World.cell?, hb]; exact k1, by rw [World.cell?, hb]; exact k2⟩
theorem drewN_belowM {B : Nat} {w w' : World} (h : Below B w w') (n : Nat) : Below B w (w'.drewN n) := ⟨h.os, h.tape, h.output, h.size, h.block⟩
theorem ins_len (L : List Im) (m : Im) : (insM L m).1.length ≤ L.length + 1 := by rcases ins_cases L m with e | e <;> rw [e] <;> simp

end Go.Proofs.Ythcomfcbdlobpaa
