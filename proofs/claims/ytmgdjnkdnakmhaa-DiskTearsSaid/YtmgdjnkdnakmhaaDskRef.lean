/-
  The document's disk in memory; its Do, kind by kind: calls that are lost, or are none; Fuse.
-/
import Derived.Test.YtmgdjnkdnakmhaaDskMath
import Derived.Test.YtmgdjnkdnakmhaaBuildOne
import Derived.Test.YtmgdjnkdnakmhaaClass
import Derived.ProofKit
import Derived.OpenShut
import Derived.Deep.DeepCutAuto
import Derived.Deep.CutBlock
import Derived.Deep.WholeRow
import Derived.Lib.Strings
import Derived.Lib.IndexBytes
namespace Go.Proofs.Ytmgdjnkdnakmhaa
open Go.RowKit
set_option linter.unusedVariables false
set_option linter.unnecessarySimpa false
set_option linter.unusedSimpArgs false
set_option maxRecDepth 100000

/-- Numbers and texts of writes that wait. -/
def atCells (l : List (Nat × List UInt8)) : List Value := l.map fun x => .int .i64 (x.1 : Int)
def txCells (l : List (Nat × List UInt8)) : List Value := l.map fun x => .string ⟨x.2.toArray⟩
/-- A row of bytes, whole. -/
def ByteRow (w : World) (g : Nat) (l : List UInt8) : Prop := w.heap[g]? = some (.cells (Lib.byteCells l).toArray 5 (0, 0))
/-- The document's disk. -/
structure RefAt (w : World) (g : Nat) (D : DK) (N gs gn : Nat) (va vb : Value) : Prop where
  size : N = 64 * D.seen.length
  cell : w.heap[g]? = some (.cells #[.slice (some ⟨gs, 0, none⟩) N N, .slice (some ⟨gn, 0, none⟩) N N, va, vb, .int .i64 D.fuse] 45 (0, 0))
  sure : ByteRow w gs D.sure.flatten
  seen : ByteRow w gn D.seen.flatten
  at_ : w.ownsRow 0 3 1 va D.waits.length (atCells D.waits)
  tx : w.ownsRow 0 9 1 vb D.waits.length (txCells D.waits)
  ne : gs ≠ gn
/-- What it owns. -/
def refOwn (g gs gn : Nat) (va vb : Value) (k : Nat) : Prop := k = g ∨ k = gs ∨ k = gn ∨ va.ownBlock = some k ∨ vb.ownBlock = some k
def RefD (w : World) (r : Addr) (D : DK) (O : Nat → Prop) : Prop := D.ok ∧ ∃ g N gs gn va vb, r = ⟨g, 0, none⟩ ∧ RefAt w g D N gs gn va vb ∧ ∀ k, O k ↔ refOwn g gs gn va vb k

theorem own_blk {w : World} {e n : Nat} {v : Value} {xs : List Value} {base k : Nat} (h : w.ownsRow base e 1 v n xs) (hk : v.ownBlock = some k) : k < w.heap.size ∧ base ≤ k := by
  rcases h.2 with ⟨rfl, _⟩ | ⟨g, cap, cur, rfl, hb, hg, _⟩
  · simp [Value.ownBlock] at hk
  · simp only [Value.ownBlock, Option.some.injEq] at hk
    subst hk
    exact ⟨(Array.getElem?_eq_some_iff.1 hg).1, hb⟩
theorem row_lt {w : World} {g : Nat} {o : Obj} (h : w.heap[g]? = some o) : g < w.heap.size := (Array.getElem?_eq_some_iff.1 h).1
theorem own_keep {w w' : World} {e n base : Nat} {v : Value} {xs : List Value} (h : w.ownsRow base e 1 v n xs) (hk : ∀ k, v.ownBlock = some k → w'.heap[k]? = w.heap[k]?) : w'.ownsRow base e 1 v n xs := by
  refine ⟨h.1, ?_⟩
  rcases h.2 with h2 | ⟨g, cap, cur, rfl, hb, hg, rest⟩
  · exact .inl h2
  · exact .inr ⟨g, cap, cur, rfl, hb, (hk g rfl).trans hg, rest⟩
theorem RefAt.lt {w : World} {g N gs gn : Nat} {D : DK} {va vb : Value} (h : RefAt w g D N gs gn va vb) : ∀ k, refOwn g gs gn va vb k → k < w.heap.size := by
  rintro k (rfl | rfl | rfl | hk | hk)
  · exact row_lt h.cell
  · exact row_lt h.sure
  · exact row_lt h.seen
  · exact (own_blk h.at_ hk).1
  · exact (own_blk h.tx hk).1
theorem RefAt.stay {w w' : World} {g N gs gn : Nat} {D : DK} {va vb : Value} (h : RefAt w g D N gs gn va vb) (hk : ∀ k, refOwn g gs gn va vb k → w'.heap[k]? = w.heap[k]?) : RefAt w' g D N gs gn va vb :=
  ⟨h.size, (hk g (.inl rfl)).trans h.cell, (hk gs (.inr (.inl rfl))).trans h.sure, (hk gn (.inr (.inr (.inl rfl)))).trans h.seen,
    own_keep h.at_ (fun k e => hk k (.inr (.inr (.inr (.inl e))))), own_keep h.tx (fun k e => hk k (.inr (.inr (.inr (.inr e))))), h.ne⟩
theorem RefD.lt {w : World} {r : Addr} {D : DK} {O : Nat → Prop} (h : RefD w r D O) : ∀ k, O k → k < w.heap.size := by
  obtain ⟨_, g, N, gs, gn, va, vb, rfl, hr, hO⟩ := h
  exact fun k hk => hr.lt k ((hO k).1 hk)
theorem RefD.stay {w w' : World} {r : Addr} {D : DK} {O : Nat → Prop} (h : RefD w r D O) (hk : ∀ k, O k → w'.heap[k]? = w.heap[k]?) : RefD w' r D O := by
  obtain ⟨hok, g, N, gs, gn, va, vb, rfl, hr, hO⟩ := h
  exact ⟨hok, g, N, gs, gn, va, vb, rfl, hr.stay (fun k e => hk k ((hO k).2 e)), hO⟩
/-- One cell of the object is written. -/
theorem RefAt.cells {w : World} {g N gs gn : Nat} {D : DK} {va vb : Value} (h : RefAt w g D N gs gn va vb) :
    w.cell? ⟨g, 0, none⟩ = some (.slice (some ⟨gs, 0, none⟩) N N) ∧ w.cell? ⟨g, 1, none⟩ = some (.slice (some ⟨gn, 0, none⟩) N N) ∧ w.cell? ⟨g, 2, none⟩ = some va ∧ w.cell? ⟨g, 3, none⟩ = some vb ∧ w.cell? ⟨g, 4, none⟩ = some (.int .i64 D.fuse) ∧
      ∀ j, w.frozen? ⟨g, j, none⟩ = false := by
  have hc := h.cell
  refine ⟨?_, ?_, ?_, ?_, ?_, fun j => ?_⟩
  all_goals first | (rw [cell_of_row _ _ _ _ _ _ hc]; rfl) | (simp [World.frozen?, hc])

/-- A call's arguments. -/
structure Opn where
  kind : Nat
  i : Int
  n : Int
  b : ByteArray
  fa : Option Addr
  fl : Nat
  fc : Nat
def Opn.cells (o : Opn) : Array Value := #[.int .u8 (o.kind : Int), .int .i64 o.i, .int .i64 o.n, .string o.b, .slice o.fa o.fl o.fc]

set_option maxHeartbeats 1000000 in
theorem do_lost (w : World) (g : Nat) (D : DK) (N gs gn : Nat) (va vb : Value) (h : RefAt w g D N gs gn va vb) (o : Opn) (hk : o.kind % 5 < 3) (h0 : D.fuse = 0) :
    Calls Try.prog 15 #[.pointer (some ⟨g, 0, none⟩), .agg o.cells] w fun e w' => e = .returned (.tuple #[.string ⟨#[]⟩, .int .i64 6]) ∧ Below w.heap.size w w' := by
  obtain ⟨kind, i, n, b, fa, fl, fc⟩ := o
  obtain ⟨c0, c1, c2, c3, c4, cf⟩ := h.cells
  have hg := row_lt h.cell
  rw [h0] at c4
  have hkz : (kind : Int) % 5 < 3 := by simp only at hk; omega
  clear h hk h0
  unfold Opn.cells
  simp only
  go_enter Try.func15, Try.ntmps15
  go_wp2_with fail
  go_ret2
  exact ⟨rfl, (Below.refl _ _).alloc (Nat.le_refl _) _⟩

theorem below_drewD {B : Nat} {w w' : World} (h : Below B w w') (n : Nat) : Below B w (w'.drewN n) := ⟨h.os, h.tape, h.output, h.size, h.block⟩
/-- What is asked of a call's place and bytes goes wrong. -/
def badOp (kk : Int) (i : Int) (L : Nat) (b : ByteArray) : Prop := (kk < 2 ∧ (i < 0 ∨ (¬ i < 0 ∧ (L : Int) ≤ i))) ∨ (kk < 2 ∧ ¬ i < 0 ∧ ¬ (L : Int) ≤ i ∧ kk = 0 ∧ b.size ≠ 64)
set_option maxHeartbeats 4000000 in
theorem do_none (w : World) (g : Nat) (D : DK) (N gs gn : Nat) (va vb : Value) (h : RefAt w g D N gs gn va vb) (hok : D.ok) (o : Opn) (h0 : D.fuse ≠ 0) (hbad : badOp ((o.kind : Int) % 5) o.i D.seen.length o.b) :
    Calls Try.prog 15 #[.pointer (some ⟨g, 0, none⟩), .agg o.cells] w fun e w' => e = .returned (.tuple #[.string ⟨#[]⟩, .int .i64 1]) ∧ Below w.heap.size w w' := by
  obtain ⟨kind, i, n, b, fa, fl, fc⟩ := o
  obtain ⟨c0, c1, c2, c3, c4, cf⟩ := h.cells
  have hg := row_lt h.cell
  obtain ⟨L, hL⟩ : ∃ L, L = D.seen.length := ⟨_, rfl⟩
  have hN : (N : Int) / 64 = (L : Int) := by have := h.size; omega
  have hN2 : N ≤ 300000 := by have := h.size; have := hok.small; omega
  obtain ⟨F, hF⟩ : ∃ F, F = D.fuse := ⟨_, rfl⟩
  rw [← hF] at c4 h0
  rw [← hL] at hbad
  have h0b : (F == 0) = false := by rw [beq_eq_false_iff_ne]; exact h0
  simp only at hbad
  obtain ⟨kk, hkk⟩ : ∃ kk : Int, (kind : Int) % 5 = kk := ⟨_, rfl⟩
  rw [hkk] at hbad
  have hk5 : 0 ≤ kk ∧ kk < 5 := by omega
  obtain ⟨hk5a, hk5b⟩ := hk5
  clear h h0 hF hL hok
  unfold Opn.cells
  simp only
  rcases hbad with ⟨hk2, hi | ⟨hi1, hi2⟩⟩ | ⟨hk2, hi1, hi2, hk0, hb64⟩
  · have hk3 : kk < 3 := by omega
    go_enter Try.func15, Try.ntmps15
    go_wp2_with fail
    go_quiet (fail)
    go_wp2_with fail
    go_ret2
    exact ⟨rfl, below_drewD ((Below.refl _ _).alloc (Nat.le_refl _) _) _⟩
  · have hk3 : kk < 3 := by omega
    have e1 : decide (i < 0) = false := by simpa using hi1
    go_enter Try.func15, Try.ntmps15
    go_wp2_with fail
    go_quiet (fail)
    go_wp2_with fail
    go_ret2
    exact ⟨rfl, below_drewD ((Below.refl _ _).alloc (Nat.le_refl _) _) _⟩
  · subst hk0
    have hb : ((b.size : Int) == 64) = false := by rw [beq_eq_false_iff_ne]; omega
    have e1 : decide (i < 0) = false := by simpa using hi1
    have e2 : decide ((L : Int) ≤ i) = false := by simpa using hi2
    go_enter Try.func15, Try.ntmps15
    go_wp2_with fail
    go_quiet (fail)
    go_wp2_with fail
    go_ret2
    exact ⟨rfl, below_drewD ((Below.refl _ _).alloc (Nat.le_refl _) _) _⟩
end Go.Proofs.Ytmgdjnkdnakmhaa
