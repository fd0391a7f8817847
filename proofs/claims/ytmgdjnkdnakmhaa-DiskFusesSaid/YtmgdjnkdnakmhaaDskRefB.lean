/-
  The document's Do: Fuse, Read.
-/
import Derived.Test.YtmgdjnkdnakmhaaDskRef
namespace Go.Proofs.Ytmgdjnkdnakmhaa
open Go.RowKit
set_option linter.unusedVariables false
set_option linter.unnecessarySimpa false
set_option linter.unusedSimpArgs false
set_option maxRecDepth 100000

theorem below_last {B : Nat} {w : World} (hB : B ≤ w.heap.size) (o : Obj) : Below B w (w.alloc o) := (Below.refl _ _).alloc hB _

set_option maxHeartbeats 4000000 in
theorem do_fuse0 (w : World) (g : Nat) (D : DK) (N gs gn : Nat) (va vb : Value) (h : RefAt w g D N gs gn va vb) (o : Opn) (hk : (o.kind : Int) % 5 = 3) (h0 : D.fuse = 0) :
    Calls Try.prog 15 #[.pointer (some ⟨g, 0, none⟩), .agg o.cells] w fun e w' => e = .returned (.tuple #[.string ⟨#[]⟩, .int .i64 0]) ∧ Below w.heap.size w w' := by
  obtain ⟨kind, i, n, b, fa, fl, fc⟩ := o
  obtain ⟨c0, c1, c2, c3, c4, cf⟩ := h.cells
  have hg := row_lt h.cell
  rw [h0] at c4
  simp only at hk
  clear h h0
  unfold Opn.cells
  simp only
  go_enter Try.func15, Try.ntmps15
  go_wp2_with fail
  go_quiet (fail)
  go_wp2_with fail
  go_ret2
  exact ⟨rfl, below_drewD ((Below.refl _ _).alloc (Nat.le_refl _) _) _⟩

theorem set_fuse {w w' : World} {g : Nat} {D : DK} {N gs gn : Nat} {va vb : Value} (h : RefAt w g D N gs gn va vb) (F : Int) (hg : w'.heap[g]? = some (.cells #[.slice (some ⟨gs, 0, none⟩) N N, .slice (some ⟨gn, 0, none⟩) N N, va, vb, .int .i64 F] 45 (0, 0)))
    (hk : ∀ k, refOwn g gs gn va vb k → k ≠ g → w'.heap[k]? = w.heap[k]?) : RefAt w' g ⟨D.sure, D.seen, D.waits, F⟩ N gs gn va vb := by
  have ng : ∀ k (t : TypeId) cs, w.heap[k]? = some (.cells cs t (0, 0)) → t ≠ 45 → k ≠ g := by
    intro k t cs hk2 ht e
    rw [e, h.cell] at hk2
    injection hk2 with hk2
    injection hk2 with _ h2
    exact ht h2.symm
  have nv : ∀ v e n xs, w.ownsRow 0 e 1 v n xs → e ≠ 45 → ∀ k, v.ownBlock = some k → k ≠ g := by
    intro v e n xs hv he k hk
    rcases hv.2 with ⟨rfl, _⟩ | ⟨g', cap, cur, rfl, hb, hg', _⟩
    · simp [Value.ownBlock] at hk
    · simp only [Value.ownBlock, Option.some.injEq] at hk
      subst hk
      exact ng _ _ _ hg' he
  exact ⟨h.size, hg, (hk gs (.inr (.inl rfl)) (ng _ _ _ h.sure (by decide))).trans h.sure, (hk gn (.inr (.inr (.inl rfl))) (ng _ _ _ h.seen (by decide))).trans h.seen,
    own_keep h.at_ (fun k e => hk k (.inr (.inr (.inr (.inl e)))) (nv _ _ _ _ h.at_ (by decide) k e)), own_keep h.tx (fun k e => hk k (.inr (.inr (.inr (.inr e)))) (nv _ _ _ _ h.tx (by decide) k e)), h.ne⟩

theorem Moves.setCell {O O' : Nat → Prop} {w w' : World} (h : Moves O O' w w') {a : Addr} (ha : O a.block ∨ w.heap.size ≤ a.block) (v : Value) : Moves O O' w (w'.setCell a v) :=
  ⟨h.os, h.tape, h.output, by simpa [World.setCell] using h.size, fun k hk hO => by
    rw [Below.heap_setCell _ _ _ _ (fun e => by subst e; rcases ha with ha | ha; exact hO ha; omega)]; exact h.block k hk hO, h.own⟩
theorem Moves.alloc {O O' : Nat → Prop} {w w' : World} (h : Moves O O' w w') (o : Obj) : Moves O O' w (w'.alloc o) :=
  ⟨h.os, h.tape, h.output, by have := h.size; simp; omega, fun k hk hO => by rw [Below.heap_alloc _ _ _ (Nat.lt_of_lt_of_le hk h.size)]; exact h.block k hk hO, h.own⟩
theorem Moves.drewN {O O' : Nat → Prop} {w w' : World} (h : Moves O O' w w') (n : Nat) : Moves O O' w (w'.drewN n) := ⟨h.os, h.tape, h.output, h.size, h.block, h.own⟩
theorem Moves.grown {O O' : Nat → Prop} {w w' w'' : World} {row : Option Nat} (h : Moves O O' w w') (hg : w'.grownBy w'' row) (hr : ∀ k, row = some k → O k ∨ w.heap.size ≤ k) : Moves O O' w w'' :=
  ⟨hg.os.trans h.os, hg.tape.trans h.tape, hg.output.trans h.output, Nat.le_trans h.size hg.size,
    fun k hk hO => (hg.block k (Nat.lt_of_lt_of_le hk h.size) (fun e => by rcases hr k e.symm with h2 | h2; exact hO h2; omega)).trans (h.block k hk hO), h.own⟩
theorem Moves.setRow {O O' : Nat → Prop} {w w' : World} (h : Moves O O' w w') {g : Nat} (ha : O g ∨ w.heap.size ≤ g) (cs : Array Value) : Moves O O' w (w'.setRow g cs) :=
  ⟨h.os, h.tape, h.output, by have := h.size; simpa [World.setRow] using this, fun k hk hO => by
    rw [setRow_other w' g k cs (fun e => by subst e; rcases ha with ha | ha; exact hO ha; omega)]; exact h.block k hk hO, h.own⟩

set_option maxHeartbeats 4000000 in
theorem do_fuse1 (w : World) (g : Nat) (D : DK) (N gs gn : Nat) (va vb : Value) (h : RefAt w g D N gs gn va vb) (o : Opn) (hk : (o.kind : Int) % 5 = 3) (h0 : D.fuse ≠ 0) :
    Calls Try.prog 15 #[.pointer (some ⟨g, 0, none⟩), .agg o.cells] w fun e w' => e = .returned (.tuple #[.string ⟨#[]⟩, .int .i64 0]) ∧
      Hid (w'.heap[g]? = some (.cells #[.slice (some ⟨gs, 0, none⟩) N N, .slice (some ⟨gn, 0, none⟩) N N, va, vb, .int .i64 (max o.n (-1))] 45 (0, 0)) ∧ Moves (fun k => k = g) (fun k => k = g) w w') := by
  obtain ⟨kind, i, n, b, fa, fl, fc⟩ := o
  obtain ⟨c0, c1, c2, c3, c4, cf⟩ := h.cells
  have hg := row_lt h.cell
  have HC := Lib.hid h.cell
  obtain ⟨F, hF⟩ : ∃ F, F = D.fuse := ⟨_, rfl⟩
  rw [← hF] at c4 h0 HC
  have h0b : (F == 0) = false := by rw [beq_eq_false_iff_ne]; exact h0
  simp only at hk
  clear h h0 hF
  have HG := Lib.hid hg
  have key : ∀ (w2 : World) (X : Int), w2.heap[g]? = w.heap[g]? → (w2.setCell ⟨g, 4, none⟩ (.int .i64 X)).heap[g]? = some (.cells #[.slice (some ⟨gs, 0, none⟩) N N, .slice (some ⟨gn, 0, none⟩) N N, va, vb, .int .i64 X] 45 (0, 0)) := by
    intro w2 X h2
    rw [heap_setCell_same _ _ 4 _ _ _ (h2.trans HC.out)]
    rfl
  have KEY := Lib.hid key
  clear key
  unfold Opn.cells
  simp only
  go_enter Try.func15, Try.ntmps15
  go_wp2_with fail
  go_quiet (fail)
  go_wp2_with fail
  all_goals
    have hmx : max n (-1) = n ∨ max n (-1) = -1 := by omega
    go_ret2
    refine ⟨rfl, Lib.hid ⟨?_, (((Moves.same (fun k => k = g) _).alloc _).drewN _).setCell (.inl (Eq.refl g)) _⟩⟩
    first | rw [show max n (-1) = n by omega] | rw [show max n (-1) = -1 by omega]
    exact KEY.out _ _ (Below.heap_alloc _ _ _ HG.out)

theorem flat_get : ∀ (l : List (List UInt8)) (j : Nat), (∀ s ∈ l, s.length = 64) → j < l.length → (l.flatten.drop (64 * j)).take 64 = l.getD j []
  | [], j, _, h => by simp at h
  | s :: l, 0, hs, _ => by
    have h := hs s (by simp)
    rw [List.flatten_cons, Nat.mul_zero, List.drop_zero, List.take_append_of_le_length (by omega), List.take_of_length_le (by omega)]
    rfl
  | s :: l, j + 1, hs, h => by
    have h0 := hs s (by simp)
    rw [List.flatten_cons, List.drop_append, List.drop_of_length_le (by omega), List.nil_append, h0, show 64 * (j + 1) - 64 = 64 * j by omega, flat_get l j (fun t ht => hs t (by simp [ht])) (by simpa using h)]
    rfl
theorem flat_length : ∀ (l : List (List UInt8)), (∀ s ∈ l, s.length = 64) → l.flatten.length = 64 * l.length
  | [], _ => rfl
  | s :: l, hs => by rw [List.flatten_cons, List.length_append, hs s (by simp), flat_length l (fun t ht => hs t (by simp [ht])), List.length_cons]; omega

/-- 'string(b[64*j:64*j+64])' of a row of bytes. -/
theorem convert_part (W : World) (gn : Nat) (l : List UInt8) (j c : Nat) (h : ByteRow W gn l) (hj : 64 * j + 64 ≤ l.length) :
    (convert 30 9 (.slice (some ⟨gn, 64 * j, none⟩) 64 c)).run Try.prog W = .ok (.string ⟨((l.drop (64 * j)).take 64).toArray⟩) W := by
  have hl : ((l.drop (64 * j)).take 64).length = 64 := by rw [List.length_take, List.length_drop]; omega
  have := run_convert_bytes_back (P := Try.prog) W 30 9 5 ⟨gn, 64 * j, none⟩ c ((l.drop (64 * j)).take 64) Try.underlying30 Try.underlying5 Try.underlying9 (fun k hk => by
    rw [Addr.add_lit, cell_of_row _ _ _ _ _ _ h]
    have hk2 : k < 64 := by omega
    have hin : 64 * j + k < l.length := by omega
    simp [Lib.byteCells, List.getElem?_eq_getElem hin, List.getElem_take, List.getElem_drop])
  rw [hl] at this
  exact this

set_option maxHeartbeats 4000000 in
theorem do_read (w : World) (g : Nat) (D : DK) (N gs gn : Nat) (va vb : Value) (h : RefAt w g D N gs gn va vb) (hok : D.ok) (o : Opn) (hk : (o.kind : Int) % 5 = 1) (h0 : D.fuse ≠ 0) (j : Nat) (hi : o.i = j) (hj : j < D.seen.length) :
    Calls Try.prog 15 #[.pointer (some ⟨g, 0, none⟩), .agg o.cells] w fun e w' => e = .returned (.tuple #[.string ⟨(D.seen.getD j []).toArray⟩, .int .i64 0]) ∧ Below w.heap.size w w' := by
  obtain ⟨kind, i, n, b, fa, fl, fc⟩ := o
  simp only at hk hi
  subst hi
  obtain ⟨c0, c1, c2, c3, c4, cf⟩ := h.cells
  have hg := row_lt h.cell
  have hgn := row_lt h.seen
  obtain ⟨L, hL⟩ : ∃ L, L = D.seen.length := ⟨_, rfl⟩
  have hN : (N : Int) / 64 = (L : Int) := by have := h.size; omega
  have hN1 : 64 * j + 64 ≤ N := by have := h.size; omega
  have hN2 : N ≤ 300000 := by have := h.size; have := hok.small; omega
  have hfl := flat_length D.seen hok.seen
  have hcv := fun (W : World) (hW : W.heap[gn]? = w.heap[gn]?) (c : Nat) => convert_part W gn D.seen.flatten j c (hW.trans h.seen) (by omega)
  rw [flat_get D.seen j hok.seen hj] at hcv
  obtain ⟨X, hX⟩ : ∃ X : ByteArray, X = ⟨(D.seen.getD j []).toArray⟩ := ⟨_, rfl⟩
  rw [← hX] at hcv
  rw [← hX]
  obtain ⟨F, hF⟩ : ∃ F, F = D.fuse := ⟨_, rfl⟩
  rw [← hF] at c4 h0
  have h0b : (F == 0) = false := by rw [beq_eq_false_iff_ne]; exact h0
  have e1 : decide ((j : Int) < 0) = false := by simp
  have e2 : decide ((L : Int) ≤ (j : Int)) = false := by rw [decide_eq_false_iff_not]; omega
  have e3 : decide (L ≤ j) = false := by rw [decide_eq_false_iff_not]; omega
  have HCV := Lib.hid hcv
  have HGN := Lib.hid hgn
  clear h h0 hF hL hok hX hfl hcv hj
  unfold Opn.cells
  simp only
  go_enter Try.func15, Try.ntmps15
  go_wp2_with fail
  go_quiet (fail)
  go_wp2_with fail
  have hk1 : IntKind.i64.wrap (64 * (j : Int)) = 64 * (j : Int) := IntWalk.i64_in _ (by omega)
  have hk2 : IntKind.i64.wrap (64 * (j : Int) + 64) = 64 * (j : Int) + 64 := IntWalk.i64_in _ (by omega)
  obtain ⟨W, hW⟩ : ∃ W, W = (w.alloc (.cells #[.int .u8 (kind : Int), .int .i64 (j : Int), .int .i64 n, .string b, .slice fa fl fc] 32)).drewN nq := ⟨_, rfl⟩
  have hbW : Below w.heap.size w W := by rw [hW]; exact below_drewD ((Below.refl _ _).alloc (Nat.le_refl _) _) _
  have hszW : W.heap.size = w.heap.size + 1 := by rw [hW]; simp
  have o1 : W.cell? ⟨w.heap.size, 1, none⟩ = some (.int .i64 (j : Int)) := by rw [hW]; go_simp
  rw [← hW]
  have q1 : ∀ x : Like W.heap.size W, x.val.cell? ⟨g, 1, none⟩ = some (.slice (some ⟨gn, 0, none⟩) N N) := fun x => ((x.below.cell (p := ⟨g, 1, none⟩) (by show g < W.heap.size; omega)).trans (hbW.cell (p := ⟨g, 1, none⟩) hg)).trans c1
  have q2 : ∀ x : Like W.heap.size W, x.val.cell? ⟨w.heap.size, 1, none⟩ = some (.int .i64 (j : Int)) := fun x => (x.below.cell (p := ⟨w.heap.size, 1, none⟩) (by show w.heap.size < W.heap.size; omega)).trans o1
  have q3 : ∀ x : Like W.heap.size W, (convert 30 9 (.slice (some ⟨gn, 64 * j, none⟩) 64 (N - 64 * j))).run Try.prog x.val = .ok (.string X) x.val := fun x => HCV.out _ ((x.below.block gn (by have := HGN.out; omega)).trans (hbW.block gn HGN.out)) _
  have HBW := Lib.hid hbW
  clear hW o1 hbW hszW c0 c1 c2 c3 c4 cf
  refine region_likes (by kernel_rfl) (by kernel_rfl) ?_
  repeat (go_big_quiet_step (fail))
  refine wpQuiet_nil ?_
  intro x
  have hx := Lib.hid (HBW.out.trans (x.below.mono HBW.out.size))
  go_wp2_with fail
  go_ret2
  exact ⟨rfl, hx.out⟩
end Go.Proofs.Ytmgdjnkdnakmhaa
