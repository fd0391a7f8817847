/-
  Joined: CrdPMath, CrdPSmall.
-/
import Derived.Test.YtdldplhfpianhaaSet09
import Derived.Test.YtdldplhfpianhaaSet02
import Derived.Laws.Rows
import Derived.Laws.AppendOwn
import Derived.Deep.WholeRow
import Derived.RegionTactic
import Derived.BigQuiet
import Derived.Deep.RegionWith
import Derived.Deep.DeepCutAuto
import Derived.Deep.CutBlock
import Derived.Deep.LoopGhost
namespace Go.Proofs.Ytdldplhfpianhaa
open Go.RowKit
set_option linter.unusedVariables false
set_option linter.unnecessarySimpa false
set_option linter.unusedSimpArgs false
set_option maxRecDepth 100000

/-- A slice's block. -/
def blkO (a : Option Addr) : Nat → Prop := fun k => ∃ q : Addr, a = some q ∧ q.block = k
/-- Who has a part and hasn't voted. -/
def waitsL (p : Pn) (voted : List Nat) : List Nat := (List.range p.n).filter (fun k => !((partC p.n (k : Int) p.W).isEmpty || voted.contains k))
theorem IsKs.sameB {w w' : World} {a : Option Addr} {n c : Nat} {L : List ByteArray} (h : IsKs w a n c L) (hs : w.heap.size ≤ w'.heap.size) (hb : ∀ q : Addr, a = some q → w'.heap[q.block]? = w.heap[q.block]?) : IsKs w' a n c L := by
  refine ⟨h.1, h.2.1, fun i hi => ?_⟩
  obtain ⟨b, off, ha, q1, q2, q3⟩ := h.2.2 i hi
  have hbk := hb _ ha
  exact ⟨b, off, ha, Nat.lt_of_lt_of_le q1 hs, q2, by rw [World.cell?, hbk]; exact q3⟩
theorem IsWqs.sameC {w w' : World} {a : Option Addr} {n c : Nat} {ws : List Wq} (h : IsWqs w a n c ws) (hs : w.heap.size ≤ w'.heap.size) (hb : ∀ q : Addr, a = some q → w'.heap[q.block]? = w.heap[q.block]?) : IsWqs w' a n c ws := by
  refine ⟨h.1, h.2.1, h.2.2.1, fun i hi => ?_⟩
  obtain ⟨b, off, ha, q1, q2, q3, q4, q5, q6⟩ := h.2.2.2 i hi
  have hbk := hb _ ha
  exact ⟨b, off, ha, Nat.lt_of_lt_of_le q1 hs, q2, q3, by rw [World.cell?, hbk]; exact q4, by rw [World.cell?, hbk]; exact q5, by rw [World.cell?, hbk]; exact q6⟩
theorem own_same {w w' : World} {B e s n m c : Nat} {a : Option Addr} {xs : List Value} (h : w.ownsRow B e s (.slice a n c) m xs) (hb : ∀ k, blkO a k → w'.heap[k]? = w.heap[k]?) : w'.ownsRow B e s (.slice a n c) m xs := by
  refine ⟨h.1, ?_⟩
  rcases h.2 with h2 | ⟨g, cap, cur, e1, h1, h2, h3⟩
  · exact .inl h2
  · refine .inr ⟨g, cap, cur, e1, h1, ?_, h3⟩
    injection e1 with e2
    rw [hb g ⟨_, e2, rfl⟩]
    exact h2
theorem own_lt {w : World} {B e s n m c : Nat} {a : Option Addr} {xs : List Value} (h : w.ownsRow B e s (.slice a n c) m xs) : ∀ k, blkO a k → k < w.heap.size := by
  rintro k ⟨q, rfl, rfl⟩
  exact (h.lt _ rfl).2
/-- The words of a run's slices, and where its owner's map is. -/
structure Rw where
  la : Option Addr
  ln : Nat
  lc : Nat
  ra : Option Addr
  rc : Nat
  wa : Option Addr
  wn : Nat
  wc : Nat
  va : Option Addr
  vc : Nat
  mb : Nat
def Rw.owner (u : Rw) : Value := .func (.func 55) #[] #[.pointer (some ⟨u.mb, 0, none⟩)]
def Rw.cells (u : Rw) (p : Pn) (t : Tn) (x : Rn) : Array Value :=
  #[.int .i64 t.node, .int .i64 t.life, .int .i64 t.seq, .int .i64 (x.stage : Int), .slice u.la u.ln u.lc, .slice u.ra x.read.length u.rc, .slice u.wa u.wn u.wc, u.owner, .slice u.va (waitsL p x.voted).length u.vc, .int .u64 (x.start : Int), .int .u64 (x.commit : Int)]
structure PnOk (p : Pn) : Prop where
  n : 1 ≤ p.n ∧ p.n ≤ 5
  R : p.R.length ≤ 8 ∧ ∀ k ∈ p.R, k.size ≤ 100
  W : p.W.length ≤ 8 ∧ ∀ m ∈ p.W, m.key.size ≤ 100 ∧ m.val.size ≤ 500
/-- What never changes of a run: what is left to be read (but for its beginning), the writes, the owner. -/
structure Fx (w : World) (u : Rw) (F : Nat → Prop) (p : Pn) (left : List ByteArray) : Prop where
  left : IsKs w u.la u.ln u.lc left
  lcap : u.ln ≤ u.lc
  lfix : ∀ q : Addr, u.la = some q → F q.block
  writes : IsWqs w u.wa u.wn u.wc p.W
  wfix : ∀ q : Addr, u.wa = some q → F q.block
  owner : ∀ W, (∀ k, F k → W.heap[k]? = w.heap[k]?) → ∀ m ∈ p.W, Calls Try.prog 55 #[.string m.key, .pointer (some ⟨u.mb, 0, none⟩)] W fun e w' => e = .returned (.int .i64 ((ownN m.key p.n : Nat) : Int)) ∧ W = w'
  lt : ∀ k, F k → k < w.heap.size
theorem Fx.same {w w' : World} {u : Rw} {F : Nat → Prop} {p : Pn} {left : List ByteArray} (h : Fx w u F p left) (hs : w.heap.size ≤ w'.heap.size) (hk : ∀ k, F k → w'.heap[k]? = w.heap[k]?) : Fx w' u F p left :=
  ⟨h.left.sameB hs fun q hq => hk _ (h.lfix q hq), h.lcap, h.lfix, h.writes.sameC hs fun q hq => hk _ (h.wfix q hq), h.wfix, fun W hW m hm => h.owner W (fun k hF => (hW k hF).trans (hk k hF)) m hm, fun k hF => Nat.lt_of_lt_of_le (h.lt k hF) hs⟩
/-- The run at b. -/
structure RnM (w : World) (r : Addr) (b : Nat) (u : Rw) (F : Nat → Prop) (p : Pn) (t : Tn) (x : Rn) : Prop where
  ptr : r = ⟨b, 0, none⟩
  box : w.heap[b]? = some (.cells (u.cells p t x) 72 (0, 0))
  fx : Fx w u F p (p.R.drop x.read.length)
  reads : w.ownsRow 0 45 5 (.slice u.ra x.read.length u.rc) x.read.length (rdCells x.read)
  waits : w.ownsRow 0 3 1 (.slice u.va (waitsL p x.voted).length u.vc) (waitsL p x.voted).length (nsCells (waitsL p x.voted))
  pn : PnOk p
  fb : ¬ F b
  fr : ∀ k, blkO u.ra k → ¬ F k ∧ k ≠ b
  fv : ∀ k, blkO u.va k → ¬ F k ∧ k ≠ b ∧ ¬ blkO u.ra k
def rnO (b : Nat) (u : Rw) (F : Nat → Prop) : Nat → Prop := fun k => k = b ∨ F k ∨ blkO u.ra k ∨ blkO u.va k
def RnAt (w : World) (r : Addr) (p : Pn) (t : Tn) (x : Rn) (O : Nat → Prop) : Prop := ∃ b u F, RnM w r b u F p t x ∧ RnOk p x ∧ t.ok ∧ O = rnO b u F
section
variable {w w' : World} {r : Addr} {b : Nat} {u : Rw} {F : Nat → Prop} {p : Pn} {t : Tn} {x : Rn}
theorem RnM.blt (h : RnM w r b u F p t x) : b < w.heap.size := (Array.getElem?_eq_some_iff.1 h.box).1
theorem RnM.lt (h : RnM w r b u F p t x) : ∀ k, rnO b u F k → k < w.heap.size := by
  rintro k (rfl | h1 | h1 | h1)
  · exact h.blt
  · exact h.fx.lt k h1
  · exact own_lt h.reads k h1
  · exact own_lt h.waits k h1
theorem RnM.stay (h : RnM w r b u F p t x) (hs : w.heap.size ≤ w'.heap.size) (hk : ∀ k, rnO b u F k → w'.heap[k]? = w.heap[k]?) : RnM w' r b u F p t x :=
  ⟨h.ptr, (hk b (.inl rfl)).trans h.box, h.fx.same hs fun k hF => hk k (.inr (.inl hF)), own_same h.reads fun k hF => hk k (.inr (.inr (.inl hF))), own_same h.waits fun k hF => hk k (.inr (.inr (.inr hF))), h.pn, h.fb, h.fr, h.fv⟩
theorem RnM.below (h : RnM w r b u F p t x) (hb : Below w.heap.size w w') : RnM w' r b u F p t x := h.stay hb.size fun k hk => hb.block k (h.lt k hk)
/-- The box alone is written. -/
theorem RnM.put (h : RnM w r b u F p t x) {x' : Rn} (hs : w.heap.size ≤ w'.heap.size) (hbox : w'.heap[b]? = some (.cells (u.cells p t x') 72 (0, 0))) (hk : ∀ k, k < w.heap.size → k ≠ b → w'.heap[k]? = w.heap[k]?) (h1 : x'.read = x.read) (h2 : x'.voted = x.voted) : RnM w' r b u F p t x' := by
  have hkF : ∀ k, F k → w'.heap[k]? = w.heap[k]? := fun k hF => hk k (h.fx.lt k hF) (fun e => h.fb (by rw [← e]; exact hF))
  refine ⟨h.ptr, hbox, ?_, ?_, ?_, h.pn, h.fb, h.fr, h.fv⟩
  · rw [h1]; exact h.fx.same hs hkF
  · rw [h1]; exact own_same h.reads fun k hF => hk k (own_lt h.reads k hF) (h.fr k hF).2
  · rw [h2]; exact own_same h.waits fun k hF => hk k (own_lt h.waits k hF) (h.fv k hF).2.1
theorem RnM.cells (h : RnM w r b u F p t x) : w.cell? ⟨b, 0, none⟩ = some (.int .i64 t.node) ∧ w.cell? ⟨b, 1, none⟩ = some (.int .i64 t.life) ∧ w.cell? ⟨b, 2, none⟩ = some (.int .i64 t.seq) ∧ w.cell? ⟨b, 3, none⟩ = some (.int .i64 (x.stage : Int)) ∧
    w.cell? ⟨b, 4, none⟩ = some (.slice u.la u.ln u.lc) ∧ w.cell? ⟨b, 5, none⟩ = some (.slice u.ra x.read.length u.rc) ∧ w.cell? ⟨b, 6, none⟩ = some (.slice u.wa u.wn u.wc) ∧ w.cell? ⟨b, 7, none⟩ = some u.owner ∧
    w.cell? ⟨b, 8, none⟩ = some (.slice u.va (waitsL p x.voted).length u.vc) ∧ w.cell? ⟨b, 9, none⟩ = some (.int .u64 (x.start : Int)) ∧ w.cell? ⟨b, 10, none⟩ = some (.int .u64 (x.commit : Int)) ∧ ∀ j, w.frozen? ⟨b, j, none⟩ = false := by
  refine ⟨?_, ?_, ?_, ?_, ?_, ?_, ?_, ?_, ?_, ?_, ?_, fun j => frozen_of_row _ _ _ _ _ h.box⟩
  all_goals
    rw [cell_of_row _ _ _ _ _ _ h.box]; rfl
end
theorem moves_box (w : World) (b i : Nat) (v : Value) {O : Nat → Prop} (h : O b) : Moves O O w (w.setCell ⟨b, i, none⟩ v) :=
  ⟨rfl, rfl, rfl, by simp [World.setCell], fun k hk hO => Below.heap_setCell _ _ _ _ (fun e => hO (by rw [show k = b from e]; exact h)), fun k hk => .inl hk⟩
theorem waitsL_lt {p : Pn} {v : List Nat} {k : Nat} (h : k ∈ waitsL p v) : k < p.n ∧ k ∉ v := by
  obtain ⟨h1, h2⟩ := List.mem_filter.1 h
  refine ⟨List.mem_range.1 h1, fun hv => ?_⟩
  have : v.contains k = true := List.contains_iff_mem.2 hv
  rw [this, Bool.or_true] at h2
  cases h2
theorem waitsL_len (p : Pn) (v : List Nat) : (waitsL p v).length ≤ p.n := by
  have := List.length_filter_le (fun (k : Nat) => !((partC p.n (k : Int) p.W).isEmpty || v.contains k)) (List.range p.n)
  rw [List.length_range] at this
  exact this
end Go.Proofs.Ytdldplhfpianhaa

namespace Go.Proofs.Ytdldplhfpianhaa
open Go.RowKit
set_option linter.unusedVariables false
set_option linter.unnecessarySimpa false
set_option linter.unusedSimpArgs false
set_option maxRecDepth 100000

/-- What a call leaves that writes into a run. -/
def RnOut (w : World) (r : Addr) (b : Nat) (u : Rw) (F : Nat → Prop) (p : Pn) (t : Tn) (x : Rn) (W : World) : Prop := ∃ u', RnM W r b u' F p t x ∧ Moves (rnO b u F) (rnO b u' F) w W
theorem pcells3 {W : World} {B : Nat} {x y z : Value} {t : TypeId} (h : W.heap[B]? = some (.cells #[x, y, z] t (0, 0))) : W.cell? ⟨B, 0, none⟩ = some x ∧ W.cell? ⟨B, 1, none⟩ = some y ∧ W.cell? ⟨B, 2, none⟩ = some z := by
  refine ⟨?_, ?_, ?_⟩
  all_goals
    rw [cell_of_row _ _ _ _ _ _ h]; rfl
section
variable {w : World} {r : Addr} {b : Nat} {u : Rw} {F : Nat → Prop} {p : Pn} {t : Tn} {x : Rn}
theorem RnM.out (h : RnM w r b u F p t x) {W : World} (hb : Below w.heap.size w W) : RnOut w r b u F p t x W := ⟨u, h.below hb, Moves.of_below hb⟩
/-- One cell of the box is written. -/
theorem RnM.set (h : RnM w r b u F p t x) (i : Nat) (v : Value) (x' : Rn) (he : (u.cells p t x).setIfInBounds i v = u.cells p t x') (h1 : x'.read = x.read) (h2 : x'.voted = x.voted) : RnM (w.setCell ⟨b, i, none⟩ v) r b u F p t x' := by
  refine h.put (by simp [World.setCell]) ?_ (fun k hk hn => Below.heap_setCell _ _ _ _ hn) h1 h2
  rw [heap_setCell_same _ _ i _ _ _ h.box, he]
theorem RnM.set2 (h : RnM w r b u F p t x) (i j : Nat) (v z : Value) (x' : Rn) (he : ((u.cells p t x).setIfInBounds i v).setIfInBounds j z = u.cells p t x') (h1 : x'.read = x.read) (h2 : x'.voted = x.voted) : RnM ((w.setCell ⟨b, i, none⟩ v).setCell ⟨b, j, none⟩ z) r b u F p t x' := by
  refine h.put (by simp [World.setCell]) ?_ (fun k hk hn => (Below.heap_setCell _ _ _ _ hn).trans (Below.heap_setCell _ _ _ _ hn)) h1 h2
  rw [heap_setCell_same _ _ j _ _ _ (heap_setCell_same _ _ i _ _ _ h.box), he]
set_option maxHeartbeats 1000000 in
theorem pstage_any (h : RnM w r b u F p t x) : Calls Try.prog 14 #[.pointer (some r)] w fun e w' => e = .returned (.int .i64 (x.stage : Int)) ∧ w = w' := by
  obtain ⟨-, -, -, c3, -⟩ := h.cells
  have hp := h.ptr
  subst hp
  clear h
  go_enter Try.func14, Try.ntmps14
  go_wp2_with fail
  go_ret
  exact ⟨rfl, rfl⟩
set_option maxHeartbeats 1000000 in
theorem ptimes_any (h : RnM w r b u F p t x) : Calls Try.prog 12 #[.pointer (some r)] w fun e w' => e = .returned (.tuple #[.int .u64 (x.start : Int), .int .u64 (x.commit : Int)]) ∧ Below w.heap.size w w' := by
  obtain ⟨-, -, -, -, -, -, -, -, -, c9, c10, -⟩ := h.cells
  have hp := h.ptr
  subst hp
  clear h
  go_enter Try.func12, Try.ntmps12
  go_wp2_with fail
  go_quiet (fail)
  revert nq; intro n1
  go_wp2_with fail
  go_ret2
  exact ⟨rfl, below_drewN (Below.refl _ _) _⟩
theorem ptnSize : (Try.prog.info? 30).map (·.size) = some 3 := by kernel_rfl
set_option maxHeartbeats 1000000 in
theorem ptxn_any (h : RnM w r b u F p t x) : Calls Try.prog 22 #[.pointer (some r)] w fun e w' => e = .returned (.agg t.cells) ∧ Below w.heap.size w w' := by
  have hblt := h.blt
  have hbx := h.box
  have hp := h.ptr
  subst hp
  have hb1 := (Below.refl w.heap.size w).alloc (Nat.le_refl _) (.cells #[.int .i64 0, .int .i64 0, .int .i64 0] 30)
  have hr1 := heap_alloc_new w (.cells #[.int .i64 0, .int .i64 0, .int .i64 0] 30)
  obtain ⟨w1, hw1⟩ : ∃ w1, w1 = w.alloc (.cells #[.int .i64 0, .int .i64 0, .int .i64 0] 30) := ⟨_, rfl⟩
  rw [← hw1] at hb1 hr1
  obtain ⟨A, hA⟩ : ∃ A, A = w.heap.size := ⟨_, rfl⟩
  rw [← hA] at hr1
  have hne : b ≠ A := by omega
  obtain ⟨c0, c1, c2, -⟩ := (h.below hb1).cells
  have hfa : ∀ j, w1.frozen? ⟨A, j, none⟩ = false := fun j => frozen_of_row _ _ _ _ _ hr1
  obtain ⟨y0, y1, y2⟩ := pcells3 hr1
  have HB := Lib.hid hb1
  have HA := Lib.hid hr1
  have HAw := Lib.hid (show w.heap.size ≤ A by omega)
  clear h hbx hb1 hr1 hblt
  go_enter Try.func22, Try.ntmps22
  go_upto_region 1 with fail
  rw [← hw1, ← hA]
  clear hw1 hA
  go_wp2_with fail
  have h0 := heap_setCell_same _ A 0 _ _ (.int .i64 t.node) HA.out
  have h1 := heap_setCell_same _ A 1 _ _ (.int .i64 t.life) h0
  have h2 := heap_setCell_same _ A 2 _ _ (.int .i64 t.seq) h1
  refine bodyPost_ret (results_cell_row rfl _ _ A 30 t.cells (0, 0) _ rfl h2 Try.underlying30 rfl ptnSize) rfl ⟨rfl, ?_⟩
  exact ((HB.out.setCell (p := ⟨A, 0, none⟩) HAw.out _).setCell (p := ⟨A, 1, none⟩) HAw.out _).setCell (p := ⟨A, 2, none⟩) HAw.out _
set_option maxHeartbeats 1000000 in
theorem pcommit_any (h : RnM w r b u F p t x) (time : Nat) : Calls Try.prog 32 #[.pointer (some r), .int .u64 (time : Int)] w fun e w' => e = .returned (.tuple #[]) ∧ RnOut w r b u F p t (commitR x time) w' := by
  obtain ⟨-, -, -, c3, -, -, -, -, -, c9, c10, fr⟩ := h.cells
  have HO := Lib.hid (fun W hb => h.out (W := W) hb)
  by_cases h4 : x.stage = 4
  · by_cases hl : x.start < time
    · have HN := Lib.hid (h.set2 3 10 (.int .i64 5) (.int .u64 (time : Int)) ⟨5, x.start, time, x.read, x.voted⟩ rfl rfl rfl)
      have e := show commitR x time = ⟨5, x.start, time, x.read, x.voted⟩ from if_pos ⟨h4, hl⟩
      rw [e]
      have hp := h.ptr
      subst hp
      rw [h4] at c3
      have hlz : decide ((x.start : Int) < (time : Int)) = true := by rw [decide_eq_true_eq]; omega
      have hly : decide (x.start < time) = true := by rw [decide_eq_true_eq]; omega
      clear h h4 hl e
      go_enter Try.func32, Try.ntmps32
      go_wp2_with fail
      go_end0
      exact ⟨rfl, u, HN.out, (moves_box w b 3 _ (.inl rfl)).trans (moves_box _ b 10 _ (.inl rfl))⟩
    · have e := show commitR x time = x from if_neg (fun e => hl e.2)
      rw [e]
      have hp := h.ptr
      subst hp
      rw [h4] at c3
      have hlz : decide ((x.start : Int) < (time : Int)) = false := by rw [decide_eq_false_iff_not]; omega
      have hly : decide (x.start < time) = false := by rw [decide_eq_false_iff_not]; omega
      clear h h4 hl e
      go_enter Try.func32, Try.ntmps32
      go_wp2_with fail
      go_end0
      exact ⟨rfl, HO.out _ (Below.refl _ _)⟩
  · have e := show commitR x time = x from if_neg (fun e => h4 e.1)
    rw [e]
    have hp := h.ptr
    subst hp
    have h4z : ((x.stage : Int) == 4) = false := by rw [beq_eq_false_iff_ne]; omega
    clear h h4 e
    go_enter Try.func32, Try.ntmps32
    go_wp2_with fail
    go_end0
    exact ⟨rfl, HO.out _ (Below.refl _ _)⟩
set_option maxHeartbeats 1000000 in
theorem pabort_any (h : RnM w r b u F p t x) (h0 : 1 ≤ x.stage) : Calls Try.prog 33 #[.pointer (some r)] w fun e w' => e = .returned (.tuple #[]) ∧ RnOut w r b u F p t (abortR x) w' := by
  obtain ⟨-, -, -, c3, -, -, -, -, -, c9, c10, fr⟩ := h.cells
  have HO := Lib.hid (fun W hb => h.out (W := W) hb)
  have h1z : decide ((1 : Int) ≤ (x.stage : Int)) = true := by rw [decide_eq_true_eq]; omega
  by_cases h4 : x.stage < 5
  · have HN := Lib.hid (h.set 3 (.int .i64 6) ⟨6, x.start, x.commit, x.read, x.voted⟩ rfl rfl rfl)
    have e := show abortR x = ⟨6, x.start, x.commit, x.read, x.voted⟩ from if_pos h4
    rw [e]
    have hp := h.ptr
    subst hp
    have h4z : decide ((x.stage : Int) ≤ 4) = true := by rw [decide_eq_true_eq]; omega
    clear h h4 e h0
    go_enter Try.func33, Try.ntmps33
    go_wp2_with fail
    go_end0
    exact ⟨rfl, u, HN.out, moves_box w b 3 _ (.inl rfl)⟩
  · have e := show abortR x = x from if_neg h4
    rw [e]
    have hp := h.ptr
    subst hp
    have h4z : decide ((x.stage : Int) ≤ 4) = false := by rw [decide_eq_false_iff_not]; omega
    clear h h4 e h0
    go_enter Try.func33, Try.ntmps33
    go_wp2_with fail
    go_end0
    exact ⟨rfl, HO.out _ (Below.refl _ _)⟩
/-- The stage of a run that has its start. -/
theorem onward_is (h : x.read.length ≤ p.R.length) : goOn p ⟨2, x.start, x.commit, x.read, x.voted⟩ = if x.read.length < p.R.length then ⟨2, x.start, x.commit, x.read, x.voted⟩ else if p.W.length = 0 then ⟨5, x.start, x.start, x.read, x.voted⟩ else ⟨3, x.start, x.commit, x.read, x.voted⟩ := by
  by_cases e : x.read.length = p.R.length
  · have h2 : ¬ x.read.length < p.R.length := by omega
    rw [if_neg h2]
    unfold goOn
    exact if_pos e
  · have h2 : x.read.length < p.R.length := by omega
    rw [if_pos h2]
    unfold goOn
    exact if_neg e
set_option maxHeartbeats 1000000 in
theorem ponward_any (h : RnM w r b u F p t x) (hr : x.read.length ≤ p.R.length) : Calls Try.prog 45 #[.pointer (some r)] w fun e w' => e = .returned (.tuple #[]) ∧ RnOut w r b u F p t (goOn p ⟨2, x.start, x.commit, x.read, x.voted⟩) w' := by
  obtain ⟨-, -, -, c3, c4, -, c6, -, -, c9, c10, fr⟩ := h.cells
  rw [onward_is hr]
  have hln := h.fx.left.1
  rw [List.length_drop] at hln
  have hwn := h.fx.writes.1
  have hp := h.ptr
  by_cases h4 : x.read.length < p.R.length
  · have HN := Lib.hid (h.set 3 (.int .i64 2) ⟨2, x.start, x.commit, x.read, x.voted⟩ rfl rfl rfl)
    rw [if_pos h4]
    subst hp
    have h4z : decide ((0 : Int) < (u.ln : Int)) = true := by rw [decide_eq_true_eq]; omega
    have h4zn : decide (0 < u.ln) = true := by rw [decide_eq_true_eq]; omega
    clear h h4 hln hr hwn
    go_enter Try.func45, Try.ntmps45
    go_wp2_with fail
    go_end0
    exact ⟨rfl, u, HN.out, moves_box w b 3 _ (.inl rfl)⟩
  · rw [if_neg h4]
    have h4z : decide ((0 : Int) < (u.ln : Int)) = false := by rw [decide_eq_false_iff_not]; omega
    have h4zn : decide (0 < u.ln) = false := by rw [decide_eq_false_iff_not]; omega
    by_cases h5 : p.W.length = 0
    · have HN := Lib.hid (h.set2 3 10 (.int .i64 5) (.int .u64 (x.start : Int)) ⟨5, x.start, x.start, x.read, x.voted⟩ rfl rfl rfl)
      rw [if_pos h5]
      subst hp
      have h5z : decide ((0 : Int) < (u.wn : Int)) = false := by rw [decide_eq_false_iff_not]; omega
      have h5zn : decide (0 < u.wn) = false := by rw [decide_eq_false_iff_not]; omega
      clear h h4 hln hr hwn h5
      go_enter Try.func45, Try.ntmps45
      go_wp2_with fail
      go_end0
      exact ⟨rfl, u, HN.out, (moves_box w b 3 _ (.inl rfl)).trans (moves_box _ b 10 _ (.inl rfl))⟩
    · have HN := Lib.hid (h.set 3 (.int .i64 3) ⟨3, x.start, x.commit, x.read, x.voted⟩ rfl rfl rfl)
      rw [if_neg h5]
      subst hp
      have h5z : decide ((0 : Int) < (u.wn : Int)) = true := by rw [decide_eq_true_eq]; omega
      have h5zn : decide (0 < u.wn) = true := by rw [decide_eq_true_eq]; omega
      clear h h4 hln hr hwn h5
      go_enter Try.func45, Try.ntmps45
      go_wp2_with fail
      go_end0
      exact ⟨rfl, u, HN.out, moves_box w b 3 _ (.inl rfl)⟩
set_option maxHeartbeats 1000000 in
theorem pstart_any (h : RnM w r b u F p t x) (hr : x.read.length ≤ p.R.length) (time : Nat) (ht : time < 18446744073709551616) : Calls Try.prog 29 #[.pointer (some r), .int .u64 (time : Int)] w fun e w' => e = .returned (.tuple #[]) ∧ RnOut w r b u F p t (startR p x time) w' := by
  obtain ⟨-, -, -, c3, -, -, -, -, -, c9, c10, fr⟩ := h.cells
  have HO := Lib.hid (fun W hb => h.out (W := W) hb)
  have hp := h.ptr
  by_cases h1 : x.stage = 1
  · by_cases h2 : 0 < time
    · have HN := h.set 9 (.int .u64 (time : Int)) ⟨x.stage, time, x.commit, x.read, x.voted⟩ rfl rfl rfl
      have e := show startR p x time = goOn p ⟨2, time, x.commit, x.read, x.voted⟩ from if_pos ⟨h1, h2⟩
      rw [e]
      have HC := Lib.hid (ponward_any HN hr)
      rw [h1] at c3
      subst hp
      have h2z : ((time : Int) == 0) = false := by rw [beq_eq_false_iff_ne]; omega
      clear h h1 h2 hr e HN
      go_enter Try.func29, Try.ntmps29
      go_wp2_with (go_at_call 45; (with_reducible refine HC.out.mono ?_); rintro e w2 ⟨rfl, ho⟩)
      go_end0
      obtain ⟨u', h5, h6⟩ := ho
      exact ⟨rfl, u', h5, (moves_box w b 9 _ (.inl rfl)).trans h6⟩
    · have e := show startR p x time = x from if_neg (fun e => h2 e.2)
      rw [e]
      rw [h1] at c3
      subst hp
      have h2z : ((time : Int) == 0) = true := by rw [beq_iff_eq]; omega
      clear h h1 h2 hr e
      go_enter Try.func29, Try.ntmps29
      go_wp2_with fail
      refine bodyPost_ret (results_none rfl _ _ _) rfl ?_
      exact ⟨rfl, HO.out _ (Below.refl _ _)⟩
  · have e := show startR p x time = x from if_neg (fun e => h1 e.1)
    rw [e]
    subst hp
    have h1z : ((x.stage : Int) != 1) = true := by rw [bne_iff_ne]; omega
    clear h h1 hr e
    go_enter Try.func29, Try.ntmps29
    go_wp2_with fail
    refine bodyPost_ret (results_none rfl _ _ _) rfl ?_
    exact ⟨rfl, HO.out _ (Below.refl _ _)⟩
end
end Go.Proofs.Ytdldplhfpianhaa
