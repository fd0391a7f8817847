/-
  The library's maps.Keys, slices.AppendSeq, slices.Collect at transactions.
-/
import Derived.Test.YthcomfcbdlobpaaSet26
import Derived.Test.YthcomfcbdlobpaaSet35
import Derived.Test.YthcomfcbdlobpaaSet28
import Derived.RangeFuncNested
import Derived.RangeFuncBound
import Derived.RangeFuncCalls
import Derived.RangeFuncLeaves
import Derived.Shelf.Abstract
import Derived.Shelf.AbstractIn
import Derived.Shelf.RegionOpen
import Derived.Sort.MapsRangeIn
import Derived.Maps.AppendAt
import Derived.WalkKit
import Derived.OwnWalkIn
import Derived.TacticsInMore
import Derived.RegionIn
import Derived.LoopNIn
import Derived.LoopIn
namespace Go.Proofs.Ythcomfcbdlobpaa
open Go.RowKit Go.Maps Go.Shelf
set_option linter.unusedVariables false
set_option linter.unnecessarySimpa false
set_option linter.unusedSimpArgs false
set_option maxRecDepth 100000

theorem tk_int_inv {d : Nat} {v : Value} {l : List Lit} (h : Try.prog.keyLits d 3 [v] = some l) : ∃ n, v = .int .i64 n ∧ (Lit.int .i64 n).wf = true := by
  cases d with
  | zero => simp [Program.keyLits] at h
  | succ d =>
    unfold Program.keyLits at h
    rw [Try.underlying3] at h
    split at h
    all_goals first
      | (cases h; done)
      | (simp_all; done)
      | (simp_all; exact ⟨_, ⟨h.1.1, rfl⟩, h.1.2⟩)
      | (simp_all; trace_state; done)
theorem keyOf_txn_inv {v : Value} {kl : Lit} (h : keyOf Try.prog 36 v = some kl) : ∃ x : Tn, x.ok ∧ v = .agg x.cells := by
  unfold keyOf at h
  rw [Try.underlying36] at h
  simp only at h
  split at h
  · rename_i hf
    rw [Bool.and_eq_true] at hf
    obtain ⟨hf1, hf2⟩ := hf
    obtain ⟨m, hm⟩ : ∃ m, Try.prog.types.size = m + 1 := ⟨Try.prog.types.size - 1, by have := tk_row; omega⟩
    cases v with
    | agg cs =>
      unfold Value.formed at hf2
      rw [Try.underlying36, tk_cells] at hf2
      have hsz : cs.size = 3 := by simpa using hf2
      obtain ⟨a, b, c, rfl⟩ : ∃ a b c, cs = #[a, b, c] := by
        obtain ⟨l⟩ := cs
        match l, hsz with
        | [a, b, c], _ => exact ⟨a, b, c, rfl⟩
      rw [hm] at h
      unfold Program.keyLits at h
      rw [Try.underlying36] at h
      simp only [tk_cells, tk_int, Value.cells] at h
      simp [Option.bind_eq_some_iff, tk_int] at h
      obtain ⟨l1, h1, l2, ⟨l3, h3, l4, ⟨l5, h5, _⟩, _⟩, _⟩ := h
      obtain ⟨x, rfl, kx⟩ := tk_int_inv h1
      obtain ⟨y, rfl, ky⟩ := tk_int_inv h3
      obtain ⟨z, rfl, kz⟩ := tk_int_inv h5
      exact ⟨⟨x, y, z⟩, ⟨kx, ky, kz⟩, rfl⟩
    | _ => (unfold Value.formed at hf2; rw [Try.underlying36] at hf2; cases hf2)
  · cases h
/-- A transaction whose numbers are such. -/
abbrev TnO := { x : Tn // x.ok }
def encT (x : TnO) : Array Value := #[.agg x.1.cells]
def CollT (D : DataW Value) (left : Lit → Bool) (ss : List TnO) : Prop := ss.Pairwise (fun x y => x ≠ y) ∧ ∀ x : TnO, x ∈ ss ↔ (has D (litT x.1) = true ∧ left (litT x.1) = false)
theorem CollT.start (D : DataW Value) : CollT D (has D) [] := ⟨List.Pairwise.nil, fun x => by cases has D (litT x.1) <;> simp⟩
theorem CollT.step {D : DataW Value} {left : Lit → Bool} {ss : List TnO} (h : CollT D left ss) {x : TnO} {y : DataW Value} (hlk : left (litT x.1) = true) (hat : ∀ zd, D.atKey (litT x.1) zd = y) : CollT D (fun z => left z && !z.sameKey (litT x.1)) (ss ++ [x]) := by
  have hk : WideAt.IsKeyLit (litT x.1) := tk_law.key (litT_key x.2)
  have hx : x ∉ ss := fun e => by
    have := (h.2 x).1 e
    rw [hlk] at this
    cases this.2
  refine ⟨List.pairwise_append.2 ⟨h.1, List.pairwise_singleton _ _, fun a ha b hb e => hx (by rw [List.mem_singleton.1 hb] at e; rw [← e]; exact ha)⟩, fun z => ?_⟩
  rw [List.mem_append, List.mem_singleton, h.2 z]
  by_cases e : z = x
  · subst e
    simp [WideAt.sameKey_self hk, has_true_of_atKey hat]
  · have hne : litT z.1 ≠ litT x.1 := fun e2 => e (Subtype.ext (litT_inj z.2 x.2 e2))
    have hs : (litT z.1).sameKey (litT x.1) = false := by
      rw [← Bool.not_eq_true, WideAt.sameKey_iff hk]
      exact hne
    simp [e, hs]

set_option maxHeartbeats 2000000 in
theorem tkeys1_in (F : Fence) (n : Nat) (hf : F.fn 55) (hro : F.round = none) (hn : 1 ≤ n) (l Bm m nn : Nat) (D : DataW Value) (J Jx : List TnO → World → Prop)
    (hY : ∀ pre x W, J pre W → pre.length < Maps.size D → YieldAt F (n - 1) Try.prog l (encT x) W fun e W' =>
      (e = .returned (.bool true) ∧ J (pre ++ [x]) W' ∧ KeepsWalks W W') ∨ (e = .returned (.bool false) ∧ Jx (pre ++ [x]) W'))
    (W : World) (hJ : AbidesFrom W.heap.size J) (hm : W.cell? ⟨Bm, 0, none⟩ = some (.map (some m))) (hown : W.ownsMap Try.prog 36 RW m nn D) (h0 : J [] W) :
    CallsIn F n Try.prog 55 #[.func (.yield l) #[] #[], .pointer (some ⟨Bm, 0, none⟩)] W fun e W' => (∃ v, e = .returned v) ∧
      ((∃ ss : List TnO, (ss.Pairwise (fun x y => x ≠ y) ∧ ∀ x : TnO, x ∈ ss ↔ has D (litT x.1) = true) ∧ J ss W') ∨ (∃ pre : List TnO, True ∧ Jx pre W')) := by
  refine callsIn_of_wp Try.func55 rfl hf ?_ hro
  simp only [Try.ntmps55, List.size_toArray, List.length_cons, List.length_nil, Nat.reduceAdd, Nat.reduceSub, Array.replicate_succ, Array.replicate_zero, List.push_toArray, List.append_toArray, List.nil_append, List.cons_append]
  gi_wp2_with (first
    | (gi_at_range; refine wpListIn_range_own _ rfl _ 65 rfl 36 81 tk_law Try.underlying65 _ m nn _ rfl hown ?_; intro w0 hrg0 hg0 hs0)
    | gi_in)
  go_frame
  gi_loopw [3] (fun _ wr => ∃ (left : Lit → Bool) (cnt : Nat) (ss : List TnO), wr.ranges Try.prog 36 RW m W.heap.size nn D left cnt ∧ ss.length + cnt ≤ Maps.size D ∧ CollT D left ss ∧ J ss wr)
    (fun _ wr => wr.rangeLeft m W.heap.size)
  case atStart =>
    exact ⟨_, _, [], hrg0, by simp, CollT.start D, hJ [] W w0 none h0 hg0 (fun r e => by cases e)⟩
  case round =>
    obtain ⟨left, cnt, ss, hrg, hcs, hC, hJs⟩ := hrel
    gi_wp2_with (first
      | (gi_at_next; refine wpListIn_next_ranges _ rfl _ rfl 36 tk_law RW (fun x : TnO => .agg x.1.cells) id (fun key kl hk => by obtain ⟨x, hx, e⟩ := keyOf_txn_inv hk; exact ⟨⟨x, hx⟩, e⟩) (fun v _ _ => ⟨v, rfl⟩) m W.heap.size nn _ _ _ rfl hrg ?_ ?_)
      | gi_in)
    · intro hc0 hl0
      gi_wp2
      go_end0
      exact ⟨⟨_, rfl⟩, .inl ⟨ss, ⟨hC.1, fun x => by rw [hC.2 x, hl0]; simp⟩, hJs⟩⟩
    · intro x hxo c kl yd yp w2 cnt2 hkey hlk hv hat hrg2 hlt hg2 hs2 hen
      obtain rfl : litT x = kl := by
        have := litT_key hxo
        rw [hkey] at this
        injection this with this
        exact this.symm
      have hC2 := hC.step (x := ⟨x, hxo⟩) hlk hat
      have hJ2 : J ss w2 := hJ ss wr w2 (some W.heap.size) hJs hg2 (fun r e => by cases e; exact ⟨Nat.le_refl _, hrg.iter_walk⟩)
      have hJ3 : J ss (w2.alloc (.cells x.cells 36)) := hJ ss w2 _ none hJ2 (World.grownBy_alloc w2 _ none) (fun r e => by cases e)
      have hrg3 := hrg2.alloc (.cells x.cells 36)
      obtain ⟨fn, tmps, assign, body, hy, hR⟩ := hY ss ⟨x, hxo⟩ _ hJ3 (by omega)
      clear hs2
      obtain ⟨xa, xb, xc⟩ := x
      unfold encT at hy
      unfold Tn.cells at *
      dsimp only at *
      gi_wp2
      refine hR.mono ?_
      rintro e W3 (⟨rfl, hJ4, hk3⟩ | ⟨rfl, hJx3⟩)
      · gi_wp2
        have hrg4 := hrg3.of_walks hk3
        go_roundw
        case rel => exact ⟨_, cnt2, ss ++ [⟨⟨xa, xb, xc⟩, hxo⟩], hrg4, by simp; omega, hC2, hJ4⟩
        case measure => rw [hrg4.left_eq, hrg.left_eq]; exact hlt
      · gi_wp2
        refine bodyPost_ret (results_none rfl _ _ _) rfl ?_
        exact ⟨⟨_, rfl⟩, .inr ⟨ss ++ [⟨⟨xa, xb, xc⟩, hxo⟩], trivial, hJx3⟩⟩

set_option maxHeartbeats 1000000 in
/-- Of the nil map nothing comes. -/
theorem tkeys1_nil (F : Fence) (n : Nat) (hf : F.fn 55) (hro : F.round = none) (l Bm : Nat) (J : List TnO → World → Prop) (W : World) (hJ : AbidesFrom W.heap.size J)
    (hm : W.cell? ⟨Bm, 0, none⟩ = some (.map none)) (h0 : J [] W) :
    CallsIn F n Try.prog 55 #[.func (.yield l) #[] #[], .pointer (some ⟨Bm, 0, none⟩)] W fun e W' => (∃ v, e = .returned v) ∧ J [] W' := by
  refine callsIn_of_wp Try.func55 rfl hf ?_ hro
  simp only [Try.ntmps55, List.size_toArray, List.length_cons, List.length_nil, Nat.reduceAdd, Nat.reduceSub, Array.replicate_succ, Array.replicate_zero, List.push_toArray, List.append_toArray, List.nil_append, List.cons_append]
  have hrg := run_range_nilMap (P := Try.prog) W 65 36 81 Try.underlying65
  have hnx : ∀ ty, (Instr.next (.pointer (some ⟨W.heap.size, 0, none⟩)) false ty).run Try.prog (W.alloc (.mapIter none 0 #[] 0)) = _ := fun ty => run_next_nilMap _ ty 0 0 #[]
  gi_wp2
  refine wpIn_loop_rounds 1 ?_
  rw [roundsIn_succ]
  gi_wp2
  go_end0
  exact ⟨⟨_, rfl⟩, hJ [] W _ none h0 (World.grownBy_alloc W _ none) (fun r e => by cases e)⟩
/-- What comes of the map of what is prepared. -/
def GotT (P : List Pd) (ss : List TnO) : Prop := ss.Pairwise (fun x y => x ≠ y) ∧ ∀ x : TnO, x ∈ ss ↔ atN x.1 P < P.length
theorem tkeys_stops (F : Fence) (n : Nat) (hf : F.fn 55) (hro : F.round = none) (hn : 1 ≤ n) (Bm : Nat) {w : World} {R : Nat → Prop} {mp ml : Option Nat} {P : List Pd} (h : MapsAt w R mp ml P) (hB : Bm < w.heap.size) (hm : w.cell? ⟨Bm, 0, none⟩ = some (.map mp)) :
    SeqStopsK F n Try.prog 55 #[.pointer (some ⟨Bm, 0, none⟩)] encT KeepsWalks (GotT P) (fun _ => True) P.length w := fun l J Jx W hW hJ _ hY h0 => by
  have hmW := (hW.cell (p := ⟨Bm, 0, none⟩) hB).trans hm
  rcases h with ⟨rfl, _, rfl⟩ | ⟨m, k, rfl, _, _, ⟨D, h1, h2, h3⟩, _⟩
  · exact (tkeys1_nil F n hf hro l Bm J W hJ hmW h0).mono fun _ _ ⟨he, hj⟩ => ⟨he, .inl ⟨[], ⟨List.Pairwise.nil, fun x => by simp⟩, hj⟩⟩
  · have hown := own_map_same h1 (hW.block m h1.lt)
    have hsz := World.ownsMap.size_le h1
    refine (tkeys1_in F n hf hro hn l Bm m P.length D J Jx (fun pre x W1 hJ1 hl => hY pre x W1 hJ1 (Nat.lt_of_lt_of_le hl hsz)) W hJ hmW hown h0).mono fun _ _ ⟨he, hj⟩ => ⟨he, ?_⟩
    rcases hj with ⟨ss, ⟨k1, k2⟩, k3⟩ | hj
    · refine .inl ⟨ss, ⟨k1, fun x => ?_⟩, k3⟩
      rw [k2 x, has_held h2 h3 x.2]
      simp
    · exact .inr hj

/-! slices.AppendSeq, Collect. -/
theorem txnInfo : (Try.prog.info? 36).map (fun i => (i.zero, i.size, i.bytes)) = some (some (.agg #[.int .i64 0, .int .i64 0, .int .i64 0]), 3, 24) := by kernel_rfl
def cellsT (ss : List TnO) : List Value := ss.flatMap (fun x => x.1.cells.toList)
theorem tn_bs1 (w : World) (t : Tn) : (Instr.buildSlice 55 1 #[(0, .agg t.cells)]).run Try.prog w = .ok (.slice (some ⟨w.heap.size, 0, none⟩) 1 1) (w.alloc (.cells t.cells 36)) := by
  obtain ⟨i, hi, hz0, hz1, hz2⟩ := info_parts txnInfo
  unfold Instr.buildSlice
  have hr : Array.range 3 = #[0, 1, 2] := rfl
  simp [run_underlying Try.underlying55, sizeOf, typeInfo, zeroValue, hi, hz0, hz1, hz2, Instr.fill, newRow, Sem.run_bind, hr, Tn.cells, Value.cells]
theorem row_own (Bx : Nat) (cs : Array Value) (t : TypeId) (B : Nat) : OwnFrom B (fun (_ : Unit) W => W.heap[Bx]? = some (.cells cs t (0, 0))) := fun s X Y row hs hg hr => by
  refine (hg.block Bx (Array.getElem?_eq_some_iff.1 hs).1 (fun e => ?_)).trans hs
  obtain ⟨_, o, ho, hc⟩ := hr Bx e.symm
  rw [hs] at ho
  cases ho
  cases hc
attribute [local go_sem] Oper.semAt_some
set_option maxHeartbeats 4000000 in
theorem tappend_in (F : Fence) (n : Nat) (hf : F.fn 66) (hro : F.round = none) (hn : 2 ≤ n) (g : Nat) (lb : Array Value) (hFg : F.fn g) (eg : ∀ args w, (callFunc g args).run Try.prog w = .ok (.enter g args) w)
    (S Sp : List TnO → Prop) (N : Nat) (hN : N ≤ 1000) (w : World) (hseq : SeqStopsK F (n - 1) Try.prog g lb encT KeepsWalks S Sp N w) :
    CallsIn F n Try.prog 66 #[.slice none 0 0, .func (.func g) #[] lb] w fun e w' => ∃ (v : Value) (ss : List TnO), e = .returned v ∧ S ss ∧ w'.ownsRow w.heap.size 36 3 v ss.length (cellsT ss) ∧ (v = .slice none 0 0 ↔ ss = []) ∧ Below w.heap.size w w' := by
  have h1 : 1 ≤ n := by omega
  refine callsIn_of_wp_marks Try.func66 rfl hf ?_ hro
  simp only [Try.ntmps66, List.size_toArray, List.length_cons, List.length_nil, Nat.reduceAdd, Nat.reduceSub, Array.replicate_succ, Array.replicate_zero, List.push_toArray, List.append_toArray, List.nil_append, List.cons_append]
  gi_wp2
  have bS := Boxed.new w 55 (.slice none 0 0)
  have hB0 : Below w.heap.size w (w.alloc (.cells #[.slice none 0 0] 55)) := (Below.refl _ w).alloc (Nat.le_refl _) _
  have hsz : (w.alloc (.cells #[.slice none 0 0] 55)).heap.size = w.heap.size + 1 := by simp
  obtain ⟨W0, hW0⟩ : ∃ W0, w.alloc (.cells #[.slice none 0 0] 55) = W0 := ⟨_, rfl⟩
  rw [hW0] at bS hB0 hsz ⊢
  clear hW0
  obtain ⟨i0, hi, hz0, hz1, hz2⟩ := info_parts txnInfo
  refine wpIn_rangeFunc_ownH hro h1 (gf := g) (lb := lb) rfl hFg eg hseq walksK_t walksK_b hB0 (fun _ => rfl)
    (fun pre W => (∃ v, Boxed W w.heap.size 55 v ∧ W.ownsRow w.heap.size 36 3 v pre.length (cellsT pre) ∧ (v = .slice none 0 0 ↔ pre = [])) ∧ Below w.heap.size w W)
    (fun _ _ _ => False)
    (OwnFrom.and (Own.from (holdsRow_own w.heap.size w.heap.size 55 36 3 (fun pre : List TnO => pre.length) cellsT (fun pre v => (v = .slice none 0 0 ↔ pre = []))) _) (ownFrom_below (Nat.le_refl _) (by omega)))
    (fun _ _ _ _ _ hs _ _ => hs)
    ⟨⟨_, bS, World.ownsRow_nil _ _ _ _, by simp⟩, hB0⟩
    (fun x a' W => ∃ Bx, w.heap.size < Bx ∧ W.heap[Bx]? = some (.cells x.1.cells 36 (0, 0)) ∧ a' = { tmps := #[.slice none 0 0, .func (.func g) #[] lb, .pointer (some ⟨w.heap.size, 0, none⟩), undef, .slice none 0 0, .pointer (some ⟨Bx, 0, none⟩), .func (.func g) #[] lb, .agg x.1.cells, undef, undef, undef, undef, undef], defers := [] })
    (fun x a' _ X Y row hs hg hr => by obtain ⟨Bx, h1, h2, h3⟩ := hs; exact ⟨Bx, h1, row_own Bx _ _ _ () X Y row h2 hg hr, h3⟩)
    ?assign ?body ?done ?stop
  case assign =>
    rintro l pre ⟨⟨xa, xb, xc⟩, hx⟩ W K ⟨⟨v, bV, hrow, hnil⟩, hB⟩ hK
    unfold encT Tn.cells
    unfold Tn.cells at hK
    gi_wp2
    exact hK _ _ ((KeepsOthers.alloc _ _).from _) (KeepsWalks.alloc _ _) ⟨⟨v, bV.alloc _, hrow.alloc _, hnil⟩, hB.alloc hB.size _⟩ ⟨W.heap.size, bV.lt, heap_alloc_new W _, rfl⟩
  case body =>
    rintro l pre ⟨⟨xa, xb, xc⟩, hx⟩ a' W hl ⟨r, hr⟩ ⟨⟨v, bV, hrow, hnil⟩, hB⟩ ⟨Bx, hBx, bX, rfl⟩ hlt
    have cV := bV.cell
    have fV := bV.frozen
    obtain ⟨x0, x1, x2⟩ := cells3 bX
    have hbs := fun W1 : World => (show (Instr.buildSlice 55 1 #[(0, .agg #[.int .i64 xa, .int .i64 xb, .int .i64 xc])]).run Try.prog W1 = .ok (.slice (some ⟨W1.heap.size, 0, none⟩) 1 1) (W1.alloc (.cells #[.int .i64 xa, .int .i64 xb, .int .i64 xc] 36)) from tn_bs1 W1 ⟨xa, xb, xc⟩)
    unfold Tn.cells
    clear x0 x1 x2
    obtain ⟨x0, x1, x2⟩ := cells3 bX
    dsimp only at x0 x1 x2
    gi_wp2_with (first
      | (gi_at_builtin; refine wpListIn_append_own _ rfl _ _ 55 rfl w.heap.size 36 i0 (.agg #[.int .i64 0, .int .i64 0, .int .i64 0]) 3 24 Try.underlying55 hi hz0 hz1 hz2 rfl (by decide) _ _ _ rfl (hrow.alloc _) ⟨W.heap.size, 0, none⟩ 1 1 [.int .i64 xa, .int .i64 xb, .int .i64 xc] rfl rfl (cells3_new _ _ _ _ _) (by simp [Value.oneCell']) (by unfold maxLen; omega) (by omega) (by have := hB.size; simp; omega) ?_
         intro v' w1 hown' hgrow _
         obtain ⟨g', cap', rfl⟩ := ownsRow_succ hown'
         obtain ⟨hv1, hv2, hr2, hk2, hb2⟩ := bV.appended (by decide) hrow hB.size (Nat.le_refl _) hown' hgrow
         have hc1 := hv1.cell
         have hf1 := hv1.frozen))
    exact ⟨hk2.from _, hk2.walks, ⟨_, hv2, by simpa [cellsT, Tn.cells] using hr2, by simp⟩, hB.trans hb2⟩
  case done =>
    rintro D xs W hD hS ⟨⟨v, bV, hrow, hnil⟩, hB⟩ hK
    have cV := bV.cell
    gi_wp2
    refine ⟨by simp, .inl ⟨_, _, rfl, run_takeDeferred hK, ?_⟩⟩
    exact ⟨_, results_tmp rfl _ _ _, v, xs, rfl, hS, ownsRow_putObj hrow _ hK rfl, hnil, hB.trans (belowK_b (w := w) (Nat.le_refl _) W D _ _ (by omega) hK rfl rfl)⟩
  case stop =>
    rintro D c pre W _ _ h _
    exact h.elim

set_option maxHeartbeats 1000000 in
theorem tcollect_in (F : Fence) (n : Nat) (hf : F.fn 53) (hf2 : F.fn 66) (hro : F.round = none) (hn : 3 ≤ n) (g : Nat) (lb : Array Value) (hFg : F.fn g) (eg : ∀ args w, (callFunc g args).run Try.prog w = .ok (.enter g args) w)
    (S Sp : List TnO → Prop) (N : Nat) (hN : N ≤ 1000) (w : World) (hseq : SeqStopsK F (n - 1 - 1) Try.prog g lb encT KeepsWalks S Sp N w) :
    CallsIn F n Try.prog 53 #[.func (.func g) #[] lb] w fun e w' => ∃ (v : Value) (ss : List TnO), e = .returned v ∧ S ss ∧ w'.ownsRow w.heap.size 36 3 v ss.length (cellsT ss) ∧ (v = .slice none 0 0 ↔ ss = []) ∧ Below w.heap.size w w' := by
  have h1 : 1 ≤ n := by omega
  refine callsIn_of_wp Try.func53 rfl hf ?_ hro
  simp only [Try.ntmps53, List.size_toArray, List.length_cons, List.length_nil, Nat.reduceAdd, Nat.reduceSub, Array.replicate_succ, Array.replicate_zero, List.push_toArray, List.append_toArray, List.nil_append, List.cons_append]
  gi_wp2_with (gi_at_call 66; refine (tappend_in F (n - 1) hf2 hro (by omega) g lb hFg eg S Sp N hN _ hseq).mono ?_; rintro e w' ⟨v, ss, rfl, hS, hrow, hnil, hb⟩)
  go_ret
  exact ⟨v, ss, rfl, hS, hrow, hnil, hb⟩
end Go.Proofs.Ythcomfcbdlobpaa
