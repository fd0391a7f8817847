/-
  The program's byNumber; slices.SortedFunc at transactions; All.
-/
import Derived.Test.YthcomfcbdlobpaaSet44
import Derived.Test.YthcomfcbdlobpaaSet26
import Derived.Test.YthcomfcbdlobpaaSet28
import Derived.Test.YthcomfcbdlobpaaSet45
import Derived.Test.YthcomfcbdlobpaaShelf
import Derived.Shelf.SlSortCmp.WholeK
import Derived.Shelf.SlSortCmp.NoneTotal
import Derived.Sort.OwnSorted
import Derived.StillTailTactics
namespace Go.Proofs.Ythcomfcbdlobpaa
open Go.RowKit Go.Maps Go.Shelf Go.Lib Go.Sort
set_option linter.unusedVariables false
set_option linter.unnecessarySimpa false
set_option linter.unusedSimpArgs false
set_option maxRecDepth 100000

instance : Inhabited Tn := ⟨tn0⟩
def encTn (x : Tn) : List Value := [.int .i64 x.node, .int .i64 x.life, .int .i64 x.seq]
/-- The first that isn't nought. -/
def or3 (a b c : Int) : Int := if a ≠ 0 then a else if b ≠ 0 then b else c
theorem or3_1 {a b c : Int} (h : ¬ a = 0) : or3 a b c = a := if_pos h
theorem or3_2 {a b c : Int} (h : a = 0) (h' : ¬ b = 0) : or3 a b c = b := by unfold or3; rw [if_neg (by simpa using h), if_pos h']
theorem or3_3 {a b c : Int} (h : a = 0) (h' : b = 0) : or3 a b c = c := by unfold or3; rw [if_neg (by simpa using h), if_neg (by simpa using h')]
theorem ret_i64 {x y : Int} (h : x = y) : Ending.returned (.int .i64 x) = Ending.returned (.int .i64 y) := by rw [h]
set_option maxHeartbeats 1600000 in
theorem gor_any (g : Nat) (a b c : Int) (w : World) (h0 : w.cell? ⟨g, 0, none⟩ = some (.int .i64 a)) (h1 : w.cell? ⟨g, 1, none⟩ = some (.int .i64 b)) (h2 : w.cell? ⟨g, 2, none⟩ = some (.int .i64 c)) :
    Calls Try.prog 56 #[.slice (some ⟨g, 0, none⟩) 3 3] w fun e w' => e = .returned (.int .i64 (or3 a b c)) ∧ w = w' := by
  have H0 := Lib.hid h0
  have H1 := Lib.hid h1
  have H2 := Lib.hid h2
  clear h0 h1 h2
  go_enter Try.func56, Try.ntmps56
  go_wp2_with fail
  go_loopg [5, 8] 3 (fun k s5 s8 wx => ∃ i : Nat, i + k = 3 ∧ s8 = .int .i64 i ∧ wx = w ∧ Hid (1 ≤ i → a = 0) ∧ Hid (2 ≤ i → b = 0) ∧ Hid (3 ≤ i → c = 0))
  case atStart => exact ⟨0, by omega, rfl, rfl, Lib.hid (by omega), Lib.hid (by omega), Lib.hid (by omega)⟩
  case round =>
    obtain ⟨i, hig, rfl, rfl, z1, z2, z3⟩ := hrel
    have hi : i = 0 ∨ i = 1 ∨ i = 2 ∨ i = 3 := by omega
    rcases hi with rfl | rfl | rfl | rfl
    · have c0 := H0.out
      by_cases ha : a = 0
      · subst ha
        go_wp2_with fail
        go_roundg 2
        case measure => omega
        case rel => exact ⟨1, by omega, rfl, rfl, Lib.hid (by simp), Lib.hid (by omega), Lib.hid (by omega)⟩
      · have hz : (a == 0) = false := beq_eq_false_iff_ne.2 ha
        have hres := Lib.hid (or3_1 (b := b) (c := c) ha)
        clear ha
        go_wp2_with fail
        go_ret
        exact ⟨ret_i64 hres.out.symm, rfl⟩
    · have c0 := H1.out
      by_cases ha : b = 0
      · subst ha
        go_wp2_with fail
        go_roundg 1
        case measure => omega
        case rel => exact ⟨2, by omega, rfl, rfl, Lib.hid (fun _ => z1.out (by omega)), Lib.hid (by simp), Lib.hid (by omega)⟩
      · have hz : (b == 0) = false := beq_eq_false_iff_ne.2 ha
        have hres := Lib.hid (or3_2 (c := c) (z1.out (by omega)) ha)
        clear ha
        go_wp2_with fail
        go_ret
        exact ⟨ret_i64 hres.out.symm, rfl⟩
    · have c0 := H2.out
      by_cases ha : c = 0
      · subst ha
        go_wp2_with fail
        go_roundg 0
        case measure => omega
        case rel => exact ⟨3, by omega, rfl, rfl, Lib.hid (fun _ => z1.out (by omega)), Lib.hid (fun _ => z2.out (by omega)), Lib.hid (by simp)⟩
      · have hz : (c == 0) = false := beq_eq_false_iff_ne.2 ha
        have hres := Lib.hid (or3_3 (c := c) (z1.out (by omega)) (z2.out (by omega)))
        clear ha
        go_wp2_with fail
        go_ret
        exact ⟨ret_i64 hres.out.symm, rfl⟩
    · have hres := Lib.hid (show or3 a b c = 0 by rw [or3_3 (z1.out (by omega)) (z2.out (by omega)), z3.out (by omega)])
      go_wp2_with fail
      go_ret
      exact ⟨ret_i64 hres.out.symm, rfl⟩
def cmpTn (x y : Tn) : Int := or3 (Lib.compareInt x.node y.node) (Lib.compareInt x.life y.life) (Lib.compareInt x.seq y.seq)
set_option maxHeartbeats 2000000 in
theorem gnumber_any (x y : Tn) (W : World) : Calls Try.prog 44 #[.agg (encTn x).toArray, .agg (encTn y).toArray] W fun e w' => e = .returned (.int .i64 (cmpTn x y)) ∧ ∃ q os', w' = grow (W.drewN q) os' := by
  obtain ⟨xn, xl, xs⟩ := x
  obtain ⟨yn, yl, ys⟩ := y
  unfold cmpTn encTn
  simp only
  have H1 := Lib.hid (fun W' => Try.cmp_Compare_int xn yn W')
  have H2 := Lib.hid (fun W' => Try.cmp_Compare_int xl yl W')
  have H3 := Lib.hid (fun W' => Try.cmp_Compare_int xs ys W')
  obtain ⟨a, ha⟩ : ∃ a, a = Lib.compareInt xn yn := ⟨_, rfl⟩
  obtain ⟨b, hb⟩ : ∃ b, b = Lib.compareInt xl yl := ⟨_, rfl⟩
  obtain ⟨c, hc⟩ : ∃ c, c = Lib.compareInt xs ys := ⟨_, rfl⟩
  rw [← ha] at H1 ⊢
  rw [← hb] at H2 ⊢
  rw [← hc] at H3 ⊢
  have HO := Lib.hid (fun g W' => gor_any g a b c W')
  obtain ⟨N, hN⟩ : ∃ N, N = or3 a b c := ⟨_, rfl⟩
  rw [← hN] at HO ⊢
  clear ha hb hc hN
  have hA0 := heap_alloc_new W (.cells #[.int .i64 xn, .int .i64 xl, .int .i64 xs] 36)
  obtain ⟨u1, hu1⟩ : ∃ u1, u1 = W.alloc (.cells #[.int .i64 xn, .int .i64 xl, .int .i64 xs] 36) := ⟨_, rfl⟩
  rw [← hu1] at hA0
  have hs1 : u1.heap.size = W.heap.size + 1 := by rw [hu1]; simp
  have hB0 := heap_alloc_new u1 (.cells #[.int .i64 yn, .int .i64 yl, .int .i64 ys] 36)
  have hA1 := (Below.heap_alloc u1 (.cells #[.int .i64 yn, .int .i64 yl, .int .i64 ys] 36) _ (by omega)).trans hA0
  obtain ⟨w1, hw1⟩ : ∃ w1, w1 = u1.alloc (.cells #[.int .i64 yn, .int .i64 yl, .int .i64 ys] 36) := ⟨_, rfl⟩
  rw [← hw1] at hB0 hA1
  rw [hs1] at hB0
  obtain ⟨A, hA⟩ : ∃ A, A = W.heap.size := ⟨_, rfl⟩
  rw [← hA] at hA1 hB0 hs1
  obtain ⟨q0, q1, q2⟩ := cells3 hA1
  obtain ⟨y0, y1, y2⟩ := cells3 hB0
  have HG := Lib.hid (show w1 = grow W #[.cells #[.int .i64 xn, .int .i64 xl, .int .i64 xs] 36 (0, 0), .cells #[.int .i64 yn, .int .i64 yl, .int .i64 ys] 36 (0, 0)] from by rw [hw1, hu1, alloc_eq_grow, alloc_eq_grow, grow_grow]; rfl)
  clear hA0 hB0 hA1
  go_enter Try.func44, Try.ntmps44
  go_upto_region 1 with fail
  rw [← hA, ← hu1, ← hw1]
  clear hA hu1 hw1 hs1
  refine wp_region_still_tail 15 (by kernel_rfl) (by kernel_rfl) ?_
  simp only [List.take_succ_cons, List.take_zero, List.drop_succ_cons, List.drop_zero]
  still_step
  still_step
  still_step
  still_step
  still_call (H1.out _)
  still_step
  still_step
  still_step
  still_step
  still_call (H2.out _)
  still_step
  still_step
  still_step
  still_step
  still_call (H3.out _)
  try refine wpStill_nil ?_
  change wpList _ _ _ _ _ w1.drew
  have c0 := cell_of_row (w1.drew.alloc (.cells #[.int .i64 a, .int .i64 b, .int .i64 c] 3)) w1.heap.size 0 _ _ _ (heap_alloc_new w1.drew _)
  have c1 := cell_of_row (w1.drew.alloc (.cells #[.int .i64 a, .int .i64 b, .int .i64 c] 3)) w1.heap.size 1 _ _ _ (heap_alloc_new w1.drew _)
  have c2 := cell_of_row (w1.drew.alloc (.cells #[.int .i64 a, .int .i64 b, .int .i64 c] 3)) w1.heap.size 2 _ _ _ (heap_alloc_new w1.drew _)
  have HOR := Lib.hid (HO.out w1.heap.size (w1.drew.alloc (.cells #[.int .i64 a, .int .i64 b, .int .i64 c] 3)) c0 c1 c2)
  clear c0 c1 c2
  go_wp2_with (go_at_call 56; refine HOR.out.mono ?_; rintro e w9 ⟨rfl, rfl⟩)
  go_ret
  refine ⟨rfl, 1, #[.cells #[.int .i64 xn, .int .i64 xl, .int .i64 xs] 36 (0, 0), .cells #[.int .i64 yn, .int .i64 yl, .int .i64 ys] 36 (0, 0)] ++ #[.cells #[.int .i64 a, .int .i64 b, .int .i64 c] 3 (0, 0)], ?_⟩
  rw [HG.out, alloc_eq_grow, grow_grow]
  rfl
/-! The order. -/
theorem or3_neg {a b c : Int} : or3 a b c < 0 ↔ a < 0 ∨ (a = 0 ∧ (b < 0 ∨ (b = 0 ∧ c < 0))) := by
  unfold or3
  repeat' split
  all_goals omega
theorem cmpI_neg (x y : Int) : Lib.compareInt x y < 0 ↔ x < y := by
  unfold Lib.compareInt
  repeat' split
  all_goals omega
theorem cmpI_zero (x y : Int) : Lib.compareInt x y = 0 ↔ x = y := by
  unfold Lib.compareInt
  repeat' split
  all_goals omega
def LtT (x y : Tn) : Prop := x.node < y.node ∨ (x.node = y.node ∧ (x.life < y.life ∨ (x.life = y.life ∧ x.seq < y.seq)))
theorem cmpTn_neg (x y : Tn) : cmpTn x y < 0 ↔ LtT x y := by
  unfold cmpTn LtT
  rw [or3_neg, cmpI_neg, cmpI_zero, cmpI_neg, cmpI_zero, cmpI_neg]
theorem ltT_iff (x y : Tn) : ltT x y = true ↔ LtT x y := by
  unfold ltT LtT
  repeat' split
  all_goals simp only [decide_eq_true_eq]
  all_goals omega
theorem ltOf_iff (x y : Tn) : ltOf cmpTn x y = true ↔ LtT x y := by unfold ltOf; rw [decide_eq_true_eq, cmpTn_neg]
theorem ltOf_no (x y : Tn) : ltOf cmpTn x y = false ↔ ¬ LtT x y := by rw [← ltOf_iff, Bool.not_eq_true]
theorem tn_swo : SWO (ltOf cmpTn) where
  irrefl x := by rw [ltOf_no]; unfold LtT; omega
  trans x y z h1 h2 := by rw [ltOf_iff] at *; unfold LtT at *; omega
  ntrans x y z h1 h2 := by rw [ltOf_no] at *; unfold LtT at *; omega
theorem tn_total {x y : Tn} (h : ¬ LtT y x) (hne : x ≠ y) : LtT x y := by
  obtain ⟨a, b, c⟩ := x
  obtain ⟨a', b', c'⟩ := y
  unfold LtT at *
  simp only [ne_eq, Tn.mk.injEq] at *
  omega
/-! The row. -/
theorem cellsT_at : ∀ (ss : List TnO) (i j : Nat), i < ss.length → j < 3 → (cellsT ss)[i * 3 + j]? = (encTn ((ss.map (·.1)).getD i tn0))[j]?
  | [], i, j, hi, _ => by simp at hi
  | x :: L, 0, j, _, hj => by
    have : j = 0 ∨ j = 1 ∨ j = 2 := by omega
    rcases this with rfl | rfl | rfl <;> simp [cellsT, encTn, Tn.cells]
  | x :: L, i + 1, j, hi, hj => by
    have ih := cellsT_at L i j (by simpa using hi) hj
    have e : cellsT (x :: L) = x.1.cells.toList ++ cellsT L := by simp [cellsT]
    rw [e, List.getElem?_append_right (by simp [Tn.cells]; omega), show (i + 1) * 3 + j - x.1.cells.toList.length = i * 3 + j by simp [Tn.cells]; omega, ih]
    simp
theorem tn_holds {w : World} {B g n cap : Nat} {ss : List TnO} (h : w.ownsRow B 36 3 (.slice (some ⟨g, 0, none⟩) n cap) n (cellsT ss)) (hn : ss.length = n) : HoldsK encTn 3 w g 0 (ss.map (·.1)).toArray := by
  intro t ht
  rw [size_flatK] at ht
  rw [get_flatK _ _ _ _ ht]
  simp only [List.size_toArray, List.length_map] at ht
  have hi : t / 3 < ss.length := by omega
  have hj : t % 3 < 3 := Nat.mod_lt _ (by omega)
  have hc := h.cellAt t (by omega)
  have e := cellsT_at ss (t / 3) (t % 3) hi hj
  rw [show t / 3 * 3 + t % 3 = t by omega] at e
  refine ⟨?_, ?_⟩
  · rw [Nat.zero_add, hc, e]
    have e2 : (ss.map (·.1)).toArray[t / 3]! = (ss.map (·.1)).getD (t / 3) tn0 := by
      rw [getElem!_pos _ _ (by simpa using hi), List.getD, List.getElem?_eq_getElem (by simpa using hi)]
      simp
    rw [e2]
    have : t % 3 = 0 ∨ t % 3 = 1 ∨ t % 3 = 2 := by omega
    rcases this with h | h | h <;> rw [h] <;> rfl
  · rcases h.2 with ⟨h', _⟩ | ⟨g', cap', cur, h', _, hg', _⟩
    · cases h'
    · cases h'
      exact frozen_of_row _ _ _ _ _ hg'
theorem got_len {P : List Pd} {ss : List TnO} (hg : GoodP P) (h : GotT P ss) : ss.length = P.length := by
  apply Nat.le_antisymm
  · have := sub_len (l := ss.map (·.1)) (m := P.map (·.t)) (by
      rw [List.pairwise_map]
      exact h.1.imp (fun hne e => hne (Subtype.ext e))) (fun x hx => by
      obtain ⟨y, hy, rfl⟩ := List.mem_map.1 hx
      have hl := (h.2 y).1 hy
      exact List.mem_map.2 ⟨_, getD_mem hl pd0, atN_get hl⟩)
    simpa using this
  · have := sub_len (l := P.map (·.t)) (m := ss.map (·.1)) (by rw [List.pairwise_map]; exact hg.tn) (fun x hx => by
      obtain ⟨p, hp, rfl⟩ := List.mem_map.1 hx
      exact List.mem_map.2 ⟨⟨p.t, (hg.ok p hp).1⟩, (h.2 _).2 (atN_yes hp rfl), rfl⟩)
    simpa using this
theorem grownBy_sortK {w : World} {g n : Nat} {os : Array Obj} (d : Array Tn) : w.grownBy (sortWorldK encTn 3 w g 0 n d os) (some g) := by
  unfold sortWorldK
  refine ⟨rfl, rfl, rfl, by simp [putRowK], fun k hk hne => ?_⟩
  rw [heap_grow_old _ _ (by simpa [putRowK] using hk)]
  have : g ≠ k := fun e => hne (by rw [e])
  simp [putRowK, putRow, mapBlock, Sort.ahead, Array.getElem?_modify, this]
/-- What All tells. -/
def AllOut (w : World) (P : List Pd) (e : Ending) (w' : World) : Prop :=
  ∃ (a : Option Addr) (c : Nat) (L : List Tn), e = .returned (.slice a P.length c) ∧ IsTns w' a P.length L ∧ SortedT L ∧ (∀ i, i < P.length → atN (L.getD i tn0) P < P.length ∧ (L.getD i tn0).ok) ∧ Below w.heap.size w w'
theorem all_fin {w W : World} {P : List Pd} {ss : List TnO} {g cap n : Nat} {d' : Array Tn} {os : Array Obj} (hl : ss.length = P.length) (hP : P.length ≤ 1000) (h : GotT P ss) (hb : Below w.heap.size w W) (hg : w.heap.size ≤ g) (hgl : g < W.heap.size)
    (hH : HoldsK encTn 3 W g 0 (ss.map (·.1)).toArray) (hp : PermIn 0 (ss.map (·.1)).toArray.size (ss.map (·.1)).toArray d') (hs : SortedIn (ltOf cmpTn) 0 (ss.map (·.1)).toArray.size d') : AllOut w P (.returned (.slice (some ⟨g, 0, none⟩) P.length cap)) (sortWorldK encTn 3 W g 0 n d' os) := by
  have hsz : d'.size = P.length := by rw [hp.1]; simp [hl]
  have hd0 : (ss.map (·.1)).toArray.size = P.length := by simp [hl]
  have hperm : d'.toList.Perm (ss.map (·.1)) := by
    have h3 := hp.2.2
    rw [hd0] at h3
    have e1 : d'.extract 0 P.length = d' := by rw [← hsz]; simp
    have e2 : (ss.map (·.1)).toArray.extract 0 P.length = (ss.map (·.1)).toArray := by rw [← hd0, Array.extract_size]
    rw [e1, e2] at h3
    simpa using h3
  have hnd : d'.toList.Nodup := hperm.nodup_iff.2 (by
    show (ss.map (·.1)).Pairwise _
    rw [List.pairwise_map]
    exact h.1.imp (fun hne e => hne (Subtype.ext e)))
  have hget : ∀ i, i < P.length → d'[i]! = d'.toList.getD i tn0 := fun i hi => by
    rw [getElem!_pos d' i (by omega), List.getD, List.getElem?_eq_getElem (by simpa using (by omega : i < d'.size))]
    simp
  have hH2 := holdsK_sortWorldK encTn 3 W g 0 n _ d' os hgl hH (by rw [hd0]; exact hsz)
  have hgr := grownBy_sortK (w := W) (g := g) (n := n) (os := os) d'
  refine ⟨_, cap, d'.toList, rfl, ⟨by simpa using hsz, by unfold maxLen; omega, fun i hi => ⟨g, 0, rfl, Nat.lt_of_lt_of_le hgl hgr.size, ?_, ?_, ?_⟩⟩, fun i hi => ?_, fun i hi => ?_, hb.grown hgr hb.size (fun j hj => by cases hj; exact hg)⟩
  · have := (hH2.cell (i := i) (c := 0) (by omega) (by omega)).1
    rw [hget i hi] at this
    exact this
  · have := (hH2.cell (i := i) (c := 1) (by omega) (by omega)).1
    rw [hget i hi] at this
    exact this
  · have := (hH2.cell (i := i) (c := 2) (by omega) (by omega)).1
    rw [hget i hi] at this
    exact this
  · have hi2 : i + 1 < P.length := by have : i + 1 < d'.toList.length := hi; simp at this; omega
    have h1 := hs i (i + 1) (by omega) (by omega) (by omega)
    rw [ltOf_no, hget i (by omega), hget (i + 1) hi2] at h1
    rw [ltT_iff]
    refine tn_total h1 (fun e => ?_)
    have hl2 : d'.toList.length = P.length := by simpa using hsz
    rw [List.getD, List.getD, List.getElem?_eq_getElem (by omega), List.getElem?_eq_getElem (by omega)] at e
    exact (List.pairwise_iff_getElem.1 hnd) i (i + 1) (by omega) (by omega) (by omega) (by simpa using e)
  · have hl2 : d'.toList.length = P.length := by simpa using hsz
    have hm := getD_mem (l := d'.toList) (i := i) (by omega) tn0
    obtain ⟨y, hy, e⟩ := List.mem_map.1 (hperm.mem_iff.1 hm)
    rw [← e]
    exact ⟨(h.2 y).1 hy, y.2⟩
theorem tsort_none (W : World) : Calls Try.prog 54 #[.slice none 0 0, .func (.func 44) #[] #[]] W (fun e w' => e = .returned (.tuple #[]) ∧ w' = W) := by
  have h := AnyF.slices_SortFunc_none Try.sortTxn none 0 (.func (.func 44) #[] #[]) W
  change Calls Try.prog 54 _ _ _ at h
  exact h
theorem tsort_any (g cap : Nat) (d : Array Tn) (W : World) (hH : HoldsK encTn 3 W g 0 d) (hl : g < W.heap.size) (hs : d.size ≤ 1000) :
    Calls Try.prog 54 #[.slice (some ⟨g, 0, none⟩) d.size cap, .func (.func 44) #[] #[]] W fun e w' => e = .returned (.tuple #[]) ∧ ∃ d' n os, PermIn 0 d.size d d' ∧ SortedIn (ltOf cmpTn) 0 d.size d' ∧ w' = sortWorldK encTn 3 W g 0 n d' os := by
  have h := AnyQ.slices_SortFunc Try.sortTxn 3 Try.isAgg36 Try.sizeOf36 encTn (fun _ => rfl) (fun x v hv => by simp [encTn] at hv; rcases hv with rfl | rfl | rfl <;> rfl) cmpTn tn_swo 44 #[] g 0 cap d W
        (enters_of Try.func44 (by kernel_rfl) rfl) (fun _ _ _ _ x y => gnumber_any x y _) hH hl (by omega)
  change Calls Try.prog 54 _ _ _ at h
  exact h
theorem tcol_any {w : World} {R : Nat → Prop} {mp ml : Option Nat} {P : List Pd} (Bm : Nat) (h : MapsAt w R mp ml P) (hB : Bm < w.heap.size) (hm : w.cell? ⟨Bm, 0, none⟩ = some (.map mp)) (hP : P.length ≤ 1000) :
    Calls Try.prog 53 #[.func (.func 55) #[] #[.pointer (some ⟨Bm, 0, none⟩)]] w fun e w' => ∃ (v : Value) (ss : List TnO), e = .returned v ∧ GotT P ss ∧ w'.ownsRow w.heap.size 36 3 v ss.length (cellsT ss) ∧ (v = .slice none 0 0 ↔ ss = []) ∧ RowKit.Below w.heap.size w w' :=
  callsIn_wide.1 (tcollect_in Fence.wide 3 trivial trivial rfl (by omega) 55 #[.pointer (some ⟨Bm, 0, none⟩)] trivial (enters_of Try.func55 (by kernel_rfl) rfl) (GotT P) (fun _ => True) P.length hP w (tkeys_stops Fence.wide (3 - 1 - 1) trivial rfl (by omega) Bm h hB hm))
set_option maxHeartbeats 2000000 in
theorem tsorted_any {w : World} {R : Nat → Prop} {mp ml : Option Nat} {P : List Pd} (Bm : Nat) (h : MapsAt w R mp ml P) (hB : Bm < w.heap.size) (hm : w.cell? ⟨Bm, 0, none⟩ = some (.map mp)) (hg : GoodP P) (hP : P.length ≤ 1000) :
    Calls Try.prog 42 #[.func (.func 55) #[] #[.pointer (some ⟨Bm, 0, none⟩)], .func (.func 44) #[] #[]] w (AllOut w P) := by
  have HCOL := Lib.hid (tcol_any Bm h hB hm hP)
  have HLEN := Lib.hid (fun ss (h : GotT P ss) => got_len hg h)
  have HNONE := Lib.hid tsort_none
  clear h hB hm hg
  go_enter Try.func42, Try.ntmps42
  go_upto_region 2 with (go_at_call 53; refine HCOL.out.mono ?_; rintro e W ⟨v, ss, rfl, hS, hrow, hnil, hb⟩)
  have hl := HLEN.out ss hS
  rcases hrow.2 with ⟨rfl, hz⟩ | ⟨gb, cap, cur, rfl, hbase, hgb, r1, r2, r3, r4⟩
  · have hp0 : P = [] := List.eq_nil_of_length_eq_zero (by omega)
    subst hp0
    have HB := Lib.hid hb
    clear hrow hnil hS hl hz hb
    go_wp2_with (go_at_call 54; refine (HNONE.out _).mono ?_; rintro e w' ⟨rfl, rfl⟩)
    go_ret
    exact ⟨none, 0, [], rfl, ⟨rfl, by unfold maxLen; omega, fun i hi => absurd hi (by simp)⟩, fun i hi => absurd hi (by simp), fun i hi => absurd hi (by simp), HB.out⟩
  · have hH := tn_holds hrow rfl
    have hgl : gb < W.heap.size := (Array.getElem?_eq_some_iff.1 hgb).1
    have hso := tsort_any gb cap (ss.map (·.1)).toArray W hH hgl (by simp; omega)
    rw [show (ss.map (·.1)).toArray.size = ss.length by simp] at hso
    have HSO := Lib.hid hso
    have HH := Lib.hid (And.intro hl (And.intro hS (And.intro hb (And.intro hbase (And.intro hgl hH)))))
    clear hrow hnil hS hb hbase hgb r1 r2 r3 r4 hH hgl hso
    rw [hl] at HSO ⊢
    clear hl
    go_wp2_with (go_at_call 54; refine HSO.out.mono ?_; rintro e w' ⟨rfl, d', nn, os, hp, hs, rfl⟩; have HPS := Lib.hid (And.intro hp hs); clear hp hs)
    go_ret
    obtain ⟨g1, g2, g3, g4, g5, g6⟩ := HH.out
    exact all_fin g1 hP g2 g3 g4 g5 g6 (by simpa [g1] using HPS.out.1) (by simpa [g1] using HPS.out.2)
theorem tkeys_call (mp : Option Nat) (w : World) : Calls Try.prog 43 #[.map mp] w fun e w' => e = .returned (.func (.func 55) #[] #[.pointer (some ⟨w.heap.size, 0, none⟩)]) ∧ w' = w.alloc (.cells #[.map mp] 65) := by
  go_enter Try.func43, Try.ntmps43
  go_wp2_with fail
  go_ret
  exact ⟨rfl, rfl⟩
theorem gall_any {M : MvcC} {w : World} {r rs : Addr} {b : Nat} {mp ml : Option Nat} {S : List Im} {P : List Pd} {OS R : Nat → Prop} (h : PtM M w r rs b mp ml S P OS R) (hP : P.length ≤ 1000) :
    Calls Try.prog 18 #[.pointer (some r)] w (AllOut w P) := by
  obtain ⟨c0, c1, c2, fr⟩ := h.cells
  have hptr := h.ptr
  subst hptr
  have HK := Lib.hid (tkeys_call mp w)
  have hb1 := (Below.refl w.heap.size w).alloc (Nat.le_refl _) (.cells #[.map mp] 65)
  have hr1 := heap_alloc_new w (.cells #[.map mp] 65)
  have HS := Lib.hid ((tsorted_any w.heap.size (h.below hb1).maps (by simp) (by rw [cell_of_row _ _ _ _ _ _ hr1]; rfl) h.good hP).mono fun e w' ⟨a, c, L, q1, q2, q3, q4, q5⟩ => (show AllOut w P e w' from ⟨a, c, L, q1, q2, q3, q4, hb1.trans (q5.mono hb1.size)⟩))
  clear h hb1 hr1
  go_enter Try.func18, Try.ntmps18
  go_wp2_with (first
    | (go_at_call 43; refine HK.out.mono ?_; rintro e w1 ⟨rfl, rfl⟩)
    | (go_at_call 42; refine HS.out.mono ?_; rintro e w2 ⟨a, c, L, rfl, q2, q3, q4, q5⟩; have HO := Lib.hid (And.intro q2 (And.intro q3 (And.intro q4 q5))); clear q2 q3 q4 q5))
  go_ret
  obtain ⟨q2, q3, q4, q5⟩ := HO.out
  exact ⟨a, c, L, rfl, q2, q3, q4, q5⟩
end Go.Proofs.Ythcomfcbdlobpaa
