/-
  The program's log in memory; the walks of End, Over, Open.
-/
import Derived.Test.YtlkifliaaaomeaaLogPAll
import Derived.Test.YtlkifliaaaomeaaLogPStands
namespace Go.Proofs.Ytlkifliaaaomeaa
open Go.RowKit
set_option linter.unusedVariables false
set_option linter.unnecessarySimpa false
set_option linter.unusedSimpArgs false
set_option maxRecDepth 100000

/-- A struct is built, its cells said. -/
theorem lq_buildIs {P : Program} {ops : Array Oper} {rest : List Oper} {o : Oper} {a : Act} {w : World} {Q : Exit → Act → World → Prop} (hg : o.guard = none) (t : TypeId) (parts : Array (Nat × Operand)) (ho : o.op = .build t parts)
    (cells : Array Value) (hf : P.built t (parts.map fun (i, x) => (i, a.eval x)).toList = some cells)
    (h : wpList P ops Q rest (a.put o.dst (.agg cells)) w) : wpList P ops Q (o :: rest) a w := by
  refine wpList_build hg t parts ho (by rw [hf]; rfl) ?_
  rw [hf]
  exact h
/-- A log's cells. -/
def lRow (d : Addr) (n : Int) (o : Bool) : Array Value := tab ++ #[.pointer (some d), .int .i64 n, .bool o]
theorem lBuilt (d : Addr) (n : Int) : Try.prog.built 61 [(0, .agg tab), (1, .pointer (some d)), (2, .int .i64 n), (3, .bool true)] = some (lRow d n true) := by kernel_rfl
/-- A log in memory. -/
def LpAt (w : World) (g : Nat) (d : Addr) (n : Int) (o : Bool) : Prop := w.heap[g]? = some (.cells (lRow d n o) 61 (0, 0))
section
variable {w w' : World} {g : Nat} {d : Addr} {n : Int} {o : Bool}
theorem LpAt.lt (h : LpAt w g d n o) : g < w.heap.size := (Array.getElem?_eq_some_iff.1 h).1
theorem lRow_d : (lRow d n o)[256]? = some (.pointer (some d)) := by unfold lRow; rw [Array.getElem?_append_right (by rw [tab_size]; omega), tab_size]; rfl
theorem lRow_n : (lRow d n o)[257]? = some (.int .i64 n) := by unfold lRow; rw [Array.getElem?_append_right (by rw [tab_size]; omega), tab_size]; rfl
theorem lRow_o : (lRow d n o)[258]? = some (.bool o) := by unfold lRow; rw [Array.getElem?_append_right (by rw [tab_size]; omega), tab_size]; rfl
theorem LpAt.cd (h : LpAt w g d n o) : w.cell? ⟨g, 256, none⟩ = some (.pointer (some d)) := by unfold LpAt at h; rw [cell_of_row _ _ _ _ _ _ h, lRow_d]
theorem LpAt.cn (h : LpAt w g d n o) : w.cell? ⟨g, 257, none⟩ = some (.int .i64 n) := by unfold LpAt at h; rw [cell_of_row _ _ _ _ _ _ h, lRow_n]
theorem LpAt.co (h : LpAt w g d n o) : w.cell? ⟨g, 258, none⟩ = some (.bool o) := by unfold LpAt at h; rw [cell_of_row _ _ _ _ _ _ h, lRow_o]
theorem LpAt.fz (h : LpAt w g d n o) (j : Nat) : w.frozen? ⟨g, j, none⟩ = false := frozen_of_row w g j _ _ h
theorem LpAt.setn (h : LpAt w g d n o) (n' : Int) : LpAt (w.setCell ⟨g, 257, none⟩ (.int .i64 n')) g d n' o := by
  unfold LpAt at *
  rw [heap_setCell_same w g 257 _ _ _ h]
  unfold lRow
  rw [Array.setIfInBounds_append_right (by rw [tab_size]; omega), tab_size]; rfl
theorem LpAt.stay (h : LpAt w g d n o) (hk : w'.heap[g]? = w.heap[g]?) : LpAt w' g d n o := hk.trans h
theorem LpAt.table (h : LpAt w g d n o) : w.rangeAt g 0 tab.toList := fun j v hv => by
  have hj : j < 256 := by rw [← tab_size]; have := (List.getElem?_eq_some_iff.1 hv).1; simpa using this
  unfold LpAt at h
  rw [cell_of_row _ _ _ _ _ _ h, Nat.zero_add]
  unfold lRow
  rw [Array.getElem?_append_left (by rw [tab_size]; exact hj)]
  simpa using hv
end

set_option maxHeartbeats 800000 in
theorem lp_end {w : World} {g : Nat} {d : Addr} {n : Int} {o : Bool} (h : LpAt w g d n o) : Calls Try.prog 10 #[.pointer (some ⟨g, 0, none⟩)] w fun e w' => e = .returned (.int .i64 n) ∧ w = w' := by
  have c := h.cn
  clear h
  go_enter Try.func10, Try.ntmps10
  go_wp2_with fail
  go_ret
  exact ⟨rfl, rfl⟩
set_option maxHeartbeats 800000 in
theorem lp_over {w : World} {g : Nat} {d : Addr} {n : Int} {o : Bool} (h : LpAt w g d n o) : Calls Try.prog 15 #[.pointer (some ⟨g, 0, none⟩)] w fun e w' => e = .returned (.bool (!o)) ∧ w = w' := by
  have c := h.co
  clear h
  go_enter Try.func15, Try.ntmps15
  go_wp2_with fail
  go_ret
  exact ⟨rfl, rfl⟩

set_option maxHeartbeats 4000000 in
theorem lp_open {w : World} {d : Addr} {D : DK} {O : Nat → Prop} (h : PAt w d D O) (hc : Calm D 100000) (hN : D.seen.length ≤ 100) :
    Calls Try.prog 9 #[.agg tab, .pointer (some d)] w fun e w' => ∃ g v D' O', e = .returned (.tuple #[.pointer (some ⟨g, 0, none⟩), v, .int .i64 0]) ∧
      w'.ownsRow w.heap.size 9 1 v (stands D.seen.flatten).length (strCells (stands D.seen.flatten)) ∧ PAt w' d D' O' ∧ LpAt w' g d (endOf (stands D.seen.flatten) : Nat) true ∧
      D'.seen.flatten = D.seen.flatten.take (endOf (stands D.seen.flatten)) ++ List.replicate (64 * D.seen.length - endOf (stands D.seen.flatten)) 0 ∧ D'.seen.length = D.seen.length ∧ D'.fuse = -1 ∧ D'.waits = [] ∧
      Moves O (fun k => O' k ∨ k = g) w w' ∧ w.heap.size ≤ g ∧ ¬ O' g := by
  have hrow := Lib.hid (heap_alloc_last w (.cells tab 29))
  have his := Lib.hid (show (Try.prog.info? 29).map (·.size) = some tab.size by rw [tab_size]; exact (zero_of_info (P := Try.prog) tableInfo).2)
  obtain ⟨T, hT⟩ : ∃ T, T = w.heap.size := ⟨_, rfl⟩
  have hal : Below w.heap.size w (w.alloc (.cells tab 29)) := (Below.refl _ _).alloc (Nat.le_refl _) _
  have HA := Lib.hid (show PAt (w.alloc (.cells tab 29)) d D O from h.stay (fun k hk => hal.block k (h.lt k hk)))
  have HM := Lib.hid (show Moves O O w (w.alloc (.cells tab 29)) from Moves.of_below hal)
  have HnT := Lib.hid (show ¬ O T from fun hk => by have := h.lt T hk; omega)
  have HTs := Lib.hid (show T < (w.alloc (.cells tab 29)).heap.size by simp [hT])
  have hfl := flat_length64 D.seen h.1.seen
  obtain ⟨f, hf⟩ : ∃ f : ByteArray, f = ⟨D.seen.flatten.toArray⟩ := ⟨_, rfl⟩
  have hfd : f.data.toList = D.seen.flatten := by rw [hf]
  have hfs : f.size = 64 * D.seen.length := by rw [hf, ba_of, hfl]
  obtain ⟨en, hen⟩ : ∃ en, en = endOf (stands D.seen.flatten) := ⟨_, rfl⟩
  have hle : en ≤ f.size := by rw [hen, hfs, ← hfl]; exact endOf_stands _
  have HR := Lib.hid (lp_readAll HA.out (by rw [hc.fuse]; decide) (by omega))
  rw [← hf] at HR
  have HS := Lib.hid (fun W => lp_stands f (by omega) W)
  unfold StandsOut at HS
  rw [hfd, ← hen] at HS
  have HC := Lib.hid (fun (W : World) (O1 : Nat → Prop) (hp : PAt W d D O1) => lp_clear hp hc.fuse (by omega) (by have := hc.waits; omega) f hfd en hle)
  have hbuilt := Lib.hid (lBuilt d en)
  have hd0 : ∃ gd, d = ⟨gd, 0, none⟩ := by obtain ⟨_, gd, _, _, _, rfl, _⟩ := h; exact ⟨gd, rfl⟩
  obtain ⟨Cs, hCs⟩ : ∃ Cs, Cs = lRow d en true := ⟨_, rfl⟩
  rw [← hCs] at hbuilt
  have HCs := Lib.hid hCs
  have HT := Lib.hid hT
  obtain ⟨wA, hwA⟩ : ∃ wA, wA = w.alloc (.cells tab 29) := ⟨_, rfl⟩
  have HwA := Lib.hid hwA
  rw [← hen] at *
  rw [← hwA] at HA HM HTs hrow HR
  rw [← hT] at hrow
  clear h hc hf hfd hfl hal hen hCs hle hwA hT
  go_enter Try.func9, Try.ntmps9
  go_upto_region 1 with fail
  rw [← HT.out, ← HwA.out]
  go_wp2_with (first
    | (go_at_call 23; refine HR.out.mono ?_; rintro e w1 ⟨O1, rfl, hp1, hm1⟩; have HP1 := Lib.hid hp1; have HM1 := Lib.hid hm1; have hr1 := Lib.hid ((hm1.block T HTs.out HnT.out).trans hrow.out); have HnT1 := Lib.hid (show ¬ O1 T from fun hk => (hm1.own T hk).elim HnT.out (fun h => by have := HTs.out; omega)); clear hp1 hm1)
    | (refine wpList_load_row rfl 29 _ rfl T rfl 29 tab (0, 0) _ hr1.out Try.underlying29 rfl his.out ?_; dsimp only [Act.put])
    | (go_at_call 17; refine (HS.out _).mono ?_; rintro e w2 ⟨v, rfl, hv2, hb2⟩; have HV2 := Lib.hid hv2; have HB2 := Lib.hid hb2; have HP2 := Lib.hid (HP1.out.stay (fun k hk => hb2.block k (HP1.out.lt k hk))); have hr2 := Lib.hid ((hb2.block T (pRow_lt hr1.out)).trans hr1.out); clear hv2 hb2)
    | (go_at_call 24; refine (HC.out _ _ HP2.out).mono ?_; rintro e w3 ⟨D3, O3, rfl, hp3, hm3, hq3⟩; have HP3 := Lib.hid hp3; have HM3 := Lib.hid hm3; have HQ3 := Lib.hid hq3; have hr3 := Lib.hid ((hm3.block T (pRow_lt hr2.out) HnT1.out).trans hr2.out); have HnT3 := Lib.hid (show ¬ O3 T from fun hk => (hm3.own T hk).elim HnT1.out (fun h => by have := pRow_lt hr2.out; omega)); clear hp3 hm3 hq3)
    | (go_at_call 25; refine (dsk.sync (w := w3) HP3.out (by rw [HQ3.out.2.2.1]; decide)).mono ?_; rintro e w4 ⟨O4, rfl, hp4, hm4⟩; have HP4 := Lib.hid (show PAt w4 d D3.synced O4 from hp4); have HM4 := Lib.hid hm4; have hr4 := Lib.hid ((hm4.block T (pRow_lt hr3.out) HnT3.out).trans hr3.out); clear hp4 hm4)
    | (refine wpList_load_row rfl 29 _ rfl T rfl 29 tab (0, 0) _ hr4.out Try.underlying29 rfl his.out ?_; dsimp only [Act.put])
    | (refine lq_buildIs rfl 61 _ rfl Cs (by first | exact hbuilt.out | (simp only [List.map_toArray, List.map_cons, List.map_nil, Act.eval, Act.put]; exact hbuilt.out)) ?_; dsimp only [Act.put]))
  go_ret3
  obtain ⟨gd, hgd⟩ := hd0
  have M1 := HM.out.trans HM1.out
  have M2 := M1.belowP HB2.out
  have M3 := M2.trans HM3.out
  have M4 := M3.trans HM4.out
  have hs1 : w.heap.size ≤ w1.heap.size := M1.size
  have hlt2 : ∀ k, v.ownBlock = some k → w1.heap.size ≤ k ∧ k < w2.heap.size := HV2.out.lt
  have n1 : ∀ k, v.ownBlock = some k → ¬ O1 k := fun k hk h => by have := HP1.out.lt k h; have := hlt2 k hk; omega
  have n3 : ∀ k, v.ownBlock = some k → ¬ O3 k := fun k hk h => (HM3.out.own k h).elim (n1 k hk) (fun h => by have := hlt2 k hk; omega)
  have hv3 : w3.ownsRow w1.heap.size 9 1 v (stands D.seen.flatten).length (strCells (stands D.seen.flatten)) := pOwn_keep HV2.out (fun k hk => HM3.out.block k (hlt2 k hk).2 (n1 k hk))
  have hv4 : w4.ownsRow w1.heap.size 9 1 v (stands D.seen.flatten).length (strCells (stands D.seen.flatten)) := pOwn_keep hv3 (fun k hk => HM4.out.block k (hv3.lt k hk).2 (n3 k hk))
  have hb5 : Below w4.heap.size w4 (w4.alloc (.cells Cs 61)) := (Below.refl _ _).alloc (Nat.le_refl _) _
  have hO4 : ¬ O4 w4.heap.size := fun h => by have := HP4.out.lt _ h; omega
  obtain ⟨q1, q2, q3, q4⟩ := HQ3.out
  refine ⟨w4.heap.size, v, D3.synced, O4, rfl, lp_lower (hv4.alloc _) hs1, HP4.out.stay (fun k hk => hb5.block k (HP4.out.lt k hk)), ?_, ?_, q2, q3, rfl, (M4.belowP hb5).owns (fun k hk => ?_), M4.size, hO4⟩
  · unfold LpAt
    rw [← HCs.out]
    exact heap_alloc_last _ _
  · rw [← hfs]; exact q1
  · rcases hk with hk | rfl
    · exact M4.own k hk
    · exact .inr M4.size
end Go.Proofs.Ytlkifliaaaomeaa
