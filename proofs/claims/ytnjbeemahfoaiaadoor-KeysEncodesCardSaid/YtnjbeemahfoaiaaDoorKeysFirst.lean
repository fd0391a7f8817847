/-
  The walk of the statement KeysFirst: true.
-/
import Derived.Test.YtnjbeemahfoaiaaDoorKeysOrder
namespace Go.Proofs.YtnjbeemahfoaiaaDoor
open Go.RowKit
set_option linter.unnecessarySimpa false
set_option linter.unusedVariables false
set_option linter.unusedSimpArgs false
set_option maxRecDepth 100000

/-- Two items, laid as a literal slice. -/
theorem items_lit2 (w : World) (x y : It) (hx : x.ok) (hy : y.ok) : ItemsAt (w.alloc (.cells (x.cells ++ y.cells) 36)) (some ⟨w.heap.size, 0, none⟩) 2 [x, y] := by
  refine ⟨rfl, fun i hi => ⟨w.heap.size, 0, rfl, by simp, ?_, ?_⟩⟩
  · have : i = 0 ∨ i = 1 := by omega
    rcases this with rfl | rfl
    · exact hx
    · exact hy
  · have : i = 0 ∨ i = 1 := by omega
    rcases this with rfl | rfl <;> refine ⟨?_, ?_, ?_, ?_, ?_⟩ <;> (rw [World.cell?_alloc_at _ _ _ _ (by simp [It.cells])]; rfl)

/-- An item that is boxed: its five cells. -/
def Boxed (W : World) (b : Nat) (z : It) : Prop :=
  W.cell? ⟨b, 0, none⟩ = some (.int .u8 z.kind) ∧ W.cell? ⟨b, 1, none⟩ = some (.int .i64 z.int) ∧ W.cell? ⟨b, 2, none⟩ = some (.int .u64 z.uint) ∧
    W.cell? ⟨b, 3, none⟩ = some (.string z.text) ∧ W.cell? ⟨b, 4, none⟩ = some (.bool z.down)
theorem Boxed.below {W W' : World} {b : Nat} {z : It} (h : Boxed W b z) (hl : b < W.heap.size) (hb : Below W.heap.size W W') : Boxed W' b z :=
  ⟨(hb.cell hl).trans h.1, (hb.cell hl).trans h.2.1, (hb.cell hl).trans h.2.2.1, (hb.cell hl).trans h.2.2.2.1, (hb.cell hl).trans h.2.2.2.2⟩
theorem boxed_new (w : World) (z : It) (t : TypeId) : Boxed (w.alloc (.cells z.cells t)) w.heap.size z := by
  refine ⟨?_, ?_, ?_, ?_, ?_⟩ <;> (rw [World.cell?_alloc_at _ _ _ _ (by simp [It.cells])]; rfl)
theorem boxed_two (w : World) (x y : It) (t : TypeId) : ∀ W, Below ((w.alloc (.cells x.cells t)).alloc (.cells y.cells t)).heap.size ((w.alloc (.cells x.cells t)).alloc (.cells y.cells t)) W → Boxed W w.heap.size x ∧ Boxed W (w.heap.size + 1) y := fun W hW => by
  have h1 := boxed_new w x t
  have h2 := boxed_new (w.alloc (.cells x.cells t)) y t
  have e : (w.alloc (.cells x.cells t)).heap.size = w.heap.size + 1 := by simp
  rw [e] at h2
  exact ⟨(h1.below (by simp) ((Below.refl _ _).alloc (Nat.le_refl _) _)).below (by simp; omega) hW, h2.below (by simp) hW⟩

set_option maxRecDepth 100000 in
set_option maxHeartbeats 4000000 in
theorem keysFirst_of (hE : EncOK) (x y : It) (hx : x.ok) (hxt : x.text.size ≤ maxLen) (hy : y.ok) (hyt : y.text.size ≤ maxLen) (w : World) :
    Calls Tryd.prog 7 #[.agg x.cells, .agg y.cells] w fun e w' => e = .returned (.bool true) ∧ Below w.heap.size w w' := by
  have haw := Lib.hid (keysAwake_any hE)
  have hfew := Lib.hid (fun (W : World) c h => few_any (some ⟨W.heap.size, 0, none⟩) 2 2 [x, y] (by decide) c h)
  have hlit := Lib.hid (fun W => items_lit2 W x y hx hy)
  have hbox := Lib.hid (boxed_two w x y 36)
  cases h1 : fewB [x, y] with
  | false =>
    rw [h1] at hfew
    clear h1
    go_enter Tryd.func7, Tryd.ntmps7
    unfold It.cells
    go_upto_region 2 with (first
      | (go_at_call 8; refine (haw.out _).mono ?_; rintro e w1 ⟨rfl, hb1⟩; obtain ⟨⟨c0, c1, c2, c3, c4⟩, ⟨d0, d1, d2, d3, d4⟩⟩ := hbox.out w1 hb1)
      | (go_at_call 9; refine (hfew.out w1 _ (hlit.out w1)).mono ?_; rintro e w' ⟨rfl, rfl⟩))
    have B1 := Lib.hid (((Below.refl w.heap.size w).alloc (Nat.le_refl _) (.cells x.cells 36)).alloc (by simp) (.cells y.cells 36) |>.trans (hb1.mono (by simp; omega)))
    go_wp2_with (go_at_call 8; refine (haw.out _).mono ?_; rintro e w2 ⟨rfl, hb2⟩)
    go_ret
    exact ⟨rfl, (B1.out.alloc B1.out.size _).trans (hb2.mono (by have := B1.out.size; simp; omega))⟩
  | true =>
    rw [h1] at hfew
    have sxy : sane [x.item, y.item] := items_sane (zs := [x, y]) (fun i hi => by
      have : i = 0 ∨ i = 1 := by simp at hi; omega
      rcases this with rfl | rfl
      · exact hx
      · exact hy) h1
    have sx : sane [x.item] := ⟨fun u hu => sxy.1 u (by simp at hu; simp [hu]), Nat.le_of_ble_eq_true rfl⟩
    have sy : sane [y.item] := ⟨fun u hu => sxy.1 u (by simp at hu; simp [hu]), Nat.le_of_ble_eq_true rfl⟩
    have hvx := Lib.hid (fun W => value_any x W hx.1)
    have hvy := Lib.hid (fun W => value_any y W hy.1)
    have henx := Lib.hid (fun v W h => hE v [x.item] W h sx)
    have heny := Lib.hid (fun v W h => hE v [y.item] W h sy)
    have hfirst := @encI_first x.item y.item (It.item_ok hx) (It.item_ok hy)
    have e1 : encL [x.item] = encI x.item := by simp [encL]
    have e2 : encL [y.item] = encI y.item := by simp [encL]
    rw [e1] at henx
    rw [e2] at heny
    obtain ⟨X, hX⟩ : ∃ X : ByteArray, X = ⟨(encI x.item).toArray⟩ := ⟨_, rfl⟩
    obtain ⟨Y, hY⟩ : ∃ Y : ByteArray, Y = ⟨(encI y.item).toArray⟩ := ⟨_, rfl⟩
    rw [← hX] at henx
    rw [← hY] at heny
    have hXl : X.toList = encI x.item := by rw [hX, Lib.toList_data]
    have hYl : Y.toList = encI y.item := by rw [hY, Lib.toList_data]
    rw [← hXl, ← hYl] at hfirst
    obtain ⟨ux, hux⟩ : ∃ u, u = anyI x.item := ⟨_, rfl⟩
    obtain ⟨uy, huy⟩ : ∃ u, u = anyI y.item := ⟨_, rfl⟩
    have ox : ux.oneCell' = true := by rw [hux]; exact anyI_one _
    have oy : uy.oneCell' = true := by rw [huy]; exact anyI_one _
    rw [← hux] at hvx
    rw [← huy] at hvy
    simp only [List.map_cons, List.map_nil, ← hux] at henx
    simp only [List.map_cons, List.map_nil, ← huy] at heny
    have HF := Lib.hid hfirst
    clear h1 sxy sx sy e1 e2 hX hY hXl hYl hux huy hfirst hE hxt hyt
    go_enter Tryd.func7, Tryd.ntmps7
    unfold It.cells
    go_upto_region 3 with (first
      | (go_at_call 8; refine (haw.out _).mono ?_; rintro e w1 ⟨rfl, hb1⟩; obtain ⟨⟨c0, c1, c2, c3, c4⟩, ⟨d0, d1, d2, d3, d4⟩⟩ := hbox.out w1 hb1)
      | (go_at_call 9; refine (hfew.out w1 _ (hlit.out w1)).mono ?_; rintro e w' ⟨rfl, rfl⟩))
    have B1 := Lib.hid (((Below.refl w.heap.size w).alloc (Nat.le_refl _) (.cells x.cells 36)).alloc (by simp) (.cells y.cells 36) |>.trans (hb1.mono (by simp; omega)))
    have hs1 : w.heap.size + 2 ≤ w1.heap.size := by have := hb1.size; simpa using this
    have hx2 : Boxed (w1.alloc (.cells (x.cells ++ y.cells) 36)) w.heap.size x := Boxed.below ⟨c0, c1, c2, c3, c4⟩ (by omega) ((Below.refl _ _).alloc (Nat.le_refl _) _)
    have hy2 : Boxed (w1.alloc (.cells (x.cells ++ y.cells) 36)) (w.heap.size + 1) y := Boxed.below ⟨d0, d1, d2, d3, d4⟩ (by omega) ((Below.refl _ _).alloc (Nat.le_refl _) _)
    have B2 := Lib.hid (B1.out.alloc B1.out.size (.cells (x.cells ++ y.cells) 36))
    have hs2 : w.heap.size + 2 ≤ (w1.alloc (.cells (x.cells ++ y.cells) 36)).heap.size := by simp; omega
    clear c0 c1 c2 c3 c4 d0 d1 d2 d3 d4 hb1 hbox hlit hfew B1
    obtain ⟨w2, hw2⟩ : ∃ w2, w2 = w1.alloc (.cells (x.cells ++ y.cells) 36) := ⟨_, rfl⟩
    rw [← hw2] at hx2 hy2 B2 hs2
    rw [← hw2]
    clear hw2 hs1
    obtain ⟨c0, c1, c2, c3, c4⟩ := hx2
    have HY2 := Lib.hid hy2
    clear hy2
    go_upto_region 4 with (first
      | (go_at_call 14; refine (hvx.out _).mono ?_; rintro e w3 ⟨rfl, hb3⟩)
      | (refine wpList_plain rfl fun K hK => wp_buildSlice_one 28 20 _ rfl .nilIface ux rfl Tryd.underlying28 anyinfo2 rfl ox ?_; go_simp)
      | (go_at_call 10; refine (henx.out _ _ (anys_lit1 _ _)).mono ?_; rintro e w4 ⟨rfl, hb4⟩))
    have B4 := Lib.hid ((B2.out.trans (hb3.mono B2.out.size)).alloc (Nat.le_trans B2.out.size hb3.size) (.cells #[ux] 20) |>.trans (hb4.mono (by have := B2.out.size; have := hb3.size; simp; omega)))
    have hs3 := hb3.size
    obtain ⟨d0, d1, d2, d3, d4⟩ := ((HY2.out.below (by omega) hb3).below (by omega) ((Below.refl _ _).alloc (Nat.le_refl _) (.cells #[ux] 20))).below (by simp; omega) hb4
    clear c0 c1 c2 c3 c4 hb3 hb4 hs2 hs3 HY2
    go_upto_region 5 with (first
      | (go_at_call 14; refine (hvy.out _).mono ?_; rintro e w5 ⟨rfl, hb5⟩)
      | (refine wpList_plain rfl fun K hK => wp_buildSlice_one 28 20 _ rfl .nilIface uy rfl Tryd.underlying28 anyinfo2 rfl oy ?_; go_simp)
      | (go_at_call 10; refine (heny.out _ _ (anys_lit1 _ _)).mono ?_; rintro e w6 ⟨rfl, hb6⟩))
    have B6 := Lib.hid ((B4.out.trans (hb5.mono B4.out.size)).alloc (Nat.le_trans B4.out.size hb5.size) (.cells #[uy] 20) |>.trans (hb6.mono (by have := B4.out.size; have := hb5.size; simp; omega)))
    clear d0 d1 d2 d3 d4 hb5 hb6
    by_cases hXY : X.toList = Y.toList
    · have hb : (X.toList == Y.toList) = true := by rw [beq_iff_eq]; exact hXY
      clear hXY
      go_wp2_with fail
      go_ret
      exact ⟨rfl, B6.out⟩
    · have hb : (X.toList == Y.toList) = false := by rw [beq_eq_false_iff_ne]; exact hXY
      have hf := HF.out hXY
      clear hXY
      by_cases hl : Y.size < X.size
      · have hlz : (Y.size : Int) < (X.size : Int) := by omega
        clear hf hl
        go_wp2_with fail
        go_ret
        exact ⟨rfl, B6.out⟩
      · have hlz : (X.size : Int) ≤ (Y.size : Int) := by omega
        have hex : (Y.extract 0 X.size).toList = Y.toList.take X.toList.length := by
          rw [Lib.toList_data, Lib.toList_data, Lib.toList_data, ← Lib.size_eq, ByteArray.data_extract, Array.toList_extract, List.extract_eq_drop_take']
          simp
        have hne : ((Y.extract 0 X.size).toList == X.toList) = false := by rw [beq_eq_false_iff_ne, hex]; exact hf
        have hne2 := Lib.hid hne
        clear hf hl hex hne
        go_wp2_with fail
        go_ret
        exact ⟨congrArg (fun b => Ending.returned (.bool b)) (show (decide (Y.size < X.size) || !((Y.extract 0 X.size).toList == X.toList)) = true by rw [hne2.out]; simp), B6.out⟩
end Go.Proofs.YtnjbeemahfoaiaaDoor
