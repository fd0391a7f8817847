/-
  The walk of the statement KeysOrder: true.
-/
import Derived.Test.YtnjbeemahfoaiaaDoorKeyContracts
import Derived.Test.YtnjbeemahfoaiaaDoorOpenItems
namespace Go.Proofs.YtnjbeemahfoaiaaDoor
open Go.RowKit
set_option linter.unnecessarySimpa false
set_option linter.unusedVariables false
set_option linter.unusedSimpArgs false
set_option maxRecDepth 100000

theorem few_len {zs : List It} (h : fewB zs = true) : zs.length ≤ 12 := by
  unfold fewB at h
  rw [Bool.and_eq_true] at h
  exact of_decide_eq_true h.1
theorem few_text {zs : List It} (h : fewB zs = true) : ∀ i, i < zs.length → (zs.getD i it0).text.size ≤ 100 := fun i hi => by
  unfold fewB at h
  rw [Bool.and_eq_true] at h
  have := of_decide_eq_true (List.all_eq_true.1 h.2 _ (List.getElem_mem hi))
  rw [show zs.getD i it0 = zs[i] by simp [List.getD, hi]]
  exact this
theorem itemsAt_ok {W : World} {a : Option Addr} {len : Nat} {zs : List It} (h : ItemsAt W a len zs) : ∀ i, i < zs.length → (zs.getD i it0).ok := fun i hi => by
  obtain ⟨_, _, _, _, hok, _⟩ := h.2 i (by rw [← h.1]; exact hi)
  exact hok

set_option maxRecDepth 100000 in
set_option maxHeartbeats 4000000 in
theorem keysOrder_of (hE : EncOK) (hC : CmpOK) (a : Option Addr) (len cap : Nat) (xs : List It) (a' : Option Addr) (len' cap' : Nat) (ys : List It) (w : World) (hx : IsItems w a len cap xs) (hy : IsItems w a' len' cap' ys) :
    Calls Tryd.prog 5 #[.slice a len cap, .slice a' len' cap'] w fun e w' => e = .returned (.bool true) ∧ Below w.heap.size w w' := by
  have haw := Lib.hid (keysAwake_any hE)
  have hfx := Lib.hid (fun W h => few_any a len cap xs hx.2 W h)
  have hfy := Lib.hid (fun W h => few_any a' len' cap' ys hy.2 W h)
  have HX := Lib.hid hx.1
  have HY := Lib.hid hy.1
  clear hx hy
  cases h1 : fewB xs with
  | false =>
    rw [h1] at hfx
    clear h1
    go_enter Tryd.func5, Tryd.ntmps5
    go_upto_region 2 with (first
      | (go_at_call 8; refine (haw.out _).mono ?_; rintro e w1 ⟨rfl, hb1⟩)
      | (go_at_call 9; refine (hfx.out _ (HX.out.below hb1)).mono ?_; rintro e w' ⟨rfl, rfl⟩))
    go_wp2_with (go_at_call 8; refine (haw.out _).mono ?_; rintro e w2 ⟨rfl, hb2⟩)
    go_ret
    exact ⟨rfl, hb1.trans (hb2.mono hb1.size)⟩
  | true =>
    cases h2 : fewB ys with
    | false =>
      rw [h1] at hfx
      rw [h2] at hfy
      clear h1 h2
      go_enter Tryd.func5, Tryd.ntmps5
      go_upto_region 2 with (first
        | (go_at_call 8; refine (haw.out _).mono ?_; rintro e w1 ⟨rfl, hb1⟩)
        | (go_at_call 9; with_reducible refine (hfx.out _ (HX.out.below hb1)).mono ?_; rintro e w' ⟨rfl, rfl⟩)
        | (go_at_call 9; with_reducible refine (hfy.out _ (HY.out.below hb1)).mono ?_; rintro e w' ⟨rfl, rfl⟩))
      go_wp2_with (go_at_call 8; refine (haw.out _).mono ?_; rintro e w2 ⟨rfl, hb2⟩)
      go_ret
      exact ⟨rfl, hb1.trans (hb2.mono hb1.size)⟩
    | true =>
      have sx := items_sane (itemsAt_ok HX.out) h1
      have sy := items_sane (itemsAt_ok HY.out) h2
      have l1 := few_len h1
      have l2 := few_len h2
      have e1 := HX.out.1
      have e2 := HY.out.1
      have hord := cmpL_order (fun x hx => (sx.1 x hx).1) (fun x hx => (sy.1 x hx).1)
      have hcmp := Lib.hid (fun W h h' => compareAll_any a len cap xs a' len' cap' ys (by omega) (by omega) W h h')
      have hallx := Lib.hid (fun W h => all_any a len cap xs (by omega) W h)
      have hally := Lib.hid (fun W h => all_any a' len' cap' ys (by omega) W h)
      rw [anys_items] at hallx hally
      have henx := Lib.hid (fun v W h => hE v (items xs) W h sx)
      have heny := Lib.hid (fun v W h => hE v (items ys) W h sy)
      have hcc := Lib.hid (fun v v' W h h' => hC v v' (items xs) (items ys) W h h' sx sy)
      obtain ⟨c, hc⟩ : ∃ c, c = cmpL (items xs) (items ys) := ⟨_, rfl⟩
      obtain ⟨X, hX⟩ : ∃ X : ByteArray, X = ⟨(encL (items xs)).toArray⟩ := ⟨_, rfl⟩
      obtain ⟨Y, hY⟩ : ∃ Y : ByteArray, Y = ⟨(encL (items ys)).toArray⟩ := ⟨_, rfl⟩
      rw [← hX] at henx
      rw [← hY] at heny
      rw [← hc] at hcmp hcc hord
      have hXl : X.toList = encL (items xs) := by rw [hX, Lib.toList_data]
      have hYl : Y.toList = encL (items ys) := by rw [hY, Lib.toList_data]
      rw [← hXl, ← hYl] at hord
      have hlt := hord.1
      have heq := hord.2
      rw [h1] at hfx
      rw [h2] at hfy
      clear h1 h2 sx sy hord hX hY hXl hYl hc e1 e2 l1 l2 hE hC
      go_enter Tryd.func5, Tryd.ntmps5
      go_upto_region 3 with (first
        | (go_at_call 8; refine (haw.out _).mono ?_; rintro e w1 ⟨rfl, hb1⟩)
        | (go_at_call 9; with_reducible refine (hfx.out _ (HX.out.below hb1)).mono ?_; rintro e w' ⟨rfl, rfl⟩)
        | (go_at_call 9; with_reducible refine (hfy.out _ (HY.out.below hb1)).mono ?_; rintro e w' ⟨rfl, rfl⟩))
      have X1 := Lib.hid (HX.out.below hb1)
      have Y1 := Lib.hid (HY.out.below hb1)
      have B1 := Lib.hid hb1
      clear hb1
      go_upto_region 4 with (go_at_call 15; refine (hcmp.out _ X1.out Y1.out).mono ?_; rintro e w2 ⟨rfl, hb2⟩)
      have X2 := Lib.hid (X1.out.below hb2)
      have Y2 := Lib.hid (Y1.out.below hb2)
      have B2 := Lib.hid (B1.out.trans (hb2.mono B1.out.size))
      clear hb2
      go_upto_region 5 with (first
        | (go_at_call 11; with_reducible refine (hallx.out _ X2.out).mono ?_; rintro e w3 ⟨v1, rfl, ho1, hb3⟩)
        | (go_at_call 11; with_reducible refine (hally.out _ (Y2.out.below hb3)).mono ?_; rintro e w4 ⟨v2, rfl, ho2, hb4⟩)
        | (go_at_call 16; refine (hcc.out _ _ _ ((anys_own ho1).below hb4) (anys_own ho2)).mono ?_; rintro e w5 ⟨rfl, hb5⟩))
      have X5 := Lib.hid (((X2.out.below hb3).below hb4).below hb5)
      have Y5 := Lib.hid (((Y2.out.below hb3).below hb4).below hb5)
      have B5 := Lib.hid (((B2.out.trans (hb3.mono B2.out.size)).trans (hb4.mono (Nat.le_trans B2.out.size hb3.size))).trans (hb5.mono (Nat.le_trans (Nat.le_trans B2.out.size hb3.size) hb4.size)))
      clear ho1 ho2 hb3 hb4 hb5
      go_upto_region 6 with (first
        | (go_at_call 11; with_reducible refine (hallx.out _ X5.out).mono ?_; rintro e w6 ⟨v3, rfl, ho3, hb6⟩)
        | (go_at_call 10; refine (henx.out _ _ (anys_own ho3)).mono ?_; rintro e w7 ⟨rfl, hb7⟩))
      have Y7 := Lib.hid ((Y5.out.below hb6).below hb7)
      have B7 := Lib.hid ((B5.out.trans (hb6.mono B5.out.size)).trans (hb7.mono (Nat.le_trans B5.out.size hb6.size)))
      clear ho3 hb6 hb7
      go_upto_region 7 with (first
        | (go_at_call 11; with_reducible refine (hally.out _ Y7.out).mono ?_; rintro e w8 ⟨v4, rfl, ho4, hb8⟩)
        | (go_at_call 10; refine (heny.out _ _ (anys_own ho4)).mono ?_; rintro e w9 ⟨rfl, hb9⟩))
      have B9 := Lib.hid ((B7.out.trans (hb8.mono B7.out.size)).trans (hb9.mono (Nat.le_trans B7.out.size hb8.size)))
      clear ho4 hb8 hb9
      go_wp2_with fail
      go_ret
      exact ⟨congrArg (fun b => Ending.returned (.bool b)) (show (decide (c = 0) == (c == 0)) = true by by_cases h : c = 0 <;> simp [h]), B9.out⟩
end Go.Proofs.YtnjbeemahfoaiaaDoor
