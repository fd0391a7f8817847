/-
  The walk of the document's Compare: tuples.
-/
import Derived.Test.YtnjbeemahfoaiaaDoorKeyCompare
import Derived.Test.YtnjbeemahfoaiaaDoorKeyItems
import Derived.Test.YtnjbeemahfoaiaaDoorClass
import Derived.Deep.LoopGhost
import Derived.Deep.DeepCutAuto
import Derived.Deep.CutBlock
namespace Go.Proofs.YtnjbeemahfoaiaaDoor
open Go.RowKit
set_option linter.unnecessarySimpa false
set_option linter.unusedVariables false
set_option linter.unusedSimpArgs false
set_option maxRecDepth 100000

def items (zs : List It) : List (KV × Bool) := zs.map It.item
theorem drop_item {zs : List It} {i : Nat} (h : i < zs.length) : (items zs).drop i = (zs.getD i it0).item :: (items zs).drop (i + 1) := by
  have e : zs.getD i it0 = zs[i] := by simp [List.getD, h]
  rw [e]
  unfold items
  rw [List.drop_eq_getElem_cons (by simpa using h)]
  simp
theorem cmpL_step {xs ys : List It} {i : Nat} (h1 : i < xs.length) (h2 : i < ys.length) :
    cmpL ((items xs).drop i) ((items ys).drop i) = if cmpI (xs.getD i it0).item (ys.getD i it0).item = 0 then cmpL ((items xs).drop (i + 1)) ((items ys).drop (i + 1)) else cmpI (xs.getD i it0).item (ys.getD i it0).item := by
  rw [drop_item h1, drop_item h2]; rfl
theorem cmpL_end {xs ys : List It} {i : Nat} (h : i ≤ xs.length) (h' : i ≤ ys.length) (he : ¬ (i < xs.length ∧ i < ys.length)) :
    cmpL ((items xs).drop i) ((items ys).drop i) = sgn (decide (xs.length < ys.length)) (decide (ys.length < xs.length)) := by
  have l1 : (items xs).length = xs.length := by simp [items]
  have l2 : (items ys).length = ys.length := by simp [items]
  by_cases h1 : i < xs.length
  · have e : i = ys.length := by omega
    rw [drop_item h1, List.drop_eq_nil_of_le (show (items ys).length ≤ i by omega), decide_eq_false (by omega), decide_eq_true (by omega)]; rfl
  · rw [List.drop_eq_nil_of_le (show (items xs).length ≤ i by omega)]
    by_cases h2 : i < ys.length
    · rw [drop_item h2, decide_eq_true (by omega)]; rfl
    · rw [List.drop_eq_nil_of_le (show (items ys).length ≤ i by omega), decide_eq_false (by omega), decide_eq_false (by omega)]; rfl

set_option maxRecDepth 100000 in
set_option maxHeartbeats 4000000 in
theorem compareAll_any (a : Option Addr) (len cap : Nat) (xs : List It) (a' : Option Addr) (len' cap' : Nat) (ys : List It) (hl : len ≤ 1000) (hl' : len' ≤ 1000) (w : World) (hx : ItemsAt w a len xs) (hy : ItemsAt w a' len' ys) :
    Calls Tryd.prog 15 #[.slice a len cap, .slice a' len' cap'] w fun e w' => e = .returned (.int .i64 (cmpL (items xs) (items ys))) ∧ Below w.heap.size w w' := by
  have HX := Lib.hid hx
  have HY := Lib.hid hy
  clear hx hy
  go_enter Tryd.func15, Tryd.ntmps15
  go_wp2_with fail
  go_loopg [5] len (fun g s5 wx => ∃ i : Nat, i + g = len ∧ i ≤ len' ∧ s5 = .int .i64 i ∧ Below w.heap.size w wx ∧ Hid (cmpL (items xs) (items ys) = cmpL ((items xs).drop i) ((items ys).drop i)))
  case atStart => exact ⟨0, by omega, by omega, rfl, Below.refl _ _, Lib.hid rfl⟩
  case round =>
    obtain ⟨i, hig, hi', rfl, hb, heq⟩ := hrel
    have LX := Lib.hid HX.out.1
    have LY := Lib.hid HY.out.1
    by_cases h1 : i < len
    · by_cases h2 : i < len'
      · have h1z : (i : Int) < (len : Int) := by omega
        have h2z : (i : Int) < (len' : Int) := by omega
        obtain ⟨b, off, rfl, hbl, hok, c0, c1, c2, c3, c4⟩ := (HX.out.below hb).2 i h1
        obtain ⟨b', off', rfl, hbl', hok', c0', c1', c2', c3', c4'⟩ := (HY.out.below hb).2 i h2
        have hst := Lib.hid (cmpL_step (xs := xs) (ys := ys) (i := i) (by have := LX.out; omega) (by have := LY.out; omega))
        obtain ⟨z, ez⟩ : ∃ z, z = xs.getD i it0 := ⟨_, rfl⟩
        obtain ⟨z', ez'⟩ : ∃ z', z' = ys.getD i it0 := ⟨_, rfl⟩
        rw [← ez] at hok c0 c1 c2 c3 c4 hst
        rw [← ez'] at hok' c0' c1' c2' c3' c4' hst
        have hcm := Lib.hid (compare_any z z' hok hok')
        have hC : ∀ x : Like wr.heap.size wr, ItemAt x.val b (off + i * 5) z ∧ ItemAt x.val b' (off' + i * 5) z' := fun x => ⟨⟨(x.below.cell hbl).trans c0, (x.below.cell hbl).trans c1, (x.below.cell hbl).trans c2, (x.below.cell hbl).trans c3, (x.below.cell hbl).trans c4⟩,
          ⟨(x.below.cell hbl').trans c0', (x.below.cell hbl').trans c1', (x.below.cell hbl').trans c2', (x.below.cell hbl').trans c3', (x.below.cell hbl').trans c4'⟩⟩
        have d0 := fun x => (hC x).1.1
        have d1 := fun x => (hC x).1.2.1
        have d2 := fun x => (hC x).1.2.2.1
        have d3 := fun x => (hC x).1.2.2.2.1
        have d4 := fun x => (hC x).1.2.2.2.2
        have d0' := fun x => (hC x).2.1
        have d1' := fun x => (hC x).2.2.1
        have d2' := fun x => (hC x).2.2.2.1
        have d3' := fun x => (hC x).2.2.2.2.1
        have d4' := fun x => (hC x).2.2.2.2.2
        have HB := Lib.hid hb
        clear hC c0 c1 c2 c3 c4 c0' c1' c2' c3' c4' ez ez' hok hok' hb
        obtain ⟨c, hc⟩ : ∃ c, c = cmpI z.item z'.item := ⟨_, rfl⟩
        rw [← hc] at hst hcm
        clear hc
        go_upto_region 4 with fail
        refine region_likes (by kernel_rfl) (by kernel_rfl) ?_
        repeat (go_big_quiet_step ((go_at_call 24; exact calls_likes (Like.size _) (hcm.out _))))
        refine wpQuiet_nil ?_
        intro x
        have hbx := Lib.hid (show Below w.heap.size w x.val from HB.out.trans (x.below.mono HB.out.size))
        obtain ⟨w2, hw2⟩ : ∃ w2, w2 = x.val := ⟨_, rfl⟩
        rw [← hw2] at hbx
        rw [← hw2]
        clear hw2 d0 d1 d2 d3 d4 d0' d1' d2' d3' d4' x
        obtain ⟨g, rfl⟩ : ∃ g, gk = g + 1 := ⟨gk - 1, by omega⟩
        by_cases hc0 : c = 0
        · subst hc0
          go_wp2_with fail
          go_roundg g
          case measure => omega
          case rel => exact ⟨i + 1, by omega, by omega, by simp, hbx.out, Lib.hid (by rw [heq.out, hst.out, if_pos trivial])⟩
        · have hc1 : (c == 0) = false := by rw [beq_eq_false_iff_ne]; exact hc0
          have hres := Lib.hid (show cmpL (items xs) (items ys) = c by rw [heq.out, hst.out, if_neg hc0])
          clear hc0
          go_wp2_with fail
          go_ret
          exact ⟨by rw [hres.out]; rfl, hbx.out⟩
      · have h1z : (i : Int) < (len : Int) := by omega
        have h2z : ¬ (i : Int) < (len' : Int) := by omega
        have hend := Lib.hid (cmpL_end (xs := xs) (ys := ys) (i := i) (by have := LX.out; omega) (by have := LY.out; omega) (by have := LY.out; omega))
        have HB := Lib.hid hb
        clear hb
        go_wp2_with (go_at_call 25; refine (sign_any _ _ _).mono ?_; rintro e w' ⟨rfl, rfl⟩)
        go_ret
        exact ⟨ret_int (by rw [heq.out, hend.out, LX.out, LY.out]), HB.out⟩
    · have h1z : ¬ (i : Int) < (len : Int) := by omega
      have hend := Lib.hid (cmpL_end (xs := xs) (ys := ys) (i := i) (by have := LX.out; omega) (by have := LY.out; omega) (by have := LX.out; omega))
      have HB := Lib.hid hb
      clear hb
      go_wp2_with (go_at_call 25; refine (sign_any _ _ _).mono ?_; rintro e w' ⟨rfl, rfl⟩)
      go_ret
      exact ⟨ret_int (by rw [heq.out, hend.out, LX.out, LY.out]), HB.out⟩
end Go.Proofs.YtnjbeemahfoaiaaDoor
