/-
  The walk of the statement KeysEncodes: true.
-/
import Derived.Test.YtnjbeemahfoaiaaDoorKeysOrder
import Derived.Test.YtnjbeemahfoaiaaDoorKeyNeq
namespace Go.Proofs.YtnjbeemahfoaiaaDoor
open Go.RowKit
set_option linter.unnecessarySimpa false
set_option linter.unusedVariables false
set_option linter.unusedSimpArgs false
set_option maxRecDepth 100000

theorem items_get {zs : List It} {i : Nat} (h : i < zs.length) : ((items zs).map anyI).getD i .nilIface = anyI (zs.getD i it0).item := by
  simp [items, List.getD, h]

theorem encL_sane {xs : List (KV × Bool)} (h : sane xs) (hl : xs.length ≤ 12) : (encL xs).length ≤ 60000 := by
  have key : ∀ (l : List (KV × Bool)), (∀ x ∈ l, (encI x).length ≤ 5000) → (encL l).length ≤ 5000 * l.length := by
    intro l
    induction l with
    | nil => intro _; simp [encL]
    | cons x l ih =>
      intro hx
      have h1 := hx x (List.mem_cons_self ..)
      have h2 := ih fun y hy => hx y (List.mem_cons_of_mem _ hy)
      rw [encL_cons, List.length_append, List.length_cons]
      omega
  have := key xs fun x hx => (h.1 x hx).2
  omega
/-- A tuple's bytes, decoded. -/
theorem decoded {xs : List (KV × Bool)} (h : sane xs) {e : Ending} {W W' : World} (hd : Below W.heap.size W W' ∧
    ((∃ v ys, (∀ x ∈ ys, x.1.ok) ∧ (⟨(encL xs).toArray⟩ : ByteArray).data.toList = encL ys ∧ e = .returned (.tuple #[v, .int .i64 0]) ∧ AnysAt W' v (ys.map anyI)) ∨
     ((∀ ys, (∀ x ∈ ys, x.1.ok) → (⟨(encL xs).toArray⟩ : ByteArray).data.toList ≠ encL ys) ∧ ∃ a cap, e = .returned (.tuple #[.slice a 0 cap, .int .i64 2])))) :
    Below W.heap.size W W' ∧ ∃ a cap, e = .returned (.tuple #[.slice a xs.length cap, .int .i64 0]) ∧ AnysAt W' (.slice a xs.length cap) (xs.map anyI) := by
  refine ⟨hd.1, ?_⟩
  rcases hd.2 with ⟨v, ys, hok, hb, he, hat⟩ | ⟨hno, _⟩
  · have hxy : xs = ys := encL_inj (fun x hx => (h.1 x hx).1) hok hb
    subst hxy
    obtain ⟨a, len, cap, rfl, hl, hc⟩ := hat
    obtain rfl : len = xs.length := by rw [hl, List.length_map]
    exact ⟨a, cap, he, ⟨a, _, cap, rfl, hl, hc⟩⟩
  · exact absurd rfl (hno xs fun x hx => (h.1 x hx).1)

set_option maxRecDepth 100000 in
set_option maxHeartbeats 4000000 in
theorem keysEncodes_of (hE : EncOK) (hD : DecOK) (a : Option Addr) (len cap : Nat) (xs : List It) (w : World) (hx : IsItems w a len cap xs) :
    Calls Tryd.prog 3 #[.slice a len cap] w fun e w' => e = .returned (.bool true) ∧ Below w.heap.size w w' := by
  have haw := Lib.hid (keysAwake_any hE)
  have hfx := Lib.hid (fun W h => few_any a len cap xs hx.2 W h)
  have HX := Lib.hid hx.1
  clear hx
  cases h1 : fewB xs with
  | false =>
    rw [h1] at hfx
    clear h1
    go_enter Tryd.func3, Tryd.ntmps3
    go_upto_region 2 with (first
      | (go_at_call 8; refine (haw.out _).mono ?_; rintro e w1 ⟨rfl, hb1⟩)
      | (go_at_call 9; refine (hfx.out _ (HX.out.below hb1)).mono ?_; rintro e w' ⟨rfl, rfl⟩))
    go_wp2_with (go_at_call 8; refine (haw.out _).mono ?_; rintro e w2 ⟨rfl, hb2⟩)
    go_ret
    exact ⟨rfl, hb1.trans (hb2.mono hb1.size)⟩
  | true =>
    have hok := itemsAt_ok HX.out
    have sx := items_sane hok h1
    have l1 := few_len h1
    have t1 := few_text h1
    have e1 := HX.out.1
    have hallx := Lib.hid (fun W h => all_any a len cap xs (by omega) W h)
    rw [anys_items] at hallx
    have henx := Lib.hid (fun v W h => hE v (items xs) W h sx)
    have hren := Lib.hid (fun W h => refEncode_any a len cap xs (by omega) (fun i hi => Nat.le_trans (t1 i (by omega)) (by decide)) W h)
    have hXs : (⟨(encL (items xs)).toArray⟩ : ByteArray).size ≤ 60000 := by
      show (encL (items xs)).toArray.size ≤ 60000
      rw [List.size_toArray]
      exact encL_sane sx (by unfold items; rw [List.length_map]; exact l1)
    have hdec := Lib.hid (fun W => (hD ⟨(encL (items xs)).toArray⟩ W hXs).mono fun e w' h => decoded sx h)
    have hil : (items xs).length = len := by unfold items; rw [List.length_map, e1]
    simp only [hil] at hdec
    obtain ⟨X, hX⟩ : ∃ X : ByteArray, X = ⟨(encL (items xs)).toArray⟩ := ⟨_, rfl⟩
    rw [← hX] at henx hren hdec
    rw [h1] at hfx
    have hlen12 : len ≤ 12 := by omega
    have HOK := Lib.hid hok
    have HLN := Lib.hid e1
    clear h1 hX hXs hil sx l1 t1 e1 hok hE hD
    go_enter Tryd.func3, Tryd.ntmps3
    go_upto_region 3 with (first
      | (go_at_call 8; refine (haw.out _).mono ?_; rintro e w1 ⟨rfl, hb1⟩)
      | (go_at_call 9; refine (hfx.out _ (HX.out.below hb1)).mono ?_; rintro e w' ⟨rfl, rfl⟩))
    have X1 := Lib.hid (HX.out.below hb1)
    have B1 := Lib.hid hb1
    clear hb1
    go_upto_region 4 with (first
      | (go_at_call 11; refine (hallx.out _ X1.out).mono ?_; rintro e w2 ⟨v1, rfl, ho2, hb2⟩)
      | (go_at_call 10; refine (henx.out _ _ (anys_own ho2)).mono ?_; rintro e w3 ⟨rfl, hb3⟩))
    have X3 := Lib.hid ((X1.out.below hb2).below hb3)
    have B3 := Lib.hid ((B1.out.trans (hb2.mono B1.out.size)).trans (hb3.mono (Nat.le_trans B1.out.size hb2.size)))
    clear ho2 hb2 hb3
    go_upto_region 5 with (go_at_call 12; refine (hdec.out _).mono ?_; rintro e w4 ⟨hb4, a4, cap4, rfl, hat⟩)
    have X4 := Lib.hid (X3.out.below hb4)
    have B4 := Lib.hid (B3.out.trans (hb4.mono B3.out.size))
    have HA := Lib.hid hat
    clear hb4 hat
    go_upto_region 7 with (go_at_call 13; refine (hren.out _ X4.out).mono ?_; rintro e w5 ⟨rfl, hb5⟩)
    have X5 := Lib.hid (X4.out.below hb5)
    have B5 := Lib.hid (B4.out.trans (hb5.mono B4.out.size))
    have A5 := Lib.hid (HA.out.below hb5)
    clear hb5 HA
    go_wp2_with fail
    go_loopg [7] len (fun g s7 wx => ∃ i : Nat, i + g = len ∧ s7 = .int .i64 i ∧ Hid (Below w5.heap.size w5 wx))
    case atStart => exact ⟨0, by omega, rfl, Lib.hid (Below.refl _ _)⟩
    case round =>
      obtain ⟨i, hig, rfl, hb⟩ := hrel
      by_cases hlt : i < len
      · obtain ⟨g, rfl⟩ : ∃ g, gk = g + 1 := ⟨gk - 1, by omega⟩
        have hiz : (i : Int) < (len : Int) := by omega
        obtain ⟨b, off, rfl, hbl, hokz, c0, c1, c2, c3, c4⟩ := (X5.out.below hb.out).2 i hlt
        obtain ⟨a6, len6, cap6, heq6, hl6, hc6⟩ := A5.out.below hb.out
        injection heq6 with q1 q2 q3
        subst q1 q2 q3
        obtain ⟨b', off', rfl, hbl', d0⟩ := hc6 i hlt
        rw [items_get (by have := HLN.out; omega)] at d0
        obtain ⟨z, ez⟩ : ∃ z, z = xs.getD i it0 := ⟨_, rfl⟩
        rw [← ez] at hokz c0 c1 c2 c3 c4 d0
        have hval := Lib.hid (fun w => value_any z w hokz.1)
        obtain ⟨u, hu⟩ : ∃ u, u = anyI z.item := ⟨_, rfl⟩
        rw [← hu] at d0 hval
        have HU := Lib.hid hu
        have f0 : ∀ x : Like wr.heap.size wr, x.val.cell? ⟨b, off + i * 5, none⟩ = some (.int .u8 z.kind) := fun x => (x.below.cell hbl).trans c0
        have f1 : ∀ x : Like wr.heap.size wr, x.val.cell? ⟨b, off + i * 5 + 1, none⟩ = some (.int .i64 z.int) := fun x => (x.below.cell hbl).trans c1
        have f2 : ∀ x : Like wr.heap.size wr, x.val.cell? ⟨b, off + i * 5 + 2, none⟩ = some (.int .u64 z.uint) := fun x => (x.below.cell hbl).trans c2
        have f3 : ∀ x : Like wr.heap.size wr, x.val.cell? ⟨b, off + i * 5 + 3, none⟩ = some (.string z.text) := fun x => (x.below.cell hbl).trans c3
        have f4 : ∀ x : Like wr.heap.size wr, x.val.cell? ⟨b, off + i * 5 + 4, none⟩ = some (.bool z.down) := fun x => (x.below.cell hbl).trans c4
        have g0 : ∀ x : Like wr.heap.size wr, x.val.cell? ⟨b', off' + i, none⟩ = some u := fun x => (x.below.cell hbl').trans d0
        clear c0 c1 c2 c3 c4 d0 hu ez hokz hc6 hl6
        go_upto_region 10 with fail
        refine region_likes (by kernel_rfl) (by kernel_rfl) ?_
        repeat (first
          | (go_big_quiet_want; refine quiet_neq_any _ _ rfl z.item u HU.out rfl rfl ?_; go_simp; go_big_quiet_on)
          | (go_big_quiet_step ((go_at_call 14; exact calls_likes (Like.size _) (hval.out _)))))
        refine wpQuiet_nil ?_
        intro x
        have hbx := Lib.hid (show Below w5.heap.size w5 x.val from hb.out.trans (x.below.mono hb.out.size))
        go_wp2_with fail
        go_roundg g
        case measure => omega
        case rel => exact ⟨i + 1, by omega, by simp, hbx⟩
      · have hiz : ¬ (i : Int) < (len : Int) := by omega
        go_wp2_with fail
        go_ret
        exact ⟨rfl, B5.out.trans (hb.out.mono B5.out.size)⟩
end Go.Proofs.YtnjbeemahfoaiaaDoor
