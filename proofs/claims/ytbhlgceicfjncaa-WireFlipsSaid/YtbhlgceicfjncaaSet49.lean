/-
  WireFlips: what was flipped once isn't taken; flipped back it is.
-/
import Derived.Test.YtbhlgceicfjncaaSet48
import Derived.Test.YtbhlgceicfjncaaSet40
import Derived.OpenShut
namespace Go.Proofs.Ytbhlgceicfjncaa
open Go.RowKit
set_option linter.unusedVariables false
set_option linter.unnecessarySimpa false
set_option linter.unusedSimpArgs false
set_option maxRecDepth 100000

set_option maxHeartbeats 8000000 in
theorem wireFlips_few (m : Mg) (sl : Value) (hm : MsgIn m) (hfew : ¬ FewP m) (a1 : Int) (back : Bool) (w : World) (hws : WsAt w sl m.ws) :
    Calls Try.prog 4 #[.agg (m.cells sl), .int .u16 a1, .bool back] w (AllTrue w) := by
  have HAW := Lib.hid (fun W => wawake_any W)
  have HF := Lib.hid (fun W h => few_no hm sl hfew W h)
  have HWS := Lib.hid hws
  obtain ⟨C, hC⟩ : ∃ C, C = m.cells sl := ⟨_, rfl⟩
  rw [← hC] at HF
  rw [← hC]
  have hcs := Lib.hid (show (Try.prog.info? 38).map (·.size) = some C.size by rw [hC]; exact msg_size)
  clear hC hm hws hfew
  go_enter Try.func4, Try.ntmps4
  go_upto_region 1 with fail
  obtain ⟨W1, hW1⟩ : ∃ W1, W1 = w.alloc (.cells C 38) := ⟨_, rfl⟩
  have HB1 := Lib.hid (show Below w.heap.size w W1 by rw [hW1]; exact (Below.refl _ _).alloc (Nat.le_refl _) _)
  have HR1 := Lib.hid (show W1.heap[w.heap.size]? = some (.cells C 38 (0, 0)) by rw [hW1]; exact heap_alloc_new w _)
  have HZ1 := Lib.hid (show w.heap.size < W1.heap.size by rw [hW1]; simp)
  rw [← hW1]
  clear hW1
  go_upto_region 2 with (first
    | (go_at_call 5; (with_reducible refine (HAW.out _).mono ?_); rintro e w2 ⟨rfl, hb2⟩; have hr2 := (hb2.block w.heap.size HZ1.out).trans HR1.out)
    | (refine wpList_load_row_w rfl 38 _ rfl w.heap.size rfl 38 C (0, 0) _ hr2 Try.underlying38 rfl hcs.out ?_)
    | (go_at_call 8; (with_reducible refine (HF.out _ (HWS.out.below (HB1.out.trans (hb2.mono HB1.out.size)))).mono ?_); rintro e w3 ⟨rfl, hb3⟩))
  go_wp2_with (go_at_call 5; (with_reducible refine (HAW.out _).mono ?_); rintro e w4 ⟨rfl, hb4⟩)
  go_ret
  have b3 := HB1.out.trans ((hb2.trans (hb3.mono hb2.size)).mono HB1.out.size)
  exact ⟨rfl, b3.trans (hb4.mono b3.size)⟩
/-- The law's box. -/
def XF (A : Nat) (C : Array Value) : Nat → Obj → Prop := fun k o => k = A ∧ o = .cells C 38 (0, 0)
theorem neg33 : negB 3 3 = 3 := by decide
theorem cut3 (m : Mg) : cut 3 m = m := by unfold cut; simp
set_option maxHeartbeats 8000000 in
theorem wireFlips_bad (m : Mg) (sl : Value) (hm : MsgIn m) (hfew : FewP m) (n : Nat) (back : Bool) (w : World) (hws : WsAt w sl m.ws) (hp : ¬ (projB 3 m).2 = 0) :
    Calls Try.prog 4 #[.agg (m.cells sl), .int .u16 (n : Int), .bool back] w (AllTrue w) := by
  have HAW := Lib.hid (fun W => wawake_any W)
  have HF := Lib.hid (fun W h => few_yes hm sl hfew W h)
  have HWS := Lib.hid hws
  have HMK := Lib.hid (fun W => make_any W)
  have HNW := Lib.hid (fun W => net_new W)
  have HPU := Lib.hid (fun (W : World) g X (h : WPl w X g [] [] (.slice none 0 0) W) => wpl_put h (by decide) m sl hm.fits hfew.few (hws.below h.below) 3 3 ⟨by decide, by decide⟩ ⟨by decide, by decide⟩)
  rw [neg33] at HPU
  have hpj : putJ [] m sl 3 3 = [] := by unfold putJ; rw [neg33, if_neg hp]
  rw [hpj] at HPU
  have HLE := Lib.hid (fun (W : World) g X (h : WPl w X g [] [] (.slice none 0 0) W) => wpl_len h)
  obtain ⟨E, hE⟩ : ∃ E, E = (projB 3 m).2 := ⟨_, rfl⟩
  rw [← hE] at HPU hp
  have e1 : (E != 0) = true := by rw [bne_iff_ne]; exact hp
  have e2 : (E == 0) = false := by rw [beq_eq_false_iff_ne]; exact hp
  obtain ⟨C, hC⟩ : ∃ C, C = m.cells sl := ⟨_, rfl⟩
  rw [← hC] at HF HPU
  rw [← hC]
  have hcs := Lib.hid (show (Try.prog.info? 38).map (·.size) = some C.size by rw [hC]; exact msg_size)
  clear hC hm hws hfew hE hp hpj
  go_enter Try.func4, Try.ntmps4
  go_upto_region 1 with fail
  obtain ⟨W1, hW1⟩ : ∃ W1, W1 = w.alloc (.cells C 38) := ⟨_, rfl⟩
  have HB1 := Lib.hid (show Below w.heap.size w W1 by rw [hW1]; exact (Below.refl _ _).alloc (Nat.le_refl _) _)
  have HR1 := Lib.hid (show W1.heap[w.heap.size]? = some (.cells C 38 (0, 0)) by rw [hW1]; exact heap_alloc_new w _)
  have HZ1 := Lib.hid (show w.heap.size < W1.heap.size by rw [hW1]; simp)
  rw [← hW1]
  clear hW1
  go_upto_region 4 with (first
    | (go_at_call 5; (with_reducible refine (HAW.out _).mono ?_); rintro e w2 ⟨rfl, hb2⟩; have hr2 := (hb2.block w.heap.size HZ1.out).trans HR1.out)
    | (refine wpList_load_row_w rfl 38 _ rfl w.heap.size rfl 38 C (0, 0) _ hr2 Try.underlying38 rfl hcs.out ?_)
    | (go_at_call 8; (with_reducible refine (HF.out _ (HWS.out.below (HB1.out.trans (hb2.mono HB1.out.size)))).mono ?_); rintro e w3 ⟨rfl, hb3⟩; have HB3 := Lib.hid (HB1.out.trans ((hb2.trans (hb3.mono hb2.size)).mono HB1.out.size)); have HR3 := Lib.hid ((hb3.block w.heap.size (Array.getElem?_eq_some_iff.1 hr2).1).trans hr2); clear hb3)
    | (go_at_call 7; (with_reducible refine (HMK.out _).mono ?_); rintro e w4 ⟨rfl, hb4⟩; have HB4 := Lib.hid (HB3.out.trans (hb4.mono HB3.out.size)); have HR4 := Lib.hid ((hb4.block w.heap.size (Array.getElem?_eq_some_iff.1 HR3.out).1).trans HR3.out); clear hb4)
    | (go_at_call 6; (with_reducible refine (HNW.out _).mono ?_); rintro e w5 ⟨rfl, hn5, hb5⟩; have HS5 := Lib.hid (WPl.start (HB4.out.trans (hb5.mono HB4.out.size)) hn5 (Nat.le_succ_of_le HB4.out.size)); have HR5 := Lib.hid ((hb5.block w.heap.size (Array.getElem?_eq_some_iff.1 HR4.out).1).trans HR4.out); clear hn5 hb5))
  go_wp2_with (first
    | (refine wpList_load_row_w rfl 38 _ rfl w.heap.size rfl 38 C (0, 0) _ HR5.out Try.underlying38 rfl hcs.out ?_)
    | (go_at_call 9; (with_reducible refine (HPU.out _ _ _ HS5.out).mono ?_); rintro e w6 ⟨rfl, hs6⟩; have HS6 := Lib.hid hs6; clear hs6)
    | (go_at_call 16; (with_reducible refine (HLE.out _ _ _ HS6.out).mono ?_); rintro e w7 ⟨rfl, rfl⟩))
  go_ret
  exact ⟨rfl, HS6.out.below⟩
theorem WPl.startX {w W : World} {X : Nat → Obj → Prop} {g : Nat} (hb : Below w.heap.size w W) (hn : NetV W g (.slice none 0 0) []) (hg : w.heap.size ≤ g) (hX : ∀ k o, X k o → W.heap[k]? = some o ∧ w.heap.size ≤ k ∧ k ≠ g) : WPl w X g [] [] (.slice none 0 0) W :=
  ⟨⟨_, hn, fun k hk => by
    rcases hk with rfl | hk
    · exact ⟨hg, fun ⟨o, h⟩ => (hX _ o h).2.2 rfl, docO_nil _⟩
    · cases hk⟩, fun k o h => ⟨(hX k o h).1, (hX k o h).2.1⟩, DocW.none w W, fun k hk => absurd hk (docO_nil k), hb⟩
theorem zcells_size : (#[.int .i64 0, .int .i64 0, .int .i64 0, .int .i64 0, .int .i64 0, .int .i64 0, .int .u64 0, .int .u64 0, .string ⟨#[]⟩, .bool false, .int .u64 0, .bool false, .string ⟨#[]⟩, .slice none 0 0, .string ⟨#[]⟩, .int .u64 0, .int .u64 0] : Array Value).size = 17 := rfl
set_option maxHeartbeats 16000000 in
theorem wireFlips_once (m : Mg) (sl : Value) (hm : MsgIn m) (hfew : FewP m) (n : Nat) (hn : n < 65536) (w : World) (hws : WsAt w sl m.ws) (hp : (projB 3 m).2 = 0) :
    Calls Try.prog 4 #[.agg (m.cells sl), .int .u16 (n : Int), .bool false] w (AllTrue w) := by
  have HAW := Lib.hid (fun W => wawake_any W)
  have HF := Lib.hid (fun W h => few_yes hm sl hfew W h)
  have HWS := Lib.hid hws
  have HMK := Lib.hid (fun W => make_any W)
  have HNW := Lib.hid (fun W => net_new W)
  obtain ⟨hv3, hr, _⟩ := proj_zero hp
  obtain ⟨x, hx⟩ : ∃ x : Wj, x = ⟨m, sl, 3, false, 0⟩ := ⟨_, rfl⟩
  have hxo : x.ok := by rw [hx]; exact ⟨hr, hm.fits, hfew.few, .inr (.inr rfl), .inl rfl, (fun e => by cases e), (show (0 : Nat) < 100000 by decide)⟩
  have HPU := Lib.hid (fun (W : World) g X (h : WPl w X g [] [] (.slice none 0 0) W) => wpl_put h (by decide) m sl hm.fits hfew.few (hws.below h.below) 3 3 ⟨by decide, by decide⟩ ⟨by decide, by decide⟩)
  have hpj : putJ [] m sl 3 3 = [x] := by unfold putJ; rw [neg33, if_pos hp, hx]; rfl
  rw [hpj, neg33, hp] at HPU
  have hq := Nat.mod_lt n (show 0 < x.bits by unfold Wj.bits; omega)
  obtain ⟨q, hqq⟩ : ∃ q, q = n % x.bits := ⟨_, rfl⟩
  rw [← hqq] at hq
  have hmod : ((n : Int) % (x.bits : Int)).toNat = q := by rw [hqq]; omega
  have h1 : flipJ [x] 0 (n : Int) = [x.turn q] := by
    unfold flipJ
    have ho : x.other (n : Int) = false := by unfold Wj.other; rw [hx]; rfl
    rw [if_pos ⟨hasW_iff.2 ⟨by decide, by simp⟩, by omega, ho⟩]
    show [x].set 0 (x.turn ((n : Int) % (x.bits : Int)).toNat) = _
    rw [hmod]; rfl
  have HF1 := Lib.hid (fun (W : World) g X (h : WPl w X g [x] [] (.slice none 0 0) W) => wpl_flip h (fun y hy => by rw [List.mem_singleton.1 hy]; exact hxo) 0 (n : Int) (by omega))
  rw [h1] at HF1
  have hb2 : (x.turn q).bits = x.bits := rfl
  have h2 : flipJ [x.turn q] 0 (n : Int) = [(x.turn q).turn q] := by
    unfold flipJ
    have ho : (x.turn q).other (n : Int) = false := by
      unfold Wj.other
      rw [hb2, show (n : Int) % (x.bits : Int) = (q : Int) by rw [hqq]; omega]
      show ((x.turn q).on && decide ((q : Int) ≠ (q : Int))) = false
      simp
    rw [if_pos ⟨hasW_iff.2 ⟨by decide, by simp⟩, by omega, ho⟩]
    show [x.turn q].set 0 ((x.turn q).turn ((n : Int) % ((x.turn q).bits : Int)).toNat) = _
    rw [hb2, hmod]; rfl
  have hto := Wj.turn_ok hxo hq
  have hto2 := Wj.turn_ok hto (k := q) (by rw [hb2]; exact hq)
  have HF2 := Lib.hid (fun (W : World) g X (h : WPl w X g [x.turn q] [] (.slice none 0 0) W) => wpl_flip h (fun y hy => by rw [List.mem_singleton.1 hy]; exact hto) 0 (n : Int) (by omega))
  rw [h2] at HF2
  have HT1 := Lib.hid (fun (W : World) g X (h : WPl w X g [x.turn q] [] (.slice none 0 0) W) => wpl_take h (fun y hy => by rw [List.mem_singleton.1 hy]; exact hto) (by simp) 0 3 ⟨by decide, by decide⟩)
  have HT2 := Lib.hid (fun (W : World) g X (h : WPl w X g [(x.turn q).turn q] [] (.slice none 0 0) W) => wpl_take h (fun y hy => by rw [List.mem_singleton.1 hy]; exact hto2) (by simp) 0 3 ⟨by decide, by decide⟩)
  have k1 : takeM [x.turn q] 0 3 = (mg0, false) := by
    unfold takeM
    rw [if_neg]
    rintro ⟨_, h⟩
    have : (x.turn q).on = true := by rw [hx]; rfl
    have h' : (x.turn q).on = false := h
    rw [this] at h'; cases h'
  have k2 : takeM [(x.turn q).turn q] 0 3 = (m, true) := by
    have hm1 : ((x.turn q).turn q).m = m := by rw [hx]; rfl
    have hv1 : ((x.turn q).turn q).v = 3 := by rw [hx]; rfl
    have ho1 : ((x.turn q).turn q).on = false := by rw [hx]; rfl
    have hpm : projB 3 m = (m, 0) := by rw [proj_right hr (.inr (.inr rfl)), if_neg (by omega), cut3]
    unfold takeM
    rw [if_pos ⟨hasW_iff.2 ⟨by decide, by simp⟩, ho1⟩]
    show ((projB 3 (cut ((x.turn q).turn q).v ((x.turn q).turn q).m)).1, decide ((projB 3 (cut ((x.turn q).turn q).v ((x.turn q).turn q).m)).2 = 0)) = (m, true)
    rw [hm1, hv1, cut3, hpm]
    rfl
  have j1 : cutJ [x.turn q] 0 = [] := rfl
  have j2 : cutJ [(x.turn q).turn q] 0 = [] := rfl
  rw [k1, j1] at HT1
  rw [k2, j2] at HT2
  have HLE := Lib.hid (fun (W : World) g X (h : WPl w X g [] [] (.slice none 0 0) W) => wpl_len h)
  have hsane := right_sane hr hm.fits
  have HSM := Lib.hid (fun (W : World) sl1 (h1 : WsAt W sl1 m.ws) (h2 : WsAt W sl m.ws) => refSame_yes m m sl1 sl hsane hsane rfl W h1 h2)
  obtain ⟨J1, hJ1⟩ : ∃ J1, J1 = [x] := ⟨_, rfl⟩
  obtain ⟨J2, hJ2⟩ : ∃ J2, J2 = [x.turn q] := ⟨_, rfl⟩
  obtain ⟨J3, hJ3⟩ : ∃ J3, J3 = [(x.turn q).turn q] := ⟨_, rfl⟩
  rw [← hJ1] at HPU HF1
  rw [← hJ2] at HF1 HF2 HT1
  rw [← hJ3] at HF2 HT2
  obtain ⟨C, hC⟩ : ∃ C, C = m.cells sl := ⟨_, rfl⟩
  rw [← hC] at HF HPU HSM
  rw [← hC]
  have hcs := Lib.hid (show (Try.prog.info? 38).map (·.size) = some C.size by rw [hC]; exact msg_size)
  have HT1b : Hid (∀ (W : World) g X, WPl w X g J2 [] (.slice none 0 0) W → Calls Try.prog 10 #[.pointer (some ⟨g, 0, none⟩), .int .i64 0, .int .i64 3] W fun e W' => ∃ Y : Array Value, Y.size = 17 ∧ Y.all (·.oneCell') = true ∧ e = .returned (.tuple #[.agg Y, .bool false]) ∧ WPl w X g [] [] (.slice none 0 0) W') := Lib.hid (fun W g X h => (HT1.out W g X h).mono fun e W' ⟨sl1, he, h1, h2⟩ => by
    obtain ⟨a, b, c, hsl⟩ := h1.isSl
    exact ⟨mg0.cells sl1, rfl, by rw [hsl]; simp [Mg.cells, mg0, Value.oneCell'], he, h2⟩)
  have HT2b : Hid (∀ (W : World) g X, WPl w X g J3 [] (.slice none 0 0) W → Calls Try.prog 10 #[.pointer (some ⟨g, 0, none⟩), .int .i64 0, .int .i64 3] W fun e W' => ∃ Y : Array Value, Y.size = 17 ∧ Y.all (·.oneCell') = true ∧ e = .returned (.tuple #[.agg Y, .bool true]) ∧ Hid (∃ sl1, Y = m.cells sl1 ∧ WsAt W' sl1 m.ws) ∧ WPl w X g [] [] (.slice none 0 0) W') := Lib.hid (fun W g X h => (HT2.out W g X h).mono fun e W' ⟨sl1, he, h1, h2⟩ => by
    obtain ⟨a, b, c, hsl⟩ := h1.isSl
    exact ⟨m.cells sl1, rfl, by rw [hsl]; simp [Mg.cells, Value.oneCell'], he, Lib.hid ⟨sl1, rfl, h1⟩, h2⟩)
  clear hC hm hws hfew hp hpj hv3 hr hx hxo hq hqq hmod h1 h2 hto hto2 k1 k2 j1 j2 hsane hJ1 hJ2 hJ3 HT1 HT2 hb2
  go_enter Try.func4, Try.ntmps4
  go_upto_region 1 with fail
  obtain ⟨W1, hW1⟩ : ∃ W1, W1 = w.alloc (.cells C 38) := ⟨_, rfl⟩
  have HB1 := Lib.hid (show Below w.heap.size w W1 by rw [hW1]; exact (Below.refl _ _).alloc (Nat.le_refl _) _)
  have HR1 := Lib.hid (show W1.heap[w.heap.size]? = some (.cells C 38 (0, 0)) by rw [hW1]; exact heap_alloc_new w _)
  have HZ1 := Lib.hid (show w.heap.size < W1.heap.size by rw [hW1]; simp)
  rw [← hW1]
  clear hW1
  go_upto_region 4 with (first
    | (go_at_call 5; (with_reducible refine (HAW.out _).mono ?_); rintro e w2 ⟨rfl, hb2⟩; have hr2 := (hb2.block w.heap.size HZ1.out).trans HR1.out)
    | (refine wpList_load_row_w rfl 38 _ rfl w.heap.size rfl 38 C (0, 0) _ hr2 Try.underlying38 rfl hcs.out ?_)
    | (go_at_call 8; (with_reducible refine (HF.out _ (HWS.out.below (HB1.out.trans (hb2.mono HB1.out.size)))).mono ?_); rintro e w3 ⟨rfl, hb3⟩; have HB3 := Lib.hid (HB1.out.trans ((hb2.trans (hb3.mono hb2.size)).mono HB1.out.size)); have HR3 := Lib.hid ((hb3.block w.heap.size (Array.getElem?_eq_some_iff.1 hr2).1).trans hr2); clear hb3 hb2 hr2)
    | (go_at_call 7; (with_reducible refine (HMK.out _).mono ?_); rintro e w4 ⟨rfl, hb4⟩; have HB4 := Lib.hid (HB3.out.trans (hb4.mono HB3.out.size)); have HR4 := Lib.hid ((hb4.block w.heap.size (Array.getElem?_eq_some_iff.1 HR3.out).1).trans HR3.out); clear hb4)
    | (go_at_call 6; (with_reducible refine (HNW.out _).mono ?_); rintro e w5 ⟨rfl, hn5, hb5⟩; have HR5 := Lib.hid ((hb5.block w.heap.size (Array.getElem?_eq_some_iff.1 HR4.out).1).trans HR4.out); have HS5 := Lib.hid (WPl.startX (X := XF w.heap.size C) (HB4.out.trans (hb5.mono HB4.out.size)) hn5 (Nat.le_succ_of_le HB4.out.size) (by rintro k o ⟨rfl, rfl⟩; exact ⟨HR5.out, Nat.le_refl _, by have := HB4.out.size; have := (Array.getElem?_eq_some_iff.1 HR4.out).1; omega⟩)); clear hn5 hb5 HR5 HR4 HR3))
  obtain ⟨A, hA⟩ : ∃ A, A = w.heap.size := ⟨_, rfl⟩
  rw [← hA] at HS5
  rw [← hA]
  have HAW2 := Lib.hid hA
  obtain ⟨g, hg⟩ : ∃ g, g = w4.heap.size + 1 := ⟨_, rfl⟩
  rw [← hg] at HS5
  rw [← hg]
  clear hA hg HR1 HZ1 HB1 HB3 HB4
  have HXC := Lib.hid (fun (W : World) J (h : WPl w (XF A C) g J [] (.slice none 0 0) W) => (h.ext A _ ⟨rfl, rfl⟩).1)
  have HR5 := Lib.hid (HXC.out _ _ HS5.out)
  go_upto_region 10 with (first
    | (refine wpList_load_row_w rfl 38 _ rfl A rfl 38 C (0, 0) _ HR5.out Try.underlying38 rfl hcs.out ?_)
    | (go_at_call 9; (with_reducible refine (HPU.out _ _ _ HS5.out).mono ?_); rintro e w6 ⟨rfl, hs6⟩; have HS6 := Lib.hid hs6; clear hs6)
    | (go_at_call 13; (with_reducible refine (HF1.out _ _ _ HS6.out).mono ?_); rintro e w7 ⟨rfl, hs7⟩; have HS7 := Lib.hid hs7; clear hs7)
    | (go_at_call 10; (with_reducible refine (HT1b.out _ _ _ HS7.out).mono ?_); rintro e w9 ⟨Y, hY1, hY2, rfl, hs9⟩; have HS9 := Lib.hid hs9; have HY1 := Lib.hid hY1; have HY2 := Lib.hid hY2; have hs17 : (Try.prog.info? 38).map (·.size) = some Y.size := (by rw [hY1]; exact msg_size); have HS17 := Lib.hid hs17; clear hs9 hY1 hY2 hs17)
    | (refine wpList_store_row rfl 38 _ _ rfl w9.heap.size Y rfl rfl 38 _ (heap_alloc_new w9 _) HS17.out (by rw [HY1.out]; rfl) HY2.out ?_; dsimp only [Act.put]))
  have HS10 := Lib.hid (HS9.out.later (below_setRow ((Below.refl _ _).alloc (Nat.le_refl _) (.cells #[.int .i64 0, .int .i64 0, .int .i64 0, .int .i64 0, .int .i64 0, .int .i64 0, .int .u64 0, .int .u64 0, .string ⟨#[]⟩, .bool false, .int .u64 0, .bool false, .string ⟨#[]⟩, .slice none 0 0, .string ⟨#[]⟩, .int .u64 0, .int .u64 0] 38)) (Nat.le_refl _) Y))
  go_wp2_with (go_at_call 16; (with_reducible refine (HLE.out _ _ _ HS10.out).mono ?_); rintro e w11 ⟨rfl, rfl⟩)
  go_ret
  exact ⟨rfl, HS10.out.below⟩
set_option maxHeartbeats 16000000 in
theorem wireFlips_back (m : Mg) (sl : Value) (hm : MsgIn m) (hfew : FewP m) (n : Nat) (hn : n < 65536) (w : World) (hws : WsAt w sl m.ws) (hp : (projB 3 m).2 = 0) :
    Calls Try.prog 4 #[.agg (m.cells sl), .int .u16 (n : Int), .bool true] w (AllTrue w) := by
  have HAW := Lib.hid (fun W => wawake_any W)
  have HF := Lib.hid (fun W h => few_yes hm sl hfew W h)
  have HWS := Lib.hid hws
  have HMK := Lib.hid (fun W => make_any W)
  have HNW := Lib.hid (fun W => net_new W)
  obtain ⟨hv3, hr, _⟩ := proj_zero hp
  obtain ⟨x, hx⟩ : ∃ x : Wj, x = ⟨m, sl, 3, false, 0⟩ := ⟨_, rfl⟩
  have hxo : x.ok := by rw [hx]; exact ⟨hr, hm.fits, hfew.few, .inr (.inr rfl), .inl rfl, (fun e => by cases e), (show (0 : Nat) < 100000 by decide)⟩
  have HPU := Lib.hid (fun (W : World) g X (h : WPl w X g [] [] (.slice none 0 0) W) => wpl_put h (by decide) m sl hm.fits hfew.few (hws.below h.below) 3 3 ⟨by decide, by decide⟩ ⟨by decide, by decide⟩)
  have hpj : putJ [] m sl 3 3 = [x] := by unfold putJ; rw [neg33, if_pos hp, hx]; rfl
  rw [hpj, neg33, hp] at HPU
  have hq := Nat.mod_lt n (show 0 < x.bits by unfold Wj.bits; omega)
  obtain ⟨q, hqq⟩ : ∃ q, q = n % x.bits := ⟨_, rfl⟩
  rw [← hqq] at hq
  have hmod : ((n : Int) % (x.bits : Int)).toNat = q := by rw [hqq]; omega
  have h1 : flipJ [x] 0 (n : Int) = [x.turn q] := by
    unfold flipJ
    have ho : x.other (n : Int) = false := by unfold Wj.other; rw [hx]; rfl
    rw [if_pos ⟨hasW_iff.2 ⟨by decide, by simp⟩, by omega, ho⟩]
    show [x].set 0 (x.turn ((n : Int) % (x.bits : Int)).toNat) = _
    rw [hmod]; rfl
  have HF1 := Lib.hid (fun (W : World) g X (h : WPl w X g [x] [] (.slice none 0 0) W) => wpl_flip h (fun y hy => by rw [List.mem_singleton.1 hy]; exact hxo) 0 (n : Int) (by omega))
  rw [h1] at HF1
  have hb2 : (x.turn q).bits = x.bits := rfl
  have h2 : flipJ [x.turn q] 0 (n : Int) = [(x.turn q).turn q] := by
    unfold flipJ
    have ho : (x.turn q).other (n : Int) = false := by
      unfold Wj.other
      rw [hb2, show (n : Int) % (x.bits : Int) = (q : Int) by rw [hqq]; omega]
      show ((x.turn q).on && decide ((q : Int) ≠ (q : Int))) = false
      simp
    rw [if_pos ⟨hasW_iff.2 ⟨by decide, by simp⟩, by omega, ho⟩]
    show [x.turn q].set 0 ((x.turn q).turn ((n : Int) % ((x.turn q).bits : Int)).toNat) = _
    rw [hb2, hmod]; rfl
  have hto := Wj.turn_ok hxo hq
  have hto2 := Wj.turn_ok hto (k := q) (by rw [hb2]; exact hq)
  have HF2 := Lib.hid (fun (W : World) g X (h : WPl w X g [x.turn q] [] (.slice none 0 0) W) => wpl_flip h (fun y hy => by rw [List.mem_singleton.1 hy]; exact hto) 0 (n : Int) (by omega))
  rw [h2] at HF2
  have HT1 := Lib.hid (fun (W : World) g X (h : WPl w X g [x.turn q] [] (.slice none 0 0) W) => wpl_take h (fun y hy => by rw [List.mem_singleton.1 hy]; exact hto) (by simp) 0 3 ⟨by decide, by decide⟩)
  have HT2 := Lib.hid (fun (W : World) g X (h : WPl w X g [(x.turn q).turn q] [] (.slice none 0 0) W) => wpl_take h (fun y hy => by rw [List.mem_singleton.1 hy]; exact hto2) (by simp) 0 3 ⟨by decide, by decide⟩)
  have k1 : takeM [x.turn q] 0 3 = (mg0, false) := by
    unfold takeM
    rw [if_neg]
    rintro ⟨_, h⟩
    have : (x.turn q).on = true := by rw [hx]; rfl
    have h' : (x.turn q).on = false := h
    rw [this] at h'; cases h'
  have k2 : takeM [(x.turn q).turn q] 0 3 = (m, true) := by
    have hm1 : ((x.turn q).turn q).m = m := by rw [hx]; rfl
    have hv1 : ((x.turn q).turn q).v = 3 := by rw [hx]; rfl
    have ho1 : ((x.turn q).turn q).on = false := by rw [hx]; rfl
    have hpm : projB 3 m = (m, 0) := by rw [proj_right hr (.inr (.inr rfl)), if_neg (by omega), cut3]
    unfold takeM
    rw [if_pos ⟨hasW_iff.2 ⟨by decide, by simp⟩, ho1⟩]
    show ((projB 3 (cut ((x.turn q).turn q).v ((x.turn q).turn q).m)).1, decide ((projB 3 (cut ((x.turn q).turn q).v ((x.turn q).turn q).m)).2 = 0)) = (m, true)
    rw [hm1, hv1, cut3, hpm]
    rfl
  have j1 : cutJ [x.turn q] 0 = [] := rfl
  have j2 : cutJ [(x.turn q).turn q] 0 = [] := rfl
  rw [k1, j1] at HT1
  rw [k2, j2] at HT2
  have HLE := Lib.hid (fun (W : World) g X (h : WPl w X g [] [] (.slice none 0 0) W) => wpl_len h)
  have hsane := right_sane hr hm.fits
  have HSM := Lib.hid (fun (W : World) sl1 (h1 : WsAt W sl1 m.ws) (h2 : WsAt W sl m.ws) => refSame_yes m m sl1 sl hsane hsane rfl W h1 h2)
  obtain ⟨J1, hJ1⟩ : ∃ J1, J1 = [x] := ⟨_, rfl⟩
  obtain ⟨J2, hJ2⟩ : ∃ J2, J2 = [x.turn q] := ⟨_, rfl⟩
  obtain ⟨J3, hJ3⟩ : ∃ J3, J3 = [(x.turn q).turn q] := ⟨_, rfl⟩
  rw [← hJ1] at HPU HF1
  rw [← hJ2] at HF1 HF2 HT1
  rw [← hJ3] at HF2 HT2
  obtain ⟨C, hC⟩ : ∃ C, C = m.cells sl := ⟨_, rfl⟩
  rw [← hC] at HF HPU HSM
  rw [← hC]
  have hcs := Lib.hid (show (Try.prog.info? 38).map (·.size) = some C.size by rw [hC]; exact msg_size)
  have HT1b : Hid (∀ (W : World) g X, WPl w X g J2 [] (.slice none 0 0) W → Calls Try.prog 10 #[.pointer (some ⟨g, 0, none⟩), .int .i64 0, .int .i64 3] W fun e W' => ∃ Y : Array Value, Y.size = 17 ∧ Y.all (·.oneCell') = true ∧ e = .returned (.tuple #[.agg Y, .bool false]) ∧ WPl w X g [] [] (.slice none 0 0) W') := Lib.hid (fun W g X h => (HT1.out W g X h).mono fun e W' ⟨sl1, he, h1, h2⟩ => by
    obtain ⟨a, b, c, hsl⟩ := h1.isSl
    exact ⟨mg0.cells sl1, rfl, by rw [hsl]; simp [Mg.cells, mg0, Value.oneCell'], he, h2⟩)
  have HT2b : Hid (∀ (W : World) g X, WPl w X g J3 [] (.slice none 0 0) W → Calls Try.prog 10 #[.pointer (some ⟨g, 0, none⟩), .int .i64 0, .int .i64 3] W fun e W' => ∃ Y : Array Value, Y.size = 17 ∧ Y.all (·.oneCell') = true ∧ e = .returned (.tuple #[.agg Y, .bool true]) ∧ Hid (∃ sl1, Y = m.cells sl1 ∧ WsAt W' sl1 m.ws) ∧ WPl w X g [] [] (.slice none 0 0) W') := Lib.hid (fun W g X h => (HT2.out W g X h).mono fun e W' ⟨sl1, he, h1, h2⟩ => by
    obtain ⟨a, b, c, hsl⟩ := h1.isSl
    exact ⟨m.cells sl1, rfl, by rw [hsl]; simp [Mg.cells, Value.oneCell'], he, Lib.hid ⟨sl1, rfl, h1⟩, h2⟩)
  clear hC hm hws hfew hp hpj hv3 hr hx hxo hq hqq hmod h1 h2 hto hto2 k1 k2 j1 j2 hsane hJ1 hJ2 hJ3 HT1 HT2 hb2
  go_enter Try.func4, Try.ntmps4
  go_upto_region 1 with fail
  obtain ⟨W1, hW1⟩ : ∃ W1, W1 = w.alloc (.cells C 38) := ⟨_, rfl⟩
  have HB1 := Lib.hid (show Below w.heap.size w W1 by rw [hW1]; exact (Below.refl _ _).alloc (Nat.le_refl _) _)
  have HR1 := Lib.hid (show W1.heap[w.heap.size]? = some (.cells C 38 (0, 0)) by rw [hW1]; exact heap_alloc_new w _)
  have HZ1 := Lib.hid (show w.heap.size < W1.heap.size by rw [hW1]; simp)
  rw [← hW1]
  clear hW1
  go_upto_region 4 with (first
    | (go_at_call 5; (with_reducible refine (HAW.out _).mono ?_); rintro e w2 ⟨rfl, hb2⟩; have hr2 := (hb2.block w.heap.size HZ1.out).trans HR1.out)
    | (refine wpList_load_row_w rfl 38 _ rfl w.heap.size rfl 38 C (0, 0) _ hr2 Try.underlying38 rfl hcs.out ?_)
    | (go_at_call 8; (with_reducible refine (HF.out _ (HWS.out.below (HB1.out.trans (hb2.mono HB1.out.size)))).mono ?_); rintro e w3 ⟨rfl, hb3⟩; have HB3 := Lib.hid (HB1.out.trans ((hb2.trans (hb3.mono hb2.size)).mono HB1.out.size)); have HR3 := Lib.hid ((hb3.block w.heap.size (Array.getElem?_eq_some_iff.1 hr2).1).trans hr2); clear hb3 hb2 hr2)
    | (go_at_call 7; (with_reducible refine (HMK.out _).mono ?_); rintro e w4 ⟨rfl, hb4⟩; have HB4 := Lib.hid (HB3.out.trans (hb4.mono HB3.out.size)); have HR4 := Lib.hid ((hb4.block w.heap.size (Array.getElem?_eq_some_iff.1 HR3.out).1).trans HR3.out); clear hb4)
    | (go_at_call 6; (with_reducible refine (HNW.out _).mono ?_); rintro e w5 ⟨rfl, hn5, hb5⟩; have HR5 := Lib.hid ((hb5.block w.heap.size (Array.getElem?_eq_some_iff.1 HR4.out).1).trans HR4.out); have HS5 := Lib.hid (WPl.startX (X := XF w.heap.size C) (HB4.out.trans (hb5.mono HB4.out.size)) hn5 (Nat.le_succ_of_le HB4.out.size) (by rintro k o ⟨rfl, rfl⟩; exact ⟨HR5.out, Nat.le_refl _, by have := HB4.out.size; have := (Array.getElem?_eq_some_iff.1 HR4.out).1; omega⟩)); clear hn5 hb5 HR5 HR4 HR3))
  obtain ⟨A, hA⟩ : ∃ A, A = w.heap.size := ⟨_, rfl⟩
  rw [← hA] at HS5
  rw [← hA]
  have HAW2 := Lib.hid hA
  obtain ⟨g, hg⟩ : ∃ g, g = w4.heap.size + 1 := ⟨_, rfl⟩
  rw [← hg] at HS5
  rw [← hg]
  clear hA hg HR1 HZ1 HB1 HB3 HB4
  have HXC := Lib.hid (fun (W : World) J (h : WPl w (XF A C) g J [] (.slice none 0 0) W) => (h.ext A _ ⟨rfl, rfl⟩).1)
  have HR5 := Lib.hid (HXC.out _ _ HS5.out)
  go_upto_region 10 with (first
    | (refine wpList_load_row_w rfl 38 _ rfl A rfl 38 C (0, 0) _ HR5.out Try.underlying38 rfl hcs.out ?_)
    | (go_at_call 9; (with_reducible refine (HPU.out _ _ _ HS5.out).mono ?_); rintro e w6 ⟨rfl, hs6⟩; have HS6 := Lib.hid hs6; clear hs6)
    | (go_at_call 13; (with_reducible refine (HF1.out _ _ _ HS6.out).mono ?_); rintro e w7 ⟨rfl, hs7⟩; have HS7 := Lib.hid hs7; clear hs7)
    | (go_at_call 13; (with_reducible refine (HF2.out _ _ _ HS7.out).mono ?_); rintro e w8 ⟨rfl, hs8⟩; have HS8 := Lib.hid hs8; clear hs8)
    | (go_at_call 10; (with_reducible refine (HT2b.out _ _ _ HS8.out).mono ?_); rintro e w9 ⟨Y, hY1, hY2, rfl, hY3, hs9⟩; have HS9 := Lib.hid hs9; have HY1 := Lib.hid hY1; have HY2 := Lib.hid hY2; have HY3 := Lib.hid hY3; have hs17 : (Try.prog.info? 38).map (·.size) = some Y.size := (by rw [hY1]; exact msg_size); have HS17 := Lib.hid hs17; clear hs9 hY1 hY2 hs17 hY3)
    | (refine wpList_store_row rfl 38 _ _ rfl w9.heap.size Y rfl rfl 38 _ (heap_alloc_new w9 _) HS17.out (by rw [HY1.out]; rfl) HY2.out ?_; dsimp only [Act.put]))
  have hb10 := below_setRow ((Below.refl w9.heap.size w9).alloc (Nat.le_refl _) (.cells #[.int .i64 0, .int .i64 0, .int .i64 0, .int .i64 0, .int .i64 0, .int .i64 0, .int .u64 0, .int .u64 0, .string ⟨#[]⟩, .bool false, .int .u64 0, .bool false, .string ⟨#[]⟩, .slice none 0 0, .string ⟨#[]⟩, .int .u64 0, .int .u64 0] 38)) (Nat.le_refl _) Y
  have hr10 := setRow_heap _ _ _ Y _ _ (heap_alloc_new w9 (.cells #[.int .i64 0, .int .i64 0, .int .i64 0, .int .i64 0, .int .i64 0, .int .i64 0, .int .u64 0, .int .u64 0, .string ⟨#[]⟩, .bool false, .int .u64 0, .bool false, .string ⟨#[]⟩, .slice none 0 0, .string ⟨#[]⟩, .int .u64 0, .int .u64 0] 38))
  obtain ⟨w10, hw10⟩ : ∃ w10, w10 = (w9.alloc (.cells #[.int .i64 0, .int .i64 0, .int .i64 0, .int .i64 0, .int .i64 0, .int .i64 0, .int .u64 0, .int .u64 0, .string ⟨#[]⟩, .bool false, .int .u64 0, .bool false, .string ⟨#[]⟩, .slice none 0 0, .string ⟨#[]⟩, .int .u64 0, .int .u64 0] 38)).setRow w9.heap.size Y := ⟨_, rfl⟩
  rw [← hw10] at hb10 hr10
  rw [← hw10]
  have HS10 := Lib.hid (HS9.out.later hb10)
  have HRA := Lib.hid (HXC.out _ _ HS10.out)
  have HRT := Lib.hid hr10
  have HSM2 : Hid (Calls Try.prog 15 #[.agg Y, .agg C] w10 fun e w' => e = .returned (.bool true) ∧ Below w10.heap.size w10 w') := Lib.hid (by
    obtain ⟨sl1, e, h1⟩ := HY3.out.out
    rw [e]
    exact HSM.out w10 sl1 (h1.below hb10) (HWS.out.below HS10.out.below))
  obtain ⟨T, hT⟩ : ∃ T, T = w9.heap.size := ⟨_, rfl⟩
  rw [← hT] at HRT ⊢
  clear hT hw10 hb10 hr10
  go_wp2_with (first
    | (refine wpList_load_row_w rfl 38 _ rfl T rfl 38 Y (0, 0) _ HRT.out Try.underlying38 rfl HS17.out ?_)
    | (refine wpList_load_row_w rfl 38 _ rfl A rfl 38 C (0, 0) _ HRA.out Try.underlying38 rfl hcs.out ?_)
    | (go_at_call 15; (with_reducible refine HSM2.out.mono ?_); rintro e w11 ⟨rfl, hb11⟩; have HS11 := Lib.hid (HS10.out.later hb11); clear hb11)
    | (go_at_call 16; (with_reducible refine (HLE.out _ _ _ HS11.out).mono ?_); rintro e w12 ⟨rfl, rfl⟩))
  go_ret
  exact ⟨rfl, HS11.out.below⟩
theorem wireFlips_walk (m : Mg) (sl : Value) (hm : MsgIn m) (a1 : Int) (w1 : (Lit.int .u16 a1).wf = true) (back : Bool) (w : World) (hws : WsAt w sl m.ws) :
    Calls Try.prog 4 #[.agg (m.cells sl), .int .u16 a1, .bool back] w (AllTrue w) := by
  have h1 := bounds_u16 w1
  obtain ⟨n, rfl⟩ := Int.eq_ofNat_of_zero_le h1.1
  by_cases hf : FewP m
  · by_cases hp : (projB 3 m).2 = 0
    · cases back with
      | false => exact wireFlips_once m sl hm hf n (by omega) w hws hp
      | true => exact wireFlips_back m sl hm hf n (by omega) w hws hp
    · exact wireFlips_bad m sl hm hf n back w hws hp
  · exact wireFlips_few m sl hm hf _ back w hws
end Go.Proofs.Ytbhlgceicfjncaa
