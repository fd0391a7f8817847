/-
  CoordPlays from what is asked of the program.
-/
import Derived.Test.YtdldplhfpianhaaSet18
import Derived.Test.YtdldplhfpianhaaSet19
import Derived.StillTailTactics
namespace Go.Proofs.Ytdldplhfpianhaa
open Go.RowKit Go.Shelf
set_option linter.unusedVariables false
set_option linter.unnecessarySimpa false
set_option linter.unusedSimpArgs false
set_option maxRecDepth 100000

set_option maxHeartbeats 4000000 in
theorem coordPlays_no (C : CrdC) (p : Pg) (nodes : Nat) (a : Option Addr) (len cap : Nat) (w : World) (hp : PgOk w p) (h : fewC p = false ∨ (fewC p = true ∧ 60 < len)) :
    Calls Try.prog 3 #[.agg p.cells, .int .u8 (nodes : Int), .slice a len cap] w fun e w' => e = .returned (.bool true) ∧ Below w.heap.size w w' := by
  have haw := Lib.hid (cawake_any C)
  have HW0 := Lib.hid (CrdW.start w p.cells 25)
  have HF := Lib.hid (fun W (hb : Below w.heap.size w W) => cfew_any p W (hp.below hb))
  obtain ⟨F, hF⟩ : ∃ F, F = fewC p := ⟨_, rfl⟩
  rw [← hF] at HF h
  clear hF hp
  obtain ⟨ra, rn, rc, R, wa, wn, wc, Ws⟩ := p
  unfold Pg.cells at *
  simp only at *
  rcases h with rfl | ⟨rfl, h⟩
  · go_enter Try.func3, Try.ntmps3
    go_upto_region 2 with (first
      | (go_at_call 5; (with_reducible refine (haw.out _).mono ?_); rintro e w1 ⟨rfl, hb1⟩; have HW1 := Lib.hid (HW0.out.later hb1); clear hb1; have c0 : w1.cell? ⟨w.heap.size, 0, none⟩ = some (.slice ra rn rc) := (by rw [HW1.out.c0]; rfl); have c1 : w1.cell? ⟨w.heap.size, 1, none⟩ = some (.slice wa wn wc) := (by rw [HW1.out.c0]; rfl))
      | (go_at_call 6; (with_reducible refine (HF.out _ HW1.out.below).mono ?_); rintro e w2 ⟨rfl, hb2⟩; have HB2 := Lib.hid (HW1.out.below.trans (hb2.mono HW1.out.below.size)); clear hb2))
    go_wp2_with (go_at_call 5; (with_reducible refine (haw.out _).mono ?_); rintro e w3 ⟨rfl, hb3⟩; have HB3 := Lib.hid (HB2.out.trans (hb3.mono HB2.out.size)); clear hb3)
    go_ret
    exact ⟨rfl, HB3.out⟩
  · have hl1 : (60 : Int) < (len : Int) := by omega
    have hl2 : decide ((60 : Int) < (len : Int)) = true := decide_eq_true hl1
    have hl3 : decide (60 < len) = true := decide_eq_true h
    go_enter Try.func3, Try.ntmps3
    go_upto_region 2 with (first
      | (go_at_call 5; (with_reducible refine (haw.out _).mono ?_); rintro e w1 ⟨rfl, hb1⟩; have HW1 := Lib.hid (HW0.out.later hb1); clear hb1; have c0 : w1.cell? ⟨w.heap.size, 0, none⟩ = some (.slice ra rn rc) := (by rw [HW1.out.c0]; rfl); have c1 : w1.cell? ⟨w.heap.size, 1, none⟩ = some (.slice wa wn wc) := (by rw [HW1.out.c0]; rfl))
      | (go_at_call 6; (with_reducible refine (HF.out _ HW1.out.below).mono ?_); rintro e w2 ⟨rfl, hb2⟩; have HB2 := Lib.hid (HW1.out.below.trans (hb2.mono HW1.out.below.size)); clear hb2))
    go_wp2_with (go_at_call 5; (with_reducible refine (haw.out _).mono ?_); rintro e w3 ⟨rfl, hb3⟩; have HB3 := Lib.hid (HB2.out.trans (hb3.mono HB2.out.size)); clear hb3)
    go_ret
    exact ⟨rfl, HB3.out⟩
theorem CPl.start {C : CrdC} {w3 w4 w5 : World} {r : Addr} {p : Pg} {n : Nat} {t : Tn} (hs : CSt C w3 w3.heap.size (fun _ => False) r ⟨p.R, p.W, n⟩ t rn0 w4) (hp : PgOk w3 p) (hb : Below w4.heap.size w4 w5) (hn : 1 ≤ n ∧ n ≤ 5) (hr : p.rn ≤ 1000) (hw : p.wn ≤ 1000) :
    CPl C w3 noX w5.heap.size r p n t rn0 rn0 none 0 none 0 (w5.alloc (.cells (runQ p n rn0 none 0 none 0) 40)) := by
  have h5 := (hs.later hb).1
  have hb6 : Below w5.heap.size w5 (w5.alloc (.cells (runQ p n rn0 none 0 none 0) 40)) := (Below.refl _ _).alloc (Nat.le_refl _) _
  have h6 := h5.more hb6 (far' := farC noX w5.heap.size none none) (fun k hk => by
    rcases hk with rfl | ⟨q, hq⟩ | ⟨off, e⟩ | ⟨off, e⟩
    · exact ⟨by simp, .inr (Nat.le_refl _)⟩
    · exact hq.elim
    · cases e
    · cases e)
  refine ⟨h6, hp, h5.size, heap_alloc_new w5 _, fun _ _ e => e.elim, ⟨hp.below h6.below, ⟨rfl, by decide, Nat.le_refl _, fun i hi => absurd hi (Nat.not_lt_zero i)⟩, fun _ => rfl, ⟨rfl, by decide, fun i hi => absurd hi (Nat.not_lt_zero i)⟩, fun _ => rfl, (fun b off e => by cases e), (fun b off e => by cases e), ⟨by decide, by decide, by decide, (fun h => by cases h), Nat.zero_le _, ⟨List.nodup_nil, fun k hk => by cases hk⟩, fun d hd => by cases hd⟩, hn, hr, hw⟩, ⟨(fun ⟨off, e⟩ => by cases e), (fun ⟨off, e⟩ => by cases e)⟩⟩
set_option maxHeartbeats 8000000 in
theorem coordPlays_yes (C : CrdC) (p : Pg) (nodes : Nat) (a : Option Addr) (len cap : Nat) (L : List Cq) (w : World) (hp : PgOk w p) (hz : IsCqs w a len cap L) (hf : fewC p = true) (hl : len ≤ 60) :
    Calls Try.prog 3 #[.agg p.cells, .int .u8 (nodes : Int), .slice a len cap] w fun e w' => e = .returned (.bool true) ∧ Below w.heap.size w w' := by
  have haw := Lib.hid (cawake_any C)
  have HW0 := Lib.hid (CrdW.start w p.cells 25)
  have HF := Lib.hid (fun W (hb : Below w.heap.size w W) => cfew_any p W (hp.below hb))
  have HMY := Lib.hid (fun W (hb : Below w.heap.size w W) => cmay_any p W (hp.below hb))
  rw [hf] at HF
  have hfw := fewC_true.1 hf
  have hrn : p.rn ≤ 1000 := by rw [← hp.1.1]; have := hfw.2.2.1; omega
  have hwn : p.wn ≤ 1000 := by rw [← hp.2.1]; have := hfw.2.2.2; omega
  obtain ⟨m, hm⟩ : ∃ m, m = nodes % 5 := ⟨_, rfl⟩
  obtain ⟨n, hn⟩ : ∃ n, n = 1 + m := ⟨_, rfl⟩
  have hn5 : 1 ≤ n ∧ n ≤ 5 := by omega
  have z1 : (nodes : Int) % 5 = (m : Int) := by omega
  have z2 : (1 : Int) + (m : Int) = (n : Int) := by omega
  have z3 : wrap64 (1 + (m : Int)) = (n : Int) := by rw [z2]; exact IntWalk.wrap64_in _ (by omega)
  have z4 : (nodes : Int).tmod 5 = (m : Int) := by rw [Int.tmod_eq_emod_of_nonneg (by omega)]; exact z1
  have HM := Lib.hid (fun W (hb : Below w.heap.size w W) => made_any C ⟨1, 2, 3⟩ p n W ⟨by decide, by decide, by decide⟩ (hp.below hb) hrn hwn hn5.1 hn5.2)
  have HNW := Lib.hid (fun W => cnew_any p n W)
  have HWN := Lib.hid (show p.W.length = p.wn from hp.2.1)
  have HRN := Lib.hid (show p.R.length = p.rn from hp.1.1)
  obtain ⟨M, hM⟩ : ∃ M, M = mayC p := ⟨_, rfl⟩
  unfold MadeOut at HM
  rw [← hM] at HM HMY
  have HZ := Lib.hid hz
  have HPG := Lib.hid hp
  have HN5 := Lib.hid hn5
  have HRW := Lib.hid (And.intro hrn hwn)
  have HFW := Lib.hid hfw
  clear hfw hf hp hM hz hrn hwn hm hn
  obtain ⟨ra, rn, rc, R, wa, wn, kw, Ws⟩ := p
  unfold runCells at HNW
  unfold Pg.cells Tn.cells at *
  simp only at *
  have hl1 : ¬ (60 : Int) < (len : Int) := by omega
  have hl2 : decide ((60 : Int) < (len : Int)) = false := decide_eq_false hl1
  have hl3 : decide (60 < len) = false := decide_eq_false (by omega)
  go_enter Try.func3, Try.ntmps3
  go_upto_region 4 with (first
    | (go_at_call 5; (with_reducible refine (haw.out _).mono ?_); rintro e w1 ⟨rfl, hb1⟩; have HW1 := Lib.hid (HW0.out.later hb1); clear hb1; have c0 : w1.cell? ⟨w.heap.size, 0, none⟩ = some (.slice ra rn rc) := (by rw [HW1.out.c0]; rfl); have c1 : w1.cell? ⟨w.heap.size, 1, none⟩ = some (.slice wa wn kw) := (by rw [HW1.out.c0]; rfl))
    | (go_at_call 6; (with_reducible refine (HF.out _ HW1.out.below).mono ?_); rintro e w2 ⟨rfl, hb2⟩; have HW2 := Lib.hid (HW1.out.later hb2); clear hb2 c0 c1))
  clear HF haw HW1 HW0 hl1 hl2 hl3 z1 z2 z3 z4
  have hA2 := Lib.hid HW2.out.below.size
  have HB3 : Hid (CrdW w #[.slice ra rn rc, .slice wa wn kw] 25 (w2.alloc (.cells #[.int .i64 1, .int .i64 2, .int .i64 3] 30)) ∧ (w2.alloc (.cells #[.int .i64 1, .int .i64 2, .int .i64 3] 30)).heap[w2.heap.size]? = some (.cells #[.int .i64 1, .int .i64 2, .int .i64 3] 30 (0, 0))) :=
    Lib.hid ⟨HW2.out.later ((Below.refl _ _).alloc (Nat.le_refl _) _), heap_alloc_new w2 _⟩
  go_upto_region 5 with fail
  obtain ⟨w3, hw3⟩ : ∃ w3, w3 = w2.alloc (.cells #[.int .i64 1, .int .i64 2, .int .i64 3] 30) := ⟨_, rfl⟩
  obtain ⟨g8, hg8⟩ : ∃ g8, g8 = w2.heap.size := ⟨_, rfl⟩
  rw [← hw3, ← hg8] at HB3
  rw [← hw3, ← hg8]
  clear hw3 hg8 hA2 HW2
  obtain ⟨q0, q1, q2⟩ := cellsA3 HB3.out.2
  have c0 : w3.cell? ⟨w.heap.size, 0, none⟩ = some (.slice ra rn rc) := by rw [HB3.out.1.c0]; rfl
  have c1 : w3.cell? ⟨w.heap.size, 1, none⟩ = some (.slice wa wn kw) := by rw [HB3.out.1.c0]; rfl
  have HM2 := Lib.hid (HM.out w3 HB3.out.1.below)
  clear HM
  by_cases hm0 : M = 0
  · subst hm0
    have HM3 : Hid (Calls Try.prog 7 #[.agg #[.int .i64 1, .int .i64 2, .int .i64 3], .agg #[.slice ra rn rc, .slice wa wn kw], .int .i64 (n : Int)] w3 fun e w' => ∃ r, e = .returned (.tuple #[.pointer (some r), .int .i64 0]) ∧ Hid (CSt C w3 w3.heap.size (fun _ => False) r ⟨R, Ws, n⟩ ⟨1, 2, 3⟩ rn0 w')) := Lib.hid (HM2.out.mono fun e w' h => by
      rcases h with ⟨_, r, h1, h2⟩ | ⟨h1, _⟩
      · exact ⟨r, h1, Lib.hid h2⟩
      · exact absurd rfl h1)
    clear HM2
    go_upto_region 6 with (go_at_call 7; (with_reducible refine HM3.out.mono ?_); rintro e w4 ⟨r, rfl, HS4⟩)
    clear HM3 q0 q1 q2 c0 c1
    have HC4 := Lib.hid (HB3.out.1.later (HS4.out.below))
    have c0 : w4.cell? ⟨w.heap.size, 0, none⟩ = some (.slice ra rn rc) := by rw [HC4.out.c0]; rfl
    have c1 : w4.cell? ⟨w.heap.size, 1, none⟩ = some (.slice wa wn kw) := by rw [HC4.out.c0]; rfl
    go_upto_region 10 with (go_at_call 8; (with_reducible refine (HMY.out _ HC4.out.below).mono ?_); rintro e w5 ⟨rfl, hb5⟩; have HC5 := Lib.hid (HC4.out.later hb5); have HS5 := Lib.hid (HS4.out.later hb5).1; clear hb5)
    clear c0 c1
    have c0 : w5.cell? ⟨w.heap.size, 0, none⟩ = some (.slice ra rn rc) := by rw [HC5.out.c0]; rfl
    have c1 : w5.cell? ⟨w.heap.size, 1, none⟩ = some (.slice wa wn kw) := by rw [HC5.out.c0]; rfl
    clear HMY HC4 HS4
    go_upto_region 11 with (go_at_call 9; (with_reducible refine (HNW.out _).mono ?_); rintro e w6 ⟨rfl, hb6⟩; have HP6 := Lib.hid (CPl.start (p := ⟨ra, rn, rc, R, wa, wn, kw, Ws⟩) HS5.out (HPG.out.below HB3.out.1.below) hb6 HN5.out HRW.out.1 HRW.out.2); clear hb6)
    clear c0 c1 HNW
    unfold runQ rn0 runCells at HP6
    simp only [List.length_nil] at HP6
    obtain ⟨w7, hw7⟩ : ∃ w7, w7 = w6.alloc (.cells #[.slice ra rn rc, .slice wa wn kw, .int .i64 (n : Int), .int .i64 1, .int .u64 0, .int .u64 0, .slice none 0 0, .slice none 0 0] 40) := ⟨_, rfl⟩
    obtain ⟨g11, hg11⟩ : ∃ g11, g11 = w6.heap.size := ⟨_, rfl⟩
    have HP7 : Hid (CPl C w3 noX g11 r ⟨ra, rn, rc, R, wa, wn, kw, Ws⟩ n ⟨1, 2, 3⟩ rn0 rn0 none 0 none 0 w7) := by rw [hw7, hg11]; exact HP6
    rw [← hw7, ← hg11]
    clear hw7 hg11 HP6 HS5 HC5
    go_wp2_with fail
    go_loopg [12] len (fun g s12 wx => ∃ (i : Nat) (x : Rn) (da : Option Addr) (dc : Nat) (va : Option Addr) (vc : Nat), i + g = len ∧ s12 = .int .i64 (i : Int) ∧ Hid (CPl C w3 noX g11 r ⟨ra, rn, rc, R, wa, wn, kw, Ws⟩ n ⟨1, 2, 3⟩ x x da dc va vc wx))
    case atStart => exact ⟨0, rn0, none, 0, none, 0, by omega, rfl, HP7⟩
    case round =>
      obtain ⟨i, x, da, dc, va, vc, hig, rfl, HP⟩ := hrel
      clear HP7
      cases gk with
      | zero =>
        obtain rfl : len = i := by omega
        clear HZ
        obtain ⟨O, hat, _⟩ := id HP.out.st
        have HRD := Lib.hid (C.reads hat)
        clear hat
        obtain ⟨dn, hdn⟩ : ∃ dn, dn = x.read.length := ⟨_, rfl⟩
        have HDN := Lib.hid hdn
        simp only [← hdn] at HRD
        clear hdn
        have HBX := Lib.hid (show ∀ W, Below w3.heap.size w3 W → Below w.heap.size w W from fun W hb => HB3.out.1.below.trans (hb.mono HB3.out.1.below.size))
        go_upto_region 24 with (go_at_call 18; (with_reducible refine HRD.out.mono ?_); rintro e w8 ⟨a8, c8, rfl, hr8, hb8⟩; have HP8 := Lib.hid (HP.out.later hb8); have HR8 := Lib.hid hr8; clear hb8 hr8)
        clear HRD HP
        go_wp2_with fail
        go_loopg [19] dn (fun g s19 wx => ∃ j k : Nat, j + g = dn ∧ s19 = .int .i64 (j : Int) ∧ wx = w8.drewN k)
        case atStart => exact ⟨0, 0, by omega, rfl, rfl⟩
        case round =>
          obtain ⟨j, k, hjg, rfl, rfl⟩ := hrel
          have HP9 := Lib.hid (HP8.out.later (crd_drewN (n := k) (Below.refl w8.heap.size w8)))
          have HR9 := Lib.hid (HR8.out.below (crd_drewN (n := k) (Below.refl w8.heap.size w8)))
          cases gk with
          | succ g2 =>
            have hjl : j < dn := by omega
            have hjz : (j : Int) < (dn : Int) := by omega
            have hrl : dn ≤ 1000 := HR8.out.2.1
            obtain ⟨b1, off1, rfl, hb1, _, k0, k1, k2, k3, k4⟩ := HR8.out.2.2.2 j hjl
            have hD := HP8.out.doc.rds
            rw [← HDN.out] at hD
            obtain ⟨b2, off2, hda, hb2, _, j0, j1, j2, j3, j4⟩ := hD.2.2.2 j hjl
            obtain ⟨c0, c1, c2, c3, c4, c5, c6, c7, f0⟩ := HP8.out.cells
            rw [← HDN.out] at c6
            obtain ⟨z, hz⟩ : ∃ z, z = x.read.getD j rd0 := ⟨_, rfl⟩
            rw [← hz] at k0 k1 k2 k3 k4 j0 j1 j2 j3 j4
            have HEQ := fun W => rd_neq z W
            obtain ⟨zk, zf, ⟨zt, zg, zv⟩⟩ := z
            simp only at k0 k1 k2 k3 k4 j0 j1 j2 j3 j4 HEQ
            subst hda
            have k5 : w8.cell? ⟨b1, off1 + j * 5 + 3, none⟩ = some (.bool zg) := k3
            have k6 : w8.cell? ⟨b1, off1 + j * 5 + 4, none⟩ = some (.string zv) := k4
            have j5 : w8.cell? ⟨b2, off2 + j * 5 + 3, none⟩ = some (.bool zg) := j3
            have j6 : w8.cell? ⟨b2, off2 + j * 5 + 4, none⟩ = some (.string zv) := j4
            clear hz hD hb1 hb2 c0 c1 c2 c3 c4 c5 c7
            go_wp2_with fail
            go_quiet (fail)
            go_wp2_with fail
            go_roundg g2
            case measure => omega
            case rel => exact ⟨j + 1, k + nq, by omega, by go_num, rfl⟩
          | zero =>
            obtain rfl : j = dn := by omega
            obtain ⟨w9, hw9⟩ : ∃ w9, w9 = w8.drewN k := ⟨_, rfl⟩
            rw [← hw9] at HP9
            rw [← hw9]
            clear hw9 HR9 HR8 HP8
            have hn5 := HN5.out.2
            go_wp2_with fail
            go_loopg [20] (n + 2) (fun g s20 wx => ∃ q : Int, s20 = .int .i64 q ∧ q + (g : Int) = (n : Int) + 1 ∧ -1 ≤ q ∧ Hid (CPl C w3 noX g11 r ⟨ra, rn, rc, R, wa, wn, kw, Ws⟩ n ⟨1, 2, 3⟩ x x da dc va vc wx))
            case atStart => exact ⟨-1, rfl, by omega, by omega, HP9⟩
            case round =>
              obtain ⟨q, rfl, hqg, hq1, HQ⟩ := hrel
              clear HP9
              cases gk with
              | zero =>
                have hqn : q = (n : Int) + 1 := by omega
                have g1 : ¬ q ≤ (n : Int) := by omega
                have g2 : decide (q ≤ (n : Int)) = false := decide_eq_false g1
                have HX1 := Lib.hid (show ∀ W, Below wr.heap.size wr W → W.cell? ⟨g8, 0, none⟩ = some (.int .i64 1) ∧ W.cell? ⟨g8, 1, none⟩ = some (.int .i64 2) ∧ W.cell? ⟨g8, 2, none⟩ = some (.int .i64 3) from fun W hb =>
                  cellsA3 (((HQ.out.later hb).base.block _ (Array.getElem?_eq_some_iff.1 HB3.out.2).1).trans HB3.out.2))
                have HX2 := Lib.hid (show ∀ W, Below wr.heap.size wr W → Calls Try.prog 22 #[.pointer (some r)] W fun e w' => e = .returned (.agg #[.int .i64 1, .int .i64 2, .int .i64 3]) ∧ Below W.heap.size W w' from fun W hb => by
                  obtain ⟨O, hat, _⟩ := (HQ.out.later hb).st
                  exact C.txn hat)
                clear hqn hqg hq1
                go_upto_region 34 with fail
                refine wp_region_flowU [8, 9] [6] [197, 198, 199, 200, 6] [] (psiX g8 r) 201 (by kernel_rfl) (by kernel_rfl) rfl (by kernel_rfl) (by kernel_rfl) [] [] (by kernel_rfl) (by kernel_rfl) (fun d hd => by cases hd) (fun x hx => by cases hx) (by kernel_rfl) (psiX_stable _ _) ?_ (txn_steps HX1 HX2) ?_
                · intro t ht w' _
                  simp only [List.mem_cons, List.not_mem_nil, or_false] at ht
                  rcases ht with rfl | rfl <;> rfl
                · intro f w' hb hnew
                  have h6 : f 6 = .bool true := hnew 6 (by decide)
                  have HBF := Lib.hid (HBX.out _ (HQ.out.later hb).base)
                  clear hnew hb HQ HX1 HX2
                  simp only [putAll, List.foldl_cons, List.foldl_nil, h6]
                  clear h6
                  dsimp only [Act.put]
                  simp only [List.setIfInBounds_toArray]
                  simp only [List.set_cons_succ, List.set_cons_zero]
                  go_wp2_with fail
                  go_ret
                  exact ⟨rfl, HBF.out⟩
              | succ g2 =>
                have g1 : q ≤ (n : Int) := by omega
                have g3 : decide (q ≤ (n : Int)) = true := decide_eq_true g1
                have HY1 := Lib.hid (show ∀ W, Below wr.heap.size wr W → Calls Try.prog 20 #[.pointer (some r), .int .i64 q] W fun e w' => ∃ a c, e = .returned (.slice a (partC n q Ws).length c) ∧ IsWqs w' a (partC n q Ws).length c (partC n q Ws) ∧ Below W.heap.size W w' from fun W hb => by
                  obtain ⟨O, hat, _⟩ := (HQ.out.later hb).st
                  exact (C.part hat q (by unfold Lit.wf; rw [Bool.and_eq_true, decide_eq_true_eq, decide_eq_true_eq]; exact ⟨(by show (-9223372036854775808 : Int) ≤ q; omega), (by show q ≤ 9223372036854775807; omega)⟩)).mono fun e w' ⟨a, m, c, h1, h2, h3⟩ => ⟨a, c, by rw [h1, h2.1], by rw [h2.1]; exact h2, h3⟩)
                have HY2 := Lib.hid (show ∀ W, Below wr.heap.size wr W → Calls Try.prog 21 #[.agg #[.slice ra rn rc, .slice wa wn kw, .int .i64 (n : Int), .int .i64 (x.stage : Int), .int .u64 (x.start : Int), .int .u64 (x.commit : Int), .slice da x.read.length dc, .slice va x.voted.length vc], .int .i64 q] W fun e w' => ∃ a c, e = .returned (.slice a (partC n q Ws).length c) ∧ IsWqs w' a (partC n q Ws).length c (partC n q Ws) ∧ Below W.heap.size W w' from fun W hb =>
                  (cpart_any ra rn rc wa wn kw n (x.stage : Int) x.start x.commit da x.read.length dc va x.voted.length vc Ws q W (HQ.out.later hb).doc.pg.2 HRW.out.2 (by have := HN5.out; omega)).mono fun e w' ⟨a, m, c, h1, h2, h3⟩ => ⟨a, c, by rw [h1, h2.1], by rw [h2.1]; exact h2, h3⟩)
                have HY3 := Lib.hid (show ∀ W, Below wr.heap.size wr W → W.cell? ⟨g11, 0, none⟩ = some (.slice ra rn rc) ∧ W.cell? ⟨g11, 1, none⟩ = some (.slice wa wn kw) ∧ W.cell? ⟨g11, 2, none⟩ = some (.int .i64 (n : Int)) ∧ W.cell? ⟨g11, 3, none⟩ = some (.int .i64 (x.stage : Int)) ∧ W.cell? ⟨g11, 4, none⟩ = some (.int .u64 (x.start : Int)) ∧ W.cell? ⟨g11, 5, none⟩ = some (.int .u64 (x.commit : Int)) ∧ W.cell? ⟨g11, 6, none⟩ = some (.slice da x.read.length dc) ∧ W.cell? ⟨g11, 7, none⟩ = some (.slice va x.voted.length vc) from fun W hb => by
                  have h := (HQ.out.later hb).cells
                  exact ⟨h.1, h.2.1, h.2.2.1, h.2.2.2.1, h.2.2.2.2.1, h.2.2.2.2.2.1, h.2.2.2.2.2.2.1, h.2.2.2.2.2.2.2.1⟩)
                go_upto_region 32 with fail
                go_cut [196] (fun s196 wx => s196 = .bool false ∧ Hid (CPl C w3 noX g11 r ⟨ra, rn, rc, R, wa, wn, kw, Ws⟩ n ⟨1, 2, 3⟩ x x da dc va vc wx))
                case first =>
                  refine wp_region_flowU [9, 11, 20] [196] [189, 190, 191, 192, 193, 194, 195, 196] [] (psiQ g11 r q #[.slice ra rn rc, .slice wa wn kw, .int .i64 (n : Int), .int .i64 (x.stage : Int), .int .u64 (x.start : Int), .int .u64 (x.commit : Int), .slice da x.read.length dc, .slice va x.voted.length vc] (partC n q Ws)) 201 (by kernel_rfl) (by kernel_rfl) rfl (by kernel_rfl) (by kernel_rfl) [] [] (by kernel_rfl) (by kernel_rfl) (fun d hd => by cases hd) (fun x hx => by cases hx) (by kernel_rfl) (psiQ_stable _ _ _ _ _) ?_ (part_steps HY3 HY1 HY2) ?_
                  · intro t ht w' _
                    simp only [List.mem_cons, List.not_mem_nil, or_false] at ht
                    rcases ht with rfl | rfl | rfl <;> rfl
                  · intro f w' hb hnew
                    have h196 : f 196 = .bool false := hnew 196 (by decide)
                    have HSf := Lib.hid (HQ.out.later hb)
                    clear hnew hb HQ HY1 HY2 HY3
                    simp only [putAll, List.foldl_cons, List.foldl_nil, h196]
                    clear h196
                    dsimp only [Act.put]
                    simp only [List.setIfInBounds_toArray]
                    simp only [List.set_cons_succ, List.set_cons_zero]
                    go_wp2_with fail
                    go_meet
                    case rel => exact ⟨rfl, HSf⟩
                case rest =>
                  obtain ⟨rfl, HQ2⟩ := hcut
                  clear HQ HY1 HY2 HY3
                  go_wp2_with fail
                  go_roundg g2
                  case measure => omega
                  case rel => exact ⟨q + 1, by go_num, by omega, by omega, HQ2⟩
      | succ g =>
        have hil : i < len := by omega
        have hiz : (i : Int) < (len : Int) := by omega
        have HBW := Lib.hid (show ∀ W, Below w3.heap.size w3 W → Below w.heap.size w W from fun W hb => HB3.out.1.below.trans (hb.mono HB3.out.1.below.size))
        obtain ⟨b, off, rfl, hbl, hok, k0, k1, k2, k3, k4, k5, k6, k7, k8⟩ := (HZ.out.below (HBW.out _ HP.out.base)).2.2.2 i hil
        obtain ⟨o, ho⟩ : ∃ o, o = L.getD i cq0 := ⟨_, rfl⟩
        rw [← ho] at hok k0 k1 k2 k3 k4 k5 k6 k7 k8
        obtain ⟨kind, time, ⟨xk, xf, ⟨vt, vg, vv⟩⟩, node, good⟩ := o
        simp only at k0 k1 k2 k3 k4 k5 k6 k7 k8
        have HOK := Lib.hid hok
        have HA1 := Lib.hid (HP.out.add #[.int .u8 (kind : Int), .int .u64 (time : Int), .string xk, .bool xf, .int .u64 (vt : Int), .bool vg, .string vv, .int .i64 node, .bool good])
        clear ho hok hbl HZ
        go_upto_region 15 with fail
        obtain ⟨w8, hw8⟩ : ∃ w8, w8 = wr.alloc (.cells #[.int .u8 (kind : Int), .int .u64 (time : Int), .string xk, .bool xf, .int .u64 (vt : Int), .bool vg, .string vv, .int .i64 node, .bool good] 47) := ⟨_, rfl⟩
        obtain ⟨g13, hg13⟩ : ∃ g13, g13 = wr.heap.size := ⟨_, rfl⟩
        rw [← hw8, ← hg13] at HA1
        rw [← hw8, ← hg13]
        clear hw8 hg13 k0 k1 k2 k3 k4 k5 k6 k7 k8 HP
        obtain ⟨o0, o1, o2, o3, o4, o5, o6, o7, o8⟩ := HA1.out.opc
        obtain ⟨c0, c1, c2, c3, c4, c5, c6, c7, f0⟩ := HA1.out.cells
        obtain ⟨K1, hK1⟩ : ∃ K1, ((kind : Int) % 5 == 1) = K1 := ⟨_, rfl⟩
        obtain ⟨S2, hS2⟩ : ∃ S2, ((x.stage : Int) == 2) = S2 := ⟨_, rfl⟩
        have HS2 := Lib.hid hS2
        go_cut [79] (fun s79 wx => s79 = .bool (K1 && good && S2) ∧ wx = w8)
        case first =>
          cases K1 with
          | false =>
            go_wp2_with fail
            go_meet
            case rel => exact ⟨rfl, rfl⟩
          | true =>
            cases good with
            | false =>
              go_wp2_with fail
              go_meet
              case rel => exact ⟨rfl, rfl⟩
            | true =>
              go_wp2_with fail
              go_meet
              case rel => exact ⟨rfl, rfl⟩
        case rest =>
          obtain ⟨rfl, rfl⟩ := hcut
          obtain ⟨G, hG⟩ : ∃ G, (K1 && good && S2) = G := ⟨_, rfl⟩
          rw [hG]
          have HG := Lib.hid hG
          clear hG hK1 hS2
          go_upto_if 79 with fail
          go_cut [] (fun wx => ∃ o' : Cq, o'.ok ∧ Hid (CPl C w3 (OpX g13 o'.cells) g11 r ⟨ra, rn, rc, R, wa, wn, kw, Ws⟩ n ⟨1, 2, 3⟩ x x da dc va vc wx))
          case first =>
            cases G with
            | false =>
              go_wp2_with fail
              go_meet
              case rel => exact ⟨⟨kind, time, ⟨xk, xf, ⟨vt, vg, vv⟩⟩, node, good⟩, HOK.out, HA1⟩
            | true =>
              have hS2 : S2 = true := by have := HG.out; revert this; cases S2 <;> simp
              have h2 : x.stage = 2 := by have := HS2.out; rw [hS2, beq_iff_eq] at this; omega
              have hlt := HA1.out.doc.ok.left h2
              simp only at hlt
              rw [HRN.out] at hlt
              obtain ⟨dn, hdn⟩ : ∃ dn, dn = x.read.length := ⟨_, rfl⟩
              rw [← hdn] at hlt c6
              have hdz : (dn : Int) < (rn : Int) := by omega
              obtain ⟨b1, off1, hra, hbl1, hks, j0⟩ := (HPG.out.1.below (HBW.out _ HA1.out.base)).2.2 dn hlt
              simp only at hra
              obtain ⟨K, hK⟩ : ∃ K, K = R.getD dn ⟨#[]⟩ := ⟨_, rfl⟩
              rw [← hK] at j0 hks
              have HKS : Hid (K.size ≤ 140737488355328) := Lib.hid (by
                have g1 : R.length ≤ 20 := HFW.out.2.2.1
                have g2 : R.length = rn := HRN.out
                have g3 : (R.getD dn ⟨#[]⟩).size ≤ 300 := HFW.out.1 dn (show dn < R.length by omega) (by omega)
                rw [← hK] at g3
                omega)
              have a0 : wc.cell? ⟨w.heap.size, 0, none⟩ = some (.slice ra rn rc) := by rw [(HB3.out.1.later HA1.out.base).c0]; rfl
              have fz := HA1.out.frz
              have HN := Lib.hid ((((((HA1.out.later (Below.refl _ _).drew).put (i := 2) (v := .string K)).put (i := 3) (v := .bool xf)).put (i := 4) (v := .int .u64 (vt : Int))).put (i := 5) (v := .bool vg)).put (i := 6) (v := .string vv))
              subst hra
              clear hlt hdn hK hbl1 hks h2 hS2
              go_upto_region 16 with fail
              go_still_tail 15, (by kernel_rfl)
              change wpList _ _ _ _ _ wc.drew
              go_wp2_with fail
              go_meet
              case rel => exact ⟨⟨kind, time, ⟨K, xf, ⟨vt, vg, vv⟩⟩, node, good⟩, ⟨HOK.out.1, HOK.out.2.1, ⟨HKS.out, HOK.out.2.2.1.2⟩, HOK.out.2.2.2⟩, HN⟩
          case rest =>
            obtain ⟨o, hok, HA2⟩ := hcut
            clear HA1 HOK o0 o1 o2 o3 o4 o5 o6 o7 o8 c0 c1 c2 c3 c4 c5 c6 c7 f0 HG HS2
            have HOK := Lib.hid hok
            clear hok
            have HT := Lib.hid (HA2.out.tell o HOK.out)
            obtain ⟨kind, time, ⟨xk, xf, ⟨vt, vg, vv⟩⟩, node, good⟩ := o
            unfold Cq.cells at HT HA2
            simp only at HT HA2
            obtain ⟨o0, o1, o2, o3, o4, o5, o6, o7, o8⟩ := HA2.out.opc
            obtain ⟨y, hy⟩ : ∃ y, y = tellR ⟨R, Ws, n⟩ x ⟨kind, time, ⟨xk, xf, ⟨vt, vg, vv⟩⟩, node, good⟩ := ⟨_, rfl⟩
            rw [← hy] at HT
            go_upto_region 18 with (go_at_call 10; (with_reducible refine HT.out.mono ?_); rintro e w9 ⟨rfl, hp9⟩; have HA3 := Lib.hid hp9; clear hp9)
            clear HT o0 o1 o2 o3 o4 o5 o6 o7 o8 HA2
            have HD := Lib.hid (cdo_any ⟨ra, rn, rc, R, wa, wn, kw, Ws⟩ n x da dc va vc ⟨kind, time, ⟨xk, xf, ⟨vt, vg, vv⟩⟩, node, good⟩ w9 HA3.out.doc HOK.out)
            obtain ⟨o0, o1, o2, o3, o4, o5, o6, o7, o8⟩ := HA3.out.opc
            obtain ⟨c0, c1, c2, c3, c4, c5, c6, c7, f0⟩ := HA3.out.cells
            unfold CdoRes runQ runCells Cq.cells at HD
            simp only at HD c0 c1 c2
            rw [← hy] at HD
            have HY := Lib.hid hy
            clear hy
            go_upto_region 19 with (first
              | (go_at_call 11; (with_reducible refine HD.out.mono ?_); rintro e w10 ⟨da', dc', va', vc', rfl, hd10, hb10, hn1, hn2⟩; have HA4 := Lib.hid (HA3.out.did hb10 hd10 hn1 hn2); have HX10 := Lib.hid (HA3.out.later hb10).box; clear hb10 hd10 hn1 hn2)
              | (unfold runQ runCells at HX10; refine wpList_store_row rfl 40 _ _ rfl g11 #[.slice ra rn rc, .slice wa wn kw, .int .i64 (n : Int), .int .i64 (y.stage : Int), .int .u64 (y.start : Int), .int .u64 (y.commit : Int), .slice da' y.read.length dc', .slice va' y.voted.length vc'] rfl rfl 40 _ HX10.out runSize rfl (by simp [Value.oneCell']) ?_))
            clear HX10 HD HA3 o0 o1 o2 o3 o4 o5 o6 o7 o8 c0 c1 c2 c3 c4 c5 c6 c7 f0
            unfold runQ runCells at HA4
            simp only at HA4
            obtain ⟨w11, hw11⟩ : ∃ w11, w11 = w10.setRow g11 #[.slice ra rn rc, .slice wa wn kw, .int .i64 (n : Int), .int .i64 (y.stage : Int), .int .u64 (y.start : Int), .int .u64 (y.commit : Int), .slice da' y.read.length dc', .slice va' y.voted.length vc'] := ⟨_, rfl⟩
            rw [← hw11] at HA4
            rw [← hw11]
            have HA5 := Lib.hid HA4.out.drop
            clear hw11 HA4 HOK HY
            have HTM := Lib.hid (CSt.timesC HA5.out.st)
            go_upto_region 20 with (go_at_call 12; (with_reducible refine HTM.out.mono ?_); rintro e w12 ⟨rfl, _, hb12⟩; have HA6 := Lib.hid (HA5.out.later hb12); clear hb12)
            clear HTM HA5
            obtain ⟨O, hat, _⟩ := id HA6.out.st
            have HNX := Lib.hid (C.next hat)
            clear hat
            by_cases h2 : y.stage = 2
            · rw [if_pos h2] at HNX
              go_upto_region 21 with (go_at_call 13; (with_reducible refine HNX.out.mono ?_); rintro e w13 ⟨rfl, hb13⟩; have HA7 := Lib.hid (HA6.out.later hb13); clear hb13)
              clear HNX HA6
              obtain ⟨b2, K, hKK, hG⟩ := HA7.out.playG HB3.out.1
              rw [decide_eq_true h2] at hG
              have HG := Lib.hid hG
              have HKK := Lib.hid hKK
              clear hG hKK
              go_cut [165] (fun s165 wx => s165 = .bool false ∧ Hid (CPl C w3 noX g11 r ⟨ra, rn, rc, R, wa, wn, kw, Ws⟩ n ⟨1, 2, 3⟩ y y da' dc' va' vc' wx))
              case first =>
                refine wp_region_flowU [3, 9, 11, 14, 15, 16, 17] [165] [111, 112, 113, 114, 115, 116, 117, 118, 119, 120, 121, 122, 123, 124, 125, 126, 127, 128, 129, 130, 131, 132, 133, 134, 135, 136, 137, 138, 139, 140, 141, 142, 143, 144, 145, 146, 147, 148, 149, 150, 151, 152, 153, 154, 155, 156, 157, 158, 159, 160, 161, 162, 163, 164, 165] [(116, false), (122, false), (128, false), (135, false), (137, true), (149, false), (157, false)] (psiG w.heap.size g11 y.read.length r r ra rn rc da' dc' b2 K (y.stage : Int) y.start y.commit true #[.slice ra rn rc, .slice wa wn kw, .int .i64 (n : Int), .int .i64 (y.stage : Int), .int .u64 (y.start : Int), .int .u64 (y.commit : Int), .slice da' y.read.length dc', .slice va' y.voted.length vc'] (waitsP ⟨R, Ws, n⟩ y)) 201 (by kernel_rfl) (by kernel_rfl) rfl (by kernel_rfl) (by kernel_rfl) [] [] (by kernel_rfl) (by kernel_rfl) ?_ ?_ (by kernel_rfl) (psiG_stable _ _ _ _ _ _ _ _ _ _ _ _ _ _ _ _ _ _) ?_ (coord_steps true HG) ?_
                · intro d hd w
                  simp only [List.mem_cons, List.not_mem_nil, or_false] at hd
                  
                · intro x hx v w hv
                  simp only [List.mem_cons, List.not_mem_nil, or_false] at hx
                  rcases hx with rfl | rfl | rfl | rfl | rfl | rfl | rfl <;> exact hv
                · intro t ht w' _
                  simp only [List.mem_cons, List.not_mem_nil, or_false] at ht
                  rcases ht with rfl | rfl | rfl | rfl | rfl | rfl | rfl
                  · rfl
                  · rfl
                  · rfl
                  · rfl
                  · rfl
                  · exact (fun _ => by rw [HKK.out h2]; rfl)
                  · rfl
                · intro f w' hb hnew
                  have h165 : f 165 = .bool false := hnew 165 (by decide)
                  have HSf := Lib.hid (HA7.out.later hb)
                  clear hnew hb HA7 HG
                  simp only [putAll, List.foldl_cons, List.foldl_nil, h165]
                  clear h165
                  dsimp only [Act.put]
                  simp only [List.setIfInBounds_toArray]
                  simp only [List.set_cons_succ, List.set_cons_zero]
                  go_wp2_with fail
                  go_meet
                  case rel => exact ⟨rfl, HSf⟩
              case rest =>
                obtain ⟨rfl, HA8⟩ := hcut
                clear HA7 HG
                go_wp2_with fail
                go_roundg g
                case measure => omega
                case rel => exact ⟨i + 1, y, da', dc', va', vc', by omega, by go_num, HA8⟩
            · rw [if_neg h2] at HNX
              go_upto_region 21 with (go_at_call 13; (with_reducible refine HNX.out.mono ?_); rintro e w13 ⟨rfl, hb13⟩; have HA7 := Lib.hid (HA6.out.later hb13); clear hb13)
              clear HNX HA6
              obtain ⟨b2, K, hKK, hG⟩ := HA7.out.playG HB3.out.1
              rw [decide_eq_false h2] at hG
              have HG := Lib.hid hG
              have HKK := Lib.hid hKK
              clear hG hKK
              go_cut [165] (fun s165 wx => s165 = .bool false ∧ Hid (CPl C w3 noX g11 r ⟨ra, rn, rc, R, wa, wn, kw, Ws⟩ n ⟨1, 2, 3⟩ y y da' dc' va' vc' wx))
              case first =>
                refine wp_region_flowU [3, 9, 11, 14, 15, 16, 17] [165] [111, 112, 113, 114, 115, 116, 117, 118, 119, 120, 121, 122, 123, 124, 125, 126, 127, 128, 129, 130, 131, 132, 133, 134, 135, 136, 137, 138, 139, 140, 141, 142, 143, 144, 145, 146, 147, 148, 149, 150, 151, 152, 153, 154, 155, 156, 157, 158, 159, 160, 161, 162, 163, 164, 165] [(116, false), (122, false), (128, false), (135, false), (137, false), (149, false), (157, false)] (psiG w.heap.size g11 y.read.length r r ra rn rc da' dc' b2 K (y.stage : Int) y.start y.commit false #[.slice ra rn rc, .slice wa wn kw, .int .i64 (n : Int), .int .i64 (y.stage : Int), .int .u64 (y.start : Int), .int .u64 (y.commit : Int), .slice da' y.read.length dc', .slice va' y.voted.length vc'] (waitsP ⟨R, Ws, n⟩ y)) 201 (by kernel_rfl) (by kernel_rfl) rfl (by kernel_rfl) (by kernel_rfl) [27, 28, 29, 30, 31, 32, 33, 34, 35] [138, 139, 140, 141, 142, 143, 144, 145, 146] (by kernel_rfl) (by kernel_rfl) ?_ ?_ (by kernel_rfl) (psiG_stable _ _ _ _ _ _ _ _ _ _ _ _ _ _ _ _ _ _) ?_ (coord_steps false HG) ?_
                · intro d hd w
                  simp only [List.mem_cons, List.not_mem_nil, or_false] at hd
                  try (rcases hd with rfl | rfl | rfl | rfl | rfl | rfl | rfl | rfl | rfl <;> exact (fun e => by cases e))
                · intro x hx v w hv
                  simp only [List.mem_cons, List.not_mem_nil, or_false] at hx
                  rcases hx with rfl | rfl | rfl | rfl | rfl | rfl | rfl <;> exact hv
                · intro t ht w' _
                  simp only [List.mem_cons, List.not_mem_nil, or_false] at ht
                  rcases ht with rfl | rfl | rfl | rfl | rfl | rfl | rfl
                  · rfl
                  · rfl
                  · rfl
                  · rfl
                  · rfl
                  · exact (fun e => by cases e)
                  · rfl
                · intro f w' hb hnew
                  have h165 : f 165 = .bool false := hnew 165 (by decide)
                  have HSf := Lib.hid (HA7.out.later hb)
                  clear hnew hb HA7 HG
                  simp only [putAll, List.foldl_cons, List.foldl_nil, h165]
                  clear h165
                  dsimp only [Act.put]
                  simp only [List.setIfInBounds_toArray]
                  simp only [List.set_cons_succ, List.set_cons_zero]
                  go_wp2_with fail
                  go_meet
                  case rel => exact ⟨rfl, HSf⟩
              case rest =>
                obtain ⟨rfl, HA8⟩ := hcut
                clear HA7 HG
                go_wp2_with fail
                go_roundg g
                case measure => omega
                case rel => exact ⟨i + 1, y, da', dc', va', vc', by omega, by go_num, HA8⟩
  · have f1 : (M == 0) = false := by rw [beq_eq_false_iff_ne]; exact hm0
    have HM3 : Hid (Calls Try.prog 7 #[.agg #[.int .i64 1, .int .i64 2, .int .i64 3], .agg #[.slice ra rn rc, .slice wa wn kw], .int .i64 (n : Int)] w3 fun e w' => e = .returned (.tuple #[.pointer none, .int .i64 M]) ∧ Below w3.heap.size w3 w') := Lib.hid (HM2.out.mono fun e w' h => by
      rcases h with ⟨h1, _⟩ | ⟨_, h1, h2⟩
      · exact absurd h1 hm0
      · exact ⟨h1, h2⟩)
    clear HM2 hm0
    go_upto_region 6 with (go_at_call 7; (with_reducible refine HM3.out.mono ?_); rintro e w4 ⟨rfl, hb4⟩; have HC4 := Lib.hid (HB3.out.1.later hb4); clear hb4)
    clear HM3 q0 q1 q2 c0 c1
    have c0 : w4.cell? ⟨w.heap.size, 0, none⟩ = some (.slice ra rn rc) := by rw [HC4.out.c0]; rfl
    have c1 : w4.cell? ⟨w.heap.size, 1, none⟩ = some (.slice wa wn kw) := by rw [HC4.out.c0]; rfl
    go_wp2_with (go_at_call 8; (with_reducible refine (HMY.out _ HC4.out.below).mono ?_); rintro e w5 ⟨rfl, hb5⟩; have HC5 := Lib.hid (HC4.out.later hb5); clear hb5)
    go_ret
    exact ⟨rfl, HC5.out.below⟩
end Go.Proofs.Ytdldplhfpianhaa
