/-
  MvccBad from what is asked of the program's store and blocks.
-/
import Derived.Test.YtdcefhhmddjodaaMvcBadM
import Derived.Test.YtdcefhhmddjodaaMvcBadNo
import Derived.BigQuiet
import Derived.WalkSmall
import Derived.Deep.QuietTactic
namespace Go.Proofs.Ytdcefhhmddjodaa
open Go.RowKit
set_option linter.unusedVariables false
set_option linter.unnecessarySimpa false
set_option linter.unusedSimpArgs false
set_option maxRecDepth 100000

/-- The entry that is one more, in its box. -/
structure BadBox (w : World) (p g M R : Nat) (wd : World) : Prop where
  below : Below w.heap.size w wd
  hp : w.heap.size ≤ p
  hg : w.heap.size ≤ g
  vrow : wd.heap[g]? = some (.cells #[.int .u64 1, .bool false, .string (zb R)] 35 (0, 0))
  row : wd.heap[p]? = some (.cells #[.string (badK M), .slice (some ⟨g, 0, none⟩) 1 1] 73 (0, 0))
theorem BadBox.later {w wd w' : World} {p g M R : Nat} (h : BadBox w p g M R wd) (hb : Below wd.heap.size wd w') : BadBox w p g M R w' :=
  ⟨h.below.trans (hb.mono h.below.size), h.hp, h.hg, (hb.block g (Array.getElem?_eq_some_iff.1 h.vrow).1).trans h.vrow, (hb.block p (Array.getElem?_eq_some_iff.1 h.row).1).trans h.row⟩
/-- The table's box, and the entry's. -/
structure BadSt (w : World) (g5 p g M R : Nat) (wd : World) : Prop where
  below : Below w.heap.size w wd
  tb : wd.heap[g5]? = some (.cells tab 55 (0, 0))
  vrow : wd.heap[g]? = some (.cells #[.int .u64 1, .bool false, .string (zb R)] 35 (0, 0))
  row : wd.heap[p]? = some (.cells #[.string (badK M), .slice (some ⟨g, 0, none⟩) 1 1] 73 (0, 0))
theorem BadSt.later {w wd w' : World} {g5 p g M R : Nat} (h : BadSt w g5 p g M R wd) (hb : Below wd.heap.size wd w') : BadSt w g5 p g M R w' :=
  ⟨h.below.trans (hb.mono h.below.size), (hb.block g5 (Array.getElem?_eq_some_iff.1 h.tb).1).trans h.tb, (hb.block g (Array.getElem?_eq_some_iff.1 h.vrow).1).trans h.vrow, (hb.block p (Array.getElem?_eq_some_iff.1 h.row).1).trans h.row⟩
theorem BadSt.drewN {w wd : World} {g5 p g M R : Nat} (h : BadSt w g5 p g M R wd) (n : Nat) : BadSt w g5 p g M R (wd.drewN n) := h.later (below_drewN (Below.refl _ _) n)

set_option maxHeartbeats 8000000 in
theorem bad_yes (S : MvcD) (a : Option Addr) (len cap : Nat) (es : List En) (N : Nat) (hN : N < 65536) (w : World) (hz : IsEnts w a len cap es)
    (hf : fewB es 10 = true) (hr : rightE es = true) :
    Calls Try.prog 5 #[.slice a len cap, .int .u16 (N : Int)] w fun e w' => e = .returned (.bool true) ∧ Below w.heap.size w w' := by
  have haw := Lib.hid (mawake_any S.toMvcC)
  have hmk := Lib.hid make_any
  have HF1 := Lib.hid (fun W (hb : Below w.heap.size w W) => bfew_any a len cap 10 es W (hz.below hb) (by omega))
  have HG1 := Lib.hid (fun W (hb : Below w.heap.size w W) => bright_any a len cap es W (hz.below hb))
  rw [show ((10 : Nat) : Int) = 10 from rfl, hf] at HF1
  rw [hr] at HG1
  have hfe := fewB_true.1 hf
  have hl10 : len ≤ 10 := by rw [← hz.1.1]; exact hfe.2
  have HZ := Lib.hid hz
  have HFE := Lib.hid hfe
  have HR := Lib.hid hr
  have HN := Lib.hid hN
  obtain ⟨M, hM⟩ : ∃ M, M = N % 200 := ⟨_, rfl⟩
  obtain ⟨Q, hQ⟩ : ∃ Q, Q = N / 200 := ⟨_, rfl⟩
  obtain ⟨R, hR⟩ : ∃ R, R = N / 200 * 2 := ⟨_, rfl⟩
  have HMM := Lib.hid hM
  have HQQ := Lib.hid hQ
  have HRR := Lib.hid hR
  have HB0 := Lib.hid (And.intro (show M < 200 by omega) (show R ≤ 654 by omega))
  clear hz hf hr hfe hN hM hQ hR
  go_enter Try.func5, Try.ntmps5
  go_upto_region 3 with (first
    | (go_at_call 7; refine (haw.out _).mono ?_; rintro e w1 ⟨rfl, hb1⟩; have HB1 := Lib.hid hb1; clear hb1)
    | (go_at_call 28; (with_reducible refine (HF1.out _ HB1.out).mono ?_); rintro e w2 ⟨rfl, rfl⟩)
    | (go_at_call 29; (with_reducible refine (HG1.out _ HB1.out).mono ?_); rintro e w3 ⟨rfl, hb3⟩; have HB3 := Lib.hid (HB1.out.trans (hb3.mono HB1.out.size)); clear hb3))
  clear HF1 HG1 haw HB1
  go_upto_region 4 with (first
    | (go_at_call 22; refine (hmk.out _).mono ?_; rintro e w4 ⟨rfl, hb4⟩; have HB4 := Lib.hid (HB3.out.trans (hb4.mono HB3.out.size)); clear hb4)
    | (refine wpList_store_row rfl 55 _ _ rfl w4.heap.size tab rfl rfl 55 (Array.replicate 256 (.int .u32 0)) (heap_alloc_last w4 _) tableSize zeroTable_size tab_one ?_; rw [World.setRow_alloc_new]; dsimp only [Act.put]))
  have ht5 := heap_alloc_new w4 (.cells tab 55)
  have hb5 := HB4.out.trans (((Below.refl w4.heap.size w4).alloc (Nat.le_refl _) (.cells tab 55)).mono HB4.out.size)
  obtain ⟨g5, hg5⟩ : ∃ g5, g5 = w4.heap.size := ⟨_, rfl⟩
  rw [← hg5] at ht5 ⊢
  obtain ⟨w5, hw5⟩ : ∃ w5, w5 = w4.alloc (.cells tab 55) := ⟨_, rfl⟩
  rw [← hw5] at ht5 hb5 ⊢
  have HB5 := Lib.hid (And.intro hb5 ht5)
  clear hg5 hw5 ht5 hb5 hmk HB3 HB4
  go_cut [6] (fun s6 wd => ∃ (p g : Nat), s6 = .pointer (some ⟨p, 0, none⟩) ∧ Hid (BadBox w5 p g M R wd))
  case first =>
    have HBS := bad_steps (w0 := w5) N M Q R HN.out HMM HQQ HRR
    clear HB5 HB0 HZ HFE HR hl10
    refine wp_region_S2 [1] [] [26, 27, 28, 29, 30, 31, 32, 33, 34, 35, 36, 37, 38, 39, 40, 6] _ (psiB w5.heap.size N M Q R) (tsB w5.heap.size M R) 6 40 16 98 (by kernel_rfl) (by kernel_rfl) rfl (by kernel_rfl) (by kernel_rfl) (by kernel_rfl) (by kernel_rfl) ?_ HBS ?_
    · intro t ht w' _
      unfold psiB
      split <;> first | trivial | rfl | exact absurd ht (by decide)
    · intro f w' hb hnew hts
      obtain ⟨p, g, h6, hp, hg, hvr, hrow⟩ := hts
      have HDI := Lib.hid (show BadBox w5 p g M R w' from ⟨hb, hp, hg, hvr, hrow⟩)
      clear hnew hb hp hg hvr hrow HBS
      simp only [putAll, List.foldl_cons, List.foldl_nil, h6]
      clear h6
      dsimp only [Act.put]
      simp only [List.setIfInBounds_toArray]
      simp only [List.set_cons_succ, List.set_cons_zero]
      go_wp2_with fail
      go_meet
      case rel => exact ⟨p, g, rfl, HDI⟩
  case rest =>
    obtain ⟨p, g, rfl, HD⟩ := hcut
    have HS := Lib.hid (show BadSt w g5 p g M R wc from ⟨HB5.out.1.trans (HD.out.below.mono HB5.out.1.size), (HD.out.below.block g5 (Array.getElem?_eq_some_iff.1 HB5.out.2).1).trans HB5.out.2, HD.out.vrow, HD.out.row⟩)
    clear HD HB5 HMM HQQ HRR HN
    obtain ⟨KK, hKK⟩ : ∃ KK, KK = badK M := ⟨_, rfl⟩
    have HKK := Lib.hid hKK
    obtain ⟨G, hG⟩ : ∃ G, G = (decide (0 < len) && !Op.bytesLess (lastS es).toList KK.toList) := ⟨_, rfl⟩
    have HG := Lib.hid hG
    go_upto_region 5 with fail
    go_cut [55] (fun s55 wd => s55 = .bool G ∧ Hid (BadSt w g5 p g M R wd))
    case first =>
      have hrow := HS.out.row
      rw [← hKK] at hrow
      have p0 : wc.cell? ⟨p, 0, none⟩ = some (.string KK) := by rw [cell_of_row _ _ _ _ _ _ hrow]; rfl
      cases len with
      | zero =>
        obtain rfl : G = false := by rw [hG]; rfl
        clear hG hKK hrow HZ HFE HR HG
        go_quiet (fail)
        go_wp2_with fail
        go_meet
        case rel => exact ⟨rfl, Lib.hid (HS.out.drewN nq)⟩
      | succ k =>
        obtain ⟨b, off, rfl, hbl, hs, k0, _⟩ := (HZ.out.below HS.out.below).1.2 k (Nat.lt_succ_self k)
        have hla : lastS es = (es.getD k en0).key := by unfold lastS; rw [HZ.out.1.1]; rfl
        rw [← hla] at k0
        obtain ⟨KL, hKL⟩ : ∃ KL, KL = lastS es := ⟨_, rfl⟩
        rw [← hKL] at k0 hG
        have i1 : IntKind.i64.wrap (((k + 1 : Nat) : Int) - 1) = (k : Int) := by rw [IntWalk.i64_in _ (by omega)]; omega
        have i2 : IntKind.i64.wrap ((k : Int) + 1 - 1) = (k : Int) := by rw [IntWalk.i64_in _ (by omega)]; omega
        have i3 : (0 : Int) < ((k + 1 : Nat) : Int) := by omega
        have i4 : (k : Int) < ((k + 1 : Nat) : Int) := by omega
        obtain ⟨lt, hlt⟩ : ∃ lt, Op.bytesLess KL.toList KK.toList = lt := ⟨_, rfl⟩
        rw [hlt] at hG
        obtain rfl : G = !lt := by rw [hG]; simp
        clear hG hKK hrow HZ HFE HR HG hs hla hKL
        go_quiet (fail)
        go_wp2_with fail
        go_meet
        case rel => exact ⟨rfl, Lib.hid (HS.out.drewN nq)⟩
    case rest =>
      obtain ⟨rfl, HS1⟩ := hcut
      clear HS HG
      have hcs : G = false → len = 0 ∨ ltS (lastS es) (badK M) = true := fun e => by
        rw [e, hKK] at hG
        rcases Nat.eq_zero_or_pos len with h0 | h0
        · exact .inl h0
        · right
          rw [decide_eq_true h0, Bool.true_and] at hG
          unfold ltS
          cases hq : Op.bytesLess (lastS es).toList (badK M).toList with
          | true => rfl
          | false => rw [hq] at hG; cases hG
      clear hG
      cases G with
      | true =>
        clear hcs
        go_wp2_with fail
        go_ret
        exact ⟨rfl, HS1.out.below⟩
      | false =>
        have HMO := Lib.hid (more_out HZ.out HFE.out HR.out M R HB0.out.1 HB0.out.2 (hcs rfl))
        clear hcs hKK HKK
        obtain ⟨lp, hlp⟩ := ents_eps (HZ.out.below HS1.out.below) HR.out
        have HLP := Lib.hid hlp
        clear hlp
        obtain ⟨es', hes'⟩ : ∃ es', es' = es ++ [moreEn M R] := ⟨_, rfl⟩
        have HES := Lib.hid hes'
        obtain ⟨pk, hpk⟩ : ∃ pk, pk = packF (insideS es') := ⟨_, rfl⟩
        have hin : (insideS es').data.toList = insideB es' := by unfold insideS; simp
        have hsi : (insideS es').size = (insideB es').length := by rw [← hin]; simp
        have hil : (insideB es').length ≤ 60000 := by rw [hes']; exact HMO.out.ins
        have hPk := packF_ok w (insideS es') (by rw [hsi]; exact hil)
        rw [← hpk, hin] at hPk
        have hps : pk.size ≤ 90000 := by have := hPk.2; omega
        obtain ⟨im, him⟩ : ∃ im, im = blkS pk := ⟨_, rfl⟩
        have HLD1 := Lib.hid (fun W (hs : ¬ shortKV es') => S.loadLong W pk es' hps hPk.1 (by rw [hes']; exact HMO.out.right) (by rw [hes']; exact HMO.out.ok) hs)
        have HLD2 := Lib.hid (fun W (hs : shortKV es') => S.load W pk es' hps hPk.1 (by rw [hes']; exact HMO.out.right) (by rw [hes']; exact HMO.out.ok) hs)
        have HIM := Lib.hid (show im = blkS (packF (insideS (es ++ [moreEn M R]))) by rw [him, hpk, hes'])
        rw [← him] at HLD1 HLD2
        clear hin hsi hil hPk hps him hpk hes'
        go_upto_region 7 with fail
        go_cut [7, 8] (fun s7 s8 wd => s7 = .string im ∧ s8 = .int .i64 0 ∧ Hid (BadSt w g5 p g M R wd))
        case first =>
          have HT := Lib.hid (fun W (hb : Below wc.heap.size wc W) => (hb.block g5 (Array.getElem?_eq_some_iff.1 HS1.out.tb).1).trans HS1.out.tb)
          have HP := Lib.hid (show ∀ W, Below wc.heap.size wc W → W.cell? ⟨p, 0, none⟩ = some (.string (badK M)) ∧ W.cell? ⟨p, 1, none⟩ = some (.slice (some ⟨g, 0, none⟩) 1 1) from fun W hb => by
            have hrow := (hb.block p (Array.getElem?_eq_some_iff.1 HS1.out.row).1).trans HS1.out.row
            exact ⟨by rw [cell_of_row _ _ _ _ _ _ hrow]; rfl, by rw [cell_of_row _ _ _ _ _ _ hrow]; rfl⟩)
          have HL := Lib.hid (show len = 0 ∨ (0 < len ∧ ∃ ad, a = some ad ∧ ∀ W, Below wc.heap.size wc W → ∀ j u, (entC lp)[j]? = some u → W.cell? (ad.add j) = some u) from HLP.out.cells.imp id fun ⟨h0, b, off, ha, hb, hc⟩ => ⟨h0, _, ha, fun W hbW j u hj => by
            rw [Addr.add_lit]
            exact (hbW.cell (p := ⟨b, off + j, none⟩) hb).trans (hc j u hj)⟩)
          have HE := Lib.hid (show ∀ W g' c, Below wc.heap.size wc W → W.ownsRow wc.heap.size 73 2 (.slice (some ⟨g', 0, none⟩) (len + 1) c) (len + 1) (entC lp ++ moreC (badK M) g) →
              Calls Try.prog 30 #[.agg tab, .slice (some ⟨g', 0, none⟩) (len + 1) c] W fun e w' => e = .returned (.tuple #[.string im, .int .i64 0]) ∧ Below W.heap.size W w' from fun W g' c hb ho =>
            (bencode_yes (some ⟨g', 0, none⟩) (len + 1) c (es ++ [moreEn M R]) W (more_ents HLP.out (fun e he => ((fewOut HZ.out HFE.out).small e he).1) hl10 HB0.out.1 HB0.out.2 HS1.out.vrow hb ho) (by omega) HMO.out.small HMO.out.right HMO.out.ins).mono fun e w' h => ⟨by rw [h.1, HIM.out], h.2.2.2⟩)
          have HBS := more_steps g5 p a len cap lp (badK M) g im HLP.out.count hl10 HT HP HL HE
          clear HT HP HL HE HLD1 HLD2 HIM HMO HZ HFE HR HB0 HES
          refine wp_region_K2 [0, 5, 6] [7, 8] [57, 58, 59, 60, 61, 62, 63, 64, 56, 65, 66, 7, 8] _ (psiE wc.heap.size g5 p a len cap lp (badK M) g im) 98 (by kernel_rfl) (by kernel_rfl) rfl (by kernel_rfl) (by kernel_rfl) (by kernel_rfl) ?_ HBS ?_
          · intro t ht w' _
            unfold psiE
            split <;> first | trivial | rfl | exact absurd ht (by decide)
          · intro f w' hb hnew
            have h7 : f 7 = .string im := hnew 7 (by decide)
            have h8 : f 8 = .int .i64 0 := hnew 8 (by decide)
            have HDI := Lib.hid (HS1.out.later hb)
            clear hnew hb HBS HS1 HLP
            simp only [putAll, List.foldl_cons, List.foldl_nil, h7, h8]
            clear h7 h8
            dsimp only [Act.put]
            simp only [List.setIfInBounds_toArray]
            simp only [List.set_cons_succ, List.set_cons_zero]
            go_wp2_with fail
            go_meet
            case rel => exact ⟨rfl, rfl, HDI⟩
        case rest =>
          obtain ⟨rfl, rfl, HS2⟩ := hcut
          have HSH := Lib.hid (more_short HZ.out HFE.out M R)
          rw [← HES.out] at HSH
          clear HS1 HLP HMO HIM HZ HFE HR HES
          have hks := badK_size M
          have hzs := zb_size R
          have hcs : (100 < 3 + M) ∨ (¬ 100 < 3 + M ∧ 500 < R) ∨ (¬ 100 < 3 + M ∧ ¬ 500 < R) := by omega
          have ht := HS2.out.tb
          rcases hcs with c1 | ⟨c1, c2⟩ | ⟨c1, c2⟩
          · have HLD := Lib.hid (fun W => HLD1.out W (fun hs => HSH.out.1 hs (.inl c1)))
            clear HLD1 HLD2 HSH
            have d1 : (100 : Int) < ((badK M).size : Int) := by omega
            have d2 : decide (100 < (badK M).size) = true := by rw [decide_eq_true_eq]; omega
            go_upto_region 11 with (first
              | (refine wpList_load_row rfl 55 _ rfl g5 rfl 55 tab (0, 0) _ ht Try.underlying55 rfl tableSize ?_; dsimp only [Act.put])
              | (go_at_call 25; (with_reducible refine (HLD.out _).mono ?_); rintro e w9 ⟨rfl, hb9⟩; have HS3 := Lib.hid (HS2.out.later hb9); clear hb9))
            have p0 : w9.cell? ⟨p, 0, none⟩ = some (.string (badK M)) := by rw [cell_of_row _ _ _ _ _ _ HS3.out.row]; rfl
            clear ht HS2 HLD hks hzs c1
            go_wp2_with fail
            go_ret
            exact ⟨rfl, HS3.out.below⟩
          · have HLD := Lib.hid (fun W => HLD1.out W (fun hs => HSH.out.1 hs (.inr c2)))
            clear HLD1 HLD2 HSH
            have d1 : ¬ (100 : Int) < ((badK M).size : Int) := by omega
            have d2 : decide (100 < (badK M).size) = false := by rw [decide_eq_false_iff_not]; omega
            have d3 : (500 : Int) < ((zb R).size : Int) := by omega
            have d4 : decide (500 < (zb R).size) = true := by rw [decide_eq_true_eq]; omega
            go_upto_region 11 with (first
              | (refine wpList_load_row rfl 55 _ rfl g5 rfl 55 tab (0, 0) _ ht Try.underlying55 rfl tableSize ?_; dsimp only [Act.put])
              | (go_at_call 25; (with_reducible refine (HLD.out _).mono ?_); rintro e w9 ⟨rfl, hb9⟩; have HS3 := Lib.hid (HS2.out.later hb9); clear hb9))
            have p0 : w9.cell? ⟨p, 0, none⟩ = some (.string (badK M)) := by rw [cell_of_row _ _ _ _ _ _ HS3.out.row]; rfl
            have p1 : w9.cell? ⟨p, 1, none⟩ = some (.slice (some ⟨g, 0, none⟩) 1 1) := by rw [cell_of_row _ _ _ _ _ _ HS3.out.row]; rfl
            have p2 : w9.cell? ⟨g, 2, none⟩ = some (.string (zb R)) := by rw [cell_of_row _ _ _ _ _ _ HS3.out.vrow]; rfl
            clear ht HS2 HLD hks hzs c1 c2
            go_wp2_with fail
            go_ret
            exact ⟨rfl, HS3.out.below⟩
          · have HLD := Lib.hid (fun W => HLD2.out W (HSH.out.2 (fun h => h.elim c1 c2)))
            clear HLD1 HLD2 HSH
            have d1 : ¬ (100 : Int) < ((badK M).size : Int) := by omega
            have d2 : decide (100 < (badK M).size) = false := by rw [decide_eq_false_iff_not]; omega
            have d3 : ¬ (500 : Int) < ((zb R).size : Int) := by omega
            have d4 : decide (500 < (zb R).size) = false := by rw [decide_eq_false_iff_not]; omega
            go_upto_region 11 with (first
              | (refine wpList_load_row rfl 55 _ rfl g5 rfl 55 tab (0, 0) _ ht Try.underlying55 rfl tableSize ?_; dsimp only [Act.put])
              | (go_at_call 25; (with_reducible refine (HLD.out _).mono ?_); rintro e w9 ⟨r9, O9, rfl, _, hm9⟩; have HS3 := Lib.hid (HS2.out.later (hm9.below (B := wc.heap.size) (fun k hk => hk.elim) (Nat.le_refl _))); clear hm9))
            have p0 : w9.cell? ⟨p, 0, none⟩ = some (.string (badK M)) := by rw [cell_of_row _ _ _ _ _ _ HS3.out.row]; rfl
            have p1 : w9.cell? ⟨p, 1, none⟩ = some (.slice (some ⟨g, 0, none⟩) 1 1) := by rw [cell_of_row _ _ _ _ _ _ HS3.out.row]; rfl
            have p2 : w9.cell? ⟨g, 2, none⟩ = some (.string (zb R)) := by rw [cell_of_row _ _ _ _ _ _ HS3.out.vrow]; rfl
            clear ht HS2 HLD hks hzs c1 c2
            go_wp2_with fail
            go_ret
            refine ⟨?_, HS3.out.below⟩
            show Ending.returned (.bool (!decide ((100 : Int) < ((badK M).size : Int)) && !decide ((500 : Int) < ((zb R).size : Int)))) = _
            rw [decide_eq_false (by omega), decide_eq_false (by omega)]
            rfl
end Go.Proofs.Ytdcefhhmddjodaa
