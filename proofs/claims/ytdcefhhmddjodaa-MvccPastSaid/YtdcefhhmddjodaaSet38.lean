/-
  MvccLoads from what is asked of the program's store and blocks.
-/
import Derived.Test.YtdcefhhmddjodaaSet37
import Derived.Test.YtdcefhhmddjodaaSet21
import Derived.StillTailTactics
namespace Go.Proofs.Ytdcefhhmddjodaa
open Go.RowKit
set_option linter.unusedVariables false
set_option linter.unnecessarySimpa false
set_option linter.unusedSimpArgs false
set_option maxRecDepth 100000

theorem good_in {M : List Im} (h : GoodL M) (i : Nat) (hi : i < M.length) : (M.getD i im0).key.size ≤ maxLen ∧ (M.getD i im0).v.val.size ≤ maxLen ∧ (M.getD i im0).v.time < 18446744073709551616 := by
  have hm : M.getD i im0 ∈ M := by rw [List.getD, List.getElem?_eq_getElem hi]; exact List.getElem_mem hi
  have h1 := h.key _ hm
  have h2 := h.val _ hm
  exact ⟨by unfold maxLen; omega, by unfold maxLen; omega, h.time _ hm⟩

set_option maxHeartbeats 4000000 in
theorem loads_yes (S : MvcD) (C : BlkC) (a : Option Addr) (len cap : Nat) (L : List Im) (q : Ask) (w : World) (hz : IsItms w a len cap L) (hq : q.time < 18446744073709551616)
    (h1 : fewM L 60 = true) (h3 : q.key.size ≤ 300) :
    Calls Try.prog 4 #[.slice a len cap, .agg q.cells] w fun e w' => e = .returned (.bool true) ∧ Below w.heap.size w w' := by
  have haw := Lib.hid (mawake_any S.toMvcC)
  have hmk := Lib.hid make_any
  have HF1 := Lib.hid (fun W (hb : Below w.heap.size w W) => mfew_any a len cap 60 L W (hz.below hb) (by omega))
  rw [h1] at HF1
  rw [show ((60 : Nat) : Int) = 60 from rfl] at HF1
  have HZ := Lib.hid hz
  have HQ := Lib.hid hq
  have hl60 : len ≤ 60 := by rw [← hz.1]; exact (fewM_true.1 h1).2
  obtain ⟨qk, qt, ql, qh, qm⟩ := q
  simp only at h3
  have c3 : ¬ (300 : Int) < (qk.size : Int) := by omega
  have c3b : decide (300 < qk.size) = false := by simpa using h3
  have HS3 := Lib.hid h3
  have HP0 := Lib.hid (QW.start w #[.string qk, .int .u64 (qt : Int), .string ql, .string qh, .int .i64 qm])
  clear hz h1 h3 hq
  unfold Ask.cells
  go_enter Try.func4, Try.ntmps4
  go_upto_region 3 with (first
    | (go_at_call 7; refine (haw.out _).mono ?_; rintro e w1 ⟨rfl, hb1⟩; have HP1 := Lib.hid (HP0.out.later hb1); clear hb1; have q0 := HP1.out.cell 0; simp only [List.getElem?_toArray, List.getElem?_cons_zero, List.getElem?_cons_succ] at q0)
    | (go_at_call 8; (with_reducible refine (HF1.out _ HP1.out.below).mono ?_); rintro e w2 ⟨rfl, rfl⟩))
  clear HF1 haw HP0 c3 c3b q0
  obtain ⟨qc, hqc⟩ : ∃ qc : Array Value, qc = #[.string qk, .int .u64 (qt : Int), .string ql, .string qh, .int .i64 qm] := ⟨_, rfl⟩
  rw [← hqc] at HP1
  have HQC := Lib.hid hqc
  clear hqc
  go_upto_region 4 with (first
    | (go_at_call 22; refine (hmk.out _).mono ?_; rintro e w3 ⟨rfl, hb3⟩; have HP3 := Lib.hid (HP1.out.later hb3); clear hb3)
    | (refine wpList_store_row rfl 55 _ _ rfl w3.heap.size tab rfl rfl 55 (Array.replicate 256 (.int .u32 0)) (heap_alloc_last w3 _) tableSize zeroTable_size tab_one ?_; rw [World.setRow_alloc_new]; dsimp only [Act.put]))
  have ht4 := heap_alloc_new w3 (.cells tab 55)
  have hp4 := HP3.out.later ((Below.refl w3.heap.size w3).alloc (Nat.le_refl _) (.cells tab 55))
  have hlt := HP3.out.lt
  obtain ⟨g5, hg5⟩ : ∃ g5, g5 = w3.heap.size := ⟨_, rfl⟩
  rw [← hg5] at ht4 hlt ⊢
  obtain ⟨w4, hw4⟩ : ∃ w4, w4 = w3.alloc (.cells tab 55) := ⟨_, rfl⟩
  rw [← hw4] at ht4 hp4 ⊢
  have HP4 := Lib.hid (And.intro hp4 (And.intro ht4 hlt))
  clear hg5 hw4 ht4 hp4 hlt HP1 HP3 hmk
  have HX := Lib.hid (show ∀ k o, XL w qc g5 k o → w4.heap[k]? = some o from fun k o hk => by rcases hk with ⟨rfl, rfl⟩ | ⟨rfl, rfl⟩ <;> first | exact HP4.out.1.q | exact HP4.out.2.1)
  have HN := Lib.hid (mst_new S.toMvcC HP4.out.1.below HP4.out.1.below.size (far := fun k => ∃ o, XL w qc g5 k o) (fun k ⟨o, hk⟩ => (Array.getElem?_eq_some_iff.1 (HX.out k o hk)).1))
  go_upto_region 5 with (go_at_call 9; refine HN.out.mono ?_; rintro e w5 ⟨r, rfl, hs5, hf5⟩; have HS5 := Lib.hid (DuSt.start HX.out hs5 hf5); clear hs5 hf5)
  obtain ⟨g7, hg7⟩ : ∃ g7, g7 = w5.heap.size := ⟨_, rfl⟩
  rw [← hg7] at HS5 ⊢
  obtain ⟨w6, hw6⟩ : ∃ w6, w6 = w5.alloc (.cells #[.slice none 0 0] 29) := ⟨_, rfl⟩
  rw [← hw6] at HS5 ⊢
  clear hg7 hw6 HN HP4 HX
  go_wp2_with fail
  go_loopg [8] len (fun g s8 wx => ∃ (i : Nat) (M : List Im) (s : Value), i + g = len ∧ s8 = .int .i64 i ∧ M.length ≤ i ∧ Hid (DuSt S.toMvcC w (XL w qc g5) g7 r M M s wx) ∧ Hid (GoodL M))
  case atStart => exact ⟨0, [], _, by omega, rfl, by simp, HS5, Lib.hid good_nil⟩
  case round =>
    obtain ⟨i, M, s, hig, rfl, hMi, HS, HG⟩ := hrel
    clear HS5
    cases gk with
    | succ g =>
      have hil : i < len := by omega
      have hiz : (i : Int) < (len : Int) := by omega
      have HSd := HS.out.later (w' := wr.drew) ((Below.refl _ _).drew)
      obtain ⟨b, off, rfl, hbl, hi1, hi2, hi3, k0, k1, k2, k3⟩ := (HZ.out.below HSd.below).2.2 i hil
      have HI := Lib.hid (HSd.install (L.getD i im0) (by omega) ⟨hi1, hi2, hi3⟩)
      have HIL := Lib.hid (ins_len M (L.getD i im0))
      have HG2 := Lib.hid (good_ins HG.out hi3)
      have HOK := Lib.hid (And.intro hi1 (And.intro hi2 hi3))
      obtain ⟨z, hzz⟩ : ∃ z, z = L.getD i im0 := ⟨_, rfl⟩
      have HZZ := Lib.hid hzz
      rw [← hzz] at k0 k1 k2 k3 HI HIL HG2 HOK
      clear hzz hbl hi1 hi2 hi3 HSd
      go_upto_region 8 with fail
      go_still_tail 11, (by kernel_rfl)
      change wpList _ _ _ _ _ wr.drew
      go_wp2_with (go_at_call 11; (with_reducible refine HI.out.mono ?_); rintro e w7 ⟨rfl, hs7⟩; have HS7 := Lib.hid hs7; clear hs7)
      have HMI := HIL.out
      have HIN := Lib.hid (fun W (hv : StV W s M) => minstall_any s M z W hv (by omega) HOK.out (good_in HG.out))
      unfold InsOut at HIN
      clear k0 k1 k2 k3 HI HS
      obtain ⟨b2, off2, e2, hbl, _, _, _, k0, k1, k2, k3⟩ := (HZ.out.below HS7.out.below).2.2 i hil
      simp only [Option.some.injEq, Addr.mk.injEq, and_true] at e2
      obtain ⟨rfl, rfl⟩ := e2
      rw [← HZZ.out] at k0 k1 k2 k3
      obtain ⟨N, hN⟩ : ∃ N, N = insM M z := ⟨_, rfl⟩
      rw [← hN] at HIN HIL HG2 HS7 ⊢
      obtain ⟨M', cd⟩ := N
      have e0 := HS7.out.boxcell
      have h7l : g7 < w7.heap.size := (Array.getElem?_eq_some_iff.1 HS7.out.box).1
      have HINd := Lib.hid (HIN.out w7.drew (HS7.out.later ((Below.refl _ _).drew)).val)
      have HINz := Lib.hid (fun o => HIN.out (w7.alloc o).drew (HS7.out.later (((Below.refl _ _).alloc (Nat.le_refl _) o).drew)).val)
      have HV7 := Lib.hid HS7.out.val
      have HLN := Lib.hid (show (M' = M ∨ M'.length = M.length + 1) from by
        have := congrArg Prod.fst hN
        rcases ins_cases M z with e | e
        · exact .inl (by rw [← e]; exact this)
        · exact .inr (by show (M', cd).1.length = _; rw [this, e]; simp))
      clear HIN HOK HZZ hN
      go_upto_region 9 with fail
      go_cut [9, 10] (fun s9 s10 wd => ∃ (p : Nat) (s' : Value), s9 = .pointer (some ⟨p, 0, none⟩) ∧ Hid (DocIns w7 p s s' M' wd))
      case first =>
        clear HG2 HIL HLN HMI HG HQ HS3 HQC HZ hMi hig hl60
        go_region_with (go_at_call 10; first
          | ((with_reducible refine HINd.out.mono ?_); rintro e w8 ⟨s', rfl, hv8, hb8, hn8⟩; obtain ⟨a8, c8, rfl, _⟩ := id hv8; have HV8 := Lib.hid hv8; have HB8 := Lib.hid hb8; have HN8 := Lib.hid hn8; clear hv8 hb8 hn8)
          | ((with_reducible refine (HINz.out _).mono ?_); rintro e w8 ⟨s', rfl, hv8, hb8, hn8⟩; obtain ⟨a8, c8, rfl, _⟩ := id hv8; have HV8 := Lib.hid hv8; have HB8 := Lib.hid hb8; have HN8 := Lib.hid hn8; have hq := zero_kept1 hb8; clear hv8 hb8 hn8))
        all_goals
          go_wp2_with fail
          go_meet
          case rel => first | exact ⟨_, _, rfl, Lib.hid (docInsA HB8.out HV8.out HN8.out)⟩ | exact ⟨_, _, rfl, Lib.hid (docInsB HB8.out HV8.out HN8.out HV7.out)⟩
      case rest =>
        obtain ⟨p, s', rfl, HD⟩ := hcut
        have p0 : wc.cell? ⟨p, 0, none⟩ = some s' := by rw [cell_of_row _ _ _ _ _ _ HD.out.row]; rfl
        have b7 := (HD.out.below.block g7 h7l).trans HS7.out.box
        have e1 : wc.cell? ⟨g7, 0, none⟩ = some s := by rw [cell_of_row _ _ _ _ _ _ b7]; rfl
        have f1 : ∀ j, wc.frozen? ⟨g7, j, none⟩ = false := fun j => frozen_of_row _ _ _ _ _ b7
        have HS8 := Lib.hid (HS7.out.put HD.out.below HD.out.val HD.out.new)
        obtain ⟨a8, c8, rfl, _⟩ := id HD.out.val
        clear HS7 HINd HINz HV7 e0 k0 k1 k2 k3 b7 HD
        go_wp2_with fail
        go_roundg g
        case measure => omega
        case rel => exact ⟨i + 1, M', _, by omega, by go_num, by have := HIL.out; omega, HS8, HG2⟩
    | zero =>
      obtain rfl : i = len := by omega
      have hM60 : M.length ≤ 60 := by omega
      have HKZ := Lib.hid (fun m (hm : m ∈ M) => show m.key.size ≤ 60000 from by have := HG.out.key m hm; omega)
      obtain ⟨es, hes⟩ : ∃ es, es = entsM M := ⟨_, rfl⟩
      obtain ⟨p, hp⟩ : ∃ p, p = packF (insideS es) := ⟨_, rfl⟩
      have hin : (insideS es).data.toList = insideB es := by unfold insideS; simp
      have hR := ents_right HG.out
      have hSm := ents_small HG.out hM60
      have hOk := ents_ok HG.out hM60
      have hSh := ents_short HG.out
      have hIn := ents_inside HG.out hM60
      have hLn : (entsM M).length ≤ 1000 := by rw [entsM_len]; have := keys_len M; omega
      have hEF := ents_flat M
      rw [← hes] at hR hSm hOk hSh hIn hLn hEF
      have hPk := packF_ok w (insideS es) (by rw [show (insideS es).size = (insideB es).length by rw [← hin]; simp]; exact hIn)
      rw [← hp, hin] at hPk
      have hps : p.size ≤ 90000 := by have := hPk.2; rw [show (insideS es).size = (insideB es).length by rw [← hin]; simp] at this; omega
      have hIm : imgS M = blkS p := by unfold imgS; rw [← hes, ← hp]
      have hIm2 : imgS (flatE es) = blkS p := by unfold imgS; rw [hEF, ← hp]
      have HI := Lib.hid (fun W (h : DuSt S.toMvcC w (XL w qc g5) g7 r M M s W) => h.image (by rw [← hes]; exact hR) (by rw [← hes]; exact hSm) (by rw [← hes]; exact hLn) (by rw [← hes]; exact hIn))
      have HL := Lib.hid (fun W (h : DuSt S.toMvcC w (XL w qc g5) g7 r M M s W) => h.load p es hps hPk.1 hR hOk hSh)
      have HI2 := Lib.hid (fun W r' (h : DuSt S.toMvcC w (XL w qc g5) g7 r' (flatE es) M s W) => h.image (by rw [hEF]; exact hR) (by rw [hEF]; exact hSm) (by rw [hEF]; exact hLn) (by rw [hEF]; exact hIn))
      rw [hIm] at HI
      rw [hIm2] at HI2
      have HD := Lib.hid (fun W => C.decYes p es W hps hPk.1 hR hOk)
      have HAT := Lib.hid (best_flat M qk qt)
      rw [← hes] at HAT
      obtain ⟨im, him⟩ : ∃ im, im = blkS p := ⟨_, rfl⟩
      rw [← him] at HI HL HI2 HD
      have HES := Lib.hid hes
      clear hes hp hin hR hSm hOk hSh hIn hLn hEF hPk hps hIm hIm2 him HG
      have ht := HS.out.tb
      go_upto_region 12 with (first
        | (refine wpList_load_row rfl 55 _ rfl g5 rfl 55 tab (0, 0) _ ht Try.underlying55 rfl tableSize ?_; dsimp only [Act.put])
        | (go_at_call 23; (with_reducible refine (HI.out _ HS.out).mono ?_); rintro e w7 ⟨rfl, hs7⟩; have HS7 := Lib.hid hs7; have ht7 := hs7.tb; clear hs7))
      clear ht HI HS
      go_upto_region 13 with (first
        | (refine wpList_load_row rfl 55 _ rfl g5 rfl 55 tab (0, 0) _ ht7 Try.underlying55 rfl tableSize ?_; dsimp only [Act.put])
        | (go_at_call 24; (with_reducible refine (HD.out _).mono ?_); rintro e w8 ⟨a8, c8, rfl, he8, hb8⟩; have HS8 := Lib.hid (HS7.out.later hb8); have HE8 := Lib.hid he8; have ht8 := HS8.out.tb; clear he8 hb8))
      clear ht7 HS7
      go_upto_region 14 with (first
        | (refine wpList_load_row rfl 55 _ rfl g5 rfl 55 tab (0, 0) _ ht8 Try.underlying55 rfl tableSize ?_; dsimp only [Act.put])
        | (go_at_call 25; (with_reducible refine (HL.out _ HS8.out).mono ?_); rintro e w9 ⟨r9, rfl, hs9, hb9⟩; have HS9 := Lib.hid hs9; have HE9 := Lib.hid (HE8.out.below hb9); clear hs9 hb9))
      clear ht8 HS8 HE8 HL HD
      have HSA := HS9.out
      obtain ⟨aS, cS, hse, hz9, _⟩ := id HS9.out.val
      subst hse
      have e0 := HS9.out.boxcell
      have HE := Lib.hid (mentries_any aS M.length cS M w9 hz9 (by omega) HKZ.out)
      rw [← HES.out] at HE
      have HZ9 := Lib.hid hz9
      have HSM := Lib.hid (fun W a10 c10 (hb : Below w9.heap.size w9 W) (h : IsEnts W a10 es.length c10 es) => bsame_yes a8 a10 es.length c8 c10 es W (HE9.out.below hb) h)
      clear hz9 HSA HKZ
      go_upto_region 16 with (first
        | (go_at_call 27; (with_reducible refine HE.out.mono ?_); rintro e w10 ⟨a10, c10, rfl, he10, hb10⟩; have HS10 := Lib.hid (HS9.out.later hb10); have HSN := Lib.hid (HSM.out w10 a10 c10 hb10 he10); have HZ10 := Lib.hid (HZ9.out.below hb10); clear he10 hb10)
        | (go_at_call 26; (with_reducible refine HSN.out.mono ?_); rintro e w11 ⟨rfl, hb11⟩; have HS11 := Lib.hid (HS10.out.later hb11); have HZ11 := Lib.hid (HZ10.out.below hb11); have ht11 := HS11.out.tb; clear hb11))
      clear e0 HE HSM HSN HS9 HS10 HZ9 HZ10 HE9
      go_upto_region 17 with (first
        | (refine wpList_load_row rfl 55 _ rfl g5 rfl 55 tab (0, 0) _ ht11 Try.underlying55 rfl tableSize ?_; dsimp only [Act.put])
        | (go_at_call 23; (with_reducible refine (HI2.out _ _ HS11.out).mono ?_); rintro e w12 ⟨rfl, hs12⟩; have HS12 := Lib.hid hs12; clear hs12))
      clear ht11 HI2 HS11 HZ11
      have q0 := HS12.out.qcell 0
      have q1 := HS12.out.qcell 1
      rw [HQC.out] at q0 q1
      simp only [List.getElem?_toArray, List.getElem?_cons_zero, List.getElem?_cons_succ] at q0 q1
      have hkm : qk.size ≤ maxLen := by have := HS3.out; unfold maxLen; omega
      have HA := Lib.hid (HS12.out.at_ qk qt hkm HQ.out)
      rw [HAT.out] at HA
      have HM := Lib.hid (fun W (hz : IsItms W aS M.length cS M) => mat_any aS M.length cS M qk qt HQ.out W hz (by omega))
      obtain ⟨⟨⟨vt, vg, vv⟩, ok⟩, hV⟩ : ∃ V, V = bestOf qk qt M := ⟨_, rfl⟩
      rw [← hV] at HA HM
      unfold Vr.cells at HA HM
      clear hV hkm HAT
      go_upto_region 18 with (go_at_call 12; (with_reducible refine HA.out.mono ?_); rintro e w13 ⟨rfl, hs13, hb13⟩; have HS13 := Lib.hid hs13; clear hs13 hb13)
      have hb14 : Below w13.heap.size w13 (w13.alloc (.cells #[.int .u64 (vt : Int), .bool vg, .string vv] 35)) := (Below.refl _ _).alloc (Nat.le_refl _) _
      have hr14 := heap_alloc_new w13 (.cells #[.int .u64 (vt : Int), .bool vg, .string vv] 35)
      have hs14 := HS13.out.later hb14
      obtain ⟨g13, hg13⟩ : ∃ g13, g13 = w13.heap.size := ⟨_, rfl⟩
      rw [← hg13] at hr14 ⊢
      obtain ⟨W14, hW14⟩ : ∃ W14, W14 = w13.alloc (.cells #[.int .u64 (vt : Int), .bool vg, .string vv] 35) := ⟨_, rfl⟩
      rw [← hW14] at hr14 hs14 ⊢
      have HS14 := Lib.hid hs14
      have HR14 := Lib.hid hr14
      clear hb14 hg13 hW14 hr14 hs14 HS13 HS12 HA q0 q1
      obtain ⟨aT, cT, hst, hz14, _⟩ := id HS14.out.val
      injection hst with hst1 hst2 hst3
      subst hst1
      subst hst3
      have HMZ := Lib.hid (HM.out W14 hz14)
      have e0 := HS14.out.boxcell
      have q0 := HS14.out.qcell 0
      have q1 := HS14.out.qcell 1
      rw [HQC.out] at q0 q1
      simp only [List.getElem?_toArray, List.getElem?_cons_zero, List.getElem?_cons_succ] at q0 q1
      clear hz14 HM hst2
      go_upto_region 19 with (go_at_call 13; (with_reducible refine HMZ.out.mono ?_); rintro e w15 ⟨rfl, hb15⟩; have HS15 := Lib.hid (HS14.out.later hb15); have HR15 := Lib.hid ((hb15.block g13 (Array.getElem?_eq_some_iff.1 HR14.out).1).trans HR14.out); clear hb15)
      have hb16 : Below w15.heap.size w15 (w15.alloc (.cells #[.int .u64 (vt : Int), .bool vg, .string vv] 35)) := (Below.refl _ _).alloc (Nat.le_refl _) _
      have hr16 := heap_alloc_new w15 (.cells #[.int .u64 (vt : Int), .bool vg, .string vv] 35)
      have hr15 := (hb16.block g13 (Array.getElem?_eq_some_iff.1 HR15.out).1).trans HR15.out
      have HBW := Lib.hid (HS15.out.later hb16).below
      obtain ⟨g15, hg15⟩ : ∃ g15, g15 = w15.heap.size := ⟨_, rfl⟩
      rw [← hg15] at hr16 ⊢
      obtain ⟨W16, hW16⟩ : ∃ W16, W16 = w15.alloc (.cells #[.int .u64 (vt : Int), .bool vg, .string vv] 35) := ⟨_, rfl⟩
      rw [← hW16] at hr15 hr16 HBW ⊢
      have b0 : W16.cell? ⟨g13, 0, none⟩ = some (.int .u64 (vt : Int)) := by rw [cell_of_row _ _ _ _ _ _ hr15]; rfl
      have b1 : W16.cell? ⟨g13, 1, none⟩ = some (.bool vg) := by rw [cell_of_row _ _ _ _ _ _ hr15]; rfl
      have b2 : W16.cell? ⟨g13, 2, none⟩ = some (.string vv) := by rw [cell_of_row _ _ _ _ _ _ hr15]; rfl
      have d0 : W16.cell? ⟨g15, 0, none⟩ = some (.int .u64 (vt : Int)) := by rw [cell_of_row _ _ _ _ _ _ hr16]; rfl
      have d1 : W16.cell? ⟨g15, 1, none⟩ = some (.bool vg) := by rw [cell_of_row _ _ _ _ _ _ hr16]; rfl
      have d2 : W16.cell? ⟨g15, 2, none⟩ = some (.string vv) := by rw [cell_of_row _ _ _ _ _ _ hr16]; rfl
      clear hb16 hg15 hW16 hr15 hr16 HS14 HR14 HS15 HR15 HMZ e0 q0 q1
      go_wp2_with fail
      go_ret
      exact ⟨rfl, HBW.out⟩
end Go.Proofs.Ytdcefhhmddjodaa
