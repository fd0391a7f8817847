/-
  The walks of the program's isRight, refusal, Encode.
-/
import Derived.Test.YtkcbbcabfbkclaaMsgIsRightB
namespace Go.Proofs.Ytkcbbcabfbkclaa
open Go.RowKit
set_option linter.unusedVariables false
set_option linter.unnecessarySimpa false
set_option linter.unusedSimpArgs false
set_option maxRecDepth 100000

theorem rightB_is (m : Mg) : rightB m = (kindOK m && (nums31 m && ((m.ws.all wrOK && verOK m) && (decide (m.ws.length ≤ 8) && decide ((msgB m 12).length ≤ 4000))))) := by
  unfold rightB
  cases nums31 m <;> cases kindOK m <;> cases verOK m <;> cases m.ws.all wrOK <;> cases decide (m.ws.length ≤ 8) <;> cases decide ((msgB m 12).length ≤ 4000) <;> rfl

set_option maxHeartbeats 8000000 in
theorem isRight_any (m : Mg) (sl : Value) (hf : m.fits) (hw : m.few) (w : World) (hws : WsAt w sl m.ws) :
    Calls Try.prog 31 #[.agg (m.cells sl)] w fun e w' => e = .returned (.bool (rightB m)) ∧ Below w.heap.size w w' := by
  have hr := rightB_is m
  obtain ⟨R, hR⟩ : ∃ R, R = rightB m := ⟨_, rfl⟩
  rw [← hR] at hr ⊢
  obtain ⟨C, hC⟩ : ∃ C, C = m.cells sl := ⟨_, rfl⟩
  have HC : CellsOf C m sl := ⟨hC⟩
  have h0 := HC.at0
  have HSZ := Lib.hid (show (Try.prog.info? 29).map (·.size) = some C.size by rw [HC.size]; exact msg_size)
  have hl20 := hw.ws
  have HA := Lib.hid (fun (W : World) => areNumbers_any m sl W)
  have HGR := Lib.hid (fun (W : World) (hW : WsAt W sl m.ws) => isGoneRight_any m sl (by omega) W hW)
  have HSH := Lib.hid (fun (hk : 0 ≤ m.kind ∧ m.kind ≤ 9) (hn : nums31 m = true) (W : World) (hW : WsAt W sl m.ws) => isShort_any m sl hk hn hf hw W hW)
  rw [← hC] at HA HGR HSH ⊢
  have HWS := Lib.hid hws
  obtain ⟨K, hK⟩ : ∃ K, K = m.kind := ⟨_, rfl⟩
  rw [← hK] at h0 HSH
  have HKO := Lib.hid (show kindOK m = decide (1 ≤ K ∧ K ≤ 9) by rw [hK]; rfl)
  clear HC hC hR hws hl20 hf hw hK
  go_enter Try.func31, Try.ntmps31
  go_upto_region 1 with fail
  obtain ⟨G, hG⟩ : ∃ G, G = w.heap.size := ⟨_, rfl⟩
  obtain ⟨W1, hW1⟩ : ∃ W1, W1 = w.alloc (.cells C 29) := ⟨_, rfl⟩
  have hrow : W1.heap[G]? = some (.cells C 29 (0, 0)) := by rw [hW1, hG]; exact heap_alloc_new w _
  have HB1 := Lib.hid (show Below w.heap.size w W1 by rw [hW1]; exact (Below.refl _ _).alloc (Nat.le_refl _) _)
  rw [← hW1, ← hG]
  have c0 := cell_row hrow h0
  have HROW := Lib.hid hrow
  have HGL := Lib.hid (Array.getElem?_eq_some_iff.1 hrow).1
  clear hW1 hG h0 hrow
  by_cases k1 : 1 ≤ K
  · have e1 : decide (1 ≤ K) = true := decide_eq_true k1
    by_cases k9 : K ≤ 9
    · have e2 : decide (K ≤ 9) = true := decide_eq_true k9
      have hko : kindOK m = true := by rw [HKO.out]; exact decide_eq_true ⟨k1, k9⟩
      rw [hko, Bool.true_and] at hr
      have HS2 := Lib.hid (HSH.out ⟨by omega, k9⟩)
      clear k1 k9 hko HSH HKO
      cases hn : nums31 m with
      | false =>
        rw [hn, Bool.false_and] at hr
        rw [hn] at HA
        have HR := Lib.hid hr
        clear hr hn HS2 HGR
        go_wp2_with (first
          | (refine wpList_load_row_w rfl 29 _ rfl G rfl 29 C (0, 0) _ HROW.out Try.underlying29 rfl HSZ.out ?_)
          | (go_at_call 65; refine (HA.out _).mono ?_; rintro e w2 ⟨rfl, hb2⟩))
        go_ret
        exact ⟨ret_bool HR.out.symm, HB1.out.trans (hb2.mono HB1.out.size)⟩
      | true =>
        rw [hn, Bool.true_and] at hr
        have HS3 := Lib.hid (HS2.out hn)
        rw [hn] at HA
        clear hn HS2
        cases hgr : (m.ws.all wrOK && verOK m) with
        | false =>
          rw [hgr, Bool.false_and] at hr
          rw [hgr] at HGR
          have HR := Lib.hid hr
          clear hr hgr HS3
          go_wp2_with (first
            | (refine wpList_load_row_w rfl 29 _ rfl G rfl 29 C (0, 0) _ HROW.out Try.underlying29 rfl HSZ.out ?_)
            | (refine wpList_load_row_w rfl 29 _ rfl G rfl 29 C (0, 0) _ HROW2.out Try.underlying29 rfl HSZ.out ?_)
            | (go_at_call 65; refine (HA.out _).mono ?_; rintro e w2 ⟨rfl, hb2⟩; have B2 := Lib.hid (HB1.out.trans (hb2.mono HB1.out.size)); have HROW2 := Lib.hid ((hb2.block G HGL.out).trans HROW.out); have HG2 := Lib.hid (HGR.out w2 (HWS.out.below B2.out)); clear hb2 HROW c0)
            | (go_at_call 66; refine HG2.out.mono ?_; rintro e w3 ⟨rfl, hb3⟩))
          go_ret
          exact ⟨ret_bool HR.out.symm, B2.out.trans (hb3.mono B2.out.size)⟩
        | true =>
          rw [hgr, Bool.true_and] at hr
          rw [hgr] at HGR
          rw [← hr] at HS3
          clear hr hgr
          go_wp2_with (first
            | (refine wpList_load_row_w rfl 29 _ rfl G rfl 29 C (0, 0) _ HROW.out Try.underlying29 rfl HSZ.out ?_)
            | (refine wpList_load_row_w rfl 29 _ rfl G rfl 29 C (0, 0) _ HROW2.out Try.underlying29 rfl HSZ.out ?_)
            | (refine wpList_load_row_w rfl 29 _ rfl G rfl 29 C (0, 0) _ HROW3.out Try.underlying29 rfl HSZ.out ?_)
            | (go_at_call 65; refine (HA.out _).mono ?_; rintro e w2 ⟨rfl, hb2⟩; have B2 := Lib.hid (HB1.out.trans (hb2.mono HB1.out.size)); have HROW2 := Lib.hid ((hb2.block G HGL.out).trans HROW.out); have HG2 := Lib.hid (HGR.out w2 (HWS.out.below B2.out)); have HZ2 := Lib.hid (Nat.lt_of_lt_of_le HGL.out hb2.size); clear hb2 HROW c0)
            | (go_at_call 66; refine HG2.out.mono ?_; rintro e w3 ⟨rfl, hb3⟩; have B3 := Lib.hid (B2.out.trans (hb3.mono B2.out.size)); have HROW3 := Lib.hid ((hb3.block G HZ2.out).trans HROW2.out); have HS4 := Lib.hid (HS3.out w3 (HWS.out.below B3.out)); clear hb3 HROW2)
            | (go_at_call 67; refine HS4.out.mono ?_; rintro e w4 ⟨rfl, hb4⟩))
          go_ret
          exact ⟨rfl, B3.out.trans (hb4.mono B3.out.size)⟩
    · have e2 : decide (K ≤ 9) = false := decide_eq_false k9
      have hko : kindOK m = false := by rw [HKO.out]; exact decide_eq_false (fun h => k9 h.2)
      rw [hko, Bool.false_and] at hr
      have HR := Lib.hid hr
      clear k1 k9 hko HSH HKO hr HGR HA
      go_wp2_with fail
      go_ret
      exact ⟨ret_bool HR.out.symm, HB1.out⟩
  · have e1 : decide (1 ≤ K) = false := decide_eq_false k1
    have hko : kindOK m = false := by rw [HKO.out]; exact decide_eq_false (fun h => k1 h.1)
    rw [hko, Bool.false_and] at hr
    have HR := Lib.hid hr
    clear k1 hko HSH HKO hr HGR HA
    go_wp2_with fail
    go_ret
    exact ⟨ret_bool HR.out.symm, HB1.out⟩

def crB (v : Int) (f : F3) : Bool := decide (f.tag = 12) && !hasB v f.tag
theorem crit_any {v : Int} (hv : ¬ lastOf v = 0) (m : Mg) : (fldsL m).any (crB v) = decide (v < 3 ∧ m.must ≠ 0) := by
  have hv3 : v = 1 ∨ v = 2 ∨ v = 3 := Decidable.byContradiction fun h => hv (lastOf_zero.2 h)
  have hT : isT m 12 = decide (m.must ≠ 0) := numF_is m.must
  rw [Bool.eq_iff_iff, List.any_eq_true, decide_eq_true_eq]
  constructor
  · rintro ⟨f, hf, hc⟩
    have h1 := fldsL_mem hf
    unfold crB at hc
    rw [Bool.and_eq_true, decide_eq_true_eq] at hc
    obtain ⟨h12, hh⟩ := hc
    have h2 := h1.1
    rw [h1.2.2.2, h12] at h2
    have h3 : isT m 12 = true := h2
    rw [hT, decide_eq_true_eq] at h3
    refine ⟨?_, h3⟩
    rw [h12] at hh
    rcases hv3 with rfl | rfl | rfl
    · omega
    · omega
    · exact absurd hh (by decide)
  · rintro ⟨h1, h2⟩
    refine ⟨f3 m 12, ?_, ?_⟩
    · unfold fldsL
      rw [List.mem_filter]
      exact ⟨by unfold all12; simp, by show isT m 12 = true; rw [hT]; exact decide_eq_true h2⟩
    · rcases hv3 with rfl | rfl | rfl
      · rfl
      · rfl
      · omega
theorem any_true {v : Int} {l : List F3} {i : Nat} {f : F3} (h : l[i]? = some f) (hc : crB v f = true) : l.any (crB v) = true := by
  rw [List.any_eq_true]
  exact ⟨f, List.mem_of_getElem? h, hc⟩
theorem any_none {v : Int} {l : List F3} {i : Nat} (h : ∀ j, j < i → ∀ f, l[j]? = some f → crB v f = false) (hi : l.length ≤ i) : l.any (crB v) = false := by
  rw [List.any_eq_false]
  intro f hf
  obtain ⟨j, hj, e⟩ := List.getElem_of_mem hf
  rw [h j (by omega) f (by rw [List.getElem?_eq_getElem hj, e])]
  decide

set_option maxHeartbeats 8000000 in
theorem refusal_any (v : Int) (m : Mg) (sl : Value) (hf : m.fits) (hw : m.few) (w : World) (hws : WsAt w sl m.ws) :
    Calls Try.prog 19 #[.int .i64 v, .agg (m.cells sl)] w fun e w' => e = .returned (.int .i64 (projB v m).2) ∧ Below w.heap.size w w' := by
  have hir := fun (W : World) (hW : WsAt W sl m.ws) => isRight_any m sl hf hw W hW
  have hver := fun (W : World) => isVersion_any v W
  have hfo := fun (hn : nums31 m = true) (W : World) (hW : WsAt W sl m.ws) => fieldsOf_any m sl hn hf hw W hW
  obtain ⟨C, hC⟩ : ∃ C, C = m.cells sl := ⟨_, rfl⟩
  have HC : CellsOf C m sl := ⟨hC⟩
  have HSZ := Lib.hid (show (Try.prog.info? 29).map (·.size) = some C.size by rw [HC.size]; exact msg_size)
  rw [← hC] at hir hfo ⊢
  have HWS := Lib.hid hws
  clear HC hC hf hw
  by_cases hv : lastOf v = 0
  · have hp : (projB v m).2 = 1 := by unfold projB; rw [if_pos (.inl hv)]
    rw [hp]
    rw [ver_no hv] at hver
    have HV := Lib.hid hver
    clear hp hv hver hir hfo hws
    go_enter Try.func19, Try.ntmps19
    go_wp2_with (go_at_call 29; refine (HV.out _).mono ?_; rintro e w2 ⟨rfl, rfl⟩)
    go_ret
    exact ⟨rfl, (Below.refl _ _).alloc (Nat.le_refl _) _⟩
  · rw [verB_is.2 hv] at hver
    have HV := Lib.hid hver
    cases hr : rightB m with
    | false =>
      have hp : (projB v m).2 = 1 := by unfold projB; rw [if_pos (.inr hr)]
      rw [hp]
      rw [hr] at hir
      have HI := Lib.hid hir
      have HROW := Lib.hid (heap_alloc_new w (.cells C 29))
      have HB1 := Lib.hid (show Below w.heap.size w (w.alloc (.cells C 29)) from (Below.refl _ _).alloc (Nat.le_refl _) _)
      clear hp hv hver hir hfo hws hr
      go_enter Try.func19, Try.ntmps19
      go_wp2_with (first
        | (refine wpList_load_row_w rfl 29 _ rfl w.heap.size rfl 29 C (0, 0) _ HROW.out Try.underlying29 rfl HSZ.out ?_)
        | (go_at_call 29; refine (HV.out _).mono ?_; rintro e w2 ⟨rfl, rfl⟩)
        | (go_at_call 31; refine (HI.out _ (HWS.out.below HB1.out)).mono ?_; rintro e w3 ⟨rfl, hb3⟩))
      go_ret
      exact ⟨rfl, HB1.out.trans (hb3.mono HB1.out.size)⟩
    | true =>
      have hn := (right_parts hr).1
      have hcr := crit_any hv m
      have hp : (projB v m).2 = if (fldsL m).any (crB v) then 4 else 0 := by
        rw [hcr]
        unfold projB
        rw [if_neg (by rw [hr]; rintro (h | h); exact hv h; cases h)]
        by_cases h : v < 3 ∧ m.must ≠ 0
        · rw [if_pos h, decide_eq_true h]; rfl
        · rw [if_neg h, decide_eq_false h]; rfl
      rw [hp]
      rw [hr] at hir
      have HI := Lib.hid hir
      have hfo2 := hfo hn
      unfold FldsOut at hfo2
      have hlen := fldsL_len m
      obtain ⟨L, hL⟩ : ∃ L, L = fldsL m := ⟨_, rfl⟩
      rw [← hL] at hlen hfo2 ⊢
      obtain ⟨E, hE⟩ : ∃ E : Int, E = if L.any (crB v) then 4 else 0 := ⟨_, rfl⟩
      rw [← hE]
      have HE := Lib.hid hE
      have HFO := Lib.hid hfo2
      have HROW := Lib.hid (heap_alloc_new w (.cells C 29))
      have HB1 := Lib.hid (show Below w.heap.size w (w.alloc (.cells C 29)) from (Below.refl _ _).alloc (Nat.le_refl _) _)
      have HZ1 := Lib.hid (show w.heap.size < (w.alloc (.cells C 29)).heap.size by simp)
      clear hp hv hver hir hfo hws hr hn hcr hfo2 hL hE
      go_enter Try.func19, Try.ntmps19
      go_wp2_with (first
        | (refine wpList_load_row_w rfl 29 _ rfl w.heap.size rfl 29 C (0, 0) _ HROW.out Try.underlying29 rfl HSZ.out ?_)
        | (refine wpList_load_row_w rfl 29 _ rfl w.heap.size rfl 29 C (0, 0) _ HROW3.out Try.underlying29 rfl HSZ.out ?_)
        | (go_at_call 29; refine (HV.out _).mono ?_; rintro e w2 ⟨rfl, rfl⟩)
        | (go_at_call 31; refine (HI.out _ (HWS.out.below HB1.out)).mono ?_; rintro e w3 ⟨rfl, hb3⟩; have HROW3 := Lib.hid ((hb3.block w.heap.size HZ1.out).trans HROW.out); have B3 := Lib.hid (HB1.out.trans (hb3.mono HB1.out.size)); have HF3 := Lib.hid (HFO.out w3 (HWS.out.below B3.out)); clear hb3 HROW)
        | (go_at_call 22; refine HF3.out.mono ?_; rintro e w4 ⟨vf, rfl, hfl, hb4, _⟩; obtain ⟨af, capf, rfl, hget⟩ := hfl.get; have B4 := Lib.hid (B3.out.trans (hb4.mono B3.out.size)); have HGET := Lib.hid hget; clear hfl hget hb4))
      obtain ⟨len, hlen2⟩ : ∃ len, len = L.length := ⟨_, rfl⟩
      have HL := Lib.hid hlen2
      rw [← hlen2] at hlen ⊢
      clear hlen2 HROW3 HF3 HFO HI HWS HSZ
      go_loopg [6, 18] len (fun q s6 s18 wx => ∃ i : Nat, i + q = len ∧ s18 = .int .i64 i ∧ Hid (∀ j, j < i → ∀ f, L[j]? = some f → crB v f = false) ∧ Hid (Below w4.heap.size w4 wx))
      case atStart => exact ⟨0, by omega, rfl, Lib.hid (fun j hj => by omega), Lib.hid (Below.refl _ _)⟩
      case round =>
        obtain ⟨i, hiq, rfl, HJ, HB⟩ := hrel
        by_cases hlt : i < len
        · obtain ⟨q, rfl⟩ : ∃ q, gk = q + 1 := ⟨gk - 1, by omega⟩
          have hiz : (i : Int) < (len : Int) := by omega
          obtain ⟨f, hf⟩ : ∃ f, L[i]? = some f := ⟨_, List.getElem?_eq_getElem (by rw [← HL.out]; exact hlt)⟩
          obtain ⟨bq, off, rfl, hbl, d0', d1', d2'⟩ := HGET.out i f hf
          have d0 := (HB.out.cell (p := ⟨bq, off + i * 3, none⟩) hbl).trans d0'
          have d1 := (HB.out.cell (p := ⟨bq, off + i * 3 + 1, none⟩) hbl).trans d1'
          have d2 := (HB.out.cell (p := ⟨bq, off + i * 3 + 2, none⟩) hbl).trans d2'
          have HF := Lib.hid hf
          have hcr := Lib.hid (show crB v f = (decide (f.tag = 12) && !hasB v f.tag) from rfl)
          obtain ⟨t, bis, tx⟩ := f
          simp only at d0 d1 d2 hcr
          obtain ⟨X, hX⟩ : ∃ X : ByteArray, X = ⟨tx.toArray⟩ := ⟨_, rfl⟩
          rw [← hX] at d2
          have hic := fun (W : World) => isCritical_any t W
          have hhs := fun (W : World) => has_any v t W
          clear hf d0' d1' d2' hX hbl
          have HB2 := Lib.hid (HB.out.alloc HB.out.size (.cells #[.int .u64 t, .bool bis, .string X] 64))
          have next : crB v ⟨t, bis, tx⟩ = false → ∀ j, j < i + 1 → ∀ f, L[j]? = some f → crB v f = false := fun h j hj y hy => by
            by_cases hji : j = i
            · subst hji
              rw [HF.out] at hy
              injection hy with hy
              rw [← hy]
              exact h
            · exact HJ.out j (by omega) y hy
          by_cases h12 : t = 12
          · rw [decide_eq_true h12] at hic hcr
            have HIC := Lib.hid hic
            cases hh : hasB v t with
            | true =>
              rw [hh] at hhs hcr
              have HHS := Lib.hid hhs
              have HN := Lib.hid (next (by rw [hcr.out]; rfl))
              clear next hcr hic hhs hh h12
              go_wp2_with (first
                | (go_at_call 32; refine (HIC.out _).mono ?_; rintro e w5 ⟨rfl, rfl⟩)
                | (go_at_call 23; refine (HHS.out _).mono ?_; rintro e w5 ⟨rfl, rfl⟩))
              go_roundg q
              case measure => omega
              case rel => exact ⟨i + 1, by omega, by simp, HN, HB2⟩
            | false =>
              rw [hh] at hhs hcr
              have HHS := Lib.hid hhs
              have hfin := Lib.hid (show (4 : Int) = E by rw [HE.out, any_true HF.out (by rw [hcr.out]; rfl)]; rfl)
              clear next hcr hic hhs hh h12
              go_wp2_with (first
                | (go_at_call 32; refine (HIC.out _).mono ?_; rintro e w5 ⟨rfl, rfl⟩)
                | (go_at_call 23; refine (HHS.out _).mono ?_; rintro e w5 ⟨rfl, rfl⟩))
              go_ret
              exact ⟨ret_int hfin.out, B4.out.trans (HB2.out.mono B4.out.size)⟩
          · rw [decide_eq_false h12] at hic hcr
            have HIC := Lib.hid hic
            have HN := Lib.hid (next (by rw [hcr.out]; rfl))
            clear next hcr hic hhs h12
            go_wp2_with (go_at_call 32; refine (HIC.out _).mono ?_; rintro e w5 ⟨rfl, rfl⟩)
            go_roundg q
            case measure => omega
            case rel => exact ⟨i + 1, by omega, by simp, HN, HB2⟩
        · have hiz : ¬ (i : Int) < (len : Int) := by omega
          have hfin := Lib.hid (show (0 : Int) = E by rw [HE.out, any_none HJ.out (by rw [← HL.out]; omega)]; rfl)
          go_wp2_with fail
          go_ret
          exact ⟨ret_int hfin.out, B4.out.trans (HB.out.mono B4.out.size)⟩

set_option maxHeartbeats 4000000 in
theorem encOK : EncOK := fun v m sl w hv hf hw hws => by
  have hrf := fun (W : World) (hW : WsAt W sl m.ws) => refusal_any v m sl hf hw W hW
  obtain ⟨C, hC⟩ : ∃ C, C = m.cells sl := ⟨_, rfl⟩
  have HC : CellsOf C m sl := ⟨hC⟩
  have HSZ := Lib.hid (show (Try.prog.info? 29).map (·.size) = some C.size by rw [HC.size]; exact msg_size)
  rw [← hC] at hrf ⊢
  have HWS := Lib.hid hws
  have HROW := Lib.hid (heap_alloc_new w (.cells C 29))
  have HB1 := Lib.hid (show Below w.heap.size w (w.alloc (.cells C 29)) from (Below.refl _ _).alloc (Nat.le_refl _) _)
  have HZ1 := Lib.hid (show w.heap.size < (w.alloc (.cells C 29)).heap.size by simp)
  by_cases h0 : (projB v m).2 = 0
  · have he : encB v m = (msgB m (lastOf v), 0) := by unfold encB; rw [if_pos h0]
    rw [he]
    have hi := enc_is (v := v) (m := m) (by rw [he])
    have hk : 1 ≤ m.kind ∧ m.kind ≤ 9 := of_decide_eq_true (right_parts hi.2.1).2.1
    have hbo := fun (W : World) (hW : WsAt W sl m.ws) => bytesOf_any v hi.1 m sl ⟨by omega, by omega⟩ (right_parts hi.2.1).1 hf hw W hW
    rw [← hC] at hbo
    rw [h0] at hrf
    have HRF := Lib.hid hrf
    have HBO := Lib.hid hbo
    obtain ⟨MB, hMB⟩ : ∃ MB, MB = msgB m (lastOf v) := ⟨_, rfl⟩
    rw [← hMB] at HBO ⊢
    clear hws hrf hbo hC HC he hi hk h0 hMB hv hf hw
    go_enter Try.func10, Try.ntmps10
    go_wp2_with (first
      | (refine wpList_load_row_w rfl 29 _ rfl w.heap.size rfl 29 C (0, 0) _ HROW.out Try.underlying29 rfl HSZ.out ?_)
      | (refine wpList_load_row_w rfl 29 _ rfl w.heap.size rfl 29 C (0, 0) _ HROW2.out Try.underlying29 rfl HSZ.out ?_)
      | (go_at_call 19; refine (HRF.out _ (HWS.out.below HB1.out)).mono ?_; rintro e w2 ⟨rfl, hb2⟩; have HROW2 := Lib.hid ((hb2.block w.heap.size HZ1.out).trans HROW.out); have B2 := Lib.hid (HB1.out.trans (hb2.mono HB1.out.size)); have HB3 := Lib.hid (HBO.out w2 (HWS.out.below B2.out)); clear hb2 HROW)
      | (go_at_call 20; refine HB3.out.mono ?_; rintro e w3 ⟨rfl, hb3⟩))
    go_ret2
    exact ⟨rfl, B2.out.trans (hb3.mono B2.out.size)⟩
  · have he : encB v m = ([], (projB v m).2) := by unfold encB; rw [if_neg h0]
    rw [he]
    obtain ⟨E, hE⟩ : ∃ E, E = (projB v m).2 := ⟨_, rfl⟩
    rw [← hE] at hrf h0 ⊢
    have hne : (E != 0) = true := by rw [bne_iff_ne]; exact h0
    have HRF := Lib.hid hrf
    clear hws hrf hC HC he h0 hE hv hf hw
    go_enter Try.func10, Try.ntmps10
    go_wp2_with (first
      | (refine wpList_load_row_w rfl 29 _ rfl w.heap.size rfl 29 C (0, 0) _ HROW.out Try.underlying29 rfl HSZ.out ?_)
      | (go_at_call 19; refine (HRF.out _ (HWS.out.below HB1.out)).mono ?_; rintro e w2 ⟨rfl, hb2⟩))
    go_ret2
    exact ⟨rfl, HB1.out.trans (hb2.mono HB1.out.size)⟩
end Go.Proofs.Ytkcbbcabfbkclaa
