/-
  The walk of the program's Project, of a message that can be said.
-/
import Derived.Test.YtkcbbcabfbkclaaMsgProject
namespace Go.Proofs.Ytkcbbcabfbkclaa
open Go.RowKit
set_option linter.unusedVariables false
set_option linter.unnecessarySimpa false
set_option linter.unusedSimpArgs false
set_option maxRecDepth 100000

/-- What the slots of the region hold in which a field is read. -/
def psiP (G P b t f : Nat) (X : ByteArray) (lo : Nat) : Nat → Value → World → Prop
  | 7 => fun v _ => v = .pointer (some ⟨G, 0, none⟩)
  | 8 => fun v _ => v = .map (some b)
  | 10 => fun v _ => v = .pointer (some ⟨P, 0, none⟩)
  | 33 => fun v _ => v = .map (some b)
  | 34 => fun v _ => v = .pointer (some ⟨P, 0, none⟩)
  | 35 => fun v _ => v = .int .u64 (t : Int)
  | 36 => fun v _ => v = .func (.func f) #[] #[]
  | 37 => fun v _ => v = .pointer (some ⟨P, 2, none⟩)
  | 38 => fun v _ => v = .string X
  | 39 => fun v w => ∃ c, v = .pointer (some ⟨c, 0, none⟩) ∧ lo ≤ c ∧ CurAt w c X false
  | _ => fun _ _ => True
theorem psiP_stable (G P b t f : Nat) (X : ByteArray) (lo : Nat) (s : Nat) (v : Value) (w w' : World) (h : psiP G P b t f X lo s v w) (hb : Below w.heap.size w w') : psiP G P b t f X lo s v w' := by
  unfold psiP at *
  split at h
  all_goals first
    | exact h
    | (obtain ⟨c, h1, h2, h3⟩ := h; exact ⟨c, h1, h2, h3.kept hb h3.lt⟩)

set_option maxHeartbeats 16000000 in
theorem project_ok (v : Int) (m : Mg) (sl : Value) (hf : m.fits) (hw : m.few) (h0 : (projB v m).2 = 0) (w : World) (hws : WsAt w sl m.ws) :
    Calls Try.prog 11 #[.int .i64 v, .agg (m.cells sl)] w (MsgOut (cut v m) 0 w) := by
  have he : (encB v m).2 = 0 := by unfold encB; rw [if_pos h0]
  obtain ⟨hl0, hr, hmu⟩ := enc_is he
  have hv3 : v = 1 ∨ v = 2 ∨ v = 3 := Decidable.byContradiction fun h => hl0 (lastOf_zero.2 h)
  have hn := (right_parts hr).1
  have h8 := (right_parts hr).2.2.2.1
  have hcut : upto m (lastOf v) = cut v m := upto_cut hv3 (by
    by_cases hm : m.must = 0
    · exact .inr hm
    · left; by_cases h3 : v < 3
      · exact absurd ⟨h3, hm⟩ hmu
      · omega)
  have hlast := last_912 hv3
  have hall := prj_all hn hlast
  rw [hcut] at hall
  have hrf := fun (W : World) (hW : WsAt W sl m.ws) => refusal_any v m sl hf hw W hW
  have hfo := fun (W : World) (hW : WsAt W sl m.ws) => fieldsOf_any m sl hn hf hw W hW
  unfold FldsOut at hfo
  have hmem : ∀ i (f : F3), (fldsL m)[i]? = some f → 1 ≤ f.tag ∧ f.tag ≤ 12 ∧ f.text = txt m f.tag ∧ isT m f.tag = true ∧ f.text.length ≤ 210000 := fun i f h => by
    have h1 := fldsL_mem (List.mem_of_getElem? h)
    have e : f.text = txt m f.tag := by rw [h1.2.2.2]; rfl
    refine ⟨h1.2.1, h1.2.2.1, e, ?_, by rw [e]; exact txt_len hn hf hw f.tag⟩
    have h2 := h1.1
    rw [h1.2.2.2] at h2
    exact h2
  have hput : ∀ (p : Mg) (t : Nat), 1 ≤ t → t ≤ 12 → isT m t = true → (rdF p (ar (txt m t), false) t).2.1 = putT p m t := fun p t h1 h12 hT => rd_put hn hf hw h8 h1 h12 hT
  have hhas : ∀ t, 1 ≤ t → hasB v t = decide (t ≤ lastOf v) := fun t ht => hasB_is hl0 ht
  have hlen := fldsL_len m
  obtain ⟨C, hC⟩ : ∃ C, C = m.cells sl := ⟨_, rfl⟩
  have HC : CellsOf C m sl := ⟨hC⟩
  have hC0 := HC.at0
  have HSZ := Lib.hid (show (Try.prog.info? 29).map (·.size) = some C.size by rw [HC.size]; exact msg_size)
  obtain ⟨last, elast⟩ : ∃ last, last = lastOf v := ⟨_, rfl⟩
  obtain ⟨L, hL⟩ : ∃ L, L = fldsL m := ⟨_, rfl⟩
  obtain ⟨K, hK⟩ : ∃ K, K = m.kind := ⟨_, rfl⟩
  obtain ⟨M', hM'⟩ : ∃ M', M' = cut v m := ⟨_, rfl⟩
  rw [h0] at hrf
  rw [← hC] at hrf hfo ⊢
  rw [← hL] at hfo hmem hlen hall
  rw [← hK] at hC0 hall
  rw [← elast] at hall hhas
  rw [← hM'] at hall ⊢
  have HRF := Lib.hid hrf
  have HFO := Lib.hid hfo
  have HME := Lib.hid hmem
  have HPU := Lib.hid hput
  have HHA := Lib.hid hhas
  have HALL := Lib.hid hall
  have HWS := Lib.hid hws
  obtain ⟨W2, hW2⟩ : ∃ W2, W2 = (w.alloc (.cells C 29)).alloc (.cells zeroMsg 29) := ⟨_, rfl⟩
  obtain ⟨R, hR⟩ : ∃ R, R = w.heap.size + 1 := ⟨_, rfl⟩
  have hrow : W2.heap[w.heap.size]? = some (.cells C 29 (0, 0)) := by rw [hW2]; exact alloc_two w _ _
  have hres : W2.heap[R]? = some (.cells zeroMsg 29 (0, 0)) := by rw [hW2, hR]; exact two_second _ _ _
  have HB2 := Lib.hid (show Below w.heap.size w W2 by rw [hW2]; exact two_below _ _ _)
  have HROW := Lib.hid hrow
  have HRES := Lib.hid hres
  have HZ := Lib.hid (Array.getElem?_eq_some_iff.1 hres).1
  have HZ0 := Lib.hid (Array.getElem?_eq_some_iff.1 hrow).1
  have HRW := Lib.hid (show w.heap.size ≤ R by omega)
  clear HC hC he hl0 hr hmu hv3 hn h8 hcut hlast hall hrf hfo hmem hput hhas elast hL hK hM' hws hf hw h0 hrow hres
  unfold zeroMsg at hW2 HRES
  go_enter Try.func11, Try.ntmps11
  go_upto_region 1 with fail
  rw [← hW2, ← hR]
  clear hW2 hR
  go_upto_region 4 with (first
    | (refine wpList_load_row_w rfl 29 _ rfl w.heap.size rfl 29 C (0, 0) _ HROW.out Try.underlying29 rfl HSZ.out ?_)
    | (go_at_call 19; refine (HRF.out _ (HWS.out.below HB2.out)).mono ?_; rintro e w3 ⟨rfl, hb3⟩))
  have HROW3 := Lib.hid ((hb3.block w.heap.size HZ0.out).trans HROW.out)
  have HRES3 := Lib.hid ((hb3.block R HZ.out).trans HRES.out)
  have B3 := Lib.hid (HB2.out.trans (hb3.mono HB2.out.size))
  have c0 := cell_row HROW3.out hC0
  have hRz : R < w3.heap.size := Nat.lt_of_lt_of_le HZ.out hb3.size
  have hXz : w.heap.size < w3.heap.size := Nat.lt_of_lt_of_le HZ0.out hb3.size
  clear hb3 HROW HRES HB2 HRF hC0
  go_upto_region 5 with fail
  obtain ⟨P0, hP0⟩ : ∃ P0 : Mg, P0 = { mg0 with kind := K } := ⟨_, rfl⟩
  have hPc : P0.cells (.slice none 0 0) = #[.int .i64 K, .int .i64 0, .int .i64 0, .int .i64 0, .int .i64 0, .int .i64 0, .int .u64 0, .int .u64 0, .string ⟨#[]⟩, .bool false, .int .u64 0, .bool false, .string ⟨#[]⟩, .slice none 0 0, .string ⟨#[]⟩, .int .u64 0, .int .u64 0] := by rw [hP0]; rfl
  obtain ⟨G, hG⟩ : ∃ G, G = w3.heap.size := ⟨_, rfl⟩
  obtain ⟨W4, hW4⟩ : ∃ W4, W4 = w3.alloc (.cells #[.int .i64 K, .int .i64 0, .int .i64 0, .int .i64 0, .int .i64 0, .int .i64 0, .int .u64 0, .int .u64 0, .string ⟨#[]⟩, .bool false, .int .u64 0, .bool false, .string ⟨#[]⟩, .slice none 0 0, .string ⟨#[]⟩, .int .u64 0, .int .u64 0] 29) := ⟨_, rfl⟩
  have hb4 : Below w3.heap.size w3 W4 := by rw [hW4]; exact (Below.refl _ _).alloc (Nat.le_refl _) _
  have hm4 : MsgAt (#[], 29) G P0 (.slice none 0 0) W4 := ⟨by unfold rowE; rw [Array.append_empty, hPc, hW4, hG]; exact heap_alloc_new w3 _, by rw [hP0]; exact WsAt.nil _, by simp [Value.ownBlock], fun k e => by simp [Value.ownBlock] at e⟩
  generalize (Value.agg #[.int .i64 K, .int .i64 0, .int .i64 0, .int .i64 0, .int .i64 0, .int .i64 0, .int .u64 0, .int .u64 0, .string ⟨#[]⟩, .bool false, .int .u64 0, .bool false, .string ⟨#[]⟩, .slice none 0 0, .string ⟨#[]⟩, .int .u64 0, .int .u64 0]) = Z20
  rw [← hW4, ← hG]
  have HALL' := HALL.out
  rw [← hP0] at HALL'
  have HALL2 := Lib.hid HALL'
  have B4 := Lib.hid (B3.out.trans (hb4.mono B3.out.size))
  have HROW4 := Lib.hid ((hb4.block w.heap.size hXz).trans HROW3.out)
  have HRES4 := Lib.hid ((hb4.block R hRz).trans HRES3.out)
  have HM4 := Lib.hid hm4
  have hRG := Lib.hid (show R ≠ G by omega)
  have hXG := Lib.hid (show w.heap.size < G by omega)
  have hRG2 := Lib.hid (show R < G by omega)
  have HWG := Lib.hid (show w.heap.size ≤ G by omega)
  have hG4 := Lib.hid hm4.lt
  clear hP0 hPc hG hW4 hb4 hm4 HALL HALL' B3 HROW3 HRES3 hRz hXz c0
  have HRD := Lib.hid (readers_any W4)
  go_upto_region 6 with (go_at_call 21; refine HRD.out.mono ?_; rintro e w5 ⟨b, rfl, hbz, hfn5, hb5⟩)
  have hG5 := hG4.out
  have HROW5 := Lib.hid ((hb5.block w.heap.size (by have := hXG.out; omega)).trans HROW4.out)
  have HRES5 := Lib.hid ((hb5.block R (by have := hRG2.out; omega)).trans HRES4.out)
  have B5 := Lib.hid (B4.out.trans (hb5.mono B4.out.size))
  have HM5 := Lib.hid (HM4.out.below hb5)
  have HFN5 := Lib.hid hfn5
  have hbG := Lib.hid (show G < b by omega)
  have HZ5 := Lib.hid (show G < w5.heap.size by have := hb5.size; omega)
  have HF5 := Lib.hid (HFO.out w5 (HWS.out.below B5.out))
  clear hbz hfn5 hb5 HRD HROW4 HRES4 B4 HM4 hG4 hG5 HFO HWS
  go_wp2_with (first
    | (refine wpList_load_row_w rfl 29 _ rfl w.heap.size rfl 29 C (0, 0) _ HROW5.out Try.underlying29 rfl HSZ.out ?_)
    | (go_at_call 22; refine HF5.out.mono ?_; rintro e w6 ⟨vf, rfl, hfl, hb6, hfr⟩; obtain ⟨af, capf, rfl, hget⟩ := hfl.get))
  have HRES6 := Lib.hid ((hb6.block R (by have := hRG2.out; have := HZ5.out; omega)).trans HRES5.out)
  have B6 := Lib.hid (B5.out.trans (hb6.mono B5.out.size))
  have HM6 := Lib.hid (HM5.out.below hb6)
  have HFN6 := Lib.hid (HFN5.out.below hb6)
  have HGET := Lib.hid hget
  have HFR := Lib.hid (show ∀ k, (Value.slice af L.length capf).ownBlock = some k → G < k from fun k e => by have := hfr k e; have := HZ5.out; omega)
  clear hfl hget hfr hb6 HROW5 HRES5 B5 HM5 HFN5 HF5 HSZ
  obtain ⟨len, hlen2⟩ : ∃ len, len = L.length := ⟨_, rfl⟩
  have HL := Lib.hid hlen2
  rw [← hlen2] at hlen ⊢
  rw [← hlen2] at HFR
  clear hlen2
  go_loopg [10, 25] len (fun q s10 s25 wx => ∃ (i : Nat) (mp : Mg) (sp : Value), i + q = len ∧ s25 = .int .i64 i ∧ Hid (mp = prj m last P0 (L.take i)) ∧ Hid (MsgAt (#[], 29) G mp sp wx) ∧ Hid (w6.grownBy wx (some G)) ∧ Hid (∀ k, sp.ownBlock = some k → G < k))
  case atStart => exact ⟨0, P0, .slice none 0 0, by omega, rfl, Lib.hid rfl, HM6, Lib.hid (grownBy_refl _ _), Lib.hid (fun k e => by simp [Value.ownBlock] at e)⟩
  case round =>
    obtain ⟨i, mp, sp, hiq, rfl, HP, HM, HG, HS⟩ := hrel
    by_cases hlt : i < len
    · obtain ⟨q, rfl⟩ : ∃ q, gk = q + 1 := ⟨gk - 1, by omega⟩
      have hiz : (i : Int) < (len : Int) := by omega
      obtain ⟨F, hf⟩ : ∃ F, L[i]? = some F := ⟨_, List.getElem?_eq_getElem (by rw [← HL.out]; exact hlt)⟩
      obtain ⟨bq, off, rfl, hbl, d0', d1', d2'⟩ := HGET.out i F hf
      have hm := HME.out i F hf
      have hup : prj m last P0 (L.take (i + 1)) = prjS m last (prj m last P0 (L.take i)) F := prj_take hf
      rw [← HP.out] at hup
      have hbq := HG.out.block bq hbl (fun e => by injection e with e; have := HFR.out bq rfl; omega)
      have d0 := (cell_same hbq (off + i * 3)).trans d0'
      have d1 := (cell_same hbq (off + i * 3 + 1)).trans d1'
      have d2 := (cell_same hbq (off + i * 3 + 2)).trans d2'
      obtain ⟨t, bis, tx⟩ := F
      simp only at d0 d1 d2 hm
      obtain ⟨ht1, ht12, htx, hT, hln⟩ := hm
      have hhb0 := fun (W : World) => has_any v t W
      have hhb := HHA.out t ht1
      have HUP := Lib.hid hup
      obtain ⟨X, hX⟩ : ∃ X : ByteArray, X = ⟨tx.toArray⟩ := ⟨_, rfl⟩
      have hpt := HPU.out mp t ht1 ht12 hT
      rw [← htx, show ar tx = X from hX.symm] at hpt
      have HPT := Lib.hid hpt
      have HXS := Lib.hid (show X.size ≤ 1000000 by rw [hX]; show tx.toArray.size ≤ _; rw [List.size_toArray]; omega)
      rw [← hX] at d2
      obtain ⟨f, hfn⟩ := fn_of ht1 ht12
      have HFT := Lib.hid hfn
      have HRF := Lib.hid (fun sl => rd_all (#[], 29) G mp sl (t, f) hfn)
      have hen' : ∀ (args : Array Value) (w : World), (callFunc f args).run Try.prog w = .ok (.enter f args) w := fns_enter (t, f) hfn
      have HMS := HM.out.lt
      clear hf d0' d1' d2' hX hup hbq hbl hpt htx hT hln hfn
      obtain ⟨P7, hP7⟩ : ∃ P7, P7 = wr.heap.size := ⟨_, rfl⟩
      obtain ⟨W7, hW7⟩ : ∃ W7, W7 = wr.alloc (.cells #[.int .u64 t, .bool bis, .string X] 64) := ⟨_, rfl⟩
      have hrow : W7.heap[P7]? = some (.cells #[.int .u64 t, .bool bis, .string X] 64 (0, 0)) := by rw [hW7, hP7]; exact heap_alloc_new wr _
      have hbx : Below wr.heap.size wr W7 := by rw [hW7]; exact (Below.refl _ _).alloc (Nat.le_refl _) _
      have M7 := Lib.hid (HM.out.below hbx)
      have G7 := Lib.hid (grownBy_trans HG.out (grown_of_below (g := G) hbx))
      have F7 := Lib.hid ((HFN6.out.grown HG.out (by have := hbG.out; omega)).below hbx)
      have ROW7 := Lib.hid hrow
      have hP7z := (Array.getElem?_eq_some_iff.1 hrow).1
      go_upto_region 9 with fail
      rw [← hW7, ← hP7]
      have e0 : W7.cell? ⟨P7, 0, none⟩ = some (.int .u64 t) := by simp [World.cell?, ROW7.out]
      clear hW7 hP7 hrow hbx d0 d1 d2 HM HG
      by_cases hle : t ≤ last
      · rw [hhb, decide_eq_true hle] at hhb0
        have HHB := Lib.hid hhb0
        have HX := Lib.hid (show prjS m last mp ⟨t, bis, tx⟩ = putT mp m t from if_pos hle)
        clear hhb hhb0 hle
        go_upto_region 10 with (go_at_call 23; refine (HHB.out _).mono ?_; rintro e w8 ⟨rfl, rfl⟩)
        clear e0
        have HCL := Lib.hid (fun w' (hb : Below W7.heap.size W7 w') => (hb.block P7 hP7z).trans ROW7.out)
        refine wp_region_last (init := [_, _, _, _, _, _, _]) (o := _) [7, 8, 10, 0, 1, 2, 3, 4, 5, 6, 9, 11, 12, 13, 14, 15, 16, 17, 18, 19, 20, 21, 22, 23, 24, 25, 26, 27, 28, 29, 30, 31, 32, 41, 42] [36, 39] (psiP G P7 b t f X W7.heap.size) 43 (by kernel_rfl) (by kernel_rfl) (by kernel_rfl) rfl (by kernel_rfl) (by kernel_rfl) (psiP_stable _ _ _ _ _ _ _) ?_ ?_ ?_
        · intro s hs w' _
          simp only [List.mem_cons, List.not_mem_nil, or_false] at hs
          rcases hs with rfl | rfl | rfl | rfl | rfl | rfl | rfl | rfl | rfl | rfl | rfl | rfl | rfl | rfl | rfl | rfl | rfl | rfl | rfl | rfl | rfl | rfl | rfl | rfl | rfl | rfl | rfl | rfl | rfl | rfl | rfl | rfl | rfl | rfl | rfl <;> first | exact trivial | rfl
        · repeat' (first | exact AllSteps.nil | refine AllSteps.cons ?_ ?_)
          all_goals
            intro a' w' K Q hB hP hK
            repeat (obtain ⟨h, hP⟩ := hP; conv at h => whnf)
            have hr := HCL.out _ hB
            have e0 : w'.cell? ⟨P7, 0, none⟩ = some (.int .u64 t) := by simp [World.cell?, hr]
            have e2 : w'.cell? ⟨P7, 2, none⟩ = some (.string X) := by simp [World.cell?, hr]
            have hlk := fns_at (F7.out.below hB) f HFT.out
            have hBz := Lib.hid hB.size
            clear hr HCL
            try go_simp
            first
              | (refine hK _ _ (Below.refl _ _) ?_; intro d hd; cases hd; first | rfl | exact h)
              | (go_at_call 24; refine (new_any X _).mono ?_; rintro e w'' ⟨rfl, hcu, hb⟩; refine hK _ _ hb ?_; intro d hd; cases hd; exact ⟨_, rfl, hBz.out, hcu⟩)
        · intro a' w' hb hsz hdf hold hnew
          have k7 : a'.tmps.getD 7 undef = _ := hold 7 (by simp)
          have k36 : a'.tmps.getD 36 undef = Value.func (.func f) #[] #[] := hnew 36 (by simp)
          obtain ⟨c, k39, hlo, hcu⟩ : ∃ c, a'.tmps.getD 39 undef = .pointer (some ⟨c, 0, none⟩) ∧ W7.heap.size ≤ c ∧ CurAt w' c X false := hnew 39 (by simp)
          have HCALL := Lib.hid (HRF.out sp c (X, false) w' (M7.out.rdIn hb hcu hlo HXS.out))
          have HTO := Lib.hid (fun (w'' : World) (e : Ending) (ho : RdOut (#[], 29) G c (rdF mp (X, false) t) sp w' e w'') => TkOut.msgAt M7.out (RdOut.tk hb hlo ho true))
          have k0 : a'.tmps.getD 0 undef = _ := hold 0 (by simp)
          have k1 : a'.tmps.getD 1 undef = _ := hold 1 (by simp)
          have k2 : a'.tmps.getD 2 undef = _ := hold 2 (by simp)
          have k3 : a'.tmps.getD 3 undef = _ := hold 3 (by simp)
          have k4 : a'.tmps.getD 4 undef = _ := hold 4 (by simp)
          have k5 : a'.tmps.getD 5 undef = _ := hold 5 (by simp)
          have k6 : a'.tmps.getD 6 undef = _ := hold 6 (by simp)
          have k8 : a'.tmps.getD 8 undef = _ := hold 8 (by simp)
          have k9 : a'.tmps.getD 9 undef = _ := hold 9 (by simp)
          have k10 : a'.tmps.getD 10 undef = _ := hold 10 (by simp)
          have k11 : a'.tmps.getD 11 undef = _ := hold 11 (by simp)
          have k12 : a'.tmps.getD 12 undef = _ := hold 12 (by simp)
          have k13 : a'.tmps.getD 13 undef = _ := hold 13 (by simp)
          have k14 : a'.tmps.getD 14 undef = _ := hold 14 (by simp)
          have k15 : a'.tmps.getD 15 undef = _ := hold 15 (by simp)
          have k16 : a'.tmps.getD 16 undef = _ := hold 16 (by simp)
          have k17 : a'.tmps.getD 17 undef = _ := hold 17 (by simp)
          have k18 : a'.tmps.getD 18 undef = _ := hold 18 (by simp)
          have k19 : a'.tmps.getD 19 undef = _ := hold 19 (by simp)
          have k20 : a'.tmps.getD 20 undef = _ := hold 20 (by simp)
          have k21 : a'.tmps.getD 21 undef = _ := hold 21 (by simp)
          have k22 : a'.tmps.getD 22 undef = _ := hold 22 (by simp)
          have k23 : a'.tmps.getD 23 undef = _ := hold 23 (by simp)
          have k24 : a'.tmps.getD 24 undef = _ := hold 24 (by simp)
          have k25 : a'.tmps.getD 25 undef = _ := hold 25 (by simp)
          have k26 : a'.tmps.getD 26 undef = _ := hold 26 (by simp)
          have k27 : a'.tmps.getD 27 undef = _ := hold 27 (by simp)
          have k28 : a'.tmps.getD 28 undef = _ := hold 28 (by simp)
          have k29 : a'.tmps.getD 29 undef = _ := hold 29 (by simp)
          have k30 : a'.tmps.getD 30 undef = _ := hold 30 (by simp)
          have k31 : a'.tmps.getD 31 undef = _ := hold 31 (by simp)
          have k32 : a'.tmps.getD 32 undef = _ := hold 32 (by simp)
          have k41 : a'.tmps.getD 41 undef = _ := hold 41 (by simp)
          have k42 : a'.tmps.getD 42 undef = _ := hold 42 (by simp)
          have ha := act_eta a' hsz
          simp only [List.range, List.range.loop, List.map, k7, k36, k39, k0, k1, k2, k3, k4, k5, k6, k8, k9, k10, k11, k12, k13, k14, k15, k16, k17, k18, k19, k20, k21, k22, k23, k24, k25, k26, k27, k28, k29, k30, k31, k32, k41, k42, hdf] at ha
          rw [ha]
          clear ha k7 k36 k39 k0 k1 k2 k3 k4 k5 k6 k8 k9 k10 k11 k12 k13 k14 k15 k16 k17 k18 k19 k20 k21 k22 k23 k24 k25 k26 k27 k28 k29 k30 k31 k32 k41 k42 hold hnew hcu hsz hdf
          go_simp
          refine HCALL.out.mono ?_
          intro e w2 ho
          obtain ⟨sl', _, hm2, hg2, hs2⟩ := HTO.out w2 e ho
          obtain ⟨sl'', rfl, _⟩ := ho
          have HP2 := Lib.hid (show (rdF mp (X, false) t).2.1 = prj m last P0 (L.take (i + 1)) by rw [HPT.out, HUP.out, HX.out])
          have HM2 := Lib.hid hm2
          have HG2 := Lib.hid (grownBy_trans G7.out hg2)
          have HS2 := Lib.hid (show ∀ k, sl'.ownBlock = some k → G < k from fun k e => by
            rcases hs2 with rfl | h
            · exact HS.out k e
            · have h1 := h k e; have h2 := M7.out.lt; omega)
          clear hm2 hg2 hs2 HTO HCALL hb hlo
          go_wp2_with fail
          go_roundg q
          case measure => omega
          case rel => exact ⟨i + 1, _, sl', by omega, by simp, HP2, HM2, HG2, HS2⟩
      · rw [hhb, decide_eq_false hle] at hhb0
        have HHB := Lib.hid hhb0
        have hfin := Lib.hid (show mp = prj m last P0 (L.take (i + 1)) by rw [HUP.out]; exact (if_neg hle).symm)
        clear hhb hhb0 hle
        go_wp2_with (go_at_call 23; refine (HHB.out _).mono ?_; rintro e w8 ⟨rfl, rfl⟩)
        go_roundg q
        case measure => omega
        case rel => exact ⟨i + 1, mp, sp, by omega, by simp, hfin, M7, G7, HS⟩
    · have hiz : ¬ (i : Int) < (len : Int) := by omega
      have hfin : mp = M' := by rw [HP.out, ← HALL2.out, List.take_of_length_le (by rw [← HL.out]; omega)]
      have hrow : wr.heap[G]? = some (.cells (mp.cells sp) 29 (0, 0)) := by have := HM.out.row; unfold rowE at this; rwa [Array.append_empty] at this
      have hres := grown_row HG.out HRES6.out hRG.out
      obtain ⟨D, hD⟩ : ∃ D, D = mp.cells sp := ⟨_, rfl⟩
      have HD17 := Lib.hid (show D.size = 17 by rw [hD]; rfl)
      have HDZ := Lib.hid (show (Try.prog.info? 29).map (·.size) = some D.size by rw [hD]; exact msg_size)
      have HDO := Lib.hid (show (D.all (·.oneCell')) = true by rw [hD]; exact cells_ok HM.out.ws)
      have hfin2 := Lib.hid (show MsgOut M' 0 w (.returned (.tuple #[.agg D, .int .i64 0])) (wr.setRow R D) from by
        refine ⟨sp, by rw [hD, hfin], ?_, below_setRow (B6.out.grown HG.out B6.out.size (fun k e => by injection e with e; have := HWG.out; omega)) HRW.out _⟩
        have hws := HM.out.ws
        rw [hfin] at hws
        refine hws.stay (by simp) (fun k e _ => setRow_other _ _ _ _ (fun q => by have := HS.out k e; have := hRG2.out; omega)))
      rw [← hD] at hrow
      have HRN := Lib.hid hrow
      have HRE := Lib.hid hres
      clear hfin hrow hres hD HP HM HG HS
      go_wp2_with (first
        | (refine wpList_load_row_w rfl 29 _ rfl G rfl 29 D (0, 0) _ HRN.out Try.underlying29 rfl HDZ.out ?_)
        | (refine wpList_store_row rfl 29 _ _ rfl R D rfl rfl 29 #[.int .i64 0, .int .i64 0, .int .i64 0, .int .i64 0, .int .i64 0, .int .i64 0, .int .u64 0, .int .u64 0, .string ⟨#[]⟩, .bool false, .int .u64 0, .bool false, .string ⟨#[]⟩, .slice none 0 0, .string ⟨#[]⟩, .int .u64 0, .int .u64 0] HRE.out HDZ.out HD17.out.symm HDO.out ?_))
      exact bodyPost_ret (v := .tuple #[.agg D, .int .i64 0]) (msg_ret (v := .int .i64 0) (setRow_heap _ _ _ _ _ _ HRE.out) HD17.out rfl rfl rfl) rfl hfin2.out
end Go.Proofs.Ytkcbbcabfbkclaa
