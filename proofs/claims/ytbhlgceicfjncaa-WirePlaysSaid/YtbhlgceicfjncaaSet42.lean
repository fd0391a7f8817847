/-
  Joined: MsgTm, MsgDecodeA.
-/
import Derived.Test.YtbhlgceicfjncaaSet41
namespace Go.Proofs.Ytbhlgceicfjncaa
open Go.RowKit
set_option linter.unusedVariables false
set_option linter.unnecessarySimpa false
set_option linter.unusedSimpArgs false
set_option maxRecDepth 100000

/-- What takeMessage answers. -/
def TmOut (last : Nat) (b : List UInt8) (w : World) (e : Ending) (w' : World) : Prop :=
  Below w.heap.size w w' ∧ ∃ D ok, e = .returned (.tuple #[.agg D, .bool ok]) ∧ D.size = 19 ∧ D.all (·.oneCell') = true ∧ (ok = false → preB last b = none) ∧
    (ok = true → ∃ prev m sl left crit, D = m.cells sl ++ #[.int .i64 (left : Nat), .bool crit] ∧ WsAt w' sl m.ws ∧ ((∀ k, sl.ownBlock = some k → w.heap.size ≤ k ∧ k < w'.heap.size) ∧ SlFit sl) ∧ m.fits ∧ m.few ∧ left ≤ 4000 ∧
      (preB last b = some ⟨prev, m, left, crit⟩ ∨ (preB last b = none ∧ rightBM m = false)))
theorem and1_64 {n : Nat} (h : n < 18446744073709551616) : bits BinOp.and IntKind.u64 (n : Int) 1 = ((n % 2 : Nat) : Int) := by
  rw [show (1 : Int) = ((1 : Nat) : Int) from rfl, u64_and_nat n 1 h (by decide), nat_mask1]
theorem two_bools {a b : Bool} (h : ¬ a = b) : (a = true ∧ b = false) ∨ (a = false ∧ b = true) := by cases a <;> cases b <;> simp_all
theorem mg0k_fits {K : Nat} (h : K ≤ 2147483648) : ({ mg0 with kind := (K : Int) } : Mg).fits := by
  have f : mg0.fits := by constructor <;> simp [mg0]
  exact ⟨⟨by show _ ≤ ((K : Nat) : Int); omega, by show ((K : Nat) : Int) ≤ _; omega⟩, f.frm, f.to_, f.node, f.life, f.seq, f.a, f.b, f.time, f.hint, f.must⟩
theorem mg0k_few {K : Nat} : ({ mg0 with kind := (K : Int) } : Mg).few := by
  have f : mg0.few := by constructor <;> simp [mg0]
  exact ⟨f.key, f.note, f.val, f.ws, f.all⟩
/-- What the slots of the last region hold. -/
def psiT (G R c0 : Nat) (D : Array Value) (bad : Bool) : Nat → Value → World → Prop
  | 4 => fun v _ => v = .pointer (some ⟨R, 0, none⟩)
  | 5 => fun v _ => v = .bool (!bad)
  | 6 => fun v _ => v = .pointer (some ⟨c0, 0, none⟩)
  | 7 => fun v _ => v = .pointer (some ⟨G, 0, none⟩)
  | 70 => fun v _ => v = .agg D
  | 71 => fun v _ => v = .pointer (some ⟨c0, 0, none⟩)
  | 72 => fun v _ => v = .bool bad
  | 73 => fun v _ => v = .bool (!bad)
  | _ => fun _ _ => True
theorem psiT_stable (G R c0 : Nat) (D : Array Value) (bad : Bool) (s : Nat) (v : Value) (w w' : World) (h : psiT G R c0 D bad s v w) : psiT G R c0 D bad s v w' := by
  unfold psiT at *
  split at h <;> exact h

set_option maxHeartbeats 16000000 in
theorem takeMessage_any (v : Int) (bl : List UInt8) (hv : ¬ lastOfM v = 0) (hb : bl.length ≤ 4000) (w : World) :
    Calls Try.prog 41 #[.int .i64 v, .string (ar bl)] w (TmOut (lastOfM v) bl w) := by
  have hbz : (ar bl).size = bl.length := arr_size bl
  have hcl := cInt_le (ar bl) false
  obtain ⟨l0, bad0, en0, hl0, hst0⟩ := tm_init (lastOfM v) bl
  have hv3 : v = 1 ∨ v = 2 ∨ v = 3 := Decidable.byContradiction fun h => hv (lastOf_zero.2 h)
  have hhas : ∀ t, 1 ≤ t → hasB v t = decide (t ≤ lastOfM v) := fun t ht => hasB_is hv ht
  have hlast : lastOfM v ≤ 12 := by rcases last_912 hv3 with h | h | h <;> omega
  have htk := fun (W : World) (hc : CurAt W (w.heap.size + 1) (ar bl) false) => takeInt_any (w.heap.size + 1) (ar bl) false (by omega) W hc
  rw [show (cUint (ar bl) false).2 = (ar l0, bad0) from en0] at htk
  obtain ⟨K, hK⟩ : ∃ K : Nat, K = cInt (ar bl) false := ⟨_, rfl⟩
  rw [← hK] at htk hst0 hcl
  obtain ⟨last, elast⟩ : ∃ last, last = lastOfM v := ⟨_, rfl⟩
  rw [← elast] at hhas hlast hst0 ⊢
  obtain ⟨X, hX⟩ : ∃ X, X = preB last bl := ⟨_, rfl⟩
  rw [← hX] at hst0
  have HX := Lib.hid hX
  have HKL := Lib.hid hcl
  have HTK := Lib.hid htk
  have HHA := Lib.hid hhas
  have HST := Lib.hid hst0
  have HL0 := Lib.hid hl0
  have HBZ := Lib.hid hb
  have HLA := Lib.hid hlast
  obtain ⟨B, hB⟩ : ∃ B, B = ar bl := ⟨_, rfl⟩
  have HNB := Lib.hid (fun (W : World) => new_any B W)
  rw [← hB] at HTK ⊢
  obtain ⟨R, hR⟩ : ∃ R, R = w.heap.size := ⟨_, rfl⟩
  obtain ⟨W1, hW1⟩ : ∃ W1, W1 = w.alloc (.cells zeroTaken 96) := ⟨_, rfl⟩
  have hrow1 : W1.heap[R]? = some (.cells zeroTaken 96 (0, 0)) := by rw [hW1, hR]; exact heap_alloc_new w _
  have hb1 : Below w.heap.size w W1 := by rw [hW1]; exact (Below.refl _ _).alloc (Nat.le_refl _) _
  have hz1 : W1.heap.size = R + 1 := by rw [hW1, hR]; simp
  have ROW1 := Lib.hid hrow1
  have B1 := Lib.hid hb1
  have HRW := Lib.hid hR
  rw [← hR] at HTK
  have HNW := HNB.out W1
  rw [hz1] at HNW
  have HZ1 := Lib.hid hz1
  clear hbz hcl hv hv3 hhas hlast htk en0 hl0 hst0 hK elast hX hb hrow1 hb1 hz1 hB
  unfold zeroTaken at hW1
  go_enter Try.func41, Try.ntmps41
  go_upto_region 1 with fail
  rw [← hW1, ← hR]
  clear hW1 hR
  have HNEW := Lib.hid HNW
  clear HNW HNB
  go_upto_region 2 with (go_at_call 58; refine HNEW.out.mono ?_; rintro e w2 ⟨rfl, hcu, hb2⟩)
  have HC2 := Lib.hid (HTK.out w2 hcu)
  have ROW2 := Lib.hid ((hb2.block R (by have := HZ1.out; omega)).trans ROW1.out)
  have B2 := Lib.hid (B1.out.trans (hb2.mono (by have := HZ1.out; have := HRW.out; omega)))
  have HCL2 := Lib.hid hcu.lt
  clear hb2 hcu HNEW ROW1 B1 HTK
  go_upto_region 3 with (first
    | (go_at_call 61; refine HC2.out.mono ?_; rintro e w3 ⟨rfl, hc3, hg3⟩)
    | (refine wpList_store_row rfl 96 _ _ rfl w3.heap.size #[.int .i64 K, .int .i64 0, .int .i64 0, .int .i64 0, .int .i64 0, .int .i64 0, .int .u64 0, .int .u64 0, .string ⟨#[]⟩, .bool false, .int .u64 0, .bool false, .string ⟨#[]⟩, .slice none 0 0, .string ⟨#[]⟩, .int .u64 0, .int .u64 0, .int .i64 0, .bool false] rfl rfl 96 zeroTaken (heap_alloc_new w3 _) taken_size rfl (by simp [Value.oneCell']) ?_))
  obtain ⟨m0, hm0⟩ : ∃ m0 : Mg, m0 = { mg0 with kind := (K : Int) } := ⟨_, rfl⟩
  obtain ⟨G, hG⟩ : ∃ G, G = w3.heap.size := ⟨_, rfl⟩
  obtain ⟨W4, hW4⟩ : ∃ W4, W4 = (w3.alloc (.cells zeroTaken 96)).setRow w3.heap.size #[.int .i64 K, .int .i64 0, .int .i64 0, .int .i64 0, .int .i64 0, .int .i64 0, .int .u64 0, .int .u64 0, .string ⟨#[]⟩, .bool false, .int .u64 0, .bool false, .string ⟨#[]⟩, .slice none 0 0, .string ⟨#[]⟩, .int .u64 0, .int .u64 0, .int .i64 0, .bool false] := ⟨_, rfl⟩
  have hb4 : Below w3.heap.size w3 W4 := by rw [hW4]; exact below_setRow ((Below.refl _ _).alloc (Nat.le_refl _) _) (Nat.le_refl _) _
  have hm4 : MsgAt (tkE 0 false) G m0 (.slice none 0 0) W4 := ⟨by
    rw [hW4, hG, hm0, setRow_heap _ _ _ _ _ _ (heap_alloc_new w3 _)]; rfl, by rw [hm0]; exact WsAt.nil _, by simp [Value.ownBlock], fun k e => by simp [Value.ownBlock] at e⟩
  unfold zeroTaken at hW4
  generalize (Value.agg #[.int .i64 K, .int .i64 0, .int .i64 0, .int .i64 0, .int .i64 0, .int .i64 0, .int .u64 0, .int .u64 0, .string ⟨#[]⟩, .bool false, .int .u64 0, .bool false, .string ⟨#[]⟩, .slice none 0 0, .string ⟨#[]⟩, .int .u64 0, .int .u64 0]) = Z18
  generalize (Value.agg #[.int .i64 K, .int .i64 0, .int .i64 0, .int .i64 0, .int .i64 0, .int .i64 0, .int .u64 0, .int .u64 0, .string ⟨#[]⟩, .bool false, .int .u64 0, .bool false, .string ⟨#[]⟩, .slice none 0 0, .string ⟨#[]⟩, .int .u64 0, .int .u64 0, .int .i64 0, .bool false]) = Z19
  rw [← hW4, ← hG]
  clear hW4
  have HFI := Lib.hid (show m0.fits ∧ m0.few from by
    have := HKL.out
    rw [hm0]
    exact ⟨mg0k_fits this, mg0k_few⟩)
  have HST0 := HST.out
  rw [← hm0] at HST0
  have HS0 := Lib.hid HST0
  have hcl3 := hc3.lt
  have hRz2 : R < w2.heap.size := (Array.getElem?_eq_some_iff.1 ROW2.out).1
  have ROW4 := Lib.hid ((hb4.block R (Nat.lt_of_lt_of_le hRz2 hg3.size)).trans (grown_row hg3 ROW2.out (by omega)))
  have CUR4 := Lib.hid (hc3.kept hb4 hcl3)
  have B3 := Lib.hid (B2.out.grown hg3 B2.out.size (fun j hj => by injection hj with hj; have := HRW.out; omega))
  have B4 := Lib.hid (B3.out.trans (hb4.mono B3.out.size))
  have HM4 := Lib.hid hm4
  have hCG := Lib.hid (show R + 1 < G by rw [hG]; exact hcl3)
  obtain ⟨c0, hc0⟩ : ∃ c0, c0 = R + 1 := ⟨_, rfl⟩
  rw [← hc0] at hCG CUR4 ⊢
  have HC0 := Lib.hid hc0
  clear hb4 hm4 hc3 hg3 HST0 hcl3 hRz2 hm0 hG HST B2 ROW2 HC2 HCL2 hc0 HZ1 B3
  have HRD := Lib.hid (readers_any W4)
  go_upto_region 4 with (go_at_call 62; refine HRD.out.mono ?_; rintro e w5 ⟨b, rfl, hbz, hfn5, hb5⟩)
  have hGz := Lib.hid HM4.out.lt
  have ROW5 := Lib.hid ((hb5.block R (by have := hCG.out; have := hGz.out; have := HC0.out; omega)).trans ROW4.out)
  have B5 := Lib.hid (B4.out.trans (hb5.mono B4.out.size))
  have HM5 := Lib.hid (HM4.out.below hb5)
  have FN5 := Lib.hid hfn5
  have CUR5 := Lib.hid (CUR4.out.kept hb5 CUR4.out.lt)
  have hbG := Lib.hid (show G < b by have := hGz.out; omega)
  clear hbz hfn5 hb5 HRD ROW4 B4 HM4 CUR4
  go_wp2_with fail
  go_loopg [9, 10, 11, 12, 13] l0.length (fun q s9 s10 s11 s12 s13 wx => ∃ (prev : Nat) (m : Mg) (sl : Value) (left : Nat) (crit : Bool) (l : List UInt8) (bad : Bool), l.length = q ∧ s9 = .int .u64 prev ∧ Hid (TmSt last X prev m left crit l bad) ∧ Hid (CurAt wx c0 (ar l) bad) ∧
    Hid (MsgAt (tkE left crit) G m sl wx) ∧ Hid ((∀ k, sl.ownBlock = some k → G < k) ∧ SlFit sl) ∧ Hid (Kept2 G c0 w5 wx) ∧ Hid (m.fits ∧ m.few) ∧ left + l.length ≤ 4000)
  case atStart => exact ⟨0, m0, .slice none 0 0, 0, false, l0, bad0, rfl, rfl, HS0, CUR5, HM5, Lib.hid ⟨(fun k e => by simp [Value.ownBlock] at e), slFit_nil⟩, Lib.hid (Kept2.refl _ _ _), HFI, by have := HL0.out; have := HBZ.out; omega⟩
  case round =>
    obtain ⟨prev, m, sl, left, crit, l, bad, hlq, rfl, HS, HC, HM, HF, HK, HFF, hle_⟩ := hrel
    have HLF : Hid (Calls Try.prog 63 #[.pointer (some ⟨c0, 0, none⟩)] wr fun e w' => e = .returned (.int .i64 (l.length : Nat)) ∧ wr = w') := Lib.hid (by
      rw [← arr_size l]; exact left_any c0 (ar l) bad wr (by rw [arr_size]; unfold maxLen; omega) HC.out)
    clear HS0 CUR5 HM5 HFI HL0
    by_cases h0 : l = []
    · have hlz : l.length = 0 := by rw [h0]; rfl
      have HBD := Lib.hid (fun W (hc : CurAt W c0 (ar l) bad) => bad_any c0 (ar l) bad W hc)
      rw [h0] at HS
      go_upto_region 17 with (go_at_call 63; refine HLF.out.mono ?_; rintro e w6 ⟨rfl, rfl⟩)
      obtain ⟨D, hD⟩ : ∃ D, D = m.cells sl ++ #[.int .i64 left, .bool crit] := ⟨_, rfl⟩
      have hDz : D.size = 19 := by rw [hD]; rfl
      have hone : D.all (·.oneCell') = true := by
        rw [hD, Array.all_append, cells_ok HM.out.ws]
        simp [Value.oneCell']
      have hGrow : wr.heap[G]? = some (.cells D 96 (0, 0)) := by rw [hD]; exact HM.out.row
      have hRrow := HK.out.row ROW5.out (by have := hCG.out; have := HC0.out; omega) (by have := HC0.out; omega)
      have hDs : (Try.prog.info? 96).map (·.size) = some D.size := by rw [hDz]; exact taken_size
      have HDD := Lib.hid hD
      clear hD
      have hRG : R ≠ G := by have := hCG.out; have := HC0.out; omega
      have hRc : R ≠ c0 := by have := HC0.out; omega
      refine wp_region_rel [4, 6, 7] [5] (OneTo R (.cells D 96 (0, 0))) (psiT G R c0 D bad) (fun i w' => i = 4 → w'.heap[R]? = some (.cells D 96 (0, 0))) 74 (by kernel_rfl) (by kernel_rfl) rfl (by kernel_rfl) (by kernel_rfl) OneTo.drew (fun _ _ _ => OneTo.trans) (fun t v w w' h _ => psiT_stable _ _ _ _ _ _ _ _ _ h) (fun i w w' h hl hi => hl.done (h hi)) ?_ ?_ ?_
      · intro s hs w' _
        simp only [List.mem_cons, List.not_mem_nil, or_false] at hs
        rcases hs with rfl | rfl | rfl <;> rfl
      · repeat' (first | exact AllStepsR.nil | refine AllStepsR.cons ?_ ?_)
        all_goals
          intro a' w' K' Q' hRl hP hK'
          repeat (obtain ⟨h, hP⟩ := hP; conv at h => whnf)
          first
            | (refine wp_load_row 96 _ rfl G (by simp only [Act.eval, Array.getD_eq_getD_getElem?]; assumption) 96 D (0, 0) _ ((hRl.block G (Ne.symm hRG)).trans hGrow) Try.underlying96 rfl hDs ?_; refine hK' _ _ OneTo.refl (fun e => by omega) ?_; intro d hd; cases hd; rfl)
            | (obtain ⟨old, hold, hoz⟩ : ∃ old, w'.heap[R]? = some (.cells old 96 (0, 0)) ∧ old.size = D.size := by
                rcases hRl.at_ with h | h
                · exact ⟨_, h.trans hRrow, by rw [hDz]; rfl⟩
                · exact ⟨_, h, rfl⟩
               refine wp_store_row 96 _ _ rfl R D (by simp only [Act.eval, Array.getD_eq_getD_getElem?]; assumption) (by simp only [Act.eval, Array.getD_eq_getD_getElem?]; assumption) 96 old hold hDs hoz hone ?_
               refine hK' _ _ (OneTo.setRow hold) (fun _ => setRow_heap _ _ _ _ _ _ hold) ?_
               intro d hd; cases hd)
            | (go_simp; first
                | (refine hK' _ _ OneTo.refl (fun e => by omega) ?_; intro d hd; cases hd; first | rfl | exact h)
                | (go_at_call 66; refine (HBD.out _ (by have := HC.out; unfold CurAt at this ⊢; rw [hRl.block c0 (Ne.symm hRc)]; exact this)).mono ?_; rintro e w'' ⟨rfl, rfl⟩; refine hK' _ _ OneTo.refl (fun e => by omega) ?_; intro d hd; cases hd; rfl))
      · intro a' w' hRl hsz hdf hold hnew hT
        have h5 : a'.tmps.getD 5 undef = .bool (!bad) := hnew 5 (by simp)
        have h4 : a'.tmps.getD 4 undef = .pointer (some ⟨R, 0, none⟩) := hold 4 (by simp)
        have hD4 := hT 4 (by decide) rfl
        have hfin : TmOut last bl w (.returned (.tuple #[.agg D, .bool (!bad)])) w' := by
          refine ⟨hRl.below (HK.out.below B5.out (by have := HRW.out; have := HC0.out; have := hCG.out; omega) (by have := HRW.out; have := HC0.out; omega)) (by have := HRW.out; omega), D, _, rfl, hDz, hone, ?_, ?_⟩
          · intro hb
            have hb' : bad = true := by simpa using hb
            rw [hb'] at HS
            rw [← HX.out]
            exact HS.out.bad_
          · intro hb
            have hb' : bad = false := by simpa using hb
            rw [hb'] at HS
            refine ⟨prev, m, sl, left, crit, HDD.out, HM.out.ws.stay (by rw [hRl.size]; exact Nat.le_refl _) (fun k e _ => hRl.block k (by have := HF.out.1 k e; have := hCG.out; have := HC0.out; omega)), ⟨fun k e => ⟨by have := HF.out.1 k e; have := hCG.out; have := HC0.out; have := HRW.out; omega, by have := HM.out.bnd k e; have := hRl.size; omega⟩, HF.out.2⟩, HFF.out.1, HFF.out.2, by omega, ?_⟩
            rw [← HX.out]
            exact HS.out.over
        go_wp2_with fail
        exact bodyPost_ret (tk_ret hD4 hDz rfl h4 h5) hdf hfin
    · have hpos : (0 : Int) < (l.length : Int) := by have := List.length_pos_iff.2 h0; omega
      have hl4 : (ar l).size ≤ maxLen := by rw [arr_size]; unfold maxLen; omega
      have hsz := nxt_size (ar l, bad)
      have hU := cur_uint c0 (ar l) bad wr hl4 HC.out
      have hT := fun (W : World) (h : CurAt W c0 (nxtM (ar l, bad)).1 (nxtM (ar l, bad)).2) => cur_text c0 (nxtM (ar l, bad)).1 (nxtM (ar l, bad)).2 W (Nat.le_trans hsz hl4) h
      have hcs := one_cases l bad
      have hdlt := cUint_lt (ar l) bad
      obtain ⟨hd, ehd⟩ : ∃ hd : Nat, hd = (cUint (ar l) bad).1 := ⟨_, rfl⟩
      have HU : Hid (Calls Try.prog 64 #[.pointer (some ⟨c0, 0, none⟩)] wr fun e w' => e = .returned (.int .u64 (hd : Nat)) ∧ CurTo c0 (nxtM (ar l, bad)) wr w') := Lib.hid (by rw [ehd]; exact hU)
      have hT2 : ∀ W, CurAt W c0 (nxtM (ar l, bad)).1 (nxtM (ar l, bad)).2 → Calls Try.prog 65 #[.pointer (some ⟨c0, 0, none⟩)] W fun e w' => e = .returned (.string (tx (nxtM (ar l, bad)))) ∧ CurTo c0 (txT (nxtM (ar l, bad))) W w' := hT
      rw [← ehd] at hcs hdlt
      obtain ⟨r1, er1⟩ : ∃ r1, r1 = nxtM (ar l, bad) := ⟨_, rfl⟩
      rw [← er1] at HU hT2 hcs
      obtain ⟨tx1, etx⟩ : ∃ tx1, tx1 = tx r1 := ⟨_, rfl⟩
      obtain ⟨r2, er2⟩ : ∃ r2, r2 = txT r1 := ⟨_, rfl⟩
      rw [← etx, ← er2] at hT2 hcs
      have HT := Lib.hid hT2
      have HCS := Lib.hid hcs
      have H0 := Lib.hid h0
      have HLQ := Lib.hid hlq
      have hG0 := Lib.hid (show G ≠ c0 by have := hCG.out; have := HC0.out; omega)
      have hand := and1_64 hdlt
      have hsh : ((hd / 2 : Nat) : Int) = (hd : Int) / 2 := by omega
      clear hU hT hT2 hcs hsz hl4 ehd er1 etx er2 h0 HC hlq
      go_upto_region 9 with (first
        | (go_at_call 63; refine HLF.out.mono ?_; rintro e w6 ⟨rfl, rfl⟩)
        | (go_at_call 64; refine HU.out.mono ?_; rintro e w7 ⟨rfl, hc7, hg7⟩; have C7 := Lib.hid (HT.out w7 hc7); have G7 := Lib.hid hg7; clear hc7 hg7 HT)
        | (go_at_call 65; refine C7.out.mono ?_; rintro e w8 ⟨rfl, hc8, hg8⟩; have C8 := Lib.hid hc8; have G8 := Lib.hid (grownBy_trans G7.out hg8); clear hc8 hg8 C7 G7))
      obtain ⟨t, et⟩ : ∃ t : Nat, t = hd / 2 := ⟨_, rfl⟩
      obtain ⟨cb, ecb⟩ : ∃ cb : Bool, cb = (hd % 2 == 1) := ⟨_, rfl⟩
      rw [show (hd : Int) / 2 = ((t : Nat) : Int) by omega, show ((hd : Int) % 2 == 1) = cb by rw [ecb, Bool.eq_iff_iff, beq_iff_eq, beq_iff_eq]; omega]
      have M8 := Lib.hid (HM.out.grown G8.out hG0.out (fun e => by have := HF.out.1 c0 e; have := hCG.out; omega))
      have K8 := Lib.hid (HK.out.trans (Kept2.of_grown G8.out))
      have ROW8 := Lib.hid (K8.out.row ROW5.out (by have := hCG.out; have := HC0.out; omega) (by have := HC0.out; omega))
      have HNO := Lib.hid (fun (W : World) (hk : Kept2 G c0 w5 W) (hx : X = none) => (show TmOut last bl w (.returned (.tuple #[.agg zeroTaken, .bool false])) (W.setRow R zeroTaken) from
        ⟨below_setRow (hk.below B5.out (by have := HRW.out; have := HC0.out; have := hCG.out; omega) (by have := HRW.out; have := HC0.out; omega)) (by have := HRW.out; omega) _, zeroTaken, false, rfl, rfl, zeroTaken_one, fun _ => by rw [← HX.out]; exact hx, fun h => by cases h⟩))
      have hbd8 := bad_any c0 r2.1 r2.2 w8 C8.out
      clear HU HLF G8 HM HK hand hsh hdlt hpos
      rcases HCS.out with ⟨hb, hno⟩ | ⟨hb, h', tl, rl, h1, eh, htx, hr2, hrl, htl, hlt⟩
      · rw [hb] at hbd8
        have HBD8 := Lib.hid hbd8
        have hx : X = none := by
          rcases hno with h | h
          · rw [h] at HS; exact HS.out.bad_
          · cases bad with
            | true => exact HS.out.bad_
            | false => exact HS.out.none_ H0.out h
        have HX1 := Lib.hid hx
        clear hb hno hx et ecb hbd8
        go_wp2_with (first
          | (go_at_call 66; refine HBD8.out.mono ?_; rintro e w9 ⟨rfl, rfl⟩)
          | (refine wpList_store_row rfl 96 _ _ rfl R zeroTaken rfl rfl 96 zeroTaken ROW8.out taken_size rfl zeroTaken_one ?_))
        exact bodyPost_ret (tk_ret (setRow_heap _ _ _ _ _ _ ROW8.out) rfl rfl rfl rfl) rfl (HNO.out _ K8.out HX1.out)
      · subst hb
        subst eh
        rw [hr2] at hbd8 C8
        have HBD8 := Lib.hid hbd8
        have H1 := Lib.hid h1
        have HTL := Lib.hid (show tl.length ≤ 4000 by omega)
        have HRL := Lib.hid (show rl.length < l.length from hrl)
        have HTX := Lib.hid htx
        have ET := Lib.hid et
        have ECB := Lib.hid ecb
        have HT0 := Lib.hid (show prev < t → prev < hd / 2 by omega)
        clear hbd8 h1 htl hrl htx hr2 hlt H0 et ecb
        by_cases hp : t ≤ prev
        · have hx : X = none := HS.out.low H1.out (by rw [← ET.out]; exact hp)
          have HX1 := Lib.hid hx
          have hpi : (t : Int) ≤ (prev : Int) := by omega
          clear hx hp
          go_wp2_with (first
            | (go_at_call 66; refine HBD8.out.mono ?_; rintro e w9 ⟨rfl, rfl⟩)
            | (refine wpList_store_row rfl 96 _ _ rfl R zeroTaken rfl rfl 96 zeroTaken ROW8.out taken_size rfl zeroTaken_one ?_))
          exact bodyPost_ret (tk_ret (setRow_heap _ _ _ _ _ _ ROW8.out) rfl rfl rfl rfl) rfl (HNO.out _ K8.out HX1.out)
        · have hpi : ¬ (t : Int) ≤ (prev : Int) := by omega
          have ht1 : 1 ≤ t := by omega
          have hpt := Lib.hid (show prev < hd / 2 from HT0.out (by omega))
          have hha := HHA.out t ht1
          have hhas8 := has_any v t w8
          rw [hha] at hhas8
          clear hha hp
          go_upto_region 12 with (first
            | (go_at_call 66; refine HBD8.out.mono ?_; rintro e w9 ⟨rfl, rfl⟩))
          by_cases hle : t ≤ last
          · rw [decide_eq_true hle] at hhas8
            have HHS := Lib.hid hhas8
            have hcr := isCritical_any t w8
            have hla := HLA.out
            obtain ⟨f, hfn⟩ := fn_of ht1 (show t ≤ 12 by omega)
            have hw1 : ¬ hd = headT (hd / 2) → X = none := fun h => HS.out.wrong H1.out hpt.out (by rw [← ET.out]; exact hle) h
            have hno := fun (h : hd = headT (hd / 2)) (hk : okR (rdF m (ar tl, false) (hd / 2)) = false) => HS.out.no hla H1.out hpt.out (by rw [← ET.out]; exact hle) h hk
            have hyes := fun (h : hd = headT (hd / 2)) (hk : okR (rdF m (ar tl, false) (hd / 2)) = true) => HS.out.yes hla H1.out hpt.out (by rw [← ET.out]; exact hle) h hk
            have hdi : hd = headT (hd / 2) ↔ cb = decide (t = 12) := by rw [ET.out, ECB.out]; exact head_is
            rw [hdi] at hw1 hno hyes
            rw [← ET.out] at hno hyes
            clear hhas8 hle hdi hla
            obtain ⟨ct, ect⟩ : ∃ ct : Bool, ct = decide (t = 12) := ⟨_, rfl⟩
            rw [← ect] at hw1 hno hyes hcr
            have HCR := Lib.hid hcr
            clear hcr ect
            by_cases hcc : cb = ct
            · have hno1 := hno hcc
              have hyes1 := hyes hcc
              have FN8 := FN5.out.same (K8.out.block b FN5.out.lt (by have := hbG.out; omega) (by have := hbG.out; have := hCG.out; omega))
              have hlk := fns_at FN8 f hfn
              have hist := isTaken_any (tkE left crit) f t G m sl tx1 (by rw [HTX.out, arr_size]; have := HTL.out; omega) (rd_all (tkE left crit) G m sl (t, f) hfn) (fns_enter (t, f) hfn) w8 M8.out
              have hfit := rdF_fits HFF.out.1 (ar tl, false) t
              have hfew := rdF_few HFF.out.2 (ar tl, false) (by show (ar tl).size ≤ 5000; rw [arr_size]; have := HTL.out; omega) t
              rw [← HTX.out] at hno1 hyes1 hfit hfew
              have htk9 := fun (w9 : World) (e : Ending) (ok : Bool) (m' : Mg) (h : TkOut (tkE left crit) G ok m' sl w8 e w9) => h.msgAt M8.out
              obtain ⟨m', em'⟩ : ∃ m', m' = (rdF m (tx1, false) t).2.1 := ⟨_, rfl⟩
              rw [← em'] at hist hfit hfew hyes1
              have HIST := Lib.hid hist
              have HTK9 := Lib.hid htk9
              have HFI9 := Lib.hid (show m'.fits ∧ m'.few from ⟨hfit, hfew⟩)
              clear hist htk9 hfit hfew em' hw1 hno hyes FN8 hfn
              subst hcc
              cases hok : okR (rdF m (tx1, false) t) with
              | false =>
                have HX1 := Lib.hid (hno1 hok)
                rw [hok] at HIST
                clear hno1 hyes1 hok
                go_wp2_with (first
                  | (go_at_call 49; refine HHS.out.mono ?_; rintro e w9 ⟨rfl, rfl⟩)
                  | (go_at_call 48; refine HCR.out.mono ?_; rintro e w9 ⟨rfl, rfl⟩)
                  | (go_at_call 67; refine HIST.out.mono ?_; intro e w9 ho; obtain ⟨sl', rfl, hm9, hg9, hs9⟩ := HTK9.out _ _ _ _ ho; have K9 := Lib.hid (K8.out.trans (Kept2.of_G hg9)); have ROW9 := Lib.hid (grown_row hg9 ROW8.out (show R ≠ G by have := hCG.out; have := HC0.out; omega)); clear hm9 hg9 hs9 ho)
                  | (refine wpList_store_row rfl 96 _ _ rfl R zeroTaken rfl rfl 96 zeroTaken ROW9.out taken_size rfl zeroTaken_one ?_))
                exact bodyPost_ret (tk_ret (setRow_heap _ _ _ _ _ _ ROW9.out) rfl rfl rfl rfl) rfl (HNO.out _ K9.out HX1.out)
              | true =>
                have HNX := Lib.hid (hyes1 hok)
                rw [hok] at HIST
                have hgk := Lib.hid (show rl.length < gk by have := HRL.out; have := HLQ.out; omega)
                have hls := Lib.hid (show left + rl.length ≤ 4000 by have := HRL.out; omega)
                clear hno1 hyes1 hok hle_ hpi ht1
                go_wp2_with (first
                  | (go_at_call 49; refine HHS.out.mono ?_; rintro e w9 ⟨rfl, rfl⟩)
                  | (go_at_call 48; refine HCR.out.mono ?_; rintro e w9 ⟨rfl, rfl⟩)
                  | (go_at_call 67; refine HIST.out.mono ?_; intro e w9 ho; obtain ⟨sl', rfl, hm9, hg9, hs9⟩ := HTK9.out _ _ _ _ ho; have K9 := Lib.hid (K8.out.trans (Kept2.of_G hg9)); have M9 := Lib.hid hm9; have S9 := Lib.hid hs9; have C9 := Lib.hid (show CurAt w9 c0 (ar rl) false by have h1 := C8.out; have h2 := h1.lt; unfold CurAt at h1 ⊢; rw [hg9.block c0 h2 (fun e => by injection e with e; exact hG0.out e.symm)]; exact h1); clear hm9 hg9 hs9 ho))
                go_roundg rl.length
                case measure => exact hgk.out
                case rel =>
                  exact ⟨t, m', sl', left, crit, rl, false, rfl, rfl, HNX, C9, M9, Lib.hid ⟨fun k e => by
                    rcases S9.out with h | h
                    · rw [h] at e; exact HF.out.1 k e
                    · have := h.1 k e; have := M8.out.lt; omega, by
                    rcases S9.out with h | h
                    · rw [h]; exact HF.out.2
                    · exact h.2⟩, K9, HFI9, hls.out⟩
            · have HX1 := Lib.hid (hw1 hcc)
              have hnn : (cb = true ∧ ct = false) ∨ (cb = false ∧ ct = true) := two_bools hcc
              clear hw1 hno hyes hcc hfn
              rcases hnn with ⟨rfl, rfl⟩ | ⟨rfl, rfl⟩
              all_goals
                go_wp2_with (first
                  | (go_at_call 49; refine HHS.out.mono ?_; rintro e w9 ⟨rfl, rfl⟩)
                  | (go_at_call 48; refine HCR.out.mono ?_; rintro e w9 ⟨rfl, rfl⟩)
                  | (refine wpList_store_row rfl 96 _ _ rfl R zeroTaken rfl rfl 96 zeroTaken ROW8.out taken_size rfl zeroTaken_one ?_))
                exact bodyPost_ret (tk_ret (setRow_heap _ _ _ _ _ _ ROW8.out) rfl rfl rfl rfl) rfl (HNO.out _ K8.out HX1.out)
          · rw [decide_eq_false hle] at hhas8
            have HHS := Lib.hid hhas8
            have hnx := HS.out.skip H1.out hpt.out (by rw [← ET.out]; omega)
            rw [← ET.out, ← ECB.out] at hnx
            have HNX := Lib.hid hnx
            have hlle : left + l.length ≤ 4000 := hle_
            clear hnx hhas8
            have c17 := M8.out.c17
            have f17 := M8.out.free 17
            go_upto_region 14 with (first
              | (go_at_call 49; refine HHS.out.mono ?_; rintro e w9 ⟨rfl, rfl⟩))
            obtain ⟨W9, hW9⟩ : ∃ W9, W9 = w8.setCell ⟨G, 17, none⟩ (.int .i64 ((left : Int) + 1)) := ⟨_, rfl⟩
            have M9 := Lib.hid (show MsgAt (tkE (left + 1) crit) G m sl W9 by rw [hW9]; exact M8.out.put17 (left + 1))
            have K9 := Lib.hid (show Kept2 G c0 w5 W9 by rw [hW9]; exact K8.out.trans kept_set)
            have C9 := Lib.hid (show CurAt W9 c0 (ar rl) false by rw [hW9]; exact cur_set (r' := (ar rl, false)) C8.out hG0.out)
            rw [← hW9]
            clear hW9 c17 f17 hlle
            have c18 := M9.out.c18
            have f18 := M9.out.free 18
            have hls := Lib.hid (show left + 1 + rl.length ≤ 4000 by have := HRL.out; omega)
            have hgk := Lib.hid (show rl.length < gk by have := HRL.out; have := HLQ.out; omega)
            have M10 := Lib.hid (M9.out.put18 (crit || cb))
            have K10 := Lib.hid (show Kept2 G c0 w5 (W9.setCell ⟨G, 18, none⟩ (.bool (crit || cb))) from K9.out.trans kept_set)
            have C10 := Lib.hid (show CurAt (W9.setCell ⟨G, 18, none⟩ (.bool (crit || cb))) c0 (ar rl) false from cur_set (r' := (ar rl, false)) C9.out hG0.out)
            clear hle hle_ hpi ht1
            cases crit
            · simp only [Bool.false_or] at M10 K10 C10 HNX
              go_wp2_with fail
              go_roundg rl.length
              case measure => exact hgk.out
              case rel => exact ⟨t, m, sl, left + 1, cb, rl, false, rfl, rfl, HNX, C10, M10, HF, K10, HFF, hls.out⟩
            · simp only [Bool.true_or] at M10 K10 C10 HNX
              go_wp2_with fail
              go_roundg rl.length
              case measure => exact hgk.out
              case rel => exact ⟨t, m, sl, left + 1, true, rl, false, rfl, rfl, HNX, C10, M10, HF, K10, HFF, hls.out⟩
end Go.Proofs.Ytbhlgceicfjncaa

namespace Go.Proofs.Ytbhlgceicfjncaa
open Go.RowKit
set_option linter.unusedVariables false
set_option linter.unnecessarySimpa false
set_option linter.unusedSimpArgs false
set_option maxRecDepth 100000

/-- What the document decodes is what is made of the bytes, at its end. -/
theorem decB_pre {v : Int} {b : List UInt8} (h1 : ¬ lastOfM v = 0) (h2 : b.length ≤ 4000) : decB v b = finB (preB (lastOfM v) b) := by
  unfold preB
  cases h3 : tk b with
  | none =>
    unfold decB
    rw [if_neg h1, if_neg (by omega), h3]
    rfl
  | some p =>
    obtain ⟨kind, k⟩ := p
    rw [decB_fin h1 h2 h3]
    simp only
    by_cases h9 : kind ≤ 9
    · rw [if_pos h9]
    · rw [if_neg h9]
      cases h4 : dAll (lastOfM v) (dst0 kind) (b.drop k) with
      | none => rfl
      | some s =>
        have hrun := run_is (lastOfM_le v) _ _ _ _ (Nat.le_refl _) (fun j _ => fld_start kind j) h4
        have hkd : s.m.kind = (kind : Int) := hrun.kind
        have hr : rightBM s.m = false := by
          cases hr : rightBM s.m with
          | false => rfl
          | true => have := kind_of hr; omega
        unfold finB
        simp only
        rw [if_pos hr]
theorem results_row_tmp2 {P : Program} {fn : Func} {p u x : Tmp} {ty : TypeId} (h : fn.results = #[.cell p ty, .tmp u, .tmp x]) (tmps : Array Value) (w : World) (g : Nat) (t : TypeId) (cs : Array Value) (fr : Nat × Nat) (d : TypeDesc) (v y : Value)
    (hp : tmps.getD p undef = .pointer (some ⟨g, 0, none⟩)) (hg : w.heap[g]? = some (.cells cs t fr))
    (hu : P.underlying ty = some d) (hd : (match d with | .struct _ | .array _ _ => true | _ => false) = true) (hi : (P.info? ty).map (·.size) = some cs.size) (hv : tmps.getD u undef = v) (hy : tmps.getD x undef = y) :
    (results fn tmps).run P w = .ok (.tuple #[.agg cs, v, y]) w := by
  have hp' : tmps[p]?.getD undef = .pointer (some ⟨g, 0, none⟩) := by simpa using hp
  have hv' : tmps[u]?.getD undef = v := by simpa using hv
  have hy' : tmps[x]?.getD undef = y := by simpa using hy
  simp [results, h, hp', hv', hy', asAddr, run_loadVar_row w g t ty cs fr d hg hu hd hi, Result.andThen]
theorem dec_ret {w : World} {g : Nat} {cs : Array Value} {fn : Func} {p u x : Tmp} {tmps : Array Value} {v y : Value} (h : w.heap[g]? = some (.cells cs 38 (0, 0))) (hcs : cs.size = 17)
    (hf : fn.results = #[.cell p 38, .tmp u, .tmp x]) (hp : tmps.getD p undef = .pointer (some ⟨g, 0, none⟩)) (hv : tmps.getD u undef = v) (hy : tmps.getD x undef = y) :
    (results fn tmps).run Try.prog w = .ok (.tuple #[.agg cs, v, y]) w :=
  results_row_tmp2 hf tmps w g _ _ _ _ v y hp h Try.underlying38 rfl (by rw [hcs]; exact msg_size) hv hy

/-- A message decoded, handed back: its slice is of new memory. -/
def DecOutN (m : Mg) (l : Nat) (e : Int) (w : World) (en : Ending) (w' : World) : Prop := ∃ a n c, en = .returned (.tuple #[.agg (m.cells (.slice a n c)), .int .i64 l, .int .i64 e]) ∧ n ≤ c ∧ (∀ q : Addr, a = some q → w.heap.size ≤ q.block ∧ q.block < w'.heap.size) ∧ WsAt w' (.slice a n c) m.ws ∧ Below w.heap.size w w'
theorem DecOutN.out {m : Mg} {l : Nat} {e : Int} {w : World} {en : Ending} {w' : World} (h : DecOutN m l e w en w') : DecOut m l e w en w' := by
  obtain ⟨a, n, c, h1, _, _, h2, h3⟩ := h
  exact ⟨_, h1, h2, h3⟩
/-- An error: no message. -/
theorem decode_err {w W : World} {R : Nat} {E : Int} (hb : Below w.heap.size w W) (hR : w.heap.size ≤ R) : DecOutN mg0 0 E w (.returned (.tuple #[.agg zeroMsg, .int .i64 0, .int .i64 E])) (W.setRow R zeroMsg) :=
  ⟨none, 0, 0, rfl, Nat.le_refl _, (fun q h => by cases h), WsAt.nil _, below_setRow hb hR _⟩

set_option maxHeartbeats 4000000 in
/-- A version that is none; bytes that are too many. -/
theorem decode_early (v : Int) (b : ByteArray) (hbz : b.size ≤ 100000) (h : verB v = false ∨ (verB v = true ∧ 4000 < b.size)) (w : World) :
    Calls Try.prog 27 #[.int .i64 v, .string b] w (DecOutN mg0 0 (if verB v = false then 1 else 3) w) := by
  have hver := isVersion_any v
  obtain ⟨W1, hW1⟩ : ∃ W1, W1 = w.alloc (.cells zeroMsg 38) := ⟨_, rfl⟩
  have ROW1 := Lib.hid (show W1.heap[w.heap.size]? = some (.cells zeroMsg 38 (0, 0)) by rw [hW1]; exact heap_alloc_new w _)
  have B1 := Lib.hid (show Below w.heap.size w W1 by rw [hW1]; exact (Below.refl _ _).alloc (Nat.le_refl _) _)
  unfold zeroMsg at hW1
  rcases h with h | ⟨h, hs⟩
  · rw [h] at hver ⊢
    rw [if_pos rfl]
    have HVER := Lib.hid hver
    clear hver h hbz
    go_enter Try.func27, Try.ntmps27
    go_upto_region 1 with fail
    rw [← hW1]
    clear hW1
    go_wp2_with (first
      | (go_at_call 33; refine (HVER.out _).mono ?_; rintro e w2 ⟨rfl, rfl⟩)
      | (refine wpList_store_row rfl 38 _ _ rfl w.heap.size zeroMsg rfl rfl 38 zeroMsg ROW1.out msg_size rfl zero_one ?_))
    exact bodyPost_ret (dec_ret (setRow_heap _ _ _ _ _ _ ROW1.out) rfl rfl rfl rfl rfl) rfl (decode_err B1.out (Nat.le_refl _))
  · rw [h] at hver ⊢
    rw [if_neg (by decide)]
    have HVER := Lib.hid hver
    have hz : (4000 : Int) < (b.size : Int) := by omega
    have hz2 : b.size ≤ maxLen := by unfold maxLen; omega
    clear hver h hs
    go_enter Try.func27, Try.ntmps27
    go_upto_region 1 with fail
    rw [← hW1]
    clear hW1
    go_wp2_with (first
      | (go_at_call 33; refine (HVER.out _).mono ?_; rintro e w2 ⟨rfl, rfl⟩)
      | (refine wpList_store_row rfl 38 _ _ rfl w.heap.size zeroMsg rfl rfl 38 zeroMsg ROW1.out msg_size rfl zero_one ?_))
    exact bodyPost_ret (dec_ret (setRow_heap _ _ _ _ _ _ ROW1.out) rfl rfl rfl rfl rfl) rfl (decode_err B1.out (Nat.le_refl _))
end Go.Proofs.Ytbhlgceicfjncaa
