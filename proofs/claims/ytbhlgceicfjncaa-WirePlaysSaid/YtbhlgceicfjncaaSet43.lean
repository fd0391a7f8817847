/-
  Joined: MsgDecodeB, MsgProgram.
-/
import Derived.Test.YtbhlgceicfjncaaSet42
import Derived.Test.YtbhlgceicfjncaaSet41
namespace Go.Proofs.Ytbhlgceicfjncaa
open Go.RowKit
set_option linter.unusedVariables false
set_option linter.unnecessarySimpa false
set_option linter.unusedSimpArgs false
set_option maxRecDepth 100000

theorem front_at {w : World} {G : Nat} {C E : Array Value} {t : TypeId} {fr : Nat × Nat} (h : w.heap[G]? = some (.cells (C ++ E) t fr)) : w.rangeAt G 0 C.toList := fun j v hv => by
  have hj : j < C.size := by have := (List.getElem?_eq_some_iff.1 hv).1; simpa using this
  simp only [World.cell?, h, Nat.zero_add]
  rw [Array.getElem?_append_left hj]
  simpa using hv
theorem wp_load_front {op : Oper} {a : Act} {w : World} {K : Act → World → Prop} {Q : Exit → Act → World → Prop} (x : Operand) (ho : op.op = .load 38 x) (G : Nat) (hx : a.eval x = .pointer (some ⟨G, 0, none⟩)) (C E : Array Value) (t : TypeId) (fr : Nat × Nat)
    (hr : w.heap[G]? = some (.cells (C ++ E) t fr)) (hC : C.size = 17) (h : K (a.put op.dst (.agg C)) w) : op.wp Try.prog a w K Q := by
  refine wp_load_mid (38 : TypeId) x ho G 0 hx C.toList _ (front_at hr) Try.underlying38 rfl (by rw [Array.length_toList, hC]; exact msg_size) ?_
  rw [Array.toArray_toList]
  exact h
theorem wpList_load_front {ops : Array Oper} {rest : List Oper} {op : Oper} {a : Act} {w : World} {Q : Exit → Act → World → Prop} (hw : Region.wanted op (yielded ops a.tmps) = true) (x : Operand) (ho : op.op = .load 38 x) (G : Nat) (hx : a.eval x = .pointer (some ⟨G, 0, none⟩)) (C E : Array Value) (t : TypeId) (fr : Nat × Nat)
    (hr : w.heap[G]? = some (.cells (C ++ E) t fr)) (hC : C.size = 17) (h : wpList Try.prog ops Q rest (a.put op.dst (.agg C)) w) : wpList Try.prog ops Q (op :: rest) a w := by
  unfold wpList
  rw [if_pos hw]
  exact .inl (wp_load_front x ho G hx C E t fr hr hC h)

/-- What the slots of the last region hold. -/
def psiDM (G R left : Nat) (C : Array Value) : Nat → Value → World → Prop
  | 4 => fun v _ => v = .pointer (some ⟨R, 0, none⟩)
  | 5 => fun v _ => v = .int .i64 (left : Int)
  | 6 => fun v _ => v = .int .i64 0
  | 7 => fun v _ => v = .pointer (some ⟨G, 0, none⟩)
  | 35 => fun v _ => v = .pointer (some ⟨G, 0, none⟩)
  | 36 => fun v _ => v = .agg C
  | 37 => fun v _ => v = .pointer (some ⟨G, 17, none⟩)
  | 38 => fun v _ => v = .int .i64 (left : Int)
  | _ => fun _ _ => True
theorem psiDM_stable (G R left : Nat) (C : Array Value) (s : Nat) (v : Value) (w w' : World) (h : psiDM G R left C s v w) : psiDM G R left C s v w' := by
  unfold psiDM at *
  split at h <;> exact h

set_option maxHeartbeats 8000000 in
theorem decode_any (v : Int) (bl : List UInt8) (hv : ¬ lastOfM v = 0) (hvb : verB v = true) (hl : bl.length ≤ 4000) (w : World) :
    Calls Try.prog 27 #[.int .i64 v, .string (ar bl)] w (DecOutN (finB (preB (lastOfM v) bl)).1 (finB (preB (lastOfM v) bl)).2.1 (finB (preB (lastOfM v) bl)).2.2 w) := by
  have hver := isVersion_any v
  rw [hvb] at hver
  have HVER := Lib.hid hver
  have htm := fun W => takeMessage_any v bl hv hl W
  obtain ⟨X, hX⟩ : ∃ X, X = preB (lastOfM v) bl := ⟨_, rfl⟩
  unfold TmOut at htm
  rw [← hX] at htm ⊢
  have HTM := Lib.hid htm
  have hz : ¬ (4000 : Int) < ((ar bl).size : Int) := by rw [arr_size]; omega
  have hz2 : (ar bl).size ≤ maxLen := by rw [arr_size]; unfold maxLen; omega
  obtain ⟨B, hB⟩ : ∃ B, B = ar bl := ⟨_, rfl⟩
  rw [← hB] at hz hz2 HTM ⊢
  obtain ⟨R, hR⟩ : ∃ R, R = w.heap.size := ⟨_, rfl⟩
  obtain ⟨W1, hW1⟩ : ∃ W1, W1 = w.alloc (.cells zeroMsg 38) := ⟨_, rfl⟩
  have ROW1 := Lib.hid (show W1.heap[R]? = some (.cells zeroMsg 38 (0, 0)) by rw [hW1, hR]; exact heap_alloc_new w _)
  have B1 := Lib.hid (show Below w.heap.size w W1 by rw [hW1]; exact (Below.refl _ _).alloc (Nat.le_refl _) _)
  have HRW := Lib.hid hR
  unfold zeroMsg at hW1
  clear hver htm hX hB hv hvb hl
  go_enter Try.func27, Try.ntmps27
  go_upto_region 1 with fail
  rw [← hW1, ← hR]
  clear hW1 hR
  have HT1 := Lib.hid (HTM.out W1)
  clear HTM
  go_upto_region 6 with (first
    | (go_at_call 33; refine (HVER.out _).mono ?_; rintro e w2 ⟨rfl, rfl⟩)
    | (go_at_call 41; refine HT1.out.mono ?_; rintro e w3 ⟨hb3, D, ok, rfl, hDz, hone, hno, hyes⟩; have hds : (Try.prog.info? 96).map (·.size) = some D.size := (by rw [hDz]; exact taken_size); have hzs : zeroTaken.size = D.size := (by rw [hDz]; rfl))
    | (refine wpList_store_row rfl 96 _ _ rfl w3.heap.size D rfl rfl 96 zeroTaken (heap_alloc_new w3 _) hds hzs hone ?_))
  obtain ⟨G, hG⟩ : ∃ G, G = w3.heap.size := ⟨_, rfl⟩
  obtain ⟨W6, hW6⟩ : ∃ W6, W6 = (w3.alloc (.cells zeroTaken 96)).setRow w3.heap.size D := ⟨_, rfl⟩
  have hb6 : Below w3.heap.size w3 W6 := by rw [hW6]; exact below_setRow ((Below.refl _ _).alloc (Nat.le_refl _) _) (Nat.le_refl _) _
  have hgr : W6.heap[G]? = some (.cells D 96 (0, 0)) := by rw [hW6, hG]; exact setRow_heap _ _ _ _ _ _ (heap_alloc_new w3 _)
  have hRz : R < W1.heap.size := (Array.getElem?_eq_some_iff.1 ROW1.out).1
  have ROW6 := Lib.hid (((hb6.block R (Nat.lt_of_lt_of_le hRz hb3.size)).trans (hb3.block R hRz)).trans ROW1.out)
  have B3 := B1.out.trans (hb3.mono B1.out.size)
  have B6 := Lib.hid (B3.trans (hb6.mono B3.size))
  have hRG := Lib.hid (show R < G by rw [hG]; exact Nat.lt_of_lt_of_le hRz hb3.size)
  have hyes2 : ok = true → ∃ prev m sl left crit, D = m.cells sl ++ #[.int .i64 (left : Nat), .bool crit] ∧ WsAt W6 sl m.ws ∧ ((∀ k, sl.ownBlock = some k → R < k ∧ k < W6.heap.size) ∧ SlFit sl) ∧ m.fits ∧ m.few ∧ left ≤ 4000 ∧ (X = some ⟨prev, m, left, crit⟩ ∨ (X = none ∧ rightBM m = false)) := fun h => by
    obtain ⟨prev, m, sl, left, crit, h1, h2, h3, h4⟩ := hyes h
    exact ⟨prev, m, sl, left, crit, h1, h2.below hb6, ⟨fun k e => ⟨by have := (h3.1 k e).1; omega, Nat.lt_of_lt_of_le (h3.1 k e).2 hb6.size⟩, h3.2⟩, h4⟩
  unfold zeroTaken at hW6
  rw [← hW6, ← hG]
  have HGR := Lib.hid hgr
  clear hW6 hG hb6 hb3 B3 hRz hyes ROW1 B1 hgr hzs hds hone HVER HT1
  cases ok with
  | false =>
    have hx := hno rfl
    have HFI := Lib.hid (show finB X = (mg0, 0, 2) by rw [hx]; rfl)
    clear hno hyes2 hx
    go_wp2_with (first
      | (refine wpList_store_row rfl 38 _ _ rfl R zeroMsg rfl rfl 38 zeroMsg ROW6.out msg_size rfl zero_one ?_))
    refine bodyPost_ret (dec_ret (setRow_heap _ _ _ _ _ _ ROW6.out) rfl rfl rfl rfl rfl) rfl ?_
    rw [HFI.out]
    exact decode_err B6.out (by have := HRW.out; omega)
  | true =>
    obtain ⟨prev, m, sl, left, crit, hD, hws, hfar, hfit, hfew, hleft, hx⟩ := hyes2 rfl
    have hir := fun (W : World) (hW : WsAt W sl m.ws) => isRight_any m sl hfit hfew W hW
    obtain ⟨C, hC⟩ : ∃ C, C = m.cells sl := ⟨_, rfl⟩
    have hC17 : C.size = 17 := by rw [hC]; rfl
    have hCone : C.all (·.oneCell') = true := by rw [hC]; exact cells_ok hws
    rw [← hC] at hD hir
    rw [hD] at HGR
    obtain ⟨E19, hE⟩ : ∃ E19 : Array Value, E19 = #[.int .i64 (left : Nat), .bool crit] := ⟨_, rfl⟩
    rw [← hE] at HGR
    have HE := Lib.hid hE
    obtain ⟨rt, hrt⟩ : ∃ rt, rt = rightBM m := ⟨_, rfl⟩
    rw [← hrt] at hir hx
    have HIR := Lib.hid (hir W6 hws)
    clear hir hfit hfew hno hyes2 hD hDz hE
    cases rt with
    | false =>
      have HFI := Lib.hid (show finB X = (mg0, 0, 2) by
        rcases hx with h | h
        · rw [h]; unfold finB; simp only; rw [if_pos hrt.symm]
        · rw [h.1]; rfl)
      clear hx hrt hfar hleft hC
      go_wp2_with (first
        | (refine wpList_load_front rfl _ rfl G rfl C E19 _ _ HGR.out hC17 ?_)
        | (go_at_call 42; refine HIR.out.mono ?_; rintro e w7 ⟨rfl, hb7⟩; have ROW7 := Lib.hid ((hb7.block R (Array.getElem?_eq_some_iff.1 ROW6.out).1).trans ROW6.out); have B7 := Lib.hid (B6.out.trans (hb7.mono B6.out.size)); clear hb7)
        | (refine wpList_store_row rfl 38 _ _ rfl R zeroMsg rfl rfl 38 zeroMsg ROW7.out msg_size rfl zero_one ?_))
      refine bodyPost_ret (dec_ret (setRow_heap _ _ _ _ _ _ ROW7.out) rfl rfl rfl rfl rfl) rfl ?_
      rw [HFI.out]
      exact decode_err B7.out (by have := HRW.out; omega)
    | true =>
      have hX : X = some ⟨prev, m, left, crit⟩ := by
        rcases hx with h | h
        · exact h
        · have := h.2; cases this
      have hfx : finB X = if crit = true then (mg0, 0, 4) else (m, left, 0) := by
        rw [hX]; unfold finB; simp only; rw [if_neg (by rw [← hrt]; decide)]
      have HFX := Lib.hid hfx
      have HWS := Lib.hid hws
      have HCM := Lib.hid hC
      have HFAR := Lib.hid hfar
      clear hx hrt hX hfx hC hws hfar
      go_upto_region 8 with (first
        | (refine wpList_load_front rfl _ rfl G rfl C E19 _ _ HGR.out hC17 ?_)
        | (go_at_call 42; refine HIR.out.mono ?_; rintro e w7 ⟨rfl, hb7⟩))
      have ROW7 := Lib.hid ((hb7.block R (Array.getElem?_eq_some_iff.1 ROW6.out).1).trans ROW6.out)
      have HGR7 := Lib.hid ((hb7.block G (Array.getElem?_eq_some_iff.1 HGR.out).1).trans HGR.out)
      have B7 := Lib.hid (B6.out.trans (hb7.mono B6.out.size))
      have WS7 := Lib.hid (HWS.out.below hb7)
      have HW67 := Lib.hid hb7.size
      clear hb7 HIR HGR ROW6 B6 HWS
      have c18 : w7.cell? ⟨G, 18, none⟩ = some (.bool crit) := by
        simp only [World.cell?, HGR7.out, HE.out]
        exact (ext_at hC17 _ _).2
      have c17 : w7.cell? ⟨G, 17, none⟩ = some (.int .i64 left) := by
        simp only [World.cell?, HGR7.out, HE.out]
        exact (ext_at hC17 _ _).1
      cases crit with
      | true =>
        have HFI := Lib.hid (show finB X = (mg0, 0, 4) by rw [HFX.out]; rfl)
        clear c17
        go_wp2_with (first
          | (refine wpList_store_row rfl 38 _ _ rfl R zeroMsg rfl rfl 38 zeroMsg ROW7.out msg_size rfl zero_one ?_))
        refine bodyPost_ret (dec_ret (setRow_heap _ _ _ _ _ _ ROW7.out) rfl rfl rfl rfl rfl) rfl ?_
        rw [HFI.out]
        exact decode_err B7.out (by have := HRW.out; omega)
      | false =>
        have HFI := Lib.hid (show finB X = (m, left, 0) by rw [HFX.out]; rfl)
        go_upto_region 10 with fail
        have hCs : (Try.prog.info? 38).map (·.size) = some C.size := by rw [hC17]; exact msg_size
        refine wp_region_rel [4, 7] [5, 6] (OneTo R (.cells C 38 (0, 0))) (psiDM G R left C) (fun i w' => i = 4 → w'.heap[R]? = some (.cells C 38 (0, 0))) 39 (by kernel_rfl) (by kernel_rfl) rfl (by kernel_rfl) (by kernel_rfl) OneTo.drew (fun _ _ _ => OneTo.trans) (fun t v w w' h _ => psiDM_stable _ _ _ _ _ _ _ _ h) (fun i w w' h hl hi => hl.done (h hi)) ?_ ?_ ?_
        · intro s hs w' _
          simp only [List.mem_cons, List.not_mem_nil, or_false] at hs
          rcases hs with rfl | rfl <;> rfl
        · repeat' (first | exact AllStepsR.nil | refine AllStepsR.cons ?_ ?_)
          all_goals
            intro a' w' K' Q' hRl hP hK'
            repeat (obtain ⟨h, hP⟩ := hP; conv at h => whnf)
            have hgr' := (hRl.block G (show G ≠ R by have := hRG.out; omega)).trans HGR7.out
            have HG' := Lib.hid hgr'
            have c17' : w'.cell? ⟨G, 17, none⟩ = some (.int .i64 left) := by
              simp only [World.cell?, hgr', HE.out]
              exact (ext_at hC17 _ _).1
            clear hgr'
            first
              | (refine wp_load_front _ rfl G (by simp only [Act.eval, Array.getD_eq_getD_getElem?]; assumption) C E19 _ _ HG'.out hC17 ?_; refine hK' _ _ OneTo.refl (fun e => by omega) ?_; intro d hd; cases hd; rfl)
              | (obtain ⟨old, hold, hoz⟩ : ∃ old, w'.heap[R]? = some (.cells old 38 (0, 0)) ∧ old.size = C.size := by
                  rcases hRl.at_ with h | h
                  · exact ⟨_, h.trans ROW7.out, by rw [hC17]; rfl⟩
                  · exact ⟨_, h, rfl⟩
                 refine wp_store_row 38 _ _ rfl R C (by simp only [Act.eval, Array.getD_eq_getD_getElem?]; assumption) (by simp only [Act.eval, Array.getD_eq_getD_getElem?]; assumption) 38 old hold hCs hoz hCone ?_
                 refine hK' _ _ (OneTo.setRow hold) (fun _ => setRow_heap _ _ _ _ _ _ hold) ?_
                 intro d hd; cases hd)
              | (go_simp; first
                  | (refine hK' _ _ OneTo.refl (fun e => by omega) ?_; intro d hd; cases hd; first | rfl | exact h))
        · intro a' w' hRl hsz hdf hold hnew hT
          have h5 : a'.tmps.getD 5 undef = .int .i64 (left : Int) := hnew 5 (by simp)
          have h6 : a'.tmps.getD 6 undef = .int .i64 0 := hnew 6 (by simp)
          have h4 : a'.tmps.getD 4 undef = .pointer (some ⟨R, 0, none⟩) := hold 4 (by simp)
          have hD4 := hT 4 (by decide) rfl
          have hfin : DecOutN (finB X).1 (finB X).2.1 (finB X).2.2 w (.returned (.tuple #[.agg C, .int .i64 (left : Int), .int .i64 0])) w' := by
            rw [HFI.out]
            obtain ⟨a, n, c, rfl, _, _⟩ := id WS7.out
            refine ⟨a, n, c, by rw [HCM.out], HFAR.out.2 a n c rfl, (fun q hq => ?_), WS7.out.stay (by rw [hRl.size]; exact Nat.le_refl _) (fun k e _ => hRl.block k (by have := (HFAR.out.1 k e).1; omega)), hRl.below B7.out (by have := HRW.out; omega)⟩
            have h1 := HFAR.out.1 q.block (by rw [hq]; rfl)
            have h2 := HW67.out
            have h3 := hRl.size
            have h4 := HRW.out
            omega
          go_wp2_with fail
          exact bodyPost_ret (dec_ret hD4 hC17 rfl h4 h5 h6) hdf hfin
end Go.Proofs.Ytbhlgceicfjncaa

namespace Go.Proofs.Ytbhlgceicfjncaa
open Go.RowKit
set_option linter.unusedVariables false
set_option linter.unnecessarySimpa false
set_option linter.unusedSimpArgs false
set_option maxRecDepth 100000

theorem decN (v : Int) (b : ByteArray) (w : World) (hb : b.size ≤ 100000) : Calls Try.prog 27 #[.int .i64 v, .string b] w (DecOutN (decB v b.data.toList).1 (decB v b.data.toList).2.1 (decB v b.data.toList).2.2 w) := by
  have e : ar b.data.toList = b := by apply ba_ext; rfl
  have hz := list_size b
  by_cases hv : lastOfM v = 0
  · have hd : decB v b.data.toList = (mg0, 0, 1) := by unfold decB; rw [if_pos hv]
    rw [hd]
    have hvb := ver_noM hv
    have := decode_early v b hb (.inl hvb) w
    rw [if_pos hvb] at this
    exact this
  · have hvb : verB v = true := by
      have hv3 : v = 1 ∨ v = 2 ∨ v = 3 := Decidable.byContradiction fun h => hv (lastOf_zero.2 h)
      rcases hv3 with rfl | rfl | rfl <;> rfl
    by_cases hl : 4000 < b.size
    · have hd : decB v b.data.toList = (mg0, 0, 3) := by unfold decB; rw [if_neg hv, if_pos (by omega)]
      rw [hd]
      have := decode_early v b hb (.inr ⟨hvb, hl⟩) w
      rw [if_neg (by rw [hvb]; decide)] at this
      exact this
    · rw [decB_pre hv (by omega)]
      have := decode_any v b.data.toList hv hvb (by omega) w
      rw [e] at this
      exact this
theorem decOK : DecOK := fun v b w _ hb => (decN v b w hb).mono fun e w' h => h.out
end Go.Proofs.Ytbhlgceicfjncaa
