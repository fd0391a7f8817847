/-
  Joined: PrtDoD, PrtFew.
-/
import Derived.Test.YthcomfcbdlobpaaSet15
import Derived.Test.YthcomfcbdlobpaaSet13
import Derived.Test.YthcomfcbdlobpaaSet02
namespace Go.Proofs.Ythcomfcbdlobpaa
open Go.RowKit
set_option linter.unusedVariables false
set_option linter.unnecessarySimpa false
set_option linter.unusedSimpArgs false
set_option maxRecDepth 100000

theorem PRow.set {B g : Nat} {t : Bool} {M : List Pd} {v : Value} {w : World} (h : PRow B t M v w) (hg : g < B) (cs : Array Value) : PRow B t M v (w.setRow g cs) := by
  obtain ⟨g2, cap, cur, h1, h2, h3, h4⟩ := h
  exact ⟨g2, cap, cur, h1, h2, by rw [setRow_other _ _ _ _ (by omega)]; exact h3, h4⟩
theorem DoW.store {w wx : World} {H0 H1 R2 R3 : Nat} {s sl : Value} {oc : Array Value} (h : DoW w H0 H1 R2 R3 s sl oc wx) (s' sl' : Value) : DoW w H0 H1 R2 R3 s' sl' oc (wx.setRow H0 #[s', sl']) := by
  have ho := h.old
  refine ⟨⟨h.below.os, h.below.tape, h.below.output, by have := h.below.size; simpa using this, fun k hk => ?_⟩, ho, setRow_heap _ _ _ _ _ _ h.r0, ?_, ?_, ?_⟩
  · rw [setRow_other _ _ _ _ (by omega)]
    exact h.below.block k hk
  · rw [setRow_other _ _ _ _ (by omega)]; exact h.r1
  · rw [setRow_other _ _ _ _ (by omega)]; exact h.r2
  · rw [setRow_other _ _ _ _ (by omega)]; exact h.r3
/-- What slots hold while one more is prepared. -/
def psiD (B H0 H1 : Nat) (sv slv : Value) (P : List Pd) (p : Pd) : Nat → Value → World → Prop
  | 2 => fun v _ => v = .pointer (some ⟨H0, 0, none⟩)
  | 3 => fun v _ => v = .pointer (some ⟨H1, 0, none⟩)
  | 67 => fun v _ => v = .pointer (some ⟨H0, 0, none⟩)
  | 68 => fun v _ => v = .agg #[sv]
  | 69 => fun v w => PRow B true [] v w
  | 70 => fun v _ => v = .pointer (some ⟨H0, 1, none⟩)
  | 71 => fun v _ => v = slv
  | 72 => fun v w => PRow B (P.length == 0) P v w
  | 73 => fun v _ => v = .pointer (some ⟨H1, 1, none⟩)
  | 74 => fun v _ => v = .agg #[.int .i64 p.t.node, .int .i64 p.t.life, .int .i64 p.t.seq]
  | 75 => fun v _ => v = .pointer (some ⟨H1, 5, none⟩)
  | 76 => fun v _ => v = .int .u64 (p.start : Int)
  | 77 => fun v _ => v = .pointer (some ⟨H1, 6, none⟩)
  | 78 => fun v _ => v = .slice p.a p.n p.c
  | 79 => fun v _ => v = .agg #[.int .i64 p.t.node, .int .i64 p.t.life, .int .i64 p.t.seq, .int .u64 (p.start : Int), .slice p.a p.n p.c]
  | 80 => fun v w => PRow B true [p] v w
  | 81 => fun v w => PRow B false (P ++ [p]) v w
  | 82 => fun v w => ∃ s', v = .agg #[sv, s'] ∧ PRow B false (P ++ [p]) s' w
  | _ => fun _ _ => True
theorem psiD_stable (B H0 H1 : Nat) (sv slv : Value) (P : List Pd) (p : Pd) : ∀ t v w w', psiD B H0 H1 sv slv P p t v w → PKeep B P p w w' → psiD B H0 H1 sv slv P p t v w' := by
  intro t v w w' hp hk
  unfold psiD at *
  split at hp <;> first
    | exact hp
    | exact hk.k0 _ hp
    | exact hk.k1 _ hp
    | exact hk.k2 _ hp
    | exact hk.k3 _ hp
    | (obtain ⟨s', h1, h2⟩ := hp; exact ⟨s', h1, hk.k3 _ h2⟩)

set_option maxHeartbeats 8000000 in
theorem pdo_prep_yes (s : Value) (S : List Im) (a : Option Addr) (len cap : Nat) (P : List Pd) (kind : Nat) (t : Tn) (key : ByteArray) (time : Nat) (aw : Option Addr) (nw cw : Nat) (ws : List Wq) (w : World)
    (hS : StV w s S) (hlS : S.length ≤ 100000) (hz : IsPds w a len cap P) (hnl : a = none → cap = 0) (hw : IsWqs w aw nw cw ws) (ht : time < 18446744073709551616) (hk : (kind : Int) % 6 = 2) (hlP : len ≤ 1000) (hc : mayP S P t time ws = 0) (hno : atP t P < 0) :
    Calls Try.prog 17 #[.agg #[s, .slice a len cap], .agg (opCells kind t key time aw nw cw)] w (DoRes w s (.slice a len cap) S (P ++ [⟨t, time, aw, nw, cw, ws⟩]) vr0 0) := by
  obtain ⟨aS, cS, rfl, hS1, hS2⟩ := hS
  obtain ⟨tn, tl, ts⟩ := t
  have HNL := Lib.hid hnl
  clear hnl
  have HAT := Lib.hid (fun W (hb : Below w.heap.size w W) => pat_any (.slice aS S.length cS) a len cap P ⟨tn, tl, ts⟩ W (hz.below hb))
  have HMY := Lib.hid (fun W (hb : Below w.heap.size w W) => pmay_any aS S.length cS S a len cap P kind ⟨tn, tl, ts⟩ key time aw nw cw ws W (hS1.below hb) hlS (hz.below hb) (hw.below hb) ht)
  rw [hc] at HMY
  have HFS := Lib.hid (show ∀ W, Below w.heap.size w W → StV W (.slice aS S.length cS) S from fun W hb => ⟨aS, cS, rfl, hS1.below hb, hS2⟩)
  have HLP := Lib.hid hlP
  have HPL := Lib.hid hz.1
  have HWS := Lib.hid hw
  have HTM := Lib.hid ht
  have HVS := Lib.hid (show ∀ p ∈ P, p.start < 18446744073709551616 ∧ IsWqs w p.a p.n p.c p.w from fun p hp => by
    obtain ⟨j, hjl, rfl⟩ := List.mem_iff_getElem.1 hp
    obtain ⟨_, _, _, _, k1, k2, _⟩ := hz.2.2.2 j (by have := hz.1; omega)
    rw [List.getD, List.getElem?_eq_getElem hjl] at k1 k2
    exact ⟨k1, k2⟩)
  have HFP := Lib.hid (show ∀ W, Below w.heap.size w W → IsPds W a len cap P from fun W hb => hz.below hb)
  unfold Tn.cells at HAT
  have HW00 := Lib.hid (DoW.start w (.slice aS S.length cS) (.slice a len cap) (opCells kind ⟨tn, tl, ts⟩ key time aw nw cw))
  unfold opCells at HW00 HMY ⊢
  obtain ⟨A, hA⟩ : ∃ A, A = atP ⟨tn, tl, ts⟩ P := ⟨_, rfl⟩
  rw [← hA] at HAT hno
  clear hlP hS1 hS2 hz ht hA hc hw
  go_enter Try.func17, Try.ntmps17
  go_upto_region 1 with fail
  obtain ⟨W0, hW0⟩ : ∃ W0, W0 = (((w.alloc (.cells #[.slice aS S.length cS, .slice a len cap] 34)).alloc (.cells #[.int .u8 (kind : Int), .int .i64 tn, .int .i64 tl, .int .i64 ts, .string key, .int .u64 (time : Int), .slice aw nw cw] 40)).alloc (.cells #[.slice none 0 0, .slice none 0 0] 34)).alloc (.cells #[.int .u64 0, .bool false, .string ⟨#[]⟩] 42) := ⟨_, rfl⟩
  obtain ⟨R3, hR3⟩ : ∃ R3, R3 = w.heap.size + 1 + 1 + 1 := ⟨_, rfl⟩
  obtain ⟨R2, hR2⟩ : ∃ R2, R2 = w.heap.size + 1 + 1 := ⟨_, rfl⟩
  obtain ⟨H1, hH1⟩ : ∃ H1, H1 = w.heap.size + 1 := ⟨_, rfl⟩
  obtain ⟨H0, hH0⟩ : ∃ H0, H0 = w.heap.size := ⟨_, rfl⟩
  have HW0 : Hid (DoW w H0 H1 R2 R3 (.slice aS S.length cS) (.slice a len cap) #[.int .u8 (kind : Int), .int .i64 tn, .int .i64 tl, .int .i64 ts, .string key, .int .u64 (time : Int), .slice aw nw cw] W0) := by
    rw [hH0, hH1, hR2, hR3, hW0]; exact HW00
  rw [← hW0, ← hR3, ← hR2, ← hH1, ← hH0]
  clear hW0 hR3 hR2 hH1 hH0 HW00
  obtain ⟨p0, p1, o0, o1, o2, o3, o4, o5, o6, f2, f3, f0, c20, c21, c30, c31, c32⟩ := HW0.out.cells
  obtain ⟨ne02, ne03, ne12, ne13, ne23, ne20, ne30, ne21, ne31, ne32⟩ := HW0.out.ne
  go_upto_region 2 with (go_at_call 37; (with_reducible refine (HAT.out _ HW0.out.below).mono ?_); rintro e w1 ⟨rfl, hb1⟩; have HW1 := Lib.hid (HW0.out.later hb1); clear hb1)
  clear p0 p1 o0 o1 o2 o3 o4 o5 o6 f2 f3 f0 c20 c21 c30 c31 c32 HW0 HAT
  obtain ⟨p0, p1, o0, o1, o2, o3, o4, o5, o6, f2, f3, f0, c20, c21, c30, c31, c32⟩ := HW1.out.cells
  go_upto_region 14 with (go_at_call 39; (with_reducible refine (HMY.out _ HW1.out.below).mono ?_); rintro e w2 ⟨rfl, hb2⟩; have HW2 := Lib.hid (HW1.out.later hb2); clear hb2)
  clear p0 p1 o0 o1 o2 o3 o4 o5 o6 f2 f3 f0 c20 c21 c30 c31 c32 HW1 HMY
  obtain ⟨p0, p1, o0, o1, o2, o3, o4, o5, o6, f2, f3, f0, c20, c21, c30, c31, c32⟩ := HW2.out.cells
  have e2 : decide (A < 0) = true := by simpa using hno
  have HNO := Lib.hid hno
  clear hno
  go_upto_region 15 with fail
  obtain ⟨p, hp⟩ : ∃ p : Pd, p = ⟨⟨tn, tl, ts⟩, time, aw, nw, cw, ws⟩ := ⟨_, rfl⟩
  rw [← hp]
  obtain ⟨B, hB⟩ : ∃ B, B = w2.heap.size := ⟨_, rfl⟩
  have hH0 : H0 < B := by rw [hB]; exact (Array.getElem?_eq_some_iff.1 HW2.out.r0).1
  have hH1 : H1 < B := by rw [hB]; exact (Array.getElem?_eq_some_iff.1 HW2.out.r1).1
  have HB := Lib.hid hB
  have HR0 := Lib.hid HW2.out.r0
  have HR1 := Lib.hid HW2.out.r1
  have HP := Lib.hid hp
  clear hB hp
  refine wp_region_tail [2, 3] [82] (PKeep B P p) (psiD B H0 H1 (.slice aS S.length cS) (.slice a len cap) P p) (fun _ _ => True) 197 16 none (.store 34 (.tmp 2) (.tmp 82)) (by kernel_rfl) (by kernel_rfl) (by kernel_rfl) (by kernel_rfl) rfl (by kernel_rfl) (by kernel_rfl)
    (PKeep.of (by rw [HB.out]; exact Nat.le_refl _) ((Below.refl _ _).drew)) (fun _ _ _ => PKeep.trans) (psiD_stable _ _ _ _ _ _ _) (fun _ _ _ _ _ => trivial) ?_ ?_ [67, 68, 69, 70, 71, 72, 73, 74, 75, 76, 77, 78, 79, 80, 81, 82] (by kernel_rfl) ?_
  · intro t ht w' _
    simp only [List.mem_cons, List.not_mem_nil, or_false] at ht
    rcases ht with rfl | rfl <;> rfl
  · repeat' (first | exact AllStepsL.nil | refine AllStepsL.cons ?_ ?_)
    all_goals
      intro hik
      first
        | (exfalso; revert hik; decide)
        | (intro a' w' K' Q' hRl hP hK'
           have hB1 : B ≤ w'.heap.size := by rw [HB.out]; exact hRl.size
           have box0 := (hRl.block H0 hH0).trans HR0.out
           have box1 := (hRl.block H1 hH1).trans HR1.out
           have c0' : w'.cell? ⟨H0, 0, none⟩ = some (.slice aS S.length cS) := by rw [cell_of_row _ _ _ _ _ _ box0]; rfl
           have c1' : w'.cell? ⟨H0, 1, none⟩ = some (.slice a len cap) := by rw [cell_of_row _ _ _ _ _ _ box0]; rfl
           have d1' : w'.cell? ⟨H1, 1, none⟩ = some (.int .i64 p.t.node) := by rw [cell_of_row _ _ _ _ _ _ box1, HP.out]; rfl
           have d2' : w'.cell? ⟨H1, 2, none⟩ = some (.int .i64 p.t.life) := by rw [cell_of_row _ _ _ _ _ _ box1, HP.out]; rfl
           have d3' : w'.cell? ⟨H1, 3, none⟩ = some (.int .i64 p.t.seq) := by rw [cell_of_row _ _ _ _ _ _ box1, HP.out]; rfl
           have d5' : w'.cell? ⟨H1, 5, none⟩ = some (.int .u64 (p.start : Int)) := by rw [cell_of_row _ _ _ _ _ _ box1, HP.out]; rfl
           have d6' : w'.cell? ⟨H1, 6, none⟩ = some (.slice p.a p.n p.c) := by rw [cell_of_row _ _ _ _ _ _ box1, HP.out]; rfl
           clear box0 box1
           first
             | (refine pwp_bs0 rfl ?_
                refine hK' _ _ (PKeep.of hB1 ((Below.refl _ _).alloc (Nat.le_refl _) _)) trivial ?_
                intro d hd; cases hd
                exact prow_empty w' hB1)
             | (obtain ⟨h53, _⟩ := hP
                refine pwp_bs1 _ p rfl (by simp only [Act.eval, Array.getD_eq_getD_getElem?]; exact h53) ?_
                refine hK' _ _ (PKeep.of hB1 ((Below.refl _ _).alloc (Nat.le_refl _) _)) trivial ?_
                intro d hd; cases hd
                exact prow_one w' _ hB1)
             | (obtain ⟨h47, h49, _⟩ := hP
                obtain ⟨v', w3, hr, hb2, hrow⟩ := papp_first (B := B) w' _ a len cap P h47 (HFP.out _ ((HW2.out.below).trans ((PKeep.below (by rw [HB.out]; exact Nat.le_refl _) hRl).mono (by rw [HB.out]; exact HW2.out.below.size)))) (by have := HLP.out; omega) (fun _ => HNL.out) hB1
                refine pwp_app _ _ rfl rfl _ _ v' w3 (by simp only [Act.eval, Array.getD_eq_getD_getElem?]) (by simp only [Act.eval, Array.getD_eq_getD_getElem?]; exact h49) hr ?_
                refine hK' _ _ (PKeep.of hB1 hb2) trivial ?_
                intro d hd; cases hd
                exact hrow)
             | (obtain ⟨h50, h54, _⟩ := hP
                obtain ⟨v', w3, hr, hk2, hrow⟩ := papp_second (B := B) w' _ _ P p h50 h54 (by have := HLP.out; have := HPL.out; omega) hB1
                refine pwp_app _ _ rfl rfl _ _ v' w3 (by simp only [Act.eval, Array.getD_eq_getD_getElem?]) (by simp only [Act.eval, Array.getD_eq_getD_getElem?]) hr ?_
                refine hK' _ _ hk2 trivial ?_
                intro d hd; cases hd
                exact hrow)
             | (obtain ⟨h0, ⟨g, c, cur, hv, hrest⟩, _⟩ := hP
                obtain ⟨nn, hnn0⟩ : ∃ nn, nn = (P ++ [p]).length := ⟨_, rfl⟩
                rw [← hnn0] at hv
                have hnn := Lib.hid hnn0
                clear hnn0
                conv at h0 => whnf
                go_simp
                refine hK' _ _ PKeep.refl trivial ?_
                intro d hd; cases hd
                exact ⟨_, rfl, g, c, cur, by rw [hnn.out], hrest⟩)
             | (repeat (obtain ⟨h, hP⟩ := hP; conv at h => whnf)
                go_simp
                refine hK' _ _ PKeep.refl trivial ?_
                intro d hd; cases hd; first | rfl | exact h))
  · intro f w3 hRl hf hT ok hd ho
    have hb3 : Below w.heap.size w w3 := HW2.out.below.trans ((PKeep.below (by rw [HB.out]; exact Nat.le_refl _) hRl).mono (by rw [HB.out]; exact HW2.out.below.size))
    have HW3 : DoW w H0 H1 R2 R3 (.slice aS S.length cS) (.slice a len cap) #[.int .u8 (kind : Int), .int .i64 tn, .int .i64 tl, .int .i64 ts, .string key, .int .u64 (time : Int), .slice aw nw cw] w3 :=
      HW2.out.later (by rw [← HB.out]; exact PKeep.below (by rw [HB.out]; exact Nat.le_refl _) hRl)
    obtain ⟨s', h82, hrow⟩ := hf 82 (by simp)
    have hok : (#[Value.slice aS S.length cS, s'] : Array Value).all (·.oneCell') = true := by obtain ⟨_, _, _, e, _⟩ := hrow; rw [e]; simp [Value.oneCell']
    simp only [putAll, List.foldl_cons, List.foldl_nil, h82]
    dsimp only [Act.put]
    simp only [List.setIfInBounds_toArray]
    simp only [List.set_cons_succ, List.set_cons_zero]
    refine wp_store_row 34 _ _ ho H0 #[.slice aS S.length cS, s'] rfl rfl 34 _ HW3.r0 partSize rfl hok ?_
    rw [hd]
    have HW4 := Lib.hid (HW3.store (.slice aS S.length cS) s')
    have hrow4 := hrow.set hH0 #[.slice aS S.length cS, s']
    obtain ⟨g, cp, cur, hs', hr1, hr2, hr3⟩ := id hrow4
    have hb4 := HW4.out.below
    have HGB := Lib.hid hr1
    have hlen : (P ++ [p]).length = P.length + 1 := by simp
    have hpds : ∃ n, s' = .slice (some ⟨g, 0, none⟩) n cp ∧ IsPds (w3.setRow H0 #[.slice aS S.length cS, s']) (some ⟨g, 0, none⟩) n cp (P ++ [p]) := ⟨_, hs', pds_own (by rw [← hs']; exact hrow4.own) rfl (by have := HLP.out; have := HPL.out; rw [hlen]; omega) (fun q hq => by
      rcases List.mem_append.1 hq with hq | hq
      · exact ⟨(HVS.out q hq).1, (HVS.out q hq).2.below hb4⟩
      · rw [List.mem_singleton.1 hq, HP.out]
        exact ⟨HTM.out, HWS.out.below hb4⟩)⟩
    obtain ⟨nq, hs2, hpd⟩ := hpds
    subst hs2
    have HPD := Lib.hid hpd
    clear hpd hs' hr1 hr2 hr3 hrow hrow4 h82 hf hT hRl hok
    obtain ⟨w4, hw4⟩ : ∃ w4, w4 = w3.setRow H0 #[.slice aS S.length cS, .slice (some ⟨g, 0, none⟩) nq cp] := ⟨_, rfl⟩
    rw [← hw4] at HW4 HPD hb4 ⊢
    clear hw4 p0 p1 o0 o1 o2 o3 o4 o5 o6 f2 f3 f0 c20 c21 c30 c31 c32
    obtain ⟨p0, p1, o0, o1, o2, o3, o4, o5, o6, f2, f3, f0, c20, c21, c30, c31, c32⟩ := HW4.out.cells
    go_wp2_with fail
    exact do_fin HW4.out vr0 (HFS.out _ hb4) (by have := HPD.out; rwa [HP.out] at this) (fun e => by cases e) (.inl rfl) (.inr (.inr ⟨g, rfl, by have := HB.out; have := HW2.out.below.size; have := HGB.out; omega⟩)) rfl rfl rfl rfl
end Go.Proofs.Ythcomfcbdlobpaa

namespace Go.Proofs.Ythcomfcbdlobpaa
open Go.RowKit
set_option linter.unusedVariables false
set_option linter.unnecessarySimpa false
set_option linter.unusedSimpArgs false
set_option maxRecDepth 100000

/-- A call. -/
structure Oq where
  kind : Nat
  t : Tn
  key : ByteArray
  time : Nat
  a : Option Addr
  n : Nat
  c : Nat
  w : List Wq
def oq0 : Oq := ⟨0, ⟨0, 0, 0⟩, ⟨#[]⟩, 0, none, 0, 0, []⟩
/-- The numbers of a call are such. -/
def Oq.small (o : Oq) : Prop := o.kind < 256 ∧ o.t.ok
def OqAt (W : World) (b off : Nat) (o : Oq) : Prop :=
  b < W.heap.size ∧ o.key.size ≤ maxLen ∧ o.small ∧ o.time < 18446744073709551616 ∧ IsWqs W o.a o.n o.c o.w ∧ W.cell? ⟨b, off, none⟩ = some (.int .u8 (o.kind : Int)) ∧ W.cell? ⟨b, off + 1, none⟩ = some (.int .i64 o.t.node) ∧ W.cell? ⟨b, off + 1 + 1, none⟩ = some (.int .i64 o.t.life) ∧
    W.cell? ⟨b, off + 1 + 2, none⟩ = some (.int .i64 o.t.seq) ∧ W.cell? ⟨b, off + 4, none⟩ = some (.string o.key) ∧ W.cell? ⟨b, off + 5, none⟩ = some (.int .u64 (o.time : Int)) ∧ W.cell? ⟨b, off + 6, none⟩ = some (.slice o.a o.n o.c)
def IsOqs (W : World) (a : Option Addr) (len cap : Nat) (L : List Oq) : Prop := L.length = len ∧ len ≤ maxLen ∧ len ≤ cap ∧ ∀ i, i < len → ∃ b off, a = some ⟨b, off, none⟩ ∧ OqAt W b (off + i * 7) (L.getD i oq0)
theorem OqAt.below {W W' : World} {b off : Nat} {o : Oq} (h : OqAt W b off o) (hb : Below W.heap.size W W') : OqAt W' b off o := by
  obtain ⟨h1, h2, h3, h4, h5, k0, k1, k2, k3, k4, k5, k6⟩ := h
  exact ⟨Nat.lt_of_lt_of_le h1 hb.size, h2, h3, h4, h5.below hb, (hb.cell (p := ⟨b, off, none⟩) h1).trans k0, (hb.cell (p := ⟨b, off + 1, none⟩) h1).trans k1, (hb.cell (p := ⟨b, off + 1 + 1, none⟩) h1).trans k2, (hb.cell (p := ⟨b, off + 1 + 2, none⟩) h1).trans k3,
    (hb.cell (p := ⟨b, off + 4, none⟩) h1).trans k4, (hb.cell (p := ⟨b, off + 5, none⟩) h1).trans k5, (hb.cell (p := ⟨b, off + 6, none⟩) h1).trans k6⟩
theorem IsOqs.below {W W' : World} {a : Option Addr} {len cap : Nat} {L : List Oq} (h : IsOqs W a len cap L) (hb : Below W.heap.size W W') : IsOqs W' a len cap L :=
  ⟨h.1, h.2.1, h.2.2.1, fun i hi => by obtain ⟨b, off, ha, he⟩ := h.2.2.2 i hi; exact ⟨b, off, ha, he.below hb⟩⟩

def fewWq (m : Wq) : Prop := m.key.size ≤ 300 ∧ m.val.size ≤ 700
def fewOq (o : Oq) : Prop := o.key.size ≤ 300 ∧ o.w.length ≤ 20 ∧ ∀ k, k < o.w.length → fewWq (o.w.getD k wq0)
def FewOqs (L : List Oq) (n : Nat) : Prop := (∀ i, i < L.length → i < 300 → fewOq (L.getD i oq0)) ∧ L.length ≤ n
open Classical in
noncomputable def fewO (L : List Oq) (n : Nat) : Bool := decide (FewOqs L n)
theorem fewO_true {L : List Oq} {n : Nat} : fewO L n = true ↔ FewOqs L n := by unfold fewO; simp

set_option maxHeartbeats 4000000 in
theorem pfew_any (a : Option Addr) (len cap n : Nat) (L : List Oq) (w : World) (hz : IsOqs w a len cap L) (hn : n < 200) :
    Calls Try.prog 6 #[.slice a len cap, .int .i64 (n : Int)] w fun e w' => e = .returned (.bool (fewO L n)) ∧ w = w' := by
  have HZ := Lib.hid hz
  have hlm := hz.2.1
  unfold maxLen at hlm
  have hel := Lib.hid hz.1
  clear hz
  go_enter Try.func6, Try.ntmps6
  go_wp2_with fail
  go_loopg [5] (min len 300) (fun g s5 wx => ∃ i : Nat, i + g = min len 300 ∧ s5 = .int .i64 i ∧ w = wx ∧ Hid (∀ j, j < i → fewOq (L.getD j oq0)))
  case atStart => exact ⟨0, by omega, rfl, rfl, Lib.hid (fun j hj => by omega)⟩
  case round =>
    obtain ⟨i, hig, rfl, rfl, HA⟩ := hrel
    cases gk with
    | zero =>
      have hfin : Hid (fewO L n = decide (len ≤ n)) := Lib.hid (by
        have h1 : ∀ j, j < L.length → j < 300 → fewOq (L.getD j oq0) := fun j hj h => HA.out j (by rw [hel.out] at hj; omega)
        by_cases h : len ≤ n
        · rw [fewO_true.2 ⟨h1, by rw [hel.out]; exact h⟩]; simp [h]
        · have : ¬ FewOqs L n := fun h2 => h (by rw [← hel.out]; exact h2.2)
          rw [show fewO L n = false by rw [← Bool.not_eq_true, fewO_true]; exact this]; simp [h])
      have hcs : (i = len) ∨ (i < len ∧ i = 300) := by omega
      clear hig HA
      rcases hcs with rfl | ⟨h5, rfl⟩
      · go_wp2_with fail
        go_ret
        exact ⟨by rw [hfin.out]; simp, rfl⟩
      · have h6 : (300 : Int) < (len : Int) := by omega
        go_wp2_with fail
        go_ret
        exact ⟨by rw [hfin.out]; simp, rfl⟩
    | succ g =>
      have hil : i < len := by omega
      have hiz : (i : Int) < (len : Int) := by omega
      have hi3 : (i : Int) < 300 := by omega
      obtain ⟨b, off, rfl, hbl, hm1, _, _, hws, _, _, _, _, k4, _, k6⟩ := HZ.out.2.2.2 i hil
      have HO := Lib.hid (show fewOq (L.getD i oq0) → (∀ j, j < i + 1 → fewOq (L.getD j oq0)) from fun h j hj => by
        by_cases hji : j < i
        · exact HA.out j hji
        · obtain rfl : j = i := by omega
          exact h)
      have HNo := Lib.hid (show ¬ fewOq (L.getD i oq0) → fewO L n = false from fun h => by
        rw [← Bool.not_eq_true, fewO_true]
        exact fun h2 => h (h2.1 i (by rw [hel.out]; exact hil) (by omega)))
      obtain ⟨o, ho⟩ : ∃ o, o = L.getD i oq0 := ⟨_, rfl⟩
      rw [← ho] at k4 k6 hm1 hws HO HNo
      clear ho
      obtain ⟨okind, ot, K, otime, oa, on, oc, ow⟩ := o
      unfold fewOq at HO HNo
      simp only at k4 k6 hm1 hws HO HNo
      have HWS := Lib.hid hws
      have hwl := Lib.hid hws.1
      have hwm := hws.2.1
      unfold maxLen at hm1 hwm
      rw [hws.1] at HO HNo
      clear hws hbl HA
      by_cases h1 : K.size ≤ 300
      · have hb2 : ¬ (300 : Int) < (K.size : Int) := by omega
        have hb3 : decide (300 < K.size) = false := by rw [decide_eq_false_iff_not]; omega
        by_cases h2 : on ≤ 20
        · have hb4 : ¬ (20 : Int) < (on : Int) := by omega
          have hb5 : decide (20 < on) = false := by rw [decide_eq_false_iff_not]; omega
          have HO2 := Lib.hid (fun h => HO.out ⟨h1, h2, h⟩)
          have HN2 := Lib.hid (show ¬ (∀ k, k < on → fewWq (ow.getD k wq0)) → fewO L n = false from fun h => HNo.out (fun h3 => h h3.2.2))
          clear h1 h2 HO HNo
          go_wp2_with fail
          go_loopg [6] on (fun g2 s6 wx => ∃ k : Nat, k + g2 = on ∧ s6 = .int .i64 k ∧ w = wx ∧ Hid (∀ j, j < k → fewWq (ow.getD j wq0)))
          case atStart => exact ⟨0, by omega, rfl, rfl, Lib.hid (fun j hj => by omega)⟩
          case round =>
            obtain ⟨k, hkg, rfl, rfl, HB⟩ := hrel
            cases gk with
            | zero =>
              obtain rfl : k = on := by omega
              have HO3 := Lib.hid (HO2.out HB.out)
              clear HO2 HN2
              go_wp2_with fail
              go_roundg g
              case measure => omega
              case rel => exact ⟨i + 1, by omega, by go_num, rfl, HO3⟩
            | succ g3 =>
              have hkn : k < on := by omega
              have hkz : (k : Int) < (on : Int) := by omega
              obtain ⟨b2, off2, rfl, _, hv1, hv2, j0, _, j2⟩ := HWS.out.2.2.2 k hkn
              obtain ⟨K2, hK2⟩ : ∃ K2, K2 = (ow.getD k wq0).key := ⟨_, rfl⟩
              obtain ⟨V2, hV2⟩ : ∃ V2, V2 = (ow.getD k wq0).val := ⟨_, rfl⟩
              have HF := Lib.hid (show fewWq (ow.getD k wq0) ↔ (K2.size ≤ 300 ∧ V2.size ≤ 700) by rw [hK2, hV2]; rfl)
              rw [← hK2] at j0 hv1
              rw [← hV2] at j2 hv2
              unfold maxLen at hv1 hv2
              clear hK2 hV2
              by_cases e1 : K2.size ≤ 300
              · have hc2 : ¬ (300 : Int) < (K2.size : Int) := by omega
                have hc3 : decide (300 < K2.size) = false := by rw [decide_eq_false_iff_not]; omega
                by_cases e2 : V2.size ≤ 700
                · have hc4 : ¬ (700 : Int) < (V2.size : Int) := by omega
                  have hc5 : decide (700 < V2.size) = false := by rw [decide_eq_false_iff_not]; omega
                  have HFk := Lib.hid (HF.out.2 ⟨e1, e2⟩)
                  clear e1 e2 HF
                  go_wp2_with fail
                  go_roundg g3
                  case measure => omega
                  case rel => exact ⟨k + 1, by omega, by go_num, rfl, Lib.hid (fun j hj => by
                    rcases Nat.lt_succ_iff_lt_or_eq.1 hj with h | rfl
                    · exact HB.out j h
                    · exact HFk.out)⟩
                · have hc4 : (700 : Int) < (V2.size : Int) := by omega
                  have hc5 : decide (700 < V2.size) = true := by rw [decide_eq_true_iff]; omega
                  have HN := Lib.hid (HN2.out (fun h => e2 (HF.out.1 (h k hkn)).2))
                  clear e1 e2 HF HN2 HO2
                  go_wp2_with fail
                  go_ret
                  exact ⟨by rw [HN.out]; rfl, rfl⟩
              · have hc2 : (300 : Int) < (K2.size : Int) := by omega
                have hc3 : decide (300 < K2.size) = true := by rw [decide_eq_true_iff]; omega
                have HN := Lib.hid (HN2.out (fun h => e1 (HF.out.1 (h k hkn)).1))
                clear e1 HF HN2 HO2
                go_wp2_with fail
                go_ret
                exact ⟨by rw [HN.out]; rfl, rfl⟩
        · have hb4 : (20 : Int) < (on : Int) := by omega
          have hb5 : decide (20 < on) = true := by rw [decide_eq_true_iff]; omega
          have HN := Lib.hid (HNo.out (fun h => h2 h.2.1))
          clear h1 h2 HO HNo
          go_wp2_with fail
          go_ret
          exact ⟨by rw [HN.out]; rfl, rfl⟩
      · have hb2 : (300 : Int) < (K.size : Int) := by omega
        have hb3 : decide (300 < K.size) = true := by rw [decide_eq_true_iff]; omega
        have HN := Lib.hid (HNo.out (fun h => h1 h.1))
        clear h1 HO HNo
        go_wp2_with fail
        go_ret
        exact ⟨by rw [HN.out]; rfl, rfl⟩
end Go.Proofs.Ythcomfcbdlobpaa
