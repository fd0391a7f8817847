/-
  The program's net: Put.
-/
import Derived.Test.YtbhlgceicfjncaaSet26
import Derived.Test.YtbhlgceicfjncaaSet27
import Derived.Test.YtbhlgceicfjncaaSet12
namespace Go.Proofs.Ytbhlgceicfjncaa
open Go.RowKit
set_option linter.unusedVariables false
set_option linter.unnecessarySimpa false
set_option linter.unusedSimpArgs false
set_option maxRecDepth 100000

def psiPt (A g B : Nat) (v0 : Value) (n : Nat) (J : List Wj) (x : Wj) (row : Option Nat) (t : Nat) (v : Value) (W : World) : Prop :=
  match t with
  | 0 => v = .pointer (some ⟨g, 0, none⟩)
  | 5 => v = .pointer (some ⟨A, 0, none⟩)
  | 9 => v = .int .i64 x.v
  | 12 => v = .string x.b
  | 39 => v = .pointer (some ⟨g, 0, none⟩)
  | 40 => v = .pointer (some ⟨g, 0, none⟩)
  | 41 => v = .pointer (some ⟨g, 0, none⟩)
  | 42 => v = .pointer (some ⟨g, 256, none⟩)
  | 43 => v = v0
  | 44 => v = .pointer (some ⟨A, 2, none⟩)
  | 45 => v = .int .i64 x.m.to_
  | 46 => v = .int .i64 x.v
  | 47 => v = .string x.b
  | 48 => v = .agg x.oc.toArray
  | 49 => ∃ gu, v = .slice (some ⟨gu, 0, none⟩) 1 1 ∧ B ≤ gu ∧ W.heap[gu]? = some (.cells x.oc.toArray 70 (0, 0))
  | 50 => W.ownsRow 0 70 5 v (n + 1) (ocs J ++ ocs [x]) ∧ ∀ k, v.ownBlock = some k → row = some k ∨ B ≤ k
  | 51 => v = .pointer (some ⟨g, 0, none⟩)
  | 52 => v = .pointer (some ⟨g, 256, none⟩)
  | _ => True
theorem psiPt_stable {A g B : Nat} {v0 : Value} {n : Nat} {J : List Wj} {x : Wj} {row : Option Nat} (hrow : ∀ k, row = some k → k < B) {t : Nat} {v : Value} {w w' : World} (h : psiPt A g B v0 n J x row t v w) (hb : KeepG 70 5 n (n + 1) (ocs J) (ocs J ++ ocs [x]) row w w') : psiPt A g B v0 n J x row t v w' := by
  by_cases e : t = 49
  · subst e
    obtain ⟨D, h1, h2, h3⟩ := h
    exact ⟨D, h1, h2, (hb.block D (Array.getElem?_eq_some_iff.1 h3).1 (fun e => by have := hrow D e.symm; omega)).trans h3⟩
  · by_cases e2 : t = 50
    · subst e2
      exact ⟨hb.k3 _ h.1, h.2⟩
    · unfold psiPt at h ⊢
      split at h <;> first | exact h | exact absurd rfl e | exact absurd rfl e2 | trivial
theorem proj_len {v : Int} {m : Mg} (h : (projB v m).2 = 0) : 1 ≤ (payW m v).size ∧ (payW m v).size ≤ 4000 := by
  obtain ⟨hv, hr, _⟩ := proj_zero h
  exact pay_len hr hv
set_option maxHeartbeats 8000000 in
theorem net_put_no {w : World} {g : Nat} {v : Value} {J : List Wj} (h : NetV w g v J) (m : Mg) (sl : Value) (hf : m.fits) (hw : m.few) (hws : WsAt w sl m.ws) (a b : Int) (ha : I64 a) (hb : I64 b) (hp : ¬ (projB (negB a b) m).2 = 0) (hE : EncOK) (hN : NegOK) :
    Calls Try.prog 9 #[.pointer (some ⟨g, 0, none⟩), .agg (m.cells sl), .int .i64 a, .int .i64 b] w fun e w' => e = .returned (.int .i64 (projB (negB a b) m).2) ∧ Below w.heap.size w w' := by
  have hr0 := heap_alloc_new w (.cells (m.cells sl) 38)
  have hb0 := (Below.refl w.heap.size w).alloc (Nat.le_refl _) (.cells (m.cells sl) 38)
  obtain ⟨C, hC⟩ : ∃ C, C = m.cells sl := ⟨_, rfl⟩
  have hnb : I64 (negB a b) := by unfold negB; split; exact ⟨by decide, by decide⟩; exact ⟨by have := ha.1; have := hb.1; omega, by have := ha.2; have := hb.2; omega⟩
  have HNG := Lib.hid (fun W => hN a b W ha hb)
  obtain ⟨ver, hver⟩ : ∃ ver, ver = negB a b := ⟨_, rfl⟩
  rw [← hver] at HNG hp hnb ⊢
  have HEN := Lib.hid (fun W (hB : Below w.heap.size w W) => hE ver m sl W hnb hf hw (hws.below hB))
  have hen : (encB ver m).2 = (projB ver m).2 ∧ (encB ver m).1 = [] := by unfold encB; rw [if_neg hp]; exact ⟨rfl, rfl⟩
  rw [hen.1, hen.2, ← hC] at HEN
  have hpv : ver = 0 → (projB ver m).2 = 1 := fun e => by subst e; unfold projB; rw [if_pos (.inl (by decide))]
  obtain ⟨E, hE2⟩ : ∃ E, E = (projB ver m).2 := ⟨_, rfl⟩
  rw [← hE2] at HEN hp hpv ⊢
  rw [← hC] at hr0 hb0 ⊢
  obtain ⟨w1, hw1⟩ : ∃ w1, w1 = w.alloc (.cells C 38) := ⟨_, rfl⟩
  obtain ⟨A, hA⟩ : ∃ A, A = w.heap.size := ⟨_, rfl⟩
  rw [← hA] at hr0
  rw [← hw1] at hr0 hb0
  have HR := Lib.hid (fun W (hB : Below w1.heap.size w1 W) => (hB.block A (Array.getElem?_eq_some_iff.1 hr0).1).trans hr0)
  have HB0 := Lib.hid hb0
  have hs17 : (Try.prog.info? 38).map (·.size) = some C.size := by rw [hC]; exact msg_size
  have e1 : (E == 0) = false := by rw [beq_eq_false_iff_ne]; exact hp
  have e2 : ¬ E = 0 := hp
  clear h hf hw hws ha hb hnb hen hE hN hE2 hr0 hb0 hC hver hp
  by_cases hz : ver = 0
  · have hE1 := Lib.hid (hpv hz)
    have d1 : (ver == 0) = true := by rw [hz]; rfl
    clear hpv hz
    go_enter Try.func9, Try.ntmps9
    go_upto_region 1 with fail
    rw [← hw1, ← hA]
    clear hw1 hA
    go_wp2_with (go_at_call 20; (with_reducible refine (HNG.out _).mono ?_); rintro e w2 ⟨rfl, hb2⟩; have HB2 := Lib.hid (HB0.out.trans (hb2.mono HB0.out.size)); clear hb2)
    go_ret
    exact ⟨by rw [hE1.out]; rfl, HB2.out⟩
  · have d1 : (ver == 0) = false := by rw [beq_eq_false_iff_ne]; exact hz
    clear hpv hz
    go_enter Try.func9, Try.ntmps9
    go_upto_region 1 with fail
    rw [← hw1, ← hA]
    clear hw1 hA
    go_wp2_with (first
      | (go_at_call 20; (with_reducible refine (HNG.out _).mono ?_); rintro e w2 ⟨rfl, hb2⟩; have HR2 := Lib.hid (HR.out _ hb2); have HB2 := Lib.hid (HB0.out.trans (hb2.mono HB0.out.size)); clear hb2)
      | (refine wpList_load_row rfl 38 _ rfl A rfl 38 C (0, 0) _ HR2.out Try.underlying38 rfl hs17 ?_; dsimp only [Act.put])
      | (go_at_call 21; (with_reducible refine (HEN.out _ HB2.out).mono ?_); rintro e w3 ⟨rfl, hb3⟩; have HB3 := Lib.hid (HB2.out.trans (hb3.mono HB2.out.size)); clear hb3))
    go_ret
    exact ⟨rfl, HB3.out⟩
set_option maxHeartbeats 8000000 in
theorem net_put_yes {w : World} {g : Nat} {v : Value} {J : List Wj} (h : NetV w g v J) (hl : J.length ≤ 1000) (m : Mg) (sl : Value) (hf : m.fits) (hw : m.few) (hws : WsAt w sl m.ws) (a b : Int) (ha : I64 a) (hb : I64 b) (hp : (projB (negB a b) m).2 = 0) (hE : EncOK) (hN : NegOK) :
    Calls Try.prog 9 #[.pointer (some ⟨g, 0, none⟩), .agg (m.cells sl), .int .i64 a, .int .i64 b] w fun e w' => ∃ v', e = .returned (.int .i64 0) ∧ NetV w' g v' (J ++ [⟨m, sl, negB a b, false, 0⟩]) ∧ Moves (netO g v) (netO g v') w w' := by
  have hr0 := heap_alloc_new w (.cells (m.cells sl) 38)
  have hb0 := (Below.refl w.heap.size w).alloc (Nat.le_refl _) (.cells (m.cells sl) 38)
  have hnb : I64 (negB a b) := by unfold negB; split; exact ⟨by decide, by decide⟩; exact ⟨by have := ha.1; have := hb.1; omega, by have := ha.2; have := hb.2; omega⟩
  have HNG := Lib.hid (fun W => hN a b W ha hb)
  obtain ⟨ver, hver⟩ : ∃ ver, ver = negB a b := ⟨_, rfl⟩
  rw [← hver] at HNG hp hnb ⊢
  have HEN := Lib.hid (fun W (hB : Below w.heap.size w W) => hE ver m sl W hnb hf hw (hws.below hB))
  have hpl := proj_len hp
  have hen : encB ver m = (msgB m (lastOfM ver), 0) := by unfold encB; rw [if_pos hp]
  rw [hen] at HEN
  have HMK := Lib.hid (fun W => makeOK (payW m ver) W hpl.1 hpl.2)
  have hv123 := (proj_zero hp).1
  obtain ⟨x, hx⟩ : ∃ x : Wj, x = ⟨m, sl, ver, false, 0⟩ := ⟨_, rfl⟩
  have hxb : x.b = frmS (payW m ver) := by rw [hx]; rfl
  have hxv : x.v = ver := by rw [hx]
  have hxc : x.oc = [.int .i64 m.to_, .int .i64 ver, .string x.b, .bool false, .int .i64 0] := by rw [hx]; rfl
  rw [← hxb] at HMK
  rw [← hx]
  have hxm : x.m.to_ = m.to_ := by rw [hx]
  obtain ⟨P, hP⟩ : ∃ P, P = payW m ver := ⟨_, rfl⟩
  rw [← hP] at HMK
  have HEN2 : Hid (∀ W, Below w.heap.size w W → Calls Try.prog 21 #[.int .i64 ver, .agg (m.cells sl)] W fun e w' => e = .returned (.tuple #[.string P, .int .i64 0]) ∧ Below W.heap.size W w') := Lib.hid (fun W hB => (HEN.out W hB).mono fun e w' h => by rw [hP]; exact h)
  obtain ⟨C, hC⟩ : ∃ C, C = m.cells sl := ⟨_, rfl⟩
  have hc2 : C[2]? = some (.int .i64 m.to_) := by rw [hC]; rfl
  rw [← hC] at hr0 hb0 HEN2 ⊢
  obtain ⟨w1, hw1⟩ : ∃ w1, w1 = w.alloc (.cells C 38) := ⟨_, rfl⟩
  obtain ⟨A, hA⟩ : ∃ A, A = w.heap.size := ⟨_, rfl⟩
  rw [← hA] at hr0
  rw [← hw1] at hr0 hb0
  have HR := Lib.hid (fun W (hB : Below w1.heap.size w1 W) => (hB.block A (Array.getElem?_eq_some_iff.1 hr0).1).trans hr0)
  have HB0 := Lib.hid hb0
  have hs17 : (Try.prog.info? 38).map (·.size) = some C.size := by rw [hC]; exact msg_size
  have d1 : (ver == 0) = false := by rw [beq_eq_false_iff_ne]; omega
  have HNT := Lib.hid (fun W (hB : Below w.heap.size w W) => h.below hB)
  obtain ⟨n, hn⟩ : ∃ n, n = J.length := ⟨_, rfl⟩
  have HL := Lib.hid hl
  have HJ := Lib.hid hn
  have hAne : A ≠ g := by have := h.lt; omega
  have HA := Lib.hid (show ∀ k, v.ownBlock = some k → k < A from fun k hk => by rw [hA]; exact h.olt k (.inr hk))
  have HFIN := Lib.hid (fun (W1 w4 : World) (v4 : Value) (hB : Below w.heap.size w W1) hk hown hg => h.more (x := x) (w1 := W1) (w4 := w4) (v4 := v4) hB hk hown hg)
  have HM := Lib.hid hxm
  have HXV := Lib.hid hxv
  have HXC := Lib.hid hxc
  rw [← hn] at HFIN
  have HNE := Lib.hid h.ne
  clear h hf hw hws ha hb hnb hen hE hN hr0 hb0 hC hver hp hpl hv123 hx hxb hxv hxc hP hl hn HEN hxm
  go_enter Try.func9, Try.ntmps9
  go_upto_region 1 with fail
  rw [← hw1, ← hA]
  clear hw1 hA
  go_upto_region 10 with (first
    | (go_at_call 20; (with_reducible refine (HNG.out _).mono ?_); rintro e w2 ⟨rfl, hb2⟩; have HR2 := Lib.hid (HR.out _ hb2); have HB2 := Lib.hid (HB0.out.trans (hb2.mono HB0.out.size)); have HBA2 := Lib.hid hb2; clear hb2)
    | (refine wpList_load_row rfl 38 _ rfl A rfl 38 C (0, 0) _ HR2.out Try.underlying38 rfl hs17 ?_; dsimp only [Act.put])
    | (go_at_call 21; (with_reducible refine (HEN2.out _ HB2.out).mono ?_); rintro e w3 ⟨rfl, hb3⟩; have HB3 := Lib.hid (HB2.out.trans (hb3.mono HB2.out.size)); have HBA3 := Lib.hid (HBA2.out.trans (hb3.mono HBA2.out.size)); have HT3 := Lib.hid (HNT.out _ HB3.out).table; clear hb3)
    | (refine wpList_load_midW rfl 28 _ rfl g 0 rfl tab.toList _ HT3.out Try.underlying28 rfl tabSizeL ?_; dsimp only [Act.put])
    | (go_at_call 22; (with_reducible refine (HMK.out _).mono ?_); rintro e w4 ⟨rfl, hb4⟩; have HB4 := Lib.hid (HB3.out.trans (hb4.mono HB3.out.size)); have HBA4 := Lib.hid (HBA3.out.trans (hb4.mono HBA3.out.size)); clear hb4))
  have HN4 := Lib.hid (HNT.out _ HB4.out)
  have hrA := HR.out _ HBA4.out
  have HRA := Lib.hid hrA
  have hown := HN4.out.2
  have hbx := HN4.out.1
  rw [← HJ.out] at hown
  obtain ⟨row, hrow⟩ : ∃ row, row = v.ownBlock := ⟨_, rfl⟩
  rw [← hrow] at HA HFIN HNE
  have hrB1 : ∀ k, row = some k → k < w4.heap.size := fun k hk => Nat.lt_trans (HA.out k hk) (Array.getElem?_eq_some_iff.1 hrA).1
  have hrA2 : some A ≠ row := fun e => by have := HA.out A e.symm; omega
  have hrg2 : some g ≠ row := fun e => HNE.out e.symm
  have hAB : A < w4.heap.size := (Array.getElem?_eq_some_iff.1 hrA).1
  have hgB : g < w4.heap.size := (Array.getElem?_eq_some_iff.1 hbx).1
  have HBX := Lib.hid hbx
  clear hrA hbx
  refine wp_region_tailN [0, 5, 9, 12] [50, 52] (KeepG 70 5 n (n + 1) (ocs J) (ocs J ++ ocs [x]) row) (psiPt A g w4.heap.size v n J x row) (fun _ _ => True) 53 14 none (.store 59 (.tmp 52) (.tmp 50)) (by kernel_rfl) (by kernel_rfl) (by kernel_rfl) (by kernel_rfl) rfl (by kernel_rfl) (by kernel_rfl)
    (.of (Below.refl _ _).drew) (fun _ _ _ h k => h.trans k) (fun _ _ _ _ h k => psiPt_stable hrB1 h k) (fun _ _ _ _ _ => trivial) ?_ ?_ [39, 40, 41, 42, 43, 44, 45, 46, 47, 48, 49, 50, 51, 52] (by kernel_rfl) ?_
  · intro t ht w' _
    simp only [List.mem_cons, List.not_mem_nil, or_false] at ht
    rcases ht with rfl | rfl | rfl | rfl
    · rfl
    · rfl
    · show _ = Value.int .i64 x.v; rw [HXV.out]; rfl
    · rfl
  · repeat' (first | exact AllStepsL.nil | refine AllStepsL.cons ?_ ?_)
    all_goals
      intro hik
      first
        | (exfalso; revert hik; decide)
        | (intro a' w' K' Q' hRl hP hK'
           have hbx' := (hRl.block g hgB hrg2).trans HBX.out
           have hrA' := (hRl.block A hAB hrA2).trans HRA.out
           have c256 : w'.cell? ⟨g, 256, none⟩ = some v := by rw [cell_of_row _ _ _ _ _ _ hbx', nRow_v]
           have c2 : w'.cell? ⟨A, 2, none⟩ = some (.int .i64 x.m.to_) := by rw [cell_of_row _ _ _ _ _ _ hrA', HM.out]; exact hc2
           have hsz := hRl.size
           have how := hRl.k2 _ hown
           clear hRl hbx' hrA'
           first
            | (obtain ⟨h48, _⟩ := hP
               refine owp_bs1 _ x rfl (by simp only [Act.eval, Array.getD_eq_getD_getElem?]; exact h48) ?_
               refine hK' _ _ (.of ((Below.refl _ _).alloc (Nat.le_refl _) _)) trivial ?_
               intro d hd; cases hd
               exact ⟨_, rfl, hsz, heap_alloc_new w' _⟩)
            | (obtain ⟨h43, ⟨gu, h49, hgu, hgr⟩, _⟩ := hP
               obtain ⟨i, z, hi, hz0, hz1, hz2, hz3⟩ := owI
               obtain ⟨v', w3, hr, q1, q2, q3⟩ := run_append_keep (P := Try.prog) w' 59 59 70 i z 5 48 Try.underlying59 hi hz0 hz2 hz3 hz1 (by omega) v n (ocs J) how ⟨gu, 0, none⟩ 1 1 (ocs [x]) rfl (fun j u hu => by rw [Addr.add_lit, Nat.zero_add, cell_of_row _ _ _ _ _ _ hgr]; simpa [ocs] using hu) (ocs_one _) (by have := HL.out; have := HJ.out; unfold maxLen; omega) (by have := HL.out; have := HJ.out; omega)
               refine wp_appG 59 _ _ rfl v (.slice (some ⟨gu, 0, none⟩) 1 1) v' w3 (by simp only [Act.eval, Array.getD_eq_getD_getElem?]; exact h43) (by simp only [Act.eval, Array.getD_eq_getD_getElem?]; exact h49) hr ?_
               rw [← hrow] at q2 q3
               refine hK' _ _ q2 trivial ?_
               intro d hd; cases hd
               exact ⟨q1, fun k hk => (q3 k hk).elim (fun e => .inl e) (fun e => .inr (Nat.le_trans hsz e))⟩)
            | (repeat (obtain ⟨h, hP⟩ := hP; conv at h => whnf)
               try go_simp
               first
                | (refine hK' _ _ .refl trivial ?_; intro d hd; cases hd; first | rfl | exact h | (show _ = Value.agg x.oc.toArray; rw [HXC.out, HM.out, HXV.out]))
                | (trace_state; fail)))
  · intro f w5 hRl hf hT ok hd ho
    have h52 : f 52 = .pointer (some ⟨g, 256, none⟩) := hf 52 (by simp)
    obtain ⟨q1, q2⟩ : w5.ownsRow 0 70 5 (f 50) (n + 1) (ocs J ++ ocs [x]) ∧ ∀ k, (f 50).ownBlock = some k → row = some k ∨ w4.heap.size ≤ k := hf 50 (by simp)
    have hbx4 := (hRl.block g hgB hrg2).trans HBX.out
    have hcell : w5.cell? ⟨g, 256, none⟩ = some v := by rw [cell_of_row _ _ _ _ _ _ hbx4, nRow_v]
    have HN := Lib.hid (HFIN.out w4 w5 (f 50) HB4.out hRl q1 q2)
    obtain ⟨g', cap', h50, -, hgl⟩ := own_slice q1 (by omega)
    obtain ⟨v5, hv5⟩ : ∃ v5, v5 = f 50 := ⟨_, rfl⟩
    have hone : v5.oneCell' = true := by rw [hv5, h50]; rfl
    rw [← hv5] at HN
    simp only [putAll, List.foldl_cons, List.foldl_nil, h52, ← hv5]
    dsimp only [Act.put]
    simp only [List.setIfInBounds_toArray]
    simp only [List.set_cons_succ, List.set_cons_zero]
    refine wp_store1K 59 _ _ ho ⟨g, 256, none⟩ v5 _ rfl rfl hone hcell (frozen_of_row _ _ 256 _ _ hbx4) (by kernel_rfl) ?_
    rw [hd]
    clear hRl hf hT hd ho h52 q1 q2 hbx4 hcell h50 hgl hone hv5
    go_wp2_with fail
    go_ret
    exact ⟨v5, rfl, HN.out.1, HN.out.2⟩
end Go.Proofs.Ytbhlgceicfjncaa
