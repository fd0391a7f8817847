/-
  The document's Do: Took of what was asked.
-/
import Derived.Test.YtdldplhfpianhaaSet14
import Derived.BigQuiet
namespace Go.Proofs.Ytdldplhfpianhaa
open Go.RowKit
set_option linter.unusedVariables false
set_option linter.unnecessarySimpa false
set_option linter.unusedSimpArgs false
set_option maxRecDepth 100000

theorem RRow.setC {B g i : Nat} {t : Bool} {M : List Rd} {v u : Value} {w : World} (h : RRow B t M v w) (hg : g < B) : RRow B t M v (w.setCell ⟨g, i, none⟩ u) := by
  obtain ⟨g2, cap, cur, h1, h2, h3, h4⟩ := h
  exact ⟨g2, cap, cur, h1, h2, (Below.heap_setCell _ _ _ _ (by show g2 ≠ g; omega)).trans h3, h4⟩
theorem IsRds.setR {W : World} {g h len cap : Nat} {L : List Rd} {cs : Array Value} (hz : IsRds W (some ⟨g, 0, none⟩) len cap L) (hg : g ≠ h) : IsRds (W.setRow h cs) (some ⟨g, 0, none⟩) len cap L :=
  ⟨hz.1, hz.2.1, hz.2.2.1, fun i hi => by
    obtain ⟨b, off, ha, h1, h2, k0, k1, k2, k3, k4⟩ := hz.2.2.2 i hi
    simp only [Option.some.injEq, Addr.mk.injEq, and_true] at ha
    obtain ⟨rfl, rfl⟩ := ha
    exact ⟨g, 0, rfl, by simpa using h1, h2, (cell_setRow_other W h cs _ hg).trans k0, (cell_setRow_other W h cs _ hg).trans k1, (cell_setRow_other W h cs _ hg).trans k2, (cell_setRow_other W h cs _ hg).trans k3, (cell_setRow_other W h cs _ hg).trans k4⟩⟩
/-- What slots hold while one more is read. -/
def psiT (B H H1 : Nat) (slv : Value) (L : List Rd) (d : Rd) : Nat → Value → World → Prop
  | 2 => fun v _ => v = .pointer (some ⟨H, 0, none⟩)
  | 3 => fun v _ => v = .pointer (some ⟨H1, 0, none⟩)
  | 45 => fun v w => RRow B true [] v w
  | 46 => fun v _ => v = .pointer (some ⟨H, 6, none⟩)
  | 47 => fun v _ => v = slv
  | 48 => fun v w => RRow B (L.length == 0) L v w
  | 49 => fun v _ => v = .pointer (some ⟨H1, 2, none⟩)
  | 50 => fun v _ => v = .agg #[.string d.key, .bool d.found, .int .u64 (d.v.time : Int), .bool d.v.gone, .string d.v.val]
  | 51 => fun v w => RRow B true [d] v w
  | 52 => fun v w => RRow B false (L ++ [d]) v w
  | 53 => fun v _ => v = .pointer (some ⟨H, 6, none⟩)
  | _ => fun _ _ => True
theorem psiT_stable (B H H1 : Nat) (slv : Value) (L : List Rd) (d : Rd) : ∀ t v w w', psiT B H H1 slv L d t v w → RKeep B L d w w' → psiT B H H1 slv L d t v w' := by
  intro t v w w' hp hk
  unfold psiT at *
  split at hp <;> first
    | exact hp
    | exact hk.k0 _ hp
    | exact hk.k1 _ hp
    | exact hk.k2 _ hp
    | exact hk.k3 _ hp
set_option maxHeartbeats 8000000 in
theorem cdo_took_yes (p : Pg) (n : Nat) (x : Rn) (da : Option Addr) (dc : Nat) (va : Option Addr) (vc : Nat) (o : Cq) (w : World) (hi : DoIn w p n x da dc va vc) (ho : o.ok) (hk : o.kind % 5 = 1) (hc : x.stage = 2 ∧ sameK (p.R.getD x.read.length ⟨#[]⟩) o.x.key = true) :
    Calls Try.prog 11 #[.agg (runQ p n x da dc va vc), .agg o.cells] w (CdoRes w p n da va (tellR ⟨p.R, p.W, n⟩ x o)) := by
  have HY : tellR ⟨p.R, p.W, n⟩ x o = goOn ⟨p.R, p.W, n⟩ ⟨x.stage, x.start, x.commit, x.read ++ [o.x], x.voted⟩ := by
    unfold tellR
    rw [if_neg (by omega), if_pos (by omega)]
    unfold tookR
    rw [if_pos hc]
  have HRO := Lib.hid (hi.ok.tellR o ho)
  obtain ⟨y, hy⟩ : ∃ y, y = tellR ⟨p.R, p.W, n⟩ x o := ⟨_, rfl⟩
  rw [← hy] at HRO ⊢
  have HYY := Lib.hid (hy.trans HY)
  clear hy HY
  have HI := Lib.hid hi
  have HO := Lib.hid ho
  have HW00 := Lib.hid (CrR.start3 w (runQ p n x da dc va vc) o.cells)
  obtain ⟨ra, rn, rc, R, wa, wn, kw, Ws⟩ := p
  obtain ⟨st, sa, co, L, V⟩ := x
  obtain ⟨kind, time, ⟨xk, xf, ⟨vt, vg, vv⟩⟩, node, good⟩ := o
  unfold runQ zeroRun runCells Cq.cells at HW00
  unfold runQ runCells Cq.cells
  simp only at HW00 hk HRO HYY ⊢
  rw [goOn_is] at HYY
  have hrl0 : R.length = rn := HI.out.pg.1.1
  have hwl0 : Ws.length = wn := HI.out.pg.2.1
  simp only at HYY
  rw [hrl0, hwl0] at HYY
  clear hrl0 hwl0
  obtain ⟨hs2, hkk⟩ := hc
  have hdl := HI.out.ok.left hs2
  have hrl : R.length = rn := HI.out.pg.1.1
  simp only at hs2 hkk hdl hrl
  have e0 : ((st : Int) == 2) = true := by rw [beq_iff_eq]; omega
  have hdr : L.length < rn := by omega
  obtain ⟨b1, off1, hra, hbl1, hks, j0⟩ := (HI.out.pg.1).2.2 L.length hdr
  simp only at hra j0
  obtain ⟨K, hK⟩ : ∃ K, K = R.getD L.length ⟨#[]⟩ := ⟨_, rfl⟩
  rw [← hK] at hkk j0
  have HRA := Lib.hid hra
  clear hs2 hdl hks hK hra
  have e1 : (K.toList == xk.toList) = true := hkk
  clear hkk
  have hz : (kind : Int) % 5 = 1 := by omega
  obtain ⟨dn, hdn⟩ : ∃ dn, dn = L.length := ⟨_, rfl⟩
  obtain ⟨vn, hvn⟩ : ∃ vn, vn = V.length := ⟨_, rfl⟩
  rw [← hdn, ← hvn] at HW00 ⊢
  have HDN := Lib.hid hdn
  have HVN := Lib.hid hvn
  clear hdn hvn hi ho hk
  go_enter Try.func11, Try.ntmps11
  go_upto_region 1 with fail
  obtain ⟨W0, hW0⟩ : ∃ W0, W0 = ((w.alloc (.cells #[.slice ra rn rc, .slice wa wn kw, .int .i64 (n : Int), .int .i64 (st : Int), .int .u64 (sa : Int), .int .u64 (co : Int), .slice da dn dc, .slice va vn vc] 40)).alloc (.cells #[.int .u8 (kind : Int), .int .u64 (time : Int), .string xk, .bool xf, .int .u64 (vt : Int), .bool vg, .string vv, .int .i64 node, .bool good] 47)).alloc (.cells #[.slice none 0 0, .slice none 0 0, .int .i64 0, .int .i64 0, .int .u64 0, .int .u64 0, .slice none 0 0, .slice none 0 0] 40) := ⟨_, rfl⟩
  obtain ⟨Z, hZ⟩ : ∃ Z, Z = w.heap.size + 1 + 1 := ⟨_, rfl⟩
  obtain ⟨H1, hH1⟩ : ∃ H1, H1 = w.heap.size + 1 := ⟨_, rfl⟩
  obtain ⟨H, hH⟩ : ∃ H, H = w.heap.size := ⟨_, rfl⟩
  have HW0 : Hid (CrR w (OpX H1 #[.int .u8 (kind : Int), .int .u64 (time : Int), .string xk, .bool xf, .int .u64 (vt : Int), .bool vg, .string vv, .int .i64 node, .bool good]) H Z #[.slice ra rn rc, .slice wa wn kw, .int .i64 (n : Int), .int .i64 (st : Int), .int .u64 (sa : Int), .int .u64 (co : Int), .slice da dn dc, .slice va vn vc] #[.slice none 0 0, .slice none 0 0, .int .i64 0, .int .i64 0, .int .u64 0, .int .u64 0, .slice none 0 0, .slice none 0 0] W0) := by
    rw [hH, hH1, hZ, hW0]; exact HW00
  rw [← hW0, ← hZ, ← hH1, ← hH]
  clear hW0 hZ hH1 hH HW00
  obtain ⟨c0, c1, c2, c3, c4, c5, c6, c7, f0⟩ := HW0.out.cells
  obtain ⟨o0, o1, o2, o3, o4, o5, o6, o7, o8⟩ := HW0.out.opc
  obtain ⟨ne1, ne2⟩ := HW0.out.nes
  rw [← HDN.out] at j0 hdr
  have j1 : W0.cell? ⟨b1, off1 + dn, none⟩ = some (.string K) := (HW0.out.below.cell (p := ⟨b1, off1 + dn, none⟩) hbl1).trans j0
  have hdz : (dn : Int) < (rn : Int) := by omega
  have hra := HRA.out
  subst hra
  clear j0
  go_upto_region 8 with fail
  go_quiet (fail)
  have HW1 := Lib.hid (HW0.out.drewN nq)
  obtain ⟨W1, hW1⟩ : ∃ W1, W1 = W0.drewN nq := ⟨_, rfl⟩
  rw [← hW1] at HW1
  rw [← hW1]
  clear c0 c1 c2 c3 c4 c5 c6 c7 f0 o0 o1 o2 o3 o4 o5 o6 o7 o8
  obtain ⟨c0, c1, c2, c3, c4, c5, c6, c7, f0⟩ := HW1.out.cells
  obtain ⟨o0, o1, o2, o3, o4, o5, o6, o7, o8⟩ := HW1.out.opc
  clear hW1 HW0 j1
  go_upto_region 9 with fail
  obtain ⟨d, hd⟩ : ∃ d : Rd, d = ⟨xk, xf, ⟨vt, vg, vv⟩⟩ := ⟨_, rfl⟩
  obtain ⟨B, hB⟩ : ∃ B, B = W1.heap.size := ⟨_, rfl⟩
  have hHB : H < B := by rw [hB]; exact (Array.getElem?_eq_some_iff.1 HW1.out.h).1
  have hH1B : H1 < B := by rw [hB]; exact (Array.getElem?_eq_some_iff.1 (HW1.out.ext H1 _ ⟨rfl, rfl⟩).2.2).1
  have HB := Lib.hid hB
  have HP := Lib.hid hd
  have HR0 := Lib.hid HW1.out.h
  have HR1 := Lib.hid (HW1.out.ext H1 _ ⟨rfl, rfl⟩).2.2
  have HRS := Lib.hid (show ∀ W, Below w.heap.size w W → IsRds W da dn dc L from fun W hb => by rw [HDN.out]; exact HI.out.rds.below hb)
  have HLL := Lib.hid (show L.length ≤ 1000 from HI.out.rds.2.1)
  have HDK := Lib.hid (show d.ok by rw [hd]; exact HO.out.2.2.1)
  have hLr : L.length < 1000 := by have := (show rn ≤ 1000 from HI.out.rn); have := hdr; rw [← HDN.out]; omega
  have HLR := Lib.hid hLr
  clear hB hd hLr hdr
  refine wp_region_tail [2, 3] [52, 53] (RKeep B L d) (psiT B H H1 (.slice da dn dc) L d) (fun _ _ => True) 113 9 none (.store 37 (.tmp 53) (.tmp 52)) (by kernel_rfl) (by kernel_rfl) (by kernel_rfl) (by kernel_rfl) rfl (by kernel_rfl) (by kernel_rfl)
    (RKeep.of (by rw [HB.out]; exact Nat.le_refl _) ((Below.refl _ _).drew)) (fun _ _ _ => RKeep.trans) (psiT_stable _ _ _ _ _ _) (fun _ _ _ _ _ => trivial) ?_ ?_ [45, 46, 47, 48, 49, 50, 51, 52, 53] (by kernel_rfl) ?_
  · intro t ht w' _
    simp only [List.mem_cons, List.not_mem_nil, or_false] at ht
    rcases ht with rfl | rfl <;> rfl
  · repeat' (first | exact AllStepsL.nil | refine AllStepsL.cons ?_ ?_)
    all_goals
      intro hik
      first
        | (exfalso; revert hik; decide)
        | (intro a' w' K' Q' hRl hP hK'
           have hB1 : B ≤ w'.heap.size := by rw [HB.out]; exact hRl.size
           have box0 := (hRl.block H hHB).trans HR0.out
           have box1 := (hRl.block H1 hH1B).trans HR1.out
           have c6' : w'.cell? ⟨H, 6, none⟩ = some (.slice da dn dc) := by rw [cell_of_row _ _ _ _ _ _ box0]; rfl
           have d2' : w'.cell? ⟨H1, 2, none⟩ = some (.string d.key) := by rw [cell_of_row _ _ _ _ _ _ box1, HP.out]; rfl
           have d3' : w'.cell? ⟨H1, 3, none⟩ = some (.bool d.found) := by rw [cell_of_row _ _ _ _ _ _ box1, HP.out]; rfl
           have d4' : w'.cell? ⟨H1, 4, none⟩ = some (.int .u64 (d.v.time : Int)) := by rw [cell_of_row _ _ _ _ _ _ box1, HP.out]; rfl
           have d5' : w'.cell? ⟨H1, 5, none⟩ = some (.bool d.v.gone) := by rw [cell_of_row _ _ _ _ _ _ box1, HP.out]; rfl
           have d6' : w'.cell? ⟨H1, 6, none⟩ = some (.string d.v.val) := by rw [cell_of_row _ _ _ _ _ _ box1, HP.out]; rfl
           clear box0 box1
           first
             | (refine rwp_bs0 rfl ?_
                refine hK' _ _ (RKeep.of hB1 ((Below.refl _ _).alloc (Nat.le_refl _) _)) trivial ?_
                intro d hd; cases hd
                exact rrow_empty w' hB1)
             | (obtain ⟨h53, _⟩ := hP
                refine rwp_bs1 _ d rfl (by simp only [Act.eval, Array.getD_eq_getD_getElem?]; exact h53) ?_
                refine hK' _ _ (RKeep.of hB1 ((Below.refl _ _).alloc (Nat.le_refl _) _)) trivial ?_
                intro d hd; cases hd
                exact rrow_one w' _ hB1)
             | (obtain ⟨h47, h49, _⟩ := hP
                obtain ⟨v', w3, hr, hb2, hrow⟩ := rapp_first (B := B) w' _ da dn dc L h47 (HRS.out _ ((HW1.out.below).trans ((RKeep.below (by rw [HB.out]; exact Nat.le_refl _) hRl).mono (by rw [HB.out]; exact HW1.out.below.size)))) (by have := HLL.out; have := HDN.out; omega) (fun _ => HI.out.rnil) hB1
                refine rwp_app _ _ rfl rfl _ _ v' w3 (by simp only [Act.eval, Array.getD_eq_getD_getElem?]) (by simp only [Act.eval, Array.getD_eq_getD_getElem?]; exact h49) hr ?_
                refine hK' _ _ (RKeep.of hB1 hb2) trivial ?_
                intro d hd; cases hd
                exact hrow)
             | (obtain ⟨h50, h54, _⟩ := hP
                obtain ⟨v', w3, hr, hk2, hrow⟩ := rapp_second (B := B) w' _ _ L d h50 h54 (by have := HLL.out; omega) hB1
                refine rwp_app _ _ rfl rfl _ _ v' w3 (by simp only [Act.eval, Array.getD_eq_getD_getElem?]) (by simp only [Act.eval, Array.getD_eq_getD_getElem?]) hr ?_
                refine hK' _ _ hk2 trivial ?_
                intro d hd; cases hd
                exact hrow)
             | (repeat (obtain ⟨h, hP⟩ := hP; conv at h => whnf)
                go_simp
                refine hK' _ _ RKeep.refl trivial ?_
                intro d hd; cases hd; first | rfl | exact h))
  · intro f w3 hRl hf hT ok hd ho
    have HW3 := HW1.out.later (w' := w3) (by rw [← HB.out]; exact RKeep.below (by rw [HB.out]; exact Nat.le_refl _) hRl)
    have h53 : f 53 = .pointer (some ⟨H, 6, none⟩) := hf 53 (by simp)
    have hrow : RRow B false (L ++ [d]) (f 52) w3 := hf 52 (by simp)
    obtain ⟨g, cp, cur, h52, hr1, hr2⟩ := id hrow
    obtain ⟨m, hm⟩ : ∃ m, m = (L ++ [d]).length := ⟨_, rfl⟩
    rw [h52, ← hm] at hrow
    rw [← hm] at h52
    have HM := Lib.hid hm
    have hm1 : m ≤ 1000 := by rw [hm, List.length_append]; have := HLR.out; show L.length + 1 ≤ 1000; omega
    clear hm
    simp only [putAll, List.foldl_cons, List.foldl_nil, h52, h53]
    dsimp only [Act.put]
    simp only [List.setIfInBounds_toArray]
    simp only [List.set_cons_succ, List.set_cons_zero]
    refine wp_store1C 37 _ _ ho ⟨H, 6, none⟩ (.slice (some ⟨g, 0, none⟩) m cp) _ rfl rfl rfl HW3.cells.2.2.2.2.2.2.1 (HW3.cells.2.2.2.2.2.2.2.2 6) (by kernel_rfl) ?_
    rw [hd]
    have HW4 := Lib.hid (HW3.put 6 (.slice (some ⟨g, 0, none⟩) m cp))
    have HRD2 := Lib.hid (rds_own (n := m) (c := cp) (a := some ⟨g, 0, none⟩) (by have := (hrow.setC (i := 6) (u := .slice (some ⟨g, 0, none⟩) m cp) hHB).own; rw [← HM.out] at this; exact this) HM.out.symm hm1 (fun q hq => by
      rcases List.mem_append.1 hq with hq | hq
      · exact HI.out.ok.ok q hq
      · rw [List.mem_singleton.1 hq]; exact HDK.out))
    obtain ⟨W4, hW4⟩ : ∃ W4, W4 = w3.setCell ⟨H, 6, none⟩ (.slice (some ⟨g, 0, none⟩) m cp) := ⟨_, rfl⟩
    rw [← hW4] at HW4 HRD2
    rw [← hW4]
    have HGH := Lib.hid (show g ≠ H by omega)
    have HGW := Lib.hid (show w.heap.size ≤ g by have := HW1.out.below.size; have := HB.out; omega)
    have HZN := Lib.hid (show g ≠ Z from fun e => by have := (Array.getElem?_eq_some_iff.1 HW1.out.r).1; have := HB.out; omega)
    clear hrow hr1 hr2 h52 h53 hf hT hRl hW4 HW3 hd ho hm1
    clear c0 c1 c2 c3 c4 c5 c6 c7 f0 o0 o1 o2 o3 o4 o5 o6 o7 o8
    obtain ⟨c0, c1, c2, c3, c4, c5, c6, c7, f0⟩ := HW4.out.cells
    obtain ⟨o0, o1, o2, o3, o4, o5, o6, o7, o8⟩ := HW4.out.opc
    obtain ⟨s2, hs2⟩ : ∃ s2, s2 = (if m = rn then if wn = 0 then 5 else 3 else st) := ⟨_, rfl⟩
    obtain ⟨c2', hc2'⟩ : ∃ c2', c2' = (if m = rn ∧ wn = 0 then sa else co) := ⟨_, rfl⟩
    have HRD := Lib.hid (fun W => cread_any (some ⟨b1, off1, none⟩) rn rc wa wn kw n st sa co (some ⟨g, 0, none⟩) m cp va vn vc W)
    rw [← hs2, ← hc2'] at HRD
    unfold runCells at HRD
    have HS2 := Lib.hid hs2
    have HC2 := Lib.hid hc2'
    clear hs2 hc2'
    go_upto_region 29 with (first
      | (go_at_call 34; (with_reducible refine (HRD.out _).mono ?_); rintro e w5 ⟨rfl, hb5⟩; have HW5 := Lib.hid (HW4.out.later hb5); have HRD5 := Lib.hid (HRD2.out.below hb5); clear hb5)
      | (refine wpList_store_row rfl 40 _ _ rfl H #[.slice (some ⟨b1, off1, none⟩) rn rc, .slice wa wn kw, .int .i64 (n : Int), .int .i64 (s2 : Int), .int .u64 (sa : Int), .int .u64 (c2' : Int), .slice (some ⟨g, 0, none⟩) m cp, .slice va vn vc] rfl rfl 40 _ HW5.out.h runSize rfl (by simp [Value.oneCell']) ?_))
    have HW6 := Lib.hid (HW5.out.row #[.slice (some ⟨b1, off1, none⟩) rn rc, .slice wa wn kw, .int .i64 (n : Int), .int .i64 (s2 : Int), .int .u64 (sa : Int), .int .u64 (c2' : Int), .slice (some ⟨g, 0, none⟩) m cp, .slice va vn vc])
    have HB6 := Lib.hid (show IsRds (w5.setRow H #[.slice (some ⟨b1, off1, none⟩) rn rc, .slice wa wn kw, .int .i64 (n : Int), .int .i64 (s2 : Int), .int .u64 (sa : Int), .int .u64 (c2' : Int), .slice (some ⟨g, 0, none⟩) m cp, .slice va vn vc]) (some ⟨g, 0, none⟩) m cp (L ++ [d]) from HRD5.out.setR (HGH.out))
    obtain ⟨W6, hW6⟩ : ∃ W6, W6 = w5.setRow H #[.slice (some ⟨b1, off1, none⟩) rn rc, .slice wa wn kw, .int .i64 (n : Int), .int .i64 (s2 : Int), .int .u64 (sa : Int), .int .u64 (c2' : Int), .slice (some ⟨g, 0, none⟩) m cp, .slice va vn vc] := ⟨_, rfl⟩
    rw [← hW6] at HW6 HB6
    rw [← hW6]
    clear c0 c1 c2 c3 c4 c5 c6 c7 f0 o0 o1 o2 o3 o4 o5 o6 o7 o8
    obtain ⟨c0, c1, c2, c3, c4, c5, c6, c7, f0⟩ := HW6.out.cells
    obtain ⟨o0, o1, o2, o3, o4, o5, o6, o7, o8⟩ := HW6.out.opc
    clear hW6 HRD HW4 HW5 HRD5 HRD2
    go_wp2_with (refine wpList_store_row rfl 40 _ _ rfl Z #[.slice (some ⟨b1, off1, none⟩) rn rc, .slice wa wn kw, .int .i64 (n : Int), .int .i64 (s2 : Int), .int .u64 (sa : Int), .int .u64 (c2' : Int), .slice (some ⟨g, 0, none⟩) m cp, .slice va vn vc] rfl rfl 40 _ HW6.out.r runSize rfl (by simp [Value.oneCell']) ?_)
    refine crun_ret (fn := Try.f11) (p := 4) rfl (HW6.out.res _) (by rfl) (by rfl) (by rfl) ?_
    have hb6 := (HW6.out.res #[.slice (some ⟨b1, off1, none⟩) rn rc, .slice wa wn kw, .int .i64 (n : Int), .int .i64 (s2 : Int), .int .u64 (sa : Int), .int .u64 (c2' : Int), .slice (some ⟨g, 0, none⟩) m cp, .slice va vn vc]).below
    exact ⟨some ⟨g, 0, none⟩, cp, va, vc, (by rw [HYY.out, HS2.out, HC2.out, HM.out, HVN.out, HP.out]; rfl), ⟨HI.out.pg.below hb6, (by rw [HYY.out]; show IsRds _ _ (L ++ [_]).length _ _; rw [← HP.out, ← HM.out]; exact HB6.out.setR HZN.out), (fun e => by cases e), (by rw [HYY.out]; exact HI.out.ns.below hb6), HI.out.vnil, (fun b off e => by cases e; obtain ⟨b2, off2, e2, h2, _⟩ := HB6.out.2.2.2 0 (by rw [HM.out, List.length_append]; show 0 < L.length + 1; omega); cases e2; simpa using h2), (fun b off e => Nat.lt_of_lt_of_le (HI.out.vlt b off e) hb6.size), HRO.out, HI.out.nodes, HI.out.rn, HI.out.wn⟩, hb6, .inr ⟨g, rfl, HGW.out⟩, .inl rfl⟩
end Go.Proofs.Ytdldplhfpianhaa
