/-
  The document's Do: Commit, Abort, Start.
-/
import Derived.Test.YtdldplhfpianhaaSet09
namespace Go.Proofs.Ytdldplhfpianhaa
open Go.RowKit
set_option linter.unusedVariables false
set_option linter.unnecessarySimpa false
set_option linter.unusedSimpArgs false
set_option maxRecDepth 100000

set_option maxHeartbeats 8000000 in
theorem cdo_commit_yes (p : Pg) (n : Nat) (x : Rn) (da : Option Addr) (dc : Nat) (va : Option Addr) (vc : Nat) (o : Cq) (w : World) (hi : DoIn w p n x da dc va vc) (ho : o.ok) (hk : o.kind % 5 = 3) (hc : x.stage = 4 ∧ x.start < o.time) :
    Calls Try.prog 11 #[.agg (runQ p n x da dc va vc), .agg o.cells] w (CdoRes w p n da va (tellR ⟨p.R, p.W, n⟩ x o)) := by
  have HY : tellR ⟨p.R, p.W, n⟩ x o = ⟨5, x.start, o.time, x.read, x.voted⟩ := by
    unfold tellR
    rw [if_neg (by omega), if_neg (by omega), if_neg (by omega), if_pos (by omega)]
    unfold commitR
    rw [if_pos hc]
  have HRO := Lib.hid (hi.ok.tellR o ho)
  obtain ⟨y, hy⟩ : ∃ y, y = tellR ⟨p.R, p.W, n⟩ x o := ⟨_, rfl⟩
  rw [← hy] at HRO ⊢
  have HYY := Lib.hid (hy.trans HY)
  clear hy HY
  have HI := Lib.hid hi
  have HO := Lib.hid ho
  have HW00 := Lib.hid (CrR.start3 w (runQ p n x da dc va vc) o.cells)
  obtain ⟨ra, rn, rc, R, wa, wn, kw, Ws⟩ := p
  obtain ⟨st, sa, co, L, V⟩ := x
  obtain ⟨kind, time, ⟨xk, xf, ⟨vt, vg, vv⟩⟩, node, good⟩ := o
  unfold runQ zeroRun runCells Cq.cells at HW00
  unfold runQ runCells Cq.cells
  simp only at HW00 hk HRO HYY ⊢
  obtain ⟨hs4, hc⟩ := hc
  simp only at hs4 hc
  have e0 : ((st : Int) == 4) = true := by rw [beq_iff_eq]; omega
  have e1 : (sa : Int) < (time : Int) := by omega
  have e2 : decide (sa < time) = true := decide_eq_true hc
  clear hs4 hc
  have hz : (kind : Int) % 5 = 3 := by omega
  obtain ⟨dn, hdn⟩ : ∃ dn, dn = L.length := ⟨_, rfl⟩
  obtain ⟨vn, hvn⟩ : ∃ vn, vn = V.length := ⟨_, rfl⟩
  rw [← hdn, ← hvn] at HW00 ⊢
  have HDN := Lib.hid hdn
  have HVN := Lib.hid hvn
  clear hdn hvn hi ho hk
  go_enter Try.func11, Try.ntmps11
  go_upto_region 1 with fail
  obtain ⟨W0, hW0⟩ : ∃ W0, W0 = ((w.alloc (.cells #[.slice ra rn rc, .slice wa wn kw, .int .i64 (n : Int), .int .i64 (st : Int), .int .u64 (sa : Int), .int .u64 (co : Int), .slice da dn dc, .slice va vn vc] 40)).alloc (.cells #[.int .u8 (kind : Int), .int .u64 (time : Int), .string xk, .bool xf, .int .u64 (vt : Int), .bool vg, .string vv, .int .i64 node, .bool good] 47)).alloc (.cells #[.slice none 0 0, .slice none 0 0, .int .i64 0, .int .i64 0, .int .u64 0, .int .u64 0, .slice none 0 0, .slice none 0 0] 40) := ⟨_, rfl⟩
  obtain ⟨Z, hZ⟩ : ∃ Z, Z = w.heap.size + 1 + 1 := ⟨_, rfl⟩
  obtain ⟨H1, hH1⟩ : ∃ H1, H1 = w.heap.size + 1 := ⟨_, rfl⟩
  obtain ⟨H, hH⟩ : ∃ H, H = w.heap.size := ⟨_, rfl⟩
  have HW0 : Hid (CrR w (OpX H1 #[.int .u8 (kind : Int), .int .u64 (time : Int), .string xk, .bool xf, .int .u64 (vt : Int), .bool vg, .string vv, .int .i64 node, .bool good]) H Z #[.slice ra rn rc, .slice wa wn kw, .int .i64 (n : Int), .int .i64 (st : Int), .int .u64 (sa : Int), .int .u64 (co : Int), .slice da dn dc, .slice va vn vc] #[.slice none 0 0, .slice none 0 0, .int .i64 0, .int .i64 0, .int .u64 0, .int .u64 0, .slice none 0 0, .slice none 0 0] W0) := by
    rw [hH, hH1, hZ, hW0]; exact HW00
  rw [← hW0, ← hZ, ← hH1, ← hH]
  clear hW0 hZ hH1 hH HW00
  obtain ⟨c0, c1, c2, c3, c4, c5, c6, c7, f0⟩ := HW0.out.cells
  obtain ⟨o0, o1, o2, o3, o4, o5, o6, o7, o8⟩ := HW0.out.opc
  obtain ⟨ne1, ne2⟩ := HW0.out.nes
  go_upto_region 25 with fail
  have HW1 := Lib.hid (HW0.out.put 5 (.int .u64 (time : Int)))
  obtain ⟨W1, hW1⟩ : ∃ W1, W1 = W0.setCell ⟨H, 5, none⟩ (.int .u64 (time : Int)) := ⟨_, rfl⟩
  rw [← hW1] at HW1
  rw [← hW1]
  clear c0 c1 c2 c3 c4 c5 c6 c7 f0 o0 o1 o2 o3 o4 o5 o6 o7 o8 hW1 HW0
  obtain ⟨c0, c1, c2, c3, c4, c5, c6, c7, f0⟩ := HW1.out.cells
  obtain ⟨o0, o1, o2, o3, o4, o5, o6, o7, o8⟩ := HW1.out.opc
  go_upto_region 29 with fail
  have HW2 := Lib.hid (HW1.out.put 3 (.int .i64 5))
  obtain ⟨W2, hW2⟩ : ∃ W2, W2 = W1.setCell ⟨H, 3, none⟩ (.int .i64 5) := ⟨_, rfl⟩
  rw [← hW2] at HW2
  rw [← hW2]
  clear c0 c1 c2 c3 c4 c5 c6 c7 f0 o0 o1 o2 o3 o4 o5 o6 o7 o8 hW2 HW1
  obtain ⟨c0, c1, c2, c3, c4, c5, c6, c7, f0⟩ := HW2.out.cells
  obtain ⟨o0, o1, o2, o3, o4, o5, o6, o7, o8⟩ := HW2.out.opc
  go_wp2_with (refine wpList_store_row rfl 40 _ _ rfl Z #[.slice ra rn rc, .slice wa wn kw, .int .i64 (n : Int), .int .i64 5, .int .u64 (sa : Int), .int .u64 (time : Int), .slice da dn dc, .slice va vn vc] rfl rfl 40 _ HW2.out.r runSize rfl (by simp [Value.oneCell']) ?_)
  refine crun_ret (fn := Try.f11) (p := 4) rfl (HW2.out.res _) (by rfl) (by rfl) (by rfl) ?_
  exact ⟨da, dc, va, vc, (by rw [HYY.out, HDN.out, HVN.out]; rfl), (HI.out.below (HW2.out.res _).below).chg HRO.out (by rw [HYY.out]) (by rw [HYY.out]), (HW2.out.res _).below, .inl rfl, .inl rfl⟩
set_option maxHeartbeats 8000000 in
theorem cdo_commit_no (p : Pg) (n : Nat) (x : Rn) (da : Option Addr) (dc : Nat) (va : Option Addr) (vc : Nat) (o : Cq) (w : World) (hi : DoIn w p n x da dc va vc) (ho : o.ok) (hk : o.kind % 5 = 3) (hc : ¬ (x.stage = 4 ∧ x.start < o.time)) :
    Calls Try.prog 11 #[.agg (runQ p n x da dc va vc), .agg o.cells] w (CdoRes w p n da va (tellR ⟨p.R, p.W, n⟩ x o)) := by
  have HY : tellR ⟨p.R, p.W, n⟩ x o = x := by
    unfold tellR
    rw [if_neg (by omega), if_neg (by omega), if_neg (by omega), if_pos (by omega)]
    unfold commitR
    rw [if_neg hc]
  have HRO := Lib.hid (hi.ok.tellR o ho)
  obtain ⟨y, hy⟩ : ∃ y, y = tellR ⟨p.R, p.W, n⟩ x o := ⟨_, rfl⟩
  rw [← hy] at HRO ⊢
  have HYY := Lib.hid (hy.trans HY)
  clear hy HY
  have HI := Lib.hid hi
  have HO := Lib.hid ho
  have HW00 := Lib.hid (CrR.start3 w (runQ p n x da dc va vc) o.cells)
  obtain ⟨ra, rn, rc, R, wa, wn, kw, Ws⟩ := p
  obtain ⟨st, sa, co, L, V⟩ := x
  obtain ⟨kind, time, ⟨xk, xf, ⟨vt, vg, vv⟩⟩, node, good⟩ := o
  unfold runQ zeroRun runCells Cq.cells at HW00
  unfold runQ runCells Cq.cells
  simp only at HW00 hk HRO HYY ⊢
  simp only at hc
  have hcc : ((st : Int) == 4) = false ∨ (((st : Int) == 4) = true ∧ ¬ (sa : Int) < (time : Int) ∧ decide (sa < time) = false) := by
    by_cases h : st = 4
    · exact .inr ⟨by rw [beq_iff_eq]; omega, by omega, decide_eq_false (by omega)⟩
    · exact .inl (by rw [beq_eq_false_iff_ne]; omega)
  clear hc
  have hz : (kind : Int) % 5 = 3 := by omega
  obtain ⟨dn, hdn⟩ : ∃ dn, dn = L.length := ⟨_, rfl⟩
  obtain ⟨vn, hvn⟩ : ∃ vn, vn = V.length := ⟨_, rfl⟩
  rw [← hdn, ← hvn] at HW00 ⊢
  have HDN := Lib.hid hdn
  have HVN := Lib.hid hvn
  clear hdn hvn hi ho hk
  go_enter Try.func11, Try.ntmps11
  go_upto_region 1 with fail
  obtain ⟨W0, hW0⟩ : ∃ W0, W0 = ((w.alloc (.cells #[.slice ra rn rc, .slice wa wn kw, .int .i64 (n : Int), .int .i64 (st : Int), .int .u64 (sa : Int), .int .u64 (co : Int), .slice da dn dc, .slice va vn vc] 40)).alloc (.cells #[.int .u8 (kind : Int), .int .u64 (time : Int), .string xk, .bool xf, .int .u64 (vt : Int), .bool vg, .string vv, .int .i64 node, .bool good] 47)).alloc (.cells #[.slice none 0 0, .slice none 0 0, .int .i64 0, .int .i64 0, .int .u64 0, .int .u64 0, .slice none 0 0, .slice none 0 0] 40) := ⟨_, rfl⟩
  obtain ⟨Z, hZ⟩ : ∃ Z, Z = w.heap.size + 1 + 1 := ⟨_, rfl⟩
  obtain ⟨H1, hH1⟩ : ∃ H1, H1 = w.heap.size + 1 := ⟨_, rfl⟩
  obtain ⟨H, hH⟩ : ∃ H, H = w.heap.size := ⟨_, rfl⟩
  have HW0 : Hid (CrR w (OpX H1 #[.int .u8 (kind : Int), .int .u64 (time : Int), .string xk, .bool xf, .int .u64 (vt : Int), .bool vg, .string vv, .int .i64 node, .bool good]) H Z #[.slice ra rn rc, .slice wa wn kw, .int .i64 (n : Int), .int .i64 (st : Int), .int .u64 (sa : Int), .int .u64 (co : Int), .slice da dn dc, .slice va vn vc] #[.slice none 0 0, .slice none 0 0, .int .i64 0, .int .i64 0, .int .u64 0, .int .u64 0, .slice none 0 0, .slice none 0 0] W0) := by
    rw [hH, hH1, hZ, hW0]; exact HW00
  rw [← hW0, ← hZ, ← hH1, ← hH]
  clear hW0 hZ hH1 hH HW00
  obtain ⟨c0, c1, c2, c3, c4, c5, c6, c7, f0⟩ := HW0.out.cells
  obtain ⟨o0, o1, o2, o3, o4, o5, o6, o7, o8⟩ := HW0.out.opc
  obtain ⟨ne1, ne2⟩ := HW0.out.nes
  rcases hcc with e0 | ⟨e0, e1, e2⟩
  all_goals
    go_wp2_with (refine wpList_store_row rfl 40 _ _ rfl Z #[.slice ra rn rc, .slice wa wn kw, .int .i64 (n : Int), .int .i64 (st : Int), .int .u64 (sa : Int), .int .u64 (co : Int), .slice da dn dc, .slice va vn vc] rfl rfl 40 _ HW0.out.r runSize rfl (by simp [Value.oneCell']) ?_)
    refine crun_ret (fn := Try.f11) (p := 4) rfl (HW0.out.res _) (by rfl) (by rfl) (by rfl) ?_
    exact ⟨da, dc, va, vc, (by rw [HYY.out, HDN.out, HVN.out]; rfl), (HI.out.below (HW0.out.res _).below).chg HRO.out (by rw [HYY.out]) (by rw [HYY.out]), (HW0.out.res _).below, .inl rfl, .inl rfl⟩
set_option maxHeartbeats 8000000 in
theorem cdo_abort_yes (p : Pg) (n : Nat) (x : Rn) (da : Option Addr) (dc : Nat) (va : Option Addr) (vc : Nat) (o : Cq) (w : World) (hi : DoIn w p n x da dc va vc) (ho : o.ok) (hk : o.kind % 5 = 4) (hc : x.stage < 5) :
    Calls Try.prog 11 #[.agg (runQ p n x da dc va vc), .agg o.cells] w (CdoRes w p n da va (tellR ⟨p.R, p.W, n⟩ x o)) := by
  have HY : tellR ⟨p.R, p.W, n⟩ x o = ⟨6, x.start, x.commit, x.read, x.voted⟩ := by
    unfold tellR
    rw [if_neg (by omega), if_neg (by omega), if_neg (by omega), if_neg (by omega)]
    unfold abortR
    rw [if_pos hc]
  have HRO := Lib.hid (hi.ok.tellR o ho)
  obtain ⟨y, hy⟩ : ∃ y, y = tellR ⟨p.R, p.W, n⟩ x o := ⟨_, rfl⟩
  rw [← hy] at HRO ⊢
  have HYY := Lib.hid (hy.trans HY)
  clear hy HY
  have HI := Lib.hid hi
  have HO := Lib.hid ho
  have HW00 := Lib.hid (CrR.start3 w (runQ p n x da dc va vc) o.cells)
  obtain ⟨ra, rn, rc, R, wa, wn, kw, Ws⟩ := p
  obtain ⟨st, sa, co, L, V⟩ := x
  obtain ⟨kind, time, ⟨xk, xf, ⟨vt, vg, vv⟩⟩, node, good⟩ := o
  unfold runQ zeroRun runCells Cq.cells at HW00
  unfold runQ runCells Cq.cells
  simp only at HW00 hk HRO HYY ⊢
  simp only at hc
  have e1 : (st : Int) < 5 := by omega
  have e2 : decide (st < 5) = true := decide_eq_true hc
  have e3 : decide ((st : Int) < 5) = true := decide_eq_true e1
  clear hc
  have hz : (kind : Int) % 5 = 4 := by omega
  obtain ⟨dn, hdn⟩ : ∃ dn, dn = L.length := ⟨_, rfl⟩
  obtain ⟨vn, hvn⟩ : ∃ vn, vn = V.length := ⟨_, rfl⟩
  rw [← hdn, ← hvn] at HW00 ⊢
  have HDN := Lib.hid hdn
  have HVN := Lib.hid hvn
  clear hdn hvn hi ho hk
  go_enter Try.func11, Try.ntmps11
  go_upto_region 1 with fail
  obtain ⟨W0, hW0⟩ : ∃ W0, W0 = ((w.alloc (.cells #[.slice ra rn rc, .slice wa wn kw, .int .i64 (n : Int), .int .i64 (st : Int), .int .u64 (sa : Int), .int .u64 (co : Int), .slice da dn dc, .slice va vn vc] 40)).alloc (.cells #[.int .u8 (kind : Int), .int .u64 (time : Int), .string xk, .bool xf, .int .u64 (vt : Int), .bool vg, .string vv, .int .i64 node, .bool good] 47)).alloc (.cells #[.slice none 0 0, .slice none 0 0, .int .i64 0, .int .i64 0, .int .u64 0, .int .u64 0, .slice none 0 0, .slice none 0 0] 40) := ⟨_, rfl⟩
  obtain ⟨Z, hZ⟩ : ∃ Z, Z = w.heap.size + 1 + 1 := ⟨_, rfl⟩
  obtain ⟨H1, hH1⟩ : ∃ H1, H1 = w.heap.size + 1 := ⟨_, rfl⟩
  obtain ⟨H, hH⟩ : ∃ H, H = w.heap.size := ⟨_, rfl⟩
  have HW0 : Hid (CrR w (OpX H1 #[.int .u8 (kind : Int), .int .u64 (time : Int), .string xk, .bool xf, .int .u64 (vt : Int), .bool vg, .string vv, .int .i64 node, .bool good]) H Z #[.slice ra rn rc, .slice wa wn kw, .int .i64 (n : Int), .int .i64 (st : Int), .int .u64 (sa : Int), .int .u64 (co : Int), .slice da dn dc, .slice va vn vc] #[.slice none 0 0, .slice none 0 0, .int .i64 0, .int .i64 0, .int .u64 0, .int .u64 0, .slice none 0 0, .slice none 0 0] W0) := by
    rw [hH, hH1, hZ, hW0]; exact HW00
  rw [← hW0, ← hZ, ← hH1, ← hH]
  clear hW0 hZ hH1 hH HW00
  obtain ⟨c0, c1, c2, c3, c4, c5, c6, c7, f0⟩ := HW0.out.cells
  obtain ⟨o0, o1, o2, o3, o4, o5, o6, o7, o8⟩ := HW0.out.opc
  obtain ⟨ne1, ne2⟩ := HW0.out.nes
  go_upto_region 29 with fail
  have HW1 := Lib.hid (HW0.out.put 3 (.int .i64 6))
  obtain ⟨W1, hW1⟩ : ∃ W1, W1 = W0.setCell ⟨H, 3, none⟩ (.int .i64 6) := ⟨_, rfl⟩
  rw [← hW1] at HW1
  rw [← hW1]
  clear c0 c1 c2 c3 c4 c5 c6 c7 f0 o0 o1 o2 o3 o4 o5 o6 o7 o8 hW1 HW0
  obtain ⟨c0, c1, c2, c3, c4, c5, c6, c7, f0⟩ := HW1.out.cells
  obtain ⟨o0, o1, o2, o3, o4, o5, o6, o7, o8⟩ := HW1.out.opc
  go_wp2_with (refine wpList_store_row rfl 40 _ _ rfl Z #[.slice ra rn rc, .slice wa wn kw, .int .i64 (n : Int), .int .i64 6, .int .u64 (sa : Int), .int .u64 (co : Int), .slice da dn dc, .slice va vn vc] rfl rfl 40 _ HW1.out.r runSize rfl (by simp [Value.oneCell']) ?_)
  refine crun_ret (fn := Try.f11) (p := 4) rfl (HW1.out.res _) (by rfl) (by rfl) (by rfl) ?_
  exact ⟨da, dc, va, vc, (by rw [HYY.out, HDN.out, HVN.out]; rfl), (HI.out.below (HW1.out.res _).below).chg HRO.out (by rw [HYY.out]) (by rw [HYY.out]), (HW1.out.res _).below, .inl rfl, .inl rfl⟩
set_option maxHeartbeats 8000000 in
theorem cdo_abort_no (p : Pg) (n : Nat) (x : Rn) (da : Option Addr) (dc : Nat) (va : Option Addr) (vc : Nat) (o : Cq) (w : World) (hi : DoIn w p n x da dc va vc) (ho : o.ok) (hk : o.kind % 5 = 4) (hc : ¬ x.stage < 5) :
    Calls Try.prog 11 #[.agg (runQ p n x da dc va vc), .agg o.cells] w (CdoRes w p n da va (tellR ⟨p.R, p.W, n⟩ x o)) := by
  have HY : tellR ⟨p.R, p.W, n⟩ x o = x := by
    unfold tellR
    rw [if_neg (by omega), if_neg (by omega), if_neg (by omega), if_neg (by omega)]
    unfold abortR
    rw [if_neg hc]
  have HRO := Lib.hid (hi.ok.tellR o ho)
  obtain ⟨y, hy⟩ : ∃ y, y = tellR ⟨p.R, p.W, n⟩ x o := ⟨_, rfl⟩
  rw [← hy] at HRO ⊢
  have HYY := Lib.hid (hy.trans HY)
  clear hy HY
  have HI := Lib.hid hi
  have HO := Lib.hid ho
  have HW00 := Lib.hid (CrR.start3 w (runQ p n x da dc va vc) o.cells)
  obtain ⟨ra, rn, rc, R, wa, wn, kw, Ws⟩ := p
  obtain ⟨st, sa, co, L, V⟩ := x
  obtain ⟨kind, time, ⟨xk, xf, ⟨vt, vg, vv⟩⟩, node, good⟩ := o
  unfold runQ zeroRun runCells Cq.cells at HW00
  unfold runQ runCells Cq.cells
  simp only at HW00 hk HRO HYY ⊢
  simp only at hc
  have e1 : ¬ (st : Int) < 5 := by omega
  have e2 : decide (st < 5) = false := decide_eq_false hc
  have e3 : decide ((st : Int) < 5) = false := decide_eq_false e1
  clear hc
  have hz : (kind : Int) % 5 = 4 := by omega
  obtain ⟨dn, hdn⟩ : ∃ dn, dn = L.length := ⟨_, rfl⟩
  obtain ⟨vn, hvn⟩ : ∃ vn, vn = V.length := ⟨_, rfl⟩
  rw [← hdn, ← hvn] at HW00 ⊢
  have HDN := Lib.hid hdn
  have HVN := Lib.hid hvn
  clear hdn hvn hi ho hk
  go_enter Try.func11, Try.ntmps11
  go_upto_region 1 with fail
  obtain ⟨W0, hW0⟩ : ∃ W0, W0 = ((w.alloc (.cells #[.slice ra rn rc, .slice wa wn kw, .int .i64 (n : Int), .int .i64 (st : Int), .int .u64 (sa : Int), .int .u64 (co : Int), .slice da dn dc, .slice va vn vc] 40)).alloc (.cells #[.int .u8 (kind : Int), .int .u64 (time : Int), .string xk, .bool xf, .int .u64 (vt : Int), .bool vg, .string vv, .int .i64 node, .bool good] 47)).alloc (.cells #[.slice none 0 0, .slice none 0 0, .int .i64 0, .int .i64 0, .int .u64 0, .int .u64 0, .slice none 0 0, .slice none 0 0] 40) := ⟨_, rfl⟩
  obtain ⟨Z, hZ⟩ : ∃ Z, Z = w.heap.size + 1 + 1 := ⟨_, rfl⟩
  obtain ⟨H1, hH1⟩ : ∃ H1, H1 = w.heap.size + 1 := ⟨_, rfl⟩
  obtain ⟨H, hH⟩ : ∃ H, H = w.heap.size := ⟨_, rfl⟩
  have HW0 : Hid (CrR w (OpX H1 #[.int .u8 (kind : Int), .int .u64 (time : Int), .string xk, .bool xf, .int .u64 (vt : Int), .bool vg, .string vv, .int .i64 node, .bool good]) H Z #[.slice ra rn rc, .slice wa wn kw, .int .i64 (n : Int), .int .i64 (st : Int), .int .u64 (sa : Int), .int .u64 (co : Int), .slice da dn dc, .slice va vn vc] #[.slice none 0 0, .slice none 0 0, .int .i64 0, .int .i64 0, .int .u64 0, .int .u64 0, .slice none 0 0, .slice none 0 0] W0) := by
    rw [hH, hH1, hZ, hW0]; exact HW00
  rw [← hW0, ← hZ, ← hH1, ← hH]
  clear hW0 hZ hH1 hH HW00
  obtain ⟨c0, c1, c2, c3, c4, c5, c6, c7, f0⟩ := HW0.out.cells
  obtain ⟨o0, o1, o2, o3, o4, o5, o6, o7, o8⟩ := HW0.out.opc
  obtain ⟨ne1, ne2⟩ := HW0.out.nes
  go_wp2_with (refine wpList_store_row rfl 40 _ _ rfl Z #[.slice ra rn rc, .slice wa wn kw, .int .i64 (n : Int), .int .i64 (st : Int), .int .u64 (sa : Int), .int .u64 (co : Int), .slice da dn dc, .slice va vn vc] rfl rfl 40 _ HW0.out.r runSize rfl (by simp [Value.oneCell']) ?_)
  refine crun_ret (fn := Try.f11) (p := 4) rfl (HW0.out.res _) (by rfl) (by rfl) (by rfl) ?_
  exact ⟨da, dc, va, vc, (by rw [HYY.out, HDN.out, HVN.out]; rfl), (HI.out.below (HW0.out.res _).below).chg HRO.out (by rw [HYY.out]) (by rw [HYY.out]), (HW0.out.res _).below, .inl rfl, .inl rfl⟩
set_option maxHeartbeats 8000000 in
theorem cdo_start_no (p : Pg) (n : Nat) (x : Rn) (da : Option Addr) (dc : Nat) (va : Option Addr) (vc : Nat) (o : Cq) (w : World) (hi : DoIn w p n x da dc va vc) (ho : o.ok) (hk : o.kind % 5 = 0) (hc : ¬ (x.stage = 1 ∧ 0 < o.time)) :
    Calls Try.prog 11 #[.agg (runQ p n x da dc va vc), .agg o.cells] w (CdoRes w p n da va (tellR ⟨p.R, p.W, n⟩ x o)) := by
  have HY : tellR ⟨p.R, p.W, n⟩ x o = x := by
    unfold tellR
    rw [if_pos (by omega)]
    unfold startR
    rw [if_neg hc]
  have HRO := Lib.hid (hi.ok.tellR o ho)
  obtain ⟨y, hy⟩ : ∃ y, y = tellR ⟨p.R, p.W, n⟩ x o := ⟨_, rfl⟩
  rw [← hy] at HRO ⊢
  have HYY := Lib.hid (hy.trans HY)
  clear hy HY
  have HI := Lib.hid hi
  have HO := Lib.hid ho
  have HW00 := Lib.hid (CrR.start3 w (runQ p n x da dc va vc) o.cells)
  obtain ⟨ra, rn, rc, R, wa, wn, kw, Ws⟩ := p
  obtain ⟨st, sa, co, L, V⟩ := x
  obtain ⟨kind, time, ⟨xk, xf, ⟨vt, vg, vv⟩⟩, node, good⟩ := o
  unfold runQ zeroRun runCells Cq.cells at HW00
  unfold runQ runCells Cq.cells
  simp only at HW00 hk HRO HYY ⊢
  simp only at hc
  have hcc : ((st : Int) == 1) = false ∨ (((st : Int) == 1) = true ∧ ¬ (0 : Int) < (time : Int) ∧ decide (0 < time) = false) := by
    by_cases h : st = 1
    · exact .inr ⟨by rw [beq_iff_eq]; omega, by omega, decide_eq_false (by omega)⟩
    · exact .inl (by rw [beq_eq_false_iff_ne]; omega)
  clear hc
  have hz : (kind : Int) % 5 = 0 := by omega
  obtain ⟨dn, hdn⟩ : ∃ dn, dn = L.length := ⟨_, rfl⟩
  obtain ⟨vn, hvn⟩ : ∃ vn, vn = V.length := ⟨_, rfl⟩
  rw [← hdn, ← hvn] at HW00 ⊢
  have HDN := Lib.hid hdn
  have HVN := Lib.hid hvn
  clear hdn hvn hi ho hk
  go_enter Try.func11, Try.ntmps11
  go_upto_region 1 with fail
  obtain ⟨W0, hW0⟩ : ∃ W0, W0 = ((w.alloc (.cells #[.slice ra rn rc, .slice wa wn kw, .int .i64 (n : Int), .int .i64 (st : Int), .int .u64 (sa : Int), .int .u64 (co : Int), .slice da dn dc, .slice va vn vc] 40)).alloc (.cells #[.int .u8 (kind : Int), .int .u64 (time : Int), .string xk, .bool xf, .int .u64 (vt : Int), .bool vg, .string vv, .int .i64 node, .bool good] 47)).alloc (.cells #[.slice none 0 0, .slice none 0 0, .int .i64 0, .int .i64 0, .int .u64 0, .int .u64 0, .slice none 0 0, .slice none 0 0] 40) := ⟨_, rfl⟩
  obtain ⟨Z, hZ⟩ : ∃ Z, Z = w.heap.size + 1 + 1 := ⟨_, rfl⟩
  obtain ⟨H1, hH1⟩ : ∃ H1, H1 = w.heap.size + 1 := ⟨_, rfl⟩
  obtain ⟨H, hH⟩ : ∃ H, H = w.heap.size := ⟨_, rfl⟩
  have HW0 : Hid (CrR w (OpX H1 #[.int .u8 (kind : Int), .int .u64 (time : Int), .string xk, .bool xf, .int .u64 (vt : Int), .bool vg, .string vv, .int .i64 node, .bool good]) H Z #[.slice ra rn rc, .slice wa wn kw, .int .i64 (n : Int), .int .i64 (st : Int), .int .u64 (sa : Int), .int .u64 (co : Int), .slice da dn dc, .slice va vn vc] #[.slice none 0 0, .slice none 0 0, .int .i64 0, .int .i64 0, .int .u64 0, .int .u64 0, .slice none 0 0, .slice none 0 0] W0) := by
    rw [hH, hH1, hZ, hW0]; exact HW00
  rw [← hW0, ← hZ, ← hH1, ← hH]
  clear hW0 hZ hH1 hH HW00
  obtain ⟨c0, c1, c2, c3, c4, c5, c6, c7, f0⟩ := HW0.out.cells
  obtain ⟨o0, o1, o2, o3, o4, o5, o6, o7, o8⟩ := HW0.out.opc
  obtain ⟨ne1, ne2⟩ := HW0.out.nes
  rcases hcc with e0 | ⟨e0, e1, e2⟩
  all_goals
    go_wp2_with (refine wpList_store_row rfl 40 _ _ rfl Z #[.slice ra rn rc, .slice wa wn kw, .int .i64 (n : Int), .int .i64 (st : Int), .int .u64 (sa : Int), .int .u64 (co : Int), .slice da dn dc, .slice va vn vc] rfl rfl 40 _ HW0.out.r runSize rfl (by simp [Value.oneCell']) ?_)
    refine crun_ret (fn := Try.f11) (p := 4) rfl (HW0.out.res _) (by rfl) (by rfl) (by rfl) ?_
    exact ⟨da, dc, va, vc, (by rw [HYY.out, HDN.out, HVN.out]; rfl), (HI.out.below (HW0.out.res _).below).chg HRO.out (by rw [HYY.out]) (by rw [HYY.out]), (HW0.out.res _).below, .inl rfl, .inl rfl⟩
set_option maxHeartbeats 8000000 in
theorem cdo_start_yes (p : Pg) (n : Nat) (x : Rn) (da : Option Addr) (dc : Nat) (va : Option Addr) (vc : Nat) (o : Cq) (w : World) (hi : DoIn w p n x da dc va vc) (ho : o.ok) (hk : o.kind % 5 = 0) (hc : x.stage = 1 ∧ 0 < o.time) :
    Calls Try.prog 11 #[.agg (runQ p n x da dc va vc), .agg o.cells] w (CdoRes w p n da va (tellR ⟨p.R, p.W, n⟩ x o)) := by
  have HY : tellR ⟨p.R, p.W, n⟩ x o = goOn ⟨p.R, p.W, n⟩ ⟨2, o.time, x.commit, x.read, x.voted⟩ := by
    unfold tellR
    rw [if_pos (by omega)]
    unfold startR
    rw [if_pos hc]
  have HRO := Lib.hid (hi.ok.tellR o ho)
  obtain ⟨y, hy⟩ : ∃ y, y = tellR ⟨p.R, p.W, n⟩ x o := ⟨_, rfl⟩
  rw [← hy] at HRO ⊢
  have HYY := Lib.hid (hy.trans HY)
  clear hy HY
  have HI := Lib.hid hi
  have HO := Lib.hid ho
  have HW00 := Lib.hid (CrR.start3 w (runQ p n x da dc va vc) o.cells)
  obtain ⟨ra, rn, rc, R, wa, wn, kw, Ws⟩ := p
  obtain ⟨st, sa, co, L, V⟩ := x
  obtain ⟨kind, time, ⟨xk, xf, ⟨vt, vg, vv⟩⟩, node, good⟩ := o
  unfold runQ zeroRun runCells Cq.cells at HW00
  unfold runQ runCells Cq.cells
  simp only at HW00 hk HRO HYY ⊢
  rw [goOn_is] at HYY
  have hrl : R.length = rn := HI.out.pg.1.1
  have hwl : Ws.length = wn := HI.out.pg.2.1
  simp only at hc hrl hwl HYY
  rw [hrl, hwl] at HYY
  obtain ⟨hs1, ht1⟩ := hc
  have e0 : ((st : Int) == 1) = true := by rw [beq_iff_eq]; omega
  have e1 : (0 : Int) < (time : Int) := by omega
  have e2 : decide (0 < time) = true := decide_eq_true ht1
  clear hs1 ht1 hrl hwl
  have hz : (kind : Int) % 5 = 0 := by omega
  obtain ⟨dn, hdn⟩ : ∃ dn, dn = L.length := ⟨_, rfl⟩
  obtain ⟨vn, hvn⟩ : ∃ vn, vn = V.length := ⟨_, rfl⟩
  rw [← hdn, ← hvn] at HW00 ⊢
  have HDN := Lib.hid hdn
  have HVN := Lib.hid hvn
  clear hdn hvn hi ho hk
  go_enter Try.func11, Try.ntmps11
  go_upto_region 1 with fail
  obtain ⟨W0, hW0⟩ : ∃ W0, W0 = ((w.alloc (.cells #[.slice ra rn rc, .slice wa wn kw, .int .i64 (n : Int), .int .i64 (st : Int), .int .u64 (sa : Int), .int .u64 (co : Int), .slice da dn dc, .slice va vn vc] 40)).alloc (.cells #[.int .u8 (kind : Int), .int .u64 (time : Int), .string xk, .bool xf, .int .u64 (vt : Int), .bool vg, .string vv, .int .i64 node, .bool good] 47)).alloc (.cells #[.slice none 0 0, .slice none 0 0, .int .i64 0, .int .i64 0, .int .u64 0, .int .u64 0, .slice none 0 0, .slice none 0 0] 40) := ⟨_, rfl⟩
  obtain ⟨Z, hZ⟩ : ∃ Z, Z = w.heap.size + 1 + 1 := ⟨_, rfl⟩
  obtain ⟨H1, hH1⟩ : ∃ H1, H1 = w.heap.size + 1 := ⟨_, rfl⟩
  obtain ⟨H, hH⟩ : ∃ H, H = w.heap.size := ⟨_, rfl⟩
  have HW0 : Hid (CrR w (OpX H1 #[.int .u8 (kind : Int), .int .u64 (time : Int), .string xk, .bool xf, .int .u64 (vt : Int), .bool vg, .string vv, .int .i64 node, .bool good]) H Z #[.slice ra rn rc, .slice wa wn kw, .int .i64 (n : Int), .int .i64 (st : Int), .int .u64 (sa : Int), .int .u64 (co : Int), .slice da dn dc, .slice va vn vc] #[.slice none 0 0, .slice none 0 0, .int .i64 0, .int .i64 0, .int .u64 0, .int .u64 0, .slice none 0 0, .slice none 0 0] W0) := by
    rw [hH, hH1, hZ, hW0]; exact HW00
  rw [← hW0, ← hZ, ← hH1, ← hH]
  clear hW0 hZ hH1 hH HW00
  obtain ⟨c0, c1, c2, c3, c4, c5, c6, c7, f0⟩ := HW0.out.cells
  obtain ⟨o0, o1, o2, o3, o4, o5, o6, o7, o8⟩ := HW0.out.opc
  obtain ⟨ne1, ne2⟩ := HW0.out.nes
  obtain ⟨s2, hs2⟩ : ∃ s2, s2 = (if dn = rn then if wn = 0 then 5 else 3 else 2) := ⟨_, rfl⟩
  obtain ⟨c2', hc2'⟩ : ∃ c2', c2' = (if dn = rn ∧ wn = 0 then time else co) := ⟨_, rfl⟩
  have HRD := Lib.hid (fun W => cread_any ra rn rc wa wn kw n 2 time co da dn dc va vn vc W)
  rw [← hs2, ← hc2'] at HRD
  unfold runCells at HRD
  simp only [show ((2 : Nat) : Int) = 2 from rfl] at HRD
  have HS2 := Lib.hid hs2
  have HC2 := Lib.hid hc2'
  clear hs2 hc2'
  go_upto_region 5 with fail
  have HW1 := Lib.hid (HW0.out.put 4 (.int .u64 (time : Int)))
  obtain ⟨W1, hW1⟩ : ∃ W1, W1 = W0.setCell ⟨H, 4, none⟩ (.int .u64 (time : Int)) := ⟨_, rfl⟩
  rw [← hW1] at HW1
  rw [← hW1]
  clear c0 c1 c2 c3 c4 c5 c6 c7 f0 o0 o1 o2 o3 o4 o5 o6 o7 o8 hW1 HW0
  obtain ⟨c0, c1, c2, c3, c4, c5, c6, c7, f0⟩ := HW1.out.cells
  obtain ⟨o0, o1, o2, o3, o4, o5, o6, o7, o8⟩ := HW1.out.opc
  go_upto_region 6 with fail
  have HW2 := Lib.hid (HW1.out.put 3 (.int .i64 2))
  obtain ⟨W2, hW2⟩ : ∃ W2, W2 = W1.setCell ⟨H, 3, none⟩ (.int .i64 2) := ⟨_, rfl⟩
  rw [← hW2] at HW2
  rw [← hW2]
  clear c0 c1 c2 c3 c4 c5 c6 c7 f0 o0 o1 o2 o3 o4 o5 o6 o7 o8 hW2 HW1
  obtain ⟨c0, c1, c2, c3, c4, c5, c6, c7, f0⟩ := HW2.out.cells
  obtain ⟨o0, o1, o2, o3, o4, o5, o6, o7, o8⟩ := HW2.out.opc
  go_upto_region 29 with (first
    | (go_at_call 34; (with_reducible refine (HRD.out _).mono ?_); rintro e w3 ⟨rfl, hb3⟩; have HW3 := Lib.hid (HW2.out.later hb3); clear hb3)
    | (refine wpList_store_row rfl 40 _ _ rfl H #[.slice ra rn rc, .slice wa wn kw, .int .i64 (n : Int), .int .i64 (s2 : Int), .int .u64 (time : Int), .int .u64 (c2' : Int), .slice da dn dc, .slice va vn vc] rfl rfl 40 _ HW3.out.h runSize rfl (by simp [Value.oneCell']) ?_))
  have HW4 := Lib.hid (HW3.out.row #[.slice ra rn rc, .slice wa wn kw, .int .i64 (n : Int), .int .i64 (s2 : Int), .int .u64 (time : Int), .int .u64 (c2' : Int), .slice da dn dc, .slice va vn vc])
  obtain ⟨W4, hW4⟩ : ∃ W4, W4 = w3.setRow H #[.slice ra rn rc, .slice wa wn kw, .int .i64 (n : Int), .int .i64 (s2 : Int), .int .u64 (time : Int), .int .u64 (c2' : Int), .slice da dn dc, .slice va vn vc] := ⟨_, rfl⟩
  rw [← hW4] at HW4
  rw [← hW4]
  clear c0 c1 c2 c3 c4 c5 c6 c7 f0 o0 o1 o2 o3 o4 o5 o6 o7 o8
  obtain ⟨c0, c1, c2, c3, c4, c5, c6, c7, f0⟩ := HW4.out.cells
  obtain ⟨o0, o1, o2, o3, o4, o5, o6, o7, o8⟩ := HW4.out.opc
  clear hW4 HRD HW2 HW3
  go_wp2_with (refine wpList_store_row rfl 40 _ _ rfl Z #[.slice ra rn rc, .slice wa wn kw, .int .i64 (n : Int), .int .i64 (s2 : Int), .int .u64 (time : Int), .int .u64 (c2' : Int), .slice da dn dc, .slice va vn vc] rfl rfl 40 _ HW4.out.r runSize rfl (by simp [Value.oneCell']) ?_)
  refine crun_ret (fn := Try.f11) (p := 4) rfl (HW4.out.res _) (by rfl) (by rfl) (by rfl) ?_
  exact ⟨da, dc, va, vc, (by rw [HYY.out, HS2.out, HC2.out, HDN.out, HVN.out]; rfl), (HI.out.below (HW4.out.res _).below).chg HRO.out (by rw [HYY.out]) (by rw [HYY.out]), (HW4.out.res _).below, .inl rfl, .inl rfl⟩
end Go.Proofs.Ytdldplhfpianhaa
