/-
  The walk of the statement MsgEncodes: true.
-/
import Derived.Test.YtkcbbcabfbkclaaSet09
namespace Go.Proofs.Ytkcbbcabfbkclaa
open Go.RowKit
set_option linter.unusedVariables false
set_option linter.unnecessarySimpa false
set_option linter.unusedSimpArgs false
set_option maxRecDepth 100000

theorem enc_snd (v : Int) (m : Mg) : (encB v m).2 = (projB v m).2 := by
  unfold encB
  split
  · rename_i h; exact h.symm
  · rfl
theorem right_sane {m : Mg} (h : rightB m = true) (hf : m.fits) : m.sane := ⟨by have := kind_of h; omega, (right_parts h).1, hf, right_few h⟩
theorem cut_fits {v : Int} {m : Mg} (hf : m.fits) : (cut v m).fits := ⟨hf.kind, hf.frm, hf.to_, hf.node, hf.life, hf.seq, hf.a, hf.b, hf.time, by show (if v < 3 then 0 else m.hint) < _; split; omega; exact hf.hint, hf.must⟩
theorem cut_few {v : Int} {m : Mg} (hf : m.few) : (cut v m).few := ⟨hf.key, by show (if v < 2 then ByteArray.empty else m.note).size ≤ _; split; exact Nat.zero_le _; exact hf.note, hf.val, hf.ws, hf.all⟩
theorem proj_sane {v : Int} {m : Mg} (hf : m.fits) (hw : m.few) : (projB v m).1.sane := by
  unfold projB
  split
  · exact mg0_sane
  · rename_i h
    split
    · exact mg0_sane
    · have hr : rightB m = true := by cases hr : rightB m; exact absurd (.inr hr) h; rfl
      have := right_sane hr hf
      exact ⟨this.kind, this.nums, cut_fits hf, cut_few hw⟩
theorem cells_ok {m : Mg} {W : World} {sl : Value} (h : WsAt W sl m.ws) : (m.cells sl).all (·.oneCell') = true := by
  obtain ⟨a, len, cap, rfl, _, _⟩ := h
  simp [Mg.cells, Value.oneCell']
theorem cells_size (m : Mg) (sl : Value) : (Try.prog.info? 29).map (·.size) = some (m.cells sl).size := msg_size
def zeroMsg : Array Value := #[.int .i64 0, .int .i64 0, .int .i64 0, .int .i64 0, .int .i64 0, .int .i64 0, .int .u64 0, .int .u64 0, .string ⟨#[]⟩, .bool false, .int .u64 0, .bool false, .string ⟨#[]⟩, .slice none 0 0, .string ⟨#[]⟩, .int .u64 0, .int .u64 0]

/-- A message that came in. -/
structure MsgIn (m : Mg) : Prop where
  fits : m.fits
  key : m.key.size ≤ 140737488355328
  note : m.note.size ≤ 140737488355328
  val : m.val.size ≤ 140737488355328
  len : m.ws.length ≤ 140737488355328
  all : ∀ i, i < m.ws.length → (m.ws.getD i wr0).key.size ≤ maxLen ∧ (m.ws.getD i wr0).val.size ≤ maxLen
def AllTrue (w : World) (e : Ending) (w' : World) : Prop := e = .returned (.bool true) ∧ Below w.heap.size w w'

theorem few_yes {m : Mg} (hm : MsgIn m) (sl : Value) (h : FewP m) (w : World) (hws : WsAt w sl m.ws) : Calls Try.prog 9 #[.agg (m.cells sl)] w fun e w' => e = .returned (.bool true) ∧ Below w.heap.size w w' :=
  refFew_yes m sl hm.key hm.note hm.val hm.len hm.all h w hws
theorem few_no {m : Mg} (hm : MsgIn m) (sl : Value) (h : ¬ FewP m) (w : World) (hws : WsAt w sl m.ws) : Calls Try.prog 9 #[.agg (m.cells sl)] w fun e w' => e = .returned (.bool false) ∧ Below w.heap.size w w' :=
  refFew_no m sl hm.key hm.note hm.val hm.len hm.all h w hws

set_option maxHeartbeats 8000000 in
theorem msgEncodes_few (hE : EncOK) (hN : NegOK) (v : Int) (m : Mg) (sl : Value) (hm : MsgIn m) (hfew : ¬ FewP m) (w : World) (hws : WsAt w sl m.ws) :
    Calls Try.prog 3 #[.int .i64 v, .agg (m.cells sl)] w (AllTrue w) := by
  have HAW := Lib.hid (msgAwake_any hE hN)
  have HF := Lib.hid (fun W h => few_no hm sl hfew W h)
  have HWS := Lib.hid hws
  obtain ⟨C, hC⟩ : ∃ C, C = m.cells sl := ⟨_, rfl⟩
  rw [← hC] at HF
  rw [← hC]
  have hcs := Lib.hid (show (Try.prog.info? 29).map (·.size) = some C.size by rw [hC]; exact cells_size m sl)
  clear hC hE hN hm hws hfew
  go_enter Try.func3, Try.ntmps3
  go_upto_region 1 with fail
  obtain ⟨W1, hW1⟩ : ∃ W1, W1 = w.alloc (.cells C 29) := ⟨_, rfl⟩
  have HB1 := Lib.hid (show Below w.heap.size w W1 by rw [hW1]; exact (Below.refl _ _).alloc (Nat.le_refl _) _)
  have HR1 := Lib.hid (show W1.heap[w.heap.size]? = some (.cells C 29 (0, 0)) by rw [hW1]; exact heap_alloc_new w _)
  have HZ1 := Lib.hid (show w.heap.size < W1.heap.size by rw [hW1]; simp)
  rw [← hW1]
  clear hW1
  go_upto_region 2 with (first
    | (go_at_call 8; refine (HAW.out _).mono ?_; rintro e w2 ⟨rfl, hb2⟩; have hr2 := (hb2.block w.heap.size HZ1.out).trans HR1.out)
    | (refine wpList_load_row_w rfl 29 _ rfl w.heap.size rfl 29 C (0, 0) _ hr2 Try.underlying29 rfl hcs.out ?_)
    | (go_at_call 9; refine (HF.out _ (HWS.out.below (HB1.out.trans (hb2.mono HB1.out.size)))).mono ?_; rintro e w3 ⟨rfl, hb3⟩))
  go_wp2_with (go_at_call 8; refine (HAW.out _).mono ?_; rintro e w4 ⟨rfl, hb4⟩)
  go_ret
  have b3 := HB1.out.trans ((hb2.trans (hb3.mono hb2.size)).mono HB1.out.size)
  exact ⟨rfl, b3.trans (hb4.mono b3.size)⟩

set_option maxHeartbeats 8000000 in
theorem msgEncodes_go (hE : EncOK) (hP : ProjOK) (hN : NegOK) (v : Int) (hv : I64 v) (m : Mg) (sl : Value) (hm : MsgIn m) (hfew : FewP m) (w : World) (hws : WsAt w sl m.ws) :
    Calls Try.prog 3 #[.int .i64 v, .agg (m.cells sl)] w (AllTrue w) := by
  have hw := hfew.few
  have HAW := Lib.hid (msgAwake_any hE hN)
  have HF := Lib.hid (fun W h => few_yes hm sl hfew W h)
  have HE := Lib.hid (fun W h => hE v m sl W hv hm.fits hw h)
  have HP := Lib.hid (fun W h => hP v m sl W hv hm.fits hw h)
  have HR := Lib.hid (fun W h => refProject_any v hv m sl hm.fits hw W h)
  have HL := Lib.hid (fun W => last_any v hv W)
  have HWS := Lib.hid hws
  have HSA := Lib.hid (proj_sane (v := v) hm.fits hw)
  obtain ⟨C, hC⟩ : ∃ C, C = m.cells sl := ⟨_, rfl⟩
  rw [← hC] at HF HE HP HR
  rw [← hC]
  have HC := Lib.hid hC
  have hcs := Lib.hid (show (Try.prog.info? 29).map (·.size) = some C.size by rw [hC]; exact cells_size m sl)
  rw [enc_snd] at HE
  obtain ⟨M, hM⟩ : ∃ M, M = (projB v m).1 := ⟨_, rfl⟩
  obtain ⟨E, hEE⟩ : ∃ E, E = (projB v m).2 := ⟨_, rfl⟩
  rw [← hM] at HP HR HSA
  rw [← hEE] at HE HP HR
  obtain ⟨X, hX⟩ : ∃ X : ByteArray, X = ⟨(encB v m).1.toArray⟩ := ⟨_, rfl⟩
  unfold EncOut at HE
  rw [← hX] at HE
  have HXE := Lib.hid (show E ≠ 0 → X = ⟨#[]⟩ from fun h => by
    rw [hX]
    unfold encB
    rw [if_neg (by rw [← hEE]; exact h)])
  have HXB := Lib.hid (show E = 0 → X = ⟨(msgB m (lastOf v)).toArray⟩ from fun h => by
    rw [hX]
    unfold encB
    rw [if_pos (by rw [← hEE]; exact h)])
  have HBY := Lib.hid (fun (h : E = 0) (W : World) (hW : WsAt W sl m.ws) => by
    have he := enc_is (v := v) (m := m) (by rw [enc_snd, ← hEE]; exact h)
    have := refBytes_any m sl (right_sane he.2.1 hm.fits) (lastOf v) (lastOf_le v) W hW
    rw [← hC] at this
    exact this)
  clear hC hE hP hN hm hws hfew hw hM hEE hX
  go_enter Try.func3, Try.ntmps3
  go_upto_region 1 with fail
  obtain ⟨W1, hW1⟩ : ∃ W1, W1 = w.alloc (.cells C 29) := ⟨_, rfl⟩
  have HB1 := Lib.hid (show Below w.heap.size w W1 by rw [hW1]; exact (Below.refl _ _).alloc (Nat.le_refl _) _)
  have HR1 := Lib.hid (show W1.heap[w.heap.size]? = some (.cells C 29 (0, 0)) by rw [hW1]; exact heap_alloc_new w _)
  have HZ1 := Lib.hid (show w.heap.size < W1.heap.size by rw [hW1]; simp)
  rw [← hW1]
  clear hW1
  go_upto_region 3 with (first
    | (go_at_call 8; refine (HAW.out _).mono ?_; rintro e w2 ⟨rfl, hb2⟩; have hr2 := (hb2.block w.heap.size HZ1.out).trans HR1.out)
    | (refine wpList_load_row_w rfl 29 _ rfl w.heap.size rfl 29 C (0, 0) _ hr2 Try.underlying29 rfl hcs.out ?_)
    | (go_at_call 9; refine (HF.out _ (HWS.out.below (HB1.out.trans (hb2.mono HB1.out.size)))).mono ?_; rintro e w3 ⟨rfl, hb3⟩))
  have hb13 := hb2.trans (hb3.mono hb2.size)
  have B3 := Lib.hid (HB1.out.trans (hb13.mono HB1.out.size))
  have hr3 := (hb13.block w.heap.size HZ1.out).trans HR1.out
  have hz3 := Nat.lt_of_lt_of_le HZ1.out hb13.size
  have HZ3 := Lib.hid hz3
  clear hb2 hb3 hb13 hr2 HB1 HR1 HZ1 hz3
  go_upto_region 4 with (first
    | (refine wpList_load_row_w rfl 29 _ rfl w.heap.size rfl 29 C (0, 0) _ hr3 Try.underlying29 rfl hcs.out ?_)
    | (go_at_call 10; refine (HE.out _ (HWS.out.below B3.out)).mono ?_; rintro e w4 ⟨rfl, hb4⟩))
  have B4 := Lib.hid (B3.out.trans (hb4.mono B3.out.size))
  have hr4 := (hb4.block w.heap.size HZ3.out).trans hr3
  have HZ4 := Lib.hid (Nat.lt_of_lt_of_le HZ3.out hb4.size)
  clear hb4 hr3 B3 HZ3
  go_upto_region 5 with (first
    | (refine wpList_load_row_w rfl 29 _ rfl w.heap.size rfl 29 C (0, 0) _ hr4 Try.underlying29 rfl hcs.out ?_)
    | (go_at_call 11; refine (HP.out _ (HWS.out.below B4.out)).mono ?_; rintro e w5 ⟨sl1, rfl, hws1, hb5⟩; have hnew := heap_alloc_new w5 (.cells zeroMsg 29); have hcs1 := cells_size M sl1; have hok1 := cells_ok hws1)
    | (refine wpList_store_row rfl 29 _ _ rfl w5.heap.size (M.cells sl1) rfl rfl 29 zeroMsg hnew hcs1 rfl hok1 ?_; rw [World.setRow_alloc_new]; dsimp only [Act.put]))
  obtain ⟨W6, hW6⟩ : ∃ W6, W6 = w5.alloc (.cells (M.cells sl1) 29) := ⟨_, rfl⟩
  have hb56 : Below w5.heap.size w5 W6 := by rw [hW6]; exact (Below.refl _ _).alloc (Nat.le_refl _) _
  have B6 := Lib.hid (B4.out.trans ((hb5.trans (hb56.mono hb5.size)).mono B4.out.size))
  have hr6 := ((hb5.trans (hb56.mono hb5.size)).block w.heap.size HZ4.out).trans hr4
  have HZ6 := Lib.hid (Nat.lt_of_lt_of_le HZ4.out (hb5.trans (hb56.mono hb5.size)).size)
  have HP6 := Lib.hid (show W6.heap[w5.heap.size]? = some (.cells (M.cells sl1) 29 (0, 0)) by rw [hW6]; exact heap_alloc_new w5 _)
  have HG6 := Lib.hid (show w5.heap.size < W6.heap.size by rw [hW6]; simp)
  have HWS1 := Lib.hid (hws1.below hb56)
  rw [← hW6]
  obtain ⟨g1, hg1⟩ : ∃ g1, g1 = w5.heap.size := ⟨_, rfl⟩
  rw [← hg1] at HP6 HG6
  rw [← hg1]
  have HC1 := Lib.hid hcs1
  clear hW6 hb5 hb56 hg1 hnew hcs1 hok1 hws1 hr4 HZ4 B4
  go_upto_region 6 with (first
    | (refine wpList_load_row_w rfl 29 _ rfl w.heap.size rfl 29 C (0, 0) _ hr6 Try.underlying29 rfl hcs.out ?_)
    | (go_at_call 12; refine (HR.out _ (HWS.out.below B6.out)).mono ?_; rintro e w7 ⟨sl2, rfl, hws2, hb7⟩; have hnew := heap_alloc_new w7 (.cells zeroMsg 29); have hcs2 := cells_size M sl2; have hok2 := cells_ok hws2)
    | (refine wpList_store_row rfl 29 _ _ rfl w7.heap.size (M.cells sl2) rfl rfl 29 zeroMsg hnew hcs2 rfl hok2 ?_; rw [World.setRow_alloc_new]; dsimp only [Act.put]))
  obtain ⟨W8, hW8⟩ : ∃ W8, W8 = w7.alloc (.cells (M.cells sl2) 29) := ⟨_, rfl⟩
  have hb78 : Below w7.heap.size w7 W8 := by rw [hW8]; exact (Below.refl _ _).alloc (Nat.le_refl _) _
  have hb68 := hb7.trans (hb78.mono hb7.size)
  have B8 := Lib.hid (B6.out.trans (hb68.mono B6.out.size))
  have HR8 := Lib.hid ((hb68.block w.heap.size HZ6.out).trans hr6)
  have HZ8 := Lib.hid (Nat.lt_of_lt_of_le HZ6.out hb68.size)
  have HP8 := Lib.hid ((hb68.block g1 HG6.out).trans HP6.out)
  have HG8 := Lib.hid (Nat.lt_of_lt_of_le HG6.out hb68.size)
  have HW18 := Lib.hid (HWS1.out.below hb68)
  have HQ8 := Lib.hid (show W8.heap[w7.heap.size]? = some (.cells (M.cells sl2) 29 (0, 0)) by rw [hW8]; exact heap_alloc_new w7 _)
  have HG28 := Lib.hid (show w7.heap.size < W8.heap.size by rw [hW8]; simp)
  have HW28 := Lib.hid (hws2.below hb78)
  rw [← hW8]
  obtain ⟨g2, hg2⟩ : ∃ g2, g2 = w7.heap.size := ⟨_, rfl⟩
  rw [← hg2] at HQ8 HG28
  rw [← hg2]
  have HC2 := Lib.hid hcs2
  clear hW8 hb7 hb78 hb68 hg2 hnew hcs2 hok2 hws2 hr6 HZ6 B6 HP6 HG6 HWS1
  have HSM := Lib.hid (fun (W : World) (h1 : WsAt W sl1 M.ws) (h2 : WsAt W sl2 M.ws) => refSame_yes M M sl1 sl2 HSA.out HSA.out rfl W h1 h2)
  obtain ⟨C1, hC1⟩ : ∃ C1, C1 = M.cells sl1 := ⟨_, rfl⟩
  obtain ⟨C2, hC2⟩ : ∃ C2, C2 = M.cells sl2 := ⟨_, rfl⟩
  rw [← hC1] at HP8 HC1 HSM
  rw [← hC2] at HQ8 HC2 HSM
  rw [← hC1, ← hC2]
  clear hC1 hC2
  by_cases hE0 : E = 0
  · have HBY2 := Lib.hid (fun (W : World) (hW : WsAt W sl m.ws) => HBY.out hE0 W hW)
    rw [← HXB.out hE0] at HBY2
    subst hE0
    clear HXE HXB HBY
    obtain ⟨lv, hlv⟩ : ∃ lv, lv = lastOf v := ⟨_, rfl⟩
    rw [← hlv] at HL HBY2
    clear hlv
    go_upto_region 8 with fail
    refine region_likes (by kernel_rfl) (by kernel_rfl) ?_
    repeat (first
      | (go_big_quiet_want; refine quiet_row 29 _ rfl w.heap.size rfl 29 C (0, 0) _ (likes_row HR8.out) Try.underlying29 rfl hcs.out ?_; go_simp; go_big_quiet_on)
      | (go_big_quiet_step (first
          | (go_at_call 14; exact calls_likes_same ((HL.out _).mono fun _ _ hh => ⟨hh.1, hh.2.symm⟩))
          | (go_at_call 13; exact calls_likes (Like.size _) (HBY2.out _ (HWS.out.below (B8.out.trans ((Like.below _).mono B8.out.size))))))))
    refine wpQuiet_nil ?_
    intro x
    have hx := x.below
    obtain ⟨w9, hw9⟩ : ∃ w9, w9 = x.val := ⟨_, rfl⟩
    rw [← hw9] at hx
    rw [← hw9]
    clear hw9 x
    have hp9 := (hx.block g1 HG8.out).trans HP8.out
    have hq9 := (hx.block g2 HG28.out).trans HQ8.out
    have HX9 := Lib.hid hx
    clear hx
    go_wp2_with (first
      | (refine wpList_load_row_w rfl 29 _ rfl g1 rfl 29 C1 (0, 0) _ hp9 Try.underlying29 rfl HC1.out ?_)
      | (refine wpList_load_row_w rfl 29 _ rfl g2 rfl 29 C2 (0, 0) _ hq9 Try.underlying29 rfl HC2.out ?_)
      | (go_at_call 15; refine (HSM.out _ (HW18.out.below HX9.out) (HW28.out.below HX9.out)).mono ?_; rintro e w10 ⟨rfl, hb10⟩))
    go_ret
    have b9 := B8.out.trans (HX9.out.mono B8.out.size)
    exact ⟨rfl, b9.trans (hb10.mono b9.size)⟩
  · have hne : (E == 0) = false := by rw [beq_eq_false_iff_ne]; exact hE0
    have hXe := HXE.out hE0
    subst hXe
    clear hE0 HXE HXB HBY
    have hp9 := HP8.out
    have hq9 := HQ8.out
    go_wp2_with (first
      | (refine wpList_load_row_w rfl 29 _ rfl g1 rfl 29 C1 (0, 0) _ hp9 Try.underlying29 rfl HC1.out ?_)
      | (refine wpList_load_row_w rfl 29 _ rfl g2 rfl 29 C2 (0, 0) _ hq9 Try.underlying29 rfl HC2.out ?_)
      | (go_at_call 15; refine (HSM.out _ HW18.out HW28.out).mono ?_; rintro e w10 ⟨rfl, hb10⟩))
    go_ret
    exact ⟨rfl, B8.out.trans (hb10.mono B8.out.size)⟩
theorem msgEncodes_of (hE : EncOK) (hP : ProjOK) (hN : NegOK) (v : Int) (hv : I64 v) (m : Mg) (sl : Value) (hm : MsgIn m) (w : World) (hws : WsAt w sl m.ws) :
    Calls Try.prog 3 #[.int .i64 v, .agg (m.cells sl)] w (AllTrue w) := by
  by_cases h : FewP m
  · exact msgEncodes_go hE hP hN v hv m sl hm h w hws
  · exact msgEncodes_few hE hN v m sl hm h w hws
end Go.Proofs.Ytkcbbcabfbkclaa
