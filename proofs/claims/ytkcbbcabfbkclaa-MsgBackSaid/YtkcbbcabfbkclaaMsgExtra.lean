/-
  The walk of the statement MsgExtra: true.
-/
import Derived.Test.YtkcbbcabfbkclaaMsgLong
namespace Go.Proofs.Ytkcbbcabfbkclaa
open Go.RowKit
set_option linter.unusedVariables false
set_option linter.unnecessarySimpa false
set_option linter.unusedSimpArgs false
set_option maxRecDepth 100000

set_option maxHeartbeats 8000000 in
theorem msgExtra_few (hE : EncOK) (hN : NegOK) (m : Mg) (sl : Value) (hm : MsgIn m) (hfew : ¬ FewP m) (a : Option Addr) (len cap : Nat) (a2 : Int) (w : World) (hws : WsAt w sl m.ws) :
    Calls Try.prog 6 #[.agg (m.cells sl), .slice a len cap, .int .u8 a2] w (AllTrue w) := by
  have HAW := Lib.hid (msgAwake_any hE hN)
  have HF := Lib.hid (fun W h => few_no hm sl hfew W h)
  have HWS := Lib.hid hws
  obtain ⟨C, hC⟩ : ∃ C, C = m.cells sl := ⟨_, rfl⟩
  rw [← hC] at HF
  rw [← hC]
  have hcs := Lib.hid (show (Try.prog.info? 29).map (·.size) = some C.size by rw [hC]; exact cells_size m sl)
  clear hC hE hN hm hws hfew
  go_enter Try.func6, Try.ntmps6
  go_upto_region 1 with fail
  obtain ⟨W1, hW1⟩ : ∃ W1, W1 = w.alloc (.cells C 29) := ⟨_, rfl⟩
  have HB1 := Lib.hid (show Below w.heap.size w W1 by rw [hW1]; exact (Below.refl _ _).alloc (Nat.le_refl _) _)
  have HR1 := Lib.hid (show W1.heap[w.heap.size]? = some (.cells C 29 (0, 0)) by rw [hW1]; exact heap_alloc_new w _)
  have HZ1 := Lib.hid (show w.heap.size < W1.heap.size by rw [hW1]; simp)
  rw [← hW1]
  clear hW1
  go_upto_region 2 with (first
    | (go_at_call 8; refine (HAW.out _).mono ?_; rintro e w2 ⟨rfl, hb2⟩; have hr2 := (hb2.block w.heap.size HZ1.out).trans HR1.out)
    | (refine wpList_load_row_w rfl 29 _ rfl w.heap.size rfl 29 C (0, 0) _ hr2 Try.underlying29 rfl hcs.out ?_)
    | (go_at_call 9; refine (HF.out _ (HWS.out.below (HB1.out.trans (hb2.mono HB1.out.size)))).mono ?_; rintro e w3 ⟨rfl, hb3⟩))
  go_wp2_with (go_at_call 8; refine (HAW.out _).mono ?_; rintro e w4 ⟨rfl, hb4⟩)
  go_ret
  have b3 := HB1.out.trans ((hb2.trans (hb3.mono hb2.size)).mono HB1.out.size)
  exact ⟨rfl, b3.trans (hb4.mono b3.size)⟩

set_option maxHeartbeats 8000000 in
theorem msgExtra_many (hE : EncOK) (hN : NegOK) (m : Mg) (sl : Value) (hm : MsgIn m) (hfew : FewP m) (a : Option Addr) (len cap : Nat) (hlen : 20 < len) (a2 : Int) (w : World) (hws : WsAt w sl m.ws) :
    Calls Try.prog 6 #[.agg (m.cells sl), .slice a len cap, .int .u8 a2] w (AllTrue w) := by
  have HAW := Lib.hid (msgAwake_any hE hN)
  have HF := Lib.hid (fun W h => few_yes hm sl hfew W h)
  have HWS := Lib.hid hws
  have hlz : (20 : Int) < (len : Int) := by omega
  obtain ⟨C, hC⟩ : ∃ C, C = m.cells sl := ⟨_, rfl⟩
  rw [← hC] at HF
  rw [← hC]
  have hcs := Lib.hid (show (Try.prog.info? 29).map (·.size) = some C.size by rw [hC]; exact cells_size m sl)
  clear hC hE hN hm hws hfew
  go_enter Try.func6, Try.ntmps6
  go_upto_region 1 with fail
  obtain ⟨W1, hW1⟩ : ∃ W1, W1 = w.alloc (.cells C 29) := ⟨_, rfl⟩
  have HB1 := Lib.hid (show Below w.heap.size w W1 by rw [hW1]; exact (Below.refl _ _).alloc (Nat.le_refl _) _)
  have HR1 := Lib.hid (show W1.heap[w.heap.size]? = some (.cells C 29 (0, 0)) by rw [hW1]; exact heap_alloc_new w _)
  have HZ1 := Lib.hid (show w.heap.size < W1.heap.size by rw [hW1]; simp)
  rw [← hW1]
  clear hW1
  go_upto_region 2 with (first
    | (go_at_call 8; refine (HAW.out _).mono ?_; rintro e w2 ⟨rfl, hb2⟩; have hr2 := (hb2.block w.heap.size HZ1.out).trans HR1.out)
    | (refine wpList_load_row_w rfl 29 _ rfl w.heap.size rfl 29 C (0, 0) _ hr2 Try.underlying29 rfl hcs.out ?_)
    | (go_at_call 9; refine (HF.out _ (HWS.out.below (HB1.out.trans (hb2.mono HB1.out.size)))).mono ?_; rintro e w3 ⟨rfl, hb3⟩))
  go_wp2_with (go_at_call 8; refine (HAW.out _).mono ?_; rintro e w4 ⟨rfl, hb4⟩)
  go_ret
  have b3 := HB1.out.trans ((hb2.trans (hb3.mono hb2.size)).mono HB1.out.size)
  exact ⟨rfl, b3.trans (hb4.mono b3.size)⟩

set_option maxHeartbeats 8000000 in
theorem msgExtra_go (hE : EncOK) (hN : NegOK) (hD : DecOK) (m : Mg) (sl : Value) (hm : MsgIn m) (hfew : FewP m) (a : Option Addr) (len cap : Nat) (zs : List Ex) (hlen : len ≤ 20) (htx : ∀ i, i < len → (zs.getD i ex0).2.size ≤ maxLen) (n : Nat) (hn : n < 256) (w : World) (hws : WsAt w sl m.ws) (hz : ExAt w a len zs) :
    Calls Try.prog 6 #[.agg (m.cells sl), .slice a len cap, .int .u8 n] w (AllTrue w) := by
  have hw := hfew.few
  obtain ⟨v, hv⟩ : ∃ v : Int, (1 : Int) + (n : Int) % 3 = v := ⟨_, rfl⟩
  have hv3 : v = 1 ∨ v = 2 ∨ v = 3 := by omega
  have hv64 : I64 v := ⟨by omega, by omega⟩
  have HAW := Lib.hid (msgAwake_any hE hN)
  have HF := Lib.hid (fun W h => few_yes hm sl hfew W h)
  have HE := Lib.hid (fun W h => hE v m sl W hv64 hm.fits hw h)
  have HR := Lib.hid (fun W h => refProject_any v hv64 m sl hm.fits hw W h)
  have HWS := Lib.hid hws
  have HZ := Lib.hid hz
  have HTX := Lib.hid htx
  have hlz : ¬ (20 : Int) < (len : Int) := by omega
  obtain ⟨C, hC⟩ : ∃ C, C = m.cells sl := ⟨_, rfl⟩
  rw [← hC] at HF HE HR
  rw [← hC]
  have hcs := Lib.hid (show (Try.prog.info? 29).map (·.size) = some C.size by rw [hC]; exact cells_size m sl)
  obtain ⟨E, hEq⟩ : ∃ E, E = (encB v m).2 := ⟨_, rfl⟩
  obtain ⟨X, hX⟩ : ∃ X : ByteArray, X = ⟨(encB v m).1.toArray⟩ := ⟨_, rfl⟩
  unfold EncOut at HE
  rw [← hEq, ← hX] at HE
  have HENC := Lib.hid (fun (h : E = 0) => show rightB m = true ∧ (v = 3 ∨ m.must = 0) ∧ X.data.toList = msgB m (lastOf v) ∧ projB v m = (cut v m, 0) from by
    have he := enc_is (v := v) (m := m) (by rw [← hEq]; exact h)
    refine ⟨he.2.1, by omega, by rw [hX, enc_ok he.1 he.2.1 he.2.2], proj_ok he.1 he.2.1 he.2.2⟩)
  have HFT := Lib.hid (show m.fits ∧ m.few from ⟨hm.fits, hw⟩)
  have HDD := Lib.hid hD
  clear hC hE hN hD hm hws hfew hw hEq hX hz htx
  go_enter Try.func6, Try.ntmps6
  go_upto_region 1 with fail
  obtain ⟨W1, hW1⟩ : ∃ W1, W1 = w.alloc (.cells C 29) := ⟨_, rfl⟩
  have HB1 := Lib.hid (show Below w.heap.size w W1 by rw [hW1]; exact (Below.refl _ _).alloc (Nat.le_refl _) _)
  have HR1 := Lib.hid (show W1.heap[w.heap.size]? = some (.cells C 29 (0, 0)) by rw [hW1]; exact heap_alloc_new w _)
  have HZ1 := Lib.hid (show w.heap.size < W1.heap.size by rw [hW1]; simp)
  rw [← hW1]
  clear hW1
  go_upto_region 4 with (first
    | (go_at_call 8; refine (HAW.out _).mono ?_; rintro e w2 ⟨rfl, hb2⟩; have hr2 := (hb2.block w.heap.size HZ1.out).trans HR1.out)
    | (refine wpList_load_row_w rfl 29 _ rfl w.heap.size rfl 29 C (0, 0) _ hr2 Try.underlying29 rfl hcs.out ?_)
    | (go_at_call 9; refine (HF.out _ (HWS.out.below (HB1.out.trans (hb2.mono HB1.out.size)))).mono ?_; rintro e w3 ⟨rfl, hb3⟩))
  have hb13 := hb2.trans (hb3.mono hb2.size)
  have B3 := Lib.hid (HB1.out.trans (hb13.mono HB1.out.size))
  have hr3 := (hb13.block w.heap.size HZ1.out).trans HR1.out
  have HZ3 := Lib.hid (Nat.lt_of_lt_of_le HZ1.out hb13.size)
  clear hb2 hb3 hb13 hr2 HB1 HR1 HZ1
  go_upto_region 5 with (first
    | (refine wpList_load_row_w rfl 29 _ rfl w.heap.size rfl 29 C (0, 0) _ hr3 Try.underlying29 rfl hcs.out ?_)
    | (go_at_call 10; refine (HE.out _ (HWS.out.below B3.out)).mono ?_; rintro e w4 ⟨rfl, hb4⟩))
  have B4 := Lib.hid (B3.out.trans (hb4.mono B3.out.size))
  have HR4 := Lib.hid ((hb4.block w.heap.size HZ3.out).trans hr3)
  have HZ4 := Lib.hid (Nat.lt_of_lt_of_le HZ3.out hb4.size)
  clear hb4 hr3 B3 HZ3
  go_wp2_with fail
  go_loopg [10] len (fun q s10 wx => ∃ i : Nat, i + q = len ∧ s10 = .int .i64 i ∧ wx = w4 ∧ Hid (∀ j, j < i → (zs.getD j ex0).2.size ≤ 50))
  case atStart => exact ⟨0, by omega, rfl, rfl, Lib.hid (fun j hj => absurd hj (Nat.not_lt_zero _))⟩
  case round =>
    obtain ⟨i, hiq, rfl, rfl, hall⟩ := hrel
    by_cases hlt : i < len
    · obtain ⟨q, rfl⟩ : ∃ q, gk = q + 1 := ⟨gk - 1, by omega⟩
      have hiz : (i : Int) < (len : Int) := by omega
      obtain ⟨bq, off, rfl, hbl, _, _, d1'⟩ := HZ.out.2 i hlt
      have hmx := HTX.out i hlt
      have HIN := Lib.hid (fun (h : (zs.getD i ex0).2.size ≤ 50) => show ∀ j, j < i + 1 → (zs.getD j ex0).2.size ≤ 50 from fun j hj => by
        by_cases e : j = i
        · subst e; exact h
        · exact hall.out j (by omega))
      obtain ⟨z, ez⟩ : ∃ z, z = (zs.getD i ex0).2 := ⟨_, rfl⟩
      rw [← ez] at d1' hmx HIN
      have d1 := (B4.out.cell (p := ⟨bq, off + i * 2 + 1, none⟩) hbl).trans d1'
      unfold maxLen at hmx
      clear ez d1'
      by_cases g1 : z.size ≤ 50
      · have g1z : ¬ (50 : Int) < (z.size : Int) := by omega
        have HIN2 := Lib.hid (HIN.out g1)
        go_wp2_with fail
        go_roundg q
        case measure => omega
        case rel => exact ⟨i + 1, by omega, by simp, rfl, HIN2⟩
      · have g1z : (50 : Int) < (z.size : Int) := by omega
        go_wp2_with fail
        go_ret
        exact ⟨rfl, B4.out⟩
    · have hiz : ¬ (i : Int) < (len : Int) := by omega
      obtain rfl : i = len := by omega
      by_cases hE0 : E = 0
      · obtain ⟨hr, hmu, hXl, hpj⟩ := HENC.out hE0
        subst hE0
        have hXs : X.size = (msgB m (lastOf v)).length := by rw [Lib.size_eq, hXl]
        have hXm : X.size ≤ 4000 := by have := msgB_le m hv3; have := (right_parts hr).2.2.2.2.2; omega
        by_cases h3 : X.size ≤ 3000
        · have h3z : ¬ (3000 : Int) < (X.size : Int) := by omega
          have hwith := fun (W : World) (h : ExAt W a i zs) => refWith_any X (by omega) a i cap zs hlen hall.out W h
          obtain ⟨zt, hzt⟩ : ∃ zt, zt = zs.take 6 := ⟨_, rfl⟩
          have hzl : zt.length = min i 6 := by rw [hzt, List.length_take, HZ.out.1]; omega
          have hz50 : ∀ x ∈ zt, x.2.size ≤ 50 := fun x hx => by
            rw [hzt] at hx
            obtain ⟨j, hj, rfl⟩ := List.getElem_of_mem (List.mem_of_mem_take hx)
            have := hall.out j (by have := HZ.out.1; omega)
            simpa [List.getD, List.getElem?_eq_getElem hj] using this
          have hwb := wrun_bytes zt
          unfold WithOut at hwith
          rw [← hzt, hwb.1, hwb.2] at hwith
          have hel := exB_len zt 12 (by omega) hz50
          have hmore := dec_more hr HFT.out.1 HFT.out.2 hv3 hmu zt (by omega) hz50 (by rw [List.length_append]; omega)
          obtain ⟨Y, hY⟩ : ∃ Y : ByteArray, Y = X ++ ⟨(exB 12 zt).toArray⟩ := ⟨_, rfl⟩
          have hYl : Y.data.toList = msgB m (lastOf v) ++ exB 12 zt := by rw [hY, ByteArray.data_append, Array.toList_append, hXl]
          have hYs : Y.size ≤ 100000 := by rw [Lib.size_eq, hYl, List.length_append]; omega
          rw [← hY] at hwith
          have hd := fun W => HDD.out v Y W hv64 hYs
          rw [hYl, hmore] at hd
          have hzi : ((min i 6 : Nat) : Int) = (zt.length : Int) := by rw [hzl]
          rw [hzi] at hwith
          obtain ⟨nz, hnz⟩ : ∃ nz, nz = zt.length := ⟨_, rfl⟩
          obtain ⟨cr, hcr⟩ : ∃ cr, cr = exC zt := ⟨_, rfl⟩
          rw [← hnz, ← hcr] at hwith hd
          have HW := Lib.hid hwith
          have HPJ := Lib.hid hpj
          have HSA := Lib.hid (show (cut v m).sane from by have := proj_sane (v := v) HFT.out.1 HFT.out.2; rw [hpj] at this; exact this)
          have hrp := HR.out
          rw [hpj] at hrp
          have HRP := Lib.hid hrp
          clear hr hmu hXl hpj hXs hXm hwith hzt hzl hz50 hwb hel hmore hY hYl hYs hzi hnz hcr HENC HFT HDD HR hrp
          cases cr
          · simp only [Bool.false_eq_true, if_false] at hd
            have HD := Lib.hid hd
            clear hd
            go_upto_region 16 with (first
              | (go_at_call 18; refine (HW.out _ (HZ.out.below B4.out)).mono ?_; rintro e w5 ⟨rfl, hb5⟩)
              | (go_at_call 16; refine (HD.out _).mono ?_; rintro e w6 ⟨sl1, rfl, hws1, hb6⟩; have hnew := heap_alloc_new w6 (.cells zeroMsg 29); have hcs1 := cells_size (cut v m) sl1; have hok1 := cells_ok hws1)
              | (refine wpList_store_row rfl 29 _ _ rfl w6.heap.size ((cut v m).cells sl1) rfl rfl 29 zeroMsg hnew hcs1 rfl hok1 ?_; rw [World.setRow_alloc_new]; dsimp only [Act.put]))
            obtain ⟨W7, hW7⟩ : ∃ W7, W7 = w6.alloc (.cells ((cut v m).cells sl1) 29) := ⟨_, rfl⟩
            have hb67 : Below w6.heap.size w6 W7 := by rw [hW7]; exact (Below.refl _ _).alloc (Nat.le_refl _) _
            have hb57 := hb6.trans (hb67.mono hb6.size)
            have hb47 := hb5.trans (hb57.mono hb5.size)
            have B7 := Lib.hid (B4.out.trans (hb47.mono B4.out.size))
            have hr7 := (hb47.block w.heap.size HZ4.out).trans HR4.out
            have HP7 := Lib.hid (show W7.heap[w6.heap.size]? = some (.cells ((cut v m).cells sl1) 29 (0, 0)) by rw [hW7]; exact heap_alloc_new w6 _)
            have HG7 := Lib.hid (show w6.heap.size < W7.heap.size by rw [hW7]; simp)
            have HWS1 := Lib.hid (hws1.below hb67)
            rw [← hW7]
            obtain ⟨g1, hg1⟩ : ∃ g1, g1 = w6.heap.size := ⟨_, rfl⟩
            rw [← hg1] at HP7 HG7
            rw [← hg1]
            have HC1 := Lib.hid hcs1
            clear hW7 hb5 hb6 hb67 hb57 hb47 hg1 hnew hcs1 hok1 hws1 HR4 HZ4 HW HD
            go_upto_region 17 with (first
              | (refine wpList_load_row_w rfl 29 _ rfl w.heap.size rfl 29 C (0, 0) _ hr7 Try.underlying29 rfl hcs.out ?_)
              | (go_at_call 12; refine (HRP.out _ (HWS.out.below B7.out)).mono ?_; rintro e w8 ⟨sl2, rfl, hws2, hb8⟩; have hnew := heap_alloc_new w8 (.cells zeroMsg 29); have hcs2 := cells_size (cut v m) sl2; have hok2 := cells_ok hws2)
              | (refine wpList_store_row rfl 29 _ _ rfl w8.heap.size ((cut v m).cells sl2) rfl rfl 29 zeroMsg hnew hcs2 rfl hok2 ?_; rw [World.setRow_alloc_new]; dsimp only [Act.put]))
            obtain ⟨W9, hW9⟩ : ∃ W9, W9 = w8.alloc (.cells ((cut v m).cells sl2) 29) := ⟨_, rfl⟩
            have hb89 : Below w8.heap.size w8 W9 := by rw [hW9]; exact (Below.refl _ _).alloc (Nat.le_refl _) _
            have hb79 := hb8.trans (hb89.mono hb8.size)
            have B9 := Lib.hid (B7.out.trans (hb79.mono B7.out.size))
            have hp9 := (hb79.block g1 HG7.out).trans HP7.out
            have HW19 := Lib.hid (HWS1.out.below hb79)
            have hq9 : W9.heap[w8.heap.size]? = some (.cells ((cut v m).cells sl2) 29 (0, 0)) := by rw [hW9]; exact heap_alloc_new w8 _
            have HW29 := Lib.hid (hws2.below hb89)
            rw [← hW9]
            obtain ⟨g2, hg2⟩ : ∃ g2, g2 = w8.heap.size := ⟨_, rfl⟩
            rw [← hg2] at hq9
            rw [← hg2]
            have HC2 := Lib.hid hcs2
            clear hW9 hb8 hb89 hb79 hg2 hnew hcs2 hok2 hws2 hr7 HP7 HG7 HWS1 B7
            have HSM := Lib.hid (refSame_yes (cut v m) (cut v m) sl1 sl2 HSA.out HSA.out rfl W9 HW19.out HW29.out)
            obtain ⟨C1, hC1⟩ : ∃ C1, C1 = (cut v m).cells sl1 := ⟨_, rfl⟩
            obtain ⟨C2, hC2⟩ : ∃ C2, C2 = (cut v m).cells sl2 := ⟨_, rfl⟩
            rw [← hC1] at hp9 HC1 HSM
            rw [← hC2] at hq9 HC2 HSM
            rw [← hC1, ← hC2]
            clear hC1 hC2
            go_wp2_with (first
              | (refine wpList_load_row_w rfl 29 _ rfl g1 rfl 29 C1 (0, 0) _ hp9 Try.underlying29 rfl HC1.out ?_)
              | (refine wpList_load_row_w rfl 29 _ rfl g2 rfl 29 C2 (0, 0) _ hq9 Try.underlying29 rfl HC2.out ?_)
              | (go_at_call 15; refine HSM.out.mono ?_; rintro e w10 ⟨rfl, hb10⟩))
            go_ret
            exact ⟨rfl, B9.out.trans (hb10.mono B9.out.size)⟩
          · simp only [if_true] at hd
            have HD := Lib.hid hd
            clear hd
            go_wp2_with (first
              | (go_at_call 18; refine (HW.out _ (HZ.out.below B4.out)).mono ?_; rintro e w5 ⟨rfl, hb5⟩)
              | (go_at_call 16; refine (HD.out _).mono ?_; rintro e w6 ⟨sl1, rfl, hws1, hb6⟩; have hnew := heap_alloc_new w6 (.cells zeroMsg 29); have hcs1 := cells_size mg0 sl1; have hok1 := cells_ok hws1)
              | (refine wpList_store_row rfl 29 _ _ rfl w6.heap.size (mg0.cells sl1) rfl rfl 29 zeroMsg hnew hcs1 rfl hok1 ?_; rw [World.setRow_alloc_new]; dsimp only [Act.put]))
            go_ret
            have hb46 := hb5.trans (hb6.mono hb5.size)
            have hb4a := B4.out.trans (hb46.mono B4.out.size)
            exact ⟨rfl, hb4a.alloc hb4a.size _⟩
        · have h3z : (3000 : Int) < (X.size : Int) := by omega
          go_wp2_with fail
          go_ret
          exact ⟨rfl, B4.out⟩
      · have hne : (E != 0) = true := by rw [bne_iff_ne]; exact hE0
        clear hE0
        go_wp2_with fail
        go_ret
        exact ⟨rfl, B4.out⟩
theorem msgExtra_of (hE : EncOK) (hN : NegOK) (hD : DecOK) (m : Mg) (sl : Value) (hm : MsgIn m) (a : Option Addr) (len cap : Nat) (zs : List Ex) (htx : ∀ i, i < len → (zs.getD i ex0).2.size ≤ maxLen) (n : Nat) (hn : n < 256) (w : World) (hws : WsAt w sl m.ws) (hz : ExAt w a len zs) :
    Calls Try.prog 6 #[.agg (m.cells sl), .slice a len cap, .int .u8 n] w (AllTrue w) := by
  by_cases h : FewP m
  · by_cases hl : 20 < len
    · exact msgExtra_many hE hN m sl hm h a len cap hl n w hws
    · exact msgExtra_go hE hN hD m sl hm h a len cap zs (by omega) htx n hn w hws hz
  · exact msgExtra_few hE hN m sl hm h a len cap n w hws
end Go.Proofs.Ytkcbbcabfbkclaa
