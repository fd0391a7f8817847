/-
  The walk of the statement MsgLong: true.
-/
import Derived.Test.YtkcbbcabfbkclaaMsgDecodes
import Derived.Test.YtkcbbcabfbkclaaSet02
namespace Go.Proofs.Ytkcbbcabfbkclaa
open Go.RowKit
set_option linter.unusedVariables false
set_option linter.unnecessarySimpa false
set_option linter.unusedSimpArgs false
set_option maxRecDepth 100000

theorem u8two : (Try.prog.info? 5).map (fun i => (i.zero, i.size)) = some (some (.int .u8 0), 1) := by kernel_rfl
theorem dec_long {b : List UInt8} (h : 4000 < b.length) : decB 3 b = (mg0, 0, 3) := by
  unfold decB
  rw [if_neg (by decide), if_pos h]

set_option maxHeartbeats 8000000 in
theorem msgLong_few (hE : EncOK) (hN : NegOK) (m : Mg) (sl : Value) (hm : MsgIn m) (hfew : ¬ FewP m) (a1 a2 : Int) (w : World) (hws : WsAt w sl m.ws) :
    Calls Try.prog 7 #[.agg (m.cells sl), .int .u16 a1, .int .u8 a2] w (AllTrue w) := by
  have HAW := Lib.hid (msgAwake_any hE hN)
  have HF := Lib.hid (fun W h => few_no hm sl hfew W h)
  have HWS := Lib.hid hws
  obtain ⟨C, hC⟩ : ∃ C, C = m.cells sl := ⟨_, rfl⟩
  rw [← hC] at HF
  rw [← hC]
  have hcs := Lib.hid (show (Try.prog.info? 29).map (·.size) = some C.size by rw [hC]; exact cells_size m sl)
  clear hC hE hN hm hws hfew
  go_enter Try.func7, Try.ntmps7
  go_upto_region 1 with fail
  obtain ⟨W1, hW1⟩ : ∃ W1, W1 = w.alloc (.cells C 29) := ⟨_, rfl⟩
  have HB1 := Lib.hid (show Below w.heap.size w W1 by rw [hW1]; exact (Below.refl _ _).alloc (Nat.le_refl _) _)
  have HR1 := Lib.hid (show W1.heap[w.heap.size]? = some (.cells C 29 (0, 0)) by rw [hW1]; exact heap_alloc_new w _)
  have HZ1 := Lib.hid (show w.heap.size < W1.heap.size by rw [hW1]; simp)
  rw [← hW1]
  clear hW1
  go_upto_region 2 with (first
    | (go_at_call 8; refine (HAW.out _).mono ?_; rintro e w2 ⟨rfl, hb2⟩; have hr2 := (hb2.block w.heap.size HZ1.out).trans HR1.out)
    | (refine wpList_load_row_w rfl 29 _ rfl w.heap.size rfl 29 C (0, 0) _ hr2 Try.underlying29 rfl hcs.out ?_)
    | (go_at_call 9; refine (HF.out _ (HWS.out.below (HB1.out.trans (hb2.mono HB1.out.size)))).mono ?_; rintro e w3 ⟨rfl, hb3⟩))
  go_wp2_with (go_at_call 8; refine (HAW.out _).mono ?_; rintro e w4 ⟨rfl, hb4⟩)
  go_ret
  have b3 := HB1.out.trans ((hb2.trans (hb3.mono hb2.size)).mono HB1.out.size)
  exact ⟨rfl, b3.trans (hb4.mono b3.size)⟩

set_option maxHeartbeats 8000000 in
theorem msgLong_go (hE : EncOK) (hN : NegOK) (hD : DecOK) (m : Mg) (sl : Value) (hm : MsgIn m) (hfew : FewP m) (n : Nat) (hn : n < 65536) (c : UInt8) (w : World) (hws : WsAt w sl m.ws) :
    Calls Try.prog 7 #[.agg (m.cells sl), .int .u16 n, .int .u8 (c.toNat : Int)] w (AllTrue w) := by
  obtain ⟨i0, hi, hz0, hz1, hz2⟩ := info_parts u8info
  have h3 : I64 3 := ⟨by decide, by decide⟩
  have hw := hfew.few
  have HAW := Lib.hid (msgAwake_any hE hN)
  have HF := Lib.hid (fun W h => few_yes hm sl hfew W h)
  have HE := Lib.hid (fun W h => hE 3 m sl W h3 hm.fits hw h)
  have HWS := Lib.hid hws
  obtain ⟨k, hk⟩ : ∃ k, k = 4001 + n % 100 := ⟨_, rfl⟩
  have hkz : (4001 : Int) + (n : Int) % 100 = (k : Int) := by omega
  have hkl : 4000 < k ∧ k < 4200 := by omega
  obtain ⟨B0, hB0⟩ : ∃ B : ByteArray, B = ⟨(cellsF k (fun _ => 0)).toArray⟩ := ⟨_, rfl⟩
  have hB0s : B0.size = k := by rw [hB0]; show (cellsF k (fun _ => 0)).toArray.size = k; rw [List.size_toArray, cellsF_length]
  have hd0 := fun W => hD 3 B0 W h3 (by omega)
  rw [dec_long (by rw [← Lib.size_eq]; omega)] at hd0
  have HD0 := Lib.hid hd0
  obtain ⟨C, hC⟩ : ∃ C, C = m.cells sl := ⟨_, rfl⟩
  rw [← hC] at HF HE
  rw [← hC]
  have hcs := Lib.hid (show (Try.prog.info? 29).map (·.size) = some C.size by rw [hC]; exact cells_size m sl)
  have HENC := Lib.hid (fun (h : (encB 3 m).2 = 0) => show rightB m = true ∧ (encB 3 m).1 = msgB m 12 from by
    have he := enc_is h
    exact ⟨he.2.1, by rw [enc_ok he.1 he.2.1 he.2.2]; rfl⟩)
  have HFT := Lib.hid (show m.fits ∧ m.few from ⟨hm.fits, hw⟩)
  have HDD := Lib.hid hD
  have HBB := Lib.hid hB0
  clear hC hE hN hm hws hfew hw hk hd0 hD hB0 hB0s
  go_enter Try.func7, Try.ntmps7
  go_upto_region 1 with fail
  obtain ⟨W1, hW1⟩ : ∃ W1, W1 = w.alloc (.cells C 29) := ⟨_, rfl⟩
  have HB1 := Lib.hid (show Below w.heap.size w W1 by rw [hW1]; exact (Below.refl _ _).alloc (Nat.le_refl _) _)
  have HR1 := Lib.hid (show W1.heap[w.heap.size]? = some (.cells C 29 (0, 0)) by rw [hW1]; exact heap_alloc_new w _)
  have HZ1 := Lib.hid (show w.heap.size < W1.heap.size by rw [hW1]; simp)
  rw [← hW1]
  clear hW1
  go_upto_region 3 with (first
    | (go_at_call 8; refine (HAW.out _).mono ?_; rintro e w2 ⟨rfl, hb2⟩; have hr2 := (hb2.block w.heap.size HZ1.out).trans HR1.out)
    | (refine wpList_load_row_w rfl 29 _ rfl w.heap.size rfl 29 C (0, 0) _ hr2 Try.underlying29 rfl hcs.out ?_)
    | (go_at_call 9; refine (HF.out _ (HWS.out.below (HB1.out.trans (hb2.mono HB1.out.size)))).mono ?_; rintro e w3 ⟨rfl, hb3⟩))
  have hb13 := hb2.trans (hb3.mono hb2.size)
  have B3 := Lib.hid (HB1.out.trans (hb13.mono HB1.out.size))
  have HR3 := Lib.hid ((hb13.block w.heap.size HZ1.out).trans HR1.out)
  have HZ3 := Lib.hid (Nat.lt_of_lt_of_le HZ1.out hb13.size)
  clear hb2 hb3 hb13 hr2 HB1 HR1 HZ1
  go_upto_region 4 with (at_make; refine wpList_make_full _ rfl _ _ 53 rfl w3.heap.size 5 i0 (.int .u8 0) 1 Try.underlying53 hi hz0 hz1 _ _ _ _ k rfl rfl rfl rfl ?c1 ?c2 ?c3 ?c4)
  case c1 => rw [hz2]; omega
  case c2 => unfold maxLen; omega
  case c3 => exact Nat.le_refl _
  case c4 =>
    intro w4 hown4 hg4
    rw [zeros_cellsF] at hown4
    have hcv := convert_row hown4
    rw [← HBB.out] at hcv
    have hb4 : Below w3.heap.size w3 w4 := (Below.refl _ _).grown hg4 (Nat.le_refl _) (by simp)
    go_upto_region 4 with (first
      | (go_at_call 16; refine (HD0.out _).mono ?_; rintro e w5 ⟨sl1, rfl, hws1, hb5⟩; have hnew := heap_alloc_new w5 (.cells zeroMsg 29); have hcs1 := cells_size mg0 sl1; have hok1 := cells_ok hws1)
      | (refine wpList_store_row rfl 29 _ _ rfl w5.heap.size (mg0.cells sl1) rfl rfl 29 zeroMsg hnew hcs1 rfl hok1 ?_; rw [World.setRow_alloc_new]; dsimp only [Act.put]))
    obtain ⟨W6, hW6⟩ : ∃ W6, W6 = w5.alloc (.cells (mg0.cells sl1) 29) := ⟨_, rfl⟩
    have hb56 : Below w5.heap.size w5 W6 := by rw [hW6]; exact (Below.refl _ _).alloc (Nat.le_refl _) _
    have hb35 := hb4.trans (hb5.mono hb4.size)
    have hb36 := hb35.trans (hb56.mono hb35.size)
    have B6 := Lib.hid (B3.out.trans (hb36.mono B3.out.size))
    have hr6 := (hb36.block w.heap.size HZ3.out).trans HR3.out
    rw [← hW6]
    clear hW6 hb4 hb5 hb56 hb35 hb36 hnew hok1 hws1 hown4 hg4 hcv hcs1 HR3 HZ3 B3 HD0 HBB
    obtain ⟨E, hE⟩ : ∃ E, E = (encB 3 m).2 := ⟨_, rfl⟩
    obtain ⟨X, hX⟩ : ∃ X : ByteArray, X = ⟨(encB 3 m).1.toArray⟩ := ⟨_, rfl⟩
    unfold EncOut at HE
    rw [← hE, ← hX] at HE
    have HXX := Lib.hid (show E = 0 → rightB m = true ∧ X = ⟨(msgB m 12).toArray⟩ from fun h => by
      have := HENC.out (by rw [← hE]; exact h)
      exact ⟨this.1, by rw [hX, this.2]⟩)
    clear hE hX HENC
    go_upto_region 5 with (first
      | (refine wpList_load_row_w rfl 29 _ rfl w.heap.size rfl 29 C (0, 0) _ hr6 Try.underlying29 rfl hcs.out ?_)
      | (go_at_call 10; refine (HE.out _ (HWS.out.below B6.out)).mono ?_; rintro e w7 ⟨rfl, hb7⟩))
    have B7 := Lib.hid (B6.out.trans (hb7.mono B6.out.size))
    clear hb7 hr6 B6
    by_cases hE0 : E = 0
    · obtain ⟨hr, hXe⟩ := HXX.out hE0
      subst hE0
      have hk0 := kind_of hr
      have hXl : X.data.toList = msgB m 12 := by rw [hXe]
      have hXs : X.size = (msgB m 12).length := by rw [Lib.size_eq, hXl]
      have h4 := (right_parts hr).2.2.2.2.2
      have hpos : 1 ≤ (msgB m 12).length := by unfold msgB; rw [List.length_append]; have := ub_pos m.kind.toNat; omega
      have hX1 : 1 ≤ X.size := by omega
      have hX4 : X.size ≤ 4000 := by omega
      have e7 := dec_behind hr HFT.out.1 HFT.out.2 c
      have hl7 : (X ++ (⟨#[c]⟩ : ByteArray)).data.toList = msgB m 12 ++ [c] := by rw [ByteArray.data_append, Array.toList_append, hXl]
      have hd7 := fun W => HDD.out 3 (X ++ ⟨#[c]⟩) W h3 (by rw [ByteArray.size_append]; show X.size + 1 ≤ _; omega)
      rw [hl7] at hd7
      obtain ⟨D7, hD7⟩ : ∃ D, D = decB 3 (msgB m 12 ++ [c]) := ⟨_, rfl⟩
      obtain ⟨M7, L7, E7⟩ := D7
      rw [← hD7] at hd7 e7
      simp only at hd7 e7
      have HD7 := Lib.hid hd7
      have hE7 : (E7 != 0) = true := by rw [bne_iff_ne]; exact e7
      have hd8 := fun W => HDD.out 3 (X.extract 0 (X.size - 1)) W h3 (by simp; omega)
      have e8 : X.size = 1 → (decB 3 (X.extract 0 (X.size - 1)).data.toList).2.2 ≠ 0 := fun h => by
        have : (X.extract 0 (X.size - 1)).data.toList = [] := by rw [Lib.extract_data, h]; rfl
        rw [this]
        exact dec_empty
      obtain ⟨D8, hD8⟩ : ∃ D, D = decB 3 (X.extract 0 (X.size - 1)).data.toList := ⟨_, rfl⟩
      obtain ⟨M8, L8, E8⟩ := D8
      rw [← hD8] at hd8 e8
      simp only at hd8 e8
      have HD8 := Lib.hid hd8
      have HE8 := Lib.hid e8
      have hadd : X.size + (⟨#[c]⟩ : ByteArray).size ≤ 9223372036854775807 := by show X.size + 1 ≤ _; omega
      have hxz : (X.size : Int) - 1 = ((X.size - 1 : Nat) : Int) := by omega
      clear hr hXe hXl hXs h4 hpos hl7 hd7 hd8 hD7 hD8 e7 e8 hk0 HXX HFT HDD
      have hcell := cell_one_new w7 (.int .u8 (c.toNat : Int)) 5
      have hcv := run_convert_bytes_back (P := Try.prog) (w7.alloc (.cells #[.int .u8 (c.toNat : Int)] 5)) 53 9 5 ⟨w7.heap.size, 0, none⟩ 1 [c] Try.underlying53 Try.underlying5 Try.underlying9 (fun j hj => by
        have h0 : j = 0 := by simp at hj; omega
        subst h0
        exact hcell 0 _ rfl)
      have hcv2 : (convert 53 9 (.slice (some ⟨w7.heap.size, 0, none⟩) 1 1)).run Try.prog (w7.alloc (.cells #[.int .u8 (c.toNat : Int)] 5)) = .ok (.string ⟨#[c]⟩) (w7.alloc (.cells #[.int .u8 (c.toNat : Int)] 5)) := hcv
      clear hcv hcell
      go_upto_region 8 with (first
        | (refine wpList_buildSlice_one rfl 53 5 _ rfl (.int .u8 0) (.int .u8 (c.toNat : Int)) rfl Try.underlying53 u8two rfl rfl ?_)
        | (go_at_call 16; refine (HD7.out _).mono ?_; rintro e w8 ⟨sl2, rfl, hws2, hb8⟩; have hnew2 := heap_alloc_new w8 (.cells zeroMsg 29); have hcs2 := cells_size M7 sl2; have hok2 := cells_ok hws2)
        | (refine wpList_store_row rfl 29 _ _ rfl w8.heap.size (M7.cells sl2) rfl rfl 29 zeroMsg hnew2 hcs2 rfl hok2 ?_; rw [World.setRow_alloc_new]; dsimp only [Act.put]))
      have b78 : Below w7.heap.size w7 (w8.alloc (.cells (M7.cells sl2) 29)) := by
        have a1 : Below w7.heap.size w7 (w7.alloc (.cells #[.int .u8 (c.toNat : Int)] 5)) := (Below.refl _ _).alloc (Nat.le_refl _) _
        have a2 := a1.trans (hb8.mono a1.size)
        exact a2.alloc a2.size _
      obtain ⟨W9, hW9⟩ : ∃ W9, W9 = w8.alloc (.cells (M7.cells sl2) 29) := ⟨_, rfl⟩
      rw [← hW9] at b78
      rw [← hW9]
      have B9 := Lib.hid (B7.out.trans (b78.mono B7.out.size))
      clear hW9 b78 hb8 hws2 hnew2 hcs2 hok2 hcv2 B7
      by_cases hone : X.size = 1
      · have hE8 : (E8 != 0) = true := by rw [bne_iff_ne]; exact HE8.out hone
        have HO := Lib.hid hone
        clear hone
        go_wp2_with (first
          | (go_at_call 16; refine (HD8.out _).mono ?_; rintro e w10 ⟨sl3, rfl, hws3, hb10⟩; have hnew3 := heap_alloc_new w10 (.cells zeroMsg 29); have hcs3 := cells_size M8 sl3; have hok3 := cells_ok hws3)
          | (refine wpList_store_row rfl 29 _ _ rfl w10.heap.size (M8.cells sl3) rfl rfl 29 zeroMsg hnew3 hcs3 rfl hok3 ?_; rw [World.setRow_alloc_new]; dsimp only [Act.put]))
        go_ret
        have b10 := B9.out.trans (hb10.mono B9.out.size)
        exact ⟨rfl, b10.alloc b10.size _⟩
      · have hgt : (1 : Int) < (X.size : Int) := by omega
        have hgtd : decide ((1 : Int) < (X.size : Int)) = true := decide_eq_true hgt
        have hgn : decide (1 < X.size) = true := decide_eq_true (by omega)
        clear hone
        cases hE8 : (E8 != 0)
        all_goals
          go_wp2_with (first
            | (go_at_call 16; refine (HD8.out _).mono ?_; rintro e w10 ⟨sl3, rfl, hws3, hb10⟩; have hnew3 := heap_alloc_new w10 (.cells zeroMsg 29); have hcs3 := cells_size M8 sl3; have hok3 := cells_ok hws3)
            | (refine wpList_store_row rfl 29 _ _ rfl w10.heap.size (M8.cells sl3) rfl rfl 29 zeroMsg hnew3 hcs3 rfl hok3 ?_; rw [World.setRow_alloc_new]; dsimp only [Act.put]))
          go_ret
          have b10 := B9.out.trans (hb10.mono B9.out.size)
          exact ⟨rfl, b10.alloc b10.size _⟩
    · have hne : (E != 0) = true := by rw [bne_iff_ne]; exact hE0
      clear hE0
      go_wp2_with fail
      go_ret
      exact ⟨rfl, B7.out⟩
theorem msgLong_of (hE : EncOK) (hN : NegOK) (hD : DecOK) (m : Mg) (sl : Value) (hm : MsgIn m) (a1 : Int) (w1 : (Lit.int .u16 a1).wf = true) (a2 : Int) (w2 : (Lit.int .u8 a2).wf = true) (w : World) (hws : WsAt w sl m.ws) :
    Calls Try.prog 7 #[.agg (m.cells sl), .int .u16 a1, .int .u8 a2] w (AllTrue w) := by
  by_cases h : FewP m
  · have hb1 := bounds_u16 w1
    have hb2 := bounds_u8 w2
    obtain ⟨n, rfl⟩ : ∃ n : Nat, a1 = n := ⟨a1.toNat, by omega⟩
    obtain ⟨c, rfl⟩ : ∃ c : UInt8, a2 = (c.toNat : Int) := ⟨UInt8.ofNat a2.toNat, by simp only [UInt8.toNat_ofNat']; omega⟩
    exact msgLong_go hE hN hD m sl hm h n (by omega) c w hws
  · exact msgLong_few hE hN m sl hm h a1 a2 w hws
end Go.Proofs.Ytkcbbcabfbkclaa
