/-
  The walk of the statement MsgBack: true.
-/
import Derived.Test.YtkcbbcabfbkclaaMsgDecodes
namespace Go.Proofs.Ytkcbbcabfbkclaa
open Go.RowKit
set_option linter.unusedVariables false
set_option linter.unnecessarySimpa false
set_option linter.unusedSimpArgs false
set_option maxRecDepth 100000

set_option maxHeartbeats 8000000 in
theorem msgBack_few (hE : EncOK) (hN : NegOK) (m : Mg) (sl : Value) (hm : MsgIn m) (hfew : ¬ FewP m) (v1 v2 : Int) (w : World) (hws : WsAt w sl m.ws) :
    Calls Try.prog 4 #[.agg (m.cells sl), .int .u8 v1, .int .u8 v2] w (AllTrue w) := by
  have HAW := Lib.hid (msgAwake_any hE hN)
  have HF := Lib.hid (fun W h => few_no hm sl hfew W h)
  have HWS := Lib.hid hws
  obtain ⟨C, hC⟩ : ∃ C, C = m.cells sl := ⟨_, rfl⟩
  rw [← hC] at HF
  rw [← hC]
  have hcs := Lib.hid (show (Try.prog.info? 29).map (·.size) = some C.size by rw [hC]; exact cells_size m sl)
  clear hC hE hN hm hws hfew
  go_enter Try.func4, Try.ntmps4
  go_upto_region 1 with fail
  obtain ⟨W1, hW1⟩ : ∃ W1, W1 = w.alloc (.cells C 29) := ⟨_, rfl⟩
  have HB1 := Lib.hid (show Below w.heap.size w W1 by rw [hW1]; exact (Below.refl _ _).alloc (Nat.le_refl _) _)
  have HR1 := Lib.hid (show W1.heap[w.heap.size]? = some (.cells C 29 (0, 0)) by rw [hW1]; exact heap_alloc_new w _)
  have HZ1 := Lib.hid (show w.heap.size < W1.heap.size by rw [hW1]; simp)
  rw [← hW1]
  clear hW1
  go_upto_region 2 with (first
    | (go_at_call 8; refine (HAW.out _).mono ?_; rintro e w2 ⟨rfl, hb2⟩; have hr2 := (hb2.block w.heap.size HZ1.out).trans HR1.out)
    | (refine wpList_load_row_w rfl 29 _ rfl w.heap.size rfl 29 C (0, 0) _ hr2 Try.underlying29 rfl hcs.out ?_)
    | (go_at_call 9; refine (HF.out _ (HWS.out.below (HB1.out.trans (hb2.mono HB1.out.size)))).mono ?_; rintro e w3 ⟨rfl, hb3⟩))
  go_wp2_with (go_at_call 8; refine (HAW.out _).mono ?_; rintro e w4 ⟨rfl, hb4⟩)
  go_ret
  have b3 := HB1.out.trans ((hb2.trans (hb3.mono hb2.size)).mono HB1.out.size)
  exact ⟨rfl, b3.trans (hb4.mono b3.size)⟩

set_option maxHeartbeats 8000000 in
theorem msgBack_go (hE : EncOK) (hN : NegOK) (hD : DecOK) (m : Mg) (sl : Value) (hm : MsgIn m) (hfew : FewP m) (n1 n2 : Nat) (hn1 : n1 < 256) (hn2 : n2 < 256) (w : World) (hws : WsAt w sl m.ws) :
    Calls Try.prog 4 #[.agg (m.cells sl), .int .u8 n1, .int .u8 n2] w (AllTrue w) := by
  have hw := hfew.few
  obtain ⟨a, ha⟩ : ∃ a : Int, (1 : Int) + (n1 : Int) % 3 = a := ⟨_, rfl⟩
  obtain ⟨b, hb⟩ : ∃ b : Int, (1 : Int) + (n2 : Int) % 3 = b := ⟨_, rfl⟩
  have ha3 : a = 1 ∨ a = 2 ∨ a = 3 := by omega
  have hb3 : b = 1 ∨ b = 2 ∨ b = 3 := by omega
  obtain ⟨lo, hlo⟩ : ∃ lo : Int, (if b < a then b else a) = lo := ⟨_, rfl⟩
  obtain ⟨hi, hhi⟩ : ∃ hi : Int, (if a < b then b else a) = hi := ⟨_, rfl⟩
  have hlo3 : lo = 1 ∨ lo = 2 ∨ lo = 3 := by rw [← hlo]; split <;> assumption
  have hhi3 : hi = 1 ∨ hi = 2 ∨ hi = 3 := by rw [← hhi]; split <;> assumption
  have hle : lo ≤ hi := by rw [← hlo, ← hhi]; split <;> split <;> omega
  have hng : negB a b = lo := by
    unfold negB
    rw [if_neg (by rw [lastOf_zero, lastOf_zero]; rintro (h | h); exact h ha3; exact h hb3), ← hlo, Int.min_def]
    split <;> split <;> omega
  have hla : I64 lo := ⟨by omega, by omega⟩
  have hlh : I64 hi := ⟨by omega, by omega⟩
  have HAW := Lib.hid (msgAwake_any hE hN)
  have HF := Lib.hid (fun W h => few_yes hm sl hfew W h)
  have HE := Lib.hid (fun W h => hE hi m sl W hlh hm.fits hw h)
  have HR := Lib.hid (fun W h => refProject_any lo hla m sl hm.fits hw W h)
  have HNG := Lib.hid (show ∀ W, Calls Try.prog 17 #[.int .i64 a, .int .i64 b] W fun e w' => e = .returned (.int .i64 lo) ∧ Below W.heap.size W w' from fun W => by
    have := hN a b W ⟨by omega, by omega⟩ ⟨by omega, by omega⟩
    rw [hng] at this
    exact this)
  have HWS := Lib.hid hws
  obtain ⟨C, hC⟩ : ∃ C, C = m.cells sl := ⟨_, rfl⟩
  rw [← hC] at HF HE HR
  rw [← hC]
  have hcs := Lib.hid (show (Try.prog.info? 29).map (·.size) = some C.size by rw [hC]; exact cells_size m sl)
  have HK14 := Lib.hid (show ∀ (W : World) (g : Nat), W.heap[g]? = some (.cells C 29 (0, 0)) → W.cell? ⟨g, 14, none⟩ = some (.string m.note) from fun W g h => by rw [hC] at h; simp [World.cell?, h, Mg.cells])
  have HK15 := Lib.hid (show ∀ (W : World) (g : Nat), W.heap[g]? = some (.cells C 29 (0, 0)) → W.cell? ⟨g, 15, none⟩ = some (.int .u64 m.hint) from fun W g h => by rw [hC] at h; simp [World.cell?, h, Mg.cells])
  obtain ⟨E, hEq⟩ : ∃ E, E = (encB hi m).2 := ⟨_, rfl⟩
  obtain ⟨X, hX⟩ : ∃ X : ByteArray, X = ⟨(encB hi m).1.toArray⟩ := ⟨_, rfl⟩
  unfold EncOut at HE
  rw [← hEq, ← hX] at HE
  have HENC := Lib.hid (fun (h : E = 0) => show rightB m = true ∧ (hi = 3 ∨ m.must = 0) ∧ X.data.toList = msgB m (lastOf hi) from by
    have he := enc_is (v := hi) (m := m) (by rw [← hEq]; exact h)
    refine ⟨he.2.1, by omega, by rw [hX, enc_ok he.1 he.2.1 he.2.2]⟩)
  have HFT := Lib.hid (show m.fits ∧ m.few from ⟨hm.fits, hw⟩)
  have HDD := Lib.hid hD
  have HLL := Lib.hid (show I64 lo from hla)
  clear hC hE hN hD hm hws hfew hw hEq hX ha3 hb3 hng hla hlh
  go_enter Try.func4, Try.ntmps4
  go_upto_region 1 with fail
  obtain ⟨W1, hW1⟩ : ∃ W1, W1 = w.alloc (.cells C 29) := ⟨_, rfl⟩
  have HB1 := Lib.hid (show Below w.heap.size w W1 by rw [hW1]; exact (Below.refl _ _).alloc (Nat.le_refl _) _)
  have HR1 := Lib.hid (show W1.heap[w.heap.size]? = some (.cells C 29 (0, 0)) by rw [hW1]; exact heap_alloc_new w _)
  have HZ1 := Lib.hid (show w.heap.size < W1.heap.size by rw [hW1]; simp)
  rw [← hW1]
  clear hW1
  go_upto_region 4 with (first
    | (go_at_call 8; refine (HAW.out _).mono ?_; rintro e w2 ⟨rfl, hb2⟩; have hr2 := (hb2.block w.heap.size HZ1.out).trans HR1.out)
    | (refine wpList_load_row_w rfl 29 _ rfl w.heap.size rfl 29 C (0, 0) _ hr2 Try.underlying29 rfl hcs.out ?_)
    | (go_at_call 9; refine (HF.out _ (HWS.out.below (HB1.out.trans (hb2.mono HB1.out.size)))).mono ?_; rintro e w3 ⟨rfl, hb3⟩))
  have hb13 := hb2.trans (hb3.mono hb2.size)
  have B3 := Lib.hid (HB1.out.trans (hb13.mono HB1.out.size))
  have hr3 := (hb13.block w.heap.size HZ1.out).trans HR1.out
  have HZ3 := Lib.hid (Nat.lt_of_lt_of_le HZ1.out hb13.size)
  clear hb2 hb3 hb13 hr2 HB1 HR1 HZ1
  go_upto_region 5 with fail
  clear ha hb hlo hhi hn1 hn2
  go_upto_region 6 with (first
    | (refine wpList_load_row_w rfl 29 _ rfl w.heap.size rfl 29 C (0, 0) _ hr3 Try.underlying29 rfl hcs.out ?_)
    | (go_at_call 10; refine (HE.out _ (HWS.out.below B3.out)).mono ?_; rintro e w4 ⟨rfl, hb4⟩))
  have B4 := Lib.hid (B3.out.trans (hb4.mono B3.out.size))
  have HR4 := Lib.hid ((hb4.block w.heap.size HZ3.out).trans hr3)
  have HZ4 := Lib.hid (Nat.lt_of_lt_of_le HZ3.out hb4.size)
  clear hb4 hr3 B3 HZ3 HE
  by_cases hE0 : E = 0
  · obtain ⟨hr, hmu, hXl⟩ := HENC.out hE0
    subst hE0
    have hX4 : X.size ≤ 100000 := by
      rw [Lib.size_eq, hXl]
      have := msgB_le m hhi3
      have := (right_parts hr).2.2.2.2.2
      omega
    have hd := fun W => HDD.out lo X W HLL.out hX4
    rw [hXl, dec_enc hr HFT.out.1 HFT.out.2 hlo3 hhi3 hle hmu] at hd
    have hlz : ¬ lastOf lo = 0 := by rw [lastOf_zero]; exact fun h => h hlo3
    have hbs : ∃ (M : Mg) (L : Nat) (F : Int), (if lo < 3 ∧ m.must ≠ 0 then (mg0, 0, 4) else (cut lo m, lostB m lo hi, 0)) = (M, L, F) ∧ projB lo m = (M, F) ∧ M.sane ∧ ((F = 4 ∧ L = 0 ∧ M = mg0) ∨ (F = 0 ∧ L = (if m.note.size ≠ 0 ∧ lo < 2 ∧ 2 ≤ hi then 1 else 0) + (if m.hint ≠ 0 ∧ lo < 3 ∧ hi = 3 then 1 else 0))) := by
      by_cases h : lo < 3 ∧ m.must ≠ 0
      · refine ⟨mg0, 0, 4, by rw [if_pos h], ?_, mg0_sane, .inl ⟨rfl, rfl, rfl⟩⟩
        unfold projB
        rw [if_neg (by rw [hr]; rintro (h | h); exact hlz h; cases h), if_pos h]
      · have hpj := proj_ok hlz hr h
        have hs : (cut lo m).sane := by have := proj_sane (v := lo) HFT.out.1 HFT.out.2; rw [hpj] at this; exact this
        refine ⟨cut lo m, lostB m lo hi, 0, by rw [if_neg h], hpj, hs, .inr ⟨rfl, ?_⟩⟩
        unfold lostB
        rw [if_neg (show ¬ (m.must ≠ 0 ∧ lo < 3 ∧ hi = 3) from fun hh => h ⟨hh.2.1, hh.1⟩), Nat.add_zero]
    obtain ⟨M, L, F, e1, e2, hMs, hFL⟩ := hbs
    rw [e1] at hd
    have hrp := HR.out
    rw [e2] at hrp
    have HD := Lib.hid hd
    have HRP := Lib.hid hrp
    have HSA := Lib.hid hMs
    have HFL := Lib.hid hFL
    clear hr hmu hXl hX4 hd hlz e1 e2 hrp hMs hFL HENC HFT HDD HR HLL
    go_upto_region 9 with (first
      | (go_at_call 16; refine (HD.out _).mono ?_; rintro e w6 ⟨sl1, rfl, hws1, hb6⟩; have hnew := heap_alloc_new w6 (.cells zeroMsg 29); have hcs1 := cells_size M sl1; have hok1 := cells_ok hws1)
      | (refine wpList_store_row rfl 29 _ _ rfl w6.heap.size (M.cells sl1) rfl rfl 29 zeroMsg hnew hcs1 rfl hok1 ?_; rw [World.setRow_alloc_new]; dsimp only [Act.put]))
    obtain ⟨W7, hW7⟩ : ∃ W7, W7 = w6.alloc (.cells (M.cells sl1) 29) := ⟨_, rfl⟩
    have hb67 : Below w6.heap.size w6 W7 := by rw [hW7]; exact (Below.refl _ _).alloc (Nat.le_refl _) _
    have hb47 := hb6.trans (hb67.mono hb6.size)
    have B7 := Lib.hid (B4.out.trans (hb47.mono B4.out.size))
    have hr7 := (hb47.block w.heap.size HZ4.out).trans HR4.out
    have HZ7 := Lib.hid (Nat.lt_of_lt_of_le HZ4.out hb47.size)
    have HP7 := Lib.hid (show W7.heap[w6.heap.size]? = some (.cells (M.cells sl1) 29 (0, 0)) by rw [hW7]; exact heap_alloc_new w6 _)
    have HG7 := Lib.hid (show w6.heap.size < W7.heap.size by rw [hW7]; simp)
    have HWS1 := Lib.hid (hws1.below hb67)
    rw [← hW7]
    obtain ⟨g1, hg1⟩ : ∃ g1, g1 = w6.heap.size := ⟨_, rfl⟩
    rw [← hg1] at HP7 HG7
    rw [← hg1]
    have HC1 := Lib.hid hcs1
    clear hW7 hb6 hb67 hb47 hg1 hnew hcs1 hok1 hws1 HR4 HZ4 HD
    go_upto_region 10 with (first
      | (refine wpList_load_row_w rfl 29 _ rfl w.heap.size rfl 29 C (0, 0) _ hr7 Try.underlying29 rfl hcs.out ?_)
      | (go_at_call 12; refine (HRP.out _ (HWS.out.below B7.out)).mono ?_; rintro e w8 ⟨sl2, rfl, hws2, hb8⟩; have hnew := heap_alloc_new w8 (.cells zeroMsg 29); have hcs2 := cells_size M sl2; have hok2 := cells_ok hws2)
      | (refine wpList_store_row rfl 29 _ _ rfl w8.heap.size (M.cells sl2) rfl rfl 29 zeroMsg hnew hcs2 rfl hok2 ?_; rw [World.setRow_alloc_new]; dsimp only [Act.put]))
    obtain ⟨W9, hW9⟩ : ∃ W9, W9 = w8.alloc (.cells (M.cells sl2) 29) := ⟨_, rfl⟩
    have hb89 : Below w8.heap.size w8 W9 := by rw [hW9]; exact (Below.refl _ _).alloc (Nat.le_refl _) _
    have hb79 := hb8.trans (hb89.mono hb8.size)
    have B9 := Lib.hid (B7.out.trans (hb79.mono B7.out.size))
    have hr9 := (hb79.block w.heap.size HZ7.out).trans hr7
    have HP9 := Lib.hid ((hb79.block g1 HG7.out).trans HP7.out)
    have HG9 := Lib.hid (Nat.lt_of_lt_of_le HG7.out hb79.size)
    have HW19 := Lib.hid (HWS1.out.below hb79)
    have HQ9 := Lib.hid (show W9.heap[w8.heap.size]? = some (.cells (M.cells sl2) 29 (0, 0)) by rw [hW9]; exact heap_alloc_new w8 _)
    have HG29 := Lib.hid (show w8.heap.size < W9.heap.size by rw [hW9]; simp)
    have HW29 := Lib.hid (hws2.below hb89)
    rw [← hW9]
    obtain ⟨g2, hg2⟩ : ∃ g2, g2 = w8.heap.size := ⟨_, rfl⟩
    rw [← hg2] at HQ9 HG29
    rw [← hg2]
    have HC2 := Lib.hid hcs2
    have d14 := HK14.out _ _ hr9
    have d15 := HK15.out _ _ hr9
    have HSZ := Lib.hid (fun (h : M = mg0) (W : World) (h1 : WsAt W sl1 M.ws) => show Calls Try.prog 15 #[.agg (M.cells sl1), .agg #[.int .i64 0, .int .i64 0, .int .i64 0, .int .i64 0, .int .i64 0, .int .i64 0, .int .u64 0, .int .u64 0, .string ⟨#[]⟩, .bool false, .int .u64 0, .bool false, .string ⟨#[]⟩, .slice none 0 0, .string ⟨#[]⟩, .int .u64 0, .int .u64 0]] W fun e w' => e = .returned (.bool true) ∧ Below W.heap.size W w' from by
      rw [h] at h1 ⊢; exact same_zero sl1 W h1)
    have HSM := Lib.hid (fun (W : World) (h1 : WsAt W sl1 M.ws) (h2 : WsAt W sl2 M.ws) => refSame_yes M M sl1 sl2 HSA.out HSA.out rfl W h1 h2)
    clear hW9 hb8 hb89 hb79 hg2 hnew hcs2 hok2 hws2 hr7 HP7 HG7 HWS1 B7 HZ7 hr9 HRP HSA hcs HK14 HK15 HF HAW
    obtain ⟨C1, hC1⟩ : ∃ C1, C1 = M.cells sl1 := ⟨_, rfl⟩
    obtain ⟨C2, hC2⟩ : ∃ C2, C2 = M.cells sl2 := ⟨_, rfl⟩
    rw [← hC1] at HP9 HC1 HSM HSZ
    rw [← hC2] at HQ9 HC2 HSM
    rw [← hC1, ← hC2]
    clear hC1 hC2
    obtain ⟨nt, hnt⟩ : ∃ nt, nt = m.note := ⟨_, rfl⟩
    obtain ⟨ht, hht⟩ : ∃ ht, ht = m.hint := ⟨_, rfl⟩
    rw [← hnt] at d14 HFL
    rw [← hht] at d15 HFL
    clear hnt hht
    have hs0 : nt.size = 0 ↔ nt.toList.isEmpty = true := by
      rw [List.isEmpty_iff]
      have e : nt.toList.length = nt.size := by rw [Lib.toList_data, Array.length_toList]; rfl
      rw [← e, List.length_eq_zero_iff]
    obtain ⟨x, HX⟩ : ∃ x : Nat, x = (if nt.size ≠ 0 ∧ lo < 2 ∧ 2 ≤ hi then 1 else 0) := ⟨_, rfl⟩
    obtain ⟨y, HY⟩ : ∃ y : Nat, y = (if ht ≠ 0 ∧ lo < 3 ∧ hi = 3 then 1 else 0) := ⟨_, rfl⟩
    rw [← HX, ← HY] at HFL
    have HXC : (nt.toList.isEmpty = true ∧ x = 0) ∨ (nt.toList.isEmpty = false ∧ ¬ lo < 2 ∧ decide (lo < 2) = false ∧ x = 0) ∨ (nt.toList.isEmpty = false ∧ lo < 2 ∧ decide (lo < 2) = true ∧ ¬ 2 ≤ hi ∧ decide (2 ≤ hi) = false ∧ x = 0) ∨ (nt.toList.isEmpty = false ∧ lo < 2 ∧ decide (lo < 2) = true ∧ 2 ≤ hi ∧ decide (2 ≤ hi) = true ∧ x = 1) := by
      rw [HX]
      by_cases h0 : nt.size = 0
      · exact .inl ⟨hs0.1 h0, if_neg (fun h => h.1 h0)⟩
      · have hf : nt.toList.isEmpty = false := by rw [← Bool.not_eq_true, ← hs0]; exact h0
        by_cases h1 : lo < 2
        · by_cases h2 : 2 ≤ hi
          · exact .inr (.inr (.inr ⟨hf, h1, decide_eq_true h1, h2, decide_eq_true h2, if_pos ⟨h0, h1, h2⟩⟩))
          · exact .inr (.inr (.inl ⟨hf, h1, decide_eq_true h1, h2, decide_eq_false h2, if_neg (fun h => h2 h.2.2)⟩))
        · exact .inr (.inl ⟨hf, h1, decide_eq_false h1, if_neg (fun h => h1 h.2.1)⟩)
    have HYC : (ht = 0 ∧ y = 0) ∨ (¬ ht = 0 ∧ decide (ht = 0) = false ∧ ((ht : Int) != 0) = true ∧ ¬ lo < 3 ∧ decide (lo < 3) = false ∧ y = 0) ∨ (¬ ht = 0 ∧ decide (ht = 0) = false ∧ ((ht : Int) != 0) = true ∧ lo < 3 ∧ decide (lo < 3) = true ∧ ¬ hi = 3 ∧ (hi == 3) = false ∧ y = 0) ∨ (¬ ht = 0 ∧ decide (ht = 0) = false ∧ ((ht : Int) != 0) = true ∧ lo < 3 ∧ decide (lo < 3) = true ∧ hi = 3 ∧ y = 1) := by
      rw [HY]
      by_cases h0 : ht = 0
      · exact .inl ⟨h0, if_neg (fun h => h.1 h0)⟩
      · have hd := decide_eq_false h0
        have hi0 : ((ht : Int) != 0) = true := by rw [bne_iff_ne]; omega
        by_cases h1 : lo < 3
        · by_cases h2 : hi = 3
          · exact .inr (.inr (.inr ⟨h0, hd, hi0, h1, decide_eq_true h1, h2, if_pos ⟨h0, h1, h2⟩⟩))
          · exact .inr (.inr (.inl ⟨h0, hd, hi0, h1, decide_eq_true h1, h2, by rw [beq_eq_false_iff_ne]; exact h2, if_neg (fun h => h2 h.2.2)⟩))
        · exact .inr (.inl ⟨h0, hd, hi0, h1, decide_eq_false h1, if_neg (fun h => h1 h.2.1)⟩)
    clear hs0 HX HY hlo3 hhi3 hle
    rcases HFL.out with ⟨hF, hL, hM⟩ | ⟨hF, hL⟩
    · have HS9 := Lib.hid (HSZ.out hM W9 HW19.out)
      have hp9 := HP9.out
      clear HFL HSZ HSM HNG hM HP9 HQ9 HG9 HG29 HW29
      subst hF hL
      rcases HXC with ⟨k1, rfl⟩ | ⟨k1, k2, k3, rfl⟩ | ⟨k1, k2, k3, k4, k5, rfl⟩ | ⟨k1, k2, k3, k4, k5, rfl⟩
      all_goals
        rcases HYC with ⟨rfl, rfl⟩ | ⟨j1, j2, j3, j4, j5, rfl⟩ | ⟨j1, j2, j3, j4, j5, j6, j7, rfl⟩ | ⟨j1, j2, j3, j4, j5, rfl, rfl⟩
        all_goals first
          | (exfalso; omega)
          | skip
      all_goals
        go_wp2_with (first
          | (refine wpList_load_row_w rfl 29 _ rfl g1 rfl 29 C1 (0, 0) _ hp9 Try.underlying29 rfl HC1.out ?_)
          | (go_at_call 15; refine HS9.out.mono ?_; rintro e w10 ⟨rfl, hb10⟩))
        go_ret
        exact ⟨rfl, B9.out.trans (hb10.mono B9.out.size)⟩
    · have HM9 := Lib.hid (fun (W : World) (hb : Below W9.heap.size W9 W) => HSM.out W (HW19.out.below hb) (HW29.out.below hb))
      clear HFL HSZ HSM
      subst hF hL
      rcases HXC with ⟨k1, rfl⟩ | ⟨k1, k2, k3, rfl⟩ | ⟨k1, k2, k3, k4, k5, rfl⟩ | ⟨k1, k2, k3, k4, k5, rfl⟩
      all_goals
        rcases HYC with ⟨rfl, rfl⟩ | ⟨j1, j2, j3, j4, j5, rfl⟩ | ⟨j1, j2, j3, j4, j5, j6, j7, rfl⟩ | ⟨j1, j2, j3, j4, j5, rfl, rfl⟩
        all_goals first
          | (exfalso; omega)
          | skip
      all_goals
        go_wp2_with (first
          | (go_at_call 17; refine (HNG.out _).mono ?_; rintro e w10 ⟨rfl, hb10⟩; have hp10 := (hb10.block g1 HG9.out).trans HP9.out; have hq10 := (hb10.block g2 HG29.out).trans HQ9.out)
          | (refine wpList_load_row_w rfl 29 _ rfl g1 rfl 29 C1 (0, 0) _ hp10 Try.underlying29 rfl HC1.out ?_)
          | (refine wpList_load_row_w rfl 29 _ rfl g2 rfl 29 C2 (0, 0) _ hq10 Try.underlying29 rfl HC2.out ?_)
          | (go_at_call 15; refine (HM9.out _ hb10).mono ?_; rintro e w11 ⟨rfl, hb11⟩))
        go_ret
        exact ⟨rfl, B9.out.trans ((hb10.trans (hb11.mono hb10.size)).mono B9.out.size)⟩
  · have hne : (E != 0) = true := by rw [bne_iff_ne]; exact hE0
    clear hE0
    go_wp2_with fail
    go_ret
    exact ⟨rfl, B4.out⟩
theorem msgBack_of (hE : EncOK) (hN : NegOK) (hD : DecOK) (m : Mg) (sl : Value) (hm : MsgIn m) (n1 n2 : Nat) (hn1 : n1 < 256) (hn2 : n2 < 256) (w : World) (hws : WsAt w sl m.ws) :
    Calls Try.prog 4 #[.agg (m.cells sl), .int .u8 n1, .int .u8 n2] w (AllTrue w) := by
  by_cases h : FewP m
  · exact msgBack_go hE hN hD m sl hm h n1 n2 hn1 hn2 w hws
  · exact msgBack_few hE hN m sl hm h n1 n2 w hws
end Go.Proofs.Ytkcbbcabfbkclaa
