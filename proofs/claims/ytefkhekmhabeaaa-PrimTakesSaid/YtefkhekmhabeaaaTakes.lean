/-
  The walk of the statement PrimTakes: true.
-/
import Derived.Test.YtefkhekmhabeaaaAwake
import Derived.Test.YtefkhekmhabeaaaRefRun
import Derived.StillTailTactics
namespace Go.Proofs.Ytefkhekmhabeaaa
open Go.RowKit

theorem own_slice {w : World} {base e size n : Nat} {v : Value} {xs : List Value} (h : w.ownsRow base e size v n xs) (hn : 0 < n) : ∃ g cap, v = .slice (some ⟨g, 0, none⟩) n cap ∧ base ≤ g ∧ g < w.heap.size := by
  rcases h.2 with ⟨_, rfl⟩ | ⟨g, cap, cur, rfl, hb, hg, _⟩
  · omega
  · exact ⟨g, cap, rfl, hb, (Array.getElem?_eq_some_iff.1 hg).1⟩

/-- Run, of one step or more: its lists lie in blocks of their own; what stands in them. -/
theorem run_pos (s : ByteArray) (a : Option Addr) (len cap : Nat) (zs : List Stp) (hs : s.size ≤ 200) (hl : len ≤ 40) (hp : 0 < len) (w : World) (hz : StepsAt w a len zs) :
    Calls Try.prog 15 #[.string s, .slice a len cap] w fun e w' => ∃ g8 c8 g9 c9, e = .returned (.tuple #[.slice (some ⟨g8, 0, none⟩) len c8, .slice (some ⟨g9, 0, none⟩) len c9, .int .i64 ((stAt s zs len).1.size : Nat), .bool (stAt s zs len).2]) ∧
      g8 < w'.heap.size ∧ g9 < w'.heap.size ∧ (∀ k, k < len → w'.cell? ⟨g8, k, none⟩ = some (.int .u64 ((ansAt s zs k).1 : Nat))) ∧ (∀ k, k < len → w'.cell? ⟨g9, k, none⟩ = some (.string (ansAt s zs k).2.1)) ∧ Below w.heap.size w w' := by
  refine (run_any s a len cap zs hs hl w hz).mono ?_
  rintro e w' ⟨v8, v9, rfl, h8, h9, hb⟩
  obtain ⟨g8, c8, rfl, _, l8⟩ := own_slice h8 hp
  obtain ⟨g9, c9, rfl, _, l9⟩ := own_slice h9 hp
  refine ⟨g8, c8, g9, c9, rfl, l8, l9, fun k hk => ?_, fun k hk => ?_, hb⟩
  · rw [h8.cellAt k (by omega)]; simp [nums, hk]
  · rw [h9.cellAt k (by omega)]; simp [strs, hk]

theorem StepsAt.kept {w w' : World} {a : Option Addr} {len : Nat} {zs : List Stp} (h : StepsAt w a len zs) (hb : Below w.heap.size w w') : StepsAt w' a len zs := h.below hb

theorem cell_kept {w w' : World} {g j b : Nat} {v : Value} (h : w.cell? ⟨b, j, none⟩ = some v) (hl : b < w.heap.size) (hg : w.grownBy w' (some g)) (hne : b ≠ g) : w'.cell? ⟨b, j, none⟩ = some v :=
  (World.cell?_of_block (hg.block b hl (fun e => hne (by injection e)))).trans h

set_option maxRecDepth 100000 in
set_option maxHeartbeats 6400000 in
theorem takes_yes (s : ByteArray) (a : Option Addr) (len cap : Nat) (zs : List Stp) (hs : s.size ≤ 200) (hl : len ≤ 40) (hp : 0 < len) (w : World) (hz : StepsAt w a len zs) :
    Calls Try.prog 4 #[.string s, .slice a len cap] w fun e w' => e = .returned (.bool true) ∧ Below w.heap.size w w' := by
  have HZ := Lib.hid hz
  clear hz
  go_enter Try.func4, Try.ntmps4
  go_wp2_with fail
  refine (awake_any _).mono ?_
  rintro e w1 ⟨rfl, hb1⟩
  have H1 := Lib.hid hb1
  have HZ1 := Lib.hid (HZ.out.below hb1)
  clear hb1
  go_wp2_with fail
  obtain ⟨⟨sf, bf⟩, ef⟩ : ∃ st, stAt s zs len = st := ⟨_, rfl⟩
  have KR := run_pos s a len cap zs hs hl hp w1 HZ1.out
  rw [ef] at KR
  have EF := Lib.hid ef
  clear ef
  refine KR.mono ?_
  clear KR
  rintro e w2 ⟨g8, c8, g9, c9, rfl, l8, l9, r8, r9, hb2⟩
  have H2 := Lib.hid (H1.out.trans (hb2.mono H1.out.size))
  have R8 := Lib.hid r8
  have R9 := Lib.hid r9
  clear hb2 HZ1 H1 r8 r9
  go_wp2_with fail
  refine (new_any s _).mono ?_
  rintro e w3 ⟨rfl, hc3, hb3⟩
  have C3 := Lib.hid hc3
  have H3 := Lib.hid (H2.out.trans (hb3.mono H2.out.size))
  have R8' := Lib.hid (fun k hk => (hb3.cell (p := ⟨g8, k, none⟩) l8).trans (R8.out k hk))
  have R9' := Lib.hid (fun k hk => (hb3.cell (p := ⟨g9, k, none⟩) l9).trans (R9.out k hk))
  have GE := H2.out.size
  have lt3 := hc3.lt
  generalize w2.heap.size = g at *
  clear hc3 hb3 R8 R9 H2
  go_wp2_with fail
  go_loopg [10] len (fun gk i wr => ∃ (k : Nat) (sk : ByteArray) (bk : Bool), k ≤ len ∧ gk = len - k ∧ i = .int .i64 k ∧ Hid (stAt s zs k = (sk, bk)) ∧ sk.size ≤ s.size ∧ CurAt wr g sk bk ∧ w3.grownBy wr (some g))
  case atStart => exact ⟨0, s, false, Nat.zero_le _, rfl, rfl, Lib.hid rfl, Nat.le_refl _, C3.out, grownBy_refl _ _⟩
  case round =>
    obtain ⟨k, sk, bk, hk, rfl, rfl, hst, hsk, hc, hg⟩ := hrel
    have HC := Lib.hid hc
    have HG := Lib.hid hg
    have hmx : sk.size ≤ maxLen := by unfold maxLen; omega
    have HM := Lib.hid hmx
    have HB := Lib.hid (below_grown H3.out hg GE)
    clear hc hg hmx
    by_cases hlt : k < len
    · obtain ⟨b, off, rfl, hbl, hk256, c0, c1, c2⟩ := (HZ.out.below HB.out).2 k hlt
      obtain ⟨⟨kd, sz, bg⟩, ez⟩ : ∃ z, zs.getD k dflt = z := ⟨_, rfl⟩
      rw [ez] at c0 c1 c2 hk256
      have EZ := Lib.hid ez
      clear ez
      go_upto_block 2 with fail
      go_cut [11, 12] (fun x y wc => ∃ (X : Nat) (Y s' : ByteArray) (b' : Bool), x = .int .u64 X ∧ y = .string Y ∧ Hid (stepA sk bk (kd, sz, bg) = (X, Y, s', b')) ∧ Hid (CurAt wc g s' b') ∧ Hid (w3.grownBy wc (some g)))
      case first =>
        by_cases h0 : kd % 4 = 0
        · have t0 : ((kd : Int) % 4 == 0) = true := by simp; omega
          have HA := Lib.hid (stepA0 (s := sk) (b := bk) (z := (kd, sz, bg)) h0)
          clear h0
          go_wp2_with (go_at_call 17; refine (cur_uint g sk bk _ HM.out HC.out).mono ?_; rintro e w4 ⟨rfl, hc2, hg2⟩)
          go_meet
          case rel => exact ⟨_, _, _, _, rfl, rfl, HA, Lib.hid hc2, Lib.hid (grownBy_trans HG.out hg2)⟩
        · have f0 : ((kd : Int) % 4 == 0) = false := by simp; omega
          by_cases h1 : kd % 4 = 1
          · have t1 : ((kd : Int) % 4 == 1) = true := by simp; omega
            have HA := Lib.hid (stepA1 (s := sk) (b := bk) (z := (kd, sz, bg)) h1)
            clear h0 h1
            go_upto_region 13 with fail
            go_still_tail 11, (by kernel_rfl)
            change wpList _ _ _ _ _ wr.drew
            go_wp2_with (go_at_call 18; refine (cur_fixed g sk bk sz bg wr.drew HM.out HC.out).mono ?_; rintro e w4 ⟨rfl, hc2, hg2⟩)
            go_meet
            case rel => exact ⟨_, _, _, _, rfl, rfl, HA, Lib.hid hc2, Lib.hid (grownBy_trans HG.out (grownBy_trans (w1 := wr.drew) ⟨rfl, rfl, rfl, Nat.le_refl _, fun _ _ _ => rfl⟩ hg2))⟩
          · have f1 : ((kd : Int) % 4 == 1) = false := by simp; omega
            by_cases h2 : kd % 4 = 2
            · have t2 : ((kd : Int) % 4 == 2) = true := by simp; omega
              have HA := Lib.hid (stepA2 (s := sk) (b := bk) (z := (kd, sz, bg)) h2)
              clear h0 h1 h2
              go_wp2_with (go_at_call 19; refine (cur_bytes g sk bk sz _ HM.out HC.out).mono ?_; rintro e w4 ⟨rfl, hc2, hg2⟩)
              go_meet
              case rel => exact ⟨_, _, _, _, rfl, rfl, HA, Lib.hid hc2, Lib.hid (grownBy_trans HG.out hg2)⟩
            · have f2 : ((kd : Int) % 4 == 2) = false := by simp; omega
              have t3 : ((kd : Int) % 4 == 3) = true := by simp; omega
              have HA := Lib.hid (stepA3 (s := sk) (b := bk) (z := (kd, sz, bg)) (show kd % 4 = 3 by omega))
              clear h0 h1 h2
              go_wp2_with (go_at_call 20; refine (cur_text g sk bk _ HM.out HC.out).mono ?_; rintro e w4 ⟨rfl, hc2, hg2⟩)
              go_meet
              case rel => exact ⟨_, _, _, _, rfl, rfl, HA, Lib.hid hc2, Lib.hid (grownBy_trans HG.out hg2)⟩
      case rest =>
        obtain ⟨X, Y, s', b', rfl, rfl, HA, HC2, HG2⟩ := hcut
        have ha := ans_of hst.out EZ.out HA.out
        have d8 := cell_kept (R8'.out k hlt) (Nat.lt_trans l8 lt3) HG2.out (by omega)
        have d9 := cell_kept (R9'.out k hlt) (Nat.lt_trans l9 lt3) HG2.out (by omega)
        have hnx := (step_next hst.out EZ.out HA.out).1
        have hle := stAt_le s zs (k + 1)
        rw [ha] at d8 d9
        rw [hnx] at hle
        have HX := Lib.hid hnx
        clear ha c0 c1 c2 hnx
        go_wp2_with fail
        go_roundg (len - (k + 1))
        case measure => omega
        case rel => exact ⟨k + 1, s', b', by omega, rfl, by go_num, HX, hle, HC2.out, HG2.out⟩
    · obtain rfl : k = len := by omega
      have hend := hst.out.symm.trans EF.out
      simp only [Prod.mk.injEq] at hend
      obtain ⟨rfl, rfl⟩ := hend
      by_cases h0 : sk.size = 0
      · have b1 : (sk.size == 0) = true := by simpa using h0
        have b2 : ((sk.size : Int) == 0) = true := by rw [h0]; rfl
        clear h0
        cases bk
        all_goals
          go_wp2_with (first
            | (go_at_call 21; refine (bad_any g sk _ _ HC.out).mono ?_; rintro e w' ⟨rfl, rfl⟩)
            | (go_at_call 22; refine (left_any g sk _ _ HM.out HC.out).mono ?_; rintro e w' ⟨rfl, rfl⟩)
            | (go_at_call 23; refine (done_any g sk _ _ HM.out HC.out).mono ?_; rintro e w' ⟨rfl, rfl⟩))
          go_ret
          exact ⟨rfl, HB.out⟩
      · have b1 : (sk.size == 0) = false := by simpa using h0
        have b2 : ((sk.size : Int) == 0) = false := by simp only [beq_eq_false_iff_ne, ne_eq]; omega
        clear h0
        cases bk
        all_goals
          go_wp2_with (first
            | (go_at_call 21; refine (bad_any g sk _ _ HC.out).mono ?_; rintro e w' ⟨rfl, rfl⟩)
            | (go_at_call 22; refine (left_any g sk _ _ HM.out HC.out).mono ?_; rintro e w' ⟨rfl, rfl⟩)
            | (go_at_call 23; refine (done_any g sk _ _ HM.out HC.out).mono ?_; rintro e w' ⟨rfl, rfl⟩))
          go_ret
          exact ⟨rfl, HB.out⟩
set_option maxRecDepth 100000 in
set_option maxHeartbeats 3200000 in
theorem takes_zero (s : ByteArray) (a : Option Addr) (cap : Nat) (hs : s.size ≤ 200) (w : World) :
    Calls Try.prog 4 #[.string s, .slice a 0 cap] w fun e w' => e = .returned (.bool true) ∧ Below w.heap.size w w' := by
  have hz : ∀ w, StepsAt w a 0 [] := fun w => ⟨rfl, fun i hi => by omega⟩
  have hmx : s.size ≤ maxLen := by unfold maxLen; omega
  have HM := Lib.hid hmx
  clear hmx
  have KR := fun w => Lib.hid (run_any s a 0 cap [] hs (by omega) w (hz w))
  have HR := Lib.hid KR
  clear KR hz
  by_cases h0 : s.size = 0
  case pos =>
    have b1 : (s.size == 0) = true := by simpa using h0
    have b2 : ((s.size : Int) == 0) = true := by rw [h0]; rfl
    clear h0
    go_enter Try.func4, Try.ntmps4
    go_wp2_with fail
    refine (awake_any _).mono ?_
    rintro e w1 ⟨rfl, hb1⟩
    have H1 := Lib.hid hb1
    clear hb1
    go_wp2_with fail
    refine (HR.out _).out.mono ?_
    rintro e w2 ⟨v8, v9, rfl, -, -, hb2⟩
    have H2 := Lib.hid (H1.out.trans (hb2.mono H1.out.size))
    clear hb2 H1
    rw [show stAt s [] 0 = (s, false) from rfl]
    go_wp2_with fail
    refine (new_any s _).mono ?_
    rintro e w3 ⟨rfl, hc3, hb3⟩
    have C3 := Lib.hid hc3
    have H3 := Lib.hid (H2.out.trans (hb3.mono H2.out.size))
    generalize w2.heap.size = g at *
    clear hc3 hb3 H2
    go_wp2_with fail
    refine wp_loop_rounds 1 ?_
    rw [rounds_succ]
    go_wp2_with (first
      | (go_at_call 21; refine (bad_any g s _ _ C3.out).mono ?_; rintro e w' ⟨rfl, rfl⟩)
      | (go_at_call 22; refine (left_any g s _ _ HM.out C3.out).mono ?_; rintro e w' ⟨rfl, rfl⟩)
      | (go_at_call 23; refine (done_any g s _ _ HM.out C3.out).mono ?_; rintro e w' ⟨rfl, rfl⟩))
    go_ret
    exact ⟨rfl, H3.out⟩
  case neg =>
    have b1 : (s.size == 0) = false := by simpa using h0
    have b2 : ((s.size : Int) == 0) = false := by simp only [beq_eq_false_iff_ne, ne_eq]; omega
    clear h0
    go_enter Try.func4, Try.ntmps4
    go_wp2_with fail
    refine (awake_any _).mono ?_
    rintro e w1 ⟨rfl, hb1⟩
    have H1 := Lib.hid hb1
    clear hb1
    go_wp2_with fail
    refine (HR.out _).out.mono ?_
    rintro e w2 ⟨v8, v9, rfl, -, -, hb2⟩
    have H2 := Lib.hid (H1.out.trans (hb2.mono H1.out.size))
    clear hb2 H1
    rw [show stAt s [] 0 = (s, false) from rfl]
    go_wp2_with fail
    refine (new_any s _).mono ?_
    rintro e w3 ⟨rfl, hc3, hb3⟩
    have C3 := Lib.hid hc3
    have H3 := Lib.hid (H2.out.trans (hb3.mono H2.out.size))
    generalize w2.heap.size = g at *
    clear hc3 hb3 H2
    go_wp2_with fail
    refine wp_loop_rounds 1 ?_
    rw [rounds_succ]
    go_wp2_with (first
      | (go_at_call 21; refine (bad_any g s _ _ C3.out).mono ?_; rintro e w' ⟨rfl, rfl⟩)
      | (go_at_call 22; refine (left_any g s _ _ HM.out C3.out).mono ?_; rintro e w' ⟨rfl, rfl⟩)
      | (go_at_call 23; refine (done_any g s _ _ HM.out C3.out).mono ?_; rintro e w' ⟨rfl, rfl⟩))
    go_ret
    exact ⟨rfl, H3.out⟩

set_option maxHeartbeats 1600000 in
theorem takes_no (s : ByteArray) (a : Option Addr) (len cap : Nat) (hs : s.size ≤ maxLen) (hl : len ≤ maxLen) (h : 200 < s.size ∨ 40 < len) (w : World) :
    Calls Try.prog 4 #[.string s, .slice a len cap] w fun e w' => e = .returned (.bool true) ∧ Below w.heap.size w w' := by
  unfold maxLen at hs hl
  by_cases h1 : 200 < s.size
  case pos =>
    go_enter Try.func4, Try.ntmps4
    go_wp2_with fail
    refine (awake_any _).mono ?_
    rintro e w1 ⟨rfl, hb1⟩
    go_wp2_with fail
    refine (awake_any _).mono ?_
    rintro e w2 ⟨rfl, hb2⟩
    go_wp2_with fail
    go_ret
    exact ⟨rfl, hb1.trans (hb2.mono hb1.size)⟩
  case neg =>
    have h2 : 40 < len := by omega
    go_enter Try.func4, Try.ntmps4
    go_wp2_with fail
    refine (awake_any _).mono ?_
    rintro e w1 ⟨rfl, hb1⟩
    go_wp2_with fail
    refine (awake_any _).mono ?_
    rintro e w2 ⟨rfl, hb2⟩
    go_wp2_with fail
    go_ret
    exact ⟨rfl, hb1.trans (hb2.mono hb1.size)⟩

end Go.Proofs.Ytefkhekmhabeaaa
