/-
  OracleRises from what is asked of the program's oracle.
-/
import Derived.Test.YtbekgmcchecnkaaOraPlays
namespace Go.Proofs.Ytbekgmcchecnkaa
open Go.RowKit
set_option linter.unusedVariables false
set_option linter.unnecessarySimpa false
set_option linter.unusedSimpArgs false
set_option maxRecDepth 100000

theorem oraPlays_no (S : OraC) (L : Nat) (a : Option Addr) (len cap : Nat) (w : World) (hlen : 300 < len) :
    Calls Try.prog 3 #[.int .u64 L, .slice a len cap] w fun e w' => e = .returned (.bool true) ∧ Below w.heap.size w w' := by
  have haw := Lib.hid (oawake_any S)
  have hl2 : decide ((300 : Int) < (len : Int)) = true := by simp; omega
  have hl3 : decide (300 < len) = true := by simp; omega
  go_enter Try.func3, Try.ntmps3
  go_upto_region 2 with (go_at_call 5; refine (haw.out _).mono ?_; rintro e w1 ⟨rfl, hb1⟩; have HB1 := Lib.hid hb1; clear hb1)
  go_wp2_with (go_at_call 5; refine (haw.out _).mono ?_; rintro e w2 ⟨rfl, hb2⟩; have HB2 := Lib.hid hb2; clear hb2)
  go_ret
  exact ⟨rfl, HB1.out.trans (HB2.out.mono HB1.out.size)⟩

theorem oraRises_no (S : OraC) (a : Option Addr) (len cap : Nat) (w : World) (hlen : 20 < len) :
    Calls Try.prog 4 #[.slice a len cap] w fun e w' => e = .returned (.bool true) ∧ Below w.heap.size w w' := by
  have haw := Lib.hid (oawake_any S)
  have hl2 : decide ((20 : Int) < (len : Int)) = true := by simp; omega
  have hl3 : decide (20 < len) = true := by simp; omega
  go_enter Try.func4, Try.ntmps4
  go_upto_region 2 with (go_at_call 5; refine (haw.out _).mono ?_; rintro e w1 ⟨rfl, hb1⟩; have HB1 := Lib.hid hb1; clear hb1)
  go_wp2_with (go_at_call 5; refine (haw.out _).mono ?_; rintro e w2 ⟨rfl, hb2⟩; have HB2 := Lib.hid hb2; clear hb2)
  go_ret
  exact ⟨rfl, HB1.out.trans (HB2.out.mono HB1.out.size)⟩

theorem oRises_math {x y : Nat} (h : x ≤ y) (hy : y < 1000000) : (if x = y then oWantR x y = true ∧ oWantV x y = y + 100 else oWantR x y = false) := by
  unfold oWantR oWantV oMax
  split
  · rename_i e
    subst e
    refine ⟨by simp; omega, ?_⟩
    rw [if_pos (by constructor; rfl; omega)]
    omega
  · rename_i e
    simp [e]

set_option maxHeartbeats 8000000 in
theorem oraRises_yes (S : OraC) (a : Option Addr) (len cap : Nat) (l : List UInt8) (w : World) (hz : BytesAt w a len l) (hlen : len ≤ 20) :
    Calls Try.prog 4 #[.slice a len cap] w fun e w' => e = .returned (.bool true) ∧ Below w.heap.size w w' := by
  have haw := Lib.hid (oawake_any S)
  have HZ := Lib.hid hz
  have hl2 : decide ((20 : Int) < (len : Int)) = false := by simp; omega
  have hl3 : decide (20 < len) = false := by simp; omega
  clear hz
  go_enter Try.func4, Try.ntmps4
  go_upto_region 5 with (go_at_call 5; refine (haw.out _).mono ?_; rintro e w1 ⟨rfl, hb1⟩; have HB1 := Lib.hid hb1; clear hb1)
  clear haw
  go_loopg [3, 4, 5] len (fun q s3 s4 s5 wx => ∃ (i x y : Nat), i + q = len ∧ s5 = .int .i64 i ∧ s3 = .int .u64 y ∧ s4 = .int .u64 x ∧ x ≤ y ∧ y ≤ 100 * (256 * i) ∧ Hid (Below w1.heap.size w1 wx))
  case atStart => exact ⟨0, 0, 0, by omega, rfl, rfl, rfl, by omega, by omega, Lib.hid (Below.refl _ _)⟩
  case round =>
    obtain ⟨i, x, y, hiq, rfl, rfl, rfl, hxy, hy, HB⟩ := hrel
    by_cases hlt : i < len
    · obtain ⟨q, rfl⟩ : ∃ q, gk = q + 1 := ⟨gk - 1, by omega⟩
      have hiz : (i : Int) < (len : Int) := by omega
      obtain ⟨b, off, rfl, hbl, hcs⟩ := HZ.out.2 (by omega)
      have k0 := hcs i hlt
      obtain ⟨nl, hnl⟩ : ∃ nl, nl = (l.getD i 0).toNat := ⟨_, rfl⟩
      rw [← hnl] at k0
      have hn256 : nl < 256 := by rw [hnl]; exact UInt8.toNat_lt _
      have hwr : IntKind.i64.wrap (nl : Int) = (nl : Int) := IntWalk.i64_in _ (by omega)
      clear hcs hnl
      have HN := Lib.hid (ost_new S HB.out HB.out.size (far := fun _ => False) (fun k hk => hk.elim) y (by unfold oMax; omega))
      go_upto_region 8 with (go_at_call 6; refine HN.out.mono ?_; rintro e w2 ⟨r, rfl, hs, _⟩; have HS2 := Lib.hid hs; clear hs)
      have HK0 := Lib.hid k0
      clear HN k0
      go_upto_region 9 with fail
      have HS2' := HS2
      go_loopg [3, 4, 7] nl (fun p s3 s4 s7 wx => ∃ (k x2 a2 y2 : Nat), k + p = nl ∧ s7 = .int .i64 k ∧ s3 = .int .u64 y2 ∧ s4 = .int .u64 x2 ∧ x2 ≤ a2 ∧ a2 ≤ y2 ∧ y2 ≤ 100 * (256 * i) + 100 * k ∧ Hid (OSt S w1 w1.heap.size (fun _ => False) r a2 y2 wx))
      case atStart => exact ⟨0, x, y, y, by omega, rfl, rfl, rfl, by omega, by omega, by omega, HS2⟩
      case round =>
        obtain ⟨k, x2, a2, y2, hkq, rfl, rfl, rfl, hxa, hay, hyb, HS⟩ := hrel
        clear HS2 HS2'
        have hbw := Lib.hid (HB1.out.trans (HS.out.below.mono HB1.out.size))
        have k0 := HK0.out
        rw [← hbw.out.cell (p := ⟨b, off + i, none⟩) hbl] at k0
        by_cases hk : k < nl
        · obtain ⟨p, rfl⟩ : ∃ p, gk = p + 1 := ⟨gk - 1, by omega⟩
          have hkz : (k : Int) < (nl : Int) := by omega
          have hm := oRises_math hay (by omega)
          by_cases he : a2 = y2
          · rw [if_pos he] at hm
            subst he
            have HW := Lib.hid HS.out.want
            rw [hm.1, hm.2] at HW
            have n1 : oNextV a2 (a2 + 100) = a2 + 1 := by unfold oNextV; rw [if_neg (by omega)]
            have n2 : oNextA a2 (a2 + 100) = a2 + 1 := by unfold oNextA; rw [if_neg (by omega)]
            have n3 : oNextR a2 (a2 + 100) = true := by simp [oNextR]
            have n4 : max a2 (a2 + 100) = a2 + 100 := by omega
            have hNo := Lib.hid (fun W (hs : OSt S w1 w1.heap.size (fun _ => False) r a2 a2 W) => hs.noted (a2 + 100) (by unfold oMax; omega))
            rw [n4] at hNo
            have hNx := Lib.hid (fun W (hs : OSt S w1 w1.heap.size (fun _ => False) r a2 (a2 + 100) W) => hs.next)
            rw [n1, n2, n3] at hNx
            have e1 : decide (((a2 + 1 : Nat) : Int) ≤ (x2 : Int)) = false := by simp; omega
            have e1b : decide (a2 + 1 ≤ x2) = false := by simp; omega
            have e2 : decide (((a2 + 100 : Nat) : Int) < ((a2 + 1 : Nat) : Int)) = false := by simp
            have e2b : decide (a2 + 100 < a2 + 1) = false := by simp
            obtain ⟨t, ht⟩ : ∃ t, t = a2 + 1 := ⟨_, rfl⟩
            obtain ⟨u, hu⟩ : ∃ u, u = a2 + 100 := ⟨_, rfl⟩
            rw [← hu] at HW hNo hNx e2 e2b
            rw [← ht] at hNx e1 e1b e2 e2b
            have HT := Lib.hid ht
            have HU := Lib.hid hu
            clear n1 n2 n3 n4 hm ht hu HS
            go_wp2_with (first
              | (go_at_call 8; refine HW.out.mono ?_; rintro e w5 ⟨rfl, hs5, _⟩; have HS5 := Lib.hid (hNo.out _ hs5); clear hs5)
              | (go_at_call 9; refine HS5.out.mono ?_; rintro e w6 ⟨rfl, hs6, _⟩; have HS6 := Lib.hid (hNx.out _ hs6); clear hs6)
              | (go_at_call 7; refine HS6.out.mono ?_; rintro e w7 ⟨rfl, hs7, _⟩; have HS7 := Lib.hid hs7; clear hs7))
            go_roundg p
            case measure => omega
            case rel => exact ⟨k + 1, t, t, u, by omega, by go_num, rfl, rfl, Nat.le_refl _, by rw [HT.out, HU.out]; omega, by rw [HU.out]; omega, HS7⟩
          · rw [if_neg he] at hm
            have hv : oWantV a2 y2 = 0 := by unfold oWantV; rw [if_neg (fun h => he h.1)]
            have HW := Lib.hid HS.out.want
            rw [hm, hv] at HW
            have n1 : oNextV a2 y2 = a2 + 1 := by unfold oNextV; rw [if_neg he]
            have n2 : oNextA a2 y2 = a2 + 1 := by unfold oNextA; rw [if_neg he]
            have n3 : oNextR a2 y2 = true := by simp [oNextR, he]
            have hNx := Lib.hid (fun W (hs : OSt S w1 w1.heap.size (fun _ => False) r a2 y2 W) => hs.next)
            rw [n1, n2, n3] at hNx
            have e1 : decide (((a2 + 1 : Nat) : Int) ≤ (x2 : Int)) = false := by simp; omega
            have e1b : decide (a2 + 1 ≤ x2) = false := by simp; omega
            have e2 : decide ((y2 : Int) < ((a2 + 1 : Nat) : Int)) = false := by simp; omega
            have e2b : decide (y2 < a2 + 1) = false := by simp; omega
            obtain ⟨t, ht⟩ : ∃ t, t = a2 + 1 := ⟨_, rfl⟩
            rw [← ht] at hNx e1 e1b e2 e2b
            have HT := Lib.hid ht
            have hty := Lib.hid (show t ≤ y2 by omega)
            clear n1 n2 n3 hm hv ht HS
            go_wp2_with (first
              | (go_at_call 8; refine HW.out.mono ?_; rintro e w5 ⟨rfl, hs5, _⟩; have HS5 := Lib.hid (hNx.out _ hs5); clear hs5)
              | (go_at_call 7; refine HS5.out.mono ?_; rintro e w7 ⟨rfl, hs7, _⟩; have HS7 := Lib.hid hs7; clear hs7))
            go_roundg p
            case measure => omega
            case rel => exact ⟨k + 1, t, t, y2, by omega, by go_num, rfl, rfl, Nat.le_refl _, hty.out, by omega, HS7⟩
        · obtain rfl : k = nl := by omega
          obtain rfl : gk = 0 := by omega
          have hkz : ¬ (k : Int) < (k : Int) := by omega
          go_wp2_with fail
          go_roundg q
          case measure => omega
          case rel => exact ⟨i + 1, x2, y2, by omega, by go_num, rfl, rfl, by omega, by omega, Lib.hid HS.out.below⟩
    · obtain rfl : i = len := by omega
      obtain rfl : gk = 0 := by omega
      have hiz : ¬ (i : Int) < (i : Int) := by omega
      have hb := Lib.hid (HB1.out.trans (HB.out.mono HB1.out.size))
      go_wp2_with fail
      go_ret
      exact ⟨rfl, hb.out⟩
end Go.Proofs.Ytbekgmcchecnkaa
