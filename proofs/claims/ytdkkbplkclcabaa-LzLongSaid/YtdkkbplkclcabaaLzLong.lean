/-
  The walk of the statement LzLong: true.
-/
import Derived.Test.YtdkkbplkclcabaaLzContracts
namespace Go.Proofs.Ytdkkbplkclcabaa
open Go.RowKit
set_option linter.unnecessarySimpa false
set_option linter.unusedVariables false
set_option linter.unusedSimpArgs false
set_option maxRecDepth 100000

def filled (k i : Nat) (c : UInt8) : List UInt8 := cellsF k fun j => if j < i then c else 0
theorem filled_len (k i : Nat) (c : UInt8) : (filled k i c).length = k := cellsF_length _ _

set_option maxRecDepth 100000 in
set_option maxHeartbeats 4000000 in
theorem lzLong_of (hU : UnpackOK) (hP : PackOK) (hL : PackLong) (a0 : Int) (w0 : (Lit.int .u32 a0).wf = true) (a1 : Int) (w1 : (Lit.int .u8 a1).wf = true) (w : World) :
    Calls Try.prog 6 #[.int .u32 a0, .int .u8 a1] w fun e w' => e = .returned (.bool true) ∧ Below w.heap.size w w' := by
  obtain ⟨i0, hi, hz0, hz1, hz2⟩ := info_parts u8info
  have haw := Lib.hid (lzAwake_any hU)
  have hbd := bounds_u8 w1
  have hbn := bounds_u32 w0
  obtain ⟨n, rfl⟩ : ∃ n : Nat, a0 = n := ⟨a0.toNat, by omega⟩
  obtain ⟨c, rfl⟩ : ∃ c : UInt8, a1 = (c.toNat : Int) := ⟨UInt8.ofNat a1.toNat, by simp only [UInt8.toNat_ofNat']; omega⟩
  obtain ⟨k, hk⟩ : ∃ k, k = n % 70000 := ⟨_, rfl⟩
  have hkz : (n : Int) % 70000 = (k : Int) := by omega
  have hkl : k < 70000 := by omega
  clear hbd hbn w1 w0 hk
  go_enter Try.func6, Try.ntmps6
  go_upto_region 3 with (go_at_call 7; refine (haw.out _).mono ?_; rintro e w1 ⟨rfl, hb1⟩)
  have HB1 := Lib.hid hb1
  clear hb1
  go_wp2_with (at_make; refine wpList_make_full _ rfl _ _ 34 rfl w1.heap.size 5 i0 (.int .u8 0) 1 Try.underlying34 hi hz0 hz1 _ _ _ _ k rfl rfl rfl rfl ?c1 ?c2 ?c3 ?c4)
  case c1 => rw [hz2]; omega
  case c2 => unfold maxLen; omega
  case c3 => exact Nat.le_refl _
  case c4 =>
    intro w2 hown2 hg2
    rw [zeros_cellsF] at hown2
    have HB2 := Lib.hid (show Below w1.heap.size w1 w2 from (Below.refl _ _).grown hg2 (Nat.le_refl _) (by simp))
    have HO2 := Lib.hid (show w2.ownsRow w1.heap.size 5 1 (.slice (some ⟨w1.heap.size, 0, none⟩) k k) k (Lib.byteCells (filled k 0 c)) by simpa [filled] using hown2)
    clear hg2 hown2
    obtain ⟨g0, hg0⟩ : ∃ g0, g0 = w1.heap.size := ⟨_, rfl⟩
    rw [← hg0] at HO2 HB2
    rw [← hg0]
    have HG := Lib.hid (show w.heap.size ≤ g0 by rw [hg0]; exact HB1.out.size)
    clear hg0
    go_wp2_with fail
    go_loopg [7] k (fun q s7 wx => ∃ i : Nat, i + q = k ∧ s7 = .int .i64 i ∧ Hid (wx.ownsRow g0 5 1 (.slice (some ⟨g0, 0, none⟩) k k) k (Lib.byteCells (filled k i c))) ∧ Hid (Below g0 w1 wx))
    case atStart => exact ⟨0, by omega, rfl, HO2, HB2⟩
    case round =>
      obtain ⟨i, hig, rfl, ho, hb⟩ := hrel
      by_cases hlt : i < k
      · obtain ⟨q, rfl⟩ : ∃ q, gk = q + 1 := ⟨gk - 1, by omega⟩
        have hiz : (i : Int) < (k : Int) := by omega
        have hfz := ho.out.frozenAt i
        have hcl := ho.out.cellAt i (by omega)
        have hat : (Lib.byteCells (filled k i c))[i]? = some (.int .u8 0) := by simp [Lib.byteCells, filled, cellsF, hlt]
        rw [hat] at hcl
        clear hat
        have hst := Lib.hid (ho.out.stored i (.int .u8 (c.toNat : Int))).1
        have hnx := Lib.hid (cellsF_next (size := k) (P := fun j => j < i) (P' := fun j => j < i + 1) (p := i) (g := fun _ => c) (fun j _ => by omega))
        go_wp2_with fail
        go_roundg q
        case measure => omega
        case rel => exact ⟨i + 1, by omega, by simp, Lib.hid (by have h := hst.out; unfold filled at h; rw [hnx.out] at h; exact h), Lib.hid (hb.out.setCell (Nat.le_refl _) _)⟩
      · obtain rfl : i = k := by omega
        have hiz : ¬ (i : Int) < (i : Int) := by omega
        have hconv := convert_own (P := Try.prog) (src := 34) (dst := 9) ho.out (by simp) Try.underlying34 Try.underlying5 Try.underlying9
        obtain ⟨B, hB⟩ : ∃ B : ByteArray, B = ⟨(filled i i c).toArray⟩ := ⟨_, rfl⟩
        have hBs : B.size = i := by rw [hB]; show (filled i i c).toArray.size = i; rw [List.size_toArray, filled_len]
        rw [← hB] at hconv
        have HBQ := Lib.hid hB
        clear hB
        by_cases hbig : 60000 < i
        · have hbz : (60000 : Int) < (i : Int) := by omega
          have hp := Lib.hid (fun w => hL B w (by omega) (by omega))
          clear hbig
          go_wp2_with (go_at_call 8; refine (hp.out _).mono ?_; rintro e w3 ⟨rfl, hb3⟩)
          go_ret
          exact ⟨rfl, (HB1.out.trans (hb.out.mono HG.out)).trans (hb3.mono (HB1.out.trans (hb.out.mono HG.out)).size)⟩
        · have hbz : ¬ (60000 : Int) < (i : Int) := by omega
          have hp := Lib.hid (fun w => hP B w (by omega))
          have HBs := Lib.hid (show B.size ≤ 60000 by omega)
          have HU := Lib.hid hU
          have HCV := Lib.hid (fun (x : World) (h : Below wr.heap.size wr x) => convert_own (P := Try.prog) (src := 34) (dst := 9) (own_below ho.out h) (by simp) Try.underlying34 Try.underlying5 Try.underlying9)
          clear hbig
          go_upto_region 12 with (go_at_call 8; refine (hp.out _).mono ?_; rintro e w3 ⟨p, rfl, hpu, hps, hb3⟩)
          have hu := Lib.hid (fun w => HU.out p w (by have := HBs.out; omega))
          rw [hpu] at hu
          simp only [ba_of] at hu
          clear hpu hps
          go_wp2_with (go_at_call 9; refine (hu.out _).mono ?_; rintro e w4 ⟨rfl, hb4⟩; have hcv4 := HCV.out w4 (hb3.trans (hb4.mono hb3.size)); rw [← HBQ.out] at hcv4)
          go_ret
          have hB3 := (HB1.out.trans (hb.out.mono HG.out)).trans (hb3.mono (HB1.out.trans (hb.out.mono HG.out)).size)
          exact ⟨rfl, hB3.trans (hb4.mono hB3.size)⟩
end Go.Proofs.Ytdkkbplkclcabaa
