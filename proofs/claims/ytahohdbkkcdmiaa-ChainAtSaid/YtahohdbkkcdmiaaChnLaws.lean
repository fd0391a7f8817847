/-
  ChainBack, ChainDecodes, ChainAt from what is asked of the program's chains.
-/
import Derived.Test.YtahohdbkkcdmiaaChnContracts
namespace Go.Proofs.Ytahohdbkkcdmiaa
open Go.RowKit
set_option linter.unusedVariables false
set_option linter.unnecessarySimpa false
set_option linter.unusedSimpArgs false
set_option maxRecDepth 100000

set_option maxHeartbeats 2000000 in
theorem chainBack_of (C : ChnC) (a : Option Addr) (len cap : Nat) (zs : List Vr) (w : World) (hz : IsVers w a len cap zs) :
    Calls Try.prog 3 #[.slice a len cap] w fun e w' => e = .returned (.bool true) ∧ Below w.heap.size w w' := by
  have haw := Lib.hid (cawake_any C)
  by_cases hf : FewVers zs 60
  · have hl60 : len ≤ 60 := by rw [← hz.1.1]; exact hf.2
    obtain ⟨hs5, hall⟩ := few_mem hf (by decide)
    have hs6 : ∀ v ∈ zs, v.val.size ≤ 60000 := fun v h => Nat.le_trans (hs5 v h) (by decide)
    have HF := Lib.hid (fun W (hb : Below w.heap.size w W) => vfew_yes a len cap 60 zs W (vers_below hz hb) (by decide) hf)
    have HRP := Lib.hid (fun W (hb : Below w.heap.size w W) => C.right a len cap zs W (vers_below hz hb) hs6 (by omega))
    have HRR := Lib.hid (fun W (hb : Below w.heap.size w W) => vright_any a len cap zs W (vers_below hz hb))
    cases hr : rightB zs with
    | false =>
      have HE := Lib.hid (fun W (hb : Below w.heap.size w W) => C.encNo a len cap zs W (vers_below hz hb) hr hs6 (by omega))
      rw [hr] at HRP HRR
      clear hf hs5 hs6 hall hz hr
      go_enter Try.func3, Try.ntmps3
      go_wp2_with (first
        | (go_at_call 7; refine (haw.out _).mono ?_; rintro e w1 ⟨rfl, hb1⟩; have hb1 := Lib.hid hb1)
        | (go_at_call 8; refine (HF.out _ hb1.out).mono ?_; rintro e w1 ⟨rfl, rfl⟩)
        | (go_at_call 9; refine (HE.out _ hb1.out).mono ?_; rintro e w2 ⟨rfl, hb2⟩; have hb2 := Lib.hid (hb1.out.trans (hb2.mono hb1.out.size)))
        | (go_at_call 10; refine (HRP.out _ hb2.out).mono ?_; rintro e w3 ⟨rfl, hb3⟩; have hb3 := Lib.hid (hb2.out.trans (hb3.mono hb2.out.size)); have hbd := Lib.hid (fun n => below_drewV hb3.out n))
        | (go_at_call 11; refine (HRR.out _ (by first | exact hb3.out | exact hbd.out _)).mono ?_; rintro e w4 ⟨rfl, n4, rfl⟩))
      go_ret
      exact ⟨rfl, hbd.out _⟩
    | true =>
      obtain ⟨hri, hl2⟩ := right_parts hr
      have HE := Lib.hid (fun W (hb : Below w.heap.size w W) => C.encYes a len cap zs W (vers_below hz hb) hr hs6)
      have HD := Lib.hid (fun W => C.decYes zs W ⟨hr, vers_mem hz⟩ (by omega))
      have HB := Lib.hid (fun W (hb : Below w.heap.size w W) => vbytes_any a len cap zs W (vers_below hz hb) hri (by omega) hs6)
      have HS := Lib.hid (fun W a' c' (h : IsVers W a' len c' zs) (hb : Below w.heap.size w W) => vsame_yes a' a len c' cap zs W h (vers_below hz hb))
      have hk := hz.1.1
      rw [hr] at HRP HRR
      unfold VersOut at HD
      rw [hk] at HD
      obtain ⟨X, hX⟩ : ∃ X, X = chainS zs := ⟨_, rfl⟩
      rw [← hX] at HE HD
      have e : (⟨(chainB zs).toArray⟩ : ByteArray) = X := by rw [hX]; rfl
      rw [e] at HB
      clear hf hs5 hs6 hall hz hr hri hl2 hX e hk
      go_enter Try.func3, Try.ntmps3
      go_wp2_with (first
        | (go_at_call 7; refine (haw.out _).mono ?_; rintro e w1 ⟨rfl, hb1⟩; have hb1 := Lib.hid hb1)
        | (go_at_call 8; refine (HF.out _ hb1.out).mono ?_; rintro e w1 ⟨rfl, rfl⟩)
        | (go_at_call 9; refine (HE.out _ hb1.out).mono ?_; rintro e w2 ⟨rfl, hb2⟩; have hb2 := Lib.hid (hb1.out.trans (hb2.mono hb1.out.size)))
        | (go_at_call 10; refine (HRP.out _ hb2.out).mono ?_; rintro e w3 ⟨rfl, hb3⟩; have hb3 := Lib.hid (hb2.out.trans (hb3.mono hb2.out.size)); have hbd := Lib.hid (fun n => below_drewV hb3.out n))
        | (go_at_call 11; refine (HRR.out _ (by first | exact hb3.out | exact hbd.out _)).mono ?_; rintro e w4 ⟨rfl, n4, rfl⟩)
        | (go_at_call 12; refine (HD.out _).mono ?_; rintro e w5 ⟨a5, c5, rfl, hi5, hb5⟩; have hi5 := Lib.hid hi5; have hb5 := Lib.hid ((hbd.out _).trans (hb5.mono (hbd.out _).size)))
        | (go_at_call 13; refine (HB.out _ hb5.out).mono ?_; rintro e w6 ⟨rfl, hb6⟩; have hi6 := Lib.hid (vers_below hi5.out hb6); have hb6 := Lib.hid (hb5.out.trans (hb6.mono hb5.out.size)))
        | (go_at_call 14; refine (HS.out _ _ _ hi6.out hb6.out).mono ?_; rintro e w7 ⟨rfl, n7, rfl⟩))
      go_ret
      exact ⟨rfl, below_drewV hb6.out n7⟩
  · have HF := Lib.hid (fun W (hb : Below w.heap.size w W) => vfew_no a len cap 60 zs W (vers_below hz hb) (by decide) hf)
    clear hz hf
    go_enter Try.func3, Try.ntmps3
    go_upto_region 2 with (first
      | (go_at_call 7; refine (haw.out _).mono ?_; rintro e w1 ⟨rfl, hb1⟩; have hb1 := Lib.hid hb1)
      | (go_at_call 8; refine (HF.out _ hb1.out).mono ?_; rintro e w1 ⟨rfl, rfl⟩))
    go_wp2_with (go_at_call 7; refine (haw.out _).mono ?_; rintro e w3 ⟨rfl, hb3⟩)
    go_ret
    exact ⟨rfl, hb1.out.trans (hb3.mono hb1.out.size)⟩

set_option maxHeartbeats 2000000 in
theorem chainDecodes_of (C : ChnC) (b : ByteArray) (hb : b.size ≤ maxLen) (w : World) :
    Calls Try.prog 4 #[.string b] w fun e w' => e = .returned (.bool true) ∧ Below w.heap.size w w' := by
  have haw := Lib.hid (cawake_any C)
  unfold maxLen at hb
  by_cases hbig : 1000 < b.size
  · have hz : (1000 : Int) < (b.size : Int) := by omega
    clear hbig
    go_enter Try.func4, Try.ntmps4
    go_upto_region 2 with (go_at_call 7; refine (haw.out _).mono ?_; rintro e w1 ⟨rfl, hb1⟩; have hb1 := Lib.hid hb1)
    go_wp2_with (go_at_call 7; refine (haw.out _).mono ?_; rintro e w3 ⟨rfl, hb3⟩)
    go_ret
    exact ⟨rfl, hb1.out.trans (hb3.mono hb1.out.size)⟩
  · have hz : ¬ (1000 : Int) < (b.size : Int) := by omega
    by_cases hex : ∃ zs, okV zs ∧ allN zs ≤ 60000 ∧ b = chainS zs
    · obtain ⟨zs, hok, hall, he⟩ := hex
      obtain ⟨hri, hl2⟩ := right_parts hok.1
      have HD := Lib.hid (fun W => C.decYes zs W hok hall)
      have HR := Lib.hid (fun W a' c' (h : IsVers W a' zs.length c' zs) => vright_any a' zs.length c' zs W h)
      have HB := Lib.hid (fun W a' c' (h : IsVers W a' zs.length c' zs) => vbytes_any a' zs.length c' zs W h hri hl2 (fun v hv => Nat.le_trans (allN_mem zs v hv) hall))
      rw [hok.1] at HR
      have e : (⟨(chainB zs).toArray⟩ : ByteArray) = b := by rw [he]; rfl
      rw [e] at HB
      rw [← he] at HD
      unfold VersOut at HD
      obtain ⟨k, hk⟩ : ∃ k, k = zs.length := ⟨_, rfl⟩
      rw [← hk] at HD HR HB
      clear hok hall he hri hl2 e hbig hk
      go_enter Try.func4, Try.ntmps4
      go_wp2_with (first
        | (go_at_call 7; refine (haw.out _).mono ?_; rintro e w1 ⟨rfl, hb1⟩; have hb1 := Lib.hid hb1)
        | (go_at_call 12; refine (HD.out _).mono ?_; rintro e w5 ⟨a5, c5, rfl, hi5, hb5⟩; have hi5 := Lib.hid hi5; have hb5 := Lib.hid (hb1.out.trans (hb5.mono hb1.out.size)))
        | (go_at_call 11; refine (HR.out _ _ _ hi5.out).mono ?_; rintro e w6 ⟨rfl, n6, rfl⟩; have hi6 := Lib.hid (vers_below hi5.out (below_drewV (Below.refl _ _) n6)); have hb6 := Lib.hid (below_drewV hb5.out n6))
        | (go_at_call 13; refine (HB.out _ _ _ hi6.out).mono ?_; rintro e w7 ⟨rfl, hb7⟩))
      go_ret
      exact ⟨rfl, hb6.out.trans (hb7.mono hb6.out.size)⟩
    · have HD := Lib.hid (fun W => C.decNo b W (by omega) hex)
      clear hex hbig
      go_enter Try.func4, Try.ntmps4
      go_upto_region 4 with (first
        | (go_at_call 7; refine (haw.out _).mono ?_; rintro e w1 ⟨rfl, hb1⟩; have hb1 := Lib.hid hb1)
        | (go_at_call 12; refine (HD.out _).mono ?_; rintro e w5 (⟨a5, c5, rfl, _, hb5⟩ | ⟨a5, c5, rfl, _, hb5⟩)))
      all_goals
        have hb5 := Lib.hid (hb1.out.trans (hb5.mono hb1.out.size))
        go_wp2_with fail
        go_ret
        exact ⟨rfl, hb5.out⟩
end Go.Proofs.Ytahohdbkkcdmiaa
