/-
  The program's shared: with how many bytes two values begin and end alike.
-/
import Derived.Test.YtahohdbkkcdmiaaChnPMath
import Derived.BigQuiet
namespace Go.Proofs.Ytahohdbkkcdmiaa
open Go.RowKit
set_option linter.unusedVariables false
set_option linter.unnecessarySimpa false
set_option linter.unusedSimpArgs false
set_option maxRecDepth 100000

theorem ba_getD (s : ByteArray) (i : Nat) (h : i < s.size) : s.data.toList.getD i 0 = s[i] := by
  have h2 : i < s.data.toList.length := by rw [c_size]; exact h
  rw [List.getD, List.getElem?_eq_getElem h2]
  rfl
set_option maxHeartbeats 4000000 in
theorem shared_any (v b : ByteArray) (hv : v.size ≤ 1000000000) (hb : b.size ≤ 1000000000) (w : World) :
    Calls Try.prog 32 #[.string v, .string b] w fun e w' => e = .returned (.tuple #[.int .i64 (headN b.data.toList v.data.toList : Nat), .int .i64 (tailN b.data.toList v.data.toList : Nat)]) ∧ ∃ n, w' = w.drewN n := by
  have HA := fun i => head_at (b := b.data.toList) (v := v.data.toList) (i := i)
  have HE := head_end (b := b.data.toList) (v := v.data.toList)
  have TA := fun j => tail_at (b := b.data.toList) (v := v.data.toList) (j := j)
  have TE := tail_end (b := b.data.toList) (v := v.data.toList)
  have hle := tailN_le b.data.toList v.data.toList
  rw [c_size, c_size] at hle HE TE
  simp only [c_size] at TA TE
  obtain ⟨H, hH⟩ : ∃ H, H = headN b.data.toList v.data.toList := ⟨_, rfl⟩
  obtain ⟨T, hT⟩ : ∃ T, T = tailN b.data.toList v.data.toList := ⟨_, rfl⟩
  simp only [← hH, ← hT] at HA HE TA TE hle ⊢
  obtain ⟨M, hM⟩ : ∃ M, M = min v.size b.size := ⟨_, rfl⟩
  have hMz : min (v.size : Int) (b.size : Int) = (M : Int) := by omega
  have hMv : M ≤ v.size := by omega
  have hMb : M ≤ b.size := by omega
  have hMo := Lib.hid (show M = v.size ∨ M = b.size by omega)
  have hHT : H + T ≤ M := by omega
  replace HA := Lib.hid HA
  replace HE := Lib.hid HE
  replace TA := Lib.hid TA
  replace TE := Lib.hid TE
  clear hH hT hM hle
  go_enter Try.func32, Try.ntmps32
  go_upto_region 1 with fail
  go_cut [6] (fun s6 wc => s6 = .int .i64 (M : Int) ∧ wc = w)
  case first =>
    go_wp2_with fail
    all_goals
      go_meet
      case rel => exact ⟨by congr 1; omega, rfl⟩
  case rest =>
  obtain ⟨rfl, rfl⟩ := hcut
  clear hMz
  go_wp2_with fail
  go_loopg [4] H (fun g s4 wx => ∃ i : Nat, i + g = H ∧ s4 = .int .i64 i ∧ ∃ n, wx = wc.drewN n)
  case atStart => exact ⟨0, by omega, rfl, 0, rfl⟩
  case round =>
    obtain ⟨i, hig, rfl, n1, rfl⟩ := hrel
    cases gk with
    | succ g =>
      have i1 : i < v.size := by omega
      have i2 : i < b.size := by omega
      have i3 : (i : Int) < (M : Int) := by omega
      have hi := HA.out i (by omega)
      rw [ba_getD v i i1, ba_getD b i i2] at hi
      obtain ⟨x, hx⟩ : ∃ x : Nat, v[i].toNat = x := ⟨_, rfl⟩
      have hy : b[i].toNat = x := by rw [← hi]; exact hx
      have hd : decide ((i : Int) < (M : Int)) = true := by simpa using i3
      clear hi
      go_wp2_with fail
      go_quiet (fail)
      go_wp2_with fail
      go_roundg g
      case measure => omega
      case rel => exact ⟨i + 1, by omega, by go_num, _, rfl⟩
    | zero =>
      obtain rfl : i = H := by omega
      rcases Nat.lt_or_ge i M with h | h
      focus
        have i1 : i < v.size := by omega
        have i2 : i < b.size := by omega
        have i3 : (i : Int) < (M : Int) := by omega
        have hi := HE.out (by omega) (by omega)
        rw [ba_getD v i i1, ba_getD b i i2] at hi
        obtain ⟨x, hx⟩ : ∃ x : Nat, v[i].toNat = x := ⟨_, rfl⟩
        obtain ⟨y, hy⟩ : ∃ y : Nat, b[i].toNat = y := ⟨_, rfl⟩
        have hxy : ((x : Int) == (y : Int)) = false := by
          rw [beq_eq_false_iff_ne]
          intro e
          exact hi (UInt8.toNat_inj.1 (by rw [hx, hy]; omega))
        have hd : decide ((i : Int) < (M : Int)) = true := by simpa using i3
        clear hi
        go_wp2_with fail
        go_quiet (fail)
        clear hd hxy hx hy i3
        go_wp2_with fail
      rotate_left
      focus
        have hd : decide (i < M) = false := by simp; omega
        have i3 : ¬ (i : Int) < (M : Int) := by omega
        go_wp2_with fail
        go_quiet (fail)
        clear hd i3
        go_wp2_with fail
      all_goals
        go_loopg [5] T (fun g s5 wx => ∃ j : Nat, j + g = T ∧ s5 = .int .i64 j ∧ ∃ n, wx = wc.drewN n)
        case atStart => exact ⟨0, by omega, rfl, n1 + nq, by rw [World.drewN_drewN]⟩
        case round =>
          obtain ⟨j, hig, rfl, n1, rfl⟩ := hrel
          have z1 : (0 : Int) ≤ (i : Int) + (j : Int) := by omega
          have z2 : IntKind.i64.wrap ((i : Int) + (j : Int)) = (i : Int) + (j : Int) := IntWalk.i64_in _ (by omega)
          cases gk with
          | succ g =>
            obtain ⟨p, hp⟩ : ∃ p, p = v.size - 1 - j := ⟨_, rfl⟩
            obtain ⟨q, hq⟩ : ∃ q, q = b.size - 1 - j := ⟨_, rfl⟩
            have i1 : p < v.size := by omega
            have i2 : q < b.size := by omega
            have hi := TA.out j (by omega)
            rw [← hp, ← hq, ba_getD v p i1, ba_getD b q i2] at hi
            obtain ⟨x, hx⟩ : ∃ x : Nat, v[p].toNat = x := ⟨_, rfl⟩
            have hy : b[q].toNat = x := by rw [← hi]; exact hx
            have hpz : (v.size : Int) - 1 - (j : Int) = (p : Int) := by omega
            have hqz : (b.size : Int) - 1 - (j : Int) = (q : Int) := by omega
            have i3 : (i : Int) + (j : Int) < (M : Int) := by omega
            have hd : decide ((i : Int) + (j : Int) < (M : Int)) = true := by simpa using i3
            clear hi hp hq
            go_wp2_with fail
            go_quiet (fail)
            go_wp2_with fail
            go_roundg g
            case measure => omega
            case rel => exact ⟨j + 1, by omega, by go_num, _, rfl⟩
          | zero =>
            obtain rfl : j = T := by omega
            rcases Nat.lt_or_ge (i + j) M with h2 | h2
            · obtain ⟨p, hp⟩ : ∃ p, p = v.size - 1 - j := ⟨_, rfl⟩
              obtain ⟨q, hq⟩ : ∃ q, q = b.size - 1 - j := ⟨_, rfl⟩
              have i1 : p < v.size := by omega
              have i2 : q < b.size := by omega
              have hi := TE.out (by omega) (by omega)
              rw [← hp, ← hq, ba_getD v p i1, ba_getD b q i2] at hi
              obtain ⟨x, hx⟩ : ∃ x : Nat, v[p].toNat = x := ⟨_, rfl⟩
              obtain ⟨y, hy⟩ : ∃ y : Nat, b[q].toNat = y := ⟨_, rfl⟩
              have hxy : ((x : Int) == (y : Int)) = false := by
                rw [beq_eq_false_iff_ne]
                intro e
                exact hi (UInt8.toNat_inj.1 (by rw [hx, hy]; omega))
              have hpz : (v.size : Int) - 1 - (j : Int) = (p : Int) := by omega
              have hqz : (b.size : Int) - 1 - (j : Int) = (q : Int) := by omega
              have i3 : (i : Int) + (j : Int) < (M : Int) := by omega
              have hd : decide ((i : Int) + (j : Int) < (M : Int)) = true := by simpa using i3
              clear hi hp hq
              go_wp2_with fail
              go_quiet (fail)
              go_wp2_with fail
              go_ret2
              exact ⟨rfl, n1 + nq, by rw [World.drewN_drewN]⟩
            · have i3 : ¬ (i : Int) + (j : Int) < (M : Int) := by omega
              have hd : decide ((i : Int) + (j : Int) < (M : Int)) = false := by simpa using i3
              have hd2 : decide (i + j < M) = false := by simp; omega
              go_wp2_with fail
              go_quiet (fail)
              go_wp2_with fail
              go_ret2
              exact ⟨rfl, n1 + nq, by rw [World.drewN_drewN]⟩
end Go.Proofs.Ytahohdbkkcdmiaa
