/-
  Joined: ChnPShared, FixedB.
-/
import Derived.Test.YtplobffkelmokaaChnPMath
import Derived.BigQuiet
import Derived.Test.YtplobffkelmokaaSet03
namespace Go.Proofs.Ytplobffkelmokaa
open Go.RowKit
set_option linter.unusedVariables false
set_option linter.unnecessarySimpa false
set_option linter.unusedSimpArgs false
set_option maxRecDepth 100000

theorem ba_getD (s : ByteArray) (i : Nat) (h : i < s.size) : s.data.toList.getD i 0 = s[i] := by
  have h2 : i < s.data.toList.length := by rw [c_size]; exact h
  rw [List.getD, List.getElem?_eq_getElem h2]
  rfl
set_option maxHeartbeats 4000000 in
theorem shared_any (v b : ByteArray) (hv : v.size ≤ 1000000000) (hb : b.size ≤ 1000000000) (w : World) :
    Calls Try.prog 77 #[.string v, .string b] w fun e w' => e = .returned (.tuple #[.int .i64 (headN b.data.toList v.data.toList : Nat), .int .i64 (tailN b.data.toList v.data.toList : Nat)]) ∧ ∃ n, w' = w.drewN n := by
  have HA := fun i => head_at (b := b.data.toList) (v := v.data.toList) (i := i)
  have HE := head_end (b := b.data.toList) (v := v.data.toList)
  have TA := fun j => tail_at (b := b.data.toList) (v := v.data.toList) (j := j)
  have TE := tail_end (b := b.data.toList) (v := v.data.toList)
  have hle := tailN_le b.data.toList v.data.toList
  rw [c_size, c_size] at hle HE TE
  simp only [c_size] at TA TE
  obtain ⟨H, hH⟩ : ∃ H, H = headN b.data.toList v.data.toList := ⟨_, rfl⟩
  obtain ⟨T, hT⟩ : ∃ T, T = tailN b.data.toList v.data.toList := ⟨_, rfl⟩
  simp only [← hH, ← hT] at HA HE TA TE hle ⊢
  obtain ⟨M, hM⟩ : ∃ M, M = min v.size b.size := ⟨_, rfl⟩
  have hMz : min (v.size : Int) (b.size : Int) = (M : Int) := by omega
  have hMv : M ≤ v.size := by omega
  have hMb : M ≤ b.size := by omega
  have hMo := Lib.hid (show M = v.size ∨ M = b.size by omega)
  have hHT : H + T ≤ M := by omega
  replace HA := Lib.hid HA
  replace HE := Lib.hid HE
  replace TA := Lib.hid TA
  replace TE := Lib.hid TE
  clear hH hT hM hle
  go_enter Try.func77, Try.ntmps77
  go_upto_region 1 with fail
  go_cut [6] (fun s6 wc => s6 = .int .i64 (M : Int) ∧ wc = w)
  case first =>
    go_wp2_with fail
    all_goals
      go_meet
      case rel => exact ⟨by congr 1; omega, rfl⟩
  case rest =>
  obtain ⟨rfl, rfl⟩ := hcut
  clear hMz
  go_wp2_with fail
  go_loopg [4] H (fun g s4 wx => ∃ i : Nat, i + g = H ∧ s4 = .int .i64 i ∧ ∃ n, wx = wc.drewN n)
  case atStart => exact ⟨0, by omega, rfl, 0, rfl⟩
  case round =>
    obtain ⟨i, hig, rfl, n1, rfl⟩ := hrel
    cases gk with
    | succ g =>
      have i1 : i < v.size := by omega
      have i2 : i < b.size := by omega
      have i3 : (i : Int) < (M : Int) := by omega
      have hi := HA.out i (by omega)
      rw [ba_getD v i i1, ba_getD b i i2] at hi
      obtain ⟨x, hx⟩ : ∃ x : Nat, v[i].toNat = x := ⟨_, rfl⟩
      have hy : b[i].toNat = x := by rw [← hi]; exact hx
      have hd : decide ((i : Int) < (M : Int)) = true := by simpa using i3
      clear hi
      go_wp2_with fail
      go_quiet (fail)
      go_wp2_with fail
      go_roundg g
      case measure => omega
      case rel => exact ⟨i + 1, by omega, by go_num, _, rfl⟩
    | zero =>
      obtain rfl : i = H := by omega
      rcases Nat.lt_or_ge i M with h | h
      focus
        have i1 : i < v.size := by omega
        have i2 : i < b.size := by omega
        have i3 : (i : Int) < (M : Int) := by omega
        have hi := HE.out (by omega) (by omega)
        rw [ba_getD v i i1, ba_getD b i i2] at hi
        obtain ⟨x, hx⟩ : ∃ x : Nat, v[i].toNat = x := ⟨_, rfl⟩
        obtain ⟨y, hy⟩ : ∃ y : Nat, b[i].toNat = y := ⟨_, rfl⟩
        have hxy : ((x : Int) == (y : Int)) = false := by
          rw [beq_eq_false_iff_ne]
          intro e
          exact hi (UInt8.toNat_inj.1 (by rw [hx, hy]; omega))
        have hd : decide ((i : Int) < (M : Int)) = true := by simpa using i3
        clear hi
        go_wp2_with fail
        go_quiet (fail)
        clear hd hxy hx hy i3
        go_wp2_with fail
      rotate_left
      focus
        have hd : decide (i < M) = false := by simp; omega
        have i3 : ¬ (i : Int) < (M : Int) := by omega
        go_wp2_with fail
        go_quiet (fail)
        clear hd i3
        go_wp2_with fail
      all_goals
        go_loopg [5] T (fun g s5 wx => ∃ j : Nat, j + g = T ∧ s5 = .int .i64 j ∧ ∃ n, wx = wc.drewN n)
        case atStart => exact ⟨0, by omega, rfl, n1 + nq, by rw [World.drewN_drewN]⟩
        case round =>
          obtain ⟨j, hig, rfl, n1, rfl⟩ := hrel
          have z1 : (0 : Int) ≤ (i : Int) + (j : Int) := by omega
          have z2 : IntKind.i64.wrap ((i : Int) + (j : Int)) = (i : Int) + (j : Int) := IntWalk.i64_in _ (by omega)
          cases gk with
          | succ g =>
            obtain ⟨p, hp⟩ : ∃ p, p = v.size - 1 - j := ⟨_, rfl⟩
            obtain ⟨q, hq⟩ : ∃ q, q = b.size - 1 - j := ⟨_, rfl⟩
            have i1 : p < v.size := by omega
            have i2 : q < b.size := by omega
            have hi := TA.out j (by omega)
            rw [← hp, ← hq, ba_getD v p i1, ba_getD b q i2] at hi
            obtain ⟨x, hx⟩ : ∃ x : Nat, v[p].toNat = x := ⟨_, rfl⟩
            have hy : b[q].toNat = x := by rw [← hi]; exact hx
            have hpz : (v.size : Int) - 1 - (j : Int) = (p : Int) := by omega
            have hqz : (b.size : Int) - 1 - (j : Int) = (q : Int) := by omega
            have i3 : (i : Int) + (j : Int) < (M : Int) := by omega
            have hd : decide ((i : Int) + (j : Int) < (M : Int)) = true := by simpa using i3
            clear hi hp hq
            go_wp2_with fail
            go_quiet (fail)
            go_wp2_with fail
            go_roundg g
            case measure => omega
            case rel => exact ⟨j + 1, by omega, by go_num, _, rfl⟩
          | zero =>
            obtain rfl : j = T := by omega
            rcases Nat.lt_or_ge (i + j) M with h2 | h2
            · obtain ⟨p, hp⟩ : ∃ p, p = v.size - 1 - j := ⟨_, rfl⟩
              obtain ⟨q, hq⟩ : ∃ q, q = b.size - 1 - j := ⟨_, rfl⟩
              have i1 : p < v.size := by omega
              have i2 : q < b.size := by omega
              have hi := TE.out (by omega) (by omega)
              rw [← hp, ← hq, ba_getD v p i1, ba_getD b q i2] at hi
              obtain ⟨x, hx⟩ : ∃ x : Nat, v[p].toNat = x := ⟨_, rfl⟩
              obtain ⟨y, hy⟩ : ∃ y : Nat, b[q].toNat = y := ⟨_, rfl⟩
              have hxy : ((x : Int) == (y : Int)) = false := by
                rw [beq_eq_false_iff_ne]
                intro e
                exact hi (UInt8.toNat_inj.1 (by rw [hx, hy]; omega))
              have hpz : (v.size : Int) - 1 - (j : Int) = (p : Int) := by omega
              have hqz : (b.size : Int) - 1 - (j : Int) = (q : Int) := by omega
              have i3 : (i : Int) + (j : Int) < (M : Int) := by omega
              have hd : decide ((i : Int) + (j : Int) < (M : Int)) = true := by simpa using i3
              clear hi hp hq
              go_wp2_with fail
              go_quiet (fail)
              go_wp2_with fail
              go_ret2
              exact ⟨rfl, n1 + nq, by rw [World.drewN_drewN]⟩
            · have i3 : ¬ (i : Int) + (j : Int) < (M : Int) := by omega
              have hd : decide ((i : Int) + (j : Int) < (M : Int)) = false := by simpa using i3
              have hd2 : decide (i + j < M) = false := by simp; omega
              go_wp2_with fail
              go_quiet (fail)
              go_wp2_with fail
              go_ret2
              exact ⟨rfl, n1 + nq, by rw [World.drewN_drewN]⟩
end Go.Proofs.Ytplobffkelmokaa

namespace Go.Proofs.Ytplobffkelmokaa
open Go.RowKit
set_option linter.unnecessarySimpa false
set_option linter.unusedVariables false
set_option linter.unusedSimpArgs false
set_option maxRecDepth 100000

set_option maxHeartbeats 800000 in
theorem isSize_yes (n : Int) (w : World) (h : 1 ≤ n ∧ n ≤ 8) : Calls Try.prog 63 #[.int .i64 n] w fun e w' => e = .returned (.bool true) ∧ w = w' := by
  obtain ⟨h1, h2⟩ := h
  go_enter Try.func63, Try.ntmps63
  go_wp2
  go_ret
  exact ⟨rfl, rfl⟩

set_option maxHeartbeats 800000 in
theorem isSize_no (n : Int) (w : World) (h : n < 1 ∨ 8 < n) : Calls Try.prog 63 #[.int .i64 n] w fun e w' => e = .returned (.bool false) ∧ w = w' := by
  rcases h with h | h
  · have h1 : ¬ 1 ≤ n := by omega
    go_enter Try.func63, Try.ntmps63
    go_wp2
    go_ret
    exact ⟨rfl, rfl⟩
  · have h1 : 1 ≤ n := by omega
    have h2 : ¬ n ≤ 8 := by omega
    go_enter Try.func63, Try.ntmps63
    go_wp2
    go_ret
    exact ⟨rfl, rfl⟩

set_option maxHeartbeats 800000 in
theorem place_little (i size : Nat) (w : World) (h1 : i < size) (h2 : size ≤ 8) : Calls Try.prog 64 #[.int .i64 i, .int .i64 size, .bool false] w fun e w' => e = .returned (.int .u64 (8 * (i : Int))) ∧ w = w' := by
  go_enter Try.func64, Try.ntmps64
  go_wp2
  go_ret
  exact ⟨rfl, rfl⟩

set_option maxHeartbeats 800000 in
theorem place_big (i size : Nat) (w : World) (h1 : i < size) (h2 : size ≤ 8) : Calls Try.prog 64 #[.int .i64 i, .int .i64 size, .bool true] w fun e w' => e = .returned (.int .u64 (8 * ((size - 1 - i : Nat) : Int))) ∧ w = w' := by
  go_enter Try.func64, Try.ntmps64
  go_wp2
  go_ret
  exact ⟨ret_int (by omega), rfl⟩

theorem place_any (i size : Nat) (big : Bool) (w : World) (h1 : i < size) (h2 : size ≤ 8) : Calls Try.prog 64 #[.int .i64 i, .int .i64 size, .bool big] w fun e w' => e = .returned (.int .u64 (8 * ((pl size big i : Nat) : Int))) ∧ w = w' := by
  cases big
  · exact place_little i size w h1 h2
  · exact place_big i size w h1 h2

theorem fixed_none (n : Nat) (size : Int) (big : Bool) (w : World) (h : size < 1 ∨ 8 < size) :
    Calls Try.prog 47 #[.int .u64 n, .int .i64 size, .bool big] w fun e w' => e = .returned (.string ⟨#[]⟩) ∧ w = w' := by
  go_enter Try.func47, Try.ntmps47
  go_wp2_with (go_at_call 63; refine (isSize_no _ _ h).mono ?_; rintro e w' ⟨rfl, rfl⟩)
  go_ret
  exact ⟨rfl, rfl⟩

set_option maxHeartbeats 800000 in
theorem fixed_any (n size : Nat) (big : Bool) (w : World) (h1 : 1 ≤ size) (h2 : size ≤ 8) :
    Calls Try.prog 47 #[.int .u64 n, .int .i64 size, .bool big] w fun e w' => e = .returned (.string ⟨(fx n size big).toArray⟩) ∧ Below w.heap.size w w' := by
  obtain ⟨i0, hi, hz0, hz1, hz2⟩ := info_parts u8info
  go_enter Try.func47, Try.ntmps47
  go_wp2_with (first | (go_at_call 63; refine (isSize_yes _ _ (by omega)).mono ?_; rintro e w' ⟨rfl, rfl⟩) | (at_make; refine wpList_make_full _ rfl _ _ 43 rfl w.heap.size 5 i0 (.int .u8 0) 1 Try.underlying43 hi hz0 hz1 _ _ _ _ size rfl rfl rfl rfl ?c1 ?c2 ?c3 ?c4))
  case c1 => rw [hz2]; omega
  case c2 => simp [maxLen]; omega
  case c3 => exact Nat.le_refl _
  case c4 =>
    intro w1 hown1 hg1
    rw [zeros_cellsF] at hown1
    have hb1 : Below w.heap.size w w1 := (Below.refl _ _).grown hg1 (Nat.le_refl _) (by simp)
    clear hg1
    go_wp2_with fail
    go_loopw [8, 16] (fun _ t wr => ∃ (k : Nat), k ≤ size ∧ t = .int .i64 k ∧ wr.ownsRow w.heap.size 5 1 (.slice (some ⟨w.heap.size, 0, none⟩) size size) size (Lib.byteCells (cellsF size fun j => if j < k then fxAt n size big j else 0)) ∧ Below w.heap.size w wr) (fun _ t _ => size - (intOf t).toNat)
    case atStart => exact ⟨0, Nat.zero_le _, rfl, by simpa using hown1, hb1⟩
    case round =>
      obtain ⟨k, hk, rfl, hown, hb⟩ := hrel
      by_cases hlt : k < size
      · have hfz := hown.frozenAt k
        have hcl := hown.cellAt k (by omega)
        have hpl := pl_lt big hlt
        have hgl : (Lib.byteCells (cellsF size fun j => if j < k then fxAt n size big j else 0))[k]? = some (.int .u8 0) := by simp [Lib.byteCells, cellsF, hlt]
        rw [hgl] at hcl
        clear hgl
        go_wp2_with (go_at_call 64; refine (place_any k size big _ hlt h2).mono ?_; rintro e w' ⟨rfl, rfl⟩)
        have hst := hown.stored k (.int .u8 ((n : Int) / 2 ^ (8 * pl size big k) % 256))
        refine ⟨⟨k + 1, by omega, by go_num, ?_, hb.setCell (Nat.le_refl _) _⟩, by simp [intOf]; omega⟩
        have h3 := hst.1
        rw [fxAt_shift, cellsF_next (P := fun j => j < k) (P' := fun j => j < k + 1) (p := k) (g := fxAt n size big) (fun j _ => by omega)] at h3
        rw [fxAt_shift]
        exact h3
      · have hcv := convert_own (P := Try.prog) (src := 43) (dst := 9) hown (by simp) Try.underlying43 Try.underlying5 Try.underlying9
        have hfin : (cellsF size fun j => if j < k then fxAt n size big j else 0) = fx n size big := cellsF_congr fun j hj => by rw [if_pos (by omega)]
        rw [hfin] at hcv
        clear hfin
        go_wp2_with fail
        go_ret
        exact ⟨rfl, hb⟩
end Go.Proofs.Ytplobffkelmokaa
