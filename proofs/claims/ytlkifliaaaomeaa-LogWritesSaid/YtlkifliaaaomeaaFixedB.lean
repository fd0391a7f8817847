/-
  The walks of the program's Fixed.
-/
import Derived.Test.YtlkifliaaaomeaaFixMath
namespace Go.Proofs.Ytlkifliaaaomeaa
open Go.RowKit
set_option linter.unnecessarySimpa false
set_option linter.unusedVariables false
set_option linter.unusedSimpArgs false
set_option maxRecDepth 100000

set_option maxHeartbeats 800000 in
theorem isSize_yes (n : Int) (w : World) (h : 1 ≤ n ∧ n ≤ 8) : Calls Try.prog 60 #[.int .i64 n] w fun e w' => e = .returned (.bool true) ∧ w = w' := by
  obtain ⟨h1, h2⟩ := h
  go_enter Try.func60, Try.ntmps60
  go_wp2
  go_ret
  exact ⟨rfl, rfl⟩

set_option maxHeartbeats 800000 in
theorem isSize_no (n : Int) (w : World) (h : n < 1 ∨ 8 < n) : Calls Try.prog 60 #[.int .i64 n] w fun e w' => e = .returned (.bool false) ∧ w = w' := by
  rcases h with h | h
  · have h1 : ¬ 1 ≤ n := by omega
    go_enter Try.func60, Try.ntmps60
    go_wp2
    go_ret
    exact ⟨rfl, rfl⟩
  · have h1 : 1 ≤ n := by omega
    have h2 : ¬ n ≤ 8 := by omega
    go_enter Try.func60, Try.ntmps60
    go_wp2
    go_ret
    exact ⟨rfl, rfl⟩

set_option maxHeartbeats 800000 in
theorem place_little (i size : Nat) (w : World) (h1 : i < size) (h2 : size ≤ 8) : Calls Try.prog 61 #[.int .i64 i, .int .i64 size, .bool false] w fun e w' => e = .returned (.int .u64 (8 * (i : Int))) ∧ w = w' := by
  go_enter Try.func61, Try.ntmps61
  go_wp2
  go_ret
  exact ⟨rfl, rfl⟩

set_option maxHeartbeats 800000 in
theorem place_big (i size : Nat) (w : World) (h1 : i < size) (h2 : size ≤ 8) : Calls Try.prog 61 #[.int .i64 i, .int .i64 size, .bool true] w fun e w' => e = .returned (.int .u64 (8 * ((size - 1 - i : Nat) : Int))) ∧ w = w' := by
  go_enter Try.func61, Try.ntmps61
  go_wp2
  go_ret
  exact ⟨ret_int (by omega), rfl⟩

theorem place_any (i size : Nat) (big : Bool) (w : World) (h1 : i < size) (h2 : size ≤ 8) : Calls Try.prog 61 #[.int .i64 i, .int .i64 size, .bool big] w fun e w' => e = .returned (.int .u64 (8 * ((pl size big i : Nat) : Int))) ∧ w = w' := by
  cases big
  · exact place_little i size w h1 h2
  · exact place_big i size w h1 h2

theorem fixed_none (n : Nat) (size : Int) (big : Bool) (w : World) (h : size < 1 ∨ 8 < size) :
    Calls Try.prog 47 #[.int .u64 n, .int .i64 size, .bool big] w fun e w' => e = .returned (.string ⟨#[]⟩) ∧ w = w' := by
  go_enter Try.func47, Try.ntmps47
  go_wp2_with (go_at_call 60; refine (isSize_no _ _ h).mono ?_; rintro e w' ⟨rfl, rfl⟩)
  go_ret
  exact ⟨rfl, rfl⟩

set_option maxHeartbeats 800000 in
theorem fixed_any (n size : Nat) (big : Bool) (w : World) (h1 : 1 ≤ size) (h2 : size ≤ 8) :
    Calls Try.prog 47 #[.int .u64 n, .int .i64 size, .bool big] w fun e w' => e = .returned (.string ⟨(fx n size big).toArray⟩) ∧ Below w.heap.size w w' := by
  obtain ⟨i0, hi, hz0, hz1, hz2⟩ := info_parts u8info
  go_enter Try.func47, Try.ntmps47
  go_wp2_with (first | (go_at_call 60; refine (isSize_yes _ _ (by omega)).mono ?_; rintro e w' ⟨rfl, rfl⟩) | (at_make; refine wpList_make_full _ rfl _ _ 39 rfl w.heap.size 5 i0 (.int .u8 0) 1 Try.underlying39 hi hz0 hz1 _ _ _ _ size rfl rfl rfl rfl ?c1 ?c2 ?c3 ?c4))
  case c1 => rw [hz2]; omega
  case c2 => simp [maxLen]; omega
  case c3 => exact Nat.le_refl _
  case c4 =>
    intro w1 hown1 hg1
    rw [zeros_cellsF] at hown1
    have hb1 : Below w.heap.size w w1 := (Below.refl _ _).grown hg1 (Nat.le_refl _) (by simp)
    clear hg1
    go_wp2_with fail
    go_loopw [8, 16] (fun _ t wr => ∃ (k : Nat), k ≤ size ∧ t = .int .i64 k ∧ wr.ownsRow w.heap.size 5 1 (.slice (some ⟨w.heap.size, 0, none⟩) size size) size (Lib.byteCells (cellsF size fun j => if j < k then fxAt n size big j else 0)) ∧ Below w.heap.size w wr) (fun _ t _ => size - (intOf t).toNat)
    case atStart => exact ⟨0, Nat.zero_le _, rfl, by simpa using hown1, hb1⟩
    case round =>
      obtain ⟨k, hk, rfl, hown, hb⟩ := hrel
      by_cases hlt : k < size
      · have hfz := hown.frozenAt k
        have hcl := hown.cellAt k (by omega)
        have hpl := pl_lt big hlt
        have hgl : (Lib.byteCells (cellsF size fun j => if j < k then fxAt n size big j else 0))[k]? = some (.int .u8 0) := by simp [Lib.byteCells, cellsF, hlt]
        rw [hgl] at hcl
        clear hgl
        go_wp2_with (go_at_call 61; refine (place_any k size big _ hlt h2).mono ?_; rintro e w' ⟨rfl, rfl⟩)
        have hst := hown.stored k (.int .u8 ((n : Int) / 2 ^ (8 * pl size big k) % 256))
        refine ⟨⟨k + 1, by omega, by go_num, ?_, hb.setCell (Nat.le_refl _) _⟩, by simp [intOf]; omega⟩
        have h3 := hst.1
        rw [fxAt_shift, cellsF_next (P := fun j => j < k) (P' := fun j => j < k + 1) (p := k) (g := fxAt n size big) (fun j _ => by omega)] at h3
        rw [fxAt_shift]
        exact h3
      · have hcv := convert_own (P := Try.prog) (src := 39) (dst := 9) hown (by simp) Try.underlying39 Try.underlying5 Try.underlying9
        have hfin : (cellsF size fun j => if j < k then fxAt n size big j else 0) = fx n size big := cellsF_congr fun j hj => by rw [if_pos (by omega)]
        rw [hfin] at hcv
        clear hfin
        go_wp2_with fail
        go_ret
        exact ⟨rfl, hb⟩
end Go.Proofs.Ytlkifliaaaomeaa
