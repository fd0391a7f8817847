/-
  The walk of the document's Fixed, sizes 1 to 8.
-/
import Derived.Test.YtlkifliaaaomeaaFixMath
namespace Go.Proofs.Ytlkifliaaaomeaa
open Go.RowKit
set_option linter.unnecessarySimpa false
set_option linter.unusedVariables false
set_option linter.unusedSimpArgs false
set_option maxRecDepth 100000

set_option maxRecDepth 100000 in
set_option maxHeartbeats 800000 in
theorem refFixed_any (n size : Nat) (big : Bool) (w : World) (hn : n < 18446744073709551616) (h1 : 1 ≤ size) (h2 : size ≤ 8) :
    Calls Try.prog 30 #[.int .u64 n, .int .i64 size, .bool big] w fun e w' => e = .returned (.string ⟨(fx n size big).toArray⟩) ∧ Below w.heap.size w w' := by
  obtain ⟨i0, hi, hz0, hz1, hz2⟩ := info_parts u8info
  have HN := Lib.hid hn
  clear hn
  go_enter Try.func30, Try.ntmps30
  go_wp2_with (at_make; refine wpList_make_full _ rfl _ _ 39 rfl w.heap.size 5 i0 (.int .u8 0) 1 Try.underlying39 hi hz0 hz1 _ _ _ _ size rfl rfl rfl rfl ?c1 ?c2 ?c3 ?c4)
  case c1 => rw [hz2]; omega
  case c2 => simp [maxLen]; omega
  case c3 => exact Nat.le_refl _
  case c4 =>
    intro w1 hown1 hg1
    rw [zeros_cellsF] at hown1
    have hb1 : Below w.heap.size w w1 := (Below.refl _ _).grown hg1 (Nat.le_refl _) (by simp)
    clear hg1
    go_wp2_with fail
    go_loopw [0, 8] (fun s t wr => ∃ (k m : Nat), k ≤ size ∧ s = .int .u64 m ∧ Hid (m = n / 256 ^ k) ∧ t = .int .i64 k ∧ wr.ownsRow w.heap.size 5 1 (.slice (some ⟨w.heap.size, 0, none⟩) size size) size (Lib.byteCells (cellsF size fun j => if pl size big j < k then fxAt n size big j else 0)) ∧ Below w.heap.size w wr) (fun _ t _ => size - (intOf t).toNat)
    case atStart => exact ⟨0, n, Nat.zero_le _, rfl, Lib.hid (by simp), rfl, by simpa using hown1, hb1⟩
    case round =>
      obtain ⟨k, m, hk, rfl, hm, rfl, hown, hb⟩ := hrel
      by_cases hlt : k < size
      · have hpl := pl_lt big hlt
        have hfz := hown.frozenAt (pl size big k)
        have hcl := hown.cellAt (pl size big k) (by omega)
        have hgl : (Lib.byteCells (cellsF size fun j => if pl size big j < k then fxAt n size big j else 0))[pl size big k]? = some (.int .u8 0) := by simp [Lib.byteCells, cellsF, hpl, pl_pl big hlt]
        rw [hgl] at hcl
        clear hgl
        have hm64 : (m : Int) ≤ 18446744073709551615 := by
          have h5 := hm.out
          have h6 := Nat.div_le_self n (256 ^ k)
          have h7 := HN.out
          omega
        have hst := Lib.hid (hown.stored (pl size big k) (.int .u8 ((m : Int) % 256))).1
        have hfx := Lib.hid (fxAt_pl (n := n) big hlt)
        have hnx := Lib.hid (show m / 256 = n / 256 ^ (k + 1) by rw [hm.out, Nat.pow_succ, Nat.div_div_eq_div_mul])
        have hrow := Lib.hid (cellsF_next (size := size) (P := fun j => pl size big j < k) (P' := fun j => pl size big j < k + 1) (p := pl size big k) (g := fxAt n size big) (fun j hj => by unfold pl at *; split <;> omega))
        cases big
        all_goals
          simp only [pl, Bool.false_eq_true, if_false, if_true] at hfz hcl hpl
          go_wp2_with fail
          refine ⟨⟨k + 1, m / 256, by omega, by go_num, hnx, by go_num, ?_, hb.setCell (Nat.le_refl _) _⟩, by simp [intOf]; omega⟩
          rw [← hrow.out, ← hfx.out, ← hm.out]
          exact hst.out
      · have hcv := convert_own (P := Try.prog) (src := 39) (dst := 9) hown (by simp) Try.underlying39 Try.underlying5 Try.underlying9
        have hfin : (cellsF size fun j => if pl size big j < k then fxAt n size big j else 0) = fx n size big := cellsF_congr fun j hj => by rw [if_pos (by have := pl_lt big hj; omega)]
        rw [hfin] at hcv
        clear hfin
        go_wp2_with fail
        go_ret
        exact ⟨rfl, hb⟩
end Go.Proofs.Ytlkifliaaaomeaa
