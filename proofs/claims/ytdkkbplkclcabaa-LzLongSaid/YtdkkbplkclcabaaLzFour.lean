/-
  The walk of the program's fourAt.
-/
import Derived.Test.YtdkkbplkclcabaaLzKit
import Derived.Test.YtdkkbplkclcabaaLzMath
import Derived.StillTailTactics
import Derived.IntWalk
import Derived.Deep.WholeRow
import Derived.Laws.Rows
import Derived.Laws.Tables
import Derived.Laws.CopyOwn
namespace Go.Proofs.Ytdkkbplkclcabaa
open Go.RowKit
set_option linter.unusedVariables false
set_option linter.unnecessarySimpa false
set_option linter.unusedSimpArgs false
set_option maxRecDepth 100000

/-- The byte at a place. -/
def bt (s : ByteArray) (i : Nat) : UInt8 := s.data.toList.getD i 0
theorem bt_nat (s : ByteArray) (i : Nat) (h : i < s.size) : s[i].toNat = (bt s i).toNat := by
  unfold bt
  rw [List.getD, List.getElem?_eq_getElem (by rw [Array.length_toList]; exact h)]
  rfl
/-- Four bytes as a value, and as a key. -/
def four (x : UInt8 × UInt8 × UInt8 × UInt8) : Array Value := #[.int .u8 x.1.toNat, .int .u8 x.2.1.toNat, .int .u8 x.2.2.1.toNat, .int .u8 x.2.2.2.toNat]
def fours (s : ByteArray) (i : Nat) : UInt8 × UInt8 × UInt8 × UInt8 := (bt s i, bt s (i + 1), bt s (i + 2), bt s (i + 3))

theorem i64_add (a k : Int) (h0 : 0 ≤ a + k) (h : a + k ≤ 1000000) : IntKind.i64.wrap (a + k) = a + k := IntWalk.i64_in _ (by omega)
theorem w64_add (a k : Int) (h0 : 0 ≤ a + k) (h : a + k ≤ 1000000) : wrap64 (a + k) = a + k := IntWalk.wrap64_in _ (by omega)
theorem four_wraps (a : Nat) (h : a ≤ 100000) : IntKind.i64.wrap ((a : Int) + 1) = (a : Int) + 1 ∧ IntKind.i64.wrap ((a : Int) + 2) = (a : Int) + 2 ∧ IntKind.i64.wrap ((a : Int) + 3) = (a : Int) + 3 ∧
    wrap64 ((a : Int) + 1) = (a : Int) + 1 ∧ wrap64 ((a : Int) + 2) = (a : Int) + 2 ∧ wrap64 ((a : Int) + 3) = (a : Int) + 3 :=
  ⟨i64_add _ _ (by omega) (by omega), i64_add _ _ (by omega) (by omega), i64_add _ _ (by omega) (by omega), w64_add _ _ (by omega) (by omega), w64_add _ _ (by omega) (by omega), w64_add _ _ (by omega) (by omega)⟩

theorem same_wraps (a b m n : Nat) (h0 : a + m ≤ n) (h1 : b + m ≤ n) (h : n ≤ 100000) : IntKind.i64.wrap ((a : Int) + (m : Int)) = (a : Int) + (m : Int) ∧ IntKind.i64.wrap ((b : Int) + (m : Int)) = (b : Int) + (m : Int) ∧
    wrap64 ((a : Int) + (m : Int)) = (a : Int) + (m : Int) ∧ wrap64 ((b : Int) + (m : Int)) = (b : Int) + (m : Int) :=
  ⟨i64_add _ _ (by omega) (by omega), i64_add _ _ (by omega) (by omega), w64_add _ _ (by omega) (by omega), w64_add _ _ (by omega) (by omega)⟩

set_option maxHeartbeats 2000000 in
theorem fourAt_any (s : ByteArray) (at_ : Nat) (h : at_ + 4 ≤ s.size) (hs : s.size ≤ 100000) (w : World) :
    Calls Try.prog 22 #[.string s, .int .i64 at_] w fun e w' => e = .returned (.agg (four (fours s at_))) ∧ Below w.heap.size w w' := by
  have hs6 : at_ ≤ 100000 := by omega
  have b0 := bt_nat s at_ (by omega)
  have b1 := bt_nat s (at_ + 1) (by omega)
  have b2 := bt_nat s (at_ + 2) (by omega)
  have b3 := bt_nat s (at_ + 3) (by omega)
  have q0 : (at_ : Int) < (s.size : Int) := by omega
  have q1 : (at_ : Int) + 1 < (s.size : Int) := by omega
  have q2 : (at_ : Int) + 2 < (s.size : Int) := by omega
  have q3 : (at_ : Int) + 3 < (s.size : Int) := by omega
  have p1 : (0 : Int) ≤ (at_ : Int) + 1 := by omega
  have p2 : (0 : Int) ≤ (at_ : Int) + 2 := by omega
  have p3 : (0 : Int) ≤ (at_ : Int) + 3 := by omega
  have n1 : ((at_ : Int) + 1).toNat = at_ + 1 := by omega
  have n2 : ((at_ : Int) + 2).toNat = at_ + 2 := by omega
  have n3 : ((at_ : Int) + 3).toNat = at_ + 3 := by omega
  obtain ⟨e1, e2, e3, w1, w2, w3⟩ := four_wraps at_ hs6
  go_enter Try.func22, Try.ntmps22
  go_upto_region 1 with fail
  go_still_tail 16, (by kernel_rfl)
  change wpList _ _ _ _ _ (World.drew _)
  go_wp2_with fail
  exact bodyPost_ret (v := .agg (four (fours s at_))) (by simp [results, Try.results22, go_sem, four, fours]) rfl ⟨rfl, ((Below.refl _ _).alloc (Nat.le_refl _) _).drew⟩

end Go.Proofs.Ytdkkbplkclcabaa
