/-
  The walk of the program's appendCopy: a copy, byte by byte, behind bytes of the caller's.
-/
import Derived.Test.YtdkkbplkclcabaaLzMath
import Derived.Test.YtdkkbplkclcabaaBuildOne
import Derived.Test.YtdkkbplkclcabaaLzKit
namespace Go.Proofs.Ytdkkbplkclcabaa
open Go.RowKit
set_option linter.unusedVariables false
set_option linter.unnecessarySimpa false
set_option linter.unusedSimpArgs false
set_option maxRecDepth 100000

set_option maxHeartbeats 4000000 in
theorem appendCopy_any (B : Nat) (v : Value) (o : List UInt8) (d n : Nat) (h1 : 1 ≤ d) (h2 : d ≤ o.length) (h3 : o.length + n ≤ 60000) (w : World) (hB : B ≤ w.heap.size) (ho : w.ownsRow B 5 1 v o.length (Lib.byteCells o)) :
    Calls Try.prog 35 #[v, .int .i64 d, .int .i64 n] w fun e w' => ∃ v', e = .returned v' ∧ Hid (w'.ownsRow B 5 1 v' (o.length + n) (Lib.byteCells (copyTo n d o))) ∧ Hid (Below B w w') := by
  obtain ⟨i0, hi, hz0, hz1, hz2⟩ := info_parts u8info
  have HQ := Lib.hid (show 1 ≤ d ∧ d ≤ o.length ∧ o.length + n ≤ 60000 from ⟨h1, h2, h3⟩)
  have HO := Lib.hid ho
  clear h1 h2 h3 ho
  go_enter Try.func35, Try.ntmps35
  go_wp2_with fail
  go_loopg [0, 8] n (fun q s0 s8 wx => ∃ j : Nat, j + q = n ∧ s8 = .int .i64 j ∧ Hid (wx.ownsRow B 5 1 s0 (o.length + j) (Lib.byteCells (copyTo j d o))) ∧ Hid (Below B w wx))
  case atStart => exact ⟨0, by omega, rfl, HO, Lib.hid (Below.refl _ _)⟩
  case round =>
    obtain ⟨j, hjq, rfl, ho3, hb3⟩ := hrel
    by_cases hjn : j < n
    · obtain ⟨g9, cap9, rfl, hg9, hg9'⟩ := own_slice ho3.out (by have := HQ.out; omega)
      obtain ⟨c1, c2, c3⟩ := HQ.out
      obtain ⟨q, rfl⟩ : ∃ q, gk = q + 1 := ⟨gk - 1, by omega⟩
      have hq1 : 0 < d := by omega
      have hq2 : d ≤ o.length + j := by omega
      have hap3 := Lib.hid (show o.length + j + 1 ≤ 60000 by omega)
      have hjz : (j : Int) < (n : Int) := by omega
      have hj6 : j < 60000 := by omega
      have hPl : (copyTo j d o).length = o.length + j := copyTo_len j d o
      obtain ⟨P, hP⟩ : ∃ P, P = copyTo j d o := ⟨_, rfl⟩
      have hnext : copyTo (j + 1) d o = P ++ [P.getD (P.length - d) 0] := by rw [copyTo, ← hP]
      rw [← hP] at hPl ho3
      have hat : (Lib.byteCells P)[o.length + j - d]? = some (.int .u8 ((P.getD (P.length - d) 0).toNat : Nat)) := by
        unfold Lib.byteCells
        rw [List.getElem?_map, hPl, List.getElem?_eq_getElem (by omega)]
        simp [List.getD, List.getElem?_eq_getElem (show o.length + j - d < P.length by omega)]
      have hcl := ho3.out.cellAt (o.length + j - d) (by omega)
      rw [hat] at hcl
      obtain ⟨y, hy⟩ : ∃ y, y = P.getD (P.length - d) 0 := ⟨_, rfl⟩
      rw [← hy] at hcl hnext
      have HNX := Lib.hid hnext
      have hone := Lib.hid (cell_one_new wr (.int .u8 (y.toNat : Int)) 5)
      have hsub3 : wrap64 ((o.length : Int) + (j : Int) - (d : Int)) = ((o.length + j - d : Nat) : Int) := by unfold wrap64; omega
      have hs3 := hb3.out.size
      clear hP hat hnext hy c1 c2 c3
      go_wp2_with (at_builtin; refine wpList_append_own _ rfl _ _ 34 rfl B 5 i0 (.int .u8 0) 1 1 Try.underlying34 hi hz0 hz1 hz2 rfl (by decide) _ _ _ rfl (ho3.out.alloc _) ⟨wr.heap.size, 0, none⟩ 1 1 [.int .u8 (y.toNat : Int)] rfl rfl hone.out (by simp [Value.oneCell']) (Nat.le_trans hap3.out (by decide)) (by have := hap3.out; omega) (by simp; omega) ?_)
      intro v' w3 hown3 hg3 _
      have B3 := Lib.hid ((hb3.out.alloc (by omega) (.cells #[.int .u8 (y.toNat : Int)] 5)).grown hg3 (by simp; omega) (fun q hq => (ho3.out.lt q hq).1))
      have O3 := Lib.hid (show w3.ownsRow B 5 1 v' (o.length + (j + 1)) (Lib.byteCells (copyTo (j + 1) d o)) by
        rw [HNX.out]
        have e : Lib.byteCells (P ++ [y]) = Lib.byteCells P ++ [.int .u8 (y.toNat : Int)] := by simp [Lib.byteCells]
        rw [e]; exact hown3)
      clear hown3 hg3
      go_wp2_with fail
      go_roundg q
      case measure => omega
      case rel => exact ⟨j + 1, by omega, by simp, O3, B3⟩
    · obtain rfl : j = n := by omega
      have hjz : ¬ (j : Int) < (j : Int) := by omega
      go_wp2_with fail
      go_ret
      exact ⟨_, rfl, ho3, hb3⟩
end Go.Proofs.Ytdkkbplkclcabaa
