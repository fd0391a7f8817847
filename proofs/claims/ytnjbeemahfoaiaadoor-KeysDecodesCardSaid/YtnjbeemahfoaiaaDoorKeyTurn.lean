/-
  The walk of the program's turn: bytes turned in place.
-/
import Derived.Test.YtnjbeemahfoaiaaDoorKeyBytes
namespace Go.Proofs.YtnjbeemahfoaiaaDoor
open Go.RowKit
set_option linter.unusedVariables false
set_option linter.unusedSimpArgs false
set_option linter.unnecessarySimpa false
set_option maxRecDepth 100000

theorem cells_at {l E : List UInt8} {n i : Nat} (hn : l.length = n) (h : i < E.length) : (Lib.byteCells (l ++ flipTo E i))[n + i]? = some (.int .u8 ((E[i].toNat : Nat) : Int)) := by
  have := flipTo_at h
  unfold Lib.byteCells at this ⊢
  rw [List.map_append, List.getElem?_append_right (by rw [List.length_map]; omega), List.length_map, hn, Nat.add_sub_cancel_left]
  exact this
theorem cells_set {l E : List UInt8} {n i : Nat} (hn : l.length = n) (h : i < E.length) : (Lib.byteCells (l ++ flipTo E i)).set (n + i) (.int .u8 (((flip8 E[i]).toNat : Nat) : Int)) = Lib.byteCells (l ++ flipTo E (i + 1)) := by
  have := flipTo_set h
  unfold Lib.byteCells at this ⊢
  rw [List.map_append, List.set_append_right _ _ (by rw [List.length_map]; omega), List.length_map, hn, Nat.add_sub_cancel_left, this, List.map_append]

theorem xor_flip (y : UInt8) : bits BinOp.xor IntKind.u8 IntKind.u8.max (y.toNat : Int) = ((flip8 y).toNat : Int) := by
  have key : ∀ x : Fin 256, bits BinOp.xor IntKind.u8 IntKind.u8.max ((x.val : Nat) : Int) = ((255 - x.val : Nat) : Int) := by decide +kernel
  have h := UInt8.toNat_lt y
  rw [flip8_nat]
  exact key ⟨y.toNat, h⟩

set_option maxHeartbeats 4000000 in
theorem turn_any (B g cap c : Nat) (l E : List UInt8) (n N : Nat) (hn : l.length = n) (hN : E.length = N) (hs : N ≤ 4000000000) (hs2 : n + N ≤ 40000000000000) (hB : B ≤ g) (w : World)
    (ho : w.ownsRow B 5 1 (.slice (some ⟨g, 0, none⟩) (n + N) cap) (n + N) (Lib.byteCells (l ++ E))) :
    Calls Tryd.prog 33 #[.slice (some ⟨g, n, none⟩) N c] w fun e w' => e = .returned (.tuple #[]) ∧ w'.ownsRow B 5 1 (.slice (some ⟨g, 0, none⟩) (n + N) cap) (n + N) (Lib.byteCells (l ++ E.map flip8)) ∧ Below B w w' := by
  have HO := Lib.hid ho
  have HN := Lib.hid hN
  have HL := Lib.hid hn
  clear ho hN hn
  go_enter Tryd.func33, Tryd.ntmps33
  go_wp2_with fail
  go_loopg [2, 5] N (fun k s2 s5 wx => ∃ i : Nat, i + k = N ∧ s5 = .int .i64 i ∧ Hid (wx.ownsRow B 5 1 (.slice (some ⟨g, 0, none⟩) (n + N) cap) (n + N) (Lib.byteCells (l ++ flipTo E i))) ∧ Hid (Below B w wx))
  case atStart => exact ⟨0, by omega, rfl, Lib.hid (by rw [flipTo_zero]; exact HO.out), Lib.hid (Below.refl _ _)⟩
  case round =>
    obtain ⟨i, hig, rfl, ho, hb⟩ := hrel
    by_cases hlt : i < N
    · obtain ⟨k, rfl⟩ : ∃ k, gk = k + 1 := ⟨gk - 1, by omega⟩
      have hiz : (i : Int) < (N : Int) := by omega
      have hE : i < E.length := by have := HN.out; omega
      have hfz := ho.out.frozenAt (n + i)
      have hcl := ho.out.cellAt (n + i) (by omega)
      rw [cells_at HL.out hE] at hcl
      have hset := Lib.hid (cells_set (l := l) HL.out hE)
      obtain ⟨y, hy⟩ : ∃ y, y = E[i] := ⟨_, rfl⟩
      rw [← hy] at hcl hset
      clear hy hE
      have hst := Lib.hid (ho.out.stored (n + i) (.int .u8 (((flip8 y).toNat : Nat) : Int))).1
      have hyl := UInt8.toNat_lt y
      have hxor := xor_flip y
      go_wp2_with fail
      go_roundg k
      case measure => omega
      case rel => exact ⟨i + 1, by omega, by simp, Lib.hid (by rw [← hset.out]; exact hst.out), Lib.hid (hb.out.setCell hB _)⟩
    · obtain rfl : i = N := by omega
      have hiz : ¬ (i : Int) < (i : Int) := by omega
      have hall := flipTo_all E
      rw [HN.out] at hall
      have H2 := Lib.hid (show wr.ownsRow B 5 1 (.slice (some ⟨g, 0, none⟩) (n + i) cap) (n + i) (Lib.byteCells (l ++ E.map flip8)) by rw [← hall]; exact ho.out)
      clear hall
      go_wp2_with fail
      exact bodyPost_end (results_none rfl _ _ _) rfl ⟨rfl, H2.out, hb.out⟩
end Go.Proofs.YtnjbeemahfoaiaaDoor
