/-
  The program's Make: a payload's length asked by isLength, its frame put together by Fixed, Sum and '+'.
-/
import Derived.Test.YtaabpjnjglnjoaaFrmContracts
import Derived.Test.YtaabpjnjglnjoaaFixedB
namespace Go.Proofs.Ytaabpjnjglnjoaa
open Go.RowKit
set_option linter.unusedVariables false
set_option linter.unnecessarySimpa false
set_option linter.unusedSimpArgs false
set_option maxRecDepth 100000

theorem fixed4 (n : Nat) (w : World) : Calls Try.prog 16 #[.int .u64 n, .int .i64 4, .bool true] w fun e w' => e = .returned (.string ⟨(fx n 4 true).toArray⟩) ∧ Below w.heap.size w w' :=
  fixed_any n 4 true w (by omega) (by omega)

/-- May a payload have so many bytes? -/
def lenOK (n : Nat) : Bool := decide (1 ≤ n) && decide (n ≤ 4000)
set_option maxHeartbeats 800000 in
theorem isLength_yes (n : Nat) (h1 : 1 ≤ n) (h2 : n ≤ 4000) (w : World) : Calls Try.prog 14 #[.int .u64 n] w fun e w' => e = .returned (.bool true) ∧ w = w' := by
  have e1 : (1 : Int) ≤ (n : Int) := by omega
  have e2 : (n : Int) ≤ 4000 := by omega
  clear h1 h2
  go_enter Try.func14, Try.ntmps14
  go_wp2_with fail
  go_ret
  exact ⟨rfl, rfl⟩
set_option maxHeartbeats 800000 in
theorem isLength_no (n : Nat) (h : n < 1 ∨ 4000 < n) (w : World) : Calls Try.prog 14 #[.int .u64 n] w fun e w' => e = .returned (.bool false) ∧ w = w' := by
  rcases h with h | h
  · have e1 : ¬ (1 : Int) ≤ (n : Int) := by omega
    clear h
    go_enter Try.func14, Try.ntmps14
    go_wp2_with fail
    go_ret
    exact ⟨rfl, rfl⟩
  · have e1 : (1 : Int) ≤ (n : Int) := by omega
    have e2 : ¬ (n : Int) ≤ 4000 := by omega
    clear h
    go_enter Try.func14, Try.ntmps14
    go_wp2_with fail
    go_ret
    exact ⟨rfl, rfl⟩

set_option maxHeartbeats 2000000 in
theorem makeLong : MakeLong := fun p w hp hs => by
  have H := Lib.hid (isLength_no p.size hp)
  have hm : (p.size : Int) % 18446744073709551616 = p.size := by omega
  clear hp
  go_enter Try.func6, Try.ntmps6
  go_wp2_with (go_at_call 14; refine (H.out _).mono ?_; rintro e w1 ⟨rfl, rfl⟩)
  go_ret2
  exact ⟨rfl, (Below.refl _ _).alloc (Nat.le_refl _) _⟩

set_option maxHeartbeats 2000000 in
theorem makeOK : MakeOK := fun p w hp1 hp2 => by
  have H := Lib.hid (isLength_yes p.size hp1 hp2)
  have hm : (p.size : Int) % 18446744073709551616 = p.size := by omega
  have H1 := Lib.hid (fixed4 p.size)
  have H2 := Lib.hid (fixed4 (sumB p.data.toList))
  have H3 := Lib.hid (sum_any p (by omega))
  have he := Lib.hid (frmS_eq p)
  have hs := sumB_lt p.data.toList
  obtain ⟨S, hS⟩ : ∃ S, S = sumB p.data.toList := ⟨_, rfl⟩
  rw [← hS] at H2 H3 he hs
  clear hS
  have f1 := fx_length p.size 4 true
  have f2 := fx_length S 4 true
  obtain ⟨F1, hF1⟩ : ∃ F1 : ByteArray, F1 = ⟨(fx p.size 4 true).toArray⟩ := ⟨_, rfl⟩
  obtain ⟨F2, hF2⟩ : ∃ F2 : ByteArray, F2 = ⟨(fx S 4 true).toArray⟩ := ⟨_, rfl⟩
  have g1 : F1.size = 4 := by rw [hF1]; show (fx p.size 4 true).toArray.size = 4; rw [List.size_toArray, f1]
  have g2 : F2.size = 4 := by rw [hF2]; show (fx S 4 true).toArray.size = 4; rw [List.size_toArray, f2]
  rw [← hF1] at H1 he
  rw [← hF2] at H2 he
  have hsz : F1.size + F2.size ≤ 9223372036854775807 := by omega
  have hsz2 : F1.size + F2.size + p.size ≤ 9223372036854775807 := by omega
  clear hF1 hF2 f1 f2 g1 g2 hp1
  have hz : (S : Int) < 4294967296 := by omega
  have hrow := Lib.hid (heap_alloc_last w (.cells tab 28))
  go_enter Try.func6, Try.ntmps6
  go_wp2_with (first
    | (go_at_call 14; refine (H.out _).mono ?_; rintro e w1 ⟨rfl, rfl⟩)
    | (refine wpList_load_row rfl 28 _ rfl w.heap.size rfl 28 tab (0, 0) _ hrow.out Try.underlying28 rfl tableSize ?_; dsimp only [Act.put])
    | (go_at_call 15; refine (H3.out _).mono ?_; rintro e w2 ⟨rfl, hb2⟩)
    | (go_at_call 16; (with_reducible refine (H1.out _).mono ?_); rintro e w3 ⟨rfl, hb3⟩)
    | (go_at_call 16; (with_reducible refine (H2.out _).mono ?_); rintro e w4 ⟨rfl, hb4⟩))
  go_ret2
  have k2 : Below w.heap.size w w2 := ((Below.refl _ _).alloc (Nat.le_refl _) _).trans (hb2.mono (by simp))
  have k3 : Below w.heap.size w w3 := k2.trans (hb3.mono k2.size)
  exact ⟨congrArg (fun x => Ending.returned (Value.tuple #[Value.string x, Value.int .i64 0])) he.out, k3.trans (hb4.mono k3.size)⟩
end Go.Proofs.Ytaabpjnjglnjoaa
