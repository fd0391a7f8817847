/-
  The walks of the program's disk: Fuse, torn, fateOf.
-/
import Derived.Test.YtmgdjnkdnakmhaaDskPSmall
import Derived.Test.YtmgdjnkdnakmhaaClass
namespace Go.Proofs.Ytmgdjnkdnakmhaa
open Go.RowKit
set_option linter.unusedVariables false
set_option linter.unnecessarySimpa false
set_option linter.unusedSimpArgs false
set_option maxRecDepth 100000

set_option maxHeartbeats 1000000 in
theorem p_fuseLost (w : World) (g gs n : Nat) (vb : Value) (P : List Sec) (W : List (Nat × List UInt8)) (f : Bool) (F : Int) (h : DP w g gs n vb P W f F) (m : Int) (hf : (f && F == 0) = true) :
    Calls Try.prog 13 #[.pointer (some ⟨g, 0, none⟩), .int .i64 m] w fun e w' => e = .returned (.tuple #[]) ∧ w = w' := by
  have HL := Lib.hid (p_lost w g gs n vb P W f F h)
  rw [hf] at HL
  clear h hf
  go_enter Try.func13, Try.ntmps13
  go_wp2_with (go_at_call 20; refine HL.out.mono ?_; rintro e w1 ⟨rfl, rfl⟩)
  (try simp only [Exit.inBlock, Exit.then])
  refine bodyPost_ret (results_none rfl _ _ _) rfl ?_
  exact ⟨rfl, rfl⟩
set_option maxHeartbeats 1000000 in
theorem p_fuse (w : World) (g gs n : Nat) (vb : Value) (P : List Sec) (W : List (Nat × List UInt8)) (f : Bool) (F : Int) (h : DP w g gs n vb P W f F) (m : Int) (hf : (f && F == 0) = false) :
    Calls Try.prog 13 #[.pointer (some ⟨g, 0, none⟩), .int .i64 m] w fun e w' => e = .returned (.tuple #[]) ∧ DP w' g gs n vb P W (decide (0 ≤ m)) (max m 0) ∧ Moves (pOwn g gs vb) (pOwn g gs vb) w w' := by
  have HL := Lib.hid (p_lost w g gs n vb P W f F h)
  rw [hf] at HL
  obtain ⟨c0, c1, c2, c3, cf⟩ := h.cells
  by_cases hm : 0 ≤ m
  · have e1 : decide (0 ≤ m) = true := by simpa using hm
    have e2 : max m 0 = m := by omega
    have e3 : decide (m < 0) = false := by simpa using hm
    have HP2 := Lib.hid ((h.putF true).putL m)
    have HM := Lib.hid (((Moves.same (pOwn g gs vb) w).cellP (a := ⟨g, 2, none⟩) (.inl (.inl rfl)) (.bool true)).cellP (a := ⟨g, 3, none⟩) (.inl (.inl rfl)) (.int .i64 m))
    rw [e1, e2]
    have HH := Lib.hid hm
    clear h hf hm e2
    go_enter Try.func13, Try.ntmps13
    go_wp2_with (go_at_call 20; refine HL.out.mono ?_; rintro e w1 ⟨rfl, rfl⟩)
    all_goals
      have hm := HH.out
      first
        | (exfalso; omega)
        | (go_end0; exact ⟨rfl, HP2.out, HM.out⟩)
  · have e1 : decide (0 ≤ m) = false := by simpa using hm
    have e2 : max m 0 = 0 := by omega
    have e3 : decide (m < 0) = true := by simp; omega
    have HP2 := Lib.hid ((h.putF false).putL 0)
    have HM := Lib.hid (((Moves.same (pOwn g gs vb) w).cellP (a := ⟨g, 2, none⟩) (.inl (.inl rfl)) (.bool false)).cellP (a := ⟨g, 3, none⟩) (.inl (.inl rfl)) (.int .i64 0))
    rw [e1, e2]
    have HH := Lib.hid hm
    clear h hf hm e2
    go_enter Try.func13, Try.ntmps13
    go_wp2_with (go_at_call 20; refine HL.out.mono ?_; rintro e w1 ⟨rfl, rfl⟩)
    all_goals
      have hm := HH.out
      first
        | (exfalso; omega)
        | (go_end0; exact ⟨rfl, HP2.out, HM.out⟩)

theorem p_fateNone (a : Option Addr) (len cap : Nat) (i : Nat) (hi : len ≤ i) (w : World) :
    Calls Try.prog 24 #[.slice a len cap, .int .i64 i] w fun e w' => e = .returned (.int .u8 0) ∧ w = w' := by
  have e1 : decide ((len : Int) ≤ (i : Int)) = true := by simp; omega
  have e2 : decide (len ≤ i) = true := by simp; omega
  go_enter Try.func24, Try.ntmps24
  go_wp2_with fail
  go_ret
  exact ⟨rfl, rfl⟩
theorem p_fate (b off : Nat) (len cap : Nat) (i : Nat) (hi : i < len) (x : UInt8) (w : World) (hc : w.cell? ⟨b, off + i, none⟩ = some (.int .u8 (x.toNat : Int))) :
    Calls Try.prog 24 #[.slice (some ⟨b, off, none⟩) len cap, .int .i64 i] w fun e w' => e = .returned (.int .u8 (x.toNat : Int)) ∧ w = w' := by
  have e1 : decide ((len : Int) ≤ (i : Int)) = false := by simp; omega
  have e2 : decide (len ≤ i) = false := by simp; omega
  go_enter Try.func24, Try.ntmps24
  go_wp2_with fail
  go_ret
  exact ⟨rfl, rfl⟩

theorem cut_str (o b : List UInt8) (t : Nat) (ho : o.length = 64) (hb : b.length = 64) (ht : t ≤ 64) : (⟨b.toArray⟩ : ByteArray).extract 0 t ++ (⟨o.toArray⟩ : ByteArray).extract t 64 = ⟨(b.take t ++ o.drop t).toArray⟩ := by
  have e : ∀ a b : ByteArray, a.data.toList = b.data.toList → a = b := fun a b h => by cases a; cases b; simp only [ByteArray.mk.injEq]; exact Array.toList_inj.1 h
  apply e
  rw [ByteArray.data_append, Array.toList_append, ByteArray.data_extract, ByteArray.data_extract, Array.toList_extract, Array.toList_extract]
  simp only [List.extract_eq_take_drop, List.drop_zero, Nat.sub_zero]
  congr 1
  rw [List.take_of_length_le (by simp [ho])]
theorem below_drewP {B : Nat} {w w' : World} (h : Below B w w') (n : Nat) : Below B w (w'.drewN n) := ⟨h.os, h.tape, h.output, h.size, h.block⟩
/-- torn. -/
theorem p_torn0 (o b : ByteArray) (w : World) : Calls Try.prog 23 #[.string o, .string b, .int .u8 0] w fun e w' => e = .returned (.string o) ∧ Below w.heap.size w w' := by
  go_enter Try.func23, Try.ntmps23
  go_wp2_with fail
  go_ret
  exact ⟨rfl, Below.refl _ _⟩
theorem p_torn255 (o b : ByteArray) (w : World) : Calls Try.prog 23 #[.string o, .string b, .int .u8 255] w fun e w' => e = .returned (.string b) ∧ Below w.heap.size w w' := by
  go_enter Try.func23, Try.ntmps23
  go_wp2_with fail
  go_ret
  exact ⟨rfl, Below.refl _ _⟩
set_option maxHeartbeats 1000000 in
theorem p_tornMid (o b : ByteArray) (c : UInt8) (ho : o.size = 64) (hb : b.size = 64) (h0 : c ≠ 0) (h1 : c ≠ 255) (w : World) :
    Calls Try.prog 23 #[.string o, .string b, .int .u8 (c.toNat : Int)] w fun e w' => e = .returned (.string (b.extract 0 (c.toNat % 64) ++ o.extract (c.toNat % 64) 64)) ∧ Below w.heap.size w w' := by
  have hc := UInt8.toNat_lt c
  have hz : c.toNat ≠ 0 := fun e => h0 (UInt8.toNat_inj.1 (by simpa using e))
  have hm : c.toNat ≠ 255 := fun e => h1 (UInt8.toNat_inj.1 (by simpa using e))
  have e0 : ((c.toNat : Int) == 0) = false := by rw [beq_eq_false_iff_ne]; omega
  have e1 : ((c.toNat : Int) == 255) = false := by rw [beq_eq_false_iff_ne]; omega
  have hwr : IntKind.i64.wrap (c.toNat : Int) = (c.toNat : Int) := IntWalk.i64_in _ (by omega)
  obtain ⟨t, ht⟩ : ∃ t, t = c.toNat % 64 := ⟨_, rfl⟩
  have htm : Int.tmod (c.toNat : Int) 64 = (t : Int) := by rw [ht]; rfl
  have htm2 : (c.toNat : Int) % 64 = (t : Int) := by rw [ht]; rfl
  have hlt : t < 64 := by omega
  rw [← ht]
  have hd1 : (t : Int) ≤ 64 := by omega
  have hsl1 : t ≤ b.size := by omega
  have hsl2 : t ≤ o.size := by omega
  clear ht h0 h1 hz hm
  go_enter Try.func23, Try.ntmps23
  go_wp2_with fail
  go_quiet (fail)
  go_wp2_with fail
  go_ret
  exact ⟨rfl, below_drewP (Below.refl _ _) _⟩
/-- torn, as the document has it. -/
theorem p_torn (o b : List UInt8) (c : UInt8) (ho : o.length = 64) (hb : b.length = 64) (w : World) :
    Calls Try.prog 23 #[.string ⟨o.toArray⟩, .string ⟨b.toArray⟩, .int .u8 (c.toNat : Int)] w fun e w' => e = .returned (vS (b.take (tear c) ++ o.drop (tear c))) ∧ Below w.heap.size w w' := by
  unfold vS
  by_cases h0 : c = 0
  · subst h0
    have : tear 0 = 0 := rfl
    rw [this, List.take_zero, List.nil_append, List.drop_zero]
    exact p_torn0 _ _ w
  · by_cases h1 : c = 255
    · subst h1
      have : tear 255 = 64 := rfl
      rw [this, List.take_of_length_le (by omega), List.drop_of_length_le (by omega), List.append_nil]
      exact p_torn255 _ _ w
    · have ht : tear c = c.toNat % 64 := by unfold tear; rw [if_neg h1]
      have := p_tornMid ⟨o.toArray⟩ ⟨b.toArray⟩ c (by show o.toArray.size = 64; simp [ho]) (by show b.toArray.size = 64; simp [hb]) h0 h1 w
      rw [cut_str o b _ ho hb (by omega)] at this
      rw [ht]
      exact this
end Go.Proofs.Ytmgdjnkdnakmhaa
