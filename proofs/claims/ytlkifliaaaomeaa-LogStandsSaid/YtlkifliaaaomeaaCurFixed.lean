/-
  The walk of the cursor's Fixed (for seats of every layer).
-/
import Derived.Test.YtlkifliaaaomeaaCurBytes
import Derived.Test.YtlkifliaaaomeaaFixedB
import Derived.Deep.QuietTactic
import Derived.BigQuiet
namespace Go.Proofs.Ytlkifliaaaomeaa
open Go.RowKit
set_option linter.unnecessarySimpa false
set_option linter.unusedSimpArgs false
set_option maxRecDepth 100000
set_option linter.unusedVariables false

/-- Bytes as a number, the lowest first. -/
def le : List UInt8 → Nat
  | [] => 0
  | b :: r => b.toNat + 256 * le r

theorem le_append (a b : List UInt8) : le (a ++ b) = le a + 256 ^ a.length * le b := by
  induction a with
  | nil => simp [le]
  | cons x a ih => simp only [List.cons_append, le, ih, List.length_cons, Nat.pow_succ, Nat.mul_add]; rw [Nat.add_assoc, Nat.mul_comm (256 ^ a.length) 256, Nat.mul_assoc]

theorem le_lt (l : List UInt8) : le l < 256 ^ l.length := by
  induction l with
  | nil => simp [le]
  | cons x l ih => have := x.toNat_lt; simp only [le, List.length_cons, Nat.pow_succ]; omega

/-- The number that bytes are, either way round. -/
def valB (l : List UInt8) (big : Bool) : Nat := if big then le l.reverse else le l

/-- What has been gathered of the first k of size bytes. -/
def acc (l : List UInt8) (size : Nat) (big : Bool) (k : Nat) : Nat := if big then le (l.take k).reverse * 256 ^ (size - k) else le (l.take k)

theorem acc_zero (l : List UInt8) (size : Nat) (big : Bool) : acc l size big 0 = 0 := by unfold acc; split <;> simp [le]
theorem acc_full (l : List UInt8) (big : Bool) : acc l l.length big l.length = valB l big := by unfold acc valB; split <;> simp

theorem acc_step (l : List UInt8) (size : Nat) (big : Bool) (k : Nat) (h : k < l.length) (hs : l.length = size) : acc l size big (k + 1) = acc l size big k + l[k].toNat * 256 ^ pl size big k := by
  have ht : l.take (k + 1) = l.take k ++ [l[k]] := by rw [List.take_succ_eq_append_getElem h]
  have hlen : (l.take k).length = k := by simp; omega
  unfold acc pl
  rw [ht]
  cases big
  · simp only [Bool.false_eq_true, if_false]
    rw [le_append, hlen]
    simp only [le]
    rw [Nat.mul_zero, Nat.add_zero, Nat.mul_comm]
  · simp only [if_true]
    rw [List.reverse_append]
    simp only [List.reverse_cons, List.reverse_nil, List.nil_append, List.cons_append, le]
    rw [show size - k = (size - 1 - k) + 1 by omega, show size - (k + 1) = size - 1 - k by omega, Nat.pow_succ, Nat.add_mul]
    rw [Nat.add_comm, Nat.mul_comm 256, Nat.mul_assoc, Nat.mul_comm 256]

/-- What has been gathered, and what comes, do not meet. -/
theorem acc_or (l : List UInt8) (size : Nat) (big : Bool) (k : Nat) (h : k < l.length) (hs : l.length = size) (h8 : size ≤ 8) :
    bits BinOp.or IntKind.u64 (acc l size big k : Int) (IntKind.u64.wrap ((l[k].toNat : Int) * 2 ^ (8 * pl size big k))) = (acc l size big (k + 1) : Int) := by
  have hb := l[k].toNat_lt
  have hpl := pl_lt (size := size) (j := k) big (by omega)
  have hstep := acc_step l size big k h hs
  have hP : (2 : Int) ^ (8 * pl size big k) = ((256 ^ pl size big k : Nat) : Int) := by
    rw [show (256 : Nat) = 2 ^ 8 from rfl, ← Nat.pow_mul]; simp
  have hlen : (l.take k).length = k := by simp; omega
  have h7 : 256 * 256 ^ pl size big k ≤ 18446744073709551616 := by
    rw [← Nat.pow_succ']
    exact Nat.le_trans (Nat.pow_le_pow_right (by decide) (show pl size big k + 1 ≤ 8 by omega)) (by decide)
  have hx : l[k].toNat * 256 ^ pl size big k + 256 ^ pl size big k ≤ 256 * 256 ^ pl size big k := by
    have := Nat.mul_le_mul_right (256 ^ pl size big k) (show l[k].toNat + 1 ≤ 256 by omega)
    rwa [Nat.add_mul, Nat.one_mul] at this
  have hpos : 0 < 256 ^ pl size big k := Nat.pow_pos (by decide)
  rw [hP, show ((l[k].toNat : Int) * ((256 ^ pl size big k : Nat) : Int)) = ((l[k].toNat * 256 ^ pl size big k : Nat) : Int) by simp]
  have e3 : IntKind.u64.wrap ((l[k].toNat * 256 ^ pl size big k : Nat) : Int) = ((l[k].toNat * 256 ^ pl size big k : Nat) : Int) := by rw [IntKind.wrap_u64]; omega
  rw [e3]
  cases big
  · have hlt := le_lt (l.take k)
    rw [hlen] at hlt
    have ha : acc l size false k = le (l.take k) := by simp [acc]
    have hp : pl size false k = k := by simp [pl]
    rw [hp] at hstep h7 hx hpos e3 ⊢
    rw [ha] at hstep ⊢
    rw [u64_or_nat _ _ (by omega) (by omega), Nat.or_comm, show (256 : Nat) ^ k = 2 ^ (8 * k) by rw [Nat.pow_mul], nat_join (8 * k) _ _ (Nat.mul_mod_left _ _) (by rw [Nat.pow_mul]; exact hlt)]
    rw [hstep, Nat.pow_mul, Nat.add_comm]
  · have hlt := le_lt (l.take k).reverse
    rw [List.length_reverse, hlen] at hlt
    have hp : pl size true k = size - 1 - k := by simp [pl]
    have ha : acc l size true k = le (l.take k).reverse * (256 * 256 ^ pl size true k) := by
      rw [hp, ← Nat.pow_succ', show (size - 1 - k).succ = size - k by omega]; simp [acc]
    have hlt2 : acc l size true k + 256 * 256 ^ pl size true k ≤ 18446744073709551616 := by
      rw [ha, ← Nat.succ_mul]
      refine Nat.le_trans (Nat.mul_le_mul_right _ (Nat.succ_le_of_lt hlt)) ?_
      rw [hp, ← Nat.pow_succ', ← Nat.pow_add]
      exact Nat.le_trans (Nat.pow_le_pow_right (by decide) (show k + (size - 1 - k).succ ≤ 8 by omega)) (by decide)
    rw [u64_or_nat _ _ (by omega) (by omega), nat_join (8 * (pl size true k + 1)) _ _ ?_ ?_]
    · rw [hstep]
    · rw [Nat.pow_mul, show (2 ^ 8 : Nat) = 256 from rfl, ha, Nat.pow_succ', Nat.mul_mod_left]
    · rw [Nat.pow_mul, show (2 ^ 8 : Nat) = 256 from rfl, Nat.pow_succ']; omega

/-- What Fixed tells, and what it leaves. -/
def cFixed (s : ByteArray) (bad : Bool) (size : Int) (big : Bool) : Nat × ByteArray × Bool :=
  if size < 1 ∨ 8 < size then (0, s, true) else (valB (cBytes s bad size).1.data.toList big, (cBytes s bad size).2.1, (cBytes s bad size).2.2)

theorem cBytes_fst (s : ByteArray) (bad : Bool) (n : Int) : (cBytes s bad n).1.size = 0 ∨ ((cBytes s bad n).1.size : Int) = n := by
  unfold cBytes
  split
  · exact .inl rfl
  · refine .inr ?_; simp; omega

set_option maxHeartbeats 1600000 in
theorem cur_fixed_no (g : Nat) (s : ByteArray) (bad : Bool) (size : Int) (big : Bool) (w : World) (hs : s.size ≤ maxLen) (hz : size < 1 ∨ 8 < size) (h : CurAt w g s bad) :
    Calls Try.prog 51 #[.pointer (some ⟨g, 0, none⟩), .int .i64 size, .bool big] w fun e w' => e = .returned (.int .u64 (cFixed s bad size big).1) ∧ CurAt w' g (cFixed s bad size big).2.1 (cFixed s bad size big).2.2 ∧ w.grownBy w' (some g) := by
  have hd := Lib.hid (show cFixed s bad size big = (0, s, true) by simp [cFixed, hz])
  have HZ := Lib.hid hz
  have H := Lib.hid h
  have c1 := h.c1
  have f1 := h.f1
  clear h hz
  go_enter Try.func51, Try.ntmps51
  go_wp2_with (go_at_call 60; refine (isSize_no _ _ HZ.out).mono ?_; rintro e w' ⟨rfl, rfl⟩)
  go_ret
  rw [hd.out]
  exact ⟨rfl, H.out.set1 true, grownBy_setCell _ _ _ _⟩

set_option maxHeartbeats 1600000 in
theorem cur_fixed_yes (g : Nat) (s : ByteArray) (bad : Bool) (size : Nat) (big : Bool) (w : World) (hs : s.size ≤ maxLen) (h1 : 1 ≤ size) (h8 : size ≤ 8) (h : CurAt w g s bad) :
    Calls Try.prog 51 #[.pointer (some ⟨g, 0, none⟩), .int .i64 size, .bool big] w fun e w' => e = .returned (.int .u64 (cFixed s bad size big).1) ∧ CurAt w' g (cFixed s bad size big).2.1 (cFixed s bad size big).2.2 ∧ w.grownBy w' (some g) := by
  have hd := Lib.hid (show cFixed s bad size big = (valB (cBytes s bad size).1.data.toList big, (cBytes s bad size).2.1, (cBytes s bad size).2.2) by simp [cFixed]; omega)
  have HC := Lib.hid (cur_bytes g s bad size w hs h)
  have HF := Lib.hid (cBytes_fst s bad size)
  obtain ⟨b, eb⟩ : ∃ b, (cBytes s bad size).1 = b := ⟨_, rfl⟩
  have H := Lib.hid h
  clear h hs
  rw [eb] at HC HF hd
  clear eb
  have hbs : b.size ≤ size := by have := HF.out; omega
  go_enter Try.func51, Try.ntmps51
  go_wp2_with (first | (go_at_call 60; refine (isSize_yes _ _ (by omega)).mono ?_; rintro e w' ⟨rfl, rfl⟩) | (go_at_call 52; refine HC.out.mono ?_; rintro e w1 ⟨rfl, hc1, hg1⟩))
  have HC1 := Lib.hid hc1
  clear hc1
  go_loopw [8, 9, 21] (fun t _ i wr => ∃ k : Nat, k ≤ b.size ∧ i = .int .i64 k ∧ t = .int .u64 (acc b.data.toList size big k) ∧ w1.grownBy wr (some g) ∧ CurAt wr g (cBytes s bad size).2.1 (cBytes s bad size).2.2) (fun _ _ i _ => b.size - (intOf i).toNat)
  case atStart => exact ⟨0, Nat.zero_le _, rfl, by rw [acc_zero]; rfl, grownBy_refl _ _, HC1.out⟩
  case round =>
    obtain ⟨k, hk, rfl, rfl, hgr, hcr⟩ := hrel
    have HCR := Lib.hid hcr
    clear hcr
    by_cases hlt : k < b.size
    · have hks : k < size := by omega
      have hpl := pl_lt (size := size) (j := k) big hks
      have hb255 : (b[k].toNat : Int) ≤ 255 := by have := b[k].toNat_lt; omega
      have HSZ : b.size = size := by have := HF.out; omega
      have HOR := Lib.hid (acc_or b.data.toList size big k (by rw [list_size]; exact hlt) (by rw [list_size]; exact HSZ) h8)
      clear HSZ
      go_wp2_with fail
      go_quiet ((go_at_call 61; exact Calls.quiet_of_same ((place_any k size big _ hks h8).mono fun _ _ hh => ⟨hh.1, hh.2.symm⟩)))
      go_wp2_with fail
      refine ⟨⟨k + 1, by omega, by go_num, by rw [← HOR.out]; rfl, ⟨hgr.os, hgr.tape, hgr.output, hgr.size, hgr.block⟩, HCR.out⟩, by simp [intOf]; omega⟩
    · have HV : Hid (acc b.data.toList size big k = valB b.data.toList big) := by
        rcases HF.out with h0 | h0
        · have hnil : b.data.toList = [] := List.length_eq_zero_iff.1 (by rw [list_size]; exact h0)
          have hk0 : k = 0 := by omega
          rw [hnil, hk0]
          exact Lib.hid (by rw [acc_zero]; simp [valB, le])
        · have e1 : k = b.data.toList.length := by rw [list_size]; omega
          have e2 : size = b.data.toList.length := by rw [list_size]; omega
          rw [e1, e2]
          exact Lib.hid (acc_full _ _)
      go_wp2_with fail
      go_ret
      rw [hd.out]
      exact ⟨ret_int (by rw [HV.out]), HCR.out, grownBy_trans hg1 hgr⟩

theorem cur_fixed (g : Nat) (s : ByteArray) (bad : Bool) (size : Int) (big : Bool) (w : World) (hs : s.size ≤ maxLen) (h : CurAt w g s bad) :
    Calls Try.prog 51 #[.pointer (some ⟨g, 0, none⟩), .int .i64 size, .bool big] w fun e w' => e = .returned (.int .u64 (cFixed s bad size big).1) ∧ CurAt w' g (cFixed s bad size big).2.1 (cFixed s bad size big).2.2 ∧ w.grownBy w' (some g) := by
  by_cases hz : 1 ≤ size ∧ size ≤ 8
  · obtain ⟨k, rfl⟩ := Int.eq_ofNat_of_zero_le (show 0 ≤ size by omega)
    exact cur_fixed_yes g s bad k big w hs (by omega) (by omega) h
  · exact cur_fixed_no g s bad size big w hs (by omega) h
end Go.Proofs.Ytlkifliaaaomeaa
