/-
  The walk of the document's Value: the number that bytes are, either way round.
-/
import Derived.Test.YtefkhekmhabeaaaCursorFixed
namespace Go.Proofs.Ytefkhekmhabeaaa
open Go.RowKit

/-- What has been gathered behind k rounds. -/
def vacc (l : List UInt8) (big : Bool) (k : Nat) : Nat := if big then le (l.take k).reverse else le (l.drop (l.length - k))

theorem vacc_zero (l : List UInt8) (big : Bool) : vacc l big 0 = 0 := by unfold vacc; split <;> simp [le]
theorem vacc_full (l : List UInt8) (big : Bool) : vacc l big l.length = valB l big := by unfold vacc valB; split <;> simp
theorem vacc_lt (l : List UInt8) (big : Bool) (k : Nat) (h : k ≤ l.length) : vacc l big k < 256 ^ k := by
  unfold vacc
  split
  · have := le_lt (l.take k).reverse
    rwa [List.length_reverse, List.length_take, Nat.min_eq_left h] at this
  · have := le_lt (l.drop (l.length - k))
    rwa [List.length_drop, show l.length - (l.length - k) = k by omega] at this
theorem vacc_big (l : List UInt8) (k : Nat) (h : k < l.length) : vacc l true (k + 1) = vacc l true k * 256 + l[k].toNat := by
  unfold vacc
  simp only [if_true]
  rw [List.take_succ_eq_append_getElem h, List.reverse_append]
  simp only [List.reverse_cons, List.reverse_nil, List.nil_append, List.cons_append, le]
  omega
theorem vacc_little (l : List UInt8) (k : Nat) (h : k < l.length) : vacc l false (k + 1) = vacc l false k * 256 + (l[l.length - 1 - k]'(by omega)).toNat := by
  unfold vacc
  simp only [Bool.false_eq_true, if_false]
  rw [List.drop_eq_getElem_cons (show l.length - (k + 1) < l.length by omega)]
  simp only [le]
  rw [show l.length - (k + 1) + 1 = l.length - k by omega]
  have e : l[l.length - (k + 1)]'(by omega) = l[l.length - 1 - k]'(by omega) := by congr 1; omega
  rw [e]
  omega

theorem vacc_wrap (V b V' k : Nat) (hs : V' = V * 256 + b) (hl : V' < 256 ^ (k + 1)) (hk : k + 1 ≤ 8) (hb : b < 256) :
    IntKind.u64.wrap (IntKind.u64.wrap ((V : Int) * 256) + (b : Int)) = (V' : Int) := by
  have h1 : (256 : Nat) ^ (k + 1) ≤ 256 ^ 8 := Nat.pow_le_pow_right (by decide) hk
  have h2 : (256 : Nat) ^ 8 = 18446744073709551616 := by decide
  rw [IntKind.wrap_u64, IntKind.wrap_u64]
  omega

set_option maxRecDepth 100000 in
set_option maxHeartbeats 1600000 in
theorem refValue_any (s : ByteArray) (big : Bool) (hs : s.size ≤ 8) (w : World) :
    Calls Try.prog 28 #[.string s, .bool big] w fun e w' => e = .returned (.int .u64 (valB s.data.toList big : Nat)) ∧ w = w' := by
  go_enter Try.func28, Try.ntmps28
  go_wp2_with fail
  go_loop [5, 6, 7] (fun t i _ => ∃ (k : Nat), k ≤ s.size ∧ i = .int .i64 k ∧ t = .int .u64 (vacc s.data.toList big k : Nat)) (fun _ i _ => s.size - (intOf i).toNat)
  case atStart => exact ⟨0, Nat.zero_le _, rfl, by rw [vacc_zero]; rfl⟩
  case round =>
    obtain ⟨k, hk, rfl, rfl⟩ := hrel
    have hls := list_size s
    by_cases hlt : k < s.size
    · have hlm : s.size - 1 - k < s.size := by omega
      have hlt2 := vacc_lt s.data.toList big (k + 1) (by omega)
      cases big
      · have hst := vacc_little s.data.toList k (by omega)
        have hix : s.data.toList[s.data.toList.length - 1 - k]'(by omega) = s[s.size - 1 - k]'hlm := by
          have : s.data.toList.length - 1 - k = s.size - 1 - k := by omega
          simp only [this]; rfl
        rw [hix] at hst
        obtain ⟨b, hb⟩ : ∃ b : Nat, (s[s.size - 1 - k]'hlm).toNat = b := ⟨_, rfl⟩
        rw [hb] at hst
        have hb255 : b ≤ 255 := by have := (s[s.size - 1 - k]'hlm).toNat_lt; omega
        have HW := Lib.hid (vacc_wrap _ b _ k hst hlt2 (by omega) (by omega))
        clear hst hix hls hlt2
        go_wp2_with fail
        exact ⟨⟨k + 1, by omega, by go_num, by rw [HW.out]⟩, by simp [intOf]; omega⟩
      · have hst := vacc_big s.data.toList k (by omega)
        have hix : s.data.toList[k]'(by omega) = s[k]'hlt := rfl
        rw [hix] at hst
        obtain ⟨b, hb⟩ : ∃ b : Nat, (s[k]'hlt).toNat = b := ⟨_, rfl⟩
        rw [hb] at hst
        have hb255 : b ≤ 255 := by have := (s[k]'hlt).toNat_lt; omega
        have HW := Lib.hid (vacc_wrap _ b _ k hst hlt2 (by omega) (by omega))
        clear hst hix hls hlt2
        go_wp2_with fail
        exact ⟨⟨k + 1, by omega, by go_num, by rw [HW.out]⟩, by simp [intOf]; omega⟩
    · have HV : Hid (vacc s.data.toList big k = valB s.data.toList big) := by
        rw [show k = s.data.toList.length by omega]; exact Lib.hid (vacc_full _ _)
      clear hls
      go_wp2_with fail
      go_ret
      exact ⟨ret_int (by rw [HV.out]), rfl⟩
end Go.Proofs.Ytefkhekmhabeaaa
