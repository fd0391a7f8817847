/-
  The walk of leadingUint: a number off the head of bytes.
-/
import Derived.Test.YtahohdbkkcdmiaaTakeMath
import Derived.ProofKit
import Derived.WalkSpells
import Derived.WalkLawsBesides
import Derived.Lib.Hide
namespace Go.Proofs.Ytahohdbkkcdmiaa
open Go.RowKit
set_option linter.unnecessarySimpa false
set_option linter.unusedVariables false
set_option linter.unusedSimpArgs false
set_option maxRecDepth 100000

set_option maxRecDepth 100000 in
set_option maxHeartbeats 1600000 in
theorem leading_any (s : ByteArray) (hs : s.size ≤ maxLen) (w : World) :
    Calls Try.prog 34 #[.string s] w fun e w' => e = .returned (.tuple #[.int .u64 (tkN s.data.toList : Nat), .int .i64 (tkK s.data.toList : Nat)]) ∧ w = w' := by
  unfold maxLen at hs
  go_enter Try.func34, Try.ntmps34
  go_wp2_with fail
  go_loop [4, 5, 6, 9] (fun t _ _ i => ∃ k n : Nat, k ≤ s.size ∧ k ≤ 9 ∧ i = .int .i64 k ∧ t = .int .u64 n ∧ Hid (n < 2 ^ (7 * k)) ∧ Hid (tk s.data.toList = tkAux k n (s.data.toList.drop k))) (fun _ _ _ i => s.size - (intOf i).toNat)
  case atStart => exact ⟨0, 0, Nat.zero_le _, Nat.zero_le _, rfl, rfl, Lib.hid (by simp), Lib.hid rfl⟩
  case round =>
    obtain ⟨k, n, hk, hk9, rfl, rfl, hn, ht⟩ := hrel
    have hls : s.data.toList.length = s.size := by rw [Array.length_toList]; rfl
    by_cases hlt : k < s.size
    · obtain ⟨b, hb⟩ : ∃ b : Nat, s[k].toNat = b := ⟨_, rfl⟩
      have hb256 : b < 256 := by have := s[k].toNat_lt; omega
      have hst := tkAux_step s.data.toList k n b (by omega) hb
      rw [← ht.out] at hst
      have HST := Lib.hid hst
      clear hst ht hls
      by_cases e9 : k = 9
      · subst e9
        have HO := Lib.hid (fun h9 => or_step n b 9 hb256 hn.out (by omega) h9)
        by_cases h1 : 1 < b
        · have HZ := Lib.hid (tk_is_none (by rw [HST.out, if_pos ⟨rfl, h1⟩]))
          go_wp2_with fail
          go_ret2
          exact ⟨ret_two (by rw [HZ.out.1]; rfl) (by rw [HZ.out.2]; rfl), rfl⟩
        · have hno := and128_no b hb256 (by omega)
          by_cases h0 : b = 0
          · have HZ := Lib.hid (tk_is_none (by rw [HST.out, if_neg (by omega), if_neg (by omega), if_pos ⟨h0, by omega⟩]))
            have hb0 : ((b : Int) == 0) = true := by simp; omega
            have h0' := Lib.hid h0
            clear h0
            go_wp2_with fail
            go_ret2
            exact ⟨ret_two (by rw [HZ.out.1]; rfl) (by rw [HZ.out.2]; rfl), rfl⟩
          · have HZ := Lib.hid (tk_is_some (by rw [HST.out, if_neg (by omega), if_neg (by omega), if_neg (by omega)]))
            have hb0 : ((b : Int) == 0) = false := by simp; omega
            go_wp2_with fail
            go_ret2
            exact ⟨ret_two (by rw [HZ.out.1, ← HO.out (by omega)]; rfl) (by rw [HZ.out.2]; rfl), rfl⟩
      · have hne : ((k : Int) == 9) = false := by simp; omega
        have HO := Lib.hid (or_step n b k hb256 hn.out (by omega) (fun h => absurd h e9))
        by_cases h128 : 128 ≤ b
        · have hyes := and128_yes b hb256 h128
          go_wp2_with fail
          refine ⟨⟨k + 1, n + b % 128 * 128 ^ k, by omega, by omega, by go_num, by rw [HO.out], Lib.hid (next_lt n b k hn.out), Lib.hid ?_⟩, by simp [intOf]; omega⟩
          rw [HST.out, if_neg (by omega), if_pos h128]
        · have hno := and128_no b hb256 (by omega)
          by_cases h0 : b = 0
          · have hb0 : ((b : Int) == 0) = true := by simp; omega
            have h0' := Lib.hid h0
            clear h0
            by_cases hk0 : k = 0
            · subst hk0
              have HZ := Lib.hid (tk_is_some (by rw [HST.out, if_neg (by omega), if_neg (by omega), if_neg (by omega)]))
              go_wp2_with fail
              go_ret2
              exact ⟨ret_two (by rw [HZ.out.1, ← HO.out]; simp) (by rw [HZ.out.2]; rfl), rfl⟩
            · have HZ := Lib.hid (tk_is_none (by rw [HST.out, if_neg (by omega), if_neg (by omega), if_pos ⟨h0'.out, by omega⟩]))
              have hk1 : 0 < k := by omega
              go_wp2_with fail
              go_ret2
              exact ⟨ret_two (by rw [HZ.out.1]; rfl) (by rw [HZ.out.2]; rfl), rfl⟩
          · have HZ := Lib.hid (tk_is_some (by rw [HST.out, if_neg (by omega), if_neg (by omega), if_neg (by omega)]))
            have hb0 : ((b : Int) == 0) = false := by simp; omega
            go_wp2_with fail
            go_ret2
            exact ⟨ret_two (by rw [HZ.out.1, ← HO.out]) (by rw [HZ.out.2]; rfl), rfl⟩
    · have hd : s.data.toList.drop k = [] := List.drop_of_length_le (by omega)
      have HZ := Lib.hid (tk_is_none (l := s.data.toList) (by rw [ht.out, hd]; rfl))
      clear hd hls ht
      go_wp2_with fail
      go_ret2
      exact ⟨ret_two (by rw [HZ.out.1]; rfl) (by rw [HZ.out.2]; rfl), rfl⟩
end Go.Proofs.Ytahohdbkkcdmiaa
