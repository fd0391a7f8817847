/-
  The walk of the document's Take: it answers what leadingUint does.
-/
import Derived.Test.YtdkkbplkclcabaaTakeMath
import Derived.Test.YtdkkbplkclcabaaFixMath
namespace Go.Proofs.Ytdkkbplkclcabaa
open Go.RowKit
set_option linter.unnecessarySimpa false
set_option linter.unusedVariables false
set_option linter.unusedSimpArgs false
set_option maxRecDepth 100000

theorem add_step (n b k : Nat) (hn : n < 2 ^ (7 * k)) (hk : k ≤ 9) (h9 : k = 9 → b % 128 ≤ 1) (u : Int) (hu : u = ((128 ^ k : Nat) : Int)) :
    IntKind.u64.wrap ((n : Int) + IntKind.u64.wrap (((b % 128 : Nat) : Int) * u)) = ((n + b % 128 * 128 ^ k : Nat) : Int) := by
  have hP : (128 : Nat) ^ k = 2 ^ (7 * k) := by rw [show (128 : Nat) = 2 ^ 7 from rfl, ← Nat.pow_mul]
  have hlt : b % 128 * 2 ^ (7 * k) + 2 ^ (7 * k) ≤ 18446744073709551616 := by
    by_cases e : k = 9
    · subst e
      have this := h9 rfl
      have h3 := Nat.mul_le_mul_right (2 ^ (7 * 9)) this
      exact Nat.le_trans (Nat.add_le_add_right h3 _) (by decide)
    · have h1 : b % 128 + 1 ≤ 128 := by omega
      have h2 : (2 : Nat) ^ (7 * k) ≤ 2 ^ 56 := Nat.pow_le_pow_right (by decide) (by omega)
      have h3 := Nat.mul_le_mul h1 h2
      rw [Nat.add_mul, Nat.one_mul] at h3
      omega
  rw [hu, hP, show ((b % 128 : Nat) : Int) * ((2 ^ (7 * k) : Nat) : Int) = ((b % 128 * 2 ^ (7 * k) : Nat) : Int) by simp]
  rw [show IntKind.u64.wrap ((b % 128 * 2 ^ (7 * k) : Nat) : Int) = ((b % 128 * 2 ^ (7 * k) : Nat) : Int) by rw [IntKind.wrap_u64]; omega]
  rw [IntKind.wrap_u64]
  omega

theorem unit_step (k : Nat) (hk : k ≤ 8) (u : Int) (hu : u = ((128 ^ k : Nat) : Int)) : IntKind.u64.wrap (u * 128) = ((128 ^ (k + 1) : Nat) : Int) := by
  have h2 : (128 : Nat) ^ (k + 1) ≤ 128 ^ 9 := Nat.pow_le_pow_right (by decide) (by omega)
  have h3 : (128 : Nat) ^ 9 = 9223372036854775808 := by decide
  rw [hu, show ((128 ^ k : Nat) : Int) * 128 = ((128 ^ (k + 1) : Nat) : Int) by rw [Nat.pow_succ]; simp, IntKind.wrap_u64]
  generalize 128 ^ (k + 1) = z at *
  omega

set_option maxRecDepth 100000 in
set_option maxHeartbeats 1600000 in
theorem refTake_any (s : ByteArray) (hs : s.size ≤ maxLen) (w : World) :
    Calls Try.prog 19 #[.string s] w fun e w' => e = .returned (.tuple #[.int .u64 (tkN s.data.toList : Nat), .int .i64 (tkK s.data.toList : Nat)]) ∧ w = w' := by
  unfold maxLen at hs
  go_enter Try.func19, Try.ntmps19
  go_wp2_with fail
  go_loop [4, 5, 6, 7] (fun t u i _ => ∃ (k : Nat) (n v : Int), k ≤ s.size ∧ k ≤ 10 ∧ i = .int .i64 k ∧ t = .int .u64 n ∧ u = .int .u64 v ∧ Hid (k ≤ 9 → ∃ N : Nat, n = N ∧ N < 2 ^ (7 * k) ∧ v = ((128 ^ k : Nat) : Int) ∧ tk s.data.toList = tkAux k N (s.data.toList.drop k)) ∧ Hid (k = 10 → tk s.data.toList = none)) (fun _ _ i _ => s.size - (intOf i).toNat)
  case atStart => exact ⟨0, 0, 1, Nat.zero_le _, Nat.zero_le _, rfl, rfl, rfl, Lib.hid (fun _ => ⟨0, rfl, by simp, rfl, rfl⟩), Lib.hid (by omega)⟩
  case round =>
    obtain ⟨k, n, v, hk, hk10, rfl, rfl, rfl, hn, ht⟩ := hrel
    have hls : s.data.toList.length = s.size := by rw [Array.length_toList]; rfl
    by_cases hlt : k < s.size
    · by_cases e10 : k = 10
      · subst e10
        have HZ := Lib.hid (tk_is_none (ht.out rfl))
        go_wp2_with fail
        go_ret2
        exact ⟨ret_two (by rw [HZ.out.1]; rfl) (by rw [HZ.out.2]; rfl), rfl⟩
      · obtain ⟨N, rfl, hN, hv, htk⟩ := hn.out (by omega)
        clear hn ht
        obtain ⟨b, hb⟩ : ∃ b : Nat, s[k].toNat = b := ⟨_, rfl⟩
        have hb256 : b < 256 := by have := s[k].toNat_lt; omega
        have hst := tkAux_step s.data.toList k N b (by omega) hb
        rw [← htk] at hst
        have HST := Lib.hid hst
        have HV := Lib.hid hv
        have HN := Lib.hid hN
        clear hst htk hls hv hN
        have hk9 : k ≤ 9 := by omega
        by_cases e9 : k = 9
        · by_cases h1 : 1 < b % 128
          · have HZ := Lib.hid (tk_is_none (by rw [HST.out, if_pos ⟨e9, by omega⟩]))
            subst e9
            go_wp2_with fail
            go_ret2
            exact ⟨ret_two (by rw [HZ.out.1]; rfl) (by rw [HZ.out.2]; rfl), rfl⟩
          · have HA := Lib.hid (add_step N b k HN.out hk9 (fun _ => by omega) v HV.out)
            by_cases h128 : 128 ≤ b
            · have HX : Hid (tk s.data.toList = none) := by rw [HST.out, if_pos ⟨e9, by omega⟩]; exact Lib.hid rfl
              have HNK := Lib.hid hk9
              subst e9
              go_wp2_with fail
              exact ⟨⟨10, _, _, by omega, by omega, by go_num, rfl, rfl, Lib.hid (by omega), Lib.hid (fun _ => HX.out)⟩, by simp [intOf]; omega⟩
            · by_cases h0 : b = 0
              · have HZ := Lib.hid (tk_is_none (by rw [HST.out, if_neg (by omega), if_neg (by omega), if_pos ⟨h0, by omega⟩]))
                subst e9
                have hb0 : ((b : Int) == 0) = true := by simp; omega
                have h0' := Lib.hid h0
                clear h0
                go_wp2_with fail
                go_ret2
                exact ⟨ret_two (by rw [HZ.out.1]; rfl) (by rw [HZ.out.2]; rfl), rfl⟩
              · have HZ := Lib.hid (tk_is_some (by rw [HST.out, if_neg (by omega), if_neg (by omega), if_neg (by omega)]))
                subst e9
                have hb0 : ((b : Int) == 0) = false := by simp; omega
                go_wp2_with fail
                go_ret2
                exact ⟨ret_two (by rw [HZ.out.1, ← HA.out]; rfl) (by rw [HZ.out.2]; rfl), rfl⟩
        · have HA := Lib.hid (add_step N b k HN.out hk9 (fun h => absurd h e9) v HV.out)
          have hne : ((k : Int) == 9) = false := by simp; omega
          by_cases h128 : 128 ≤ b
          · have HX : Hid (tk s.data.toList = tkAux (k + 1) (N + b % 128 * 128 ^ k) (s.data.toList.drop (k + 1))) := by rw [HST.out, if_neg (by omega), if_pos h128]; exact Lib.hid rfl
            have HU := Lib.hid (unit_step k (by omega) v HV.out)
            go_wp2_with fail
            exact ⟨⟨k + 1, _, _, by omega, by omega, by go_num, rfl, rfl, Lib.hid (fun _ => ⟨N + b % 128 * 128 ^ k, HA.out, next_lt N b k HN.out, HU.out, HX.out⟩), Lib.hid (by omega)⟩, by simp [intOf]; omega⟩
          · by_cases hk0 : k = 0
            · have HZ := Lib.hid (tk_is_some (by rw [HST.out, if_neg (by omega), if_neg (by omega), if_neg (by omega)]))
              subst hk0
              go_wp2_with fail
              go_ret2
              exact ⟨ret_two (by rw [HZ.out.1, ← HA.out]; rfl) (by rw [HZ.out.2]; rfl), rfl⟩
            · have hk1 : 0 < k := by omega
              by_cases h0 : b = 0
              · have HZ := Lib.hid (tk_is_none (by rw [HST.out, if_neg (by omega), if_neg (by omega), if_pos ⟨h0, by omega⟩]))
                have hb0 : ((b : Int) == 0) = true := by simp; omega
                have h0' := Lib.hid h0
                clear h0
                go_wp2_with fail
                go_ret2
                exact ⟨ret_two (by rw [HZ.out.1]; rfl) (by rw [HZ.out.2]; rfl), rfl⟩
              · have HZ := Lib.hid (tk_is_some (by rw [HST.out, if_neg (by omega), if_neg (by omega), if_neg (by omega)]))
                have hb0 : ((b : Int) == 0) = false := by simp; omega
                go_wp2_with fail
                go_ret2
                exact ⟨ret_two (by rw [HZ.out.1, ← HA.out]; rfl) (by rw [HZ.out.2]; rfl), rfl⟩
    · have HZ : Hid (tkN s.data.toList = 0 ∧ tkK s.data.toList = 0) := by
        by_cases e10 : k = 10
        · exact Lib.hid (tk_is_none (ht.out e10))
        · obtain ⟨N, _, _, _, htk⟩ := hn.out (by omega)
          rw [List.drop_of_length_le (by omega)] at htk
          exact Lib.hid (tk_is_none htk)
      clear hls hn ht
      go_wp2_with fail
      go_ret2
      exact ⟨ret_two (by rw [HZ.out.1]; rfl) (by rw [HZ.out.2]; rfl), rfl⟩
end Go.Proofs.Ytdkkbplkclcabaa
