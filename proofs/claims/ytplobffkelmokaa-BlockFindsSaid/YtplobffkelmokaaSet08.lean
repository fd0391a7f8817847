/-
  Joined: RefTakeB, BuildOne.
-/
import Derived.Test.YtplobffkelmokaaSet01
import Derived.Test.YtplobffkelmokaaSet03
namespace Go.Proofs.Ytplobffkelmokaa
open Go.RowKit
set_option linter.unnecessarySimpa false
set_option linter.unusedVariables false
set_option linter.unusedSimpArgs false
set_option maxRecDepth 100000

theorem add_step (n b k : Nat) (hn : n < 2 ^ (7 * k)) (hk : k ≤ 9) (h9 : k = 9 → b % 128 ≤ 1) (u : Int) (hu : u = ((128 ^ k : Nat) : Int)) :
    IntKind.u64.wrap ((n : Int) + IntKind.u64.wrap (((b % 128 : Nat) : Int) * u)) = ((n + b % 128 * 128 ^ k : Nat) : Int) := by
  have hP : (128 : Nat) ^ k = 2 ^ (7 * k) := by rw [show (128 : Nat) = 2 ^ 7 from rfl, ← Nat.pow_mul]
  have hlt : b % 128 * 2 ^ (7 * k) + 2 ^ (7 * k) ≤ 18446744073709551616 := by
    by_cases e : k = 9
    · subst e
      have this := h9 rfl
      have h3 := Nat.mul_le_mul_right (2 ^ (7 * 9)) this
      exact Nat.le_trans (Nat.add_le_add_right h3 _) (by decide)
    · have h1 : b % 128 + 1 ≤ 128 := by omega
      have h2 : (2 : Nat) ^ (7 * k) ≤ 2 ^ 56 := Nat.pow_le_pow_right (by decide) (by omega)
      have h3 := Nat.mul_le_mul h1 h2
      rw [Nat.add_mul, Nat.one_mul] at h3
      omega
  rw [hu, hP, show ((b % 128 : Nat) : Int) * ((2 ^ (7 * k) : Nat) : Int) = ((b % 128 * 2 ^ (7 * k) : Nat) : Int) by simp]
  rw [show IntKind.u64.wrap ((b % 128 * 2 ^ (7 * k) : Nat) : Int) = ((b % 128 * 2 ^ (7 * k) : Nat) : Int) by rw [IntKind.wrap_u64]; omega]
  rw [IntKind.wrap_u64]
  omega

theorem unit_step (k : Nat) (hk : k ≤ 8) (u : Int) (hu : u = ((128 ^ k : Nat) : Int)) : IntKind.u64.wrap (u * 128) = ((128 ^ (k + 1) : Nat) : Int) := by
  have h2 : (128 : Nat) ^ (k + 1) ≤ 128 ^ 9 := Nat.pow_le_pow_right (by decide) (by omega)
  have h3 : (128 : Nat) ^ 9 = 9223372036854775808 := by decide
  rw [hu, show ((128 ^ k : Nat) : Int) * 128 = ((128 ^ (k + 1) : Nat) : Int) by rw [Nat.pow_succ]; simp, IntKind.wrap_u64]
  generalize 128 ^ (k + 1) = z at *
  omega

set_option maxRecDepth 100000 in
set_option maxHeartbeats 1600000 in
theorem refTake_any (s : ByteArray) (hs : s.size ≤ maxLen) (w : World) :
    Calls Try.prog 34 #[.string s] w fun e w' => e = .returned (.tuple #[.int .u64 (tkN s.data.toList : Nat), .int .i64 (tkK s.data.toList : Nat)]) ∧ w = w' := by
  unfold maxLen at hs
  go_enter Try.func34, Try.ntmps34
  go_wp2_with fail
  go_loop [4, 5, 6, 7] (fun t u i _ => ∃ (k : Nat) (n v : Int), k ≤ s.size ∧ k ≤ 10 ∧ i = .int .i64 k ∧ t = .int .u64 n ∧ u = .int .u64 v ∧ Hid (k ≤ 9 → ∃ N : Nat, n = N ∧ N < 2 ^ (7 * k) ∧ v = ((128 ^ k : Nat) : Int) ∧ tk s.data.toList = tkAux k N (s.data.toList.drop k)) ∧ Hid (k = 10 → tk s.data.toList = none)) (fun _ _ i _ => s.size - (intOf i).toNat)
  case atStart => exact ⟨0, 0, 1, Nat.zero_le _, Nat.zero_le _, rfl, rfl, rfl, Lib.hid (fun _ => ⟨0, rfl, by simp, rfl, rfl⟩), Lib.hid (by omega)⟩
  case round =>
    obtain ⟨k, n, v, hk, hk10, rfl, rfl, rfl, hn, ht⟩ := hrel
    have hls : s.data.toList.length = s.size := by rw [Array.length_toList]; rfl
    by_cases hlt : k < s.size
    · by_cases e10 : k = 10
      · subst e10
        have HZ := Lib.hid (tk_is_none (ht.out rfl))
        go_wp2_with fail
        go_ret2
        exact ⟨ret_two (by rw [HZ.out.1]; rfl) (by rw [HZ.out.2]; rfl), rfl⟩
      · obtain ⟨N, rfl, hN, hv, htk⟩ := hn.out (by omega)
        clear hn ht
        obtain ⟨b, hb⟩ : ∃ b : Nat, s[k].toNat = b := ⟨_, rfl⟩
        have hb256 : b < 256 := by have := s[k].toNat_lt; omega
        have hst := tkAux_step s.data.toList k N b (by omega) hb
        rw [← htk] at hst
        have HST := Lib.hid hst
        have HV := Lib.hid hv
        have HN := Lib.hid hN
        clear hst htk hls hv hN
        have hk9 : k ≤ 9 := by omega
        by_cases e9 : k = 9
        · by_cases h1 : 1 < b % 128
          · have HZ := Lib.hid (tk_is_none (by rw [HST.out, if_pos ⟨e9, by omega⟩]))
            subst e9
            go_wp2_with fail
            go_ret2
            exact ⟨ret_two (by rw [HZ.out.1]; rfl) (by rw [HZ.out.2]; rfl), rfl⟩
          · have HA := Lib.hid (add_step N b k HN.out hk9 (fun _ => by omega) v HV.out)
            by_cases h128 : 128 ≤ b
            · have HX : Hid (tk s.data.toList = none) := by rw [HST.out, if_pos ⟨e9, by omega⟩]; exact Lib.hid rfl
              have HNK := Lib.hid hk9
              subst e9
              go_wp2_with fail
              exact ⟨⟨10, _, _, by omega, by omega, by go_num, rfl, rfl, Lib.hid (by omega), Lib.hid (fun _ => HX.out)⟩, by simp [intOf]; omega⟩
            · by_cases h0 : b = 0
              · have HZ := Lib.hid (tk_is_none (by rw [HST.out, if_neg (by omega), if_neg (by omega), if_pos ⟨h0, by omega⟩]))
                subst e9
                have hb0 : ((b : Int) == 0) = true := by simp; omega
                have h0' := Lib.hid h0
                clear h0
                go_wp2_with fail
                go_ret2
                exact ⟨ret_two (by rw [HZ.out.1]; rfl) (by rw [HZ.out.2]; rfl), rfl⟩
              · have HZ := Lib.hid (tk_is_some (by rw [HST.out, if_neg (by omega), if_neg (by omega), if_neg (by omega)]))
                subst e9
                have hb0 : ((b : Int) == 0) = false := by simp; omega
                go_wp2_with fail
                go_ret2
                exact ⟨ret_two (by rw [HZ.out.1, ← HA.out]; rfl) (by rw [HZ.out.2]; rfl), rfl⟩
        · have HA := Lib.hid (add_step N b k HN.out hk9 (fun h => absurd h e9) v HV.out)
          have hne : ((k : Int) == 9) = false := by simp; omega
          by_cases h128 : 128 ≤ b
          · have HX : Hid (tk s.data.toList = tkAux (k + 1) (N + b % 128 * 128 ^ k) (s.data.toList.drop (k + 1))) := by rw [HST.out, if_neg (by omega), if_pos h128]; exact Lib.hid rfl
            have HU := Lib.hid (unit_step k (by omega) v HV.out)
            go_wp2_with fail
            exact ⟨⟨k + 1, _, _, by omega, by omega, by go_num, rfl, rfl, Lib.hid (fun _ => ⟨N + b % 128 * 128 ^ k, HA.out, next_lt N b k HN.out, HU.out, HX.out⟩), Lib.hid (by omega)⟩, by simp [intOf]; omega⟩
          · by_cases hk0 : k = 0
            · have HZ := Lib.hid (tk_is_some (by rw [HST.out, if_neg (by omega), if_neg (by omega), if_neg (by omega)]))
              subst hk0
              go_wp2_with fail
              go_ret2
              exact ⟨ret_two (by rw [HZ.out.1, ← HA.out]; rfl) (by rw [HZ.out.2]; rfl), rfl⟩
            · have hk1 : 0 < k := by omega
              by_cases h0 : b = 0
              · have HZ := Lib.hid (tk_is_none (by rw [HST.out, if_neg (by omega), if_neg (by omega), if_pos ⟨h0, by omega⟩]))
                have hb0 : ((b : Int) == 0) = true := by simp; omega
                have h0' := Lib.hid h0
                clear h0
                go_wp2_with fail
                go_ret2
                exact ⟨ret_two (by rw [HZ.out.1]; rfl) (by rw [HZ.out.2]; rfl), rfl⟩
              · have HZ := Lib.hid (tk_is_some (by rw [HST.out, if_neg (by omega), if_neg (by omega), if_neg (by omega)]))
                have hb0 : ((b : Int) == 0) = false := by simp; omega
                go_wp2_with fail
                go_ret2
                exact ⟨ret_two (by rw [HZ.out.1, ← HA.out]; rfl) (by rw [HZ.out.2]; rfl), rfl⟩
    · have HZ : Hid (tkN s.data.toList = 0 ∧ tkK s.data.toList = 0) := by
        by_cases e10 : k = 10
        · exact Lib.hid (tk_is_none (ht.out e10))
        · obtain ⟨N, _, _, _, htk⟩ := hn.out (by omega)
          rw [List.drop_of_length_le (by omega)] at htk
          exact Lib.hid (tk_is_none htk)
      clear hls hn ht
      go_wp2_with fail
      go_ret2
      exact ⟨ret_two (by rw [HZ.out.1]; rfl) (by rw [HZ.out.2]; rfl), rfl⟩
end Go.Proofs.Ytplobffkelmokaa

namespace Go.Proofs.Ytplobffkelmokaa
open Go.RowKit
set_option linter.unnecessarySimpa false
set_option linter.unusedVariables false
set_option linter.unusedSimpArgs false
set_option maxRecDepth 100000

/-- A row of the call's own stays, whatever is made besides. -/
theorem own_below {w w' : World} {B e size n : Nat} {v : Value} {xs : List Value} (h : w.ownsRow B e size v n xs) (hb : Below w.heap.size w w') : w'.ownsRow B e size v n xs := by
  refine ⟨h.1, ?_⟩
  rcases h.2 with h2 | ⟨g, cap, cur, hv, hB, hg, h3⟩
  · exact .inl h2
  · exact .inr ⟨g, cap, cur, hv, hB, by rw [hb.block g (Array.getElem?_eq_some_iff.1 hg).1]; exact hg, h3⟩

theorem own_slice {w : World} {base e size n : Nat} {v : Value} {xs : List Value} (h : w.ownsRow base e size v n xs) (hn : 0 < n) : ∃ g cap, v = .slice (some ⟨g, 0, none⟩) n cap ∧ base ≤ g ∧ g < w.heap.size := by
  rcases h.2 with ⟨_, rfl⟩ | ⟨g, cap, cur, rfl, hb, hg, _⟩
  · omega
  · exact ⟨g, cap, rfl, hb, (Array.getElem?_eq_some_iff.1 hg).1⟩

theorem own_form {w : World} {base e size n : Nat} {v : Value} {xs : List Value} (h : w.ownsRow base e size v n xs) : ∃ a cap, v = .slice a n cap := by
  rcases h.2 with ⟨h1, rfl⟩ | ⟨g, cap, cur, rfl, _⟩
  · exact ⟨none, 0, h1⟩
  · exact ⟨_, cap, rfl⟩

theorem cells_one {v : Value} (h : v.oneCell' = true) : v.cells = #[v] := by cases v <;> first | rfl | (simp [Value.oneCell'] at h)

theorem run_buildSlice_one {P : Program} (w : World) (t e : TypeId) (z v : Value) (hu : P.underlying t = some (.slice e)) (hi : (P.info? e).map (fun i => (i.zero, i.size)) = some (some z, 1)) (hz : z.oneCell' = true) (hv : v.oneCell' = true) :
    (Instr.buildSlice t 1 #[(0, v)]).run P w = .ok (.slice (some ⟨w.heap.size, 0, none⟩) 1 1) (w.alloc (.cells #[v] e)) := by
  cases hq : P.info? e with
  | none => simp [hq] at hi
  | some i =>
    simp [hq] at hi
    unfold Instr.buildSlice
    simp [run_underlying hu, sizeOf, typeInfo, zeroValue, hq, hi.1, hi.2, cells_one hz, cells_one hv, Instr.fill, newRow, Sem.run_bind]
    refine congrArg (fun c => w.alloc (.cells c e)) ?_
    apply Array.ext
    · simp
    · intro j h1 h2
      obtain rfl : j = 0 := by simp at h2; omega
      simp

theorem wp_buildSlice_one {P : Program} {op : Oper} {a : Act} {w : World} {K : Act → World → Prop} {Q : Exit → Act → World → Prop} (t e : TypeId) (x : Operand) (ho : op.op = .buildSlice t 1 #[(0, x)])
    (z v : Value) (hx : a.eval x = v) (hu : P.underlying t = some (.slice e)) (hi : (P.info? e).map (fun i => (i.zero, i.size)) = some (some z, 1)) (hz : z.oneCell' = true) (hv : v.oneCell' = true)
    (h : K (a.put op.dst (.slice (some ⟨w.heap.size, 0, none⟩) 1 1)) (w.alloc (.cells #[v] e))) : op.wp P a w K Q := by
  unfold Oper.wp execOp
  simp [ho, hx, run_buildSlice_one w t e z v hu hi hz hv, Oper.upon]
  exact h

theorem wpList_buildSlice_one {P : Program} {ops : Array Oper} {rest : List Oper} {op : Oper} {a : Act} {w : World} {Q : Exit → Act → World → Prop} (hgd : op.guard = none) (t e : TypeId) (x : Operand) (ho : op.op = .buildSlice t 1 #[(0, x)])
    (z v : Value) (hx : a.eval x = v) (hu : P.underlying t = some (.slice e)) (hi : (P.info? e).map (fun i => (i.zero, i.size)) = some (some z, 1)) (hz : z.oneCell' = true) (hv : v.oneCell' = true)
    (h : wpList P ops Q rest (a.put op.dst (.slice (some ⟨w.heap.size, 0, none⟩) 1 1)) (w.alloc (.cells #[v] e))) : wpList P ops Q (op :: rest) a w :=
  wpList_plain hgd fun _ hK => by
    unfold Oper.wp execOp
    simp [ho, hx, run_buildSlice_one w t e z v hu hi hz hv, Oper.upon]
    exact hK _ _ h

theorem run_buildSlice_two {P : Program} (w : World) (t e : TypeId) (z u v : Value) (hu : P.underlying t = some (.slice e)) (hi : (P.info? e).map (fun i => (i.zero, i.size)) = some (some z, 1)) (hz : z.oneCell' = true) (hu1 : u.oneCell' = true) (hv : v.oneCell' = true) :
    (Instr.buildSlice t 2 #[(0, u), (1, v)]).run P w = .ok (.slice (some ⟨w.heap.size, 0, none⟩) 2 2) (w.alloc (.cells #[u, v] e)) := by
  cases hq : P.info? e with
  | none => simp [hq] at hi
  | some i =>
    simp [hq] at hi
    unfold Instr.buildSlice
    simp [run_underlying hu, sizeOf, typeInfo, zeroValue, hq, hi.1, hi.2, cells_one hz, cells_one hv, cells_one hu1, Instr.fill, newRow, Sem.run_bind]
    refine congrArg (fun c => w.alloc (.cells c e)) ?_
    apply Array.ext
    · simp
    · intro j h1 h2
      have : j = 0 ∨ j = 1 := by simp at h2; omega
      rcases this with rfl | rfl <;> simp
theorem wp_buildSlice_two {P : Program} {op : Oper} {a : Act} {w : World} {K : Act → World → Prop} {Q : Exit → Act → World → Prop} (t e : TypeId) (x y : Operand) (ho : op.op = .buildSlice t 2 #[(0, x), (1, y)])
    (z u v : Value) (hx : a.eval x = u) (hy : a.eval y = v) (hu : P.underlying t = some (.slice e)) (hi : (P.info? e).map (fun i => (i.zero, i.size)) = some (some z, 1)) (hz : z.oneCell' = true) (hu1 : u.oneCell' = true) (hv : v.oneCell' = true)
    (h : K (a.put op.dst (.slice (some ⟨w.heap.size, 0, none⟩) 2 2)) (w.alloc (.cells #[u, v] e))) : op.wp P a w K Q := by
  unfold Oper.wp execOp
  simp [ho, hx, hy, run_buildSlice_two w t e z u v hu hi hz hu1 hv, Oper.upon]
  exact h
end Go.Proofs.Ytplobffkelmokaa
