/-
  The walk of the statement PrimOne: true.
-/
import Derived.Test.YtefkhekmhabeaaaAwake
import Derived.Test.YtefkhekmhabeaaaCursor
namespace Go.Proofs.Ytefkhekmhabeaaa
open Go.RowKit

theorem size_extract (s : ByteArray) (k : Nat) (h : k ≤ s.size) : (s.extract k s.size).size = s.size - k := by simp

/-- The bytes that were taken are the number's. -/
theorem taken_bytes (s : ByteArray) (h : tkK s.data.toList ≠ 0) : (⟨(ub (tkN s.data.toList)).toArray⟩ : ByteArray) = s.extract 0 (tkK s.data.toList) ∧ tkN s.data.toList < 18446744073709551616 := by
  unfold tkK at h
  cases ht : tk s.data.toList with
  | none => rw [ht] at h; simp at h
  | some p =>
    obtain ⟨n, k⟩ := p
    obtain ⟨e1, e2⟩ := tk_is_some ht
    obtain ⟨h1, h2, _⟩ := tk_some ht
    rw [e1, e2]
    refine ⟨?_, h2⟩
    rw [← h1]
    apply ByteArray.ext
    apply Array.toList_inj.1
    simp

theorem uint_taken (s : ByteArray) (h : tkK s.data.toList ≠ 0) (w : World) :
    Calls Try.prog 10 #[.int .u64 (tkN s.data.toList : Nat)] w fun e w' => e = .returned (.string (s.extract 0 (tkK s.data.toList))) ∧ Below w.heap.size w w' := by
  rw [← (taken_bytes s h).1]
  exact uint_any _ (taken_bytes s h).2 w

set_option maxHeartbeats 1600000 in
theorem primOne_walk (s : ByteArray) (hs : s.size ≤ maxLen) (w : World) :
    Calls Try.prog 6 #[.string s] w fun e w' => e = .returned (.bool true) ∧ Below w.heap.size w w' := by
  have HS := Lib.hid hs
  have hs' := hs
  unfold maxLen at hs'
  clear hs
  by_cases hl : 30 < s.size
  · go_enter Try.func6, Try.ntmps6
    go_wp2_with fail
    refine (awake_any _).mono ?_
    rintro e w1 ⟨rfl, hb1⟩
    go_wp2_with fail
    refine (awake_any _).mono ?_
    rintro e w2 ⟨rfl, hb2⟩
    go_wp2_with fail
    go_ret
    exact ⟨rfl, hb1.trans (hb2.mono hb1.size)⟩
  · go_enter Try.func6, Try.ntmps6
    go_wp2_with fail
    refine (awake_any _).mono ?_
    rintro e w1 ⟨rfl, hb1⟩
    go_wp2_with fail
    refine (new_any s _).mono ?_
    rintro e w2 ⟨rfl, hc2, hb2⟩
    have Hc2 := Lib.hid hc2
    clear hc2
    go_wp2_with fail
    refine (cur_uint _ s false _ HS.out Hc2.out).mono ?_
    rintro e w3 ⟨rfl, hc3, hg3⟩
    have HB : Below w.heap.size w w3 := (hb1.trans (hb2.mono hb1.size)).grown hg3 (Nat.le_trans hb1.size hb2.size) (fun k hk => by cases hk; exact hb1.size)
    clear Hc2 hg3 hb2 hb1
    by_cases h0 : tkK s.data.toList = 0
    · rw [show cUint s false = (0, s, true) by simp [cUint, h0]] at hc3 ⊢
      have Hc3 := Lib.hid hc3
      clear hc3 h0
      go_wp2_with (first | (go_at_call 21; refine (bad_any _ s true _ Hc3.out).mono ?_; rintro e w' ⟨rfl, rfl⟩) | (go_at_call 22; refine (left_any _ s true _ HS.out Hc3.out).mono ?_; rintro e w' ⟨rfl, rfl⟩))
      go_ret
      exact ⟨rfl, HB⟩
    · rw [show cUint s false = (tkN s.data.toList, s.extract (tkK s.data.toList) s.size, false) by simp [cUint, h0]] at hc3 ⊢
      have hk := tkK_le s.data.toList
      rw [list_size] at hk
      obtain ⟨s2, e2⟩ : ∃ s2, s.extract (tkK s.data.toList) s.size = s2 := ⟨_, rfl⟩
      have hz := size_extract s _ hk
      rw [e2] at hz hc3
      have HZ := Lib.hid hz
      have hz1 : s2.size ≤ s.size := by omega
      have Hc3 := Lib.hid hc3
      clear hc3 hz e2
      go_wp2_with (first | (go_at_call 21; refine (bad_any _ s2 false _ Hc3.out).mono ?_; rintro e w' ⟨rfl, rfl⟩) | (go_at_call 22; refine (left_any _ s2 false _ (Nat.le_trans hz1 HS.out) Hc3.out).mono ?_; rintro e w' ⟨rfl, rfl⟩))
      have HK : s.size - s2.size = tkK s.data.toList := by have := HZ.out; omega
      have HU := Lib.hid (uint_taken s h0 w3)
      rw [← HK] at HU
      clear h0 HK
      refine HU.out.mono ?_
      rintro e w4 ⟨rfl, hb4⟩
      have Hc4 := Lib.hid (Hc3.out.kept hb4 Hc3.out.lt)
      go_wp2_with (go_at_call 22; refine (left_any _ s2 false _ (Nat.le_trans hz1 HS.out) Hc4.out).mono ?_; rintro e w' ⟨rfl, rfl⟩)
      go_ret
      exact ⟨rfl, HB.trans (hb4.mono HB.size)⟩
end Go.Proofs.Ytefkhekmhabeaaa
