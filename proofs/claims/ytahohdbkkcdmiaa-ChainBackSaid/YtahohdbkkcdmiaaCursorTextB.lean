/-
  The walks of the cursor's Bytes and Text, and of the function Text.
-/
import Derived.Test.YtahohdbkkcdmiaaCursor
import Derived.Test.YtahohdbkkcdmiaaUintB
namespace Go.Proofs.Ytahohdbkkcdmiaa
open Go.RowKit
set_option linter.unnecessarySimpa false
set_option linter.unusedVariables false
set_option linter.unusedSimpArgs false
set_option maxRecDepth 100000

/-- What Bytes tells, and what it leaves. -/
def cBytes (s : ByteArray) (bad : Bool) (n : Int) : ByteArray × ByteArray × Bool :=
  if bad = true ∨ n < 0 ∨ (s.size : Int) < n then (ByteArray.empty, s, true) else (s.extract 0 n.toNat, s.extract n.toNat s.size, false)

set_option maxHeartbeats 1600000 in
theorem cur_bytes (g : Nat) (s : ByteArray) (bad : Bool) (n : Int) (w : World) (hs : s.size ≤ maxLen) (h : CurAt w g s bad) :
    Calls Try.prog 36 #[.pointer (some ⟨g, 0, none⟩), .int .i64 n] w fun e w' => e = .returned (.string (cBytes s bad n).1) ∧ CurAt w' g (cBytes s bad n).2.1 (cBytes s bad n).2.2 ∧ w.grownBy w' (some g) := by
  have HS := Lib.hid hs
  have hs' := hs
  unfold maxLen at hs'
  have H := Lib.hid h
  have c0 := h.c0
  have c1 := h.c1
  have f1 := h.f1
  clear h hs
  cases bad
  · by_cases h0 : n < 0
    · have hd := Lib.hid (show cBytes s false n = (ByteArray.empty, s, true) by simp [cBytes, h0])
      go_enter Try.func36, Try.ntmps36
      go_wp2_with fail
      go_ret
      rw [hd.out]
      exact ⟨rfl, H.out.set1 true, grownBy_setCell _ _ _ _⟩
    · obtain ⟨k, rfl⟩ := Int.eq_ofNat_of_zero_le (show 0 ≤ n by omega)
      by_cases h1 : s.size < k
      · have hd := Lib.hid (show cBytes s false k = (ByteArray.empty, s, true) by simp [cBytes, h1])
        go_enter Try.func36, Try.ntmps36
        go_wp2_with fail
        go_ret
        rw [hd.out]
        exact ⟨rfl, H.out.set1 true, grownBy_setCell _ _ _ _⟩
      · have hd := Lib.hid (show cBytes s false k = (s.extract 0 k, s.extract k s.size, false) by simp [cBytes, h1])
        have hk : k ≤ s.size := by omega
        go_enter Try.func36, Try.ntmps36
        go_wp2_with (go_at_call 35; refine (take_any g s false k HS.out hk _ H.out).mono ?_; rintro e w' ⟨rfl, hc, hg⟩)
        go_ret
        rw [hd.out]
        exact ⟨rfl, hc, hg⟩
  · have hd := Lib.hid (show cBytes s true n = (ByteArray.empty, s, true) by simp [cBytes])
    go_enter Try.func36, Try.ntmps36
    go_wp2_with fail
    go_ret
    rw [hd.out]
    exact ⟨rfl, H.out.set1 true, grownBy_setCell _ _ _ _⟩

/-- What Text tells, and what it leaves. -/
def cText (s : ByteArray) (bad : Bool) : ByteArray × ByteArray × Bool :=
  if bad = true ∨ tkK s.data.toList = 0 ∨ s.size - tkK s.data.toList < tkN s.data.toList then (ByteArray.empty, s, true)
  else ((s.extract (tkK s.data.toList) s.size).extract 0 (tkN s.data.toList), (s.extract (tkK s.data.toList) s.size).extract (tkN s.data.toList) (s.size - tkK s.data.toList), false)

set_option maxHeartbeats 1600000 in
theorem cur_text (g : Nat) (s : ByteArray) (bad : Bool) (w : World) (hs : s.size ≤ maxLen) (h : CurAt w g s bad) :
    Calls Try.prog 40 #[.pointer (some ⟨g, 0, none⟩)] w fun e w' => e = .returned (.string (cText s bad).1) ∧ CurAt w' g (cText s bad).2.1 (cText s bad).2.2 ∧ w.grownBy w' (some g) := by
  have HS := Lib.hid hs
  have hs' := hs
  unfold maxLen at hs'
  have H := Lib.hid h
  have c0 := h.c0
  have c1 := h.c1
  have f1 := h.f1
  clear h hs
  cases bad
  · have hk := tkK_le s.data.toList
    rw [list_size] at hk
    by_cases h0 : tkK s.data.toList = 0
    · have hb : (((tkK s.data.toList : Nat) : Int) == 0) = true := by simp [h0]
      have hd := Lib.hid (show cText s false = (ByteArray.empty, s, true) by simp [cText, h0])
      clear h0
      go_enter Try.func40, Try.ntmps40
      go_wp2_with (go_at_call 34; refine (leading_any s HS.out _).mono ?_; rintro e w' ⟨rfl, rfl⟩)
      go_ret
      rw [hd.out]
      exact ⟨rfl, H.out.set1 true, grownBy_setCell _ _ _ _⟩
    · have hb : (((tkK s.data.toList : Nat) : Int) == 0) = false := by simp; omega
      by_cases h1 : s.size - tkK s.data.toList < tkN s.data.toList
      · have hd := Lib.hid (show cText s false = (ByteArray.empty, s, true) by simp [cText, h1])
        clear h0
        go_enter Try.func40, Try.ntmps40
        go_wp2_with (go_at_call 34; refine (leading_any s HS.out _).mono ?_; rintro e w' ⟨rfl, rfl⟩)
        go_ret
        rw [hd.out]
        exact ⟨rfl, H.out.set1 true, grownBy_setCell _ _ _ _⟩
      · have hd := Lib.hid (show cText s false = ((s.extract (tkK s.data.toList) s.size).extract 0 (tkN s.data.toList), (s.extract (tkK s.data.toList) s.size).extract (tkN s.data.toList) (s.size - tkK s.data.toList), false) by simp [cText, h0, h1])
        have hn : tkN s.data.toList ≤ s.size - tkK s.data.toList := by omega
        obtain ⟨s2, e2⟩ : ∃ s2, s.extract (tkK s.data.toList) s.size = s2 := ⟨_, rfl⟩
        have hz : s2.size = s.size - tkK s.data.toList := by rw [← e2]; simp
        have HZ := Lib.hid hz
        have E2 := Lib.hid e2
        have hn2 : tkN s.data.toList ≤ s2.size := by omega
        have hs2 : s2.size ≤ maxLen := by have := HS.out; omega
        have HS2 := Lib.hid hs2
        clear h0 h1 e2 hz hs2
        go_enter Try.func40, Try.ntmps40
        go_wp2_with (go_at_call 34; refine (leading_any s HS.out _).mono ?_; rintro e w' ⟨rfl, rfl⟩)
        refine (take_any g s false (tkK s.data.toList) HS.out hk _ H.out).mono ?_
        rintro e w1 ⟨rfl, hc, hg⟩
        rw [E2.out] at hc
        have HC := Lib.hid hc
        clear hc c0 c1 f1
        go_wp2_with fail
        refine (take_any g s2 false (tkN s.data.toList) HS2.out hn2 _ HC.out).mono ?_
        rintro e w2 ⟨rfl, hc2, hg2⟩
        rw [HZ.out] at hc2
        have HC2 := Lib.hid hc2
        clear hc2
        go_wp2_with fail
        go_ret
        rw [hd.out, E2.out]
        exact ⟨rfl, HC2.out, grownBy_trans hg hg2⟩
  · have hd := Lib.hid (show cText s true = (ByteArray.empty, s, true) by simp [cText])
    go_enter Try.func40, Try.ntmps40
    go_wp2_with fail
    go_ret
    rw [hd.out]
    exact ⟨rfl, H.out, grownBy_refl _ _⟩

set_option maxHeartbeats 800000 in
theorem text_any (s : ByteArray) (hs : s.size ≤ 140737488355328) (w : World) :
    Calls Try.prog 33 #[.string s] w fun e w' => e = .returned (.string (⟨(ub s.size).toArray⟩ ++ s)) ∧ Below w.heap.size w w' := by
  have HU := Lib.hid (uint_any s.size (by omega) w)
  have hl := ub_len10 (n := s.size) (by omega)
  go_enter Try.func33, Try.ntmps33
  go_wp2_with (go_at_call 18; refine HU.out.mono ?_; rintro e w' ⟨rfl, hb⟩)
  go_ret
  exact ⟨rfl, hb⟩
end Go.Proofs.Ytahohdbkkcdmiaa
