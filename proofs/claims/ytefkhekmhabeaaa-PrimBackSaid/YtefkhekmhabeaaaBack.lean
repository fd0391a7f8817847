/-
  The walk of the statement PrimBack: true.
-/
import Derived.Test.YtefkhekmhabeaaaAwake
import Derived.Test.YtefkhekmhabeaaaCursorFixed
namespace Go.Proofs.Ytefkhekmhabeaaa
open Go.RowKit

theorem ba_list (s : ByteArray) : (⟨s.data.toList.toArray⟩ : ByteArray) = s := by cases s; simp
theorem extract_of_list {X : ByteArray} {A R : List UInt8} (h : X.data.toList = A ++ R) : X.extract 0 A.length = ⟨A.toArray⟩ ∧ X.extract A.length X.size = ⟨R.toArray⟩ := by
  have hs : X.size = A.length + R.length := by rw [← list_size, h, List.length_append]
  constructor
  · apply ByteArray.ext; apply Array.toList_inj.1; simp [h]
  · apply ByteArray.ext; apply Array.toList_inj.1; rw [hs]; simp [h]

theorem cUint_ub {X : ByteArray} {n : Nat} {R : List UInt8} (hn : n < 18446744073709551616) (h : X.data.toList = ub n ++ R) : cUint X false = (n, ⟨R.toArray⟩, false) := by
  have ht := tk_is_some (tk_ub n hn R)
  have hp := ub_pos n
  rw [← h] at ht
  unfold cUint
  rw [ht.1, ht.2, if_neg (by simp), if_neg (by omega), (extract_of_list h).2]

theorem cText_ub {X : ByteArray} {t R : List UInt8} (hn : t.length < 18446744073709551616) (h : X.data.toList = ub t.length ++ (t ++ R)) : cText X false = (⟨t.toArray⟩, ⟨R.toArray⟩, false) := by
  have ht := tk_is_some (tk_ub t.length hn (t ++ R))
  have hp := ub_pos t.length
  rw [← h] at ht
  have hs : X.size = (ub t.length).length + (t.length + R.length) := by rw [← list_size, h, List.length_append, List.length_append]
  have hx := (extract_of_list h).2
  have h2 := extract_of_list (X := ⟨(t ++ R).toArray⟩) (A := t) (R := R) (by simp)
  have hz : (⟨(t ++ R).toArray⟩ : ByteArray).size = X.size - (ub t.length).length := by rw [hs, ← list_size]; simp
  rw [hz] at h2
  unfold cText
  rw [ht.1, ht.2, if_neg (by rintro (h | h | h) <;> first | omega | simp at h), hx, h2.1, h2.2]

theorem cBytes_app {X : ByteArray} {t R : List UInt8} (h : X.data.toList = t ++ R) : cBytes X false t.length = (⟨t.toArray⟩, ⟨R.toArray⟩, false) := by
  have hs : X.size = t.length + R.length := by rw [← list_size, h, List.length_append]
  unfold cBytes
  rw [if_neg (by simp; omega), Int.toNat_natCast, (extract_of_list h).1, (extract_of_list h).2]

theorem le_cellsF (n size : Nat) : le ((List.range size).map fun j => UInt8.ofNat (n / 256 ^ j)) = n % 256 ^ size := by
  induction size generalizing n with
  | zero => simp [le, Nat.mod_one]
  | succ k ih =>
    rw [List.range_succ_eq_map, List.map_cons, List.map_map]
    have e : ((fun j => UInt8.ofNat (n / 256 ^ j)) ∘ Nat.succ) = fun j => UInt8.ofNat (n / 256 / 256 ^ j) := by
      funext j; simp only [Function.comp]; rw [Nat.pow_succ', Nat.div_div_eq_div_mul]
    rw [e]
    simp only [le]
    rw [ih (n / 256), Nat.pow_succ', Nat.mod_mul]
    simp only [UInt8.toNat_ofNat', Nat.pow_zero, Nat.div_one]

theorem valB_fx (n size : Nat) (big : Bool) : valB (fx n size big) big = n % 256 ^ size := by
  rw [← le_cellsF]
  unfold valB fx cellsF fxAt pl
  cases big
  · simp
  · simp only [if_true]
    congr 1
    apply List.ext_getElem
    · simp
    · intro j h1 h2
      simp at h1
      rw [List.getElem_reverse]
      simp only [List.getElem_map, List.getElem_range, List.length_map, List.length_range]
      congr 3
      omega

theorem cFixed_fx {X : ByteArray} {n size : Nat} {big : Bool} {R : List UInt8} (h1 : 1 ≤ size) (h8 : size ≤ 8) (h : X.data.toList = fx n size big ++ R) : cFixed X false size big = (n % 256 ^ size, ⟨R.toArray⟩, false) := by
  have hb := cBytes_app h
  rw [show (fx n size big).length = size from cellsF_length _ _] at hb
  unfold cFixed
  rw [if_neg (by omega), hb]
  simp [valB_fx]

theorem fixed8 (n : Nat) (w : World) : Calls Try.prog 12 #[.int .u64 n, .int .i64 8, .bool true] w fun e w' => e = .returned (.string ⟨(fx n 8 true).toArray⟩) ∧ Below w.heap.size w w' :=
  fixed_any n 8 true w (by decide) (by decide)
theorem fixed3 (n : Nat) (w : World) : Calls Try.prog 12 #[.int .u64 n, .int .i64 3, .bool false] w fun e w' => e = .returned (.string ⟨(fx n 3 false).toArray⟩) ∧ Below w.heap.size w w' :=
  fixed_any n 3 false w (by decide) (by decide)

theorem k_uint {X : ByteArray} {n : Nat} {R : List UInt8} (hn : n < 18446744073709551616) (h : X.data.toList = ub n ++ R) (hz : X.size ≤ maxLen) (g : Nat) (w : World) (hc : CurAt w g X false) :
    Calls Try.prog 17 #[.pointer (some ⟨g, 0, none⟩)] w fun e w' => e = .returned (.int .u64 n) ∧ CurAt w' g ⟨R.toArray⟩ false ∧ w.grownBy w' (some g) := by
  have := cur_uint g X false w hz hc
  rw [cUint_ub hn h] at this
  exact this

theorem k_text {X s : ByteArray} {R : List UInt8} (h : X.data.toList = ub s.data.toList.length ++ (s.data.toList ++ R)) (hz : X.size ≤ maxLen) (g : Nat) (w : World) (hc : CurAt w g X false) :
    Calls Try.prog 20 #[.pointer (some ⟨g, 0, none⟩)] w fun e w' => e = .returned (.string s) ∧ CurAt w' g ⟨R.toArray⟩ false ∧ w.grownBy w' (some g) := by
  have hs : X.size = (ub s.data.toList.length).length + (s.data.toList.length + R.length) := by rw [← list_size, h, List.length_append, List.length_append]
  have := cur_text g X false w hz hc
  rw [cText_ub (by unfold maxLen at hz; omega) h, ba_list] at this
  exact this

theorem k_fixed {X : ByteArray} {n size : Nat} {big : Bool} {R : List UInt8} (h1 : 1 ≤ size) (h8 : size ≤ 8) (h : X.data.toList = fx n size big ++ R) (hz : X.size ≤ maxLen) (g : Nat) (w : World) (hc : CurAt w g X false) :
    Calls Try.prog 18 #[.pointer (some ⟨g, 0, none⟩), .int .i64 size, .bool big] w fun e w' => e = .returned (.int .u64 (n % 256 ^ size : Nat)) ∧ CurAt w' g ⟨R.toArray⟩ false ∧ w.grownBy w' (some g) := by
  have := cur_fixed g X false size big w hz hc
  rw [cFixed_fx h1 h8 h] at this
  exact this

theorem k_fixed8 {X : ByteArray} {n : Nat} {R : List UInt8} (hn : n < 18446744073709551616) (h : X.data.toList = fx n 8 true ++ R) (hz : X.size ≤ maxLen) (g : Nat) (w : World) (hc : CurAt w g X false) :
    Calls Try.prog 18 #[.pointer (some ⟨g, 0, none⟩), .int .i64 8, .bool true] w fun e w' => e = .returned (.int .u64 n) ∧ CurAt w' g ⟨R.toArray⟩ false ∧ w.grownBy w' (some g) := by
  have := k_fixed (by decide) (by decide) h hz g w hc
  rw [show n % 256 ^ 8 = n from Nat.mod_eq_of_lt hn] at this
  exact this

theorem k_fixed3 {X : ByteArray} {n : Nat} {R : List UInt8} (h : X.data.toList = fx n 3 false ++ R) (hz : X.size ≤ maxLen) (g : Nat) (w : World) (hc : CurAt w g X false) :
    Calls Try.prog 18 #[.pointer (some ⟨g, 0, none⟩), .int .i64 3, .bool false] w fun e w' => e = .returned (.int .u64 ((n : Int) % 16777216)) ∧ CurAt w' g ⟨R.toArray⟩ false ∧ w.grownBy w' (some g) := by
  have := k_fixed (by decide) (by decide) h hz g w hc
  rw [show ((n % 256 ^ 3 : Nat) : Int) = (n : Int) % 16777216 by omega] at this
  exact this

theorem k_rest {X t : ByteArray} (h : X.data.toList = t.data.toList) (hz : X.size ≤ maxLen) (g : Nat) (w : World) (hc : CurAt w g X false) :
    Calls Try.prog 19 #[.pointer (some ⟨g, 0, none⟩), .int .i64 t.size] w fun e w' => e = .returned (.string t) ∧ CurAt w' g ByteArray.empty false ∧ w.grownBy w' (some g) := by
  have := cur_bytes g X false t.size w hz hc
  rw [← list_size, cBytes_app (X := X) (t := t.data.toList) (R := []) (by simpa using h), ba_list] at this
  rw [← list_size]
  exact this

set_option maxRecDepth 100000 in
set_option maxHeartbeats 3200000 in
theorem back_yes (n : Nat) (s t : ByteArray) (hn : n < 18446744073709551616) (hs : s.size ≤ 200) (ht : t.size ≤ 100) (w : World) :
    Calls Try.prog 5 #[.int .u64 n, .string s, .string t] w fun e w' => e = .returned (.bool true) ∧ Below w.heap.size w w' := by
  have HN := Lib.hid hn
  obtain ⟨U, eU⟩ : ∃ U : ByteArray, (⟨(ub n).toArray⟩ : ByteArray) = U := ⟨_, rfl⟩
  obtain ⟨T, eT⟩ : ∃ T : ByteArray, (⟨(ub s.size).toArray⟩ ++ s : ByteArray) = T := ⟨_, rfl⟩
  obtain ⟨F, eF⟩ : ∃ F : ByteArray, (⟨(fx n 8 true).toArray⟩ : ByteArray) = F := ⟨_, rfl⟩
  obtain ⟨G, eG⟩ : ∃ G : ByteArray, (⟨(fx n 3 false).toArray⟩ : ByteArray) = G := ⟨_, rfl⟩
  have zU : U.size ≤ 10 := by rw [← eU, ← list_size]; exact ub_len10 hn
  have zT : T.size ≤ 210 := by rw [← eT]; have := ub_len10 (n := s.size) (by omega); rw [ByteArray.size_append, ← list_size]; simp; omega
  have zF : F.size ≤ 8 := by rw [← eF, ← list_size]; simp [fx, cellsF]
  have zG : G.size ≤ 3 := by rw [← eG, ← list_size]; simp [fx, cellsF]
  have CU := fun w => Lib.hid (uint_any n hn w)
  have CT := fun w => Lib.hid (text_any s (by omega) w)
  have CF := fun w => Lib.hid (fixed8 n w)
  have CG := fun w => Lib.hid (fixed3 n w)
  rw [eU] at CU
  rw [eT] at CT
  rw [eF] at CF
  rw [eG] at CG
  have XL : Hid ((U ++ T ++ F ++ G ++ t).data.toList = ub n ++ (ub s.data.toList.length ++ (s.data.toList ++ (fx n 8 true ++ (fx n 3 false ++ t.data.toList))))) := by
    subst eU eT eF eG
    rw [list_size]
    exact Lib.hid (by simp [ByteArray.data_append])
  clear hn eU eT eF eG
  have KU := Lib.hid CU
  have KT := Lib.hid CT
  have KF := Lib.hid CF
  have KG := Lib.hid CG
  clear CU CT CF CG
  go_enter Try.func5, Try.ntmps5
  go_wp2_with fail
  refine (awake_any _).mono ?_
  rintro e w1 ⟨rfl, hb1⟩
  have H1 := Lib.hid hb1
  clear hb1
  go_wp2_with fail
  refine (KU.out _).out.mono ?_
  rintro e w2 ⟨rfl, hb2⟩
  have H2 := Lib.hid (H1.out.trans (hb2.mono H1.out.size))
  clear hb2 H1
  go_wp2_with fail
  refine (KT.out _).out.mono ?_
  rintro e w3 ⟨rfl, hb3⟩
  have H3 := Lib.hid (H2.out.trans (hb3.mono H2.out.size))
  clear hb3 H2
  go_wp2_with fail
  refine (KF.out _).out.mono ?_
  rintro e w4 ⟨rfl, hb4⟩
  have H4 := Lib.hid (H3.out.trans (hb4.mono H3.out.size))
  clear hb4 H3
  go_wp2_with fail
  refine (KG.out _).out.mono ?_
  rintro e w5 ⟨rfl, hb5⟩
  have H5 := Lib.hid (H4.out.trans (hb5.mono H4.out.size))
  clear hb5 H4
  go_wp2_with fail
  obtain ⟨X, eX⟩ : ∃ X : ByteArray, U ++ T ++ F ++ G ++ t = X := ⟨_, rfl⟩
  have zX : X.size ≤ 1000 := by rw [← eX]; simp only [ByteArray.size_append]; omega
  rw [eX] at XL ⊢
  clear eX zU zT zF zG KU KT KF KG
  have Z := fun (R : List UInt8) (h : R.length ≤ 1000) => show (⟨R.toArray⟩ : ByteArray).size ≤ maxLen by rw [← list_size]; unfold maxLen; simp; omega
  have Z1 : (ub s.data.toList.length ++ (s.data.toList ++ (fx n 8 true ++ (fx n 3 false ++ t.data.toList)))).length ≤ 1000 := by
    have := congrArg List.length XL.out
    rw [list_size, List.length_append] at this
    omega
  have HZ := Lib.hid Z
  have HZ1 := Lib.hid Z1
  clear Z Z1
  refine (new_any X _).mono ?_
  rintro e w6 ⟨rfl, hc6, hb6⟩
  have H6 := Lib.hid (H5.out.trans (hb6.mono H5.out.size))
  have C6 := Lib.hid hc6
  have GE := H5.out.size
  generalize w5.heap.size = g at *
  clear hc6 hb6 H5
  go_wp2_with fail
  refine (k_uint HN.out XL.out (by unfold maxLen; omega) g _ C6.out).mono ?_
  rintro e w7 ⟨rfl, hc7, hg7⟩
  have H7 := Lib.hid (below_grown H6.out hg7 GE)
  have C7 := Lib.hid hc7
  clear hc7 hg7 H6 C6
  go_wp2_with fail
  refine (k_text rfl (HZ.out _ HZ1.out) g _ C7.out).mono ?_
  rintro e w8 ⟨rfl, hc8, hg8⟩
  have H8 := Lib.hid (below_grown H7.out hg8 GE)
  have C8 := Lib.hid hc8
  have HZ2 := Lib.hid (show (fx n 8 true ++ (fx n 3 false ++ t.data.toList)).length ≤ 1000 by have := HZ1.out; simp only [List.length_append] at this ⊢; omega)
  clear hc8 hg8 H7 C7 HZ1
  go_wp2_with fail
  refine (k_fixed8 HN.out rfl (HZ.out _ HZ2.out) g _ C8.out).mono ?_
  rintro e w9 ⟨rfl, hc9, hg9⟩
  have H9 := Lib.hid (below_grown H8.out hg9 GE)
  have C9 := Lib.hid hc9
  have HZ3 := Lib.hid (show (fx n 3 false ++ t.data.toList).length ≤ 1000 by have := HZ2.out; simp only [List.length_append] at this ⊢; omega)
  clear hc9 hg9 H8 C8 HZ2
  go_wp2_with fail
  refine (k_fixed3 rfl (HZ.out _ HZ3.out) g _ C9.out).mono ?_
  rintro e w10 ⟨rfl, hc10, hg10⟩
  have H10 := Lib.hid (below_grown H9.out hg10 GE)
  rw [ba_list] at hc10
  have C10 := Lib.hid hc10
  have zt : t.size ≤ maxLen := by unfold maxLen; omega
  have ZT := Lib.hid zt
  clear hc10 hg10 H9 C9 HZ3 zt
  go_wp2_with fail
  refine (left_any g t false _ ZT.out C10.out).mono ?_
  rintro e w11 ⟨rfl, rfl⟩
  go_wp2_with fail
  refine (bad_any g t false _ C10.out).mono ?_
  rintro e w12 ⟨rfl, rfl⟩
  go_wp2_with fail
  refine (k_rest rfl ZT.out g _ C10.out).mono ?_
  rintro e w13 ⟨rfl, hc13, hg13⟩
  have H13 := Lib.hid (below_grown H10.out hg13 GE)
  have C13 := Lib.hid hc13
  clear hc13 hg13 H10 C10
  go_wp2_with fail
  refine (done_any g ByteArray.empty false _ (by decide) C13.out).mono ?_
  rintro e w14 ⟨rfl, rfl⟩
  go_wp2_with fail
  go_ret
  exact ⟨rfl, H13.out⟩

set_option maxHeartbeats 1600000 in
theorem back_no (n : Nat) (s t : ByteArray) (hs : s.size ≤ maxLen) (ht : t.size ≤ maxLen) (h : 200 < s.size ∨ 100 < t.size) (w : World) :
    Calls Try.prog 5 #[.int .u64 n, .string s, .string t] w fun e w' => e = .returned (.bool true) ∧ Below w.heap.size w w' := by
  unfold maxLen at hs ht
  rcases h with h | h
  · go_enter Try.func5, Try.ntmps5
    go_wp2_with fail
    refine (awake_any _).mono ?_
    rintro e w1 ⟨rfl, hb1⟩
    go_wp2_with fail
    refine (awake_any _).mono ?_
    rintro e w2 ⟨rfl, hb2⟩
    go_wp2_with fail
    go_ret
    exact ⟨rfl, hb1.trans (hb2.mono hb1.size)⟩
  · by_cases h2 : 200 < s.size
    all_goals
      go_enter Try.func5, Try.ntmps5
      go_wp2_with fail
      refine (awake_any _).mono ?_
      rintro e w1 ⟨rfl, hb1⟩
      go_wp2_with fail
      refine (awake_any _).mono ?_
      rintro e w2 ⟨rfl, hb2⟩
      go_wp2_with fail
      go_ret
      exact ⟨rfl, hb1.trans (hb2.mono hb1.size)⟩

theorem primBack_walk (a0 : Int) (w0 : (Lit.int .u64 a0).wf = true) (s : ByteArray) (hs : s.size ≤ maxLen) (t : ByteArray) (ht : t.size ≤ maxLen) (w : World) :
    Calls Try.prog 5 #[.int .u64 a0, .string s, .string t] w fun e w' => e = .returned (.bool true) ∧ Below w.heap.size w w' := by
  have hx : 0 ≤ a0 ∧ a0 ≤ 18446744073709551615 := by simpa [Lit.wf, IntKind.min, IntKind.max, IntKind.signed, IntKind.bits] using w0
  obtain ⟨n, rfl⟩ := Int.eq_ofNat_of_zero_le hx.1
  by_cases h : s.size ≤ 200 ∧ t.size ≤ 100
  · exact back_yes n s t (by omega) h.1 h.2 w
  · exact back_no n s t hs ht (by omega) w
end Go.Proofs.Ytefkhekmhabeaaa
