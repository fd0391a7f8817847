/-
  Joined: ChnPTake, ChnPVer.
-/
import Derived.Test.YtdcefhhmddjodaaSet18
import Derived.StillTailTactics
import Derived.Deep.DeepCutAuto
namespace Go.Proofs.Ytdcefhhmddjodaa
open Go.RowKit
set_option linter.unusedVariables false
set_option linter.unnecessarySimpa false
set_option linter.unusedSimpArgs false
set_option maxRecDepth 100000

theorem cU_len (s : ByteArray) (b : Bool) : (cUint s b).2.1.size ≤ s.size ∧ (cUint s b).1 < 18446744073709551616 := by
  unfold cUint
  cases b with
  | true => simp
  | false =>
    simp only [Bool.false_eq_true, if_false]
    split
    · simp
    · rename_i h
      refine ⟨by rw [ByteArray.size_extract]; omega, ?_⟩
      unfold tkN
      cases ht : tk s.data.toList with
      | none => simp
      | some p => exact (tk_some (n := p.1) (k := p.2) ht).2.1
theorem cT_len (s : ByteArray) (b : Bool) : (cText s b).2.1.size ≤ s.size ∧ (cText s b).1.size ≤ s.size := by
  unfold cText
  split
  · exact ⟨Nat.le_refl _, Nat.zero_le _⟩
  · simp only [ByteArray.size_extract]; omega

/-- What the calls of a cursor tell of a value's head. -/
structure ValHead (base l : List UInt8) (h t : Nat) (m X1 X2 X3 : ByteArray) (b1 b2 b3 : Bool) : Prop where
  f1 : cUint ⟨l.toArray⟩ false = (h, X1, b1)
  f2 : cUint X1 b1 = (t, X2, b2)
  f3 : cText X2 b2 = (m, X3, b3)
  hlt : h < 18446744073709551616
  tlt : t < 18446744073709551616
  s1 : X1.size ≤ l.length
  s2 : X2.size ≤ l.length
  s3 : X3.size ≤ l.length
  sm : m.size ≤ l.length
  no : b3 = true → tkVal base l = none
  yes : b3 = false → tkVal base l = valOf base h t m.data.toList X3.data.toList
theorem valHead_of (base l : List UInt8) : ∃ h t m X1 X2 X3 b1 b2 b3, ValHead base l h t m X1 X2 X3 b1 b2 b3 := by
  rcases f1 : cUint ⟨l.toArray⟩ false with ⟨h, X1, b1⟩
  rcases f2 : cUint X1 b1 with ⟨t, X2, b2⟩
  rcases f3 : cText X2 b2 with ⟨m, X3, b3⟩
  have g1 := cU_len ⟨l.toArray⟩ false
  have g2 := cU_len X1 b1
  have g3 := cT_len X2 b2
  rw [f1, arr_size l] at g1
  rw [f2] at g2
  rw [f3] at g3
  simp only at g1 g2 g3
  refine ⟨h, t, m, X1, X2, X3, b1, b2, b3, ⟨by first | exact f1 | rfl, f2, f3, g1.2, g2.2, g1.1, by omega, by omega, by omega, ?_, ?_⟩⟩
  · rintro rfl
    unfold tkVal
    cases h1 : tk l with
    | none => rfl
    | some p =>
      obtain ⟨h', k1⟩ := p
      simp only
      rw [uN_some h1] at f1
      cases f1
      cases h2 : tk (l.drop k1) with
      | none => rfl
      | some p =>
        obtain ⟨t', k2⟩ := p
        simp only
        rw [uN_some h2] at f2
        cases f2
        cases h3 : tk ((l.drop k1).drop k2) with
        | none => rfl
        | some p =>
          obtain ⟨n, k3⟩ := p
          simp only
          by_cases hn : n ≤ (((l.drop k1).drop k2).drop k3).length
          · rw [cT_full h3 hn] at f3; cases f3
          · rw [if_neg hn]
  · rintro rfl
    unfold tkVal
    cases h1 : tk l with
    | none =>
      rw [uN_none h1] at f1
      cases f1
      rw [uN_bad l] at f2
      cases f2
      simp [cText] at f3
    | some p =>
      obtain ⟨h', k1⟩ := p
      simp only
      rw [uN_some h1] at f1
      cases f1
      cases h2 : tk (l.drop k1) with
      | none =>
        rw [uN_none h2] at f2
        cases f2
        simp [cText] at f3
      | some p =>
        obtain ⟨t', k2⟩ := p
        simp only
        rw [uN_some h2] at f2
        cases f2
        cases h3 : tk ((l.drop k1).drop k2) with
        | none => rw [cT_none h3] at f3; cases f3
        | some p =>
          obtain ⟨n, k3⟩ := p
          simp only
          by_cases hn : n ≤ (((l.drop k1).drop k2).drop k3).length
          · rw [cT_full h3 hn] at f3
            cases f3
            rw [if_pos hn]
          · rw [cT_short h3 (by omega)] at f3; cases f3

theorem cur_list {w : World} {g : Nat} {X : ByteArray} {b : Bool} (h : CurAt w g X b) : CurL w g X.data.toList b := by
  unfold CurL
  rw [show (⟨X.data.toList.toArray⟩ : ByteArray) = X from ba_ext (by simp)]
  exact h
theorem grown_of_below {w w' : World} {r : Option Nat} (h : Below w.heap.size w w') : w.grownBy w' r := ⟨h.os, h.tape, h.output, h.size, fun k hk _ => h.block k hk⟩
/-- What is told of a value. -/
def ValOut (g : Nat) (x : Option (List UInt8 × List UInt8)) (w : World) (e : Ending) (w' : World) : Prop :=
  (∃ s, e = .returned (.tuple #[.string s, .bool false]) ∧ x = none ∧ w.grownBy w' (some g)) ∨
  ∃ v r, e = .returned (.tuple #[.string ⟨v.toArray⟩, .bool true]) ∧ x = some (v, r) ∧ CurL w' g r false ∧ w.grownBy w' (some g)

set_option maxHeartbeats 4000000 in
theorem takeValue_any (g : Nat) (base : ByteArray) (l : List UInt8) (w : World) (hb : base.size ≤ 60000) (hl : l.length ≤ 20000000) (hc : CurL w g l false) :
    Calls Try.prog 103 #[.pointer (some ⟨g, 0, none⟩), .string base] w (ValOut g (tkVal base.data.toList l) w) := by
  obtain ⟨h, t, m, X1, X2, X3, b1, b2, b3, H⟩ := valHead_of base.data.toList l
  have hk1 := Lib.hid (cur_uint g ⟨l.toArray⟩ false w (by rw [arr_size]; unfold maxLen; omega) hc)
  have hk2 := Lib.hid (fun W hW => cur_uint g X1 b1 W (by have := H.s1; unfold maxLen; omega) hW)
  have hk3 := Lib.hid (fun W hW => cur_text g X2 b2 W (by have := H.s2; unfold maxLen; omega) hW)
  rw [H.f1] at hk1
  rw [H.f2] at hk2
  rw [H.f3] at hk3
  have hh := H.hlt
  have ht := H.tlt
  have hm := H.sm
  have hno := H.no
  have hyes := H.yes
  obtain ⟨x, hx⟩ : ∃ x, x = tkVal base.data.toList l := ⟨_, rfl⟩
  rw [← hx] at hno hyes ⊢
  have hbz : (base.size : Int) % 18446744073709551616 = base.size := by omega
  clear H hx hc
  go_enter Try.func103, Try.ntmps103
  go_upto_region 5 with (first
    | (go_at_call 56; (with_reducible refine hk1.out.mono ?_); rintro e w1 ⟨rfl, hc1, hg1⟩; have hc1 := Lib.hid hc1; have hg1 := Lib.hid hg1)
    | (go_at_call 56; (with_reducible refine (hk2.out _ hc1.out).mono ?_); rintro e w2 ⟨rfl, hc2, hg2⟩; have hc2 := Lib.hid hc2; have hg2 := Lib.hid (grownBy_trans hg1.out hg2))
    | (go_at_call 79; (with_reducible refine (hk3.out _ hc2.out).mono ?_); rintro e w3 ⟨rfl, hc3, hg3⟩; have hc3 := Lib.hid hc3; have hg3 := Lib.hid (grownBy_trans hg2.out hg3)))
  have HBad := Lib.hid (bad_any g X3 b3 w3 hc3.out)
  clear hk1 hk2 hk3 hc1 hc2 hg1 hg2 hbz
  cases b3 with
  | true =>
    have hx := Lib.hid (hno rfl)
    clear hno hyes
    go_wp2_with (go_at_call 57; (with_reducible refine HBad.out.mono ?_); rintro e w4 ⟨rfl, rfl⟩)
    go_ret2
    exact .inl ⟨_, rfl, hx.out, hg3.out⟩
  | false =>
    have hv := hyes rfl
    unfold valOf at hv
    rw [c_size] at hv
    clear hno hyes
    by_cases h1 : h ≤ base.size
    · by_cases h2 : t ≤ base.size - h
      · have z1 : ¬ (base.size : Int) < (h : Int) := by omega
        have z2 : (base.size : Int) - (h : Int) = ((base.size - h : Nat) : Int) := by omega
        have z3 : ¬ ((base.size - h : Nat) : Int) < (t : Int) := by omega
        go_upto_region 7 with (go_at_call 57; (with_reducible refine HBad.out.mono ?_); rintro e w4 ⟨rfl, rfl⟩)
        clear z1 z2 z3
        have y1 : (0 : Int) ≤ (h : Int) := by omega
        have y2 : (h : Int) ≤ (base.size : Int) := by omega
        have y3 : (base.size : Int) - (t : Int) = ((base.size - t : Nat) : Int) := by omega
        have y4 : ((base.size - t : Nat) : Int) ≤ (base.size : Int) := by omega
        have y5 : (0 : Int) ≤ ((base.size - t : Nat) : Int) := by omega
        obtain ⟨P1, hP1⟩ : ∃ P1, P1 = base.extract 0 h := ⟨_, rfl⟩
        obtain ⟨P3, hP3⟩ : ∃ P3, P3 = base.extract (base.size - t) base.size := ⟨_, rfl⟩
        have hmk : Lib.join ([P1, m, P3].map (·.data.toList)) (⟨#[]⟩ : ByteArray).data.toList = mkVal base.data.toList m.data.toList h t := by
          rw [hP1, hP3]
          simp only [List.map_cons, List.map_nil, Lib.join_cons, Lib.joinTail, ext_list]
          unfold mkVal
          rw [c_size, List.drop_zero, Nat.sub_zero, List.take_of_length_le (l := base.data.toList.drop (base.size - t)) (by rw [List.length_drop, c_size]; omega)]
          simp
        have hvl := mkVal_len (b := base.data.toList) (mid := m.data.toList) (h := h) (t := t) (by rw [c_size]; exact h1) (by rw [c_size]; exact h2)
        rw [c_size] at hvl
        obtain ⟨L, hL⟩ : ∃ L, L = mkVal base.data.toList m.data.toList h t := ⟨_, rfl⟩
        rw [← hL] at hmk hvl hv
        obtain ⟨V, hV⟩ : ∃ V : ByteArray, V = ⟨L.toArray⟩ := ⟨_, rfl⟩
        have hVs : V.size ≤ 30000000 := by rw [hV, arr_size]; omega
        have hVl : V.data.toList = L := by rw [hV]
        have HJ := Lib.hid (show ∀ W : World, Calls Try.prog 94 #[.slice (some ⟨W.heap.size, 0, none⟩) 3 3, .string ⟨#[]⟩] (W.alloc (.cells #[.string P1, .string m, .string P3] 9)).drew fun e w' => e = .returned (.string V) ∧ Below (W.alloc (.cells #[.string P1, .string m, .string P3] 9)).heap.size (W.alloc (.cells #[.string P1, .string m, .string P3] 9)) w' from fun W => by
          have := Try.strings_Join W.heap.size 0 3 [P1, m, P3] ⟨#[]⟩ (W.alloc (.cells #[.string P1, .string m, .string P3] 9)).drew (fun j x hj => by
            show (W.alloc (.cells #[.string P1, .string m, .string P3] 9)).cell? _ = _
            rw [cell_of_row _ _ _ _ _ _ (heap_alloc_new W _)]
            match j, hj with
            | 0, hj => simpa using hj
            | 1, hj => simpa using hj
            | 2, hj => simpa using hj
            | j + 3, hj => simp at hj) (by show _ < (W.alloc _).heap.size; simp) (by simp) (Nat.le_refl _) (by rw [hmk]; omega)
          rw [hmk, ← hV] at this
          exact this.mono fun e w' ⟨h1, h2⟩ => ⟨h1, ⟨h2.os, h2.tape, h2.output, h2.size, h2.block⟩⟩)
        have HSh := Lib.hid (shared_any V base (by omega) (by omega))
        rw [hVl] at HSh
        obtain ⟨H, hH⟩ : ∃ H, H = headN base.data.toList L := ⟨_, rfl⟩
        obtain ⟨T, hT⟩ : ∃ T, T = tailN base.data.toList L := ⟨_, rfl⟩
        have htl := tailN_le base.data.toList L
        rw [c_size] at htl
        rw [← hH, ← hT] at HSh hv htl
        have HV := Lib.hid hv
        have q1 : (H : Int) % 18446744073709551616 = H := by omega
        have q2 : (T : Int) % 18446744073709551616 = T := by omega
        have HVV := Lib.hid hV
        obtain ⟨p, hp⟩ : ∃ p, p = base.size - t := ⟨_, rfl⟩
        rw [← hp] at y3 y4 y5 hP3
        have y6 : IntKind.u64.wrap (p : Int) = (p : Int) := IntWalk.u64_in _ (by omega)
        have k1 := hP1.symm
        have k3 := hP3.symm
        clear hv hV hH hT hp hL hmk hvl hVl htl hP1 hP3
        go_still_tail 9, (by kernel_rfl)
        change wpList _ _ _ _ _ w3.drew
        have hB4 := ((Below.refl w3.heap.size w3).alloc (Nat.le_refl _) (.cells #[.string P1, .string m, .string P3] 9))
        go_upto_region 8 with (go_at_call 94; (with_reducible refine (HJ.out _).mono ?_); rintro e w5 ⟨rfl, hb5⟩; have hB5 := hB4.trans (hb5.mono hB4.size))
        have HC5 := Lib.hid (show CurAt w5 g X3 false from CurAt.kept hc3.out hB5 (CurAt.lt hc3.out))
        have HG5 := Lib.hid (grownBy_trans hg3.out (grown_of_below (r := some g) hB5))
        have H1 := Lib.hid h1
        have H2 := Lib.hid h2
        clear hB4 hB5 HJ y1 y2 y3 y4 y5 y6 k1 k3 HBad hc3 hg3 h1 h2
        by_cases e1 : h = H
        · have t1 : ((h : Int) == (H : Int)) = true := by rw [beq_iff_eq]; omega
          by_cases e2 : t = T
          · have t2 : ((t : Int) == (T : Int)) = true := by rw [beq_iff_eq]; omega
            have HX := Lib.hid (show x = some (L, X3.data.toList) by rw [HV.out, if_pos ⟨H1.out, H2.out, e1, e2⟩])
            clear HV e1 e2
            go_wp2_with (go_at_call 104; (with_reducible refine (HSh.out _).mono ?_); rintro e w6 ⟨rfl, n6, rfl⟩)
            go_ret2
            exact .inr ⟨L, X3.data.toList, by rw [← HVV.out]; rfl, HX.out, cur_list (CurAt.kept HC5.out (below_drewV (Below.refl _ _) n6) (CurAt.lt HC5.out)), grownBy_trans HG5.out (grown_of_below (below_drewV (Below.refl _ _) n6))⟩
          · have t2 : ((t : Int) == (T : Int)) = false := by rw [beq_eq_false_iff_ne]; omega
            have HX := Lib.hid (show x = none by rw [HV.out, if_neg (fun h => e2 h.2.2.2)])
            clear HV e1 e2
            go_wp2_with (go_at_call 104; (with_reducible refine (HSh.out _).mono ?_); rintro e w6 ⟨rfl, n6, rfl⟩)
            go_ret2
            exact .inl ⟨V, rfl, HX.out, grownBy_trans HG5.out (grown_of_below (below_drewV (Below.refl _ _) n6))⟩
        · have t1 : ((h : Int) == (H : Int)) = false := by rw [beq_eq_false_iff_ne]; omega
          have HX := Lib.hid (show x = none by rw [HV.out, if_neg (fun h => e1 h.2.2.1)])
          clear HV e1
          go_wp2_with (go_at_call 104; (with_reducible refine (HSh.out _).mono ?_); rintro e w6 ⟨rfl, n6, rfl⟩)
          go_ret2
          exact .inl ⟨V, rfl, HX.out, grownBy_trans HG5.out (grown_of_below (below_drewV (Below.refl _ _) n6))⟩
      · have hx := Lib.hid (show x = none by rw [hv, if_neg (fun h => h2 h.2.1)])
        have z1 : ¬ (base.size : Int) < (h : Int) := by omega
        have z2 : (base.size : Int) - (h : Int) = ((base.size - h : Nat) : Int) := by omega
        have z3 : ((base.size - h : Nat) : Int) < (t : Int) := by omega
        clear hv h1 h2
        go_wp2_with (go_at_call 57; (with_reducible refine HBad.out.mono ?_); rintro e w4 ⟨rfl, rfl⟩)
        go_ret2
        exact .inl ⟨_, rfl, hx.out, hg3.out⟩
    · have hx := Lib.hid (show x = none by rw [hv, if_neg (fun h => h1 h.1)])
      have z1 : (base.size : Int) < (h : Int) := by omega
      clear hv h1
      go_wp2_with (go_at_call 57; (with_reducible refine HBad.out.mono ?_); rintro e w4 ⟨rfl, rfl⟩)
      go_ret2
      exact .inl ⟨_, rfl, hx.out, hg3.out⟩
end Go.Proofs.Ytdcefhhmddjodaa

namespace Go.Proofs.Ytdcefhhmddjodaa
open Go.RowKit
set_option linter.unusedVariables false
set_option linter.unnecessarySimpa false
set_option linter.unusedSimpArgs false
set_option maxRecDepth 100000

theorem grown_setRow {w : World} {g : Nat} {cs : Array Value} : w.grownBy (w.setRow g cs) (some g) := ⟨rfl, rfl, rfl, by simp, fun k _ hk => setRow_other w g k _ (fun e => hk (by rw [e]))⟩
/-- Changed: block g, and nothing else that was there ahead of w. -/
theorem grown_over {w w1 w2 : World} {g P : Nat} (h : w.grownBy w1 (some g)) (hg : w1.grownBy w2 (some P)) (hP : w.heap.size ≤ P) : w.grownBy w2 (some g) :=
  ⟨hg.os.trans h.os, hg.tape.trans h.tape, hg.output.trans h.output, Nat.le_trans h.size hg.size, fun k hk hkg => (hg.block k (Nat.lt_of_lt_of_le hk h.size) (fun e => by injection e with e; omega)).trans (h.block k hk hkg)⟩

theorem drew_cur {w : World} {g : Nat} {X : ByteArray} {b : Bool} (h : CurAt w g X b) : CurAt w.drew g X b := h
theorem drew_grown {w w' : World} {r : Option Nat} (h : w.drew.grownBy w' r) : w.grownBy w' r := ⟨h.os, h.tape, h.output, h.size, h.block⟩
def sumT (t s : Nat) : Nat := (t + s) % 18446744073709551616
/-- What the calls of a cursor tell of a version's head. -/
structure VerHead (t : Nat) (base l : List UInt8) (s : Nat) (one X1 X2 : ByteArray) (b1 b2 : Bool) : Prop where
  f1 : cUint ⟨l.toArray⟩ false = (s, X1, b1)
  f2 : cBytes X1 b1 1 = (one, X2, b2)
  slt : s < 18446744073709551616
  s1 : X1.size ≤ l.length
  s2 : X2.size ≤ l.length
  low : sumT t s ≤ t → tkVer t base l = none
  gone : t < sumT t s → one.data.toList = [1] → b2 = false ∧ tkVer t base l = some (⟨sumT t s, true, ⟨#[]⟩⟩, X2.data.toList)
  there : t < sumT t s → one.data.toList = [0] → b2 = false ∧ tkVer t base l = (match tkVal base X2.data.toList with | none => none | some (v, r') => some (⟨sumT t s, false, ⟨v.toArray⟩⟩, r'))
  no : t < sumT t s → one.data.toList ≠ [1] → one.data.toList ≠ [0] → tkVer t base l = none
theorem cB_len (s : ByteArray) (b : Bool) (n : Int) : (cBytes s b n).2.1.size ≤ s.size := by
  unfold cBytes
  split
  · exact Nat.le_refl _
  · simp only [ByteArray.size_extract]; omega
theorem verHead_of (t : Nat) (base l : List UInt8) (ht : t < 18446744073709551616) : ∃ s one X1 X2 b1 b2, VerHead t base l s one X1 X2 b1 b2 := by
  rcases f1 : cUint ⟨l.toArray⟩ false with ⟨s, X1, b1⟩
  rcases f2 : cBytes X1 b1 1 with ⟨one, X2, b2⟩
  have g1 := cU_len ⟨l.toArray⟩ false
  have g2 := cB_len X1 b1 1
  rw [f1, arr_size l] at g1
  rw [f2] at g2
  simp only at g1 g2
  suffices H : (sumT t s ≤ t → tkVer t base l = none) ∧ (t < sumT t s → one.data.toList = [1] → b2 = false ∧ tkVer t base l = some (⟨sumT t s, true, ⟨#[]⟩⟩, X2.data.toList)) ∧
      (t < sumT t s → one.data.toList = [0] → b2 = false ∧ tkVer t base l = (match tkVal base X2.data.toList with | none => none | some (v, r') => some (⟨sumT t s, false, ⟨v.toArray⟩⟩, r'))) ∧
      (t < sumT t s → one.data.toList ≠ [1] → one.data.toList ≠ [0] → tkVer t base l = none) from
    ⟨s, one, X1, X2, b1, b2, ⟨f1, f2, g1.2, g1.1, by omega, H.1, H.2.1, H.2.2.1, H.2.2.2⟩⟩
  cases h1 : tk l with
  | none =>
    rw [uN_none h1] at f1
    cases f1
    have e : sumT t 0 = t := by unfold sumT; rw [Nat.add_zero, Nat.mod_eq_of_lt ht]
    rw [e]
    exact ⟨fun _ => by unfold tkVer; rw [h1], fun h => absurd h (Nat.lt_irrefl _), fun h => absurd h (Nat.lt_irrefl _), fun h => absurd h (Nat.lt_irrefl _)⟩
  | some p =>
    obtain ⟨s', k⟩ := p
    rw [uN_some h1] at f1
    cases f1
    unfold tkVer
    rw [h1]
    simp only
    cases hd : l.drop k with
    | nil =>
      have f3 := cB_short (l := l.drop k) (k := 1) (by rw [hd]; decide)
      rw [show ((1 : Nat) : Int) = 1 from rfl, f2] at f3
      cases f3
      exact ⟨fun _ => rfl, fun _ h => (by cases h), fun _ h => (by cases h), fun _ _ _ => rfl⟩
    | cons x r =>
      have f3 := cB_full (l := l.drop k) (k := 1) (by rw [hd]; simp)
      rw [show ((1 : Nat) : Int) = 1 from rfl, f2, hd] at f3
      cases f3
      simp only [List.take_succ_cons, List.take_zero, List.drop_succ_cons, List.drop_zero]
      refine ⟨fun h => if_pos h, fun h hx => ?_, fun h hx => ?_, fun h n1 n0 => ?_⟩
      · injection hx with hx
        exact ⟨by first | trivial | rfl, by rw [if_neg (by unfold sumT at h; omega), if_pos hx]; rfl⟩
      · injection hx with hx
        exact ⟨by first | trivial | rfl, by rw [if_neg (by unfold sumT at h; omega), if_neg (by rw [hx]; decide), if_pos hx]; rfl⟩
      · rw [if_neg (by unfold sumT at h; omega), if_neg (fun e => n1 (by rw [e])), if_neg (fun e => n0 (by rw [e]))]
/-- What is told of a version. -/
def VerOut (g : Nat) (x : Option (Vr × List UInt8)) (w : World) (e : Ending) (w' : World) : Prop :=
  (∃ z : Vr, e = .returned (.tuple #[.agg z.cells, .bool false]) ∧ x = none ∧ w.grownBy w' (some g)) ∨
  ∃ (v : Vr) (r : List UInt8), e = .returned (.tuple #[.agg v.cells, .bool true]) ∧ x = some (v, r) ∧ CurL w' g r false ∧ w.grownBy w' (some g)
theorem cur_setRow {w : World} {g P : Nat} {cs : Array Value} {X : ByteArray} {b : Bool} (h : CurAt w g X b) (hP : g < P) : CurAt (w.setRow P cs) g X b := by
  unfold CurAt at *
  rw [setRow_other w P g cs (by omega)]
  exact h
theorem ver_no {g P : Nat} {x : Option (Vr × List UInt8)} {w w' : World} (z : Vr) (hx : x = none) (hg : w.grownBy w' (some g)) (hP : w.heap.size ≤ P) : VerOut g x w (.returned (.tuple #[.agg z.cells, .bool false])) (w'.setRow P z.cells) :=
  .inl ⟨z, rfl, hx, grown_over hg grown_setRow hP⟩
theorem ver_yes {g P : Nat} {x : Option (Vr × List UInt8)} {w w' : World} (v : Vr) {r : List UInt8} (hx : x = some (v, r)) (hc : CurL w' g r false) (hg : w.grownBy w' (some g)) (hP : w.heap.size ≤ P) (hgP : g < P) : VerOut g x w (.returned (.tuple #[.agg v.cells, .bool true])) (w'.setRow P v.cells) :=
  .inr ⟨v, r, rfl, hx, cur_setRow hc hgP, grown_over hg grown_setRow hP⟩
theorem vr_one (v : Vr) : v.cells.all (·.oneCell') = true := by simp [Vr.cells, Value.oneCell']
theorem vr_size (v : Vr) : (Try.prog.info? 35).map (·.size) = some v.cells.size := verSize
theorem ver_ret {w : World} {g : Nat} {cs : Array Value} {tmps : Array Value} {ok : Bool} (h : w.heap[g]? = some (.cells cs 35 (0, 0))) (hcs : (Try.prog.info? 35).map (·.size) = some cs.size)
    (hp : tmps.getD 4 undef = .pointer (some ⟨g, 0, none⟩)) (hv : tmps.getD 5 undef = .bool ok) : (results Try.f95 tmps).run Try.prog w = .ok (.tuple #[.agg cs, .bool ok]) w :=
  results_row_tmpV rfl tmps w g 35 cs (0, 0) _ _ hp h Try.underlying35 rfl hcs hv

set_option maxHeartbeats 4000000 in
theorem takeVersion_any (g t : Nat) (base : ByteArray) (l : List UInt8) (w : World) (ht : t < 18446744073709551616) (hb : base.size ≤ 60000) (hl : l.length ≤ 20000000) (hc : CurL w g l false) :
    Calls Try.prog 95 #[.pointer (some ⟨g, 0, none⟩), .agg (plc t base)] w (VerOut g (tkVer t base.data.toList l) w) := by
  obtain ⟨s, one, X1, X2, b1, b2, H⟩ := verHead_of t base.data.toList l ht
  have hgl := CurL.lt hc
  obtain ⟨P, hP⟩ : ∃ P, P = w.heap.size := ⟨_, rfl⟩
  obtain ⟨w1, hw1⟩ : ∃ w1, w1 = (w.alloc (.cells #[.int .u64 (t : Int), .string base] 147)).alloc (.cells #[.int .u64 0, .bool false, .string ⟨#[]⟩] 35) := ⟨_, rfl⟩
  have r0 : w1.heap[P]? = some (.cells #[.int .u64 (t : Int), .string base] 147 (0, 0)) := by rw [hw1, hP]; exact heap_alloc2_old _ _ _
  have r1 : w1.heap[P + 1]? = some (.cells #[.int .u64 0, .bool false, .string ⟨#[]⟩] 35 (0, 0)) := by rw [hw1, hP]; exact heap_alloc2_new _ _ _
  have hbel : Below w.heap.size w w1 := by rw [hw1]; exact ((Below.refl _ _).alloc (Nat.le_refl _) _).alloc (by simp) _
  have hgP : g < P := by rw [hP]; exact hgl
  have hc1 : CurL w1 g l false := CurAt.kept hc hbel hgl
  have R0 := Lib.hid (fun W (h : w1.grownBy W (some g)) => (h.block P (Array.getElem?_eq_some_iff.1 r0).1 (fun e => by injection e with e; omega)).trans r0)
  have R1 := Lib.hid (fun W (h : w1.grownBy W (some g)) => (h.block (P + 1) (Array.getElem?_eq_some_iff.1 r1).1 (fun e => by injection e with e; omega)).trans r1)
  have G1 := Lib.hid (grown_of_below (r := some g) hbel)
  have HPw := Lib.hid (show w.heap.size ≤ P + 1 by omega)
  have hk1 := Lib.hid (fun W hW => cur_uint g ⟨l.toArray⟩ false W (by rw [arr_size]; unfold maxLen; omega) hW)
  have HC1 := Lib.hid (show CurAt w1 g ⟨l.toArray⟩ false from hc1)
  have hk2 := Lib.hid (fun W hW => cur_bytes g X1 b1 1 W (by have := H.s1; unfold maxLen; omega) hW)
  rw [H.f1] at hk1
  rw [H.f2] at hk2
  have hs := H.slt
  have hlow := Lib.hid H.low
  have hgone := Lib.hid H.gone
  have hthere := Lib.hid H.there
  have hno := Lib.hid H.no
  have hX2 := H.s2
  obtain ⟨x, hx⟩ : ∃ x, x = tkVer t base.data.toList l := ⟨_, rfl⟩
  rw [← hx] at hlow hgone hthere hno ⊢
  obtain ⟨T, hT⟩ : ∃ T, T = sumT t s := ⟨_, rfl⟩
  have hTz : ((t : Int) + (s : Int)) % 18446744073709551616 = (T : Int) := by rw [hT]; unfold sumT; omega
  have hTw : IntKind.u64.wrap ((t : Int) + (s : Int)) = (T : Int) := by rw [IntKind.wrap_u64]; exact hTz
  have hT2 : T < 18446744073709551616 := by rw [hT]; unfold sumT; omega
  rw [← hT] at hlow hgone hthere hno
  obtain ⟨d0, d1⟩ := cells2 r0
  unfold plc
  clear H hx hc hT hgl r0 r1 hbel hc1
  go_enter Try.func95, Try.ntmps95
  go_upto_region 1 with fail
  rw [← hw1, ← hP]
  clear hw1 hP
  go_cut [6] (fun s6 wc => s6 = .int .u64 (T : Int) ∧ Hid (CurAt wc g X1 b1) ∧ Hid (w1.grownBy wc (some g)))
  case first =>
    go_region_with (go_at_call 56; (with_reducible refine (hk1.out _ (drew_cur HC1.out)).mono ?_); rintro e w2 ⟨rfl, hc2, hg2⟩; have hd0 := (cells2 (R0.out _ (drew_grown hg2))).1)
    all_goals
      go_wp2_with fail
      go_meet
      case rel => exact ⟨by first | rfl | (rw [hTw]), Lib.hid hc2, Lib.hid (drew_grown hg2)⟩
  case rest =>
    obtain ⟨rfl, hc2, hg2⟩ := hcut
    clear hk1 HC1 hTw hTz d0 d1
    go_upto_region 3 with (go_at_call 76; (with_reducible refine (hk2.out _ hc2.out).mono ?_); rintro e w3 ⟨rfl, hc3, hg3⟩)
    have HC3 := Lib.hid hc3
    have hg4 := grownBy_trans hg2.out hg3
    have RR := Lib.hid (R1.out _ hg4)
    have HG := Lib.hid (grownBy_trans G1.out hg4)
    obtain ⟨c0, c1⟩ := cells2 (R0.out _ hg4)
    have HGw := Lib.hid hg4
    have hone0 : one.toList = one.data.toList := Lib.toList_data one
    clear hc2 hg2 hc3 hg3 hg4 hk2 R0 R1 G1
    by_cases hlt : t < T
    · have hz : ¬ (T : Int) ≤ (t : Int) := by omega
      by_cases e1 : one.data.toList = [1]
      · have t1 : (one.toList == [1]) = true := by rw [hone0, e1]; rfl
        obtain ⟨rfl, hx⟩ := hgone.out hlt e1
        have HX := Lib.hid hx
        clear hno hthere hgone hlow hx e1 hlt hone0
        go_wp2_with (refine wpList_store_row rfl 35 _ _ rfl (P + 1) (Vr.cells ⟨T, true, ⟨#[]⟩⟩) rfl rfl 35 #[.int .u64 0, .bool false, .string ⟨#[]⟩] RR.out (vr_size _) rfl (vr_one _) ?_)
        exact bodyPost_ret (ver_ret (setRow_heap _ _ _ _ _ _ RR.out) (vr_size _) rfl rfl) rfl (ver_yes _ HX.out (cur_list HC3.out) HG.out HPw.out (by omega))
      · by_cases e0 : one.data.toList = [0]
        · have t1 : (one.toList == [1]) = false := by rw [hone0, e0]; rfl
          have t0 : (one.toList == [0]) = true := by rw [hone0, e0]; rfl
          obtain ⟨rfl, hx⟩ := hthere.out hlt e0
          have HTV := Lib.hid (takeValue_any g base X2.data.toList w3 hb (by rw [c_size]; omega) (cur_list HC3.out))
          have HX := Lib.hid hx
          obtain ⟨y, hy⟩ : ∃ y, y = tkVal base.data.toList X2.data.toList := ⟨_, rfl⟩
          rw [← hy] at HTV HX
          clear hno hthere hgone hlow hx e1 e0 hlt hone0 hy
          have HVO := Lib.hid (show ∀ e w', ValOut g y w3 e w' → ∃ (s : ByteArray) (ok : Bool), e = .returned (.tuple #[.string s, .bool ok]) ∧ Hid (w3.grownBy w' (some g)) ∧ Hid (w'.heap[P + 1]? = some (.cells #[.int .u64 0, .bool false, .string ⟨#[]⟩] 35 (0, 0))) ∧ Hid ((ok = false ∧ x = none) ∨ (ok = true ∧ ∃ r, x = some (⟨T, false, s⟩, r) ∧ CurL w' g r false)) from fun e w' h => by
            have key : ∀ w', w3.grownBy w' (some g) → w'.heap[P + 1]? = some (.cells #[.int .u64 0, .bool false, .string ⟨#[]⟩] 35 (0, 0)) := fun w' hg => (hg.block (P + 1) (Array.getElem?_eq_some_iff.1 RR.out).1 (fun e => by injection e with e; omega)).trans RR.out
            rcases h with ⟨s, rfl, hy, hg⟩ | ⟨v, r, rfl, hy, hcu, hg⟩
            · exact ⟨s, false, rfl, Lib.hid hg, Lib.hid (key _ hg), Lib.hid (.inl ⟨rfl, by rw [HX.out, hy]⟩)⟩
            · exact ⟨⟨v.toArray⟩, true, rfl, Lib.hid hg, Lib.hid (key _ hg), Lib.hid (.inr ⟨rfl, r, by rw [HX.out, hy], hcu⟩)⟩)
          go_upto_region 10 with (go_at_call 103; (with_reducible refine HTV.out.mono ?_); intro e w4 h4; obtain ⟨sv, ok, rfl, hg4, hr4, hc4⟩ := HVO.out e w4 h4; clear h4)
          clear HTV HVO c0 c1
          go_wp2_with (refine wpList_store_row rfl 35 _ _ rfl (P + 1) (Vr.cells ⟨T, false, sv⟩) rfl rfl 35 #[.int .u64 0, .bool false, .string ⟨#[]⟩] hr4.out (vr_size _) rfl (vr_one _) ?_)
          rcases hc4.out with ⟨rfl, hx⟩ | ⟨rfl, r, hx, hcu⟩
          · exact bodyPost_ret (ver_ret (setRow_heap _ _ _ _ _ _ hr4.out) (vr_size _) rfl rfl) rfl (ver_no _ hx (grownBy_trans HG.out hg4.out) HPw.out)
          · exact bodyPost_ret (ver_ret (setRow_heap _ _ _ _ _ _ hr4.out) (vr_size _) rfl rfl) rfl (ver_yes _ hx hcu (grownBy_trans HG.out hg4.out) HPw.out (by omega))
        · have t1 : (one.toList == [1]) = false := by rw [hone0, beq_eq_false_iff_ne]; exact e1
          have t0 : (one.toList == [0]) = false := by rw [hone0, beq_eq_false_iff_ne]; exact e0
          have HX := Lib.hid (hno.out hlt e1 e0)
          clear hno hthere hgone hlow e1 e0 hlt hone0
          go_wp2_with (refine wpList_store_row rfl 35 _ _ rfl (P + 1) (Vr.cells vr0) rfl rfl 35 #[.int .u64 0, .bool false, .string ⟨#[]⟩] RR.out (vr_size _) rfl (vr_one _) ?_)
          exact bodyPost_ret (ver_ret (setRow_heap _ _ _ _ _ _ RR.out) (vr_size _) rfl rfl) rfl (ver_no vr0 HX.out HG.out HPw.out)
    · have hz : (T : Int) ≤ (t : Int) := by omega
      have HX := Lib.hid (hlow.out (by omega))
      clear hno hthere hgone hlow hlt hone0
      go_wp2_with (refine wpList_store_row rfl 35 _ _ rfl (P + 1) (Vr.cells vr0) rfl rfl 35 #[.int .u64 0, .bool false, .string ⟨#[]⟩] RR.out (vr_size _) rfl (vr_one _) ?_)
      exact bodyPost_ret (ver_ret (setRow_heap _ _ _ _ _ _ RR.out) (vr_size _) rfl rfl) rfl (ver_no vr0 HX.out HG.out HPw.out)
end Go.Proofs.Ytdcefhhmddjodaa
