/-
  The program's takeKey, takeEntry.
-/
import Derived.Test.YtplobffkelmokaaSet15
import Derived.Test.YtplobffkelmokaaChnPDec
namespace Go.Proofs.Ytplobffkelmokaa
open Go.RowKit
set_option linter.unusedVariables false
set_option linter.unnecessarySimpa false
set_option linter.unusedSimpArgs false
set_option maxRecDepth 100000

/-! What stays while a cursor is written. -/
theorem cur_cells {w : World} {g : Nat} {s : ByteArray} {bad : Bool} (h : CurAt w g s bad) {k : Nat} {v : Value} (hc : w.cell? ⟨g, k, none⟩ = some v) : v = .string s ∨ v = .bool bad := by
  rw [cell_of_row _ _ _ _ _ _ h] at hc
  match k, hc with
  | 0, hc => left; simpa using hc.symm
  | 1, hc => right; simpa using hc.symm
  | k + 2, hc => simp at hc
theorem vers_cur {w w' : World} {g : Nat} {s : ByteArray} {bad : Bool} {a : Option Addr} {len cap : Nat} {zs : List Vr} (h : IsVers w a len cap zs) (hc : CurAt w g s bad) (hg : w.grownBy w' (some g)) : IsVers w' a len cap zs := by
  refine ⟨⟨h.1.1, fun i hi => ?_⟩, h.2⟩
  obtain ⟨b, off, ha, hlt, h1, h2, h3, h4, h5⟩ := h.1.2 i hi
  have hne : b ≠ g := fun e => by
    subst e
    rcases cur_cells hc h3 with h | h <;> cases h
  have hb : w'.heap[b]? = w.heap[b]? := hg.block b hlt (fun e => hne (by injection e))
  have key : ∀ k, w'.cell? ⟨b, k, none⟩ = w.cell? ⟨b, k, none⟩ := fun k => by unfold World.cell?; rw [hb]
  exact ⟨b, off, ha, Nat.lt_of_lt_of_le hlt hg.size, h1, h2, (key _).trans h3, (key _).trans h4, (key _).trans h5⟩
theorem ents_cur {w w' : World} {g : Nat} {s : ByteArray} {bad : Bool} {a : Option Addr} {len cap : Nat} {es : List En} (h : IsEnts w a len cap es) (hc : CurAt w g s bad) (hg : w.grownBy w' (some g)) : IsEnts w' a len cap es := by
  refine ⟨⟨h.1.1, fun i hi => ?_⟩, h.2⟩
  obtain ⟨b, off, ha, hlt, h1, h2, ca, cl, cc, h3, h4⟩ := h.1.2 i hi
  have hne : b ≠ g := fun e => by
    subst e
    rcases cur_cells hc h3 with h | h <;> cases h
  have hb : w'.heap[b]? = w.heap[b]? := hg.block b hlt (fun e => hne (by injection e))
  have key : ∀ k, w'.cell? ⟨b, k, none⟩ = w.cell? ⟨b, k, none⟩ := fun k => by unfold World.cell?; rw [hb]
  exact ⟨b, off, ha, Nat.lt_of_lt_of_le hlt hg.size, h1, (key _).trans h2, ca, cl, cc, (key _).trans h3, vers_cur h4 hc hg⟩

/-! What the calls of a cursor tell. -/
theorem text_tells (X : ByteArray) : ∃ vs X2 b2, cText X false = (vs, X2, b2) ∧ X2.size ≤ X.size ∧ vs.size ≤ X.size ∧ (b2 = true → tkTxt X.data.toList = none) ∧ (b2 = false → tkTxt X.data.toList = some (vs.data.toList, X2.data.toList)) := by
  have hl := cT_len X false
  have eb : (⟨X.data.toList.toArray⟩ : ByteArray) = X := ba_ext (by simp)
  cases h : tkTxt X.data.toList with
  | none =>
    have := cT_txt_none h
    rw [eb] at this
    rw [this] at hl
    exact ⟨_, _, _, this, hl.1, hl.2, fun _ => rfl, fun h => (by cases h)⟩
  | some p =>
    obtain ⟨t, r⟩ := p
    have := cT_txt_some h
    rw [eb] at this
    rw [this] at hl
    exact ⟨_, _, _, this, hl.1, hl.2, fun h => (by cases h), fun _ => rfl⟩
structure KeyHead (es : List En) (l : List UInt8) (b : Nat) (o X1 X2 : ByteArray) (b1 b2 : Bool) : Prop where
  f1 : cUint ⟨l.toArray⟩ false = (b, X1, b1)
  f2 : cText X1 b1 = (o, X2, b2)
  blt : b < 18446744073709551616
  s1 : X1.size ≤ l.length
  s2 : X2.size ≤ l.length
  os : o.size ≤ l.length
  no : b2 = true → tkKey es l = none
  yes : b2 = false → tkKey es l = if keyOk es b o.data.toList = true then some (keyIs es b o.data.toList, X2.data.toList) else none
theorem keyHead_of (es : List En) (l : List UInt8) : ∃ b o X1 X2 b1 b2, KeyHead es l b o X1 X2 b1 b2 := by
  rcases f1 : cUint ⟨l.toArray⟩ false with ⟨b, X1, b1⟩
  rcases f2 : cText X1 b1 with ⟨o, X2, b2⟩
  have g1 := cU_len ⟨l.toArray⟩ false
  have g2 := cT_len X1 b1
  rw [f1, arr_size l] at g1
  rw [f2] at g2
  simp only at g1 g2
  refine ⟨b, o, X1, X2, b1, b2, ⟨by first | exact f1 | rfl, f2, g1.2, g1.1, by omega, by omega, ?_, ?_⟩⟩
  · rintro rfl
    unfold tkKey
    cases h1 : tk l with
    | none => rfl
    | some p =>
      obtain ⟨n, k⟩ := p
      simp only
      rw [uN_some h1] at f1
      cases f1
      cases h2 : tkTxt (l.drop k) with
      | none => rfl
      | some p =>
        obtain ⟨t, r⟩ := p
        rw [cT_txt_some h2] at f2
        cases f2
  · rintro rfl
    unfold tkKey
    cases h1 : tk l with
    | none =>
      rw [uN_none h1] at f1
      cases f1
      simp [cText] at f2
    | some p =>
      obtain ⟨n, k⟩ := p
      simp only
      rw [uN_some h1] at f1
      cases f1
      cases h2 : tkTxt (l.drop k) with
      | none => rw [cT_txt_none h2] at f2; cases f2
      | some p =>
        obtain ⟨t, r⟩ := p
        rw [cT_txt_some h2] at f2
        cases f2
        rfl

/-- What is told of a key. -/
def KeyOut (g n : Nat) (x : Option (ByteArray × List UInt8)) (w : World) (e : Ending) (w' : World) : Prop :=
  ∃ (s X : ByteArray) (ok bd : Bool), e = .returned (.tuple #[.string s, .bool ok]) ∧ CurAt w' g X bd ∧ X.size ≤ n ∧ w.grownBy w' (some g) ∧ ((ok = false ∧ x = none) ∨ (ok = true ∧ bd = false ∧ x = some (s, X.data.toList)))
theorem key_no {g n : Nat} {x : Option (ByteArray × List UInt8)} {w w' : World} {s X : ByteArray} {bd : Bool} (hx : x = none) (hc : CurAt w' g X bd) (hs : X.size ≤ n) (hg : w.grownBy w' (some g)) : KeyOut g n x w (.returned (.tuple #[.string s, .bool false])) w' :=
  ⟨s, X, false, bd, rfl, hc, hs, hg, .inl ⟨rfl, hx⟩⟩
theorem key_yes {g n : Nat} {x : Option (ByteArray × List UInt8)} {w w' : World} {s X : ByteArray} (hx : x = some (s, X.data.toList)) (hc : CurAt w' g X false) (hs : X.size ≤ n) (hg : w.grownBy w' (some g)) : KeyOut g n x w (.returned (.tuple #[.string s, .bool true])) w' :=
  ⟨s, X, true, false, rfl, hc, hs, hg, .inr ⟨rfl, rfl, hx⟩⟩

set_option maxHeartbeats 8000000 in
theorem takeKey_any (g : Nat) (a : Option Addr) (len cap : Nat) (es : List En) (l : List UInt8) (w : World) (hz : IsEnts w a len cap es) (hs : (lastS es).size ≤ 60000) (hl : l.length ≤ 60000) (hc : CurL w g l false) :
    Calls Try.prog 73 #[.pointer (some ⟨g, 0, none⟩), .slice a len cap] w (KeyOut g l.length (tkKey es l) w) := by
  obtain ⟨b, o, X1, X2, b1, b2, H⟩ := keyHead_of es l
  have hk1 := Lib.hid (cur_uint g ⟨l.toArray⟩ false w (by rw [arr_size]; unfold maxLen; omega) hc)
  have hk2 := Lib.hid (fun W hW => cur_text g X1 b1 W (by have := H.s1; unfold maxLen; omega) hW)
  rw [H.f1] at hk1
  rw [H.f2] at hk2
  have hb := H.blt
  have ho := H.os
  have hs2 := Lib.hid H.s2
  have hno := H.no
  have hyes := H.yes
  have HZ := Lib.hid (fun W (hW : w.grownBy W (some g)) => ents_cur hz hc hW)
  have HL := Lib.hid (fun W (hW : w.grownBy W (some g)) => blast_any a len cap es W (ents_cur hz hc hW))
  obtain ⟨x, hx⟩ : ∃ x, x = tkKey es l := ⟨_, rfl⟩
  obtain ⟨n, hn⟩ : ∃ n, n = l.length := ⟨_, rfl⟩
  rw [← hx] at hno hyes ⊢
  rw [← hn] at hs2 ho ⊢
  obtain ⟨L, hL⟩ : ∃ L, L = lastS es := ⟨_, rfl⟩
  obtain ⟨V, hV⟩ : ∃ V, V = keyIs es b o.data.toList := ⟨_, rfl⟩
  have hkV : keyOk es b o.data.toList = (decide (b ≤ L.size) && (risesS es V && decide (pre L.data.toList V.data.toList = b))) := by rw [hV, hL]; rfl
  rw [hkV, ← hV] at hyes
  have hVL := Lib.hid (show V = ⟨(L.data.toList.take b ++ o.data.toList).toArray⟩ by rw [hV, hL]; rfl)
  rw [← hL] at HL hs
  have hLz : (L.size : Int) % 18446744073709551616 = L.size := by omega
  have hn6 : n ≤ 60000 := by omega
  clear H hx hc hz hn hl hL hV hkV
  go_enter Try.func73, Try.ntmps73
  go_upto_region 4 with (first
    | (go_at_call 49; (with_reducible refine hk1.out.mono ?_); rintro e w1 ⟨rfl, hc1, hg1⟩; have hc1 := Lib.hid hc1; have hg1 := Lib.hid hg1)
    | (go_at_call 74; (with_reducible refine (hk2.out _ hc1.out).mono ?_); rintro e w2 ⟨rfl, hc2, hg2⟩; have hc2 := Lib.hid hc2; have hg2 := Lib.hid (grownBy_trans hg1.out hg2))
    | (go_at_call 44; (with_reducible refine (HL.out _ hg2.out).mono ?_); rintro e w3 ⟨rfl, rfl⟩))
  have HBad := Lib.hid (bad_any g X2 b2 w2 hc2.out)
  clear hk1 hk2 hc1 hg1 HL
  cases b2 with
  | true =>
    have hx := Lib.hid (hno rfl)
    clear hno hyes
    go_wp2_with (go_at_call 50; (with_reducible refine HBad.out.mono ?_); rintro e w4 ⟨rfl, rfl⟩)
    go_ret2
    exact key_no hx.out hc2.out hs2.out hg2.out
  | false =>
    have hv := hyes rfl
    clear hno hyes
    by_cases h1 : b ≤ L.size
    · have z1 : ¬ (L.size : Int) < (b : Int) := by omega
      go_upto_region 6 with (go_at_call 50; (with_reducible refine HBad.out.mono ?_); rintro e w4 ⟨rfl, rfl⟩)
      clear z1 hLz
      have y1 : (0 : Int) ≤ (b : Int) := by omega
      have y2 : (b : Int) ≤ (L.size : Int) := by omega
      obtain ⟨P, hP⟩ : ∃ P, P = L.extract 0 b := ⟨_, rfl⟩
      have hPl : P.data.toList = L.data.toList.take b := by rw [hP, ext_list, List.drop_zero, Nat.sub_zero]
      have hPs : P.size ≤ 60000 := by rw [hP, ByteArray.size_extract]; omega
      have hmk : Lib.join ([P, o].map (·.data.toList)) (⟨#[]⟩ : ByteArray).data.toList = L.data.toList.take b ++ o.data.toList := by
        simp only [List.map_cons, List.map_nil, Lib.join_cons, Lib.joinTail, hPl]
        simp
      have hVs : V.size ≤ 120000 := by rw [hVL.out, arr_size, List.length_append, ← hPl, c_size, c_size]; omega
      have HJ := Lib.hid (show ∀ W : World, Calls Try.prog 80 #[.slice (some ⟨W.heap.size, 0, none⟩) 2 2, .string ⟨#[]⟩] (W.alloc (.cells #[.string P, .string o] 9)) fun e w' => e = .returned (.string V) ∧ Below (W.alloc (.cells #[.string P, .string o] 9)).heap.size (W.alloc (.cells #[.string P, .string o] 9)) w' from fun W => by
        have := Try.strings_Join W.heap.size 0 2 [P, o] ⟨#[]⟩ (W.alloc (.cells #[.string P, .string o] 9)) (fun j x hj => by
          rw [cell_of_row _ _ _ _ _ _ (heap_alloc_new W _)]
          match j, hj with
          | 0, hj => simpa using hj
          | 1, hj => simpa using hj
          | j + 2, hj => simp at hj) (by simp) (by simp) (Nat.le_refl _) (by rw [hmk, List.length_append, ← hPl, c_size, c_size]; omega)
        rw [hmk, ← hVL.out] at this
        exact this)
      have hp := pre_le L.data.toList V.data.toList
      rw [c_size, c_size] at hp
      have HSh := Lib.hid (fun W => bshared_any V L (by omega) (by omega) W)
      obtain ⟨H, hH⟩ : ∃ H, H = pre L.data.toList V.data.toList := ⟨_, rfl⟩
      rw [← hH] at HSh hv hp
      obtain ⟨R, hR⟩ : ∃ R, R = risesS es V := ⟨_, rfl⟩
      rw [← hR] at hv
      have HR := Lib.hid (fun W (hW : w.grownBy W (some g)) => brises_any V a len cap es W (HZ.out W hW))
      rw [← hR] at HR
      rw [decide_eq_true h1, Bool.true_and] at hv
      have HV := Lib.hid hv
      have q1 : IntKind.i64.wrap (b : Int) = (b : Int) := IntWalk.i64_in _ (by omega)
      have k1 := hP.symm
      have hB4 := ((Below.refl w2.heap.size w2).alloc (Nat.le_refl _) (.cells #[.string P, .string o] 9))
      clear hP hPl hPs hmk hVL hVs hp hH hR hv HZ hs
      go_upto_region 7 with (go_at_call 80; (with_reducible refine (HJ.out _).mono ?_); rintro e w5 ⟨rfl, hb5⟩; have hB5 := hB4.trans (hb5.mono hB4.size))
      have HC5 := Lib.hid (show CurAt w5 g X2 false from CurAt.kept hc2.out hB5 (CurAt.lt hc2.out))
      have HG5 := Lib.hid (grownBy_trans hg2.out (grown_of_below (r := some g) hB5))
      have HR5 := Lib.hid (HR.out w5 HG5.out)
      clear hB4 hB5 HJ y1 y2 k1 HBad hc2 hg2 HR
      cases R with
      | false =>
        have HX := Lib.hid (show x = none by rw [HV.out]; simp)
        go_wp2_with (go_at_call 41; (with_reducible refine HR5.out.mono ?_); rintro e w6 ⟨rfl, rfl⟩)
        go_ret2
        exact key_no HX.out HC5.out hs2.out HG5.out
      | true =>
        by_cases e1 : H = b
        · have t1 : ((H : Int) == (b : Int)) = true := by rw [beq_iff_eq]; omega
          have HX := Lib.hid (show x = some (V, X2.data.toList) by rw [HV.out, decide_eq_true e1]; rfl)
          clear HV e1
          go_wp2_with (first
            | (go_at_call 41; (with_reducible refine HR5.out.mono ?_); rintro e w6 ⟨rfl, rfl⟩)
            | (go_at_call 43; (with_reducible refine (HSh.out _).mono ?_); rintro e w7 ⟨rfl, n7, rfl⟩))
          go_ret2
          exact key_yes HX.out (CurAt.kept HC5.out (drewN_below _ n7) (CurAt.lt HC5.out)) hs2.out (grownBy_trans HG5.out (grown_of_below (drewN_below _ n7)))
        · have t1 : ((H : Int) == (b : Int)) = false := by rw [beq_eq_false_iff_ne]; omega
          have HX := Lib.hid (show x = none by rw [HV.out, decide_eq_false e1]; rfl)
          clear HV e1
          go_wp2_with (first
            | (go_at_call 41; (with_reducible refine HR5.out.mono ?_); rintro e w6 ⟨rfl, rfl⟩)
            | (go_at_call 43; (with_reducible refine (HSh.out _).mono ?_); rintro e w7 ⟨rfl, n7, rfl⟩))
          go_ret2
          exact key_no HX.out (CurAt.kept HC5.out (drewN_below _ n7) (CurAt.lt HC5.out)) hs2.out (grownBy_trans HG5.out (grown_of_below (drewN_below _ n7)))
    · have hx := Lib.hid (show x = none by rw [hv, decide_eq_false h1]; rfl)
      have z1 : (L.size : Int) < (b : Int) := by omega
      clear hv h1
      go_wp2_with (go_at_call 50; (with_reducible refine HBad.out.mono ?_); rintro e w4 ⟨rfl, rfl⟩)
      go_ret2
      exact key_no hx.out hc2.out hs2.out hg2.out
end Go.Proofs.Ytplobffkelmokaa
