/-
  Joined: BlkPTake, BlkPEnt.
-/
import Derived.Test.YtdcefhhmddjodaaSet19
import Derived.Test.YtdcefhhmddjodaaSet28
namespace Go.Proofs.Ytdcefhhmddjodaa
open Go.RowKit
set_option linter.unusedVariables false
set_option linter.unnecessarySimpa false
set_option linter.unusedSimpArgs false
set_option maxRecDepth 100000

/-! What stays while a cursor is written. -/
theorem cur_cells {w : World} {g : Nat} {s : ByteArray} {bad : Bool} (h : CurAt w g s bad) {k : Nat} {v : Value} (hc : w.cell? ⟨g, k, none⟩ = some v) : v = .string s ∨ v = .bool bad := by
  rw [cell_of_row _ _ _ _ _ _ h] at hc
  match k, hc with
  | 0, hc => left; simpa using hc.symm
  | 1, hc => right; simpa using hc.symm
  | k + 2, hc => simp at hc
theorem vers_cur {w w' : World} {g : Nat} {s : ByteArray} {bad : Bool} {a : Option Addr} {len cap : Nat} {zs : List Vr} (h : IsVers w a len cap zs) (hc : CurAt w g s bad) (hg : w.grownBy w' (some g)) : IsVers w' a len cap zs := by
  refine ⟨⟨h.1.1, fun i hi => ?_⟩, h.2⟩
  obtain ⟨b, off, ha, hlt, h1, h2, h3, h4, h5⟩ := h.1.2 i hi
  have hne : b ≠ g := fun e => by
    subst e
    rcases cur_cells hc h3 with h | h <;> cases h
  have hb : w'.heap[b]? = w.heap[b]? := hg.block b hlt (fun e => hne (by injection e))
  have key : ∀ k, w'.cell? ⟨b, k, none⟩ = w.cell? ⟨b, k, none⟩ := fun k => by unfold World.cell?; rw [hb]
  exact ⟨b, off, ha, Nat.lt_of_lt_of_le hlt hg.size, h1, h2, (key _).trans h3, (key _).trans h4, (key _).trans h5⟩
theorem ents_cur {w w' : World} {g : Nat} {s : ByteArray} {bad : Bool} {a : Option Addr} {len cap : Nat} {es : List En} (h : IsEnts w a len cap es) (hc : CurAt w g s bad) (hg : w.grownBy w' (some g)) : IsEnts w' a len cap es := by
  refine ⟨⟨h.1.1, fun i hi => ?_⟩, h.2⟩
  obtain ⟨b, off, ha, hlt, h1, h2, ca, cl, cc, h3, h4⟩ := h.1.2 i hi
  have hne : b ≠ g := fun e => by
    subst e
    rcases cur_cells hc h3 with h | h <;> cases h
  have hb : w'.heap[b]? = w.heap[b]? := hg.block b hlt (fun e => hne (by injection e))
  have key : ∀ k, w'.cell? ⟨b, k, none⟩ = w.cell? ⟨b, k, none⟩ := fun k => by unfold World.cell?; rw [hb]
  exact ⟨b, off, ha, Nat.lt_of_lt_of_le hlt hg.size, h1, (key _).trans h2, ca, cl, cc, (key _).trans h3, vers_cur h4 hc hg⟩

/-! What the calls of a cursor tell. -/
theorem text_tells (X : ByteArray) : ∃ vs X2 b2, cText X false = (vs, X2, b2) ∧ X2.size ≤ X.size ∧ vs.size ≤ X.size ∧ (b2 = true → tkTxt X.data.toList = none) ∧ (b2 = false → tkTxt X.data.toList = some (vs.data.toList, X2.data.toList)) := by
  have hl := cT_len X false
  have eb : (⟨X.data.toList.toArray⟩ : ByteArray) = X := ba_ext (by simp)
  cases h : tkTxt X.data.toList with
  | none =>
    have := cT_txt_none h
    rw [eb] at this
    rw [this] at hl
    exact ⟨_, _, _, this, hl.1, hl.2, fun _ => rfl, fun h => (by cases h)⟩
  | some p =>
    obtain ⟨t, r⟩ := p
    have := cT_txt_some h
    rw [eb] at this
    rw [this] at hl
    exact ⟨_, _, _, this, hl.1, hl.2, fun h => (by cases h), fun _ => rfl⟩
structure KeyHead (es : List En) (l : List UInt8) (b : Nat) (o X1 X2 : ByteArray) (b1 b2 : Bool) : Prop where
  f1 : cUint ⟨l.toArray⟩ false = (b, X1, b1)
  f2 : cText X1 b1 = (o, X2, b2)
  blt : b < 18446744073709551616
  s1 : X1.size ≤ l.length
  s2 : X2.size ≤ l.length
  os : o.size ≤ l.length
  no : b2 = true → tkKey es l = none
  yes : b2 = false → tkKey es l = if keyOk es b o.data.toList = true then some (keyIs es b o.data.toList, X2.data.toList) else none
theorem keyHead_of (es : List En) (l : List UInt8) : ∃ b o X1 X2 b1 b2, KeyHead es l b o X1 X2 b1 b2 := by
  rcases f1 : cUint ⟨l.toArray⟩ false with ⟨b, X1, b1⟩
  rcases f2 : cText X1 b1 with ⟨o, X2, b2⟩
  have g1 := cU_len ⟨l.toArray⟩ false
  have g2 := cT_len X1 b1
  rw [f1, arr_size l] at g1
  rw [f2] at g2
  simp only at g1 g2
  refine ⟨b, o, X1, X2, b1, b2, ⟨by first | exact f1 | rfl, f2, g1.2, g1.1, by omega, by omega, ?_, ?_⟩⟩
  · rintro rfl
    unfold tkKey
    cases h1 : tk l with
    | none => rfl
    | some p =>
      obtain ⟨n, k⟩ := p
      simp only
      rw [uN_some h1] at f1
      cases f1
      cases h2 : tkTxt (l.drop k) with
      | none => rfl
      | some p =>
        obtain ⟨t, r⟩ := p
        rw [cT_txt_some h2] at f2
        cases f2
  · rintro rfl
    unfold tkKey
    cases h1 : tk l with
    | none =>
      rw [uN_none h1] at f1
      cases f1
      simp [cText] at f2
    | some p =>
      obtain ⟨n, k⟩ := p
      simp only
      rw [uN_some h1] at f1
      cases f1
      cases h2 : tkTxt (l.drop k) with
      | none => rw [cT_txt_none h2] at f2; cases f2
      | some p =>
        obtain ⟨t, r⟩ := p
        rw [cT_txt_some h2] at f2
        cases f2
        rfl

/-- What is told of a key. -/
def KeyOut (g n : Nat) (x : Option (ByteArray × List UInt8)) (w : World) (e : Ending) (w' : World) : Prop :=
  ∃ (s X : ByteArray) (ok bd : Bool), e = .returned (.tuple #[.string s, .bool ok]) ∧ CurAt w' g X bd ∧ X.size ≤ n ∧ w.grownBy w' (some g) ∧ ((ok = false ∧ x = none) ∨ (ok = true ∧ bd = false ∧ x = some (s, X.data.toList)))
theorem key_no {g n : Nat} {x : Option (ByteArray × List UInt8)} {w w' : World} {s X : ByteArray} {bd : Bool} (hx : x = none) (hc : CurAt w' g X bd) (hs : X.size ≤ n) (hg : w.grownBy w' (some g)) : KeyOut g n x w (.returned (.tuple #[.string s, .bool false])) w' :=
  ⟨s, X, false, bd, rfl, hc, hs, hg, .inl ⟨rfl, hx⟩⟩
theorem key_yes {g n : Nat} {x : Option (ByteArray × List UInt8)} {w w' : World} {s X : ByteArray} (hx : x = some (s, X.data.toList)) (hc : CurAt w' g X false) (hs : X.size ≤ n) (hg : w.grownBy w' (some g)) : KeyOut g n x w (.returned (.tuple #[.string s, .bool true])) w' :=
  ⟨s, X, true, false, rfl, hc, hs, hg, .inr ⟨rfl, rfl, hx⟩⟩

set_option maxHeartbeats 8000000 in
theorem takeKey_any (g : Nat) (a : Option Addr) (len cap : Nat) (es : List En) (l : List UInt8) (w : World) (hz : IsEnts w a len cap es) (hs : (lastS es).size ≤ 60000) (hl : l.length ≤ 60000) (hc : CurL w g l false) :
    Calls Try.prog 78 #[.pointer (some ⟨g, 0, none⟩), .slice a len cap] w (KeyOut g l.length (tkKey es l) w) := by
  obtain ⟨b, o, X1, X2, b1, b2, H⟩ := keyHead_of es l
  have hk1 := Lib.hid (cur_uint g ⟨l.toArray⟩ false w (by rw [arr_size]; unfold maxLen; omega) hc)
  have hk2 := Lib.hid (fun W hW => cur_text g X1 b1 W (by have := H.s1; unfold maxLen; omega) hW)
  rw [H.f1] at hk1
  rw [H.f2] at hk2
  have hb := H.blt
  have ho := H.os
  have hs2 := Lib.hid H.s2
  have hno := H.no
  have hyes := H.yes
  have HZ := Lib.hid (fun W (hW : w.grownBy W (some g)) => ents_cur hz hc hW)
  have HL := Lib.hid (fun W (hW : w.grownBy W (some g)) => blast_any a len cap es W (ents_cur hz hc hW))
  obtain ⟨x, hx⟩ : ∃ x, x = tkKey es l := ⟨_, rfl⟩
  obtain ⟨n, hn⟩ : ∃ n, n = l.length := ⟨_, rfl⟩
  rw [← hx] at hno hyes ⊢
  rw [← hn] at hs2 ho ⊢
  obtain ⟨L, hL⟩ : ∃ L, L = lastS es := ⟨_, rfl⟩
  obtain ⟨V, hV⟩ : ∃ V, V = keyIs es b o.data.toList := ⟨_, rfl⟩
  have hkV : keyOk es b o.data.toList = (decide (b ≤ L.size) && (risesS es V && decide (pre L.data.toList V.data.toList = b))) := by rw [hV, hL]; rfl
  rw [hkV, ← hV] at hyes
  have hVL := Lib.hid (show V = ⟨(L.data.toList.take b ++ o.data.toList).toArray⟩ by rw [hV, hL]; rfl)
  rw [← hL] at HL hs
  have hLz : (L.size : Int) % 18446744073709551616 = L.size := by omega
  have hn6 : n ≤ 60000 := by omega
  clear H hx hc hz hn hl hL hV hkV
  go_enter Try.func78, Try.ntmps78
  go_upto_region 4 with (first
    | (go_at_call 56; (with_reducible refine hk1.out.mono ?_); rintro e w1 ⟨rfl, hc1, hg1⟩; have hc1 := Lib.hid hc1; have hg1 := Lib.hid hg1)
    | (go_at_call 79; (with_reducible refine (hk2.out _ hc1.out).mono ?_); rintro e w2 ⟨rfl, hc2, hg2⟩; have hc2 := Lib.hid hc2; have hg2 := Lib.hid (grownBy_trans hg1.out hg2))
    | (go_at_call 85; (with_reducible refine (HL.out _ hg2.out).mono ?_); rintro e w3 ⟨rfl, rfl⟩))
  have HBad := Lib.hid (bad_any g X2 b2 w2 hc2.out)
  clear hk1 hk2 hc1 hg1 HL
  cases b2 with
  | true =>
    have hx := Lib.hid (hno rfl)
    clear hno hyes
    go_wp2_with (go_at_call 57; (with_reducible refine HBad.out.mono ?_); rintro e w4 ⟨rfl, rfl⟩)
    go_ret2
    exact key_no hx.out hc2.out hs2.out hg2.out
  | false =>
    have hv := hyes rfl
    clear hno hyes
    by_cases h1 : b ≤ L.size
    · have z1 : ¬ (L.size : Int) < (b : Int) := by omega
      go_upto_region 6 with (go_at_call 57; (with_reducible refine HBad.out.mono ?_); rintro e w4 ⟨rfl, rfl⟩)
      clear z1 hLz
      have y1 : (0 : Int) ≤ (b : Int) := by omega
      have y2 : (b : Int) ≤ (L.size : Int) := by omega
      obtain ⟨P, hP⟩ : ∃ P, P = L.extract 0 b := ⟨_, rfl⟩
      have hPl : P.data.toList = L.data.toList.take b := by rw [hP, ext_list, List.drop_zero, Nat.sub_zero]
      have hPs : P.size ≤ 60000 := by rw [hP, ByteArray.size_extract]; omega
      have hmk : Lib.join ([P, o].map (·.data.toList)) (⟨#[]⟩ : ByteArray).data.toList = L.data.toList.take b ++ o.data.toList := by
        simp only [List.map_cons, List.map_nil, Lib.join_cons, Lib.joinTail, hPl]
        simp
      have hVs : V.size ≤ 120000 := by rw [hVL.out, arr_size, List.length_append, ← hPl, c_size, c_size]; omega
      have HJ := Lib.hid (show ∀ W : World, Calls Try.prog 94 #[.slice (some ⟨W.heap.size, 0, none⟩) 2 2, .string ⟨#[]⟩] (W.alloc (.cells #[.string P, .string o] 9)) fun e w' => e = .returned (.string V) ∧ Below (W.alloc (.cells #[.string P, .string o] 9)).heap.size (W.alloc (.cells #[.string P, .string o] 9)) w' from fun W => by
        have := Try.strings_Join W.heap.size 0 2 [P, o] ⟨#[]⟩ (W.alloc (.cells #[.string P, .string o] 9)) (fun j x hj => by
          rw [cell_of_row _ _ _ _ _ _ (heap_alloc_new W _)]
          match j, hj with
          | 0, hj => simpa using hj
          | 1, hj => simpa using hj
          | j + 2, hj => simp at hj) (by simp) (by simp) (Nat.le_refl _) (by rw [hmk, List.length_append, ← hPl, c_size, c_size]; omega)
        rw [hmk, ← hVL.out] at this
        exact this)
      have hp := pre_le L.data.toList V.data.toList
      rw [c_size, c_size] at hp
      have HSh := Lib.hid (fun W => bshared_any V L (by omega) (by omega) W)
      obtain ⟨H, hH⟩ : ∃ H, H = pre L.data.toList V.data.toList := ⟨_, rfl⟩
      rw [← hH] at HSh hv hp
      obtain ⟨R, hR⟩ : ∃ R, R = risesS es V := ⟨_, rfl⟩
      rw [← hR] at hv
      have HR := Lib.hid (fun W (hW : w.grownBy W (some g)) => brises_any V a len cap es W (HZ.out W hW))
      rw [← hR] at HR
      rw [decide_eq_true h1, Bool.true_and] at hv
      have HV := Lib.hid hv
      have q1 : IntKind.i64.wrap (b : Int) = (b : Int) := IntWalk.i64_in _ (by omega)
      have k1 := hP.symm
      have hB4 := ((Below.refl w2.heap.size w2).alloc (Nat.le_refl _) (.cells #[.string P, .string o] 9))
      clear hP hPl hPs hmk hVL hVs hp hH hR hv HZ hs
      go_upto_region 7 with (go_at_call 94; (with_reducible refine (HJ.out _).mono ?_); rintro e w5 ⟨rfl, hb5⟩; have hB5 := hB4.trans (hb5.mono hB4.size))
      have HC5 := Lib.hid (show CurAt w5 g X2 false from CurAt.kept hc2.out hB5 (CurAt.lt hc2.out))
      have HG5 := Lib.hid (grownBy_trans hg2.out (grown_of_below (r := some g) hB5))
      have HR5 := Lib.hid (HR.out w5 HG5.out)
      clear hB4 hB5 HJ y1 y2 k1 HBad hc2 hg2 HR
      cases R with
      | false =>
        have HX := Lib.hid (show x = none by rw [HV.out]; simp)
        go_wp2_with (go_at_call 82; (with_reducible refine HR5.out.mono ?_); rintro e w6 ⟨rfl, rfl⟩)
        go_ret2
        exact key_no HX.out HC5.out hs2.out HG5.out
      | true =>
        by_cases e1 : H = b
        · have t1 : ((H : Int) == (b : Int)) = true := by rw [beq_iff_eq]; omega
          have HX := Lib.hid (show x = some (V, X2.data.toList) by rw [HV.out, decide_eq_true e1]; rfl)
          clear HV e1
          go_wp2_with (first
            | (go_at_call 82; (with_reducible refine HR5.out.mono ?_); rintro e w6 ⟨rfl, rfl⟩)
            | (go_at_call 84; (with_reducible refine (HSh.out _).mono ?_); rintro e w7 ⟨rfl, n7, rfl⟩))
          go_ret2
          exact key_yes HX.out (CurAt.kept HC5.out (drewN_below _ n7) (CurAt.lt HC5.out)) hs2.out (grownBy_trans HG5.out (grown_of_below (drewN_below _ n7)))
        · have t1 : ((H : Int) == (b : Int)) = false := by rw [beq_eq_false_iff_ne]; omega
          have HX := Lib.hid (show x = none by rw [HV.out, decide_eq_false e1]; rfl)
          clear HV e1
          go_wp2_with (first
            | (go_at_call 82; (with_reducible refine HR5.out.mono ?_); rintro e w6 ⟨rfl, rfl⟩)
            | (go_at_call 84; (with_reducible refine (HSh.out _).mono ?_); rintro e w7 ⟨rfl, n7, rfl⟩))
          go_ret2
          exact key_no HX.out (CurAt.kept HC5.out (drewN_below _ n7) (CurAt.lt HC5.out)) hs2.out (grownBy_trans HG5.out (grown_of_below (drewN_below _ n7)))
    · have hx := Lib.hid (show x = none by rw [hv, decide_eq_false h1]; rfl)
      have z1 : (L.size : Int) < (b : Int) := by omega
      clear hv h1
      go_wp2_with (go_at_call 57; (with_reducible refine HBad.out.mono ?_); rintro e w4 ⟨rfl, rfl⟩)
      go_ret2
      exact key_no hx.out hc2.out hs2.out hg2.out
end Go.Proofs.Ytdcefhhmddjodaa

namespace Go.Proofs.Ytdcefhhmddjodaa
open Go.RowKit
set_option linter.unusedVariables false
set_option linter.unnecessarySimpa false
set_option linter.unusedSimpArgs false
set_option maxRecDepth 100000

theorem tkEnt_no1 {es : List En} {l : List UInt8} (h : tkKey es l = none) : tkEnt es l = none := by unfold tkEnt; rw [h]
theorem tkEnt_no2 {es : List En} {l r : List UInt8} {key : ByteArray} (h : tkKey es l = some (key, r)) (h2 : tkTxt r = none) : tkEnt es l = none := by unfold tkEnt; rw [h]; simp only; rw [h2]
theorem tkEnt_dec {es : List En} {l r vs r2 : List UInt8} {key : ByteArray} (h : tkKey es l = some (key, r)) (h2 : tkTxt r = some (vs, r2)) : tkEnt es l = match decB vs with
      | .form => none
      | .long => some (⟨key, []⟩, true, r2)
      | .all [] _ => none
      | .all (z :: zs) _ => some (⟨key, z :: zs⟩, false, r2) := by unfold tkEnt; rw [h]; simp only; rw [h2]; rfl

/-- What is told of an entry. -/
def EntOut (g n : Nat) (x : Option (En × Bool × List UInt8)) (w : World) (e : Ending) (w' : World) : Prop :=
  ∃ (s : ByteArray) (a : Option Addr) (m c : Nat) (k : Int), e = .returned (.tuple #[.agg #[.string s, .slice a m c], .int .i64 k]) ∧ w.grownBy w' (some g) ∧
    ((k = 2 ∧ x = none) ∨ ∃ (ch : List Vr) (lg : Bool) (X : ByteArray), ((lg = true ∧ k = 3) ∨ (lg = false ∧ k = 0)) ∧ x = some (⟨s, ch⟩, lg, X.data.toList) ∧ CurAt w' g X false ∧ X.size ≤ n ∧ IsVers w' a m c ch ∧ w'.ownsRow w.heap.size 35 3 (.slice a m c) m (versC ch))
theorem entSize : (Try.prog.info? 73).map (·.size) = some 2 := by kernel_rfl
theorem ent_ret {w : World} {g : Nat} {cs : Array Value} {tmps : Array Value} {k : Int} (h : w.heap[g]? = some (.cells cs 73 (0, 0))) (hcs : (Try.prog.info? 73).map (·.size) = some cs.size)
    (hp : tmps.getD 4 undef = .pointer (some ⟨g, 0, none⟩)) (hv : tmps.getD 5 undef = .int .i64 k) : (results Try.f60 tmps).run Try.prog w = .ok (.tuple #[.agg cs, .int .i64 k]) w :=
  results_row_tmpV rfl tmps w g 73 cs (0, 0) _ _ hp h Try.underlying73 rfl hcs hv
theorem ent_no {g n P : Nat} {x : Option (En × Bool × List UInt8)} {w w' : World} {s : ByteArray} {a : Option Addr} {m c : Nat} (hx : x = none) (hg : w.grownBy w' (some g)) (hP : w.heap.size ≤ P) {cs : Array Value} :
    EntOut g n x w (.returned (.tuple #[.agg #[.string s, .slice a m c], .int .i64 2])) (w'.setRow P cs) :=
  ⟨s, a, m, c, 2, rfl, grown_over hg grown_setRow hP, .inl ⟨rfl, hx⟩⟩
theorem vers_setRow {w : World} {P : Nat} {x y : Value} {t : TypeId} (hr : w.heap[P]? = some (.cells #[x, y] t (0, 0))) (hx : ∀ n, x ≠ .int .u64 n) (hy : ∀ n, y ≠ .int .u64 n) {cs : Array Value} {a : Option Addr} {len cap : Nat} {zs : List Vr} (h : IsVers w a len cap zs) : IsVers (w.setRow P cs) a len cap zs := by
  refine ⟨⟨h.1.1, fun i hi => ?_⟩, h.2⟩
  obtain ⟨b, off, ha, hlt, h1, h2, h3, h4, h5⟩ := h.1.2 i hi
  have hne : b ≠ P := fun e => by
    subst e
    rw [cell_of_row _ _ _ _ _ _ hr] at h3
    generalize off + i * 3 = k at h3
    match k, h3 with
    | 0, h3 => exact hx _ (by simpa using h3)
    | 1, h3 => exact hy _ (by simpa using h3)
    | k + 2, h3 => simp at h3
  have hb : (w.setRow P cs).heap[b]? = w.heap[b]? := setRow_other w P b cs hne
  have key : ∀ k, (w.setRow P cs).cell? ⟨b, k, none⟩ = w.cell? ⟨b, k, none⟩ := fun k => by unfold World.cell?; rw [hb]
  exact ⟨b, off, ha, by simpa using hlt, h1, h2, (key _).trans h3, (key _).trans h4, (key _).trans h5⟩
theorem ent_yes {g n P : Nat} {x : Option (En × Bool × List UInt8)} {w w' : World} {s X : ByteArray} {a : Option Addr} {m c : Nat} {ch : List Vr} {lg : Bool} {k : Int} {y z : Value} {t : TypeId} (hk : (lg = true ∧ k = 3) ∨ (lg = false ∧ k = 0)) (hx : x = some (⟨s, ch⟩, lg, X.data.toList)) (hc : CurAt w' g X false) (hs : X.size ≤ n) (hv : IsVers w' a m c ch)
    (hf : w'.ownsRow (w.heap.size + 1) 35 3 (.slice a m c) m (versC ch)) (hPe : P = w.heap.size) (hg : w.grownBy w' (some g)) (hP : w.heap.size ≤ P) (hgP : g < P) (hr : w'.heap[P]? = some (.cells #[y, z] t (0, 0))) (hy : ∀ n, y ≠ .int .u64 n) (hz : ∀ n, z ≠ .int .u64 n) {cs : Array Value} :
    EntOut g n x w (.returned (.tuple #[.agg #[.string s, .slice a m c], .int .i64 k])) (w'.setRow P cs) :=
  ⟨s, a, m, c, k, rfl, grown_over hg grown_setRow hP, .inr ⟨ch, lg, X, hk, hx, cur_setRow hc hgP, hs, vers_setRow hr hy hz hv, own_lower (own_grown hf (grown_setRow (g := P)) (by omega)) (Nat.le_succ _)⟩⟩

set_option maxHeartbeats 8000000 in
theorem takeEntry_any (g : Nat) (a : Option Addr) (len cap : Nat) (es : List En) (l : List UInt8) (w : World) (hz : IsEnts w a len cap es) (hs : (lastS es).size ≤ 60000) (hl : l.length ≤ 60000) (hc : CurL w g l false) :
    Calls Try.prog 60 #[.pointer (some ⟨g, 0, none⟩), .slice a len cap] w (EntOut g l.length (tkEnt es l) w) := by
  have hgl := CurL.lt hc
  obtain ⟨P, hP⟩ : ∃ P, P = w.heap.size := ⟨_, rfl⟩
  obtain ⟨w1, hw1⟩ : ∃ w1, w1 = w.alloc (.cells #[.string ⟨#[]⟩, .slice none 0 0] 73) := ⟨_, rfl⟩
  have r1 : w1.heap[P]? = some (.cells #[.string ⟨#[]⟩, .slice none 0 0] 73 (0, 0)) := by rw [hw1, hP]; exact heap_alloc_new w _
  have hbel : Below w.heap.size w w1 := by rw [hw1]; exact (Below.refl _ _).alloc (Nat.le_refl _) _
  have hgP : g < P := by rw [hP]; exact hgl
  have hPw : w.heap.size ≤ P := by omega
  have hw1z := Lib.hid (show w1.heap.size = w.heap.size + 1 by rw [hw1]; simp)
  have hPz := Lib.hid hP
  have HK := Lib.hid (takeKey_any g a len cap es l w1 (hz.below hbel) hs hl (CurAt.kept hc hbel hgl))
  have R1 := Lib.hid (fun W (h : w1.grownBy W (some g)) => (h.block P (Array.getElem?_eq_some_iff.1 r1).1 (fun e => by injection e with e; omega)).trans r1)
  have G1 := Lib.hid (grown_of_below (r := some g) hbel)
  have HN1 := Lib.hid (tkEnt_no1 (es := es) (l := l))
  have HN2 := Lib.hid (fun key r => tkEnt_no2 (es := es) (l := l) (key := key) (r := r))
  have HDc := Lib.hid (fun key r vs r2 => tkEnt_dec (es := es) (l := l) (key := key) (r := r) (vs := vs) (r2 := r2))
  obtain ⟨x, hx⟩ : ∃ x, x = tkEnt es l := ⟨_, rfl⟩
  obtain ⟨kx, hkx⟩ : ∃ kx, kx = tkKey es l := ⟨_, rfl⟩
  obtain ⟨n, hn⟩ : ∃ n, n = l.length := ⟨_, rfl⟩
  rw [← hx] at HN1 HN2 HDc ⊢
  rw [← hkx] at HN1 HN2 HDc HK
  rw [← hn] at HK hl ⊢
  clear hz hc hgl r1 hbel hx hkx hn hs
  go_enter Try.func60, Try.ntmps60
  go_upto_region 1 with fail
  rw [← hw1, ← hP]
  clear hw1 hP
  go_upto_region 2 with (go_at_call 78; (with_reducible refine HK.out.mono ?_); intro e w4 h4; obtain ⟨s, X, ok, bd, rfl, hc4, hX4, hg4, hor⟩ := h4; have HC4 := Lib.hid hc4; have HG4 := Lib.hid hg4; have HOR := Lib.hid hor; clear hc4 hg4 hor)
  have hk2 := Lib.hid (cur_text g X bd w4 (by unfold maxLen; omega) HC4.out)
  clear HK
  rcases HOR.out with ⟨rfl, hkn⟩ | ⟨rfl, rfl, hks⟩
  · have HX := Lib.hid (HN1.out hkn)
    obtain ⟨vs, X2, b2, f2⟩ : ∃ vs X2 b2, cText X bd = (vs, X2, b2) := ⟨_, _, _, rfl⟩
    rw [f2] at hk2
    clear HOR hkn HN1 HN2 HDc f2
    go_upto_region 3 with (go_at_call 79; (with_reducible refine hk2.out.mono ?_); rintro e w5 ⟨rfl, hc5, hg5⟩)
    have HG5 := Lib.hid (grownBy_trans HG4.out hg5)
    have RR := Lib.hid (R1.out _ HG5.out)
    have HGW := Lib.hid (grownBy_trans G1.out HG5.out)
    clear hc5 hg5 hk2 R1 G1
    go_wp2_with (refine wpList_store_row rfl 73 _ _ rfl P #[.string ⟨#[]⟩, .slice none 0 0] rfl rfl 73 #[.string ⟨#[]⟩, .slice none 0 0] RR.out entSize rfl (by simp [Value.oneCell']) ?_)
    exact bodyPost_ret (ent_ret (setRow_heap _ _ _ _ _ _ RR.out) entSize rfl rfl) rfl (ent_no HX.out HGW.out hPw)
  · obtain ⟨vs, X2, b2, f2, hX2, hvs, hTn, hTy⟩ := text_tells X
    rw [f2] at hk2
    cases b2 with
    | true =>
      have HX := Lib.hid (HN2.out _ _ hks (hTn rfl))
      clear HOR hks HN1 HN2 HDc f2 hTn hTy
      go_upto_region 3 with (go_at_call 79; (with_reducible refine hk2.out.mono ?_); rintro e w5 ⟨rfl, hc5, hg5⟩)
      have HG5 := Lib.hid (grownBy_trans HG4.out hg5)
      have RR := Lib.hid (R1.out _ HG5.out)
      have HGW := Lib.hid (grownBy_trans G1.out HG5.out)
      have HBad := Lib.hid (bad_any g X2 true w5 hc5)
      clear hc5 hg5 hk2 R1 G1
      go_wp2_with (first
        | (go_at_call 57; (with_reducible refine HBad.out.mono ?_); rintro e w6 ⟨rfl, rfl⟩)
        | (refine wpList_store_row rfl 73 _ _ rfl P #[.string ⟨#[]⟩, .slice none 0 0] rfl rfl 73 #[.string ⟨#[]⟩, .slice none 0 0] RR.out entSize rfl (by simp [Value.oneCell']) ?_))
      exact bodyPost_ret (ent_ret (setRow_heap _ _ _ _ _ _ RR.out) entSize rfl rfl) rfl (ent_no HX.out HGW.out hPw)
    | false =>
      have hxd := HDc.out _ _ _ _ hks (hTy rfl)
      have HD := Lib.hid (fun W => decode_any vs (by omega) W)
      obtain ⟨F, hF⟩ : ∃ F, F = decB vs.data.toList := ⟨_, rfl⟩
      rw [← hF] at hxd HD
      have HXD := Lib.hid hxd
      have hX2n : X2.size ≤ n := by omega
      clear HOR hks HN1 HN2 HDc f2 hTn hTy hF hxd
      go_upto_region 3 with (go_at_call 79; (with_reducible refine hk2.out.mono ?_); rintro e w5 ⟨rfl, hc5, hg5⟩)
      have HG5 := Lib.hid (grownBy_trans HG4.out hg5)
      have HBad := Lib.hid (bad_any g X2 false w5 hc5)
      have HC5 := Lib.hid hc5
      clear hc5 hg5 hk2
      have HVO := Lib.hid (show ∀ e w', DecEnd F w5 e w' → ∃ (a7 : Option Addr) (m7 c7 : Nat) (k7 : Int), e = .returned (.tuple #[.slice a7 m7 c7, .int .i64 k7]) ∧ Hid (Below w5.heap.size w5 w') ∧
          ((k7 = 2 ∧ Hid (x = none)) ∨ (k7 = 3 ∧ Hid (x = some (⟨s, []⟩, true, X2.data.toList) ∧ IsVers w' a7 m7 c7 [] ∧ w'.ownsRow w5.heap.size 35 3 (.slice a7 m7 c7) m7 (versC []))) ∨ (k7 = 0 ∧ m7 = 0 ∧ Hid (x = none)) ∨ (k7 = 0 ∧ 0 < m7 ∧ ∃ ch, Hid (x = some (⟨s, ch⟩, false, X2.data.toList) ∧ IsVers w' a7 m7 c7 ch ∧ w'.ownsRow w5.heap.size 35 3 (.slice a7 m7 c7) m7 (versC ch)))) from fun e w' h => by
        have hx := HXD.out
        cases F with
        | form =>
          obtain ⟨a7, c7, rfl, hv, hb, hf⟩ := h
          exact ⟨a7, _, c7, 2, rfl, Lib.hid hb, .inl ⟨rfl, Lib.hid hx⟩⟩
        | long =>
          obtain ⟨a7, c7, rfl, hv, hb, hf⟩ := h
          exact ⟨a7, _, c7, 3, rfl, Lib.hid hb, .inr (.inl ⟨rfl, Lib.hid ⟨hx, hv, hf⟩⟩)⟩
        | all zs q =>
          obtain ⟨a7, c7, rfl, hv, hb, hf⟩ := h
          cases zs with
          | nil => exact ⟨a7, _, c7, 0, rfl, Lib.hid hb, .inr (.inr (.inl ⟨rfl, rfl, Lib.hid hx⟩))⟩
          | cons z zs => exact ⟨a7, _, c7, 0, rfl, Lib.hid hb, .inr (.inr (.inr ⟨rfl, by simp, _, Lib.hid ⟨hx, hv, hf⟩⟩))⟩)
      go_upto_region 6 with (first
        | (go_at_call 57; (with_reducible refine HBad.out.mono ?_); rintro e w6 ⟨rfl, rfl⟩)
        | (go_at_call 80; (with_reducible refine (HD.out _).mono ?_); intro e w7 h7; obtain ⟨a7, m7, c7, k7, rfl, hb7, hor7⟩ := HVO.out e w7 h7; clear h7))
      have HG7 := Lib.hid (grownBy_trans HG5.out (grown_of_below (r := some g) hb7.out))
      have RR := Lib.hid (R1.out _ HG7.out)
      have HGW := Lib.hid (grownBy_trans G1.out HG7.out)
      have HC7 := Lib.hid (CurAt.kept HC5.out hb7.out (CurAt.lt HC5.out))
      have HF7 := Lib.hid (show w.heap.size + 1 ≤ w5.heap.size from by
        have h2 := HG5.out.size
        rw [← hw1z.out]
        exact h2)
      clear HD HVO R1 G1 HBad
      rcases hor7 with ⟨rfl, HX⟩ | ⟨rfl, HX⟩ | ⟨rfl, rfl, HX⟩ | ⟨rfl, hm0, ch, HX⟩
      · go_wp2_with (refine wpList_store_row rfl 73 _ _ rfl P #[.string s, .slice a7 m7 c7] rfl rfl 73 #[.string ⟨#[]⟩, .slice none 0 0] RR.out entSize rfl (by simp [Value.oneCell']) ?_)
        exact bodyPost_ret (ent_ret (setRow_heap _ _ _ _ _ _ RR.out) entSize rfl rfl) rfl (ent_no HX.out HGW.out hPw)
      · go_wp2_with (refine wpList_store_row rfl 73 _ _ rfl P #[.string s, .slice a7 m7 c7] rfl rfl 73 #[.string ⟨#[]⟩, .slice none 0 0] RR.out entSize rfl (by simp [Value.oneCell']) ?_)
        exact bodyPost_ret (ent_ret (setRow_heap _ _ _ _ _ _ RR.out) entSize rfl rfl) rfl (ent_yes (.inl ⟨rfl, rfl⟩) HX.out.1 HC7.out hX2n HX.out.2.1 (own_lower HX.out.2.2 HF7.out) hPz.out HGW.out hPw hgP RR.out (fun _ h => by cases h) (fun _ h => by cases h))
      · go_wp2_with (refine wpList_store_row rfl 73 _ _ rfl P #[.string ⟨#[]⟩, .slice none 0 0] rfl rfl 73 #[.string ⟨#[]⟩, .slice none 0 0] RR.out entSize rfl (by simp [Value.oneCell']) ?_)
        exact bodyPost_ret (ent_ret (setRow_heap _ _ _ _ _ _ RR.out) entSize rfl rfl) rfl (ent_no HX.out HGW.out hPw)
      · have hmz : ((m7 : Int) == 0) = false := by rw [beq_eq_false_iff_ne]; omega
        go_wp2_with (refine wpList_store_row rfl 73 _ _ rfl P #[.string s, .slice a7 m7 c7] rfl rfl 73 #[.string ⟨#[]⟩, .slice none 0 0] RR.out entSize rfl (by simp [Value.oneCell']) ?_)
        exact bodyPost_ret (ent_ret (setRow_heap _ _ _ _ _ _ RR.out) entSize rfl rfl) rfl (ent_yes (.inr ⟨rfl, rfl⟩) HX.out.1 HC7.out hX2n HX.out.2.1 (own_lower HX.out.2.2 HF7.out) hPz.out HGW.out hPw hgP RR.out (fun _ h => by cases h) (fun _ h => by cases h))
end Go.Proofs.Ytdcefhhmddjodaa
