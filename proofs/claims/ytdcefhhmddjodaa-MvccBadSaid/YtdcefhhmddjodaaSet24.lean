/-
  Joined: LzPartsOf, LzCopy.
-/
import Derived.Test.YtdcefhhmddjodaaSet23
import Derived.Test.YtdcefhhmddjodaaSet12
import Derived.Test.YtdcefhhmddjodaaSet04
import Derived.Test.YtdcefhhmddjodaaSet22
namespace Go.Proofs.Ytdcefhhmddjodaa
open Go.RowKit Go.Maps
set_option linter.unusedVariables false
set_option linter.unnecessarySimpa false
set_option linter.unusedSimpArgs false
set_option maxRecDepth 100000

theorem zero_int (w : World) : (zeroValue 3).run Try.prog w = .ok (.int .i64 0) w := by kernel_rfl
/-- 'v, ok := m[k]' where it is known what stands there. -/
theorem wpList_lookup_known {P : Program} (w : World) {ops : Array Oper} {rest : List Oper} {o : Oper} {a : Act} {Q : Exit → Act → World → Prop} (hg : o.guard = none) (m x : Operand) (t : TypeId) (hop : o.op = Op.lookup t m x true)
    (k e : TypeId) (q : IntKind) (K : Keyed P k) (ht : P.underlying t = some (.map k e)) (he : P.underlying e = some (.int q)) (hz : (zeroValue e).run P w = .ok (.int q 0) w) (b n : Nat) (D : DataW Unit)
    (hm : a.eval m = .map (some b)) (hown : w.ownsMap P k (plainElem P e) b n D) (key : Value) (kl : Lit) (hx : a.eval x = key) (hkey : keyOf P k key = some kl)
    (c : Int) (ok : Bool) (hc : D.atKey kl (.lit (.int q 0)) = .lit (.int q c)) (hh : Maps.has D kl = ok) (h : wpList P ops Q rest (a.put o.dst (.tuple #[.int q c, .bool ok])) w) :
    wpList P ops Q (o :: rest) a w :=
  wpList_lookup_own_ok_int w hg m x t hop k e q K ht he hz b n D hm hown key kl hx hkey (fun c' hc' _ => by
    rw [hc] at hc'
    simp only [DataW.lit.injEq, Lit.int.injEq, true_and] at hc'
    subst hc'
    subst hh
    exact h)

theorem Kept.into {B B0 M : Nat} {w w' : World} (h : Kept B M w w') (h1 : B0 ≤ M) (h2 : B0 ≤ B) : Below B0 w w' := ⟨h.os, h.tape, h.output, h.size, fun k hk => h.block k (by omega) (by omega)⟩
theorem own_kept {w w' : World} {B M e size n : Nat} {v : Value} {xs : List Value} (h : w.ownsRow B e size v n xs) (hM : M < B) (hk : Kept w.heap.size M w w') : w'.ownsRow B e size v n xs := by
  refine ⟨h.1, ?_⟩
  rcases h.2 with h2 | ⟨g, cap, cur, hv, hB, hg, h3⟩
  · exact .inl h2
  · exact .inr ⟨g, cap, cur, hv, hB, by rw [hk.block g (Array.getElem?_eq_some_iff.1 hg).1 (by omega)]; exact hg, h3⟩

theorem same_bytes {s : ByteArray} {a b m : Nat} (h : Same s a b m) : ∀ i, i < m → s.data.toList.getD (a + i) 0 = s.data.toList.getD (b + i) 0 := h.2.1
theorem same_four {s : ByteArray} {a b m : Nat} (h : Same s a b m) (h4 : fours s a = fours s b) (hb : b + 4 ≤ s.size) : 4 ≤ m := by
  simp only [fours, Prod.mk.injEq] at h4
  obtain ⟨e0, e1, e2, e3⟩ := h4
  by_cases hm : 4 ≤ m
  · exact hm
  · have hn := h.2.2 (by omega)
    have : m = 0 ∨ m = 1 ∨ m = 2 ∨ m = 3 := by omega
    rcases this with rfl | rfl | rfl | rfl
    · exact absurd e0 hn
    · exact absurd e1 hn
    · exact absurd e2 hn
    · exact absurd e3 hn

/-- A text's bytes under one name. -/
theorem text_of (s : ByteArray) (i j : Nat) (hs : s.size ≤ 60000) (hij : i ≤ j) (hj : j ≤ s.size) : ∃ T : ByteArray, T.data.toList = ub (j - i) ++ (s.data.toList.drop i).take (j - i) ∧ T.size ≤ 70000 ∧
    ∀ W, Calls Try.prog 86 #[.string (s.extract i j)] W fun e w' => e = .returned (.string T) ∧ Below W.heap.size W w' := by
  have hz : (s.extract i j).size = j - i := by simp; omega
  refine ⟨⟨(ub (s.extract i j).size).toArray⟩ ++ s.extract i j, ?_, ?_, fun W => text_any _ (by omega) W⟩
  · rw [hz]
    rw [ByteArray.data_append, Array.toList_append, List.toList_toArray, Lib.extract_data]
  · rw [ByteArray.size_append, arr_size, hz]
    have := ub_len10 (n := j - i) (by omega)
    omega

theorem pass_cast (M : Nat) (s : ByteArray) (a m : Nat) (hb : a + m ≤ 100000) (hs : s.size ≤ 100000) (D : DataW Unit) (w : World) (hM : MapAt w M a D) (hD : MapOK D s a) :
    Calls Try.prog 90 #[.map (some M), .string s, .int .i64 a, .int .i64 ((a : Int) + (m : Int))] w fun e w' => e = .returned (.tuple #[]) ∧ ∃ D', Hid (MapAt w' M (a + m) D') ∧ Hid (MapOK D' s (a + m)) ∧ Kept w.heap.size M w w' := by
  have h := pass_any M s a (a + m) (by omega) hb hs D w hM hD
  rw [show ((a + m : Nat) : Int) = (a : Int) + (m : Int) by omega] at h
  exact h

/-- A copy's bytes under one name. -/
theorem copy_of (k f m : Nat) (hf : f < k) (hk : k ≤ 100000) (hm : m ≤ 100000) : ∃ C : ByteArray, C.data.toList = ub (k - f) ++ ub m ∧ C.size ≤ 20 ∧
    ∀ W, Calls Try.prog 89 #[.int .i64 ((k : Int) - (f : Int)), .int .i64 m] W fun e w' => e = .returned (.string C) ∧ Below W.heap.size W w' := by
  refine ⟨⟨(ub (k - f) ++ ub m).toArray⟩, rfl, ?_, fun W => ?_⟩
  · rw [arr_size, List.length_append]
    have := ub_len10 (n := k - f) (by omega)
    have := ub_len10 (n := m) (by omega)
    omega
  · rw [show (k : Int) - (f : Int) = ((k - f : Nat) : Int) by omega]
    exact copyOf_any _ _ (by omega) hm W

/-! Which parts: those that are come to step by step, and no others. -/
structure PSt where
  k : Nat
  own : Nat
  P : List UInt8
def txtP (s : ByteArray) (own k : Nat) : List UInt8 := ub (k - own) ++ (s.data.toList.drop own).take (k - own)
inductive PStep (s : ByteArray) : PSt → PSt → Prop where
  | copy (k own : Nat) (P : List UInt8) (f m : Nat) (h1 : k + 4 ≤ s.size) (h2 : lastAt s (fours s k) k = some f) (h3 : Same s f k m) : PStep s ⟨k, own, P⟩ ⟨k + m, k + m, P ++ txtP s own k ++ (ub (k - f) ++ ub m)⟩
  | next (k own : Nat) (P : List UInt8) (h1 : k + 4 ≤ s.size) (h2 : lastAt s (fours s k) k = none) : PStep s ⟨k, own, P⟩ ⟨k + 1, own, P⟩
inductive PStar (s : ByteArray) : PSt → PSt → Prop where
  | refl (a : PSt) : PStar s a a
  | head {a b c : PSt} (h : PStep s a b) (g : PStar s b c) : PStar s a c
theorem same_unique {s : ByteArray} {a b m n : Nat} (h : Same s a b m) (g : Same s a b n) : m = n := by
  rcases Nat.lt_trichotomy m n with h1 | h1 | h1
  · exact absurd (g.2.1 m h1) (h.2.2 (by have := g.1; omega))
  · exact h1
  · exact absurd (h.2.1 n h1) (g.2.2 (by have := h.1; omega))
theorem pstep_one {s : ByteArray} {a b c : PSt} (h : PStep s a b) (g : PStep s a c) : b = c := by
  cases h with
  | copy k own P f m h1 h2 h3 =>
    cases g with
    | copy _ _ _ f' m' g1 g2 g3 =>
      rw [h2] at g2
      injection g2 with g2
      subst g2
      have := same_unique h3 g3
      subst this
      rfl
    | next _ _ _ g1 g2 => rw [h2] at g2; cases g2
  | next k own P h1 h2 =>
    cases g with
    | copy _ _ _ f' m' g1 g2 g3 => rw [h2] at g2; cases g2
    | next _ _ _ g1 g2 => rfl
theorem PStar.snoc {s : ByteArray} {a b c : PSt} (h : PStar s a b) (g : PStep s b c) : PStar s a c := by
  induction h with
  | refl => exact .head g (.refl _)
  | head h1 _ ih => exact .head h1 (ih g)
theorem pstar_end {s : ByteArray} {a b c : PSt} (h : PStar s a b) (hb : ∀ x, ¬ PStep s b x) (g : PStar s a c) (hc : ∀ x, ¬ PStep s c x) : b = c := by
  induction h with
  | refl =>
    cases g with
    | refl => rfl
    | head g1 _ => exact absurd g1 (hb _)
  | head h1 _ ih =>
    cases g with
    | refl => exact absurd h1 (hc _)
    | head g1 g2 =>
      have := pstep_one h1 g1
      subst this
      exact ih hb g2
theorem pstep_fit {s : ByteArray} {k own : Nat} {P : List UInt8} (h : ¬ k + 4 ≤ s.size) : ∀ x, ¬ PStep s ⟨k, own, P⟩ x := fun x hx => by
  cases hx with
  | copy _ _ _ f m h1 h2 h3 => exact h h1
  | next _ _ _ h1 h2 => exact h h1
/-- The parts of bytes. -/
def PartsIs (s : ByteArray) (Q : List UInt8) : Prop := ∃ k own P, PStar s ⟨0, 0, []⟩ ⟨k, own, P⟩ ∧ ¬ k + 4 ≤ s.size ∧ Q = if own < s.size then P ++ txtP s own s.size else P
theorem parts_one {s : ByteArray} {Q R : List UInt8} (h : PartsIs s Q) (g : PartsIs s R) : Q = R := by
  obtain ⟨k, own, P, h1, h2, rfl⟩ := h
  obtain ⟨k', own', P', g1, g2, rfl⟩ := g
  have := pstar_end h1 (pstep_fit h2) g1 (pstep_fit g2)
  injection this with e1 e2 e3
  subst e1 e2 e3
  rfl
open Classical in
noncomputable def partsF (s : ByteArray) : List UInt8 := if h : ∃ P, PartsIs s P then h.choose else []
theorem partsF_is {s : ByteArray} {P : List UInt8} (h : PartsIs s P) : partsF s = P := by
  have hx : ∃ P, PartsIs s P := ⟨P, h⟩
  unfold partsF
  rw [dif_pos hx]
  exact parts_one hx.choose_spec h

/-- What is told of the parts. -/
def PartsGood (s : ByteArray) (P : List UInt8) : Prop := P.length ≤ 600000 ∧ (0 < s.size → unp (ub s.size ++ 1 :: P) = (s.data.toList, 0)) ∧ PartsIs s P

set_option maxHeartbeats 8000000 in
theorem partsOf_any (s : ByteArray) (hs : s.size ≤ 60000) (w : World) :
    Calls Try.prog 65 #[.string s] w fun e w' => ∃ P, e = .returned (.string ⟨P.toArray⟩) ∧ Hid (PartsGood s P) ∧ Below w.heap.size w w' := by
  obtain ⟨i0, hi, hz0, hz1, hz2⟩ := info_parts u8info
  have HS := Lib.hid hs
  have hmm := @run_makeMap Try.prog
  have hM0 : MapAt (w.alloc (.map #[] 0)) w.heap.size 0 (.map []) := World.ownsMap_made _ _ _ _
  have hB0 : Below w.heap.size w (w.alloc (.map #[] 0)) := (Below.refl _ _).alloc (Nat.le_refl _) _
  have HM0 := Lib.hid hM0
  have HB0 := Lib.hid hB0
  have hll : s.data.toList.length = s.size := list_size s
  have HLL := Lib.hid hll
  clear hM0 hB0 hll
  go_enter Try.func65, Try.ntmps65
  go_wp2_with fail
  go_loopg [3, 5, 6] s.size (fun q s3 s5 s6 wx => ∃ (k own : Nat) (P : List UInt8) (D : DataW Unit), k + q = s.size ∧ own ≤ k ∧ s5 = .int .i64 own ∧ s6 = .int .i64 k ∧ Hid (PInv s.data.toList P own) ∧
    Hid (wx.ownsRow (w.heap.size + 1) 5 1 s3 P.length (Lib.byteCells P)) ∧ Hid (MapAt wx w.heap.size k D) ∧ Hid (MapOK D s k) ∧ Hid (Below w.heap.size w wx) ∧ Hid (PStar s ⟨0, 0, []⟩ ⟨k, own, P⟩))
  case atStart => exact ⟨0, 0, [], .map [], by omega, Nat.le_refl _, rfl, rfl, Lib.hid (PInv.start _), Lib.hid (World.ownsRow_nil _ _ _ _), HM0, Lib.hid (MapOK.start s), HB0, Lib.hid (.refl _)⟩
  case round =>
    obtain ⟨k, own, P, D, hkq, hok, rfl, rfl, HP, HR, HM, HD, HB, HST⟩ := hrel
    by_cases hfit : k + 4 ≤ s.size
    · have hfz : (k : Int) + 4 ≤ (s.size : Int) := by omega
      have hk6 : k ≤ 60000 := by omega
      have F4' := Lib.hid (fun W => fourAt_any s k hfit (by omega) W)
      have HKQ := Lib.hid hkq
      clear hkq
      cases hla : lastAt s (fours s k) k with
      | some f =>
        obtain ⟨hh, hf1⟩ := HD.out.some hla
        obtain ⟨hf2, hf3, hf4⟩ := lastAt_some hla
        have hat := Lib.hid hf1
        have HLA := Lib.hid hla
        have HH := Lib.hid hh
        have H4 := Lib.hid hf4
        have hal := Lib.hid (fun W => alike_any s f k hf2 (by omega) (by omega) W)
        have hks : k ≤ s.size := by omega
        have hPl0 : P.length ≤ 480000 := by have := HP.out.bound; omega
        obtain ⟨T, hT, hTs, ht⟩ := text_of s own k hs hok hks
        have HT := Lib.hid ht
        have HTL := Lib.hid hT
        have e2 := Lib.hid (show Lib.byteCells (P ++ T.data.toList) = Lib.byteCells P ++ Lib.strCells T by simp [Lib.byteCells, Lib.strCells])
        have e3 := Lib.hid (show (P ++ T.data.toList).length = P.length + T.size by rw [List.length_append, ← Lib.size_eq])
        have hMl := Lib.hid HM.out.lt
        have hp := Lib.hid (fun (m : Nat) (hm : k + m ≤ 100000) (W : World) (hW : MapAt W w.heap.size k D) => pass_cast w.heap.size s k m hm (by omega) D W hW HD.out)
        have hkk := Lib.hid hk6
        clear hh hf1 hf3 hf4 hT ht hla
        go_upto_region 9 with (first
          | (go_at_call 87; refine (F4'.out _).mono ?_; rintro e w1 ⟨rfl, hb1⟩; have hm1 := map_below HM.out hb1)
          | (at_lookup; refine wpList_lookup_known _ rfl _ _ 137 rfl 138 3 .i64 klaw Try.underlying137 Try.underlying3 (zero_int _) w.heap.size k D rfl hm1 _ _ rfl (keyOf_four _) (f : Int) true hat.out HH.out ?_)
          | (go_at_call 88; refine (hal.out _).mono ?_; rintro e w2 ⟨m, rfl, hsame, hb2⟩))
        have hb12 := hb1.trans (hb2.mono hb1.size)
        have M2 := Lib.hid (map_below hm1 hb2)
        have B2 := Lib.hid (HB.out.trans (hb12.mono HB.out.size))
        have R2 := Lib.hid (own_below HR.out hb12)
        have hM2 : w.heap.size + 1 ≤ w2.heap.size := Nat.le_trans (Nat.succ_le_of_lt hMl.out) hb12.size
        have hm4 := Lib.hid (same_four hsame.out H4.out (by omega))
        have hmz : k + m ≤ s.size := hsame.out.1
        have HSM := Lib.hid (same_bytes hsame.out)
        have HSTP := Lib.hid (HST.out.snoc (PStep.copy k own P f m hfit HLA.out hsame.out))
        clear hb1 hb2 hb12 hm1 hat HH F4' HR HB HM hal hsame H4 hMl
        go_upto_region 10 with (first
          | (go_at_call 86; refine (HT.out _).mono ?_; rintro e w3 ⟨rfl, hb3⟩)
          | (at_builtin; refine Lib.wpList_append_own_string _ rfl _ _ 70 9 rfl (w.heap.size + 1) 5 i0 Try.underlying70 Try.underlying9 hi hz0 hz1 hz2 _ P.length (Lib.byteCells P) rfl (own_below R2.out hb3) T rfl (by unfold maxLen; omega) (by omega) (Nat.le_trans hM2 hb3.size) ?_))
        intro v4 w4 hown4 hg4 _
        rw [← e2.out, ← e3.out] at hown4
        have B4 := Lib.hid ((B2.out.trans (hb3.mono B2.out.size)).grown hg4 (Nat.le_trans B2.out.size hb3.size) (fun j hj => by have := ((own_below R2.out hb3).lt j hj).1; omega))
        have M4 := Lib.hid ((map_below M2.out hb3).kept hg4 (by intro e; have := ((own_below R2.out hb3).lt _ e.symm).1; omega))
        have hM4 : w.heap.size + 1 ≤ w4.heap.size := Nat.le_trans hM2 (Nat.le_trans hb3.size hg4.size)
        obtain ⟨C, hC, hCs, hco⟩ := copy_of k f m hf2 (by omega) (by omega)
        have HST2 := Lib.hid (show PStar s ⟨0, 0, []⟩ ⟨k + m, k + m, (P ++ T.data.toList) ++ C.data.toList⟩ by
          rw [HTL.out, hC]; exact HSTP.out)
        have HPI := Lib.hid (show PInv s.data.toList ((P ++ T.data.toList) ++ C.data.toList) (k + m) by
          rw [HTL.out, hC]
          exact HP.out.step hok hf2 hm4.out (by rw [HLL.out]; exact hmz) HSM.out (by rw [HLL.out]; omega))
        have hPl1 := e3.out
        obtain ⟨P1, hP1⟩ : ∃ P1, P1 = P ++ T.data.toList := ⟨_, rfl⟩
        rw [← hP1] at hown4 HPI hPl1 HST2
        have hPl2 : P1.length ≤ 560000 := by omega
        have R4 := Lib.hid hown4
        have HCO := Lib.hid hco
        have e4 := Lib.hid (show Lib.byteCells (P1 ++ C.data.toList) = Lib.byteCells P1 ++ Lib.strCells C by simp [Lib.byteCells, Lib.strCells])
        have e5 := Lib.hid (show (P1 ++ C.data.toList).length = P1.length + C.size by rw [List.length_append, ← Lib.size_eq])
        clear hown4 hg4 hb3 B2 M2 R2 hM2 hPl1 hP1 hC hco e2 e3 HTL HT HP hPl0
        go_upto_region 11 with (first
          | (go_at_call 89; refine (HCO.out _).mono ?_; rintro e w5 ⟨rfl, hb5⟩)
          | (at_builtin; refine Lib.wpList_append_own_string _ rfl _ _ 70 9 rfl (w.heap.size + 1) 5 i0 Try.underlying70 Try.underlying9 hi hz0 hz1 hz2 _ P1.length (Lib.byteCells P1) rfl (own_below R4.out hb5) C rfl (by unfold maxLen; omega) (by omega) (Nat.le_trans hM4 hb5.size) ?_))
        intro v6 w6 hown6 hg6 _
        rw [← e4.out, ← e5.out] at hown6
        have B6 := Lib.hid ((B4.out.trans (hb5.mono B4.out.size)).grown hg6 (Nat.le_trans B4.out.size hb5.size) (fun j hj => by have := ((own_below R4.out hb5).lt j hj).1; omega))
        have M6 := Lib.hid ((map_below M4.out hb5).kept hg6 (by intro e; have := ((own_below R4.out hb5).lt _ e.symm).1; omega))
        have R6 := Lib.hid hown6
        have HP1 := Lib.hid (hp.out m (by omega) w6 M6.out)
        clear hown6 hg6 hb5 B4 M4 R4 hM4 e4 e5 HCO hp
        go_wp2_with (go_at_call 90; refine HP1.out.mono ?_; rintro e w7 ⟨rfl, D2, M7, OK7, K7⟩)
        have B7 := Lib.hid (B6.out.trans (K7.into (Nat.le_refl _) B6.out.size))
        have R7 := Lib.hid (own_kept R6.out (Nat.lt_succ_self _) K7)
        clear K7 B6 R6 HP1
        go_roundg (s.size - (k + m))
        case measure => have := HKQ.out; have := hm4.out; omega
        case rel => exact ⟨k + m, k + m, _, D2, by omega, Nat.le_refl _, by simp, by simp, HPI, R7, M7, OK7, B7, HST2⟩
      | none =>
        have hh2 := HD.out.none hla
        have HST2 := Lib.hid (HST.out.snoc (PStep.next k own P hfit hla))
        have hat := Lib.hid (atKey_of_not_has hh2 (.lit (.int .i64 0)))
        have HH := Lib.hid hh2
        have hp := Lib.hid (fun (W : World) (hW : MapAt W w.heap.size k D) => pass_cast w.heap.size s k 1 (by omega) (by omega) D W hW HD.out)
        clear hh2 hla
        go_upto_region 12 with (first
          | (go_at_call 87; refine (F4'.out _).mono ?_; rintro e w1 ⟨rfl, hb1⟩; have hm1 := map_below HM.out hb1)
          | (at_lookup; refine wpList_lookup_known _ rfl _ _ 137 rfl 138 3 .i64 klaw Try.underlying137 Try.underlying3 (zero_int _) w.heap.size k D rfl hm1 _ _ rfl (keyOf_four _) 0 false hat.out HH.out ?_))
        have HP1 := Lib.hid (hp.out w1 hm1)
        have B1 := Lib.hid (HB.out.trans (hb1.mono HB.out.size))
        have R1 := Lib.hid (own_below HR.out hb1)
        have hMl := Lib.hid HM.out.lt
        clear hb1 hm1 hp hat HH F4' HR HB HM HD
        go_wp2_with (go_at_call 90; refine HP1.out.mono ?_; rintro e w2 ⟨rfl, D2, M2, OK2, K2⟩)
        have B2 := Lib.hid (B1.out.trans (K2.into (Nat.le_refl _) B1.out.size))
        have R2 := Lib.hid (own_kept R1.out (Nat.lt_succ_self _) K2)
        clear K2 B1 R1 HP1
        go_roundg (s.size - (k + 1))
        case measure => have := HKQ.out; omega
        case rel => exact ⟨k + 1, own, P, D2, by omega, by omega, rfl, by simp, HP, R2, M2, OK2, B2, HST2⟩
    · have hfz : ¬ (k : Int) + 4 ≤ (s.size : Int) := by omega
      have HKS := Lib.hid (show k ≤ s.size by omega)
      have hk6 : k ≤ 60000 := by omega
      have hb0 := HP.out.bound
      have hPl : P.length ≤ 480000 := by have := HLL.out; omega
      have hol : own ≤ s.size := by have := HLL.out; omega
      obtain ⟨a3, cap3, rfl⟩ := own_form HR.out
      clear hkq hb0
      by_cases hend : own < s.size
      · have hez : (own : Int) < (s.size : Int) := by omega
        obtain ⟨T, hT, hTs, ht⟩ := text_of s own s.size hs hol (Nat.le_refl _)
        have HT := Lib.hid ht
        have hlast := HP.out.last (by rw [HLL.out]; exact hs) (by rw [HLL.out]; exact hend)
        have HTL := Lib.hid hT
        have HG := Lib.hid (show PartsGood s (P ++ T.data.toList) from ⟨by rw [List.length_append, ← Lib.size_eq]; omega, fun _ => by
          rw [hT, List.take_of_length_le (by rw [List.length_drop, HLL.out]; omega), ← HLL.out]; exact hlast, k, own, P, HST.out, hfit, by rw [if_pos hend, hT]; rfl⟩)
        have e2 := Lib.hid (show Lib.byteCells (P ++ T.data.toList) = Lib.byteCells P ++ Lib.strCells T by simp [Lib.byteCells, Lib.strCells])
        have e3 := Lib.hid (show (P ++ T.data.toList).length = P.length + T.size by rw [List.length_append, ← Lib.size_eq])
        have hB1 := HB.out.size
        clear hT ht hlast HTL
        go_wp2_with (first
          | (go_at_call 86; refine (HT.out _).mono ?_; rintro e w3 ⟨rfl, hb3⟩)
          | (at_builtin; refine Lib.wpList_append_own_string _ rfl _ _ 70 9 rfl (w.heap.size + 1) 5 i0 Try.underlying70 Try.underlying9 hi hz0 hz1 hz2 _ P.length (Lib.byteCells P) rfl (own_below HR.out hb3) T rfl (by unfold maxLen; omega) (by omega) (Nat.le_trans (Nat.succ_le_of_lt HM.out.lt) hb3.size) ?_))
        intro v4 w4 hown4 hg4 _
        have R4 := hown4
        rw [← e2.out, ← e3.out] at R4
        have hcv := convert_row R4
        have B4 := Lib.hid ((HB.out.trans (hb3.mono HB.out.size)).grown hg4 (Nat.le_trans HB.out.size hb3.size) (fun j hj => by have := ((own_below HR.out hb3).lt j hj).1; omega))
        clear hown4 hg4 R4 hb3
        go_wp2_with fail
        go_ret
        exact ⟨_, rfl, HG, B4.out⟩
      · have hez : ¬ (own : Int) < (s.size : Int) := by omega
        have hcv := convert_row HR.out
        have HG := Lib.hid (show PartsGood s P from ⟨by omega, fun h0 => by
          have e : own = s.data.toList.length := by rw [HLL.out]; omega
          have hd := (show PInv s.data.toList P s.data.toList.length by rw [← e]; exact HP.out).done (by rw [HLL.out]; exact hs) (by rw [HLL.out]; exact h0)
          rw [← HLL.out]; exact hd, k, own, P, HST.out, hfit, by rw [if_neg hend]⟩)
        go_wp2_with fail
        go_ret
        exact ⟨P, rfl, HG, HB.out⟩
end Go.Proofs.Ytdcefhhmddjodaa

namespace Go.Proofs.Ytdcefhhmddjodaa
open Go.RowKit
set_option linter.unusedVariables false
set_option linter.unnecessarySimpa false
set_option linter.unusedSimpArgs false
set_option maxRecDepth 100000

set_option maxHeartbeats 4000000 in
theorem appendCopy_any (B : Nat) (v : Value) (o : List UInt8) (d n : Nat) (h1 : 1 ≤ d) (h2 : d ≤ o.length) (h3 : o.length + n ≤ 60000) (w : World) (hB : B ≤ w.heap.size) (ho : w.ownsRow B 5 1 v o.length (Lib.byteCells o)) :
    Calls Try.prog 101 #[v, .int .i64 d, .int .i64 n] w fun e w' => ∃ v', e = .returned v' ∧ Hid (w'.ownsRow B 5 1 v' (o.length + n) (Lib.byteCells (copyTo n d o))) ∧ Hid (Below B w w') := by
  obtain ⟨i0, hi, hz0, hz1, hz2⟩ := info_parts u8info
  have HQ := Lib.hid (show 1 ≤ d ∧ d ≤ o.length ∧ o.length + n ≤ 60000 from ⟨h1, h2, h3⟩)
  have HO := Lib.hid ho
  clear h1 h2 h3 ho
  go_enter Try.func101, Try.ntmps101
  go_wp2_with fail
  go_loopg [0, 8] n (fun q s0 s8 wx => ∃ j : Nat, j + q = n ∧ s8 = .int .i64 j ∧ Hid (wx.ownsRow B 5 1 s0 (o.length + j) (Lib.byteCells (copyTo j d o))) ∧ Hid (Below B w wx))
  case atStart => exact ⟨0, by omega, rfl, HO, Lib.hid (Below.refl _ _)⟩
  case round =>
    obtain ⟨j, hjq, rfl, ho3, hb3⟩ := hrel
    by_cases hjn : j < n
    · obtain ⟨g9, cap9, rfl, hg9, hg9'⟩ := own_slice ho3.out (by have := HQ.out; omega)
      obtain ⟨c1, c2, c3⟩ := HQ.out
      obtain ⟨q, rfl⟩ : ∃ q, gk = q + 1 := ⟨gk - 1, by omega⟩
      have hq1 : 0 < d := by omega
      have hq2 : d ≤ o.length + j := by omega
      have hap3 := Lib.hid (show o.length + j + 1 ≤ 60000 by omega)
      have hjz : (j : Int) < (n : Int) := by omega
      have hj6 : j < 60000 := by omega
      have hPl : (copyTo j d o).length = o.length + j := copyTo_len j d o
      obtain ⟨P, hP⟩ : ∃ P, P = copyTo j d o := ⟨_, rfl⟩
      have hnext : copyTo (j + 1) d o = P ++ [P.getD (P.length - d) 0] := by rw [copyTo, ← hP]
      rw [← hP] at hPl ho3
      have hat : (Lib.byteCells P)[o.length + j - d]? = some (.int .u8 ((P.getD (P.length - d) 0).toNat : Nat)) := by
        unfold Lib.byteCells
        rw [List.getElem?_map, hPl, List.getElem?_eq_getElem (by omega)]
        simp [List.getD, List.getElem?_eq_getElem (show o.length + j - d < P.length by omega)]
      have hcl := ho3.out.cellAt (o.length + j - d) (by omega)
      rw [hat] at hcl
      obtain ⟨y, hy⟩ : ∃ y, y = P.getD (P.length - d) 0 := ⟨_, rfl⟩
      rw [← hy] at hcl hnext
      have HNX := Lib.hid hnext
      have hone := Lib.hid (cell_one_new wr (.int .u8 (y.toNat : Int)) 5)
      have hsub3 : wrap64 ((o.length : Int) + (j : Int) - (d : Int)) = ((o.length + j - d : Nat) : Int) := by unfold wrap64; omega
      have hs3 := hb3.out.size
      clear hP hat hnext hy c1 c2 c3
      go_wp2_with (at_builtin; refine wpList_append_own _ rfl _ _ 70 rfl B 5 i0 (.int .u8 0) 1 1 Try.underlying70 hi hz0 hz1 hz2 rfl (by decide) _ _ _ rfl (ho3.out.alloc _) ⟨wr.heap.size, 0, none⟩ 1 1 [.int .u8 (y.toNat : Int)] rfl rfl hone.out (by simp [Value.oneCell']) (Nat.le_trans hap3.out (by decide)) (by have := hap3.out; omega) (by simp; omega) ?_)
      intro v' w3 hown3 hg3 _
      have B3 := Lib.hid ((hb3.out.alloc (by omega) (.cells #[.int .u8 (y.toNat : Int)] 5)).grown hg3 (by simp; omega) (fun q hq => (ho3.out.lt q hq).1))
      have O3 := Lib.hid (show w3.ownsRow B 5 1 v' (o.length + (j + 1)) (Lib.byteCells (copyTo (j + 1) d o)) by
        rw [HNX.out]
        have e : Lib.byteCells (P ++ [y]) = Lib.byteCells P ++ [.int .u8 (y.toNat : Int)] := by simp [Lib.byteCells]
        rw [e]; exact hown3)
      clear hown3 hg3
      go_wp2_with fail
      go_roundg q
      case measure => omega
      case rel => exact ⟨j + 1, by omega, by simp, O3, B3⟩
    · obtain rfl : j = n := by omega
      have hjz : ¬ (j : Int) < (j : Int) := by omega
      go_wp2_with fail
      go_ret
      exact ⟨_, rfl, ho3, hb3⟩
end Go.Proofs.Ytdcefhhmddjodaa
