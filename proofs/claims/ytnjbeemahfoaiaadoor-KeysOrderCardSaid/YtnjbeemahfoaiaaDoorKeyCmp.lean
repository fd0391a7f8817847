/-
  The walks of the program's comparisons: cmp.Compare, cmp.Or, comparePlain, compareValues.
-/
import Derived.Test.YtnjbeemahfoaiaaDoorKeyTold
import Derived.Test.YtnjbeemahfoaiaaDoorKeyCompare
import Derived.StillTailTactics
import Derived.Deep.LoopGhost
namespace Go.Proofs.YtnjbeemahfoaiaaDoor
open Go.RowKit
set_option linter.unusedVariables false
set_option linter.unusedSimpArgs false
set_option linter.unnecessarySimpa false
set_option maxRecDepth 100000

def cmpN (a b : Nat) : Int := sgn (decide (a < b)) (decide (b < a))
def cmpS (s t : ByteArray) : Int := sgn (Op.bytesLess s.data.toList t.data.toList) (Op.bytesLess t.data.toList s.data.toList)

set_option maxHeartbeats 800000 in
theorem cmpByte_any (a b : Nat) (w : World) :
    Calls Tryd.prog 47 #[.int .u8 a, .int .u8 b] w fun e w' => e = .returned (.int .i64 (cmpN a b)) ∧ w = w' := by
  rcases Nat.lt_trichotomy a b with h | h | h
  · have h1 := Lib.hid (show cmpN a b = -1 by simp [cmpN, sgn, h])
    have h2 : (a : Int) < b := by omega
    go_enter Tryd.func47, Tryd.ntmps47
    go_wp2
    go_ret
    exact ⟨ret_int h1.out.symm, rfl⟩
  · subst h
    have h1 := Lib.hid (show cmpN a a = 0 by simp [cmpN, sgn])
    go_enter Tryd.func47, Tryd.ntmps47
    go_wp2
    go_ret
    exact ⟨ret_int h1.out.symm, rfl⟩
  · have h1 := Lib.hid (show cmpN a b = 1 by simp [cmpN, sgn, h]; omega)
    have h2 : (b : Int) < a := by omega
    have h3 : ¬ (a : Int) < b := by omega
    go_enter Tryd.func47, Tryd.ntmps47
    go_wp2
    go_ret
    exact ⟨ret_int h1.out.symm, rfl⟩

set_option maxHeartbeats 800000 in
theorem cmpUint_any (a b : Nat) (w : World) :
    Calls Tryd.prog 48 #[.int .u64 a, .int .u64 b] w fun e w' => e = .returned (.int .i64 (cmpN a b)) ∧ w = w' := by
  rcases Nat.lt_trichotomy a b with h | h | h
  · have h1 := Lib.hid (show cmpN a b = -1 by simp [cmpN, sgn, h])
    have h2 : (a : Int) < b := by omega
    go_enter Tryd.func48, Tryd.ntmps48
    go_wp2
    go_ret
    exact ⟨ret_int h1.out.symm, rfl⟩
  · subst h
    have h1 := Lib.hid (show cmpN a a = 0 by simp [cmpN, sgn])
    go_enter Tryd.func48, Tryd.ntmps48
    go_wp2
    go_ret
    exact ⟨ret_int h1.out.symm, rfl⟩
  · have h1 := Lib.hid (show cmpN a b = 1 by simp [cmpN, sgn, h]; omega)
    have h2 : (b : Int) < a := by omega
    have h3 : ¬ (a : Int) < b := by omega
    go_enter Tryd.func48, Tryd.ntmps48
    go_wp2
    go_ret
    exact ⟨ret_int h1.out.symm, rfl⟩

set_option maxHeartbeats 800000 in
theorem isNaN_any (s : ByteArray) (w : World) : Calls Tryd.prog 59 #[.string s] w fun e w' => e = .returned (.bool false) ∧ w = w' := by
  have h : (s.toList == s.toList) = true := by simp
  go_enter Tryd.func59, Tryd.ntmps59
  go_wp2
  go_ret
  exact ⟨rfl, rfl⟩

set_option maxHeartbeats 800000 in
theorem cmpText_any (s t : ByteArray) (w : World) :
    Calls Tryd.prog 49 #[.string s, .string t] w fun e w' => e = .returned (.int .i64 (cmpS s t)) ∧ w = w' := by
  have es := Lib.toList_data s
  have et := Lib.toList_data t
  cases h1 : Op.bytesLess s.data.toList t.data.toList
  · cases h2 : Op.bytesLess t.data.toList s.data.toList
    · have hL := Lib.hid (show cmpS s t = 0 by unfold cmpS; rw [h1, h2]; rfl)
      have h3 : (s.toList == t.toList) = true := by rw [es, et, bytesLess_total _ _ h1 h2]; simp
      have h4 : Op.bytesLess s.toList t.toList = false := by rw [es, et]; exact h1
      clear h1 h2 es et
      go_enter Tryd.func49, Tryd.ntmps49
      go_wp2_with (go_at_call 59; refine (isNaN_any _ _).mono ?_; rintro e w' ⟨rfl, rfl⟩)
      go_ret
      exact ⟨ret_int hL.out.symm, rfl⟩
    · have hL := Lib.hid (show cmpS s t = 1 by unfold cmpS; rw [h1, h2]; rfl)
      have h3 : (s.toList == t.toList) = false := by
        rw [es, et, beq_eq_false_iff_ne]
        intro e
        rw [e, bytesLess_self] at h2
        cases h2
      have h4 : Op.bytesLess s.toList t.toList = false := by rw [es, et]; exact h1
      clear h1 h2 es et
      go_enter Tryd.func49, Tryd.ntmps49
      go_wp2_with (go_at_call 59; refine (isNaN_any _ _).mono ?_; rintro e w' ⟨rfl, rfl⟩)
      go_ret
      exact ⟨ret_int hL.out.symm, rfl⟩
  · have hL := Lib.hid (show cmpS s t = -1 by unfold cmpS; rw [h1]; rfl)
    have h4 : Op.bytesLess s.toList t.toList = true := by rw [es, et]; exact h1
    clear h1 es et
    go_enter Tryd.func49, Tryd.ntmps49
    go_wp2_with (go_at_call 59; refine (isNaN_any _ _).mono ?_; rintro e w' ⟨rfl, rfl⟩)
    go_ret
    exact ⟨ret_int hL.out.symm, rfl⟩

/-- Three comparisons, the first that tells. -/
def orB (a b c : Int) : Int := if a ≠ 0 then a else if b ≠ 0 then b else c

theorem orB_1 {a b c : Int} (h : ¬ a = 0) : orB a b c = a := if_pos h
theorem orB_2 {a b c : Int} (h : a = 0) (h' : ¬ b = 0) : orB a b c = b := by unfold orB; rw [if_neg (by simpa using h), if_pos h']
theorem orB_3 {a b c : Int} (h : a = 0) (h' : b = 0) : orB a b c = c := by unfold orB; rw [if_neg (by simpa using h), if_neg (by simpa using h')]

set_option maxHeartbeats 1600000 in
theorem or_any (g : Nat) (a b c : Int) (w : World) (h0 : w.cell? ⟨g, 0, none⟩ = some (.int .i64 a)) (h1 : w.cell? ⟨g, 1, none⟩ = some (.int .i64 b)) (h2 : w.cell? ⟨g, 2, none⟩ = some (.int .i64 c)) :
    Calls Tryd.prog 46 #[.slice (some ⟨g, 0, none⟩) 3 3] w fun e w' => e = .returned (.int .i64 (orB a b c)) ∧ w = w' := by
  have H0 := Lib.hid h0
  have H1 := Lib.hid h1
  have H2 := Lib.hid h2
  clear h0 h1 h2
  go_enter Tryd.func46, Tryd.ntmps46
  go_wp2_with fail
  go_loopg [5, 8] 3 (fun k s5 s8 wx => ∃ i : Nat, i + k = 3 ∧ s8 = .int .i64 i ∧ wx = w ∧ Hid (1 ≤ i → a = 0) ∧ Hid (2 ≤ i → b = 0) ∧ Hid (3 ≤ i → c = 0))
  case atStart => exact ⟨0, by omega, rfl, rfl, Lib.hid (by omega), Lib.hid (by omega), Lib.hid (by omega)⟩
  case round =>
    obtain ⟨i, hig, rfl, rfl, z1, z2, z3⟩ := hrel
    have hi : i = 0 ∨ i = 1 ∨ i = 2 ∨ i = 3 := by omega
    rcases hi with rfl | rfl | rfl | rfl
    · have c0 := H0.out
      by_cases ha : a = 0
      · subst ha
        go_wp2_with fail
        go_roundg 2
        case measure => omega
        case rel => exact ⟨1, by omega, rfl, rfl, Lib.hid (by simp), Lib.hid (by omega), Lib.hid (by omega)⟩
      · have hz : (a == 0) = false := beq_eq_false_iff_ne.2 ha
        have hres := Lib.hid (orB_1 (b := b) (c := c) ha)
        clear ha
        go_wp2_with fail
        go_ret
        exact ⟨ret_int hres.out.symm, rfl⟩
    · have c0 := H1.out
      by_cases ha : b = 0
      · subst ha
        go_wp2_with fail
        go_roundg 1
        case measure => omega
        case rel => exact ⟨2, by omega, rfl, rfl, Lib.hid (fun _ => z1.out (by omega)), Lib.hid (by simp), Lib.hid (by omega)⟩
      · have hz : (b == 0) = false := beq_eq_false_iff_ne.2 ha
        have hres := Lib.hid (orB_2 (c := c) (z1.out (by omega)) ha)
        clear ha
        go_wp2_with fail
        go_ret
        exact ⟨ret_int hres.out.symm, rfl⟩
    · have c0 := H2.out
      have hres := Lib.hid (orB_3 (c := c) (z1.out (by omega)) (z2.out (by omega)))
      by_cases ha : c = 0
      · subst ha
        go_wp2_with fail
        go_roundg 0
        case measure => omega
        case rel => exact ⟨3, by omega, rfl, rfl, Lib.hid (fun _ => z1.out (by omega)), Lib.hid (fun _ => z2.out (by omega)), Lib.hid (by simp)⟩
      · have hz : (c == 0) = false := beq_eq_false_iff_ne.2 ha
        clear ha
        go_wp2_with fail
        go_ret
        exact ⟨ret_int hres.out.symm, rfl⟩
    · have hres := Lib.hid ((orB_3 (c := c) (z1.out (by omega)) (z2.out (by omega))).trans (z3.out (by omega)))
      go_wp2_with fail
      go_ret
      exact ⟨ret_int hres.out.symm, rfl⟩

/-- What comparePlain tells of what is told. -/
def tV (x : KV × Bool) : Value := .agg (told x)
def cmpT (x y : KV) : Int := orB (cmpN (tFirst x) (tFirst y)) (cmpN (tNum x) (tNum y)) (cmpS (tText x) (tText y))

set_option maxHeartbeats 4000000 in
theorem comparePlain_any (a b : Bool) (f g : Nat) (n m : Nat) (s t : ByteArray) (w : World) :
    Calls Tryd.prog 41 #[.agg #[.bool a, .int .u8 f, .int .u64 n, .string s], .agg #[.bool b, .int .u8 g, .int .u64 m, .string t]] w fun e w' =>
      e = .returned (.int .i64 (orB (cmpN f g) (cmpN n m) (cmpS s t))) ∧ Below w.heap.size w w' := by
  have H : ∀ W : World, W.heap[w.heap.size]? = some (.cells #[.bool a, .int .u8 f, .int .u64 n, .string s] 49 (0, 0)) → W.heap[w.heap.size + 1]? = some (.cells #[.bool b, .int .u8 g, .int .u64 m, .string t] 49 (0, 0)) →
      W.cell? ⟨w.heap.size, 1, none⟩ = some (.int .u8 f) ∧ W.cell? ⟨w.heap.size, 2, none⟩ = some (.int .u64 n) ∧ W.cell? ⟨w.heap.size, 3, none⟩ = some (.string s) ∧
      W.cell? ⟨w.heap.size + 1, 1, none⟩ = some (.int .u8 g) ∧ W.cell? ⟨w.heap.size + 1, 2, none⟩ = some (.int .u64 m) ∧ W.cell? ⟨w.heap.size + 1, 3, none⟩ = some (.string t) := fun W h1 h2 => by
    simp [World.cell?, h1, h2]
  have HH := Lib.hid H
  clear H
  go_enter Tryd.func41, Tryd.ntmps41
  go_wp2_with fail
  have h1 := alloc_two w (.cells #[.bool a, .int .u8 f, .int .u64 n, .string s] 49) (.cells #[.bool b, .int .u8 g, .int .u64 m, .string t] 49)
  have h2 := heap_alloc_new (w.alloc (.cells #[.bool a, .int .u8 f, .int .u64 n, .string s] 49)) (.cells #[.bool b, .int .u8 g, .int .u64 m, .string t] 49)
  have hb := ((Below.refl _ w).alloc (Nat.le_refl _) (.cells #[.bool a, .int .u8 f, .int .u64 n, .string s] 49)).alloc (by simp) (.cells #[.bool b, .int .u8 g, .int .u64 m, .string t] 49)
  generalize hW : World.alloc (World.alloc w (.cells #[.bool a, .int .u8 f, .int .u64 n, .string s] 49)) (.cells #[.bool b, .int .u8 g, .int .u64 m, .string t] 49) = W0 at h1 h2 hb ⊢
  obtain ⟨c1, c2, c3, c4, c5, c6⟩ := HH.out W0 h1 (by simpa using h2)
  have HB := Lib.hid hb
  clear h1 h2 hb hW
  refine wp_region_still_tail 15 (by kernel_rfl) (by kernel_rfl) ?_
  simp only [List.take_succ_cons, List.take_zero, List.drop_succ_cons, List.drop_zero]
  repeat (first
    | (refine wpStill_step (fun K hK => ?_); go_simp; refine ⟨_, (cmpByte_any _ _ _).mono fun _ _ hh => ⟨hh.1, hh.2.symm⟩, hK _ ?_⟩; clear hK K)
    | (refine wpStill_step (fun K hK => ?_); go_simp; refine ⟨_, (cmpUint_any _ _ _).mono fun _ _ hh => ⟨hh.1, hh.2.symm⟩, hK _ ?_⟩; clear hK K)
    | (refine wpStill_step (fun K hK => ?_); go_simp; refine ⟨_, (cmpText_any _ _ _).mono fun _ _ hh => ⟨hh.1, hh.2.symm⟩, hK _ ?_⟩; clear hK K)
    | still_step)
  try refine wpStill_nil ?_
  change wpList _ _ _ _ _ W0.drew
  go_wp2_with fail
  refine (or_any W0.heap.size (cmpN f g) (cmpN n m) (cmpS s t) _ ?_ ?_ ?_).mono ?_
  · show (W0.alloc _).cell? _ = _
    rw [World.cell?_alloc_at _ _ _ _ (by simp)]; rfl
  · show (W0.alloc _).cell? _ = _
    rw [World.cell?_alloc_at _ _ _ _ (by simp)]; rfl
  · show (W0.alloc _).cell? _ = _
    rw [World.cell?_alloc_at _ _ _ _ (by simp)]; rfl
  · rintro e w' ⟨rfl, rfl⟩
    go_wp2_with fail
    go_ret
    exact ⟨rfl, (HB.out.alloc HB.out.size _).drew⟩

theorem cmpN_lt {a b : Nat} (h : a < b) : cmpN a b = -1 := by simp [cmpN, sgn, h]
theorem cmpN_gt {a b : Nat} (h : b < a) : cmpN a b = 1 := by simp [cmpN, sgn, h]; omega
theorem cmpN_self (a : Nat) : cmpN a a = 0 := by simp [cmpN, sgn]
theorem cmpS_self (s : ByteArray) : cmpS s s = 0 := by simp [cmpS, sgn, bytesLess_self]
theorem tFirst_lt {x y : KV} (h : x.rank < y.rank) : tFirst x < tFirst y := by
  cases x <;> cases y <;> (try (rename_i b; cases b)) <;> (try (rename_i b _; cases b)) <;> (try (rename_i b; cases b)) <;> first
    | (exfalso; simp [KV.rank] at h; done)
    | decide
    | (simp [tFirst]; done)
theorem orB_z {b c : Int} : orB 0 b c = if b ≠ 0 then b else c := if_neg (by simp)
theorem orB_zz {c : Int} : orB 0 0 c = c := by rw [orB_z, if_neg (by simp)]
theorem orB_y {b : Int} : orB 0 b 0 = b := by
  rw [orB_z]
  by_cases h : b = 0
  · rw [if_neg (by simpa using h), h]
  · rw [if_pos h]
theorem cmpN_eq {a b : Nat} {p q : Bool} (h1 : p = decide (a < b)) (h2 : q = decide (b < a)) : cmpN a b = sgn p q := by subst h1; subst h2; rfl

theorem tFirst_eq {x y : KV} (h : x.rank = y.rank) : tFirst x = tFirst y := by
  cases x <;> cases y <;> (try (rename_i b; cases b)) <;> (try (rename_i b _; cases b)) <;> (try (rename_i b; cases b)) <;> first
    | rfl
    | (exfalso; simp [KV.rank] at h; done)
/-- What is told is ordered as the items are. -/
theorem cmpT_eq {x y : KV} (hx : x.ok) (hy : y.ok) : cmpT x y = cmpV x y := by
  unfold cmpT cmpV
  by_cases h1 : x.rank < y.rank
  · rw [if_pos h1, cmpN_lt (tFirst_lt h1), orB_1 (by decide)]
  rw [if_neg h1]
  by_cases h2 : y.rank < x.rank
  · rw [if_pos h2, cmpN_gt (tFirst_lt h2), orB_1 (by decide)]
  rw [if_neg h2]
  have hr : x.rank = y.rank := by omega
  rw [tFirst_eq hr, cmpN_self]
  clear h1 h2
  split
  · simp only [tNum, tText, cmpS_self, orB_y]
    simp only [KV.ok] at hx hy
    exact cmpN_eq (decide_eq_decide.2 (by unfold up63; omega)) (decide_eq_decide.2 (by unfold up63; omega))
  · simp only [tNum, tText, cmpS_self, orB_y]
    exact cmpN_eq rfl rfl
  · simp only [tNum, tText, cmpN_self, orB_zz]
    rfl
  · rename_i n1 n2 n3
    cases x <;> cases y <;> first
      | (simp only [tNum, tText, cmpN_self, cmpS_self, orB_zz]; done)
      | (exfalso; first | exact n1 _ _ rfl rfl | exact n2 _ _ rfl rfl | exact n3 _ _ rfl rfl)
      | (exfalso; simp [KV.rank] at hr; done)
      | (exfalso; rename_i b; cases b <;> simp [KV.rank] at hr; done)
      | (exfalso; rename_i b _; cases b <;> simp [KV.rank] at hr; done)

theorem comparePlain_of (x y : KV × Bool) (hx : x.1.ok) (hy : y.1.ok) (w : World) :
    Calls Tryd.prog 41 #[.agg #[.bool x.2, .int .u8 (tFirst x.1), .int .u64 (tNum x.1), .string (tText x.1)], .agg #[.bool y.2, .int .u8 (tFirst y.1), .int .u64 (tNum y.1), .string (tText y.1)]] w fun e w' =>
      e = .returned (.int .i64 (cmpV x.1 y.1)) ∧ Below w.heap.size w w' := by
  rw [← cmpT_eq hx hy]
  exact comparePlain_any _ _ _ _ _ _ _ _ w

set_option maxHeartbeats 4000000 in
theorem compareValues_any (x y : KV × Bool) (hx : x.1.ok) (hy : y.1.ok) (w : World) :
    Calls Tryd.prog 29 #[anyI x, anyI y] w fun e w' => e = .returned (.int .i64 (cmpI x y)) ∧ Below w.heap.size w w' := by
  have HX := Lib.hid (tell_any x hx)
  have HY := Lib.hid (tell_any y hy)
  have HC := Lib.hid (comparePlain_of x y hx hy)
  have HD := Lib.hid (comparePlain_of y x hy hx)
  unfold told at HX HY
  obtain ⟨u, hu⟩ : ∃ u, anyI x = u := ⟨_, rfl⟩
  obtain ⟨v, hv⟩ : ∃ v, anyI y = v := ⟨_, rfl⟩
  rw [hu] at HX ⊢
  rw [hv] at HY ⊢
  obtain ⟨a, d⟩ := x
  obtain ⟨b, e⟩ := y
  have hres0 : cmpI (a, d) (b, e) = if d = e then (if d then cmpV b a else cmpV a b) else sgn e d := by
    unfold cmpI
    simp only
    rw [cmpV_swap a b]
  have hres := Lib.hid hres0
  clear hres0
  clear hu hv hx hy
  simp only at HX HY HC HD
  cases d <;> cases e
  · go_enter Tryd.func29, Tryd.ntmps29
    go_wp2_with fail
    refine (HX.out _).mono ?_
    rintro e w1 ⟨rfl, hb1⟩
    go_wp2_with fail
    refine (HY.out _).mono ?_
    rintro e w2 ⟨rfl, hb2⟩
    obtain ⟨hc, hf⟩ := bcell hb2
    have hz : w1.heap.size < w2.heap.size := by have := hb2.size; simp at this; omega
    have H2 := Lib.hid (show Below w.heap.size w w2 from (hb1.alloc hb1.size (.cells #[.bool false, .int .u8 (tFirst a), .int .u64 (tNum a), .string (tText a)] 49)).trans (hb2.mono (by have := hb1.size; simp; omega)))
    clear hb1 hb2
    go_wp2_with fail
    refine (HC.out _).mono ?_
    rintro e w3 ⟨rfl, hb3⟩
    have H3 := Lib.hid ((H2.out.alloc H2.out.size (.cells #[.bool false, .int .u8 (tFirst b), .int .u64 (tNum b), .string (tText b)] 49)).trans (hb3.mono (by have := H2.out.size; simp; omega)))
    clear hb3
    go_wp2_with fail
    go_ret
    exact ⟨ret_int hres.out.symm, H3.out⟩
  · go_enter Tryd.func29, Tryd.ntmps29
    go_wp2_with fail
    refine (HX.out _).mono ?_
    rintro e w1 ⟨rfl, hb1⟩
    go_wp2_with fail
    refine (HY.out _).mono ?_
    rintro e w2 ⟨rfl, hb2⟩
    obtain ⟨hc, hf⟩ := bcell hb2
    have hz : w1.heap.size < w2.heap.size := by have := hb2.size; simp at this; omega
    have H2 := Lib.hid (show Below w.heap.size w w2 from (hb1.alloc hb1.size (.cells #[.bool false, .int .u8 (tFirst a), .int .u64 (tNum a), .string (tText a)] 49)).trans (hb2.mono (by have := hb1.size; simp; omega)))
    clear hb1 hb2
    go_wp2_with fail
    go_ret
    exact ⟨ret_int hres.out.symm, H2.out.alloc H2.out.size _⟩
  · go_enter Tryd.func29, Tryd.ntmps29
    go_wp2_with fail
    refine (HX.out _).mono ?_
    rintro e w1 ⟨rfl, hb1⟩
    go_wp2_with fail
    refine (HY.out _).mono ?_
    rintro e w2 ⟨rfl, hb2⟩
    obtain ⟨hc, hf⟩ := bcell hb2
    have hz : w1.heap.size < w2.heap.size := by have := hb2.size; simp at this; omega
    have H2 := Lib.hid (show Below w.heap.size w w2 from (hb1.alloc hb1.size (.cells #[.bool true, .int .u8 (tFirst a), .int .u64 (tNum a), .string (tText a)] 49)).trans (hb2.mono (by have := hb1.size; simp; omega)))
    clear hb1 hb2
    go_wp2_with fail
    go_ret
    exact ⟨ret_int hres.out.symm, H2.out.alloc H2.out.size _⟩
  · go_enter Tryd.func29, Tryd.ntmps29
    go_wp2_with fail
    refine (HX.out _).mono ?_
    rintro e w1 ⟨rfl, hb1⟩
    go_wp2_with fail
    refine (HY.out _).mono ?_
    rintro e w2 ⟨rfl, hb2⟩
    obtain ⟨hc, hf⟩ := bcell hb2
    have hz : w1.heap.size < w2.heap.size := by have := hb2.size; simp at this; omega
    have H2 := Lib.hid (show Below w.heap.size w w2 from (hb1.alloc hb1.size (.cells #[.bool true, .int .u8 (tFirst a), .int .u64 (tNum a), .string (tText a)] 49)).trans (hb2.mono (by have := hb1.size; simp; omega)))
    clear hb1 hb2
    go_wp2_with fail
    refine (HD.out _).mono ?_
    rintro e w3 ⟨rfl, hb3⟩
    have H3 := Lib.hid ((H2.out.alloc H2.out.size (.cells #[.bool true, .int .u8 (tFirst b), .int .u64 (tNum b), .string (tText b)] 49)).trans (hb3.mono (by have := H2.out.size; simp; omega)))
    clear hb3
    go_wp2_with fail
    go_ret
    exact ⟨ret_int hres.out.symm, H3.out⟩
end Go.Proofs.YtnjbeemahfoaiaaDoor
