/-
  The walks of slices.IndexFunc, ContainsFunc, CompareFunc at the program's own functions; Compare's contracts.
-/
import Derived.Test.YtnjbeemahfoaiaaDoorKeyCmp
import Derived.Test.YtnjbeemahfoaiaaDoorKeyContracts
import Derived.Test.YtnjbeemahfoaiaaDoorKeyBad
namespace Go.Proofs.YtnjbeemahfoaiaaDoor
open Go.RowKit
set_option linter.unusedVariables false
set_option linter.unusedSimpArgs false
set_option linter.unnecessarySimpa false
set_option maxRecDepth 100000

/-- 'isNone' answers b. -/
def Nones (u : Value) (b : Bool) : Prop := ∀ w, Calls Tryd.prog 27 #[u] w fun e w' => e = .returned (.bool b) ∧ Below w.heap.size w w'

set_option maxHeartbeats 1600000 in
theorem indexFunc_no (v : Value) (us : List Value) (hl : us.length ≤ 1000) (hn : ∀ i, i < us.length → Nones (us.getD i .nilIface) false) (w : World) (h : AnysAt w v us) :
    Calls Tryd.prog 40 #[v, (.func (.func 27) #[] #[])] w fun e w' => e = .returned (.int .i64 (-1)) ∧ Below w.heap.size w w' := by
  have HA := Lib.hid h
  obtain ⟨a, len, cap, rfl, hlen, hc⟩ := h
  have HN := Lib.hid hn
  have HC := Lib.hid hc
  have HL := Lib.hid hlen
  have hl2 : len ≤ 1000 := by omega
  clear hn hc hlen hl
  go_enter Tryd.func40, Tryd.ntmps40
  go_wp2_with fail
  go_loopg [5, 8] len (fun k s5 s8 wx => ∃ i : Nat, i + k = len ∧ s8 = .int .i64 i ∧ Hid (Below w.heap.size w wx))
  case atStart => exact ⟨0, by omega, rfl, Lib.hid (Below.refl _ _)⟩
  case round =>
    obtain ⟨i, hig, rfl, HB⟩ := hrel
    by_cases hlt : i < len
    · obtain ⟨k, rfl⟩ : ∃ k, gk = k + 1 := ⟨gk - 1, by omega⟩
      have hiz : (i : Int) < (len : Int) := by omega
      obtain ⟨b, off, rfl, hbl, hcell0⟩ := HC.out i hlt
      have hcell := (HB.out.cell (p := ⟨b, off + i, none⟩) hbl).trans hcell0
      have HI := Lib.hid (HN.out i (by have := HL.out; omega))
      unfold Nones at HI
      clear hcell0
      go_wp2_with (go_at_call 27; refine (HI.out _).mono ?_; rintro e w1 ⟨rfl, hb1⟩)
      go_roundg k
      case measure => omega
      case rel => exact ⟨i + 1, by omega, by simp, Lib.hid (HB.out.trans (hb1.mono HB.out.size))⟩
    · have hiz : ¬ (i : Int) < (len : Int) := by omega
      go_wp2_with fail
      go_ret
      exact ⟨rfl, HB.out⟩

set_option maxHeartbeats 1600000 in
theorem indexFunc_yes (v : Value) (u : Value) (hn : Nones u true) (w : World) (h : AnysAt w v [u]) :
    Calls Tryd.prog 40 #[v, (.func (.func 27) #[] #[])] w fun e w' => e = .returned (.int .i64 0) ∧ Below w.heap.size w w' := by
  obtain ⟨a, len, cap, rfl, rfl, hc⟩ := h
  have HN := Lib.hid hn
  unfold Nones at HN
  obtain ⟨b, off, rfl, hbl, hcell⟩ := hc 0 (by simp)
  have HC : Hid (w.cell? ⟨b, off, none⟩ = some u) := Lib.hid hcell
  clear hn hc hcell
  show Calls Tryd.prog 40 #[.slice (some ⟨b, off, none⟩) 1 cap, _] w _
  go_enter Tryd.func40, Tryd.ntmps40
  go_wp2_with fail
  go_loopg [5, 8] 1 (fun k s5 s8 wx => s8 = .int .i64 0 ∧ wx = w ∧ k = 1)
  case atStart => exact ⟨rfl, rfl, rfl⟩
  case round =>
    obtain ⟨rfl, rfl, rfl⟩ := hrel
    have hcell := HC.out
    go_wp2_with (go_at_call 27; refine (HN.out _).mono ?_; rintro e w1 ⟨rfl, hb1⟩)
    go_ret
    exact ⟨rfl, hb1⟩

theorem containsFunc_no (v : Value) (us : List Value) (hl : us.length ≤ 1000) (hn : ∀ i, i < us.length → Nones (us.getD i .nilIface) false) (w : World) (h : AnysAt w v us) :
    Calls Tryd.prog 26 #[v, (.func (.func 27) #[] #[])] w fun e w' => e = .returned (.bool false) ∧ Below w.heap.size w w' := by
  have H := Lib.hid (indexFunc_no v us hl hn w h)
  clear h hn hl
  go_enter Tryd.func26, Tryd.ntmps26
  go_wp2_with (go_at_call 40; refine H.out.mono ?_; rintro e w1 ⟨rfl, hb1⟩)
  go_ret
  exact ⟨rfl, hb1⟩
theorem containsFunc_yes (v : Value) (u : Value) (hn : Nones u true) (w : World) (h : AnysAt w v [u]) :
    Calls Tryd.prog 26 #[v, (.func (.func 27) #[] #[])] w fun e w' => e = .returned (.bool true) ∧ Below w.heap.size w w' := by
  have H := Lib.hid (indexFunc_yes v u hn w h)
  clear h hn
  go_enter Tryd.func26, Tryd.ntmps26
  go_wp2_with (go_at_call 40; refine H.out.mono ?_; rintro e w1 ⟨rfl, hb1⟩)
  go_ret
  exact ⟨rfl, hb1⟩

theorem compare_bad (v v' : Value) (u : Value) (w : World) (hb : Bad u) (h1 : AnysAt w v [u]) (h2 : AnysAt w v' [u]) :
  Calls Tryd.prog 16 #[v, v'] w fun e w' => e = .returned (.tuple #[.int .i64 0, .int .i64 1]) ∧ Below w.heap.size w w' := by
  have H := Lib.hid (containsFunc_yes v u (fun w => isNone_bad hb w) w h1)
  clear h1 h2 hb
  go_enter Tryd.func16, Tryd.ntmps16
  go_wp2_with (go_at_call 26; refine H.out.mono ?_; rintro e w1 ⟨rfl, hb1⟩)
  go_ret2
  exact ⟨rfl, hb1⟩

abbrev kv0 : KV × Bool := (.nil, false)
theorem map_getD (xs : List (KV × Bool)) (i : Nat) : (xs.map anyI).getD i .nilIface = anyI (xs.getD i kv0) := by
  simp only [List.getD, List.getElem?_map]
  cases xs[i]? <;> rfl
theorem getD_ok {xs : List (KV × Bool)} (h : ∀ x ∈ xs, x.1.ok) {i : Nat} (hi : i < xs.length) : (xs.getD i kv0).1.ok := by
  simp only [List.getD, List.getElem?_eq_getElem hi]
  exact h _ (List.getElem_mem hi)
theorem drop_kv {xs : List (KV × Bool)} {i : Nat} (hi : i < xs.length) : xs.drop i = xs.getD i kv0 :: xs.drop (i + 1) := by
  simp only [List.getD, List.getElem?_eq_getElem hi]
  exact List.drop_eq_getElem_cons hi
theorem cmpL_next {xs ys : List (KV × Bool)} {i : Nat} (h1 : i < xs.length) (h2 : i < ys.length) :
    cmpL (xs.drop i) (ys.drop i) = if cmpI (xs.getD i kv0) (ys.getD i kv0) = 0 then cmpL (xs.drop (i + 1)) (ys.drop (i + 1)) else cmpI (xs.getD i kv0) (ys.getD i kv0) := by
  rw [drop_kv h1, drop_kv h2]; rfl
theorem cmpL_over {xs ys : List (KV × Bool)} {i : Nat} (h1 : i < xs.length) (h2 : ys.length = i) : cmpL (xs.drop i) (ys.drop i) = 1 := by
  rw [drop_kv h1, List.drop_eq_nil_of_le (show ys.length ≤ i by omega)]; rfl
theorem cmpL_short {xs ys : List (KV × Bool)} {i : Nat} (h1 : xs.length = i) (h2 : i < ys.length) : cmpL (xs.drop i) (ys.drop i) = -1 := by
  rw [drop_kv h2, List.drop_eq_nil_of_le (show xs.length ≤ i by omega)]; rfl
theorem cmpL_both {xs ys : List (KV × Bool)} {i : Nat} (h1 : xs.length = i) (h2 : ys.length = i) : cmpL (xs.drop i) (ys.drop i) = 0 := by
  rw [List.drop_eq_nil_of_le (show xs.length ≤ i by omega), List.drop_eq_nil_of_le (show ys.length ≤ i by omega)]; rfl

set_option maxHeartbeats 4000000 in
theorem compareFunc_any (v v' : Value) (xs ys : List (KV × Bool)) (hx : ∀ x ∈ xs, x.1.ok) (hy : ∀ y ∈ ys, y.1.ok) (hl : xs.length ≤ 1000) (hl' : ys.length ≤ 1000) (w : World) (h : AnysAt w v (xs.map anyI)) (h' : AnysAt w v' (ys.map anyI)) :
    Calls Tryd.prog 28 #[v, v', (.func (.func 29) #[] #[])] w fun e w' => e = .returned (.int .i64 (cmpL xs ys)) ∧ Below w.heap.size w w' := by
  obtain ⟨a, len, cap, rfl, hlen, hc⟩ := h
  obtain ⟨a', len', cap', rfl, hlen', hc'⟩ := h'
  rw [List.length_map] at hlen hlen'
  have HX := Lib.hid (fun i hi => getD_ok (i := i) hx hi)
  have HY := Lib.hid (fun i hi => getD_ok (i := i) hy hi)
  have HC := Lib.hid hc
  have HC' := Lib.hid hc'
  have HL := Lib.hid hlen
  have HL' := Lib.hid hlen'
  have hl2 : len ≤ 1000 := by omega
  have hl2' : len' ≤ 1000 := by omega
  clear hc hc' hlen hlen' hl hl' hx hy
  go_enter Tryd.func28, Tryd.ntmps28
  go_wp2_with fail
  go_loopg [7, 8, 9, 10, 13] len (fun k s7 s8 s9 s10 s13 wx => ∃ i : Nat, i + k = len ∧ i ≤ len' ∧ s13 = .int .i64 i ∧ Hid (Below w.heap.size w wx) ∧ Hid (cmpL xs ys = cmpL (xs.drop i) (ys.drop i)))
  case atStart => exact ⟨0, by omega, by omega, rfl, Lib.hid (Below.refl _ _), Lib.hid rfl⟩
  case round =>
    obtain ⟨i, hig, hi', rfl, HB, heq⟩ := hrel
    by_cases h1 : i < len
    · obtain ⟨k, rfl⟩ : ∃ k, gk = k + 1 := ⟨gk - 1, by omega⟩
      have h1z : (i : Int) < (len : Int) := by omega
      obtain ⟨b, off, rfl, hbl, hcell0⟩ := HC.out i h1
      rw [map_getD] at hcell0
      have hcell := (HB.out.cell (p := ⟨b, off + i, none⟩) hbl).trans hcell0
      by_cases h2 : i < len'
      · have h2z : ¬ (len' : Int) ≤ (i : Int) := by omega
        have h3z : (i : Int) < (len' : Int) := by omega
        obtain ⟨b', off', rfl, hbl', hcell0'⟩ := HC'.out i h2
        rw [map_getD] at hcell0'
        have hcell' := (HB.out.cell (p := ⟨b', off' + i, none⟩) hbl').trans hcell0'
        have hst := Lib.hid (cmpL_next (xs := xs) (ys := ys) (i := i) (by have := HL.out; omega) (by have := HL'.out; omega))
        have hcm := Lib.hid (compareValues_any (xs.getD i kv0) (ys.getD i kv0) (HX.out i (by have := HL.out; omega)) (HY.out i (by have := HL'.out; omega)))
        clear hcell0 hcell0'
        obtain ⟨c, ec⟩ : ∃ c, c = cmpI (xs.getD i kv0) (ys.getD i kv0) := ⟨_, rfl⟩
        obtain ⟨u, eu⟩ : ∃ u, u = anyI (xs.getD i kv0) := ⟨_, rfl⟩
        obtain ⟨u', eu'⟩ : ∃ u', u' = anyI (ys.getD i kv0) := ⟨_, rfl⟩
        rw [← ec] at hst hcm
        rw [← eu] at hcell hcm
        rw [← eu'] at hcell' hcm
        clear ec eu eu'
        by_cases hc0 : c = 0
        · subst hc0
          have heq2 := Lib.hid (show cmpL xs ys = cmpL (xs.drop (i + 1)) (ys.drop (i + 1)) by rw [heq.out, hst.out, if_pos rfl])
          clear hst heq
          go_wp2_with (go_at_call 29; refine (hcm.out _).mono ?_; rintro e w1 ⟨rfl, hb1⟩)
          go_roundg k
          case measure => omega
          case rel => exact ⟨i + 1, by omega, by omega, by simp, Lib.hid (HB.out.trans (hb1.mono HB.out.size)), heq2⟩
        · have hc1 : (c == 0) = false := by rw [beq_eq_false_iff_ne]; exact hc0
          have hres := Lib.hid (show cmpL xs ys = c by rw [heq.out, hst.out, if_neg hc0])
          clear hc0 hst heq
          go_wp2_with (go_at_call 29; refine (hcm.out _).mono ?_; rintro e w1 ⟨rfl, hb1⟩)
          go_ret
          exact ⟨ret_int hres.out.symm, HB.out.trans (hb1.mono HB.out.size)⟩
      · have h2z : (len' : Int) ≤ (i : Int) := by omega
        have hres := Lib.hid (show cmpL xs ys = 1 by rw [heq.out]; exact cmpL_over (by have := HL.out; omega) (by have := HL'.out; omega))
        clear hcell0 heq
        go_wp2_with fail
        go_ret
        exact ⟨ret_int hres.out.symm, HB.out⟩
    · have h1z : ¬ (i : Int) < (len : Int) := by omega
      by_cases h2 : i < len'
      · have h2z : (len : Int) < (len' : Int) := by omega
        have hres := Lib.hid (show cmpL xs ys = -1 by rw [heq.out]; exact cmpL_short (by have := HL.out; omega) (by have := HL'.out; omega))
        clear heq
        go_wp2_with fail
        go_ret
        exact ⟨ret_int hres.out.symm, HB.out⟩
      · have h2z : ¬ (len : Int) < (len' : Int) := by omega
        have hres := Lib.hid (show cmpL xs ys = 0 by rw [heq.out]; exact cmpL_both (by have := HL.out; omega) (by have := HL'.out; omega))
        clear heq
        go_wp2_with fail
        go_ret
        exact ⟨ret_int hres.out.symm, HB.out⟩

set_option maxHeartbeats 1600000 in
theorem compare_items (v v' : Value) (xs ys : List (KV × Bool)) (hx : ∀ x ∈ xs, x.1.ok) (hy : ∀ y ∈ ys, y.1.ok) (hl : xs.length ≤ 1000) (hl' : ys.length ≤ 1000) (w : World) (h : AnysAt w v (xs.map anyI)) (h' : AnysAt w v' (ys.map anyI)) :
    Calls Tryd.prog 16 #[v, v'] w fun e w' => e = .returned (.tuple #[.int .i64 (cmpL xs ys), .int .i64 0]) ∧ Below w.heap.size w w' := by
  have H1 := Lib.hid (containsFunc_no v _ (by simpa using hl) (fun i hi => by rw [map_getD]; exact fun w => isNone_item _ (getD_ok hx (by simpa using hi)) w) w h)
  have H2 := Lib.hid (fun w1 (hb : Below w.heap.size w w1) => containsFunc_no v' _ (by simpa using hl') (fun i hi => by rw [map_getD]; exact fun w => isNone_item _ (getD_ok hy (by simpa using hi)) w) w1 (h'.below hb))
  have H3 := Lib.hid (fun w1 (hb : Below w.heap.size w w1) => compareFunc_any v v' xs ys hx hy hl hl' w1 (h.below hb) (h'.below hb))
  clear h h' hx hy hl hl'
  go_enter Tryd.func16, Tryd.ntmps16
  go_wp2_with fail
  refine H1.out.mono ?_
  rintro e w1 ⟨rfl, hb1⟩
  have B1 := Lib.hid hb1
  clear hb1
  go_wp2_with fail
  refine (H2.out _ B1.out).mono ?_
  rintro e w2 ⟨rfl, hb2⟩
  have B2 := Lib.hid (B1.out.trans (hb2.mono B1.out.size))
  clear hb2
  go_wp2_with fail
  refine (H3.out _ B2.out).mono ?_
  rintro e w3 ⟨rfl, hb3⟩
  go_wp2_with fail
  go_ret2
  exact ⟨rfl, B2.out.trans (hb3.mono B2.out.size)⟩

theorem cmpOK : CmpOK := fun v v' xs ys w h h' hs hs' =>
  compare_items v v' xs ys (fun x hx => (hs.1 x hx).1) (fun y hy => (hs'.1 y hy).1) (by have := hs.2; omega) (by have := hs'.2; omega) w h h'
end Go.Proofs.YtnjbeemahfoaiaaDoor
