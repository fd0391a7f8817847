/-
  The program's net: New, Len, has, To, Version; a frame with a bit turned.
-/
import Derived.Test.YtbhlgceicfjncaaSet14
import Derived.Test.YtbhlgceicfjncaaSet17
import Derived.Test.YtbhlgceicfjncaaSet18
import Derived.Test.YtbhlgceicfjncaaSet03
namespace Go.Proofs.Ytbhlgceicfjncaa
open Go.RowKit
set_option linter.unusedVariables false
set_option linter.unnecessarySimpa false
set_option linter.unusedSimpArgs false
set_option maxRecDepth 100000

theorem bodyPost_noneR {P : Program} {fn : Func} {R : Ending → World → Prop} {a : Act} {w : World} (hr : fn.results = #[]) (hd : a.defers = []) (hR : R (.returned (.tuple #[])) w) : bodyPost P fn R .ret a w :=
  bodyPost_ret (v := .tuple #[]) (by simp [results, hr]) hd hR
theorem netBuilt : Try.prog.built 61 [(0, .agg tab)] = some (nRow (.slice none 0 0)) := by kernel_rfl
set_option maxHeartbeats 1000000 in
theorem net_new (w : World) : Calls Try.prog 6 #[.agg tab] w fun e w' => e = .returned (.pointer (some ⟨w.heap.size + 1, 0, none⟩)) ∧ NetV w' (w.heap.size + 1) (.slice none 0 0) [] ∧ Below w.heap.size w w' := by
  have hrow := Lib.hid (heap_alloc_last w (.cells tab 28))
  have hb := Lib.hid netBuilt
  obtain ⟨C, hC⟩ : ∃ C, C = nRow (.slice none 0 0) := ⟨_, rfl⟩
  rw [← hC] at hb
  go_enter Try.func6, Try.ntmps6
  go_wp2_with (first
    | (refine wpList_load_row rfl 28 _ rfl w.heap.size rfl 28 tab (0, 0) _ hrow.out Try.underlying28 rfl tableSize ?_; dsimp only [Act.put])
    | (refine wpList_buildIs rfl 61 _ rfl C (by first | exact hb.out | (simp only [List.map_toArray, List.map_cons, List.map_nil, Act.eval, Act.put]; exact hb.out)) ?_; dsimp only [Act.put]))
  go_ret
  refine ⟨by simp, ⟨?_, ⟨rfl, .inl ⟨rfl, rfl⟩⟩⟩, ((Below.refl _ _).alloc (Nat.le_refl _) _).alloc (by simp) _⟩
  rw [← hC]
  have := heap_alloc_last (w.alloc (.cells tab 28)) (.cells C 61)
  simpa using this
set_option maxHeartbeats 800000 in
theorem net_len {w : World} {g : Nat} {v : Value} {J : List Wj} (h : NetV w g v J) :
    Calls Try.prog 16 #[.pointer (some ⟨g, 0, none⟩)] w fun e w' => e = .returned (.int .i64 (J.length : Int)) ∧ w = w' := by
  obtain ⟨a, c, rfl, _, _⟩ := h.slice
  have c0 := h.c
  clear h
  go_enter Try.func16, Try.ntmps16
  go_wp2_with fail
  go_ret
  exact ⟨rfl, rfl⟩
set_option maxHeartbeats 800000 in
theorem net_has {w : World} {g : Nat} {v : Value} {J : List Wj} (h : NetV w g v J) (i : Int) :
    Calls Try.prog 23 #[.pointer (some ⟨g, 0, none⟩), .int .i64 i] w fun e w' => e = .returned (.bool (hasW J i)) ∧ w = w' := by
  obtain ⟨a, c, rfl, _, _⟩ := h.slice
  have c0 := h.c
  clear h
  unfold hasW
  obtain ⟨n, hn⟩ : ∃ n, n = J.length := ⟨_, rfl⟩
  rw [← hn] at c0 ⊢
  clear hn
  by_cases h0 : 0 ≤ i
  · have e1 : decide (0 ≤ i ∧ i < (n : Int)) = decide (i < (n : Int)) := by simp [h0]
    rw [e1]
    have d0 : decide (0 ≤ i) = true := by simpa using h0
    go_enter Try.func23, Try.ntmps23
    go_wp2_with fail
    go_ret
    exact ⟨rfl, rfl⟩
  · have e1 : decide (0 ≤ i ∧ i < (n : Int)) = false := by rw [decide_eq_false_iff_not]; exact fun h => h0 h.1
    rw [e1]
    have d0 : decide (0 ≤ i) = false := by simpa using h0
    go_enter Try.func23, Try.ntmps23
    go_wp2_with fail
    go_ret
    exact ⟨rfl, rfl⟩
def toJ (J : List Wj) (i : Int) : Int := if hasW J i then (J.getD i.toNat wj0).m.to_ else -1
def verJ (J : List Wj) (i : Int) : Int := if hasW J i then (J.getD i.toNat wj0).v else 0
set_option maxHeartbeats 1600000 in
theorem net_to {w : World} {g : Nat} {v : Value} {J : List Wj} (h : NetV w g v J) (i : Int) :
    Calls Try.prog 17 #[.pointer (some ⟨g, 0, none⟩), .int .i64 i] w fun e w' => e = .returned (.int .i64 (toJ J i)) ∧ w = w' := by
  have HH := Lib.hid (net_has h i)
  unfold toJ
  cases hb : hasW J i with
  | false =>
    rw [hb] at HH
    clear h hb
    go_enter Try.func17, Try.ntmps17
    go_wp2_with (go_at_call 23; (with_reducible refine HH.out.mono ?_); rintro e w1 ⟨rfl, rfl⟩)
    go_ret
    exact ⟨rfl, rfl⟩
  | true =>
    rw [hb] at HH
    have hi := hasW_iff.1 hb
    obtain ⟨j, rfl⟩ : ∃ j : Nat, i = (j : Int) := ⟨i.toNat, by omega⟩
    obtain ⟨k, c, rfl, hk⟩ := h.at_ (i := j) (by omega)
    have c0 := h.c
    have c1 := hk 0 (by decide)
    simp only [Wj.oc, List.getElem?_cons_zero, Nat.add_zero] at c1
    obtain ⟨n, hn⟩ : ∃ n, n = J.length := ⟨_, rfl⟩
    rw [← hn] at c0 hi
    rw [show (j : Int).toNat = j from Int.toNat_natCast j]
    obtain ⟨x, hx⟩ : ∃ x, x = J.getD j wj0 := ⟨_, rfl⟩
    rw [← hx] at c1 ⊢
    obtain ⟨h1, h2⟩ := hi
    clear h hb hk hn hx
    go_enter Try.func17, Try.ntmps17
    go_wp2_with (go_at_call 23; (with_reducible refine HH.out.mono ?_); rintro e w1 ⟨rfl, rfl⟩)
    go_ret
    exact ⟨rfl, rfl⟩
set_option maxHeartbeats 1600000 in
theorem net_ver {w : World} {g : Nat} {v : Value} {J : List Wj} (h : NetV w g v J) (i : Int) :
    Calls Try.prog 18 #[.pointer (some ⟨g, 0, none⟩), .int .i64 i] w fun e w' => e = .returned (.int .i64 (verJ J i)) ∧ w = w' := by
  have HH := Lib.hid (net_has h i)
  unfold verJ
  cases hb : hasW J i with
  | false =>
    rw [hb] at HH
    clear h hb
    go_enter Try.func18, Try.ntmps18
    go_wp2_with (go_at_call 23; (with_reducible refine HH.out.mono ?_); rintro e w1 ⟨rfl, rfl⟩)
    go_ret
    exact ⟨rfl, rfl⟩
  | true =>
    rw [hb] at HH
    have hi := hasW_iff.1 hb
    obtain ⟨j, rfl⟩ : ∃ j : Nat, i = (j : Int) := ⟨i.toNat, by omega⟩
    obtain ⟨k, c, rfl, hk⟩ := h.at_ (i := j) (by omega)
    have c0 := h.c
    have c1 := hk 1 (by decide)
    simp only [Wj.oc, List.getElem?_cons_zero, List.getElem?_cons_succ] at c1
    obtain ⟨n, hn⟩ : ∃ n, n = J.length := ⟨_, rfl⟩
    rw [← hn] at c0 hi
    rw [show (j : Int).toNat = j from Int.toNat_natCast j]
    obtain ⟨x, hx⟩ : ∃ x, x = J.getD j wj0 := ⟨_, rfl⟩
    rw [← hx] at c1 ⊢
    obtain ⟨h1, h2⟩ := hi
    clear h hb hk hn hx
    go_enter Try.func18, Try.ntmps18
    go_wp2_with (go_at_call 23; (with_reducible refine HH.out.mono ?_); rintro e w1 ⟨rfl, rfl⟩)
    go_ret
    exact ⟨rfl, rfl⟩

/-- A bit turned, as the program puts it together. -/
theorem turnS_parts (b : ByteArray) {k : Nat} (h : 4 + k / 8 < b.size) :
    b.extract 0 (4 + k / 8) ++ ⟨#[xorB (b.data.toList.getD (4 + k / 8) 0) (k % 8)]⟩ ++ b.extract (4 + k / 8 + 1) b.size = turnS b k := by
  have hb : ∀ a c : ByteArray, a.data.toList = c.data.toList → a = c := fun a c h => by
    cases a; cases c; simp only [ByteArray.mk.injEq]; exact Array.toList_inj.1 h
  apply hb
  have hs := Lib.size_eq b
  have hd : (turnS b k).data.toList = turnL b.data.toList k := rfl
  rw [hd]
  unfold turnL
  rw [List.set_eq_take_append_cons_drop, if_pos (by omega)]
  simp only [ByteArray.data_append, Array.toList_append, ByteArray.data_extract, Array.toList_extract, List.drop_zero]
  rw [List.extract_eq_take_drop, List.extract_eq_take_drop, List.drop_zero, Nat.sub_zero, List.take_of_length_le (l := b.data.toList.drop (4 + k / 8 + 1)) (by rw [List.length_drop]; first | omega | (rw [← hs]; omega) | exact Nat.le_refl _)]
  simp
end Go.Proofs.Ytbhlgceicfjncaa
