/-
  The walks of the program's splitter: New, Broken, Waiting, Next; missing; payloadOf.
-/
import Derived.Test.YtbhlgceicfjncaaSet13
namespace Go.Proofs.Ytbhlgceicfjncaa
open Go.RowKit
set_option linter.unusedVariables false
set_option linter.unnecessarySimpa false
set_option linter.unusedSimpArgs false
set_option maxRecDepth 100000

/-- A struct is built, its cells said. -/
theorem wpList_buildIs {P : Program} {ops : Array Oper} {rest : List Oper} {o : Oper} {a : Act} {w : World} {Q : Exit → Act → World → Prop} (hg : o.guard = none) (t : TypeId) (parts : Array (Nat × Operand)) (ho : o.op = .build t parts)
    (cells : Array Value) (hf : P.built t (parts.map fun (i, x) => (i, a.eval x)).toList = some cells)
    (h : wpList P ops Q rest (a.put o.dst (.agg cells)) w) : wpList P ops Q (o :: rest) a w := by
  refine wpList_build hg t parts ho (by rw [hf]; rfl) ?_
  rw [hf]
  exact h
theorem splBuilt : Try.prog.built 94 [(0, .agg tab)] = some (sRow (.slice none 0 0) (.slice none 0 0) false) := by kernel_rfl

set_option maxHeartbeats 1000000 in
theorem splNew (w : World) : Calls Try.prog 24 #[.agg tab] w fun e w' => e = .returned (.pointer (some ⟨w.heap.size + 1, 0, none⟩)) ∧ SpAt w' (w.heap.size + 1) (.slice none 0 0) (.slice none 0 0) false ∧ Below w.heap.size w w' := by
  have hrow := Lib.hid (heap_alloc_last w (.cells tab 28))
  have hb := Lib.hid splBuilt
  obtain ⟨C, hC⟩ : ∃ C, C = sRow (.slice none 0 0) (.slice none 0 0) false := ⟨_, rfl⟩
  rw [← hC] at hb
  go_enter Try.func24, Try.ntmps24
  go_wp2_with (first
    | (refine wpList_load_row rfl 28 _ rfl w.heap.size rfl 28 tab (0, 0) _ hrow.out Try.underlying28 rfl tableSize ?_; dsimp only [Act.put])
    | (refine wpList_buildIs rfl 94 _ rfl C (by first | exact hb.out | (simp only [List.map_toArray, List.map_cons, List.map_nil, Act.eval, Act.put]; exact hb.out)) ?_; dsimp only [Act.put]))
  go_ret
  refine ⟨by simp, ?_, ((Below.refl _ _).alloc (Nat.le_refl _) _).alloc (by simp) _⟩
  unfold SpAt
  rw [← hC]
  have := heap_alloc_last (w.alloc (.cells tab 28)) (.cells C 94)
  simpa using this

/-- Payloads that wait, of which some may have been told: the slice value. -/
def Told (B : Nat) (w : World) (a : Option Addr) (c : Nat) (ps : List ByteArray) : Prop :=
  ps ≠ [] → ∃ h o cur, a = some ⟨h, o, none⟩ ∧ B ≤ h ∧ w.heap[h]? = some (.cells cur 9 (0, 0)) ∧ ps.length ≤ c ∧ o + c = cur.size ∧ ∀ j p, ps[j]? = some p → cur[o + j]? = some (.string p)

set_option maxHeartbeats 800000 in
theorem splNext0 {w : World} {g c : Nat} {a : Option Addr} {p : Value} {b : Bool} (h : SpAt w g p (.slice a 0 c) b) :
    Calls Try.prog 26 #[.pointer (some ⟨g, 0, none⟩)] w fun e w' => e = .returned (.tuple #[.string ⟨#[]⟩, .bool false]) ∧ w = w' := by
  have c := h.cq
  clear h
  go_enter Try.func26, Try.ntmps26
  go_wp2_with fail
  go_ret2
  exact ⟨rfl, rfl⟩

set_option maxHeartbeats 2000000 in
theorem splNext {B : Nat} {w : World} {g c n : Nat} {a : Option Addr} {p : Value} {b : Bool} {s : ByteArray} {ps : List ByteArray} (h : SpAt w g p (.slice a (n + 1) c) b) (hB : B ≤ g) (hn : n = ps.length) (hc : c ≤ maxLen) (ht : Told B w a c (s :: ps)) :
    Calls Try.prog 26 #[.pointer (some ⟨g, 0, none⟩)] w fun e w' => e = .returned (.tuple #[.string s, .bool true]) ∧ (∃ a' c', SpAt w' g p (.slice a' n c') b ∧ Told B w' a' c' ps ∧ c' ≤ maxLen) ∧ Below B w w' := by
  obtain ⟨hh, o, cur, rfl, hBh, hrow, hlc, hoc, hcells⟩ := ht (by simp)
  have hne : hh ≠ g := fun e => by
    subst e; unfold SpAt at h; rw [hrow] at h; simp at h
  have h0 := hcells 0 s rfl
  rw [Nat.add_zero] at h0
  have c0 : w.cell? ⟨hh, o, none⟩ = some (.string s) := by rw [cell_of_row _ _ _ _ _ _ hrow]; exact h0
  have f0 : w.frozen? ⟨hh, o, none⟩ = false := frozen_of_row w hh o _ _ hrow
  have H := Lib.hid h
  have cq := h.cq
  have fq := h.fz 257
  have hg := h.lt
  have hl : n + 1 ≤ c := by rw [hn]; simpa using hlc
  have HC := Lib.hid hcells
  have HR := Lib.hid hrow
  have hnz : ((n : Int) + 1 == 0) = false := by rw [beq_eq_false_iff_ne]; omega
  have HN := Lib.hid hn
  have H2 := Lib.hid (show SpAt (w.setCell ⟨hh, o, none⟩ (.string ⟨#[]⟩)) g p (.slice (some ⟨hh, o, none⟩) (n + 1) c) b by unfold SpAt; rw [heap_setCell_other w ⟨hh, o, none⟩ g _ (fun e => hne e.symm)]; exact h)
  have cq2 := H2.out.cq
  have fq2 := H2.out.fz 257
  have HR2 := Lib.hid (heap_setCell_same w hh o cur 9 (.string ⟨#[]⟩) hrow)
  have HOC := Lib.hid hoc
  have hcm : (c : Int) ≤ 9223372036854775807 := by unfold maxLen at hc; omega
  have HCM := Lib.hid hc
  have hl1 : (1 : Int) ≤ (c : Int) := by omega
  have hl3 : (1 : Int) ≤ (n : Int) + 1 := by omega
  have hl2 : (n : Int) + 1 ≤ (c : Int) := by omega
  have hln : (n : Int) + 1 - 1 = n := by omega
  clear h ht hcells hrow hn hc
  by_cases hc1 : c = 1
  · subst hc1
    obtain rfl : n = 0 := by omega
    go_enter Try.func26, Try.ntmps26
    go_wp2_with fail
    go_ret2
    refine ⟨rfl, ⟨_, _, H2.out.setq _, fun hne0 => absurd (List.length_eq_zero_iff.1 HN.out.symm) hne0, by decide⟩, ?_⟩
    exact ((Below.refl B w).setCell hBh _).setCell hB _
  · have hc2 : ¬ (1 : Int) = (c : Int) := by omega
    go_enter Try.func26, Try.ntmps26
    go_wp2_with fail
    go_ret2
    refine ⟨rfl, ⟨_, _, H2.out.setq _, fun _ => ⟨hh, o + 1, cur.setIfInBounds o (.string ⟨#[]⟩), rfl, hBh, ?_, by have := HN.out; omega, ?_, fun j q hq => ?_⟩, Nat.le_trans (Nat.sub_le _ _) HCM.out⟩, ?_⟩
    · rw [heap_setCell_other _ ⟨g, 257, none⟩ hh _ (fun e => hne e)]
      exact HR2.out
    · have := HOC.out
      rw [Array.size_setIfInBounds]; omega
    · have := HC.out (j + 1) q (by simpa using hq)
      rw [Array.getElem?_setIfInBounds_ne (by omega), show o + 1 + j = o + (j + 1) by omega]
      exact this
    · exact ((Below.refl B w).setCell hBh _).setCell hB _
end Go.Proofs.Ytbhlgceicfjncaa
