/-
  An argument that is a slice of parts, opened to its cells.
-/
import Derived.Test.YtdkkbplkclcabaaLzJoin
import Derived.ProofKit
import Derived.OpenShut
import Derived.Deep.Slices
import Derived.Deep.Strs
namespace Go.Proofs.Ytdkkbplkclcabaa
open Go.RowKit Go.ChangeShapes Go.WideShapes Go.Deep
set_option linter.unnecessarySimpa false
set_option linter.unusedVariables false
set_option linter.unusedSimpArgs false
set_option maxRecDepth 100000

def IsParts (W : World) (a : Option Addr) (len _cap : Nat) (zs : List Prt) : Prop := PartsAt W a len zs ∧ len ≤ maxLen

theorem part_cells : Try.prog.cellsOf 31 = 3 := by kernel_rfl
theorem p_str_cells : Try.prog.cellsOf 9 = 1 := by kernel_rfl
theorem p_u16_cells : Try.prog.cellsOf 29 = 1 := by kernel_rfl

theorem p_cut3 {α : Type} {cs : List α} {x y z : α} (h0 : (cs.drop 0).take 1 = [x]) (h1 : (cs.drop 1).take 1 = [y]) (h2 : (cs.drop 2).take 1 = [z]) : cs[0]? = some x ∧ cs[1]? = some y ∧ cs[2]? = some z := by
  refine ⟨?_, ?_, ?_⟩
  · have := congrArg (·[0]?) h0; simpa using this
  · have := congrArg (·[0]?) h1; simpa using this
  · have := congrArg (·[0]?) h2; simpa using this

theorem open_IsParts {H : Type} {enc : TypeId × Value → H} {W : World} {a : Option Addr} {len cap : Nat} {d : DataW H} {p : List MemPlace}
    (h : DataW.Trod enc Try.prog W 0 (fun _ => true) true 28 (.slice a len cap) d p) : ∃ zs, IsParts W a len cap zs := by
  obtain ⟨fuel, hf⟩ := h
  rcases open_slice Try.underlying28 hf with ⟨hcs, _⟩ | ⟨a', len', cap', m, n, D, Pl, hcs, _, hl, hm, hmm, _, hi⟩
  · simp [Value.cells] at hcs
    obtain ⟨rfl, rfl, rfl⟩ := hcs
    exact ⟨[], ⟨rfl, fun i hi => by omega⟩, Nat.zero_le _⟩
  · simp [Value.cells] at hcs
    obtain ⟨rfl, rfl, rfl⟩ := hcs
    simp only [if_true] at hmm
    have key : ∀ i, ∃ z : Prt, i < len → ∃ b off, some a' = some ⟨b, off, none⟩ ∧ b < W.heap.size ∧ z.2.1 < 65536 ∧ z.2.2 < 65536 ∧ W.cell? ⟨b, off + i * 3, none⟩ = some (.string z.1) ∧
        W.cell? ⟨b, off + i * 3 + 1, none⟩ = some (.int .u16 z.2.1) ∧ W.cell? ⟨b, off + i * 3 + 2, none⟩ = some (.int .u16 z.2.2) := by
      intro i
      by_cases hil : i < len
      · obtain ⟨cs', hc, ht⟩ := hi i (by omega)
        rw [part_cells] at hc
        obtain ⟨_, hcl, hat⟩ := World.cells?_some hc
        obtain ⟨y0, y1, y2, n', _, _, g0, g1, g2⟩ := trod_struct3 Try.underlying31 ht
        simp only [p_str_cells, p_u16_cells] at g0 g1 g2
        obtain ⟨s, e0, _, _⟩ := DataW.trod_string Try.underlying9 g0
        obtain ⟨k1, e1, _, wk1⟩ := DataW.trod_int Try.underlying29 g1
        obtain ⟨k2, e2, _, wk2⟩ := DataW.trod_int Try.underlying29 g2
        obtain ⟨x0, x1, x2⟩ := p_cut3 e0 e1 e2
        have b1 := bounds_u16 wk1
        have b2 := bounds_u16 wk2
        obtain ⟨d1, rfl⟩ := Int.eq_ofNat_of_zero_le b1.1
        obtain ⟨d2, rfl⟩ := Int.eq_ofNat_of_zero_le b2.1
        have q0 := (hat 0 (by omega)).trans x0
        have q1 := (hat 1 (by omega)).trans x1
        have q2 := (hat 2 (by omega)).trans x2
        obtain ⟨b, off, spot⟩ := a'
        obtain ⟨cs0, hc0, _⟩ := hi 0 (by omega)
        rw [part_cells] at hc0
        obtain ⟨_, hcl0, hat0⟩ := World.cells?_some hc0
        have q00 := hat0 0 (by omega)
        rw [List.getElem?_eq_getElem (show 0 < cs0.length by omega)] at q00
        have hspot : spot = none := by simpa [Addr.add] using World.cell?_spot q00
        subst hspot
        simp only [Addr.add_lit, Nat.add_zero] at q0 q1 q2
        exact ⟨(s, d1, d2), fun _ => ⟨b, off, rfl, World.block_lt_of_cell? W _ q0, by simp only; omega, by simp only; omega, q0, q1, q2⟩⟩
      · exact ⟨prt0, fun h => absurd h hil⟩
    obtain ⟨f, hfz⟩ := Classical.skolem.1 key
    refine ⟨(List.range len).map f, ⟨by simp, fun i hil => ?_⟩, by omega⟩
    have e : ((List.range len).map f).getD i prt0 = f i := by simp [List.getD, hil]
    rw [e]
    exact hfz i hil
end Go.Proofs.Ytdkkbplkclcabaa
