/-
  An argument that is a slice of versions, opened to its cells.
-/
import Derived.Test.YtahohdbkkcdmiaaChnMath
import Derived.Test.YtahohdbkkcdmiaaRows
import Derived.OpenShut
import Derived.Deep.Slices
import Derived.Deep.Strs
namespace Go.Proofs.Ytahohdbkkcdmiaa
open Go.RowKit Go.ChangeShapes Go.WideShapes Go.Deep
set_option linter.unnecessarySimpa false
set_option linter.unusedVariables false
set_option linter.unusedSimpArgs false
set_option maxRecDepth 100000

/-- Versions that a slice has. -/
def VersAt (W : World) (a : Option Addr) (len : Nat) (zs : List Vr) : Prop :=
  zs.length = len ∧ ∀ i, i < len → ∃ b off, a = some ⟨b, off, none⟩ ∧ b < W.heap.size ∧ (zs.getD i vr0).time < 18446744073709551616 ∧ (zs.getD i vr0).val.size ≤ maxLen ∧
    W.cell? ⟨b, off + i * 3, none⟩ = some (.int .u64 ((zs.getD i vr0).time : Int)) ∧ W.cell? ⟨b, off + i * 3 + 1, none⟩ = some (.bool (zs.getD i vr0).gone) ∧ W.cell? ⟨b, off + i * 3 + 2, none⟩ = some (.string (zs.getD i vr0).val)
def IsVers (W : World) (a : Option Addr) (len _cap : Nat) (zs : List Vr) : Prop := VersAt W a len zs ∧ len ≤ maxLen

theorem ver_cells : Try.prog.cellsOf 38 = 3 := by kernel_rfl
theorem v_str_cells : Try.prog.cellsOf 9 = 1 := by kernel_rfl
theorem v_u64_cells : Try.prog.cellsOf 34 = 1 := by kernel_rfl
theorem v_bool_cells : Try.prog.cellsOf 4 = 1 := by kernel_rfl

theorem v_cut3 {α : Type} {cs : List α} {x y z : α} (h0 : (cs.drop 0).take 1 = [x]) (h1 : (cs.drop 1).take 1 = [y]) (h2 : (cs.drop 2).take 1 = [z]) : cs[0]? = some x ∧ cs[1]? = some y ∧ cs[2]? = some z := by
  refine ⟨?_, ?_, ?_⟩
  · have := congrArg (·[0]?) h0; simpa using this
  · have := congrArg (·[0]?) h1; simpa using this
  · have := congrArg (·[0]?) h2; simpa using this

theorem open_IsVers {H : Type} {enc : TypeId × Value → H} {W : World} {a : Option Addr} {len cap : Nat} {d : DataW H} {p : List MemPlace}
    (h : DataW.Trod enc Try.prog W 0 (fun _ => true) true 22 (.slice a len cap) d p) : ∃ zs, IsVers W a len cap zs := by
  obtain ⟨fuel, hf⟩ := h
  rcases open_slice Try.underlying22 hf with ⟨hcs, _⟩ | ⟨a', len', cap', m, n, D, Pl, hcs, _, hl, hm, hmm, _, hi⟩
  · simp [Value.cells] at hcs
    obtain ⟨rfl, rfl, rfl⟩ := hcs
    exact ⟨[], ⟨rfl, fun i hi => by omega⟩, Nat.zero_le _⟩
  · simp [Value.cells] at hcs
    obtain ⟨rfl, rfl, rfl⟩ := hcs
    simp only [if_true] at hmm
    have key : ∀ i, ∃ z : Vr, i < len → ∃ b off, some a' = some ⟨b, off, none⟩ ∧ b < W.heap.size ∧ z.time < 18446744073709551616 ∧ z.val.size ≤ maxLen ∧ W.cell? ⟨b, off + i * 3, none⟩ = some (.int .u64 (z.time : Int)) ∧
        W.cell? ⟨b, off + i * 3 + 1, none⟩ = some (.bool z.gone) ∧ W.cell? ⟨b, off + i * 3 + 2, none⟩ = some (.string z.val) := by
      intro i
      by_cases hil : i < len
      · obtain ⟨cs', hc, ht⟩ := hi i (by omega)
        rw [ver_cells] at hc
        obtain ⟨_, hcl, hat⟩ := World.cells?_some hc
        obtain ⟨y0, y1, y2, n', _, _, g0, g1, g2⟩ := trod_struct3 Try.underlying38 ht
        simp only [v_str_cells, v_u64_cells, v_bool_cells] at g0 g1 g2
        obtain ⟨k1, e0, _, wk1⟩ := DataW.trod_int Try.underlying34 g0
        obtain ⟨k2, e1, _⟩ := DataW.trod_bool Try.underlying4 g1
        obtain ⟨s, e2, _, hsz⟩ := DataW.trod_string Try.underlying9 g2
        obtain ⟨x0, x1, x2⟩ := v_cut3 e0 e1 e2
        have b1 := bounds_u64 wk1
        obtain ⟨d1, rfl⟩ := Int.eq_ofNat_of_zero_le b1.1
        have q0 := (hat 0 (by omega)).trans x0
        have q1 := (hat 1 (by omega)).trans x1
        have q2 := (hat 2 (by omega)).trans x2
        obtain ⟨b, off, spot⟩ := a'
        obtain ⟨cs0, hc0, _⟩ := hi 0 (by omega)
        rw [ver_cells] at hc0
        obtain ⟨_, hcl0, hat0⟩ := World.cells?_some hc0
        have q00 := hat0 0 (by omega)
        rw [List.getElem?_eq_getElem (show 0 < cs0.length by omega)] at q00
        have hspot : spot = none := by simpa [Addr.add] using World.cell?_spot q00
        subst hspot
        simp only [Addr.add_lit, Nat.add_zero] at q0 q1 q2
        exact ⟨⟨d1, k2, s⟩, fun _ => ⟨b, off, rfl, World.block_lt_of_cell? W _ q0, by simp only; omega, by simp only; exact hsz, q0, q1, q2⟩⟩
      · exact ⟨vr0, fun h => absurd h hil⟩
    obtain ⟨f, hfz⟩ := Classical.skolem.1 key
    refine ⟨(List.range len).map f, ⟨by simp, fun i hil => ?_⟩, by omega⟩
    have e : ((List.range len).map f).getD i vr0 = f i := by simp [List.getD, hil]
    rw [e]
    exact hfz i hil
end Go.Proofs.Ytahohdbkkcdmiaa
