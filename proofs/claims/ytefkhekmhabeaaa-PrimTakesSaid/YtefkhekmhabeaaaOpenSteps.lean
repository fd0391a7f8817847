/-
  An argument that is a slice of steps, opened to its cells.
-/
import Derived.Test.YtefkhekmhabeaaaTakes
import Derived.ProofKit
import Derived.OpenShut
import Derived.Deep.Slices
import Derived.Deep.Strs
namespace Go.Proofs.Ytefkhekmhabeaaa
open Go.RowKit Go.ChangeShapes Go.WideShapes Go.Deep

def IsSteps (W : World) (a : Option Addr) (len _cap : Nat) (zs : List Stp) : Prop := StepsAt W a len zs ∧ len ≤ maxLen

theorem step_cells : Try.prog.cellsOf 37 = 3 := by kernel_rfl
theorem u8_cells : Try.prog.cellsOf 5 = 1 := by kernel_rfl
theorem int_cells : Try.prog.cellsOf 3 = 1 := by kernel_rfl
theorem bool_cells : Try.prog.cellsOf 4 = 1 := by kernel_rfl

theorem cut3 {α : Type} {cs : List α} {x y z : α} (h0 : (cs.drop 0).take 1 = [x]) (h1 : (cs.drop 1).take 1 = [y]) (h2 : (cs.drop 2).take 1 = [z]) : cs[0]? = some x ∧ cs[1]? = some y ∧ cs[2]? = some z := by
  refine ⟨?_, ?_, ?_⟩
  · have := congrArg (·[0]?) h0; simpa using this
  · have := congrArg (·[0]?) h1; simpa using this
  · have := congrArg (·[0]?) h2; simpa using this

theorem open_IsSteps {H : Type} {enc : TypeId × Value → H} {W : World} {a : Option Addr} {len cap : Nat} {d : DataW H} {p : List MemPlace}
    (h : DataW.Trod enc Try.prog W 0 (fun _ => true) true 29 (.slice a len cap) d p) : ∃ zs, IsSteps W a len cap zs := by
  obtain ⟨fuel, hf⟩ := h
  rcases open_slice Try.underlying29 hf with ⟨hcs, _⟩ | ⟨a', len', cap', m, n, D, Pl, hcs, _, hl, hm, hmm, _, hi⟩
  · simp [Value.cells] at hcs
    obtain ⟨rfl, rfl, rfl⟩ := hcs
    exact ⟨[], ⟨rfl, fun i hi => by omega⟩, Nat.zero_le _⟩
  · simp [Value.cells] at hcs
    obtain ⟨rfl, rfl, rfl⟩ := hcs
    simp only [if_true] at hmm
    have key : ∀ i, ∃ z : Stp, i < len → ∃ b off, some a' = some ⟨b, off, none⟩ ∧ b < W.heap.size ∧ z.1 < 256 ∧ W.cell? ⟨b, off + i * 3, none⟩ = some (.int .u8 z.1) ∧
        W.cell? ⟨b, off + i * 3 + 1, none⟩ = some (.int .i64 z.2.1) ∧ W.cell? ⟨b, off + i * 3 + 2, none⟩ = some (.bool z.2.2) := by
      intro i
      by_cases hil : i < len
      · obtain ⟨cs', hc, ht⟩ := hi i (by omega)
        rw [step_cells] at hc
        obtain ⟨_, hcl, hat⟩ := World.cells?_some hc
        obtain ⟨y0, y1, y2, n', _, _, g0, g1, g2⟩ := trod_struct3 Try.underlying37 ht
        simp only [u8_cells, int_cells, bool_cells] at g0 g1 g2
        obtain ⟨k, e0, _, wk⟩ := DataW.trod_int Try.underlying5 g0
        obtain ⟨sz, e1, _, _⟩ := DataW.trod_int Try.underlying3 g1
        obtain ⟨bg, e2, _⟩ := DataW.trod_bool Try.underlying4 g2
        obtain ⟨x0, x1, x2⟩ := cut3 e0 e1 e2
        have b8 := bounds_u8 wk
        obtain ⟨kd, rfl⟩ := Int.eq_ofNat_of_zero_le b8.1
        have q0 := (hat 0 (by omega)).trans x0
        have q1 := (hat 1 (by omega)).trans x1
        have q2 := (hat 2 (by omega)).trans x2
        obtain ⟨b, off, spot⟩ := a'
        obtain ⟨cs0, hc0, _⟩ := hi 0 (by omega)
        rw [step_cells] at hc0
        obtain ⟨_, hcl0, hat0⟩ := World.cells?_some hc0
        have q00 := hat0 0 (by omega)
        rw [List.getElem?_eq_getElem (show 0 < cs0.length by omega)] at q00
        have hspot : spot = none := by simpa [Addr.add] using World.cell?_spot q00
        subst hspot
        simp only [Addr.add_lit, Nat.add_zero] at q0 q1 q2
        exact ⟨(kd, sz, bg), fun _ => ⟨b, off, rfl, World.block_lt_of_cell? W _ q0, by omega, q0, q1, q2⟩⟩
      · exact ⟨dflt, fun h => absurd h hil⟩
    obtain ⟨f, hfz⟩ := Classical.skolem.1 key
    refine ⟨(List.range len).map f, ⟨by simp, fun i hil => ?_⟩, by omega⟩
    have e : ((List.range len).map f).getD i dflt = f i := by simp [List.getD, hil]
    rw [e]
    exact hfz i hil

theorem primTakes_walk (s : ByteArray) (hs : s.size ≤ maxLen) (a : Option Addr) (len cap : Nat) (zs : List Stp) (w : World) (hz : IsSteps w a len cap zs) :
    Calls Try.prog 4 #[.string s, .slice a len cap] w fun e w' => e = .returned (.bool true) ∧ Below w.heap.size w w' := by
  by_cases h : 200 < s.size ∨ 40 < len
  · exact takes_no s a len cap hs hz.2 h w
  · by_cases h0 : len = 0
    · subst h0
      exact takes_zero s a cap (by omega) w
    · exact takes_yes s a len cap zs (by omega) (by omega) (by omega) w hz.1
end Go.Proofs.Ytefkhekmhabeaaa
