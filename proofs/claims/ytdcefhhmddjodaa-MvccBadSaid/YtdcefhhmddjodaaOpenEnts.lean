/-
  An argument that is a slice of a block's entries, opened to its cells.
-/
import Derived.Test.YtdcefhhmddjodaaSet10
import Derived.Test.YtdcefhhmddjodaaSet02
import Derived.ProofKit
import Derived.OpenShut
import Derived.Deep.Slices
import Derived.Deep.Strs
namespace Go.Proofs.Ytdcefhhmddjodaa
open Go.RowKit Go.ChangeShapes Go.WideShapes Go.Deep
set_option linter.unusedVariables false
set_option linter.unnecessarySimpa false
set_option linter.unusedSimpArgs false
set_option maxRecDepth 100000

theorem e_ent_cells : Try.prog.cellsOf 73 = 2 := by kernel_rfl
theorem e_vs_cells : Try.prog.cellsOf 71 = 1 := by kernel_rfl
theorem e_cut2 {α : Type} {cs : List α} {x y : α} (h0 : (cs.drop 0).take 1 = [x]) (h1 : (cs.drop 1).take 1 = [y]) : cs[0]? = some x ∧ cs[1]? = some y := by
  refine ⟨?_, ?_⟩
  · have := congrArg (·[0]?) h0; simpa using this
  · have := congrArg (·[0]?) h1; simpa using this
theorem slice_form {H : Type} {enc : TypeId × Value → H} {W : World} {fuel : Nat} {cs : List Value} {x : DataW H × List MemPlace} (h : DataW.trod enc Try.prog W 0 (fun _ => true) true fuel 71 cs = some x) :
    ∃ a len cap, cs = [.slice a len cap] := by
  rcases open_slice Try.underlying71 h with ⟨rfl, _⟩ | ⟨a', len', cap', m, n, D, Pl, rfl, _⟩
  · exact ⟨none, 0, 0, rfl⟩
  · exact ⟨_, _, _, rfl⟩
theorem vers_open {H : Type} {enc : TypeId × Value → H} {W : World} {fuel : Nat} {cs : List Value} {x : DataW H × List MemPlace} (h : DataW.trod enc Try.prog W 0 (fun _ => true) true fuel 71 cs = some x) :
    ∃ a len cap zs, cs = [.slice a len cap] ∧ IsVers W a len cap zs := by
  obtain ⟨a, len, cap, rfl⟩ := slice_form h
  obtain ⟨d, p⟩ := x
  have h2 : DataW.Trod enc Try.prog W 0 (fun _ => true) true 71 (.slice a len cap) d p := ⟨fuel, h⟩
  obtain ⟨zs, hz⟩ := open_IsVers h2
  exact ⟨a, len, cap, zs, rfl, hz⟩
theorem open_IsEnts {H : Type} {enc : TypeId × Value → H} {W : World} {a : Option Addr} {len cap : Nat} {d : DataW H} {p : List MemPlace}
    (h : DataW.Trod enc Try.prog W 0 (fun _ => true) true 59 (.slice a len cap) d p) : ∃ es, IsEnts W a len cap es := by
  obtain ⟨fuel, hf⟩ := h
  rcases open_slice Try.underlying59 hf with ⟨hcs, _⟩ | ⟨a', len', cap', m, n, D, Pl, hcs, _, hl, hm, hmm, _, hi⟩
  · simp [Value.cells] at hcs
    obtain ⟨rfl, rfl, rfl⟩ := hcs
    exact ⟨[], ⟨rfl, fun i hi => by omega⟩, Nat.zero_le _, Nat.le_refl _⟩
  · simp [Value.cells] at hcs
    obtain ⟨rfl, rfl, rfl⟩ := hcs
    simp only [if_true] at hmm
    have key : ∀ i, ∃ z : En, i < len → ∃ b off, some a' = some ⟨b, off, none⟩ ∧ EntAt W b (off + i * 2) z := by
      intro i
      by_cases hil : i < len
      · obtain ⟨cs', hc, ht⟩ := hi i (by omega)
        rw [e_ent_cells] at hc
        obtain ⟨_, hcl, hat⟩ := World.cells?_some hc
        obtain ⟨y0, y1, n', _, _, g0, g1⟩ := trod_struct2 Try.underlying73 ht
        simp only [v_str_cells, e_vs_cells] at g0 g1
        obtain ⟨s, e0, _, hsz⟩ := DataW.trod_string Try.underlying9 g0
        obtain ⟨ca, cl, cc, zs, e1, hv⟩ := vers_open g1
        obtain ⟨x0, x1⟩ := e_cut2 e0 e1
        have q0 := (hat 0 (by omega)).trans x0
        have q1 := (hat 1 (by omega)).trans x1
        obtain ⟨b, off, spot⟩ := a'
        obtain ⟨cs0, hc0, _⟩ := hi 0 (by omega)
        rw [e_ent_cells] at hc0
        obtain ⟨_, hcl0, hat0⟩ := World.cells?_some hc0
        have q00 := hat0 0 (by omega)
        rw [List.getElem?_eq_getElem (show 0 < cs0.length by omega)] at q00
        have hspot : spot = none := by simpa [Addr.add] using World.cell?_spot q00
        subst hspot
        simp only [Addr.add_lit, Nat.add_zero] at q0 q1
        exact ⟨⟨s, zs⟩, fun _ => ⟨b, off, rfl, World.block_lt_of_cell? W _ q0, hsz, q0, ca, cl, cc, q1, hv⟩⟩
      · exact ⟨en0, fun h => absurd h hil⟩
    obtain ⟨f, hfz⟩ := Classical.skolem.1 key
    refine ⟨(List.range len).map f, ⟨by simp, fun i hil => ?_⟩, by omega, hl⟩
    have e : ((List.range len).map f).getD i en0 = f i := by simp [List.getD, hil]
    rw [e]
    exact hfz i hil
end Go.Proofs.Ytdcefhhmddjodaa
