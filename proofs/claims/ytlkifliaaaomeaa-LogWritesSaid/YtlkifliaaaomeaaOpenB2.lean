/-
  An argument of type [2]uint8, opened.
-/
import Derived.Test.YtlkifliaaaomeaaRows
import Derived.ProofKit
import Derived.OpenShut
import Derived.WideShapes
namespace Go.Proofs.Ytlkifliaaaomeaa
open Go.ChangeShapes Go.WideShapes Go.RowKit
set_option linter.unusedVariables false
set_option linter.unnecessarySimpa false
set_option linter.unusedSimpArgs false
set_option maxRecDepth 100000

structure B2 where
  x : Nat
  y : Nat
  hx : x < 256
  hy : y < 256
def B2.cells (z : B2) : Array Value := #[.int .u8 (z.x : Int), .int .u8 (z.y : Int)]

theorem okWide_B2 {w : World} {r : Reach} {base : Nat} {v : Value} (h : Value.okWide Try.prog w r base 42 v) : ∃ cs, v = .agg cs := by
  simp only [Value.okWide, Try.underlying42] at h
  obtain ⟨cs, h1, _⟩ := h
  exact ⟨cs, h1⟩
theorem u8cells : Try.prog.cellsOf 5 = 1 := by kernel_rfl
theorem b2cells : Try.prog.cellsOf 42 = 2 := by kernel_rfl
theorem u8_nat {a : Int} (h : (Lit.int .u8 a).wf = true) : ∃ n : Nat, a = (n : Int) ∧ n < 256 := by
  have := bounds_u8 h
  exact ⟨a.toNat, by omega, by omega⟩

theorem open_B2 {H : Type} {enc : TypeId × Value → H} {W : World} {v : Value} {d : DataW H} {p : List MemPlace}
    (h : DataW.Trod enc Try.prog W 0 (fun _ => true) true 42 v d p) (hv : ∃ cs, v = .agg cs) : ∃ z : B2, v = .agg z.cells := by
  obtain ⟨cs, rfl⟩ := hv
  obtain ⟨fuel, hf⟩ := h
  obtain ⟨xs, m, rfl, _, hl, hxl, hg⟩ := DataW.trod_array Try.underlying42 hf
  rw [b2cells] at hl
  have e : (Value.agg cs).cells = cs := rfl
  rw [e] at hl hg
  have g0 := hg 0 (by decide)
  have g1 := hg 1 (by decide)
  rw [u8cells] at g0 g1
  rw [List.getElem?_eq_getElem (by omega)] at g0 g1
  obtain ⟨a, ea, _, wa⟩ := DataW.trod_int Try.underlying5 g0
  obtain ⟨b, eb, _, wb⟩ := DataW.trod_int Try.underlying5 g1
  obtain ⟨x, rfl, hx⟩ := u8_nat wa
  obtain ⟨y, rfl, hy⟩ := u8_nat wb
  refine ⟨⟨x, y, hx, hy⟩, ?_⟩
  have hcs : cs.toList = [.int .u8 (x : Int), .int .u8 (y : Int)] := by
    cases hc : cs.toList with
    | nil => rw [hc] at hl; cases hl
    | cons u r =>
      cases r with
      | nil => rw [hc] at hl; cases hl
      | cons u2 r2 =>
        cases r2 with
        | cons u3 r3 => rw [hc] at hl; simp at hl
        | nil =>
          rw [hc] at ea eb
          simp at ea eb
          rw [ea, eb]
  unfold B2.cells
  congr 1
  exact Array.toList_inj.1 hcs
end Go.Proofs.Ytlkifliaaaomeaa
