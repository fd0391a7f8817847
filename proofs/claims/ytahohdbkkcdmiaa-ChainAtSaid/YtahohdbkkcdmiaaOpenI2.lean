/-
  An argument of type [2]int8, opened.
-/
import Derived.Test.YtahohdbkkcdmiaaRows
import Derived.ProofKit
import Derived.OpenShut
import Derived.WideShapes
namespace Go.Proofs.Ytahohdbkkcdmiaa
open Go.ChangeShapes Go.WideShapes Go.RowKit
set_option linter.unusedVariables false
set_option linter.unnecessarySimpa false
set_option linter.unusedSimpArgs false
set_option maxRecDepth 100000

structure I2 where
  x : Int
  y : Int
  hx : -128 ≤ x ∧ x ≤ 127
  hy : -128 ≤ y ∧ y ≤ 127
def I2.cells (z : I2) : Array Value := #[.int .i8 z.x, .int .i8 z.y]

theorem okWide_I2 {w : World} {r : Reach} {base : Nat} {v : Value} (h : Value.okWide Try.prog w r base 36 v) : ∃ cs, v = .agg cs := by
  simp only [Value.okWide, Try.underlying36] at h
  obtain ⟨cs, h1, _⟩ := h
  exact ⟨cs, h1⟩
theorem i8cells : Try.prog.cellsOf 35 = 1 := by kernel_rfl
theorem i2cells : Try.prog.cellsOf 36 = 2 := by kernel_rfl
theorem i8_in {a : Int} (h : (Lit.int .i8 a).wf = true) : -128 ≤ a ∧ a ≤ 127 := by
  have := bounds_i8 h
  omega

theorem open_I2 {H : Type} {enc : TypeId × Value → H} {W : World} {v : Value} {d : DataW H} {p : List MemPlace}
    (h : DataW.Trod enc Try.prog W 0 (fun _ => true) true 36 v d p) (hv : ∃ cs, v = .agg cs) : ∃ z : I2, v = .agg z.cells := by
  obtain ⟨cs, rfl⟩ := hv
  obtain ⟨fuel, hf⟩ := h
  obtain ⟨xs, m, rfl, _, hl, hxl, hg⟩ := DataW.trod_array Try.underlying36 hf
  rw [i2cells] at hl
  have e : (Value.agg cs).cells = cs := rfl
  rw [e] at hl hg
  have g0 := hg 0 (by decide)
  have g1 := hg 1 (by decide)
  rw [i8cells] at g0 g1
  rw [List.getElem?_eq_getElem (by omega)] at g0 g1
  obtain ⟨a, ea, _, wa⟩ := DataW.trod_int Try.underlying35 g0
  obtain ⟨b, eb, _, wb⟩ := DataW.trod_int Try.underlying35 g1
  refine ⟨⟨a, b, i8_in wa, i8_in wb⟩, ?_⟩
  have hcs : cs.toList = [.int .i8 a, .int .i8 b] := by
    cases hc : cs.toList with
    | nil => rw [hc] at hl; cases hl
    | cons u r =>
      cases r with
      | nil => rw [hc] at hl; cases hl
      | cons u2 r2 =>
        cases r2 with
        | cons u3 r3 => rw [hc] at hl; simp at hl
        | nil =>
          rw [hc] at ea eb
          simp at ea eb
          rw [ea, eb]
  unfold I2.cells
  congr 1
  exact Array.toList_inj.1 hcs
end Go.Proofs.Ytahohdbkkcdmiaa
