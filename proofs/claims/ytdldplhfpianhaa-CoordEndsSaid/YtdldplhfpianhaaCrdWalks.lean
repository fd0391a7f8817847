/-
  The walks of layer 14's statements, as their frames ask for them.
-/
import Derived.Test.YtdldplhfpianhaaSet20
import Derived.Test.YtdldplhfpianhaaSet17
import Derived.Test.YtdldplhfpianhaaSet32
namespace Go.Proofs.Ytdldplhfpianhaa
open Go.RowKit
set_option linter.unusedVariables false
set_option linter.unnecessarySimpa false
set_option linter.unusedSimpArgs false
set_option maxRecDepth 100000

theorem coordPlays_walk (p : Pg) (nodes : Int) (hn : (Lit.int .u8 nodes).wf = true) (a : Option Addr) (len cap : Nat) (zs : List Cq) (w : World) (hp : PgOk w p) (hz : IsCqs w a len cap zs) :
    Calls Try.prog 3 #[.agg p.cells, .int .u8 nodes, .slice a len cap] w fun e w' => e = .returned (.bool true) ∧ Below w.heap.size w w' := by
  have hb := bounds_u8 hn
  obtain ⟨k, rfl⟩ := Int.eq_ofNat_of_zero_le hb.1
  cases h : fewC p with
  | false => exact coordPlays_no crd p k a len cap w hp (.inl h)
  | true =>
    by_cases hl : len ≤ 60
    · exact coordPlays_yes crd p k a len cap zs w hp hz h hl
    · exact coordPlays_no crd p k a len cap w hp (.inr ⟨h, by omega⟩)
theorem coordEnds_walk (p : Pg) (a : Option Addr) (len cap : Nat) (zs : List Cq) (w : World) (hp : PgOk w p) (hz : IsCqs w a len cap zs) :
    Calls Try.prog 4 #[.agg p.cells, .slice a len cap] w fun e w' => e = .returned (.bool true) ∧ Below w.heap.size w w' := by
  cases h : fewC p with
  | false => exact coordEnds_no crd p a len cap w hp (.inl h)
  | true =>
    by_cases hl : len ≤ 60
    · exact coordEnds_yes crd p a len cap zs w hp hz h hl
    · exact coordEnds_no crd p a len cap w hp (.inr ⟨h, by omega⟩)
end Go.Proofs.Ytdldplhfpianhaa
