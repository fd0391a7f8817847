/-
  Arguments of layer 12's statements: a slice of calls of an oracle.
-/
import Derived.Test.YtbekgmcchecnkaaRows
import Derived.OpenShut
import Derived.Deep.Slices
import Derived.Deep.Strs
namespace Go.Proofs.Ytbekgmcchecnkaa
open Go.RowKit Go.ChangeShapes Go.WideShapes Go.Deep
set_option linter.unusedVariables false
set_option linter.unnecessarySimpa false
set_option linter.unusedSimpArgs false
set_option maxRecDepth 100000

/-- A call of an oracle. -/
structure Oz where
  kind : Nat
  n : Nat
def oz0 : Oz := ⟨0, 0⟩
def OraAt (W : World) (a : Option Addr) (len : Nat) (zs : List Oz) : Prop :=
  zs.length = len ∧ ∀ i, i < len → ∃ b off, a = some ⟨b, off, none⟩ ∧ b < W.heap.size ∧ (zs.getD i oz0).kind < 256 ∧ (zs.getD i oz0).n < 18446744073709551616 ∧
    W.cell? ⟨b, off + i * 2, none⟩ = some (.int .u8 ((zs.getD i oz0).kind : Int)) ∧ W.cell? ⟨b, off + i * 2 + 1, none⟩ = some (.int .u64 ((zs.getD i oz0).n : Int))
def IsOra (W : World) (a : Option Addr) (len _cap : Nat) (zs : List Oz) : Prop := OraAt W a len zs ∧ len ≤ maxLen
theorem ora_cells : Try.prog.cellsOf 30 = 2 := by kernel_rfl
theorem ora_u8 : Try.prog.cellsOf 5 = 1 := by kernel_rfl
theorem ora_u64 : Try.prog.cellsOf 22 = 1 := by kernel_rfl
theorem ora_cut2 {α : Type} {cs : List α} {x y : α} (h0 : (cs.drop 0).take 1 = [x]) (h1 : (cs.drop 1).take 1 = [y]) : cs[0]? = some x ∧ cs[1]? = some y := by
  refine ⟨?_, ?_⟩
  · have := congrArg (·[0]?) h0; simpa using this
  · have := congrArg (·[0]?) h1; simpa using this
theorem open_IsOra {H : Type} {enc : TypeId × Value → H} {W : World} {a : Option Addr} {len cap : Nat} {d : DataW H} {p : List MemPlace}
    (h : DataW.Trod enc Try.prog W 0 (fun _ => true) true 23 (.slice a len cap) d p) : ∃ zs, IsOra W a len cap zs := by
  obtain ⟨fuel, hf⟩ := h
  rcases open_slice Try.underlying23 hf with ⟨hcs, _⟩ | ⟨a', len', cap', m, n, D, Pl, hcs, _, hl, hm, hmm, _, hi⟩
  · simp [Value.cells] at hcs
    obtain ⟨rfl, rfl, rfl⟩ := hcs
    exact ⟨[], ⟨rfl, fun i hi => by omega⟩, Nat.zero_le _⟩
  · simp [Value.cells] at hcs
    obtain ⟨rfl, rfl, rfl⟩ := hcs
    simp only [if_true] at hmm
    have key : ∀ i, ∃ z : Oz, i < len → ∃ b off, some a' = some ⟨b, off, none⟩ ∧ b < W.heap.size ∧ z.kind < 256 ∧ z.n < 18446744073709551616 ∧ W.cell? ⟨b, off + i * 2, none⟩ = some (.int .u8 (z.kind : Int)) ∧
        W.cell? ⟨b, off + i * 2 + 1, none⟩ = some (.int .u64 (z.n : Int)) := by
      intro i
      by_cases hil : i < len
      · obtain ⟨cs', hc, ht⟩ := hi i (by omega)
        rw [ora_cells] at hc
        obtain ⟨_, hcl, hat⟩ := World.cells?_some hc
        obtain ⟨y0, y1, n', _, _, g0, g1⟩ := trod_struct2 Try.underlying30 ht
        simp only [ora_u8, ora_u64] at g0 g1
        obtain ⟨k1, e0, _, wk1⟩ := DataW.trod_int Try.underlying5 g0
        obtain ⟨k2, e1, _, wk2⟩ := DataW.trod_int Try.underlying22 g1
        obtain ⟨x0, x1⟩ := ora_cut2 e0 e1
        have b1 := bounds_u8 wk1
        have b2 := bounds_u64 wk2
        obtain ⟨d1, rfl⟩ := Int.eq_ofNat_of_zero_le b1.1
        obtain ⟨d2, rfl⟩ := Int.eq_ofNat_of_zero_le b2.1
        have q0 := (hat 0 (by omega)).trans x0
        have q1 := (hat 1 (by omega)).trans x1
        obtain ⟨b, off, spot⟩ := a'
        obtain ⟨cs0, hc0, _⟩ := hi 0 (by omega)
        rw [ora_cells] at hc0
        obtain ⟨_, hcl0, hat0⟩ := World.cells?_some hc0
        have q00 := hat0 0 (by omega)
        rw [List.getElem?_eq_getElem (show 0 < cs0.length by omega)] at q00
        have hspot : spot = none := by simpa [Addr.add] using World.cell?_spot q00
        subst hspot
        simp only [Addr.add_lit, Nat.add_zero] at q0 q1
        exact ⟨⟨d1, d2⟩, fun _ => ⟨b, off, rfl, World.block_lt_of_cell? W _ q0, by simp only; omega, by simp only; omega, q0, q1⟩⟩
      · exact ⟨oz0, fun h => absurd h hil⟩
    obtain ⟨f, hfz⟩ := Classical.skolem.1 key
    refine ⟨(List.range len).map f, ⟨by simp, fun i hil => ?_⟩, by omega⟩
    have e : ((List.range len).map f).getD i oz0 = f i := by simp [List.getD, hil]
    rw [e]
    exact hfz i hil
end Go.Proofs.Ytbekgmcchecnkaa
