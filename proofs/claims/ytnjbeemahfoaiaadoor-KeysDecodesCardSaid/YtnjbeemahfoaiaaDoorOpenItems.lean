/-
  An argument that is a slice of items, opened to its cells; an argument that is an item, opened and shut.
-/
import Derived.Test.YtnjbeemahfoaiaaDoorKeyItems
import Derived.ProofKit
import Derived.OpenShut
import Derived.Deep.Slices
import Derived.Deep.Strs
namespace Go.Proofs.YtnjbeemahfoaiaaDoor
open Go.RowKit Go.ChangeShapes Go.WideShapes Go.Deep
set_option linter.unnecessarySimpa false
set_option linter.unusedVariables false
set_option linter.unusedSimpArgs false
set_option maxRecDepth 100000

theorem item_cells : Tryd.prog.cellsOf 36 = 5 := by kernel_rfl
theorem u8_cells : Tryd.prog.cellsOf 5 = 1 := by kernel_rfl
theorem i64_cells : Tryd.prog.cellsOf 2 = 1 := by kernel_rfl
theorem u64_cells : Tryd.prog.cellsOf 34 = 1 := by kernel_rfl
theorem str_cells : Tryd.prog.cellsOf 9 = 1 := by kernel_rfl
theorem bool_cells : Tryd.prog.cellsOf 4 = 1 := by kernel_rfl

/-- How an item reads. -/
def itemData {H : Type} (z : It) : DataW H := .agg [.lit (.int .u8 z.kind), .lit (.int .i64 z.int), .lit (.int .u64 z.uint), .lit (.string z.text.data.toList), .lit (.bool z.down)]

theorem drop_one {α : Type} {cs : List α} {j : Nat} {x : α} (h : (cs.drop j).take 1 = [x]) : cs[j]? = some x := by
  have := congrArg (·[0]?) h; simpa using this
theorem list5 {α : Type} {cs : List α} {a b c d e : α} (hl : cs.length = 5) (h0 : cs[0]? = some a) (h1 : cs[1]? = some b) (h2 : cs[2]? = some c) (h3 : cs[3]? = some d) (h4 : cs[4]? = some e) : cs = [a, b, c, d, e] := by
  match cs, hl with
  | [_, _, _, _, _], _ => simp at h0 h1 h2 h3 h4; rw [h0, h1, h2, h3, h4]

section
variable {H : Type} {enc : TypeId × Value → H} {w : World} {base : Nat} {spare : Nat → Bool} {held : Bool}
theorem item_open {fuel : Nat} {cs : List Value} {x : DataW H × List MemPlace} (h : DataW.trod enc Tryd.prog w base spare held fuel 36 cs = some x) :
    ∃ z : It, z.ok ∧ z.text.size ≤ maxLen ∧ cs = z.cells.toList ∧ x = (itemData z, []) := by
  obtain ⟨xs, n, _, rfl, hl, hlen, hf⟩ := DataW.trod_struct Tryd.underlying36 h
  match xs, hlen with
  | [y0, y1, y2, y3, y4], _ =>
    have g0 := hf 0 _ rfl
    have g1 := hf 1 _ rfl
    have g2 := hf 2 _ rfl
    have g3 := hf 3 _ rfl
    have g4 := hf 4 _ rfl
    simp only [u8_cells, i64_cells, u64_cells, str_cells, bool_cells, List.getElem?_cons_zero, List.getElem?_cons_succ] at g0 g1 g2 g3 g4
    obtain ⟨k, e0, r0, wk⟩ := DataW.trod_int Tryd.underlying5 g0
    obtain ⟨n1, e1, r1, w1⟩ := DataW.trod_int Tryd.underlying2 g1
    obtain ⟨n2, e2, r2, w2⟩ := DataW.trod_int Tryd.underlying34 g2
    obtain ⟨s, e3, r3, w3⟩ := DataW.trod_string Tryd.underlying9 g3
    obtain ⟨d, e4, r4⟩ := DataW.trod_bool Tryd.underlying4 g4
    have b0 := bounds_u8 wk
    have b1 := bounds_i64 w1
    have b2 := bounds_u64 w2
    obtain ⟨kd, rfl⟩ := Int.eq_ofNat_of_zero_le b0.1
    obtain ⟨un, rfl⟩ := Int.eq_ofNat_of_zero_le b2.1
    refine ⟨⟨kd, n1, un, s, d⟩, ⟨by simp only; omega, ⟨by simp only; omega, by simp only; omega⟩, by simp only; omega⟩, w3, ?_, ?_⟩
    · rw [item_cells] at hl
      exact list5 hl (drop_one e0) (drop_one e1) (drop_one e2) (drop_one e3) (drop_one e4)
    · subst r0 r1 r2 r3 r4
      rfl
/-- An argument that is an item. -/
theorem open_IsItem {v : Value} {d : DataW H} {p : List MemPlace} (h : DataW.Trod enc Tryd.prog w base spare held 36 v d p) (hv : ∃ cs, v = .agg cs) : ∃ z : It, v = .agg z.cells ∧ z.ok ∧ z.text.size ≤ maxLen := by
  obtain ⟨fuel, hf⟩ := h
  obtain ⟨cs, rfl⟩ := hv
  obtain ⟨z, h1, h2, h3, _⟩ := item_open hf
  refine ⟨z, ?_, h1, h2⟩
  have h4 : cs.toList = z.cells.toList := h3
  rw [Array.toList_inj.1 h4]
end

def IsItems (W : World) (a : Option Addr) (len _cap : Nat) (zs : List It) : Prop := ItemsAt W a len zs ∧ len ≤ maxLen

theorem open_IsItems {H : Type} {enc : TypeId × Value → H} {W : World} {a : Option Addr} {len cap : Nat} {d : DataW H} {p : List MemPlace}
    (h : DataW.Trod enc Tryd.prog W 0 (fun _ => true) true 22 (.slice a len cap) d p) : ∃ zs, IsItems W a len cap zs := by
  obtain ⟨fuel, hf⟩ := h
  rcases open_slice Tryd.underlying22 hf with ⟨hcs, _⟩ | ⟨a', len', cap', m, n, D, Pl, hcs, _, hl, hm, hmm, _, hi⟩
  · simp [Value.cells] at hcs
    obtain ⟨rfl, rfl, rfl⟩ := hcs
    exact ⟨[], ⟨rfl, fun i hi => by omega⟩, Nat.zero_le _⟩
  · simp [Value.cells] at hcs
    obtain ⟨rfl, rfl, rfl⟩ := hcs
    simp only [if_true] at hmm
    have key : ∀ i, ∃ z : It, i < len → ∃ b off, some a' = some ⟨b, off, none⟩ ∧ b < W.heap.size ∧ z.ok ∧ ItemAt W b (off + i * 5) z := by
      intro i
      by_cases hil : i < len
      · obtain ⟨cs', hc, ht⟩ := hi i (by omega)
        rw [item_cells] at hc
        obtain ⟨_, hcl, hat⟩ := World.cells?_some hc
        obtain ⟨z, hz, _, hzc, _⟩ := item_open ht
        have q0 := (hat 0 (by omega)).trans (show cs'[0]? = some (.int .u8 z.kind) by rw [hzc]; rfl)
        have q1 := (hat 1 (by omega)).trans (show cs'[1]? = some (.int .i64 z.int) by rw [hzc]; rfl)
        have q2 := (hat 2 (by omega)).trans (show cs'[2]? = some (.int .u64 z.uint) by rw [hzc]; rfl)
        have q3 := (hat 3 (by omega)).trans (show cs'[3]? = some (.string z.text) by rw [hzc]; rfl)
        have q4 := (hat 4 (by omega)).trans (show cs'[4]? = some (.bool z.down) by rw [hzc]; rfl)
        obtain ⟨b, off, spot⟩ := a'
        obtain ⟨cs0, hc0, _⟩ := hi 0 (by omega)
        rw [item_cells] at hc0
        obtain ⟨_, hcl0, hat0⟩ := World.cells?_some hc0
        have q00 := hat0 0 (by omega)
        rw [List.getElem?_eq_getElem (show 0 < cs0.length by omega)] at q00
        have hspot : spot = none := by simpa [Addr.add] using World.cell?_spot q00
        subst hspot
        simp only [Addr.add_lit, Nat.add_zero] at q0 q1 q2 q3 q4
        exact ⟨z, fun _ => ⟨b, off, rfl, World.block_lt_of_cell? W _ q0, hz, q0, q1, q2, q3, q4⟩⟩
      · exact ⟨it0, fun h => absurd h hil⟩
    obtain ⟨f, hfz⟩ := Classical.skolem.1 key
    refine ⟨(List.range len).map f, ⟨by simp, fun i hil => ?_⟩, by omega⟩
    have e : ((List.range len).map f).getD i it0 = f i := by simp [List.getD, hil]
    rw [e]
    exact hfz i hil
end Go.Proofs.YtnjbeemahfoaiaaDoor
