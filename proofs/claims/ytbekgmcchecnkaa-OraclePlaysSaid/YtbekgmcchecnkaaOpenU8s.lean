/-
  An argument that is a slice of bytes, opened to its cells.
-/
import Derived.Test.YtbekgmcchecnkaaDskMath
import Derived.Test.YtbekgmcchecnkaaRows
import Derived.ProofKit
import Derived.OpenShut
import Derived.Deep.Slices
import Derived.Deep.Strs
namespace Go.Proofs.Ytbekgmcchecnkaa
open Go.RowKit Go.ChangeShapes Go.WideShapes Go.Deep
set_option linter.unusedVariables false
set_option linter.unnecessarySimpa false
set_option linter.unusedSimpArgs false
set_option maxRecDepth 100000

theorem u_u8_cells : Try.prog.cellsOf 5 = 1 := by kernel_rfl
section
variable {H : Type} {enc : TypeId × Value → H} {w : World}
theorem u8s_open {fuel : Nat} {cs : List Value} {x : DataW H × List MemPlace} (h : DataW.trod enc Try.prog w 0 (fun _ => true) true fuel 38 cs = some x) :
    ∃ (a : Option Addr) (len cap : Nat) (l : List UInt8), cs = [.slice a len cap] ∧ BytesAt w a len l ∧ len ≤ maxLen := by
  rcases open_slice Try.underlying38 h with ⟨rfl, _⟩ | ⟨a', len, cap, m, n, D, Pl, rfl, _, hl, hm, hmm, rfl, hi⟩
  · exact ⟨none, 0, 0, [], rfl, ⟨rfl, fun h => absurd h (by omega)⟩, Nat.zero_le _⟩
  · simp only [if_true] at hmm
    have key : ∀ i, ∃ z : UInt8, i < len → ∃ b off, a' = ⟨b, off, none⟩ ∧ b < w.heap.size ∧ w.cell? ⟨b, off + i, none⟩ = some (.int .u8 (z.toNat : Int)) := by
      intro i
      by_cases hil : i < len
      · obtain ⟨cs', hc, ht⟩ := hi i (by omega)
        rw [u_u8_cells] at hc
        obtain ⟨_, hcl, hat⟩ := World.cells?_some hc
        obtain ⟨k, e0, _, wk⟩ := DataW.trod_int Try.underlying5 ht
        have hb := bounds_u8 wk
        obtain ⟨d, rfl⟩ := Int.eq_ofNat_of_zero_le hb.1
        subst e0
        have q0 := (hat 0 (by omega)).trans (show ([Value.int .u8 (d : Int)] : List Value)[0]? = some (.int .u8 (d : Int)) from rfl)
        obtain ⟨b, off, spot⟩ := a'
        have hspot : spot = none := by
          obtain ⟨cs0, hc0, _⟩ := hi 0 (by omega)
          rw [u_u8_cells] at hc0
          obtain ⟨_, hcl0, hat0⟩ := World.cells?_some hc0
          have q00 := hat0 0 (by omega)
          rw [List.getElem?_eq_getElem (show 0 < cs0.length by omega)] at q00
          simpa [Addr.add] using World.cell?_spot q00
        subst hspot
        simp only [Addr.add_lit, Nat.add_zero, Nat.mul_one] at q0
        refine ⟨UInt8.ofNat d, fun _ => ⟨b, off, rfl, World.block_lt_of_cell? w _ q0, ?_⟩⟩
        rw [q0, show (UInt8.ofNat d).toNat = d by rw [UInt8.toNat_ofNat']; omega]
      · exact ⟨0, fun h => absurd h hil⟩
    obtain ⟨f, hfz⟩ := Classical.skolem.1 key
    refine ⟨some a', len, cap, (List.range len).map f, rfl, ⟨by simp, fun h0 => ?_⟩, by omega⟩
    obtain ⟨b, off, rfl, hb, _⟩ := hfz 0 h0
    refine ⟨b, off, rfl, hb, fun i hi => ?_⟩
    obtain ⟨b2, off2, e2, _, hc2⟩ := hfz i hi
    injection e2 with e3 e4
    subst e3 e4
    rw [hc2]
    simp [List.getD, hi]

/-- Bytes that a slice has that came in. -/
def IsU8s (W : World) (a : Option Addr) (len _cap : Nat) (l : List UInt8) : Prop := BytesAt W a len l ∧ len ≤ maxLen
theorem open_IsU8s {a : Option Addr} {len cap : Nat} {d : DataW H} {p : List MemPlace} (h : DataW.Trod enc Try.prog w 0 (fun _ => true) true 38 (.slice a len cap) d p) : ∃ l, IsU8s w a len cap l := by
  obtain ⟨fuel, hf⟩ := h
  obtain ⟨a', len', cap', l, hcs, hb, hl⟩ := u8s_open hf
  simp [Value.cells] at hcs
  obtain ⟨rfl, rfl, rfl⟩ := hcs
  exact ⟨l, hb, hl⟩
end
end Go.Proofs.Ytbekgmcchecnkaa
