/-
  An argument that is a slice of calls of a disk, opened to its cells; the fates of each, too.
-/
import Derived.Test.YtmgdjnkdnakmhaaDskFew
import Derived.ProofKit
import Derived.OpenShut
import Derived.Deep.Slices
import Derived.Deep.Strs
namespace Go.Proofs.Ytmgdjnkdnakmhaa
open Go.RowKit Go.ChangeShapes Go.WideShapes Go.Deep
set_option linter.unnecessarySimpa false
set_option linter.unusedVariables false
set_option linter.unusedSimpArgs false
set_option maxRecDepth 100000

theorem p_op_cells : Try.prog.cellsOf 32 = 5 := by kernel_rfl
theorem p_u8_cells : Try.prog.cellsOf 5 = 1 := by kernel_rfl
theorem p_int_cells : Try.prog.cellsOf 3 = 1 := by kernel_rfl
theorem p_strg_cells : Try.prog.cellsOf 9 = 1 := by kernel_rfl
theorem p_bs_cells : Try.prog.cellsOf 30 = 1 := by kernel_rfl
theorem p_drop_one {α : Type} {cs : List α} {j : Nat} {x : α} (h : (cs.drop j).take 1 = [x]) : cs[j]? = some x := by
  have := congrArg (·[0]?) h; simpa using this

section
variable {H : Type} {enc : TypeId × Value → H} {w : World}
theorem bytes_open {fuel : Nat} {cs : List Value} {x : DataW H × List MemPlace} (h : DataW.trod enc Try.prog w 0 (fun _ => true) true fuel 30 cs = some x) :
    ∃ (a : Option Addr) (len cap : Nat) (l : List UInt8), cs = [.slice a len cap] ∧ BytesAt w a len l ∧ len ≤ maxLen := by
  rcases open_slice Try.underlying30 h with ⟨rfl, _⟩ | ⟨a', len, cap, m, n, D, Pl, rfl, _, hl, hm, hmm, rfl, hi⟩
  · exact ⟨none, 0, 0, [], rfl, ⟨rfl, fun h => absurd h (by omega)⟩, Nat.zero_le _⟩
  · simp only [if_true] at hmm
    have key : ∀ i, ∃ z : UInt8, i < len → ∃ b off, a' = ⟨b, off, none⟩ ∧ b < w.heap.size ∧ w.cell? ⟨b, off + i, none⟩ = some (.int .u8 (z.toNat : Int)) := by
      intro i
      by_cases hil : i < len
      · obtain ⟨cs', hc, ht⟩ := hi i (by omega)
        rw [p_u8_cells] at hc
        obtain ⟨_, hcl, hat⟩ := World.cells?_some hc
        obtain ⟨k, e0, _, wk⟩ := DataW.trod_int Try.underlying5 ht
        have hb := bounds_u8 wk
        obtain ⟨d, rfl⟩ := Int.eq_ofNat_of_zero_le hb.1
        subst e0
        have q0 := (hat 0 (by omega)).trans (show ([Value.int .u8 (d : Int)] : List Value)[0]? = some (.int .u8 (d : Int)) from rfl)
        obtain ⟨b, off, spot⟩ := a'
        have hspot : spot = none := by
          obtain ⟨cs0, hc0, _⟩ := hi 0 (by omega)
          rw [p_u8_cells] at hc0
          obtain ⟨_, hcl0, hat0⟩ := World.cells?_some hc0
          have q00 := hat0 0 (by omega)
          rw [List.getElem?_eq_getElem (show 0 < cs0.length by omega)] at q00
          simpa [Addr.add] using World.cell?_spot q00
        subst hspot
        simp only [Addr.add_lit, Nat.add_zero, Nat.mul_one] at q0
        refine ⟨UInt8.ofNat d, fun _ => ⟨b, off, rfl, World.block_lt_of_cell? w _ q0, ?_⟩⟩
        rw [q0, show (UInt8.ofNat d).toNat = d by rw [UInt8.toNat_ofNat']; omega]
      · exact ⟨0, fun h => absurd h hil⟩
    obtain ⟨f, hfz⟩ := Classical.skolem.1 key
    refine ⟨some a', len, cap, (List.range len).map f, rfl, ⟨by simp, fun h0 => ?_⟩, by omega⟩
    obtain ⟨b, off, rfl, hb, _⟩ := hfz 0 h0
    refine ⟨b, off, rfl, hb, fun i hi => ?_⟩
    obtain ⟨b2, off2, e2, _, hc2⟩ := hfz i hi
    injection e2 with e3 e4
    subst e3 e4
    rw [hc2]
    simp [List.getD, hi]

set_option maxHeartbeats 2000000 in
theorem op_open {fuel : Nat} {cs : List Value} {x : DataW H × List MemPlace} (h : DataW.trod enc Try.prog w 0 (fun _ => true) true fuel 32 cs = some x) :
    ∃ z : Opz, cs[0]? = some (.int .u8 (z.o.kind : Int)) ∧ cs[1]? = some (.int .i64 z.o.i) ∧ cs[2]? = some (.int .i64 z.o.n) ∧ cs[3]? = some (.string z.o.b) ∧ cs[4]? = some (.slice z.o.fa z.o.fl z.o.fc) ∧ z.o.kind < 256 ∧
      (-9223372036854775808 ≤ z.o.i ∧ z.o.i ≤ 9223372036854775807) ∧ (-9223372036854775808 ≤ z.o.n ∧ z.o.n ≤ 9223372036854775807) ∧ z.o.fl ≤ 9223372036854775807 ∧ z.o.b.size ≤ 9223372036854775807 ∧ BytesAt w z.o.fa z.o.fl z.fates := by
  obtain ⟨xs, n, _, rfl, hl, hlen, hf⟩ := DataW.trod_struct Try.underlying32 h
  match xs, hlen with
  | [y0, y1, y2, y3, y4], _ =>
    have g0 := hf 0 _ rfl
    have g1 := hf 1 _ rfl
    have g2 := hf 2 _ rfl
    have g3 := hf 3 _ rfl
    have g4 := hf 4 _ rfl
    simp only [p_u8_cells, p_int_cells, p_strg_cells, p_bs_cells, List.getElem?_cons_zero, List.getElem?_cons_succ] at g0 g1 g2 g3 g4
    obtain ⟨k, e0, _, wk⟩ := DataW.trod_int Try.underlying5 g0
    obtain ⟨n1, e1, _, w1⟩ := DataW.trod_int Try.underlying3 g1
    obtain ⟨n2, e2, _, w2⟩ := DataW.trod_int Try.underlying3 g2
    obtain ⟨s, e3, _, w3⟩ := DataW.trod_string Try.underlying9 g3
    obtain ⟨a, len, cap, l, e4, hby, hln⟩ := bytes_open g4
    have b0 := bounds_u8 wk
    have b1 := bounds_i64 w1
    have b2 := bounds_i64 w2
    unfold maxLen at w3 hln
    obtain ⟨kd, rfl⟩ := Int.eq_ofNat_of_zero_le b0.1
    exact ⟨⟨⟨kd, n1, n2, s, a, len, cap⟩, l⟩, p_drop_one e0, p_drop_one e1, p_drop_one e2, p_drop_one e3, p_drop_one e4, by simp only; omega, ⟨by simp only; omega, by simp only; omega⟩, ⟨by simp only; omega, by simp only; omega⟩, hln, w3, hby⟩
end

theorem open_IsOps {H : Type} {enc : TypeId × Value → H} {W : World} {a : Option Addr} {len cap : Nat} {d : DataW H} {p : List MemPlace}
    (h : DataW.Trod enc Try.prog W 0 (fun _ => true) true 23 (.slice a len cap) d p) : ∃ zs, IsOps W a len cap zs := by
  obtain ⟨fuel, hf⟩ := h
  rcases open_slice Try.underlying23 hf with ⟨hcs, _⟩ | ⟨a', len', cap', m, n, D, Pl, hcs, _, hl, hm, hmm, _, hi⟩
  · simp [Value.cells] at hcs
    obtain ⟨rfl, rfl, rfl⟩ := hcs
    exact ⟨[], rfl, Nat.zero_le _, fun h => absurd h (by omega)⟩
  · simp [Value.cells] at hcs
    obtain ⟨rfl, rfl, rfl⟩ := hcs
    simp only [if_true] at hmm
    have key : ∀ i, ∃ z : Opz, i < len → ∃ b off, a' = ⟨b, off, none⟩ ∧ b < W.heap.size ∧ OpAt W b (off + i * 5) z := by
      intro i
      by_cases hil : i < len
      · obtain ⟨cs', hc, ht⟩ := hi i (by omega)
        rw [p_op_cells] at hc
        obtain ⟨_, hcl, hat⟩ := World.cells?_some hc
        obtain ⟨z, e0, e1, e2, e3, e4, h1, h2, h3, h4, h5, h6⟩ := op_open ht
        have q0 := (hat 0 (by omega)).trans e0
        have q1 := (hat 1 (by omega)).trans e1
        have q2 := (hat 2 (by omega)).trans e2
        have q3 := (hat 3 (by omega)).trans e3
        have q4 := (hat 4 (by omega)).trans e4
        obtain ⟨b, off, spot⟩ := a'
        have hspot : spot = none := by
          obtain ⟨cs0, hc0, _⟩ := hi 0 (by omega)
          rw [p_op_cells] at hc0
          obtain ⟨_, hcl0, hat0⟩ := World.cells?_some hc0
          have q00 := hat0 0 (by omega)
          rw [List.getElem?_eq_getElem (show 0 < cs0.length by omega)] at q00
          simpa [Addr.add] using World.cell?_spot q00
        subst hspot
        simp only [Addr.add_lit, Nat.add_zero] at q0 q1 q2 q3 q4
        exact ⟨z, fun _ => ⟨b, off, rfl, World.block_lt_of_cell? W _ q0, ⟨h1, h2, h3, h4, h5, q0, q1, q2, q3, q4, h6⟩⟩⟩
      · exact ⟨opz0, fun h => absurd h hil⟩
    obtain ⟨f, hfz⟩ := Classical.skolem.1 key
    refine ⟨(List.range len).map f, by simp, by omega, fun h0 => ?_⟩
    obtain ⟨b, off, rfl, hb, _⟩ := hfz 0 h0
    refine ⟨b, off, rfl, hb, fun i hi => ?_⟩
    obtain ⟨b2, off2, e2, _, hc2⟩ := hfz i hi
    injection e2 with e3 e4
    subst e3 e4
    have e : ((List.range len).map f).getD i opz0 = f i := by simp [List.getD, hi]
    rw [e]
    exact hc2
end Go.Proofs.Ytmgdjnkdnakmhaa
