/-
  Arguments of layer 11's statements: a slice of versions of keys, one of them, what is asked.
-/
import Derived.Test.YtdcefhhmddjodaaSet07
import Derived.OpenShut
import Derived.Deep.Slices
import Derived.Deep.Strs
namespace Go.Proofs.Ytdcefhhmddjodaa
open Go.RowKit Go.ChangeShapes Go.WideShapes Go.Deep
set_option linter.unnecessarySimpa false
set_option linter.unusedVariables false
set_option linter.unusedSimpArgs false
set_option maxRecDepth 100000

theorem itm_cells : Try.prog.cellsOf 37 = 4 := by kernel_rfl
theorem i_cut4 {cs : List Value} {k x y z : Value} (hl : cs.length = 4) (h0 : (cs.drop 0).take 1 = [k]) (h1 : (cs.drop 1).take 3 = [x, y, z]) : cs = [k, x, y, z] := by
  match cs, hl with
  | [_, _, _, _], _ => simp at h0 h1; rw [h0, h1.1, h1.2.1, h1.2.2]
theorem i_cut3 {cs : List Value} {x y z : Value} (hl : cs.length = 3) (h0 : (cs.drop 0).take 1 = [x]) (h1 : (cs.drop 1).take 1 = [y]) (h2 : (cs.drop 2).take 1 = [z]) : cs = [x, y, z] := by
  match cs, hl with
  | [_, _, _], _ => simp at h0 h1 h2; rw [h0, h1, h2]
section
variable {H : Type} {enc : TypeId × Value → H} {W : World}
theorem itm_open {fuel : Nat} {cs : List Value} {x : DataW H × List MemPlace} (h : DataW.trod enc Try.prog W 0 (fun _ => true) true fuel 37 cs = some x) : ∃ m : Im, m.ok ∧ cs = m.cells := by
  obtain ⟨y0, y1, n', _, hl, g0, g1⟩ := trod_struct2 Try.underlying37 h
  simp only [v_str_cells, ver_cells] at g0 g1
  rw [itm_cells] at hl
  obtain ⟨s, e0, _, hs0⟩ := DataW.trod_string Try.underlying9 g0
  obtain ⟨z0, z1, z2, n2, _, hl2, f0, f1, f2⟩ := trod_struct3 Try.underlying35 g1
  simp only [v_str_cells, v_u64_cells, v_bool_cells] at f0 f1 f2
  rw [ver_cells] at hl2
  obtain ⟨k1, d0, _, wk1⟩ := DataW.trod_int Try.underlying33 f0
  obtain ⟨k2, d1, _⟩ := DataW.trod_bool Try.underlying4 f1
  obtain ⟨v, d2, _, hv⟩ := DataW.trod_string Try.underlying9 f2
  have b1 := bounds_u64 wk1
  obtain ⟨t, rfl⟩ := Int.eq_ofNat_of_zero_le b1.1
  refine ⟨⟨s, ⟨t, k2, v⟩⟩, ⟨hs0, hv, by show t < _; omega⟩, ?_⟩
  exact i_cut4 hl e0 (i_cut3 hl2 d0 d1 d2)
theorem open_IsItms {a : Option Addr} {len cap : Nat} {d : DataW H} {p : List MemPlace}
    (h : DataW.Trod enc Try.prog W 0 (fun _ => true) true 22 (.slice a len cap) d p) : ∃ L, IsItms W a len cap L := by
  obtain ⟨fuel, hf⟩ := h
  rcases open_slice Try.underlying22 hf with ⟨hcs, _⟩ | ⟨a', len', cap', m, n, D, Pl, hcs, _, hl, hm, hmm, _, hi⟩
  · simp [Value.cells] at hcs
    obtain ⟨rfl, rfl, rfl⟩ := hcs
    exact ⟨[], rfl, Nat.zero_le _, fun i hi => by omega⟩
  · simp [Value.cells] at hcs
    obtain ⟨rfl, rfl, rfl⟩ := hcs
    simp only [if_true] at hmm
    have key : ∀ i, ∃ z : Im, i < len → ∃ b off, some a' = some ⟨b, off, none⟩ ∧ ItmAt W b (off + i * 4) z := by
      intro i
      by_cases hil : i < len
      · obtain ⟨cs', hc, ht⟩ := hi i (by omega)
        rw [itm_cells] at hc
        obtain ⟨_, hcl, hat⟩ := World.cells?_some hc
        obtain ⟨z, hz, rfl⟩ := itm_open ht
        have q0 := hat 0 (by omega)
        have q1 := hat 1 (by omega)
        have q2 := hat 2 (by omega)
        have q3 := hat 3 (by omega)
        simp only [Im.cells, List.getElem?_cons_zero, List.getElem?_cons_succ] at q0 q1 q2 q3
        obtain ⟨b, off, spot⟩ := a'
        obtain ⟨cs0, hc0, _⟩ := hi 0 (by omega)
        rw [itm_cells] at hc0
        obtain ⟨_, hcl0, hat0⟩ := World.cells?_some hc0
        have q00 := hat0 0 (by omega)
        rw [List.getElem?_eq_getElem (show 0 < cs0.length by omega)] at q00
        have hspot : spot = none := by simpa [Addr.add] using World.cell?_spot q00
        subst hspot
        simp only [Addr.add_lit, Nat.add_zero] at q0 q1 q2 q3
        exact ⟨z, fun _ => ⟨b, off, rfl, World.block_lt_of_cell? W _ q0, hz.1, hz.2.1, hz.2.2, q0, q1, q2, q3⟩⟩
      · exact ⟨im0, fun h => absurd h hil⟩
    obtain ⟨f, hfz⟩ := Classical.skolem.1 key
    refine ⟨(List.range len).map f, by simp, by omega, fun i hil => ?_⟩
    have e : ((List.range len).map f).getD i im0 = f i := by simp [List.getD, hil]
    rw [e]
    exact hfz i hil
theorem ask_cells : Try.prog.cellsOf 40 = 5 := by kernel_rfl
theorem a_int_cells : Try.prog.cellsOf 3 = 1 := by kernel_rfl
theorem i_cut5 {cs : List Value} {a b c d e : Value} (hl : cs.length = 5) (h0 : (cs.drop 0).take 1 = [a]) (h1 : (cs.drop 1).take 1 = [b]) (h2 : (cs.drop 2).take 1 = [c]) (h3 : (cs.drop 3).take 1 = [d]) (h4 : (cs.drop 4).take 1 = [e]) : cs = [a, b, c, d, e] := by
  match cs, hl with
  | [_, _, _, _, _], _ => simp at h0 h1 h2 h3 h4; rw [h0, h1, h2, h3, h4]
def Ask.ok (q : Ask) : Prop := q.key.size ≤ maxLen ∧ q.lo.size ≤ maxLen ∧ q.hi.size ≤ maxLen ∧ q.time < 18446744073709551616 ∧ -9223372036854775808 ≤ q.most ∧ q.most ≤ 9223372036854775807
theorem open_Item {v : Value} {d : DataW H} {p : List MemPlace} (h : DataW.Trod enc Try.prog W 0 (fun _ => true) true 37 v d p) (hv : ∃ cs, v = .agg cs) : ∃ m : Im, v = .agg m.cells.toArray ∧ m.ok ∧ True := by
  obtain ⟨cs, rfl⟩ := hv
  obtain ⟨fuel, hf⟩ := h
  obtain ⟨m, hm, e⟩ := itm_open hf
  refine ⟨m, ?_, hm, trivial⟩
  have : cs.toList = m.cells := e
  rw [← this]
theorem ask_open {fuel : Nat} {cs : List Value} {x : DataW H × List MemPlace} (h : DataW.trod enc Try.prog W 0 (fun _ => true) true fuel 40 cs = some x) : ∃ q : Ask, q.ok ∧ cs = q.cells.toList := by
  obtain ⟨xs, n, _, rfl, hl, hlen, hf⟩ := DataW.trod_struct Try.underlying40 h
  rw [ask_cells] at hl
  match xs, hlen with
  | [y0, y1, y2, y3, y4], _ =>
    have g0 := hf 0 _ rfl
    have g1 := hf 1 _ rfl
    have g2 := hf 2 _ rfl
    have g3 := hf 3 _ rfl
    have g4 := hf 4 _ rfl
    simp only [v_str_cells, v_u64_cells, a_int_cells, List.getElem?_cons_zero, List.getElem?_cons_succ] at g0 g1 g2 g3 g4
    obtain ⟨k, e0, _, w0⟩ := DataW.trod_string Try.underlying9 g0
    obtain ⟨t1, e1, _, w1⟩ := DataW.trod_int Try.underlying33 g1
    obtain ⟨lo, e2, _, w2⟩ := DataW.trod_string Try.underlying9 g2
    obtain ⟨hi, e3, _, w3⟩ := DataW.trod_string Try.underlying9 g3
    obtain ⟨m, e4, _, w4⟩ := DataW.trod_int Try.underlying3 g4
    have b1 := bounds_u64 w1
    have b4 := bounds_i64 w4
    obtain ⟨t, rfl⟩ := Int.eq_ofNat_of_zero_le b1.1
    exact ⟨⟨k, t, lo, hi, m⟩, ⟨w0, w2, w3, by show t < _; omega, by show _ ≤ m; omega, by show m ≤ _; omega⟩, i_cut5 hl e0 e1 e2 e3 e4⟩
theorem open_Ask {v : Value} {d : DataW H} {p : List MemPlace} (h : DataW.Trod enc Try.prog W 0 (fun _ => true) true 40 v d p) (hv : ∃ cs, v = .agg cs) : ∃ q : Ask, v = .agg q.cells ∧ q.ok ∧ True := by
  obtain ⟨cs, rfl⟩ := hv
  obtain ⟨fuel, hf⟩ := h
  obtain ⟨q, hq, e⟩ := ask_open hf
  refine ⟨q, ?_, hq, trivial⟩
  have : cs.toList = q.cells.toList := e
  exact congrArg Value.agg (Array.ext' this)
end
end Go.Proofs.Ytdcefhhmddjodaa
