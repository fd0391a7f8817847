/-
  Joined: CrdProgram, OpenCqs.
-/
import Derived.Test.YtdldplhfpianhaaSet31
import Derived.Test.YtdldplhfpianhaaSet17
import Derived.Test.YtdldplhfpianhaaRows
import Derived.OpenShut
import Derived.Deep.Slices
import Derived.Deep.Strs
import Derived.SizedLaws
namespace Go.Proofs.Ytdldplhfpianhaa
open Go.RowKit
set_option linter.unusedVariables false
set_option linter.unnecessarySimpa false
set_option linter.unusedSimpArgs false
set_option maxRecDepth 100000

theorem lt_same {w w' : World} {k : Nat} (h : k < w.heap.size) (e : w'.heap[k]? = w.heap[k]?) : k < w'.heap.size := by
  rw [Array.getElem?_eq_getElem h] at e
  exact (Array.getElem?_eq_some_iff.1 e).1
theorem IsKs.sameX {w w' : World} {a : Option Addr} {n c : Nat} {L : List ByteArray} (h : IsKs w a n c L) (hb : ∀ q : Addr, a = some q → w'.heap[q.block]? = w.heap[q.block]?) : IsKs w' a n c L := by
  refine ⟨h.1, h.2.1, fun i hi => ?_⟩
  obtain ⟨b, off, ha, q1, q2, q3⟩ := h.2.2 i hi
  have hbk := hb _ ha
  exact ⟨b, off, ha, lt_same q1 hbk, q2, by rw [World.cell?, hbk]; exact q3⟩
theorem IsWqs.sameX {w w' : World} {a : Option Addr} {n c : Nat} {ws : List Wq} (h : IsWqs w a n c ws) (hb : ∀ q : Addr, a = some q → w'.heap[q.block]? = w.heap[q.block]?) : IsWqs w' a n c ws := by
  refine ⟨h.1, h.2.1, h.2.2.1, fun i hi => ?_⟩
  obtain ⟨b, off, ha, q1, q2, q3, q4, q5, q6⟩ := h.2.2.2 i hi
  have hbk := hb _ ha
  exact ⟨b, off, ha, lt_same q1 hbk, q2, q3, by rw [World.cell?, hbk]; exact q4, by rw [World.cell?, hbk]; exact q5, by rw [World.cell?, hbk]; exact q6⟩
theorem Fx.sameX {w w' : World} {u : Rw} {F : Nat → Prop} {p : Pn} {left : List ByteArray} (h : Fx w u F p left) (hk : ∀ k, F k → w'.heap[k]? = w.heap[k]?) : Fx w' u F p left :=
  ⟨h.left.sameX fun q hq => hk _ (h.lfix q hq), h.lcap, h.lfix, h.writes.sameX fun q hq => hk _ (h.wfix q hq), h.wfix, fun W hW m hm => h.owner W (fun k hF => (hW k hF).trans (hk k hF)) m hm, fun k hF => lt_same (h.lt k hF) (hk k hF)⟩
theorem RnM.stayX {w w' : World} {r : Addr} {b : Nat} {u : Rw} {F : Nat → Prop} {p : Pn} {t : Tn} {x : Rn} (h : RnM w r b u F p t x) (hk : ∀ k, rnO b u F k → w'.heap[k]? = w.heap[k]?) : RnM w' r b u F p t x :=
  ⟨h.ptr, (hk b (.inl rfl)).trans h.box, h.fx.sameX fun k hF => hk k (.inr (.inl hF)), own_same h.reads fun k hF => hk k (.inr (.inr (.inl hF))), own_same h.waits fun k hF => hk k (.inr (.inr (.inr hF))), h.pn, h.fb, h.fr, h.fv⟩
theorem rn_out {w W : World} {r : Addr} {b : Nat} {u : Rw} {F : Nat → Prop} {p : Pn} {t : Tn} {x y : Rn} (h : RnOut w r b u F p t y W) (ht : t.ok) (hy : RnOk p y) : ∃ O', RnAt W r p t y O' ∧ Moves (rnO b u F) O' w W := by
  obtain ⟨u', h1, h2⟩ := h
  exact ⟨_, ⟨b, u', F, h1, hy, ht, rfl⟩, h2⟩
noncomputable def crd : CrdC where
  At := RnAt
  lt := by
    rintro w r p t x O ⟨b, u, F, h, _, _, rfl⟩ k hk
    exact h.lt k hk
  stay := by
    rintro w w' r p t x O ⟨b, u, F, h, h2, h3, rfl⟩ hk
    exact ⟨b, u, F, h.stayX hk, h2, h3, rfl⟩
  newYes := fun w t p n g ht hp hr hw h1 h5 eg hg hm => pnew_yes w t p n g ht hp hr hw ⟨h1, h5⟩ eg hg hm
  newNo := fun w t p n g ht hp hr hw h1 h5 eg hg hm => pnew_no w t p g hp hr hw hm
  stage := by
    rintro w r p t x O ⟨b, u, F, h, _, _, rfl⟩
    exact (pstage_any h).mono fun e w' ⟨h1, h2⟩ => ⟨h1, by rw [h2]; exact Below.refl _ _⟩
  times := by
    rintro w r p t x O ⟨b, u, F, h, _, _, rfl⟩
    exact ptimes_any h
  next := by
    rintro w r p t x O ⟨b, u, F, h, h2, _, rfl⟩
    exact pnext_any h h2
  waits := by
    rintro w r p t x O ⟨b, u, F, h, _, _, rfl⟩
    exact pwaits_any h
  part := by
    rintro w r p t x O ⟨b, u, F, h, _, _, rfl⟩ node _
    exact ppart_any h node
  reads := by
    rintro w r p t x O ⟨b, u, F, h, h2, _, rfl⟩
    exact preads_any h h2
  txn := by
    rintro w r p t x O ⟨b, u, F, h, _, _, rfl⟩
    exact ptxn_any h
  start := by
    rintro w r p t x O ⟨b, u, F, h, h2, h3, rfl⟩ time ht
    exact (pstart_any h h2.most time ht).mono fun e w' ⟨e1, q⟩ => by
      obtain ⟨O', q1, q2⟩ := rn_out (x := x) q h3 (h2.startR time ht)
      exact ⟨O', e1, q1, q2⟩
  took := by
    rintro w r p t x O ⟨b, u, F, h, h2, h3, rfl⟩ d hd
    exact (ptook_any h h2 d hd).mono fun e w' ⟨e1, q⟩ => by
      obtain ⟨O', q1, q2⟩ := rn_out (x := x) q h3 (h2.tookR d hd)
      exact ⟨O', e1, q1, q2⟩
  vote := by
    rintro w r p t x O ⟨b, u, F, h, h2, h3, rfl⟩ node yes _
    exact (pvote_any h node yes).mono fun e w' ⟨e1, q⟩ => by
      obtain ⟨O', q1, q2⟩ := rn_out (x := x) q h3 (h2.voteR node yes)
      exact ⟨O', e1, q1, q2⟩
  commit := by
    rintro w r p t x O ⟨b, u, F, h, h2, h3, rfl⟩ time ht
    exact (pcommit_any h time).mono fun e w' ⟨e1, q⟩ => by
      obtain ⟨O', q1, q2⟩ := rn_out (x := x) q h3 (h2.commitR time ht)
      exact ⟨O', e1, q1, q2⟩
  abort := by
    rintro w r p t x O ⟨b, u, F, h, h2, h3, rfl⟩
    exact (pabort_any h h2.stage.1).mono fun e w' ⟨e1, q⟩ => by
      obtain ⟨O', q1, q2⟩ := rn_out (x := x) q h3 h2.abortR
      exact ⟨O', e1, q1, q2⟩
end Go.Proofs.Ytdldplhfpianhaa

namespace Go.Proofs.Ytdldplhfpianhaa
open Go.RowKit Go.ChangeShapes Go.WideShapes Go.Deep
set_option linter.unnecessarySimpa false
set_option linter.unusedVariables false
set_option linter.unusedSimpArgs false
set_option maxRecDepth 100000

theorem c_wr_cells : Try.prog.cellsOf 64 = 3 := by kernel_rfl
theorem c_ver_cells : Try.prog.cellsOf 43 = 3 := by kernel_rfl
theorem c_rd_cells : Try.prog.cellsOf 45 = 5 := by kernel_rfl
theorem c_op_cells : Try.prog.cellsOf 47 = 9 := by kernel_rfl
theorem c_pg_cells : Try.prog.cellsOf 25 = 2 := by kernel_rfl
theorem c_ws_cells : Try.prog.cellsOf 23 = 1 := by kernel_rfl
theorem c_ks_cells : Try.prog.cellsOf 22 = 1 := by kernel_rfl
theorem c_u8_cells : Try.prog.cellsOf 5 = 1 := by kernel_rfl
theorem c_u64_cells : Try.prog.cellsOf 36 = 1 := by kernel_rfl
theorem c_int_cells : Try.prog.cellsOf 3 = 1 := by kernel_rfl
theorem c_str_cells : Try.prog.cellsOf 9 = 1 := by kernel_rfl
theorem c_bool_cells : Try.prog.cellsOf 4 = 1 := by kernel_rfl
theorem c_cut3 {cs : List Value} {x y z : Value} (hl : cs.length = 3) (h0 : (cs.drop 0).take 1 = [x]) (h1 : (cs.drop 1).take 1 = [y]) (h2 : (cs.drop 2).take 1 = [z]) : cs = [x, y, z] := by
  match cs, hl with
  | [_, _, _], _ => simp at h0 h1 h2; rw [h0, h1, h2]
theorem c_cut2 {cs : List Value} {x y : Value} (hl : cs.length = 2) (h0 : (cs.drop 0).take 1 = [x]) (h1 : (cs.drop 1).take 1 = [y]) : cs = [x, y] := by
  match cs, hl with
  | [_, _], _ => simp at h0 h1; rw [h0, h1]
theorem c_cut5 {cs : List Value} {k f x y z : Value} (hl : cs.length = 5) (h0 : (cs.drop 0).take 1 = [k]) (h1 : (cs.drop 1).take 1 = [f]) (h2 : (cs.drop 2).take 3 = [x, y, z]) : cs = [k, f, x, y, z] := by
  match cs, hl with
  | [_, _, _, _, _], _ => simp at h0 h1 h2; rw [h0, h1, h2.1, h2.2.1, h2.2.2]
theorem c_cut9 {cs : List Value} {k t a b c d e n g : Value} (hl : cs.length = 9) (h0 : (cs.drop 0).take 1 = [k]) (h1 : (cs.drop 1).take 1 = [t]) (h2 : (cs.drop 2).take 5 = [a, b, c, d, e]) (h3 : (cs.drop 7).take 1 = [n]) (h4 : (cs.drop 8).take 1 = [g]) : cs = [k, t, a, b, c, d, e, n, g] := by
  match cs, hl with
  | [_, _, _, _, _, _, _, _, _], _ => simp at h0 h1 h2 h3 h4; rw [h0, h1, h2.1, h2.2.1, h2.2.2.1, h2.2.2.2.1, h2.2.2.2.2, h3, h4]
theorem mem_weightsAll {H : Type} {P : Program} {e : TypeId} : ∀ {l : List (DataW H)} {d : DataW H}, d ∈ l → ∀ n ∈ d.weights P e, n ∈ DataW.weightsAll P e l
  | [], d, h, n, hn => by cases h
  | x :: l, d, h, n, hn => by
    simp only [DataW.weightsAll, List.mem_append]
    rcases List.mem_cons.1 h with rfl | h
    · exact .inl hn
    · exact .inr (mem_weightsAll h n hn)
section
variable {H : Type} {enc : TypeId × Value → H} {W : World}
theorem cwq_open {fuel : Nat} {cs : List Value} {x : DataW H × List MemPlace} (h : DataW.trod enc Try.prog W 0 (fun _ => true) true fuel 64 cs = some x) : ∃ m : Wq, (m.key.size ≤ maxLen ∧ m.val.size ≤ maxLen) ∧ cs = [.string m.key, .bool m.gone, .string m.val] := by
  obtain ⟨z0, z1, z2, n2, _, hl2, f0, f1, f2⟩ := trod_struct3 Try.underlying64 h
  simp only [c_str_cells, c_bool_cells] at f0 f1 f2
  rw [c_wr_cells] at hl2
  obtain ⟨k, d0, _, hk⟩ := DataW.trod_string Try.underlying9 f0
  obtain ⟨g, d1, _⟩ := DataW.trod_bool Try.underlying4 f1
  obtain ⟨v, d2, _, hv⟩ := DataW.trod_string Try.underlying9 f2
  exact ⟨⟨k, g, v⟩, ⟨hk, hv⟩, c_cut3 hl2 d0 d1 d2⟩
theorem cwqs_open {fuel : Nat} {cs : List Value} {x : DataW H × List MemPlace} (h : DataW.trod enc Try.prog W 0 (fun _ => true) true fuel 23 cs = some x) :
    ∃ a len cap L, cs = [.slice a len cap] ∧ IsWqs W a len cap L := by
  rcases open_slice Try.underlying23 h with ⟨rfl, _⟩ | ⟨a', len, cap, m, n, D, Pl, rfl, _, hl, hm, hmm, _, hi⟩
  · exact ⟨none, 0, 0, [], rfl, rfl, Nat.zero_le _, Nat.le_refl _, fun i hi => by omega⟩
  · simp only [if_true] at hmm
    have key : ∀ i, ∃ z : Wq, i < len → ∃ b off, some a' = some ⟨b, off, none⟩ ∧ WqAt W b (off + i * 3) z := by
      intro i
      by_cases hil : i < len
      · obtain ⟨cs', hc, ht⟩ := hi i (by omega)
        rw [c_wr_cells] at hc
        obtain ⟨_, hcl, hat⟩ := World.cells?_some hc
        obtain ⟨z, hz, rfl⟩ := cwq_open ht
        have q0 := hat 0 (by omega)
        have q1 := hat 1 (by omega)
        have q2 := hat 2 (by omega)
        simp only [List.getElem?_cons_zero, List.getElem?_cons_succ] at q0 q1 q2
        obtain ⟨b, off, spot⟩ := a'
        obtain ⟨cs0, hc0, _⟩ := hi 0 (by omega)
        rw [c_wr_cells] at hc0
        obtain ⟨_, hcl0, hat0⟩ := World.cells?_some hc0
        have q00 := hat0 0 (by omega)
        rw [List.getElem?_eq_getElem (show 0 < cs0.length by omega)] at q00
        have hspot : spot = none := by simpa [Addr.add] using World.cell?_spot q00
        subst hspot
        simp only [Addr.add_lit, Nat.add_zero] at q0 q1 q2
        exact ⟨z, fun _ => ⟨b, off, rfl, World.block_lt_of_cell? W _ q0, hz.1, hz.2, q0, q1, q2⟩⟩
      · exact ⟨wq0, fun h => absurd h hil⟩
    obtain ⟨f, hfz⟩ := Classical.skolem.1 key
    refine ⟨some a', len, cap, (List.range len).map f, rfl, by simp, by omega, hl, fun i hil => ?_⟩
    have e : ((List.range len).map f).getD i wq0 = f i := by simp [List.getD, hil]
    rw [e]
    exact hfz i hil
theorem cks_open {fuel : Nat} {cs : List Value} {x : DataW H × List MemPlace} (h : DataW.trod enc Try.prog W 0 (fun _ => true) true fuel 22 cs = some x) :
    ∃ a len cap L, cs = [.slice a len cap] ∧ IsKs W a len cap L := by
  rcases open_slice Try.underlying22 h with ⟨rfl, _⟩ | ⟨a', len, cap, m, n, D, Pl, rfl, _, hl, hm, hmm, _, hi⟩
  · exact ⟨none, 0, 0, [], rfl, rfl, Nat.zero_le _, fun i hi => by omega⟩
  · simp only [if_true] at hmm
    have key : ∀ i, ∃ z : ByteArray, i < len → ∃ b off, some a' = some ⟨b, off, none⟩ ∧ b < W.heap.size ∧ z.size ≤ maxLen ∧ W.cell? ⟨b, off + i, none⟩ = some (.string z) := by
      intro i
      by_cases hil : i < len
      · obtain ⟨cs', hc, ht⟩ := hi i (by omega)
        rw [c_str_cells] at hc
        obtain ⟨_, hcl, hat⟩ := World.cells?_some hc
        obtain ⟨z, rfl, _, hz⟩ := DataW.trod_string Try.underlying9 ht
        have q0 := hat 0 (by omega)
        simp only [List.getElem?_cons_zero] at q0
        obtain ⟨b, off, spot⟩ := a'
        obtain ⟨cs0, hc0, _⟩ := hi 0 (by omega)
        rw [c_str_cells] at hc0
        obtain ⟨_, hcl0, hat0⟩ := World.cells?_some hc0
        have q00 := hat0 0 (by omega)
        rw [List.getElem?_eq_getElem (show 0 < cs0.length by omega)] at q00
        have hspot : spot = none := by simpa [Addr.add] using World.cell?_spot q00
        subst hspot
        simp only [Addr.add_lit, Nat.add_zero, Nat.mul_one] at q0
        exact ⟨z, fun _ => ⟨b, off, rfl, World.block_lt_of_cell? W _ q0, hz, q0⟩⟩
      · exact ⟨⟨#[]⟩, fun h => absurd h hil⟩
    obtain ⟨f, hfz⟩ := Classical.skolem.1 key
    refine ⟨some a', len, cap, (List.range len).map f, rfl, by simp, by omega, fun i hil => ?_⟩
    have e : ((List.range len).map f).getD i ⟨#[]⟩ = f i := by simp [List.getD, hil]
    rw [e]
    exact hfz i hil
/-- An argument that is a program. -/
theorem open_PgOk {v : Value} {d : DataW H} {p : List MemPlace} (h : DataW.Trod enc Try.prog W 0 (fun _ => true) true 25 v d p) (hv : ∃ cs, v = .agg cs) : ∃ z : Pg, v = .agg z.cells ∧ PgOk W z := by
  obtain ⟨fuel, hf⟩ := h
  obtain ⟨cs, rfl⟩ := hv
  obtain ⟨xs, n, _, _, hl, hlen, hff⟩ := DataW.trod_struct Try.underlying25 hf
  rw [c_pg_cells] at hl
  match xs, hlen with
  | [y0, y1], _ =>
    have g0 := hff 0 _ rfl
    have g1 := hff 1 _ rfl
    simp only [c_ks_cells, c_ws_cells, List.getElem?_cons_zero, List.getElem?_cons_succ] at g0 g1
    obtain ⟨ra, rn, rc, R, e0, hR⟩ := cks_open g0
    obtain ⟨wa, wn, wc, Ws, e1, hW⟩ := cwqs_open g1
    have hcs := c_cut2 hl e0 e1
    refine ⟨⟨ra, rn, rc, R, wa, wn, wc, Ws⟩, ?_, hR, hW⟩
    have h2 : cs.toList = [Value.slice ra rn rc, Value.slice wa wn wc] := by simpa [Value.cells] using hcs
    have h3 : cs = #[Value.slice ra rn rc, Value.slice wa wn wc] := by rw [← Array.toList_inj, h2]
    rw [h3]
    rfl
theorem cver_open {fuel : Nat} {cs : List Value} {x : DataW H × List MemPlace} (h : DataW.trod enc Try.prog W 0 (fun _ => true) true fuel 43 cs = some x) :
    ∃ v : Vr, v.time < 18446744073709551616 ∧ cs = [.int .u64 (v.time : Int), .bool v.gone, .string v.val] ∧ v.val.size ∈ x.1.weights Try.prog 43 := by
  obtain ⟨y0, y1, y2, n, rfl, hl, g0, g1, g2⟩ := trod_struct3 Try.underlying43 h
  simp only [c_u64_cells, c_bool_cells, c_str_cells] at g0 g1 g2
  obtain ⟨a, e0, _, w0⟩ := DataW.trod_int Try.underlying36 g0
  obtain ⟨b, e1, _⟩ := DataW.trod_bool Try.underlying4 g1
  obtain ⟨c, e2, r2, _⟩ := DataW.trod_string Try.underlying9 g2
  rw [c_ver_cells] at hl
  have b0 := bounds_u64 w0
  obtain ⟨t, rfl⟩ := Int.eq_ofNat_of_zero_le b0.1
  refine ⟨⟨t, b, c⟩, by show t < _; omega, c_cut3 hl e0 e1 e2, ?_⟩
  simp only [DataW.weights, Try.underlying43]
  refine DataW.weights_mem_each (j := 2) rfl rfl _ ?_
  subst r2
  simp [DataW.weights]
theorem crd_open {fuel : Nat} {cs : List Value} {x : DataW H × List MemPlace} (h : DataW.trod enc Try.prog W 0 (fun _ => true) true fuel 45 cs = some x) :
    ∃ d : Rd, d.v.time < 18446744073709551616 ∧ cs = d.cells ∧ d.key.size ∈ x.1.weights Try.prog 45 ∧ d.v.val.size ∈ x.1.weights Try.prog 45 := by
  obtain ⟨y0, y1, y2, n, rfl, hl, g0, g1, g2⟩ := trod_struct3 Try.underlying45 h
  simp only [c_str_cells, c_bool_cells, c_ver_cells] at g0 g1 g2
  obtain ⟨k, e0, r0, _⟩ := DataW.trod_string Try.underlying9 g0
  obtain ⟨f, e1, _⟩ := DataW.trod_bool Try.underlying4 g1
  obtain ⟨v, ht, e2, hv⟩ := cver_open g2
  rw [c_rd_cells] at hl
  refine ⟨⟨k, f, v⟩, ht, c_cut5 hl e0 e1 e2, ?_, ?_⟩
  · simp only [DataW.weights, Try.underlying45]
    refine DataW.weights_mem_each (j := 0) rfl rfl _ ?_
    subst r0
    simp [DataW.weights]
  · simp only [DataW.weights, Try.underlying45]
    exact DataW.weights_mem_each (j := 2) rfl rfl _ hv
theorem cq_open {fuel : Nat} {cs : List Value} {x : DataW H × List MemPlace} (h : DataW.trod enc Try.prog W 0 (fun _ => true) true fuel 47 cs = some x) (hw : ∀ n, n ∈ x.1.weights Try.prog 47 → n ≤ reachBytes) : ∃ o : Cq, o.ok ∧ cs = o.cells.toList := by
  obtain ⟨xs, n, _, rfl, hl, hlen, hf⟩ := DataW.trod_struct Try.underlying47 h
  rw [c_op_cells] at hl
  match xs, hlen with
  | [y0, y1, y2, y3, y4], _ =>
    have g0 := hf 0 _ rfl
    have g1 := hf 1 _ rfl
    have g2 := hf 2 _ rfl
    have g3 := hf 3 _ rfl
    have g4 := hf 4 _ rfl
    simp only [c_u8_cells, c_u64_cells, c_rd_cells, c_int_cells, c_bool_cells, List.getElem?_cons_zero, List.getElem?_cons_succ] at g0 g1 g2 g3 g4
    obtain ⟨k, e0, _, w0⟩ := DataW.trod_int Try.underlying5 g0
    obtain ⟨t, e1, _, w1⟩ := DataW.trod_int Try.underlying36 g1
    obtain ⟨d, hdt, e2, hk, hv⟩ := crd_open g2
    obtain ⟨nd, e3, _, w3⟩ := DataW.trod_int Try.underlying3 g3
    obtain ⟨gd, e4, _⟩ := DataW.trod_bool Try.underlying4 g4
    have b0 := bounds_u8 w0
    have b1 := bounds_u64 w1
    obtain ⟨k, rfl⟩ := Int.eq_ofNat_of_zero_le b0.1
    obtain ⟨t, rfl⟩ := Int.eq_ofNat_of_zero_le b1.1
    have hm : ∀ n, n ∈ y2.1.weights Try.prog 45 → n ≤ reachBytes := fun n hn => hw n (by
      simp only [DataW.weights, Try.underlying47]
      exact DataW.weights_mem_each (j := 2) rfl rfl _ hn)
    have s1 := hm _ hk
    have s2 := hm _ hv
    have hrb : reachBytes ≤ 140737488355328 := by decide
    obtain ⟨K, F, ⟨T, J, V⟩⟩ := d
    exact ⟨⟨k, t, ⟨K, F, ⟨T, J, V⟩⟩, nd, gd⟩, ⟨by show k < 256; omega, by show t < _; omega, ⟨Nat.le_trans s1 hrb, Nat.le_trans s2 hrb, hdt⟩, w3⟩, c_cut9 hl e0 e1 e2 e3 e4⟩
theorem open_IsCqs {a : Option Addr} {len cap : Nat} {d : DataW H} {p : List MemPlace}
    (h : DataW.Trod enc Try.prog W 0 (fun _ => true) true 26 (.slice a len cap) d p) (hsz : ∀ n, n ∈ d.weights Try.prog 26 → n ≤ reachBytes) : ∃ L, IsCqs W a len cap L := by
  obtain ⟨fuel, hf⟩ := h
  rcases open_slice Try.underlying26 hf with ⟨hcs, _⟩ | ⟨a', len', cap', m, n, D, Pl, hcs, _, hl, hm, hmm, hx, hi⟩
  · simp [Value.cells] at hcs
    obtain ⟨rfl, rfl, rfl⟩ := hcs
    exact ⟨[], rfl, Nat.zero_le _, Nat.le_refl _, fun i hi => by omega⟩
  · simp [Value.cells] at hcs
    obtain ⟨rfl, rfl, rfl⟩ := hcs
    simp only [if_true] at hmm
    have hd : d = .slice ((List.range len).map D) ((List.range (m - len)).map fun j => D (len + j)) := congrArg Prod.fst hx
    have hws : ∀ i, i < len → ∀ n, n ∈ (D i).weights Try.prog 47 → n ≤ reachBytes := fun i hil n hn => hsz n (by
      rw [hd]
      simp only [DataW.weights, Try.underlying26, List.mem_cons, List.mem_append]
      exact .inr (.inl (mem_weightsAll (List.mem_map.2 ⟨i, List.mem_range.2 hil, rfl⟩) n hn)))
    have key : ∀ i, ∃ z : Cq, i < len → ∃ b off, some a' = some ⟨b, off, none⟩ ∧ CqAt W b (off + i * 9) z := by
      intro i
      by_cases hil : i < len
      · obtain ⟨cs', hc, ht⟩ := hi i (by omega)
        rw [c_op_cells] at hc
        obtain ⟨_, hcl, hat⟩ := World.cells?_some hc
        obtain ⟨z, hz, rfl⟩ := cq_open ht (hws i hil)
        have q0 := hat 0 (by omega)
        have q1 := hat 1 (by omega)
        have q2 := hat 2 (by omega)
        have q3 := hat 3 (by omega)
        have q4 := hat 4 (by omega)
        have q5 := hat 5 (by omega)
        have q6 := hat 6 (by omega)
        have q7 := hat 7 (by omega)
        have q8 := hat 8 (by omega)
        simp only [Cq.cells, List.getElem?_cons_zero, List.getElem?_cons_succ] at q0 q1 q2 q3 q4 q5 q6 q7 q8
        obtain ⟨b, off, spot⟩ := a'
        obtain ⟨cs0, hc0, _⟩ := hi 0 (by omega)
        rw [c_op_cells] at hc0
        obtain ⟨_, hcl0, hat0⟩ := World.cells?_some hc0
        have q00 := hat0 0 (by omega)
        rw [List.getElem?_eq_getElem (show 0 < cs0.length by omega)] at q00
        have hspot : spot = none := by simpa [Addr.add] using World.cell?_spot q00
        subst hspot
        simp only [Addr.add_lit, Nat.add_zero] at q0 q1 q2 q3 q4 q5 q6 q7 q8
        exact ⟨z, fun _ => ⟨b, off, rfl, World.block_lt_of_cell? W _ q0, hz, q0, q1, q2, q3, q4, q5, q6, q7, q8⟩⟩
      · exact ⟨cq0, fun h => absurd h hil⟩
    obtain ⟨f, hfz⟩ := Classical.skolem.1 key
    refine ⟨(List.range len).map f, by simp, by omega, hl, fun i hil => ?_⟩
    have e : ((List.range len).map f).getD i cq0 = f i := by simp [List.getD, hil]
    rw [e]
    exact hfz i hil
end
end Go.Proofs.Ytdldplhfpianhaa
