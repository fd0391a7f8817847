/-
  An argument that is a message, opened to its cells and its writes; an argument that is a slice of fields more.
-/
import Derived.Test.YtkcbbcabfbkclaaMsgExtra
import Derived.ProofKit
import Derived.OpenShut
import Derived.SizedLaws
import Derived.Deep.Slices
import Derived.Deep.Strs
namespace Go.Proofs.Ytkcbbcabfbkclaa
open Go.RowKit Go.ChangeShapes Go.WideShapes Go.Deep
set_option linter.unnecessarySimpa false
set_option linter.unusedVariables false
set_option linter.unusedSimpArgs false
set_option maxRecDepth 100000

theorem o_msg_cells : Try.prog.cellsOf 29 = 17 := by kernel_rfl
theorem o_txn_cells : Try.prog.cellsOf 23 = 3 := by kernel_rfl
theorem o_ver_cells : Try.prog.cellsOf 26 = 3 := by kernel_rfl
theorem o_wr_cells : Try.prog.cellsOf 56 = 3 := by kernel_rfl
theorem o_ws_cells : Try.prog.cellsOf 27 = 1 := by kernel_rfl
theorem o_int_cells : Try.prog.cellsOf 3 = 1 := by kernel_rfl
theorem o_u64_cells : Try.prog.cellsOf 24 = 1 := by kernel_rfl
theorem o_str_cells : Try.prog.cellsOf 9 = 1 := by kernel_rfl
theorem o_bool_cells : Try.prog.cellsOf 4 = 1 := by kernel_rfl
theorem o_wr_bytes : 0 < Try.prog.bytesOf 56 := of_decide_eq_true (by kernel_rfl)
theorem m_cut3 {α : Type} {cs : List α} {x y z : α} (h0 : (cs.drop 0).take 1 = [x]) (h1 : (cs.drop 1).take 1 = [y]) (h2 : (cs.drop 2).take 1 = [z]) : cs[0]? = some x ∧ cs[1]? = some y ∧ cs[2]? = some z := by
  refine ⟨?_, ?_, ?_⟩
  · have := congrArg (·[0]?) h0; simpa using this
  · have := congrArg (·[0]?) h1; simpa using this
  · have := congrArg (·[0]?) h2; simpa using this
theorem m_list3 {α : Type} {cs : List α} {a b c : α} (hl : cs.length = 3) (h : cs[0]? = some a ∧ cs[1]? = some b ∧ cs[2]? = some c) : cs = [a, b, c] := by
  match cs, hl with
  | [_, _, _], _ => simp at h; rw [h.1, h.2.1, h.2.2]

section
variable {H : Type} {enc : TypeId × Value → H} {w : World} {base : Nat} {spare : Nat → Bool} {held : Bool}
theorem txn_open {fuel : Nat} {cs : List Value} {x : DataW H × List MemPlace} (h : DataW.trod enc Try.prog w base spare held fuel 23 cs = some x) :
    ∃ a b c : Int, I64 a ∧ I64 b ∧ I64 c ∧ cs = [.int .i64 a, .int .i64 b, .int .i64 c] := by
  obtain ⟨y0, y1, y2, n, _, hl, g0, g1, g2⟩ := trod_struct3 Try.underlying23 h
  simp only [o_int_cells] at g0 g1 g2
  obtain ⟨a, e0, _, w0⟩ := DataW.trod_int Try.underlying3 g0
  obtain ⟨b, e1, _, w1⟩ := DataW.trod_int Try.underlying3 g1
  obtain ⟨c, e2, _, w2⟩ := DataW.trod_int Try.underlying3 g2
  rw [o_txn_cells] at hl
  exact ⟨a, b, c, bounds_i64 w0, bounds_i64 w1, bounds_i64 w2, m_list3 hl (m_cut3 e0 e1 e2)⟩
theorem ver_open {fuel : Nat} {cs : List Value} {x : DataW H × List MemPlace} (h : DataW.trod enc Try.prog w base spare held fuel 26 cs = some x) :
    ∃ (t : Nat) (g : Bool) (s : ByteArray), t < 18446744073709551616 ∧ cs = [.int .u64 t, .bool g, .string s] ∧ s.size ∈ x.1.weights Try.prog 26 := by
  obtain ⟨y0, y1, y2, n, rfl, hl, g0, g1, g2⟩ := trod_struct3 Try.underlying26 h
  simp only [o_u64_cells, o_bool_cells, o_str_cells] at g0 g1 g2
  obtain ⟨a, e0, _, w0⟩ := DataW.trod_int Try.underlying24 g0
  obtain ⟨b, e1, _⟩ := DataW.trod_bool Try.underlying4 g1
  obtain ⟨c, e2, r2, _⟩ := DataW.trod_string Try.underlying9 g2
  rw [o_ver_cells] at hl
  have b0 := bounds_u64 w0
  obtain ⟨t, rfl⟩ := Int.eq_ofNat_of_zero_le b0.1
  refine ⟨t, b, c, by omega, m_list3 hl (m_cut3 e0 e1 e2), ?_⟩
  simp only [DataW.weights, Try.underlying26]
  refine DataW.weights_mem_each (j := 2) rfl rfl _ ?_
  subst r2
  simp [DataW.weights]
theorem ws_open {fuel : Nat} {cs : List Value} {x : DataW H × List MemPlace} (h : DataW.trod enc Try.prog w 0 (fun _ => true) true fuel 27 cs = some x) :
    ∃ (sl : Value) (ws : List Wr), cs = [sl] ∧ WsAt w sl ws ∧ (∀ i, i < ws.length → (ws.getD i wr0).key.size ≤ maxLen ∧ (ws.getD i wr0).val.size ≤ maxLen) ∧
      (ws = [] ∨ ∃ n, n ∈ x.1.weights Try.prog 27 ∧ ws.length ≤ n) := by
  rcases open_slice Try.underlying27 h with ⟨rfl, _⟩ | ⟨a', len, cap, m, n, D, Pl, rfl, _, hl, hm, hmm, rfl, hi⟩
  · exact ⟨_, [], rfl, WsAt.nil w, fun i hi => absurd hi (Nat.not_lt_zero _), .inl rfl⟩
  · simp only [if_true] at hmm
    have key : ∀ i, ∃ z : Wr, i < len → (∃ b off, some a' = some ⟨b, off, none⟩ ∧ b < w.heap.size ∧ w.cell? ⟨b, off + i * 3, none⟩ = some (.string z.key) ∧
        w.cell? ⟨b, off + i * 3 + 1, none⟩ = some (.bool z.gone) ∧ w.cell? ⟨b, off + i * 3 + 2, none⟩ = some (.string z.val)) ∧ z.key.size ≤ maxLen ∧ z.val.size ≤ maxLen := by
      intro i
      by_cases hil : i < len
      · obtain ⟨cs', hc, ht⟩ := hi i (by omega)
        rw [o_wr_cells] at hc
        obtain ⟨_, hcl, hat⟩ := World.cells?_some hc
        obtain ⟨y0, y1, y2, n', _, _, g0, g1, g2⟩ := trod_struct3 Try.underlying56 ht
        simp only [o_str_cells, o_bool_cells] at g0 g1 g2
        obtain ⟨s, e0, _, ws0⟩ := DataW.trod_string Try.underlying9 g0
        obtain ⟨k1, e1, _⟩ := DataW.trod_bool Try.underlying4 g1
        obtain ⟨s2, e2, _, ws2⟩ := DataW.trod_string Try.underlying9 g2
        obtain ⟨x0, x1, x2⟩ := m_cut3 e0 e1 e2
        have q0 := (hat 0 (by omega)).trans x0
        have q1 := (hat 1 (by omega)).trans x1
        have q2 := (hat 2 (by omega)).trans x2
        obtain ⟨b, off, spot⟩ := a'
        obtain ⟨cs0, hc0, _⟩ := hi 0 (by omega)
        rw [o_wr_cells] at hc0
        obtain ⟨_, hcl0, hat0⟩ := World.cells?_some hc0
        have q00 := hat0 0 (by omega)
        rw [List.getElem?_eq_getElem (show 0 < cs0.length by omega)] at q00
        have hspot : spot = none := by simpa [Addr.add] using World.cell?_spot q00
        subst hspot
        simp only [Addr.add_lit, Nat.add_zero] at q0 q1 q2
        exact ⟨⟨s, k1, s2⟩, fun _ => ⟨⟨b, off, rfl, World.block_lt_of_cell? w _ q0, q0, q1, q2⟩, ws0, ws2⟩⟩
      · exact ⟨wr0, fun h => absurd h hil⟩
    obtain ⟨f, hfz⟩ := Classical.skolem.1 key
    have e : ∀ i, i < len → ((List.range len).map f).getD i wr0 = f i := fun i hil => by simp [List.getD, hil]
    refine ⟨_, (List.range len).map f, rfl, ⟨some a', len, cap, rfl, by simp, fun i hil => ?_⟩, fun i hil => ?_, .inr ⟨cap * Try.prog.bytesOf 56, ?_, ?_⟩⟩
    · rw [e i hil]; exact (hfz i hil).1
    · have hil' : i < len := by simpa using hil
      rw [e i hil']; exact (hfz i hil').2
    · simp only [DataW.weights, Try.underlying27, List.length_map, List.length_range]
      have hc : len + (m - len) = cap := by omega
      rw [hc]
      exact List.mem_cons_self ..
    · have := o_wr_bytes
      rw [List.length_map, List.length_range]
      calc len ≤ cap := hl
        _ = cap * 1 := (Nat.mul_one _).symm
        _ ≤ _ := Nat.mul_le_mul_left _ this

set_option maxHeartbeats 4000000 in
theorem msg_open {fuel : Nat} {cs : List Value} {x : DataW H × List MemPlace} (h : DataW.trod enc Try.prog w 0 (fun _ => true) true fuel 29 cs = some x) (hsz : ∀ n, n ∈ x.1.weights Try.prog 29 → n ≤ reachBytes) :
    ∃ (m : Mg) (sl : Value), cs = (m.cells sl).toList ∧ WsAt w sl m.ws ∧ MsgIn m := by
  obtain ⟨xs, n, _, rfl, hl, hlen, hf⟩ := DataW.trod_struct Try.underlying29 h
  rw [o_msg_cells] at hl
  match cs, hl, xs, hlen with
  | [c0, c1, c2, c3, c4, c5, c6, c7, c8, c9, c10, c11, c12, c13, c14, c15, c16], _, [y0, y1, y2, y3, y4, y5, y6, y7, y8, y9, y10, y11, y12], _ =>
    have g0 := hf 0 _ rfl
    have g1 := hf 1 _ rfl
    have g2 := hf 2 _ rfl
    have g3 := hf 3 _ rfl
    have g4 := hf 4 _ rfl
    have g5 := hf 5 _ rfl
    have g6 := hf 6 _ rfl
    have g7 := hf 7 _ rfl
    have g8 := hf 8 _ rfl
    have g9 := hf 9 _ rfl
    have g10 := hf 10 _ rfl
    have g11 := hf 11 _ rfl
    have g12 := hf 12 _ rfl
    clear hf
    simp only [List.getElem_toArray, List.getElem_cons_zero, List.getElem_cons_succ, o_int_cells, o_u64_cells, o_str_cells, o_bool_cells, o_txn_cells, o_ver_cells, o_ws_cells, List.drop_succ_cons, List.drop_zero, List.take_succ_cons, List.take_zero, List.getElem?_cons_zero, List.getElem?_cons_succ] at g0 g1 g2 g3 g4 g5 g6 g7 g8 g9 g10 g11 g12
    clear h hl hlen
    have hw : ∀ (j : Nat) (ty : TypeId) (d : DataW H), (([3, 3, 3, 23, 24, 24, 9, 4, 26, 27, 9, 24, 24] : List TypeId))[j]? = some ty →
        [y0.1, y1.1, y2.1, y3.1, y4.1, y5.1, y6.1, y7.1, y8.1, y9.1, y10.1, y11.1, y12.1][j]? = some d → ∀ n, n ∈ d.weights Try.prog ty → n ≤ reachBytes := fun j ty d ht hd n hn => hsz n (by
      simp only [DataW.weights, Try.underlying29]
      exact DataW.weights_mem_each (j := j) ht hd n hn)
    clear hsz
    have hr := reachBytes_lt
    obtain ⟨kind, e0, _, w0⟩ := DataW.trod_int Try.underlying3 g0
    obtain ⟨frm, e1, _, w1⟩ := DataW.trod_int Try.underlying3 g1
    obtain ⟨to_, e2, _, w2⟩ := DataW.trod_int Try.underlying3 g2
    obtain ⟨node, life, seq, n3, n4, n5, e3⟩ := txn_open g3
    obtain ⟨a, e4, _, w4⟩ := DataW.trod_int Try.underlying24 g4
    obtain ⟨b, e5, _, w5⟩ := DataW.trod_int Try.underlying24 g5
    obtain ⟨key, e6, r6, _⟩ := DataW.trod_string Try.underlying9 g6
    obtain ⟨found, e7, _⟩ := DataW.trod_bool Try.underlying4 g7
    obtain ⟨time, gone, val, ht, e8, hvs⟩ := ver_open g8
    obtain ⟨sl, ws, e9, hws, hall, hlen⟩ := ws_open g9
    obtain ⟨note, e10, r10, _⟩ := DataW.trod_string Try.underlying9 g10
    obtain ⟨hint, e11, _, w11⟩ := DataW.trod_int Try.underlying24 g11
    obtain ⟨must, e12, _, w12⟩ := DataW.trod_int Try.underlying24 g12
    have b4 := bounds_u64 w4
    have b5 := bounds_u64 w5
    have b11 := bounds_u64 w11
    have b12 := bounds_u64 w12
    obtain ⟨a, rfl⟩ := Int.eq_ofNat_of_zero_le b4.1
    obtain ⟨b, rfl⟩ := Int.eq_ofNat_of_zero_le b5.1
    obtain ⟨hint, rfl⟩ := Int.eq_ofNat_of_zero_le b11.1
    obtain ⟨must, rfl⟩ := Int.eq_ofNat_of_zero_le b12.1
    have s6 := hw 6 _ _ rfl rfl key.size (by rw [r6]; simp [DataW.weights])
    have s8 := hw 8 _ _ rfl rfl val.size hvs
    have s10 := hw 10 _ _ rfl rfl note.size (by rw [r10]; simp [DataW.weights])
    have s9 : ws.length ≤ 140737488355328 := by
      rcases hlen with rfl | ⟨n, hn, hle⟩
      · exact Nat.zero_le _
      · have := hw 9 _ _ rfl rfl n hn
        omega
    simp only [List.cons.injEq, and_true] at e0 e1 e2 e3 e4 e5 e6 e7 e8 e9 e10 e11 e12
    obtain ⟨e30, e31, e32⟩ := e3
    obtain ⟨e80, e81, e82⟩ := e8
    refine ⟨⟨kind, frm, to_, node, life, seq, a, b, key, found, time, gone, val, ws, note, hint, must⟩, sl, ?_, hws, ⟨⟨bounds_i64 w0, bounds_i64 w1, bounds_i64 w2, n3, n4, n5, ?_, ?_, ht, ?_, ?_⟩, ?_, ?_, ?_, s9, hall⟩⟩
    · rw [e0, e1, e2, e30, e31, e32, e4, e5, e6, e7, e80, e81, e82, e9, e10, e11, e12]
      rfl
    all_goals (simp only; omega)
/-- An argument that is a message. -/
theorem open_IsMsg {v : Value} {d : DataW H} {p : List MemPlace} (h : DataW.Trod enc Try.prog w 0 (fun _ => true) true 29 v d p) (hv : ∃ cs, v = .agg cs) (hsz : ∀ n, n ∈ d.weights Try.prog 29 → n ≤ reachBytes) :
    ∃ (m : Mg) (sl : Value), v = .agg (m.cells sl) ∧ WsAt w sl m.ws ∧ MsgIn m := by
  obtain ⟨fuel, hf⟩ := h
  obtain ⟨cs, rfl⟩ := hv
  obtain ⟨m, sl, h1, h2, h3⟩ := msg_open hf hsz
  refine ⟨m, sl, ?_, h2, h3⟩
  have h4 : cs.toList = (m.cells sl).toList := h1
  rw [Array.toList_inj.1 h4]
end

theorem o_ex_cells : Try.prog.cellsOf 49 = 2 := by kernel_rfl
theorem o_u16_cells : Try.prog.cellsOf 47 = 1 := by kernel_rfl
theorem m_cut2 {α : Type} {cs : List α} {x y : α} (h0 : (cs.drop 0).take 1 = [x]) (h1 : (cs.drop 1).take 1 = [y]) : cs[0]? = some x ∧ cs[1]? = some y := by
  refine ⟨?_, ?_⟩
  · have := congrArg (·[0]?) h0; simpa using this
  · have := congrArg (·[0]?) h1; simpa using this
def IsExtras (W : World) (a : Option Addr) (len _cap : Nat) (zs : List Ex) : Prop := ExAt W a len zs ∧ len ≤ maxLen ∧ ∀ i, i < len → (zs.getD i ex0).2.size ≤ maxLen
theorem open_IsExtras {H : Type} {enc : TypeId × Value → H} {W : World} {a : Option Addr} {len cap : Nat} {d : DataW H} {p : List MemPlace}
    (h : DataW.Trod enc Try.prog W 0 (fun _ => true) true 46 (.slice a len cap) d p) : ∃ zs, IsExtras W a len cap zs := by
  obtain ⟨fuel, hf⟩ := h
  rcases open_slice Try.underlying46 hf with ⟨hcs, _⟩ | ⟨a', len', cap', m, n, D, Pl, hcs, _, hl, hm, hmm, _, hi⟩
  · simp [Value.cells] at hcs
    obtain ⟨rfl, rfl, rfl⟩ := hcs
    exact ⟨[], ⟨rfl, fun i hi => absurd hi (Nat.not_lt_zero _)⟩, Nat.zero_le _, fun i hi => absurd hi (Nat.not_lt_zero _)⟩
  · simp [Value.cells] at hcs
    obtain ⟨rfl, rfl, rfl⟩ := hcs
    simp only [if_true] at hmm
    have key : ∀ i, ∃ z : Ex, i < len → (∃ b off, some a' = some ⟨b, off, none⟩ ∧ b < W.heap.size ∧ z.1 < 65536 ∧ W.cell? ⟨b, off + i * 2, none⟩ = some (.int .u16 z.1) ∧
        W.cell? ⟨b, off + i * 2 + 1, none⟩ = some (.string z.2)) ∧ z.2.size ≤ maxLen := by
      intro i
      by_cases hil : i < len
      · obtain ⟨cs', hc, ht⟩ := hi i (by omega)
        rw [o_ex_cells] at hc
        obtain ⟨_, hcl, hat⟩ := World.cells?_some hc
        obtain ⟨y0, y1, n', _, _, g0, g1⟩ := trod_struct2 Try.underlying49 ht
        simp only [o_u16_cells, o_str_cells] at g0 g1
        obtain ⟨k, e0, _, wk⟩ := DataW.trod_int Try.underlying47 g0
        obtain ⟨s, e1, _, ws⟩ := DataW.trod_string Try.underlying9 g1
        obtain ⟨x0, x1⟩ := m_cut2 e0 e1
        have b1 := bounds_u16 wk
        obtain ⟨k, rfl⟩ := Int.eq_ofNat_of_zero_le b1.1
        have q0 := (hat 0 (by omega)).trans x0
        have q1 := (hat 1 (by omega)).trans x1
        obtain ⟨b, off, spot⟩ := a'
        obtain ⟨cs0, hc0, _⟩ := hi 0 (by omega)
        rw [o_ex_cells] at hc0
        obtain ⟨_, hcl0, hat0⟩ := World.cells?_some hc0
        have q00 := hat0 0 (by omega)
        rw [List.getElem?_eq_getElem (show 0 < cs0.length by omega)] at q00
        have hspot : spot = none := by simpa [Addr.add] using World.cell?_spot q00
        subst hspot
        simp only [Addr.add_lit, Nat.add_zero] at q0 q1
        exact ⟨(k, s), fun _ => ⟨⟨b, off, rfl, World.block_lt_of_cell? W _ q0, by simp only; omega, q0, q1⟩, ws⟩⟩
      · exact ⟨ex0, fun h => absurd h hil⟩
    obtain ⟨f, hfz⟩ := Classical.skolem.1 key
    have e : ∀ i, i < len → ((List.range len).map f).getD i ex0 = f i := fun i hil => by simp [List.getD, hil]
    refine ⟨(List.range len).map f, ⟨by simp, fun i hil => ?_⟩, by omega, fun i hil => ?_⟩
    · rw [e i hil]; exact (hfz i hil).1
    · rw [e i hil]; exact (hfz i hil).2
end Go.Proofs.Ytkcbbcabfbkclaa
