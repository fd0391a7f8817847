/-
  Joined: MsgDecodes, MsgLong, MsgExtra, OpenMsg.
-/
import Derived.Test.YtbhlgceicfjncaaSet40
import Derived.Test.YtbhlgceicfjncaaSet01
import Derived.ProofKit
import Derived.OpenShut
import Derived.SizedLaws
import Derived.Deep.Slices
import Derived.Deep.Strs
namespace Go.Proofs.Ytbhlgceicfjncaa
open Go.RowKit
set_option linter.unusedVariables false
set_option linter.unnecessarySimpa false
set_option linter.unusedSimpArgs false
set_option maxRecDepth 100000

/-- Same, of the zero message and what is laid for 'Msg{}'. -/
theorem same_zero (sl : Value) (W : World) (h : WsAt W sl []) :
    Calls Try.prog 15 #[.agg (mg0.cells sl), .agg #[.int .i64 0, .int .i64 0, .int .i64 0, .int .i64 0, .int .i64 0, .int .i64 0, .int .u64 0, .int .u64 0, .string ⟨#[]⟩, .bool false, .int .u64 0, .bool false, .string ⟨#[]⟩, .slice none 0 0, .string ⟨#[]⟩, .int .u64 0, .int .u64 0]] W fun e w' => e = .returned (.bool true) ∧ Below W.heap.size W w' :=
  refSame_yes mg0 mg0 sl (.slice none 0 0) mg0_sane mg0_sane rfl W h (WsAt.nil W)

end Go.Proofs.Ytbhlgceicfjncaa

namespace Go.Proofs.Ytbhlgceicfjncaa
open Go.RowKit
set_option linter.unusedVariables false
set_option linter.unnecessarySimpa false
set_option linter.unusedSimpArgs false
set_option maxRecDepth 100000

theorem u8two : (Try.prog.info? 5).map (fun i => (i.zero, i.size)) = some (some (.int .u8 0), 1) := by kernel_rfl
theorem dec_long {b : List UInt8} (h : 4000 < b.length) : decB 3 b = (mg0, 0, 3) := by
  unfold decB
  rw [if_neg (by decide), if_pos h]

end Go.Proofs.Ytbhlgceicfjncaa

namespace Go.Proofs.Ytbhlgceicfjncaa
open Go.RowKit
set_option linter.unusedVariables false
set_option linter.unnecessarySimpa false
set_option linter.unusedSimpArgs false
set_option maxRecDepth 100000

end Go.Proofs.Ytbhlgceicfjncaa

namespace Go.Proofs.Ytbhlgceicfjncaa
open Go.RowKit Go.ChangeShapes Go.WideShapes Go.Deep
set_option linter.unnecessarySimpa false
set_option linter.unusedVariables false
set_option linter.unusedSimpArgs false
set_option maxRecDepth 100000

theorem o_msg_cells : Try.prog.cellsOf 38 = 17 := by kernel_rfl
theorem o_txn_cells : Try.prog.cellsOf 32 = 3 := by kernel_rfl
theorem o_ver_cells : Try.prog.cellsOf 35 = 3 := by kernel_rfl
theorem o_wr_cells : Try.prog.cellsOf 64 = 3 := by kernel_rfl
theorem o_ws_cells : Try.prog.cellsOf 36 = 1 := by kernel_rfl
theorem o_int_cells : Try.prog.cellsOf 3 = 1 := by kernel_rfl
theorem o_u64_cells : Try.prog.cellsOf 33 = 1 := by kernel_rfl
theorem o_str_cells : Try.prog.cellsOf 9 = 1 := by kernel_rfl
theorem o_bool_cells : Try.prog.cellsOf 4 = 1 := by kernel_rfl
theorem o_wr_bytes : 0 < Try.prog.bytesOf 64 := of_decide_eq_true (by kernel_rfl)
theorem m_cut3 {α : Type} {cs : List α} {x y z : α} (h0 : (cs.drop 0).take 1 = [x]) (h1 : (cs.drop 1).take 1 = [y]) (h2 : (cs.drop 2).take 1 = [z]) : cs[0]? = some x ∧ cs[1]? = some y ∧ cs[2]? = some z := by
  refine ⟨?_, ?_, ?_⟩
  · have := congrArg (·[0]?) h0; simpa using this
  · have := congrArg (·[0]?) h1; simpa using this
  · have := congrArg (·[0]?) h2; simpa using this
theorem m_list3 {α : Type} {cs : List α} {a b c : α} (hl : cs.length = 3) (h : cs[0]? = some a ∧ cs[1]? = some b ∧ cs[2]? = some c) : cs = [a, b, c] := by
  match cs, hl with
  | [_, _, _], _ => simp at h; rw [h.1, h.2.1, h.2.2]

section
variable {H : Type} {enc : TypeId × Value → H} {w : World} {base : Nat} {spare : Nat → Bool} {held : Bool}
theorem txn_open {fuel : Nat} {cs : List Value} {x : DataW H × List MemPlace} (h : DataW.trod enc Try.prog w base spare held fuel 32 cs = some x) :
    ∃ a b c : Int, I64 a ∧ I64 b ∧ I64 c ∧ cs = [.int .i64 a, .int .i64 b, .int .i64 c] := by
  obtain ⟨y0, y1, y2, n, _, hl, g0, g1, g2⟩ := trod_struct3 Try.underlying32 h
  simp only [o_int_cells] at g0 g1 g2
  obtain ⟨a, e0, _, w0⟩ := DataW.trod_int Try.underlying3 g0
  obtain ⟨b, e1, _, w1⟩ := DataW.trod_int Try.underlying3 g1
  obtain ⟨c, e2, _, w2⟩ := DataW.trod_int Try.underlying3 g2
  rw [o_txn_cells] at hl
  exact ⟨a, b, c, bounds_i64 w0, bounds_i64 w1, bounds_i64 w2, m_list3 hl (m_cut3 e0 e1 e2)⟩
theorem ver_open {fuel : Nat} {cs : List Value} {x : DataW H × List MemPlace} (h : DataW.trod enc Try.prog w base spare held fuel 35 cs = some x) :
    ∃ (t : Nat) (g : Bool) (s : ByteArray), t < 18446744073709551616 ∧ cs = [.int .u64 t, .bool g, .string s] ∧ s.size ∈ x.1.weights Try.prog 35 := by
  obtain ⟨y0, y1, y2, n, rfl, hl, g0, g1, g2⟩ := trod_struct3 Try.underlying35 h
  simp only [o_u64_cells, o_bool_cells, o_str_cells] at g0 g1 g2
  obtain ⟨a, e0, _, w0⟩ := DataW.trod_int Try.underlying33 g0
  obtain ⟨b, e1, _⟩ := DataW.trod_bool Try.underlying4 g1
  obtain ⟨c, e2, r2, _⟩ := DataW.trod_string Try.underlying9 g2
  rw [o_ver_cells] at hl
  have b0 := bounds_u64 w0
  obtain ⟨t, rfl⟩ := Int.eq_ofNat_of_zero_le b0.1
  refine ⟨t, b, c, by omega, m_list3 hl (m_cut3 e0 e1 e2), ?_⟩
  simp only [DataW.weights, Try.underlying35]
  refine DataW.weights_mem_each (j := 2) rfl rfl _ ?_
  subst r2
  simp [DataW.weights]
theorem ws_open {fuel : Nat} {cs : List Value} {x : DataW H × List MemPlace} (h : DataW.trod enc Try.prog w 0 (fun _ => true) true fuel 36 cs = some x) :
    ∃ (sl : Value) (ws : List Wr), cs = [sl] ∧ WsAt w sl ws ∧ (∀ i, i < ws.length → (ws.getD i wr0).key.size ≤ maxLen ∧ (ws.getD i wr0).val.size ≤ maxLen) ∧
      (ws = [] ∨ ∃ n, n ∈ x.1.weights Try.prog 36 ∧ ws.length ≤ n) := by
  rcases open_slice Try.underlying36 h with ⟨rfl, _⟩ | ⟨a', len, cap, m, n, D, Pl, rfl, _, hl, hm, hmm, rfl, hi⟩
  · exact ⟨_, [], rfl, WsAt.nil w, fun i hi => absurd hi (Nat.not_lt_zero _), .inl rfl⟩
  · simp only [if_true] at hmm
    have key : ∀ i, ∃ z : Wr, i < len → (∃ b off, some a' = some ⟨b, off, none⟩ ∧ b < w.heap.size ∧ w.cell? ⟨b, off + i * 3, none⟩ = some (.string z.key) ∧
        w.cell? ⟨b, off + i * 3 + 1, none⟩ = some (.bool z.gone) ∧ w.cell? ⟨b, off + i * 3 + 2, none⟩ = some (.string z.val)) ∧ z.key.size ≤ maxLen ∧ z.val.size ≤ maxLen := by
      intro i
      by_cases hil : i < len
      · obtain ⟨cs', hc, ht⟩ := hi i (by omega)
        rw [o_wr_cells] at hc
        obtain ⟨_, hcl, hat⟩ := World.cells?_some hc
        obtain ⟨y0, y1, y2, n', _, _, g0, g1, g2⟩ := trod_struct3 Try.underlying64 ht
        simp only [o_str_cells, o_bool_cells] at g0 g1 g2
        obtain ⟨s, e0, _, ws0⟩ := DataW.trod_string Try.underlying9 g0
        obtain ⟨k1, e1, _⟩ := DataW.trod_bool Try.underlying4 g1
        obtain ⟨s2, e2, _, ws2⟩ := DataW.trod_string Try.underlying9 g2
        obtain ⟨x0, x1, x2⟩ := m_cut3 e0 e1 e2
        have q0 := (hat 0 (by omega)).trans x0
        have q1 := (hat 1 (by omega)).trans x1
        have q2 := (hat 2 (by omega)).trans x2
        obtain ⟨b, off, spot⟩ := a'
        obtain ⟨cs0, hc0, _⟩ := hi 0 (by omega)
        rw [o_wr_cells] at hc0
        obtain ⟨_, hcl0, hat0⟩ := World.cells?_some hc0
        have q00 := hat0 0 (by omega)
        rw [List.getElem?_eq_getElem (show 0 < cs0.length by omega)] at q00
        have hspot : spot = none := by simpa [Addr.add] using World.cell?_spot q00
        subst hspot
        simp only [Addr.add_lit, Nat.add_zero] at q0 q1 q2
        exact ⟨⟨s, k1, s2⟩, fun _ => ⟨⟨b, off, rfl, World.block_lt_of_cell? w _ q0, q0, q1, q2⟩, ws0, ws2⟩⟩
      · exact ⟨wr0, fun h => absurd h hil⟩
    obtain ⟨f, hfz⟩ := Classical.skolem.1 key
    have e : ∀ i, i < len → ((List.range len).map f).getD i wr0 = f i := fun i hil => by simp [List.getD, hil]
    refine ⟨_, (List.range len).map f, rfl, ⟨some a', len, cap, rfl, by simp, fun i hil => ?_⟩, fun i hil => ?_, .inr ⟨cap * Try.prog.bytesOf 64, ?_, ?_⟩⟩
    · rw [e i hil]; exact (hfz i hil).1
    · have hil' : i < len := by simpa using hil
      rw [e i hil']; exact (hfz i hil').2
    · simp only [DataW.weights, Try.underlying36, List.length_map, List.length_range]
      have hc : len + (m - len) = cap := by omega
      rw [hc]
      exact List.mem_cons_self ..
    · have := o_wr_bytes
      rw [List.length_map, List.length_range]
      calc len ≤ cap := hl
        _ = cap * 1 := (Nat.mul_one _).symm
        _ ≤ _ := Nat.mul_le_mul_left _ this

set_option maxHeartbeats 4000000 in
theorem msg_open {fuel : Nat} {cs : List Value} {x : DataW H × List MemPlace} (h : DataW.trod enc Try.prog w 0 (fun _ => true) true fuel 38 cs = some x) (hsz : ∀ n, n ∈ x.1.weights Try.prog 38 → n ≤ reachBytes) :
    ∃ (m : Mg) (sl : Value), cs = (m.cells sl).toList ∧ WsAt w sl m.ws ∧ MsgIn m := by
  obtain ⟨xs, n, _, rfl, hl, hlen, hf⟩ := DataW.trod_struct Try.underlying38 h
  rw [o_msg_cells] at hl
  match cs, hl, xs, hlen with
  | [c0, c1, c2, c3, c4, c5, c6, c7, c8, c9, c10, c11, c12, c13, c14, c15, c16], _, [y0, y1, y2, y3, y4, y5, y6, y7, y8, y9, y10, y11, y12], _ =>
    have g0 := hf 0 _ rfl
    have g1 := hf 1 _ rfl
    have g2 := hf 2 _ rfl
    have g3 := hf 3 _ rfl
    have g4 := hf 4 _ rfl
    have g5 := hf 5 _ rfl
    have g6 := hf 6 _ rfl
    have g7 := hf 7 _ rfl
    have g8 := hf 8 _ rfl
    have g9 := hf 9 _ rfl
    have g10 := hf 10 _ rfl
    have g11 := hf 11 _ rfl
    have g12 := hf 12 _ rfl
    clear hf
    simp only [List.getElem_toArray, List.getElem_cons_zero, List.getElem_cons_succ, o_int_cells, o_u64_cells, o_str_cells, o_bool_cells, o_txn_cells, o_ver_cells, o_ws_cells, List.drop_succ_cons, List.drop_zero, List.take_succ_cons, List.take_zero, List.getElem?_cons_zero, List.getElem?_cons_succ] at g0 g1 g2 g3 g4 g5 g6 g7 g8 g9 g10 g11 g12
    clear h hl hlen
    have hw : ∀ (j : Nat) (ty : TypeId) (d : DataW H), (([3, 3, 3, 32, 33, 33, 9, 4, 35, 36, 9, 33, 33] : List TypeId))[j]? = some ty →
        [y0.1, y1.1, y2.1, y3.1, y4.1, y5.1, y6.1, y7.1, y8.1, y9.1, y10.1, y11.1, y12.1][j]? = some d → ∀ n, n ∈ d.weights Try.prog ty → n ≤ reachBytes := fun j ty d ht hd n hn => hsz n (by
      simp only [DataW.weights, Try.underlying38]
      exact DataW.weights_mem_each (j := j) ht hd n hn)
    clear hsz
    have hr := reachBytes_lt
    obtain ⟨kind, e0, _, w0⟩ := DataW.trod_int Try.underlying3 g0
    obtain ⟨frm, e1, _, w1⟩ := DataW.trod_int Try.underlying3 g1
    obtain ⟨to_, e2, _, w2⟩ := DataW.trod_int Try.underlying3 g2
    obtain ⟨node, life, seq, n3, n4, n5, e3⟩ := txn_open g3
    obtain ⟨a, e4, _, w4⟩ := DataW.trod_int Try.underlying33 g4
    obtain ⟨b, e5, _, w5⟩ := DataW.trod_int Try.underlying33 g5
    obtain ⟨key, e6, r6, _⟩ := DataW.trod_string Try.underlying9 g6
    obtain ⟨found, e7, _⟩ := DataW.trod_bool Try.underlying4 g7
    obtain ⟨time, gone, val, ht, e8, hvs⟩ := ver_open g8
    obtain ⟨sl, ws, e9, hws, hall, hlen⟩ := ws_open g9
    obtain ⟨note, e10, r10, _⟩ := DataW.trod_string Try.underlying9 g10
    obtain ⟨hint, e11, _, w11⟩ := DataW.trod_int Try.underlying33 g11
    obtain ⟨must, e12, _, w12⟩ := DataW.trod_int Try.underlying33 g12
    have b4 := bounds_u64 w4
    have b5 := bounds_u64 w5
    have b11 := bounds_u64 w11
    have b12 := bounds_u64 w12
    obtain ⟨a, rfl⟩ := Int.eq_ofNat_of_zero_le b4.1
    obtain ⟨b, rfl⟩ := Int.eq_ofNat_of_zero_le b5.1
    obtain ⟨hint, rfl⟩ := Int.eq_ofNat_of_zero_le b11.1
    obtain ⟨must, rfl⟩ := Int.eq_ofNat_of_zero_le b12.1
    have s6 := hw 6 _ _ rfl rfl key.size (by rw [r6]; simp [DataW.weights])
    have s8 := hw 8 _ _ rfl rfl val.size hvs
    have s10 := hw 10 _ _ rfl rfl note.size (by rw [r10]; simp [DataW.weights])
    have s9 : ws.length ≤ 140737488355328 := by
      rcases hlen with rfl | ⟨n, hn, hle⟩
      · exact Nat.zero_le _
      · have := hw 9 _ _ rfl rfl n hn
        omega
    simp only [List.cons.injEq, and_true] at e0 e1 e2 e3 e4 e5 e6 e7 e8 e9 e10 e11 e12
    obtain ⟨e30, e31, e32⟩ := e3
    obtain ⟨e80, e81, e82⟩ := e8
    refine ⟨⟨kind, frm, to_, node, life, seq, a, b, key, found, time, gone, val, ws, note, hint, must⟩, sl, ?_, hws, ⟨⟨bounds_i64 w0, bounds_i64 w1, bounds_i64 w2, n3, n4, n5, ?_, ?_, ht, ?_, ?_⟩, ?_, ?_, ?_, s9, hall⟩⟩
    · rw [e0, e1, e2, e30, e31, e32, e4, e5, e6, e7, e80, e81, e82, e9, e10, e11, e12]
      rfl
    all_goals (simp only; omega)
/-- An argument that is a message. -/
theorem open_IsMsg {v : Value} {d : DataW H} {p : List MemPlace} (h : DataW.Trod enc Try.prog w 0 (fun _ => true) true 38 v d p) (hv : ∃ cs, v = .agg cs) (hsz : ∀ n, n ∈ d.weights Try.prog 38 → n ≤ reachBytes) :
    ∃ (m : Mg) (sl : Value), v = .agg (m.cells sl) ∧ WsAt w sl m.ws ∧ MsgIn m := by
  obtain ⟨fuel, hf⟩ := h
  obtain ⟨cs, rfl⟩ := hv
  obtain ⟨m, sl, h1, h2, h3⟩ := msg_open hf hsz
  refine ⟨m, sl, ?_, h2, h3⟩
  have h4 : cs.toList = (m.cells sl).toList := h1
  rw [Array.toList_inj.1 h4]
end

theorem o_u16_cells : Try.prog.cellsOf 57 = 1 := by kernel_rfl
theorem m_cut2 {α : Type} {cs : List α} {x y : α} (h0 : (cs.drop 0).take 1 = [x]) (h1 : (cs.drop 1).take 1 = [y]) : cs[0]? = some x ∧ cs[1]? = some y := by
  refine ⟨?_, ?_⟩
  · have := congrArg (·[0]?) h0; simpa using this
  · have := congrArg (·[0]?) h1; simpa using this
def IsExtras (W : World) (a : Option Addr) (len _cap : Nat) (zs : List Ex) : Prop := ExAt W a len zs ∧ len ≤ maxLen ∧ ∀ i, i < len → (zs.getD i ex0).2.size ≤ maxLen
end Go.Proofs.Ytbhlgceicfjncaa
