/-
  Joined: MsgBytes, MsgRight.
-/
import Derived.Test.YtbhlgceicfjncaaSet05
import Derived.Laws.Rows
namespace Go.Proofs.Ytbhlgceicfjncaa
open Go.RowKit
set_option linter.unusedVariables false
set_option linter.unnecessarySimpa false
set_option linter.unusedSimpArgs false
set_option maxRecDepth 100000

theorem field_any (m : Mg) (sl : Value) (hm : m.sane) (tag : Nat) (h1 : 1 ≤ tag) (h2 : tag ≤ 12) (w : World) (hw : WsAt w sl m.ws) :
    Calls Try.prog 45 #[.agg (m.cells sl), .int .i64 tag] w (FieldIs m tag w.heap.size w) := by
  have : tag = 1 ∨ tag = 2 ∨ tag = 3 ∨ tag = 4 ∨ tag = 5 ∨ tag = 6 ∨ tag = 7 ∨ tag = 8 ∨ tag = 9 ∨ tag = 10 ∨ tag = 11 ∨ tag = 12 := by omega
  rcases this with rfl | rfl | rfl | rfl | rfl | rfl | rfl | rfl | rfl | rfl | rfl | rfl
  · exact field_1 m sl hm w
  · exact field_2 m sl hm w
  · exact field_3 m sl hm w
  · exact field_4 m sl hm w
  · exact field_5 m sl hm w
  · exact field_6 m sl hm w
  · exact field_7 m sl hm w
  · exact field_8 m sl hm w
  · exact field_9 m sl hm w hw
  · exact field_10 m sl hm w
  · exact field_11 m sl hm w
  · exact field_12 m sl hm w
theorem msg_size : (Try.prog.info? 38).map (·.size) = some 17 := by kernel_rfl
theorem numF_len {n : Nat} (h : n < 18446744073709551616) : ((numF n).getD []).length ≤ 10 := by
  unfold numF
  split
  · simp
  · exact ub_len10 h
theorem fldX_len (m : Mg) (hm : m.sane) (tag : Nat) (h1 : 1 ≤ tag) (h2 : tag ≤ 12) : (fldX m tag).length ≤ 300000 := by
  obtain ⟨b1, b2, b3, b4, b5⟩ := nums_all hm.nums
  have f := hm.fits
  have g := hm.few
  have w9 := wsB_len m.ws g.all
  have hws := g.ws
  have : tag = 1 ∨ tag = 2 ∨ tag = 3 ∨ tag = 4 ∨ tag = 5 ∨ tag = 6 ∨ tag = 7 ∨ tag = 8 ∨ tag = 9 ∨ tag = 10 ∨ tag = 11 ∨ tag = 12 := by omega
  rcases this with rfl | rfl | rfl | rfl | rfl | rfl | rfl | rfl | rfl | rfl | rfl | rfl
  · have := numF_len (n := m.frm.toNat) (by omega); show ((numF m.frm.toNat).getD []).length ≤ _; omega
  · have := numF_len (n := m.to_.toNat) (by omega); show ((numF m.to_.toNat).getD []).length ≤ _; omega
  · show ((if txnZero m then none else some (ub m.node.toNat ++ ub m.life.toNat ++ ub m.seq.toNat)).getD []).length ≤ _
    have := ub_len10 (n := m.node.toNat) (by omega)
    have := ub_len10 (n := m.life.toNat) (by omega)
    have := ub_len10 (n := m.seq.toNat) (by omega)
    split <;> simp <;> omega
  · have := numF_len (n := m.a) f.a; show ((numF m.a).getD []).length ≤ _; omega
  · have := numF_len (n := m.b) f.b; show ((numF m.b).getD []).length ≤ _; omega
  · show ((if m.key.size = 0 then none else some m.key.data.toList).getD []).length ≤ _
    have := g.key
    have e := Lib.size_eq m.key
    split
    · simp
    · simp only [Option.getD_some]; omega
  · show ((if m.found then some [] else none).getD []).length ≤ _
    split <;> simp
  · show (ub m.time ++ bl m.gone ++ m.val.data.toList).length ≤ _
    have := ub_len10 f.time
    have := g.val
    have e := Lib.size_eq m.val
    simp only [List.length_append, bl, List.length_cons, List.length_nil]
    omega
  · show (ub m.ws.length ++ wsB m.ws).length ≤ _
    have := ub_len10 (n := m.ws.length) (by omega)
    rw [List.length_append]
    omega
  · show ((if m.note.size = 0 then none else some m.note.data.toList).getD []).length ≤ _
    have := g.note
    have e := Lib.size_eq m.note
    split
    · simp
    · simp only [Option.getD_some]; omega
  · have := numF_len (n := m.hint) f.hint; show ((numF m.hint).getD []).length ≤ _; omega
  · have := numF_len (n := m.must) f.must; show ((numF m.must).getD []).length ≤ _; omega
theorem msgB_next (m : Mg) (k : Nat) (h : 1 ≤ k) : msgB m k = msgB m (k - 1) ++ fldB m k := by
  obtain ⟨j, rfl⟩ : ∃ j, k = j + 1 := ⟨k - 1, by omega⟩
  unfold msgB
  rw [Nat.add_sub_cancel, fldsB, List.append_assoc]
/-- A text of a field, up to 300000 bytes. -/
theorem refTextC_any (s : ByteArray) (hs : s.size ≤ 300000) (w : World) :
    Calls Try.prog 46 #[.string s] w fun e w' => e = .returned (.string ⟨(ub s.size ++ s.data.toList).toArray⟩) ∧ Below w.heap.size w w' := refTextB_any s hs w

set_option maxHeartbeats 8000000 in
theorem refBytes_any (m : Mg) (sl : Value) (hm : m.sane) (last : Nat) (hl : last ≤ 12) (w : World) (hw : WsAt w sl m.ws) :
    Calls Try.prog 31 #[.agg (m.cells sl), .int .i64 last] w fun e w' => e = .returned (.string ⟨(msgB m last).toArray⟩) ∧ Below w.heap.size w w' := by
  have HF := Lib.hid (fun (k : Nat) (h1 : 1 ≤ k) (h2 : k ≤ 12) (W : World) (hW : WsAt W sl m.ws) => field_any m sl hm k h1 h2 W hW)
  have HFL := Lib.hid (fun (k : Nat) (h1 : 1 ≤ k) (h2 : k ≤ 12) => fldX_len m hm k h1 h2)
  have hkind := hm.kind
  have hm0 : msgB m 0 = ub m.kind.toNat := by unfold msgB; rw [fldsB, List.append_nil]
  have HM0 := Lib.hid hm0
  have HW := Lib.hid hw
  obtain ⟨M, hM⟩ : ∃ M, M = m := ⟨_, rfl⟩
  unfold Mg.cells at HF
  obtain ⟨kind, frm, to_, node, life, seq, a, b, key, found, time, gone, val, ws, note, hint, must⟩ := m
  rw [← hM] at HFL HM0
  simp only [← hM] at HF
  simp only at hkind HW
  obtain ⟨kn, rfl⟩ : ∃ n : Nat, kind = n := ⟨kind.toNat, by omega⟩
  have hk0 : M.kind.toNat = kn := by rw [hM]; rfl
  rw [hk0] at HM0
  show Calls _ _ #[.agg #[.int .i64 kn, .int .i64 frm, .int .i64 to_, .int .i64 node, .int .i64 life, .int .i64 seq, .int .u64 a, .int .u64 b, .string key, .bool found, .int .u64 time, .bool gone, .string val, sl, .string note, .int .u64 hint, .int .u64 must], .int .i64 last] w _
  rw [← hM]
  have HWS := Lib.hid (show ws = M.ws by rw [hM])
  clear hM hm hw hm0 hk0
  have hu := Lib.hid (refUint_any kn (by omega))
  have hs1 := ub_size' kn (by omega)
  obtain ⟨U, hU⟩ : ∃ U : ByteArray, U = ⟨(ub kn).toArray⟩ := ⟨_, rfl⟩
  have HU := Lib.hid hU
  rw [← hU] at hu hs1
  have hwk := u64_small (n := (kn : Int)) (by omega)
  clear hU
  go_enter Try.func31, Try.ntmps31
  go_upto_region 2 with (go_at_call 44; refine (hu.out _).mono ?_; rintro e w1 ⟨rfl, hb1⟩)
  obtain ⟨W1, hW1⟩ : ∃ W1, W1 = w.alloc (.cells #[.int .i64 kn, .int .i64 frm, .int .i64 to_, .int .i64 node, .int .i64 life, .int .i64 seq, .int .u64 a, .int .u64 b, .string key, .bool found, .int .u64 time, .bool gone, .string val, sl, .string note, .int .u64 hint, .int .u64 must] 38) := ⟨_, rfl⟩
  have hbox : W1.heap[w.heap.size]? = some (.cells #[.int .i64 kn, .int .i64 frm, .int .i64 to_, .int .i64 node, .int .i64 life, .int .i64 seq, .int .u64 a, .int .u64 b, .string key, .bool found, .int .u64 time, .bool gone, .string val, sl, .string note, .int .u64 hint, .int .u64 must] 38 (0, 0)) := by rw [hW1]; exact heap_alloc_new w _
  have HB0 := Lib.hid (show Below w.heap.size w W1 by rw [hW1]; exact (Below.refl _ _).alloc (Nat.le_refl _) _)
  have hz1 := Lib.hid (show W1.heap.size = w.heap.size + 1 by rw [hW1]; simp)
  rw [← hW1] at hb1
  have HB1 := Lib.hid hb1
  have HBX := Lib.hid hbox
  clear hW1 hb1 hbox hu
  go_wp2_with fail
  go_loopg [5, 6] last (fun q s5 s6 wx => ∃ (k : Nat) (S : ByteArray), 1 ≤ k ∧ k + q = last + 1 ∧ s6 = .int .i64 k ∧ s5 = .string S ∧ Hid (S = ⟨(msgB M (k - 1)).toArray⟩) ∧ S.size ≤ 10 + 300020 * k ∧ Hid (Below W1.heap.size W1 wx))
  case atStart => exact ⟨1, U, by omega, by omega, rfl, rfl, Lib.hid (by rw [HU.out, show 1 - 1 = 0 from rfl, HM0.out]), by omega, HB1⟩
  case round =>
    obtain ⟨k, S, hk1, hkq, rfl, rfl, hS, hSs, hb⟩ := hrel
    have hrow := hb.out.block w.heap.size (by rw [hz1.out]; omega)
    rw [HBX.out] at hrow
    have hcx := Lib.hid hrow
    by_cases hlt : k ≤ last
    · obtain ⟨q, rfl⟩ : ∃ q, gk = q + 1 := ⟨gk - 1, by omega⟩
      have hkz : (k : Int) ≤ (last : Int) := by omega
      have hf := HF.out k hk1 (by omega) wr (HW.out.below (HB0.out.trans (hb.out.mono HB0.out.size)))
      have hfl := HFL.out k hk1 (by omega)
      unfold FieldIs at hf
      have hn := msgB_next M k hk1
      have hE : fldB M k = if (fld M k).isSome then encT k (fldX M k) else [] := by
        unfold fldB
        cases h : fld M k with
        | none => rfl
        | some t => rw [fldX_some h]; rfl
      rw [hE] at hn
      obtain ⟨ok, hok⟩ : ∃ ok, ok = (fld M k).isSome := ⟨_, rfl⟩
      obtain ⟨F, hF⟩ : ∃ F : ByteArray, F = ⟨(fldX M k).toArray⟩ := ⟨_, rfl⟩
      have hFs : F.size ≤ 300000 := by rw [hF]; show (fldX M k).toArray.size ≤ _; rw [List.size_toArray]; exact hfl
      rw [← hok, ← hF] at hf
      rw [← hok] at hn
      have HF1 := Lib.hid hf
      have hFx : F.data.toList = fldX M k := by rw [hF]
      rw [← hFx] at hn
      have HN := Lib.hid hn
      have HQ := Lib.hid (show k + 1 + q = last + 1 by omega)
      clear hE hok hF hFx hn hf hfl hkq
      have hw1 : IntKind.u64.wrap (2 * (k : Int)) = 2 * (k : Int) := by simp [IntKind.wrap, IntKind.bits, IntKind.signed]; omega
      have hk12 : k ≤ 12 := by omega
      cases ok
      · have HN2 := HN.out
        simp only [Bool.false_eq_true, if_false, List.append_nil] at HN2
        have HS2 := Lib.hid (show S = ⟨(msgB M (k + 1 - 1)).toArray⟩ by rw [Nat.add_sub_cancel, HN2]; exact hS.out)
        clear HN2 HN
        by_cases h12 : k = 12
        all_goals
          have hb12 : ((k : Int) == 12) = decide (k = 12) := by rw [Bool.eq_iff_iff, beq_iff_eq, decide_eq_true_iff]; omega
        · rw [decide_eq_true h12] at hb12
          have HK := Lib.hid h12
          clear h12
          go_wp2_with (first
            | (refine wpList_load_row rfl 38 _ rfl w.heap.size rfl 38 #[.int .i64 kn, .int .i64 frm, .int .i64 to_, .int .i64 node, .int .i64 life, .int .i64 seq, .int .u64 a, .int .u64 b, .string key, .bool found, .int .u64 time, .bool gone, .string val, sl, .string note, .int .u64 hint, .int .u64 must] (0, 0) _ hcx.out Try.underlying38 rfl msg_size ?_)
            | (go_at_call 45; refine HF1.out.mono ?_; rintro e w2 ⟨rfl, hb2⟩))
          have HBN := Lib.hid (hb.out.trans (hb2.mono hb.out.size))
          clear hb2
          go_roundg q
          case measure => omega
          case rel => exact ⟨k + 1, S, by omega, HQ.out, by simp, rfl, HS2, by omega, HBN⟩
        · rw [decide_eq_false h12] at hb12
          have HK := Lib.hid h12
          clear h12
          go_wp2_with (first
            | (refine wpList_load_row rfl 38 _ rfl w.heap.size rfl 38 #[.int .i64 kn, .int .i64 frm, .int .i64 to_, .int .i64 node, .int .i64 life, .int .i64 seq, .int .u64 a, .int .u64 b, .string key, .bool found, .int .u64 time, .bool gone, .string val, sl, .string note, .int .u64 hint, .int .u64 must] (0, 0) _ hcx.out Try.underlying38 rfl msg_size ?_)
            | (go_at_call 45; refine HF1.out.mono ?_; rintro e w2 ⟨rfl, hb2⟩))
          have HBN := Lib.hid (hb.out.trans (hb2.mono hb.out.size))
          clear hb2
          go_roundg q
          case measure => omega
          case rel => exact ⟨k + 1, S, by omega, HQ.out, by simp, rfl, HS2, by omega, HBN⟩
      · have HN2 := HN.out
        simp only [if_true] at HN2
        have ht := Lib.hid (refTextC_any F hFs)
        obtain ⟨T, hT⟩ : ∃ U : ByteArray, U = ⟨(ub F.size ++ F.data.toList).toArray⟩ := ⟨_, rfl⟩
        have hTs : T.size ≤ 300010 := by rw [hT]; show (ub F.size ++ F.data.toList).toArray.size ≤ _; rw [List.size_toArray, List.length_append, ← Lib.size_eq]; have := ub_len10 (n := F.size) (by omega); omega
        have hhl : headT k < 100 := by unfold headT; split <;> omega
        have hh := Lib.hid (refUint_any (headT k) (by omega))
        have hhs := ub_size' (headT k) (by omega)
        obtain ⟨V, hV⟩ : ∃ U : ByteArray, U = ⟨(ub (headT k)).toArray⟩ := ⟨_, rfl⟩
        have hadd := Lib.hid (show S ++ (V ++ T) = ⟨(msgB M (k + 1 - 1)).toArray⟩ by
          rw [Nat.add_sub_cancel, HN2, hS.out, hV, hT]; apply ByteArray.ext; simp [encT, ← Lib.size_eq])
        rw [← hT] at ht
        rw [← hV] at hh hhs
        have hq6 : S.size ≤ 10 + 300020 * k := hSs
        have hns := Lib.hid (show (S ++ (V ++ T)).size ≤ 10 + 300020 * (k + 1) by rw [ByteArray.size_append, ByteArray.size_append]; omega)
        have ha1 : V.size + T.size ≤ 9223372036854775807 := by omega
        have ha2 : S.size + (V ++ T).size ≤ 9223372036854775807 := by rw [ByteArray.size_append]; omega
        clear HN2 HN hT hV hTs hhs
        by_cases h12 : k = 12
        · have hb12 : ((k : Int) == 12) = true := by rw [beq_iff_eq]; omega
          have hh2 := Lib.hid (fun W => show Calls Try.prog 44 #[.int .u64 (2 * (k : Int) + 1)] W fun e w' => e = .returned (.string V) ∧ Below W.heap.size W w' by
            have := hh.out W
            rw [show ((headT k : Nat) : Int) = 2 * (k : Int) + 1 by unfold headT; rw [if_pos h12]; omega] at this
            exact this)
          have hw2 : IntKind.u64.wrap (2 * (k : Int) + 1) = 2 * (k : Int) + 1 := by simp [IntKind.wrap, IntKind.bits, IntKind.signed]; omega
          have HK := Lib.hid h12
          clear h12 hh hhl
          go_wp2_with (first
            | (refine wpList_load_row rfl 38 _ rfl w.heap.size rfl 38 #[.int .i64 kn, .int .i64 frm, .int .i64 to_, .int .i64 node, .int .i64 life, .int .i64 seq, .int .u64 a, .int .u64 b, .string key, .bool found, .int .u64 time, .bool gone, .string val, sl, .string note, .int .u64 hint, .int .u64 must] (0, 0) _ hcx.out Try.underlying38 rfl msg_size ?_)
            | (go_at_call 45; refine HF1.out.mono ?_; rintro e w2 ⟨rfl, hb2⟩)
            | (go_at_call 44; refine (hh2.out _).mono ?_; rintro e w3 ⟨rfl, hb3⟩)
            | (go_at_call 46; refine (ht.out _).mono ?_; rintro e w4 ⟨rfl, hb4⟩))
          have B3 := hb.out.trans ((hb2.trans (hb3.mono hb2.size)).mono hb.out.size)
          have HBN := Lib.hid (B3.trans (hb4.mono B3.size))
          clear hb2 hb3 hb4 B3
          go_roundg q
          case measure => omega
          case rel => exact ⟨k + 1, _, by omega, HQ.out, by simp, rfl, hadd, hns.out, HBN⟩
        · have hb12 : ((k : Int) == 12) = false := by rw [beq_eq_false_iff_ne]; omega
          have hh2 := Lib.hid (fun W => show Calls Try.prog 44 #[.int .u64 (2 * (k : Int))] W fun e w' => e = .returned (.string V) ∧ Below W.heap.size W w' by
            have := hh.out W
            rw [show ((headT k : Nat) : Int) = 2 * (k : Int) by unfold headT; rw [if_neg h12]; omega] at this
            exact this)
          have HK := Lib.hid h12
          clear h12 hh hhl
          go_wp2_with (first
            | (refine wpList_load_row rfl 38 _ rfl w.heap.size rfl 38 #[.int .i64 kn, .int .i64 frm, .int .i64 to_, .int .i64 node, .int .i64 life, .int .i64 seq, .int .u64 a, .int .u64 b, .string key, .bool found, .int .u64 time, .bool gone, .string val, sl, .string note, .int .u64 hint, .int .u64 must] (0, 0) _ hcx.out Try.underlying38 rfl msg_size ?_)
            | (go_at_call 45; refine HF1.out.mono ?_; rintro e w2 ⟨rfl, hb2⟩)
            | (go_at_call 44; refine (hh2.out _).mono ?_; rintro e w3 ⟨rfl, hb3⟩)
            | (go_at_call 46; refine (ht.out _).mono ?_; rintro e w4 ⟨rfl, hb4⟩))
          have B3 := hb.out.trans ((hb2.trans (hb3.mono hb2.size)).mono hb.out.size)
          have HBN := Lib.hid (B3.trans (hb4.mono B3.size))
          clear hb2 hb3 hb4 B3
          go_roundg q
          case measure => omega
          case rel => exact ⟨k + 1, _, by omega, HQ.out, by simp, rfl, hadd, hns.out, HBN⟩
    · have hkz : ¬ (k : Int) ≤ (last : Int) := by omega
      have hfin := Lib.hid (show S = ⟨(msgB M last).toArray⟩ by rw [hS.out, show k - 1 = last by omega])
      go_wp2_with fail
      go_ret
      exact ⟨congrArg (fun z => Ending.returned (.string z)) hfin.out, HB0.out.trans (hb.out.mono HB0.out.size)⟩
end Go.Proofs.Ytbhlgceicfjncaa

namespace Go.Proofs.Ytbhlgceicfjncaa
open Go.RowKit
set_option linter.unusedVariables false
set_option linter.unnecessarySimpa false
set_option linter.unusedSimpArgs false
set_option maxRecDepth 100000

def numL (m : Mg) : List Int := [m.frm, m.to_, m.node, m.life, m.seq]
theorem nums_yes {m : Mg} (h : ∀ i, i < 5 → in31 ((numL m).getD i 0) = true) : nums31 m = true := by
  have h0 := h 0 (by omega)
  have h1 := h 1 (by omega)
  have h2 := h 2 (by omega)
  have h3 := h 3 (by omega)
  have h4 := h 4 (by omega)
  simp only [numL, List.getD_cons_zero, List.getD_cons_succ] at h0 h1 h2 h3 h4
  unfold nums31
  rw [h0, h1, h2, h3, h4]
  rfl
theorem nums_no {m : Mg} {i : Nat} (hi : i < 5) (h : in31 ((numL m).getD i 0) = false) : rightBM m = false := by
  have : nums31 m = false := by
    have : i = 0 ∨ i = 1 ∨ i = 2 ∨ i = 3 ∨ i = 4 := by omega
    unfold nums31
    rcases this with rfl | rfl | rfl | rfl | rfl
    all_goals simp only [numL, List.getD_cons_zero, List.getD_cons_succ] at h
    all_goals rw [h]
    all_goals simp
  unfold rightBM
  rw [this]
  rfl
theorem numL_fits {m : Mg} (h : m.fits) (i : Nat) : -9223372036854775808 ≤ (numL m).getD i 0 ∧ (numL m).getD i 0 ≤ 9223372036854775807 := by
  match i with
  | 0 => exact h.frm
  | 1 => exact h.to_
  | 2 => exact h.node
  | 3 => exact h.life
  | 4 => exact h.seq
  | n + 5 => simp [numL]
theorem in31_no {n : Int} (h : in31 n = false) : n < 0 ∨ 2147483647 < n := by
  have := of_decide_eq_false h
  omega
theorem right_kind {m : Mg} (h : kindOK m = false) : rightBM m = false := by unfold rightBM; rw [h]; simp
theorem right_ver {m : Mg} (h : verOK m = false) : rightBM m = false := by unfold rightBM; rw [h]; simp
theorem right_many {m : Mg} (h : 8 < m.ws.length) : rightBM m = false := by
  unfold rightBM
  rw [decide_eq_false (show ¬ m.ws.length ≤ 8 by omega)]
  simp
theorem right_write {m : Mg} {i : Nat} (hi : i < m.ws.length) (h : wrOK (m.ws.getD i wr0) = false) : rightBM m = false := by
  have : m.ws.all wrOK = false := by
    rw [List.all_eq_false]
    exact ⟨_, getD_memM hi, by rw [h]; decide⟩
  unfold rightBM
  rw [this]
  simp
theorem right_last {m : Mg} (h1 : nums31 m = true) (h2 : kindOK m = true) (h3 : verOK m = true) (h4 : m.ws.length ≤ 8) (h5 : ∀ i, i < m.ws.length → wrOK (m.ws.getD i wr0) = true) : rightBM m = decide ((msgB m 12).length ≤ 4000) := by
  have : m.ws.all wrOK = true := by
    rw [List.all_eq_true]
    intro x hx
    obtain ⟨i, hi, rfl⟩ := List.getElem_of_mem hx
    have := h5 i hi
    simpa [List.getD, List.getElem?_eq_getElem hi] using this
  unfold rightBM
  rw [h1, h2, h3, this, decide_eq_true h4]
  simp

set_option maxHeartbeats 8000000 in
theorem refRight_any (m : Mg) (sl : Value) (hf : m.fits) (hw : m.few) (w : World) (hws : WsAt w sl m.ws) :
    Calls Try.prog 43 #[.agg (m.cells sl)] w fun e w' => e = .returned (.bool (rightBM m)) ∧ Below w.heap.size w w' := by
  have HB := Lib.hid (fun (hs : m.sane) (W : World) (hW : WsAt W sl m.ws) => refBytes_any m sl hs 12 (by decide) W hW)
  have HWS := Lib.hid hws
  have HN := Lib.hid (fun i => numL_fits hf i)
  have HFEW := Lib.hid hw
  have HFIT := Lib.hid hf
  obtain ⟨p, len, cap, rfl, hl, hc⟩ := hws
  have HL := Lib.hid hl
  have HC := Lib.hid hc
  have hln : len ≤ 20 := by have := hw.ws; omega
  unfold Mg.cells at HB
  obtain ⟨M, hM⟩ : ∃ M, M = m := ⟨_, rfl⟩
  obtain ⟨kind, frm, to_, node, life, seq, a, b, key, found, time, gone, val, ws, note, hint, must⟩ := m
  simp only [← hM] at HB
  rw [← hM] at HN HFEW HFIT
  have hk1 := hf.kind
  simp only at hk1 HL HC HWS
  show Calls _ _ #[.agg #[.int .i64 kind, .int .i64 frm, .int .i64 to_, .int .i64 node, .int .i64 life, .int .i64 seq, .int .u64 a, .int .u64 b, .string key, .bool found, .int .u64 time, .bool gone, .string val, .slice p len cap, .string note, .int .u64 hint, .int .u64 must]] w _
  rw [← hM]
  have hnum : numL M = [frm, to_, node, life, seq] := by rw [hM]; rfl
  have hkind : kindOK M = decide (1 ≤ kind ∧ kind ≤ 9) := by rw [hM]; rfl
  have hver : verOK M = !(gone && val.size != 0) := by rw [hM]; rfl
  have HWL := Lib.hid (show M.ws = ws by rw [hM])
  have HNUM := Lib.hid hnum
  have HKIND := Lib.hid hkind
  have HVER := Lib.hid hver
  have HK0 := Lib.hid (show M.kind = kind by rw [hM])
  clear hM hf hw hl hc hnum hkind hver
  go_enter Try.func43, Try.ntmps43
  go_upto_region 2 with fail
  have hbox : ((w.alloc (.cells #[.int .i64 kind, .int .i64 frm, .int .i64 to_, .int .i64 node, .int .i64 life, .int .i64 seq, .int .u64 a, .int .u64 b, .string key, .bool found, .int .u64 time, .bool gone, .string val, .slice p len cap, .string note, .int .u64 hint, .int .u64 must] 38)).alloc (.cells #[.int .i64 frm, .int .i64 to_, .int .i64 node, .int .i64 life, .int .i64 seq] 125)).heap[w.heap.size]? = some (.cells #[.int .i64 kind, .int .i64 frm, .int .i64 to_, .int .i64 node, .int .i64 life, .int .i64 seq, .int .u64 a, .int .u64 b, .string key, .bool found, .int .u64 time, .bool gone, .string val, .slice p len cap, .string note, .int .u64 hint, .int .u64 must] 38 (0, 0)) := by
    rw [Below.heap_alloc _ _ _ (by simp)]; exact heap_alloc_new w _
  have harr : ((w.alloc (.cells #[.int .i64 kind, .int .i64 frm, .int .i64 to_, .int .i64 node, .int .i64 life, .int .i64 seq, .int .u64 a, .int .u64 b, .string key, .bool found, .int .u64 time, .bool gone, .string val, .slice p len cap, .string note, .int .u64 hint, .int .u64 must] 38)).alloc (.cells #[.int .i64 frm, .int .i64 to_, .int .i64 node, .int .i64 life, .int .i64 seq] 125)).heap[w.heap.size + 1]? = some (.cells #[.int .i64 frm, .int .i64 to_, .int .i64 node, .int .i64 life, .int .i64 seq] 125 (0, 0)) := by
    have := heap_alloc_new (w.alloc (.cells #[.int .i64 kind, .int .i64 frm, .int .i64 to_, .int .i64 node, .int .i64 life, .int .i64 seq, .int .u64 a, .int .u64 b, .string key, .bool found, .int .u64 time, .bool gone, .string val, .slice p len cap, .string note, .int .u64 hint, .int .u64 must] 38)) (.cells #[.int .i64 frm, .int .i64 to_, .int .i64 node, .int .i64 life, .int .i64 seq] 125)
    simpa using this
  have hbel : Below w.heap.size w ((w.alloc (.cells #[.int .i64 kind, .int .i64 frm, .int .i64 to_, .int .i64 node, .int .i64 life, .int .i64 seq, .int .u64 a, .int .u64 b, .string key, .bool found, .int .u64 time, .bool gone, .string val, .slice p len cap, .string note, .int .u64 hint, .int .u64 must] 38)).alloc (.cells #[.int .i64 frm, .int .i64 to_, .int .i64 node, .int .i64 life, .int .i64 seq] 125)) := ((Below.refl _ _).alloc (Nat.le_refl _) _).alloc (by simp) _
  obtain ⟨W2, hW2⟩ : ∃ W2, W2 = (w.alloc (.cells #[.int .i64 kind, .int .i64 frm, .int .i64 to_, .int .i64 node, .int .i64 life, .int .i64 seq, .int .u64 a, .int .u64 b, .string key, .bool found, .int .u64 time, .bool gone, .string val, .slice p len cap, .string note, .int .u64 hint, .int .u64 must] 38)).alloc (.cells #[.int .i64 frm, .int .i64 to_, .int .i64 node, .int .i64 life, .int .i64 seq] 125) := ⟨_, rfl⟩
  rw [← hW2] at hbox harr hbel
  rw [← hW2]
  have HBOX := Lib.hid hbox
  have HBEL := Lib.hid hbel
  have HCELL := Lib.hid (show ∀ i, i < 5 → W2.cell? ⟨w.heap.size + 1, i, none⟩ = some (.int .i64 ((numL M).getD i 0)) from fun i hi => by
    rw [HNUM.out]
    have : i = 0 ∨ i = 1 ∨ i = 2 ∨ i = 3 ∨ i = 4 := by omega
    rcases this with rfl | rfl | rfl | rfl | rfl <;> simp [World.cell?, harr])
  clear hW2 hbox harr hbel HNUM
  go_wp2_with fail
  go_loopg [4] 5 (fun q s4 wx => ∃ i : Nat, i + q = 5 ∧ s4 = .int .i64 i ∧ wx = W2 ∧ Hid (∀ j, j < i → in31 ((numL M).getD j 0) = true))
  case atStart => exact ⟨0, by omega, rfl, rfl, Lib.hid (fun j hj => absurd hj (Nat.not_lt_zero _))⟩
  case round =>
    obtain ⟨i, hiq, rfl, rfl, hin⟩ := hrel
    by_cases hlt : i < 5
    · obtain ⟨q, rfl⟩ : ∃ q, gk = q + 1 := ⟨gk - 1, by omega⟩
      have hiz : (i : Int) < 5 := by omega
      have hcell := HCELL.out i hlt
      have hz := HN.out i
      have hno := fun h => nums_no (m := M) (i := i) hlt h
      have HIN := Lib.hid (fun (h : in31 ((numL M).getD i 0) = true) => show ∀ j, j < i + 1 → in31 ((numL M).getD j 0) = true from fun j hj => by
        by_cases e : j = i
        · subst e; exact h
        · exact hin.out j (by omega))
      obtain ⟨z, ez⟩ : ∃ z, z = (numL M).getD i 0 := ⟨_, rfl⟩
      rw [← ez] at hcell hz hno HIN
      clear ez
      cases hb : in31 z
      · have hR := Lib.hid (hno hb)
        clear hno HIN
        rcases in31_no hb with h | h
        · clear hb
          go_wp2_with fail
          go_ret
          exact ⟨by rw [hR.out]; rfl, HBEL.out⟩
        · have h0 : ¬ z < 0 := by omega
          clear hb
          go_wp2_with fail
          go_ret
          exact ⟨by rw [hR.out]; rfl, HBEL.out⟩
      · have hyes := in31_yes hb
        obtain ⟨y1, y2⟩ := hyes
        have HIN2 := Lib.hid (HIN.out hb)
        clear hb hno HIN
        go_wp2_with fail
        go_roundg q
        case measure => omega
        case rel => exact ⟨i + 1, by omega, by simp, rfl, HIN2⟩
    · have hiz : ¬ (i : Int) < 5 := by omega
      have HN31 := Lib.hid (nums_yes (m := M) (fun j hj => hin.out j (by omega)))
      have c0 : wr.cell? ⟨w.heap.size, 0, none⟩ = some (.int .i64 kind) := by simp [World.cell?, HBOX.out]
      have c11 : wr.cell? ⟨w.heap.size, 11, none⟩ = some (.bool gone) := by simp [World.cell?, HBOX.out]
      have c12 : wr.cell? ⟨w.heap.size, 12, none⟩ = some (.string val) := by simp [World.cell?, HBOX.out]
      have c13 : wr.cell? ⟨w.heap.size, 13, none⟩ = some (.slice p len cap) := by simp [World.cell?, HBOX.out]
      by_cases hk : 1 ≤ kind
      · by_cases hk9 : kind ≤ 9
        · have HKOK := Lib.hid (show kindOK M = true by rw [HKIND.out]; exact decide_eq_true ⟨hk, hk9⟩)
          have hv : (gone = true ∧ ¬ val.size = 0) ∨ gone = false ∨ (gone = true ∧ val = ByteArray.empty) := by
            cases gone
            · exact .inr (.inl rfl)
            · by_cases h : val.size = 0
              · exact .inr (.inr ⟨rfl, ba_empty h⟩)
              · exact .inl ⟨rfl, h⟩
          have hk2 : ¬ kind < 1 := by omega
          have hk3 : ¬ 9 < kind := by omega
          rcases hv with ⟨rfl, h⟩ | hv
          · have hR := Lib.hid (right_ver (m := M) (by rw [HVER.out]; simp [h]))
            obtain ⟨k1, k2, k3⟩ := ba_some h
            clear h
            go_wp2_with fail
            go_ret
            exact ⟨by rw [hR.out]; rfl, HBEL.out⟩
          · have HVOK := Lib.hid (show verOK M = true by
              rw [HVER.out]
              rcases hv with rfl | ⟨rfl, rfl⟩ <;> rfl)
            clear HVER HKIND
            by_cases h8 : len ≤ 8
            · have HSA := Lib.hid (show M.sane from ⟨by rw [HK0.out]; omega, HN31.out, HFIT.out, HFEW.out⟩)
              obtain ⟨wo, hwo⟩ : ∃ wo : World, wo = wr := ⟨_, rfl⟩
              rw [← hwo] at c0 c11 c12 c13 HBOX HBEL HCELL
              rw [← hwo]
              clear hwo hin
              rcases hv with rfl | ⟨rfl, rfl⟩
              all_goals
                go_wp2_with fail
                go_loopg [5] len (fun q s5 wx => ∃ i : Nat, i + q = len ∧ s5 = .int .i64 i ∧ wx = wo ∧ Hid (∀ j, j < i → wrOK (ws.getD j wr0) = true))
                case atStart => exact ⟨0, by omega, rfl, rfl, Lib.hid (fun j hj => absurd hj (Nat.not_lt_zero _))⟩
                case round =>
                  obtain ⟨i, hiq, rfl, rfl, hin⟩ := hrel
                  by_cases hlt : i < len
                  · obtain ⟨q, rfl⟩ : ∃ q, gk = q + 1 := ⟨gk - 1, by omega⟩
                    have hiz : (i : Int) < (len : Int) := by omega
                    obtain ⟨bq, off, rfl, hbl, d0', d1', d2'⟩ := HC.out i hlt
                    have hno := fun h => right_write (m := M) (i := i) (by rw [HWL.out, HL.out]; exact hlt) h
                    rw [HWL.out] at hno
                    have HIN := Lib.hid (fun (h : wrOK (ws.getD i wr0) = true) => show ∀ j, j < i + 1 → wrOK (ws.getD j wr0) = true from fun j hj => by
                      by_cases e : j = i
                      · subst e; exact h
                      · exact hin.out j (by omega))
                    obtain ⟨z, hz⟩ : ∃ z, z = ws.getD i wr0 := ⟨_, rfl⟩
                    rw [← hz] at d0' d1' d2' hno HIN
                    obtain ⟨zk, zg, zv⟩ := z
                    simp only at d0' d1' d2'
                    have d1 := (HBEL.out.cell (p := ⟨bq, off + i * 3 + 1, none⟩) hbl).trans d1'
                    have d2 := (HBEL.out.cell (p := ⟨bq, off + i * 3 + 2, none⟩) hbl).trans d2'
                    clear hz d0' d1' d2'
                    cases zg
                    · have HIN2 := Lib.hid (HIN.out rfl)
                      clear hno HIN
                      go_wp2_with fail
                      go_roundg q
                      case measure => omega
                      case rel => exact ⟨i + 1, by omega, by simp, rfl, HIN2⟩
                    · by_cases hvz : zv.size = 0
                      · obtain rfl := ba_empty hvz
                        have HIN2 := Lib.hid (HIN.out rfl)
                        clear hno HIN hvz
                        go_wp2_with fail
                        go_roundg q
                        case measure => omega
                        case rel => exact ⟨i + 1, by omega, by simp, rfl, HIN2⟩
                      · have hR := Lib.hid (hno (by unfold wrOK; simp [hvz]))
                        obtain ⟨k1, k2, k3⟩ := ba_some hvz
                        clear hno HIN hvz
                        go_wp2_with fail
                        go_ret
                        exact ⟨by rw [hR.out]; rfl, HBEL.out⟩
                  · have hiz : ¬ (i : Int) < (len : Int) := by omega
                    have hR := right_last (m := M) HN31.out HKOK.out HVOK.out (by rw [HWL.out, HL.out]; exact h8) (fun j hj => by rw [HWL.out]; exact hin.out j (by rw [HWL.out, HL.out] at hj; omega))
                    have hby := HB.out HSA.out wr (HWS.out.below HBEL.out)
                    obtain ⟨Z, hZ⟩ : ∃ Z : ByteArray, Z = ⟨(msgB M 12).toArray⟩ := ⟨_, rfl⟩
                    have hZs : Z.size = (msgB M 12).length := by rw [hZ]; exact List.size_toArray
                    rw [← hZ] at hby
                    rw [← hZs] at hR
                    have HBY := Lib.hid hby
                    have HRR := Lib.hid hR
                    clear hby hR hZ hZs hin
                    by_cases h4 : Z.size ≤ 4000
                    · have h4z : (Z.size : Int) ≤ 4000 := by omega
                      have HD := Lib.hid (decide_eq_true h4)
                      go_wp2_with (first
                        | (refine wpList_load_row rfl 38 _ rfl w.heap.size rfl 38 _ (0, 0) _ HBOX.out Try.underlying38 rfl msg_size ?_)
                        | (go_at_call 31; refine HBY.out.mono ?_; rintro e w5 ⟨rfl, hb5⟩))
                      go_ret
                      exact ⟨by rw [HRR.out, HD.out]; rfl, HBEL.out.trans (hb5.mono HBEL.out.size)⟩
                    · have h4z : decide ((Z.size : Int) ≤ 4000) = false := decide_eq_false (by omega)
                      have HD := Lib.hid (decide_eq_false h4)
                      go_wp2_with (first
                        | (refine wpList_load_row rfl 38 _ rfl w.heap.size rfl 38 _ (0, 0) _ HBOX.out Try.underlying38 rfl msg_size ?_)
                        | (go_at_call 31; refine HBY.out.mono ?_; rintro e w5 ⟨rfl, hb5⟩))
                      go_ret
                      exact ⟨by rw [HRR.out, HD.out]; rfl, HBEL.out.trans (hb5.mono HBEL.out.size)⟩
            · have hR := Lib.hid (right_many (m := M) (by rw [HWL.out, HL.out]; omega))
              have h8z : (8 : Int) < (len : Int) := by omega
              rcases hv with rfl | ⟨rfl, rfl⟩
              all_goals
                go_wp2_with fail
                go_ret
                exact ⟨by rw [hR.out]; rfl, HBEL.out⟩
        · have hR := Lib.hid (right_kind (m := M) (by rw [HKIND.out]; exact decide_eq_false (fun h => hk9 h.2)))
          go_wp2_with fail
          go_ret
          exact ⟨by rw [hR.out]; rfl, HBEL.out⟩
      · have hR := Lib.hid (right_kind (m := M) (by rw [HKIND.out]; exact decide_eq_false (fun h => hk h.1)))
        go_wp2_with fail
        go_ret
        exact ⟨by rw [hR.out]; rfl, HBEL.out⟩
end Go.Proofs.Ytbhlgceicfjncaa
