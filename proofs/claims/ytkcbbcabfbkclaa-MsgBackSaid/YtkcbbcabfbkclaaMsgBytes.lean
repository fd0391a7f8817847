/-
  The walk of the document's Bytes.
-/
import Derived.Test.YtkcbbcabfbkclaaMsgFieldWs
import Derived.Laws.Rows
namespace Go.Proofs.Ytkcbbcabfbkclaa
open Go.RowKit
set_option linter.unusedVariables false
set_option linter.unnecessarySimpa false
set_option linter.unusedSimpArgs false
set_option maxRecDepth 100000

theorem field_any (m : Mg) (sl : Value) (hm : m.sane) (tag : Nat) (h1 : 1 ≤ tag) (h2 : tag ≤ 12) (w : World) (hw : WsAt w sl m.ws) :
    Calls Try.prog 27 #[.agg (m.cells sl), .int .i64 tag] w (FieldIs m tag w.heap.size w) := by
  have : tag = 1 ∨ tag = 2 ∨ tag = 3 ∨ tag = 4 ∨ tag = 5 ∨ tag = 6 ∨ tag = 7 ∨ tag = 8 ∨ tag = 9 ∨ tag = 10 ∨ tag = 11 ∨ tag = 12 := by omega
  rcases this with rfl | rfl | rfl | rfl | rfl | rfl | rfl | rfl | rfl | rfl | rfl | rfl
  · exact field_1 m sl hm w
  · exact field_2 m sl hm w
  · exact field_3 m sl hm w
  · exact field_4 m sl hm w
  · exact field_5 m sl hm w
  · exact field_6 m sl hm w
  · exact field_7 m sl hm w
  · exact field_8 m sl hm w
  · exact field_9 m sl hm w hw
  · exact field_10 m sl hm w
  · exact field_11 m sl hm w
  · exact field_12 m sl hm w
theorem msg_size : (Try.prog.info? 29).map (·.size) = some 17 := by kernel_rfl
theorem numF_len {n : Nat} (h : n < 18446744073709551616) : ((numF n).getD []).length ≤ 10 := by
  unfold numF
  split
  · simp
  · exact ub_len10 h
theorem fldX_len (m : Mg) (hm : m.sane) (tag : Nat) (h1 : 1 ≤ tag) (h2 : tag ≤ 12) : (fldX m tag).length ≤ 300000 := by
  obtain ⟨b1, b2, b3, b4, b5⟩ := nums_all hm.nums
  have f := hm.fits
  have g := hm.few
  have w9 := wsB_len m.ws g.all
  have hws := g.ws
  have : tag = 1 ∨ tag = 2 ∨ tag = 3 ∨ tag = 4 ∨ tag = 5 ∨ tag = 6 ∨ tag = 7 ∨ tag = 8 ∨ tag = 9 ∨ tag = 10 ∨ tag = 11 ∨ tag = 12 := by omega
  rcases this with rfl | rfl | rfl | rfl | rfl | rfl | rfl | rfl | rfl | rfl | rfl | rfl
  · have := numF_len (n := m.frm.toNat) (by omega); show ((numF m.frm.toNat).getD []).length ≤ _; omega
  · have := numF_len (n := m.to_.toNat) (by omega); show ((numF m.to_.toNat).getD []).length ≤ _; omega
  · show ((if txnZero m then none else some (ub m.node.toNat ++ ub m.life.toNat ++ ub m.seq.toNat)).getD []).length ≤ _
    have := ub_len10 (n := m.node.toNat) (by omega)
    have := ub_len10 (n := m.life.toNat) (by omega)
    have := ub_len10 (n := m.seq.toNat) (by omega)
    split <;> simp <;> omega
  · have := numF_len (n := m.a) f.a; show ((numF m.a).getD []).length ≤ _; omega
  · have := numF_len (n := m.b) f.b; show ((numF m.b).getD []).length ≤ _; omega
  · show ((if m.key.size = 0 then none else some m.key.data.toList).getD []).length ≤ _
    have := g.key
    have e := Lib.size_eq m.key
    split
    · simp
    · simp only [Option.getD_some]; omega
  · show ((if m.found then some [] else none).getD []).length ≤ _
    split <;> simp
  · show (ub m.time ++ bl m.gone ++ m.val.data.toList).length ≤ _
    have := ub_len10 f.time
    have := g.val
    have e := Lib.size_eq m.val
    simp only [List.length_append, bl, List.length_cons, List.length_nil]
    omega
  · show (ub m.ws.length ++ wsB m.ws).length ≤ _
    have := ub_len10 (n := m.ws.length) (by omega)
    rw [List.length_append]
    omega
  · show ((if m.note.size = 0 then none else some m.note.data.toList).getD []).length ≤ _
    have := g.note
    have e := Lib.size_eq m.note
    split
    · simp
    · simp only [Option.getD_some]; omega
  · have := numF_len (n := m.hint) f.hint; show ((numF m.hint).getD []).length ≤ _; omega
  · have := numF_len (n := m.must) f.must; show ((numF m.must).getD []).length ≤ _; omega
theorem msgB_next (m : Mg) (k : Nat) (h : 1 ≤ k) : msgB m k = msgB m (k - 1) ++ fldB m k := by
  obtain ⟨j, rfl⟩ : ∃ j, k = j + 1 := ⟨k - 1, by omega⟩
  unfold msgB
  rw [Nat.add_sub_cancel, fldsB, List.append_assoc]
/-- A text of a field, up to 300000 bytes. -/
theorem refTextC_any (s : ByteArray) (hs : s.size ≤ 300000) (w : World) :
    Calls Try.prog 28 #[.string s] w fun e w' => e = .returned (.string ⟨(ub s.size ++ s.data.toList).toArray⟩) ∧ Below w.heap.size w w' := refTextB_any s hs w

set_option maxHeartbeats 8000000 in
theorem refBytes_any (m : Mg) (sl : Value) (hm : m.sane) (last : Nat) (hl : last ≤ 12) (w : World) (hw : WsAt w sl m.ws) :
    Calls Try.prog 13 #[.agg (m.cells sl), .int .i64 last] w fun e w' => e = .returned (.string ⟨(msgB m last).toArray⟩) ∧ Below w.heap.size w w' := by
  have HF := Lib.hid (fun (k : Nat) (h1 : 1 ≤ k) (h2 : k ≤ 12) (W : World) (hW : WsAt W sl m.ws) => field_any m sl hm k h1 h2 W hW)
  have HFL := Lib.hid (fun (k : Nat) (h1 : 1 ≤ k) (h2 : k ≤ 12) => fldX_len m hm k h1 h2)
  have hkind := hm.kind
  have hm0 : msgB m 0 = ub m.kind.toNat := by unfold msgB; rw [fldsB, List.append_nil]
  have HM0 := Lib.hid hm0
  have HW := Lib.hid hw
  obtain ⟨M, hM⟩ : ∃ M, M = m := ⟨_, rfl⟩
  unfold Mg.cells at HF
  obtain ⟨kind, frm, to_, node, life, seq, a, b, key, found, time, gone, val, ws, note, hint, must⟩ := m
  rw [← hM] at HFL HM0
  simp only [← hM] at HF
  simp only at hkind HW
  obtain ⟨kn, rfl⟩ : ∃ n : Nat, kind = n := ⟨kind.toNat, by omega⟩
  have hk0 : M.kind.toNat = kn := by rw [hM]; rfl
  rw [hk0] at HM0
  show Calls _ _ #[.agg #[.int .i64 kn, .int .i64 frm, .int .i64 to_, .int .i64 node, .int .i64 life, .int .i64 seq, .int .u64 a, .int .u64 b, .string key, .bool found, .int .u64 time, .bool gone, .string val, sl, .string note, .int .u64 hint, .int .u64 must], .int .i64 last] w _
  rw [← hM]
  have HWS := Lib.hid (show ws = M.ws by rw [hM])
  clear hM hm hw hm0 hk0
  have hu := Lib.hid (refUint_any kn (by omega))
  have hs1 := ub_size' kn (by omega)
  obtain ⟨U, hU⟩ : ∃ U : ByteArray, U = ⟨(ub kn).toArray⟩ := ⟨_, rfl⟩
  have HU := Lib.hid hU
  rw [← hU] at hu hs1
  have hwk := u64_small (n := (kn : Int)) (by omega)
  clear hU
  go_enter Try.func13, Try.ntmps13
  go_upto_region 2 with (go_at_call 26; refine (hu.out _).mono ?_; rintro e w1 ⟨rfl, hb1⟩)
  obtain ⟨W1, hW1⟩ : ∃ W1, W1 = w.alloc (.cells #[.int .i64 kn, .int .i64 frm, .int .i64 to_, .int .i64 node, .int .i64 life, .int .i64 seq, .int .u64 a, .int .u64 b, .string key, .bool found, .int .u64 time, .bool gone, .string val, sl, .string note, .int .u64 hint, .int .u64 must] 29) := ⟨_, rfl⟩
  have hbox : W1.heap[w.heap.size]? = some (.cells #[.int .i64 kn, .int .i64 frm, .int .i64 to_, .int .i64 node, .int .i64 life, .int .i64 seq, .int .u64 a, .int .u64 b, .string key, .bool found, .int .u64 time, .bool gone, .string val, sl, .string note, .int .u64 hint, .int .u64 must] 29 (0, 0)) := by rw [hW1]; exact heap_alloc_new w _
  have HB0 := Lib.hid (show Below w.heap.size w W1 by rw [hW1]; exact (Below.refl _ _).alloc (Nat.le_refl _) _)
  have hz1 := Lib.hid (show W1.heap.size = w.heap.size + 1 by rw [hW1]; simp)
  rw [← hW1] at hb1
  have HB1 := Lib.hid hb1
  have HBX := Lib.hid hbox
  clear hW1 hb1 hbox hu
  go_wp2_with fail
  go_loopg [5, 6] last (fun q s5 s6 wx => ∃ (k : Nat) (S : ByteArray), 1 ≤ k ∧ k + q = last + 1 ∧ s6 = .int .i64 k ∧ s5 = .string S ∧ Hid (S = ⟨(msgB M (k - 1)).toArray⟩) ∧ S.size ≤ 10 + 300020 * k ∧ Hid (Below W1.heap.size W1 wx))
  case atStart => exact ⟨1, U, by omega, by omega, rfl, rfl, Lib.hid (by rw [HU.out, show 1 - 1 = 0 from rfl, HM0.out]), by omega, HB1⟩
  case round =>
    obtain ⟨k, S, hk1, hkq, rfl, rfl, hS, hSs, hb⟩ := hrel
    have hrow := hb.out.block w.heap.size (by rw [hz1.out]; omega)
    rw [HBX.out] at hrow
    have hcx := Lib.hid hrow
    by_cases hlt : k ≤ last
    · obtain ⟨q, rfl⟩ : ∃ q, gk = q + 1 := ⟨gk - 1, by omega⟩
      have hkz : (k : Int) ≤ (last : Int) := by omega
      have hf := HF.out k hk1 (by omega) wr (HW.out.below (HB0.out.trans (hb.out.mono HB0.out.size)))
      have hfl := HFL.out k hk1 (by omega)
      unfold FieldIs at hf
      have hn := msgB_next M k hk1
      have hE : fldB M k = if (fld M k).isSome then encT k (fldX M k) else [] := by
        unfold fldB
        cases h : fld M k with
        | none => rfl
        | some t => rw [fldX_some h]; rfl
      rw [hE] at hn
      obtain ⟨ok, hok⟩ : ∃ ok, ok = (fld M k).isSome := ⟨_, rfl⟩
      obtain ⟨F, hF⟩ : ∃ F : ByteArray, F = ⟨(fldX M k).toArray⟩ := ⟨_, rfl⟩
      have hFs : F.size ≤ 300000 := by rw [hF]; show (fldX M k).toArray.size ≤ _; rw [List.size_toArray]; exact hfl
      rw [← hok, ← hF] at hf
      rw [← hok] at hn
      have HF1 := Lib.hid hf
      have hFx : F.data.toList = fldX M k := by rw [hF]
      rw [← hFx] at hn
      have HN := Lib.hid hn
      have HQ := Lib.hid (show k + 1 + q = last + 1 by omega)
      clear hE hok hF hFx hn hf hfl hkq
      have hw1 : IntKind.u64.wrap (2 * (k : Int)) = 2 * (k : Int) := by simp [IntKind.wrap, IntKind.bits, IntKind.signed]; omega
      have hk12 : k ≤ 12 := by omega
      cases ok
      · have HN2 := HN.out
        simp only [Bool.false_eq_true, if_false, List.append_nil] at HN2
        have HS2 := Lib.hid (show S = ⟨(msgB M (k + 1 - 1)).toArray⟩ by rw [Nat.add_sub_cancel, HN2]; exact hS.out)
        clear HN2 HN
        by_cases h12 : k = 12
        all_goals
          have hb12 : ((k : Int) == 12) = decide (k = 12) := by rw [Bool.eq_iff_iff, beq_iff_eq, decide_eq_true_iff]; omega
        · rw [decide_eq_true h12] at hb12
          have HK := Lib.hid h12
          clear h12
          go_wp2_with (first
            | (refine wpList_load_row rfl 29 _ rfl w.heap.size rfl 29 #[.int .i64 kn, .int .i64 frm, .int .i64 to_, .int .i64 node, .int .i64 life, .int .i64 seq, .int .u64 a, .int .u64 b, .string key, .bool found, .int .u64 time, .bool gone, .string val, sl, .string note, .int .u64 hint, .int .u64 must] (0, 0) _ hcx.out Try.underlying29 rfl msg_size ?_)
            | (go_at_call 27; refine HF1.out.mono ?_; rintro e w2 ⟨rfl, hb2⟩))
          have HBN := Lib.hid (hb.out.trans (hb2.mono hb.out.size))
          clear hb2
          go_roundg q
          case measure => omega
          case rel => exact ⟨k + 1, S, by omega, HQ.out, by simp, rfl, HS2, by omega, HBN⟩
        · rw [decide_eq_false h12] at hb12
          have HK := Lib.hid h12
          clear h12
          go_wp2_with (first
            | (refine wpList_load_row rfl 29 _ rfl w.heap.size rfl 29 #[.int .i64 kn, .int .i64 frm, .int .i64 to_, .int .i64 node, .int .i64 life, .int .i64 seq, .int .u64 a, .int .u64 b, .string key, .bool found, .int .u64 time, .bool gone, .string val, sl, .string note, .int .u64 hint, .int .u64 must] (0, 0) _ hcx.out Try.underlying29 rfl msg_size ?_)
            | (go_at_call 27; refine HF1.out.mono ?_; rintro e w2 ⟨rfl, hb2⟩))
          have HBN := Lib.hid (hb.out.trans (hb2.mono hb.out.size))
          clear hb2
          go_roundg q
          case measure => omega
          case rel => exact ⟨k + 1, S, by omega, HQ.out, by simp, rfl, HS2, by omega, HBN⟩
      · have HN2 := HN.out
        simp only [if_true] at HN2
        have ht := Lib.hid (refTextC_any F hFs)
        obtain ⟨T, hT⟩ : ∃ U : ByteArray, U = ⟨(ub F.size ++ F.data.toList).toArray⟩ := ⟨_, rfl⟩
        have hTs : T.size ≤ 300010 := by rw [hT]; show (ub F.size ++ F.data.toList).toArray.size ≤ _; rw [List.size_toArray, List.length_append, ← Lib.size_eq]; have := ub_len10 (n := F.size) (by omega); omega
        have hhl : headT k < 100 := by unfold headT; split <;> omega
        have hh := Lib.hid (refUint_any (headT k) (by omega))
        have hhs := ub_size' (headT k) (by omega)
        obtain ⟨V, hV⟩ : ∃ U : ByteArray, U = ⟨(ub (headT k)).toArray⟩ := ⟨_, rfl⟩
        have hadd := Lib.hid (show S ++ (V ++ T) = ⟨(msgB M (k + 1 - 1)).toArray⟩ by
          rw [Nat.add_sub_cancel, HN2, hS.out, hV, hT]; apply ByteArray.ext; simp [encT, ← Lib.size_eq])
        rw [← hT] at ht
        rw [← hV] at hh hhs
        have hq6 : S.size ≤ 10 + 300020 * k := hSs
        have hns := Lib.hid (show (S ++ (V ++ T)).size ≤ 10 + 300020 * (k + 1) by rw [ByteArray.size_append, ByteArray.size_append]; omega)
        have ha1 : V.size + T.size ≤ 9223372036854775807 := by omega
        have ha2 : S.size + (V ++ T).size ≤ 9223372036854775807 := by rw [ByteArray.size_append]; omega
        clear HN2 HN hT hV hTs hhs
        by_cases h12 : k = 12
        · have hb12 : ((k : Int) == 12) = true := by rw [beq_iff_eq]; omega
          have hh2 := Lib.hid (fun W => show Calls Try.prog 26 #[.int .u64 (2 * (k : Int) + 1)] W fun e w' => e = .returned (.string V) ∧ Below W.heap.size W w' by
            have := hh.out W
            rw [show ((headT k : Nat) : Int) = 2 * (k : Int) + 1 by unfold headT; rw [if_pos h12]; omega] at this
            exact this)
          have hw2 : IntKind.u64.wrap (2 * (k : Int) + 1) = 2 * (k : Int) + 1 := by simp [IntKind.wrap, IntKind.bits, IntKind.signed]; omega
          have HK := Lib.hid h12
          clear h12 hh hhl
          go_wp2_with (first
            | (refine wpList_load_row rfl 29 _ rfl w.heap.size rfl 29 #[.int .i64 kn, .int .i64 frm, .int .i64 to_, .int .i64 node, .int .i64 life, .int .i64 seq, .int .u64 a, .int .u64 b, .string key, .bool found, .int .u64 time, .bool gone, .string val, sl, .string note, .int .u64 hint, .int .u64 must] (0, 0) _ hcx.out Try.underlying29 rfl msg_size ?_)
            | (go_at_call 27; refine HF1.out.mono ?_; rintro e w2 ⟨rfl, hb2⟩)
            | (go_at_call 26; refine (hh2.out _).mono ?_; rintro e w3 ⟨rfl, hb3⟩)
            | (go_at_call 28; refine (ht.out _).mono ?_; rintro e w4 ⟨rfl, hb4⟩))
          have B3 := hb.out.trans ((hb2.trans (hb3.mono hb2.size)).mono hb.out.size)
          have HBN := Lib.hid (B3.trans (hb4.mono B3.size))
          clear hb2 hb3 hb4 B3
          go_roundg q
          case measure => omega
          case rel => exact ⟨k + 1, _, by omega, HQ.out, by simp, rfl, hadd, hns.out, HBN⟩
        · have hb12 : ((k : Int) == 12) = false := by rw [beq_eq_false_iff_ne]; omega
          have hh2 := Lib.hid (fun W => show Calls Try.prog 26 #[.int .u64 (2 * (k : Int))] W fun e w' => e = .returned (.string V) ∧ Below W.heap.size W w' by
            have := hh.out W
            rw [show ((headT k : Nat) : Int) = 2 * (k : Int) by unfold headT; rw [if_neg h12]; omega] at this
            exact this)
          have HK := Lib.hid h12
          clear h12 hh hhl
          go_wp2_with (first
            | (refine wpList_load_row rfl 29 _ rfl w.heap.size rfl 29 #[.int .i64 kn, .int .i64 frm, .int .i64 to_, .int .i64 node, .int .i64 life, .int .i64 seq, .int .u64 a, .int .u64 b, .string key, .bool found, .int .u64 time, .bool gone, .string val, sl, .string note, .int .u64 hint, .int .u64 must] (0, 0) _ hcx.out Try.underlying29 rfl msg_size ?_)
            | (go_at_call 27; refine HF1.out.mono ?_; rintro e w2 ⟨rfl, hb2⟩)
            | (go_at_call 26; refine (hh2.out _).mono ?_; rintro e w3 ⟨rfl, hb3⟩)
            | (go_at_call 28; refine (ht.out _).mono ?_; rintro e w4 ⟨rfl, hb4⟩))
          have B3 := hb.out.trans ((hb2.trans (hb3.mono hb2.size)).mono hb.out.size)
          have HBN := Lib.hid (B3.trans (hb4.mono B3.size))
          clear hb2 hb3 hb4 B3
          go_roundg q
          case measure => omega
          case rel => exact ⟨k + 1, _, by omega, HQ.out, by simp, rfl, hadd, hns.out, HBN⟩
    · have hkz : ¬ (k : Int) ≤ (last : Int) := by omega
      have hfin := Lib.hid (show S = ⟨(msgB M last).toArray⟩ by rw [hS.out, show k - 1 = last by omega])
      go_wp2_with fail
      go_ret
      exact ⟨congrArg (fun z => Ending.returned (.string z)) hfin.out, HB0.out.trans (hb.out.mono HB0.out.size)⟩
end Go.Proofs.Ytkcbbcabfbkclaa
