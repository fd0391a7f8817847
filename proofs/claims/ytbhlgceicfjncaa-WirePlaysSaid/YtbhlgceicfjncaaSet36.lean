/-
  Joined: MsgIsRightB, MsgRefusal.
-/
import Derived.Test.YtbhlgceicfjncaaSet35
namespace Go.Proofs.Ytbhlgceicfjncaa
open Go.RowKit
set_option linter.unusedVariables false
set_option linter.unnecessarySimpa false
set_option linter.unusedSimpArgs false
set_option maxRecDepth 100000

def wsN : List Wr → Nat
  | [] => 0
  | z :: l => z.key.size + z.val.size + wsN l
theorem wsN_append (l r : List Wr) : wsN (l ++ r) = wsN l + wsN r := by
  induction l with
  | nil => simp [wsN]
  | cons x l ih => rw [List.cons_append, wsN, wsN, ih]; omega
theorem wsN_take {l : List Wr} {i : Nat} {z : Wr} (h : l[i]? = some z) : wsN (l.take (i + 1)) = wsN (l.take i) + (z.key.size + z.val.size) := by
  rw [List.take_add_one, h, wsN_append]
  simp [wsN]
theorem wsN_le (l : List Wr) (h : ∀ z ∈ l, z.key.size ≤ 5000 ∧ z.val.size ≤ 5000) : wsN l ≤ 10000 * l.length := by
  induction l with
  | nil => simp [wsN]
  | cons x l ih =>
    have h1 := h x (by simp)
    have h2 := ih (fun z hz => h z (by simp [hz]))
    rw [wsN, List.length_cons]; omega
theorem wsN_wsB (l : List Wr) : wsN l ≤ (wsB l).length := by
  induction l with
  | nil => simp [wsN]
  | cons x l ih =>
    have e : wsB (x :: l) = wrB x ++ wsB l := rfl
    rw [e, wsN, List.length_append]
    simp only [wrB, txB, bl, List.length_append, List.length_cons, List.length_nil, ← Lib.size_eq]
    omega
def textsN (m : Mg) : Nat := m.key.size + m.val.size + m.note.size + wsN m.ws
theorem fldB_len {m : Mg} {t : Nat} (h1 : 1 ≤ t) (h2 : t ≤ 12) {n : Nat} (h : n ≤ (txt m t).length) (h0 : isT m t = false → n = 0) : n ≤ (fldB m t).length := by
  rw [fldB_is h1 h2]
  cases hi : isT m t with
  | false => rw [h0 hi]; exact Nat.zero_le _
  | true =>
    simp only [if_true]
    unfold encT
    rw [List.length_append, List.length_append]
    omega
theorem textsN_le (m : Mg) : textsN m ≤ (msgB m 12).length := by
  have h6 : m.key.size ≤ (fldB m 6).length := fldB_len (by omega) (by omega) (by show _ ≤ m.key.data.toList.length; rw [← Lib.size_eq]; exact Nat.le_refl _) (fun h => by
    rw [← isT_6, toList_empty] at h; simpa using h)
  have h8 : m.val.size ≤ (fldB m 8).length := fldB_len (by omega) (by omega) (by show _ ≤ (ub m.time ++ bl m.gone ++ m.val.data.toList).length; rw [List.length_append, ← Lib.size_eq]; omega) (fun h => by
    rw [← isT_8] at h
    have h' : verZeroM m = true := by simpa using h
    unfold verZeroM at h'
    simp only [Bool.and_eq_true, beq_iff_eq] at h'
    exact h'.2)
  have h9 : wsN m.ws ≤ (fldB m 9).length := fldB_len (by omega) (by omega) (by show _ ≤ (ub m.ws.length ++ wsB m.ws).length; rw [List.length_append]; have := wsN_wsB m.ws; omega) (fun h => by
    rw [← isT_9] at h
    have : m.ws = [] := by simpa using h
    rw [this]; rfl)
  have h10 : m.note.size ≤ (fldB m 10).length := fldB_len (by omega) (by omega) (by show _ ≤ m.note.data.toList.length; rw [← Lib.size_eq]; exact Nat.le_refl _) (fun h => by
    rw [← isT_10, toList_empty] at h; simpa using h)
  have e : fldsB m 12 = [] ++ fldB m 1 ++ fldB m 2 ++ fldB m 3 ++ fldB m 4 ++ fldB m 5 ++ fldB m 6 ++ fldB m 7 ++ fldB m 8 ++ fldB m 9 ++ fldB m 10 ++ fldB m 11 ++ fldB m 12 := rfl
  unfold textsN msgB
  rw [e]
  simp only [List.length_append]
  omega

set_option maxHeartbeats 4000000 in
theorem textsLength_any (m : Mg) (sl : Value) (hw : m.few) (w : World) (hws : WsAt w sl m.ws) : Calls Try.prog 98 #[.agg (m.cells sl)] w fun e w' => e = .returned (.int .i64 (textsN m : Nat)) ∧ Below w.heap.size w w' := by
  obtain ⟨C, hC⟩ : ∃ C, C = m.cells sl := ⟨_, rfl⟩
  have HC : CellsOf C m sl := ⟨hC⟩
  rw [← hC]
  have h8 := HC.at8
  have h12 := HC.at12
  have h13 := HC.at13
  have h14 := HC.at14
  obtain ⟨p, cap, rfl, hget⟩ := hws.get
  have HG := Lib.hid hget
  have HT := Lib.hid (show textsN m = m.key.size + m.val.size + m.note.size + wsN m.ws from rfl)
  obtain ⟨N, hN⟩ : ∃ N, N = textsN m := ⟨_, rfl⟩
  have b1 := hw.key
  have b2 := hw.val
  have b3 := hw.note
  have b4 := hw.ws
  have HA := Lib.hid hw.all
  rw [← hN] at HT ⊢
  clear HC hC hN hget hws hw
  obtain ⟨kind, frm, to_, node, life, seq, a, b, key, found, time, gone, val, ws, note, hint, must⟩ := m
  simp only at h8 h12 h13 h14 HG HT b1 b2 b3 b4 HA
  obtain ⟨len, hlen⟩ : ∃ len, len = ws.length := ⟨_, rfl⟩
  have HL := Lib.hid hlen
  rw [← hlen] at h13 b4
  clear hlen
  go_enter Try.func98, Try.ntmps98
  go_upto_region 1 with fail
  obtain ⟨G, hG⟩ : ∃ G, G = w.heap.size := ⟨_, rfl⟩
  obtain ⟨W1, hW1⟩ : ∃ W1, W1 = w.alloc (.cells C 38) := ⟨_, rfl⟩
  have hrow : W1.heap[G]? = some (.cells C 38 (0, 0)) := by rw [hW1, hG]; exact heap_alloc_new w _
  have HB1 := Lib.hid (show Below w.heap.size w W1 by rw [hW1]; exact (Below.refl _ _).alloc (Nat.le_refl _) _)
  rw [← hW1, ← hG]
  have c8 := cell_row hrow h8
  have c12 := cell_row hrow h12
  have c13 := cell_row hrow h13
  have c14 := cell_row hrow h14
  clear hW1 hG hrow h8 h12 h13 h14
  go_wp2_with fail
  clear c8 c12 c13 c14
  obtain ⟨S0, hS0⟩ : ∃ S0 : Nat, S0 = key.size + val.size + note.size := ⟨_, rfl⟩
  have hS0z : (key.size : Int) + (val.size : Int) + (note.size : Int) = (S0 : Int) := by omega
  have hS0l : S0 ≤ 22000 := by omega
  have HS0 := Lib.hid hS0
  clear hS0
  go_loopg [3, 5, 21] len (fun q s3 s5 s21 wx => ∃ (i S : Nat), i + q = len ∧ s21 = .int .i64 i ∧ s3 = .int .i64 S ∧ Hid (S = S0 + wsN (ws.take i)) ∧ S ≤ 22000 + 10000 * i ∧ Hid (Below w.heap.size w wx))
  case atStart => exact ⟨0, S0, by omega, rfl, by rw [hS0z], Lib.hid (by simp [wsN]), by omega, HB1⟩
  case round =>
    obtain ⟨i, S, hiq, rfl, rfl, hS, hSl, HB⟩ := hrel
    clear hS0z
    by_cases hlt : i < len
    · obtain ⟨q, rfl⟩ : ∃ q, gk = q + 1 := ⟨gk - 1, by omega⟩
      have hiz : (i : Int) < (len : Int) := by omega
      obtain ⟨z, hz⟩ : ∃ z, ws[i]? = some z := ⟨_, List.getElem?_eq_getElem (by rw [← HL.out]; exact hlt)⟩
      obtain ⟨bq, off, rfl, hbl, d0', d1', d2'⟩ := HG.out i z hz
      have d0 := (HB.out.cell (p := ⟨bq, off + i * 3, none⟩) hbl).trans d0'
      have d1 := (HB.out.cell (p := ⟨bq, off + i * 3 + 1, none⟩) hbl).trans d1'
      have d2 := (HB.out.cell (p := ⟨bq, off + i * 3 + 2, none⟩) hbl).trans d2'
      have hup := wsN_take hz
      have hzb := HA.out z (List.mem_of_getElem? hz)
      obtain ⟨zk, zg, zv⟩ := z
      simp only at d0 d1 d2 hup hzb
      have z1 := hzb.1
      have z2 := hzb.2
      have hS2 := Lib.hid (show S + (zk.size + zv.size) = S0 + wsN (ws.take (i + 1)) by rw [hup, hS.out]; omega)
      have hSl2 : S + (zk.size + zv.size) ≤ 22000 + 10000 * (i + 1) := by omega
      have HB2 := Lib.hid (HB.out.alloc HB.out.size (.cells #[.string zk, .bool zg, .string zv] 64))
      have hS6 : S ≤ 300000 := by omega
      clear hz d0' d1' d2' hup hbl hzb
      go_wp2_with fail
      go_roundg q
      case measure => omega
      case rel => exact ⟨i + 1, S + (zk.size + zv.size), by omega, by simp, by simp, hS2, hSl2, HB2⟩
    · have hiz : ¬ (i : Int) < (len : Int) := by omega
      have hfin := Lib.hid (show S = N by rw [HT.out, hS.out, HS0.out, List.take_of_length_le (by rw [← HL.out]; omega)])
      go_wp2_with fail
      go_ret
      exact ⟨ret_int (by rw [hfin.out]), HB.out⟩

set_option maxHeartbeats 4000000 in
theorem isShort_any (m : Mg) (sl : Value) (hk : 0 ≤ m.kind ∧ m.kind ≤ 9) (hn : nums31 m = true) (hf : m.fits) (hw : m.few) (w : World) (hws : WsAt w sl m.ws) :
    Calls Try.prog 70 #[.agg (m.cells sl)] w fun e w' => e = .returned (.bool (decide (m.ws.length ≤ 8) && decide ((msgB m 12).length ≤ 4000))) ∧ Below w.heap.size w w' := by
  have hbo := fun (W : World) (hW : WsAt W sl m.ws) => mbytesOf_any 3 (by decide) m sl hk hn hf hw W hW
  rw [show lastOfM 3 = 12 from rfl] at hbo
  have htl := fun (W : World) (hW : WsAt W sl m.ws) => textsLength_any m sl hw W hW
  have hle := textsN_le m
  have hmax : (msgB m 12).length ≤ 3000000 := by
    have e : msgB m 12 = ub m.kind.toNat ++ (fldsL m).flatMap (encF 12) := by unfold msgB; rw [flds_flat (.inr (.inr rfl))]
    rw [e, List.length_append]
    have u := ub_len10 (n := m.kind.toNat) (by omega)
    have : ∀ (l : List F3), (∀ f ∈ l, f.text.length ≤ 210000 ∧ f.tag ≤ 12) → (l.flatMap (encF 12)).length ≤ 210020 * l.length := by
      intro l
      induction l with
      | nil => intro _; simp
      | cons x l ih =>
        intro h
        have h1 := h x (by simp)
        have h2 := ih (fun f hf => h f (by simp [hf]))
        rw [List.flatMap_cons, List.length_append, List.length_cons]
        have : (encF 12 x).length ≤ 210020 := by
          unfold encF encT
          rw [if_pos h1.2, List.length_append, List.length_append]
          have u1 := ub_len10 (n := headT x.tag) (by unfold headT; split <;> omega)
          have u2 := ub_len10 (n := x.text.length) (by omega)
          omega
        omega
    have h3 := this (fldsL m) (fun f h => by
      have h1 := fldsL_mem h
      refine ⟨?_, h1.2.2.1⟩
      rw [h1.2.2.2]
      exact txt_len hn hf hw f.tag)
    have := fldsL_len m
    omega
  obtain ⟨MB, hMB⟩ : ∃ MB, MB = msgB m 12 := ⟨_, rfl⟩
  obtain ⟨TN, hTN⟩ : ∃ TN, TN = textsN m := ⟨_, rfl⟩
  obtain ⟨C, hC⟩ : ∃ C, C = m.cells sl := ⟨_, rfl⟩
  have HC : CellsOf C m sl := ⟨hC⟩
  rw [← hMB, ← hTN] at hle
  rw [← hMB] at hbo hmax ⊢
  rw [← hTN] at htl
  rw [← hC] at hbo htl ⊢
  have h13 := HC.at13
  have HSZ := Lib.hid (show (Try.prog.info? 38).map (·.size) = some C.size by rw [HC.size]; exact msg_size)
  obtain ⟨X, hX⟩ : ∃ X : ByteArray, X = ⟨MB.toArray⟩ := ⟨_, rfl⟩
  have hXs : X.size = MB.length := by rw [hX]; exact List.size_toArray
  rw [← hX] at hbo
  have HBO := Lib.hid hbo
  have HTL := Lib.hid htl
  have HWS := Lib.hid hws
  obtain ⟨len, hlen⟩ : ∃ len, len = m.ws.length := ⟨_, rfl⟩
  obtain ⟨p, cap, rfl, _⟩ := hws.get
  have hl20 := hw.ws
  rw [← hlen] at hl20 h13 ⊢
  clear hbo htl HC hC hMB hTN hX hlen hws hk hn hf hw
  go_enter Try.func70, Try.ntmps70
  go_upto_region 1 with fail
  obtain ⟨G, hG⟩ : ∃ G, G = w.heap.size := ⟨_, rfl⟩
  obtain ⟨W1, hW1⟩ : ∃ W1, W1 = w.alloc (.cells C 38) := ⟨_, rfl⟩
  have hrow : W1.heap[G]? = some (.cells C 38 (0, 0)) := by rw [hW1, hG]; exact heap_alloc_new w _
  have HB1 := Lib.hid (show Below w.heap.size w W1 by rw [hW1]; exact (Below.refl _ _).alloc (Nat.le_refl _) _)
  rw [← hW1, ← hG]
  have c13 := cell_row hrow h13
  have HROW := Lib.hid hrow
  have HTW := HTL.out W1 (HWS.out.below HB1.out)
  have HTL1 := Lib.hid HTW
  clear hW1 hG h13 HTL HTW hrow
  by_cases hb1 : len ≤ 8
  · have e1 : decide ((len : Int) ≤ 8) = true := decide_eq_true (by omega)
    by_cases hb2 : TN ≤ 4000
    · have e2 : decide ((TN : Int) ≤ 4000) = true := decide_eq_true (by omega)
      have hfin := Lib.hid (show decide ((X.size : Int) ≤ 4000) = (decide (len ≤ 8) && decide (MB.length ≤ 4000)) by
        rw [decide_eq_true hb1, Bool.true_and, hXs, Bool.eq_iff_iff, decide_eq_true_eq, decide_eq_true_eq]; omega)
      have hXl : X.size ≤ 3000000 := by omega
      clear hb1 hb2 hle hmax hXs
      go_wp2_with (first
        | (refine wpList_load_row_w rfl 38 _ rfl G rfl 38 C (0, 0) _ HROW.out Try.underlying38 rfl HSZ.out ?_)
        | (refine wpList_load_row_w rfl 38 _ rfl G rfl 38 C (0, 0) _ HROW2.out Try.underlying38 rfl HSZ.out ?_)
        | (go_at_call 98; refine HTL1.out.mono ?_; rintro e w2 ⟨rfl, hb2⟩; have B2 := Lib.hid (HB1.out.trans (hb2.mono HB1.out.size)); have HROW2 := Lib.hid ((hb2.block G (Array.getElem?_eq_some_iff.1 HROW.out).1).trans HROW.out); have HBO2 := Lib.hid (HBO.out w2 (HWS.out.below B2.out)); clear hb2 HROW c13)
        | (go_at_call 35; refine HBO2.out.mono ?_; rintro e w3 ⟨rfl, hb3⟩))
      go_ret
      exact ⟨ret_bool hfin.out, B2.out.trans (hb3.mono B2.out.size)⟩
    · have e2 : decide ((TN : Int) ≤ 4000) = false := decide_eq_false (by omega)
      have hfin := Lib.hid (show false = (decide (len ≤ 8) && decide (MB.length ≤ 4000)) by
        rw [decide_eq_false (show ¬ MB.length ≤ 4000 by omega), Bool.and_false])
      clear hb1 hb2 hle hmax hXs
      go_wp2_with (first
        | (refine wpList_load_row_w rfl 38 _ rfl G rfl 38 C (0, 0) _ HROW.out Try.underlying38 rfl HSZ.out ?_)
        | (go_at_call 98; refine HTL1.out.mono ?_; rintro e w2 ⟨rfl, hb2⟩))
      go_ret
      exact ⟨ret_bool hfin.out, HB1.out.trans (hb2.mono HB1.out.size)⟩
  · have e1 : decide ((len : Int) ≤ 8) = false := decide_eq_false (by omega)
    have hfin := Lib.hid (show false = (decide (len ≤ 8) && decide (MB.length ≤ 4000)) by rw [decide_eq_false hb1, Bool.false_and])
    clear hb1 hle hmax hXs
    go_wp2_with fail
    go_ret
    exact ⟨ret_bool hfin.out, HB1.out⟩
end Go.Proofs.Ytbhlgceicfjncaa

namespace Go.Proofs.Ytbhlgceicfjncaa
open Go.RowKit
set_option linter.unusedVariables false
set_option linter.unnecessarySimpa false
set_option linter.unusedSimpArgs false
set_option maxRecDepth 100000

theorem rightB_is (m : Mg) : rightBM m = (kindOK m && (nums31 m && ((m.ws.all wrOK && verOK m) && (decide (m.ws.length ≤ 8) && decide ((msgB m 12).length ≤ 4000))))) := by
  unfold rightBM
  cases nums31 m <;> cases kindOK m <;> cases verOK m <;> cases m.ws.all wrOK <;> cases decide (m.ws.length ≤ 8) <;> cases decide ((msgB m 12).length ≤ 4000) <;> rfl

set_option maxHeartbeats 8000000 in
theorem isRight_any (m : Mg) (sl : Value) (hf : m.fits) (hw : m.few) (w : World) (hws : WsAt w sl m.ws) :
    Calls Try.prog 42 #[.agg (m.cells sl)] w fun e w' => e = .returned (.bool (rightBM m)) ∧ Below w.heap.size w w' := by
  have hr := rightB_is m
  obtain ⟨R, hR⟩ : ∃ R, R = rightBM m := ⟨_, rfl⟩
  rw [← hR] at hr ⊢
  obtain ⟨C, hC⟩ : ∃ C, C = m.cells sl := ⟨_, rfl⟩
  have HC : CellsOf C m sl := ⟨hC⟩
  have h0 := HC.at0
  have HSZ := Lib.hid (show (Try.prog.info? 38).map (·.size) = some C.size by rw [HC.size]; exact msg_size)
  have hl20 := hw.ws
  have HA := Lib.hid (fun (W : World) => areNumbers_any m sl W)
  have HGR := Lib.hid (fun (W : World) (hW : WsAt W sl m.ws) => isGoneRight_any m sl (by omega) W hW)
  have HSH := Lib.hid (fun (hk : 0 ≤ m.kind ∧ m.kind ≤ 9) (hn : nums31 m = true) (W : World) (hW : WsAt W sl m.ws) => isShort_any m sl hk hn hf hw W hW)
  rw [← hC] at HA HGR HSH ⊢
  have HWS := Lib.hid hws
  obtain ⟨K, hK⟩ : ∃ K, K = m.kind := ⟨_, rfl⟩
  rw [← hK] at h0 HSH
  have HKO := Lib.hid (show kindOK m = decide (1 ≤ K ∧ K ≤ 9) by rw [hK]; rfl)
  clear HC hC hR hws hl20 hf hw hK
  go_enter Try.func42, Try.ntmps42
  go_upto_region 1 with fail
  obtain ⟨G, hG⟩ : ∃ G, G = w.heap.size := ⟨_, rfl⟩
  obtain ⟨W1, hW1⟩ : ∃ W1, W1 = w.alloc (.cells C 38) := ⟨_, rfl⟩
  have hrow : W1.heap[G]? = some (.cells C 38 (0, 0)) := by rw [hW1, hG]; exact heap_alloc_new w _
  have HB1 := Lib.hid (show Below w.heap.size w W1 by rw [hW1]; exact (Below.refl _ _).alloc (Nat.le_refl _) _)
  rw [← hW1, ← hG]
  have c0 := cell_row hrow h0
  have HROW := Lib.hid hrow
  have HGL := Lib.hid (Array.getElem?_eq_some_iff.1 hrow).1
  clear hW1 hG h0 hrow
  by_cases k1 : 1 ≤ K
  · have e1 : decide (1 ≤ K) = true := decide_eq_true k1
    by_cases k9 : K ≤ 9
    · have e2 : decide (K ≤ 9) = true := decide_eq_true k9
      have hko : kindOK m = true := by rw [HKO.out]; exact decide_eq_true ⟨k1, k9⟩
      rw [hko, Bool.true_and] at hr
      have HS2 := Lib.hid (HSH.out ⟨by omega, k9⟩)
      clear k1 k9 hko HSH HKO
      cases hn : nums31 m with
      | false =>
        rw [hn, Bool.false_and] at hr
        rw [hn] at HA
        have HR := Lib.hid hr
        clear hr hn HS2 HGR
        go_wp2_with (first
          | (refine wpList_load_row_w rfl 38 _ rfl G rfl 38 C (0, 0) _ HROW.out Try.underlying38 rfl HSZ.out ?_)
          | (go_at_call 68; refine (HA.out _).mono ?_; rintro e w2 ⟨rfl, hb2⟩))
        go_ret
        exact ⟨ret_bool HR.out.symm, HB1.out.trans (hb2.mono HB1.out.size)⟩
      | true =>
        rw [hn, Bool.true_and] at hr
        have HS3 := Lib.hid (HS2.out hn)
        rw [hn] at HA
        clear hn HS2
        cases hgr : (m.ws.all wrOK && verOK m) with
        | false =>
          rw [hgr, Bool.false_and] at hr
          rw [hgr] at HGR
          have HR := Lib.hid hr
          clear hr hgr HS3
          go_wp2_with (first
            | (refine wpList_load_row_w rfl 38 _ rfl G rfl 38 C (0, 0) _ HROW.out Try.underlying38 rfl HSZ.out ?_)
            | (refine wpList_load_row_w rfl 38 _ rfl G rfl 38 C (0, 0) _ HROW2.out Try.underlying38 rfl HSZ.out ?_)
            | (go_at_call 68; refine (HA.out _).mono ?_; rintro e w2 ⟨rfl, hb2⟩; have B2 := Lib.hid (HB1.out.trans (hb2.mono HB1.out.size)); have HROW2 := Lib.hid ((hb2.block G HGL.out).trans HROW.out); have HG2 := Lib.hid (HGR.out w2 (HWS.out.below B2.out)); clear hb2 HROW c0)
            | (go_at_call 69; refine HG2.out.mono ?_; rintro e w3 ⟨rfl, hb3⟩))
          go_ret
          exact ⟨ret_bool HR.out.symm, B2.out.trans (hb3.mono B2.out.size)⟩
        | true =>
          rw [hgr, Bool.true_and] at hr
          rw [hgr] at HGR
          rw [← hr] at HS3
          clear hr hgr
          go_wp2_with (first
            | (refine wpList_load_row_w rfl 38 _ rfl G rfl 38 C (0, 0) _ HROW.out Try.underlying38 rfl HSZ.out ?_)
            | (refine wpList_load_row_w rfl 38 _ rfl G rfl 38 C (0, 0) _ HROW2.out Try.underlying38 rfl HSZ.out ?_)
            | (refine wpList_load_row_w rfl 38 _ rfl G rfl 38 C (0, 0) _ HROW3.out Try.underlying38 rfl HSZ.out ?_)
            | (go_at_call 68; refine (HA.out _).mono ?_; rintro e w2 ⟨rfl, hb2⟩; have B2 := Lib.hid (HB1.out.trans (hb2.mono HB1.out.size)); have HROW2 := Lib.hid ((hb2.block G HGL.out).trans HROW.out); have HG2 := Lib.hid (HGR.out w2 (HWS.out.below B2.out)); have HZ2 := Lib.hid (Nat.lt_of_lt_of_le HGL.out hb2.size); clear hb2 HROW c0)
            | (go_at_call 69; refine HG2.out.mono ?_; rintro e w3 ⟨rfl, hb3⟩; have B3 := Lib.hid (B2.out.trans (hb3.mono B2.out.size)); have HROW3 := Lib.hid ((hb3.block G HZ2.out).trans HROW2.out); have HS4 := Lib.hid (HS3.out w3 (HWS.out.below B3.out)); clear hb3 HROW2)
            | (go_at_call 70; refine HS4.out.mono ?_; rintro e w4 ⟨rfl, hb4⟩))
          go_ret
          exact ⟨rfl, B3.out.trans (hb4.mono B3.out.size)⟩
    · have e2 : decide (K ≤ 9) = false := decide_eq_false k9
      have hko : kindOK m = false := by rw [HKO.out]; exact decide_eq_false (fun h => k9 h.2)
      rw [hko, Bool.false_and] at hr
      have HR := Lib.hid hr
      clear k1 k9 hko HSH HKO hr HGR HA
      go_wp2_with fail
      go_ret
      exact ⟨ret_bool HR.out.symm, HB1.out⟩
  · have e1 : decide (1 ≤ K) = false := decide_eq_false k1
    have hko : kindOK m = false := by rw [HKO.out]; exact decide_eq_false (fun h => k1 h.1)
    rw [hko, Bool.false_and] at hr
    have HR := Lib.hid hr
    clear k1 hko HSH HKO hr HGR HA
    go_wp2_with fail
    go_ret
    exact ⟨ret_bool HR.out.symm, HB1.out⟩

def crB (v : Int) (f : F3) : Bool := decide (f.tag = 12) && !hasB v f.tag
theorem crit_any {v : Int} (hv : ¬ lastOfM v = 0) (m : Mg) : (fldsL m).any (crB v) = decide (v < 3 ∧ m.must ≠ 0) := by
  have hv3 : v = 1 ∨ v = 2 ∨ v = 3 := Decidable.byContradiction fun h => hv (lastOf_zero.2 h)
  have hT : isT m 12 = decide (m.must ≠ 0) := numF_is m.must
  rw [Bool.eq_iff_iff, List.any_eq_true, decide_eq_true_eq]
  constructor
  · rintro ⟨f, hf, hc⟩
    have h1 := fldsL_mem hf
    unfold crB at hc
    rw [Bool.and_eq_true, decide_eq_true_eq] at hc
    obtain ⟨h12, hh⟩ := hc
    have h2 := h1.1
    rw [h1.2.2.2, h12] at h2
    have h3 : isT m 12 = true := h2
    rw [hT, decide_eq_true_eq] at h3
    refine ⟨?_, h3⟩
    rw [h12] at hh
    rcases hv3 with rfl | rfl | rfl
    · omega
    · omega
    · exact absurd hh (by decide)
  · rintro ⟨h1, h2⟩
    refine ⟨f3 m 12, ?_, ?_⟩
    · unfold fldsL
      rw [List.mem_filter]
      exact ⟨by unfold all12; simp, by show isT m 12 = true; rw [hT]; exact decide_eq_true h2⟩
    · rcases hv3 with rfl | rfl | rfl
      · rfl
      · rfl
      · omega
theorem any_true {v : Int} {l : List F3} {i : Nat} {f : F3} (h : l[i]? = some f) (hc : crB v f = true) : l.any (crB v) = true := by
  rw [List.any_eq_true]
  exact ⟨f, List.mem_of_getElem? h, hc⟩
theorem any_noneM {v : Int} {l : List F3} {i : Nat} (h : ∀ j, j < i → ∀ f, l[j]? = some f → crB v f = false) (hi : l.length ≤ i) : l.any (crB v) = false := by
  rw [List.any_eq_false]
  intro f hf
  obtain ⟨j, hj, e⟩ := List.getElem_of_mem hf
  rw [h j (by omega) f (by rw [List.getElem?_eq_getElem hj, e])]
  decide

set_option maxHeartbeats 8000000 in
theorem refusal_any (v : Int) (m : Mg) (sl : Value) (hf : m.fits) (hw : m.few) (w : World) (hws : WsAt w sl m.ws) :
    Calls Try.prog 34 #[.int .i64 v, .agg (m.cells sl)] w fun e w' => e = .returned (.int .i64 (projB v m).2) ∧ Below w.heap.size w w' := by
  have hir := fun (W : World) (hW : WsAt W sl m.ws) => isRight_any m sl hf hw W hW
  have hver := fun (W : World) => isVersion_any v W
  have hfo := fun (hn : nums31 m = true) (W : World) (hW : WsAt W sl m.ws) => fieldsOf_any m sl hn hf hw W hW
  obtain ⟨C, hC⟩ : ∃ C, C = m.cells sl := ⟨_, rfl⟩
  have HC : CellsOf C m sl := ⟨hC⟩
  have HSZ := Lib.hid (show (Try.prog.info? 38).map (·.size) = some C.size by rw [HC.size]; exact msg_size)
  rw [← hC] at hir hfo ⊢
  have HWS := Lib.hid hws
  clear HC hC hf hw
  by_cases hv : lastOfM v = 0
  · have hp : (projB v m).2 = 1 := by unfold projB; rw [if_pos (.inl hv)]
    rw [hp]
    rw [ver_noM hv] at hver
    have HV := Lib.hid hver
    clear hp hv hver hir hfo hws
    go_enter Try.func34, Try.ntmps34
    go_wp2_with (go_at_call 33; refine (HV.out _).mono ?_; rintro e w2 ⟨rfl, rfl⟩)
    go_ret
    exact ⟨rfl, (Below.refl _ _).alloc (Nat.le_refl _) _⟩
  · rw [verB_is.2 hv] at hver
    have HV := Lib.hid hver
    cases hr : rightBM m with
    | false =>
      have hp : (projB v m).2 = 1 := by unfold projB; rw [if_pos (.inr hr)]
      rw [hp]
      rw [hr] at hir
      have HI := Lib.hid hir
      have HROW := Lib.hid (heap_alloc_new w (.cells C 38))
      have HB1 := Lib.hid (show Below w.heap.size w (w.alloc (.cells C 38)) from (Below.refl _ _).alloc (Nat.le_refl _) _)
      clear hp hv hver hir hfo hws hr
      go_enter Try.func34, Try.ntmps34
      go_wp2_with (first
        | (refine wpList_load_row_w rfl 38 _ rfl w.heap.size rfl 38 C (0, 0) _ HROW.out Try.underlying38 rfl HSZ.out ?_)
        | (go_at_call 33; refine (HV.out _).mono ?_; rintro e w2 ⟨rfl, rfl⟩)
        | (go_at_call 42; refine (HI.out _ (HWS.out.below HB1.out)).mono ?_; rintro e w3 ⟨rfl, hb3⟩))
      go_ret
      exact ⟨rfl, HB1.out.trans (hb3.mono HB1.out.size)⟩
    | true =>
      have hn := (right_partsM hr).1
      have hcr := crit_any hv m
      have hp : (projB v m).2 = if (fldsL m).any (crB v) then 4 else 0 := by
        rw [hcr]
        unfold projB
        rw [if_neg (by rw [hr]; rintro (h | h); exact hv h; cases h)]
        by_cases h : v < 3 ∧ m.must ≠ 0
        · rw [if_pos h, decide_eq_true h]; rfl
        · rw [if_neg h, decide_eq_false h]; rfl
      rw [hp]
      rw [hr] at hir
      have HI := Lib.hid hir
      have hfo2 := hfo hn
      unfold FldsOut at hfo2
      have hlen := fldsL_len m
      obtain ⟨L, hL⟩ : ∃ L, L = fldsL m := ⟨_, rfl⟩
      rw [← hL] at hlen hfo2 ⊢
      obtain ⟨E, hE⟩ : ∃ E : Int, E = if L.any (crB v) then 4 else 0 := ⟨_, rfl⟩
      rw [← hE]
      have HE := Lib.hid hE
      have HFO := Lib.hid hfo2
      have HROW := Lib.hid (heap_alloc_new w (.cells C 38))
      have HB1 := Lib.hid (show Below w.heap.size w (w.alloc (.cells C 38)) from (Below.refl _ _).alloc (Nat.le_refl _) _)
      have HZ1 := Lib.hid (show w.heap.size < (w.alloc (.cells C 38)).heap.size by simp)
      clear hp hv hver hir hfo hws hr hn hcr hfo2 hL hE
      go_enter Try.func34, Try.ntmps34
      go_wp2_with (first
        | (refine wpList_load_row_w rfl 38 _ rfl w.heap.size rfl 38 C (0, 0) _ HROW.out Try.underlying38 rfl HSZ.out ?_)
        | (refine wpList_load_row_w rfl 38 _ rfl w.heap.size rfl 38 C (0, 0) _ HROW3.out Try.underlying38 rfl HSZ.out ?_)
        | (go_at_call 33; refine (HV.out _).mono ?_; rintro e w2 ⟨rfl, rfl⟩)
        | (go_at_call 42; refine (HI.out _ (HWS.out.below HB1.out)).mono ?_; rintro e w3 ⟨rfl, hb3⟩; have HROW3 := Lib.hid ((hb3.block w.heap.size HZ1.out).trans HROW.out); have B3 := Lib.hid (HB1.out.trans (hb3.mono HB1.out.size)); have HF3 := Lib.hid (HFO.out w3 (HWS.out.below B3.out)); clear hb3 HROW)
        | (go_at_call 47; refine HF3.out.mono ?_; rintro e w4 ⟨vf, rfl, hfl, hb4, _⟩; obtain ⟨af, capf, rfl, hget⟩ := hfl.get; have B4 := Lib.hid (B3.out.trans (hb4.mono B3.out.size)); have HGET := Lib.hid hget; clear hfl hget hb4))
      obtain ⟨len, hlen2⟩ : ∃ len, len = L.length := ⟨_, rfl⟩
      have HL := Lib.hid hlen2
      rw [← hlen2] at hlen ⊢
      clear hlen2 HROW3 HF3 HFO HI HWS HSZ
      go_loopg [6, 18] len (fun q s6 s18 wx => ∃ i : Nat, i + q = len ∧ s18 = .int .i64 i ∧ Hid (∀ j, j < i → ∀ f, L[j]? = some f → crB v f = false) ∧ Hid (Below w4.heap.size w4 wx))
      case atStart => exact ⟨0, by omega, rfl, Lib.hid (fun j hj => by omega), Lib.hid (Below.refl _ _)⟩
      case round =>
        obtain ⟨i, hiq, rfl, HJ, HB⟩ := hrel
        by_cases hlt : i < len
        · obtain ⟨q, rfl⟩ : ∃ q, gk = q + 1 := ⟨gk - 1, by omega⟩
          have hiz : (i : Int) < (len : Int) := by omega
          obtain ⟨f, hf⟩ : ∃ f, L[i]? = some f := ⟨_, List.getElem?_eq_getElem (by rw [← HL.out]; exact hlt)⟩
          obtain ⟨bq, off, rfl, hbl, d0', d1', d2'⟩ := HGET.out i f hf
          have d0 := (HB.out.cell (p := ⟨bq, off + i * 3, none⟩) hbl).trans d0'
          have d1 := (HB.out.cell (p := ⟨bq, off + i * 3 + 1, none⟩) hbl).trans d1'
          have d2 := (HB.out.cell (p := ⟨bq, off + i * 3 + 2, none⟩) hbl).trans d2'
          have HF := Lib.hid hf
          have hcr := Lib.hid (show crB v f = (decide (f.tag = 12) && !hasB v f.tag) from rfl)
          obtain ⟨t, bis, tx⟩ := f
          simp only at d0 d1 d2 hcr
          obtain ⟨X, hX⟩ : ∃ X : ByteArray, X = ⟨tx.toArray⟩ := ⟨_, rfl⟩
          rw [← hX] at d2
          have hic := fun (W : World) => isCritical_any t W
          have hhs := fun (W : World) => has_any v t W
          clear hf d0' d1' d2' hX hbl
          have HB2 := Lib.hid (HB.out.alloc HB.out.size (.cells #[.int .u64 t, .bool bis, .string X] 106))
          have next : crB v ⟨t, bis, tx⟩ = false → ∀ j, j < i + 1 → ∀ f, L[j]? = some f → crB v f = false := fun h j hj y hy => by
            by_cases hji : j = i
            · subst hji
              rw [HF.out] at hy
              injection hy with hy
              rw [← hy]
              exact h
            · exact HJ.out j (by omega) y hy
          by_cases h12 : t = 12
          · rw [decide_eq_true h12] at hic hcr
            have HIC := Lib.hid hic
            cases hh : hasB v t with
            | true =>
              rw [hh] at hhs hcr
              have HHS := Lib.hid hhs
              have HN := Lib.hid (next (by rw [hcr.out]; rfl))
              clear next hcr hic hhs hh h12
              go_wp2_with (first
                | (go_at_call 48; refine (HIC.out _).mono ?_; rintro e w5 ⟨rfl, rfl⟩)
                | (go_at_call 49; refine (HHS.out _).mono ?_; rintro e w5 ⟨rfl, rfl⟩))
              go_roundg q
              case measure => omega
              case rel => exact ⟨i + 1, by omega, by simp, HN, HB2⟩
            | false =>
              rw [hh] at hhs hcr
              have HHS := Lib.hid hhs
              have hfin := Lib.hid (show (4 : Int) = E by rw [HE.out, any_true HF.out (by rw [hcr.out]; rfl)]; rfl)
              clear next hcr hic hhs hh h12
              go_wp2_with (first
                | (go_at_call 48; refine (HIC.out _).mono ?_; rintro e w5 ⟨rfl, rfl⟩)
                | (go_at_call 49; refine (HHS.out _).mono ?_; rintro e w5 ⟨rfl, rfl⟩))
              go_ret
              exact ⟨ret_int hfin.out, B4.out.trans (HB2.out.mono B4.out.size)⟩
          · rw [decide_eq_false h12] at hic hcr
            have HIC := Lib.hid hic
            have HN := Lib.hid (next (by rw [hcr.out]; rfl))
            clear next hcr hic hhs h12
            go_wp2_with (go_at_call 48; refine (HIC.out _).mono ?_; rintro e w5 ⟨rfl, rfl⟩)
            go_roundg q
            case measure => omega
            case rel => exact ⟨i + 1, by omega, by simp, HN, HB2⟩
        · have hiz : ¬ (i : Int) < (len : Int) := by omega
          have hfin := Lib.hid (show (0 : Int) = E by rw [HE.out, any_noneM HJ.out (by rw [← HL.out]; omega)]; rfl)
          go_wp2_with fail
          go_ret
          exact ⟨ret_int hfin.out, B4.out.trans (HB.out.mono B4.out.size)⟩

set_option maxHeartbeats 4000000 in
theorem encOK : EncOK := fun v m sl w hv hf hw hws => by
  have hrf := fun (W : World) (hW : WsAt W sl m.ws) => refusal_any v m sl hf hw W hW
  obtain ⟨C, hC⟩ : ∃ C, C = m.cells sl := ⟨_, rfl⟩
  have HC : CellsOf C m sl := ⟨hC⟩
  have HSZ := Lib.hid (show (Try.prog.info? 38).map (·.size) = some C.size by rw [HC.size]; exact msg_size)
  rw [← hC] at hrf ⊢
  have HWS := Lib.hid hws
  have HROW := Lib.hid (heap_alloc_new w (.cells C 38))
  have HB1 := Lib.hid (show Below w.heap.size w (w.alloc (.cells C 38)) from (Below.refl _ _).alloc (Nat.le_refl _) _)
  have HZ1 := Lib.hid (show w.heap.size < (w.alloc (.cells C 38)).heap.size by simp)
  by_cases h0 : (projB v m).2 = 0
  · have he : encB v m = (msgB m (lastOfM v), 0) := by unfold encB; rw [if_pos h0]
    rw [he]
    have hi := enc_is (v := v) (m := m) (by rw [he])
    have hk : 1 ≤ m.kind ∧ m.kind ≤ 9 := of_decide_eq_true (right_partsM hi.2.1).2.1
    have hbo := fun (W : World) (hW : WsAt W sl m.ws) => mbytesOf_any v hi.1 m sl ⟨by omega, by omega⟩ (right_partsM hi.2.1).1 hf hw W hW
    rw [← hC] at hbo
    rw [h0] at hrf
    have HRF := Lib.hid hrf
    have HBO := Lib.hid hbo
    obtain ⟨MB, hMB⟩ : ∃ MB, MB = msgB m (lastOfM v) := ⟨_, rfl⟩
    rw [← hMB] at HBO ⊢
    clear hws hrf hbo hC HC he hi hk h0 hMB hv hf hw
    go_enter Try.func21, Try.ntmps21
    go_wp2_with (first
      | (refine wpList_load_row_w rfl 38 _ rfl w.heap.size rfl 38 C (0, 0) _ HROW.out Try.underlying38 rfl HSZ.out ?_)
      | (refine wpList_load_row_w rfl 38 _ rfl w.heap.size rfl 38 C (0, 0) _ HROW2.out Try.underlying38 rfl HSZ.out ?_)
      | (go_at_call 34; refine (HRF.out _ (HWS.out.below HB1.out)).mono ?_; rintro e w2 ⟨rfl, hb2⟩; have HROW2 := Lib.hid ((hb2.block w.heap.size HZ1.out).trans HROW.out); have B2 := Lib.hid (HB1.out.trans (hb2.mono HB1.out.size)); have HB3 := Lib.hid (HBO.out w2 (HWS.out.below B2.out)); clear hb2 HROW)
      | (go_at_call 35; refine HB3.out.mono ?_; rintro e w3 ⟨rfl, hb3⟩))
    go_ret2
    exact ⟨rfl, B2.out.trans (hb3.mono B2.out.size)⟩
  · have he : encB v m = ([], (projB v m).2) := by unfold encB; rw [if_neg h0]
    rw [he]
    obtain ⟨E, hE⟩ : ∃ E, E = (projB v m).2 := ⟨_, rfl⟩
    rw [← hE] at hrf h0 ⊢
    have hne : (E != 0) = true := by rw [bne_iff_ne]; exact h0
    have HRF := Lib.hid hrf
    clear hws hrf hC HC he h0 hE hv hf hw
    go_enter Try.func21, Try.ntmps21
    go_wp2_with (first
      | (refine wpList_load_row_w rfl 38 _ rfl w.heap.size rfl 38 C (0, 0) _ HROW.out Try.underlying38 rfl HSZ.out ?_)
      | (go_at_call 34; refine (HRF.out _ (HWS.out.below HB1.out)).mono ?_; rintro e w2 ⟨rfl, hb2⟩))
    go_ret2
    exact ⟨rfl, HB1.out.trans (hb2.mono HB1.out.size)⟩
end Go.Proofs.Ytbhlgceicfjncaa
