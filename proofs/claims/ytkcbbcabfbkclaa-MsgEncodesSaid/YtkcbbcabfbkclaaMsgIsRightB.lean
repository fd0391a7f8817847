/-
  The walks of the program's textsLength, isShort, isRight.
-/
import Derived.Test.YtkcbbcabfbkclaaMsgIsRight
namespace Go.Proofs.Ytkcbbcabfbkclaa
open Go.RowKit
set_option linter.unusedVariables false
set_option linter.unnecessarySimpa false
set_option linter.unusedSimpArgs false
set_option maxRecDepth 100000

def wsN : List Wr → Nat
  | [] => 0
  | z :: l => z.key.size + z.val.size + wsN l
theorem wsN_append (l r : List Wr) : wsN (l ++ r) = wsN l + wsN r := by
  induction l with
  | nil => simp [wsN]
  | cons x l ih => rw [List.cons_append, wsN, wsN, ih]; omega
theorem wsN_take {l : List Wr} {i : Nat} {z : Wr} (h : l[i]? = some z) : wsN (l.take (i + 1)) = wsN (l.take i) + (z.key.size + z.val.size) := by
  rw [List.take_add_one, h, wsN_append]
  simp [wsN]
theorem wsN_le (l : List Wr) (h : ∀ z ∈ l, z.key.size ≤ 5000 ∧ z.val.size ≤ 5000) : wsN l ≤ 10000 * l.length := by
  induction l with
  | nil => simp [wsN]
  | cons x l ih =>
    have h1 := h x (by simp)
    have h2 := ih (fun z hz => h z (by simp [hz]))
    rw [wsN, List.length_cons]; omega
theorem wsN_wsB (l : List Wr) : wsN l ≤ (wsB l).length := by
  induction l with
  | nil => simp [wsN]
  | cons x l ih =>
    have e : wsB (x :: l) = wrB x ++ wsB l := rfl
    rw [e, wsN, List.length_append]
    simp only [wrB, txB, bl, List.length_append, List.length_cons, List.length_nil, ← Lib.size_eq]
    omega
def textsN (m : Mg) : Nat := m.key.size + m.val.size + m.note.size + wsN m.ws
theorem fldB_len {m : Mg} {t : Nat} (h1 : 1 ≤ t) (h2 : t ≤ 12) {n : Nat} (h : n ≤ (txt m t).length) (h0 : isT m t = false → n = 0) : n ≤ (fldB m t).length := by
  rw [fldB_is h1 h2]
  cases hi : isT m t with
  | false => rw [h0 hi]; exact Nat.zero_le _
  | true =>
    simp only [if_true]
    unfold encT
    rw [List.length_append, List.length_append]
    omega
theorem textsN_le (m : Mg) : textsN m ≤ (msgB m 12).length := by
  have h6 : m.key.size ≤ (fldB m 6).length := fldB_len (by omega) (by omega) (by show _ ≤ m.key.data.toList.length; rw [← Lib.size_eq]; exact Nat.le_refl _) (fun h => by
    rw [← isT_6, toList_empty] at h; simpa using h)
  have h8 : m.val.size ≤ (fldB m 8).length := fldB_len (by omega) (by omega) (by show _ ≤ (ub m.time ++ bl m.gone ++ m.val.data.toList).length; rw [List.length_append, ← Lib.size_eq]; omega) (fun h => by
    rw [← isT_8] at h
    have h' : verZero m = true := by simpa using h
    unfold verZero at h'
    simp only [Bool.and_eq_true, beq_iff_eq] at h'
    exact h'.2)
  have h9 : wsN m.ws ≤ (fldB m 9).length := fldB_len (by omega) (by omega) (by show _ ≤ (ub m.ws.length ++ wsB m.ws).length; rw [List.length_append]; have := wsN_wsB m.ws; omega) (fun h => by
    rw [← isT_9] at h
    have : m.ws = [] := by simpa using h
    rw [this]; rfl)
  have h10 : m.note.size ≤ (fldB m 10).length := fldB_len (by omega) (by omega) (by show _ ≤ m.note.data.toList.length; rw [← Lib.size_eq]; exact Nat.le_refl _) (fun h => by
    rw [← isT_10, toList_empty] at h; simpa using h)
  have e : fldsB m 12 = [] ++ fldB m 1 ++ fldB m 2 ++ fldB m 3 ++ fldB m 4 ++ fldB m 5 ++ fldB m 6 ++ fldB m 7 ++ fldB m 8 ++ fldB m 9 ++ fldB m 10 ++ fldB m 11 ++ fldB m 12 := rfl
  unfold textsN msgB
  rw [e]
  simp only [List.length_append]
  omega

set_option maxHeartbeats 4000000 in
theorem textsLength_any (m : Mg) (sl : Value) (hw : m.few) (w : World) (hws : WsAt w sl m.ws) : Calls Try.prog 77 #[.agg (m.cells sl)] w fun e w' => e = .returned (.int .i64 (textsN m : Nat)) ∧ Below w.heap.size w w' := by
  obtain ⟨C, hC⟩ : ∃ C, C = m.cells sl := ⟨_, rfl⟩
  have HC : CellsOf C m sl := ⟨hC⟩
  rw [← hC]
  have h8 := HC.at8
  have h12 := HC.at12
  have h13 := HC.at13
  have h14 := HC.at14
  obtain ⟨p, cap, rfl, hget⟩ := hws.get
  have HG := Lib.hid hget
  have HT := Lib.hid (show textsN m = m.key.size + m.val.size + m.note.size + wsN m.ws from rfl)
  obtain ⟨N, hN⟩ : ∃ N, N = textsN m := ⟨_, rfl⟩
  have b1 := hw.key
  have b2 := hw.val
  have b3 := hw.note
  have b4 := hw.ws
  have HA := Lib.hid hw.all
  rw [← hN] at HT ⊢
  clear HC hC hN hget hws hw
  obtain ⟨kind, frm, to_, node, life, seq, a, b, key, found, time, gone, val, ws, note, hint, must⟩ := m
  simp only at h8 h12 h13 h14 HG HT b1 b2 b3 b4 HA
  obtain ⟨len, hlen⟩ : ∃ len, len = ws.length := ⟨_, rfl⟩
  have HL := Lib.hid hlen
  rw [← hlen] at h13 b4
  clear hlen
  go_enter Try.func77, Try.ntmps77
  go_upto_region 1 with fail
  obtain ⟨G, hG⟩ : ∃ G, G = w.heap.size := ⟨_, rfl⟩
  obtain ⟨W1, hW1⟩ : ∃ W1, W1 = w.alloc (.cells C 29) := ⟨_, rfl⟩
  have hrow : W1.heap[G]? = some (.cells C 29 (0, 0)) := by rw [hW1, hG]; exact heap_alloc_new w _
  have HB1 := Lib.hid (show Below w.heap.size w W1 by rw [hW1]; exact (Below.refl _ _).alloc (Nat.le_refl _) _)
  rw [← hW1, ← hG]
  have c8 := cell_row hrow h8
  have c12 := cell_row hrow h12
  have c13 := cell_row hrow h13
  have c14 := cell_row hrow h14
  clear hW1 hG hrow h8 h12 h13 h14
  go_wp2_with fail
  clear c8 c12 c13 c14
  obtain ⟨S0, hS0⟩ : ∃ S0 : Nat, S0 = key.size + val.size + note.size := ⟨_, rfl⟩
  have hS0z : (key.size : Int) + (val.size : Int) + (note.size : Int) = (S0 : Int) := by omega
  have hS0l : S0 ≤ 22000 := by omega
  have HS0 := Lib.hid hS0
  clear hS0
  go_loopg [3, 5, 21] len (fun q s3 s5 s21 wx => ∃ (i S : Nat), i + q = len ∧ s21 = .int .i64 i ∧ s3 = .int .i64 S ∧ Hid (S = S0 + wsN (ws.take i)) ∧ S ≤ 22000 + 10000 * i ∧ Hid (Below w.heap.size w wx))
  case atStart => exact ⟨0, S0, by omega, rfl, by rw [hS0z], Lib.hid (by simp [wsN]), by omega, HB1⟩
  case round =>
    obtain ⟨i, S, hiq, rfl, rfl, hS, hSl, HB⟩ := hrel
    clear hS0z
    by_cases hlt : i < len
    · obtain ⟨q, rfl⟩ : ∃ q, gk = q + 1 := ⟨gk - 1, by omega⟩
      have hiz : (i : Int) < (len : Int) := by omega
      obtain ⟨z, hz⟩ : ∃ z, ws[i]? = some z := ⟨_, List.getElem?_eq_getElem (by rw [← HL.out]; exact hlt)⟩
      obtain ⟨bq, off, rfl, hbl, d0', d1', d2'⟩ := HG.out i z hz
      have d0 := (HB.out.cell (p := ⟨bq, off + i * 3, none⟩) hbl).trans d0'
      have d1 := (HB.out.cell (p := ⟨bq, off + i * 3 + 1, none⟩) hbl).trans d1'
      have d2 := (HB.out.cell (p := ⟨bq, off + i * 3 + 2, none⟩) hbl).trans d2'
      have hup := wsN_take hz
      have hzb := HA.out z (List.mem_of_getElem? hz)
      obtain ⟨zk, zg, zv⟩ := z
      simp only at d0 d1 d2 hup hzb
      have z1 := hzb.1
      have z2 := hzb.2
      have hS2 := Lib.hid (show S + (zk.size + zv.size) = S0 + wsN (ws.take (i + 1)) by rw [hup, hS.out]; omega)
      have hSl2 : S + (zk.size + zv.size) ≤ 22000 + 10000 * (i + 1) := by omega
      have HB2 := Lib.hid (HB.out.alloc HB.out.size (.cells #[.string zk, .bool zg, .string zv] 56))
      have hS6 : S ≤ 300000 := by omega
      clear hz d0' d1' d2' hup hbl hzb
      go_wp2_with fail
      go_roundg q
      case measure => omega
      case rel => exact ⟨i + 1, S + (zk.size + zv.size), by omega, by simp, by simp, hS2, hSl2, HB2⟩
    · have hiz : ¬ (i : Int) < (len : Int) := by omega
      have hfin := Lib.hid (show S = N by rw [HT.out, hS.out, HS0.out, List.take_of_length_le (by rw [← HL.out]; omega)])
      go_wp2_with fail
      go_ret
      exact ⟨ret_int (by rw [hfin.out]), HB.out⟩

set_option maxHeartbeats 4000000 in
theorem isShort_any (m : Mg) (sl : Value) (hk : 0 ≤ m.kind ∧ m.kind ≤ 9) (hn : nums31 m = true) (hf : m.fits) (hw : m.few) (w : World) (hws : WsAt w sl m.ws) :
    Calls Try.prog 67 #[.agg (m.cells sl)] w fun e w' => e = .returned (.bool (decide (m.ws.length ≤ 8) && decide ((msgB m 12).length ≤ 4000))) ∧ Below w.heap.size w w' := by
  have hbo := fun (W : World) (hW : WsAt W sl m.ws) => bytesOf_any 3 (by decide) m sl hk hn hf hw W hW
  rw [show lastOf 3 = 12 from rfl] at hbo
  have htl := fun (W : World) (hW : WsAt W sl m.ws) => textsLength_any m sl hw W hW
  have hle := textsN_le m
  have hmax : (msgB m 12).length ≤ 3000000 := by
    have e : msgB m 12 = ub m.kind.toNat ++ (fldsL m).flatMap (encF 12) := by unfold msgB; rw [flds_flat (.inr (.inr rfl))]
    rw [e, List.length_append]
    have u := ub_len10 (n := m.kind.toNat) (by omega)
    have : ∀ (l : List F3), (∀ f ∈ l, f.text.length ≤ 210000 ∧ f.tag ≤ 12) → (l.flatMap (encF 12)).length ≤ 210020 * l.length := by
      intro l
      induction l with
      | nil => intro _; simp
      | cons x l ih =>
        intro h
        have h1 := h x (by simp)
        have h2 := ih (fun f hf => h f (by simp [hf]))
        rw [List.flatMap_cons, List.length_append, List.length_cons]
        have : (encF 12 x).length ≤ 210020 := by
          unfold encF encT
          rw [if_pos h1.2, List.length_append, List.length_append]
          have u1 := ub_len10 (n := headT x.tag) (by unfold headT; split <;> omega)
          have u2 := ub_len10 (n := x.text.length) (by omega)
          omega
        omega
    have h3 := this (fldsL m) (fun f h => by
      have h1 := fldsL_mem h
      refine ⟨?_, h1.2.2.1⟩
      rw [h1.2.2.2]
      exact txt_len hn hf hw f.tag)
    have := fldsL_len m
    omega
  obtain ⟨MB, hMB⟩ : ∃ MB, MB = msgB m 12 := ⟨_, rfl⟩
  obtain ⟨TN, hTN⟩ : ∃ TN, TN = textsN m := ⟨_, rfl⟩
  obtain ⟨C, hC⟩ : ∃ C, C = m.cells sl := ⟨_, rfl⟩
  have HC : CellsOf C m sl := ⟨hC⟩
  rw [← hMB, ← hTN] at hle
  rw [← hMB] at hbo hmax ⊢
  rw [← hTN] at htl
  rw [← hC] at hbo htl ⊢
  have h13 := HC.at13
  have HSZ := Lib.hid (show (Try.prog.info? 29).map (·.size) = some C.size by rw [HC.size]; exact msg_size)
  obtain ⟨X, hX⟩ : ∃ X : ByteArray, X = ⟨MB.toArray⟩ := ⟨_, rfl⟩
  have hXs : X.size = MB.length := by rw [hX]; exact List.size_toArray
  rw [← hX] at hbo
  have HBO := Lib.hid hbo
  have HTL := Lib.hid htl
  have HWS := Lib.hid hws
  obtain ⟨len, hlen⟩ : ∃ len, len = m.ws.length := ⟨_, rfl⟩
  obtain ⟨p, cap, rfl, _⟩ := hws.get
  have hl20 := hw.ws
  rw [← hlen] at hl20 h13 ⊢
  clear hbo htl HC hC hMB hTN hX hlen hws hk hn hf hw
  go_enter Try.func67, Try.ntmps67
  go_upto_region 1 with fail
  obtain ⟨G, hG⟩ : ∃ G, G = w.heap.size := ⟨_, rfl⟩
  obtain ⟨W1, hW1⟩ : ∃ W1, W1 = w.alloc (.cells C 29) := ⟨_, rfl⟩
  have hrow : W1.heap[G]? = some (.cells C 29 (0, 0)) := by rw [hW1, hG]; exact heap_alloc_new w _
  have HB1 := Lib.hid (show Below w.heap.size w W1 by rw [hW1]; exact (Below.refl _ _).alloc (Nat.le_refl _) _)
  rw [← hW1, ← hG]
  have c13 := cell_row hrow h13
  have HROW := Lib.hid hrow
  have HTW := HTL.out W1 (HWS.out.below HB1.out)
  have HTL1 := Lib.hid HTW
  clear hW1 hG h13 HTL HTW hrow
  by_cases hb1 : len ≤ 8
  · have e1 : decide ((len : Int) ≤ 8) = true := decide_eq_true (by omega)
    by_cases hb2 : TN ≤ 4000
    · have e2 : decide ((TN : Int) ≤ 4000) = true := decide_eq_true (by omega)
      have hfin := Lib.hid (show decide ((X.size : Int) ≤ 4000) = (decide (len ≤ 8) && decide (MB.length ≤ 4000)) by
        rw [decide_eq_true hb1, Bool.true_and, hXs, Bool.eq_iff_iff, decide_eq_true_eq, decide_eq_true_eq]; omega)
      have hXl : X.size ≤ 3000000 := by omega
      clear hb1 hb2 hle hmax hXs
      go_wp2_with (first
        | (refine wpList_load_row_w rfl 29 _ rfl G rfl 29 C (0, 0) _ HROW.out Try.underlying29 rfl HSZ.out ?_)
        | (refine wpList_load_row_w rfl 29 _ rfl G rfl 29 C (0, 0) _ HROW2.out Try.underlying29 rfl HSZ.out ?_)
        | (go_at_call 77; refine HTL1.out.mono ?_; rintro e w2 ⟨rfl, hb2⟩; have B2 := Lib.hid (HB1.out.trans (hb2.mono HB1.out.size)); have HROW2 := Lib.hid ((hb2.block G (Array.getElem?_eq_some_iff.1 HROW.out).1).trans HROW.out); have HBO2 := Lib.hid (HBO.out w2 (HWS.out.below B2.out)); clear hb2 HROW c13)
        | (go_at_call 20; refine HBO2.out.mono ?_; rintro e w3 ⟨rfl, hb3⟩))
      go_ret
      exact ⟨ret_bool hfin.out, B2.out.trans (hb3.mono B2.out.size)⟩
    · have e2 : decide ((TN : Int) ≤ 4000) = false := decide_eq_false (by omega)
      have hfin := Lib.hid (show false = (decide (len ≤ 8) && decide (MB.length ≤ 4000)) by
        rw [decide_eq_false (show ¬ MB.length ≤ 4000 by omega), Bool.and_false])
      clear hb1 hb2 hle hmax hXs
      go_wp2_with (first
        | (refine wpList_load_row_w rfl 29 _ rfl G rfl 29 C (0, 0) _ HROW.out Try.underlying29 rfl HSZ.out ?_)
        | (go_at_call 77; refine HTL1.out.mono ?_; rintro e w2 ⟨rfl, hb2⟩))
      go_ret
      exact ⟨ret_bool hfin.out, HB1.out.trans (hb2.mono HB1.out.size)⟩
  · have e1 : decide ((len : Int) ≤ 8) = false := decide_eq_false (by omega)
    have hfin := Lib.hid (show false = (decide (len ≤ 8) && decide (MB.length ≤ 4000)) by rw [decide_eq_false hb1, Bool.false_and])
    clear hb1 hle hmax hXs
    go_wp2_with fail
    go_ret
    exact ⟨ret_bool hfin.out, HB1.out⟩
end Go.Proofs.Ytkcbbcabfbkclaa
