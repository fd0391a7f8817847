/-
  Joined: MsgBytesOf, MsgIsRight.
-/
import Derived.Test.YtbhlgceicfjncaaSet34
namespace Go.Proofs.Ytbhlgceicfjncaa
open Go.RowKit
set_option linter.unusedVariables false
set_option linter.unnecessarySimpa false
set_option linter.unusedSimpArgs false
set_option maxRecDepth 100000

theorem txt_len {m : Mg} (hn : nums31 m = true) (hf : m.fits) (hw : m.few) (t : Nat) : (txt m t).length ≤ 210000 := by
  unfold nums31 in31 at hn
  simp only [Bool.and_eq_true, decide_eq_true_eq] at hn
  obtain ⟨⟨⟨⟨n1, n2⟩, n3⟩, n4⟩, n5⟩ := hn
  have u : ∀ n : Nat, n < 18446744073709551616 → (ub n).length ≤ 210000 := fun n h => by have := ub_len10 h; omega
  match t with
  | 0 => show ([] : List UInt8).length ≤ _; simp
  | 1 => exact u _ (by omega)
  | 2 => exact u _ (by omega)
  | 3 =>
    show (ub m.node.toNat ++ ub m.life.toNat ++ ub m.seq.toNat).length ≤ _
    have u1 := ub_len10 (n := m.node.toNat) (by omega)
    have u2 := ub_len10 (n := m.life.toNat) (by omega)
    have u3 := ub_len10 (n := m.seq.toNat) (by omega)
    rw [List.length_append, List.length_append]; omega
  | 4 => exact u _ hf.a
  | 5 => exact u _ hf.b
  | 6 => show m.key.data.toList.length ≤ _; rw [← Lib.size_eq]; have := hw.key; omega
  | 7 => show ([] : List UInt8).length ≤ _; simp
  | 8 =>
    show (ub m.time ++ bl m.gone ++ m.val.data.toList).length ≤ _
    have u1 := ub_len10 hf.time
    have := hw.val
    rw [List.length_append, List.length_append, ← Lib.size_eq]
    have : (bl m.gone).length = 1 := rfl
    omega
  | 9 =>
    show (ub m.ws.length ++ wsB m.ws).length ≤ _
    have h1 := hw.ws
    have u1 := ub_len10 (n := m.ws.length) (by omega)
    have := wsB_len m.ws hw.all
    rw [List.length_append]; omega
  | 10 => show m.note.data.toList.length ≤ _; rw [← Lib.size_eq]; have := hw.note; omega
  | 11 => exact u _ hf.hint
  | 12 => exact u _ hf.must
  | k + 13 => show ([] : List UInt8).length ≤ _; simp
theorem flat_step (l : List F3) (last : Nat) {i : Nat} {f : F3} (h : l[i]? = some f) : (l.take (i + 1)).flatMap (encF last) = (l.take i).flatMap (encF last) ++ encF last f := by
  rw [List.take_add_one, h, List.flatMap_append]
  simp
/-- A text's bytes under one name. -/
theorem text_is (l : List UInt8) (hl : l.length ≤ 300000) : ∃ T : ByteArray, T.data.toList = ub l.length ++ l ∧ T.size ≤ l.length + 10 ∧ ∀ W, Calls Try.prog 52 #[.string ⟨l.toArray⟩] W fun e w' => e = .returned (.string T) ∧ Below W.heap.size W w' := by
  have hz : (⟨l.toArray⟩ : ByteArray).size = l.length := List.size_toArray
  refine ⟨⟨(ub l.length ++ l).toArray⟩, rfl, ?_, fun W => ?_⟩
  · show (ub l.length ++ l).toArray.size ≤ _
    rw [List.size_toArray, List.length_append]
    have := ub_len10 (n := l.length) (by omega)
    omega
  · have := text_any ⟨l.toArray⟩ (by rw [hz]; omega) W
    rw [hz] at this
    exact this
theorem uint_is (n : Nat) (hn : n < 18446744073709551616) : ∃ U : ByteArray, U.data.toList = ub n ∧ U.size ≤ 10 ∧ ∀ W, Calls Try.prog 50 #[.int .u64 n] W fun e w' => e = .returned (.string U) ∧ Below W.heap.size W w' :=
  ⟨⟨(ub n).toArray⟩, rfl, by show (ub n).toArray.size ≤ 10; rw [List.size_toArray]; exact ub_len10 hn, fun W => uint_any n hn W⟩
/-- A field out of a slice of fields. -/
theorem FldsAt.get {W : World} {v : Value} {l : List F3} (h : FldsAt W v l) : ∃ a cap, v = .slice a l.length cap ∧ ∀ i f, l[i]? = some f → ∃ b off, a = some ⟨b, off, none⟩ ∧ b < W.heap.size ∧
    W.cell? ⟨b, off + i * 3, none⟩ = some (.int .u64 f.tag) ∧ W.cell? ⟨b, off + i * 3 + 1, none⟩ = some (.bool f.is) ∧ W.cell? ⟨b, off + i * 3 + 2, none⟩ = some (.string ⟨f.text.toArray⟩) := by
  obtain ⟨a, len, cap, h1, h2, h3⟩ := h
  subst h2
  refine ⟨a, cap, h1, fun i f hf => ?_⟩
  have hi : i < l.length := (List.getElem?_eq_some_iff.1 hf).1
  have := h3 i hi
  rw [show l.getD i default = f by simp [List.getD, hf]] at this
  exact this

/-- Blocks between two bounds stay as they were, and are not the row's. -/
def Aside2 (lo hi : Nat) (w3 wx : World) (v : Value) : Prop := (∀ k, lo ≤ k → k < hi → wx.heap[k]? = w3.heap[k]? ∧ v.ownBlock ≠ some k) ∧ hi ≤ wx.heap.size
theorem Aside2.below {lo hi : Nat} {w3 wx w' : World} {v : Value} (h : Aside2 lo hi w3 wx v) (hb : Below wx.heap.size wx w') : Aside2 lo hi w3 w' v :=
  ⟨fun k h1 h2 => ⟨(hb.block k (Nat.lt_of_lt_of_le h2 h.2)).trans (h.1 k h1 h2).1, (h.1 k h1 h2).2⟩, Nat.le_trans h.2 hb.size⟩
theorem Aside2.grown {lo hi : Nat} {w3 wx w' : World} {v v' : Value} (h : Aside2 lo hi w3 wx v) (hg : wx.grownBy w' v.ownBlock) (hat : ∀ g, g < wx.heap.size → v.ownBlock ≠ some g → v'.ownBlock ≠ some g) : Aside2 lo hi w3 w' v' :=
  ⟨fun k h1 h2 => ⟨(hg.block k (Nat.lt_of_lt_of_le h2 h.2) (fun e => (h.1 k h1 h2).2 e.symm)).trans (h.1 k h1 h2).1, hat k (Nat.lt_of_lt_of_le h2 h.2) (h.1 k h1 h2).2⟩, Nat.le_trans h.2 hg.size⟩
theorem cell_same {w w' : World} {b : Nat} (h : w'.heap[b]? = w.heap[b]?) (o : Nat) : w'.cell? ⟨b, o, none⟩ = w.cell? ⟨b, o, none⟩ := by
  simp [World.cell?, h]

set_option maxHeartbeats 8000000 in
theorem mbytesOf_any (v : Int) (hv : ¬ lastOfM v = 0) (m : Mg) (sl : Value) (hk : 0 ≤ m.kind ∧ m.kind ≤ 9) (hn : nums31 m = true) (hf : m.fits) (hw : m.few) (w : World) (hws : WsAt w sl m.ws) :
    Calls Try.prog 35 #[.int .i64 v, .agg (m.cells sl)] w fun e w' => e = .returned (.string ⟨(msgB m (lastOfM v)).toArray⟩) ∧ Below w.heap.size w w' := by
  obtain ⟨i0, hi, hz0, hz1, hz2⟩ := info_parts u8info
  have hTX := txt_len hn hf hw
  have hFO := fun (W : World) (hW : WsAt W sl m.ws) => fieldsOf_any m sl hn hf hw W hW
  obtain ⟨K, hK⟩ : ∃ K : Nat, m.kind = K := ⟨m.kind.toNat, by omega⟩
  have hlast : lastOfM v = 9 ∨ lastOfM v = 10 ∨ lastOfM v = 12 := by
    unfold lastOfM at hv ⊢
    split
    · exact .inl rfl
    · split
      · exact .inr (.inl rfl)
      · split
        · exact .inr (.inr rfl)
        · rename_i h1 h2 h3; rw [if_neg h1, if_neg h2, if_neg h3] at hv; exact absurd rfl hv
  have hfin : msgB m (lastOfM v) = ub K ++ (fldsL m).flatMap (encF (lastOfM v)) := by
    unfold msgB
    rw [flds_flat hlast, hK]; rfl
  have hmem : ∀ (i : Nat) (f : F3), (fldsL m)[i]? = some f → 1 ≤ f.tag ∧ f.tag ≤ 12 ∧ f.text.length ≤ 210000 := fun i f h => by
    have h1 := fldsL_mem (List.mem_of_getElem? h)
    refine ⟨h1.2.1, h1.2.2.1, ?_⟩
    rw [h1.2.2.2]
    exact hTX f.tag
  have hlen := fldsL_len m
  have hhas : ∀ t, 1 ≤ t → hasB v t = decide (t ≤ lastOfM v) := fun t ht => hasB_is hv ht
  obtain ⟨last, elast⟩ : ∃ last, last = lastOfM v := ⟨_, rfl⟩
  obtain ⟨L, hL⟩ : ∃ L, L = fldsL m := ⟨_, rfl⟩
  obtain ⟨C, hC⟩ : ∃ C, C = m.cells sl := ⟨_, rfl⟩
  have hc0 : C[0]? = some (.int .i64 K) := by rw [hC]; unfold Mg.cells; simp [hK]
  have hcz : C.size = 17 := by rw [hC]; rfl
  rw [hfin]
  rw [← elast] at hhas ⊢
  rw [← hL] at hmem hlen ⊢
  unfold FldsOut at hFO
  rw [← hL, ← hC] at hFO
  rw [← hC]
  obtain ⟨U, hUd, hUs, hU⟩ := uint_is K (by omega)
  have HU := Lib.hid hU
  have HUD := Lib.hid hUd
  have HFO := Lib.hid hFO
  have HME := Lib.hid hmem
  have HHA := Lib.hid hhas
  have HWS := Lib.hid hws
  have hwk : IntKind.u64.wrap (K : Int) = (K : Int) := by simp [IntKind.wrap, IntKind.bits, IntKind.signed]; omega
  have HSZ := Lib.hid (show (Try.prog.info? 38).map (·.size) = some C.size by rw [hcz]; exact msg_size)
  clear hTX hFO hK hlast hfin hmem hhas elast hL hC hcz hUd hU hws hn hf hw hk hv
  go_enter Try.func35, Try.ntmps35
  go_upto_region 1 with fail
  obtain ⟨G, hG⟩ : ∃ G, G = w.heap.size := ⟨_, rfl⟩
  obtain ⟨W1, hW1⟩ : ∃ W1, W1 = w.alloc (.cells C 38) := ⟨_, rfl⟩
  have hrow : W1.heap[G]? = some (.cells C 38 (0, 0)) := by rw [hW1, hG]; exact heap_alloc_new w _
  have HB1 := Lib.hid (show Below w.heap.size w W1 by rw [hW1]; exact (Below.refl _ _).alloc (Nat.le_refl _) _)
  have hB1 := HB1.out.size
  rw [← hW1, ← hG]
  have c0 : W1.cell? ⟨G, 0, none⟩ = some (.int .i64 K) := by simp only [World.cell?, hrow]; exact hc0
  have HROW := Lib.hid hrow
  have HGL := Lib.hid (Array.getElem?_eq_some_iff.1 hrow).1
  clear hW1 hG hrow hc0
  go_upto_region 2 with (first
    | (go_at_call 50; refine (HU.out _).mono ?_; rintro e w1 ⟨rfl, hb1⟩)
    | (refine wpList_bytes_of rfl _ 9 91 5 rfl Try.underlying9 Try.underlying91 Try.underlying5 U rfl (by omega) w.heap.size (Nat.le_trans hB1 hb1.size) ?_))
  intro v2 w2 hown2 hb2
  have hown3 : OwnsM w2 w.heap.size 5 v2 (ub K ++ (L.take 0).flatMap (encF last)).length (Lib.byteCells (ub K ++ (L.take 0).flatMap (encF last))) := by
    have := ownM_app (l := []) (R := U) (r := ub K ++ (L.take 0).flatMap (encF last)) (by simpa [Lib.byteCells] using hown2) (by rw [HUD.out]; simp)
    simpa using this
  have hl0 : (ub K ++ (L.take 0).flatMap (encF last)).length ≤ 10 := by rw [show ub K ++ (L.take 0).flatMap (encF last) = U.data.toList by rw [HUD.out]; simp, ← Lib.size_eq]; exact hUs
  have hb12 := hb1.trans (hb2.mono hb1.size)
  have R2 := Lib.hid hown3
  have B2 := Lib.hid (HB1.out.trans (hb12.mono hB1))
  have hrow2 := (hb12.block G HGL.out).trans HROW.out
  have HROW2 := Lib.hid hrow2
  have hFOw := HFO.out w2 (HWS.out.below B2.out)
  have HF2 := Lib.hid hFOw
  have HL0 := Lib.hid hl0
  clear hown2 hown3 hb1 hb2 hb12 hl0 hrow2 hFOw HU HB1 hB1 c0 HROW HFO HWS
  go_wp2_with (first
    | (refine wpList_load_row_w rfl 38 _ rfl G rfl 38 C (0, 0) _ HROW2.out Try.underlying38 rfl HSZ.out ?_)
    | (go_at_call 47; refine HF2.out.mono ?_; rintro e w3 ⟨vf, rfl, hfl, hb3, hfr⟩; obtain ⟨af, capf, rfl, hget⟩ := hfl.get))
  have B3 := Lib.hid (B2.out.trans (hb3.mono B2.out.size))
  have R3 := Lib.hid (R2.out.below hb3)
  have HGET := Lib.hid hget
  have HFR := Lib.hid hfr
  have A3 := Lib.hid (show Aside2 w2.heap.size w3.heap.size w3 w3 v2 from ⟨fun k h1 h2 => ⟨rfl, fun e => by have := (R2.out.lt k e).2; omega⟩, Nat.le_refl _⟩)
  clear hfl hget hb3 R2 B2 HROW2 HF2 HSZ hfr
  obtain ⟨len, hlen2⟩ : ∃ len, len = L.length := ⟨_, rfl⟩
  have HL := Lib.hid hlen2
  rw [← hlen2] at hlen ⊢
  clear hlen2
  go_loopg [5, 7, 16] len (fun q s5 s7 s16 wx => ∃ (i : Nat) (out : List UInt8), i + q = len ∧ s16 = .int .i64 i ∧ Hid (out = ub K ++ (L.take i).flatMap (encF last)) ∧ out.length ≤ 10 + 210040 * i ∧ Hid (OwnsM wx w.heap.size 5 s5 out.length (Lib.byteCells out)) ∧ Hid (Aside2 w2.heap.size w3.heap.size w3 wx s5) ∧ Hid (Below w.heap.size w wx))
  case atStart => exact ⟨0, _, by omega, rfl, Lib.hid rfl, by have := HL0.out; omega, R3, A3, B3⟩
  case round =>
    obtain ⟨i, out, hiq, rfl, hO, hol, HR, H3, HB⟩ := hrel
    by_cases hlt : i < len
    · obtain ⟨q, rfl⟩ : ∃ q, gk = q + 1 := ⟨gk - 1, by omega⟩
      have hiz : (i : Int) < (len : Int) := by omega
      have hol2 := Lib.hid (Nat.le_trans hol (show 10 + 210040 * i ≤ 10 + 210040 * (i + 1) from Nat.add_le_add_left (Nat.mul_le_mul_left _ (Nat.le_succ i)) 10))
      obtain ⟨f, hf⟩ : ∃ f, L[i]? = some f := ⟨_, List.getElem?_eq_getElem (by rw [← HL.out]; exact hlt)⟩
      obtain ⟨bq, off, rfl, hbl, d0', d1', d2'⟩ := HGET.out i f hf
      have hm := HME.out i f hf
      have hup := flat_step L last hf
      have hbq := (H3.out.1 bq (HFR.out bq rfl) hbl).1
      have d0 := (cell_same hbq (off + i * 3)).trans d0'
      have d1 := (cell_same hbq (off + i * 3 + 1)).trans d1'
      have d2 := (cell_same hbq (off + i * 3 + 2)).trans d2'
      obtain ⟨t, bis, tx⟩ := f
      simp only at d0 d1 d2 hm
      obtain ⟨ht1, ht12, htx⟩ := hm
      have hhb0 := fun (W : World) => has_any v t W
      have hhb := HHA.out t ht1
      have HUP := Lib.hid hup
      obtain ⟨X, hX⟩ : ∃ X : ByteArray, X = ⟨tx.toArray⟩ := ⟨_, rfl⟩
      obtain ⟨T, hTd, hTs, hT⟩ := text_is tx (by omega)
      rw [← hX] at d2 hT
      have HT := Lib.hid hT
      have HTD := Lib.hid hTd
      have HHO := Lib.hid (headOf_any t ht1 ht12)
      obtain ⟨V, hVd, hVs, hV⟩ := uint_is (headT t) (by unfold headT; split <;> omega)
      have HV := Lib.hid hV
      have HVD := Lib.hid hVd
      have hq6 : out.length ≤ 3000000 := by omega
      clear hf d0' d1' d2' hX hT hTd hV hVd hup hbq hbl
      obtain ⟨P7, hP7⟩ : ∃ P7, P7 = wr.heap.size := ⟨_, rfl⟩
      obtain ⟨W7, hW7⟩ : ∃ W7, W7 = wr.alloc (.cells #[.int .u64 t, .bool bis, .string X] 106) := ⟨_, rfl⟩
      have hrow : W7.heap[P7]? = some (.cells #[.int .u64 t, .bool bis, .string X] 106 (0, 0)) := by rw [hW7, hP7]; exact heap_alloc_new wr _
      have hbx : Below wr.heap.size wr W7 := by rw [hW7]; exact (Below.refl _ _).alloc (Nat.le_refl _) _
      have R7 := Lib.hid (HR.out.below hbx)
      have B7 := Lib.hid (HB.out.trans (hbx.mono HB.out.size))
      have A7 := Lib.hid (H3.out.below hbx)
      have NE7 := Lib.hid (show u5.ownBlock ≠ some P7 from fun e => by have := (HR.out.lt _ e).2; omega)
      have ROW7 := Lib.hid hrow
      go_upto_region 5 with fail
      rw [← hW7, ← hP7]
      have e0 : W7.cell? ⟨P7, 0, none⟩ = some (.int .u64 t) := by simp [World.cell?, ROW7.out]
      have hs7 := B7.out.size
      clear hW7 hP7 hrow hbx d0 d1 d2 HR HB H3
      by_cases hle : t ≤ last
      · rw [hhb, decide_eq_true hle] at hhb0
        have HHB := Lib.hid hhb0
        have HX := Lib.hid (show encF last ⟨t, bis, tx⟩ = ub (headT t) ++ (ub tx.length ++ tx) from if_pos hle)
        clear hhb hhb0 hle
        go_upto_region 7 with (first
          | (go_at_call 49; refine (HHB.out _).mono ?_; rintro e w4 ⟨rfl, rfl⟩)
          | (go_at_call 51; refine (HHO.out _).mono ?_; rintro e w4 ⟨rfl, rfl⟩)
          | (go_at_call 50; refine (HV.out _).mono ?_; rintro e w4 ⟨rfl, hb4⟩)
          | (at_builtin; refine wpList_append_stringM rfl _ _ 91 9 rfl w.heap.size 5 i0 Try.underlying91 Try.underlying9 hi hz0 hz1 hz2 _ out.length (Lib.byteCells out) rfl (R7.out.below hb4) V rfl (by unfold maxLen; omega) (by omega) (Nat.le_trans hs7 hb4.size) ?_))
        intro v5 w5 hown5 hg5 hat5
        have hs4 := Nat.le_trans hs7 hb4.size
        have hr4 := (hb4.block P7 (Array.getElem?_eq_some_iff.1 ROW7.out).1).trans ROW7.out
        have R5 := Lib.hid (ownM_app hown5 HVD.out)
        have B5 := Lib.hid (below_ownM hs4 (B7.out.trans (hb4.mono hs7)) (R7.out.below hb4) hg5)
        have A5 := Lib.hid ((A7.out.below hb4).grown hg5 hat5)
        have ROW5 := Lib.hid (block_grown hg5 hr4 NE7.out)
        have hs5 := B5.out.size
        have e2 : w5.cell? ⟨P7, 2, none⟩ = some (.string X) := by simp [World.cell?, ROW5.out]
        have hl5 : (out ++ ub (headT t)).length ≤ 3000010 := by rw [← len_app _ _ _ HVD.out]; omega
        obtain ⟨o5, ho5⟩ : ∃ o5, o5 = out ++ ub (headT t) := ⟨_, rfl⟩
        rw [← ho5] at R5 hl5
        have HO5 := Lib.hid ho5
        clear hown5 hg5 hat5 e0 hs7 R7 B7 A7 ROW7 NE7 ho5 HV HHO HHB hb4 hs4 hr4
        go_wp2_with (first
          | (go_at_call 52; refine (HT.out _).mono ?_; rintro e w6 ⟨rfl, hb6⟩)
          | (at_builtin; refine wpList_append_stringM rfl _ _ 91 9 rfl w.heap.size 5 i0 Try.underlying91 Try.underlying9 hi hz0 hz1 hz2 _ o5.length (Lib.byteCells o5) rfl (R5.out.below hb6) T rfl (by unfold maxLen; omega) (by omega) (Nat.le_trans hs5 hb6.size) ?_))
        intro v7 w7 hown7 hg7 hat7
        have hs6 := Nat.le_trans hs5 hb6.size
        have R8 := Lib.hid (ownM_app hown7 HTD.out)
        have B8 := Lib.hid (below_ownM hs6 (B5.out.trans (hb6.mono hs5)) (R5.out.below hb6) hg7)
        have A8 := Lib.hid ((A5.out.below hb6).grown hg7 hat7)
        have hfin := Lib.hid (show o5 ++ (ub tx.length ++ tx) = ub K ++ (L.take (i + 1)).flatMap (encF last) by rw [HUP.out, HX.out, HO5.out, hO.out]; simp only [List.append_assoc])
        have hln := Lib.hid (show (o5 ++ (ub tx.length ++ tx)).length ≤ 10 + 210040 * (i + 1) by
          rw [← len_app _ _ _ HTD.out, HO5.out, ← len_app _ _ _ HVD.out]
          omega)
        clear hown7 hg7 hat7 e2 hs5 R5 B5 A5 ROW5 HT hb6 hs6 hl5
        go_wp2_with fail
        go_roundg q
        case measure => omega
        case rel => exact ⟨i + 1, _, by omega, by simp, hfin, hln.out, R8, A8, B8⟩
      · rw [hhb, decide_eq_false hle] at hhb0
        have HHB := Lib.hid hhb0
        have hfin := Lib.hid (show out = ub K ++ (L.take (i + 1)).flatMap (encF last) by rw [HUP.out, show encF last ⟨t, bis, tx⟩ = [] from if_neg hle, List.append_nil]; exact hO.out)
        clear hhb hhb0 hle
        go_wp2_with (go_at_call 49; refine (HHB.out _).mono ?_; rintro e w4 ⟨rfl, rfl⟩)
        go_roundg q
        case measure => omega
        case rel => exact ⟨i + 1, out, by omega, by simp, hfin, hol2.out, R7, A7, B7⟩
    · obtain rfl : i = len := by omega
      have hiz : ¬ (i : Int) < (i : Int) := by omega
      have hfin := Lib.hid (show out = ub K ++ L.flatMap (encF last) by rw [hO.out, List.take_of_length_le (by rw [HL.out]; exact Nat.le_refl _)])
      have hcv := convert_rowM HR.out
      go_wp2_with fail
      go_ret
      exact ⟨ret_str hfin.out, HB.out⟩
end Go.Proofs.Ytbhlgceicfjncaa

namespace Go.Proofs.Ytbhlgceicfjncaa
open Go.RowKit
set_option linter.unusedVariables false
set_option linter.unnecessarySimpa false
set_option linter.unusedSimpArgs false
set_option maxRecDepth 100000

/-- A message's cells under one name. -/
structure CellsOf (C : Array Value) (m : Mg) (sl : Value) : Prop where
  is : C = m.cells sl
theorem CellsOf.size {C : Array Value} {m : Mg} {sl : Value} (h : CellsOf C m sl) : C.size = 17 := by rw [h.is]; rfl
theorem CellsOf.at0 {C : Array Value} {m : Mg} {sl : Value} (h : CellsOf C m sl) : C[0]? = some (.int .i64 m.kind) := by rw [h.is]; rfl
theorem CellsOf.at1 {C : Array Value} {m : Mg} {sl : Value} (h : CellsOf C m sl) : C[1]? = some (.int .i64 m.frm) := by rw [h.is]; rfl
theorem CellsOf.at2 {C : Array Value} {m : Mg} {sl : Value} (h : CellsOf C m sl) : C[2]? = some (.int .i64 m.to_) := by rw [h.is]; rfl
theorem CellsOf.at3 {C : Array Value} {m : Mg} {sl : Value} (h : CellsOf C m sl) : C[3]? = some (.int .i64 m.node) := by rw [h.is]; rfl
theorem CellsOf.at4 {C : Array Value} {m : Mg} {sl : Value} (h : CellsOf C m sl) : C[4]? = some (.int .i64 m.life) := by rw [h.is]; rfl
theorem CellsOf.at5 {C : Array Value} {m : Mg} {sl : Value} (h : CellsOf C m sl) : C[5]? = some (.int .i64 m.seq) := by rw [h.is]; rfl
theorem CellsOf.at8 {C : Array Value} {m : Mg} {sl : Value} (h : CellsOf C m sl) : C[8]? = some (.string m.key) := by rw [h.is]; rfl
theorem CellsOf.at11 {C : Array Value} {m : Mg} {sl : Value} (h : CellsOf C m sl) : C[11]? = some (.bool m.gone) := by rw [h.is]; rfl
theorem CellsOf.at12 {C : Array Value} {m : Mg} {sl : Value} (h : CellsOf C m sl) : C[12]? = some (.string m.val) := by rw [h.is]; rfl
theorem CellsOf.at13 {C : Array Value} {m : Mg} {sl : Value} (h : CellsOf C m sl) : C[13]? = some sl := by rw [h.is]; rfl
theorem CellsOf.at14 {C : Array Value} {m : Mg} {sl : Value} (h : CellsOf C m sl) : C[14]? = some (.string m.note) := by rw [h.is]; rfl
theorem cell_row {w : World} {g k : Nat} {C : Array Value} {t : TypeId} {fr : Nat × Nat} {v : Value} (h : w.heap[g]? = some (.cells C t fr)) (hc : C[k]? = some v) : w.cell? ⟨g, k, none⟩ = some v := by
  simp only [World.cell?, h]; exact hc

def numsL (m : Mg) : List Int := [m.frm, m.to_, m.node, m.life, m.seq]
theorem numsL_all (m : Mg) : (numsL m).all in31 = nums31 m := by
  unfold numsL nums31
  simp [Bool.and_assoc]
theorem all_false {l : List Int} {i : Nat} {z : Int} (h : l[i]? = some z) (hz : in31 z = false) : l.all in31 = false := by
  rw [List.all_eq_false]
  exact ⟨z, List.mem_of_getElem? h, by rw [hz]; decide⟩
theorem all_true {l : List Int} {i : Nat} (h : ∀ j, j < i → ∀ z, l[j]? = some z → in31 z = true) (hi : l.length ≤ i) : l.all in31 = true := by
  rw [List.all_eq_true]
  intro z hz
  obtain ⟨j, hj, e⟩ := List.getElem_of_mem hz
  exact h j (by omega) z (by rw [List.getElem?_eq_getElem hj, e])
theorem ret_bool {a b : Bool} (h : a = b) : Ending.returned (.bool a) = .returned (.bool b) := by rw [h]

set_option maxHeartbeats 4000000 in
theorem areNumbers_any (m : Mg) (sl : Value) (w : World) : Calls Try.prog 68 #[.agg (m.cells sl)] w fun e w' => e = .returned (.bool (nums31 m)) ∧ Below w.heap.size w w' := by
  obtain ⟨C, hC⟩ : ∃ C, C = m.cells sl := ⟨_, rfl⟩
  have HC : CellsOf C m sl := ⟨hC⟩
  have HA := Lib.hid (numsL_all m)
  obtain ⟨N, hN⟩ : ∃ N, N = nums31 m := ⟨_, rfl⟩
  rw [← hC, ← hN]
  rw [← hN] at HA
  have h1 := HC.at1
  have h2 := HC.at2
  have h3 := HC.at3
  have h4 := HC.at4
  have h5 := HC.at5
  unfold numsL at HA
  obtain ⟨kind, frm, to_, node, life, seq, a, b, key, found, time, gone, val, ws, note, hint, must⟩ := m
  simp only at h1 h2 h3 h4 h5 HA
  clear HC hC hN
  obtain ⟨ZS, hZS⟩ : ∃ ZS, ZS = [frm, to_, node, life, seq] := ⟨_, rfl⟩
  have hzl := Lib.hid (show ZS.length = 5 by rw [hZS]; rfl)
  have hcells := Lib.hid (show ∀ (i : Nat) z, ZS[i]? = some z → (#[.int .i64 frm, .int .i64 to_, .int .i64 node, .int .i64 life, .int .i64 seq] : Array Value)[i]? = some (.int .i64 z) from fun i z h => by
    rw [hZS] at h
    have : (#[.int .i64 frm, .int .i64 to_, .int .i64 node, .int .i64 life, .int .i64 seq] : Array Value) = ([frm, to_, node, life, seq].map (Value.int .i64)).toArray := rfl
    rw [this, List.getElem?_toArray, List.getElem?_map, h]; rfl)
  rw [← hZS] at HA
  clear hZS
  go_enter Try.func68, Try.ntmps68
  go_upto_region 1 with fail
  obtain ⟨G, hG⟩ : ∃ G, G = w.heap.size := ⟨_, rfl⟩
  obtain ⟨W1, hW1⟩ : ∃ W1, W1 = w.alloc (.cells C 38) := ⟨_, rfl⟩
  have hrow : W1.heap[G]? = some (.cells C 38 (0, 0)) := by rw [hW1, hG]; exact heap_alloc_new w _
  have HB1 := Lib.hid (show Below w.heap.size w W1 by rw [hW1]; exact (Below.refl _ _).alloc (Nat.le_refl _) _)
  rw [← hW1, ← hG]
  have c1 := cell_row hrow h1
  have c2 := cell_row hrow h2
  have c3 := cell_row hrow h3
  have c4 := cell_row hrow h4
  have c5 := cell_row hrow h5
  obtain ⟨P, hP⟩ : ∃ P, P = W1.heap.size := ⟨_, rfl⟩
  obtain ⟨W2, hW2⟩ : ∃ W2, W2 = W1.alloc (.cells #[.int .i64 frm, .int .i64 to_, .int .i64 node, .int .i64 life, .int .i64 seq] 3) := ⟨_, rfl⟩
  have HR2 := Lib.hid (show W2.heap[P]? = some (.cells #[.int .i64 frm, .int .i64 to_, .int .i64 node, .int .i64 life, .int .i64 seq] 3 (0, 0)) by rw [hW2, hP]; exact heap_alloc_new W1 _)
  have HB2 := Lib.hid (show Below w.heap.size w W2 by rw [hW2]; exact HB1.out.alloc HB1.out.size _)
  have HW2 := Lib.hid hW2
  have HP := Lib.hid hP
  clear hW1 hG hrow h1 h2 h3 h4 h5 hW2 hP
  go_wp2_with fail
  rw [← HW2.out, ← HP.out]
  clear c1 c2 c3 c4 c5 HW2 HP HB1
  go_loopg [4, 20] 5 (fun q s4 s20 wx => ∃ i : Nat, i + q = 5 ∧ s20 = .int .i64 i ∧ Hid (∀ j, j < i → ∀ z, ZS[j]? = some z → in31 z = true) ∧ wx = W2)
  case atStart => exact ⟨0, rfl, rfl, Lib.hid (fun j hj => by omega), rfl⟩
  case round =>
    obtain ⟨i, hiq, rfl, HJ, rfl⟩ := hrel
    by_cases hlt : i < 5
    · obtain ⟨q, rfl⟩ : ∃ q, gk = q + 1 := ⟨gk - 1, by omega⟩
      have hiz : (i : Int) < 5 := by omega
      obtain ⟨z, hz⟩ : ∃ z, ZS[i]? = some z := ⟨_, List.getElem?_eq_getElem (by rw [hzl.out]; exact hlt)⟩
      have c0 := cell_row HR2.out (hcells.out i z hz)
      have HZ := Lib.hid hz
      clear hz
      by_cases h1 : z < 0
      · have e1 : decide (z < 0) = true := decide_eq_true h1
        have hfin := Lib.hid (show false = N by rw [← HA.out]; exact (all_false HZ.out (by unfold in31; rw [decide_eq_false (by omega)])).symm)
        clear h1
        go_wp2_with fail
        go_ret
        exact ⟨ret_bool hfin.out, HB2.out⟩
      · have e1 : decide (z < 0) = false := decide_eq_false h1
        by_cases h2 : z ≤ 2147483647
        · have e2 : decide (2147483647 < z) = false := decide_eq_false (by omega)
          have hone := Lib.hid (show in31 z = true by unfold in31; rw [decide_eq_true (by omega)])
          clear h1 h2
          go_wp2_with fail
          go_roundg q
          case measure => omega
          case rel =>
            refine ⟨i + 1, by omega, by simp, Lib.hid (fun j hj y hy => ?_), rfl⟩
            by_cases hji : j = i
            · subst hji
              rw [HZ.out] at hy
              injection hy with hy
              rw [← hy]
              exact hone.out
            · exact HJ.out j (by omega) y hy
        · have e2 : decide (2147483647 < z) = true := decide_eq_true (by omega)
          have hfin := Lib.hid (show false = N by rw [← HA.out]; exact (all_false HZ.out (by unfold in31; rw [decide_eq_false (by omega)])).symm)
          clear h1 h2
          go_wp2_with fail
          go_ret
          exact ⟨ret_bool hfin.out, HB2.out⟩
    · have hiz : ¬ (i : Int) < 5 := by omega
      have hfin := Lib.hid (show true = N by rw [← HA.out]; exact (all_true HJ.out (by rw [hzl.out]; omega)).symm)
      go_wp2_with fail
      go_ret
      exact ⟨ret_bool hfin.out, HB2.out⟩

/-- A write out of a slice of writes. -/
theorem WsAt.get {W : World} {v : Value} {l : List Wr} (h : WsAt W v l) : ∃ a cap, v = .slice a l.length cap ∧ ∀ (i : Nat) (z : Wr), l[i]? = some z → ∃ b off, a = some ⟨b, off, none⟩ ∧ b < W.heap.size ∧
    W.cell? ⟨b, off + i * 3, none⟩ = some (.string z.key) ∧ W.cell? ⟨b, off + i * 3 + 1, none⟩ = some (.bool z.gone) ∧ W.cell? ⟨b, off + i * 3 + 2, none⟩ = some (.string z.val) := by
  obtain ⟨a, len, cap, h1, h2, h3⟩ := h
  subst h2
  refine ⟨a, cap, h1, fun i f hf => ?_⟩
  have hi : i < l.length := (List.getElem?_eq_some_iff.1 hf).1
  have := h3 i hi
  rw [show l.getD i wr0 = f by simp [List.getD, hf]] at this
  exact this
theorem ws_false {l : List Wr} {i : Nat} {z : Wr} (h : l[i]? = some z) (hz : wrOK z = false) : l.all wrOK = false := by
  rw [List.all_eq_false]
  exact ⟨z, List.mem_of_getElem? h, by rw [hz]; decide⟩
theorem ws_true {l : List Wr} {i : Nat} (h : ∀ j, j < i → ∀ z, l[j]? = some z → wrOK z = true) (hi : l.length ≤ i) : l.all wrOK = true := by
  rw [List.all_eq_true]
  intro z hz
  obtain ⟨j, hj, e⟩ := List.getElem_of_mem hz
  exact h j (by omega) z (by rw [List.getElem?_eq_getElem hj, e])
theorem str_empty {s : ByteArray} (h : s.size = 0) : s.toList.isEmpty = true := by rw [toList_empty]; exact decide_eq_true h
theorem str_full {s : ByteArray} (h : ¬ s.size = 0) : s.toList.isEmpty = false := by rw [toList_empty]; exact decide_eq_false h
theorem str_list {s : ByteArray} (h : s.size = 0) : s.toList = [] := by have := str_empty h; simpa using this

set_option maxHeartbeats 4000000 in
theorem isGoneRight_any (m : Mg) (sl : Value) (hl : m.ws.length ≤ 1000) (w : World) (hws : WsAt w sl m.ws) : Calls Try.prog 69 #[.agg (m.cells sl)] w fun e w' => e = .returned (.bool (m.ws.all wrOK && verOK m)) ∧ Below w.heap.size w w' := by
  obtain ⟨C, hC⟩ : ∃ C, C = m.cells sl := ⟨_, rfl⟩
  have HC : CellsOf C m sl := ⟨hC⟩
  rw [← hC]
  have h11 := HC.at11
  have h12 := HC.at12
  have h13 := HC.at13
  obtain ⟨p, cap, rfl, hget⟩ := hws.get
  have HG := Lib.hid hget
  have HV := Lib.hid (show verOK m = !(m.gone && m.val.size != 0) from rfl)
  obtain ⟨V, hV⟩ : ∃ V, V = verOK m := ⟨_, rfl⟩
  rw [← hV] at HV ⊢
  clear HC hC hV hget hws
  obtain ⟨kind, frm, to_, node, life, seq, a, b, key, found, time, gone, val, ws, note, hint, must⟩ := m
  simp only at h11 h12 h13 HG HV hl
  obtain ⟨len, hlen⟩ : ∃ len, len = ws.length := ⟨_, rfl⟩
  have HL := Lib.hid hlen
  show Calls _ _ _ w fun e w' => e = .returned (.bool (ws.all wrOK && V)) ∧ Below w.heap.size w w'
  rw [← hlen] at h13 hl
  clear hlen
  go_enter Try.func69, Try.ntmps69
  go_upto_region 1 with fail
  obtain ⟨G, hG⟩ : ∃ G, G = w.heap.size := ⟨_, rfl⟩
  obtain ⟨W1, hW1⟩ : ∃ W1, W1 = w.alloc (.cells C 38) := ⟨_, rfl⟩
  have hrow : W1.heap[G]? = some (.cells C 38 (0, 0)) := by rw [hW1, hG]; exact heap_alloc_new w _
  have HB1 := Lib.hid (show Below w.heap.size w W1 by rw [hW1]; exact (Below.refl _ _).alloc (Nat.le_refl _) _)
  rw [← hW1, ← hG]
  have c13 := cell_row hrow h13
  have HROW := Lib.hid hrow
  have HGL := Lib.hid (Array.getElem?_eq_some_iff.1 hrow).1
  have H11 := Lib.hid h11
  have H12 := Lib.hid h12
  clear hW1 hG hrow h11 h12 h13
  go_wp2_with fail
  clear c13
  go_loopg [4, 8] len (fun q s4 s8 wx => ∃ i : Nat, i + q = len ∧ s8 = .int .i64 i ∧ Hid (∀ j, j < i → ∀ z, ws[j]? = some z → wrOK z = true) ∧ Hid (Below W1.heap.size W1 wx))
  case atStart => exact ⟨0, by omega, rfl, Lib.hid (fun j hj => by omega), Lib.hid (Below.refl _ _)⟩
  case round =>
    obtain ⟨i, hiq, rfl, HJ, HB⟩ := hrel
    by_cases hlt : i < len
    · obtain ⟨q, rfl⟩ : ∃ q, gk = q + 1 := ⟨gk - 1, by omega⟩
      have hiz : (i : Int) < (len : Int) := by omega
      obtain ⟨z, hz⟩ : ∃ z, ws[i]? = some z := ⟨_, List.getElem?_eq_getElem (by rw [← HL.out]; exact hlt)⟩
      obtain ⟨bq, off, rfl, hbl, d0', d1', d2'⟩ := HG.out i z hz
      have hbw := HB1.out.trans (HB.out.mono HB1.out.size)
      have d0 := (hbw.cell (p := ⟨bq, off + i * 3, none⟩) hbl).trans d0'
      have d1 := (hbw.cell (p := ⟨bq, off + i * 3 + 1, none⟩) hbl).trans d1'
      have d2 := (hbw.cell (p := ⟨bq, off + i * 3 + 2, none⟩) hbl).trans d2'
      have HZ := Lib.hid hz
      have HW := Lib.hid hbw
      have hok := Lib.hid (show wrOK z = !(z.gone && z.val.size != 0) from rfl)
      obtain ⟨zk, zg, zv⟩ := z
      simp only at d0 d1 d2 hok
      clear hz d0' d1' d2' hbw hbl
      have HB2 := Lib.hid (HB.out.alloc HB.out.size (.cells #[.string zk, .bool zg, .string zv] 64))
      have HW2 := Lib.hid (HW.out.alloc HW.out.size (.cells #[.string zk, .bool zg, .string zv] 64))
      have next : wrOK ⟨zk, zg, zv⟩ = true → ∀ j, j < i + 1 → ∀ z, ws[j]? = some z → wrOK z = true := fun h j hj y hy => by
        by_cases hji : j = i
        · subst hji
          rw [HZ.out] at hy
          injection hy with hy
          rw [← hy]
          exact h
        · exact HJ.out j (by omega) y hy
      cases zg with
      | false =>
        have HN := Lib.hid (next (by rw [hok.out]; rfl))
        clear next hok
        go_wp2_with fail
        go_roundg q
        case measure => omega
        case rel => exact ⟨i + 1, by omega, by simp, HN, HB2⟩
      | true =>
        by_cases h0 : zv.size = 0
        · have HN := Lib.hid (next (by rw [hok.out, h0]; rfl))
          have e1 := str_empty h0
          have e2 := str_list h0
          clear next hok h0
          go_wp2_with fail
          go_roundg q
          case measure => omega
          case rel => exact ⟨i + 1, by omega, by simp, HN, HB2⟩
        · have hfin := Lib.hid (show false = (ws.all wrOK && V) by rw [ws_false HZ.out (by rw [hok.out]; simp [h0])]; rfl)
          have e1 := str_full h0
          have e2 : ¬ zv.toList = [] := by simpa using e1
          clear next hok h0
          go_wp2_with fail
          go_ret
          exact ⟨ret_bool hfin.out, HW2.out⟩
    · have hiz : ¬ (i : Int) < (len : Int) := by omega
      have hall := Lib.hid (ws_true HJ.out (by rw [← HL.out]; omega))
      have hrow := (HB.out.block G HGL.out).trans HROW.out
      have c11 := cell_row hrow H11.out
      have c12 := cell_row hrow H12.out
      have HW := Lib.hid (HB1.out.trans (HB.out.mono HB1.out.size))
      clear hrow
      cases gone with
      | false =>
        have hfin := Lib.hid (show true = (ws.all wrOK && V) by rw [hall.out, HV.out]; rfl)
        go_wp2_with fail
        go_ret
        exact ⟨ret_bool hfin.out, HW.out⟩
      | true =>
        by_cases h0 : val.size = 0
        · have hfin := Lib.hid (show true = (ws.all wrOK && V) by rw [hall.out, HV.out, h0]; rfl)
          have e1 := str_empty h0
          have e2 := str_list h0
          clear h0
          go_wp2_with fail
          go_ret
          exact ⟨ret_bool hfin.out, HW.out⟩
        · have hfin := Lib.hid (show false = (ws.all wrOK && V) by rw [hall.out, HV.out]; simp [h0])
          have e1 := str_full h0
          have e2 : ¬ val.toList = [] := by simpa using e1
          clear h0
          go_wp2_with fail
          go_ret
          exact ⟨ret_bool hfin.out, HW.out⟩
end Go.Proofs.Ytbhlgceicfjncaa
