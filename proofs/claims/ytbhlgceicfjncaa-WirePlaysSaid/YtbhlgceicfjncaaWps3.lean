/-
  The document's Do, part by part.
-/
import Derived.Test.YtbhlgceicfjncaaWps1
import Derived.Test.YtbhlgceicfjncaaSet45
import Derived.Test.YtbhlgceicfjncaaSet44
import Derived.Test.YtbhlgceicfjncaaSet06
import Derived.Test.YtbhlgceicfjncaaSet40
import Derived.Test.YtbhlgceicfjncaaSet03
namespace Go.Proofs.Ytbhlgceicfjncaa
open Go.RowKit
set_option linter.unusedVariables false
set_option linter.unnecessarySimpa false
set_option linter.unusedSimpArgs false
set_option maxRecDepth 100000

set_option maxHeartbeats 16000000 in
theorem do_put_yes_er {wb w : World} {D : List Dj} {dv : Value} (o : Wo) (hd : DocW wb w D dv) (hbw : Below wb.heap.size wb w) (hl : D.length ≤ 1000) (hk : o.kind % 5 = 0) (hhas : hasW (D.map Prod.fst) o.i = true) (hf : o.m.fits) (hw : o.m.few) (hws : WsAt wb o.sl o.m.ws) (ha : I64 o.frm) (hb : I64 o.to_) (hp : ¬ (projB (negB o.frm o.to_) o.m).2 = 0) (hN : NegOK) :
    Calls Try.prog 14 #[dv, .agg o.cells] w (DoOut wb w D dv (putJ (D.map Prod.fst) o.m o.sl o.frm o.to_) mg0 false (projB (negB o.frm o.to_) o.m).2) := by
  have hnb : I64 (negB o.frm o.to_) := by unfold negB; split; exact ⟨by decide, by decide⟩; exact ⟨by have := ha.1; have := hb.1; omega, by have := ha.2; have := hb.2; omega⟩
  have HNG := Lib.hid (fun W => hN o.frm o.to_ W ha hb)
  have HP1 := Lib.hid (fun W (hB : Below w.heap.size w W) => refProject_any (negB o.frm o.to_) hnb o.m o.sl hf hw W ((hws.below hbw).below hB))
  have HWSB := Lib.hid hws
  have HPP := Lib.hid hp
  have HJP := Lib.hid (show D.map Prod.fst = putJ (D.map Prod.fst) o.m o.sl o.frm o.to_ from by unfold putJ; rw [if_neg hp])
  obtain ⟨ver, hver⟩ : ∃ ver, ver = negB o.frm o.to_ := ⟨_, rfl⟩
  rw [← hver] at HNG HP1 HPP ⊢
  obtain ⟨E, hE⟩ : ∃ E, E = (projB ver o.m).2 := ⟨_, rfl⟩
  rw [← hE] at HP1 HPP ⊢
  obtain ⟨fr, hfr⟩ : ∃ fr, fr = o.frm := ⟨_, rfl⟩
  obtain ⟨tt, htt⟩ : ∃ tt, tt = o.to_ := ⟨_, rfl⟩
  rw [← hfr, ← htt] at HNG
  have HFT := Lib.hid (And.intro hfr htt)
  have HPb : Hid (∀ W, Below w.heap.size w W → Calls Try.prog 29 #[.int .i64 ver, .agg (o.m.cells o.sl)] W fun e W' => ∃ Y : Array Value, Y.size = 17 ∧ Y.all (·.oneCell') = true ∧ e = .returned (.tuple #[.agg Y, .int .i64 E]) ∧ Below W.heap.size W W') := Lib.hid (fun W hB => (HP1.out W hB).mono fun e W' ⟨sl1, he, h1, h2⟩ => by
    obtain ⟨a1, b1, c1, hsl⟩ := h1.isSl
    exact ⟨(projB ver o.m).1.cells sl1, rfl, by rw [hsl]; simp [Mg.cells, Value.oneCell'], he, h2⟩)
  have HSL := Lib.hid hws.isSl
  clear hnb hver hE hfr htt hf hw hws hbw ha hb hp hN HP1
  have hh := hasW_iff.1 hhas
  rw [List.length_map] at hh
  obtain ⟨j, hj⟩ : ∃ j : Nat, o.i = (j : Int) := ⟨o.i.toNat, by omega⟩
  have hjD : j < D.length := by omega
  obtain ⟨kb, c, rfl, hkb, _⟩ := hd.at_ hjD
  obtain ⟨kind, hkd⟩ : ∃ kind, kind = o.kind := ⟨_, rfl⟩
  have hz : (kind : Int) % 5 = 0 := by rw [hkd]; omega
  have HS0 := DoS.start w o.cells #[.int .i64 0, .int .i64 0, .int .i64 0, .int .i64 0, .int .i64 0, .int .i64 0, .int .u64 0, .int .u64 0, .string ⟨#[]⟩, .bool false, .int .u64 0, .bool false, .string ⟨#[]⟩, .slice none 0 0, .string ⟨#[]⟩, .int .u64 0, .int .u64 0]
  obtain ⟨w0, hw0⟩ : ∃ w0, w0 = (w.alloc (.cells o.cells 40)).alloc (.cells #[.int .i64 0, .int .i64 0, .int .i64 0, .int .i64 0, .int .i64 0, .int .i64 0, .int .u64 0, .int .u64 0, .string ⟨#[]⟩, .bool false, .int .u64 0, .bool false, .string ⟨#[]⟩, .slice none 0 0, .string ⟨#[]⟩, .int .u64 0, .int .u64 0] 38) := ⟨_, rfl⟩
  rw [← hw0] at HS0
  obtain ⟨R, hR⟩ : ∃ R, R = w.heap.size + 1 := ⟨_, rfl⟩
  obtain ⟨H, hH⟩ : ∃ H, H = w.heap.size := ⟨_, rfl⟩
  rw [← hR, ← hH] at HS0
  have HHR := Lib.hid (And.intro hR hH)
  have HDL := Lib.hid hd.lt
  have HD0 := Lib.hid (hd.below HS0.below)
  obtain ⟨C, hC⟩ : ∃ C, C = o.cells := ⟨_, rfl⟩
  rw [← hC] at HS0 hw0 ⊢
  have hc0 : C[0]? = some (.int .u8 (kind : Int)) := by rw [hC, hkd]; rfl
  have hc20 : C[20]? = some (.int .i64 o.i) := by rw [hC]; rfl
  have HS := Lib.hid HS0
  have c0 := (HS0.c 0).trans hc0
  have c20 := (HS0.c 20).trans hc20
  have HC18 : Hid (C[18]? = some (.int .i64 fr)) := Lib.hid (by rw [hC, HFT.out.1]; rfl)
  have HC19 : Hid (C[19]? = some (.int .i64 tt)) := Lib.hid (by rw [hC, HFT.out.2]; rfl)
  obtain ⟨mc, hmc⟩ : ∃ mc, mc = o.m.cells o.sl := ⟨_, rfl⟩
  have hmcs : mc.toList.length = 17 := by rw [hmc]; rfl
  have hCm : ∀ q u, mc.toList[q]? = some u → C[1 + q]? = some u := fun q u hq => by
    rw [hmc, ← Wo.cells_m, List.getElem?_take] at hq
    split at hq
    · rw [List.getElem?_drop, ← hC] at hq; simpa using hq
    · cases hq
  have HCM := Lib.hid hCm
  have HMC := Lib.hid hmc
  have HMS := Lib.hid (show (Try.prog.info? 38).map (·.size) = some mc.toList.length from by rw [hmcs]; exact msg_size)
  rw [← hmc] at HPb
  rw [hj] at c20 hc20
  obtain ⟨n, hn⟩ : ∃ n, n = D.length := ⟨_, rfl⟩
  have HL := Lib.hid hl
  have HN := Lib.hid hn
  have hjn : (j : Int) < (n : Int) := by omega
  have hjz : (0 : Int) ≤ (j : Int) := by omega
  have hnm : n ≤ 1000 := by omega
  have HC0 := Lib.hid hc0
  have HC20 := Lib.hid hc20
  have HJ := Lib.hid hj
  have HHAS := Lib.hid hhas
  have HONE := Lib.hid hd.ones
  rw [← hn]
  clear hd HS0 hc0 hc20 hC hkd hl hhas hh hkb hjD hn hj hk hmc hmcs hCm
  go_enter Try.func14, Try.ntmps14
  go_upto_region 1 with fail
  rw [← hw0, ← hR, ← hH]
  clear hw0 hR hH
  go_wp2_with fail
  go_loopg [9, 10] n (fun g s9 s10 wx => ∃ (i : Nat) (rv : Value), i + g = n ∧ rv = s9 ∧ s10 = .int .i64 i ∧ Hid (DoS w H R C #[.int .i64 0, .int .i64 0, .int .i64 0, .int .i64 0, .int .i64 0, .int .i64 0, .int .u64 0, .int .u64 0, .string ⟨#[]⟩, .bool false, .int .u64 0, .bool false, .string ⟨#[]⟩, .slice none 0 0, .string ⟨#[]⟩, .int .u64 0, .int .u64 0] wx) ∧ Hid (DocW wb wx D (.slice (some ⟨kb, 0, none⟩) n c)) ∧ Hid (wx.ownsRow (R + 1) 54 19 rv ((D.take i).eraseIdx j).length (dcs ((D.take i).eraseIdx j))))
  case atStart => exact ⟨0, _, by omega, rfl, rfl, HS, by rw [← HN.out] at HD0; exact HD0, Lib.hid (by rw [List.take_zero, List.eraseIdx_nil]; exact World.ownsRow_nil _ _ _ _)⟩
  case round =>
    obtain ⟨i, rv, hig, rfl, rfl, hS, hD, hO⟩ := hrel
    clear HS HD0
    have c0 := (hS.out.c 0).trans HC0.out
    have c20 := (hS.out.c 20).trans HC20.out
    cases gk with
    | succ g =>
      have hin : i < n := by omega
      have hiz : (i : Int) < (n : Int) := by omega
      obtain ⟨rl, hrl⟩ : ∃ rl, rl = ((D.take i).eraseIdx j).length := ⟨_, rfl⟩
      have hO2 := hO
      rw [← hrl] at hO2
      by_cases hij : i = j
      · have hne : ((i : Int) != (j : Int)) = false := by rw [bne_eq_false_iff_eq]; omega
        have he : (D.take (i + 1)).eraseIdx j = (D.take i).eraseIdx j := by rw [hij]; exact erase_same (by have := HN.out; omega)
        have HE := Lib.hid he
        clear he hij hO2 hrl
        go_wp2_with fail
        go_roundg g
        case measure => omega
        case rel => exact ⟨i + 1, _, by omega, rfl, by go_num, hS, hD, Lib.hid (by rw [HE.out]; exact hO.out)⟩
      · have hne : ((i : Int) != (j : Int)) = true := by rw [bne_iff_ne]; omega
        obtain ⟨d, hdd⟩ : ∃ d, d = D.getD i dj0 := ⟨_, rfl⟩
        have he : (D.take (i + 1)).eraseIdx j = (D.take i).eraseIdx j ++ [d] := by rw [hdd]; exact erase_step (by have := HN.out; omega) hij
        have HE := Lib.hid he
        obtain ⟨k', c', e', hkl, hci⟩ := hD.out.at_ (i := i) (by have := HN.out; omega)
        injection e' with e1 e2 e3
        injection e1 with e1
        injection e1 with e1
        subst e1
        rw [← hdd] at hci
        have hra : wr.rangeAt kb (i * 19) (djc d) := fun q u hq => (hci q (by rw [← djc_len d]; exact (List.getElem?_eq_some_iff.1 hq).1)).trans hq
        have HRA := Lib.hid hra
        have hon : ∀ u ∈ djc d, u.oneCell' = true := djc_one d (hD.out.sl d (by rw [hdd]; exact dj_mem (by have := HN.out; omega))).isSl (hD.out.bv d (by rw [hdd]; exact dj_mem (by have := HN.out; omega))).sl
        have HON := Lib.hid hon
        have hrlm : rl ≤ i := by rw [hrl]; exact Nat.le_trans (List.length_eraseIdx_le _ _) (by rw [List.length_take]; omega)
        have HRL := Lib.hid hrl
        have HBS := Lib.hid (show R + 1 ≤ wr.heap.size from hS.out.rl)
        obtain ⟨nf, nz, hi, hz0, hz1, hz2, hz3⟩ := itemI
        have HIJ := Lib.hid hij
        clear he hdd hci hra hon hrl hij hkl e2 e3
        go_wp2_with (first
          | (refine wpList_load_midW rfl 54 _ rfl kb (i * 19) (by simp only [Act.eval, Act.put]; first | rfl | simp) (djc d) _ HRA.out Try.underlying54 rfl itemSz ?_; dsimp only [Act.put])
          | (refine wpList_plain rfl fun K hK => iwp_bs1 _ d rfl (by first | rfl | simp) ?_; refine hK _ _ ?_; dsimp only [Act.put])
          | (at_builtin; refine wpList_append_own2 rfl _ _ 30 rfl (R + 1) 54 nf nz 19 208 Try.underlying30 hi hz0 hz2 hz3 hz1 (by decide) rv rl (dcs ((D.take i).eraseIdx j)) rfl (hO2.out.alloc _) ⟨wr.heap.size, 0, none⟩ 1 1 (djc d) rfl rfl (fun q u hq => by rw [Addr.add_lit, Nat.zero_add, cell_of_row _ _ _ _ _ _ (heap_alloc_new wr _)]; simpa using hq) HON.out (by unfold maxLen; omega) (by omega) (Nat.le_trans HBS.out (by simp)) ?_; intro v9 w9 hown9 hg9 hk9; have HO9 := Lib.hid hown9; have HG9 := Lib.hid hg9; clear hown9 hg9 hk9)
          )
        have hal := (Below.refl wr.heap.size wr).alloc (Nat.le_refl _) (.cells (djc d).toArray 54)
        have hno : ∀ q, q < R + 1 → some q ≠ rv.ownBlock := fun q hq e => by have := (hO2.out.lt q e.symm).1; omega
        have hkk : ∀ q, q < R + 1 → w9.heap[q]? = wr.heap[q]? := fun q hq => (HG9.out.block q (by have := HBS.out; simp; omega) (hno q hq)).trans (hal.block q (by have := HBS.out; omega))
        have hb9 : Below w.heap.size w w9 := ⟨HG9.out.os.trans (hal.os.trans hS.out.below.os), HG9.out.tape.trans (hal.tape.trans hS.out.below.tape), HG9.out.output.trans (hal.output.trans hS.out.below.output), Nat.le_trans hS.out.below.size (Nat.le_trans hal.size HG9.out.size), fun q hq => (hkk q (by have := HHR.out; omega)).trans (hS.out.below.block q hq)⟩
        have hS9 := Lib.hid (hS.out.keep (hkk H (by have := HHR.out; omega)) (hkk R (by omega)) hb9)
        have hD9 := Lib.hid (hD.out.stay (fun q hq => hkk q (by have h1 := HDL.out q; rw [← HN.out] at h1; have := h1 hq; have := HHR.out; omega)))
        clear hal hno hkk hb9
        go_wp2_with fail
        go_roundg g
        case measure => omega
        case rel => exact ⟨i + 1, _, by omega, rfl, by go_num, hS9, hD9, Lib.hid (by rw [HE.out, dcs_app, dcs_one1, List.length_append, ← HRL.out]; exact HO9.out)⟩
    | zero =>
      obtain rfl : i = n := by omega
      have he : D.take i = D := List.take_of_length_le (by have := HN.out; omega)
      rw [he] at hO
      have HDL2 := Lib.hid (show ∀ k, docO (.slice (some ⟨kb, 0, none⟩) i c) D k → k < w.heap.size from by rw [HN.out]; exact HDL.out)
      have c18 := (hS.out.c 18).trans HC18.out
      have c19 := (hS.out.c 19).trans HC19.out
      have HRM := Lib.hid (show ∀ W Z, DoS w H R C Z W → W.rangeAt H 1 mc.toList from fun W Z hW q u hq => (hW.c (1 + q)).trans (HCM.out q u hq))
      go_upto_region 12 with (first
        | (go_at_call 20; (with_reducible refine (HNG.out _).mono ?_); rintro e w1 ⟨rfl, hb1⟩; have HB1 := Lib.hid hb1; have HS1 := Lib.hid (hS.out.later hb1); clear hb1)
        | (refine wpList_load_midW rfl 38 _ rfl H 1 (by simp only [Act.eval, Act.put]; first | rfl | simp) mc.toList _ (HRM.out _ _ HS1.out) Try.underlying38 rfl HMS.out ?_; dsimp only [Act.put])
        | (go_at_call 29; (with_reducible refine (HPb.out _ HS1.out.below).mono ?_); rintro e w2 ⟨Y1, hy1, hy2, rfl, hb2⟩; have HY1 := Lib.hid hy1; have HY2 := Lib.hid hy2; have HB2 := Lib.hid hb2; have HS17 := Lib.hid (show (Try.prog.info? 38).map (·.size) = some Y1.size from (by rw [hy1]; exact msg_size)); clear hy1 hy2 hb2)
        | (refine wpList_store_row rfl 38 _ _ rfl w2.heap.size Y1 rfl rfl 38 _ (heap_alloc_new w2 _) HS17.out (by rw [HY1.out]; rfl) HY2.out ?_; dsimp only [Act.put]))
      have hbM := below_setRow ((Below.refl w2.heap.size w2).alloc (Nat.le_refl _) (.cells #[.int .i64 0, .int .i64 0, .int .i64 0, .int .i64 0, .int .i64 0, .int .i64 0, .int .u64 0, .int .u64 0, .string ⟨#[]⟩, .bool false, .int .u64 0, .bool false, .string ⟨#[]⟩, .slice none 0 0, .string ⟨#[]⟩, .int .u64 0, .int .u64 0] 38)) (Nat.le_refl _) Y1
      obtain ⟨wr, hwr⟩ : ∃ wr, wr = (w2.alloc (.cells #[.int .i64 0, .int .i64 0, .int .i64 0, .int .i64 0, .int .i64 0, .int .i64 0, .int .u64 0, .int .u64 0, .string ⟨#[]⟩, .bool false, .int .u64 0, .bool false, .string ⟨#[]⟩, .slice none 0 0, .string ⟨#[]⟩, .int .u64 0, .int .u64 0] 38)).setRow w2.heap.size Y1 := ⟨_, rfl⟩
      obtain ⟨M, hM⟩ : ∃ M, M = w2.heap.size := ⟨_, rfl⟩
      rw [← hwr] at hbM ⊢
      rw [← hM]
      have hbS := HB1.out.trans ((HB2.out.trans (hbM.mono HB2.out.size)).mono HB1.out.size)
      have HSM := Lib.hid (hS.out.later hbS)
      have HDM := Lib.hid (hD.out.below hbS)
      clear hwr hM hbM hbS HB1 HB2 HS1 HY1 HY2 HS17 HPb HNG c18 c19 c0 c20 hO hS hD
      have e1 : (E == 0) = false := by rw [beq_eq_false_iff_ne]; exact HPP.out
      have e2 : (E != 0) = true := by rw [bne_iff_ne]; exact HPP.out
      go_wp2_with (refine wpList_store_row rfl 38 _ _ rfl R #[.int .i64 0, .int .i64 0, .int .i64 0, .int .i64 0, .int .i64 0, .int .i64 0, .int .u64 0, .int .u64 0, .string ⟨#[]⟩, .bool false, .int .u64 0, .bool false, .string ⟨#[]⟩, .slice none 0 0, .string ⟨#[]⟩, .int .u64 0, .int .u64 0] rfl rfl 38 _ HSM.out.r msg_size rfl zero_one ?_)
      refine bodyPost_ret (do_ret (HSM.out.res _).1 rfl rfl rfl rfl rfl) rfl ?_
      exact DoOut.same HSM.out HHR.out.1 HDL2.out HDM.out HJP.out mg0 (.slice none 0 0) false E (WsAt.nil _)
set_option maxHeartbeats 16000000 in
theorem do_put_no_er {wb w : World} {D : List Dj} {dv : Value} (o : Wo) (hd : DocW wb w D dv) (hbw : Below wb.heap.size wb w) (hl : D.length ≤ 1000) (hk : o.kind % 5 = 0) (hhas : hasW (D.map Prod.fst) o.i = false) (hf : o.m.fits) (hw : o.m.few) (hws : WsAt wb o.sl o.m.ws) (ha : I64 o.frm) (hb : I64 o.to_) (hp : ¬ (projB (negB o.frm o.to_) o.m).2 = 0) (hN : NegOK) :
    Calls Try.prog 14 #[dv, .agg o.cells] w (DoOut wb w D dv (putJ (D.map Prod.fst) o.m o.sl o.frm o.to_) mg0 false (projB (negB o.frm o.to_) o.m).2) := by
  have hnb : I64 (negB o.frm o.to_) := by unfold negB; split; exact ⟨by decide, by decide⟩; exact ⟨by have := ha.1; have := hb.1; omega, by have := ha.2; have := hb.2; omega⟩
  have HNG := Lib.hid (fun W => hN o.frm o.to_ W ha hb)
  have HP1 := Lib.hid (fun W (hB : Below w.heap.size w W) => refProject_any (negB o.frm o.to_) hnb o.m o.sl hf hw W ((hws.below hbw).below hB))
  have HWSB := Lib.hid hws
  have HPP := Lib.hid hp
  have HJP := Lib.hid (show D.map Prod.fst = putJ (D.map Prod.fst) o.m o.sl o.frm o.to_ from by unfold putJ; rw [if_neg hp])
  obtain ⟨ver, hver⟩ : ∃ ver, ver = negB o.frm o.to_ := ⟨_, rfl⟩
  rw [← hver] at HNG HP1 HPP ⊢
  obtain ⟨E, hE⟩ : ∃ E, E = (projB ver o.m).2 := ⟨_, rfl⟩
  rw [← hE] at HP1 HPP ⊢
  obtain ⟨fr, hfr⟩ : ∃ fr, fr = o.frm := ⟨_, rfl⟩
  obtain ⟨tt, htt⟩ : ∃ tt, tt = o.to_ := ⟨_, rfl⟩
  rw [← hfr, ← htt] at HNG
  have HFT := Lib.hid (And.intro hfr htt)
  have HPb : Hid (∀ W, Below w.heap.size w W → Calls Try.prog 29 #[.int .i64 ver, .agg (o.m.cells o.sl)] W fun e W' => ∃ Y : Array Value, Y.size = 17 ∧ Y.all (·.oneCell') = true ∧ e = .returned (.tuple #[.agg Y, .int .i64 E]) ∧ Below W.heap.size W W') := Lib.hid (fun W hB => (HP1.out W hB).mono fun e W' ⟨sl1, he, h1, h2⟩ => by
    obtain ⟨a1, b1, c1, hsl⟩ := h1.isSl
    exact ⟨(projB ver o.m).1.cells sl1, rfl, by rw [hsl]; simp [Mg.cells, Value.oneCell'], he, h2⟩)
  have HSL := Lib.hid hws.isSl
  clear hnb hver hE hfr htt hf hw hws hbw ha hb hp hN HP1
  have hno := hasW_no.1 hhas
  rw [List.length_map] at hno
  obtain ⟨a, c, rfl, _, _, hac⟩ := hd.slice
  obtain ⟨kind, hkd⟩ : ∃ kind, kind = o.kind := ⟨_, rfl⟩
  have hz : (kind : Int) % 5 = 0 := by rw [hkd]; omega
  have HS0 := DoS.start w o.cells #[.int .i64 0, .int .i64 0, .int .i64 0, .int .i64 0, .int .i64 0, .int .i64 0, .int .u64 0, .int .u64 0, .string ⟨#[]⟩, .bool false, .int .u64 0, .bool false, .string ⟨#[]⟩, .slice none 0 0, .string ⟨#[]⟩, .int .u64 0, .int .u64 0]
  obtain ⟨w0, hw0⟩ : ∃ w0, w0 = (w.alloc (.cells o.cells 40)).alloc (.cells #[.int .i64 0, .int .i64 0, .int .i64 0, .int .i64 0, .int .i64 0, .int .i64 0, .int .u64 0, .int .u64 0, .string ⟨#[]⟩, .bool false, .int .u64 0, .bool false, .string ⟨#[]⟩, .slice none 0 0, .string ⟨#[]⟩, .int .u64 0, .int .u64 0] 38) := ⟨_, rfl⟩
  rw [← hw0] at HS0
  obtain ⟨R, hR⟩ : ∃ R, R = w.heap.size + 1 := ⟨_, rfl⟩
  obtain ⟨H, hH⟩ : ∃ H, H = w.heap.size := ⟨_, rfl⟩
  rw [← hR, ← hH] at HS0
  have HHR := Lib.hid (And.intro hR hH)
  have HDL := Lib.hid hd.lt
  have HD0 := Lib.hid (hd.below HS0.below)
  obtain ⟨C, hC⟩ : ∃ C, C = o.cells := ⟨_, rfl⟩
  rw [← hC] at HS0 hw0 ⊢
  have hc0 : C[0]? = some (.int .u8 (kind : Int)) := by rw [hC, hkd]; rfl
  have hc20 : C[20]? = some (.int .i64 o.i) := by rw [hC]; rfl
  have HS := Lib.hid HS0
  have c0 := (HS0.c 0).trans hc0
  have c20 := (HS0.c 20).trans hc20
  have HC18 : Hid (C[18]? = some (.int .i64 fr)) := Lib.hid (by rw [hC, HFT.out.1]; rfl)
  have HC19 : Hid (C[19]? = some (.int .i64 tt)) := Lib.hid (by rw [hC, HFT.out.2]; rfl)
  obtain ⟨mc, hmc⟩ : ∃ mc, mc = o.m.cells o.sl := ⟨_, rfl⟩
  have hmcs : mc.toList.length = 17 := by rw [hmc]; rfl
  have hCm : ∀ q u, mc.toList[q]? = some u → C[1 + q]? = some u := fun q u hq => by
    rw [hmc, ← Wo.cells_m, List.getElem?_take] at hq
    split at hq
    · rw [List.getElem?_drop, ← hC] at hq; simpa using hq
    · cases hq
  have HCM := Lib.hid hCm
  have HMC := Lib.hid hmc
  have HMS := Lib.hid (show (Try.prog.info? 38).map (·.size) = some mc.toList.length from by rw [hmcs]; exact msg_size)
  rw [← hmc] at HPb
  have HC20 := Lib.hid hc20
  have HONE := Lib.hid hd.ones
  have HAC := Lib.hid hac
  obtain ⟨ii, hii⟩ : ∃ ii, ii = o.i := ⟨_, rfl⟩
  rw [← hii] at c20 hc20 hno
  obtain ⟨n, hn⟩ : ∃ n, n = D.length := ⟨_, rfl⟩
  rw [← hn] at hno
  have HL := Lib.hid hl
  have HN := Lib.hid hn
  have HHAS := Lib.hid hhas
  have HII := Lib.hid hii
  have hcs : (decide (0 ≤ ii) = false ∧ True) ∨ (decide (0 ≤ ii) = true ∧ decide (ii < (n : Int)) = false) := by
    by_cases h0 : 0 ≤ ii
    · exact .inr ⟨by simpa using h0, by rw [decide_eq_false_iff_not]; exact fun h1 => hno ⟨h0, h1⟩⟩
    · exact .inl ⟨by simpa using h0, trivial⟩
  have hns : (decide ((0 : Int) < (n : Int)) = false ∧ decide (0 < n) = false) ∨ (decide ((0 : Int) < (n : Int)) = true ∧ decide (0 < n) = true) := by
    by_cases h0 : n = 0
    · exact .inl ⟨by rw [decide_eq_false_iff_not]; omega, by rw [decide_eq_false_iff_not]; omega⟩
    · exact .inr ⟨by rw [decide_eq_true_eq]; omega, by rw [decide_eq_true_eq]; omega⟩
  have HC0 := Lib.hid hc0
  have HNS := Lib.hid hns
  rw [← hn]
  clear hd HS0 hc0 hc20 hC hkd hl hhas hno hn hii hns hk hmc hmcs hCm hac
  rcases hcs with ⟨d0, _⟩ | ⟨d0, d1⟩
  all_goals
    go_enter Try.func14, Try.ntmps14
    go_upto_region 1 with fail
    rw [← hw0, ← hR, ← hH]
    clear hw0 hR hH
    go_wp2_with fail
    go_loopg [9, 10] 0 (fun g s9 s10 wx => s9 = .slice none 0 0 ∧ s10 = .int .i64 0 ∧ wx = w0)
    case atStart => exact ⟨rfl, rfl, rfl⟩
    case round =>
      obtain ⟨rfl, rfl, rfl⟩ := hrel
      obtain ⟨w0, rfl⟩ : ∃ w0, w0 = wr := ⟨_, rfl⟩
      have c0 := (HS.out.c 0).trans HC0.out
      rcases HNS.out with ⟨n0, n1⟩ | ⟨n0, n1⟩
      all_goals
        have HDn := Lib.hid (show DocW wb w0 D (.slice a n c) from by rw [HN.out]; exact HD0.out)
        have HDL2 := Lib.hid (show ∀ k, docO (.slice a n c) D k → k < w.heap.size from by rw [HN.out]; exact HDL.out)
        have c18 := (HS.out.c 18).trans HC18.out
        have c19 := (HS.out.c 19).trans HC19.out
        have HRM := Lib.hid (show ∀ W Z, DoS w H R C Z W → W.rangeAt H 1 mc.toList from fun W Z hW q u hq => (hW.c (1 + q)).trans (HCM.out q u hq))
        go_upto_region 12 with (first
          | (go_at_call 20; (with_reducible refine (HNG.out _).mono ?_); rintro e w1 ⟨rfl, hb1⟩; have HB1 := Lib.hid hb1; have HS1 := Lib.hid (HS.out.later hb1); clear hb1)
          | (refine wpList_load_midW rfl 38 _ rfl H 1 (by simp only [Act.eval, Act.put]; first | rfl | simp) mc.toList _ (HRM.out _ _ HS1.out) Try.underlying38 rfl HMS.out ?_; dsimp only [Act.put])
          | (go_at_call 29; (with_reducible refine (HPb.out _ HS1.out.below).mono ?_); rintro e w2 ⟨Y1, hy1, hy2, rfl, hb2⟩; have HY1 := Lib.hid hy1; have HY2 := Lib.hid hy2; have HB2 := Lib.hid hb2; have HS17 := Lib.hid (show (Try.prog.info? 38).map (·.size) = some Y1.size from (by rw [hy1]; exact msg_size)); clear hy1 hy2 hb2)
          | (refine wpList_store_row rfl 38 _ _ rfl w2.heap.size Y1 rfl rfl 38 _ (heap_alloc_new w2 _) HS17.out (by rw [HY1.out]; rfl) HY2.out ?_; dsimp only [Act.put]))
        have hbM := below_setRow ((Below.refl w2.heap.size w2).alloc (Nat.le_refl _) (.cells #[.int .i64 0, .int .i64 0, .int .i64 0, .int .i64 0, .int .i64 0, .int .i64 0, .int .u64 0, .int .u64 0, .string ⟨#[]⟩, .bool false, .int .u64 0, .bool false, .string ⟨#[]⟩, .slice none 0 0, .string ⟨#[]⟩, .int .u64 0, .int .u64 0] 38)) (Nat.le_refl _) Y1
        obtain ⟨wr, hwr⟩ : ∃ wr, wr = (w2.alloc (.cells #[.int .i64 0, .int .i64 0, .int .i64 0, .int .i64 0, .int .i64 0, .int .i64 0, .int .u64 0, .int .u64 0, .string ⟨#[]⟩, .bool false, .int .u64 0, .bool false, .string ⟨#[]⟩, .slice none 0 0, .string ⟨#[]⟩, .int .u64 0, .int .u64 0] 38)).setRow w2.heap.size Y1 := ⟨_, rfl⟩
        obtain ⟨M, hM⟩ : ∃ M, M = w2.heap.size := ⟨_, rfl⟩
        rw [← hwr] at hbM ⊢
        rw [← hM]
        have hbS := HB1.out.trans ((HB2.out.trans (hbM.mono HB2.out.size)).mono HB1.out.size)
        have HSM := Lib.hid (HS.out.later hbS)
        have HDM := Lib.hid (HDn.out.below hbS)
        clear hwr hM hbM hbS HB1 HB2 HS1 HY1 HY2 HS17 HPb HNG c18 c19 c0
        have e1 : (E == 0) = false := by rw [beq_eq_false_iff_ne]; exact HPP.out
        have e2 : (E != 0) = true := by rw [bne_iff_ne]; exact HPP.out
        go_wp2_with (refine wpList_store_row rfl 38 _ _ rfl R #[.int .i64 0, .int .i64 0, .int .i64 0, .int .i64 0, .int .i64 0, .int .i64 0, .int .u64 0, .int .u64 0, .string ⟨#[]⟩, .bool false, .int .u64 0, .bool false, .string ⟨#[]⟩, .slice none 0 0, .string ⟨#[]⟩, .int .u64 0, .int .u64 0] rfl rfl 38 _ HSM.out.r msg_size rfl zero_one ?_)
        refine bodyPost_ret (do_ret (HSM.out.res _).1 rfl rfl rfl rfl rfl) rfl ?_
        exact DoOut.same HSM.out HHR.out.1 HDL2.out HDM.out HJP.out mg0 (.slice none 0 0) false E (WsAt.nil _)
end Go.Proofs.Ytbhlgceicfjncaa

namespace Go.Proofs.Ytbhlgceicfjncaa
open Go.RowKit
set_option linter.unusedVariables false
set_option linter.unnecessarySimpa false
set_option linter.unusedSimpArgs false
set_option maxRecDepth 100000

set_option maxHeartbeats 16000000 in
theorem do_put_yes_ok {wb w : World} {D : List Dj} {dv : Value} (o : Wo) (hd : DocW wb w D dv) (hbw : Below wb.heap.size wb w) (hl : D.length ≤ 1000) (hk : o.kind % 5 = 0) (hhas : hasW (D.map Prod.fst) o.i = true) (hf : o.m.fits) (hw : o.m.few) (hws : WsAt wb o.sl o.m.ws) (ha : I64 o.frm) (hb : I64 o.to_) (hp : (projB (negB o.frm o.to_) o.m).2 = 0) (hN : NegOK) :
    Calls Try.prog 14 #[dv, .agg o.cells] w (DoOut wb w D dv (putJ (D.map Prod.fst) o.m o.sl o.frm o.to_) mg0 false (projB (negB o.frm o.to_) o.m).2) := by
  have hnb : I64 (negB o.frm o.to_) := by unfold negB; split; exact ⟨by decide, by decide⟩; exact ⟨by have := ha.1; have := hb.1; omega, by have := ha.2; have := hb.2; omega⟩
  have HNG := Lib.hid (fun W => hN o.frm o.to_ W ha hb)
  have HP1 := Lib.hid (fun W (hB : Below w.heap.size w W) => refProject_any (negB o.frm o.to_) hnb o.m o.sl hf hw W ((hws.below hbw).below hB))
  have HWSB := Lib.hid hws
  have HPP := Lib.hid hp
  have HJP := Lib.hid (show D.map Prod.fst ++ [⟨o.m, o.sl, negB o.frm o.to_, false, 0⟩] = putJ (D.map Prod.fst) o.m o.sl o.frm o.to_ from by unfold putJ; rw [if_pos hp])
  obtain ⟨ver, hver⟩ : ∃ ver, ver = negB o.frm o.to_ := ⟨_, rfl⟩
  rw [← hver] at HNG HP1 HPP HJP ⊢
  obtain ⟨E, hE⟩ : ∃ E, E = (projB ver o.m).2 := ⟨_, rfl⟩
  rw [← hE] at HP1 HPP ⊢
  obtain ⟨fr, hfr⟩ : ∃ fr, fr = o.frm := ⟨_, rfl⟩
  obtain ⟨tt, htt⟩ : ∃ tt, tt = o.to_ := ⟨_, rfl⟩
  rw [← hfr, ← htt] at HNG
  have HFT := Lib.hid (And.intro hfr htt)
  have HPb : Hid (∀ W, Below w.heap.size w W → Calls Try.prog 29 #[.int .i64 ver, .agg (o.m.cells o.sl)] W fun e W' => ∃ Y : Array Value, Y.size = 17 ∧ Y.all (·.oneCell') = true ∧ e = .returned (.tuple #[.agg Y, .int .i64 E]) ∧ Below W.heap.size W W') := Lib.hid (fun W hB => (HP1.out W hB).mono fun e W' ⟨sl1, he, h1, h2⟩ => by
    obtain ⟨a1, b1, c1, hsl⟩ := h1.isSl
    exact ⟨(projB ver o.m).1.cells sl1, rfl, by rw [hsl]; simp [Mg.cells, Value.oneCell'], he, h2⟩)
  have HSL := Lib.hid hws.isSl
  clear hnb hver hE hfr htt hf hw hws hbw ha hb hp hN HP1
  have hh := hasW_iff.1 hhas
  rw [List.length_map] at hh
  obtain ⟨j, hj⟩ : ∃ j : Nat, o.i = (j : Int) := ⟨o.i.toNat, by omega⟩
  have hjD : j < D.length := by omega
  obtain ⟨kb, c, rfl, hkb, _⟩ := hd.at_ hjD
  obtain ⟨kind, hkd⟩ : ∃ kind, kind = o.kind := ⟨_, rfl⟩
  have hz : (kind : Int) % 5 = 0 := by rw [hkd]; omega
  have HS0 := DoS.start w o.cells #[.int .i64 0, .int .i64 0, .int .i64 0, .int .i64 0, .int .i64 0, .int .i64 0, .int .u64 0, .int .u64 0, .string ⟨#[]⟩, .bool false, .int .u64 0, .bool false, .string ⟨#[]⟩, .slice none 0 0, .string ⟨#[]⟩, .int .u64 0, .int .u64 0]
  obtain ⟨w0, hw0⟩ : ∃ w0, w0 = (w.alloc (.cells o.cells 40)).alloc (.cells #[.int .i64 0, .int .i64 0, .int .i64 0, .int .i64 0, .int .i64 0, .int .i64 0, .int .u64 0, .int .u64 0, .string ⟨#[]⟩, .bool false, .int .u64 0, .bool false, .string ⟨#[]⟩, .slice none 0 0, .string ⟨#[]⟩, .int .u64 0, .int .u64 0] 38) := ⟨_, rfl⟩
  rw [← hw0] at HS0
  obtain ⟨R, hR⟩ : ∃ R, R = w.heap.size + 1 := ⟨_, rfl⟩
  obtain ⟨H, hH⟩ : ∃ H, H = w.heap.size := ⟨_, rfl⟩
  rw [← hR, ← hH] at HS0
  have HHR := Lib.hid (And.intro hR hH)
  have HDL := Lib.hid hd.lt
  have HD0 := Lib.hid (hd.below HS0.below)
  obtain ⟨C, hC⟩ : ∃ C, C = o.cells := ⟨_, rfl⟩
  rw [← hC] at HS0 hw0 ⊢
  have hc0 : C[0]? = some (.int .u8 (kind : Int)) := by rw [hC, hkd]; rfl
  have hc20 : C[20]? = some (.int .i64 o.i) := by rw [hC]; rfl
  have HS := Lib.hid HS0
  have c0 := (HS0.c 0).trans hc0
  have c20 := (HS0.c 20).trans hc20
  have HC18 : Hid (C[18]? = some (.int .i64 fr)) := Lib.hid (by rw [hC, HFT.out.1]; rfl)
  have HC19 : Hid (C[19]? = some (.int .i64 tt)) := Lib.hid (by rw [hC, HFT.out.2]; rfl)
  obtain ⟨mc, hmc⟩ : ∃ mc, mc = o.m.cells o.sl := ⟨_, rfl⟩
  have hmcs : mc.toList.length = 17 := by rw [hmc]; rfl
  have hCm : ∀ q u, mc.toList[q]? = some u → C[1 + q]? = some u := fun q u hq => by
    rw [hmc, ← Wo.cells_m, List.getElem?_take] at hq
    split at hq
    · rw [List.getElem?_drop, ← hC] at hq; simpa using hq
    · cases hq
  have HCM := Lib.hid hCm
  have HMC := Lib.hid hmc
  have HMS := Lib.hid (show (Try.prog.info? 38).map (·.size) = some mc.toList.length from by rw [hmcs]; exact msg_size)
  rw [← hmc] at HPb
  rw [hj] at c20 hc20
  obtain ⟨n, hn⟩ : ∃ n, n = D.length := ⟨_, rfl⟩
  have HL := Lib.hid hl
  have HN := Lib.hid hn
  have hjn : (j : Int) < (n : Int) := by omega
  have hjz : (0 : Int) ≤ (j : Int) := by omega
  have hnm : n ≤ 1000 := by omega
  have HC0 := Lib.hid hc0
  have HC20 := Lib.hid hc20
  have HJ := Lib.hid hj
  have HHAS := Lib.hid hhas
  have HONE := Lib.hid hd.ones
  rw [← hn]
  clear hd HS0 hc0 hc20 hC hkd hl hhas hh hkb hjD hn hj hk hmc hmcs hCm
  go_enter Try.func14, Try.ntmps14
  go_upto_region 1 with fail
  rw [← hw0, ← hR, ← hH]
  clear hw0 hR hH
  go_wp2_with fail
  go_loopg [9, 10] n (fun g s9 s10 wx => ∃ (i : Nat) (rv : Value), i + g = n ∧ rv = s9 ∧ s10 = .int .i64 i ∧ Hid (DoS w H R C #[.int .i64 0, .int .i64 0, .int .i64 0, .int .i64 0, .int .i64 0, .int .i64 0, .int .u64 0, .int .u64 0, .string ⟨#[]⟩, .bool false, .int .u64 0, .bool false, .string ⟨#[]⟩, .slice none 0 0, .string ⟨#[]⟩, .int .u64 0, .int .u64 0] wx) ∧ Hid (DocW wb wx D (.slice (some ⟨kb, 0, none⟩) n c)) ∧ Hid (wx.ownsRow (R + 1) 54 19 rv ((D.take i).eraseIdx j).length (dcs ((D.take i).eraseIdx j))))
  case atStart => exact ⟨0, _, by omega, rfl, rfl, HS, by rw [← HN.out] at HD0; exact HD0, Lib.hid (by rw [List.take_zero, List.eraseIdx_nil]; exact World.ownsRow_nil _ _ _ _)⟩
  case round =>
    obtain ⟨i, rv, hig, rfl, rfl, hS, hD, hO⟩ := hrel
    clear HS HD0
    have c0 := (hS.out.c 0).trans HC0.out
    have c20 := (hS.out.c 20).trans HC20.out
    cases gk with
    | succ g =>
      have hin : i < n := by omega
      have hiz : (i : Int) < (n : Int) := by omega
      obtain ⟨rl, hrl⟩ : ∃ rl, rl = ((D.take i).eraseIdx j).length := ⟨_, rfl⟩
      have hO2 := hO
      rw [← hrl] at hO2
      by_cases hij : i = j
      · have hne : ((i : Int) != (j : Int)) = false := by rw [bne_eq_false_iff_eq]; omega
        have he : (D.take (i + 1)).eraseIdx j = (D.take i).eraseIdx j := by rw [hij]; exact erase_same (by have := HN.out; omega)
        have HE := Lib.hid he
        clear he hij hO2 hrl
        go_wp2_with fail
        go_roundg g
        case measure => omega
        case rel => exact ⟨i + 1, _, by omega, rfl, by go_num, hS, hD, Lib.hid (by rw [HE.out]; exact hO.out)⟩
      · have hne : ((i : Int) != (j : Int)) = true := by rw [bne_iff_ne]; omega
        obtain ⟨d, hdd⟩ : ∃ d, d = D.getD i dj0 := ⟨_, rfl⟩
        have he : (D.take (i + 1)).eraseIdx j = (D.take i).eraseIdx j ++ [d] := by rw [hdd]; exact erase_step (by have := HN.out; omega) hij
        have HE := Lib.hid he
        obtain ⟨k', c', e', hkl, hci⟩ := hD.out.at_ (i := i) (by have := HN.out; omega)
        injection e' with e1 e2 e3
        injection e1 with e1
        injection e1 with e1
        subst e1
        rw [← hdd] at hci
        have hra : wr.rangeAt kb (i * 19) (djc d) := fun q u hq => (hci q (by rw [← djc_len d]; exact (List.getElem?_eq_some_iff.1 hq).1)).trans hq
        have HRA := Lib.hid hra
        have hon : ∀ u ∈ djc d, u.oneCell' = true := djc_one d (hD.out.sl d (by rw [hdd]; exact dj_mem (by have := HN.out; omega))).isSl (hD.out.bv d (by rw [hdd]; exact dj_mem (by have := HN.out; omega))).sl
        have HON := Lib.hid hon
        have hrlm : rl ≤ i := by rw [hrl]; exact Nat.le_trans (List.length_eraseIdx_le _ _) (by rw [List.length_take]; omega)
        have HRL := Lib.hid hrl
        have HBS := Lib.hid (show R + 1 ≤ wr.heap.size from hS.out.rl)
        obtain ⟨nf, nz, hi, hz0, hz1, hz2, hz3⟩ := itemI
        have HIJ := Lib.hid hij
        clear he hdd hci hra hon hrl hij hkl e2 e3
        go_wp2_with (first
          | (refine wpList_load_midW rfl 54 _ rfl kb (i * 19) (by simp only [Act.eval, Act.put]; first | rfl | simp) (djc d) _ HRA.out Try.underlying54 rfl itemSz ?_; dsimp only [Act.put])
          | (refine wpList_plain rfl fun K hK => iwp_bs1 _ d rfl (by first | rfl | simp) ?_; refine hK _ _ ?_; dsimp only [Act.put])
          | (at_builtin; refine wpList_append_own2 rfl _ _ 30 rfl (R + 1) 54 nf nz 19 208 Try.underlying30 hi hz0 hz2 hz3 hz1 (by decide) rv rl (dcs ((D.take i).eraseIdx j)) rfl (hO2.out.alloc _) ⟨wr.heap.size, 0, none⟩ 1 1 (djc d) rfl rfl (fun q u hq => by rw [Addr.add_lit, Nat.zero_add, cell_of_row _ _ _ _ _ _ (heap_alloc_new wr _)]; simpa using hq) HON.out (by unfold maxLen; omega) (by omega) (Nat.le_trans HBS.out (by simp)) ?_; intro v9 w9 hown9 hg9 hk9; have HO9 := Lib.hid hown9; have HG9 := Lib.hid hg9; clear hown9 hg9 hk9)
          )
        have hal := (Below.refl wr.heap.size wr).alloc (Nat.le_refl _) (.cells (djc d).toArray 54)
        have hno : ∀ q, q < R + 1 → some q ≠ rv.ownBlock := fun q hq e => by have := (hO2.out.lt q e.symm).1; omega
        have hkk : ∀ q, q < R + 1 → w9.heap[q]? = wr.heap[q]? := fun q hq => (HG9.out.block q (by have := HBS.out; simp; omega) (hno q hq)).trans (hal.block q (by have := HBS.out; omega))
        have hb9 : Below w.heap.size w w9 := ⟨HG9.out.os.trans (hal.os.trans hS.out.below.os), HG9.out.tape.trans (hal.tape.trans hS.out.below.tape), HG9.out.output.trans (hal.output.trans hS.out.below.output), Nat.le_trans hS.out.below.size (Nat.le_trans hal.size HG9.out.size), fun q hq => (hkk q (by have := HHR.out; omega)).trans (hS.out.below.block q hq)⟩
        have hS9 := Lib.hid (hS.out.keep (hkk H (by have := HHR.out; omega)) (hkk R (by omega)) hb9)
        have hD9 := Lib.hid (hD.out.stay (fun q hq => hkk q (by have h1 := HDL.out q; rw [← HN.out] at h1; have := h1 hq; have := HHR.out; omega)))
        clear hal hno hkk hb9
        go_wp2_with fail
        go_roundg g
        case measure => omega
        case rel => exact ⟨i + 1, _, by omega, rfl, by go_num, hS9, hD9, Lib.hid (by rw [HE.out, dcs_app, dcs_one1, List.length_append, ← HRL.out]; exact HO9.out)⟩
    | zero =>
      obtain rfl : i = n := by omega
      have he : D.take i = D := List.take_of_length_le (by have := HN.out; omega)
      rw [he] at hO
      have HDL2 := Lib.hid (show ∀ k, docO (.slice (some ⟨kb, 0, none⟩) i c) D k → k < w.heap.size from by rw [HN.out]; exact HDL.out)
      have c18 := (hS.out.c 18).trans HC18.out
      have c19 := (hS.out.c 19).trans HC19.out
      have HRM := Lib.hid (show ∀ W Z, DoS w H R C Z W → W.rangeAt H 1 mc.toList from fun W Z hW q u hq => (hW.c (1 + q)).trans (HCM.out q u hq))
      go_upto_region 12 with (first
        | (go_at_call 20; (with_reducible refine (HNG.out _).mono ?_); rintro e w1 ⟨rfl, hb1⟩; have HB1 := Lib.hid hb1; have HS1 := Lib.hid (hS.out.later hb1); clear hb1)
        | (refine wpList_load_midW rfl 38 _ rfl H 1 (by simp only [Act.eval, Act.put]; first | rfl | simp) mc.toList _ (HRM.out _ _ HS1.out) Try.underlying38 rfl HMS.out ?_; dsimp only [Act.put])
        | (go_at_call 29; (with_reducible refine (HPb.out _ HS1.out.below).mono ?_); rintro e w2 ⟨Y1, hy1, hy2, rfl, hb2⟩; have HY1 := Lib.hid hy1; have HY2 := Lib.hid hy2; have HB2 := Lib.hid hb2; have HS17 := Lib.hid (show (Try.prog.info? 38).map (·.size) = some Y1.size from (by rw [hy1]; exact msg_size)); clear hy1 hy2 hb2)
        | (refine wpList_store_row rfl 38 _ _ rfl w2.heap.size Y1 rfl rfl 38 _ (heap_alloc_new w2 _) HS17.out (by rw [HY1.out]; rfl) HY2.out ?_; dsimp only [Act.put]))
      have hbM := below_setRow ((Below.refl w2.heap.size w2).alloc (Nat.le_refl _) (.cells #[.int .i64 0, .int .i64 0, .int .i64 0, .int .i64 0, .int .i64 0, .int .i64 0, .int .u64 0, .int .u64 0, .string ⟨#[]⟩, .bool false, .int .u64 0, .bool false, .string ⟨#[]⟩, .slice none 0 0, .string ⟨#[]⟩, .int .u64 0, .int .u64 0] 38)) (Nat.le_refl _) Y1
      obtain ⟨wr, hwr⟩ : ∃ wr, wr = (w2.alloc (.cells #[.int .i64 0, .int .i64 0, .int .i64 0, .int .i64 0, .int .i64 0, .int .i64 0, .int .u64 0, .int .u64 0, .string ⟨#[]⟩, .bool false, .int .u64 0, .bool false, .string ⟨#[]⟩, .slice none 0 0, .string ⟨#[]⟩, .int .u64 0, .int .u64 0] 38)).setRow w2.heap.size Y1 := ⟨_, rfl⟩
      obtain ⟨M, hM⟩ : ∃ M, M = w2.heap.size := ⟨_, rfl⟩
      rw [← hwr] at hbM ⊢
      rw [← hM]
      have hbS := HB1.out.trans ((HB2.out.trans (hbM.mono HB2.out.size)).mono HB1.out.size)
      have HSM := Lib.hid (hS.out.later hbS)
      have HDM := Lib.hid (hD.out.below hbS)
      clear hwr hM hbM hbS HB1 HB2 HS1 HY1 HY2 HS17 HPb HNG c18 c19 c0 c20 hO hS hD
      obtain rfl : E = 0 := HPP.out
      obtain ⟨dv, hdv⟩ : ∃ dv, dv = Value.slice (some ⟨kb, 0, none⟩) i c := ⟨_, rfl⟩
      have HDV := Lib.hid hdv
      have HDX := Lib.hid (show DocW wb wr D dv from by rw [hdv]; exact HDM.out)
      have HSX := Lib.hid (show DoS w H R C #[.int .i64 0, .int .i64 0, .int .i64 0, .int .i64 0, .int .i64 0, .int .i64 0, .int .u64 0, .int .u64 0, .string ⟨#[]⟩, .bool false, .int .u64 0, .bool false, .string ⟨#[]⟩, .slice none 0 0, .string ⟨#[]⟩, .int .u64 0, .int .u64 0] wr from HSM.out)
      obtain ⟨Z, hZ⟩ : ∃ Z : Array Value, Z = #[.int .i64 0, .int .i64 0, .int .i64 0, .int .i64 0, .int .i64 0, .int .i64 0, .int .u64 0, .int .u64 0, .string ⟨#[]⟩, .bool false, .int .u64 0, .bool false, .string ⟨#[]⟩, .slice none 0 0, .string ⟨#[]⟩, .int .u64 0, .int .u64 0] := ⟨_, rfl⟩
      rw [← hZ] at HSX
      have HZE := Lib.hid (show Value.agg (#[.int .i64 0, .int .i64 0, .int .i64 0, .int .i64 0, .int .i64 0, .int .i64 0, .int .u64 0, .int .u64 0, .string ⟨#[]⟩, .bool false, .int .u64 0, .bool false, .string ⟨#[]⟩, .slice none 0 0, .string ⟨#[]⟩, .int .u64 0, .int .u64 0]) = Value.agg Z from by rw [hZ])
      have HZV := Lib.hid (show Z = mg0.cells (.slice none 0 0) from hZ)
      have HZS := Lib.hid (show Z.size = 17 from by rw [hZ]; rfl)
      have HZ1 := Lib.hid (show Z.all (·.oneCell') = true from by rw [hZ]; exact zero_one)
      have HZ17 := Lib.hid (show (Try.prog.info? 38).map (·.size) = some Z.size from by rw [hZ]; exact msg_size)
      have HHB := Lib.hid (show H < R + 1 ∧ R < R + 1 ∧ w.heap.size ≤ R + 1 from by have := HHR.out; omega)
      have HDL3 := Lib.hid (show ∀ k, docO dv D k → k < w.heap.size from by rw [hdv]; exact HDL2.out)
      have HDN := Lib.hid (show i = D.length from HN.out)
      have HDA : Hid (((some ⟨kb, 0, none⟩) : Option Addr) = none → c = 0) := Lib.hid (fun e => by cases e)
      obtain ⟨m, hm⟩ : ∃ m : Dj, m = (⟨o.m, o.sl, ver, false, 0⟩, .slice none 0 0) := ⟨_, rfl⟩
      have hmd : djc m = mc.toList ++ [.int .i64 ver, .slice none 0 0] := by rw [hm, HMC.out]; rfl
      have HMD := Lib.hid hmd
      have HME := Lib.hid hmd
      have HJT := Lib.hid (show D.map Prod.fst ++ [m.1] = putJ (D.map Prod.fst) o.m o.sl o.frm o.to_ from by rw [hm]; exact HJP.out)
      have HWS := Lib.hid (show WsAt wb m.1.sl m.1.m.ws from by rw [hm]; exact HWSB.out)
      have HBV := Lib.hid (show ∀ W, BvAt W m.1 m.2 from fun W => by rw [hm]; exact .inr ⟨rfl, rfl⟩)
      have HMO := Lib.hid (show ∀ k, m.2.ownBlock = some k → docO dv D k from fun k hk => by rw [hm] at hk; cases hk)
      have HONM := Lib.hid (show ∀ u ∈ dcs [m], u.oneCell' = true from by rw [dcs_one1]; exact djc_one m HWS.out.isSl (HBV.out wr).sl)
      have HRX := Lib.hid (show ∀ W, DoS w H R C Z W → DocW wb W D dv → W.rangeAt H 1 mc.toList from fun W hW _ => HRM.out W Z hW)
      clear hdv hZ hm hmd HRM HCM
      go_upto_region 14 with fail
      rw [← HDV.out]
      have hBw : R + 1 ≤ wr.heap.size := HSX.out.rl
      refine wp_region_tailN [0, 3, 5, 11] [4, 6] (wRKeep (R + 1) D m) (psiWP (R + 1) H R dv D m mc.toList ver Z) (fun _ _ => True) 221 13 (some 7) (.assign (.const (.int .i64 0))) (by kernel_rfl) (by kernel_rfl) (by kernel_rfl) (by kernel_rfl) rfl (by kernel_rfl) (by kernel_rfl)
        (wRKeep.of hBw (Below.refl _ _).drew) (fun _ _ _ h k => h.trans k) (fun _ _ _ _ h k => psiWP_stable h k) (fun _ _ _ _ _ => trivial) ?_ ?_ [73, 74, 75, 76, 77, 78, 79, 80, 81, 82, 4, 6, 7] (by kernel_rfl) ?_
      · intro t ht w' _
        simp only [List.mem_cons, List.not_mem_nil, or_false] at ht
        rcases ht with rfl | rfl | rfl | rfl <;> first | rfl | exact HDV.out.symm
      · repeat' (first | exact AllStepsL.nil | refine AllStepsL.cons ?_ ?_)
        all_goals
          intro hik
          first
            | (exfalso; revert hik; decide)
            | (intro a' w' K' Q' hRl hP hK'
               have hBw' : R + 1 ≤ w'.heap.size := Nat.le_trans hBw hRl.size
               have hS' := HSX.out.keep (hRl.block H HHB.out.1) (hRl.block R HHB.out.2.1) (⟨hRl.os.trans HSX.out.below.os, hRl.tape.trans HSX.out.below.tape, hRl.output.trans HSX.out.below.output, Nat.le_trans HSX.out.below.size hRl.size, fun k hk => (hRl.block k (by have := HHB.out.2.2; omega)).trans (HSX.out.below.block k hk)⟩)
               have hD' := HDX.out.stay (fun k hk => hRl.block k (by have := HDL3.out k hk; have := HHB.out.2.2; omega))
               have hO' := hD'.own
               have HS' := Lib.hid hS'
               have c20' := (hS'.c 20).trans HC20.out
               have HRX' := Lib.hid (HRX.out w' hS' hD')
               clear hRl hS' hD'
               first
                | (refine iwp_bs0 rfl ?_
                   refine hK' _ _ (wRKeep.of hBw' ((Below.refl _ _).alloc (Nat.le_refl _) _)) trivial ?_
                   intro d hd; cases hd; exact wrrow_empty w' hBw')
                | (obtain ⟨h1, h2, _⟩ := hP
                   conv at h2 => whnf
                   obtain ⟨v', w3, hr, hb, hrow⟩ := wrapp_first (B := R + 1) w' _ (some ⟨kb, 0, none⟩) i c D h1 (by rw [HDV.out, ← HDN.out] at hO'; exact hO') HDN.out.symm HONE.out (by have := HL.out; have := HDN.out; omega) HDA.out hBw'
                   refine wrwp_app _ _ rfl rfl _ (.slice (some ⟨kb, 0, none⟩) i c) v' w3 (by simp only [Act.eval, Array.getD_eq_getD_getElem?]) (by rw [← HDV.out]; simp only [Act.eval, Array.getD_eq_getD_getElem?]; exact h2) hr ?_
                   refine hK' _ _ (wRKeep.of hBw' hb) trivial ?_
                   intro d hd; cases hd; exact hrow)
                | (obtain ⟨h1, _⟩ := hP
                   refine iwp_bs1 _ m rfl (by simp only [Act.eval, Array.getD_eq_getD_getElem?]; exact h1) ?_
                   refine hK' _ _ (wRKeep.of hBw' ((Below.refl _ _).alloc (Nat.le_refl _) _)) trivial ?_
                   intro d hd; cases hd; exact wrrow_one w' m hBw')
                | (obtain ⟨h1, h2, _⟩ := hP
                   obtain ⟨v', w3, hr, hb, hrow⟩ := wrapp_second (B := R + 1) w' _ _ D m h1 h2 HONM.out (by have := HL.out; omega) hBw'
                   refine wrwp_app _ _ rfl rfl _ _ v' w3 (by simp only [Act.eval, Array.getD_eq_getD_getElem?]) (by simp only [Act.eval, Array.getD_eq_getD_getElem?]) hr ?_
                   refine hK' _ _ hb trivial ?_
                   intro d hd; cases hd; exact hrow)
                | (obtain ⟨h5, h140, _⟩ := hP
                   refine wp_store_row 38 _ _ rfl R Z (by simp only [Act.eval, Array.getD_eq_getD_getElem?]; exact h5) (by simp only [Act.eval, Array.getD_eq_getD_getElem?]; exact h140) 38 Z HS'.out.r HZ17.out rfl HZ1.out ?_
                   rw [setRow_self w' R Z _ _ HS'.out.r]
                   refine hK' _ _ .refl trivial ?_; intro d hd; cases hd)
                | (obtain ⟨h1, _⟩ := hP
                   refine wp_load_midO 38 _ rfl H 1 (by simp only [Act.eval, Array.getD_eq_getD_getElem?]; exact h1) mc.toList _ HRX'.out Try.underlying38 rfl HMS.out ?_
                   refine hK' _ _ .refl trivial ?_; intro d hd; cases hd; rfl)
                | (obtain ⟨h1, h2, _⟩ := hP
                   conv at h1 => whnf
                   conv at h2 => whnf
                   rw [HDV.out] at h1
                   clear c20'
                   go_simp
                   refine hK' _ _ .refl trivial ?_; intro d hd; cases hd; rfl)
                | (obtain ⟨h1, h2, _⟩ := hP
                   refine iwp_bi _ _ o.m o.sl ver rfl (by simp only [Act.eval, Array.getD_eq_getD_getElem?]; exact h1.trans (congrArg Value.agg (show mc.toList.toArray = _ from HMC.out))) (by simp only [Act.eval, Array.getD_eq_getD_getElem?]; exact h2) ?_
                   rw [show ((o.m.cells o.sl).toList ++ [.int .i64 ver, Value.slice none 0 0]) = djc m from by rw [← HMC.out]; exact HMD.out.symm]
                   refine hK' _ _ .refl trivial ?_; intro d hd; cases hd; rfl)
                | (repeat (obtain ⟨h, hP⟩ := hP; conv at h => whnf)
                   try go_simp
                   first
                    | (refine hK' _ _ .refl trivial ?_; intro d hd; cases hd; first | rfl | exact h | exact HZE.out | exact HME.out | (show _ = _; simp))
                    | (trace_state; fail)))
      · intro f w5 hRl hf hT ok hd ho
        have h4 : wRRow (R + 1) false (D ++ [m]) (f 4) w5 := hf 4 (by simp)
        have h6 : f 6 = .bool false := hf 6 (by simp)
        have hS5 := HSX.out.keep (hRl.block H HHB.out.1) (hRl.block R HHB.out.2.1) (⟨hRl.os.trans HSX.out.below.os, hRl.tape.trans HSX.out.below.tape, hRl.output.trans HSX.out.below.output, Nat.le_trans HSX.out.below.size hRl.size, fun k hk => (hRl.block k (by have := HHB.out.2.2; omega)).trans (HSX.out.below.block k hk)⟩)
        have hD5 := HDX.out.stay (fun k hk => hRl.block k (by have := HDL3.out k hk; have := HHB.out.2.2; omega))
        obtain ⟨v4, hv4⟩ : ∃ v4, v4 = f 4 := ⟨_, rfl⟩
        rw [← hv4] at h4
        have HV4 := Lib.hid h4
        have HS5 := Lib.hid hS5
        have HD5 := Lib.hid hD5
        simp only [putAll, List.foldl_cons, List.foldl_nil, ← hv4, h6]
        dsimp only [Act.put]
        simp only [List.setIfInBounds_toArray]
        simp only [List.set_cons_succ, List.set_cons_zero]
        refine wp_assignW _ ho (.int .i64 0) rfl ?_
        rw [hd]
        dsimp only [Act.put]
        simp only [List.setIfInBounds_toArray]
        simp only [List.set_cons_succ, List.set_cons_zero]
        clear hRl hf hT hd ho h4 h6 hv4 hS5 hD5
        go_wp2_with fail
        refine bodyPost_ret (do_ret HS5.out.r HZS.out rfl rfl rfl rfl) rfl ?_
        rw [HZV.out]
        exact DoOut.snoc HS5.out HHR.out.1 (by rw [← HDV.out]; exact HDL3.out) (by rw [← HDV.out]; exact HD5.out) HV4.out HWS.out (HBV.out _) (fun k hk => by rw [← HDV.out]; exact HMO.out k hk) HJT.out mg0 (.slice none 0 0) false 0 (WsAt.nil _) (by rw [← HZV.out]; exact HS5.out.r)
end Go.Proofs.Ytbhlgceicfjncaa

namespace Go.Proofs.Ytbhlgceicfjncaa
open Go.RowKit
set_option linter.unusedVariables false
set_option linter.unnecessarySimpa false
set_option linter.unusedSimpArgs false
set_option maxRecDepth 100000

set_option maxHeartbeats 16000000 in
theorem do_flip_other {wb w : World} {D : List Dj} {dv : Value} (o : Wo) (hd : DocW wb w D dv) (hbw : Below wb.heap.size wb w) (hl : D.length ≤ 1000) (hk : o.kind % 5 = 4) (hhas : hasW (D.map Prod.fst) o.i = true) (hall0 : AllOk (D.map Prod.fst)) (hbit : 0 ≤ o.bit) (hbit2 : o.bit ≤ 9223372036854775807) (hon0 : ((D.map Prod.fst).getD o.i.toNat wj0).on = true) (hoth : (((D.map Prod.fst).getD o.i.toNat wj0).k : Int) ≠ o.bit % (((D.map Prod.fst).getD o.i.toNat wj0).bits : Int)) :
    Calls Try.prog 14 #[dv, .agg o.cells] w (DoOut wb w D dv (flipJ (D.map Prod.fst) o.i o.bit) mg0 false 0) := by
  have hall := Lib.hid hall0
  have HON0 := Lib.hid hon0
  have HBW := Lib.hid hbw
  have HBIT := Lib.hid (And.intro hbit hbit2)
  have HOTH := Lib.hid hoth
  clear hall0 hon0 hbw hbit hbit2 hoth
  have hh := hasW_iff.1 hhas
  rw [List.length_map] at hh
  obtain ⟨j, hj⟩ : ∃ j : Nat, o.i = (j : Int) := ⟨o.i.toNat, by omega⟩
  have hjD : j < D.length := by omega
  obtain ⟨kb, c, rfl, hkb, _⟩ := hd.at_ hjD
  obtain ⟨kind, hkd⟩ : ∃ kind, kind = o.kind := ⟨_, rfl⟩
  have hz : (kind : Int) % 5 = 4 := by rw [hkd]; omega
  have HS0 := DoS.start w o.cells #[.int .i64 0, .int .i64 0, .int .i64 0, .int .i64 0, .int .i64 0, .int .i64 0, .int .u64 0, .int .u64 0, .string ⟨#[]⟩, .bool false, .int .u64 0, .bool false, .string ⟨#[]⟩, .slice none 0 0, .string ⟨#[]⟩, .int .u64 0, .int .u64 0]
  obtain ⟨w0, hw0⟩ : ∃ w0, w0 = (w.alloc (.cells o.cells 40)).alloc (.cells #[.int .i64 0, .int .i64 0, .int .i64 0, .int .i64 0, .int .i64 0, .int .i64 0, .int .u64 0, .int .u64 0, .string ⟨#[]⟩, .bool false, .int .u64 0, .bool false, .string ⟨#[]⟩, .slice none 0 0, .string ⟨#[]⟩, .int .u64 0, .int .u64 0] 38) := ⟨_, rfl⟩
  rw [← hw0] at HS0
  obtain ⟨R, hR⟩ : ∃ R, R = w.heap.size + 1 := ⟨_, rfl⟩
  obtain ⟨H, hH⟩ : ∃ H, H = w.heap.size := ⟨_, rfl⟩
  rw [← hR, ← hH] at HS0
  have HHR := Lib.hid (And.intro hR hH)
  have HDL := Lib.hid hd.lt
  have HD0 := Lib.hid (hd.below HS0.below)
  obtain ⟨C, hC⟩ : ∃ C, C = o.cells := ⟨_, rfl⟩
  rw [← hC] at HS0 hw0 ⊢
  have hc0 : C[0]? = some (.int .u8 (kind : Int)) := by rw [hC, hkd]; rfl
  have hc20 : C[20]? = some (.int .i64 o.i) := by rw [hC]; rfl
  have HS := Lib.hid HS0
  have c0 := (HS0.c 0).trans hc0
  have c20 := (HS0.c 20).trans hc20
  obtain ⟨bit, hbe⟩ : ∃ bit, bit = o.bit := ⟨_, rfl⟩
  have HC21 : Hid (C[21]? = some (.int .i64 bit)) := Lib.hid (by rw [hC, hbe]; rfl)
  have HBE := Lib.hid hbe
  rw [hj] at c20 hc20
  obtain ⟨n, hn⟩ : ∃ n, n = D.length := ⟨_, rfl⟩
  have HL := Lib.hid hl
  have HN := Lib.hid hn
  have hjn : (j : Int) < (n : Int) := by omega
  have hjz : (0 : Int) ≤ (j : Int) := by omega
  have hnm : n ≤ 1000 := by omega
  have HC0 := Lib.hid hc0
  have HC20 := Lib.hid hc20
  have HJ := Lib.hid hj
  have HHAS := Lib.hid hhas
  have HONE := Lib.hid hd.ones
  rw [← hn]
  clear hd HS0 hc0 hc20 hC hkd hl hhas hh hkb hjD hn hj hk hbe
  go_enter Try.func14, Try.ntmps14
  go_upto_region 1 with fail
  rw [← hw0, ← hR, ← hH]
  clear hw0 hR hH
  go_wp2_with fail
  go_loopg [9, 10] n (fun g s9 s10 wx => ∃ (i : Nat) (rv : Value), i + g = n ∧ rv = s9 ∧ s10 = .int .i64 i ∧ Hid (DoS w H R C #[.int .i64 0, .int .i64 0, .int .i64 0, .int .i64 0, .int .i64 0, .int .i64 0, .int .u64 0, .int .u64 0, .string ⟨#[]⟩, .bool false, .int .u64 0, .bool false, .string ⟨#[]⟩, .slice none 0 0, .string ⟨#[]⟩, .int .u64 0, .int .u64 0] wx) ∧ Hid (DocW wb wx D (.slice (some ⟨kb, 0, none⟩) n c)) ∧ Hid (wx.ownsRow (R + 1) 54 19 rv ((D.take i).eraseIdx j).length (dcs ((D.take i).eraseIdx j))))
  case atStart => exact ⟨0, _, by omega, rfl, rfl, HS, by rw [← HN.out] at HD0; exact HD0, Lib.hid (by rw [List.take_zero, List.eraseIdx_nil]; exact World.ownsRow_nil _ _ _ _)⟩
  case round =>
    obtain ⟨i, rv, hig, rfl, rfl, hS, hD, hO⟩ := hrel
    clear HS HD0
    have c0 := (hS.out.c 0).trans HC0.out
    have c20 := (hS.out.c 20).trans HC20.out
    cases gk with
    | succ g =>
      have hin : i < n := by omega
      have hiz : (i : Int) < (n : Int) := by omega
      obtain ⟨rl, hrl⟩ : ∃ rl, rl = ((D.take i).eraseIdx j).length := ⟨_, rfl⟩
      have hO2 := hO
      rw [← hrl] at hO2
      by_cases hij : i = j
      · have hne : ((i : Int) != (j : Int)) = false := by rw [bne_eq_false_iff_eq]; omega
        have he : (D.take (i + 1)).eraseIdx j = (D.take i).eraseIdx j := by rw [hij]; exact erase_same (by have := HN.out; omega)
        have HE := Lib.hid he
        clear he hij hO2 hrl
        go_wp2_with fail
        go_roundg g
        case measure => omega
        case rel => exact ⟨i + 1, _, by omega, rfl, by go_num, hS, hD, Lib.hid (by rw [HE.out]; exact hO.out)⟩
      · have hne : ((i : Int) != (j : Int)) = true := by rw [bne_iff_ne]; omega
        obtain ⟨d, hdd⟩ : ∃ d, d = D.getD i dj0 := ⟨_, rfl⟩
        have he : (D.take (i + 1)).eraseIdx j = (D.take i).eraseIdx j ++ [d] := by rw [hdd]; exact erase_step (by have := HN.out; omega) hij
        have HE := Lib.hid he
        obtain ⟨k', c', e', hkl, hci⟩ := hD.out.at_ (i := i) (by have := HN.out; omega)
        injection e' with e1 e2 e3
        injection e1 with e1
        injection e1 with e1
        subst e1
        rw [← hdd] at hci
        have hra : wr.rangeAt kb (i * 19) (djc d) := fun q u hq => (hci q (by rw [← djc_len d]; exact (List.getElem?_eq_some_iff.1 hq).1)).trans hq
        have HRA := Lib.hid hra
        have hon : ∀ u ∈ djc d, u.oneCell' = true := djc_one d (hD.out.sl d (by rw [hdd]; exact dj_mem (by have := HN.out; omega))).isSl (hD.out.bv d (by rw [hdd]; exact dj_mem (by have := HN.out; omega))).sl
        have HON := Lib.hid hon
        have hrlm : rl ≤ i := by rw [hrl]; exact Nat.le_trans (List.length_eraseIdx_le _ _) (by rw [List.length_take]; omega)
        have HRL := Lib.hid hrl
        have HBS := Lib.hid (show R + 1 ≤ wr.heap.size from hS.out.rl)
        obtain ⟨nf, nz, hi, hz0, hz1, hz2, hz3⟩ := itemI
        have HIJ := Lib.hid hij
        clear he hdd hci hra hon hrl hij hkl e2 e3
        go_wp2_with (first
          | (refine wpList_load_midW rfl 54 _ rfl kb (i * 19) (by simp only [Act.eval, Act.put]; first | rfl | simp) (djc d) _ HRA.out Try.underlying54 rfl itemSz ?_; dsimp only [Act.put])
          | (refine wpList_plain rfl fun K hK => iwp_bs1 _ d rfl (by first | rfl | simp) ?_; refine hK _ _ ?_; dsimp only [Act.put])
          | (at_builtin; refine wpList_append_own2 rfl _ _ 30 rfl (R + 1) 54 nf nz 19 208 Try.underlying30 hi hz0 hz2 hz3 hz1 (by decide) rv rl (dcs ((D.take i).eraseIdx j)) rfl (hO2.out.alloc _) ⟨wr.heap.size, 0, none⟩ 1 1 (djc d) rfl rfl (fun q u hq => by rw [Addr.add_lit, Nat.zero_add, cell_of_row _ _ _ _ _ _ (heap_alloc_new wr _)]; simpa using hq) HON.out (by unfold maxLen; omega) (by omega) (Nat.le_trans HBS.out (by simp)) ?_; intro v9 w9 hown9 hg9 hk9; have HO9 := Lib.hid hown9; have HG9 := Lib.hid hg9; clear hown9 hg9 hk9)
          )
        have hal := (Below.refl wr.heap.size wr).alloc (Nat.le_refl _) (.cells (djc d).toArray 54)
        have hno : ∀ q, q < R + 1 → some q ≠ rv.ownBlock := fun q hq e => by have := (hO2.out.lt q e.symm).1; omega
        have hkk : ∀ q, q < R + 1 → w9.heap[q]? = wr.heap[q]? := fun q hq => (HG9.out.block q (by have := HBS.out; simp; omega) (hno q hq)).trans (hal.block q (by have := HBS.out; omega))
        have hb9 : Below w.heap.size w w9 := ⟨HG9.out.os.trans (hal.os.trans hS.out.below.os), HG9.out.tape.trans (hal.tape.trans hS.out.below.tape), HG9.out.output.trans (hal.output.trans hS.out.below.output), Nat.le_trans hS.out.below.size (Nat.le_trans hal.size HG9.out.size), fun q hq => (hkk q (by have := HHR.out; omega)).trans (hS.out.below.block q hq)⟩
        have hS9 := Lib.hid (hS.out.keep (hkk H (by have := HHR.out; omega)) (hkk R (by omega)) hb9)
        have hD9 := Lib.hid (hD.out.stay (fun q hq => hkk q (by have h1 := HDL.out q; rw [← HN.out] at h1; have := h1 hq; have := HHR.out; omega)))
        clear hal hno hkk hb9
        go_wp2_with fail
        go_roundg g
        case measure => omega
        case rel => exact ⟨i + 1, _, by omega, rfl, by go_num, hS9, hD9, Lib.hid (by rw [HE.out, dcs_app, dcs_one1, List.length_append, ← HRL.out]; exact HO9.out)⟩
    | zero =>
      obtain rfl : i = n := by omega
      have he : D.take i = D := List.take_of_length_le (by have := HN.out; omega)
      rw [he] at hO
      have HDL2 := Lib.hid (show ∀ k, docO (.slice (some ⟨kb, 0, none⟩) i c) D k → k < w.heap.size from by rw [HN.out]; exact HDL.out)
      obtain ⟨d, hdd⟩ : ∃ d, d = D.getD j dj0 := ⟨_, rfl⟩
      have hjl : j < D.length := by have := HN.out; omega
      have hdm : d ∈ D := by rw [hdd]; exact dj_mem hjl
      have hdx : (D.map Prod.fst).getD j wj0 = d.1 := by rw [hdd, dj_fst]
      obtain ⟨k', c', e', hkl, hci⟩ := hD.out.at_ (i := j) hjl
      injection e' with e1 e2 e3
      injection e1 with e1
      injection e1 with e1
      subst e1
      rw [← hdd] at hci
      have HRA := Lib.hid (show wr.rangeAt kb (j * 19) (djc d) from fun q u hq => (hci q (by rw [← djc_len d]; exact (List.getElem?_eq_some_iff.1 hq).1)).trans hq)
      have hbv := hD.out.bv d hdm
      have hws := hD.out.sl d hdm
      have hok := hall.out.at_ (i := j) (by rw [List.length_map]; exact hjl)
      rw [hdx] at hok
      have HON := Lib.hid (show (djc d).toArray.all (·.oneCell') = true from by rw [Array.all_eq_true_iff_forall_mem]; intro u hu; exact djc_one d hws.isSl hbv.sl u (by simpa using hu))
      have hon : d.1.on = true := by have := HON0.out; rw [HJ.out, Int.toNat_natCast, hdx] at this; exact this
      have HBT := Lib.hid (show 0 ≤ bit ∧ bit ≤ 9223372036854775807 from by rw [HBE.out]; exact HBIT.out)
      have HK := Lib.hid (show ((d.1.k : Nat) : Int) ≠ bit % (d.1.bits : Int) from by have := HOTH.out; rw [HJ.out, Int.toNat_natCast, hdx, ← HBE.out] at this; exact this)
      obtain ⟨b, hbe, hbl, hbc⟩ : ∃ b, d.2 = .slice (some ⟨b, 0, none⟩) 1 1 ∧ b < wr.heap.size ∧ wr.cell? ⟨b, 0, none⟩ = some (.int .i64 (d.1.k : Int)) := by
        rcases hbv with ⟨h1, b, h2, h3, h4⟩ | ⟨h1, h2⟩
        · exact ⟨b, h2, h3, h4⟩
        · exact absurd h1 (by rw [hon]; decide)
      have HCB := Lib.hid (fun W (hB : Below wr.heap.size wr W) => (hB.cell (p := ⟨b, 0, none⟩) hbl).trans hbc)
      obtain ⟨kk, hkk⟩ : ∃ kk : Nat, kk = d.1.k := ⟨_, rfl⟩
      have HKX := HK
      rw [← hkk] at HCB HK
      have hpl := pay_len hok.right hok.v
      have hbits : (d.1.bits : Int) = 8 * (4 + ((payW d.1.m d.1.v).size : Int)) := by unfold Wj.bits; rw [payW_size]; omega
      have HVI := Lib.hid (show -9223372036854775808 ≤ d.1.v ∧ d.1.v ≤ 9223372036854775807 from by rcases hok.v with h | h | h <;> rw [h] <;> decide)
      have HLA := Lib.hid (fun W => last_any d.1.v HVI.out W)
      have HWS := Lib.hid hws
      have HBY : Hid (∀ W, Below w.heap.size w W → Calls Try.prog 31 #[.agg (d.1.m.cells d.1.sl), .int .i64 (lastOfM d.1.v)] W fun e w' => e = .returned (.string (payW d.1.m d.1.v)) ∧ Below W.heap.size W w') := Lib.hid (fun W hB => refBytes_any d.1.m d.1.sl (right_sane hok.right hok.fits) (lastOfM d.1.v) (lastOfM_le _) W ((HWS.out.below HBW.out).below hB))
      obtain ⟨P, hP⟩ : ∃ P, P = payW d.1.m d.1.v := ⟨_, rfl⟩
      obtain ⟨la, hla⟩ : ∃ la, la = lastOfM d.1.v := ⟨_, rfl⟩
      rw [← hP] at hpl hbits HBY
      rw [← hla] at HLA HBY
      obtain ⟨ver, hver⟩ : ∃ ver, ver = d.1.v := ⟨_, rfl⟩
      rw [← hver] at HLA
      obtain ⟨mc, hmc⟩ : ∃ mc, mc = d.1.m.cells d.1.sl := ⟨_, rfl⟩
      have HMC := Lib.hid hmc
      have hmcs : mc.toList.length = 17 := by rw [hmc]; rfl
      have HMS := Lib.hid (show (Try.prog.info? 38).map (·.size) = some mc.toList.length from by rw [hmcs]; exact msg_size)
      rw [← hmc] at HBY
      have hdc : djc d = mc.toList ++ [.int .i64 ver, (.slice (some ⟨b, 0, none⟩) 1 1)] := by unfold djc; rw [← hmc, ← hver, hbe]
      have HRK : Hid (∀ W, Below wr.heap.size wr W → W.rangeAt kb (j * 19) mc.toList ∧ W.cell? ⟨kb, j * 19 + 17, none⟩ = some (.int .i64 ver) ∧ W.cell? ⟨kb, j * 19 + 18, none⟩ = some (.slice (some ⟨b, 0, none⟩) 1 1)) := Lib.hid (fun W hB => by
        have hcc : ∀ q, q < 19 → W.cell? ⟨kb, j * 19 + q, none⟩ = (djc d)[q]? := fun q hq => (hB.cell (p := ⟨kb, j * 19 + q, none⟩) hkl).trans (hci q hq)
        refine ⟨fun q u hq => ?_, ?_, ?_⟩
        · have hq17 := (List.getElem?_eq_some_iff.1 hq).1
          rw [hcc q (by omega), hdc, List.getElem?_append_left hq17]; exact hq
        · rw [hcc 17 (by decide), hdc, List.getElem?_append_right (by omega), hmcs]; rfl
        · rw [hcc 18 (by decide), hdc, List.getElem?_append_right (by omega), hmcs]; rfl)
      have HCC := Lib.hid (fun W (hW : DoS w H R C #[.int .i64 0, .int .i64 0, .int .i64 0, .int .i64 0, .int .i64 0, .int .i64 0, .int .u64 0, .int .u64 0, .string ⟨#[]⟩, .bool false, .int .u64 0, .bool false, .string ⟨#[]⟩, .slice none 0 0, .string ⟨#[]⟩, .int .u64 0, .int .u64 0] W) => And.intro ((hW.c 20).trans HC20.out) ((hW.c 21).trans HC21.out))
      obtain ⟨nb, hnb⟩ : ∃ nb : Int, nb = 8 * (4 + (P.size : Int)) := ⟨_, rfl⟩
      have HNB := Lib.hid hnb
      have HNB2 := Lib.hid (show 40 ≤ nb ∧ nb ≤ 40000 from by omega)
      have HBITS := Lib.hid (show (d.1.bits : Int) = nb from by rw [hbits, hnb])
      have hwr1 : IntKind.i64.wrap (4 + (P.size : Int)) = 4 + (P.size : Int) := by rw [IntKind.wrap_i64]; omega
      have hwr2 : IntKind.i64.wrap (8 * (4 + (P.size : Int))) = 8 * (4 + (P.size : Int)) := by rw [IntKind.wrap_i64]; omega
      have HOK := Lib.hid hok
      have HDX1 := Lib.hid hdx
      have HDM := Lib.hid hdm
      have HON2 := Lib.hid hon
      have HVER := Lib.hid hver
      clear hbits hpl hver hla hmc hmcs hdc hci hkl hbv hws hok hnb hdd hdx hjl hdm hon hP hbe e2 e3 c20 hbl hbc hkk
      have c21 := (HCC.out _ hS.out).2
      have c20 := (HCC.out _ hS.out).1
      have c17 := (HRK.out wr (Below.refl _ _)).2.1
      have b0 : (decide (0 ≤ bit)) = true := by rw [decide_eq_true_eq]; exact HBT.out.1
      have b1 : 0 ≤ bit := HBT.out.1
      go_upto_region 34 with fail
      clear c20 c21 c17
      have hx20 : ∀ x : Like wr.heap.size wr, x.val.cell? ⟨H, 20, none⟩ = some (.int .i64 (j : Int)) := fun x => (HCC.out _ (hS.out.later x.below)).1
      have hx17 : ∀ x : Like wr.heap.size wr, x.val.cell? ⟨kb, j * 19 + 17, none⟩ = some (.int .i64 ver) := fun x => (HRK.out _ x.below).2.1
      refine region_likes (by kernel_rfl) (by kernel_rfl) ?_
      repeat (first
        | (go_big_quiet_want; refine quiet_midW 38 _ rfl kb (j * 19) (by simp only [Act.eval, Act.put]; first | rfl | simp) mc.toList _ (fun w' ⟨x, hx⟩ => by rw [hx]; exact (HRK.out _ x.below).1) Try.underlying38 rfl HMS.out ?_; go_simp; go_big_quiet_on)
        | (go_big_quiet_step (first
            | (go_at_call 32; exact calls_likes_same ((HLA.out _).mono fun _ _ hh => ⟨hh.1, hh.2.symm⟩))
            | (go_at_call 31; exact calls_likes (Like.size _) (HBY.out _ (hS.out.later (Like.below _)).below)))))
      refine wpQuiet_nil ?_
      intro x
      obtain ⟨w2, hw2⟩ : ∃ w2, w2 = x.val := ⟨_, rfl⟩
      have HB2 := Lib.hid (show Below wr.heap.size wr w2 from by rw [hw2]; exact x.below)
      rw [← hw2]
      clear hw2 x hx20 hx17
      rw [← HNB.out]
      clear hwr1 hwr2 HLA HBY
      have hS2 := hS.out.later HB2.out
      have hD2 := (hD.out.below HB2.out).below ((Below.refl w2.heap.size w2).alloc (Nat.le_refl _) (.cells #[] 54))
      have hB2 : R + 1 ≤ w2.heap.size := hS2.rl
      obtain ⟨v4, w3, hr, hb3, h, cap, cur, hv4, hh, hcur, hcs, hl1, hl2, htk, -⟩ := wrapp_first (B := R + 1) (w2.alloc (.cells #[] 54)) _ (some ⟨kb, 0, none⟩) i c D (wrrow_empty w2 hB2) (by have := hD2.own; rw [← HN.out] at this; exact this) HN.out.symm HONE.out (by omega) (fun e => by cases e) (by simp; omega)
      rw [← HN.out] at hv4 hl1
      have HAP := Lib.hid hr
      have HB3 := Lib.hid (HB2.out.trans ((((Below.refl w2.heap.size w2).alloc (Nat.le_refl _) (.cells #[] 54)).trans (hb3.mono (by simp))).mono HB2.out.size))
      have HROW := Lib.hid (And.intro hh (And.intro hcur (And.intro hcs (And.intro hl1 (And.intro hl2 htk)))))
      have HV4 := Lib.hid hv4
      clear hr hb3 hv4 hh hcur hcs hl1 hl2 htk hS2 hD2 hB2
      go_upto_region 36 with (first
        | (refine wpList_plain rfl fun K hK => iwp_bs0 rfl ?_; refine hK _ _ ?_; dsimp only [Act.put])
        | (refine wpList_plain rfl fun K hK => wrwp_app _ _ rfl rfl _ (.slice (some ⟨kb, 0, none⟩) i c) v4 w3 (by simp only [Act.eval, Act.put]; first | rfl | simp) (by simp only [Act.eval, Act.put]; first | rfl | simp) HAP.out ?_; refine hK _ _ ?_; dsimp only [Act.put]))
      rw [HV4.out]
      have c20 := (HCC.out _ (hS.out.later HB3.out)).1
      have c17 := (HRK.out _ HB3.out).2.1
      obtain ⟨Y0, hY0⟩ : ∃ Y0, Y0 = ((d.1.m.cells d.1.sl).toList ++ [.int .i64 ver, Value.slice none 0 0]).toArray := ⟨_, rfl⟩
      have HY0 := Lib.hid hY0
      have HYS := Lib.hid (show (Try.prog.info? 54).map (·.size) = some Y0.size from by rw [hY0]; exact itemSz)
      have HYZ := Lib.hid (show Y0.size = 19 from by rw [hY0]; rfl)
      have HYO := Lib.hid (show Y0.all (·.oneCell') = true from by
        rw [hY0]
        refine all_oneCell_toArray fun u hu => ?_
        obtain ⟨a1, b1, c1, hsl⟩ := HWS.out.isSl
        exact djc_one (⟨d.1.m, d.1.sl, ver, false, 0⟩, .slice none 0 0) ⟨a1, b1, c1, hsl⟩ ⟨_, _, _, rfl⟩ u hu)
      clear hY0
      clear c20 c17
      obtain ⟨zi, hzi⟩ : ∃ zi : Array Value, zi = #[.int .i64 0, .int .i64 0, .int .i64 0, .int .i64 0, .int .i64 0, .int .i64 0, .int .u64 0, .int .u64 0, .string ⟨#[]⟩, .bool false, .int .u64 0, .bool false, .string ⟨#[]⟩, .slice none 0 0, .string ⟨#[]⟩, .int .u64 0, .int .u64 0, .int .i64 0, .slice none 0 0] := ⟨_, rfl⟩
      have HZI := Lib.hid hzi
      have HZS := Lib.hid (show zi.size = 19 from by rw [hzi]; rfl)
      clear hzi
      go_upto_region 36 with fail
      refine wp_region_tailN [0, 3] [19, 181] (fun x y => Below x.heap.size x y) (psi36 w3.heap.size H kb i c j ver mc Y0 zi) (fun _ _ => True) 221 14 none (.store 54 (.tmp 19) (.tmp 181)) (by kernel_rfl) (by kernel_rfl) (by kernel_rfl) (by kernel_rfl) rfl (by kernel_rfl) (by kernel_rfl)
        ((Below.refl _ _).drew) (fun _ _ _ h k => h.trans (k.mono h.size)) (fun _ _ _ _ h k => psi36_stable h k) (fun _ _ _ _ _ => trivial) ?_ ?_ [169, 170, 171, 172, 173, 174, 175, 176, 177, 178, 179, 180, 181, 19] (by kernel_rfl) ?_
      · intro t ht w' _
        simp only [List.mem_cons, List.not_mem_nil, or_false] at ht
        rcases ht with rfl | rfl <;> rfl
      · repeat' (first | exact AllStepsL.nil | refine AllStepsL.cons ?_ ?_)
        all_goals
          intro hik
          first
            | (exfalso; revert hik; decide)
            | (intro a' w' K' Q' hRl hP hK'
               have c20 := (HCC.out _ (hS.out.later (HB3.out.trans (hRl.mono HB3.out.size)))).1
               have c17 := (HRK.out _ (HB3.out.trans (hRl.mono HB3.out.size))).2.1
               have hrk := (HRK.out _ (HB3.out.trans (hRl.mono HB3.out.size))).1
               have hsz := hRl.size
               clear hRl
               first
                | (obtain ⟨h1, _⟩ := hP
                   refine wp_load_midO 38 _ rfl kb (j * 19) (by simp only [Act.eval, Array.getD_eq_getD_getElem?]; exact h1) mc.toList _ hrk Try.underlying38 rfl HMS.out ?_
                   refine hK' _ _ (Below.refl _ _) trivial ?_; intro d hd; cases hd; rfl)
                | (obtain ⟨h1, h2, _⟩ := hP
                   refine iwp_bi2 _ _ d.1.m d.1.sl ver mc Y0 HMC.out HY0.out rfl (by simp only [Act.eval, Array.getD_eq_getD_getElem?]; exact h1) (by simp only [Act.eval, Array.getD_eq_getD_getElem?]; exact h2) ?_
                   refine hK' _ _ (Below.refl _ _) trivial ?_; intro d hd; cases hd; rfl)
                | (repeat (obtain ⟨h, hP⟩ := hP; conv at h => whnf)
                   try go_simp
                   first
                    | (refine hK' _ _ (Below.refl _ _) trivial ?_; intro d hd; cases hd; first | rfl | exact h | (show _ = _; simp))
                    | (rw [← HZI.out]; refine hK' _ _ ((Below.refl _ _).alloc (Nat.le_refl _) _) trivial ?_; intro d hd; cases hd; exact ⟨_, rfl, hsz, heap_alloc_new w' _⟩)
                    | (trace_state; fail)))
      · intro f w4 hRl hf hT ok hd ho
        obtain ⟨X, h19, hX, hxr⟩ : ∃ g, f 19 = .pointer (some ⟨g, 0, none⟩) ∧ w3.heap.size ≤ g ∧ w4.heap[g]? = some (.cells zi 54 (0, 0)) := hf 19 (by simp)
        have h181 : f 181 = .agg Y0 := hf 181 (by simp)
        have hbX := below_setRow hRl hX Y0
        have hrX := setRow_heap _ _ _ Y0 _ _ hxr
        simp only [putAll, List.foldl_cons, List.foldl_nil, h19, h181]
        dsimp only [Act.put]
        simp only [List.setIfInBounds_toArray]
        simp only [List.set_cons_succ, List.set_cons_zero]
        refine wp_store_row 54 _ _ ho X Y0 rfl rfl 54 zi hxr HYS.out (by rw [HYZ.out, HZS.out]) HYO.out ?_
        rw [hd]
        clear hf hT hd ho h19 h181 hRl
        obtain ⟨wX, hwX⟩ : ∃ wX, wX = w4.setRow X Y0 := ⟨_, rfl⟩
        rw [← hwX] at hbX hrX ⊢
        have HB4 := Lib.hid (HB3.out.trans (hbX.mono HB3.out.size))
        have HRX := Lib.hid hrX
        have HROW4 := Lib.hid ((hbX.block h (Array.getElem?_eq_some_iff.1 HROW.out.2.1).1).trans HROW.out.2.1)
        have HXN := Lib.hid (show wr.heap.size ≤ X ∧ X ≠ h ∧ h < X from by have h1 := HB3.out.size; have h2 := (Array.getElem?_eq_some_iff.1 HROW.out.2.1).1; omega)
        clear hwX hX hbX hrX hxr
        have c20 := (HCC.out _ (hS.out.later HB4.out)).1
        have c21 := (HCC.out _ (hS.out.later HB4.out)).2
        have c18 := (HRK.out _ HB4.out).2.2
        have hnb0 : ¬ nb = 0 := by have := HNB2.out; omega
        have hnb1 : (nb == 0) = false := by rw [beq_eq_false_iff_ne]; exact hnb0
        have hnm1 : ¬ nb = -1 := by have := HNB2.out; omega
        obtain ⟨r, hr⟩ : ∃ r, r = Int.tmod bit nb := ⟨_, rfl⟩
        have hrm : r = bit % nb := by rw [hr, Int.tmod_eq_emod_of_nonneg HBT.out.1]
        have hrb : 0 ≤ r ∧ r < nb := by rw [hrm]; exact ⟨Int.emod_nonneg _ hnb0, Int.emod_lt_of_pos _ (by have := HNB2.out; omega)⟩
        have hwr : IntKind.i64.wrap r = r := by rw [IntKind.wrap_i64]; have := HNB2.out; omega
        have HRB := Lib.hid hrb
        have HRM := Lib.hid hrm
        have hr2 := hr.symm
        have hkr : (kk : Int) ≠ r := by rw [hrm, ← HBITS.out]; exact HK.out
        have hk1 : (((kk : Nat) : Int) != r) = true := by rw [bne_iff_ne]; exact hkr
        clear hrm hrb hr
        go_upto_region 38 with fail
        clear c20 c18 c21
        have hx21 : ∀ x : Like wX.heap.size wX, x.val.cell? ⟨H, 21, none⟩ = some (.int .i64 bit) := fun x => (HCC.out _ (hS.out.later (HB4.out.trans (x.below.mono HB4.out.size)))).2
        have hxb : ∀ x : Like wX.heap.size wX, x.val.cell? ⟨b, 0, none⟩ = some (.int .i64 (kk : Int)) := fun x => HCB.out _ (HB4.out.trans (x.below.mono HB4.out.size))
        refine region_likes (by kernel_rfl) (by kernel_rfl) ?_
        repeat (go_big_quiet_step (fail))
        refine wpQuiet_nil ?_
        intro x
        obtain ⟨w5, hw5⟩ : ∃ w5, w5 = x.val := ⟨_, rfl⟩
        have HB5 := Lib.hid (show Below wX.heap.size wX w5 from by rw [hw5]; exact x.below)
        rw [← hw5]
        clear hw5 x hx21 hxb
        have HB6 := Lib.hid (HB4.out.trans (HB5.out.mono HB4.out.size))
        have HS4 := Lib.hid (hS.out.later HB6.out)
        have HD4 := Lib.hid (hD.out.below HB6.out)
        go_wp2_with (refine wpList_store_row rfl 38 _ _ rfl R #[.int .i64 0, .int .i64 0, .int .i64 0, .int .i64 0, .int .i64 0, .int .i64 0, .int .u64 0, .int .u64 0, .string ⟨#[]⟩, .bool false, .int .u64 0, .bool false, .string ⟨#[]⟩, .slice none 0 0, .string ⟨#[]⟩, .int .u64 0, .int .u64 0] rfl rfl 38 _ HS4.out.r msg_size rfl zero_one ?_)
        refine bodyPost_ret (do_ret (HS4.out.res _).1 rfl rfl rfl rfl rfl) rfl ?_
        have hJ : D.map Prod.fst = flipJ (D.map Prod.fst) o.i o.bit := by
          unfold flipJ
          rw [if_neg]
          rintro ⟨_, _, e⟩
          rw [HJ.out, Int.toNat_natCast, HDX1.out] at e
          unfold Wj.other at e
          rw [HON2.out, Bool.true_and, decide_eq_false_iff_not] at e
          exact e (by rw [← HBE.out]; exact HKX.out)
        exact DoOut.same HS4.out HHR.out.1 HDL2.out HD4.out hJ mg0 (.slice none 0 0) false 0 (WsAt.nil _)
end Go.Proofs.Ytbhlgceicfjncaa
