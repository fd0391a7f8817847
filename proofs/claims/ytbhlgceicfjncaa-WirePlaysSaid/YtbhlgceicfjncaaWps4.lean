/-
  The document's Do, part by part.
-/
import Derived.Test.YtbhlgceicfjncaaWps1
import Derived.Test.YtbhlgceicfjncaaSet45
import Derived.Test.YtbhlgceicfjncaaSet06
import Derived.Test.YtbhlgceicfjncaaSet40
import Derived.Test.YtbhlgceicfjncaaSet03
import Derived.Test.YtbhlgceicfjncaaSet01
namespace Go.Proofs.Ytbhlgceicfjncaa
open Go.RowKit
set_option linter.unusedVariables false
set_option linter.unnecessarySimpa false
set_option linter.unusedSimpArgs false
set_option maxRecDepth 100000

set_option maxHeartbeats 16000000 in
theorem do_flip_off {wb w : World} {D : List Dj} {dv : Value} (o : Wo) (hd : DocW wb w D dv) (hbw : Below wb.heap.size wb w) (hl : D.length ≤ 1000) (hk : o.kind % 5 = 4) (hhas : hasW (D.map Prod.fst) o.i = true) (hall0 : AllOk (D.map Prod.fst)) (hbit : 0 ≤ o.bit) (hbit2 : o.bit ≤ 9223372036854775807) (hon0 : ((D.map Prod.fst).getD o.i.toNat wj0).on = false)  :
    Calls Try.prog 14 #[dv, .agg o.cells] w (DoOut wb w D dv (flipJ (D.map Prod.fst) o.i o.bit) mg0 false 0) := by
  have hall := Lib.hid hall0
  have HON0 := Lib.hid hon0
  have HBW := Lib.hid hbw
  have HBIT := Lib.hid (And.intro hbit hbit2)
  clear hall0 hon0 hbw hbit hbit2
  have hh := hasW_iff.1 hhas
  rw [List.length_map] at hh
  obtain ⟨j, hj⟩ : ∃ j : Nat, o.i = (j : Int) := ⟨o.i.toNat, by omega⟩
  have hjD : j < D.length := by omega
  obtain ⟨kb, c, rfl, hkb, _⟩ := hd.at_ hjD
  obtain ⟨kind, hkd⟩ : ∃ kind, kind = o.kind := ⟨_, rfl⟩
  have hz : (kind : Int) % 5 = 4 := by rw [hkd]; omega
  have HS0 := DoS.start w o.cells #[.int .i64 0, .int .i64 0, .int .i64 0, .int .i64 0, .int .i64 0, .int .i64 0, .int .u64 0, .int .u64 0, .string ⟨#[]⟩, .bool false, .int .u64 0, .bool false, .string ⟨#[]⟩, .slice none 0 0, .string ⟨#[]⟩, .int .u64 0, .int .u64 0]
  obtain ⟨w0, hw0⟩ : ∃ w0, w0 = (w.alloc (.cells o.cells 40)).alloc (.cells #[.int .i64 0, .int .i64 0, .int .i64 0, .int .i64 0, .int .i64 0, .int .i64 0, .int .u64 0, .int .u64 0, .string ⟨#[]⟩, .bool false, .int .u64 0, .bool false, .string ⟨#[]⟩, .slice none 0 0, .string ⟨#[]⟩, .int .u64 0, .int .u64 0] 38) := ⟨_, rfl⟩
  rw [← hw0] at HS0
  obtain ⟨R, hR⟩ : ∃ R, R = w.heap.size + 1 := ⟨_, rfl⟩
  obtain ⟨H, hH⟩ : ∃ H, H = w.heap.size := ⟨_, rfl⟩
  rw [← hR, ← hH] at HS0
  have HHR := Lib.hid (And.intro hR hH)
  have HDL := Lib.hid hd.lt
  have HD0 := Lib.hid (hd.below HS0.below)
  obtain ⟨C, hC⟩ : ∃ C, C = o.cells := ⟨_, rfl⟩
  rw [← hC] at HS0 hw0 ⊢
  have hc0 : C[0]? = some (.int .u8 (kind : Int)) := by rw [hC, hkd]; rfl
  have hc20 : C[20]? = some (.int .i64 o.i) := by rw [hC]; rfl
  have HS := Lib.hid HS0
  have c0 := (HS0.c 0).trans hc0
  have c20 := (HS0.c 20).trans hc20
  obtain ⟨bit, hbe⟩ : ∃ bit, bit = o.bit := ⟨_, rfl⟩
  have HC21 : Hid (C[21]? = some (.int .i64 bit)) := Lib.hid (by rw [hC, hbe]; rfl)
  have HBE := Lib.hid hbe
  rw [hj] at c20 hc20
  obtain ⟨n, hn⟩ : ∃ n, n = D.length := ⟨_, rfl⟩
  have HL := Lib.hid hl
  have HN := Lib.hid hn
  have hjn : (j : Int) < (n : Int) := by omega
  have hjz : (0 : Int) ≤ (j : Int) := by omega
  have hnm : n ≤ 1000 := by omega
  have HC0 := Lib.hid hc0
  have HC20 := Lib.hid hc20
  have HJ := Lib.hid hj
  have HHAS := Lib.hid hhas
  have HONE := Lib.hid hd.ones
  rw [← hn]
  clear hd HS0 hc0 hc20 hC hkd hl hhas hh hkb hjD hn hj hk hbe
  go_enter Try.func14, Try.ntmps14
  go_upto_region 1 with fail
  rw [← hw0, ← hR, ← hH]
  clear hw0 hR hH
  go_wp2_with fail
  go_loopg [9, 10] n (fun g s9 s10 wx => ∃ (i : Nat) (rv : Value), i + g = n ∧ rv = s9 ∧ s10 = .int .i64 i ∧ Hid (DoS w H R C #[.int .i64 0, .int .i64 0, .int .i64 0, .int .i64 0, .int .i64 0, .int .i64 0, .int .u64 0, .int .u64 0, .string ⟨#[]⟩, .bool false, .int .u64 0, .bool false, .string ⟨#[]⟩, .slice none 0 0, .string ⟨#[]⟩, .int .u64 0, .int .u64 0] wx) ∧ Hid (DocW wb wx D (.slice (some ⟨kb, 0, none⟩) n c)) ∧ Hid (wx.ownsRow (R + 1) 54 19 rv ((D.take i).eraseIdx j).length (dcs ((D.take i).eraseIdx j))))
  case atStart => exact ⟨0, _, by omega, rfl, rfl, HS, by rw [← HN.out] at HD0; exact HD0, Lib.hid (by rw [List.take_zero, List.eraseIdx_nil]; exact World.ownsRow_nil _ _ _ _)⟩
  case round =>
    obtain ⟨i, rv, hig, rfl, rfl, hS, hD, hO⟩ := hrel
    clear HS HD0
    have c0 := (hS.out.c 0).trans HC0.out
    have c20 := (hS.out.c 20).trans HC20.out
    cases gk with
    | succ g =>
      have hin : i < n := by omega
      have hiz : (i : Int) < (n : Int) := by omega
      obtain ⟨rl, hrl⟩ : ∃ rl, rl = ((D.take i).eraseIdx j).length := ⟨_, rfl⟩
      have hO2 := hO
      rw [← hrl] at hO2
      by_cases hij : i = j
      · have hne : ((i : Int) != (j : Int)) = false := by rw [bne_eq_false_iff_eq]; omega
        have he : (D.take (i + 1)).eraseIdx j = (D.take i).eraseIdx j := by rw [hij]; exact erase_same (by have := HN.out; omega)
        have HE := Lib.hid he
        clear he hij hO2 hrl
        go_wp2_with fail
        go_roundg g
        case measure => omega
        case rel => exact ⟨i + 1, _, by omega, rfl, by go_num, hS, hD, Lib.hid (by rw [HE.out]; exact hO.out)⟩
      · have hne : ((i : Int) != (j : Int)) = true := by rw [bne_iff_ne]; omega
        obtain ⟨d, hdd⟩ : ∃ d, d = D.getD i dj0 := ⟨_, rfl⟩
        have he : (D.take (i + 1)).eraseIdx j = (D.take i).eraseIdx j ++ [d] := by rw [hdd]; exact erase_step (by have := HN.out; omega) hij
        have HE := Lib.hid he
        obtain ⟨k', c', e', hkl, hci⟩ := hD.out.at_ (i := i) (by have := HN.out; omega)
        injection e' with e1 e2 e3
        injection e1 with e1
        injection e1 with e1
        subst e1
        rw [← hdd] at hci
        have hra : wr.rangeAt kb (i * 19) (djc d) := fun q u hq => (hci q (by rw [← djc_len d]; exact (List.getElem?_eq_some_iff.1 hq).1)).trans hq
        have HRA := Lib.hid hra
        have hon : ∀ u ∈ djc d, u.oneCell' = true := djc_one d (hD.out.sl d (by rw [hdd]; exact dj_mem (by have := HN.out; omega))).isSl (hD.out.bv d (by rw [hdd]; exact dj_mem (by have := HN.out; omega))).sl
        have HON := Lib.hid hon
        have hrlm : rl ≤ i := by rw [hrl]; exact Nat.le_trans (List.length_eraseIdx_le _ _) (by rw [List.length_take]; omega)
        have HRL := Lib.hid hrl
        have HBS := Lib.hid (show R + 1 ≤ wr.heap.size from hS.out.rl)
        obtain ⟨nf, nz, hi, hz0, hz1, hz2, hz3⟩ := itemI
        have HIJ := Lib.hid hij
        clear he hdd hci hra hon hrl hij hkl e2 e3
        go_wp2_with (first
          | (refine wpList_load_midW rfl 54 _ rfl kb (i * 19) (by simp only [Act.eval, Act.put]; first | rfl | simp) (djc d) _ HRA.out Try.underlying54 rfl itemSz ?_; dsimp only [Act.put])
          | (refine wpList_plain rfl fun K hK => iwp_bs1 _ d rfl (by first | rfl | simp) ?_; refine hK _ _ ?_; dsimp only [Act.put])
          | (at_builtin; refine wpList_append_own2 rfl _ _ 30 rfl (R + 1) 54 nf nz 19 208 Try.underlying30 hi hz0 hz2 hz3 hz1 (by decide) rv rl (dcs ((D.take i).eraseIdx j)) rfl (hO2.out.alloc _) ⟨wr.heap.size, 0, none⟩ 1 1 (djc d) rfl rfl (fun q u hq => by rw [Addr.add_lit, Nat.zero_add, cell_of_row _ _ _ _ _ _ (heap_alloc_new wr _)]; simpa using hq) HON.out (by unfold maxLen; omega) (by omega) (Nat.le_trans HBS.out (by simp)) ?_; intro v9 w9 hown9 hg9 hk9; have HO9 := Lib.hid hown9; have HG9 := Lib.hid hg9; clear hown9 hg9 hk9)
          )
        have hal := (Below.refl wr.heap.size wr).alloc (Nat.le_refl _) (.cells (djc d).toArray 54)
        have hno : ∀ q, q < R + 1 → some q ≠ rv.ownBlock := fun q hq e => by have := (hO2.out.lt q e.symm).1; omega
        have hkk : ∀ q, q < R + 1 → w9.heap[q]? = wr.heap[q]? := fun q hq => (HG9.out.block q (by have := HBS.out; simp; omega) (hno q hq)).trans (hal.block q (by have := HBS.out; omega))
        have hb9 : Below w.heap.size w w9 := ⟨HG9.out.os.trans (hal.os.trans hS.out.below.os), HG9.out.tape.trans (hal.tape.trans hS.out.below.tape), HG9.out.output.trans (hal.output.trans hS.out.below.output), Nat.le_trans hS.out.below.size (Nat.le_trans hal.size HG9.out.size), fun q hq => (hkk q (by have := HHR.out; omega)).trans (hS.out.below.block q hq)⟩
        have hS9 := Lib.hid (hS.out.keep (hkk H (by have := HHR.out; omega)) (hkk R (by omega)) hb9)
        have hD9 := Lib.hid (hD.out.stay (fun q hq => hkk q (by have h1 := HDL.out q; rw [← HN.out] at h1; have := h1 hq; have := HHR.out; omega)))
        clear hal hno hkk hb9
        go_wp2_with fail
        go_roundg g
        case measure => omega
        case rel => exact ⟨i + 1, _, by omega, rfl, by go_num, hS9, hD9, Lib.hid (by rw [HE.out, dcs_app, dcs_one1, List.length_append, ← HRL.out]; exact HO9.out)⟩
    | zero =>
      obtain rfl : i = n := by omega
      have he : D.take i = D := List.take_of_length_le (by have := HN.out; omega)
      rw [he] at hO
      have HDL2 := Lib.hid (show ∀ k, docO (.slice (some ⟨kb, 0, none⟩) i c) D k → k < w.heap.size from by rw [HN.out]; exact HDL.out)
      obtain ⟨d, hdd⟩ : ∃ d, d = D.getD j dj0 := ⟨_, rfl⟩
      have hjl : j < D.length := by have := HN.out; omega
      have hdm : d ∈ D := by rw [hdd]; exact dj_mem hjl
      have hdx : (D.map Prod.fst).getD j wj0 = d.1 := by rw [hdd, dj_fst]
      obtain ⟨k', c', e', hkl, hci⟩ := hD.out.at_ (i := j) hjl
      injection e' with e1 e2 e3
      injection e1 with e1
      injection e1 with e1
      subst e1
      rw [← hdd] at hci
      have HRA := Lib.hid (show wr.rangeAt kb (j * 19) (djc d) from fun q u hq => (hci q (by rw [← djc_len d]; exact (List.getElem?_eq_some_iff.1 hq).1)).trans hq)
      have hbv := hD.out.bv d hdm
      have hws := hD.out.sl d hdm
      have hok := hall.out.at_ (i := j) (by rw [List.length_map]; exact hjl)
      rw [hdx] at hok
      have HON := Lib.hid (show (djc d).toArray.all (·.oneCell') = true from by rw [Array.all_eq_true_iff_forall_mem]; intro u hu; exact djc_one d hws.isSl hbv.sl u (by simpa using hu))
      have hon : d.1.on = false := by have := HON0.out; rw [HJ.out, Int.toNat_natCast, hdx] at this; exact this
      have HBT := Lib.hid (show 0 ≤ bit ∧ bit ≤ 9223372036854775807 from by rw [HBE.out]; exact HBIT.out)
      have hbe : d.2 = .slice none 0 0 := by
        rcases hbv with ⟨h1, _⟩ | ⟨h1, h2⟩
        · exact absurd h1 (by rw [hon]; decide)
        · exact h2
      have hpl := pay_len hok.right hok.v
      have hbits : (d.1.bits : Int) = 8 * (4 + ((payW d.1.m d.1.v).size : Int)) := by unfold Wj.bits; rw [payW_size]; omega
      have HVI := Lib.hid (show -9223372036854775808 ≤ d.1.v ∧ d.1.v ≤ 9223372036854775807 from by rcases hok.v with h | h | h <;> rw [h] <;> decide)
      have HLA := Lib.hid (fun W => last_any d.1.v HVI.out W)
      have HWS := Lib.hid hws
      have HBY : Hid (∀ W, Below w.heap.size w W → Calls Try.prog 31 #[.agg (d.1.m.cells d.1.sl), .int .i64 (lastOfM d.1.v)] W fun e w' => e = .returned (.string (payW d.1.m d.1.v)) ∧ Below W.heap.size W w') := Lib.hid (fun W hB => refBytes_any d.1.m d.1.sl (right_sane hok.right hok.fits) (lastOfM d.1.v) (lastOfM_le _) W ((HWS.out.below HBW.out).below hB))
      obtain ⟨P, hP⟩ : ∃ P, P = payW d.1.m d.1.v := ⟨_, rfl⟩
      obtain ⟨la, hla⟩ : ∃ la, la = lastOfM d.1.v := ⟨_, rfl⟩
      rw [← hP] at hpl hbits HBY
      rw [← hla] at HLA HBY
      obtain ⟨ver, hver⟩ : ∃ ver, ver = d.1.v := ⟨_, rfl⟩
      rw [← hver] at HLA
      obtain ⟨mc, hmc⟩ : ∃ mc, mc = d.1.m.cells d.1.sl := ⟨_, rfl⟩
      have HMC := Lib.hid hmc
      have hmcs : mc.toList.length = 17 := by rw [hmc]; rfl
      have HMS := Lib.hid (show (Try.prog.info? 38).map (·.size) = some mc.toList.length from by rw [hmcs]; exact msg_size)
      rw [← hmc] at HBY
      have hdc : djc d = mc.toList ++ [.int .i64 ver, (.slice none 0 0)] := by unfold djc; rw [← hmc, ← hver, hbe]
      have HRK : Hid (∀ W, Below wr.heap.size wr W → W.rangeAt kb (j * 19) mc.toList ∧ W.cell? ⟨kb, j * 19 + 17, none⟩ = some (.int .i64 ver) ∧ W.cell? ⟨kb, j * 19 + 18, none⟩ = some (.slice none 0 0)) := Lib.hid (fun W hB => by
        have hcc : ∀ q, q < 19 → W.cell? ⟨kb, j * 19 + q, none⟩ = (djc d)[q]? := fun q hq => (hB.cell (p := ⟨kb, j * 19 + q, none⟩) hkl).trans (hci q hq)
        refine ⟨fun q u hq => ?_, ?_, ?_⟩
        · have hq17 := (List.getElem?_eq_some_iff.1 hq).1
          rw [hcc q (by omega), hdc, List.getElem?_append_left hq17]; exact hq
        · rw [hcc 17 (by decide), hdc, List.getElem?_append_right (by omega), hmcs]; rfl
        · rw [hcc 18 (by decide), hdc, List.getElem?_append_right (by omega), hmcs]; rfl)
      have HCC := Lib.hid (fun W (hW : DoS w H R C #[.int .i64 0, .int .i64 0, .int .i64 0, .int .i64 0, .int .i64 0, .int .i64 0, .int .u64 0, .int .u64 0, .string ⟨#[]⟩, .bool false, .int .u64 0, .bool false, .string ⟨#[]⟩, .slice none 0 0, .string ⟨#[]⟩, .int .u64 0, .int .u64 0] W) => And.intro ((hW.c 20).trans HC20.out) ((hW.c 21).trans HC21.out))
      obtain ⟨nb, hnb⟩ : ∃ nb : Int, nb = 8 * (4 + (P.size : Int)) := ⟨_, rfl⟩
      have HNB := Lib.hid hnb
      have HNB2 := Lib.hid (show 40 ≤ nb ∧ nb ≤ 40000 from by omega)
      have HBITS := Lib.hid (show (d.1.bits : Int) = nb from by rw [hbits, hnb])
      have hwr1 : IntKind.i64.wrap (4 + (P.size : Int)) = 4 + (P.size : Int) := by rw [IntKind.wrap_i64]; omega
      have hwr2 : IntKind.i64.wrap (8 * (4 + (P.size : Int))) = 8 * (4 + (P.size : Int)) := by rw [IntKind.wrap_i64]; omega
      have HOK := Lib.hid hok
      have HDX1 := Lib.hid hdx
      have HDM := Lib.hid hdm
      have HON2 := Lib.hid hon
      have HVER := Lib.hid hver
      clear hbits hpl hver hla hmc hmcs hdc hci hkl hbv hws hok hnb hdd hdx hjl hdm hon hP hbe e2 e3 c20
      have c21 := (HCC.out _ hS.out).2
      have c20 := (HCC.out _ hS.out).1
      have c17 := (HRK.out wr (Below.refl _ _)).2.1
      have b0 : (decide (0 ≤ bit)) = true := by rw [decide_eq_true_eq]; exact HBT.out.1
      have b1 : 0 ≤ bit := HBT.out.1
      go_upto_region 34 with fail
      clear c20 c21 c17
      have hx20 : ∀ x : Like wr.heap.size wr, x.val.cell? ⟨H, 20, none⟩ = some (.int .i64 (j : Int)) := fun x => (HCC.out _ (hS.out.later x.below)).1
      have hx17 : ∀ x : Like wr.heap.size wr, x.val.cell? ⟨kb, j * 19 + 17, none⟩ = some (.int .i64 ver) := fun x => (HRK.out _ x.below).2.1
      refine region_likes (by kernel_rfl) (by kernel_rfl) ?_
      repeat (first
        | (go_big_quiet_want; refine quiet_midW 38 _ rfl kb (j * 19) (by simp only [Act.eval, Act.put]; first | rfl | simp) mc.toList _ (fun w' ⟨x, hx⟩ => by rw [hx]; exact (HRK.out _ x.below).1) Try.underlying38 rfl HMS.out ?_; go_simp; go_big_quiet_on)
        | (go_big_quiet_step (first
            | (go_at_call 32; exact calls_likes_same ((HLA.out _).mono fun _ _ hh => ⟨hh.1, hh.2.symm⟩))
            | (go_at_call 31; exact calls_likes (Like.size _) (HBY.out _ (hS.out.later (Like.below _)).below)))))
      refine wpQuiet_nil ?_
      intro x
      obtain ⟨w2, hw2⟩ : ∃ w2, w2 = x.val := ⟨_, rfl⟩
      have HB2 := Lib.hid (show Below wr.heap.size wr w2 from by rw [hw2]; exact x.below)
      rw [← hw2]
      clear hw2 x hx20 hx17
      rw [← HNB.out]
      clear hwr1 hwr2 HLA HBY
      have hS2 := hS.out.later HB2.out
      have hD2 := (hD.out.below HB2.out).below ((Below.refl w2.heap.size w2).alloc (Nat.le_refl _) (.cells #[] 54))
      have hB2 : R + 1 ≤ w2.heap.size := hS2.rl
      obtain ⟨v4, w3, hr, hb3, h, cap, cur, hv4, hh, hcur, hcs, hl1, hl2, htk, -⟩ := wrapp_first (B := R + 1) (w2.alloc (.cells #[] 54)) _ (some ⟨kb, 0, none⟩) i c D (wrrow_empty w2 hB2) (by have := hD2.own; rw [← HN.out] at this; exact this) HN.out.symm HONE.out (by omega) (fun e => by cases e) (by simp; omega)
      rw [← HN.out] at hv4 hl1
      have HAP := Lib.hid hr
      have HB3 := Lib.hid (HB2.out.trans ((((Below.refl w2.heap.size w2).alloc (Nat.le_refl _) (.cells #[] 54)).trans (hb3.mono (by simp))).mono HB2.out.size))
      have HROW := Lib.hid (And.intro hh (And.intro hcur (And.intro hcs (And.intro hl1 (And.intro hl2 htk)))))
      have HV4 := Lib.hid hv4
      clear hr hb3 hv4 hh hcur hcs hl1 hl2 htk hS2 hD2 hB2
      go_upto_region 36 with (first
        | (refine wpList_plain rfl fun K hK => iwp_bs0 rfl ?_; refine hK _ _ ?_; dsimp only [Act.put])
        | (refine wpList_plain rfl fun K hK => wrwp_app _ _ rfl rfl _ (.slice (some ⟨kb, 0, none⟩) i c) v4 w3 (by simp only [Act.eval, Act.put]; first | rfl | simp) (by simp only [Act.eval, Act.put]; first | rfl | simp) HAP.out ?_; refine hK _ _ ?_; dsimp only [Act.put]))
      rw [HV4.out]
      have c20 := (HCC.out _ (hS.out.later HB3.out)).1
      have c17 := (HRK.out _ HB3.out).2.1
      obtain ⟨Y0, hY0⟩ : ∃ Y0, Y0 = ((d.1.m.cells d.1.sl).toList ++ [.int .i64 ver, Value.slice none 0 0]).toArray := ⟨_, rfl⟩
      have HY0 := Lib.hid hY0
      have HYS := Lib.hid (show (Try.prog.info? 54).map (·.size) = some Y0.size from by rw [hY0]; exact itemSz)
      have HYZ := Lib.hid (show Y0.size = 19 from by rw [hY0]; rfl)
      have HYO := Lib.hid (show Y0.all (·.oneCell') = true from by
        rw [hY0]
        refine all_oneCell_toArray fun u hu => ?_
        obtain ⟨a1, b1, c1, hsl⟩ := HWS.out.isSl
        exact djc_one (⟨d.1.m, d.1.sl, ver, false, 0⟩, .slice none 0 0) ⟨a1, b1, c1, hsl⟩ ⟨_, _, _, rfl⟩ u hu)
      clear hY0
      clear c20 c17
      obtain ⟨zi, hzi⟩ : ∃ zi : Array Value, zi = #[.int .i64 0, .int .i64 0, .int .i64 0, .int .i64 0, .int .i64 0, .int .i64 0, .int .u64 0, .int .u64 0, .string ⟨#[]⟩, .bool false, .int .u64 0, .bool false, .string ⟨#[]⟩, .slice none 0 0, .string ⟨#[]⟩, .int .u64 0, .int .u64 0, .int .i64 0, .slice none 0 0] := ⟨_, rfl⟩
      have HZI := Lib.hid hzi
      have HZS := Lib.hid (show zi.size = 19 from by rw [hzi]; rfl)
      clear hzi
      go_upto_region 36 with fail
      refine wp_region_tailN [0, 3] [19, 181] (fun x y => Below x.heap.size x y) (psi36 w3.heap.size H kb i c j ver mc Y0 zi) (fun _ _ => True) 221 14 none (.store 54 (.tmp 19) (.tmp 181)) (by kernel_rfl) (by kernel_rfl) (by kernel_rfl) (by kernel_rfl) rfl (by kernel_rfl) (by kernel_rfl)
        ((Below.refl _ _).drew) (fun _ _ _ h k => h.trans (k.mono h.size)) (fun _ _ _ _ h k => psi36_stable h k) (fun _ _ _ _ _ => trivial) ?_ ?_ [169, 170, 171, 172, 173, 174, 175, 176, 177, 178, 179, 180, 181, 19] (by kernel_rfl) ?_
      · intro t ht w' _
        simp only [List.mem_cons, List.not_mem_nil, or_false] at ht
        rcases ht with rfl | rfl <;> rfl
      · repeat' (first | exact AllStepsL.nil | refine AllStepsL.cons ?_ ?_)
        all_goals
          intro hik
          first
            | (exfalso; revert hik; decide)
            | (intro a' w' K' Q' hRl hP hK'
               have c20 := (HCC.out _ (hS.out.later (HB3.out.trans (hRl.mono HB3.out.size)))).1
               have c17 := (HRK.out _ (HB3.out.trans (hRl.mono HB3.out.size))).2.1
               have hrk := (HRK.out _ (HB3.out.trans (hRl.mono HB3.out.size))).1
               have hsz := hRl.size
               clear hRl
               first
                | (obtain ⟨h1, _⟩ := hP
                   refine wp_load_midO 38 _ rfl kb (j * 19) (by simp only [Act.eval, Array.getD_eq_getD_getElem?]; exact h1) mc.toList _ hrk Try.underlying38 rfl HMS.out ?_
                   refine hK' _ _ (Below.refl _ _) trivial ?_; intro d hd; cases hd; rfl)
                | (obtain ⟨h1, h2, _⟩ := hP
                   refine iwp_bi2 _ _ d.1.m d.1.sl ver mc Y0 HMC.out HY0.out rfl (by simp only [Act.eval, Array.getD_eq_getD_getElem?]; exact h1) (by simp only [Act.eval, Array.getD_eq_getD_getElem?]; exact h2) ?_
                   refine hK' _ _ (Below.refl _ _) trivial ?_; intro d hd; cases hd; rfl)
                | (repeat (obtain ⟨h, hP⟩ := hP; conv at h => whnf)
                   try go_simp
                   first
                    | (refine hK' _ _ (Below.refl _ _) trivial ?_; intro d hd; cases hd; first | rfl | exact h | (show _ = _; simp))
                    | (rw [← HZI.out]; refine hK' _ _ ((Below.refl _ _).alloc (Nat.le_refl _) _) trivial ?_; intro d hd; cases hd; exact ⟨_, rfl, hsz, heap_alloc_new w' _⟩)
                    | (trace_state; fail)))
      · intro f w4 hRl hf hT ok hd ho
        obtain ⟨X, h19, hX, hxr⟩ : ∃ g, f 19 = .pointer (some ⟨g, 0, none⟩) ∧ w3.heap.size ≤ g ∧ w4.heap[g]? = some (.cells zi 54 (0, 0)) := hf 19 (by simp)
        have h181 : f 181 = .agg Y0 := hf 181 (by simp)
        have hbX := below_setRow hRl hX Y0
        have hrX := setRow_heap _ _ _ Y0 _ _ hxr
        simp only [putAll, List.foldl_cons, List.foldl_nil, h19, h181]
        dsimp only [Act.put]
        simp only [List.setIfInBounds_toArray]
        simp only [List.set_cons_succ, List.set_cons_zero]
        refine wp_store_row 54 _ _ ho X Y0 rfl rfl 54 zi hxr HYS.out (by rw [HYZ.out, HZS.out]) HYO.out ?_
        rw [hd]
        clear hf hT hd ho h19 h181 hRl
        obtain ⟨wX, hwX⟩ : ∃ wX, wX = w4.setRow X Y0 := ⟨_, rfl⟩
        rw [← hwX] at hbX hrX ⊢
        have HB4 := Lib.hid (HB3.out.trans (hbX.mono HB3.out.size))
        have HRX := Lib.hid hrX
        have HROW4 := Lib.hid ((hbX.block h (Array.getElem?_eq_some_iff.1 HROW.out.2.1).1).trans HROW.out.2.1)
        have HXN := Lib.hid (show wr.heap.size ≤ X ∧ X ≠ h ∧ h < X from by have h1 := HB3.out.size; have h2 := (Array.getElem?_eq_some_iff.1 HROW.out.2.1).1; omega)
        clear hwX hX hbX hrX hxr
        have c20 := (HCC.out _ (hS.out.later HB4.out)).1
        have c21 := (HCC.out _ (hS.out.later HB4.out)).2
        have c18 := (HRK.out _ HB4.out).2.2
        have hnb0 : ¬ nb = 0 := by have := HNB2.out; omega
        have hnb1 : (nb == 0) = false := by rw [beq_eq_false_iff_ne]; exact hnb0
        have hnm1 : ¬ nb = -1 := by have := HNB2.out; omega
        obtain ⟨r, hr⟩ : ∃ r, r = Int.tmod bit nb := ⟨_, rfl⟩
        have hrm : r = bit % nb := by rw [hr, Int.tmod_eq_emod_of_nonneg HBT.out.1]
        have hrb : 0 ≤ r ∧ r < nb := by rw [hrm]; exact ⟨Int.emod_nonneg _ hnb0, Int.emod_lt_of_pos _ (by have := HNB2.out; omega)⟩
        have hwr : IntKind.i64.wrap r = r := by rw [IntKind.wrap_i64]; have := HNB2.out; omega
        have HRB := Lib.hid hrb
        have HRM := Lib.hid hrm
        have hr2 := hr.symm
        clear hrm hrb hr
        go_upto_region 38 with fail
        clear c20 c18 c21
        refine region_likes (by kernel_rfl) (by kernel_rfl) ?_
        repeat (go_big_quiet_step (fail))
        refine wpQuiet_nil ?_
        intro x
        obtain ⟨w5, hw5⟩ : ∃ w5, w5 = x.val := ⟨_, rfl⟩
        have HB5 := Lib.hid (show Below wX.heap.size wX w5 from by rw [hw5]; exact x.below)
        rw [← hw5]
        clear hw5 x
        have HB6 := Lib.hid (HB4.out.trans (HB5.out.mono HB4.out.size))
        have HRX5 := Lib.hid ((HB5.out.block X (Array.getElem?_eq_some_iff.1 HRX.out).1).trans HRX.out)
        have HROW5 := Lib.hid ((HB5.out.block h (Array.getElem?_eq_some_iff.1 HROW4.out).1).trans HROW4.out)
        have HHW := Lib.hid (show w.heap.size ≤ wr.heap.size ∧ R < wr.heap.size from ⟨hS.out.below.size, hS.out.rl⟩)
        have c21 := (HCC.out _ (hS.out.later HB6.out)).2
        have HI2 := Lib.hid (show (Try.prog.info? 3).map (fun i => (i.zero, i.size)) = some (some (.int .i64 0), 1) from by kernel_rfl)
        have HXA := Lib.hid ((((Below.refl w5.heap.size w5).alloc (Nat.le_refl _) (.cells #[.int .i64 r] 3)).block X (Array.getElem?_eq_some_iff.1 HRX5.out).1).trans HRX5.out)
        have HX18 := Lib.hid (show (w5.alloc (.cells #[.int .i64 r] 3)).cell? ⟨X, 18, none⟩ = some (.slice none 0 0) from by rw [cell_of_row _ _ _ _ _ _ HXA.out, HY0.out]; rfl)
        go_upto_region 42 with (first
          | (refine wpList_buildSlice_one rfl 52 3 _ rfl (.int .i64 0) (.int .i64 r) rfl Try.underlying52 HI2.out rfl rfl ?_; dsimp only [Act.put])
          | (refine wpList_plain rfl fun K hK => wp_store1K 52 _ _ rfl ⟨X, 18, none⟩ (.slice (some ⟨w5.heap.size, 0, none⟩) 1 1) (.slice none 0 0) rfl rfl rfl HX18.out (frozen_of_row _ _ 18 _ _ HXA.out) (by kernel_rfl) ?_; refine hK _ _ ?_; dsimp only [Act.put]))
        clear c21
        obtain ⟨g, hg⟩ : ∃ g, g = w5.heap.size := ⟨_, rfl⟩
        obtain ⟨wA, hwA⟩ : ∃ wA, wA = w5.alloc (.cells #[.int .i64 r] 3) := ⟨_, rfl⟩
        have hgA := heap_alloc_new w5 (.cells #[.int .i64 r] 3)
        have hbA := (Below.refl w5.heap.size w5).alloc (Nat.le_refl _) (.cells #[.int .i64 r] 3)
        rw [← hwA] at hgA hbA ⊢
        rw [← hg] at hgA
        have hXA := HXA.out
        rw [← hwA] at hXA
        rw [← hg]
        have hX5 := (Array.getElem?_eq_some_iff.1 HRX5.out).1
        have hh5 := (Array.getElem?_eq_some_iff.1 HROW5.out).1
        have hXZ := heap_setCell_same wA X 18 _ _ (.slice (some ⟨g, 0, none⟩) 1 1) hXA
        have hoZ : ∀ k, k ≠ X → (wA.setCell ⟨X, 18, none⟩ (.slice (some ⟨g, 0, none⟩) 1 1)).heap[k]? = wA.heap[k]? := fun k hk => Below.heap_setCell _ _ _ _ hk
        have hbZ0 := HB6.out.trans (hbA.mono HB6.out.size)
        have hbZ : Below wr.heap.size wr (wA.setCell ⟨X, 18, none⟩ (.slice (some ⟨g, 0, none⟩) 1 1)) := ⟨hbZ0.os, hbZ0.tape, hbZ0.output, by simpa using hbZ0.size, fun k hk => (hoZ k (by have := HXN.out; omega)).trans (hbZ0.block k hk)⟩
        have hsZ : (wA.setCell ⟨X, 18, none⟩ (.slice (some ⟨g, 0, none⟩) 1 1)).heap.size = wA.heap.size := by simp
        obtain ⟨wZ, hwZ⟩ : ∃ wZ, wZ = wA.setCell ⟨X, 18, none⟩ (.slice (some ⟨g, 0, none⟩) 1 1) := ⟨_, rfl⟩
        rw [← hwZ] at hXZ hoZ hbZ hsZ ⊢
        obtain ⟨Y1, hY1⟩ : ∃ Y1, Y1 = Y0.setIfInBounds 18 (.slice (some ⟨g, 0, none⟩) 1 1) := ⟨_, rfl⟩
        rw [← hY1] at hXZ
        obtain ⟨y, hy⟩ : ∃ y : Dj, y = (d.1.turn r.toNat, .slice (some ⟨g, 0, none⟩) 1 1) := ⟨_, rfl⟩
        have HYD := Lib.hid (show Y1 = (djc y).toArray from by rw [hY1, HY0.out, hy, HVER.out]; rfl)
        have HBV := Lib.hid (show BvAt wZ y.1 y.2 from by
          rw [hy]
          refine .inl ⟨by show (!d.1.on) = true; rw [HON2.out]; rfl, g, rfl, by rw [hsZ]; exact (Array.getElem?_eq_some_iff.1 hgA).1, ?_⟩
          rw [World.cell?, hoZ g (by omega), hgA]
          show some (Value.int .i64 r) = some (.int .i64 ((r.toNat : Nat) : Int))
          rw [Int.toNat_of_nonneg HRB.out.1])
        have HYL := Lib.hid (show ∀ k, y.2.ownBlock = some k → w.heap.size ≤ k ∧ k ≠ h ∧ k ≠ R from fun k hk => by
          rw [hy] at hk
          simp only [Value.ownBlock, Option.some.injEq] at hk
          have h1 := HHW.out
          have h2 := HB6.out.size
          omega)
        have HRZ := Lib.hid ((hoZ h (fun e => HXN.out.2.1 e.symm)).trans ((hbA.block h hh5).trans HROW5.out))
        have HXZ := Lib.hid hXZ
        have HBZ := Lib.hid hbZ
        have HWY := Lib.hid (show WsAt wb y.1.sl y.1.m.ws from by rw [hy]; exact HWS.out)
        have HYJ := Lib.hid (show (D.map Prod.fst).set j y.1 = flipJ (D.map Prod.fst) o.i o.bit from by
          have ho2 : ((D.map Prod.fst).getD o.i.toNat wj0).other o.bit = false := by
            rw [HJ.out, Int.toNat_natCast, HDX1.out]
            unfold Wj.other
            rw [HON2.out]
            rfl
          unfold flipJ
          rw [if_pos ⟨HHAS.out, by rw [← HBE.out]; exact HBT.out.1, ho2⟩, HJ.out, Int.toNat_natCast, HDX1.out, HBITS.out, ← HBE.out, ← HRM.out, hy])
        have HYT := Lib.hid (show Y1.toList = djc y from by rw [HYD.out])
        have HYS1 := Lib.hid (show (Try.prog.info? 54).map (·.size) = some Y1.size from by rw [HYD.out]; exact itemSz)
        have HYO1 := Lib.hid (show Y1.all (·.oneCell') = true from by
          rw [HYD.out]
          exact all_oneCell_toArray (djc_one y HWY.out.isSl HBV.out.sl))
        have HYN := Lib.hid (show Y1.size = 19 from by rw [HYD.out]; rfl)
        have HTH := Lib.hid (show wZ.there h (j * 19) Y1.size from there_row HRZ.out (by rw [HYN.out, HROW.out.2.2.1]; have := HROW.out.2.2.2.1; omega))
        have HSZ := Lib.hid (hS.out.later HBZ.out)
        have HDZ := Lib.hid (hD.out.below HBZ.out)
        have HRR := Lib.hid (show (wZ.setCells h (j * 19) (djc y)).heap[R]? = some (.cells #[.int .i64 0, .int .i64 0, .int .i64 0, .int .i64 0, .int .i64 0, .int .i64 0, .int .u64 0, .int .u64 0, .string ⟨#[]⟩, .bool false, .int .u64 0, .bool false, .string ⟨#[]⟩, .slice none 0 0, .string ⟨#[]⟩, .int .u64 0, .int .u64 0] 38 (0, 0)) from by
          have hs := setCells_row h 54 (djc y) (j * 19) wZ cur.toList (by rw [HRZ.out]) (by rw [djc_len, Array.length_toList, HROW.out.2.2.1]; have := HROW.out.2.2.2.1; omega)
          exact (hs.other R (by have := HROW.out.1; omega)).trans HSZ.out.r)
        have c20 := (HCC.out _ HSZ.out).1
        have hic : (j : Int) < (i : Int) := hjn
        clear hwZ hY1 hy HB5 HB6 HRX5 HROW5
        go_upto_region 43 with (first
          | (refine wpList_load_row rfl 54 _ rfl X rfl 54 Y1 (0, 0) _ HXZ.out Try.underlying54 rfl HYS1.out ?_; dsimp only [Act.put])
          | (refine wpList_store_mid rfl 54 _ _ rfl h (j * 19) Y1 (by first | rfl | simp) (by first | rfl | simp) HTH.out HYS1.out HYO1.out ?_; dsimp only [Act.put]))
        rw [HYT.out]
        clear c20
        go_wp2_with (refine wpList_store_row rfl 38 _ _ rfl R #[.int .i64 0, .int .i64 0, .int .i64 0, .int .i64 0, .int .i64 0, .int .i64 0, .int .u64 0, .int .u64 0, .string ⟨#[]⟩, .bool false, .int .u64 0, .bool false, .string ⟨#[]⟩, .slice none 0 0, .string ⟨#[]⟩, .int .u64 0, .int .u64 0] rfl rfl 38 _ HRR.out msg_size rfl zero_one ?_)
        refine bodyPost_ret (do_ret (setRow_heap _ _ _ _ _ _ HRR.out) rfl rfl rfl rfl rfl) rfl ?_
        have hn := HN.out
        subst hn
        exact DoOut.set HSZ.out HHR.out.1 HDL2.out HDZ.out (by omega) HROW.out.1 HRZ.out HROW.out.2.2.1 HROW.out.2.2.2.1 HROW.out.2.2.2.2.1 HROW.out.2.2.2.2.2 HWY.out HBV.out HYL.out HYJ.out
end Go.Proofs.Ytbhlgceicfjncaa

namespace Go.Proofs.Ytbhlgceicfjncaa
open Go.RowKit
set_option linter.unusedVariables false
set_option linter.unnecessarySimpa false
set_option linter.unusedSimpArgs false
set_option maxRecDepth 100000

set_option maxHeartbeats 16000000 in
theorem do_flip_back {wb w : World} {D : List Dj} {dv : Value} (o : Wo) (hd : DocW wb w D dv) (hbw : Below wb.heap.size wb w) (hl : D.length ≤ 1000) (hk : o.kind % 5 = 4) (hhas : hasW (D.map Prod.fst) o.i = true) (hall0 : AllOk (D.map Prod.fst)) (hbit : 0 ≤ o.bit) (hbit2 : o.bit ≤ 9223372036854775807) (hon0 : ((D.map Prod.fst).getD o.i.toNat wj0).on = true) (hoth : (((D.map Prod.fst).getD o.i.toNat wj0).k : Int) = o.bit % (((D.map Prod.fst).getD o.i.toNat wj0).bits : Int)) :
    Calls Try.prog 14 #[dv, .agg o.cells] w (DoOut wb w D dv (flipJ (D.map Prod.fst) o.i o.bit) mg0 false 0) := by
  have hall := Lib.hid hall0
  have HON0 := Lib.hid hon0
  have HBW := Lib.hid hbw
  have HBIT := Lib.hid (And.intro hbit hbit2)
  have HOTH := Lib.hid hoth
  clear hall0 hon0 hbw hbit hbit2 hoth
  have hh := hasW_iff.1 hhas
  rw [List.length_map] at hh
  obtain ⟨j, hj⟩ : ∃ j : Nat, o.i = (j : Int) := ⟨o.i.toNat, by omega⟩
  have hjD : j < D.length := by omega
  obtain ⟨kb, c, rfl, hkb, _⟩ := hd.at_ hjD
  obtain ⟨kind, hkd⟩ : ∃ kind, kind = o.kind := ⟨_, rfl⟩
  have hz : (kind : Int) % 5 = 4 := by rw [hkd]; omega
  have HS0 := DoS.start w o.cells #[.int .i64 0, .int .i64 0, .int .i64 0, .int .i64 0, .int .i64 0, .int .i64 0, .int .u64 0, .int .u64 0, .string ⟨#[]⟩, .bool false, .int .u64 0, .bool false, .string ⟨#[]⟩, .slice none 0 0, .string ⟨#[]⟩, .int .u64 0, .int .u64 0]
  obtain ⟨w0, hw0⟩ : ∃ w0, w0 = (w.alloc (.cells o.cells 40)).alloc (.cells #[.int .i64 0, .int .i64 0, .int .i64 0, .int .i64 0, .int .i64 0, .int .i64 0, .int .u64 0, .int .u64 0, .string ⟨#[]⟩, .bool false, .int .u64 0, .bool false, .string ⟨#[]⟩, .slice none 0 0, .string ⟨#[]⟩, .int .u64 0, .int .u64 0] 38) := ⟨_, rfl⟩
  rw [← hw0] at HS0
  obtain ⟨R, hR⟩ : ∃ R, R = w.heap.size + 1 := ⟨_, rfl⟩
  obtain ⟨H, hH⟩ : ∃ H, H = w.heap.size := ⟨_, rfl⟩
  rw [← hR, ← hH] at HS0
  have HHR := Lib.hid (And.intro hR hH)
  have HDL := Lib.hid hd.lt
  have HD0 := Lib.hid (hd.below HS0.below)
  obtain ⟨C, hC⟩ : ∃ C, C = o.cells := ⟨_, rfl⟩
  rw [← hC] at HS0 hw0 ⊢
  have hc0 : C[0]? = some (.int .u8 (kind : Int)) := by rw [hC, hkd]; rfl
  have hc20 : C[20]? = some (.int .i64 o.i) := by rw [hC]; rfl
  have HS := Lib.hid HS0
  have c0 := (HS0.c 0).trans hc0
  have c20 := (HS0.c 20).trans hc20
  obtain ⟨bit, hbe⟩ : ∃ bit, bit = o.bit := ⟨_, rfl⟩
  have HC21 : Hid (C[21]? = some (.int .i64 bit)) := Lib.hid (by rw [hC, hbe]; rfl)
  have HBE := Lib.hid hbe
  rw [hj] at c20 hc20
  obtain ⟨n, hn⟩ : ∃ n, n = D.length := ⟨_, rfl⟩
  have HL := Lib.hid hl
  have HN := Lib.hid hn
  have hjn : (j : Int) < (n : Int) := by omega
  have hjz : (0 : Int) ≤ (j : Int) := by omega
  have hnm : n ≤ 1000 := by omega
  have HC0 := Lib.hid hc0
  have HC20 := Lib.hid hc20
  have HJ := Lib.hid hj
  have HHAS := Lib.hid hhas
  have HONE := Lib.hid hd.ones
  rw [← hn]
  clear hd HS0 hc0 hc20 hC hkd hl hhas hh hkb hjD hn hj hk hbe
  go_enter Try.func14, Try.ntmps14
  go_upto_region 1 with fail
  rw [← hw0, ← hR, ← hH]
  clear hw0 hR hH
  go_wp2_with fail
  go_loopg [9, 10] n (fun g s9 s10 wx => ∃ (i : Nat) (rv : Value), i + g = n ∧ rv = s9 ∧ s10 = .int .i64 i ∧ Hid (DoS w H R C #[.int .i64 0, .int .i64 0, .int .i64 0, .int .i64 0, .int .i64 0, .int .i64 0, .int .u64 0, .int .u64 0, .string ⟨#[]⟩, .bool false, .int .u64 0, .bool false, .string ⟨#[]⟩, .slice none 0 0, .string ⟨#[]⟩, .int .u64 0, .int .u64 0] wx) ∧ Hid (DocW wb wx D (.slice (some ⟨kb, 0, none⟩) n c)) ∧ Hid (wx.ownsRow (R + 1) 54 19 rv ((D.take i).eraseIdx j).length (dcs ((D.take i).eraseIdx j))))
  case atStart => exact ⟨0, _, by omega, rfl, rfl, HS, by rw [← HN.out] at HD0; exact HD0, Lib.hid (by rw [List.take_zero, List.eraseIdx_nil]; exact World.ownsRow_nil _ _ _ _)⟩
  case round =>
    obtain ⟨i, rv, hig, rfl, rfl, hS, hD, hO⟩ := hrel
    clear HS HD0
    have c0 := (hS.out.c 0).trans HC0.out
    have c20 := (hS.out.c 20).trans HC20.out
    cases gk with
    | succ g =>
      have hin : i < n := by omega
      have hiz : (i : Int) < (n : Int) := by omega
      obtain ⟨rl, hrl⟩ : ∃ rl, rl = ((D.take i).eraseIdx j).length := ⟨_, rfl⟩
      have hO2 := hO
      rw [← hrl] at hO2
      by_cases hij : i = j
      · have hne : ((i : Int) != (j : Int)) = false := by rw [bne_eq_false_iff_eq]; omega
        have he : (D.take (i + 1)).eraseIdx j = (D.take i).eraseIdx j := by rw [hij]; exact erase_same (by have := HN.out; omega)
        have HE := Lib.hid he
        clear he hij hO2 hrl
        go_wp2_with fail
        go_roundg g
        case measure => omega
        case rel => exact ⟨i + 1, _, by omega, rfl, by go_num, hS, hD, Lib.hid (by rw [HE.out]; exact hO.out)⟩
      · have hne : ((i : Int) != (j : Int)) = true := by rw [bne_iff_ne]; omega
        obtain ⟨d, hdd⟩ : ∃ d, d = D.getD i dj0 := ⟨_, rfl⟩
        have he : (D.take (i + 1)).eraseIdx j = (D.take i).eraseIdx j ++ [d] := by rw [hdd]; exact erase_step (by have := HN.out; omega) hij
        have HE := Lib.hid he
        obtain ⟨k', c', e', hkl, hci⟩ := hD.out.at_ (i := i) (by have := HN.out; omega)
        injection e' with e1 e2 e3
        injection e1 with e1
        injection e1 with e1
        subst e1
        rw [← hdd] at hci
        have hra : wr.rangeAt kb (i * 19) (djc d) := fun q u hq => (hci q (by rw [← djc_len d]; exact (List.getElem?_eq_some_iff.1 hq).1)).trans hq
        have HRA := Lib.hid hra
        have hon : ∀ u ∈ djc d, u.oneCell' = true := djc_one d (hD.out.sl d (by rw [hdd]; exact dj_mem (by have := HN.out; omega))).isSl (hD.out.bv d (by rw [hdd]; exact dj_mem (by have := HN.out; omega))).sl
        have HON := Lib.hid hon
        have hrlm : rl ≤ i := by rw [hrl]; exact Nat.le_trans (List.length_eraseIdx_le _ _) (by rw [List.length_take]; omega)
        have HRL := Lib.hid hrl
        have HBS := Lib.hid (show R + 1 ≤ wr.heap.size from hS.out.rl)
        obtain ⟨nf, nz, hi, hz0, hz1, hz2, hz3⟩ := itemI
        have HIJ := Lib.hid hij
        clear he hdd hci hra hon hrl hij hkl e2 e3
        go_wp2_with (first
          | (refine wpList_load_midW rfl 54 _ rfl kb (i * 19) (by simp only [Act.eval, Act.put]; first | rfl | simp) (djc d) _ HRA.out Try.underlying54 rfl itemSz ?_; dsimp only [Act.put])
          | (refine wpList_plain rfl fun K hK => iwp_bs1 _ d rfl (by first | rfl | simp) ?_; refine hK _ _ ?_; dsimp only [Act.put])
          | (at_builtin; refine wpList_append_own2 rfl _ _ 30 rfl (R + 1) 54 nf nz 19 208 Try.underlying30 hi hz0 hz2 hz3 hz1 (by decide) rv rl (dcs ((D.take i).eraseIdx j)) rfl (hO2.out.alloc _) ⟨wr.heap.size, 0, none⟩ 1 1 (djc d) rfl rfl (fun q u hq => by rw [Addr.add_lit, Nat.zero_add, cell_of_row _ _ _ _ _ _ (heap_alloc_new wr _)]; simpa using hq) HON.out (by unfold maxLen; omega) (by omega) (Nat.le_trans HBS.out (by simp)) ?_; intro v9 w9 hown9 hg9 hk9; have HO9 := Lib.hid hown9; have HG9 := Lib.hid hg9; clear hown9 hg9 hk9)
          )
        have hal := (Below.refl wr.heap.size wr).alloc (Nat.le_refl _) (.cells (djc d).toArray 54)
        have hno : ∀ q, q < R + 1 → some q ≠ rv.ownBlock := fun q hq e => by have := (hO2.out.lt q e.symm).1; omega
        have hkk : ∀ q, q < R + 1 → w9.heap[q]? = wr.heap[q]? := fun q hq => (HG9.out.block q (by have := HBS.out; simp; omega) (hno q hq)).trans (hal.block q (by have := HBS.out; omega))
        have hb9 : Below w.heap.size w w9 := ⟨HG9.out.os.trans (hal.os.trans hS.out.below.os), HG9.out.tape.trans (hal.tape.trans hS.out.below.tape), HG9.out.output.trans (hal.output.trans hS.out.below.output), Nat.le_trans hS.out.below.size (Nat.le_trans hal.size HG9.out.size), fun q hq => (hkk q (by have := HHR.out; omega)).trans (hS.out.below.block q hq)⟩
        have hS9 := Lib.hid (hS.out.keep (hkk H (by have := HHR.out; omega)) (hkk R (by omega)) hb9)
        have hD9 := Lib.hid (hD.out.stay (fun q hq => hkk q (by have h1 := HDL.out q; rw [← HN.out] at h1; have := h1 hq; have := HHR.out; omega)))
        clear hal hno hkk hb9
        go_wp2_with fail
        go_roundg g
        case measure => omega
        case rel => exact ⟨i + 1, _, by omega, rfl, by go_num, hS9, hD9, Lib.hid (by rw [HE.out, dcs_app, dcs_one1, List.length_append, ← HRL.out]; exact HO9.out)⟩
    | zero =>
      obtain rfl : i = n := by omega
      have he : D.take i = D := List.take_of_length_le (by have := HN.out; omega)
      rw [he] at hO
      have HDL2 := Lib.hid (show ∀ k, docO (.slice (some ⟨kb, 0, none⟩) i c) D k → k < w.heap.size from by rw [HN.out]; exact HDL.out)
      obtain ⟨d, hdd⟩ : ∃ d, d = D.getD j dj0 := ⟨_, rfl⟩
      have hjl : j < D.length := by have := HN.out; omega
      have hdm : d ∈ D := by rw [hdd]; exact dj_mem hjl
      have hdx : (D.map Prod.fst).getD j wj0 = d.1 := by rw [hdd, dj_fst]
      obtain ⟨k', c', e', hkl, hci⟩ := hD.out.at_ (i := j) hjl
      injection e' with e1 e2 e3
      injection e1 with e1
      injection e1 with e1
      subst e1
      rw [← hdd] at hci
      have HRA := Lib.hid (show wr.rangeAt kb (j * 19) (djc d) from fun q u hq => (hci q (by rw [← djc_len d]; exact (List.getElem?_eq_some_iff.1 hq).1)).trans hq)
      have hbv := hD.out.bv d hdm
      have hws := hD.out.sl d hdm
      have hok := hall.out.at_ (i := j) (by rw [List.length_map]; exact hjl)
      rw [hdx] at hok
      have HON := Lib.hid (show (djc d).toArray.all (·.oneCell') = true from by rw [Array.all_eq_true_iff_forall_mem]; intro u hu; exact djc_one d hws.isSl hbv.sl u (by simpa using hu))
      have hon : d.1.on = true := by have := HON0.out; rw [HJ.out, Int.toNat_natCast, hdx] at this; exact this
      have HBT := Lib.hid (show 0 ≤ bit ∧ bit ≤ 9223372036854775807 from by rw [HBE.out]; exact HBIT.out)
      have HK := Lib.hid (show ((d.1.k : Nat) : Int) = bit % (d.1.bits : Int) from by have := HOTH.out; rw [HJ.out, Int.toNat_natCast, hdx, ← HBE.out] at this; exact this)
      obtain ⟨b, hbe, hbl, hbc⟩ : ∃ b, d.2 = .slice (some ⟨b, 0, none⟩) 1 1 ∧ b < wr.heap.size ∧ wr.cell? ⟨b, 0, none⟩ = some (.int .i64 (d.1.k : Int)) := by
        rcases hbv with ⟨h1, b, h2, h3, h4⟩ | ⟨h1, h2⟩
        · exact ⟨b, h2, h3, h4⟩
        · exact absurd h1 (by rw [hon]; decide)
      have HCB := Lib.hid (fun W (hB : Below wr.heap.size wr W) => (hB.cell (p := ⟨b, 0, none⟩) hbl).trans hbc)
      obtain ⟨kk, hkk⟩ : ∃ kk : Nat, kk = d.1.k := ⟨_, rfl⟩
      have HKX := HK
      rw [← hkk] at HCB HK
      have hpl := pay_len hok.right hok.v
      have hbits : (d.1.bits : Int) = 8 * (4 + ((payW d.1.m d.1.v).size : Int)) := by unfold Wj.bits; rw [payW_size]; omega
      have HVI := Lib.hid (show -9223372036854775808 ≤ d.1.v ∧ d.1.v ≤ 9223372036854775807 from by rcases hok.v with h | h | h <;> rw [h] <;> decide)
      have HLA := Lib.hid (fun W => last_any d.1.v HVI.out W)
      have HWS := Lib.hid hws
      have HBY : Hid (∀ W, Below w.heap.size w W → Calls Try.prog 31 #[.agg (d.1.m.cells d.1.sl), .int .i64 (lastOfM d.1.v)] W fun e w' => e = .returned (.string (payW d.1.m d.1.v)) ∧ Below W.heap.size W w') := Lib.hid (fun W hB => refBytes_any d.1.m d.1.sl (right_sane hok.right hok.fits) (lastOfM d.1.v) (lastOfM_le _) W ((HWS.out.below HBW.out).below hB))
      obtain ⟨P, hP⟩ : ∃ P, P = payW d.1.m d.1.v := ⟨_, rfl⟩
      obtain ⟨la, hla⟩ : ∃ la, la = lastOfM d.1.v := ⟨_, rfl⟩
      rw [← hP] at hpl hbits HBY
      rw [← hla] at HLA HBY
      obtain ⟨ver, hver⟩ : ∃ ver, ver = d.1.v := ⟨_, rfl⟩
      rw [← hver] at HLA
      obtain ⟨mc, hmc⟩ : ∃ mc, mc = d.1.m.cells d.1.sl := ⟨_, rfl⟩
      have HMC := Lib.hid hmc
      have hmcs : mc.toList.length = 17 := by rw [hmc]; rfl
      have HMS := Lib.hid (show (Try.prog.info? 38).map (·.size) = some mc.toList.length from by rw [hmcs]; exact msg_size)
      rw [← hmc] at HBY
      have hdc : djc d = mc.toList ++ [.int .i64 ver, (.slice (some ⟨b, 0, none⟩) 1 1)] := by unfold djc; rw [← hmc, ← hver, hbe]
      have HRK : Hid (∀ W, Below wr.heap.size wr W → W.rangeAt kb (j * 19) mc.toList ∧ W.cell? ⟨kb, j * 19 + 17, none⟩ = some (.int .i64 ver) ∧ W.cell? ⟨kb, j * 19 + 18, none⟩ = some (.slice (some ⟨b, 0, none⟩) 1 1)) := Lib.hid (fun W hB => by
        have hcc : ∀ q, q < 19 → W.cell? ⟨kb, j * 19 + q, none⟩ = (djc d)[q]? := fun q hq => (hB.cell (p := ⟨kb, j * 19 + q, none⟩) hkl).trans (hci q hq)
        refine ⟨fun q u hq => ?_, ?_, ?_⟩
        · have hq17 := (List.getElem?_eq_some_iff.1 hq).1
          rw [hcc q (by omega), hdc, List.getElem?_append_left hq17]; exact hq
        · rw [hcc 17 (by decide), hdc, List.getElem?_append_right (by omega), hmcs]; rfl
        · rw [hcc 18 (by decide), hdc, List.getElem?_append_right (by omega), hmcs]; rfl)
      have HCC := Lib.hid (fun W (hW : DoS w H R C #[.int .i64 0, .int .i64 0, .int .i64 0, .int .i64 0, .int .i64 0, .int .i64 0, .int .u64 0, .int .u64 0, .string ⟨#[]⟩, .bool false, .int .u64 0, .bool false, .string ⟨#[]⟩, .slice none 0 0, .string ⟨#[]⟩, .int .u64 0, .int .u64 0] W) => And.intro ((hW.c 20).trans HC20.out) ((hW.c 21).trans HC21.out))
      obtain ⟨nb, hnb⟩ : ∃ nb : Int, nb = 8 * (4 + (P.size : Int)) := ⟨_, rfl⟩
      have HNB := Lib.hid hnb
      have HNB2 := Lib.hid (show 40 ≤ nb ∧ nb ≤ 40000 from by omega)
      have HBITS := Lib.hid (show (d.1.bits : Int) = nb from by rw [hbits, hnb])
      have hwr1 : IntKind.i64.wrap (4 + (P.size : Int)) = 4 + (P.size : Int) := by rw [IntKind.wrap_i64]; omega
      have hwr2 : IntKind.i64.wrap (8 * (4 + (P.size : Int))) = 8 * (4 + (P.size : Int)) := by rw [IntKind.wrap_i64]; omega
      have HOK := Lib.hid hok
      have HDX1 := Lib.hid hdx
      have HDM := Lib.hid hdm
      have HON2 := Lib.hid hon
      have HVER := Lib.hid hver
      clear hbits hpl hver hla hmc hmcs hdc hci hkl hbv hws hok hnb hdd hdx hjl hdm hon hP hbe e2 e3 c20 hbl hbc hkk
      have c21 := (HCC.out _ hS.out).2
      have c20 := (HCC.out _ hS.out).1
      have c17 := (HRK.out wr (Below.refl _ _)).2.1
      have b0 : (decide (0 ≤ bit)) = true := by rw [decide_eq_true_eq]; exact HBT.out.1
      have b1 : 0 ≤ bit := HBT.out.1
      go_upto_region 34 with fail
      clear c20 c21 c17
      have hx20 : ∀ x : Like wr.heap.size wr, x.val.cell? ⟨H, 20, none⟩ = some (.int .i64 (j : Int)) := fun x => (HCC.out _ (hS.out.later x.below)).1
      have hx17 : ∀ x : Like wr.heap.size wr, x.val.cell? ⟨kb, j * 19 + 17, none⟩ = some (.int .i64 ver) := fun x => (HRK.out _ x.below).2.1
      refine region_likes (by kernel_rfl) (by kernel_rfl) ?_
      repeat (first
        | (go_big_quiet_want; refine quiet_midW 38 _ rfl kb (j * 19) (by simp only [Act.eval, Act.put]; first | rfl | simp) mc.toList _ (fun w' ⟨x, hx⟩ => by rw [hx]; exact (HRK.out _ x.below).1) Try.underlying38 rfl HMS.out ?_; go_simp; go_big_quiet_on)
        | (go_big_quiet_step (first
            | (go_at_call 32; exact calls_likes_same ((HLA.out _).mono fun _ _ hh => ⟨hh.1, hh.2.symm⟩))
            | (go_at_call 31; exact calls_likes (Like.size _) (HBY.out _ (hS.out.later (Like.below _)).below)))))
      refine wpQuiet_nil ?_
      intro x
      obtain ⟨w2, hw2⟩ : ∃ w2, w2 = x.val := ⟨_, rfl⟩
      have HB2 := Lib.hid (show Below wr.heap.size wr w2 from by rw [hw2]; exact x.below)
      rw [← hw2]
      clear hw2 x hx20 hx17
      rw [← HNB.out]
      clear hwr1 hwr2 HLA HBY
      have hS2 := hS.out.later HB2.out
      have hD2 := (hD.out.below HB2.out).below ((Below.refl w2.heap.size w2).alloc (Nat.le_refl _) (.cells #[] 54))
      have hB2 : R + 1 ≤ w2.heap.size := hS2.rl
      obtain ⟨v4, w3, hr, hb3, h, cap, cur, hv4, hh, hcur, hcs, hl1, hl2, htk, -⟩ := wrapp_first (B := R + 1) (w2.alloc (.cells #[] 54)) _ (some ⟨kb, 0, none⟩) i c D (wrrow_empty w2 hB2) (by have := hD2.own; rw [← HN.out] at this; exact this) HN.out.symm HONE.out (by omega) (fun e => by cases e) (by simp; omega)
      rw [← HN.out] at hv4 hl1
      have HAP := Lib.hid hr
      have HB3 := Lib.hid (HB2.out.trans ((((Below.refl w2.heap.size w2).alloc (Nat.le_refl _) (.cells #[] 54)).trans (hb3.mono (by simp))).mono HB2.out.size))
      have HROW := Lib.hid (And.intro hh (And.intro hcur (And.intro hcs (And.intro hl1 (And.intro hl2 htk)))))
      have HV4 := Lib.hid hv4
      clear hr hb3 hv4 hh hcur hcs hl1 hl2 htk hS2 hD2 hB2
      go_upto_region 36 with (first
        | (refine wpList_plain rfl fun K hK => iwp_bs0 rfl ?_; refine hK _ _ ?_; dsimp only [Act.put])
        | (refine wpList_plain rfl fun K hK => wrwp_app _ _ rfl rfl _ (.slice (some ⟨kb, 0, none⟩) i c) v4 w3 (by simp only [Act.eval, Act.put]; first | rfl | simp) (by simp only [Act.eval, Act.put]; first | rfl | simp) HAP.out ?_; refine hK _ _ ?_; dsimp only [Act.put]))
      rw [HV4.out]
      have c20 := (HCC.out _ (hS.out.later HB3.out)).1
      have c17 := (HRK.out _ HB3.out).2.1
      obtain ⟨Y0, hY0⟩ : ∃ Y0, Y0 = ((d.1.m.cells d.1.sl).toList ++ [.int .i64 ver, Value.slice none 0 0]).toArray := ⟨_, rfl⟩
      have HY0 := Lib.hid hY0
      have HYS := Lib.hid (show (Try.prog.info? 54).map (·.size) = some Y0.size from by rw [hY0]; exact itemSz)
      have HYZ := Lib.hid (show Y0.size = 19 from by rw [hY0]; rfl)
      have HYO := Lib.hid (show Y0.all (·.oneCell') = true from by
        rw [hY0]
        refine all_oneCell_toArray fun u hu => ?_
        obtain ⟨a1, b1, c1, hsl⟩ := HWS.out.isSl
        exact djc_one (⟨d.1.m, d.1.sl, ver, false, 0⟩, .slice none 0 0) ⟨a1, b1, c1, hsl⟩ ⟨_, _, _, rfl⟩ u hu)
      clear hY0
      clear c20 c17
      obtain ⟨zi, hzi⟩ : ∃ zi : Array Value, zi = #[.int .i64 0, .int .i64 0, .int .i64 0, .int .i64 0, .int .i64 0, .int .i64 0, .int .u64 0, .int .u64 0, .string ⟨#[]⟩, .bool false, .int .u64 0, .bool false, .string ⟨#[]⟩, .slice none 0 0, .string ⟨#[]⟩, .int .u64 0, .int .u64 0, .int .i64 0, .slice none 0 0] := ⟨_, rfl⟩
      have HZI := Lib.hid hzi
      have HZS := Lib.hid (show zi.size = 19 from by rw [hzi]; rfl)
      clear hzi
      go_upto_region 36 with fail
      refine wp_region_tailN [0, 3] [19, 181] (fun x y => Below x.heap.size x y) (psi36 w3.heap.size H kb i c j ver mc Y0 zi) (fun _ _ => True) 221 14 none (.store 54 (.tmp 19) (.tmp 181)) (by kernel_rfl) (by kernel_rfl) (by kernel_rfl) (by kernel_rfl) rfl (by kernel_rfl) (by kernel_rfl)
        ((Below.refl _ _).drew) (fun _ _ _ h k => h.trans (k.mono h.size)) (fun _ _ _ _ h k => psi36_stable h k) (fun _ _ _ _ _ => trivial) ?_ ?_ [169, 170, 171, 172, 173, 174, 175, 176, 177, 178, 179, 180, 181, 19] (by kernel_rfl) ?_
      · intro t ht w' _
        simp only [List.mem_cons, List.not_mem_nil, or_false] at ht
        rcases ht with rfl | rfl <;> rfl
      · repeat' (first | exact AllStepsL.nil | refine AllStepsL.cons ?_ ?_)
        all_goals
          intro hik
          first
            | (exfalso; revert hik; decide)
            | (intro a' w' K' Q' hRl hP hK'
               have c20 := (HCC.out _ (hS.out.later (HB3.out.trans (hRl.mono HB3.out.size)))).1
               have c17 := (HRK.out _ (HB3.out.trans (hRl.mono HB3.out.size))).2.1
               have hrk := (HRK.out _ (HB3.out.trans (hRl.mono HB3.out.size))).1
               have hsz := hRl.size
               clear hRl
               first
                | (obtain ⟨h1, _⟩ := hP
                   refine wp_load_midO 38 _ rfl kb (j * 19) (by simp only [Act.eval, Array.getD_eq_getD_getElem?]; exact h1) mc.toList _ hrk Try.underlying38 rfl HMS.out ?_
                   refine hK' _ _ (Below.refl _ _) trivial ?_; intro d hd; cases hd; rfl)
                | (obtain ⟨h1, h2, _⟩ := hP
                   refine iwp_bi2 _ _ d.1.m d.1.sl ver mc Y0 HMC.out HY0.out rfl (by simp only [Act.eval, Array.getD_eq_getD_getElem?]; exact h1) (by simp only [Act.eval, Array.getD_eq_getD_getElem?]; exact h2) ?_
                   refine hK' _ _ (Below.refl _ _) trivial ?_; intro d hd; cases hd; rfl)
                | (repeat (obtain ⟨h, hP⟩ := hP; conv at h => whnf)
                   try go_simp
                   first
                    | (refine hK' _ _ (Below.refl _ _) trivial ?_; intro d hd; cases hd; first | rfl | exact h | (show _ = _; simp))
                    | (rw [← HZI.out]; refine hK' _ _ ((Below.refl _ _).alloc (Nat.le_refl _) _) trivial ?_; intro d hd; cases hd; exact ⟨_, rfl, hsz, heap_alloc_new w' _⟩)
                    | (trace_state; fail)))
      · intro f w4 hRl hf hT ok hd ho
        obtain ⟨X, h19, hX, hxr⟩ : ∃ g, f 19 = .pointer (some ⟨g, 0, none⟩) ∧ w3.heap.size ≤ g ∧ w4.heap[g]? = some (.cells zi 54 (0, 0)) := hf 19 (by simp)
        have h181 : f 181 = .agg Y0 := hf 181 (by simp)
        have hbX := below_setRow hRl hX Y0
        have hrX := setRow_heap _ _ _ Y0 _ _ hxr
        simp only [putAll, List.foldl_cons, List.foldl_nil, h19, h181]
        dsimp only [Act.put]
        simp only [List.setIfInBounds_toArray]
        simp only [List.set_cons_succ, List.set_cons_zero]
        refine wp_store_row 54 _ _ ho X Y0 rfl rfl 54 zi hxr HYS.out (by rw [HYZ.out, HZS.out]) HYO.out ?_
        rw [hd]
        clear hf hT hd ho h19 h181 hRl
        obtain ⟨wX, hwX⟩ : ∃ wX, wX = w4.setRow X Y0 := ⟨_, rfl⟩
        rw [← hwX] at hbX hrX ⊢
        have HB4 := Lib.hid (HB3.out.trans (hbX.mono HB3.out.size))
        have HRX := Lib.hid hrX
        have HROW4 := Lib.hid ((hbX.block h (Array.getElem?_eq_some_iff.1 HROW.out.2.1).1).trans HROW.out.2.1)
        have HXN := Lib.hid (show wr.heap.size ≤ X ∧ X ≠ h ∧ h < X from by have h1 := HB3.out.size; have h2 := (Array.getElem?_eq_some_iff.1 HROW.out.2.1).1; omega)
        clear hwX hX hbX hrX hxr
        have c20 := (HCC.out _ (hS.out.later HB4.out)).1
        have c21 := (HCC.out _ (hS.out.later HB4.out)).2
        have c18 := (HRK.out _ HB4.out).2.2
        have hnb0 : ¬ nb = 0 := by have := HNB2.out; omega
        have hnb1 : (nb == 0) = false := by rw [beq_eq_false_iff_ne]; exact hnb0
        have hnm1 : ¬ nb = -1 := by have := HNB2.out; omega
        obtain ⟨r, hr⟩ : ∃ r, r = Int.tmod bit nb := ⟨_, rfl⟩
        have hrm : r = bit % nb := by rw [hr, Int.tmod_eq_emod_of_nonneg HBT.out.1]
        have hrb : 0 ≤ r ∧ r < nb := by rw [hrm]; exact ⟨Int.emod_nonneg _ hnb0, Int.emod_lt_of_pos _ (by have := HNB2.out; omega)⟩
        have hwr : IntKind.i64.wrap r = r := by rw [IntKind.wrap_i64]; have := HNB2.out; omega
        have HRB := Lib.hid hrb
        have HRM := Lib.hid hrm
        have hr2 := hr.symm
        have hkr : (kk : Int) = r := by rw [hrm, ← HBITS.out]; exact HK.out
        have hk1 : (((kk : Nat) : Int) != r) = false := by rw [bne_eq_false_iff_eq]; exact hkr
        clear hrm hrb hr
        go_upto_region 38 with fail
        clear c20 c18 c21
        have hx21 : ∀ x : Like wX.heap.size wX, x.val.cell? ⟨H, 21, none⟩ = some (.int .i64 bit) := fun x => (HCC.out _ (hS.out.later (HB4.out.trans (x.below.mono HB4.out.size)))).2
        have hxb : ∀ x : Like wX.heap.size wX, x.val.cell? ⟨b, 0, none⟩ = some (.int .i64 (kk : Int)) := fun x => HCB.out _ (HB4.out.trans (x.below.mono HB4.out.size))
        refine region_likes (by kernel_rfl) (by kernel_rfl) ?_
        repeat (go_big_quiet_step (fail))
        refine wpQuiet_nil ?_
        intro x
        obtain ⟨w5, hw5⟩ : ∃ w5, w5 = x.val := ⟨_, rfl⟩
        have HB5 := Lib.hid (show Below wX.heap.size wX w5 from by rw [hw5]; exact x.below)
        rw [← hw5]
        clear hw5 x hx21 hxb
        have HB6 := Lib.hid (HB4.out.trans (HB5.out.mono HB4.out.size))
        have HRX5 := Lib.hid ((HB5.out.block X (Array.getElem?_eq_some_iff.1 HRX.out).1).trans HRX.out)
        have HROW5 := Lib.hid ((HB5.out.block h (Array.getElem?_eq_some_iff.1 HROW4.out).1).trans HROW4.out)
        have HHW := Lib.hid (show w.heap.size ≤ wr.heap.size ∧ R < wr.heap.size from ⟨hS.out.below.size, hS.out.rl⟩)
        obtain ⟨wZ, hwZ⟩ : ∃ wZ, wZ = w5 := ⟨_, rfl⟩
        obtain ⟨Y1, hY1⟩ : ∃ Y1, Y1 = Y0 := ⟨_, rfl⟩
        obtain ⟨y, hy⟩ : ∃ y : Dj, y = (d.1.turn r.toNat, .slice none 0 0) := ⟨_, rfl⟩
        have HYD := Lib.hid (show Y1 = (djc y).toArray from by rw [hY1, HY0.out, hy, HVER.out]; rfl)
        have HBV := Lib.hid (show BvAt wZ y.1 y.2 from by
          rw [hy]
          exact .inr ⟨by show (!d.1.on) = false; rw [HON2.out]; rfl, rfl⟩)
        have HYL := Lib.hid (show ∀ k, y.2.ownBlock = some k → w.heap.size ≤ k ∧ k ≠ h ∧ k ≠ R from fun k hk => by rw [hy] at hk; cases hk)
        have HRZ := Lib.hid (show wZ.heap[h]? = some (.cells cur 54 (0, 0)) from by rw [hwZ]; exact HROW5.out)
        have HXZ := Lib.hid (show wZ.heap[X]? = some (.cells Y1 54 (0, 0)) from by rw [hwZ, hY1]; exact HRX5.out)
        have HBZ := Lib.hid (show Below wr.heap.size wr wZ from by rw [hwZ]; exact HB6.out)
        go_upto_region 42 with fail
        rw [← hwZ]
        have HWY := Lib.hid (show WsAt wb y.1.sl y.1.m.ws from by rw [hy]; exact HWS.out)
        have HYJ := Lib.hid (show (D.map Prod.fst).set j y.1 = flipJ (D.map Prod.fst) o.i o.bit from by
          have ho2 : ((D.map Prod.fst).getD o.i.toNat wj0).other o.bit = false := by
            rw [HJ.out, Int.toNat_natCast, HDX1.out]
            unfold Wj.other
            rw [HON2.out]
            rw [Bool.true_and, decide_eq_false_iff_not, Classical.not_not, ← HBE.out]; exact HKX.out
          unfold flipJ
          rw [if_pos ⟨HHAS.out, by rw [← HBE.out]; exact HBT.out.1, ho2⟩, HJ.out, Int.toNat_natCast, HDX1.out, HBITS.out, ← HBE.out, ← HRM.out, hy])
        have HYT := Lib.hid (show Y1.toList = djc y from by rw [HYD.out])
        have HYS1 := Lib.hid (show (Try.prog.info? 54).map (·.size) = some Y1.size from by rw [HYD.out]; exact itemSz)
        have HYO1 := Lib.hid (show Y1.all (·.oneCell') = true from by
          rw [HYD.out]
          exact all_oneCell_toArray (djc_one y HWY.out.isSl HBV.out.sl))
        have HYN := Lib.hid (show Y1.size = 19 from by rw [HYD.out]; rfl)
        have HTH := Lib.hid (show wZ.there h (j * 19) Y1.size from there_row HRZ.out (by rw [HYN.out, HROW.out.2.2.1]; have := HROW.out.2.2.2.1; omega))
        have HSZ := Lib.hid (hS.out.later HBZ.out)
        have HDZ := Lib.hid (hD.out.below HBZ.out)
        have HRR := Lib.hid (show (wZ.setCells h (j * 19) (djc y)).heap[R]? = some (.cells #[.int .i64 0, .int .i64 0, .int .i64 0, .int .i64 0, .int .i64 0, .int .i64 0, .int .u64 0, .int .u64 0, .string ⟨#[]⟩, .bool false, .int .u64 0, .bool false, .string ⟨#[]⟩, .slice none 0 0, .string ⟨#[]⟩, .int .u64 0, .int .u64 0] 38 (0, 0)) from by
          have hs := setCells_row h 54 (djc y) (j * 19) wZ cur.toList (by rw [HRZ.out]) (by rw [djc_len, Array.length_toList, HROW.out.2.2.1]; have := HROW.out.2.2.2.1; omega)
          exact (hs.other R (by have := HROW.out.1; omega)).trans HSZ.out.r)
        have c20 := (HCC.out _ HSZ.out).1
        have hic : (j : Int) < (i : Int) := hjn
        clear hwZ hY1 hy HB5 HB6 HRX5 HROW5
        go_upto_region 43 with (first
          | (refine wpList_load_row rfl 54 _ rfl X rfl 54 Y1 (0, 0) _ HXZ.out Try.underlying54 rfl HYS1.out ?_; dsimp only [Act.put])
          | (refine wpList_store_mid rfl 54 _ _ rfl h (j * 19) Y1 (by first | rfl | simp) (by first | rfl | simp) HTH.out HYS1.out HYO1.out ?_; dsimp only [Act.put]))
        rw [HYT.out]
        clear c20
        go_wp2_with (refine wpList_store_row rfl 38 _ _ rfl R #[.int .i64 0, .int .i64 0, .int .i64 0, .int .i64 0, .int .i64 0, .int .i64 0, .int .u64 0, .int .u64 0, .string ⟨#[]⟩, .bool false, .int .u64 0, .bool false, .string ⟨#[]⟩, .slice none 0 0, .string ⟨#[]⟩, .int .u64 0, .int .u64 0] rfl rfl 38 _ HRR.out msg_size rfl zero_one ?_)
        refine bodyPost_ret (do_ret (setRow_heap _ _ _ _ _ _ HRR.out) rfl rfl rfl rfl rfl) rfl ?_
        have hn := HN.out
        subst hn
        exact DoOut.set HSZ.out HHR.out.1 HDL2.out HDZ.out (by omega) HROW.out.1 HRZ.out HROW.out.2.2.1 HROW.out.2.2.2.1 HROW.out.2.2.2.2.1 HROW.out.2.2.2.2.2 HWY.out HBV.out HYL.out HYJ.out
end Go.Proofs.Ytbhlgceicfjncaa
