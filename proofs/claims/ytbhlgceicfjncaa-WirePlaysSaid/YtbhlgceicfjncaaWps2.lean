/-
  The document's Do, part by part.
-/
import Derived.Test.YtbhlgceicfjncaaWps1
import Derived.Test.YtbhlgceicfjncaaSet25
import Derived.Test.YtbhlgceicfjncaaSet44
import Derived.Test.YtbhlgceicfjncaaSet45
namespace Go.Proofs.Ytbhlgceicfjncaa
open Go.RowKit
set_option linter.unusedVariables false
set_option linter.unnecessarySimpa false
set_option linter.unusedSimpArgs false
set_option maxRecDepth 100000

set_option maxHeartbeats 16000000 in
theorem do_take_on {wb w : World} {D : List Dj} {dv : Value} (o : Wo) (hd : DocW wb w D dv) (hbw : Below wb.heap.size wb w) (hl : D.length ≤ 1000) (hk : o.kind % 5 = 1) (hhas : hasW (D.map Prod.fst) o.i = true) (hall0 : AllOk (D.map Prod.fst)) (hon0 : ((D.map Prod.fst).getD o.i.toNat wj0).on = true) (hver : I64 o.ver) :
    Calls Try.prog 14 #[dv, .agg o.cells] w (DoOut wb w D dv (cutJ (D.map Prod.fst) o.i) (takeM (D.map Prod.fst) o.i o.ver).1 (takeM (D.map Prod.fst) o.i o.ver).2 0) := by
  have hall := Lib.hid hall0
  have HON0 := Lib.hid hon0
  have HBW := Lib.hid hbw
  have HVER := Lib.hid hver
  clear hall0 hon0 hbw hver
  have hh := hasW_iff.1 hhas
  rw [List.length_map] at hh
  obtain ⟨j, hj⟩ : ∃ j : Nat, o.i = (j : Int) := ⟨o.i.toNat, by omega⟩
  have hjD : j < D.length := by omega
  obtain ⟨kb, c, rfl, hkb, _⟩ := hd.at_ hjD
  obtain ⟨kind, hkd⟩ : ∃ kind, kind = o.kind := ⟨_, rfl⟩
  have hz : (kind : Int) % 5 = 1 := by rw [hkd]; omega
  have HS0 := DoS.start w o.cells #[.int .i64 0, .int .i64 0, .int .i64 0, .int .i64 0, .int .i64 0, .int .i64 0, .int .u64 0, .int .u64 0, .string ⟨#[]⟩, .bool false, .int .u64 0, .bool false, .string ⟨#[]⟩, .slice none 0 0, .string ⟨#[]⟩, .int .u64 0, .int .u64 0]
  obtain ⟨w0, hw0⟩ : ∃ w0, w0 = (w.alloc (.cells o.cells 40)).alloc (.cells #[.int .i64 0, .int .i64 0, .int .i64 0, .int .i64 0, .int .i64 0, .int .i64 0, .int .u64 0, .int .u64 0, .string ⟨#[]⟩, .bool false, .int .u64 0, .bool false, .string ⟨#[]⟩, .slice none 0 0, .string ⟨#[]⟩, .int .u64 0, .int .u64 0] 38) := ⟨_, rfl⟩
  rw [← hw0] at HS0
  obtain ⟨R, hR⟩ : ∃ R, R = w.heap.size + 1 := ⟨_, rfl⟩
  obtain ⟨H, hH⟩ : ∃ H, H = w.heap.size := ⟨_, rfl⟩
  rw [← hR, ← hH] at HS0
  have HHR := Lib.hid (And.intro hR hH)
  have HDL := Lib.hid hd.lt
  have HD0 := Lib.hid (hd.below HS0.below)
  obtain ⟨C, hC⟩ : ∃ C, C = o.cells := ⟨_, rfl⟩
  rw [← hC] at HS0 hw0 ⊢
  have hc0 : C[0]? = some (.int .u8 (kind : Int)) := by rw [hC, hkd]; rfl
  have hc20 : C[20]? = some (.int .i64 o.i) := by rw [hC]; rfl
  have HS := Lib.hid HS0
  have c0 := (HS0.c 0).trans hc0
  have c20 := (HS0.c 20).trans hc20
  have hc22 : C[22]? = some (.int .i64 o.ver) := by rw [hC]; rfl
  have HC22 := Lib.hid hc22
  rw [hj] at c20 hc20
  obtain ⟨n, hn⟩ : ∃ n, n = D.length := ⟨_, rfl⟩
  have HL := Lib.hid hl
  have HN := Lib.hid hn
  have hjn : (j : Int) < (n : Int) := by omega
  have hjz : (0 : Int) ≤ (j : Int) := by omega
  have hnm : n ≤ 1000 := by omega
  have HC0 := Lib.hid hc0
  have HC20 := Lib.hid hc20
  have HJ := Lib.hid hj
  have HHAS := Lib.hid hhas
  have HONE := Lib.hid hd.ones
  rw [← hn]
  clear hd HS0 hc0 hc20 hC hkd hl hhas hh hkb hjD hn hj hk hc22
  go_enter Try.func14, Try.ntmps14
  go_upto_region 1 with fail
  rw [← hw0, ← hR, ← hH]
  clear hw0 hR hH
  go_wp2_with fail
  go_loopg [9, 10] n (fun g s9 s10 wx => ∃ (i : Nat) (rv : Value), i + g = n ∧ rv = s9 ∧ s10 = .int .i64 i ∧ Hid (DoS w H R C #[.int .i64 0, .int .i64 0, .int .i64 0, .int .i64 0, .int .i64 0, .int .i64 0, .int .u64 0, .int .u64 0, .string ⟨#[]⟩, .bool false, .int .u64 0, .bool false, .string ⟨#[]⟩, .slice none 0 0, .string ⟨#[]⟩, .int .u64 0, .int .u64 0] wx) ∧ Hid (DocW wb wx D (.slice (some ⟨kb, 0, none⟩) n c)) ∧ Hid (wx.ownsRow (R + 1) 54 19 rv ((D.take i).eraseIdx j).length (dcs ((D.take i).eraseIdx j))))
  case atStart => exact ⟨0, _, by omega, rfl, rfl, HS, by rw [← HN.out] at HD0; exact HD0, Lib.hid (by rw [List.take_zero, List.eraseIdx_nil]; exact World.ownsRow_nil _ _ _ _)⟩
  case round =>
    obtain ⟨i, rv, hig, rfl, rfl, hS, hD, hO⟩ := hrel
    clear HS HD0
    have c0 := (hS.out.c 0).trans HC0.out
    have c20 := (hS.out.c 20).trans HC20.out
    cases gk with
    | succ g =>
      have hin : i < n := by omega
      have hiz : (i : Int) < (n : Int) := by omega
      obtain ⟨rl, hrl⟩ : ∃ rl, rl = ((D.take i).eraseIdx j).length := ⟨_, rfl⟩
      have hO2 := hO
      rw [← hrl] at hO2
      by_cases hij : i = j
      · have hne : ((i : Int) != (j : Int)) = false := by rw [bne_eq_false_iff_eq]; omega
        have he : (D.take (i + 1)).eraseIdx j = (D.take i).eraseIdx j := by rw [hij]; exact erase_same (by have := HN.out; omega)
        have HE := Lib.hid he
        clear he hij hO2 hrl
        go_wp2_with fail
        go_roundg g
        case measure => omega
        case rel => exact ⟨i + 1, _, by omega, rfl, by go_num, hS, hD, Lib.hid (by rw [HE.out]; exact hO.out)⟩
      · have hne : ((i : Int) != (j : Int)) = true := by rw [bne_iff_ne]; omega
        obtain ⟨d, hdd⟩ : ∃ d, d = D.getD i dj0 := ⟨_, rfl⟩
        have he : (D.take (i + 1)).eraseIdx j = (D.take i).eraseIdx j ++ [d] := by rw [hdd]; exact erase_step (by have := HN.out; omega) hij
        have HE := Lib.hid he
        obtain ⟨k', c', e', hkl, hci⟩ := hD.out.at_ (i := i) (by have := HN.out; omega)
        injection e' with e1 e2 e3
        injection e1 with e1
        injection e1 with e1
        subst e1
        rw [← hdd] at hci
        have hra : wr.rangeAt kb (i * 19) (djc d) := fun q u hq => (hci q (by rw [← djc_len d]; exact (List.getElem?_eq_some_iff.1 hq).1)).trans hq
        have HRA := Lib.hid hra
        have hon : ∀ u ∈ djc d, u.oneCell' = true := djc_one d (hD.out.sl d (by rw [hdd]; exact dj_mem (by have := HN.out; omega))).isSl (hD.out.bv d (by rw [hdd]; exact dj_mem (by have := HN.out; omega))).sl
        have HON := Lib.hid hon
        have hrlm : rl ≤ i := by rw [hrl]; exact Nat.le_trans (List.length_eraseIdx_le _ _) (by rw [List.length_take]; omega)
        have HRL := Lib.hid hrl
        have HBS := Lib.hid (show R + 1 ≤ wr.heap.size from hS.out.rl)
        obtain ⟨nf, nz, hi, hz0, hz1, hz2, hz3⟩ := itemI
        have HIJ := Lib.hid hij
        clear he hdd hci hra hon hrl hij hkl e2 e3
        go_wp2_with (first
          | (refine wpList_load_midW rfl 54 _ rfl kb (i * 19) (by simp only [Act.eval, Act.put]; first | rfl | simp) (djc d) _ HRA.out Try.underlying54 rfl itemSz ?_; dsimp only [Act.put])
          | (refine wpList_plain rfl fun K hK => iwp_bs1 _ d rfl (by first | rfl | simp) ?_; refine hK _ _ ?_; dsimp only [Act.put])
          | (at_builtin; refine wpList_append_own2 rfl _ _ 30 rfl (R + 1) 54 nf nz 19 208 Try.underlying30 hi hz0 hz2 hz3 hz1 (by decide) rv rl (dcs ((D.take i).eraseIdx j)) rfl (hO2.out.alloc _) ⟨wr.heap.size, 0, none⟩ 1 1 (djc d) rfl rfl (fun q u hq => by rw [Addr.add_lit, Nat.zero_add, cell_of_row _ _ _ _ _ _ (heap_alloc_new wr _)]; simpa using hq) HON.out (by unfold maxLen; omega) (by omega) (Nat.le_trans HBS.out (by simp)) ?_; intro v9 w9 hown9 hg9 hk9; have HO9 := Lib.hid hown9; have HG9 := Lib.hid hg9; clear hown9 hg9 hk9)
          )
        have hal := (Below.refl wr.heap.size wr).alloc (Nat.le_refl _) (.cells (djc d).toArray 54)
        have hno : ∀ q, q < R + 1 → some q ≠ rv.ownBlock := fun q hq e => by have := (hO2.out.lt q e.symm).1; omega
        have hkk : ∀ q, q < R + 1 → w9.heap[q]? = wr.heap[q]? := fun q hq => (HG9.out.block q (by have := HBS.out; simp; omega) (hno q hq)).trans (hal.block q (by have := HBS.out; omega))
        have hb9 : Below w.heap.size w w9 := ⟨HG9.out.os.trans (hal.os.trans hS.out.below.os), HG9.out.tape.trans (hal.tape.trans hS.out.below.tape), HG9.out.output.trans (hal.output.trans hS.out.below.output), Nat.le_trans hS.out.below.size (Nat.le_trans hal.size HG9.out.size), fun q hq => (hkk q (by have := HHR.out; omega)).trans (hS.out.below.block q hq)⟩
        have hS9 := Lib.hid (hS.out.keep (hkk H (by have := HHR.out; omega)) (hkk R (by omega)) hb9)
        have hD9 := Lib.hid (hD.out.stay (fun q hq => hkk q (by have h1 := HDL.out q; rw [← HN.out] at h1; have := h1 hq; have := HHR.out; omega)))
        clear hal hno hkk hb9
        go_wp2_with fail
        go_roundg g
        case measure => omega
        case rel => exact ⟨i + 1, _, by omega, rfl, by go_num, hS9, hD9, Lib.hid (by rw [HE.out, dcs_app, dcs_one1, List.length_append, ← HRL.out]; exact HO9.out)⟩
    | zero =>
      obtain rfl : i = n := by omega
      have he : D.take i = D := List.take_of_length_le (by have := HN.out; omega)
      rw [he] at hO
      have HDL2 := Lib.hid (show ∀ k, docO (.slice (some ⟨kb, 0, none⟩) i c) D k → k < w.heap.size from by rw [HN.out]; exact HDL.out)
      obtain ⟨d, hdd⟩ : ∃ d, d = D.getD j dj0 := ⟨_, rfl⟩
      have hjl : j < D.length := by have := HN.out; omega
      have hdm : d ∈ D := by rw [hdd]; exact dj_mem hjl
      have hdx : (D.map Prod.fst).getD j wj0 = d.1 := by rw [hdd, dj_fst]
      obtain ⟨k', c', e', hkl, hci⟩ := hD.out.at_ (i := j) hjl
      injection e' with e1 e2 e3
      injection e1 with e1
      injection e1 with e1
      subst e1
      rw [← hdd] at hci
      have HRA := Lib.hid (show wr.rangeAt kb (j * 19) (djc d) from fun q u hq => (hci q (by rw [← djc_len d]; exact (List.getElem?_eq_some_iff.1 hq).1)).trans hq)
      have hbv := hD.out.bv d hdm
      have hws := hD.out.sl d hdm
      have hok := hall.out.at_ (i := j) (by rw [List.length_map]; exact hjl)
      rw [hdx] at hok
      have HON := Lib.hid (show (djc d).toArray.all (·.oneCell') = true from by rw [Array.all_eq_true_iff_forall_mem]; intro u hu; exact djc_one d hws.isSl hbv.sl u (by simpa using hu))
      have hon : d.1.on = true := by have := HON0.out; rw [HJ.out, Int.toNat_natCast, hdx] at this; exact this
      have HTK := Lib.hid (show takeM (D.map Prod.fst) o.i o.ver = (mg0, false) from by
        unfold takeM
        rw [HHAS.out, HJ.out, Int.toNat_natCast, hdx, hon]
        simp)
      have HJC := Lib.hid (show (D.map Prod.fst).eraseIdx j = cutJ (D.map Prod.fst) o.i from by unfold cutJ; rw [HHAS.out, HJ.out]; rfl)
      obtain ⟨ba, bn, bc, hbe, hbz⟩ : ∃ ba bn bc, d.2 = .slice ba bn bc ∧ decide (0 < bn) = true := by
        rcases hbv with ⟨h1, b, h2, _⟩ | ⟨h1, h2⟩
        · exact ⟨_, _, _, h2, rfl⟩
        · exact absurd h1 (by rw [hon]; decide)
      have HOD := Lib.hid (fun W => odd_any ba bn bc W)
      rw [hbz] at HOD
      have h18 : (djc d)[18]? = some (.slice ba bn bc) := by rw [← hbe]; rfl
      have h17 : (djc d)[17]? = some (.int .i64 d.1.v) := rfl
      have hrx := heap_alloc_new wr (.cells (djc d).toArray 54)
      obtain ⟨zi, hzi⟩ : ∃ zi : Array Value, zi = #[.int .i64 0, .int .i64 0, .int .i64 0, .int .i64 0, .int .i64 0, .int .i64 0, .int .u64 0, .int .u64 0, .string ⟨#[]⟩, .bool false, .int .u64 0, .bool false, .string ⟨#[]⟩, .slice none 0 0, .string ⟨#[]⟩, .int .u64 0, .int .u64 0, .int .i64 0, .slice none 0 0] := ⟨_, rfl⟩
      have HZI := Lib.hid hzi
      have hzs : zi.size = 19 := by rw [hzi]; rfl
      clear hzi hbe hbz hci hkl e2 e3 hrx hdd hdm hjl hdx hon
      go_upto_region 19 with (first
        | (refine wpList_load_midW rfl 54 _ rfl kb (j * 19) (by simp only [Act.eval, Act.put]; first | rfl | simp) (djc d) _ HRA.out Try.underlying54 rfl itemSz ?_; dsimp only [Act.put])
        | (refine wpList_store_row rfl 54 _ _ rfl wr.heap.size (djc d).toArray rfl rfl 54 _ (heap_alloc_new wr _) itemSz rfl HON.out ?_; dsimp only [Act.put]))
      rw [← HZI.out]
      have hbX : Below wr.heap.size wr ((wr.alloc (.cells zi 54)).setRow wr.heap.size (djc d).toArray) := below_setRow ((Below.refl _ _).alloc (Nat.le_refl _) _) (Nat.le_refl _) _
      have hrX : ((wr.alloc (.cells zi 54)).setRow wr.heap.size (djc d).toArray).heap[wr.heap.size]? = some (.cells (djc d).toArray 54 (0, 0)) := setRow_heap _ _ _ _ _ _ (heap_alloc_new wr _)
      obtain ⟨wX, hwX⟩ : ∃ wX, wX = (wr.alloc (.cells zi 54)).setRow wr.heap.size (djc d).toArray := ⟨_, rfl⟩
      obtain ⟨X, hX⟩ : ∃ X, X = wr.heap.size := ⟨_, rfl⟩
      rw [← hwX] at hbX hrX ⊢
      rw [← hX] at hrX ⊢
      have HSX := Lib.hid (hS.out.later hbX)
      have HDX := Lib.hid (hD.out.below hbX)
      have HOX := Lib.hid (own_later hO.out hbX)
      have HRX := Lib.hid hrX
      have HWS := Lib.hid hws
      have x17 : wX.cell? ⟨X, 17, none⟩ = some (.int .i64 d.1.v) := by rw [cell_of_row _ _ _ _ _ _ hrX]; exact h17
      have x18 : wX.cell? ⟨X, 18, none⟩ = some (.slice ba bn bc) := by rw [cell_of_row _ _ _ _ _ _ hrX]; simpa using h18
      clear hwX hX hbX hrX h17 h18 hzs hS hD hO HRA HON c0 c20 hws hbv
      go_wp2_with (first
        | (go_at_call 30; (with_reducible refine (HOD.out _).mono ?_); rintro e w1 ⟨rfl, rfl⟩)
        | (refine wpList_store_row rfl 38 _ _ rfl R #[.int .i64 0, .int .i64 0, .int .i64 0, .int .i64 0, .int .i64 0, .int .i64 0, .int .u64 0, .int .u64 0, .string ⟨#[]⟩, .bool false, .int .u64 0, .bool false, .string ⟨#[]⟩, .slice none 0 0, .string ⟨#[]⟩, .int .u64 0, .int .u64 0] rfl rfl 38 _ HSX.out.r msg_size rfl zero_one ?_))
      refine bodyPost_ret (do_ret (HSX.out.res _).1 rfl rfl rfl rfl rfl) rfl ?_
      rw [HTK.out]
      exact DoOut.rest HSX.out HHR.out.1 HDL2.out HDX.out HOX.out HJC.out mg0 (.slice none 0 0) false 0 (WsAt.nil _)
end Go.Proofs.Ytbhlgceicfjncaa

namespace Go.Proofs.Ytbhlgceicfjncaa
open Go.RowKit
set_option linter.unusedVariables false
set_option linter.unnecessarySimpa false
set_option linter.unusedSimpArgs false
set_option maxRecDepth 100000

set_option maxHeartbeats 16000000 in
theorem do_take_off {wb w : World} {D : List Dj} {dv : Value} (o : Wo) (hd : DocW wb w D dv) (hbw : Below wb.heap.size wb w) (hl : D.length ≤ 1000) (hk : o.kind % 5 = 1) (hhas : hasW (D.map Prod.fst) o.i = true) (hall0 : AllOk (D.map Prod.fst)) (hon0 : ((D.map Prod.fst).getD o.i.toNat wj0).on = false) (hver : I64 o.ver) :
    Calls Try.prog 14 #[dv, .agg o.cells] w (DoOut wb w D dv (cutJ (D.map Prod.fst) o.i) (takeM (D.map Prod.fst) o.i o.ver).1 (takeM (D.map Prod.fst) o.i o.ver).2 0) := by
  have hall := Lib.hid hall0
  have HON0 := Lib.hid hon0
  have HBW := Lib.hid hbw
  have HVER := Lib.hid hver
  clear hall0 hon0 hbw hver
  have hh := hasW_iff.1 hhas
  rw [List.length_map] at hh
  obtain ⟨j, hj⟩ : ∃ j : Nat, o.i = (j : Int) := ⟨o.i.toNat, by omega⟩
  have hjD : j < D.length := by omega
  obtain ⟨kb, c, rfl, hkb, _⟩ := hd.at_ hjD
  obtain ⟨kind, hkd⟩ : ∃ kind, kind = o.kind := ⟨_, rfl⟩
  have hz : (kind : Int) % 5 = 1 := by rw [hkd]; omega
  have HS0 := DoS.start w o.cells #[.int .i64 0, .int .i64 0, .int .i64 0, .int .i64 0, .int .i64 0, .int .i64 0, .int .u64 0, .int .u64 0, .string ⟨#[]⟩, .bool false, .int .u64 0, .bool false, .string ⟨#[]⟩, .slice none 0 0, .string ⟨#[]⟩, .int .u64 0, .int .u64 0]
  obtain ⟨w0, hw0⟩ : ∃ w0, w0 = (w.alloc (.cells o.cells 40)).alloc (.cells #[.int .i64 0, .int .i64 0, .int .i64 0, .int .i64 0, .int .i64 0, .int .i64 0, .int .u64 0, .int .u64 0, .string ⟨#[]⟩, .bool false, .int .u64 0, .bool false, .string ⟨#[]⟩, .slice none 0 0, .string ⟨#[]⟩, .int .u64 0, .int .u64 0] 38) := ⟨_, rfl⟩
  rw [← hw0] at HS0
  obtain ⟨R, hR⟩ : ∃ R, R = w.heap.size + 1 := ⟨_, rfl⟩
  obtain ⟨H, hH⟩ : ∃ H, H = w.heap.size := ⟨_, rfl⟩
  rw [← hR, ← hH] at HS0
  have HHR := Lib.hid (And.intro hR hH)
  have HDL := Lib.hid hd.lt
  have HD0 := Lib.hid (hd.below HS0.below)
  obtain ⟨C, hC⟩ : ∃ C, C = o.cells := ⟨_, rfl⟩
  rw [← hC] at HS0 hw0 ⊢
  have hc0 : C[0]? = some (.int .u8 (kind : Int)) := by rw [hC, hkd]; rfl
  have hc20 : C[20]? = some (.int .i64 o.i) := by rw [hC]; rfl
  have HS := Lib.hid HS0
  have c0 := (HS0.c 0).trans hc0
  have c20 := (HS0.c 20).trans hc20
  have hc22 : C[22]? = some (.int .i64 o.ver) := by rw [hC]; rfl
  have HC22 := Lib.hid hc22
  rw [hj] at c20 hc20
  obtain ⟨n, hn⟩ : ∃ n, n = D.length := ⟨_, rfl⟩
  have HL := Lib.hid hl
  have HN := Lib.hid hn
  have hjn : (j : Int) < (n : Int) := by omega
  have hjz : (0 : Int) ≤ (j : Int) := by omega
  have hnm : n ≤ 1000 := by omega
  have HC0 := Lib.hid hc0
  have HC20 := Lib.hid hc20
  have HJ := Lib.hid hj
  have HHAS := Lib.hid hhas
  have HONE := Lib.hid hd.ones
  rw [← hn]
  clear hd HS0 hc0 hc20 hC hkd hl hhas hh hkb hjD hn hj hk hc22
  go_enter Try.func14, Try.ntmps14
  go_upto_region 1 with fail
  rw [← hw0, ← hR, ← hH]
  clear hw0 hR hH
  go_wp2_with fail
  go_loopg [9, 10] n (fun g s9 s10 wx => ∃ (i : Nat) (rv : Value), i + g = n ∧ rv = s9 ∧ s10 = .int .i64 i ∧ Hid (DoS w H R C #[.int .i64 0, .int .i64 0, .int .i64 0, .int .i64 0, .int .i64 0, .int .i64 0, .int .u64 0, .int .u64 0, .string ⟨#[]⟩, .bool false, .int .u64 0, .bool false, .string ⟨#[]⟩, .slice none 0 0, .string ⟨#[]⟩, .int .u64 0, .int .u64 0] wx) ∧ Hid (DocW wb wx D (.slice (some ⟨kb, 0, none⟩) n c)) ∧ Hid (wx.ownsRow (R + 1) 54 19 rv ((D.take i).eraseIdx j).length (dcs ((D.take i).eraseIdx j))))
  case atStart => exact ⟨0, _, by omega, rfl, rfl, HS, by rw [← HN.out] at HD0; exact HD0, Lib.hid (by rw [List.take_zero, List.eraseIdx_nil]; exact World.ownsRow_nil _ _ _ _)⟩
  case round =>
    obtain ⟨i, rv, hig, rfl, rfl, hS, hD, hO⟩ := hrel
    clear HS HD0
    have c0 := (hS.out.c 0).trans HC0.out
    have c20 := (hS.out.c 20).trans HC20.out
    cases gk with
    | succ g =>
      have hin : i < n := by omega
      have hiz : (i : Int) < (n : Int) := by omega
      obtain ⟨rl, hrl⟩ : ∃ rl, rl = ((D.take i).eraseIdx j).length := ⟨_, rfl⟩
      have hO2 := hO
      rw [← hrl] at hO2
      by_cases hij : i = j
      · have hne : ((i : Int) != (j : Int)) = false := by rw [bne_eq_false_iff_eq]; omega
        have he : (D.take (i + 1)).eraseIdx j = (D.take i).eraseIdx j := by rw [hij]; exact erase_same (by have := HN.out; omega)
        have HE := Lib.hid he
        clear he hij hO2 hrl
        go_wp2_with fail
        go_roundg g
        case measure => omega
        case rel => exact ⟨i + 1, _, by omega, rfl, by go_num, hS, hD, Lib.hid (by rw [HE.out]; exact hO.out)⟩
      · have hne : ((i : Int) != (j : Int)) = true := by rw [bne_iff_ne]; omega
        obtain ⟨d, hdd⟩ : ∃ d, d = D.getD i dj0 := ⟨_, rfl⟩
        have he : (D.take (i + 1)).eraseIdx j = (D.take i).eraseIdx j ++ [d] := by rw [hdd]; exact erase_step (by have := HN.out; omega) hij
        have HE := Lib.hid he
        obtain ⟨k', c', e', hkl, hci⟩ := hD.out.at_ (i := i) (by have := HN.out; omega)
        injection e' with e1 e2 e3
        injection e1 with e1
        injection e1 with e1
        subst e1
        rw [← hdd] at hci
        have hra : wr.rangeAt kb (i * 19) (djc d) := fun q u hq => (hci q (by rw [← djc_len d]; exact (List.getElem?_eq_some_iff.1 hq).1)).trans hq
        have HRA := Lib.hid hra
        have hon : ∀ u ∈ djc d, u.oneCell' = true := djc_one d (hD.out.sl d (by rw [hdd]; exact dj_mem (by have := HN.out; omega))).isSl (hD.out.bv d (by rw [hdd]; exact dj_mem (by have := HN.out; omega))).sl
        have HON := Lib.hid hon
        have hrlm : rl ≤ i := by rw [hrl]; exact Nat.le_trans (List.length_eraseIdx_le _ _) (by rw [List.length_take]; omega)
        have HRL := Lib.hid hrl
        have HBS := Lib.hid (show R + 1 ≤ wr.heap.size from hS.out.rl)
        obtain ⟨nf, nz, hi, hz0, hz1, hz2, hz3⟩ := itemI
        have HIJ := Lib.hid hij
        clear he hdd hci hra hon hrl hij hkl e2 e3
        go_wp2_with (first
          | (refine wpList_load_midW rfl 54 _ rfl kb (i * 19) (by simp only [Act.eval, Act.put]; first | rfl | simp) (djc d) _ HRA.out Try.underlying54 rfl itemSz ?_; dsimp only [Act.put])
          | (refine wpList_plain rfl fun K hK => iwp_bs1 _ d rfl (by first | rfl | simp) ?_; refine hK _ _ ?_; dsimp only [Act.put])
          | (at_builtin; refine wpList_append_own2 rfl _ _ 30 rfl (R + 1) 54 nf nz 19 208 Try.underlying30 hi hz0 hz2 hz3 hz1 (by decide) rv rl (dcs ((D.take i).eraseIdx j)) rfl (hO2.out.alloc _) ⟨wr.heap.size, 0, none⟩ 1 1 (djc d) rfl rfl (fun q u hq => by rw [Addr.add_lit, Nat.zero_add, cell_of_row _ _ _ _ _ _ (heap_alloc_new wr _)]; simpa using hq) HON.out (by unfold maxLen; omega) (by omega) (Nat.le_trans HBS.out (by simp)) ?_; intro v9 w9 hown9 hg9 hk9; have HO9 := Lib.hid hown9; have HG9 := Lib.hid hg9; clear hown9 hg9 hk9)
          )
        have hal := (Below.refl wr.heap.size wr).alloc (Nat.le_refl _) (.cells (djc d).toArray 54)
        have hno : ∀ q, q < R + 1 → some q ≠ rv.ownBlock := fun q hq e => by have := (hO2.out.lt q e.symm).1; omega
        have hkk : ∀ q, q < R + 1 → w9.heap[q]? = wr.heap[q]? := fun q hq => (HG9.out.block q (by have := HBS.out; simp; omega) (hno q hq)).trans (hal.block q (by have := HBS.out; omega))
        have hb9 : Below w.heap.size w w9 := ⟨HG9.out.os.trans (hal.os.trans hS.out.below.os), HG9.out.tape.trans (hal.tape.trans hS.out.below.tape), HG9.out.output.trans (hal.output.trans hS.out.below.output), Nat.le_trans hS.out.below.size (Nat.le_trans hal.size HG9.out.size), fun q hq => (hkk q (by have := HHR.out; omega)).trans (hS.out.below.block q hq)⟩
        have hS9 := Lib.hid (hS.out.keep (hkk H (by have := HHR.out; omega)) (hkk R (by omega)) hb9)
        have hD9 := Lib.hid (hD.out.stay (fun q hq => hkk q (by have h1 := HDL.out q; rw [← HN.out] at h1; have := h1 hq; have := HHR.out; omega)))
        clear hal hno hkk hb9
        go_wp2_with fail
        go_roundg g
        case measure => omega
        case rel => exact ⟨i + 1, _, by omega, rfl, by go_num, hS9, hD9, Lib.hid (by rw [HE.out, dcs_app, dcs_one1, List.length_append, ← HRL.out]; exact HO9.out)⟩
    | zero =>
      obtain rfl : i = n := by omega
      have he : D.take i = D := List.take_of_length_le (by have := HN.out; omega)
      rw [he] at hO
      have HDL2 := Lib.hid (show ∀ k, docO (.slice (some ⟨kb, 0, none⟩) i c) D k → k < w.heap.size from by rw [HN.out]; exact HDL.out)
      obtain ⟨d, hdd⟩ : ∃ d, d = D.getD j dj0 := ⟨_, rfl⟩
      have hjl : j < D.length := by have := HN.out; omega
      have hdm : d ∈ D := by rw [hdd]; exact dj_mem hjl
      have hdx : (D.map Prod.fst).getD j wj0 = d.1 := by rw [hdd, dj_fst]
      obtain ⟨k', c', e', hkl, hci⟩ := hD.out.at_ (i := j) hjl
      injection e' with e1 e2 e3
      injection e1 with e1
      injection e1 with e1
      subst e1
      rw [← hdd] at hci
      have HRA := Lib.hid (show wr.rangeAt kb (j * 19) (djc d) from fun q u hq => (hci q (by rw [← djc_len d]; exact (List.getElem?_eq_some_iff.1 hq).1)).trans hq)
      have hbv := hD.out.bv d hdm
      have hws := hD.out.sl d hdm
      have hok := hall.out.at_ (i := j) (by rw [List.length_map]; exact hjl)
      rw [hdx] at hok
      have HON := Lib.hid (show (djc d).toArray.all (·.oneCell') = true from by rw [Array.all_eq_true_iff_forall_mem]; intro u hu; exact djc_one d hws.isSl hbv.sl u (by simpa using hu))
      have hon : d.1.on = false := by have := HON0.out; rw [HJ.out, Int.toNat_natCast, hdx] at this; exact this
      have HTK := Lib.hid (show takeM (D.map Prod.fst) o.i o.ver = ((projB o.ver (cut d.1.v d.1.m)).1, decide ((projB o.ver (cut d.1.v d.1.m)).2 = 0)) from by
        unfold takeM
        rw [HHAS.out, HJ.out, Int.toNat_natCast, hdx, hon]
        simp)
      have HJC := Lib.hid (show (D.map Prod.fst).eraseIdx j = cutJ (D.map Prod.fst) o.i from by unfold cutJ; rw [HHAS.out, HJ.out]; rfl)
      obtain ⟨ba, bn, bc, hbe, hbz⟩ : ∃ ba bn bc, d.2 = .slice ba bn bc ∧ decide (0 < bn) = false := by
        rcases hbv with ⟨h1, b, h2, _⟩ | ⟨h1, h2⟩
        · exact absurd h1 (by rw [hon]; decide)
        · exact ⟨_, _, _, h2, rfl⟩
      have HOD := Lib.hid (fun W => odd_any ba bn bc W)
      rw [hbz] at HOD
      have h18 : (djc d)[18]? = some (.slice ba bn bc) := by rw [← hbe]; rfl
      have h17 : (djc d)[17]? = some (.int .i64 d.1.v) := rfl
      have hrx := heap_alloc_new wr (.cells (djc d).toArray 54)
      obtain ⟨zi, hzi⟩ : ∃ zi : Array Value, zi = #[.int .i64 0, .int .i64 0, .int .i64 0, .int .i64 0, .int .i64 0, .int .i64 0, .int .u64 0, .int .u64 0, .string ⟨#[]⟩, .bool false, .int .u64 0, .bool false, .string ⟨#[]⟩, .slice none 0 0, .string ⟨#[]⟩, .int .u64 0, .int .u64 0, .int .i64 0, .slice none 0 0] := ⟨_, rfl⟩
      have HZI := Lib.hid hzi
      have hzs : zi.size = 19 := by rw [hzi]; rfl
      clear hzi hbe hbz hci hkl e2 e3 hrx hdd hdm hjl hdx hon
      go_upto_region 19 with (first
        | (refine wpList_load_midW rfl 54 _ rfl kb (j * 19) (by simp only [Act.eval, Act.put]; first | rfl | simp) (djc d) _ HRA.out Try.underlying54 rfl itemSz ?_; dsimp only [Act.put])
        | (refine wpList_store_row rfl 54 _ _ rfl wr.heap.size (djc d).toArray rfl rfl 54 _ (heap_alloc_new wr _) itemSz rfl HON.out ?_; dsimp only [Act.put]))
      rw [← HZI.out]
      have hbX : Below wr.heap.size wr ((wr.alloc (.cells zi 54)).setRow wr.heap.size (djc d).toArray) := below_setRow ((Below.refl _ _).alloc (Nat.le_refl _) _) (Nat.le_refl _) _
      have hrX : ((wr.alloc (.cells zi 54)).setRow wr.heap.size (djc d).toArray).heap[wr.heap.size]? = some (.cells (djc d).toArray 54 (0, 0)) := setRow_heap _ _ _ _ _ _ (heap_alloc_new wr _)
      obtain ⟨wX, hwX⟩ : ∃ wX, wX = (wr.alloc (.cells zi 54)).setRow wr.heap.size (djc d).toArray := ⟨_, rfl⟩
      obtain ⟨X, hX⟩ : ∃ X, X = wr.heap.size := ⟨_, rfl⟩
      rw [← hwX] at hbX hrX ⊢
      rw [← hX] at hrX ⊢
      have HSX := Lib.hid (hS.out.later hbX)
      have HDX := Lib.hid (hD.out.below hbX)
      have HOX := Lib.hid (own_later hO.out hbX)
      have HRX := Lib.hid hrX
      have HWS := Lib.hid hws
      have x17 : wX.cell? ⟨X, 17, none⟩ = some (.int .i64 d.1.v) := by rw [cell_of_row _ _ _ _ _ _ hrX]; exact h17
      have x18 : wX.cell? ⟨X, 18, none⟩ = some (.slice ba bn bc) := by rw [cell_of_row _ _ _ _ _ _ hrX]; simpa using h18
      clear hwX hX hbX hrX h17 h18 hzs hS hD hO HRA HON c0 c20 hws hbv
      have hm0 : ∀ q u, ((d.1.m.cells d.1.sl).toList)[q]? = some u → (djc d)[q]? = some u := fun q u h => by unfold djc; rw [List.getElem?_append_left (List.getElem?_eq_some_iff.1 h).1]; exact h
      have HRM := Lib.hid (show ∀ W : World, W.heap[X]? = some (.cells (djc d).toArray 54 (0, 0)) → W.rangeAt X 0 (d.1.m.cells d.1.sl).toList from fun W hW q u hq => by rw [cell_of_row _ _ _ _ _ _ hW, Nat.zero_add]; simpa using hm0 q u hq)
      have hv123 := hok.v
      have HP1 := Lib.hid (fun W (hB : Below w.heap.size w W) => refProject_any d.1.v (by rcases hok.v with h | h | h <;> rw [h] <;> decide) d.1.m d.1.sl hok.fits hok.few W ((HWS.out.below HBW.out).below hB))
      rw [proj_right hok.right hok.v, if_neg (fun e => hok.must.elim (fun h => by omega) (fun h => e.2 h))] at HP1
      obtain ⟨M1, hM1⟩ : ∃ M1, M1 = cut d.1.v d.1.m := ⟨_, rfl⟩
      have HP2 := Lib.hid (fun W sl (hw : WsAt W sl M1.ws) => refProject_any o.ver HVER.out M1 sl (by rw [hM1]; exact wcut_fits hok.fits _) (by rw [hM1]; exact wcut_few hok.few _) W hw)
      rw [← hM1] at HP1 HTK
      obtain ⟨M2, hM2⟩ : ∃ M2, M2 = (projB o.ver M1).1 := ⟨_, rfl⟩
      obtain ⟨E2, hE2⟩ : ∃ E2, E2 = (projB o.ver M1).2 := ⟨_, rfl⟩
      rw [← hM2, ← hE2] at HP2 HTK
      obtain ⟨ver, hver⟩ : ∃ ver, ver = o.ver := ⟨_, rfl⟩
      rw [← hver] at HP2
      have x22 : wX.cell? ⟨H, 22, none⟩ = some (.int .i64 ver) := by rw [hver]; exact (HSX.out.c 22).trans HC22.out
      have HX22 := Lib.hid (fun W (hB : Below wX.heap.size wX W) => (hB.cell (p := ⟨H, 22, none⟩) HSX.out.hl).trans x22)
      have HXR := Lib.hid (fun W (hB : Below wX.heap.size wX W) => (hB.block X (Array.getElem?_eq_some_iff.1 HRX.out).1).trans HRX.out)
      have HP1b : Hid (∀ W, Below w.heap.size w W → Calls Try.prog 29 #[.int .i64 d.1.v, .agg (d.1.m.cells d.1.sl)] W fun e W' => ∃ Y : Array Value, Y.size = 17 ∧ Y.all (·.oneCell') = true ∧ e = .returned (.tuple #[.agg Y, .int .i64 0]) ∧ Hid (∃ sl1, Y = M1.cells sl1 ∧ WsAt W' sl1 M1.ws) ∧ Below W.heap.size W W') := Lib.hid (fun W hB => (HP1.out W hB).mono fun e W' ⟨sl1, he, h1, h2⟩ => by
        obtain ⟨a1, b1, c1, hsl⟩ := h1.isSl
        exact ⟨M1.cells sl1, rfl, by rw [hsl]; simp [Mg.cells, Value.oneCell'], he, Lib.hid ⟨sl1, rfl, h1⟩, h2⟩)
      have HP2b : Hid (∀ W sl, WsAt W sl M1.ws → Calls Try.prog 29 #[.int .i64 ver, .agg (M1.cells sl)] W fun e W' => ∃ Y : Array Value, Y.size = 17 ∧ Y.all (·.oneCell') = true ∧ e = .returned (.tuple #[.agg Y, .int .i64 E2]) ∧ Hid (∃ sl1, Y = M2.cells sl1 ∧ WsAt W' sl1 M2.ws) ∧ Below W.heap.size W W') := Lib.hid (fun W sl hw => (HP2.out W sl hw).mono fun e W' ⟨sl1, he, h1, h2⟩ => by
        obtain ⟨a1, b1, c1, hsl⟩ := h1.isSl
        exact ⟨M2.cells sl1, rfl, by rw [hsl]; simp [Mg.cells, Value.oneCell'], he, Lib.hid ⟨sl1, rfl, h1⟩, h2⟩)
      clear hv123 hok hM1 hM2 hE2 hver x22 HP1 HP2 hm0
      obtain ⟨mc, hmc⟩ : ∃ mc, mc = d.1.m.cells d.1.sl := ⟨_, rfl⟩
      have hmcs : mc.toList.length = 17 := by rw [hmc]; rfl
      rw [← hmc] at HP1b HRM
      have HMC := Lib.hid hmc
      have hms17 : (Try.prog.info? 38).map (·.size) = some mc.toList.length := by rw [hmcs]; exact msg_size
      have HMS := Lib.hid hms17
      clear hmc hmcs hms17
      go_upto_region 22 with (first
        | (go_at_call 30; (with_reducible refine (HOD.out _).mono ?_); rintro e w1 ⟨rfl, rfl⟩)
        | (refine wpList_load_midW rfl 38 _ rfl X 0 (by simp only [Act.eval, Act.put]; first | rfl | simp) mc.toList _ (HRM.out _ HRX.out) Try.underlying38 rfl HMS.out ?_; dsimp only [Act.put])
        | (go_at_call 29; (with_reducible refine (HP1b.out _ HSX.out.below).mono ?_); rintro e w2 ⟨Y1, hy1, hy2, rfl, hy3, hb2⟩; have HY1 := Lib.hid hy1; have HY2 := Lib.hid hy2; have HY3 := Lib.hid hy3; have HB2 := Lib.hid hb2; have HS17 := Lib.hid (show (Try.prog.info? 38).map (·.size) = some Y1.size from (by rw [hy1]; exact msg_size)); clear hy1 hy2 hy3 hb2)
        | (refine wpList_store_row rfl 38 _ _ rfl w2.heap.size Y1 rfl rfl 38 _ (heap_alloc_new w2 _) HS17.out (by rw [HY1.out]; rfl) HY2.out ?_; dsimp only [Act.put]))
      have hbM := below_setRow ((Below.refl w2.heap.size w2).alloc (Nat.le_refl _) (.cells #[.int .i64 0, .int .i64 0, .int .i64 0, .int .i64 0, .int .i64 0, .int .i64 0, .int .u64 0, .int .u64 0, .string ⟨#[]⟩, .bool false, .int .u64 0, .bool false, .string ⟨#[]⟩, .slice none 0 0, .string ⟨#[]⟩, .int .u64 0, .int .u64 0] 38)) (Nat.le_refl _) Y1
      have hrM := setRow_heap _ _ _ Y1 _ _ (heap_alloc_new w2 (.cells #[.int .i64 0, .int .i64 0, .int .i64 0, .int .i64 0, .int .i64 0, .int .i64 0, .int .u64 0, .int .u64 0, .string ⟨#[]⟩, .bool false, .int .u64 0, .bool false, .string ⟨#[]⟩, .slice none 0 0, .string ⟨#[]⟩, .int .u64 0, .int .u64 0] 38))
      obtain ⟨wM, hwM⟩ : ∃ wM, wM = (w2.alloc (.cells #[.int .i64 0, .int .i64 0, .int .i64 0, .int .i64 0, .int .i64 0, .int .i64 0, .int .u64 0, .int .u64 0, .string ⟨#[]⟩, .bool false, .int .u64 0, .bool false, .string ⟨#[]⟩, .slice none 0 0, .string ⟨#[]⟩, .int .u64 0, .int .u64 0] 38)).setRow w2.heap.size Y1 := ⟨_, rfl⟩
      obtain ⟨M, hM⟩ : ∃ M, M = w2.heap.size := ⟨_, rfl⟩
      rw [← hwM] at hbM hrM ⊢
      rw [← hM] at hrM ⊢
      have hbXM := HB2.out.trans (hbM.mono HB2.out.size)
      have HSM := Lib.hid (HSX.out.later hbXM)
      have HDM := Lib.hid (HDX.out.below hbXM)
      have HOM := Lib.hid (own_later HOX.out hbXM)
      have HRMM := Lib.hid hrM
      have HMR := Lib.hid (show M ≠ R ∧ M ≠ H ∧ w.heap.size ≤ M from by have h1 := HSX.out.rl; have h2 := HSX.out.hl; have h3 := HB2.out.size; have h4 := HSX.out.below.size; omega)
      have HOMB := Lib.hid (show ∀ k, rv.ownBlock = some k → k ≠ M from fun k hk => by have := (HOX.out.lt k hk).2; have h3 := HB2.out.size; omega)
      have HDMB := Lib.hid (show ∀ k, docO (.slice (some ⟨kb, 0, none⟩) i c) D k → k ≠ M from fun k hk => by have := HDX.out.lt k hk; have h3 := HB2.out.size; omega)
      have x22 := HX22.out wM hbXM
      have HP2c : Hid (Calls Try.prog 29 #[.int .i64 ver, .agg Y1] wM fun e W' => ∃ Y : Array Value, Y.size = 17 ∧ Y.all (·.oneCell') = true ∧ e = .returned (.tuple #[.agg Y, .int .i64 E2]) ∧ Hid (∃ sl1, Y = M2.cells sl1 ∧ WsAt W' sl1 M2.ws) ∧ Below wM.heap.size wM W') := Lib.hid (by
        obtain ⟨sl1, e, h1⟩ := HY3.out.out
        rw [e]
        exact HP2b.out wM sl1 (h1.below hbM))
      clear hwM hM hbM hrM hbXM HP1b HP2b HX22 HXR HRM HOD HSX HDX HOX HRX x17 x18
      have HY3b := Lib.hid HY3
      clear HY3
      go_upto_region 25 with (first
        | (refine wpList_load_row rfl 38 _ rfl M rfl 38 Y1 (0, 0) _ HRMM.out Try.underlying38 rfl HS17.out ?_; dsimp only [Act.put])
        | (go_at_call 29; (with_reducible refine HP2c.out.mono ?_); rintro e w3 ⟨Y2, hy1, hy2, rfl, hy3, hb3⟩; have HZ1 := Lib.hid hy1; have HZ2 := Lib.hid hy2; have HZ3 := Lib.hid hy3; have HB3 := Lib.hid hb3; have HT17 := Lib.hid (show (Try.prog.info? 38).map (·.size) = some Y2.size from (by rw [hy1]; exact msg_size)); have HRM3 := Lib.hid ((hb3.block M (Array.getElem?_eq_some_iff.1 HRMM.out).1).trans HRMM.out); clear hy1 hy2 hy3 hb3)
        | (refine wpList_store_row rfl 38 _ _ rfl M Y2 rfl rfl 38 _ HRM3.out HT17.out (by rw [HZ1.out, HY1.out]) HZ2.out ?_; dsimp only [Act.put]))
      have hS4 := HSM.out.later HB3.out
      have hD4 := HDM.out.below HB3.out
      have hO4 := own_later HOM.out HB3.out
      have hrM4 := setRow_heap _ _ _ Y2 _ _ HRM3.out
      have ho4 : ∀ k, k ≠ M → (w3.setRow M Y2).heap[k]? = w3.heap[k]? := fun k hk => setRow_other w3 M k Y2 hk
      obtain ⟨w4, hw4⟩ : ∃ w4, w4 = w3.setRow M Y2 := ⟨_, rfl⟩
      rw [← hw4] at hrM4 ho4 ⊢
      have HS5 := Lib.hid (hS4.keep (ho4 H (fun e => HMR.out.2.1 e.symm)) (ho4 R (fun e => HMR.out.1 e.symm)) (by rw [hw4]; exact below_setRow hS4.below HMR.out.2.2 Y2))
      have HD5 := Lib.hid (hD4.stay fun k hk => ho4 k (HDMB.out k hk))
      have HO5 : Hid (w4.ownsRow (R + 1) 54 19 rv (D.eraseIdx j).length (dcs (D.eraseIdx j))) := Lib.hid (by
        refine ⟨hO4.1, ?_⟩
        rcases hO4.2 with h2 | ⟨k, c2, cur, e, h3, h4, h5⟩
        · exact .inl h2
        · exact .inr ⟨k, c2, cur, e, h3, (ho4 k (HOMB.out k (by rw [e]; rfl))).trans h4, h5⟩)
      have HR5 := Lib.hid hrM4
      have hMl : M < w4.heap.size := (Array.getElem?_eq_some_iff.1 hrM4).1
      have hsz4 : w4.heap.size = w3.heap.size := by rw [hw4]; simp
      have HZW : Hid (∃ sl2, Y2 = M2.cells sl2 ∧ WsAt (w4.setRow R Y2) sl2 M2.ws) := Lib.hid (by
        obtain ⟨sl2, e, h1⟩ := HZ3.out.out
        refine ⟨sl2, e, ?_⟩
        obtain ⟨sl1, e1, h11⟩ := HY3b.out.out
        rw [hw4]
        exact WsAt.other_msg (m := mg0) (sl0 := .slice none 0 0) (WsAt.other_msg h1 h11.isSl (by rw [← e1]; exact HRM3.out) Y2) ⟨_, _, _, rfl⟩ (by rw [← hw4]; exact HS5.out.r) Y2)
      clear hw4 hrM4 ho4 hS4 hD4 hO4 HSM HDM HOM HRMM HRM3 HB3 HP2c HZ3 x22
      refine wp_region_tailN [5, 9, 15, 16] [4, 6] (RlR R Y2) (psi25 R M rv Y2 E2) (fun n W => n = 5 → W.heap[R]? = some (.cells Y2 38 (0, 0))) 221 7 (some 7) (.assign (.const (.int .i64 0))) (by kernel_rfl) (by kernel_rfl) (by kernel_rfl) (by kernel_rfl) rfl (by kernel_rfl) (by kernel_rfl)
        (RlR.drew _) (fun _ _ _ h k => h.trans k) (fun _ _ _ _ h k => h) (fun _ _ _ h k hn => k.keep (h hn)) ?_ ?_ [118, 119, 120, 121, 4, 6, 7] (by kernel_rfl) ?_
      · intro t ht w' _
        simp only [List.mem_cons, List.not_mem_nil, or_false] at ht
        rcases ht with rfl | rfl | rfl | rfl <;> rfl
      · repeat' (first | exact AllStepsL.nil | refine AllStepsL.cons ?_ ?_)
        all_goals
          intro hik
          first
            | (exfalso; revert hik; decide)
            | (intro a' w' K' Q' hRl hP hK'
               have hrM' : w'.heap[M]? = some (.cells Y2 38 (0, 0)) := (hRl.block M hMl HMR.out.1).trans HR5.out
               have hrR' : ∃ V : Array Value, V.size = 17 ∧ w'.heap[R]? = some (.cells V 38 (0, 0)) := by
                 rcases hRl.r with h1 | h1
                 · exact ⟨_, rfl, h1.trans HS5.out.r⟩
                 · exact ⟨Y2, HZ1.out, h1⟩
               clear hRl
               first
                | (obtain ⟨h15, _⟩ := hP
                   refine wp_load_row 38 _ rfl M (by simp only [Act.eval, Array.getD_eq_getD_getElem?]; exact h15) 38 Y2 (0, 0) _ hrM' Try.underlying38 rfl HT17.out ?_
                   refine hK' _ _ RlR.refl (fun h => absurd h (by decide)) ?_; intro d hd; cases hd; rfl)
                | (obtain ⟨h5, h119, _⟩ := hP
                   obtain ⟨V, hV1, hV2⟩ := hrR'
                   refine wp_store_row 38 _ _ rfl R Y2 (by simp only [Act.eval, Array.getD_eq_getD_getElem?]; exact h5) (by simp only [Act.eval, Array.getD_eq_getD_getElem?]; exact h119) 38 V hV2 HT17.out (by rw [HZ1.out, hV1]) HZ2.out ?_
                   refine hK' _ _ (RlR.store hV2) (fun _ => setRow_heap _ _ _ _ _ _ hV2) ?_; intro d hd; cases hd)
                | (repeat (obtain ⟨h, hP⟩ := hP; conv at h => whnf)
                   try go_simp
                   first
                    | (refine hK' _ _ RlR.refl (fun h => absurd h (by decide)) ?_; intro d hd; cases hd; first | rfl | exact h | (show _ = Value.bool (decide (E2 = 0)); congr 1; by_cases h0 : E2 = 0 <;> simp [h0]))
                    | (trace_state; fail)))
      · intro f w5 hRl hf hT ok hd ho
        have h4 : f 4 = rv := hf 4 (by simp)
        have h6 : f 6 = .bool (decide (E2 = 0)) := hf 6 (by simp)
        have hr5 := hT 5 (by decide) rfl
        have HB5 := Lib.hid (hRl.done hr5 HS5.out.r)
        have HR6 := Lib.hid hr5
        simp only [putAll, List.foldl_cons, List.foldl_nil, h4, h6]
        dsimp only [Act.put]
        simp only [List.setIfInBounds_toArray]
        simp only [List.set_cons_succ, List.set_cons_zero]
        refine wp_assignW _ ho (.int .i64 0) rfl ?_
        rw [hd]
        dsimp only [Act.put]
        simp only [List.setIfInBounds_toArray]
        simp only [List.set_cons_succ, List.set_cons_zero]
        clear hRl hf hT hd ho h4 h6 hr5
        go_wp2_with fail
        refine bodyPost_ret (do_ret HR6.out HZ1.out rfl rfl rfl rfl) rfl ?_
        rw [HTK.out]
        obtain ⟨sl2, e, h1⟩ := HZW.out
        rw [e] at HB5 h1 ⊢
        exact (DoOut.rest HS5.out HHR.out.1 HDL2.out HD5.out HO5.out HJC.out M2 sl2 (decide (E2 = 0)) 0 h1).later HB5.out
end Go.Proofs.Ytbhlgceicfjncaa

namespace Go.Proofs.Ytbhlgceicfjncaa
open Go.RowKit
set_option linter.unusedVariables false
set_option linter.unnecessarySimpa false
set_option linter.unusedSimpArgs false
set_option maxRecDepth 100000

set_option maxHeartbeats 16000000 in
theorem do_twice_yes {wb w : World} {D : List Dj} {dv : Value} (o : Wo) (hd : DocW wb w D dv) (hl : D.length ≤ 1000) (hk : o.kind % 5 = 3) (hhas : hasW (D.map Prod.fst) o.i = true) (hall0 : AllOk (D.map Prod.fst)) :
    Calls Try.prog 14 #[dv, .agg o.cells] w (DoOut wb w D dv (twiceJ (D.map Prod.fst) o.i) mg0 false 0) := by
  have hall := Lib.hid hall0
  clear hall0
  have hh := hasW_iff.1 hhas
  rw [List.length_map] at hh
  obtain ⟨j, hj⟩ : ∃ j : Nat, o.i = (j : Int) := ⟨o.i.toNat, by omega⟩
  have hjD : j < D.length := by omega
  obtain ⟨kb, c, rfl, hkb, _⟩ := hd.at_ hjD
  obtain ⟨kind, hkd⟩ : ∃ kind, kind = o.kind := ⟨_, rfl⟩
  have hz : (kind : Int) % 5 = 3 := by rw [hkd]; omega
  have HS0 := DoS.start w o.cells #[.int .i64 0, .int .i64 0, .int .i64 0, .int .i64 0, .int .i64 0, .int .i64 0, .int .u64 0, .int .u64 0, .string ⟨#[]⟩, .bool false, .int .u64 0, .bool false, .string ⟨#[]⟩, .slice none 0 0, .string ⟨#[]⟩, .int .u64 0, .int .u64 0]
  obtain ⟨w0, hw0⟩ : ∃ w0, w0 = (w.alloc (.cells o.cells 40)).alloc (.cells #[.int .i64 0, .int .i64 0, .int .i64 0, .int .i64 0, .int .i64 0, .int .i64 0, .int .u64 0, .int .u64 0, .string ⟨#[]⟩, .bool false, .int .u64 0, .bool false, .string ⟨#[]⟩, .slice none 0 0, .string ⟨#[]⟩, .int .u64 0, .int .u64 0] 38) := ⟨_, rfl⟩
  rw [← hw0] at HS0
  obtain ⟨R, hR⟩ : ∃ R, R = w.heap.size + 1 := ⟨_, rfl⟩
  obtain ⟨H, hH⟩ : ∃ H, H = w.heap.size := ⟨_, rfl⟩
  rw [← hR, ← hH] at HS0
  have HHR := Lib.hid (And.intro hR hH)
  have HDL := Lib.hid hd.lt
  have HD0 := Lib.hid (hd.below HS0.below)
  obtain ⟨C, hC⟩ : ∃ C, C = o.cells := ⟨_, rfl⟩
  rw [← hC] at HS0 hw0 ⊢
  have hc0 : C[0]? = some (.int .u8 (kind : Int)) := by rw [hC, hkd]; rfl
  have hc20 : C[20]? = some (.int .i64 o.i) := by rw [hC]; rfl
  have HS := Lib.hid HS0
  have c0 := (HS0.c 0).trans hc0
  have c20 := (HS0.c 20).trans hc20
  rw [hj] at c20 hc20
  obtain ⟨n, hn⟩ : ∃ n, n = D.length := ⟨_, rfl⟩
  have HL := Lib.hid hl
  have HN := Lib.hid hn
  have hjn : (j : Int) < (n : Int) := by omega
  have hjz : (0 : Int) ≤ (j : Int) := by omega
  have hnm : n ≤ 1000 := by omega
  have HC0 := Lib.hid hc0
  have HC20 := Lib.hid hc20
  have HJ := Lib.hid hj
  have HHAS := Lib.hid hhas
  have HONE := Lib.hid hd.ones
  rw [← hn]
  clear hd HS0 hc0 hc20 hC hkd hl hhas hh hkb hjD hn hj hk
  go_enter Try.func14, Try.ntmps14
  go_upto_region 1 with fail
  rw [← hw0, ← hR, ← hH]
  clear hw0 hR hH
  go_wp2_with fail
  go_loopg [9, 10] n (fun g s9 s10 wx => ∃ (i : Nat) (rv : Value), i + g = n ∧ rv = s9 ∧ s10 = .int .i64 i ∧ Hid (DoS w H R C #[.int .i64 0, .int .i64 0, .int .i64 0, .int .i64 0, .int .i64 0, .int .i64 0, .int .u64 0, .int .u64 0, .string ⟨#[]⟩, .bool false, .int .u64 0, .bool false, .string ⟨#[]⟩, .slice none 0 0, .string ⟨#[]⟩, .int .u64 0, .int .u64 0] wx) ∧ Hid (DocW wb wx D (.slice (some ⟨kb, 0, none⟩) n c)) ∧ Hid (wx.ownsRow (R + 1) 54 19 rv ((D.take i).eraseIdx j).length (dcs ((D.take i).eraseIdx j))))
  case atStart => exact ⟨0, _, by omega, rfl, rfl, HS, by rw [← HN.out] at HD0; exact HD0, Lib.hid (by rw [List.take_zero, List.eraseIdx_nil]; exact World.ownsRow_nil _ _ _ _)⟩
  case round =>
    obtain ⟨i, rv, hig, rfl, rfl, hS, hD, hO⟩ := hrel
    clear HS HD0
    have c0 := (hS.out.c 0).trans HC0.out
    have c20 := (hS.out.c 20).trans HC20.out
    cases gk with
    | succ g =>
      have hin : i < n := by omega
      have hiz : (i : Int) < (n : Int) := by omega
      obtain ⟨rl, hrl⟩ : ∃ rl, rl = ((D.take i).eraseIdx j).length := ⟨_, rfl⟩
      have hO2 := hO
      rw [← hrl] at hO2
      by_cases hij : i = j
      · have hne : ((i : Int) != (j : Int)) = false := by rw [bne_eq_false_iff_eq]; omega
        have he : (D.take (i + 1)).eraseIdx j = (D.take i).eraseIdx j := by rw [hij]; exact erase_same (by have := HN.out; omega)
        have HE := Lib.hid he
        clear he hij hO2 hrl
        go_wp2_with fail
        go_roundg g
        case measure => omega
        case rel => exact ⟨i + 1, _, by omega, rfl, by go_num, hS, hD, Lib.hid (by rw [HE.out]; exact hO.out)⟩
      · have hne : ((i : Int) != (j : Int)) = true := by rw [bne_iff_ne]; omega
        obtain ⟨d, hdd⟩ : ∃ d, d = D.getD i dj0 := ⟨_, rfl⟩
        have he : (D.take (i + 1)).eraseIdx j = (D.take i).eraseIdx j ++ [d] := by rw [hdd]; exact erase_step (by have := HN.out; omega) hij
        have HE := Lib.hid he
        obtain ⟨k', c', e', hkl, hci⟩ := hD.out.at_ (i := i) (by have := HN.out; omega)
        injection e' with e1 e2 e3
        injection e1 with e1
        injection e1 with e1
        subst e1
        rw [← hdd] at hci
        have hra : wr.rangeAt kb (i * 19) (djc d) := fun q u hq => (hci q (by rw [← djc_len d]; exact (List.getElem?_eq_some_iff.1 hq).1)).trans hq
        have HRA := Lib.hid hra
        have hon : ∀ u ∈ djc d, u.oneCell' = true := djc_one d (hD.out.sl d (by rw [hdd]; exact dj_mem (by have := HN.out; omega))).isSl (hD.out.bv d (by rw [hdd]; exact dj_mem (by have := HN.out; omega))).sl
        have HON := Lib.hid hon
        have hrlm : rl ≤ i := by rw [hrl]; exact Nat.le_trans (List.length_eraseIdx_le _ _) (by rw [List.length_take]; omega)
        have HRL := Lib.hid hrl
        have HBS := Lib.hid (show R + 1 ≤ wr.heap.size from hS.out.rl)
        obtain ⟨nf, nz, hi, hz0, hz1, hz2, hz3⟩ := itemI
        have HIJ := Lib.hid hij
        clear he hdd hci hra hon hrl hij hkl e2 e3
        go_wp2_with (first
          | (refine wpList_load_midW rfl 54 _ rfl kb (i * 19) (by simp only [Act.eval, Act.put]; first | rfl | simp) (djc d) _ HRA.out Try.underlying54 rfl itemSz ?_; dsimp only [Act.put])
          | (refine wpList_plain rfl fun K hK => iwp_bs1 _ d rfl (by first | rfl | simp) ?_; refine hK _ _ ?_; dsimp only [Act.put])
          | (at_builtin; refine wpList_append_own2 rfl _ _ 30 rfl (R + 1) 54 nf nz 19 208 Try.underlying30 hi hz0 hz2 hz3 hz1 (by decide) rv rl (dcs ((D.take i).eraseIdx j)) rfl (hO2.out.alloc _) ⟨wr.heap.size, 0, none⟩ 1 1 (djc d) rfl rfl (fun q u hq => by rw [Addr.add_lit, Nat.zero_add, cell_of_row _ _ _ _ _ _ (heap_alloc_new wr _)]; simpa using hq) HON.out (by unfold maxLen; omega) (by omega) (Nat.le_trans HBS.out (by simp)) ?_; intro v9 w9 hown9 hg9 hk9; have HO9 := Lib.hid hown9; have HG9 := Lib.hid hg9; clear hown9 hg9 hk9)
          )
        have hal := (Below.refl wr.heap.size wr).alloc (Nat.le_refl _) (.cells (djc d).toArray 54)
        have hno : ∀ q, q < R + 1 → some q ≠ rv.ownBlock := fun q hq e => by have := (hO2.out.lt q e.symm).1; omega
        have hkk : ∀ q, q < R + 1 → w9.heap[q]? = wr.heap[q]? := fun q hq => (HG9.out.block q (by have := HBS.out; simp; omega) (hno q hq)).trans (hal.block q (by have := HBS.out; omega))
        have hb9 : Below w.heap.size w w9 := ⟨HG9.out.os.trans (hal.os.trans hS.out.below.os), HG9.out.tape.trans (hal.tape.trans hS.out.below.tape), HG9.out.output.trans (hal.output.trans hS.out.below.output), Nat.le_trans hS.out.below.size (Nat.le_trans hal.size HG9.out.size), fun q hq => (hkk q (by have := HHR.out; omega)).trans (hS.out.below.block q hq)⟩
        have hS9 := Lib.hid (hS.out.keep (hkk H (by have := HHR.out; omega)) (hkk R (by omega)) hb9)
        have hD9 := Lib.hid (hD.out.stay (fun q hq => hkk q (by have h1 := HDL.out q; rw [← HN.out] at h1; have := h1 hq; have := HHR.out; omega)))
        clear hal hno hkk hb9
        go_wp2_with fail
        go_roundg g
        case measure => omega
        case rel => exact ⟨i + 1, _, by omega, rfl, by go_num, hS9, hD9, Lib.hid (by rw [HE.out, dcs_app, dcs_one1, List.length_append, ← HRL.out]; exact HO9.out)⟩
    | zero =>
      obtain rfl : i = n := by omega
      have he : D.take i = D := List.take_of_length_le (by have := HN.out; omega)
      rw [he] at hO
      have HDL2 := Lib.hid (show ∀ k, docO (.slice (some ⟨kb, 0, none⟩) i c) D k → k < w.heap.size from by rw [HN.out]; exact HDL.out)
      obtain ⟨d, hdd⟩ : ∃ d, d = D.getD j dj0 := ⟨_, rfl⟩
      have hjl : j < D.length := by have := HN.out; omega
      have hdm : d ∈ D := by rw [hdd]; exact dj_mem hjl
      have hdx : (D.map Prod.fst).getD j wj0 = d.1 := by rw [hdd, dj_fst]
      obtain ⟨k', c', e', hkl, hci⟩ := hD.out.at_ (i := j) hjl
      injection e' with e1 e2 e3
      injection e1 with e1
      injection e1 with e1
      subst e1
      rw [← hdd] at hci
      have HRA := Lib.hid (show wr.rangeAt kb (j * 19) (djc d) from fun q u hq => (hci q (by rw [← djc_len d]; exact (List.getElem?_eq_some_iff.1 hq).1)).trans hq)
      have hbv := hD.out.bv d hdm
      have hws := hD.out.sl d hdm
      have hok := hall.out.at_ (i := j) (by rw [List.length_map]; exact hjl)
      rw [hdx] at hok
      have HON := Lib.hid (show (djc d).toArray.all (·.oneCell') = true from by rw [Array.all_eq_true_iff_forall_mem]; intro u hu; exact djc_one d hws.isSl hbv.sl u (by simpa using hu))
      obtain ⟨dv, hdv⟩ : ∃ dv, dv = Value.slice (some ⟨kb, 0, none⟩) i c := ⟨_, rfl⟩
      have HDV := Lib.hid hdv
      have HDX := Lib.hid (show DocW wb wr D dv from by rw [hdv]; exact hD.out)
      have HSX := Lib.hid (show DoS w H R C #[.int .i64 0, .int .i64 0, .int .i64 0, .int .i64 0, .int .i64 0, .int .i64 0, .int .u64 0, .int .u64 0, .string ⟨#[]⟩, .bool false, .int .u64 0, .bool false, .string ⟨#[]⟩, .slice none 0 0, .string ⟨#[]⟩, .int .u64 0, .int .u64 0] wr from hS.out)
      obtain ⟨Z, hZ⟩ : ∃ Z : Array Value, Z = #[.int .i64 0, .int .i64 0, .int .i64 0, .int .i64 0, .int .i64 0, .int .i64 0, .int .u64 0, .int .u64 0, .string ⟨#[]⟩, .bool false, .int .u64 0, .bool false, .string ⟨#[]⟩, .slice none 0 0, .string ⟨#[]⟩, .int .u64 0, .int .u64 0] := ⟨_, rfl⟩
      rw [← hZ] at HSX
      have HZE := Lib.hid (show Value.agg (#[.int .i64 0, .int .i64 0, .int .i64 0, .int .i64 0, .int .i64 0, .int .i64 0, .int .u64 0, .int .u64 0, .string ⟨#[]⟩, .bool false, .int .u64 0, .bool false, .string ⟨#[]⟩, .slice none 0 0, .string ⟨#[]⟩, .int .u64 0, .int .u64 0]) = Value.agg Z from by rw [hZ])
      have HZV := Lib.hid (show Z = mg0.cells (.slice none 0 0) from hZ)
      have HZS := Lib.hid (show Z.size = 17 from by rw [hZ]; rfl)
      have HZ1 := Lib.hid (show Z.all (·.oneCell') = true from by rw [hZ]; exact zero_one)
      have HZ17 := Lib.hid (show (Try.prog.info? 38).map (·.size) = some Z.size from by rw [hZ]; exact msg_size)
      have HHB := Lib.hid (show H < R + 1 ∧ R < R + 1 ∧ w.heap.size ≤ R + 1 from by have := HHR.out; omega)
      have HDL3 := Lib.hid (show ∀ k, docO dv D k → k < w.heap.size from by rw [hdv]; exact HDL2.out)
      have HDN := Lib.hid (show i = D.length from HN.out)
      have HDA : Hid ((some (⟨kb, 0, none⟩ : Addr)) = none → c = 0) := Lib.hid (fun e => by cases e)
      obtain ⟨m, hm⟩ : ∃ m, m = d := ⟨_, rfl⟩
      have HME : Hid (True) := Lib.hid trivial
      have HJT := Lib.hid (show D.map Prod.fst ++ [m.1] = twiceJ (D.map Prod.fst) o.i from by unfold twiceJ; rw [HHAS.out, if_pos rfl, HJ.out, Int.toNat_natCast, hdx, hm])
      have HWS := Lib.hid (show WsAt wb m.1.sl m.1.m.ws from by rw [hm]; exact hws)
      have HDM := Lib.hid (show m ∈ D from by rw [hm]; exact hdm)
      have HONM := Lib.hid (show ∀ u ∈ dcs [m], u.oneCell' = true from by rw [dcs_one1, hm]; exact djc_one d hws.isSl hbv.sl)
      have HRX := Lib.hid (show ∀ W, DoS w H R C Z W → DocW wb W D dv → W.rangeAt kb (j * 19) (djc m) from fun W _ hDW q u hq => by
        obtain ⟨k2, c2, e2, _, hc2⟩ := hDW.at_ hjl
        rw [hdv] at e2
        injection e2 with e2 _ _
        injection e2 with e2
        injection e2 with e2
        subst e2
        have := hc2 q (by rw [← djc_len m]; exact (List.getElem?_eq_some_iff.1 hq).1)
        rw [← hdd, ← hm] at this
        exact this.trans hq)
      clear hdv hZ hdd hdx hm hdm hjl hws hbv hci hkl e2 e3 HRA hok
      go_upto_region 31 with fail
      rw [← HDV.out]
      have hBw : R + 1 ≤ wr.heap.size := HSX.out.rl
      refine wp_region_tailN [0, 3, 5] [4, 6] (wRKeep (R + 1) D m) (psiWT (R + 1) H kb j R dv D m Z) (fun _ _ => True) 221 14 (some 7) (.assign (.const (.int .i64 0))) (by kernel_rfl) (by kernel_rfl) (by kernel_rfl) (by kernel_rfl) rfl (by kernel_rfl) (by kernel_rfl)
        (wRKeep.of hBw (Below.refl _ _).drew) (fun _ _ _ h k => h.trans k) (fun _ _ _ _ h k => psiWT_stable h k) (fun _ _ _ _ _ => trivial) ?_ ?_ [130, 131, 132, 133, 134, 135, 136, 137, 138, 139, 140, 4, 6, 7] (by kernel_rfl) ?_
      · intro t ht w' _
        simp only [List.mem_cons, List.not_mem_nil, or_false] at ht
        rcases ht with rfl | rfl | rfl <;> first | rfl | exact HDV.out.symm
      · repeat' (first | exact AllStepsL.nil | refine AllStepsL.cons ?_ ?_)
        all_goals
          intro hik
          first
            | (exfalso; revert hik; decide)
            | (intro a' w' K' Q' hRl hP hK'
               have hBw' : R + 1 ≤ w'.heap.size := Nat.le_trans hBw hRl.size
               have hS' := HSX.out.keep (hRl.block H HHB.out.1) (hRl.block R HHB.out.2.1) (⟨hRl.os.trans HSX.out.below.os, hRl.tape.trans HSX.out.below.tape, hRl.output.trans HSX.out.below.output, Nat.le_trans HSX.out.below.size hRl.size, fun k hk => (hRl.block k (by have := HHB.out.2.2; omega)).trans (HSX.out.below.block k hk)⟩)
               have hD' := HDX.out.stay (fun k hk => hRl.block k (by have := HDL3.out k hk; have := HHB.out.2.2; omega))
               have hO' := hD'.own
               have HS' := Lib.hid hS'
               have c20' := (hS'.c 20).trans HC20.out
               have HRX' := Lib.hid (HRX.out w' hS' hD')
               clear hRl hS' hD'
               first
                | (refine iwp_bs0 rfl ?_
                   refine hK' _ _ (wRKeep.of hBw' ((Below.refl _ _).alloc (Nat.le_refl _) _)) trivial ?_
                   intro d hd; cases hd; exact wrrow_empty w' hBw')
                | (obtain ⟨h1, h2, _⟩ := hP
                   conv at h2 => whnf
                   obtain ⟨v', w3, hr, hb, hrow⟩ := wrapp_first (B := R + 1) w' _ (some ⟨kb, 0, none⟩) i c D h1 (by rw [HDV.out, ← HDN.out] at hO'; exact hO') HDN.out.symm HONE.out (by have := HL.out; have := HDN.out; omega) HDA.out hBw'
                   refine wrwp_app _ _ rfl rfl _ (.slice (some ⟨kb, 0, none⟩) i c) v' w3 (by simp only [Act.eval, Array.getD_eq_getD_getElem?]) (by rw [← HDV.out]; simp only [Act.eval, Array.getD_eq_getD_getElem?]; exact h2) hr ?_
                   refine hK' _ _ (wRKeep.of hBw' hb) trivial ?_
                   intro d hd; cases hd; exact hrow)
                | (obtain ⟨h1, _⟩ := hP
                   refine iwp_bs1 _ m rfl (by simp only [Act.eval, Array.getD_eq_getD_getElem?]; exact h1) ?_
                   refine hK' _ _ (wRKeep.of hBw' ((Below.refl _ _).alloc (Nat.le_refl _) _)) trivial ?_
                   intro d hd; cases hd; exact wrrow_one w' m hBw')
                | (obtain ⟨h1, h2, _⟩ := hP
                   obtain ⟨v', w3, hr, hb, hrow⟩ := wrapp_second (B := R + 1) w' _ _ D m h1 h2 HONM.out (by have := HL.out; omega) hBw'
                   refine wrwp_app _ _ rfl rfl _ _ v' w3 (by simp only [Act.eval, Array.getD_eq_getD_getElem?]) (by simp only [Act.eval, Array.getD_eq_getD_getElem?]) hr ?_
                   refine hK' _ _ hb trivial ?_
                   intro d hd; cases hd; exact hrow)
                | (obtain ⟨h5, h140, _⟩ := hP
                   refine wp_store_row 38 _ _ rfl R Z (by simp only [Act.eval, Array.getD_eq_getD_getElem?]; exact h5) (by simp only [Act.eval, Array.getD_eq_getD_getElem?]; exact h140) 38 Z HS'.out.r HZ17.out rfl HZ1.out ?_
                   rw [setRow_self w' R Z _ _ HS'.out.r]
                   refine hK' _ _ .refl trivial ?_; intro d hd; cases hd)
                | (obtain ⟨h1, _⟩ := hP
                   refine wp_load_midO 54 _ rfl kb (j * 19) (by simp only [Act.eval, Array.getD_eq_getD_getElem?]; exact h1) (djc m) _ HRX'.out Try.underlying54 rfl itemSz ?_
                   refine hK' _ _ .refl trivial ?_; intro d hd; cases hd; rfl)
                | (obtain ⟨h1, h2, _⟩ := hP
                   conv at h1 => whnf
                   conv at h2 => whnf
                   rw [HDV.out] at h1
                   clear c20'
                   go_simp
                   refine hK' _ _ .refl trivial ?_; intro d hd; cases hd; rfl)
                | (repeat (obtain ⟨h, hP⟩ := hP; conv at h => whnf)
                   try go_simp
                   first
                    | (refine hK' _ _ .refl trivial ?_; intro d hd; cases hd; first | rfl | exact h | exact HZE.out | exact HME.out | (show _ = _; simp))
                    | (trace_state; fail)))
      · intro f w5 hRl hf hT ok hd ho
        have h4 : wRRow (R + 1) false (D ++ [m]) (f 4) w5 := hf 4 (by simp)
        have h6 : f 6 = .bool false := hf 6 (by simp)
        have hS5 := HSX.out.keep (hRl.block H HHB.out.1) (hRl.block R HHB.out.2.1) (⟨hRl.os.trans HSX.out.below.os, hRl.tape.trans HSX.out.below.tape, hRl.output.trans HSX.out.below.output, Nat.le_trans HSX.out.below.size hRl.size, fun k hk => (hRl.block k (by have := HHB.out.2.2; omega)).trans (HSX.out.below.block k hk)⟩)
        have hD5 := HDX.out.stay (fun k hk => hRl.block k (by have := HDL3.out k hk; have := HHB.out.2.2; omega))
        obtain ⟨v4, hv4⟩ : ∃ v4, v4 = f 4 := ⟨_, rfl⟩
        rw [← hv4] at h4
        have HV4 := Lib.hid h4
        have HS5 := Lib.hid hS5
        have HD5 := Lib.hid hD5
        simp only [putAll, List.foldl_cons, List.foldl_nil, ← hv4, h6]
        dsimp only [Act.put]
        simp only [List.setIfInBounds_toArray]
        simp only [List.set_cons_succ, List.set_cons_zero]
        refine wp_assignW _ ho (.int .i64 0) rfl ?_
        rw [hd]
        dsimp only [Act.put]
        simp only [List.setIfInBounds_toArray]
        simp only [List.set_cons_succ, List.set_cons_zero]
        clear hRl hf hT hd ho h4 h6 hv4 hS5 hD5
        go_wp2_with fail
        refine bodyPost_ret (do_ret HS5.out.r HZS.out rfl rfl rfl rfl) rfl ?_
        rw [HZV.out]
        exact DoOut.snoc HS5.out HHR.out.1 (by rw [← HDV.out]; exact HDL3.out) (by rw [← HDV.out]; exact HD5.out) HV4.out HWS.out (HD5.out.bv m HDM.out) (fun k hk => .inr ⟨m, HDM.out, hk⟩) HJT.out mg0 (.slice none 0 0) false 0 (WsAt.nil _) (by rw [← HZV.out]; exact HS5.out.r)
end Go.Proofs.Ytbhlgceicfjncaa

namespace Go.Proofs.Ytbhlgceicfjncaa
open Go.RowKit
set_option linter.unusedVariables false
set_option linter.unnecessarySimpa false
set_option linter.unusedSimpArgs false
set_option maxRecDepth 100000

set_option maxHeartbeats 16000000 in
theorem do_put_no_ok {wb w : World} {D : List Dj} {dv : Value} (o : Wo) (hd : DocW wb w D dv) (hbw : Below wb.heap.size wb w) (hl : D.length ≤ 1000) (hk : o.kind % 5 = 0) (hhas : hasW (D.map Prod.fst) o.i = false) (hf : o.m.fits) (hw : o.m.few) (hws : WsAt wb o.sl o.m.ws) (ha : I64 o.frm) (hb : I64 o.to_) (hp : (projB (negB o.frm o.to_) o.m).2 = 0) (hN : NegOK) :
    Calls Try.prog 14 #[dv, .agg o.cells] w (DoOut wb w D dv (putJ (D.map Prod.fst) o.m o.sl o.frm o.to_) mg0 false (projB (negB o.frm o.to_) o.m).2) := by
  have hnb : I64 (negB o.frm o.to_) := by unfold negB; split; exact ⟨by decide, by decide⟩; exact ⟨by have := ha.1; have := hb.1; omega, by have := ha.2; have := hb.2; omega⟩
  have HNG := Lib.hid (fun W => hN o.frm o.to_ W ha hb)
  have HP1 := Lib.hid (fun W (hB : Below w.heap.size w W) => refProject_any (negB o.frm o.to_) hnb o.m o.sl hf hw W ((hws.below hbw).below hB))
  have HWSB := Lib.hid hws
  have HPP := Lib.hid hp
  have HJP := Lib.hid (show D.map Prod.fst ++ [⟨o.m, o.sl, negB o.frm o.to_, false, 0⟩] = putJ (D.map Prod.fst) o.m o.sl o.frm o.to_ from by unfold putJ; rw [if_pos hp])
  obtain ⟨ver, hver⟩ : ∃ ver, ver = negB o.frm o.to_ := ⟨_, rfl⟩
  rw [← hver] at HNG HP1 HPP HJP ⊢
  obtain ⟨E, hE⟩ : ∃ E, E = (projB ver o.m).2 := ⟨_, rfl⟩
  rw [← hE] at HP1 HPP ⊢
  obtain ⟨fr, hfr⟩ : ∃ fr, fr = o.frm := ⟨_, rfl⟩
  obtain ⟨tt, htt⟩ : ∃ tt, tt = o.to_ := ⟨_, rfl⟩
  rw [← hfr, ← htt] at HNG
  have HFT := Lib.hid (And.intro hfr htt)
  have HPb : Hid (∀ W, Below w.heap.size w W → Calls Try.prog 29 #[.int .i64 ver, .agg (o.m.cells o.sl)] W fun e W' => ∃ Y : Array Value, Y.size = 17 ∧ Y.all (·.oneCell') = true ∧ e = .returned (.tuple #[.agg Y, .int .i64 E]) ∧ Below W.heap.size W W') := Lib.hid (fun W hB => (HP1.out W hB).mono fun e W' ⟨sl1, he, h1, h2⟩ => by
    obtain ⟨a1, b1, c1, hsl⟩ := h1.isSl
    exact ⟨(projB ver o.m).1.cells sl1, rfl, by rw [hsl]; simp [Mg.cells, Value.oneCell'], he, h2⟩)
  have HSL := Lib.hid hws.isSl
  clear hnb hver hE hfr htt hf hw hws hbw ha hb hp hN HP1
  have hno := hasW_no.1 hhas
  rw [List.length_map] at hno
  obtain ⟨a, c, rfl, _, _, hac⟩ := hd.slice
  obtain ⟨kind, hkd⟩ : ∃ kind, kind = o.kind := ⟨_, rfl⟩
  have hz : (kind : Int) % 5 = 0 := by rw [hkd]; omega
  have HS0 := DoS.start w o.cells #[.int .i64 0, .int .i64 0, .int .i64 0, .int .i64 0, .int .i64 0, .int .i64 0, .int .u64 0, .int .u64 0, .string ⟨#[]⟩, .bool false, .int .u64 0, .bool false, .string ⟨#[]⟩, .slice none 0 0, .string ⟨#[]⟩, .int .u64 0, .int .u64 0]
  obtain ⟨w0, hw0⟩ : ∃ w0, w0 = (w.alloc (.cells o.cells 40)).alloc (.cells #[.int .i64 0, .int .i64 0, .int .i64 0, .int .i64 0, .int .i64 0, .int .i64 0, .int .u64 0, .int .u64 0, .string ⟨#[]⟩, .bool false, .int .u64 0, .bool false, .string ⟨#[]⟩, .slice none 0 0, .string ⟨#[]⟩, .int .u64 0, .int .u64 0] 38) := ⟨_, rfl⟩
  rw [← hw0] at HS0
  obtain ⟨R, hR⟩ : ∃ R, R = w.heap.size + 1 := ⟨_, rfl⟩
  obtain ⟨H, hH⟩ : ∃ H, H = w.heap.size := ⟨_, rfl⟩
  rw [← hR, ← hH] at HS0
  have HHR := Lib.hid (And.intro hR hH)
  have HDL := Lib.hid hd.lt
  have HD0 := Lib.hid (hd.below HS0.below)
  obtain ⟨C, hC⟩ : ∃ C, C = o.cells := ⟨_, rfl⟩
  rw [← hC] at HS0 hw0 ⊢
  have hc0 : C[0]? = some (.int .u8 (kind : Int)) := by rw [hC, hkd]; rfl
  have hc20 : C[20]? = some (.int .i64 o.i) := by rw [hC]; rfl
  have HS := Lib.hid HS0
  have c0 := (HS0.c 0).trans hc0
  have c20 := (HS0.c 20).trans hc20
  have HC18 : Hid (C[18]? = some (.int .i64 fr)) := Lib.hid (by rw [hC, HFT.out.1]; rfl)
  have HC19 : Hid (C[19]? = some (.int .i64 tt)) := Lib.hid (by rw [hC, HFT.out.2]; rfl)
  obtain ⟨mc, hmc⟩ : ∃ mc, mc = o.m.cells o.sl := ⟨_, rfl⟩
  have hmcs : mc.toList.length = 17 := by rw [hmc]; rfl
  have hCm : ∀ q u, mc.toList[q]? = some u → C[1 + q]? = some u := fun q u hq => by
    rw [hmc, ← Wo.cells_m, List.getElem?_take] at hq
    split at hq
    · rw [List.getElem?_drop, ← hC] at hq; simpa using hq
    · cases hq
  have HCM := Lib.hid hCm
  have HMC := Lib.hid hmc
  have HMS := Lib.hid (show (Try.prog.info? 38).map (·.size) = some mc.toList.length from by rw [hmcs]; exact msg_size)
  rw [← hmc] at HPb
  have HC20 := Lib.hid hc20
  have HONE := Lib.hid hd.ones
  have HAC := Lib.hid hac
  obtain ⟨ii, hii⟩ : ∃ ii, ii = o.i := ⟨_, rfl⟩
  rw [← hii] at c20 hc20 hno
  obtain ⟨n, hn⟩ : ∃ n, n = D.length := ⟨_, rfl⟩
  rw [← hn] at hno
  have HL := Lib.hid hl
  have HN := Lib.hid hn
  have HHAS := Lib.hid hhas
  have HII := Lib.hid hii
  have hcs : (decide (0 ≤ ii) = false ∧ True) ∨ (decide (0 ≤ ii) = true ∧ decide (ii < (n : Int)) = false) := by
    by_cases h0 : 0 ≤ ii
    · exact .inr ⟨by simpa using h0, by rw [decide_eq_false_iff_not]; exact fun h1 => hno ⟨h0, h1⟩⟩
    · exact .inl ⟨by simpa using h0, trivial⟩
  have hns : (decide ((0 : Int) < (n : Int)) = false ∧ decide (0 < n) = false) ∨ (decide ((0 : Int) < (n : Int)) = true ∧ decide (0 < n) = true) := by
    by_cases h0 : n = 0
    · exact .inl ⟨by rw [decide_eq_false_iff_not]; omega, by rw [decide_eq_false_iff_not]; omega⟩
    · exact .inr ⟨by rw [decide_eq_true_eq]; omega, by rw [decide_eq_true_eq]; omega⟩
  have HC0 := Lib.hid hc0
  have HNS := Lib.hid hns
  rw [← hn]
  clear hd HS0 hc0 hc20 hC hkd hl hhas hno hn hii hns hk hmc hmcs hCm hac
  rcases hcs with ⟨d0, _⟩ | ⟨d0, d1⟩
  all_goals
    go_enter Try.func14, Try.ntmps14
    go_upto_region 1 with fail
    rw [← hw0, ← hR, ← hH]
    clear hw0 hR hH
    go_wp2_with fail
    go_loopg [9, 10] 0 (fun g s9 s10 wx => s9 = .slice none 0 0 ∧ s10 = .int .i64 0 ∧ wx = w0)
    case atStart => exact ⟨rfl, rfl, rfl⟩
    case round =>
      obtain ⟨rfl, rfl, rfl⟩ := hrel
      obtain ⟨w0, rfl⟩ : ∃ w0, w0 = wr := ⟨_, rfl⟩
      have c0 := (HS.out.c 0).trans HC0.out
      rcases HNS.out with ⟨n0, n1⟩ | ⟨n0, n1⟩
      all_goals
        have HDn := Lib.hid (show DocW wb w0 D (.slice a n c) from by rw [HN.out]; exact HD0.out)
        have HDL2 := Lib.hid (show ∀ k, docO (.slice a n c) D k → k < w.heap.size from by rw [HN.out]; exact HDL.out)
        have c18 := (HS.out.c 18).trans HC18.out
        have c19 := (HS.out.c 19).trans HC19.out
        have HRM := Lib.hid (show ∀ W Z, DoS w H R C Z W → W.rangeAt H 1 mc.toList from fun W Z hW q u hq => (hW.c (1 + q)).trans (HCM.out q u hq))
        go_upto_region 12 with (first
          | (go_at_call 20; (with_reducible refine (HNG.out _).mono ?_); rintro e w1 ⟨rfl, hb1⟩; have HB1 := Lib.hid hb1; have HS1 := Lib.hid (HS.out.later hb1); clear hb1)
          | (refine wpList_load_midW rfl 38 _ rfl H 1 (by simp only [Act.eval, Act.put]; first | rfl | simp) mc.toList _ (HRM.out _ _ HS1.out) Try.underlying38 rfl HMS.out ?_; dsimp only [Act.put])
          | (go_at_call 29; (with_reducible refine (HPb.out _ HS1.out.below).mono ?_); rintro e w2 ⟨Y1, hy1, hy2, rfl, hb2⟩; have HY1 := Lib.hid hy1; have HY2 := Lib.hid hy2; have HB2 := Lib.hid hb2; have HS17 := Lib.hid (show (Try.prog.info? 38).map (·.size) = some Y1.size from (by rw [hy1]; exact msg_size)); clear hy1 hy2 hb2)
          | (refine wpList_store_row rfl 38 _ _ rfl w2.heap.size Y1 rfl rfl 38 _ (heap_alloc_new w2 _) HS17.out (by rw [HY1.out]; rfl) HY2.out ?_; dsimp only [Act.put]))
        have hbM := below_setRow ((Below.refl w2.heap.size w2).alloc (Nat.le_refl _) (.cells #[.int .i64 0, .int .i64 0, .int .i64 0, .int .i64 0, .int .i64 0, .int .i64 0, .int .u64 0, .int .u64 0, .string ⟨#[]⟩, .bool false, .int .u64 0, .bool false, .string ⟨#[]⟩, .slice none 0 0, .string ⟨#[]⟩, .int .u64 0, .int .u64 0] 38)) (Nat.le_refl _) Y1
        obtain ⟨wr, hwr⟩ : ∃ wr, wr = (w2.alloc (.cells #[.int .i64 0, .int .i64 0, .int .i64 0, .int .i64 0, .int .i64 0, .int .i64 0, .int .u64 0, .int .u64 0, .string ⟨#[]⟩, .bool false, .int .u64 0, .bool false, .string ⟨#[]⟩, .slice none 0 0, .string ⟨#[]⟩, .int .u64 0, .int .u64 0] 38)).setRow w2.heap.size Y1 := ⟨_, rfl⟩
        obtain ⟨M, hM⟩ : ∃ M, M = w2.heap.size := ⟨_, rfl⟩
        rw [← hwr] at hbM ⊢
        rw [← hM]
        have hbS := HB1.out.trans ((HB2.out.trans (hbM.mono HB2.out.size)).mono HB1.out.size)
        have HSM := Lib.hid (HS.out.later hbS)
        have HDM := Lib.hid (HDn.out.below hbS)
        clear hwr hM hbM hbS HB1 HB2 HS1 HY1 HY2 HS17 HPb HNG c18 c19 c0
        obtain rfl : E = 0 := HPP.out
        obtain ⟨dv, hdv⟩ : ∃ dv, dv = Value.slice (a) n c := ⟨_, rfl⟩
        have HDV := Lib.hid hdv
        have HDX := Lib.hid (show DocW wb wr D dv from by rw [hdv]; exact HDM.out)
        have HSX := Lib.hid (show DoS w H R C #[.int .i64 0, .int .i64 0, .int .i64 0, .int .i64 0, .int .i64 0, .int .i64 0, .int .u64 0, .int .u64 0, .string ⟨#[]⟩, .bool false, .int .u64 0, .bool false, .string ⟨#[]⟩, .slice none 0 0, .string ⟨#[]⟩, .int .u64 0, .int .u64 0] wr from HSM.out)
        obtain ⟨Z, hZ⟩ : ∃ Z : Array Value, Z = #[.int .i64 0, .int .i64 0, .int .i64 0, .int .i64 0, .int .i64 0, .int .i64 0, .int .u64 0, .int .u64 0, .string ⟨#[]⟩, .bool false, .int .u64 0, .bool false, .string ⟨#[]⟩, .slice none 0 0, .string ⟨#[]⟩, .int .u64 0, .int .u64 0] := ⟨_, rfl⟩
        rw [← hZ] at HSX
        have HZE := Lib.hid (show Value.agg (#[.int .i64 0, .int .i64 0, .int .i64 0, .int .i64 0, .int .i64 0, .int .i64 0, .int .u64 0, .int .u64 0, .string ⟨#[]⟩, .bool false, .int .u64 0, .bool false, .string ⟨#[]⟩, .slice none 0 0, .string ⟨#[]⟩, .int .u64 0, .int .u64 0]) = Value.agg Z from by rw [hZ])
        have HZV := Lib.hid (show Z = mg0.cells (.slice none 0 0) from hZ)
        have HZS := Lib.hid (show Z.size = 17 from by rw [hZ]; rfl)
        have HZ1 := Lib.hid (show Z.all (·.oneCell') = true from by rw [hZ]; exact zero_one)
        have HZ17 := Lib.hid (show (Try.prog.info? 38).map (·.size) = some Z.size from by rw [hZ]; exact msg_size)
        have HHB := Lib.hid (show H < R + 1 ∧ R < R + 1 ∧ w.heap.size ≤ R + 1 from by have := HHR.out; omega)
        have HDL3 := Lib.hid (show ∀ k, docO dv D k → k < w.heap.size from by rw [hdv]; exact HDL2.out)
        have HDN := Lib.hid (show n = D.length from HN.out)
        have HDA : Hid ((a : Option Addr) = none → c = 0) := Lib.hid (HAC.out)
        obtain ⟨m, hm⟩ : ∃ m : Dj, m = (⟨o.m, o.sl, ver, false, 0⟩, .slice none 0 0) := ⟨_, rfl⟩
        have hmd : djc m = mc.toList ++ [.int .i64 ver, .slice none 0 0] := by rw [hm, HMC.out]; rfl
        have HMD := Lib.hid hmd
        have HME := Lib.hid hmd
        have HJT := Lib.hid (show D.map Prod.fst ++ [m.1] = putJ (D.map Prod.fst) o.m o.sl o.frm o.to_ from by rw [hm]; exact HJP.out)
        have HWS := Lib.hid (show WsAt wb m.1.sl m.1.m.ws from by rw [hm]; exact HWSB.out)
        have HBV := Lib.hid (show ∀ W, BvAt W m.1 m.2 from fun W => by rw [hm]; exact .inr ⟨rfl, rfl⟩)
        have HMO := Lib.hid (show ∀ k, m.2.ownBlock = some k → docO dv D k from fun k hk => by rw [hm] at hk; cases hk)
        have HONM := Lib.hid (show ∀ u ∈ dcs [m], u.oneCell' = true from by rw [dcs_one1]; exact djc_one m HWS.out.isSl (HBV.out wr).sl)
        have HRX := Lib.hid (show ∀ W, DoS w H R C Z W → DocW wb W D dv → W.rangeAt H 1 mc.toList from fun W hW _ => HRM.out W Z hW)
        clear hdv hZ hm hmd HRM HCM
        go_upto_region 14 with fail
        rw [← HDV.out]
        have hBw : R + 1 ≤ wr.heap.size := HSX.out.rl
        refine wp_region_tailN [0, 3, 5, 11] [4, 6] (wRKeep (R + 1) D m) (psiWP (R + 1) H R dv D m mc.toList ver Z) (fun _ _ => True) 221 13 (some 7) (.assign (.const (.int .i64 0))) (by kernel_rfl) (by kernel_rfl) (by kernel_rfl) (by kernel_rfl) rfl (by kernel_rfl) (by kernel_rfl)
          (wRKeep.of hBw (Below.refl _ _).drew) (fun _ _ _ h k => h.trans k) (fun _ _ _ _ h k => psiWP_stable h k) (fun _ _ _ _ _ => trivial) ?_ ?_ [73, 74, 75, 76, 77, 78, 79, 80, 81, 82, 4, 6, 7] (by kernel_rfl) ?_
        · intro t ht w' _
          simp only [List.mem_cons, List.not_mem_nil, or_false] at ht
          rcases ht with rfl | rfl | rfl | rfl <;> first | rfl | exact HDV.out.symm
        · repeat' (first | exact AllStepsL.nil | refine AllStepsL.cons ?_ ?_)
          all_goals
            intro hik
            first
              | (exfalso; revert hik; decide)
              | (intro a' w' K' Q' hRl hP hK'
                 have hBw' : R + 1 ≤ w'.heap.size := Nat.le_trans hBw hRl.size
                 have hS' := HSX.out.keep (hRl.block H HHB.out.1) (hRl.block R HHB.out.2.1) (⟨hRl.os.trans HSX.out.below.os, hRl.tape.trans HSX.out.below.tape, hRl.output.trans HSX.out.below.output, Nat.le_trans HSX.out.below.size hRl.size, fun k hk => (hRl.block k (by have := HHB.out.2.2; omega)).trans (HSX.out.below.block k hk)⟩)
                 have hD' := HDX.out.stay (fun k hk => hRl.block k (by have := HDL3.out k hk; have := HHB.out.2.2; omega))
                 have hO' := hD'.own
                 have HS' := Lib.hid hS'
                 have c20' := (hS'.c 20).trans HC20.out
                 have HRX' := Lib.hid (HRX.out w' hS' hD')
                 clear hRl hS' hD'
                 first
                  | (refine iwp_bs0 rfl ?_
                     refine hK' _ _ (wRKeep.of hBw' ((Below.refl _ _).alloc (Nat.le_refl _) _)) trivial ?_
                     intro d hd; cases hd; exact wrrow_empty w' hBw')
                  | (obtain ⟨h1, h2, _⟩ := hP
                     conv at h2 => whnf
                     obtain ⟨v', w3, hr, hb, hrow⟩ := wrapp_first (B := R + 1) w' _ a n c D h1 (by rw [HDV.out, ← HDN.out] at hO'; exact hO') HDN.out.symm HONE.out (by have := HL.out; have := HDN.out; omega) HDA.out hBw'
                     refine wrwp_app _ _ rfl rfl _ (.slice a n c) v' w3 (by simp only [Act.eval, Array.getD_eq_getD_getElem?]) (by rw [← HDV.out]; simp only [Act.eval, Array.getD_eq_getD_getElem?]; exact h2) hr ?_
                     refine hK' _ _ (wRKeep.of hBw' hb) trivial ?_
                     intro d hd; cases hd; exact hrow)
                  | (obtain ⟨h1, _⟩ := hP
                     refine iwp_bs1 _ m rfl (by simp only [Act.eval, Array.getD_eq_getD_getElem?]; exact h1) ?_
                     refine hK' _ _ (wRKeep.of hBw' ((Below.refl _ _).alloc (Nat.le_refl _) _)) trivial ?_
                     intro d hd; cases hd; exact wrrow_one w' m hBw')
                  | (obtain ⟨h1, h2, _⟩ := hP
                     obtain ⟨v', w3, hr, hb, hrow⟩ := wrapp_second (B := R + 1) w' _ _ D m h1 h2 HONM.out (by have := HL.out; omega) hBw'
                     refine wrwp_app _ _ rfl rfl _ _ v' w3 (by simp only [Act.eval, Array.getD_eq_getD_getElem?]) (by simp only [Act.eval, Array.getD_eq_getD_getElem?]) hr ?_
                     refine hK' _ _ hb trivial ?_
                     intro d hd; cases hd; exact hrow)
                  | (obtain ⟨h5, h140, _⟩ := hP
                     refine wp_store_row 38 _ _ rfl R Z (by simp only [Act.eval, Array.getD_eq_getD_getElem?]; exact h5) (by simp only [Act.eval, Array.getD_eq_getD_getElem?]; exact h140) 38 Z HS'.out.r HZ17.out rfl HZ1.out ?_
                     rw [setRow_self w' R Z _ _ HS'.out.r]
                     refine hK' _ _ .refl trivial ?_; intro d hd; cases hd)
                  | (obtain ⟨h1, _⟩ := hP
                     refine wp_load_midO 38 _ rfl H 1 (by simp only [Act.eval, Array.getD_eq_getD_getElem?]; exact h1) mc.toList _ HRX'.out Try.underlying38 rfl HMS.out ?_
                     refine hK' _ _ .refl trivial ?_; intro d hd; cases hd; rfl)
                  | (obtain ⟨h1, h2, _⟩ := hP
                     conv at h1 => whnf
                     conv at h2 => whnf
                     rw [HDV.out] at h1
                     clear c20'
                     go_simp
                     refine hK' _ _ .refl trivial ?_; intro d hd; cases hd; rfl)
                  | (obtain ⟨h1, h2, _⟩ := hP
                     refine iwp_bi _ _ o.m o.sl ver rfl (by simp only [Act.eval, Array.getD_eq_getD_getElem?]; exact h1.trans (congrArg Value.agg (show mc.toList.toArray = _ from HMC.out))) (by simp only [Act.eval, Array.getD_eq_getD_getElem?]; exact h2) ?_
                     rw [show ((o.m.cells o.sl).toList ++ [.int .i64 ver, Value.slice none 0 0]) = djc m from by rw [← HMC.out]; exact HMD.out.symm]
                     refine hK' _ _ .refl trivial ?_; intro d hd; cases hd; rfl)
                  | (repeat (obtain ⟨h, hP⟩ := hP; conv at h => whnf)
                     try go_simp
                     first
                      | (refine hK' _ _ .refl trivial ?_; intro d hd; cases hd; first | rfl | exact h | exact HZE.out | exact HME.out | (show _ = _; simp))
                      | (trace_state; fail)))
        · intro f w5 hRl hf hT ok hd ho
          have h4 : wRRow (R + 1) false (D ++ [m]) (f 4) w5 := hf 4 (by simp)
          have h6 : f 6 = .bool false := hf 6 (by simp)
          have hS5 := HSX.out.keep (hRl.block H HHB.out.1) (hRl.block R HHB.out.2.1) (⟨hRl.os.trans HSX.out.below.os, hRl.tape.trans HSX.out.below.tape, hRl.output.trans HSX.out.below.output, Nat.le_trans HSX.out.below.size hRl.size, fun k hk => (hRl.block k (by have := HHB.out.2.2; omega)).trans (HSX.out.below.block k hk)⟩)
          have hD5 := HDX.out.stay (fun k hk => hRl.block k (by have := HDL3.out k hk; have := HHB.out.2.2; omega))
          obtain ⟨v4, hv4⟩ : ∃ v4, v4 = f 4 := ⟨_, rfl⟩
          rw [← hv4] at h4
          have HV4 := Lib.hid h4
          have HS5 := Lib.hid hS5
          have HD5 := Lib.hid hD5
          simp only [putAll, List.foldl_cons, List.foldl_nil, ← hv4, h6]
          dsimp only [Act.put]
          simp only [List.setIfInBounds_toArray]
          simp only [List.set_cons_succ, List.set_cons_zero]
          refine wp_assignW _ ho (.int .i64 0) rfl ?_
          rw [hd]
          dsimp only [Act.put]
          simp only [List.setIfInBounds_toArray]
          simp only [List.set_cons_succ, List.set_cons_zero]
          clear hRl hf hT hd ho h4 h6 hv4 hS5 hD5
          go_wp2_with fail
          refine bodyPost_ret (do_ret HS5.out.r HZS.out rfl rfl rfl rfl) rfl ?_
          rw [HZV.out]
          exact DoOut.snoc HS5.out HHR.out.1 (by rw [← HDV.out]; exact HDL3.out) (by rw [← HDV.out]; exact HD5.out) HV4.out HWS.out (HBV.out _) (fun k hk => by rw [← HDV.out]; exact HMO.out k hk) HJT.out mg0 (.slice none 0 0) false 0 (WsAt.nil _) (by rw [← HZV.out]; exact HS5.out.r)
end Go.Proofs.Ytbhlgceicfjncaa
