/-
  Joined: MvcPKeys, ChnProgram, BlkPEnc, BlkPIns.
-/
import Derived.Test.YtdcefhhmddjodaaSet32
import Derived.Test.YtdcefhhmddjodaaSet08
import Derived.Test.YtdcefhhmddjodaaSet34
import Derived.Test.YtdcefhhmddjodaaSet28
import Derived.Test.YtdcefhhmddjodaaSet19
import Derived.Test.YtdcefhhmddjodaaSet26
namespace Go.Proofs.Ytdcefhhmddjodaa
open Go.RowKit
set_option linter.unusedVariables false
set_option linter.unnecessarySimpa false
set_option linter.unusedSimpArgs false
set_option maxRecDepth 100000

theorem cells_one_newK (w : World) (v : Value) (t : TypeId) : ∀ j u, [v][j]? = some u → (w.alloc (.cells #[v] t)).cell? ((⟨w.heap.size, 0, none⟩ : Addr).add j) = some u := fun j u h => by
  have hadd : (⟨w.heap.size, 0, none⟩ : Addr).add j = ⟨w.heap.size, j, none⟩ := by unfold Addr.add; split <;> simp_all
  rw [hadd, cell_of_row _ _ _ _ _ _ (heap_alloc_new w _)]
  simpa using h
theorem kC_ks {w : World} {B n c : Nat} {a : Option Addr} {l : List ByteArray} (h : w.ownsRow B 9 1 (.slice a n c) n (kCells l)) (hn : l.length = n) (hl : n ≤ 100000) (hv : ∀ x ∈ l, x.size ≤ maxLen) : IsKs w a n c l := by
  refine ⟨hn, by unfold maxLen; omega, fun i hi => ?_⟩
  obtain ⟨g, cap, e, hg, hgl⟩ := own_slice h (by omega)
  injection e with e1 e2 e3
  subst e1 e3
  have hm : l.getD i ⟨#[]⟩ ∈ l := by rw [List.getD, List.getElem?_eq_getElem (by omega)]; exact List.getElem_mem _
  refine ⟨g, 0, rfl, hgl, hv _ hm, ?_⟩
  rw [Nat.zero_add, h.cellAt i (by omega)]
  unfold kCells
  rw [List.getElem?_map, List.getD, List.getElem?_eq_getElem (by omega)]
  rfl

set_option maxHeartbeats 8000000 in
theorem skeys_any {w : World} {r : Addr} {L : List Im} {O : Nat → Prop} (h : StAt w r L O) (hl : L.length ≤ 1000) :
    Calls Try.prog 20 #[.pointer (some r)] w fun e w' => ∃ a n c, e = .returned (.slice a n c) ∧ IsKs w' a n c (keysM L) ∧ Below w.heap.size w w' := by
  obtain ⟨b, a, n, c, l, hS, ha, hg, _⟩ := h
  have hp := hS.ptr
  subst hp
  have hkn : (keysM L).length = n := by rw [← entsM_len, acc_len ha, hS.len]
  have hn1 : n ≤ 1000 := by have := keys_len L; omega
  have k0 := hS.cell
  have HKN := Lib.hid hkn
  have HS := Lib.hid hS
  have HA := Lib.hid ha
  have HKG := Lib.hid (keys_good hg)
  obtain ⟨ki, hki, hkz, hks, hkb⟩ := kI
  have HO0 := Lib.hid (show w.ownsRow w.heap.size 9 1 (.slice none 0 0) 0 (kCells ((keysM L).take 0)) from by rw [List.take_zero]; exact World.ownsRow_nil _ _ _ _)
  clear hS ha hkn hg
  go_enter Try.func20, Try.ntmps20
  go_wp2_with fail
  go_loopg [3, 11] n (fun q s3 s11 wx => ∃ (j : Nat) (a' : Option Addr) (c' : Nat), j + q = n ∧ s11 = .int .i64 j ∧ s3 = .slice a' j c' ∧ Hid (wx.ownsRow w.heap.size 9 1 (.slice a' j c') j (kCells ((keysM L).take j))) ∧ Hid (Below w.heap.size w wx))
  case atStart => exact ⟨0, none, 0, by omega, rfl, rfl, HO0, Lib.hid (Below.refl _ _)⟩
  case round =>
    obtain ⟨j, a', c', hjq, rfl, rfl, HO, HB⟩ := hrel
    clear HO0
    cases gk with
    | zero =>
      obtain rfl : j = n := by omega
      have HE := Lib.hid (show IsKs wr a' j c' (keysM L) from by
        have h1 := HO.out
        rw [List.take_of_length_le (by rw [HKN.out]; exact Nat.le_refl _)] at h1
        exact kC_ks h1 HKN.out (by omega) (fun x hx => by have := HKG.out x hx; unfold maxLen; omega))
      go_wp2_with fail
      go_ret
      exact ⟨_, _, _, rfl, HE.out, HB.out⟩
    | succ q =>
      have hjn : j < n := by omega
      have hjz : (j : Int) < (n : Int) := by omega
      have hil : j < l.length := by rw [HS.out.len]; omega
      have hik : j < (keysM L).length := by rw [HKN.out]; omega
      obtain ⟨g, rfl, hgl, e0, e1, -⟩ := (HS.out.below HB.out).at_ hil
      have hE := acc_get HA.out hil
      rw [ents_getD L hik] at hE
      have hkg := HKG.out _ (show (keysM L).getD j ⟨#[]⟩ ∈ keysM L from by rw [List.getD, List.getElem?_eq_getElem hik]; exact List.getElem_mem _)
      have htk : (keysM L).take (j + 1) = (keysM L).take j ++ [(keysM L).getD j ⟨#[]⟩] := by rw [List.take_add_one, List.getD, List.getElem?_eq_getElem hik]; rfl
      obtain ⟨z, hz⟩ : ∃ z, z = l[j] := ⟨_, rfl⟩
      rw [← hz] at e0 e1 hE
      obtain ⟨K, hK⟩ : ∃ K, K = (keysM L).getD j ⟨#[]⟩ := ⟨_, rfl⟩
      rw [← hK] at hE hkg htk
      rw [← hE] at e0
      obtain ⟨⟨zk, zch⟩, za, zn, zc⟩ := z
      simp only [entOf] at e0 e1
      have hb5 := (Below.refl wr.heap.size wr).alloc (Nat.le_refl _) (.cells #[.string K, .slice za zn zc] 73)
      have hr5 := heap_alloc_new wr (.cells #[.string K, .slice za zn zc] 73)
      obtain ⟨E, hEE⟩ : ∃ E, E = wr.heap.size := ⟨_, rfl⟩
      rw [← hEE] at hr5
      obtain ⟨W5, hW5⟩ : ∃ W5, W5 = wr.alloc (.cells #[.string K, .slice za zn zc] 73) := ⟨_, rfl⟩
      rw [← hW5] at hb5 hr5
      have HTK := Lib.hid htk
      have HB5 := Lib.hid hb5
      have HR5 := Lib.hid hr5
      have HK := Lib.hid (fun W => clone_anyC K W (by omega))
      clear hil hik hE hkg htk hz hK hb5 hr5
      go_upto_region 5 with fail
      rw [← hW5, ← hEE]
      clear hW5 e0 e1 hEE
      obtain ⟨e0, e1⟩ := cells2 HR5.out
      have HOW := Lib.hid (fun W (hb : Below W5.heap.size W5 W) => (own_belowM HO.out (HB5.out.trans (hb.mono HB5.out.size))).alloc (.cells #[.string K] 9))
      have HBW := Lib.hid (fun W (hb : Below W5.heap.size W5 W) => HB.out.trans ((HB5.out.trans (hb.mono HB5.out.size)).mono HB.out.size))
      have HBG := Lib.hid (fun (W W' : World) (hb : Below W5.heap.size W5 W) (hg : (W.alloc (.cells #[.string K] 9)).grownBy W' (Value.slice a' j c').ownBlock) => ((HBW.out W hb).alloc (HBW.out W hb).size (.cells #[.string K] 9)).grown hg (by have := (HBW.out W hb).size; simp; omega) (fun k hk => (HO.out.lt k hk).1))
      have hone := Lib.hid (fun W => cells_one_newK W (.string K) 9)
      have hu := Lib.hid (show ∀ u ∈ [Value.string K], u.oneCell' = true by simp [Value.oneCell'])
      have HL1 := Lib.hid (show j + 1 ≤ maxLen by unfold maxLen; omega)
      have HL2 := Lib.hid (show (j + 1) * 16 ≤ 140737488355328 by omega)
      have HSZ := Lib.hid (fun W (hb : Below W5.heap.size W5 W) => show w.heap.size ≤ (W.alloc (.cells #[.string K] 9)).heap.size from by have := (HBW.out W hb).size; simp; omega)
      clear HO HB HR5
      go_wp2_with (first
        | (go_at_call 36; (with_reducible refine (HK.out _).mono ?_); rintro e w8 ⟨rfl, hb8⟩; have HB8 := Lib.hid hb8; clear hb8)
        | (at_builtin; refine wpList_append_own2 rfl _ _ 50 rfl w.heap.size 9 ki (.string ByteArray.empty) 1 16 Try.underlying50 hki hkz hks hkb rfl (by decide) (.slice a' j c') j (kCells ((keysM L).take j)) rfl (HOW.out w8 HB8.out) ⟨w8.heap.size, 0, none⟩ 1 1 [.string K] rfl rfl (hone.out w8) hu.out HL1.out HL2.out (HSZ.out w8 HB8.out) ?_; intro v9 w9 hown9 hg9 hk9; obtain ⟨g9, c9, rfl, _, _⟩ := own_slice hown9 (Nat.succ_pos j); have HO9 := Lib.hid hown9; have HB9 := Lib.hid (HBG.out w8 w9 HB8.out hg9); clear hown9 hg9 hk9))
      go_roundg q
      case measure => omega
      case rel => exact ⟨j + 1, _, c9, by omega, by go_num, rfl, Lib.hid (by rw [HTK.out]; simpa [kCells] using HO9.out), HB9⟩
end Go.Proofs.Ytdcefhhmddjodaa

namespace Go.Proofs.Ytdcefhhmddjodaa
open Go.RowKit
set_option linter.unusedVariables false
set_option linter.unnecessarySimpa false
set_option linter.unusedSimpArgs false
set_option maxRecDepth 100000

theorem versB_lenP : ∀ (zs : List Vr) (t : Nat) (b : List UInt8), (∀ v ∈ zs, v.time < 18446744073709551616 ∧ v.val.size ≤ 60000) → b.length ≤ 60000 → (versB t b zs).length ≤ zs.length * 60100
  | [], t, b, _, _ => by simp [versB]
  | v :: zs, t, b, h, hb => by
    have h1 := h v (by simp)
    have h2 := verB_len (t := t) hb h1.1 h1.2
    have h3 : (nextB b v).length ≤ 60000 := by
      unfold nextB; split
      · exact hb
      · rw [c_size]; exact h1.2
    have h4 := versB_lenP zs v.time (nextB b v) (fun x hx => h x (by simp [hx])) h3
    rw [versB_cons, List.length_append, List.length_cons]
    omega
theorem chainS_size {zs : List Vr} (h : okV zs) (hv : ∀ v ∈ zs, v.val.size ≤ 60000) : (chainS zs).size ≤ 20000000 := by
  have h2 := (right_parts h.1).2
  have h3 := versB_lenP zs 0 [] (fun v hx => ⟨h.2 v hx, hv v hx⟩) (by simp)
  have h4 := ub_len10 (n := zs.length) (by omega)
  unfold chainS chainB
  rw [arr_size, List.length_append]
  omega
theorem chainS_list (zs : List Vr) : (chainS zs).data.toList = chainB zs := rfl
theorem chnC : ChnC where
  encYes a len cap zs w hz hr hv := encode_yes a len cap zs w hz hr hv
  encNo a len cap zs w hz hr _ _ := encode_no a len cap zs w hz hr
  right a len cap zs w hz _ _ := right_any a len cap zs w hz
  at_ a len cap zs t w hz hr hv ht := at_any a len cap zs t w hz hr hv ht
  decYes zs w h ha := by
    have hv : ∀ v ∈ zs, v.val.size ≤ 60000 := fun v hx => Nat.le_trans (allN_mem zs v hx) ha
    refine (decode_any (chainS zs) (chainS_size h hv) w).mono fun e w' hd => ?_
    rw [chainS_list, decB_chain h hv, if_pos ha] at hd
    exact hd.out
  decLong zs w h ha hv := by
    refine (decode_any (chainS zs) (chainS_size h hv) w).mono fun e w' hd => ?_
    rw [chainS_list, decB_chain h hv, if_neg (by omega)] at hd
    exact hd.out
  decNo b w hb hno := by
    refine (decode_any b (by omega) w).mono fun e w' hd => ?_
    cases hF : decB b.data.toList with
    | form => rw [hF] at hd; exact .inl (VersNew.out hd)
    | long => rw [hF] at hd; exact .inr (VersNew.out hd)
    | all zs r =>
      exfalso
      obtain ⟨h1, h2, h3, _⟩ := decB_all hF
      exact hno ⟨zs, h2, h3, c_ba_ext h1⟩
end Go.Proofs.Ytdcefhhmddjodaa

namespace Go.Proofs.Ytdcefhhmddjodaa
open Go.RowKit
set_option linter.unusedVariables false
set_option linter.unnecessarySimpa false
set_option linter.unusedSimpArgs false
set_option maxRecDepth 100000

/-- An entry that may stand behind entries. -/
def entR1 (es : List En) (e : En) : Bool := risesS es e.key && (decide (0 < e.ch.length) && rightB e.ch)
theorem entR1_ok {es : List En} {i : Nat} (hi : i < es.length) : entOk es i = entR1 (es.take i) (es.getD i en0) := by
  rw [entOk_is hi]; unfold entR1
  cases risesS (es.take i) (es.getD i en0).key <;> simp

set_option maxHeartbeats 4000000 in
theorem bbytesOf_no (e : En) (a2 : Option Addr) (n2 c2 : Nat) (a : Option Addr) (len cap : Nat) (es : List En) (w : World) (hv : IsVers w a2 n2 c2 e.ch) (hz : IsEnts w a len cap es) (h : entR1 es e = false) :
    Calls Try.prog 63 #[.agg #[.string e.key, .slice a2 n2 c2], .slice a len cap] w fun x w' => x = .returned (.tuple #[.string ⟨#[]⟩, .int .i64 1]) ∧ Below w.heap.size w w' := by
  have hb0 := (Below.refl w.heap.size w).alloc (Nat.le_refl _) (.cells #[.string e.key, .slice a2 n2 c2] 73)
  have hr0 := heap_alloc_new w (.cells #[.string e.key, .slice a2 n2 c2] 73)
  obtain ⟨w1, hw1⟩ : ∃ w1, w1 = w.alloc (.cells #[.string e.key, .slice a2 n2 c2] 73) := ⟨_, rfl⟩
  rw [← hw1] at hb0 hr0
  obtain ⟨c0, c1⟩ := cells2 hr0
  have HB0 := Lib.hid hb0
  have HR := Lib.hid (brises_any e.key a len cap es w1 (hz.below hb0))
  have hl2 := hv.1.1
  have hlm := hv.2
  unfold maxLen at hlm
  have HEnc := Lib.hid (fun (h : rightB e.ch = false) => encode_no a2 n2 c2 e.ch w1 (vers_below hv hb0) h)
  unfold entR1 at h
  obtain ⟨R, hR⟩ : ∃ R, R = risesS es e.key := ⟨_, rfl⟩
  obtain ⟨K, hK⟩ : ∃ K, K = e.key := ⟨_, rfl⟩
  rw [← hR] at HR h
  rw [← hK] at HR hw1 c0 ⊢
  cases R with
  | false =>
    clear h hR hK hr0 hb0 hl2 hv hz
    go_enter Try.func63, Try.ntmps63
    go_upto_region 1 with fail
    rw [← hw1]
    clear hw1
    go_wp2_with (go_at_call 82; (with_reducible refine HR.out.mono ?_); rintro e w2 ⟨rfl, rfl⟩)
    go_ret2
    exact ⟨rfl, HB0.out⟩
  | true =>
    rcases Nat.eq_zero_or_pos n2 with rfl | h0
    · clear h hR hK hr0 hb0 hl2 hv hz
      go_enter Try.func63, Try.ntmps63
      go_upto_region 1 with fail
      rw [← hw1]
      clear hw1
      go_wp2_with (go_at_call 82; (with_reducible refine HR.out.mono ?_); rintro e w2 ⟨rfl, rfl⟩)
      go_ret2
      exact ⟨rfl, HB0.out⟩
    · have hz2 : ((n2 : Int) == 0) = false := by rw [beq_eq_false_iff_ne]; omega
      have hrb : rightB e.ch = false := by simpa [hl2, h0] using h
      have HE := Lib.hid (HEnc.out hrb)
      clear h hR hK hr0 hb0 hl2 hv hz hrb HEnc
      go_enter Try.func63, Try.ntmps63
      go_upto_region 1 with fail
      rw [← hw1]
      clear hw1
      go_wp2_with (first
        | (go_at_call 82; (with_reducible refine HR.out.mono ?_); rintro e w2 ⟨rfl, rfl⟩)
        | (go_at_call 83; (with_reducible refine HE.out.mono ?_); rintro e w3 ⟨rfl, hb3⟩))
      go_ret2
      exact ⟨rfl, HB0.out.trans (hb3.mono HB0.out.size)⟩

set_option maxHeartbeats 4000000 in
theorem bbytesOf_yes (e : En) (a2 : Option Addr) (n2 c2 : Nat) (a : Option Addr) (len cap : Nat) (es : List En) (w : World) (hv : IsVers w a2 n2 c2 e.ch) (hz : IsEnts w a len cap es) (h : entR1 es e = true)
    (hk : e.key.size ≤ 60000) (hl : (lastS es).size ≤ 60000) (hc : (chainB e.ch).length ≤ 200000) (hvv : ∀ v ∈ e.ch, v.val.size ≤ 60000) :
    Calls Try.prog 63 #[.agg #[.string e.key, .slice a2 n2 c2], .slice a len cap] w fun x w' => x = .returned (.tuple #[.string ⟨(entB (lastKey [] es) e).toArray⟩, .int .i64 0]) ∧ Below w.heap.size w w' := by
  have hb0 := (Below.refl w.heap.size w).alloc (Nat.le_refl _) (.cells #[.string e.key, .slice a2 n2 c2] 73)
  have hr0 := heap_alloc_new w (.cells #[.string e.key, .slice a2 n2 c2] 73)
  obtain ⟨w1, hw1⟩ : ∃ w1, w1 = w.alloc (.cells #[.string e.key, .slice a2 n2 c2] 73) := ⟨_, rfl⟩
  rw [← hw1] at hb0 hr0
  obtain ⟨c0, c1⟩ := cells2 hr0
  have HB0 := Lib.hid hb0
  have HR0 := Lib.hid hr0
  have HR := Lib.hid (brises_any e.key a len cap es w1 (hz.below hb0))
  have hl2 := hv.1.1
  have hlm := hv.2
  unfold maxLen at hlm
  unfold entR1 at h
  simp only [Bool.and_eq_true, decide_eq_true_eq] at h
  obtain ⟨h1, h2, h3⟩ := h
  rw [h1] at HR
  have HE := Lib.hid (encode_yes a2 n2 c2 e.ch w1 (vers_below hv hb0) h3 hvv)
  have HZ := Lib.hid (fun w2 (hb : Below w1.heap.size w1 w2) => blast_any a len cap es w2 ((hz.below hb0).below hb))
  have HS := Lib.hid (bshared_any e.key (lastS es) (by omega) (by omega))
  have hp := pre_le (lastS es).data.toList e.key.data.toList
  rw [c_size, c_size] at hp
  have HF := Lib.hid (show entB (lastKey [] es) e = ub (pre (lastS es).data.toList e.key.data.toList) ++ txtB (e.key.data.toList.drop (pre (lastS es).data.toList e.key.data.toList)) ++ txtB (chainB e.ch) by rw [← lastS_list]; rfl)
  obtain ⟨L, hL⟩ : ∃ L, L = lastS es := ⟨_, rfl⟩
  obtain ⟨K, hK⟩ : ∃ K, K = e.key := ⟨_, rfl⟩
  obtain ⟨H, hH⟩ : ∃ H, H = pre L.data.toList K.data.toList := ⟨_, rfl⟩
  rw [← hK] at HR hw1 c0 HS hp HF hk HR0 ⊢
  rw [← hL] at HZ HS hp HF
  rw [← hH] at HS hp HF
  obtain ⟨C, hC⟩ : ∃ C, C = chainS e.ch := ⟨_, rfl⟩
  have hCs : C.size ≤ 200000 := by rw [hC]; unfold chainS; rw [arr_size]; exact hc
  have hCl : C.data.toList = chainB e.ch := by rw [hC]; rfl
  rw [← hC] at HE
  have hz2 : ((n2 : Int) == 0) = false := by rw [beq_eq_false_iff_ne]; omega
  obtain ⟨X, hX⟩ : ∃ X, X = K.extract H K.size := ⟨_, rfl⟩
  have hXs : X.size ≤ 60000 := by rw [hX, ByteArray.size_extract]; omega
  have hXl : X.data.toList = K.data.toList.drop H := by rw [hX, ext_list, List.take_of_length_le (by rw [List.length_drop, c_size]; omega)]
  have HU := Lib.hid (uint_any H (by omega))
  have HT1 := Lib.hid (text_any X (by omega))
  have HT2 := Lib.hid (text_any C (by omega))
  obtain ⟨U, hU⟩ : ∃ U : ByteArray, U = ⟨(ub H).toArray⟩ := ⟨_, rfl⟩
  obtain ⟨T1, hT1⟩ : ∃ T1, T1 = (⟨(ub X.size).toArray⟩ : ByteArray) ++ X := ⟨_, rfl⟩
  obtain ⟨T2, hT2⟩ : ∃ T2, T2 = (⟨(ub C.size).toArray⟩ : ByteArray) ++ C := ⟨_, rfl⟩
  have u1 : U.size ≤ 10 := by rw [hU, arr_size]; exact ub_len10 (by omega)
  have u2 : T1.size ≤ 60010 := by rw [hT1, ByteArray.size_append, arr_size]; have := ub_len10 (n := X.size) (by omega); omega
  have u3 : T2.size ≤ 200010 := by rw [hT2, ByteArray.size_append, arr_size]; have := ub_len10 (n := C.size) (by omega); omega
  rw [← hU] at HU
  rw [← hT1] at HT1
  rw [← hT2] at HT2
  have HFin := Lib.hid (show (U ++ T1) ++ T2 = ⟨(entB (lastKey [] es) e).toArray⟩ by
    apply c_ba_ext
    have l1 : (K.data.toList.drop H).length = X.size := by rw [← hXl, c_size]
    have l2 : (chainB e.ch).length = C.size := by rw [← hCl, c_size]
    rw [HF.out, hU, hT1, hT2]
    unfold txtB
    rw [l1, l2]
    simp [ByteArray.data_append, hXl, hCl])
  have hx1 : ¬ 9223372036854775807 < U.size + T1.size := by omega
  have hx2 : ¬ 9223372036854775807 < U.size + T1.size + T2.size := by omega
  have hm1 : (H : Int) % 18446744073709551616 = (H : Int) := by omega
  have hn0z : (0 : Int) ≤ (H : Int) := by omega
  have hnKz : (H : Int) ≤ (K.size : Int) := by omega
  have hnK : H ≤ K.size := by omega
  have hXr := hX.symm
  clear hH hL hK hC hCl hU hT1 hT2 hX hXl HF hr0 hb0 h1 h2 h3 hv hz hc hvv hl2 hp
  go_enter Try.func63, Try.ntmps63
  go_upto_region 1 with fail
  rw [← hw1]
  clear hw1
  go_upto_region 6 with (first
    | (go_at_call 82; (with_reducible refine HR.out.mono ?_); rintro e w2 ⟨rfl, rfl⟩)
    | (go_at_call 83; (with_reducible refine HE.out.mono ?_); rintro e w3 ⟨rfl, hb3⟩))
  have hr3 := (hb3.block _ (Array.getElem?_eq_some_iff.1 HR0.out).1).trans HR0.out
  obtain ⟨d0, d1⟩ := cells2 hr3
  have HB3 := Lib.hid hb3
  have HL := Lib.hid (show ∀ x : Like w3.heap.size w3, Calls Try.prog 85 #[.slice a len cap] x.val fun e w' => e = .returned (.string L) ∧ w' = x.val from fun x => (HZ.out x.val (HB3.out.trans (x.below.mono HB3.out.size))).mono fun _ _ h => ⟨h.1, h.2.symm⟩)
  have HS2 := Lib.hid (show ∀ x : Like w3.heap.size w3, Calls Try.prog 84 #[.string K, .string L] x.val fun e w' => e = .returned (.int .i64 (H : Nat)) ∧ Below x.val.heap.size x.val w' from fun x => (HS.out x.val).mono fun _ _ h => ⟨h.1, by obtain ⟨n, rfl⟩ := h.2; exact drewN_below _ n⟩)
  have hbl : w.heap.size < w3.heap.size := (Array.getElem?_eq_some_iff.1 hr3).1
  have q0 := likes_cell hbl d0
  clear hb3 hr3 d0 d1 c0 c1 HZ HS
  refine region_likes (by kernel_rfl) (by kernel_rfl) ?_
  repeat (first
    | (go_big_quiet_step (first
        | (go_at_call 85; with_reducible exact calls_likes_same (HL.out _))
        | (go_at_call 84; with_reducible exact calls_likes (Like.size _) (HS2.out _)))))
  refine wpQuiet_nil ?_
  intro x
  have hb4 := Lib.hid (HB3.out.trans (x.below.mono HB3.out.size))
  have q1 := likes_cell (w := x.val) (Nat.lt_of_lt_of_le hbl x.below.size) (q0 x)
  clear q0 HL
  go_upto_region 7 with fail
  refine region_likes (by kernel_rfl) (by kernel_rfl) ?_
  repeat (first
    | (go_big_quiet_step (first
        | (go_at_call 62; exact calls_likes (Like.size _) (HU.out _))
        | (go_at_call 86; with_reducible exact calls_likes (Like.size _) (HT1.out _))
        | (go_at_call 86; with_reducible exact calls_likes (Like.size _) (HT2.out _)))))
  refine wpQuiet_nil ?_
  intro y
  have hb5 := Lib.hid (HB0.out.trans ((hb4.out.trans (y.below.mono hb4.out.size)).mono HB0.out.size))
  go_wp2_with fail
  go_ret2
  exact ⟨by rw [← HFin.out]; rfl, hb5.out⟩
end Go.Proofs.Ytdcefhhmddjodaa

namespace Go.Proofs.Ytdcefhhmddjodaa
open Go.RowKit
set_option linter.unusedVariables false
set_option linter.unnecessarySimpa false
set_option linter.unusedSimpArgs false
set_option maxRecDepth 100000

theorem ents_step (es : List En) {i : Nat} (h : i < es.length) : entsB [] (es.take (i + 1)) = entsB [] (es.take i) ++ entB (lastKey [] (es.take i)) (es.getD i en0) := by
  rw [takeE_succ es h, entsB_snoc]
theorem lastS_small {es : List En} (h : SmallE es) (i : Nat) : (lastS (es.take i)).size ≤ 60000 := by
  unfold lastS
  rcases Nat.lt_or_ge ((es.take i).length - 1) (es.take i).length with h1 | h1
  · rw [List.getD, List.getElem?_eq_getElem h1]
    exact (h _ (List.mem_of_mem_take (List.getElem_mem h1))).1
  · rw [List.getD, List.getElem?_eq_none h1]
    exact Nat.zero_le _

set_option maxHeartbeats 8000000 in
theorem inside_any (a : Option Addr) (len cap : Nat) (es : List En) (w : World) (hz : IsEnts w a len cap es) (hl : len ≤ 1000) (hs : SmallE es) :
    Calls Try.prog 45 #[.slice a len cap] w fun e w' => ((rightE es = true ∧ e = .returned (.tuple #[.string (insideS es), .int .i64 0])) ∨ (rightE es = false ∧ e = .returned (.tuple #[.string ⟨#[]⟩, .int .i64 1]))) ∧ Below w.heap.size w w' := by
  have HZ := Lib.hid hz
  have hel := Lib.hid hz.1.1
  have hcap := hz.2.2
  have HS := Lib.hid hs
  have HU := Lib.hid (uint_any len (by omega))
  have hm0 : (len : Int) % 18446744073709551616 = len := by omega
  have hul := ub_len10 (n := len) (by omega)
  obtain ⟨U, hU⟩ : ∃ U : ByteArray, U = ⟨(ub len).toArray⟩ := ⟨_, rfl⟩
  have hUl : U.data.toList = ub len := by rw [hU]
  have hUs : U.size ≤ 10 := by rw [hU, arr_size]; exact hul
  rw [← hU] at HU
  clear hz hs hU hul
  go_enter Try.func45, Try.ntmps45
  go_upto_region 2 with fail
  obtain ⟨B, hB⟩ : ∃ B, B = w.heap.size := ⟨_, rfl⟩
  have hn := EncAt.new (Below.refl w.heap.size w)
  obtain ⟨w2, hw2⟩ : ∃ w2, w2 = w.alloc (.cells #[.pointer none, .slice none 0 0] 116) := ⟨_, rfl⟩
  rw [← hw2, ← hB] at hn ⊢
  have HN := Lib.hid hn
  clear hn hw2 hB
  go_upto_region 3 with (first
    | (go_at_call 62; (with_reducible refine (HU.out _).mono ?_); rintro e w3 ⟨rfl, hb3⟩; have H3 := Lib.hid ((HN.out.stay hb3).write U (by simp; omega)))
    | (go_at_call 61; (with_reducible refine H3.out.mono ?_); rintro e w4 ⟨rfl, h4, _⟩))
  rw [List.nil_append, hUl] at h4
  have H4 := Lib.hid h4
  clear h4 HN H3 hb3 hUl hUs HU hm0
  go_wp2_with fail
  go_loopg [16] len (fun g s16 wx => ∃ (i : Nat) (l : List UInt8), i + g = len ∧ s16 = .int .i64 i ∧ l.length ≤ 10 + i * 300000 ∧ Hid (l = ub len ++ entsB [] (es.take i)) ∧ Hid (EncAt w B l wx) ∧ Hid (∀ j, j < i → entOk es j = true))
  case atStart => exact ⟨0, ub len, by omega, rfl, by have := ub_len10 (n := len) (by omega); omega, Lib.hid (by simp [entsB]), H4, Lib.hid (fun j h => absurd h (by omega))⟩
  case round =>
    obtain ⟨i, l, hig, rfl, hll, hl, he, hok⟩ := hrel
    cases gk with
    | zero =>
      obtain rfl : i = len := by omega
      have hfin := Lib.hid (show (⟨l.toArray⟩ : ByteArray) = insideS es by rw [hl.out, List.take_of_length_le (Nat.le_of_eq hel.out)]; unfold insideS insideB; rw [hel.out])
      have HR := Lib.hid (show rightE es = true from rightE_true.2 (fun j hj => hok.out j (by rw [← hel.out]; exact hj)))
      have HSt := Lib.hid he.out.string
      go_wp2_with (go_at_call 64; (with_reducible refine HSt.out.mono ?_); rintro e w6 ⟨rfl, hb6⟩)
      go_ret2
      exact ⟨.inl ⟨HR.out, by rw [hfin.out]; rfl⟩, hb6⟩
    | succ g =>
      have hil : i < len := by omega
      have hiz : (i : Int) < (len : Int) := by omega
      have hi0 : (0 : Int) ≤ (i : Int) := by omega
      have hicz : (i : Int) ≤ (cap : Int) := by omega
      have hic : i ≤ cap := by omega
      have hil2 : i < es.length := by rw [hel.out]; exact hil
      obtain ⟨b, off, rfl, hbl, hkm, k0, ca, cl, cc, k1, hv⟩ := (HZ.out.below he.out.below).1.2 i hil
      have hsm := HS.out (es.getD i en0) (by rw [List.getD, List.getElem?_eq_getElem hil2]; exact List.getElem_mem _)
      have HST := Lib.hid (ents_step es hil2)
      have hls := lastS_small HS.out i
      have hent := entR1_ok hil2
      obtain ⟨z, hz⟩ : ∃ z, z = es.getD i en0 := ⟨_, rfl⟩
      rw [← hz] at k0 hv hsm HST hent
      obtain ⟨K, hK⟩ : ∃ K, K = z.key := ⟨_, rfl⟩
      rw [← hK] at k0
      obtain ⟨cs, hcs⟩ : ∃ cs : Array Value, cs = #[.string K, .slice ca cl cc] := ⟨_, rfl⟩
      have hcsz : (Try.prog.info? 73).map (·.size) = some cs.size := by rw [hcs]; exact (by kernel_rfl : (Try.prog.info? 73).map (·.size) = some 2)
      have hbel8 := (Below.refl wr.heap.size wr).alloc (Nat.le_refl _) (.cells cs 73)
      have hN8 := he.out.alloc (.cells cs 73)
      have hr8 := heap_alloc_new wr (.cells cs 73)
      obtain ⟨w8, hw8⟩ : ∃ w8, w8 = wr.alloc (.cells cs 73) := ⟨_, rfl⟩
      obtain ⟨v, hvv⟩ : ∃ v, v = wr.heap.size := ⟨_, rfl⟩
      rw [← hw8] at hN8 hr8 hbel8
      rw [← hvv] at hr8
      have hv8 := vers_bel hv hbel8
      have hz8 : IsEnts w8 (some ⟨b, off, none⟩) i cap (es.take i) := ents_take (HZ.out.below hN8.below) (by omega)
      have HNo := Lib.hid (fun (x : Like w8.heap.size w8) (h : entR1 (es.take i) z = false) => bbytesOf_no z ca cl cc (some ⟨b, off, none⟩) i cap (es.take i) x.val (vers_bel hv8 x.below) (hz8.below x.below) h)
      have HYes := Lib.hid (fun (x : Like w8.heap.size w8) (h : entR1 (es.take i) z = true) => bbytesOf_yes z ca cl cc (some ⟨b, off, none⟩) i cap (es.take i) x.val (vers_bel hv8 x.below) (hz8.below x.below) h hsm.1 hls hsm.2.1 hsm.2.2)
      have hXs := entB_len (lastKey [] (es.take i)) z hsm.1 hsm.2.1
      obtain ⟨Xl, hXl⟩ : ∃ Xl, Xl = entB (lastKey [] (es.take i)) z := ⟨_, rfl⟩
      rw [← hXl] at HYes HST hXs
      obtain ⟨X, hX⟩ : ∃ X : ByteArray, X = ⟨Xl.toArray⟩ := ⟨_, rfl⟩
      have hXz : X.size ≤ 300000 := by rw [hX, arr_size]; exact hXs
      have HXl := Lib.hid (show X.data.toList = Xl by rw [hX])
      rw [← hX] at HYes
      rw [← hK, ← hcs] at HNo HYes
      rw [hcs] at hw8
      have N8 := Lib.hid hN8
      have R8 := Lib.hid hr8
      clear hz hK hcs hN8 hr8 hbel8 hv8 hz8 hXl hX hXs hsm hls hv he hkm
      go_upto_region 6 with fail
      rw [← hw8, ← hvv]
      clear hw8 hvv
      cases hR : entR1 (es.take i) z with
      | false =>
        have HR := Lib.hid (show rightE es = false from rightE_false hil2 (by rw [hent, hR]))
        have HC := Lib.hid (fun x => HNo.out x hR)
        clear hent hR HNo HYes
        refine region_likes (by kernel_rfl) (by kernel_rfl) ?_
        repeat (first
          | (go_big_quiet_want; refine quiet_row 73 _ rfl v rfl 73 cs (0, 0) _ (likes_row R8.out) Try.underlying73 rfl hcsz ?_; go_simp; go_big_quiet_on)
          | (go_big_quiet_step ((go_at_call 63; with_reducible exact calls_likes (Like.size _) (HC.out _)))))
        refine wpQuiet_nil ?_
        intro x
        have hb9 := Lib.hid (N8.out.stay x.below).below
        go_wp2_with fail
        go_ret2
        exact ⟨.inr ⟨HR.out, rfl⟩, hb9.out⟩
      | true =>
        have HOK := Lib.hid (show ∀ j, j < i + 1 → entOk es j = true from fun j hj => by
          rcases Nat.lt_or_ge j i with h1 | h1
          · exact hok.out j h1
          · have : j = i := by omega
            rw [this, hent, hR])
        have HC := Lib.hid (fun x => HYes.out x hR)
        clear hent hR HNo HYes
        refine region_likes (by kernel_rfl) (by kernel_rfl) ?_
        repeat (first
          | (go_big_quiet_want; refine quiet_row 73 _ rfl v rfl 73 cs (0, 0) _ (likes_row R8.out) Try.underlying73 rfl hcsz ?_; go_simp; go_big_quiet_on)
          | (go_big_quiet_step ((go_at_call 63; with_reducible exact calls_likes (Like.size _) (HC.out _)))))
        refine wpQuiet_nil ?_
        intro x
        have N9 := Lib.hid ((N8.out.stay x.below).write X (by omega))
        go_wp2_with (go_at_call 61; (with_reducible refine N9.out.mono ?_); rintro e w10 ⟨rfl, h10, hk10⟩; have N10 := Lib.hid h10; clear h10 hk10)
        go_roundg g
        case measure => omega
        case rel => exact ⟨i + 1, l ++ X.data.toList, by omega, by go_num, by rw [List.length_append, c_size]; omega, Lib.hid (by rw [hl.out, HXl.out, HST.out, List.append_assoc]), N10, HOK⟩

theorem none_ents (w : World) : IsEnts w none 0 0 [] := ⟨⟨rfl, fun i hi => absurd hi (by omega)⟩, Nat.zero_le _, Nat.le_refl _⟩
theorem insideS_none : insideS [] = ⟨#[0]⟩ := by
  unfold insideS insideB
  rw [show ([] : List En).length = 0 from rfl, ub_small (by decide)]
  rfl

set_option maxHeartbeats 4000000 in
theorem bencode_no (a : Option Addr) (len cap : Nat) (es : List En) (w : World) (hz : IsEnts w a len cap es) (hl : len ≤ 1000) (hs : SmallE es) (hr : rightE es = false) :
    Calls Try.prog 30 #[.agg tab, .slice a len cap] w fun e w' => e = .returned (.tuple #[.string ⟨#[]⟩, .int .i64 1]) ∧ Below w.heap.size w w' := by
  have hb0 := (Below.refl w.heap.size w).alloc (Nat.le_refl _) (.cells tab 55)
  have HI := Lib.hid (show Calls Try.prog 45 #[.slice a len cap] (w.alloc (.cells tab 55)) fun e w' => e = .returned (.tuple #[.string ⟨#[]⟩, .int .i64 1]) ∧ Below (w.alloc (.cells tab 55)).heap.size (w.alloc (.cells tab 55)) w' from
    (inside_any a len cap es _ (hz.below hb0) hl hs).mono fun e w' h => by
      rcases h.1 with h1 | h1
      · rw [hr] at h1; cases h1.1
      · exact ⟨h1.2, h.2⟩)
  obtain ⟨w1, hw1⟩ : ∃ w1, w1 = w.alloc (.cells tab 55) := ⟨_, rfl⟩
  rw [← hw1] at HI hb0
  have HB0 := Lib.hid hb0
  clear hz hs hr hb0
  go_enter Try.func30, Try.ntmps30
  go_upto_region 1 with fail
  rw [← hw1]
  clear hw1
  go_wp2_with (go_at_call 45; (with_reducible refine HI.out.mono ?_); rintro e w2 ⟨rfl, hb2⟩)
  go_ret2
  exact ⟨rfl, HB0.out.trans (hb2.mono HB0.out.size)⟩

/-- What Encode tells of entries that are right. -/
def EncOut (es : List En) (w : World) (e : Ending) (w' : World) : Prop := e = .returned (.tuple #[.string (blkS (packF (insideS es))), .int .i64 0]) ∧ unp (packF (insideS es)).data.toList = (insideB es, 0) ∧ (packF (insideS es)).size ≤ 60004 ∧ Below w.heap.size w w'
set_option maxHeartbeats 4000000 in
theorem bencode_yes (a : Option Addr) (len cap : Nat) (es : List En) (w : World) (hz : IsEnts w a len cap es) (hl : len ≤ 1000) (hs : SmallE es) (hr : rightE es = true) (hi : (insideB es).length ≤ 60000) :
    Calls Try.prog 30 #[.agg tab, .slice a len cap] w (EncOut es w) := by
  have hb0 := (Below.refl w.heap.size w).alloc (Nat.le_refl _) (.cells tab 55)
  have HI := Lib.hid (show Calls Try.prog 45 #[.slice a len cap] (w.alloc (.cells tab 55)) fun e w' => e = .returned (.tuple #[.string (insideS es), .int .i64 0]) ∧ Below (w.alloc (.cells tab 55)).heap.size (w.alloc (.cells tab 55)) w' from
    (inside_any a len cap es _ (hz.below hb0) hl hs).mono fun e w' h => by
      rcases h.1 with h1 | h1
      · exact ⟨h1.2, h.2⟩
      · rw [hr] at h1; cases h1.1)
  have hr0 := heap_alloc_new w (.cells tab 55)
  obtain ⟨w1, hw1⟩ : ∃ w1, w1 = w.alloc (.cells tab 55) := ⟨_, rfl⟩
  rw [← hw1] at HI hb0 hr0
  have HB0 := Lib.hid hb0
  have HR0 := Lib.hid hr0
  obtain ⟨I, hI⟩ : ∃ I, I = insideS es := ⟨_, rfl⟩
  have hIs : I.size ≤ 60000 := by rw [hI]; unfold insideS; rw [arr_size]; exact hi
  have HIl := Lib.hid (show I.data.toList = insideB es by rw [hI]; rfl)
  rw [← hI] at HI
  have HP := Lib.hid (fun W => pack_is I W hIs)
  unfold EncOut
  rw [← hI]
  obtain ⟨p, hp⟩ : ∃ p, p = packF I := ⟨_, rfl⟩
  rw [← hp] at HP ⊢
  have HSm := Lib.hid sumOf_any
  have his := Lib.hid tableSize
  clear hz hs hr hi hI hb0 hr0 hp
  go_enter Try.func30, Try.ntmps30
  go_upto_region 1 with fail
  rw [← hw1]
  clear hw1
  go_upto_region 7 with (first
    | (go_at_call 45; (with_reducible refine HI.out.mono ?_); rintro e w2 ⟨rfl, hb2⟩)
    | (go_at_call 46; (with_reducible refine (HP.out _).mono ?_); rintro e w3 ⟨rfl, hpu, hps, hb3⟩))
  have hps2 : p.size ≤ 60004 := by omega
  have HPU := Lib.hid hpu
  have h3 := hb2.trans (hb3.mono hb2.size)
  have HB3 := Lib.hid h3
  have HR3 := Lib.hid ((h3.block _ (Array.getElem?_eq_some_iff.1 HR0.out).1).trans HR0.out)
  have HC := Lib.hid (fun W => HSm.out p (by omega) W)
  have hfx : (sumS p).length = 4 := by unfold sumS fx; exact cellsF_length _ _
  obtain ⟨S, hS⟩ : ∃ S : ByteArray, S = ⟨(sumS p).toArray⟩ := ⟨_, rfl⟩
  rw [← hS] at HC
  have hSs : S.size = 4 := by rw [hS, arr_size]; exact hfx
  have HF := Lib.hid (show p ++ S = blkS p by rw [hS]; exact c_ba_ext (by simp [blkS, ByteArray.data_append]))
  have hx : ¬ 9223372036854775807 < p.size + S.size := by omega
  clear hpu hb2 hb3 h3 hS hfx hps HSm HI HP HR0
  go_wp2_with (first
    | (refine wpList_load_row rfl 55 _ rfl w.heap.size rfl 55 tab (0, 0) _ HR3.out Try.underlying55 rfl his.out ?_; dsimp only [Act.put])
    | (go_at_call 38; (with_reducible refine (HC.out _).mono ?_); rintro e w4 ⟨rfl, hb4⟩))
  go_ret2
  have h4 := HB3.out.trans (hb4.mono HB3.out.size)
  exact ⟨by rw [← HF.out]; rfl, by rw [HPU.out, HIl.out], hps2, HB0.out.trans (h4.mono HB0.out.size)⟩
end Go.Proofs.Ytdcefhhmddjodaa
