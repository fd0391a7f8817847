/-
  The document's Inside of entries.
-/
import Derived.Test.YtplobffkelmokaaBlkRight
import Derived.Test.YtplobffkelmokaaSet04
import Derived.RegionTactic
namespace Go.Proofs.Ytplobffkelmokaa
open Go.RowKit
set_option linter.unusedVariables false
set_option linter.unnecessarySimpa false
set_option linter.unusedSimpArgs false
set_option maxRecDepth 100000

def txtB (l : List UInt8) : List UInt8 := ub l.length ++ l
/-- An entry's bytes, behind a key. -/
def entB (p : List UInt8) (e : En) : List UInt8 := ub (pre p e.key.data.toList) ++ txtB (e.key.data.toList.drop (pre p e.key.data.toList)) ++ txtB (chainB e.ch)
def entsB : List UInt8 → List En → List UInt8
  | _, [] => []
  | p, e :: l => entB p e ++ entsB e.key.data.toList l
def insideB (es : List En) : List UInt8 := ub es.length ++ entsB [] es
def lastKey : List UInt8 → List En → List UInt8
  | p, [] => p
  | _, e :: l => lastKey e.key.data.toList l
theorem entsB_snoc (p : List UInt8) (l : List En) (e : En) : entsB p (l ++ [e]) = entsB p l ++ entB (lastKey p l) e := by
  induction l generalizing p with
  | nil => simp [entsB, lastKey]
  | cons x l ih => rw [List.cons_append, entsB, ih, entsB, lastKey, List.append_assoc]
theorem lastKey_snoc (p : List UInt8) (l : List En) (e : En) : lastKey p (l ++ [e]) = e.key.data.toList := by
  induction l generalizing p with
  | nil => rfl
  | cons x l ih => rw [List.cons_append, lastKey, ih]
theorem takeE_succ (es : List En) {i : Nat} (h : i < es.length) : es.take (i + 1) = es.take i ++ [es.getD i en0] := by rw [List.take_add_one, List.getD, List.getElem?_eq_getElem h]; rfl
theorem lastKey_take (es : List En) {i : Nat} (h : i < es.length) : lastKey [] (es.take (i + 1)) = (es.getD i en0).key.data.toList := by rw [takeE_succ es h, lastKey_snoc]
theorem txtB_len (l : List UInt8) (h : l.length ≤ 300000) : (txtB l).length ≤ l.length + 10 := by
  unfold txtB
  rw [List.length_append]
  have := ub_len10 (n := l.length) (by omega)
  omega
/-- What is small enough to be looked at. -/
def SmallE (es : List En) : Prop := ∀ e ∈ es, e.key.size ≤ 60000 ∧ (chainB e.ch).length ≤ 200000 ∧ ∀ v ∈ e.ch, v.val.size ≤ 60000
theorem entB_len (p : List UInt8) (e : En) (h1 : e.key.size ≤ 60000) (h2 : (chainB e.ch).length ≤ 200000) : (entB p e).length ≤ 300000 := by
  unfold entB
  have hp := pre_le p e.key.data.toList
  have hk := c_size e.key
  have u1 := ub_len10 (n := pre p e.key.data.toList) (by omega)
  have u2 := txtB_len (e.key.data.toList.drop (pre p e.key.data.toList)) (by rw [List.length_drop]; omega)
  have u3 := txtB_len (chainB e.ch) (by omega)
  rw [List.length_drop] at u2
  rw [List.length_append, List.length_append]
  omega
theorem entOk_right {es : List En} (h : rightE es = true) {i : Nat} (hi : i < es.length) : rightB (es.getD i en0).ch = true := by
  have := rightE_true.1 h i hi
  unfold entOk at this
  simp only [Bool.and_eq_true] at this
  exact this.1.2

theorem right_partsE {zs : List Vr} (h : rightB zs = true) : risesB 0 zs = true ∧ zs.length ≤ 200 := by
  unfold rightB at h
  simpa using h

set_option maxHeartbeats 8000000 in
theorem binside_any (a : Option Addr) (len cap : Nat) (es : List En) (w : World) (hz : IsEnts w a len cap es) (hr : rightE es = true) (hl : len ≤ 100000) (hs : SmallE es) :
    Calls Try.prog 12 #[.slice a len cap] w fun e w' => e = .returned (.string ⟨(insideB es).toArray⟩) ∧ Below w.heap.size w w' := by
  have HZ := Lib.hid hz
  have hel := Lib.hid hz.1.1
  have HS := Lib.hid hs
  have HR := Lib.hid hr
  have hU0 := Lib.hid (refUint_any len (by omega))
  have hm0 : (len : Int) % 18446744073709551616 = len := by omega
  clear hz hr hs
  go_enter Try.func12, Try.ntmps12
  go_wp2_with (go_at_call 18; refine (hU0.out _).mono ?_; rintro e w1 ⟨rfl, hb1⟩)
  have HB1 := Lib.hid hb1
  clear hb1
  go_loopg [3, 4, 5] len (fun g s3 s4 s5 wx => ∃ (i : Nat) (A : ByteArray), i + g = len ∧ s3 = .string A ∧ A.size ≤ 10 + i * 300000 ∧ Hid (A = ⟨(ub len ++ entsB [] (es.take i)).toArray⟩) ∧ s4 = .int .i64 i ∧ Hid (Below w.heap.size w wx))
  case atStart => exact ⟨0, ⟨(ub len).toArray⟩, by omega, rfl, by show (ub len).toArray.size ≤ _; rw [List.size_toArray]; have := ub_len10 (n := len) (by omega); omega, Lib.hid (by simp [entsB]), rfl, HB1⟩
  case round =>
    obtain ⟨i, A, hig, rfl, hAs, HA, rfl, hb⟩ := hrel
    cases gk with
    | zero =>
      obtain rfl : i = len := by omega
      have hfin := Lib.hid (show A = ⟨(insideB es).toArray⟩ by rw [HA.out, List.take_of_length_le (Nat.le_of_eq hel.out)]; unfold insideB; rw [hel.out])
      go_wp2_with fail
      go_ret
      exact ⟨congrArg (fun x => Ending.returned (Value.string x)) hfin.out, hb.out⟩
    | succ g =>
      have hil : i < len := by omega
      have hiz : (i : Int) < (len : Int) := by omega
      have hie : i < es.length := by rw [hel.out]; exact hil
      obtain ⟨b, off, rfl, hbl, hkm, k0, ca, cl, cc, k1, hv⟩ := (HZ.out.below hb.out).1.2 i hil
      have hsm := HS.out (es.getD i en0) (by rw [List.getD, List.getElem?_eq_getElem hie]; exact List.getElem_mem _)
      have hrb := right_partsE (entOk_right HR.out hie)
      have HSn := Lib.hid (entsB_snoc [] (es.take i) (es.getD i en0))
      rw [← takeE_succ es hie] at HSn
      have hprev : 0 < i → ∃ (k : Nat) (P : ByteArray), IntKind.i64.wrap ((i : Int) - 1) = (k : Int) ∧ (0 : Int) ≤ (k : Int) ∧ (k : Int) < (len : Int) ∧ wr.cell? ⟨b, off + k * 2, none⟩ = some (.string P) ∧ P.data.toList = lastKey [] (es.take i) ∧ P.size ≤ 60000 := fun h0 => by
        obtain ⟨b', off', ha', hbl', h5, h6, _⟩ := (HZ.out.below hb.out).1.2 (i - 1) (by omega)
        cases ha'
        have hs1 := HS.out (es.getD (i - 1) en0) (by rw [List.getD, List.getElem?_eq_getElem (show i - 1 < es.length by omega)]; exact List.getElem_mem _)
        refine ⟨i - 1, (es.getD (i - 1) en0).key, by rw [IntWalk.i64_in _ (by omega)]; omega, by omega, by omega, h6, ?_, hs1.1⟩
        have := lastKey_take es (i := i - 1) (by omega)
        rw [show i - 1 + 1 = i by omega] at this
        exact this.symm
      obtain ⟨p, hp⟩ : ∃ p, p = lastKey [] (es.take i) := ⟨_, rfl⟩
      have hp0 : i = 0 → p = [] := fun h => by rw [hp, h]; rfl
      rw [← hp] at HSn hprev
      obtain ⟨e, he⟩ : ∃ e, e = es.getD i en0 := ⟨_, rfl⟩
      rw [← he] at k0 hv hsm hrb HSn
      obtain ⟨K, hK⟩ : ∃ K, K = e.key := ⟨_, rfl⟩
      obtain ⟨hn, hhn⟩ : ∃ hn, hn = pre p K.data.toList := ⟨_, rfl⟩
      have hnK : hn ≤ K.size := by rw [hhn, ← c_size]; exact (pre_le _ _).2
      rw [← hK] at k0 hsm
      have hK6 := hsm.1
      have HHn := Lib.hid hhn
      have HK := Lib.hid hK
      have hK6' := hK6
      have hbW := Lib.hid hbl
      clear hp he hkm
      go_upto_if 17 with fail
      go_cut [5] (fun s5 wc => s5 = .int .i64 (hn : Int) ∧ Hid (∃ m, wc = wr.drewN m))
      case first =>
        rcases Nat.eq_zero_or_pos i with h0 | h0
        · have hpz := hp0 h0
          have hn0 : hn = 0 := by rw [hhn, hpz]; rfl
          subst h0
          clear hprev hp0 hhn hpz
          go_wp2_with fail
          go_meet
          case rel => exact ⟨by rw [hn0]; rfl, Lib.hid ⟨0, rfl⟩⟩
        · obtain ⟨k, P, hw1, hk0', hkz, ck, hPl, hP6⟩ := hprev h0
          have hi0z : (0 : Int) < (i : Int) := by omega
          have hnP : hn ≤ P.size := by rw [hhn, ← c_size, hPl]; exact (pre_le _ _).1
          obtain ⟨M, hM⟩ : ∃ M, M = min P.size K.size := ⟨_, rfl⟩
          have hMz : min (P.size : Int) (K.size : Int) = (M : Int) := by omega
          obtain ⟨hMb1, hMb2, hMb3⟩ : M ≤ P.size ∧ M ≤ K.size ∧ hn ≤ M := by omega
          have HHD := Lib.hid (show ∀ n, hn < n → n ≤ M → (P.extract 0 n).data.toList ≠ (K.extract 0 n).data.toList from fun n h1 h2 => by
            rw [ext_list, ext_list, List.drop_zero, List.drop_zero, Nat.sub_zero, hPl]
            exact head_ne p K.data.toList n (by show pre p K.data.toList < n; rw [← hhn]; exact h1) (by rw [← hPl, c_size]; omega) (by rw [c_size]; omega))
          have HHE := Lib.hid (show P.extract 0 hn = K.extract 0 hn from c_ba_ext (by
            rw [ext_list, ext_list, List.drop_zero, List.drop_zero, Nat.sub_zero, hPl, hhn]
            exact pre_take p K.data.toList))
          have hmn : (if K.size < P.size then (K.size : Int) else (P.size : Int)) = (M : Int) := by rw [hM]; split <;> omega
          clear hprev hp0 hhn hPl hM HSn HA hrb hsm hv hbl hK
          go_upto_region 7 with fail
          go_quiet (fail)
          clear hmn hMz
          go_wp2_with fail
          go_loopg [5] (M - hn) (fun g s5 wx => s5 = .int .i64 ((hn + g : Nat) : Int) ∧ hn + g ≤ M ∧ ∃ n, wx = wr.drewN n)
          case atStart => exact ⟨by congr 1; omega, by omega, nq, rfl⟩
          case round =>
            obtain ⟨rfl, hgM, n1, rfl⟩ := hrel
            obtain ⟨m, hm⟩ : ∃ m, m = hn + gk := ⟨_, rfl⟩
            rw [← hm] at hgM ⊢
            have i1 : (m : Int) ≤ (P.size : Int) := by omega
            have i2 : (m : Int) ≤ (K.size : Int) := by omega
            have i3 : (0 : Int) ≤ (m : Int) := by omega
            cases gk with
            | succ gg =>
              obtain ⟨n1', n2'⟩ := str_ne (HHD.out m (by omega) hgM)
              have Hm := Lib.hid hm
              clear hm
              go_wp2_with fail
              go_quiet (fail)
              go_wp2_with fail
              go_roundg gg
              case measure => omega
              case rel => exact ⟨by have := Hm.out; congr 1; omega, by have := Hm.out; omega, n1 + nq, rfl⟩
            | zero =>
              obtain rfl : m = hn := by omega
              have hEq := HHE.out
              clear hm
              go_wp2_with fail
              go_quiet (fail)
              go_wp2_with fail
              go_meet
              case rel => exact ⟨rfl, Lib.hid ⟨n1 + nq, by rw [World.drewN_drewN]⟩⟩
      case rest =>
        obtain ⟨rfl, HW⟩ := hcut
        obtain ⟨nd, hnd⟩ := HW.out
        have hb3 := Lib.hid (show Below w.heap.size w wc by rw [hnd]; exact ⟨hb.out.os, hb.out.tape, hb.out.output, hb.out.size, hb.out.block⟩)
        have hbc : b < wc.heap.size := by rw [hnd]; exact hbl
        have g0 : wc.cell? ⟨b, off + i * 2, none⟩ = some (.string K) := by rw [hnd]; exact k0
        have g1 : wc.cell? ⟨b, off + i * 2 + 1, none⟩ = some (.slice ca cl cc) := by rw [hnd]; exact k1
        have hvc : IsVers wc ca cl cc e.ch := by rw [hnd]; exact vers_bel hv (drewN_below wr nd)
        have q0 := likes_cell hbc g0
        have q1 := likes_cell (p := ⟨b, off + i * 2 + 1, none⟩) hbc g1
        have hclen : cl ≤ 200 := by rw [← hv.1.1]; exact hrb.2
        have HVb := Lib.hid (fun x : Like wc.heap.size wc => vbytes_any ca cl cc e.ch x.val (vers_bel hvc x.below) hrb.1 hclen hsm.2.2)
        have hcb := hsm.2.1
        obtain ⟨Cb, hCb⟩ : ∃ Cb : ByteArray, Cb = ⟨(chainB e.ch).toArray⟩ := ⟨_, rfl⟩
        rw [← hCb] at HVb
        have hCbs : Cb.size ≤ 200000 := by rw [hCb]; show (chainB e.ch).toArray.size ≤ _; rw [List.size_toArray]; exact hcb
        have hCbl : Cb.data.toList = chainB e.ch := by rw [hCb]
        have HU1 := Lib.hid (refUint_any hn (by omega))
        obtain ⟨X, hX⟩ : ∃ X, X = K.extract hn K.size := ⟨_, rfl⟩
        have hXs : X.size ≤ 60000 := by rw [hX, ByteArray.size_extract]; omega
        have hXl : X.data.toList = K.data.toList.drop hn := by rw [hX, ext_list, List.take_of_length_le (by rw [List.length_drop, c_size]; omega)]
        have HT1 := Lib.hid (refTextB_any X (by omega))
        have HT2 := Lib.hid (refTextB_any Cb (by omega))
        obtain ⟨U1, hU1⟩ : ∃ U1 : ByteArray, U1 = ⟨(ub hn).toArray⟩ := ⟨_, rfl⟩
        obtain ⟨T1, hT1⟩ : ∃ T1 : ByteArray, T1 = ⟨(ub X.size ++ X.data.toList).toArray⟩ := ⟨_, rfl⟩
        obtain ⟨T2, hT2⟩ : ∃ T2 : ByteArray, T2 = ⟨(ub Cb.size ++ Cb.data.toList).toArray⟩ := ⟨_, rfl⟩
        have u1 : U1.size ≤ 10 := by rw [hU1]; show (ub hn).toArray.size ≤ _; rw [List.size_toArray]; exact ub_len10 (by omega)
        have u2 : T1.size ≤ 60010 := by
          rw [hT1]; show (ub X.size ++ X.data.toList).toArray.size ≤ _
          rw [List.size_toArray, List.length_append, c_size]
          have := ub_len10 (n := X.size) (by omega)
          omega
        have u3 : T2.size ≤ 200010 := by
          rw [hT2]; show (ub Cb.size ++ Cb.data.toList).toArray.size ≤ _
          rw [List.size_toArray, List.length_append, c_size]
          have := ub_len10 (n := Cb.size) (by omega)
          omega
        rw [← hU1] at HU1
        rw [← hT1] at HT1
        rw [← hT2] at HT2
        have HA' := Lib.hid (show A ++ ((U1 ++ T1) ++ T2) = ⟨(ub len ++ entsB [] (es.take (i + 1))).toArray⟩ by
          apply c_ba_ext
          rw [HSn.out, HA.out, hU1, hT1, hT2]
          unfold entB txtB
          rw [← hK, ← HHn.out, hXl, hCbl]
          have l1 : (K.data.toList.drop hn).length = X.size := by rw [← hXl, c_size]
          have l2 : (chainB e.ch).length = Cb.size := by rw [← hCbl, c_size]
          rw [l1, l2]
          simp [ByteArray.data_append])
        have hx1 : ¬ 9223372036854775807 < U1.size + T1.size := by omega
        have hx2 : ¬ 9223372036854775807 < U1.size + T1.size + T2.size := by omega
        have hx4 : ¬ 9223372036854775807 < A.size + (U1.size + T1.size + T2.size) := by omega
        have hxs := Lib.hid (show A.size + (U1.size + T1.size + T2.size) ≤ 10 + (i + 1) * 300000 by omega)
        have hm1 : (hn : Int) % 18446744073709551616 = (hn : Int) := by omega
        have hn0z : (0 : Int) ≤ (hn : Int) := by omega
        have hnKz : (hn : Int) ≤ (K.size : Int) := by omega
        have hXr := hX.symm
        clear hhn hprev hp0 hK HW hnd k0 k1 g0 g1 hv hvc hsm hcb hCb hCbl hX hXl hU1 hT1 hT2 HSn HA hrb hbl hbW
        go_upto_region 10 with fail
        refine region_likes (by kernel_rfl) (by kernel_rfl) ?_
        repeat (first
          | (go_big_quiet_step (first
              | (go_at_call 18; exact calls_likes (Like.size _) (HU1.out _))
              | (go_at_call 30; exact calls_likes (Like.size _) (HVb.out _))
              | (go_at_call 29; with_reducible exact calls_likes (Like.size _) (HT1.out _))
              | (go_at_call 29; with_reducible exact calls_likes (Like.size _) (HT2.out _)))))
        refine wpQuiet_nil ?_
        intro x
        have hbx := Lib.hid (hb3.out.trans (x.below.mono hb3.out.size))
        clear hXr q0 q1
        go_wp2_with fail
        go_roundg g
        case measure => omega
        case rel => exact ⟨i + 1, _, by omega, rfl, by simp only [ByteArray.size_append]; exact hxs.out, HA', by go_num, hbx⟩
end Go.Proofs.Ytplobffkelmokaa
