/-
  The document's Bytes of layer 9.
-/
import Derived.Test.YtplobffkelmokaaSet03
import Derived.Test.YtplobffkelmokaaSet04
namespace Go.Proofs.Ytplobffkelmokaa
open Go.RowKit
set_option linter.unusedVariables false
set_option linter.unnecessarySimpa false
set_option linter.unusedSimpArgs false
set_option maxRecDepth 100000

theorem c_ba_ext {a b : ByteArray} (h : a.data.toList = b.data.toList) : a = b := by
  cases a; cases b; simp only [ByteArray.mk.injEq]; exact Array.toList_inj.1 h
theorem c_ba_app (a b : List UInt8) : (⟨a.toArray⟩ : ByteArray) ++ ⟨b.toArray⟩ = ⟨(a ++ b).toArray⟩ := c_ba_ext (by simp [ByteArray.data_append])
theorem c_size (s : ByteArray) : s.data.toList.length = s.size := by rw [Array.length_toList]; rfl
theorem ext_list (X : ByteArray) (a b : Nat) : (X.extract a b).data.toList = (X.data.toList.drop a).take (b - a) := by
  rw [ByteArray.data_extract, Array.toList_extract]
theorem str_ne {x y : ByteArray} (h : x.data.toList ≠ y.data.toList) : (x.toList != y.toList) = true ∧ (x.toList == y.toList) = false := by
  rw [Lib.toList_data, Lib.toList_data]
  exact ⟨by rw [bne_iff_ne]; exact h, by rw [beq_eq_false_iff_ne]; exact h⟩

theorem headN_le (b v : List UInt8) : headN b v ≤ b.length ∧ headN b v ≤ v.length := pre_le b v
theorem tailN_le (b v : List UInt8) : headN b v + tailN b v ≤ b.length ∧ headN b v + tailN b v ≤ v.length := by
  have h1 := headN_le b v
  have h2 := suf_le (b.drop (headN b v)) (v.drop (headN b v))
  rw [List.length_drop, List.length_drop] at h2
  have e : suf (b.drop (headN b v)) (v.drop (headN b v)) = tailN b v := rfl
  rw [e] at h2
  omega
theorem drop_drop_end (x : List UInt8) (h m : Nat) (hm : h + m ≤ x.length) : (x.drop h).drop ((x.drop h).length - m) = x.drop (x.length - m) := by
  rw [List.length_drop, List.drop_drop]
  congr 1; omega
theorem tail_eq (b v : List UInt8) : b.drop (b.length - tailN b v) = v.drop (v.length - tailN b v) := by
  have h := tailN_le b v
  have := suf_drop (b.drop (headN b v)) (v.drop (headN b v))
  have e : suf (b.drop (headN b v)) (v.drop (headN b v)) = tailN b v := rfl
  rw [e, drop_drop_end b _ _ h.1, drop_drop_end v _ _ h.2] at this
  exact this
theorem tail_ne (b v : List UInt8) (m : Nat) (hm : tailN b v < m) (h1 : headN b v + m ≤ b.length) (h2 : headN b v + m ≤ v.length) : b.drop (b.length - m) ≠ v.drop (v.length - m) := by
  intro h
  have := suf_most (b.drop (headN b v)) (v.drop (headN b v)) m (by rw [List.length_drop]; omega) (by rw [List.length_drop]; omega) (by rw [drop_drop_end b _ _ h1, drop_drop_end v _ _ h2]; exact h)
  have e : suf (b.drop (headN b v)) (v.drop (headN b v)) = tailN b v := rfl
  omega
theorem head_ne (b v : List UInt8) (n : Nat) (hn : headN b v < n) (h1 : n ≤ b.length) (h2 : n ≤ v.length) : b.take n ≠ v.take n := fun h => by
  have := pre_most b v n h1 h2 h
  have e : pre b v = headN b v := rfl
  omega
theorem endT_prev (zs : List Vr) (i : Nat) (h : i ≤ zs.length) : endT 0 (zs.take i) = prevT 0 zs i := by
  cases i with
  | zero => rfl
  | succ k =>
    have hk : k < zs.length := by omega
    have : zs.take (k + 1) = zs.take k ++ [zs.getD k vr0] := by rw [List.take_add_one, List.getD, List.getElem?_eq_getElem hk]; rfl
    rw [this, endT_snoc]
    unfold prevT
    rw [if_neg (by omega)]
    rfl
theorem takeV_succ (zs : List Vr) {i : Nat} (h : i < zs.length) : zs.take (i + 1) = zs.take i ++ [zs.getD i vr0] := by rw [List.take_add_one, List.getD, List.getElem?_eq_getElem h]; rfl
theorem base_small : ∀ (l : List Vr) (b : List UInt8), b.length ≤ 60000 → (∀ v ∈ l, v.val.size ≤ 60000) → (baseOf b l).length ≤ 60000
  | [], b, hb, _ => hb
  | v :: l, b, hb, h => by
    unfold baseOf
    split
    · exact base_small l b hb (fun x hx => h x (by simp [hx]))
    · exact base_small l _ (by rw [c_size]; exact h v (by simp)) (fun x hx => h x (by simp [hx]))

set_option maxHeartbeats 8000000 in
theorem vbytes_any (a : Option Addr) (len cap : Nat) (zs : List Vr) (w : World) (hz : IsVers w a len cap zs) (hr : risesB 0 zs = true) (hl : len ≤ 200) (hv : ∀ v ∈ zs, v.val.size ≤ 60000) :
    Calls Try.prog 30 #[.slice a len cap] w fun e w' => e = .returned (.string ⟨(chainB zs).toArray⟩) ∧ Below w.heap.size w w' := by
  have HZ := Lib.hid hz
  have hzl := Lib.hid hz.1.1
  have HR := Lib.hid ((rises_iff zs 0).1 hr)
  have HV := Lib.hid hv
  have hU0 := Lib.hid (refUint_any len (by omega))
  have hm0 : (len : Int) % 18446744073709551616 = len := by omega
  clear hz hr hv
  go_enter Try.func30, Try.ntmps30
  go_wp2_with (go_at_call 18; refine (hU0.out _).mono ?_; rintro e w1 ⟨rfl, hb1⟩)
  have HB1 := Lib.hid hb1
  clear hb1
  go_loopg [3, 4, 5, 6, 7, 8, 9] len (fun g s3 s4 s5 s6 s7 s8 s9 wx => ∃ (i : Nat) (A : ByteArray), i + g = len ∧ s3 = .string A ∧ A.size ≤ 10 + i * 70000 ∧ Hid (A = ⟨(ub len ++ versB 0 [] (zs.take i)).toArray⟩) ∧ s4 = .string ⟨(baseOf [] (zs.take i)).toArray⟩ ∧ s5 = .int .i64 i ∧ Hid (Below w.heap.size w wx))
  case atStart => exact ⟨0, ⟨(ub len).toArray⟩, by omega, rfl, by show (ub len).toArray.size ≤ _; rw [List.size_toArray]; have := ub_len10 (n := len) (by omega); omega, Lib.hid (by simp [versB]), rfl, rfl, HB1⟩
  case round =>
    obtain ⟨i, A, hig, rfl, hAs, HA, rfl, rfl, hb⟩ := hrel
    cases gk with
    | zero =>
      obtain rfl : i = len := by omega
      have hfin := Lib.hid (show A = ⟨(chainB zs).toArray⟩ by rw [HA.out, List.take_of_length_le (Nat.le_of_eq hzl.out)]; unfold chainB; rw [hzl.out])
      go_wp2_with fail
      go_ret
      exact ⟨congrArg (fun x => Ending.returned (Value.string x)) hfin.out, hb.out⟩
    | succ g =>
      have hil : i < len := by omega
      have hiz : (i : Int) < (len : Int) := by omega
      obtain ⟨b, off, rfl, hbl, ht1, _, c0, c1, c2⟩ := HZ.out.1.2 i hil
      have hprev : 0 < i → ∃ k : Nat, IntKind.i64.wrap ((i : Int) - 1) = (k : Int) ∧ (0 : Int) ≤ (k : Int) ∧ (k : Int) < (len : Int) ∧ wr.cell? ⟨b, off + k * 3, none⟩ = some (.int .u64 (prevT 0 zs i : Int)) := fun h0 => by
        obtain ⟨b', off', ha', hbl', h5, _, h6, _⟩ := HZ.out.1.2 (i - 1) (by omega)
        cases ha'
        refine ⟨i - 1, by rw [IntWalk.i64_in _ (by omega)]; omega, by omega, by omega, ?_⟩
        have e : prevT 0 zs i = (zs.getD (i - 1) vr0).time := by unfold prevT; rw [if_neg (by omega)]
        rw [e, hb.out.cell (p := ⟨b, off + (i - 1) * 3, none⟩) hbl]
        exact h6
      obtain ⟨hlt, _⟩ := HR.out i (by rw [hzl.out]; exact hil)
      have hiz2 : i < zs.length := by rw [hzl.out]; exact hil
      have hvs := HV.out (zs.getD i vr0) (by rw [List.getD, List.getElem?_eq_getElem hiz2]; exact List.getElem_mem _)
      have HS := Lib.hid (versB_snoc 0 [] (zs.take i) (zs.getD i vr0))
      have HBS := Lib.hid (baseOf_snoc [] (zs.take i) (zs.getD i vr0))
      rw [← takeV_succ zs hiz2] at HS HBS
      rw [endT_prev zs i (Nat.le_of_lt hiz2)] at HS
      have hbl6 := base_small (zs.take i) [] (by decide) (fun v h => HV.out v (List.mem_of_mem_take h))
      obtain ⟨bl, hble⟩ : ∃ bl, bl = baseOf [] (zs.take i) := ⟨_, rfl⟩
      rw [← hble] at HS HBS hbl6 ⊢
      obtain ⟨p, hp⟩ : ∃ p, p = prevT 0 zs i := ⟨_, rfl⟩
      rw [← hp] at HS hlt hprev
      have hp0 : i = 0 → p = 0 := fun h => by rw [hp, h]; rfl
      obtain ⟨z, hzz⟩ : ∃ z, z = zs.getD i vr0 := ⟨_, rfl⟩
      rw [← hzz] at c0 c1 c2 ht1 hlt hvs HS HBS
      have k0 := hb.out.cell (p := ⟨b, off + i * 3, none⟩) hbl
      have k1 := hb.out.cell (p := ⟨b, off + i * 3 + 1, none⟩) hbl
      have k2 := hb.out.cell (p := ⟨b, off + i * 3 + 2, none⟩) hbl
      rw [c0] at k0
      rw [c1] at k1
      rw [c2] at k2
      have hbW := Lib.hid (show b < wr.heap.size from Nat.lt_of_lt_of_le hbl hb.out.size)
      have HUt := Lib.hid (refUint_any (z.time - p) (by omega))
      have hut := Lib.hid (ub_len10 (n := z.time - p) (by omega))
      obtain ⟨UT, hUT⟩ : ∃ UT : ByteArray, UT = ⟨(ub (z.time - p)).toArray⟩ := ⟨_, rfl⟩
      have hUTs : UT.size ≤ 10 := by rw [hUT]; show (ub _).toArray.size ≤ 10; rw [List.size_toArray]; exact hut.out
      rw [← hUT] at HUt
      have HUT := Lib.hid hUT
      have hAU : A.size + UT.size ≤ 9223372036854775807 := by omega
      obtain ⟨Bs, hBs⟩ : ∃ Bs : ByteArray, Bs = ⟨bl.toArray⟩ := ⟨_, rfl⟩
      rw [← hBs]
      have HBs := Lib.hid hBs
      have hsub : ((z.time : Int) - (p : Int)) % 18446744073709551616 = ((z.time - p : Nat) : Int) := by omega
      clear c0 c1 c2 hble hzz hp hUT hut hBs
      go_upto_if 26 with fail
      go_cut [6] (fun s6 wc => s6 = .int .u64 ((z.time - p : Nat) : Int) ∧ wc = wr)
      case first =>
        rcases Nat.eq_zero_or_pos i with h0 | h0
        · have hpz := hp0 h0
          subst hpz h0
          clear hprev hp0
          go_wp2_with fail
          go_meet
          case rel => exact ⟨by simp, rfl⟩
        · obtain ⟨k, hw1, hk0', hkz, ck⟩ := hprev h0
          have hi0z : (0 : Int) < (i : Int) := by omega
          clear hprev hp0
          go_wp2_with fail
          go_meet
          case rel => exact ⟨by first | rfl | (rw [hsub]) | (simp; omega), rfl⟩
      case rest =>
        obtain ⟨rfl, rfl⟩ := hcut
        clear hprev hp0 hsub
        have hstrs : A.size + UT.size ≤ 9223372036854775807 := hAU
        go_upto_region 10 with (go_at_call 18; refine (HUt.out _).mono ?_; rintro e w2 ⟨rfl, hb2⟩; have k1 := (hb2.cell (p := ⟨b, off + i * 3 + 1, none⟩) hbW.out).trans k1; have k2 := (hb2.cell (p := ⟨b, off + i * 3 + 2, none⟩) hbW.out).trans k2; have hb2 := Lib.hid (hb.out.trans (hb2.mono hb.out.size)))
        obtain ⟨S2, hS2⟩ : ∃ S2, S2 = A ++ UT := ⟨_, rfl⟩
        have hS2s : S2.size ≤ 20 + i * 70000 := by rw [hS2, ByteArray.size_append]; omega
        have HS2 := Lib.hid (show S2 = ⟨(ub len ++ versB 0 [] (zs.take i) ++ ub (z.time - p)).toArray⟩ by rw [hS2, HA.out, HUT.out, c_ba_app])
        rw [← hS2]
        clear hS2 hAU hstrs HA HUT HUt hUTs hAs hb k0 hlt ht1
        cases hgone : z.gone with
        | true =>
          rw [hgone] at k1 HS HBS
          simp only [if_true] at HS HBS
          have hS1 : S2.size + 1 ≤ 9223372036854775807 := by omega
          have HA' := Lib.hid (show S2 ++ ⟨#[1]⟩ = ⟨(ub len ++ versB 0 [] (zs.take (i + 1))).toArray⟩ by
            rw [HS2.out, HS.out, show (⟨#[1]⟩ : ByteArray) = ⟨([1] : List UInt8).toArray⟩ from rfl, c_ba_app]; simp)
          have HB' := Lib.hid (show Bs = ⟨(baseOf [] (zs.take (i + 1))).toArray⟩ by rw [HBS.out]; exact HBs.out)
          clear hgone HS HBS
          go_wp2_with fail
          go_roundg g
          case measure => omega
          case rel => exact ⟨i + 1, S2 ++ ⟨#[1]⟩, by omega, rfl, by rw [ByteArray.size_append]; show S2.size + 1 ≤ _; omega, HA', by rw [HB'.out], by go_num, hb2⟩
        | false =>
          rw [hgone] at k1 HS HBS
          simp only [Bool.false_eq_true, if_false] at HS HBS
          obtain ⟨V, hV⟩ : ∃ V, V = z.val := ⟨_, rfl⟩
          rw [← hV] at k2 hvs HS HBS
          have hBl : Bs.data.toList = bl := by rw [HBs.out]
          have hBsz : Bs.size = bl.length := by rw [← c_size, hBl]
          have hVsz : V.size = V.data.toList.length := (c_size V).symm
          obtain ⟨hn, hh⟩ : ∃ hn, hn = headN bl V.data.toList := ⟨_, rfl⟩
          obtain ⟨q, hq⟩ : ∃ q, q = tailN bl V.data.toList := ⟨_, rfl⟩
          have hhq : hn + q ≤ Bs.size ∧ hn + q ≤ V.size := by have := tailN_le bl V.data.toList; rw [← hh, ← hq] at this; omega
          obtain ⟨M, hM⟩ : ∃ M, M = min Bs.size V.size := ⟨_, rfl⟩
          have hMz : min (Bs.size : Int) (V.size : Int) = (M : Int) := by omega
          have hMb : M ≤ Bs.size ∧ M ≤ V.size ∧ hn + q ≤ M := by omega
          obtain ⟨hMb1, hMb2, hMb3⟩ := hMb
          have hBs6 : Bs.size ≤ 60000 := by omega
          have HHD := Lib.hid (show ∀ n, hn < n → n ≤ M → (Bs.extract 0 n).data.toList ≠ (V.extract 0 n).data.toList from fun n h1 h2 => by
            rw [ext_list, ext_list, List.drop_zero, List.drop_zero, Nat.sub_zero, hBl]
            exact head_ne bl V.data.toList n (by rw [← hh]; exact h1) (by omega) (by omega))
          have HHE := Lib.hid (show Bs.extract 0 hn = V.extract 0 hn from c_ba_ext (by
            rw [ext_list, ext_list, List.drop_zero, List.drop_zero, Nat.sub_zero, hBl, hh]
            exact pre_take bl V.data.toList))
          have HTD := Lib.hid (show ∀ m, q < m → hn + m ≤ M → (Bs.extract (Bs.size - m) Bs.size).data.toList ≠ (V.extract (V.size - m) V.size).data.toList from fun m h1 h2 => by
            rw [ext_list, ext_list, hBl, List.take_of_length_le (by rw [List.length_drop]; omega), List.take_of_length_le (by rw [List.length_drop, c_size]; omega), hBsz, hVsz]
            exact tail_ne bl V.data.toList m (by rw [← hq]; exact h1) (by rw [← hh]; omega) (by rw [← hh]; omega))
          have HTE := Lib.hid (show Bs.extract (Bs.size - q) Bs.size = V.extract (V.size - q) V.size from c_ba_ext (by
            rw [ext_list, ext_list, hBl, List.take_of_length_le (by rw [List.length_drop]; omega), List.take_of_length_le (by rw [List.length_drop, c_size]; omega), hBsz, hVsz, hq]
            exact tail_eq bl V.data.toList))
          have HMID := Lib.hid (show (V.extract hn (V.size - q)).data.toList = midB bl V.data.toList by
            rw [ext_list]; unfold midB; rw [← hh, ← hq, c_size, Nat.sub_right_comm])
          have HH := Lib.hid hh
          have HQ := Lib.hid hq
          have HV2 := Lib.hid hV
          clear hgone hh hq hM hV hBl hBsz hVsz hhq
          go_upto_region 13 with fail
          go_cut [8] (fun s8 wc => s8 = .int .i64 (M : Int) ∧ wc = w2)
          case first =>
            go_wp2_with fail
            all_goals
              go_meet
              case rel => exact ⟨by congr 1; omega, rfl⟩
          case rest =>
          obtain ⟨rfl, rfl⟩ := hcut
          go_wp2_with fail
          go_loopg [8] (M - hn) (fun g s8 wx => s8 = .int .i64 ((hn + g : Nat) : Int) ∧ hn + g ≤ M ∧ ∃ n, wx = wc.drewN n)
          case atStart => exact ⟨by congr 1; omega, by omega, 0, rfl⟩
          case round =>
            obtain ⟨rfl, hgM, n1, rfl⟩ := hrel
            obtain ⟨m, hm⟩ : ∃ m, m = hn + gk := ⟨_, rfl⟩
            rw [← hm] at hgM ⊢
            have i1 : (m : Int) ≤ (Bs.size : Int) := by omega
            have i2 : (m : Int) ≤ (V.size : Int) := by omega
            have i3 : (0 : Int) ≤ (m : Int) := by omega
            cases gk with
            | succ gg =>
              obtain ⟨n1', n2'⟩ := str_ne (HHD.out m (by omega) hgM)
              have Hm := Lib.hid hm
              clear hm
              go_wp2_with fail
              go_quiet (fail)
              go_wp2_with fail
              go_roundg gg
              case measure => omega
              case rel => exact ⟨by have := Hm.out; congr 1; omega, by have := Hm.out; omega, n1 + nq, rfl⟩
            | zero =>
              obtain rfl : m = hn := by omega
              have hEq := HHE.out
              clear hm
              go_wp2_with fail
              go_quiet (fail)
              go_upto_region 16 with fail
              clear hEq
              obtain ⟨W3, hW3⟩ : ∃ W3, W3 = (wc.drewN n1).drewN nq := ⟨_, rfl⟩
              have hb3 := Lib.hid (show Below w.heap.size w W3 by rw [hW3]; exact ⟨hb2.out.os, hb2.out.tape, hb2.out.output, hb2.out.size, hb2.out.block⟩)
              rw [← hW3]
              clear hW3
              have hMm : IntKind.i64.wrap ((M : Int) - (m : Int)) = ((M - m : Nat) : Int) := by rw [IntWalk.i64_in _ (by omega)]; omega
              go_cut [9] (fun s9 wd => s9 = .int .i64 ((M - m : Nat) : Int) ∧ W3 = wd)
              case first =>
                go_wp2_with fail
                all_goals
                  go_meet
                  case rel => exact ⟨by congr 1; omega, rfl⟩
              case rest =>
              obtain ⟨rfl, hwd⟩ := hcut
              subst hwd
              go_wp2_with fail
              go_loopg [9] (M - m - q) (fun g s9 wx => s9 = .int .i64 ((q + g : Nat) : Int) ∧ m + (q + g) ≤ M ∧ ∃ n, wx = W3.drewN n)
              case atStart => exact ⟨by congr 1; omega, by omega, 0, rfl⟩
              case round =>
                obtain ⟨rfl, hgM2, n2, rfl⟩ := hrel
                obtain ⟨r, hr⟩ : ∃ r, r = q + gk := ⟨_, rfl⟩
                rw [← hr] at hgM2 ⊢
                have j1 : IntKind.i64.wrap ((Bs.size : Int) - (r : Int)) = ((Bs.size - r : Nat) : Int) := by rw [IntWalk.i64_in _ (by omega)]; omega
                have j2 : IntKind.i64.wrap ((V.size : Int) - (r : Int)) = ((V.size - r : Nat) : Int) := by rw [IntWalk.i64_in _ (by omega)]; omega
                obtain ⟨e1, he1⟩ : ∃ e1, e1 = Bs.size - r := ⟨_, rfl⟩
                obtain ⟨e2, he2⟩ : ∃ e2, e2 = V.size - r := ⟨_, rfl⟩
                rw [← he1] at j1
                rw [← he2] at j2
                have j3 : (e1 : Int) ≤ (Bs.size : Int) := by omega
                have j4 : (e2 : Int) ≤ (V.size : Int) := by omega
                cases gk with
                | succ gg =>
                  obtain ⟨n1', n2'⟩ := str_ne (HTD.out r (by omega) hgM2)
                  rw [← he1, ← he2] at n1' n2'
                  have Hr := Lib.hid hr
                  clear he1 he2 hr
                  go_wp2_with fail
                  go_quiet (fail)
                  go_wp2_with fail
                  go_roundg gg
                  case measure => omega
                  case rel => exact ⟨by have := Hr.out; congr 1; omega, by have := Hr.out; omega, n2 + nq, rfl⟩
                | zero =>
                  obtain rfl : r = q := by omega
                  have hEq := HTE.out
                  rw [← he1, ← he2] at hEq
                  have he2' := Lib.hid he2
                  clear hr he1 he2
                  go_wp2_with fail
                  go_quiet (fail)
                  go_upto_region 19 with fail
                  clear hEq j1 j3
                  have hme : m ≤ e2 := by have := he2'.out; omega
                  have hmez : (m : Int) ≤ (e2 : Int) := by omega
                  have hm0z : (0 : Int) ≤ (m : Int) := by omega
                  have hm1 : (m : Int) % 18446744073709551616 = (m : Int) := by omega
                  have hr1 : (r : Int) % 18446744073709551616 = (r : Int) := by omega
                  have hX := HMID.out
                  rw [← he2'.out] at hX
                  obtain ⟨X, hXe⟩ : ∃ X, X = V.extract m e2 := ⟨_, rfl⟩
                  have hXs : X.size ≤ 60000 := by rw [hXe, ByteArray.size_extract]; omega
                  rw [← hXe] at hX
                  have HU1 := Lib.hid (refUint_any m (by omega))
                  have HU2 := Lib.hid (refUint_any r (by omega))
                  have HT1 := Lib.hid (refTextB_any X (by omega))
                  have u1 := ub_size' m (by omega)
                  have u2 := ub_size' r (by omega)
                  have u3 := ub_size' X.size (by omega)
                  obtain ⟨U1, hU1⟩ : ∃ U1 : ByteArray, U1 = ⟨(ub m).toArray⟩ := ⟨_, rfl⟩
                  obtain ⟨U2, hU2⟩ : ∃ U2 : ByteArray, U2 = ⟨(ub r).toArray⟩ := ⟨_, rfl⟩
                  obtain ⟨T1, hT1⟩ : ∃ T1 : ByteArray, T1 = ⟨(ub X.size ++ X.data.toList).toArray⟩ := ⟨_, rfl⟩
                  have hT1s : T1.size ≤ 60010 := by
                    rw [hT1]; show (ub X.size ++ X.data.toList).toArray.size ≤ _
                    rw [List.size_toArray, List.length_append, c_size]
                    have : (ub X.size).length ≤ 10 := ub_len10 (by omega)
                    omega
                  rw [← hU1] at HU1 u1
                  rw [← hU2] at HU2 u2
                  rw [← hT1] at HT1
                  have HA' := Lib.hid (show S2 ++ (((⟨#[0]⟩ ++ U1) ++ U2) ++ T1) = ⟨(ub len ++ versB 0 [] (zs.take (i + 1))).toArray⟩ by
                    apply c_ba_ext
                    rw [HS.out, hU1, hU2, hT1, HS2.out]
                    unfold valB
                    rw [← HH.out, ← HQ.out, ← hX, c_size]
                    simp [ByteArray.data_append])
                  have HB' := Lib.hid (show V = ⟨(baseOf [] (zs.take (i + 1))).toArray⟩ by rw [HBS.out])
                  have hx1 : ¬ 9223372036854775807 < 1 + U1.size := by omega
                  have hx2 : ¬ 9223372036854775807 < 1 + U1.size + U2.size := by omega
                  have hx3 : ¬ 9223372036854775807 < 1 + U1.size + U2.size + T1.size := by omega
                  have hx4 : ¬ 9223372036854775807 < S2.size + (1 + U1.size + U2.size + T1.size) := by omega
                  have hxs : S2.size + (1 + U1.size + U2.size + T1.size) ≤ 10 + (i + 1) * 70000 := by omega
                  obtain ⟨W4, hW4⟩ : ∃ W4, W4 = (W3.drewN n2).drewN nq := ⟨_, rfl⟩
                  have hb4 := Lib.hid (show Below w.heap.size w W4 by rw [hW4]; exact ⟨hb3.out.os, hb3.out.tape, hb3.out.output, hb3.out.size, hb3.out.block⟩)
                  have HXE := Lib.hid hXe
                  have hXr := hXe.symm
                  rw [← hW4]
                  clear hW4 HHD HHE HTD HTE HMID HH HQ HS HBS HS2 hX hXe hU1 hU2 hT1 u3
                  refine region_likes (by kernel_rfl) (by kernel_rfl) ?_
                  repeat (first
                    | (go_big_quiet_step (first
                        | (go_at_call 18; with_reducible exact calls_likes (Like.size _) (HU1.out _))
                        | (go_at_call 18; with_reducible exact calls_likes (Like.size _) (HU2.out _))
                        | (go_at_call 29; exact calls_likes (Like.size _) (HT1.out _)))))
                  refine wpQuiet_nil ?_
                  intro x
                  have hbx := Lib.hid (hb4.out.trans (x.below.mono hb4.out.size))
                  clear hXr
                  go_wp2_with fail
                  go_roundg g
                  case measure => omega
                  case rel => exact ⟨i + 1, _, by omega, rfl, by simp only [ByteArray.size_append]; exact hxs, HA', by rw [← HB'.out], by go_num, hbx⟩
end Go.Proofs.Ytplobffkelmokaa
