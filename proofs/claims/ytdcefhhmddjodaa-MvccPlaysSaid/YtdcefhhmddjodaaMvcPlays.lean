/-
  MvccPlays from what is asked of the program's store.
-/
import Derived.Test.YtdcefhhmddjodaaMvcPlaysS
import Derived.Test.YtdcefhhmddjodaaRegionT
import Derived.Test.YtdcefhhmddjodaaSet21
import Derived.Test.YtdcefhhmddjodaaMvcAsk
import Derived.Test.YtdcefhhmddjodaaSet37
import Derived.StillTailTactics
import Derived.Deep.RegionWith
import Derived.BigRegion
import Derived.BigQuiet
namespace Go.Proofs.Ytdcefhhmddjodaa
open Go.RowKit
set_option linter.unusedVariables false
set_option linter.unnecessarySimpa false
set_option linter.unusedSimpArgs false
set_option maxRecDepth 100000

theorem good_inP {M : List Im} (h : GoodL M) (i : Nat) (hi : i < M.length) : (M.getD i im0).key.size ≤ maxLen ∧ (M.getD i im0).v.val.size ≤ maxLen ∧ (M.getD i im0).v.time < 18446744073709551616 := by
  have hm : M.getD i im0 ∈ M := by rw [List.getD, List.getElem?_eq_getElem hi]; exact List.getElem_mem hi
  have h1 := h.key _ hm
  have h2 := h.val _ hm
  exact ⟨by unfold maxLen; omega, by unfold maxLen; omega, h.time _ hm⟩
def noX : Nat → Obj → Prop := fun _ _ => False

theorem DuSt.last {S : MvcC} {w wx : World} {X : Nat → Obj → Prop} {g7 : Nat} {r : Addr} {M1 M2 : List Im} {s : Value} (h : DuSt S w X g7 r M1 M2 s wx) (key : ByteArray) (h1 : key.size ≤ maxLen) :
    Calls Try.prog 16 #[.pointer (some r), .string key] wx fun e w' => e = .returned (.int .u64 ((lastOf key M1).1 : Int)) ∧ Below wx.heap.size wx w' := by
  obtain ⟨O, hat, _⟩ := h.st
  exact S.last hat key h1
theorem DuSt.room {S : MvcC} {w wx : World} {X : Nat → Obj → Prop} {g7 : Nat} {r : Addr} {M1 M2 : List Im} {s : Value} (h : DuSt S w X g7 r M1 M2 s wx) (key : ByteArray) (h1 : key.size ≤ maxLen) :
    Calls Try.prog 15 #[.pointer (some r), .string key] wx fun e w' => e = .returned (.bool (decide ((lastOf key M1).2 < 200))) ∧ Below wx.heap.size wx w' := by
  obtain ⟨O, hat, _⟩ := h.st
  exact S.room hat key h1
theorem DuSt.scan {S : MvcC} {w wx : World} {X : Nat → Obj → Prop} {g7 : Nat} {r : Addr} {M1 M2 : List Im} {s : Value} (h : DuSt S w X g7 r M1 M2 s wx) (lo hi : ByteArray) (t : Nat) (most : Int) (hl : M1.length ≤ 1000) (h1 : lo.size ≤ maxLen) (h2 : hi.size ≤ maxLen) (h3 : t < 18446744073709551616) :
    Calls Try.prog 18 #[.pointer (some r), .string lo, .string hi, .int .u64 (t : Int), .int .i64 most] wx fun e w' => ∃ a c, e = .returned (.slice a (scanM M1 lo hi t most).length c) ∧ IsWts w' a (scanM M1 lo hi t most).length c (scanM M1 lo hi t most) ∧ Below wx.heap.size wx w' := by
  obtain ⟨O, hat, _⟩ := h.st
  refine (S.scan hat lo hi t most hl h1 h2 h3).mono ?_
  rintro e w' ⟨a, n, c, rfl, hw, hb, _⟩
  obtain rfl := hw.1
  exact ⟨a, c, rfl, hw, hb⟩
theorem mscan_len (a : Option Addr) (len cap : Nat) (L : List Im) (lo hi : ByteArray) (t : Nat) (most : Int) (w : World) (hz : IsItms w a len cap L) (hl : len ≤ 1000) (ht : t < 18446744073709551616) :
    Calls Try.prog 19 #[.agg #[.slice a len cap], .string lo, .string hi, .int .u64 (t : Int), .int .i64 most] w fun e w' => ∃ a' c, e = .returned (.slice a' (scanM L lo hi t most).length c) ∧ IsWts w' a' (scanM L lo hi t most).length c (scanM L lo hi t most) ∧ Below w.heap.size w w' := by
  refine (mscan_any a len cap L lo hi t most w hz hl ht).mono ?_
  rintro e w' ⟨a, n, c, rfl, hw, hb⟩
  obtain rfl := hw.1
  exact ⟨a, c, rfl, hw, hb⟩
/-- Keys in memory. -/
def KC (W : World) (v : Value) (ks : List ByteArray) : Prop := ∃ a c, v = .slice a ks.length c ∧ ∀ i, i < ks.length → ∃ b off, a = some ⟨b, off, none⟩ ∧ b < W.heap.size ∧ W.cell? ⟨b, off + i, none⟩ = some (.string (ks.getD i ⟨#[]⟩))
theorem KC.below {W W' : World} {v : Value} {ks : List ByteArray} (h : KC W v ks) (hb : Below W.heap.size W W') : KC W' v ks := by
  obtain ⟨a, c, rfl, h⟩ := h
  refine ⟨a, c, rfl, fun i hi => ?_⟩
  obtain ⟨b, off, ha, h1, h2⟩ := h i hi
  exact ⟨b, off, ha, Nat.lt_of_lt_of_le h1 hb.size, (hb.cell (p := ⟨b, off + i, none⟩) h1).trans h2⟩
theorem DuSt.keys {S : MvcC} {w wx : World} {X : Nat → Obj → Prop} {g7 : Nat} {r : Addr} {M1 M2 : List Im} {s : Value} (h : DuSt S w X g7 r M1 M2 s wx) (hl : M1.length ≤ 1000) :
    Calls Try.prog 20 #[.pointer (some r)] wx fun e w' => ∃ v, e = .returned v ∧ KC w' v (keysM M1) ∧ Below wx.heap.size wx w' := by
  obtain ⟨O, hat, _⟩ := h.st
  refine (S.keys hat hl).mono ?_
  rintro e w' ⟨a, n, c, rfl, hk, hb⟩
  obtain rfl := hk.1
  exact ⟨_, rfl, ⟨a, c, rfl, fun i hi => by obtain ⟨b, off, h1, h2, _, h3⟩ := hk.2.2 i hi; exact ⟨b, off, h1, h2, h3⟩⟩, hb⟩
theorem mkeys_kc (a : Option Addr) (len cap : Nat) (L : List Im) (w : World) (hz : IsItms w a len cap L) (hl : len ≤ 1000) :
    Calls Try.prog 21 #[.agg #[.slice a len cap]] w fun e w' => ∃ v, e = .returned v ∧ KC w' v (keysM L) ∧ Below w.heap.size w w' := by
  refine (mkeys_any a len cap L w hz hl).mono ?_
  rintro e w' ⟨v, rfl, hk, hb⟩
  obtain ⟨a, c, rfl, h⟩ := hk.keys
  exact ⟨_, rfl, ⟨a, c, rfl, fun i hi => by obtain ⟨g, h1, h2, h3⟩ := h i hi; exact ⟨g, 0, h1, h2, by rw [Nat.zero_add]; exact h3⟩⟩, hb⟩

/-- What the slots hold where the keys are told. -/
def psiK (g6 : Nat) (r : Addr) (s : Value) (ks : List ByteArray) : Nat → Value → World → Prop := fun tm v w =>
  match tm with
  | 5 => v = .pointer (some r) | 6 => v = .pointer (some ⟨g6, 0, none⟩) | 221 => v = .pointer (some r) | 222 => KC w v ks | 223 => v = .agg #[s] | 224 => KC w v ks | 17 => KC w v ks | 18 => KC w v ks
  | _ => True
theorem psiK_stable (g6 : Nat) (r : Addr) (s : Value) (ks : List ByteArray) : ∀ tm v w w', psiK g6 r s ks tm v w → Below w.heap.size w w' → psiK g6 r s ks tm v w' := by
  intro tm v w w' h hb
  unfold psiK at h ⊢
  split at h <;> first | exact h | exact KC.below h hb | trivial
noncomputable def keysOps : List Oper := (opsOf 21 (Try.f3.body.getD .skip)).getD []
theorem keys_steps {w0 : World} (g6 : Nat) (r : Addr) (s : Value) (ks : List ByteArray)
    (HK : Hid (∀ W, Below w0.heap.size w0 W → Calls Try.prog 20 #[.pointer (some r)] W fun e w' => ∃ v, e = .returned v ∧ KC w' v ks ∧ Below W.heap.size W w'))
    (HD : Hid (∀ W, Below w0.heap.size w0 W → Calls Try.prog 21 #[.agg #[s]] W fun e w' => ∃ v, e = .returned v ∧ KC w' v ks ∧ Below W.heap.size W w'))
    (HB : Hid (∀ W, Below w0.heap.size w0 W → W.cell? ⟨g6, 0, none⟩ = some s)) : AllSteps Try.prog w0 (psiK g6 r s ks) keysOps := by
  repeat' (first | exact AllSteps.nil | refine AllSteps.cons ?_ ?_)
  all_goals
    intro a' w' K Q hB hP hK
    repeat (obtain ⟨h, hP⟩ := hP; conv at h => whnf)
    have HBl := Lib.hid hB
    have e0 := HB.out w' hB
    clear hB
    try go_simp
    first
      | (refine hK _ _ (Below.refl _ _) ?_; intro d hd; cases hd; first | rfl | exact h | trivial)
      | (go_at_call 20; refine (HK.out _ HBl.out).mono ?_; rintro e w'' ⟨v, rfl, hk, hb⟩; refine hK _ _ hb ?_; intro d hd; cases hd; exact hk)
      | (go_at_call 21; refine (HD.out _ HBl.out).mono ?_; rintro e w'' ⟨v, rfl, hk, hb⟩; refine hK _ _ hb ?_; intro d hd; cases hd; exact hk)

set_option maxHeartbeats 100000000 in
theorem plays_yes (S : MvcC) (a : Option Addr) (len cap : Nat) (L : List Im) (aq : Option Addr) (lenq capq : Nat) (qs : List Ask) (w : World) (hz : IsItms w a len cap L) (hq : IsAsks w aq lenq capq qs)
    (h1 : fewM L 60 = true) (h2 : lenq ≤ 10) :
    Calls Try.prog 3 #[.slice a len cap, .slice aq lenq capq] w fun e w' => e = .returned (.bool true) ∧ Below w.heap.size w w' := by
  have haw := Lib.hid (mawake_any S)
  have HF1 := Lib.hid (fun W (hb : Below w.heap.size w W) => mfew_any a len cap 60 L W (hz.below hb) (by omega))
  rw [h1] at HF1
  rw [show ((60 : Nat) : Int) = 60 from rfl] at HF1
  have HZ := Lib.hid hz
  have HQ := Lib.hid hq
  have hl60 : len ≤ 60 := by rw [← hz.1]; exact (fewM_true.1 h1).2
  have c2 : ¬ (10 : Int) < (lenq : Int) := by omega
  have c2b : decide (10 < lenq) = false := by simpa using h2
  clear hz h1 hq
  go_enter Try.func3, Try.ntmps3
  go_upto_region 3 with (first
    | (go_at_call 7; refine (haw.out _).mono ?_; rintro e w1 ⟨rfl, hb1⟩; have HP1 := Lib.hid hb1; clear hb1)
    | (go_at_call 8; (with_reducible refine (HF1.out _ HP1.out).mono ?_); rintro e w2 ⟨rfl, rfl⟩))
  clear HF1 haw c2 c2b
  have HN := Lib.hid (mst_new S HP1.out HP1.out.size (far := fun k => ∃ o, noX k o) (fun k ⟨o, hk⟩ => hk.elim))
  go_upto_region 4 with (go_at_call 9; refine HN.out.mono ?_; rintro e w5 ⟨r, rfl, hs5, hf5⟩; have HS5 := Lib.hid (DuSt.start (X := noX) (fun k o hk => hk.elim) hs5 hf5); clear hs5 hf5)
  obtain ⟨g6, hg6⟩ : ∃ g6, g6 = w5.heap.size := ⟨_, rfl⟩
  rw [← hg6] at HS5 ⊢
  obtain ⟨w6, hw6⟩ : ∃ w6, w6 = w5.alloc (.cells #[.slice none 0 0] 29) := ⟨_, rfl⟩
  rw [← hw6] at HS5 ⊢
  clear hg6 hw6 HN HP1
  go_wp2_with fail
  go_loopg [7] len (fun g s7 wx => ∃ (i : Nat) (M : List Im) (s : Value), i + g = len ∧ s7 = .int .i64 i ∧ M.length ≤ i ∧ Hid (DuSt S w noX g6 r M M s wx) ∧ Hid (GoodL M))
  case atStart => exact ⟨0, [], _, by omega, rfl, by simp, HS5, Lib.hid good_nil⟩
  case round =>
    obtain ⟨i, M, s, hig, rfl, hMi, HS, HG⟩ := hrel
    clear HS5
    cases gk with
    | succ g =>
      have hil : i < len := by omega
      have hiz : (i : Int) < (len : Int) := by omega
      obtain ⟨b, off, rfl, hbl, hi1, hi2, hi3, k0, k1, k2, k3⟩ := (HZ.out.below HS.out.below).2.2 i hil
      have HIL := Lib.hid (ins_len M (L.getD i im0))
      have HG2 := Lib.hid (good_ins HG.out hi3)
      have HOK := Lib.hid (And.intro hi1 (And.intro hi2 hi3))
      obtain ⟨z, hzz⟩ : ∃ z, z = L.getD i im0 := ⟨_, rfl⟩
      have HZZ := Lib.hid hzz
      rw [← hzz] at k0 k1 k2 k3 HIL HG2 HOK
      have HMI := Lib.hid (show M.length ≤ 1000 by omega)
      have HIN := Lib.hid (fun W (hv : StV W s M) => minstall_any s M z W hv HMI.out HOK.out (good_inP HG.out))
      unfold InsOut at HIN
      clear hzz hi1 hi2 hi3
      obtain ⟨N, hN⟩ : ∃ N, N = insM M z := ⟨_, rfl⟩
      have HN := Lib.hid hN
      rw [← hN] at HIN HIL HG2
      clear hN
      obtain ⟨M', cd⟩ := N
      have e0 := HS.out.boxcell
      have h7l : g6 < wr.heap.size := (Array.getElem?_eq_some_iff.1 HS.out.box).1
      have HV7 := Lib.hid HS.out.val
      go_upto_region 7 with fail
      go_cut [8, 9] (fun s8 s9 wd => ∃ (p : Nat) (s' : Value), s8 = .pointer (some ⟨p, 0, none⟩) ∧ s9 = .int .i64 (cd : Int) ∧ Hid (DocIns wr p s s' M' wd))
      case first =>
        have HA7 := Lib.hid (show ∀ W, Below wr.heap.size wr W → Calls Try.prog 10 #[.agg #[s], .string z.key, .agg #[.int .u64 (z.v.time : Int), .bool z.v.gone, .string z.v.val]] W fun e w' => ∃ s', e = .returned (.tuple #[.agg #[s'], .int .i64 (cd : Int)]) ∧ GoodV wr.heap.size s M' s' w' ∧ Below W.heap.size W w' from fun W hb => (HIN.out W (HS.out.later hb).val).mono fun e w' ⟨s', he, hv, hb2, hn⟩ => ⟨s', he, ⟨hv, hn.imp id (fun ⟨g, n, c, e, h⟩ => ⟨g, n, c, e, Nat.le_trans hb.size h⟩)⟩, hb2⟩)
        have HQ7 := Lib.hid (fun W (hb : Below wr.heap.size wr W) => And.intro ((hb.cell (p := ⟨b, off + i * 4, none⟩) hbl).trans k0) (And.intro ((hb.cell (p := ⟨b, off + i * 4 + 1, none⟩) hbl).trans k1) (And.intro ((hb.cell (p := ⟨b, off + i * 4 + 1 + 1, none⟩) hbl).trans k2) (And.intro ((hb.cell (p := ⟨b, off + i * 4 + 1 + 2, none⟩) hbl).trans k3) (HS.out.later hb).boxcell))))
        clear HG2 HIL HG HQ HMI HN HOK HZZ hMi hig hl60 HIN HS k0 k1 k2 k3 e0 HV7
        refine wp_region_S2 [0, 6, 7] [9] [42, 43, 44, 45, 46, 47, 48, 49, 50, 51, 52, 53, 41, 54, 55, 8, 9] _ (psiI7 wr.heap.size g6 s b off len cap i z M' cd) (tsI wr.heap.size s M') 8 54 16 245 (by kernel_rfl) (by kernel_rfl) rfl (by kernel_rfl) (by kernel_rfl) (by kernel_rfl) (by kernel_rfl) ?_ (ins_steps g6 s b off len cap i z M' cd hil hiz HA7 HQ7) ?_
        · intro t ht w' _
          unfold psiI7
          split <;> first | trivial | rfl | exact absurd ht (by decide)
        · intro f w' hb hnew hts
          have h9 : f 9 = .int .i64 (cd : Int) := hnew 9 (by decide)
          obtain ⟨p, s', h8, hp, hg, hrow⟩ := hts
          have HDI := Lib.hid (show DocIns wr p s s' M' w' from ⟨hrow, hb, hg.1, hg.2⟩)
          clear hnew hb hp hg hrow HA7 HQ7
          simp only [putAll, List.foldl_cons, List.foldl_nil, h8, h9]
          clear h8 h9
          dsimp only [Act.put]
          simp only [List.setIfInBounds_toArray]
          simp only [List.set_cons_succ, List.set_cons_zero]
          go_wp2_with fail
          go_meet
          case rel => exact ⟨p, s', rfl, rfl, HDI⟩
      case rest =>
        obtain ⟨p, s', rfl, rfl, HD⟩ := hcut
        have p0 : wc.cell? ⟨p, 0, none⟩ = some s' := by rw [cell_of_row _ _ _ _ _ _ HD.out.row]; rfl
        have b7 := (HD.out.below.block g6 h7l).trans HS.out.box
        have e1 : wc.cell? ⟨g6, 0, none⟩ = some s := by rw [cell_of_row _ _ _ _ _ _ b7]; rfl
        have f1 : ∀ j, wc.frozen? ⟨g6, j, none⟩ = false := fun j => frozen_of_row _ _ _ _ _ b7
        have HS8 := Lib.hid (HS.out.put HD.out.below HD.out.val HD.out.new)
        obtain ⟨a8, c8, rfl, _⟩ := id HD.out.val
        clear HS HIN HV7 e0 k0 k1 k2 k3 b7 HD hbl
        go_upto_region 9 with fail
        obtain ⟨w8, hw8⟩ : ∃ w8, w8 = wc.setCell ⟨g6, 0, none⟩ (.slice a8 M'.length c8) := ⟨_, rfl⟩
        rw [← hw8] at HS8 ⊢
        clear hw8 p0 e1 f1 h7l
        have HSd := HS8.out.later (w' := w8.drew) ((Below.refl _ _).drew)
        have HI := Lib.hid (HSd.install z HMI.out HOK.out)
        rw [← HN.out] at HI
        obtain ⟨b2, off2, e2, hbl, _, _, _, k0, k1, k2, k3⟩ := (HZ.out.below HSd.below).2.2 i hil
        simp only [Option.some.injEq, Addr.mk.injEq, and_true] at e2
        obtain ⟨rfl, rfl⟩ := e2
        rw [← HZZ.out] at k0 k1 k2 k3
        clear HSd hbl HN HOK HZZ
        have hcc : ((cd : Int) != (cd : Int)) = false := by simp
        go_cut [70] (fun s70 wd => s70 = .bool false ∧ Hid (DuSt S w noX g6 r M' M' (.slice a8 M'.length c8) wd))
        case first =>
          clear HG2 HIL HMI HG HQ HZ hMi hig hl60
          go_region_with (go_at_call 11; (with_reducible refine HI.out.mono ?_); rintro e w9 ⟨rfl, hs9⟩; have HS9 := Lib.hid hs9; clear hs9)
          all_goals
            go_wp2_with fail
            go_meet
            case rel => exact ⟨rfl, HS9⟩
        case rest =>
        obtain ⟨rfl, HS9⟩ := hcut
        clear HI HS8 k0 k1 k2 k3
        go_wp2_with fail
        go_roundg g
        case measure => omega
        case rel => exact ⟨i + 1, M', _, by omega, by go_num, by have := HIL.out; omega, HS9, HG2⟩
    | zero =>
      obtain rfl : i = len := by omega
      have hM60 : M.length ≤ 60 := by omega
      obtain ⟨aS, cS, hse, _, _⟩ := id HS.out.val
      subst hse
      clear HG hMi HZ hl60
      go_wp2_with fail
      go_loopg [10] lenq (fun g s10 wx => ∃ j : Nat, j + g = lenq ∧ s10 = .int .i64 j ∧ Hid (DuSt S w noX g6 r M M (.slice aS M.length cS) wx))
      case atStart => exact ⟨0, by omega, rfl, HS⟩
      case round =>
        clear HS
        obtain ⟨j, hjg, rfl, HS⟩ := hrel
        cases gk with
        | succ g =>
          have hjl : j < lenq := by omega
          have hjz : (j : Int) < (lenq : Int) := by omega
          obtain ⟨b, off, rfl, hat⟩ := HQ.out.2.2 j hjl
          obtain ⟨z, hzz⟩ : ∃ z, z = qs.getD j ask0 := ⟨_, rfl⟩
          rw [← hzz] at hat
          obtain ⟨K, t, lo, hi, most⟩ := z
          have HT := Lib.hid hat.2.1
          have HAT := Lib.hid (fun W (hb : Below w.heap.size w W) => hat.below hb)
          clear hzz hat
          obtain ⟨hbl, _, k0, k1, k2, k3, k4⟩ := HAT.out wr HS.out.below
          simp only at k0 k1 k2 k3 k4 HT
          have tests : ∀ n : Nat, (n ≤ 300 ∧ (¬ (300 : Int) < (n : Int)) ∧ decide (300 < n) = false) ∨ ((300 : Int) < (n : Int) ∧ decide (300 < n) = true) := fun n => by
            by_cases hn : n ≤ 300
            · exact .inl ⟨hn, by omega, by simpa using hn⟩
            · exact .inr ⟨by omega, by simp; omega⟩
          have hcs : ((K.size ≤ 300 ∧ (¬ (300 : Int) < (K.size : Int)) ∧ decide (300 < K.size) = false) ∧ (lo.size ≤ 300 ∧ (¬ (300 : Int) < (lo.size : Int)) ∧ decide (300 < lo.size) = false) ∧ (hi.size ≤ 300 ∧ (¬ (300 : Int) < (hi.size : Int)) ∧ decide (300 < hi.size) = false)) ∨
              (((300 : Int) < (K.size : Int) ∧ decide (300 < K.size) = true) ∨ (((¬ (300 : Int) < (K.size : Int)) ∧ decide (300 < K.size) = false) ∧ (300 : Int) < (lo.size : Int) ∧ decide (300 < lo.size) = true) ∨ (((¬ (300 : Int) < (K.size : Int)) ∧ decide (300 < K.size) = false) ∧ ((¬ (300 : Int) < (lo.size : Int)) ∧ decide (300 < lo.size) = false) ∧ (300 : Int) < (hi.size : Int) ∧ decide (300 < hi.size) = true)) := by
            rcases tests K.size with h1 | h1
            · rcases tests lo.size with h2 | h2
              · rcases tests hi.size with h3 | h3
                · exact .inl ⟨h1, h2, h3⟩
                · exact .inr (.inr (.inr ⟨h1.2, h2.2, h3⟩))
              · exact .inr (.inr (.inl ⟨h1.2, h2⟩))
            · exact .inr (.inl h1)
          clear tests
          rcases hcs with ⟨⟨hs1, d1, d1b⟩, ⟨hs2, d2, d2b⟩, ⟨hs3, d3, d3b⟩⟩ | hcs
          · have hm1 : K.size ≤ maxLen := by unfold maxLen; omega
            have hm2 : lo.size ≤ maxLen := by unfold maxLen; omega
            have hm3 : hi.size ≤ maxLen := by unfold maxLen; omega
            have HMX := Lib.hid (And.intro hm1 (And.intro hm2 hm3))
            have HA := Lib.hid (fun W (h : DuSt S w noX g6 r M M (.slice aS M.length cS) W) => h.at_ K t hm1 HT.out)
            have HM := Lib.hid (fun W (h : DuSt S w noX g6 r M M (.slice aS M.length cS) W) => mat_any aS M.length cS M K t HT.out W (by obtain ⟨a3, c3, e3, h3, _⟩ := h.val; injection e3 with e4 e5 e6; subst e4 e6; exact h3) (by omega))
            obtain ⟨⟨⟨vt, vg, vv⟩, ok⟩, hV⟩ : ∃ V, V = bestOf K t M := ⟨_, rfl⟩
            rw [← hV] at HA HM
            unfold Vr.cells at HA HM
            clear hV hm1 hm2 hm3
            clear hs1 hs2 hs3
            go_upto_region 16 with fail
            clear d1 d1b d2 d2b d3 d3b k2 k3 k4
            go_cut [11, 12] (fun s11 s12 wd => ∃ p : Nat, s11 = .pointer (some ⟨p, 0, none⟩) ∧ s12 = .bool ok ∧ Hid (VerDone wr p ⟨vt, vg, vv⟩ wd))
            case first =>
              have HA16 := Lib.hid (fun W (hb : Below wr.heap.size wr W) => (HA.out W (HS.out.later hb)).mono fun e w' ⟨he, _, hb2⟩ => And.intro he hb2)
              have HQ16 := Lib.hid (fun W (hb : Below wr.heap.size wr W) => And.intro ((hb.cell (p := ⟨b, off + j * 5, none⟩) hbl).trans k0) ((hb.cell (p := ⟨b, off + j * 5 + 1, none⟩) hbl).trans k1))
              clear HM HMX HAT HT HQ h2 HA HS k0 k1
              refine wp_region_S2 [1, 5, 10] [12] [103, 104, 105, 106, 107, 108, 109, 110, 111, 112, 113, 114, 102, 115, 116, 11, 12] _ (psiA wr.heap.size r b off lenq capq j K t vt vg vv ok) (tsV wr.heap.size vt vg vv) 11 115 16 245 (by kernel_rfl) (by kernel_rfl) rfl (by kernel_rfl) (by kernel_rfl) (by kernel_rfl) (by kernel_rfl) ?_ (at_steps r b off lenq capq j K t vt vg vv ok hjl hjz HA16 HQ16) ?_
              · intro t ht w' _
                unfold psiA
                split <;> first | trivial | rfl | exact absurd ht (by decide)
              · intro f w' hb hnew hts
                have h12 : f 12 = .bool ok := hnew 12 (by decide)
                obtain ⟨p, h11, hp, hrow⟩ := hts
                have HDI := Lib.hid (show VerDone wr p ⟨vt, vg, vv⟩ w' from ⟨hrow, hb, hp⟩)
                clear hnew hb hp hrow HA16 HQ16
                simp only [putAll, List.foldl_cons, List.foldl_nil, h11, h12]
                clear h11 h12
                dsimp only [Act.put]
                simp only [List.setIfInBounds_toArray]
                simp only [List.set_cons_succ, List.set_cons_zero]
                go_wp2_with fail
                go_meet
                case rel => exact ⟨p, rfl, rfl, HDI⟩
            case rest =>
              obtain ⟨g11, rfl, rfl, HV⟩ := hcut
              have HS1 := Lib.hid (HS.out.later HV.out.below)
              have HR1 := Lib.hid HV.out.row
              clear HS HV HA k0 k1 hbl
              obtain ⟨hbl, _, k0, k1, k2, k3, k4⟩ := HAT.out wc HS1.out.below
              simp only at k0 k1 k2 k3 k4
              have e0 := HS1.out.boxcell
              have hgl : g6 < wc.heap.size := (Array.getElem?_eq_some_iff.1 HS1.out.box).1
              clear k2 k3 k4
              go_upto_region 17 with fail
              go_cut [13, 14] (fun s13 s14 wd => ∃ p : Nat, s13 = .pointer (some ⟨p, 0, none⟩) ∧ s14 = .bool ok ∧ Hid (VerDone wc p ⟨vt, vg, vv⟩ wd))
              case first =>
                have HA17 := Lib.hid (fun W (hb : Below wc.heap.size wc W) => HM.out W (HS1.out.later hb))
                have HQ17 := Lib.hid (fun W (hb : Below wc.heap.size wc W) => And.intro ((hb.cell (p := ⟨b, off + j * 5, none⟩) hbl).trans k0) (And.intro ((hb.cell (p := ⟨b, off + j * 5 + 1, none⟩) hbl).trans k1) (HS1.out.later hb).boxcell))
                clear HMX HAT HT HQ h2 HR1 HM HS1 k0 k1 e0 hgl
                refine wp_region_S2 [1, 6, 10] [14] [118, 119, 120, 121, 122, 123, 124, 125, 126, 127, 128, 129, 117, 130, 131, 13, 14] _ (psiD wc.heap.size g6 (.slice aS M.length cS) b off lenq capq j K t vt vg vv ok) (tsV wc.heap.size vt vg vv) 13 130 16 245 (by kernel_rfl) (by kernel_rfl) rfl (by kernel_rfl) (by kernel_rfl) (by kernel_rfl) (by kernel_rfl) ?_ (dat_steps g6 (.slice aS M.length cS) b off lenq capq j K t vt vg vv ok hjl hjz HA17 HQ17) ?_
                · intro t ht w' _
                  unfold psiD
                  split <;> first | trivial | rfl | exact absurd ht (by decide)
                · intro f w' hb hnew hts
                  have h14 : f 14 = .bool ok := hnew 14 (by decide)
                  obtain ⟨p, h13, hp, hrow⟩ := hts
                  have HDI := Lib.hid (show VerDone wc p ⟨vt, vg, vv⟩ w' from ⟨hrow, hb, hp⟩)
                  clear hnew hb hp hrow HA17 HQ17
                  simp only [putAll, List.foldl_cons, List.foldl_nil, h13, h14]
                  clear h13 h14
                  dsimp only [Act.put]
                  simp only [List.setIfInBounds_toArray]
                  simp only [List.set_cons_succ, List.set_cons_zero]
                  go_wp2_with fail
                  go_meet
                  case rel => exact ⟨p, rfl, rfl, HDI⟩
              case rest =>
                obtain ⟨g13, rfl, rfl, HV⟩ := hcut
                have HS2 := Lib.hid (HS1.out.later HV.out.below)
                have HR2 := Lib.hid ((HV.out.below.block g11 (Array.getElem?_eq_some_iff.1 HR1.out).1).trans HR1.out)
                have HR3 := Lib.hid HV.out.row
                clear HS1 HR1 HV HM k0 k1 hbl e0 hgl
                obtain ⟨hbl, _, k0, k1, k2, k3, k4⟩ := HAT.out wc HS2.out.below
                simp only at k0 k1 k2 k3 k4
                have e0 := HS2.out.boxcell
                have HLA := Lib.hid (fun W (h : DuSt S w noX g6 r M M (.slice aS M.length cS) W) => mlast_any aS M.length cS M K W (by obtain ⟨a3, c3, e3, h3, _⟩ := h.val; injection e3 with e4 e5 e6; subst e4 e6; exact h3) (by omega))
                have HLP := Lib.hid (fun W (h : DuSt S w noX g6 r M M (.slice aS M.length cS) W) => h.last K HMX.out.1)
                have HRM := Lib.hid (fun W (h : DuSt S w noX g6 r M M (.slice aS M.length cS) W) => h.room K HMX.out.1)
                obtain ⟨⟨T, N⟩, hTN⟩ : ∃ z, z = lastOf K M := ⟨_, rfl⟩
                rw [← hTN] at HLA HLP HRM
                simp only at HLA HLP HRM
                clear hTN
                have HL := Lib.hid (show ∀ x : Like wc.heap.size wc, Calls Try.prog 14 #[.agg #[.slice aS M.length cS], .string K] x.val fun e w' => e = .returned (.tuple #[.int .u64 (T : Int), .int .i64 (N : Int)]) ∧ Below x.val.heap.size x.val w' from fun x => HLA.out x.val (HS2.out.later x.below))
                have hk0 : ∀ x : Like wc.heap.size wc, x.val.cell? ⟨b, off + j * 5, none⟩ = some (.string K) := fun x => (HAT.out _ (HS2.out.later x.below).below).2.2.1
                have he0 : ∀ x : Like wc.heap.size wc, x.val.cell? ⟨g6, 0, none⟩ = some (.slice aS M.length cS) := fun x => (HS2.out.later x.below).boxcell
                clear e0 k0 k1 k2 k3 k4 hbl
                go_upto_region 18 with fail
                refine region_likes (by kernel_rfl) (by kernel_rfl) ?_
                repeat (first
                  | (go_big_quiet_step (first
                      | (go_at_call 14; exact calls_likes (Like.size _) (HL.out _)))))
                refine wpQuiet_nil ?_
                intro x1
                have HB19 := Lib.hid x1.below
                obtain ⟨w19, hw19⟩ : ∃ w19, w19 = x1.val := ⟨_, rfl⟩
                rw [← hw19] at HB19 ⊢
                have HS3 := Lib.hid (HS2.out.later HB19.out)
                have HR4 := Lib.hid ((HB19.out.block g11 (Array.getElem?_eq_some_iff.1 HR2.out).1).trans HR2.out)
                have HR5 := Lib.hid ((HB19.out.block g13 (Array.getElem?_eq_some_iff.1 HR3.out).1).trans HR3.out)
                clear HB19 HS2 HR2 HR3 hk0 he0 HL hw19
                go_upto_region 19 with fail
                obtain ⟨B, hB⟩ : ∃ B, B = decide (N < 200) := ⟨_, rfl⟩
                obtain ⟨Wl, hWl⟩ : ∃ Wl, Wl = scanM M lo hi t most := ⟨_, rfl⟩
                have HBe := Lib.hid hB
                have HWe := Lib.hid hWl
                clear hB hWl
                have HF := Lib.hid (show PlaysF w19 b off lenq capq j g6 g11 g13 (.slice aS M.length cS) r K lo hi T t N vt vg vv most ok B Wl from
                  { q := fun W hb => by
                      have h := (HAT.out W (HS3.out.later hb).below).2.2
                      exact h
                    box := fun W hb => (HS3.out.later hb).boxcell
                    v11 := fun W hb => by
                      have h := (hb.block g11 (Array.getElem?_eq_some_iff.1 HR4.out).1).trans HR4.out
                      exact ⟨by rw [cell_of_row _ _ _ _ _ _ h]; rfl, by rw [cell_of_row _ _ _ _ _ _ h]; rfl, by rw [cell_of_row _ _ _ _ _ _ h]; rfl⟩
                    v13 := fun W hb => by
                      have h := (hb.block g13 (Array.getElem?_eq_some_iff.1 HR5.out).1).trans HR5.out
                      exact ⟨by rw [cell_of_row _ _ _ _ _ _ h]; rfl, by rw [cell_of_row _ _ _ _ _ _ h]; rfl, by rw [cell_of_row _ _ _ _ _ _ h]; rfl⟩
                    last := fun W hb => HLA.out W (HS3.out.later hb)
                    room := fun W hb => by rw [HBe.out]; exact HRM.out W (HS3.out.later hb)
                    lastP := fun W hb => HLP.out W (HS3.out.later hb)
                    scanP := fun W hb => by rw [HWe.out]; exact (HS3.out.later hb).scan lo hi t most (by omega) HMX.out.2.1 HMX.out.2.2 HT.out
                    scan := fun W hb => by
                      rw [HWe.out]
                      obtain ⟨a3, c3, e3, h3, _⟩ := (HS3.out.later hb).val
                      injection e3 with e4 e5 e6
                      subst e4 e6
                      exact mscan_len _ M.length _ M lo hi t most W h3 (by omega) HT.out
                    room2 := by rw [HBe.out]; exact decide_eq_decide.mpr (by omega) })
                clear HLA HLP HRM HR4 HR5 HBe HWe HMX HT HAT
                go_cut [220] (fun s220 wd => s220 = .bool false ∧ Hid (DuSt S w noX g6 r M M (.slice aS M.length cS) wd))
                case first =>
                  refine wp_region_flowG2 [1, 5, 6, 10, 11, 12, 13, 14, 15, 16] [220] [142, 143, 144, 145, 146, 147, 148, 149, 150, 151, 152, 153, 154, 155, 156, 157, 158, 159, 160, 161, 162, 163, 164, 165, 166, 167, 168, 169, 170, 171, 172, 173, 174, 175, 176, 177, 178, 179, 180, 181, 182, 183, 184, 185, 186, 187, 188, 189, 190, 191, 192, 193, 194, 195, 196, 197, 198, 199, 200, 201, 202, 203, 204, 205, 206, 207, 208, 209, 210, 211, 212, 213, 214, 215, 216, 217, 218, 219, 220] [(152, false), (157, false), (162, false), (173, false)] (psiP b off lenq capq j g6 g11 g13 (.slice aS M.length cS) r K lo hi T t N vt vg vv most ok B Wl) 245 (by kernel_rfl) (by kernel_rfl) rfl (by kernel_rfl) (by kernel_rfl) (by kernel_rfl) ?_ (by kernel_rfl) (psiP_stable _ _ _ _ _ _ _ _ _ _ _ _ _ _ _ _ _ _ _ _ _ _ _) ?_ (plays_steps HF hjl) ?_
                  · intro x hx v w hv
                    simp only [List.mem_cons, List.not_mem_nil, or_false] at hx
                    rcases hx with rfl | rfl | rfl | rfl <;> exact hv
                  · intro t ht w' _
                    unfold psiP
                    split <;> first | trivial | rfl | exact absurd ht (by decide)
                  · intro f w' hb hnew
                    have h220 : f 220 = .bool false := hnew 220 (by decide)
                    have HSf := Lib.hid (HS3.out.later hb)
                    clear hnew hb HS3 HF
                    simp only [putAll, List.foldl_cons, List.foldl_nil, h220]
                    clear h220
                    dsimp only [Act.put]
                    simp only [List.setIfInBounds_toArray]
                    simp only [List.set_cons_succ, List.set_cons_zero]
                    go_wp2_with fail
                    go_meet
                    case rel => exact ⟨rfl, HSf⟩
                case rest =>
                  obtain ⟨rfl, HS4⟩ := hcut
                  clear HS3 HF
                  go_wp2_with fail
                  go_roundg g
                  case measure => omega
                  case rel => exact ⟨j + 1, by omega, by go_num, HS4⟩
          · have HBW := Lib.hid HS.out.below
            clear HAT HT HS
            rcases hcs with ⟨d1, d1b⟩ | ⟨⟨d1, d1b⟩, d2, d2b⟩ | ⟨⟨d1, d1b⟩, ⟨d2, d2b⟩, d3, d3b⟩
            all_goals
              go_wp2_with fail
              go_ret
              exact ⟨rfl, HBW.out⟩
        | zero =>
          obtain rfl : j = lenq := by omega
          have HKP := Lib.hid (fun W (hb : Below wr.heap.size wr W) => (HS.out.later hb).keys (by omega))
          have HKD := Lib.hid (show ∀ W, Below wr.heap.size wr W → Calls Try.prog 21 #[.agg #[.slice aS M.length cS]] W fun e w' => ∃ v, e = .returned v ∧ KC w' v (keysM M) ∧ Below W.heap.size W w' from fun W hb => by
            obtain ⟨a3, c3, e3, h3, _⟩ := (HS.out.later hb).val
            injection e3 with e4 e5 e6
            subst e4 e6
            exact mkeys_kc aS M.length cS M W h3 (by omega))
          have HBX := Lib.hid (fun W (hb : Below wr.heap.size wr W) => (HS.out.later hb).boxcell)
          have HBW := Lib.hid HS.out.below
          obtain ⟨ks, hks⟩ : ∃ ks, ks = keysM M := ⟨_, rfl⟩
          rw [← hks] at HKP HKD
          have hks60 : ks.length ≤ 60 := by rw [hks]; have := keys_len M; omega
          clear hks HS HQ
          obtain ⟨wk, hwk⟩ : ∃ wk, wk = wr := ⟨_, rfl⟩
          go_upto_region 21 with fail
          go_cut [17, 18] (fun s17 s18 wd => ∃ a1 c1 a2 c2, s17 = .slice a1 ks.length c1 ∧ s18 = .slice a2 ks.length c2 ∧ Hid (KC wd (.slice a1 ks.length c1) ks ∧ KC wd (.slice a2 ks.length c2) ks ∧ Below w.heap.size w wd))
          case first =>
            refine wp_region_flowG2 [5, 6] [17, 18] [221, 222, 223, 224, 17, 18] [] (psiK g6 r (.slice aS M.length cS) ks) 245 (by kernel_rfl) (by kernel_rfl) rfl (by kernel_rfl) (by kernel_rfl) (by kernel_rfl) (fun x hx => by cases hx) (by kernel_rfl) (psiK_stable _ _ _ _) ?_ (keys_steps g6 r (.slice aS M.length cS) ks HKP HKD HBX) ?_
            · intro t ht w' _
              unfold psiK
              split <;> first | trivial | rfl | exact absurd ht (by decide)
            · intro f w' hb hnew
              have h17 : KC w' (f 17) ks := hnew 17 (by decide)
              have h18 : KC w' (f 18) ks := hnew 18 (by decide)
              have HBf := Lib.hid (HBW.out.trans (hb.mono HBW.out.size))
              clear hnew hb HKP HKD HBX
              obtain ⟨a1, c1, q17, hk1⟩ := h17
              obtain ⟨a2, c2, q18, hk2⟩ := h18
              have HK1 := Lib.hid hk1
              have HK2 := Lib.hid hk2
              clear hk1 hk2
              simp only [putAll, List.foldl_cons, List.foldl_nil, q17, q18]
              clear q17 q18
              dsimp only [Act.put]
              simp only [List.setIfInBounds_toArray]
              simp only [List.set_cons_succ, List.set_cons_zero]
              go_wp2_with fail
              go_meet
              case rel => exact ⟨a1, c1, a2, c2, rfl, rfl, Lib.hid ⟨⟨a1, c1, rfl, HK1.out⟩, ⟨a2, c2, rfl, HK2.out⟩, HBf.out⟩⟩
          case rest =>
            obtain ⟨a1, c1, a2, c2, rfl, rfl, HKK⟩ := hcut
            clear HKP HKD HBX HBW hwk
            obtain ⟨n, hn⟩ : ∃ n, n = ks.length := ⟨_, rfl⟩
            have HK1 := Lib.hid (show ∀ W, Below wc.heap.size wc W → ∀ i, i < n → ∃ b off, a1 = some ⟨b, off, none⟩ ∧ b < W.heap.size ∧ W.cell? ⟨b, off + i, none⟩ = some (.string (ks.getD i ⟨#[]⟩)) from fun W hb i hi => by
              obtain ⟨a3, c3, e3, h3⟩ := HKK.out.1.below hb
              injection e3 with e4
              subst e4
              exact h3 i (by omega))
            have HK2 := Lib.hid (show ∀ W, Below wc.heap.size wc W → ∀ i, i < n → ∃ b off, a2 = some ⟨b, off, none⟩ ∧ b < W.heap.size ∧ W.cell? ⟨b, off + i, none⟩ = some (.string (ks.getD i ⟨#[]⟩)) from fun W hb i hi => by
              obtain ⟨a3, c3, e3, h3⟩ := HKK.out.2.1.below hb
              injection e3 with e4
              subst e4
              exact h3 i (by omega))
            have HBW := Lib.hid HKK.out.2.2
            have hn60 : n ≤ 60 := by rw [hn]; exact hks60
            rw [← hn] at *
            clear HKK hn
            have hnn : ((n : Int) != (n : Int)) = false := by simp
            go_wp2_with fail
            obtain ⟨wk2, hwk2⟩ : ∃ wk2, wk2 = wc := ⟨_, rfl⟩
            rw [← hwk2] at HK1 HK2 HBW
            go_loopg [19] n (fun g s19 wx => ∃ k : Nat, k + g = n ∧ s19 = .int .i64 k ∧ Hid (Below wk2.heap.size wk2 wx))
            case atStart => exact ⟨0, by omega, rfl, Lib.hid (by rw [hwk2]; exact Below.refl _ _)⟩
            case round =>
              clear hwk2
              obtain ⟨k, hkg, rfl, HBr⟩ := hrel
              cases gk with
              | succ g =>
                have hkl : k < n := by omega
                have hkz : (k : Int) < (n : Int) := by omega
                obtain ⟨b1, off1, rfl, hb1, k1⟩ := HK1.out wr HBr.out k hkl
                obtain ⟨b2, off2, rfl, hb2, k2⟩ := HK2.out wr HBr.out k hkl
                obtain ⟨x, hx⟩ : ∃ x, x = ks.getD k ⟨#[]⟩ := ⟨_, rfl⟩
                rw [← hx] at k1 k2
                have hxx : (x.toList == x.toList) = true := by simp
                have hxx2 : (x.toList != x.toList) = false := by simp
                clear hx
                go_upto_region 27 with fail
                go_quiet (fail)
                revert nq
                intro n1
                have HBd := Lib.hid (drewN_belowM HBr.out n1)
                go_wp2_with fail
                go_roundg g
                case measure => omega
                case rel => exact ⟨k + 1, by omega, by go_num, HBd⟩
              | zero =>
                have hkz : ¬ (k : Int) < (n : Int) := by omega
                obtain rfl : k = n := by omega
                have HBe := Lib.hid (HBW.out.trans (HBr.out.mono HBW.out.size))
                go_wp2_with fail
                go_ret
                exact ⟨rfl, HBe.out⟩
end Go.Proofs.Ytdcefhhmddjodaa
