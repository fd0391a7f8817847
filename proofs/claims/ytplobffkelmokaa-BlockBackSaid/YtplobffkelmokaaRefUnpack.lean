/-
  The walk of the document's Unpack.
-/
import Derived.Test.YtplobffkelmokaaSet07
import Derived.Test.YtplobffkelmokaaSet08
import Derived.Lib.AppendStr
import Derived.Lib.IndexBytes
import Derived.Deep.LoopGhost
import Derived.Deep.DeepCutAuto
import Derived.Deep.CutBlock
import Derived.Deep.QuietTactic
import Derived.BigQuiet
namespace Go.Proofs.Ytplobffkelmokaa
open Go.RowKit
set_option linter.unnecessarySimpa false
set_option linter.unusedVariables false
set_option linter.unusedSimpArgs false
set_option maxRecDepth 100000

theorem unp_none {s : List UInt8} (h : tk s = none) : unp s = ([], 2) := by unfold unp; rw [h]
theorem unp_long {s : List UInt8} {n k : Nat} (h : tk s = some (n, k)) (hn : 60000 < n) : unp s = ([], 3) := by unfold unp; rw [h]; simp only; rw [if_pos hn]
theorem unp_short {s : List UInt8} {n k : Nat} (h : tk s = some (n, k)) (hn : ¬ 60000 < n) (hk : k = s.length) : unp s = ([], 2) := by
  unfold unp; rw [h]; simp only; rw [if_neg hn, List.drop_eq_nil_of_le (by omega)]
theorem unp_how {s : List UInt8} {n k : Nat} {how : UInt8} {rest : List UInt8} (h : tk s = some (n, k)) (hn : ¬ 60000 < n) (hd : s.drop k = how :: rest) :
    unp s = if how = 0 ∧ rest.length = n then (rest, (0 : Int)) else if ¬ how = 1 then ([], 2) else match uRun (rest.length + 1) n 0 [] rest with
      | none => ([], 2)
      | some o => (o, 0) := by
  unfold unp; rw [h]; simp only; rw [if_neg hn, hd]; rfl

theorem ret_unp {a b : ByteArray} {c d : Int} (h : a = b) (h' : c = d) : Ending.returned (.tuple #[.string a, .int .i64 c]) = .returned (.tuple #[.string b, .int .i64 d]) := by rw [h, h']
theorem beq_u8 (b : UInt8) (n : Nat) (hn : n < 256) : ((b.toNat : Int) == (n : Int)) = decide (b = UInt8.ofNat n) := by
  by_cases h : b = UInt8.ofNat n
  · rw [decide_eq_true h, beq_iff_eq, h, UInt8.toNat_ofNat']; omega
  · rw [decide_eq_false h, beq_eq_false_iff_ne]; intro e; apply h; apply UInt8.toNat_inj.1; rw [UInt8.toNat_ofNat']; omega

set_option maxRecDepth 100000 in
set_option maxHeartbeats 8000000 in
theorem refUnpack_any (s : ByteArray) (hs : s.size ≤ 100000) (w : World) :
    Calls Try.prog 14 #[.string s] w fun e w' => e = .returned (.tuple #[.string ⟨(unp s.data.toList).1.toArray⟩, .int .i64 (unp s.data.toList).2]) ∧ Below w.heap.size w w' := by
  obtain ⟨i0, hi, hz0, hz1, hz2⟩ := info_parts u8info
  have htake := Lib.hid (refTake_any s (by unfold maxLen; omega) w)
  cases h1 : tk s.data.toList with
  | none =>
    rw [unp_none h1]
    rw [(tk_is_none h1).1, (tk_is_none h1).2] at htake
    clear h1
    go_enter Try.func14, Try.ntmps14
    go_wp2_with (go_at_call 34; refine htake.out.mono ?_; rintro e w' ⟨rfl, rfl⟩)
    go_ret2
    exact ⟨rfl, Below.refl _ _⟩
  | some p =>
    obtain ⟨n, k⟩ := p
    obtain ⟨_, hn64, hkl, hk0, _⟩ := tk_some h1
    rw [← Lib.size_eq] at hkl
    rw [(tk_is_some h1).1, (tk_is_some h1).2] at htake
    have hkz : (0 : Int) < (k : Int) := by omega
    by_cases hlong : 60000 < n
    · have hlz : (60000 : Int) < (n : Int) := by omega
      rw [unp_long h1 hlong]
      clear h1
      go_enter Try.func14, Try.ntmps14
      go_wp2_with (go_at_call 34; refine htake.out.mono ?_; rintro e w' ⟨rfl, rfl⟩)
      go_ret2
      exact ⟨rfl, Below.refl _ _⟩
    · have hlz : ¬ (60000 : Int) < (n : Int) := by omega
      have hke : ((k : Int) == 0) = false := by rw [beq_eq_false_iff_ne]; omega
      by_cases hks : k = s.size
      · have hkt : ((k : Int) == (s.size : Int)) = true := by rw [beq_iff_eq]; omega
        rw [unp_short h1 hlong (by rw [hks]; exact Lib.size_eq s)]
        clear h1 hks
        go_enter Try.func14, Try.ntmps14
        go_wp2_with (go_at_call 34; refine htake.out.mono ?_; rintro e w' ⟨rfl, rfl⟩)
        go_ret2
        exact ⟨rfl, Below.refl _ _⟩
      · have hkt : ((k : Int) == (s.size : Int)) = false := by rw [beq_eq_false_iff_ne]; omega
        have hlt : k < s.size := by omega
        have hltz : (k : Int) < (s.size : Int) := by omega
        have hk1z : (k : Int) + 1 ≤ (s.size : Int) := by omega
        obtain ⟨how, hhow⟩ : ∃ how : UInt8, s[k]'hlt = how := ⟨_, rfl⟩
        have hdrop : s.data.toList.drop k = how :: (s.extract (k + 1) s.size).data.toList := by
          rw [ext_drop, ← hhow, List.drop_eq_getElem_cons (by rw [← Lib.size_eq]; exact hlt)]
          rfl
        have hunp := unp_how h1 hlong hdrop
        obtain ⟨r0, hr0⟩ : ∃ r0, r0 = s.extract (k + 1) s.size := ⟨_, rfl⟩
        have hr0s : r0.size ≤ 100000 := by rw [hr0, ByteArray.size_extract]; omega
        rw [← hr0, ← Lib.size_eq] at hunp
        have HU := Lib.hid hunp
        obtain ⟨res, hres⟩ : ∃ res, res = unp s.data.toList := ⟨_, rfl⟩
        rw [← hres] at HU
        rw [← hres]
        have hadd : IntKind.i64.wrap ((k : Int) + 1) = (k : Int) + 1 := by simp [IntKind.wrap, IntKind.bits, IntKind.signed]; omega
        have hslice : s.extract (k + 1) s.size = r0 := hr0.symm
        have hidx : s[k]'hlt = how := hhow
        have hci : IntKind.i64.wrap (n : Int) = (n : Int) := by simp [IntKind.wrap, IntKind.bits, IntKind.signed]; omega
        clear h1 hunp hdrop hres hr0 hhow hks
        go_enter Try.func14, Try.ntmps14
        go_upto_region 6 with (go_at_call 34; refine htake.out.mono ?_; rintro e w' ⟨rfl, rfl⟩)
        go_quiet (fail)
        go_upto_region 7 with fail
        obtain ⟨w1, hw1⟩ : ∃ w1, w1 = w.drewN nq := ⟨_, rfl⟩
        have hB1 : Below w.heap.size w w1 := by rw [hw1]; exact ⟨rfl, rfl, rfl, Nat.le_refl _, fun _ _ => rfl⟩
        rw [← hw1]
        clear hw1
        have HB1 := Lib.hid hB1
        clear hB1 hidx hslice hadd hk1z htake
        by_cases h0 : how = 0
        · have t0 : ((how.toNat : Int) == 0) = true := by rw [h0]; rfl
          by_cases hl : r0.size = n
          · have tl : ((r0.size : Int) == (n : Int)) = true := by rw [beq_iff_eq]; omega
            have hR := Lib.hid (show res = (r0.data.toList, (0 : Int)) by rw [HU.out, if_pos ⟨h0, hl⟩])
            clear h0 hl
            go_wp2_with fail
            go_ret2
            exact ⟨by rw [hR.out]; rfl, HB1.out⟩
          · have tl : ((r0.size : Int) == (n : Int)) = false := by rw [beq_eq_false_iff_ne]; omega
            have t1 : ((how.toNat : Int) == 1) = false := by rw [h0]; rfl
            have hR := Lib.hid (show res = ([], (2 : Int)) by rw [HU.out, if_neg (by rintro ⟨_, h⟩; exact hl h), if_pos (by rw [h0]; decide)])
            clear h0 hl
            go_wp2_with fail
            go_ret2
            exact ⟨by rw [hR.out]; rfl, HB1.out⟩
        have t0 : ((how.toNat : Int) == 0) = false := by
          rw [beq_eq_false_iff_ne]; intro e; apply h0; apply UInt8.toNat_inj.1; have : (0 : UInt8).toNat = 0 := rfl; omega
        by_cases h1 : how = 1
        · have t1 : ((how.toNat : Int) == 1) = true := by rw [h1]; rfl
          have HR := Lib.hid (show res = match uRun (r0.size + 1) n 0 [] r0.data.toList with
            | none => ([], (2 : Int))
            | some o => (o, 0) by rw [HU.out, if_neg (by rintro ⟨h, _⟩; exact h0 h), if_neg (by rw [h1]; decide)])
          have hne1 : ((how.toNat : Int) != 1) = false := by rw [bne, t1]; rfl
          clear h0 h1 HU
          go_wp2_with fail
          have hnle : n ≤ 60000 := by omega
          clear hkt hltz hlt hkl hk0 hkz hke hlz hlong t0 t1 hn64 hs
          go_loopg [7, 8, 9] (r0.size + 1) (fun g s7 s8 s9 wx => ∃ (t : Nat) (out : List UInt8) (r : ByteArray), r.size < g ∧ t + r.size ≤ r0.size ∧ out.length ≤ n ∧ s9 = .int .i64 t ∧ s7 = .string r ∧
            Hid (wx.ownsRow w.heap.size 5 1 s8 out.length (Lib.byteCells out)) ∧ Hid (Below w.heap.size w wx) ∧ Hid (uRun (r0.size + 1) n 0 [] r0.data.toList = uRun g n t out r.data.toList))
          case atStart => exact ⟨0, [], r0, by omega, by omega, Nat.zero_le _, rfl, rfl, Lib.hid (World.ownsRow_nil _ _ _ _), HB1, Lib.hid rfl⟩
          case round =>
            obtain ⟨t, out, r, hrg, htr, hon, rfl, rfl, ho, hb, hrun⟩ := hrel
            obtain ⟨g, rfl⟩ : ∃ g, gk = g + 1 := ⟨gk - 1, by omega⟩
            have htake := Lib.hid (refTake_any r (by unfold maxLen; omega) wr)
            by_cases hgo : t = 0 ∨ out.length < n
            · obtain ⟨a8, cap8, hform⟩ := own_form ho.out
              subst hform
              go_upto_region 13 with fail
              go_cut [61] (fun s61 wc => s61 = .bool true ∧ wc = wr)
              case first =>
                by_cases ht0 : t = 0
                · have hz : ((t : Int) == 0) = true := by rw [ht0]; rfl
                  clear ht0 hgo
                  go_wp2_with fail
                  go_meet
                  case rel => exact ⟨rfl, rfl⟩
                · have hz : ((t : Int) == 0) = false := by rw [beq_eq_false_iff_ne]; omega
                  have hnl : (out.length : Int) < (n : Int) := by omega
                  clear ht0 hgo
                  go_wp2_with fail
                  go_meet
                  case rel => exact ⟨rfl, rfl⟩
              case rest =>
                obtain ⟨rfl, rfl⟩ := hcut
                have hstep := uRun_go (f := g) (n := n) (t := t) (out := out) (rest := r.data.toList) hgo
                cases h1 : tk r.data.toList with
                | none =>
                  rw [step_bad h1] at hstep
                  have hR := Lib.hid (show res = ([], (2 : Int)) by rw [HR.out, hrun.out, hstep])
                  rw [(tk_is_none h1).1, (tk_is_none h1).2] at htake
                  clear h1 hstep hgo hrun
                  go_wp2_with (go_at_call 34; refine htake.out.mono ?_; rintro e w' ⟨rfl, rfl⟩)
                  go_ret2
                  exact ⟨by rw [hR.out]; rfl, hb.out⟩
                | some p =>
                  obtain ⟨v, m⟩ := p
                  obtain ⟨_, hv64, hml, hm0, _⟩ := tk_some h1
                  rw [← Lib.size_eq] at hml
                  rw [(tk_is_some h1).1, (tk_is_some h1).2] at htake
                  have hmz : ((m : Int) == 0) = false := by rw [beq_eq_false_iff_ne]; omega
                  have hmi : (m : Int) ≤ (r.size : Int) := by omega
                  obtain ⟨r1, hr1⟩ : ∃ r1, r1 = r.extract m r.size := ⟨_, rfl⟩
                  have hr1s : r1.size = r.size - m := by rw [hr1, ByteArray.size_extract]; omega
                  have hr1l : r1.data.toList = r.data.toList.drop m := by rw [hr1]; exact ext_drop r m
                  have hsl : r.extract m r.size = r1 := hr1.symm
                  have hw8 : IntKind.u64.wrap (out.length : Int) = (out.length : Int) := by simp [IntKind.wrap, IntKind.bits, IntKind.signed]; omega
                  have hwr : IntKind.u64.wrap (r1.size : Int) = (r1.size : Int) := by simp [IntKind.wrap, IntKind.bits, IntKind.signed]; omega
                  have hsub : IntKind.u64.wrap ((n : Int) - (out.length : Int)) = ((n - out.length : Nat) : Int) := by simp [IntKind.wrap, IntKind.bits, IntKind.signed]; omega
                  clear hr1
                  by_cases heven : t % 2 = 0
                  · have hev : ((t : Int) % 2 == 0) = true := by rw [beq_iff_eq]; omega
                    rw [show (t % 2 == 1) = false by rw [beq_eq_false_iff_ne]; omega, step_lit h1, ← hr1l, ← Lib.size_eq] at hstep
                    by_cases hok : v ≤ r1.size ∧ v ≤ n - out.length
                    · rw [if_pos hok] at hstep
                      obtain ⟨hv1, hv2⟩ := hok
                      have hv1z : ¬ (r1.size : Int) < (v : Int) := by omega
                      have hv1y : (v : Int) ≤ (r1.size : Int) := by omega
                      have hv2z : ¬ ((n - out.length : Nat) : Int) < (v : Int) := by omega
                      obtain ⟨x1, hx1⟩ : ∃ x1, x1 = r1.extract 0 v := ⟨_, rfl⟩
                      obtain ⟨r2, hr2⟩ : ∃ r2, r2 = r1.extract v r1.size := ⟨_, rfl⟩
                      have hx1l : x1.data.toList = r1.data.toList.take v := by rw [hx1]; exact ext_take r1 v
                      have hx1s : x1.size = v := by rw [hx1, ByteArray.size_extract]; omega
                      have hr2l : r2.data.toList = r1.data.toList.drop v := by rw [hr2]; exact ext_drop r1 v
                      have hr2s : r2.size = r1.size - v := by rw [hr2, ByteArray.size_extract]; omega
                      rw [← hx1l, ← hr2l] at hstep
                      have hsl1 : r1.extract 0 v = x1 := hx1.symm
                      have hsl2 : r1.extract v r1.size = r2 := hr2.symm
                      have hrun2 := Lib.hid (hrun.out.trans hstep)
                      have HX := Lib.hid hx1s
                      have HR2S := Lib.hid hr2s
                      have HR1S := Lib.hid hr1s
                      have hsz := hb.out.size
                      have hap := Lib.hid (show out.length + x1.size ≤ 60000 by omega)
                      clear h1 hstep hgo hrun hx1 hr2 hx1l hr2l hx1s hr2s hr1l hr1s hv64
                      go_wp2_with (first
                        | (go_at_call 34; refine htake.out.mono ?_; rintro e w' ⟨rfl, rfl⟩)
                        | (at_builtin; refine Lib.wpList_append_own_string _ rfl _ _ 43 9 rfl w.heap.size 5 i0 Try.underlying43 Try.underlying9 hi hz0 hz1 hz2 _ out.length (Lib.byteCells out) rfl ho.out x1 rfl (Nat.le_trans hap.out (by decide)) (Nat.le_trans hap.out (by decide)) hsz ?_))
                      intro v' w2 hown2 hg2 _
                      have B2 := Lib.hid (hb.out.grown hg2 hsz (fun q hq => (ho.out.lt q hq).1))
                      have O2 := Lib.hid (show w2.ownsRow w.heap.size 5 1 v' (out ++ x1.data.toList).length (Lib.byteCells (out ++ x1.data.toList)) by
                        rw [List.length_append, ← Lib.size_eq]
                        have e : Lib.byteCells (out ++ x1.data.toList) = Lib.byteCells out ++ Lib.strCells x1 := by simp [Lib.byteCells, Lib.strCells]
                        rw [e]; exact hown2)
                      clear hown2 hg2
                      go_wp2_with fail
                      go_roundg g
                      case measure => omega
                      case rel => exact ⟨t + 1, out ++ x1.data.toList, r2, by have := HR2S.out; have := HR1S.out; omega, by have := HR2S.out; have := HR1S.out; omega, by rw [List.length_append, ← Lib.size_eq]; have := HX.out; omega, by simp, rfl, O2, B2, hrun2⟩
                    · rw [if_neg hok] at hstep
                      have hR := Lib.hid (show res = ([], (2 : Int)) by rw [HR.out, hrun.out, hstep])
                      clear h1 hstep hgo hrun
                      by_cases hv1 : r1.size < v
                      · have hv1z : (r1.size : Int) < (v : Int) := by omega
                        clear hok
                        go_wp2_with (go_at_call 34; refine htake.out.mono ?_; rintro e w' ⟨rfl, rfl⟩)
                        go_ret2
                        exact ⟨by rw [hR.out]; rfl, hb.out⟩
                      · have hv1z : ¬ (r1.size : Int) < (v : Int) := by omega
                        have hv2z : ((n - out.length : Nat) : Int) < (v : Int) := by omega
                        clear hok
                        go_wp2_with (go_at_call 34; refine htake.out.mono ?_; rintro e w' ⟨rfl, rfl⟩)
                        go_ret2
                        exact ⟨by rw [hR.out]; rfl, hb.out⟩
                  · have hev : ((t : Int) % 2 == 0) = false := by rw [beq_eq_false_iff_ne]; omega
                    rw [show (t % 2 == 1) = true by rw [beq_iff_eq]; omega] at hstep
                    have htake2 := Lib.hid (refTake_any r1 (by unfold maxLen; omega) wc)
                    cases h2 : tk r1.data.toList with
                    | none =>
                      rw [step_copy_bad h1 (by rw [← hr1l]; exact h2)] at hstep
                      have hR := Lib.hid (show res = ([], (2 : Int)) by rw [HR.out, hrun.out, hstep])
                      rw [(tk_is_none h2).1, (tk_is_none h2).2] at htake2
                      clear h1 h2 hstep hgo hrun hr1l
                      go_wp2_with (go_at_call 34; first | (with_reducible refine htake.out.mono ?_; rintro e w' ⟨rfl, rfl⟩) | (with_reducible refine htake2.out.mono ?_; rintro e w' ⟨rfl, rfl⟩))
                      go_ret2
                      exact ⟨by rw [hR.out]; rfl, hb.out⟩
                    | some p2 =>
                      obtain ⟨w2, l⟩ := p2
                      obtain ⟨_, hw64, hll, hl0, _⟩ := tk_some h2
                      rw [← Lib.size_eq] at hll
                      rw [(tk_is_some h2).1, (tk_is_some h2).2] at htake2
                      rw [step_copy h1 (by rw [← hr1l]; exact h2), ← hr1l] at hstep
                      have hlz0 : ((l : Int) == 0) = false := by rw [beq_eq_false_iff_ne]; omega
                      have hlz1 : (l : Int) ≤ (r1.size : Int) := by omega
                      by_cases hok : 1 ≤ v ∧ v ≤ out.length ∧ 4 ≤ w2 ∧ w2 ≤ n - out.length
                      · rw [if_pos hok] at hstep
                        obtain ⟨c1, c2, c3, c4⟩ := hok
                        have d1 : decide ((v : Int) < 1) = false := decide_eq_false (by omega)
                        have d2 : decide (out.length < v) = false := decide_eq_false (by omega)
                        have d3 : decide ((w2 : Int) < 4) = false := decide_eq_false (by omega)
                        have d4 : decide (n - out.length < w2) = false := decide_eq_false (by omega)
                        obtain ⟨r2, hr2⟩ : ∃ r2, r2 = r1.extract l r1.size := ⟨_, rfl⟩
                        have hr2l : r2.data.toList = r1.data.toList.drop l := by rw [hr2]; exact ext_drop r1 l
                        have hr2s : r2.size = r1.size - l := by rw [hr2, ByteArray.size_extract]; omega
                        rw [← hr2l] at hstep
                        have hsl2 : r1.extract l r1.size = r2 := hr2.symm
                        have hrun2 := Lib.hid (hrun.out.trans hstep)
                        have HR2S := Lib.hid hr2s
                        have HR1S := Lib.hid hr1s
                        have hvi : IntKind.i64.wrap (v : Int) = (v : Int) := by simp [IntKind.wrap, IntKind.bits, IntKind.signed]; omega
                        have hsize := hb.out.size
                        have HC := Lib.hid (show 1 ≤ v ∧ v ≤ out.length ∧ 4 ≤ w2 ∧ w2 ≤ n - out.length from ⟨c1, c2, c3, c4⟩)
                        have hfin : r2.size < g ∧ t + 1 + r2.size ≤ r0.size := by omega
                        clear h1 h2 hstep hgo hrun hr2 hr2l hr2s hr1l hr1s c1 c2 c3 c4
                        go_wp2_with (go_at_call 34; first | (with_reducible refine htake.out.mono ?_; rintro e w' ⟨rfl, rfl⟩) | (with_reducible refine htake2.out.mono ?_; rintro e w' ⟨rfl, rfl⟩))
                        clear htake htake2 hsl2 hsl hev hlz0 hlz1 hmz hmi hw8 hwr hsub
                        go_loopg [8, 14] w2 (fun q s8 s14 wx => ∃ i : Nat, i + q = w2 ∧ s14 = .int .u64 i ∧ Hid (wx.ownsRow w.heap.size 5 1 s8 (out.length + i) (Lib.byteCells (copyTo i v out))) ∧ Hid (Below w.heap.size w wx))
                        case atStart => exact ⟨0, by omega, rfl, ho, hb⟩
                        case round =>
                          obtain ⟨i, hiq, rfl, ho3, hb3⟩ := hrel
                          obtain ⟨g9, cap9, rfl, hg9, hg9'⟩ := own_slice ho3.out (by have := HC.out; omega)
                          by_cases hiw : i < w2
                          · obtain ⟨c1, c2, c3, c4⟩ := HC.out
                            obtain ⟨q, rfl⟩ : ∃ q, gk = q + 1 := ⟨gk - 1, by omega⟩
                            have hq1 : 0 < v := by omega
                            have hq2 : v ≤ out.length + i := by omega
                            have hap3 := Lib.hid (show out.length + i + 1 ≤ 60000 by omega)
                            have hiz : (i : Int) < (w2 : Int) := by omega
                            have hPl : (copyTo i v out).length = out.length + i := copyTo_len i v out
                            obtain ⟨P, hP⟩ : ∃ P, P = copyTo i v out := ⟨_, rfl⟩
                            have hnext : copyTo (i + 1) v out = P ++ [P.getD (P.length - v) 0] := by rw [copyTo, ← hP]
                            rw [← hP] at hPl ho3
                            have hat : (Lib.byteCells P)[out.length + i - v]? = some (.int .u8 ((P.getD (P.length - v) 0).toNat : Nat)) := by
                              unfold Lib.byteCells
                              rw [List.getElem?_map, hPl, List.getElem?_eq_getElem (by omega)]
                              simp [List.getD, List.getElem?_eq_getElem (show out.length + i - v < P.length by omega)]
                            have hcl := ho3.out.cellAt (out.length + i - v) (by omega)
                            rw [hat] at hcl
                            obtain ⟨y, hy⟩ : ∃ y, y = P.getD (P.length - v) 0 := ⟨_, rfl⟩
                            rw [← hy] at hcl hnext
                            have HNX := Lib.hid hnext
                            have hone := Lib.hid (cell_one_new wr (.int .u8 (y.toNat : Int)) 5)
                            have hsub2 : IntKind.i64.wrap (((out.length + i : Nat) : Int) - (v : Int)) = ((out.length + i - v : Nat) : Int) := by simp [IntKind.wrap, IntKind.bits, IntKind.signed]; omega
                            have hsub3 : wrap64 ((out.length : Int) + (i : Int) - (v : Int)) = ((out.length + i - v : Nat) : Int) := by unfold wrap64; omega
                            have hs3 := hb3.out.size
                            clear hP hat hnext hy c1 c2 c3 c4
                            go_wp2_with (at_builtin; refine wpList_append_own _ rfl _ _ 43 rfl w.heap.size 5 i0 (.int .u8 0) 1 1 Try.underlying43 hi hz0 hz1 hz2 rfl (by decide) _ _ _ rfl (ho3.out.alloc _) ⟨wr.heap.size, 0, none⟩ 1 1 [.int .u8 (y.toNat : Int)] rfl rfl hone.out (by simp [Value.oneCell']) (Nat.le_trans hap3.out (by decide)) (by have := hap3.out; omega) (by simp; omega) ?_)
                            intro v' w3 hown3 hg3 _
                            have B3 := Lib.hid ((hb3.out.alloc hs3 (.cells #[.int .u8 (y.toNat : Int)] 5)).grown hg3 (by simp; omega) (fun q hq => (ho3.out.lt q hq).1))
                            have O3 := Lib.hid (show w3.ownsRow w.heap.size 5 1 v' (out.length + (i + 1)) (Lib.byteCells (copyTo (i + 1) v out)) by
                              rw [HNX.out]
                              have e : Lib.byteCells (P ++ [y]) = Lib.byteCells P ++ [.int .u8 (y.toNat : Int)] := by simp [Lib.byteCells]
                              rw [e]; exact hown3)
                            clear hown3 hg3
                            go_wp2_with fail
                            go_roundg q
                            case measure => omega
                            case rel => exact ⟨i + 1, by omega, congrArg (Value.int .u64) (by first | (simp; done) | (simp [IntKind.wrap, IntKind.bits, IntKind.signed]; omega)), O3, B3⟩
                          · obtain rfl : i = w2 := by omega
                            have hiz : ¬ (i : Int) < (i : Int) := by omega
                            have O4 := Lib.hid (show wr.ownsRow w.heap.size 5 1 (.slice (some ⟨g9, 0, none⟩) (out.length + i) cap9) (copyTo i v out).length (Lib.byteCells (copyTo i v out)) by rw [copyTo_len]; exact ho3.out)
                            have hcl4 := copyTo_len i v out
                            clear ho3
                            go_wp2_with fail
                            go_roundg g
                            case measure => omega
                            case rel => exact ⟨t + 1, copyTo i v out, r2, hfin.1, hfin.2, by have := HC.out; omega, by simp, rfl, O4, hb3, hrun2⟩
                      · rw [if_neg hok] at hstep
                        have hR := Lib.hid (show res = ([], (2 : Int)) by rw [HR.out, hrun.out, hstep])
                        clear h1 h2 hstep hgo hrun hr1l
                        by_cases c1 : 1 ≤ v
                        · have c1z : ¬ (v : Int) < 1 := by omega
                          by_cases c2 : v ≤ out.length
                          · have c2z : ¬ (out.length : Int) < (v : Int) := by omega
                            by_cases c3 : 4 ≤ w2
                            · have c3z : ¬ (w2 : Int) < 4 := by omega
                              have c4z : ((n - out.length : Nat) : Int) < (w2 : Int) := by omega
                              clear hok c1 c2 c3
                              go_wp2_with (go_at_call 34; first | (with_reducible refine htake.out.mono ?_; rintro e w' ⟨rfl, rfl⟩) | (with_reducible refine htake2.out.mono ?_; rintro e w' ⟨rfl, rfl⟩))
                              go_ret2
                              exact ⟨by rw [hR.out]; rfl, hb.out⟩
                            · have c3z : (w2 : Int) < 4 := by omega
                              clear hok c1 c2 c3
                              go_wp2_with (go_at_call 34; first | (with_reducible refine htake.out.mono ?_; rintro e w' ⟨rfl, rfl⟩) | (with_reducible refine htake2.out.mono ?_; rintro e w' ⟨rfl, rfl⟩))
                              go_ret2
                              exact ⟨by rw [hR.out]; rfl, hb.out⟩
                          · have c2z : (out.length : Int) < (v : Int) := by omega
                            clear hok c1 c2
                            go_wp2_with (go_at_call 34; first | (with_reducible refine htake.out.mono ?_; rintro e w' ⟨rfl, rfl⟩) | (with_reducible refine htake2.out.mono ?_; rintro e w' ⟨rfl, rfl⟩))
                            go_ret2
                            exact ⟨by rw [hR.out]; rfl, hb.out⟩
                        · have c1z : (v : Int) < 1 := by omega
                          clear hok c1
                          go_wp2_with (go_at_call 34; first | (with_reducible refine htake.out.mono ?_; rintro e w' ⟨rfl, rfl⟩) | (with_reducible refine htake2.out.mono ?_; rintro e w' ⟨rfl, rfl⟩))
                          go_ret2
                          exact ⟨by rw [hR.out]; rfl, hb.out⟩
            · have ht0 : ((t : Int) == 0) = false := by rw [beq_eq_false_iff_ne]; omega
              have hnl : ¬ (out.length : Int) < (n : Int) := by omega
              have hend := uRun_end (f := g) (n := n) (t := t) (out := out) (rest := r.data.toList) hgo
              have HR2 := Lib.hid (show res = match (if r.data.toList = [] then some out else none) with
                | none => ([], (2 : Int))
                | some o => (o, 0) by rw [HR.out, hrun.out, hend])
              have hconv := Lib.hid (fun h => convert_own (P := Try.prog) (src := 43) (dst := 9) (w := wr) ho.out h Try.underlying43 Try.underlying5 Try.underlying9)
              have hnilout := Lib.hid (show u8 = .slice none 0 0 → out = [] from fun h => by
                rcases ho.out.2 with ⟨_, h2⟩ | ⟨q, cq, cu, h2, _⟩
                · exact List.length_eq_zero_iff.1 h2
                · rw [h] at h2; cases h2)
              obtain ⟨a8, cap8, rfl⟩ := own_form ho.out
              have hrl : r.toList = r.data.toList := Lib.toList_data r
              clear hend hgo hrun htake
              by_cases hre : r.data.toList = []
              · have hR := Lib.hid (show res = (out, (0 : Int)) by rw [HR2.out, if_pos hre])
                have hrt : r.toList = [] := by rw [hrl, hre]
                clear hrl hre HR2
                by_cases hnil : Value.slice a8 out.length cap8 = .slice none 0 0
                · have ho2 := hnilout.out hnil
                  injection hnil with q1 q2 q3
                  subst q1 q3
                  clear q2
                  subst ho2
                  have hcv0 : ∀ W, (convert 43 9 (.slice none 0 0)).run Try.prog W = .ok (.string ⟨#[]⟩) W := fun W => by
                    simp [convert, Conv.bytesToString]
                    rfl
                  clear ho hconv hnilout
                  simp only [List.length_nil] at hnl ⊢
                  go_wp2_with fail
                  go_ret2
                  exact ⟨by rw [hR.out]; rfl, hb.out⟩
                · have hcv := hconv.out hnil
                  clear hnil
                  go_wp2_with fail
                  go_ret2
                  exact ⟨by rw [hR.out]; rfl, hb.out⟩
              · have hR := Lib.hid (show res = ([], (2 : Int)) by rw [HR2.out, if_neg hre])
                have hrt : (r.toList == []) = false := by rw [beq_eq_false_iff_ne, hrl]; exact hre
                clear hrl hre HR2
                go_wp2_with fail
                go_ret2
                exact ⟨by rw [hR.out]; rfl, hb.out⟩
        · have t1 : ((how.toNat : Int) == 1) = false := by
            rw [beq_eq_false_iff_ne]; intro e; apply h1; apply UInt8.toNat_inj.1; have : (1 : UInt8).toNat = 1 := rfl; omega
          have hR := Lib.hid (show res = ([], (2 : Int)) by rw [HU.out, if_neg (by rintro ⟨h, _⟩; exact h0 h), if_pos h1])
          clear h0 h1
          go_wp2_with fail
          go_ret2
          exact ⟨by rw [hR.out]; rfl, HB1.out⟩
end Go.Proofs.Ytplobffkelmokaa
