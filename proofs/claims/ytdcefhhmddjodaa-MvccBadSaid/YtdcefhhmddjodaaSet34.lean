/-
  Joined: MvcPInst, MvcPScan.
-/
import Derived.Test.YtdcefhhmddjodaaSet33
import Derived.RegionTactic
import Derived.Deep.RegionWith
import Derived.Deep.DeepCutAuto
import Derived.Deep.CutBlock
import Derived.Test.YtdcefhhmddjodaaSet32
import Derived.Test.YtdcefhhmddjodaaSet21
import Derived.Deep.RegionLaw
namespace Go.Proofs.Ytdcefhhmddjodaa
open Go.RowKit
set_option linter.unusedVariables false
set_option linter.unnecessarySimpa false
set_option linter.unusedSimpArgs false
set_option maxRecDepth 100000

/-- What Install tells. -/
def InsAns (w : World) (O : Nat → Prop) (r : Addr) (N : List Im × Nat) (e : Ending) (w' : World) : Prop := ∃ O', e = .returned (.int .i64 (N.2 : Int)) ∧ StAt w' r N.1 O' ∧ Moves O O' w w'
theorem insAns_no {w w' : World} {O : Nat → Prop} {r : Addr} {L : List Im} {k : Nat} {N : List Im × Nat} {z : Int} (h : StAt w r L O) (hb : Below w.heap.size w w') (hN : N = (L, k)) (hz : z = (k : Int)) : InsAns w O r N (.returned (.int .i64 z)) w' := by
  subst hN hz
  exact ⟨O, rfl, h.stay fun k hk => hb.block k (h.lt k hk), Moves.of_below hb⟩

set_option maxHeartbeats 4000000 in
theorem sinstall_any {w : World} {r : Addr} {L : List Im} {O : Nat → Prop} (h : StAt w r L O) (m : Im) (hl : L.length ≤ 1000) (h1 : m.key.size ≤ maxLen) (h2 : m.v.val.size ≤ maxLen) (h3 : m.v.time < 18446744073709551616) :
    Calls Try.prog 11 #[.pointer (some r), .string m.key, .agg #[.int .u64 (m.v.time : Int), .bool m.v.gone, .string m.v.val]] w (InsAns w O r (insM L m)) := by
  have hb0 := (Below.refl w.heap.size w).alloc (Nat.le_refl _) (.cells #[.int .u64 (m.v.time : Int), .bool m.v.gone, .string m.v.val] 35)
  have hr0 := heap_alloc_new w (.cells #[.int .u64 (m.v.time : Int), .bool m.v.gone, .string m.v.val] 35)
  obtain ⟨w1, hw1⟩ : ∃ w1, w1 = w.alloc (.cells #[.int .u64 (m.v.time : Int), .bool m.v.gone, .string m.v.val] 35) := ⟨_, rfl⟩
  rw [← hw1] at hb0 hr0
  obtain ⟨P, hP⟩ : ∃ P, P = w.heap.size := ⟨_, rfl⟩
  rw [← hP] at hr0
  have hPl : P < w1.heap.size := (Array.getElem?_eq_some_iff.1 hr0).1
  have HB1 := Lib.hid hb0
  have HBX := Lib.hid (fun W (hb : Below w1.heap.size w1 W) => hb0.trans (hb.mono hb0.size))
  have HR := Lib.hid (fun W (hb : Below w1.heap.size w1 W) => cells3 ((hb.block P hPl).trans hr0))
  have HST := Lib.hid (fun W (hb : Below w1.heap.size w1 W) => h.stay (w' := W) fun k hk => (hb0.trans (hb.mono hb0.size)).block k (h.lt k hk))
  have HTL := Lib.hid (fun W => tooLong_any m.key m.v.val (m.v.time : Int) m.v.gone W h1 h2)
  have HLA := Lib.hid (fun W (hb : Below w1.heap.size w1 W) => slast_any (HST.out W hb) m.key h1)
  have HRO := Lib.hid (fun W (hb : Below w1.heap.size w1 W) => sroom_any (HST.out W hb) m.key h1)
  have hN : insM L m = if (decide (100 < m.key.size) || decide (500 < m.v.val.size)) then (L, 3) else if badIm m then (L, 1) else if m.v.time ≤ (lastOf m.key L).1 then (L, 8) else if 200 ≤ (lastOf m.key L).2 then (L, 11) else (L ++ [m], 0) := rfl
  have HNO := Lib.hid (fun W k (z : Int) (hb : Below w1.heap.size w1 W) (hN : insM L m = (L, k)) (hz : z = (k : Int)) => insAns_no h (HBX.out W hb) hN hz)
  have HYES := Lib.hid (show ∀ W, Below w1.heap.size w1 W → m.key.size ≤ 100 → m.v.val.size ≤ 500 → insM L m = (L ++ [m], 0) →
      Calls Try.prog 32 #[.pointer (some r), .string m.key, .agg #[.int .u64 (m.v.time : Int), .bool m.v.gone, .string m.v.val]] W fun e w' => e = .returned (.tuple #[]) ∧ Hid (InsAns w O r (insM L m) (.returned (.int .i64 0)) w') from fun W hb q1 q2 hI => by
    obtain ⟨b, a, n, c, l, hS, ha, hg, rfl⟩ := h
    have hS2 := hS.below (HBX.out W hb)
    have hn : n < 100000 := by
      have h4 := acc_len ha
      have h5 := keys_len L
      rw [entsM_len, hS.len] at h4
      omega
    refine (add_any hS2 ha hg m hn q1 q2).mono fun e w' hA => ?_
    obtain ⟨he, a', n', c', l', k1, k2, k3⟩ := hA
    refine ⟨he, Lib.hid ⟨stO b a' n' c' l', by rw [hI]; rfl, ⟨b, a', n', c', l', k1, by rw [hI]; exact k2, good_ins hg h3, rfl⟩, (Moves.of_below (HBX.out W hb)).trans k3⟩⟩)
  obtain ⟨tl, htl⟩ : ∃ tl, tl = (decide (100 < m.key.size) || decide (500 < m.v.val.size)) := ⟨_, rfl⟩
  have hsm : tl = false → m.key.size ≤ 100 ∧ m.v.val.size ≤ 500 := fun h => by
    rw [h] at htl
    have := htl.symm
    simp only [Bool.or_eq_false_iff, decide_eq_false_iff_not] at this
    omega
  rw [← htl] at HTL hN
  obtain ⟨z1, hz1⟩ : ∃ z1, z1 = (lastOf m.key L).1 := ⟨_, rfl⟩
  obtain ⟨z2, hz2⟩ : ∃ z2, z2 = (lastOf m.key L).2 := ⟨_, rfl⟩
  rw [← hz1] at HLA hN
  rw [← hz2] at HRO hN
  have hbad : badIm m = (m.v.time == 0 || (m.v.gone && !m.v.val.toList.isEmpty)) := rfl
  rw [hbad] at hN
  obtain ⟨N, hNN⟩ : ∃ N, N = insM L m := ⟨_, rfl⟩
  rw [← hNN] at HNO HYES hN ⊢
  obtain ⟨K, T, G, V⟩ := m
  simp only at *
  have HN := Lib.hid hN
  have HSM := Lib.hid hsm
  clear hb0 hr0 hPl HST hN hsm h htl hz1 hz2 hbad hNN
  have hB := Below.refl w1.heap.size w1
  cases tl with
  | true =>
    have HE := Lib.hid (show N = (L, 3) from by rw [HN.out, if_pos rfl])
    obtain ⟨c0, c1, c2⟩ := HR.out w1 hB
    clear HN HYES HLA HRO HSM hB
    go_enter Try.func11, Try.ntmps11
    go_upto_region 1 with fail
    rw [← hw1, ← hP]
    clear hw1 hP
    go_wp2_with (go_at_call 31; (with_reducible refine (HTL.out _).mono ?_); rintro e w2 ⟨rfl, hb2⟩; have HB2 := Lib.hid hb2; clear hb2)
    go_ret
    exact HNO.out _ 3 _ HB2.out HE.out rfl
  | false =>
    obtain ⟨t0, ht0⟩ : ∃ t0, t0 = (T == 0) := ⟨_, rfl⟩
    obtain ⟨ve, hve⟩ : ∃ ve, ve = V.toList.isEmpty := ⟨_, rfl⟩
    obtain ⟨bd, hbd⟩ : ∃ bd, bd = (t0 || G && !ve) := ⟨_, rfl⟩
    have hNb := HN.out
    rw [if_neg (by simp), ← ht0, ← hve, ← hbd] at hNb
    have HN2 := Lib.hid hNb
    have htz : ((T : Int) == 0) = t0 := by rw [ht0, Bool.eq_iff_iff]; simp
    have hvz := hve.symm
    obtain ⟨c0, c1, c2⟩ := HR.out w1 hB
    have HBD := Lib.hid hbd
    clear HN hNb ht0 hve hbd hB
    go_enter Try.func11, Try.ntmps11
    go_upto_region 1 with fail
    rw [← hw1, ← hP]
    clear hw1 hP
    go_upto_region 3 with (go_at_call 31; (with_reducible refine (HTL.out _).mono ?_); rintro e w2 ⟨rfl, hb2⟩; have HB2 := Lib.hid hb2; clear hb2)
    clear HTL c0 c1 c2
    obtain ⟨c0, c1, c2⟩ := HR.out w2 HB2.out
    go_cut [21] (fun s21 wc => s21 = .bool bd ∧ w2 = wc)
    case first =>
      have hq := HBD.out
      clear HBD HN2 HNO HYES HLA HRO HSM HR HBX HB1 HB2
      cases t0 <;> cases G <;> cases ve <;> subst hq
      all_goals
        go_wp2_with fail
        go_meet
        case rel => exact ⟨rfl, rfl⟩
    case rest =>
      obtain ⟨rfl, rfl⟩ := hcut
      clear htz hvz HBD
      cases bd with
      | true =>
        have HE := Lib.hid (show N = (L, 1) from by rw [HN2.out, if_pos rfl])
        clear HN2 HYES HLA HRO HSM
        go_wp2_with fail
        go_ret
        exact HNO.out _ 1 _ HB2.out HE.out rfl
      | false =>
        have hNb := HN2.out
        rw [if_neg (by simp)] at hNb
        have HN3 := Lib.hid hNb
        have HL2 := Lib.hid (HLA.out _ (HB2.out.trans (Below.refl _ _).drew))
        clear HN2 hNb
        go_upto_region 5 with fail
        go_cut [27] (fun s27 wc => s27 = .bool (decide (T ≤ z1)) ∧ Hid (Below w1.heap.size w1 wc))
        case first =>
          have HB2d := Lib.hid (fun w' (hb : Below w2.drew.heap.size w2.drew w') => HB2.out.trans ((show Below w2.heap.size w2 w' from undrewM hb).mono HB2.out.size))
          have HR3 := Lib.hid (fun w' (hb : Below w2.drew.heap.size w2.drew w') => HR.out w' (HB2d.out w' hb))
          clear HN3 HYES HRO HSM HR HNO HBX HB1
          go_region_with (go_at_call 16; (with_reducible refine HL2.out.mono ?_); rintro e w3 ⟨rfl, hb3⟩; have HB3 := Lib.hid (HB2d.out w3 hb3); obtain ⟨d0, d1, d2⟩ := HR3.out w3 hb3; clear hb3)
          all_goals
            go_wp2_with fail
            go_meet
            case rel => exact ⟨by first | rfl | simp, HB3⟩
        case rest =>
          obtain ⟨rfl, HB3⟩ := hcut
          clear c0 c1 c2 HL2 HLA HB2
          by_cases hlt : T ≤ z1
          · have HE := Lib.hid (show N = (L, 8) from by rw [HN3.out, if_pos hlt])
            rw [decide_eq_true hlt]
            clear HN3 HYES HRO HSM HR hlt
            go_wp2_with fail
            go_ret
            exact HNO.out _ 8 _ HB3.out HE.out rfl
          · have hNb := HN3.out
            rw [if_neg hlt] at hNb
            rw [decide_eq_false hlt]
            have HN4 := Lib.hid hNb
            have HRx := Lib.hid (HRO.out _ HB3.out)
            clear HN3 hNb hlt
            by_cases h2 : z2 < 200
            · have HE := Lib.hid (show N = (L ++ [⟨K, ⟨T, G, V⟩⟩], 0) from by rw [HN4.out, if_neg (by omega)])
              rw [decide_eq_true h2] at HRx
              clear HN4 h2 HRO
              go_upto_region 9 with (go_at_call 15; (with_reducible refine HRx.out.mono ?_); rintro e w4 ⟨rfl, hb4⟩; have HB4 := Lib.hid (HB3.out.trans (hb4.mono HB3.out.size)); clear hb4)
              obtain ⟨c0, c1, c2⟩ := HR.out _ HB4.out
              have HAD := Lib.hid (HYES.out _ HB4.out (HSM.out (by trivial)).1 (HSM.out (by trivial)).2 HE.out)
              clear HR HYES HSM HNO HBX HB1 HRx
              go_wp2_with (go_at_call 32; (with_reducible refine HAD.out.mono ?_); rintro e w5 ⟨rfl, hA5⟩)
              go_ret
              exact hA5.out
            · have HE := Lib.hid (show N = (L, 11) from by rw [HN4.out, if_pos (by omega)])
              rw [decide_eq_false h2] at HRx
              clear HN4 h2 HRO HYES HSM HR
              go_wp2_with (go_at_call 15; (with_reducible refine HRx.out.mono ?_); rintro e w4 ⟨rfl, hb4⟩; have HB4 := Lib.hid (HB3.out.trans (hb4.mono HB3.out.size)); clear hb4)
              go_ret
              exact HNO.out _ 11 _ HB4.out HE.out rfl
end Go.Proofs.Ytdcefhhmddjodaa

namespace Go.Proofs.Ytdcefhhmddjodaa
open Go.RowKit
set_option linter.unusedVariables false
set_option linter.unnecessarySimpa false
set_option linter.unusedSimpArgs false
set_option maxRecDepth 100000

theorem posK_lt (k : ByteArray) : ∀ (l : List ByteArray) (i : Nat), i < posK k l → ltK (l.getD i ⟨#[]⟩) k = true
  | [], i, h => by simp [posK] at h
  | x :: l, i, h => by
    unfold posK at h
    by_cases hx : ltK x k = true
    · rw [if_pos hx] at h
      cases i with
      | zero => exact hx
      | succ i => exact posK_lt k l i (by omega)
    · rw [if_neg hx] at h; omega
theorem posK_end (k : ByteArray) : ∀ l : List ByteArray, posK k l < l.length → ltK (l.getD (posK k l) ⟨#[]⟩) k = false
  | [], h => by simp at h
  | x :: l, h => by
    unfold posK at h ⊢
    by_cases hx : ltK x k = true
    · rw [if_pos hx] at h ⊢
      have := posK_end k l (by simpa using h)
      simpa using this
    · rw [if_neg hx]
      simpa using hx
theorem rise_lt {l : List ByteArray} (h : Rise l) {i j : Nat} (hij : i < j) (hj : j < l.length) : ltK (l.getD i ⟨#[]⟩) (l.getD j ⟨#[]⟩) = true := by
  rw [List.getD, List.getD, List.getElem?_eq_getElem hj, List.getElem?_eq_getElem (show i < l.length by omega)]
  exact List.pairwise_iff_getElem.1 h i j (by omega) hj hij
theorem rise_not {l : List ByteArray} (h : Rise l) {k : ByteArray} {i j : Nat} (hij : i ≤ j) (hj : j < l.length) (hk : ltK (l.getD i ⟨#[]⟩) k = false) : ltK (l.getD j ⟨#[]⟩) k = false := by
  rcases Nat.eq_or_lt_of_le hij with rfl | h1
  · exact hk
  · rw [← Bool.not_eq_true]
    intro h2
    rw [ltK_trans (rise_lt h h1 hj) h2] at hk
    cases hk
theorem scanTo_lo {L : List Im} {lo hi : ByteArray} {t : Nat} {most : Int} {i : Nat} (h : i ≤ posK lo (keysM L)) : scanTo L lo hi t most i = [] := by
  have hle := posK_le lo (keysM L)
  unfold scanTo
  have : ((keysM L).take i).filterMap (scanOne L lo hi t) = [] := by
    refine List.filterMap_eq_nil_iff.2 fun x hx => ?_
    obtain ⟨j, hj, rfl⟩ := List.mem_iff_getElem.1 hx
    rw [List.length_take] at hj
    have h1 := posK_lt lo (keysM L) j (by omega)
    rw [List.getD, List.getElem?_eq_getElem (show j < (keysM L).length by omega)] at h1
    unfold scanOne
    rw [List.getElem_take]
    rw [show ltK (keysM L)[j] lo = true from h1]
    rfl
  rw [this, List.take_nil]
theorem scanTo_stop {L : List Im} {lo hi : ByteArray} {t : Nat} {most : Int} {i : Nat} (h : ¬ ((scanTo L lo hi t most i).length : Int) < most) : ∀ d, i + d ≤ (keysM L).length → scanTo L lo hi t most (i + d) = scanTo L lo hi t most i
  | 0, _ => rfl
  | d + 1, hd => by
    have ih := scanTo_stop h d (by omega)
    rw [show i + (d + 1) = i + d + 1 by omega, scanTo_step (by omega), ih, if_neg h]
theorem scanTo_past {L : List Im} {lo hi : ByteArray} {t : Nat} {most : Int} {i : Nat} (h : ∀ j, i ≤ j → j < (keysM L).length → scanOne L lo hi t ((keysM L).getD j ⟨#[]⟩) = none) : ∀ d, i + d ≤ (keysM L).length → scanTo L lo hi t most (i + d) = scanTo L lo hi t most i
  | 0, _ => rfl
  | d + 1, hd => by
    have ih := scanTo_past (most := most) h d (by omega)
    rw [show i + (d + 1) = i + d + 1 by omega, scanTo_step (by omega), ih, h (i + d) (by omega) (by omega)]
    split <;> simp
theorem scan_end {L : List Im} {lo hi : ByteArray} {t : Nat} {most : Int} {i : Nat} (hin : i ≤ (keysM L).length) (h : ∀ d, i + d ≤ (keysM L).length → scanTo L lo hi t most (i + d) = scanTo L lo hi t most i) : scanM L lo hi t most = scanTo L lo hi t most i := by
  rw [← scanTo_all L lo hi t most rfl, ← h ((keysM L).length - i) (by omega)]
  congr 1; omega
/-- What Scan tells. -/
def ScanEnd (w : World) (B : Nat) (X : List Wt) (e : Ending) (w' : World) : Prop := ∃ a n c, e = .returned (.slice a n c) ∧ IsWts w' a n c X ∧ Below w.heap.size w w' ∧ (0 < n → ∀ b off, a = some ⟨b, off, none⟩ → B ≤ b)
theorem scan_done {w w' : World} {B m c : Nat} {a : Option Addr} {X Y : List Wt} (h : w'.ownsRow B 84 3 (.slice a m c) m (wtC Y)) (hm : m = Y.length) (hl : m ≤ 100000) (hv : ∀ x ∈ Y, x.1.size ≤ maxLen ∧ x.2.size ≤ maxLen) (hX : X = Y) (hb : Below w.heap.size w w') : ScanEnd w B X (.returned (.slice a m c)) w' := by
  subst hX
  refine ⟨a, m, c, rfl, wtC_wts h hm.symm hl hv, hb, fun _ b off e => ?_⟩
  subst e
  exact (h.lt b rfl).1

set_option maxHeartbeats 8000000 in
theorem sscan_any {w : World} {r : Addr} {L : List Im} {O : Nat → Prop} (h : StAt w r L O) (lo hi : ByteArray) (t : Nat) (most : Int) (hl : L.length ≤ 1000) (h1 : lo.size ≤ maxLen) (h2 : hi.size ≤ maxLen) (ht : t < 18446744073709551616) :
    Calls Try.prog 18 #[.pointer (some r), .string lo, .string hi, .int .u64 (t : Int), .int .i64 most] w (ScanEnd w w.heap.size (scanM L lo hi t most)) := by
  obtain ⟨b, a, n, c, l, hS, ha, hg, _⟩ := h
  have HF := Lib.hid (find_any a n c (entsM L) lo w (hS.ents ha hg) (by have := hS.big; omega) (ents_right hg))
  have hp := hS.ptr
  subst hp
  have hkn : (keysM L).length = n := by rw [← entsM_len, acc_len ha, hS.len]
  have hn1 : n ≤ 1000 := by have := keys_len L; omega
  have hFp := fAt_ents L lo
  have hFn : fAt (entsM L) lo ≤ n := by rw [← hkn, ← entsM_len]; exact fAt_le _ _
  obtain ⟨F, hF⟩ : ∃ F, F = fAt (entsM L) lo := ⟨_, rfl⟩
  obtain ⟨o, ho⟩ : ∃ o, o = fOk (entsM L) lo := ⟨_, rfl⟩
  rw [← hF, ← ho] at HF
  rw [← hF] at hFp hFn
  have HFP := Lib.hid hFp
  have HKN := Lib.hid hkn
  have HS := Lib.hid hS
  have HA := Lib.hid ha
  have HG := Lib.hid hg
  have HX0 := Lib.hid (scanTo_lo (L := L) (lo := lo) (hi := hi) (t := t) (most := most) (Nat.le_of_eq hFp))
  have HLS := Lib.hid (show ∀ m ∈ L, m.key.size ≤ maxLen ∧ m.v.val.size ≤ maxLen ∧ m.v.time < 18446744073709551616 from fun m hm => by
    have k1 := hg.key m hm
    have k2 := hg.val m hm
    exact ⟨by unfold maxLen; omega, by unfold maxLen; omega, hg.time m hm⟩)
  have k0 := hS.cell
  have hal : 0 < n → ∃ g, a = some ⟨g, 0, none⟩ := fun h0 => by
    obtain ⟨g, hga, -⟩ := hS.at_ (i := 0) (by rw [hS.len]; exact h0)
    exact ⟨g, hga⟩
  have hrow := hS.row
  have hnc : n ≤ c := by
    rcases hrow.2 with ⟨h', h0⟩ | ⟨g', cap', cur, h', hbg, hg, hnc, _⟩
    · omega
    · injection h' with _ _ h'; omega
  have ha0 : a = none → c = 0 := fun e => by
    rcases hrow.2 with ⟨h', h0⟩ | ⟨g', cap', cur, h', _⟩
    · injection h' with _ _ h'
    · rw [e] at h'; injection h' with h'; cases h'
  have hform : a = none ∨ ∃ g, a = some ⟨g, 0, none⟩ := by
    rcases hrow.2 with ⟨h', h0⟩ | ⟨g', cap', cur, h', _⟩
    · injection h' with h'; exact .inl h'
    · injection h' with h'; exact .inr ⟨g', h'⟩
  have HFORM := Lib.hid hform
  have HA0 := Lib.hid ha0
  clear hF ho hS ha hg hFp hkn hal hrow ha0 hform
  go_enter Try.func18, Try.ntmps18
  go_upto_region 3 with (go_at_call 35; (with_reducible refine HF.out.mono ?_); rintro e w2 ⟨rfl, hb2⟩; have HB2 := Lib.hid hb2; clear hb2)
  clear k0 HF
  have hS2 := HS.out.below HB2.out
  have k2 := hS2.cell
  obtain ⟨D, hD⟩ : ∃ D, D = n - F := ⟨_, rfl⟩
  go_cut [32, 33, 34] (fun s32 s33 s34 wc => ∃ (aa : Option Addr) (cc : Nat), s32 = .slice aa D cc ∧ s33 = .int .i64 (D : Int) ∧ s34 = .int .i64 0 ∧ Hid (0 < D → ∃ g, a = some ⟨g, 0, none⟩ ∧ aa = some ⟨g, F * 2, none⟩) ∧ w2 = wc)
  case first =>
    have z1 : (F : Int) ≤ (n : Int) := by omega
    have z2 : (n : Int) - (F : Int) = (D : Int) := by omega
    have z3 : n - F = D := hD.symm
    rcases HFORM.out with rfl | ⟨g, rfl⟩
    · have hc0 := HA0.out rfl
      subst hc0
      obtain rfl : n = 0 := by omega
      obtain rfl : F = 0 := by omega
      obtain rfl : D = 0 := by omega
      clear z1 z2 z3 hD hnc hFn
      go_wp2_with fail
      go_meet
      case rel => exact ⟨none, 0, rfl, rfl, rfl, Lib.hid (fun h => absurd h (by omega)), rfl⟩
    · by_cases hcF : c = F
      · obtain rfl : D = 0 := by omega
        obtain rfl : n = F := by omega
        subst hcF
        clear z1 z2 z3 hD hnc hFn
        go_wp2_with fail
        go_meet
        case rel => exact ⟨_, _, by first | rfl | simp, by first | rfl | simp, rfl, Lib.hid (fun h => absurd h (by omega)), rfl⟩
      · clear hD
        go_wp2_with fail
        go_meet
        case rel => exact ⟨_, _, by first | rfl | (simp only [z3]), by first | rfl | (rw [← z3]; rfl) | simp, rfl, Lib.hid (fun h => ⟨g, rfl, rfl⟩), rfl⟩
  case rest =>
    obtain ⟨aa, cc, rfl, rfl, rfl, HAA, rfl⟩ := hcut
    have HS2 := Lib.hid hS2
    have HO0 := Lib.hid (show w2.ownsRow w2.heap.size 84 3 (.slice none 0 0) 0 (wtC (scanTo L lo hi t most (F + 0))) from by rw [Nat.add_zero, HX0.out]; exact World.ownsRow_nil _ _ _ _)
    have HM0 := Lib.hid (show 0 = (scanTo L lo hi t most (F + 0)).length by rw [Nat.add_zero, HX0.out]; rfl)
    have hFD : F + D = n := by omega
    obtain ⟨ki, hki, hkz, hks, hkb⟩ := info_parts wtInfo
    clear hS2 k2 hD HS HFORM HA0 hnc hFn HX0
    go_wp2_with fail
    go_loopg [13, 34] D (fun q s13 s34 wx => ∃ (j m : Nat) (a' : Option Addr) (c' : Nat), j + q = D ∧ s34 = .int .i64 j ∧ s13 = .slice a' m c' ∧ m ≤ j ∧ Hid (m = (scanTo L lo hi t most (F + j)).length) ∧ Hid (wx.ownsRow w2.heap.size 84 3 (.slice a' m c') m (wtC (scanTo L lo hi t most (F + j)))) ∧ Hid (Below w2.heap.size w2 wx))
    case atStart => exact ⟨0, 0, none, 0, by omega, rfl, rfl, by omega, HM0, HO0, Lib.hid (Below.refl _ _)⟩
    case round =>
      obtain ⟨j, m, a', c', hjq, rfl, rfl, hmj, HM, HO, HB⟩ := hrel
      clear HM0 HO0
      have HDone := Lib.hid (fun W (hb : Below wr.heap.size wr W) (hX : scanM L lo hi t most = scanTo L lo hi t most (F + j)) => scan_done (w := w) (own_belowM HO.out hb) HM.out (by omega) (scanTo_from HLS.out) hX (HB2.out.trans ((HB.out.trans (hb.mono HB.out.size)).mono HB2.out.size)))
      have HEnd := Lib.hid (fun e w' (h : ScanEnd w w2.heap.size (scanM L lo hi t most) e w') => show ScanEnd w w.heap.size (scanM L lo hi t most) e w' from by
        obtain ⟨a, n, c, h1, h2, h3, h4⟩ := h
        exact ⟨a, n, c, h1, h2, h3, fun h0 b off e => Nat.le_trans HB2.out.size (h4 h0 b off e)⟩)
      cases gk with
      | zero =>
        have hX := Lib.hid (show scanM L lo hi t most = scanTo L lo hi t most (F + j) from by
          rw [show F + j = (keysM L).length by rw [HKN.out]; omega]
          exact (scanTo_all L lo hi t most rfl).symm)
        have hjD : j = D := by omega
        subst hjD
        have HE := Lib.hid (HEnd.out _ _ (HDone.out wr (Below.refl _ _) hX.out))
        clear HM HO HB HDone HEnd hX
        go_wp2_with fail
        go_ret
        exact HE.out
      | succ q =>
        have hjD : j < D := by omega
        have hjz : (j : Int) < (D : Int) := by omega
        obtain ⟨g, rfl, rfl⟩ := HAA.out (by omega)
        have hil : F + j < l.length := by rw [HS2.out.len]; omega
        have hik : F + j < (keysM L).length := by rw [HKN.out]; omega
        have hSr := HS2.out.below HB.out
        obtain ⟨g', hgg, hgl, e0, e1, -⟩ := hSr.at_ hil
        simp only [Option.some.injEq, Addr.mk.injEq, and_true] at hgg
        subst hgg
        have hv := hSr.vers HA.out HG.out (List.getElem_mem hil)
        have hE := acc_get HA.out hil
        rw [ents_getD L hik] at hE
        have hkg := keys_good HG.out _ (show (keysM L).getD (F + j) ⟨#[]⟩ ∈ keysM L from by rw [List.getD, List.getElem?_eq_getElem hik]; exact List.getElem_mem _)
        have hstep := scanTo_step (L := L) (lo := lo) (hi := hi) (t := t) (most := most) hik
        have hlo : ltK ((keysM L).getD (F + j) ⟨#[]⟩) lo = false := rise_not (keys_rise L) (show F ≤ F + j by omega) hik (by rw [HFP.out]; exact posK_end lo _ (by rw [← HFP.out]; omega))
        have hpast : hi.toList.isEmpty = false → ltK ((keysM L).getD (F + j) ⟨#[]⟩) hi = false → scanM L lo hi t most = scanTo L lo hi t most (F + j) := fun q1 q2 => by
          refine scan_end (by omega) (scanTo_past fun x hx1 hx2 => ?_)
          unfold scanOne
          rw [q1, rise_not (keys_rise L) hx1 hx2 q2]
          simp
        have hstop : ¬ ((m : Nat) : Int) < most → scanM L lo hi t most = scanTo L lo hi t most (F + j) := fun q1 => scan_end (by omega) (scanTo_stop (by rw [← HM.out]; exact q1))
        obtain ⟨z, hz⟩ : ∃ z, z = l[F + j] := ⟨_, rfl⟩
        rw [← hz] at e0 e1 hv hE
        obtain ⟨K, hK⟩ : ∃ K, K = (keysM L).getD (F + j) ⟨#[]⟩ := ⟨_, rfl⟩
        rw [← hK] at hE hkg hstep hlo hpast
        rw [← hE] at e0 hv
        obtain ⟨⟨zk, zch⟩, za, zn, zc⟩ := z
        simp only [entOf] at e0 e1 hv
        rw [← HM.out] at hstep
        have hr := chain_right HG.out K
        have hcv := fun v hv => (chain_good HG.out K v hv).1
        have hbest := best_at HG.out K t
        have hAt := at_any za zn zc (chainOf K L) t (wr.alloc (.cells #[.string K, .slice za zn zc] 73)) (vers_bel hv ((Below.refl _ _).alloc (Nat.le_refl _) _)) hr (fun v h2 => by have := hcv v h2; omega) ht
        have hout : atOut (atV (chainOf K L) t) = .tuple #[.agg (bestOf K t L).1.cells, .bool (bestOf K t L).2] := by
          rw [hbest]
          cases atV (chainOf K L) t <;> rfl
        rw [hout] at hAt
        obtain ⟨⟨⟨vt, vg, vv⟩, ok⟩, hbo⟩ : ∃ r, r = bestOf K t L := ⟨_, rfl⟩
        rw [← hbo] at hAt
        unfold Vr.cells at hAt
        simp only at hAt
        have hsc := scan_cases L lo hi t K ⟨vt, vg, vv⟩ ok hbo.symm
        rw [hlo] at hsc
        have e0 : wr.cell? ⟨g, F * 2 + j * 2, none⟩ = some (.string K) := by rw [← Nat.add_mul]; exact e0
        have e1 : wr.cell? ⟨g, F * 2 + j * 2 + 1, none⟩ = some (.slice za zn zc) := by rw [← Nat.add_mul]; exact e1
        have HAT := Lib.hid hAt
        have HSC := Lib.hid hsc
        have HST := Lib.hid hstep
        have HPA := Lib.hid hpast
        have HSTOP := Lib.hid hstop
        have HKG := Lib.hid hkg
        have hb5 := (Below.refl wr.heap.size wr).alloc (Nat.le_refl _) (.cells #[.string K, .slice za zn zc] 73)
        have hr5 := heap_alloc_new wr (.cells #[.string K, .slice za zn zc] 73)
        obtain ⟨E, hEE⟩ : ∃ E, E = wr.heap.size := ⟨_, rfl⟩
        rw [← hEE] at hr5
        obtain ⟨W5, hW5⟩ : ∃ W5, W5 = wr.alloc (.cells #[.string K, .slice za zn zc] 73) := ⟨_, rfl⟩
        rw [← hW5] at hb5 hr5 HAT
        have HB5 := Lib.hid hb5
        have HR5 := Lib.hid hr5
        have HEE := Lib.hid hEE
        clear hil hik hSr hv hE hkg hstep hlo hpast hstop hz hK hr hcv hbest hAt hout hbo hsc hb5 hr5 HAA
        go_upto_region 6 with fail
        rw [← hW5, ← hEE]
        clear hW5 e0 e1 hEE
        obtain ⟨e0, e1⟩ := cells2 HR5.out
        obtain ⟨X2, hX2⟩ : ∃ X, X = Op.bytesLess K.toList hi.toList := ⟨_, rfl⟩
        obtain ⟨ee, hee⟩ : ∃ X, X = hi.toList.isEmpty := ⟨_, rfl⟩
        have hltK : ltK K hi = X2 := by rw [hX2]; rfl
        rw [hltK, ← hee] at HSC HPA
        have hX2' := hX2.symm
        have hee' := hee.symm
        clear hX2 hee hltK
        obtain ⟨sp, hsp⟩ : ∃ sp, sp = (decide (most ≤ (m : Int)) || (!ee && !X2)) := ⟨_, rfl⟩
        have HSP := Lib.hid hsp
        go_cut [51] (fun s51 wc => s51 = .bool sp ∧ W5 = wc)
        case first =>
          clear HM HO HB HDone HEnd HAT HSC HST HPA HSTOP HKG HSP HR5 HB5
          by_cases hlt : most ≤ (m : Int)
          · rw [decide_eq_true hlt] at hsp
            subst hsp
            go_wp2_with fail
            go_meet
            case rel => exact ⟨rfl, rfl⟩
          · rw [decide_eq_false hlt] at hsp
            cases ee <;> cases X2 <;> subst hsp
            all_goals
              go_wp2_with fail
              go_meet
              case rel => exact ⟨rfl, rfl⟩
        case rest =>
          obtain ⟨rfl, rfl⟩ := hcut
          clear hX2' hee' e0
          cases sp with
          | true =>
            have HX := Lib.hid (show scanM L lo hi t most = scanTo L lo hi t most (F + j) from by
              have h3 := HSP.out.symm
              rw [Bool.or_eq_true, Bool.and_eq_true, decide_eq_true_eq, Bool.not_eq_true', Bool.not_eq_true'] at h3
              rcases h3 with h3 | h3
              · exact HSTOP.out (by omega)
              · exact HPA.out h3.1 h3.2)
            have HE := Lib.hid (HEnd.out _ _ (HDone.out W5 HB5.out HX.out))
            clear HM HO HB HDone HEnd HAT HSC HST HPA HSTOP HKG HSP hsp HX e1
            go_wp2_with fail
            go_ret
            exact HE.out
          | false =>
            have h3 := HSP.out.symm
            rw [Bool.or_eq_false_iff, decide_eq_false_iff_not] at h3
            have hsk : (ee || X2) = true := by
              have := h3.2
              revert this
              cases ee <;> cases X2 <;> simp
            have hst := HST.out
            rw [HSC.out, hsk, if_pos (show (m : Int) < most by omega)] at hst
            have HNX := Lib.hid hst
            clear HDone HEnd HSC HST HPA HSTOP HSP hsp h3 hsk hst
            go_upto_region 7 with fail
            go_upto_region 8 with (go_at_call 33; (with_reducible refine HAT.out.mono ?_); rintro e w6 ⟨rfl, hb6⟩; have HB6 := Lib.hid (HB5.out.trans (hb6.mono HB5.out.size)); have HR6 := Lib.hid ((hb6.block E (Array.getElem?_eq_some_iff.1 HR5.out).1).trans HR5.out); clear hb6)
            have hb7 := (Below.refl w6.heap.size w6).alloc (Nat.le_refl _) (.cells #[.int .u64 (vt : Int), .bool vg, .string vv] 35)
            have hr7 := heap_alloc_new w6 (.cells #[.int .u64 (vt : Int), .bool vg, .string vv] 35)
            have hE7 := (hb7.block E (Array.getElem?_eq_some_iff.1 HR6.out).1).trans HR6.out
            have hB7 := HB6.out.trans (hb7.mono HB6.out.size)
            obtain ⟨V, hVV⟩ : ∃ V, V = w6.heap.size := ⟨_, rfl⟩
            rw [← hVV] at hr7
            obtain ⟨W7, hW7⟩ : ∃ W7, W7 = w6.alloc (.cells #[.int .u64 (vt : Int), .bool vg, .string vv] 35) := ⟨_, rfl⟩
            rw [← hW7] at hb7 hr7 hE7 hB7
            rw [← hW7, ← hVV]
            have HB7 := Lib.hid hB7
            obtain ⟨e0, e1'⟩ := cells2 hE7
            obtain ⟨v0, v1, v2⟩ := cells3 hr7
            have hEl : E < W7.heap.size := (Array.getElem?_eq_some_iff.1 hE7).1
            have hVl : V < W7.heap.size := (Array.getElem?_eq_some_iff.1 hr7).1
            have HO7 := Lib.hid (own_belowM HO.out HB7.out)
            have HBW := Lib.hid (HB.out.trans (HB7.out.mono HB.out.size))
            clear hb7 hr7 hE7 hB7 hVV hW7 HB6 HR6 HAT HO HB HB5 HR5 e1 HEE
            by_cases hkv : ok = true ∧ vg = false
            · obtain ⟨rfl, rfl⟩ := hkv
              have HN2 := Lib.hid (show scanTo L lo hi t most (F + j + 1) = scanTo L lo hi t most (F + j) ++ [(K, vv)] by rw [HNX.out]; rfl)
              go_upto_region 9 with fail
              have HK := Lib.hid (fun W => clone_anyC K W (by have := HKG.out; omega))
              have HKE := Lib.hid (fun w' (hb : Below W7.heap.size W7 w') => And.intro ((hb.cell (p := ⟨E, 0, none⟩) hEl).trans e0) ((hb.cell (p := ⟨V, 2, none⟩) hVl).trans v2))
              have HOW := Lib.hid (fun W (hb : Below W7.heap.size W7 W) => own_belowM HO7.out hb)
              have HBG := Lib.hid (fun (W W' : World) (hb : Below W7.heap.size W7 W) (hg : W.grownBy W' (Value.slice a' m c').ownBlock) => (HBW.out.trans (hb.mono HBW.out.size)).grown hg (Nat.le_trans HBW.out.size hb.size) (fun k hk => (HO7.out.lt k hk).1))
              have hm1 : m ≤ 1000 := by omega
              clear HNX v0 v1 e1' HKG
              go_region_law? (first
                | (refine step_append_own rfl (.tmp 65) (.tmp 72) 48 rfl w2.heap.size 84 ki (.agg #[.string ⟨#[]⟩, .bool false, .string ⟨#[]⟩]) 3 40 Try.underlying48 hki hkz hks hkb rfl (by decide) (.slice a' m c') m (wtC (scanTo L lo hi t most (F + j))) (by simp [Act.eval, Act.put]) (HOW.out _ (by first | exact HB8.out.alloc HB8.out.size _ | exact (HB8.out.alloc HB8.out.size _).drew)) ⟨w8.heap.size, 0, none⟩ 1 1 [.string K, .bool false, .string vv] (by simp [Act.eval, Act.put]) rfl (cells3_new _ _ _ _ _) (by simp [Value.oneCell']) (by unfold maxLen; omega) (by omega) (Nat.le_trans HBW.out.size (Nat.le_trans HB8.out.size (by simp))) ?_; intro v9 w9 hown9 hg9 hn9; obtain ⟨g9, c9, rfl, _, _⟩ := own_slice hown9 (Nat.succ_pos m); have HO9 := Lib.hid hown9; have HB9 := Lib.hid (HBG.out _ _ (by first | exact HB8.out.alloc HB8.out.size _ | exact (HB8.out.alloc HB8.out.size _).drew) hg9); clear hown9 hg9 hn9)
                | (rw [if_pos (by rfl)]; go_simp; go_at_call 36; (with_reducible refine (HK.out _).mono ?_); rintro e w8 ⟨rfl, hb8⟩; have HB8 := Lib.hid (show Below W7.heap.size W7 w8 from undrewM hb8); clear hb8; obtain ⟨e0', v2'⟩ := HKE.out w8 HB8.out; dsimp only))
              all_goals
                go_wp2_with fail
                go_roundg q
                case measure => omega
                case rel => exact ⟨j + 1, m + 1, _, c9, by omega, by go_num, rfl, by omega, Lib.hid (by rw [← Nat.add_assoc, HN2.out, List.length_append, ← HM.out]; rfl), Lib.hid (by rw [← Nat.add_assoc, HN2.out, wtC_snoc]; exact HO9.out), HB9⟩
            · have HN2 := Lib.hid (show scanTo L lo hi t most (F + j + 1) = scanTo L lo hi t most (F + j) by
                rw [HNX.out]
                have : (ok && !vg) = false := by
                  rw [← Bool.not_eq_true, Bool.and_eq_true, Bool.not_eq_true']
                  exact hkv
                rw [this]
                simp)
              clear HNX
              cases ok <;> cases vg
              case true.false => exact absurd ⟨rfl, rfl⟩ hkv
              all_goals
                clear hkv
                go_wp2_with fail
                go_roundg q
                case measure => omega
                case rel => exact ⟨j + 1, m, a', c', by omega, by go_num, rfl, by omega, Lib.hid (by rw [← Nat.add_assoc, HN2.out]; exact HM.out), Lib.hid (by rw [← Nat.add_assoc, HN2.out]; exact HO7.out), HBW⟩
end Go.Proofs.Ytdcefhhmddjodaa
