/-
  The walk of the document's Scan.
-/
import Derived.Test.YtdcefhhmddjodaaSet09
namespace Go.Proofs.Ytdcefhhmddjodaa
open Go.RowKit
set_option linter.unusedVariables false
set_option linter.unnecessarySimpa false
set_option linter.unusedSimpArgs false
set_option maxRecDepth 100000

theorem KSo.keys {w : World} {B : Nat} {v : Value} {l : List ByteArray} (h : KSo w B v l) : ∃ a c, v = .slice a l.length c ∧ ∀ i, i < l.length → ∃ g, a = some ⟨g, 0, none⟩ ∧ g < w.heap.size ∧ w.cell? ⟨g, i, none⟩ = some (.string (l.getD i ⟨#[]⟩)) := by
  rcases h.form with ⟨rfl, rfl⟩ | ⟨h0, g, c, rfl, _, _, hg, hc⟩
  · exact ⟨none, 0, rfl, fun i hi => by simp at hi⟩
  · exact ⟨_, c, rfl, fun i hi => ⟨g, rfl, hg, hc i hi⟩⟩

theorem cells3_new (w : World) (x y z : Value) (t : TypeId) : ∀ j u, [x, y, z][j]? = some u → (w.alloc (.cells #[x, y, z] t)).cell? ((⟨w.heap.size, 0, none⟩ : Addr).add j) = some u := fun j u h => by
  have hadd : (⟨w.heap.size, 0, none⟩ : Addr).add j = ⟨w.heap.size, j, none⟩ := by unfold Addr.add; split <;> simp_all
  rw [hadd, cell_of_row _ _ _ _ _ _ (heap_alloc_new w _)]
  simpa using h

set_option maxHeartbeats 8000000 in
theorem mscan_any (a : Option Addr) (len cap : Nat) (L : List Im) (lo hi : ByteArray) (t : Nat) (most : Int) (w : World) (hz : IsItms w a len cap L) (hl : len ≤ 1000) (ht : t < 18446744073709551616) :
    Calls Try.prog 19 #[.agg #[.slice a len cap], .string lo, .string hi, .int .u64 (t : Int), .int .i64 most] w fun e w' => ∃ a' n c, e = .returned (.slice a' n c) ∧ IsWts w' a' n c (scanM L lo hi t most) ∧ Below w.heap.size w w' := by
  have HZ := Lib.hid hz
  have hel := hz.1
  have HLM := Lib.hid (items_mem hz)
  have hb0 := (Below.refl w.heap.size w).alloc (Nat.le_refl _) (.cells #[.slice a len cap] 29)
  have hr0 := heap_alloc_new w (.cells #[.slice a len cap] 29)
  obtain ⟨w1, hw1⟩ : ∃ w1, w1 = w.alloc (.cells #[.slice a len cap] 29) := ⟨_, rfl⟩
  rw [← hw1] at hb0 hr0
  have HB0 := Lib.hid hb0
  have HR0 := Lib.hid hr0
  have c0 : w1.cell? ⟨w.heap.size, 0, none⟩ = some (.slice a len cap) := by rw [cell_of_row _ _ _ _ _ _ hr0]; rfl
  have HK := Lib.hid (mkeys_any a len cap L w1 (hz.below hb0) hl)
  have HN := Lib.hid (keys_len L)
  obtain ⟨ki, hki, hkz, hks, hkb⟩ := info_parts wtInfo
  clear hz hb0 hr0
  go_enter Try.func19, Try.ntmps19
  go_upto_region 2 with fail
  rw [← hw1]
  clear hw1
  go_upto_region 3 with (go_at_call 21; (with_reducible refine HK.out.mono ?_); rintro e w2 ⟨v2, rfl, hk2, hb2⟩)
  obtain ⟨a12, c12, rfl, hkc⟩ := hk2.keys
  have HKC := Lib.hid hkc
  have HB2 := Lib.hid (HB0.out.trans (hb2.mono HB0.out.size))
  have HR2 := Lib.hid ((hb2.block _ (Array.getElem?_eq_some_iff.1 HR0.out).1).trans HR0.out)
  obtain ⟨n, hn⟩ : ∃ n, n = (keysM L).length := ⟨_, rfl⟩
  rw [← hn] at HKC ⊢
  have HNE := Lib.hid hn
  have hn1 : n ≤ 1000 := by have := HN.out; omega
  have HO0 := Lib.hid (show w2.ownsRow w2.heap.size 84 3 (.slice none 0 0) 0 (wtC (scanTo L lo hi t most 0)) from by rw [show scanTo L lo hi t most 0 = [] by simp [scanTo]]; exact World.ownsRow_nil _ _ _ _)
  clear hkc hk2 hb2 HK c0 hn HN
  go_wp2_with fail
  go_loopg [11, 13] n (fun g s11 s13 wx => ∃ (i m : Nat) (a' : Option Addr) (c : Nat), i + g = n ∧ s13 = .int .i64 i ∧ s11 = .slice a' m c ∧ m ≤ i ∧ Hid (m = (scanTo L lo hi t most i).length) ∧ Hid (wx.ownsRow w2.heap.size 84 3 (.slice a' m c) m (wtC (scanTo L lo hi t most i))) ∧ Hid (Below w2.heap.size w2 wx))
  case atStart => exact ⟨0, 0, none, 0, by omega, rfl, rfl, by omega, Lib.hid (by simp [scanTo]), HO0, Lib.hid (Below.refl _ _)⟩
  case round =>
    obtain ⟨i, m, a', c, hig, rfl, rfl, hmi, HM, HO, HB⟩ := hrel
    cases gk with
    | zero =>
      obtain rfl : i = n := by omega
      have hfin := HO.out
      have hm := HM.out
      rw [scanTo_all L lo hi t most HNE.out] at hfin hm
      have HW := Lib.hid (wtC_wts hfin hm.symm (by omega) (by rw [← scanTo_all L lo hi t most HNE.out]; exact scanTo_from HLM.out))
      clear hfin hm
      go_wp2_with fail
      go_ret
      exact ⟨_, _, _, rfl, HW.out, HB2.out.trans (HB.out.mono HB2.out.size)⟩
    | succ g =>
      have hin : i < n := by omega
      have hinz : (i : Int) < (n : Int) := by omega
      obtain ⟨g12, rfl, hg12, hkc⟩ := HKC.out i hin
      obtain ⟨K, hK⟩ : ∃ K, K = (keysM L).getD i ⟨#[]⟩ := ⟨_, rfl⟩
      rw [← hK] at hkc
      have HCK := Lib.hid (fun W (hb : Below w2.heap.size w2 W) => (hb.cell (p := ⟨g12, i, none⟩) hg12).trans hkc)
      have HBX := Lib.hid (fun W (hb : Below w2.heap.size w2 W) => (hb.block _ (Array.getElem?_eq_some_iff.1 HR2.out).1).trans HR2.out)
      have HSTEP := Lib.hid (scanTo_step (L := L) (lo := lo) (hi := hi) (t := t) (most := most) (i := i) (by rw [← HNE.out]; exact hin))
      rw [← hK, ← HM.out] at HSTEP
      have HAT := Lib.hid (fun W (hb : Below w2.heap.size w2 W) => mat_any a len cap L K t ht W (HZ.out.below (HB2.out.trans (hb.mono HB2.out.size))) (by omega))
      obtain ⟨⟨⟨vt, vg, vv⟩, ok⟩, hbo⟩ : ∃ r, r = bestOf K t L := ⟨_, rfl⟩
      rw [← hbo] at HAT
      have HSC := Lib.hid (scan_cases L lo hi t K ⟨vt, vg, vv⟩ ok hbo.symm)
      have d0 := HCK.out wr HB.out
      have e0 : wr.cell? ⟨w.heap.size, 0, none⟩ = some (.slice a len cap) := by rw [cell_of_row _ _ _ _ _ _ (HBX.out wr HB.out)]; rfl
      unfold Vr.cells at HAT
      simp only at HAT
      have HATd := Lib.hid (HAT.out wr.drew HB.out.drew)
      have HATz := Lib.hid (fun o => HAT.out (wr.alloc o).drew ((HB.out.alloc HB.out.size o).drew))
      have hgl : g12 < wr.heap.size := Nat.lt_of_lt_of_le hg12 HB.out.size
      have hwl : w.heap.size < wr.heap.size := (Array.getElem?_eq_some_iff.1 (HBX.out wr HB.out)).1
      clear hK hbo hkc HO0
      go_upto_region 6 with fail
      go_cut [14, 15] (fun s14 s15 wd => ∃ p : Nat, s14 = .pointer (some ⟨p, 0, none⟩) ∧ s15 = .bool ok ∧ Hid (VerDone wr p ⟨vt, vg, vv⟩ wd))
      case first =>
        go_region_with (go_at_call 13; first
          | ((with_reducible refine HATd.out.mono ?_); rintro e w6 ⟨rfl, hb6⟩; have HB6 := Lib.hid hb6)
          | ((with_reducible refine (HATz.out _).mono ?_); rintro e w6 ⟨rfl, hb6⟩; have HB6 := Lib.hid hb6; have hq := zero_kept3 hb6))
        all_goals
          go_wp2_with fail
          go_meet
          case rel => first | exact ⟨_, rfl, rfl, Lib.hid (verDoneA vt vg vv HB6.out)⟩ | exact ⟨_, rfl, rfl, Lib.hid (verDoneB vt vg vv HB6.out)⟩
      case rest =>
        obtain ⟨p, rfl, rfl, HV⟩ := hcut
        have HBc := Lib.hid (HB.out.trans (HV.out.below.mono HB.out.size))
        have HOc := Lib.hid (own_belowM HO.out HV.out.below)
        have d1 := HCK.out wc HBc.out
        obtain ⟨v0, v1, v2⟩ := (show wc.cell? ⟨p, 0, none⟩ = some (.int .u64 (vt : Int)) ∧ wc.cell? ⟨p, 1, none⟩ = some (.bool vg) ∧ wc.cell? ⟨p, 2, none⟩ = some (.string vv) from ⟨by rw [cell_of_row _ _ _ _ _ _ HV.out.row]; rfl, by rw [cell_of_row _ _ _ _ _ _ HV.out.row]; rfl, by rw [cell_of_row _ _ _ _ _ _ HV.out.row]; rfl⟩)
        clear d0 e0 HAT HATd HATz HO HB
        unfold ltK at HSC
        obtain ⟨X1, hX1⟩ : ∃ X, X = Op.bytesLess K.toList lo.toList := ⟨_, rfl⟩
        obtain ⟨X2, hX2⟩ : ∃ X, X = Op.bytesLess K.toList hi.toList := ⟨_, rfl⟩
        obtain ⟨E, hE⟩ : ∃ E, E = hi.toList.isEmpty := ⟨_, rfl⟩
        rw [← hX1, ← hX2, ← hE] at HSC
        have hX1' := hX1.symm
        have hX2' := hX2.symm
        have hE' := hE.symm
        have hcs : ((X1 = true) ∨ (X1 = false ∧ E = false ∧ X2 = false) ∨ (X1 = false ∧ E = true ∧ ok = false) ∨ (X1 = false ∧ E = false ∧ X2 = true ∧ ok = false) ∨ (X1 = false ∧ E = true ∧ ok = true ∧ vg = true) ∨ (X1 = false ∧ E = false ∧ X2 = true ∧ ok = true ∧ vg = true)) ∨ (X1 = false ∧ E = true ∧ ok = true ∧ vg = false) ∨ (X1 = false ∧ E = false ∧ X2 = true ∧ ok = true ∧ vg = false) := by
          cases X1 <;> cases E <;> cases X2 <;> cases ok <;> cases vg <;> simp
        clear hX1 hX2 hE
        rcases hcs with hcs | hcs
        · have HNX := Lib.hid (show scanTo L lo hi t most (i + 1) = scanTo L lo hi t most i by
            rw [HSTEP.out]
            have : scanOne L lo hi t K = none := by
              rw [HSC.out]
              rcases hcs with h | ⟨h1, h2, h3⟩ | ⟨h1, h2, h3⟩ | ⟨h1, h2, h3, h4⟩ | ⟨h1, h2, h3, h4⟩ | ⟨h1, h2, h3, h4, h5⟩ <;> simp [*]
            rw [this]
            simp)
          clear HSTEP HSC
          rcases hcs with rfl | ⟨rfl, rfl, rfl⟩ | ⟨rfl, rfl, rfl⟩ | ⟨rfl, rfl, rfl, rfl⟩ | ⟨rfl, rfl, rfl, rfl⟩ | ⟨rfl, rfl, rfl, rfl, rfl⟩
          all_goals
            go_wp2_with fail
            go_roundg g
            case measure => omega
            case rel => exact ⟨i + 1, m, a', c, by omega, by go_num, rfl, by omega, Lib.hid (by rw [HNX.out]; exact HM.out), Lib.hid (by rw [HNX.out]; exact HOc.out), HBc⟩
        · have HSO := Lib.hid (show scanOne L lo hi t K = some (K, vv) by
            rw [HSC.out]
            rcases hcs with ⟨h1, h2, h3, h4⟩ | ⟨h1, h2, h3, h4, h5⟩ <;> simp [*])
          rw [HSO.out] at HSTEP
          clear HSC HSO
          by_cases hlt : (m : Int) < most
          · have hltd : decide ((m : Int) < most) = true := by simpa using hlt
            have HNX := Lib.hid (show scanTo L lo hi t most (i + 1) = scanTo L lo hi t most i ++ [(K, vv)] by rw [HSTEP.out, if_pos hlt]; rfl)
            clear HSTEP
            have HOW := Lib.hid (fun W (hb : Below wc.heap.size wc W) => own_belowM HOc.out hb)
            have HBG := Lib.hid (fun (W W' : World) (hb : Below wc.heap.size wc W) (hg : W.grownBy W' (Value.slice a' m c).ownBlock) => (HBc.out.trans (hb.mono HBc.out.size)).grown hg (Nat.le_trans HBc.out.size hb.size) (fun k hk => (HOc.out.lt k hk).1))
            rcases hcs with ⟨rfl, rfl, rfl, rfl⟩ | ⟨rfl, rfl, rfl, rfl, rfl⟩
            all_goals
              go_upto_region 8 with fail
              clear hX1' hX2' hE' hltd hlt
              go_region_law (refine step_append_own rfl (.tmp 66) (.tmp 74) 48 rfl w2.heap.size 84 ki (.agg #[.string ⟨#[]⟩, .bool false, .string ⟨#[]⟩]) 3 40 Try.underlying48 hki hkz hks hkb rfl (by decide) (.slice a' m c) m (wtC (scanTo L lo hi t most i)) (by simp [Act.eval, Act.put]) (HOW.out _ (by first | exact ((Below.refl _ _).drew).alloc (Nat.le_refl _) _ | exact ((Below.refl _ _).alloc (Nat.le_refl _) _).drew)) ⟨wc.heap.size, 0, none⟩ 1 1 [.string K, .bool false, .string vv] (by simp [Act.eval, Act.put]) rfl (cells3_new _ _ _ _ _) (by simp [Value.oneCell']) (by unfold maxLen; omega) (by omega) (Nat.le_trans HBc.out.size (by simp)) ?_; intro v9 w9 hown9 hg9 hn9; obtain ⟨g9, c9, rfl, _, _⟩ := own_slice hown9 (Nat.succ_pos m); have HO9 := Lib.hid hown9; have HB9 := Lib.hid (HBG.out _ _ (by first | exact ((Below.refl _ _).drew).alloc (Nat.le_refl _) _ | exact ((Below.refl _ _).alloc (Nat.le_refl _) _).drew) hg9); clear hown9 hg9 hn9)
              all_goals
                go_wp2_with fail
                go_roundg g
                case measure => omega
                case rel => exact ⟨i + 1, m + 1, _, c9, by omega, by go_num, rfl, by omega, Lib.hid (by rw [HNX.out, List.length_append, ← HM.out]; rfl), Lib.hid (by rw [HNX.out, wtC_snoc]; exact HO9.out), HB9⟩
          · have hltd : decide ((m : Int) < most) = false := by simpa using hlt
            have HNX := Lib.hid (show scanTo L lo hi t most (i + 1) = scanTo L lo hi t most i by rw [HSTEP.out, if_neg hlt])
            clear HSTEP
            rcases hcs with ⟨rfl, rfl, rfl, rfl⟩ | ⟨rfl, rfl, rfl, rfl, rfl⟩
            all_goals
              go_wp2_with fail
              go_roundg g
              case measure => omega
              case rel => exact ⟨i + 1, m, a', c, by omega, by go_num, rfl, by omega, Lib.hid (by rw [HNX.out]; exact HM.out), Lib.hid (by rw [HNX.out]; exact HOc.out), HBc⟩
end Go.Proofs.Ytdcefhhmddjodaa
