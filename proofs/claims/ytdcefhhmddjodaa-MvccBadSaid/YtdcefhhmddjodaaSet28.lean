/-
  The program's Decode.
-/
import Derived.Test.YtdcefhhmddjodaaSet27
import Derived.OwnWalk
import Derived.Laws.OwnMore
namespace Go.Proofs.Ytdcefhhmddjodaa
open Go.RowKit
set_option linter.unusedVariables false
set_option linter.unnecessarySimpa false
set_option linter.unusedSimpArgs false
set_option maxRecDepth 100000

theorem verInfoP : (Try.prog.info? 35).map (fun i => (i.zero, i.size, i.bytes)) = some (some (.agg #[.int .u64 0, .bool false, .string ⟨#[]⟩]), 3, 32) := by kernel_rfl
/-! Versions' cells, one behind the other. -/
def versC (l : List Vr) : List Value := l.flatMap fun v => [.int .u64 (v.time : Int), .bool v.gone, .string v.val]
theorem versC_len : ∀ l : List Vr, (versC l).length = l.length * 3
  | [] => rfl
  | v :: l => by
    have := versC_len l
    unfold versC at this ⊢
    rw [List.flatMap_cons, List.length_append, this, List.length_cons]
    simp; omega
theorem versC_snoc (l : List Vr) (v : Vr) : versC (l ++ [v]) = versC l ++ [.int .u64 (v.time : Int), .bool v.gone, .string v.val] := by simp [versC]
theorem versC_at : ∀ (l : List Vr) (i : Nat), i < l.length → (versC l)[i * 3]? = some (.int .u64 ((l.getD i vr0).time : Int)) ∧ (versC l)[i * 3 + 1]? = some (.bool (l.getD i vr0).gone) ∧ (versC l)[i * 3 + 2]? = some (.string (l.getD i vr0).val)
  | [], i, h => by simp at h
  | v :: l, 0, _ => ⟨rfl, rfl, rfl⟩
  | v :: l, i + 1, h => by
    have := versC_at l i (by simpa using h)
    have e : versC (v :: l) = [.int .u64 (v.time : Int), .bool v.gone, .string v.val] ++ versC l := by simp [versC]
    rw [e, show (i + 1) * 3 = 3 + i * 3 by omega, show 3 + i * 3 + 1 = 3 + (i * 3 + 1) by omega, show 3 + i * 3 + 2 = 3 + (i * 3 + 2) by omega]
    refine ⟨?_, ?_, ?_⟩
    · rw [List.getElem?_append_right (by simp)]; simpa using this.1
    · rw [List.getElem?_append_right (by simp)]; simpa using this.2.1
    · rw [List.getElem?_append_right (by simp)]; simpa using this.2.2
theorem versC_vers {w : World} {B n c : Nat} {a : Option Addr} {zs : List Vr} (h : w.ownsRow B 35 3 (.slice a n c) n (versC zs)) (hn : zs.length = n) (hl : n ≤ 1000) (ht : ∀ v ∈ zs, v.time < 18446744073709551616) (hv : ∀ v ∈ zs, v.val.size ≤ 60000) : IsVers w a n c zs := by
  refine ⟨⟨hn, fun i hi => ?_⟩, by unfold maxLen; omega⟩
  obtain ⟨g, cap, e, hg, hgl⟩ := own_slice h (by omega)
  injection e with e1 e2 e3
  subst e1 e3
  have hm : zs.getD i vr0 ∈ zs := by rw [List.getD, List.getElem?_eq_getElem (by omega)]; exact List.getElem_mem _
  obtain ⟨h0, h1, h2⟩ := versC_at zs i (by omega)
  refine ⟨g, 0, rfl, hgl, ht _ hm, by have := hv _ hm; unfold maxLen; omega, ?_, ?_, ?_⟩
  · rw [Nat.zero_add, h.cellAt (i * 3) (by omega)]; exact h0
  · rw [Nat.zero_add, h.cellAt (i * 3 + 1) (by omega)]; exact h1
  · rw [Nat.zero_add, h.cellAt (i * 3 + 2) (by omega)]; exact h2

theorem own_belowP {w w' : World} {base e n sz : Nat} {v : Value} {xs : List Value} (h : w.ownsRow base e sz v n xs) (hb : Below w.heap.size w w') : w'.ownsRow base e sz v n xs := by
  refine ⟨h.1, ?_⟩
  rcases h.2 with hn | ⟨g, cap, cur, rfl, hb0, hgg, rest⟩
  · exact .inl hn
  · exact .inr ⟨g, cap, cur, rfl, hb0, (hb.block g (Array.getElem?_eq_some_iff.1 hgg).1).trans hgg, rest⟩
def finO : DecO → DecO
  | .all zs [] => .all zs []
  | .all _ (_ :: _) => .form
  | x => x
theorem decB_none {l : List UInt8} (h : tk l = none) : decB l = .form := by unfold decB; rw [h]
theorem decB_big {l : List UInt8} {n k : Nat} (h : tk l = some (n, k)) (hn : 200 < n) : decB l = .form := by unfold decB; rw [h]; simp only; rw [if_pos hn]
theorem decB_some {l : List UInt8} {n k : Nat} (h : tk l = some (n, k)) (hn : n ≤ 200) : decB l = finO (decR n 0 [] 60000 (l.drop k)) := by
  unfold decB
  rw [h]
  simp only
  rw [if_neg (by omega)]
  cases decR n 0 [] 60000 (l.drop k) with
  | form => rfl
  | long => rfl
  | all zs r => cases r <;> rfl
theorem step_none {g t room : Nat} {base l : List UInt8} {acc : List Vr} (h : tkVer t base l = none) : finO ((decR (g + 1) t base room l).ahead acc) = .form := by rw [decR, h]; rfl
theorem step_long {g t room : Nat} {base l : List UInt8} {acc : List Vr} {v : Vr} {r : List UInt8} (h : tkVer t base l = some (v, r)) (hr : room < v.val.size) : finO ((decR (g + 1) t base room l).ahead acc) = .long := by
  rw [decR, h]; simp only; rw [if_pos hr]; rfl
theorem step_next {g t room : Nat} {base l : List UInt8} {acc : List Vr} {v : Vr} {r : List UInt8} (h : tkVer t base l = some (v, r)) (hr : v.val.size ≤ room) :
    finO ((decR (g + 1) t base room l).ahead acc) = finO ((decR g v.time (nextB base v) (room - v.val.size) r).ahead (acc ++ [v])) := by
  rw [decR, h]; simp only; rw [if_neg (by omega), DecO.ahead_snoc]
theorem tkVer_size {t : Nat} {base l : List UInt8} {v : Vr} {r : List UInt8} (ht : t < 18446744073709551616) (h : tkVer t base l = some (v, r)) : v.val.size ≤ base.length + l.length := by
  obtain ⟨e, ⟨_, _, k3⟩, _⟩ := tkVer_some ht h
  cases hg : v.gone with
  | true => rw [k3 hg]; exact Nat.zero_le _
  | false =>
    have h1 := tailN_le base v.val.data.toList
    have h2 := mkVal_len (b := base) (mid := midB base v.val.data.toList) (h := headN base v.val.data.toList) (t := tailN base v.val.data.toList) (by omega) (by omega)
    rw [mkVal_back, c_size] at h2
    have h3 := congrArg List.length e
    unfold verB at h3
    rw [hg] at h3
    simp only [Bool.false_eq_true, if_false] at h3
    rw [valB_body] at h3
    unfold bodyB at h3
    simp only [List.length_append, List.length_cons] at h3
    omega
/-- Versions handed back in new memory, beside an error. -/
def VersNew (zs : List Vr) (k : Int) (w : World) (e : Ending) (w' : World) : Prop := ∃ a c, e = .returned (.tuple #[.slice a zs.length c, .int .i64 k]) ∧ IsVers w' a zs.length c zs ∧ Below w.heap.size w w' ∧ w'.ownsRow w.heap.size 35 3 (.slice a zs.length c) zs.length (versC zs)
theorem VersNew.out {zs : List Vr} {k : Int} {w w' : World} {e : Ending} (h : VersNew zs k w e w') : VersOut zs k w e w' := by
  obtain ⟨a, c, h1, h2, h3, _⟩ := h
  exact ⟨a, c, h1, h2, h3⟩
theorem own_new {W : World} {B e size n : Nat} {a : Option Addr} {c : Nat} {xs : List Value} (h : W.ownsRow B e size (.slice a n c) n xs) {m : Nat} (hm : m ≤ B) : ∀ p : Addr, a = some p → m ≤ p.block ∧ p.block < W.heap.size := fun p hp => by
  subst hp
  exact ⟨Nat.le_trans hm (h.lt p.block rfl).1, (h.lt p.block rfl).2⟩
theorem own_lower {W : World} {B e size n : Nat} {v : Value} {xs : List Value} (h : W.ownsRow B e size v n xs) {m : Nat} (hm : m ≤ B) : W.ownsRow m e size v n xs := by
  refine ⟨h.1, ?_⟩
  rcases h.2 with hn | ⟨g, cap, cur, hv, hb, rest⟩
  · exact .inl hn
  · exact .inr ⟨g, cap, cur, hv, Nat.le_trans hm hb, rest⟩
/-- What Decode tells. -/
def DecEnd (F : DecO) (w : World) (e : Ending) (w' : World) : Prop := match F with
  | .form => VersNew [] 2 w e w'
  | .long => VersNew [] 3 w e w'
  | .all zs _ => VersNew zs 0 w e w'
theorem none_vers (w : World) : IsVers w none 0 0 [] := ⟨⟨rfl, fun i hi => absurd hi (by omega)⟩, Nat.zero_le _⟩
theorem dec_form {F : DecO} {w w' : World} (h : F = .form) (hb : Below w.heap.size w w') : DecEnd F w (.returned (.tuple #[.slice none 0 0, .int .i64 2])) w' := by
  rw [h]; exact ⟨none, 0, rfl, none_vers _, hb, World.ownsRow_nil _ _ _ _⟩
theorem dec_long {F : DecO} {w w' : World} (h : F = .long) (hb : Below w.heap.size w w') : DecEnd F w (.returned (.tuple #[.slice none 0 0, .int .i64 3])) w' := by
  rw [h]; exact ⟨none, 0, rfl, none_vers _, hb, World.ownsRow_nil _ _ _ _⟩
theorem dec_all {F : DecO} {zs : List Vr} {r : List UInt8} {w w' : World} {a : Option Addr} {n c : Nat} (h : F = .all zs r) (hn : zs.length = n) (hv : IsVers w' a n c zs) (hb : Below w.heap.size w w') (hp : w'.ownsRow w.heap.size 35 3 (.slice a n c) n (versC zs)) : DecEnd F w (.returned (.tuple #[.slice a n c, .int .i64 0])) w' := by
  rw [h]; subst hn; exact ⟨a, c, rfl, hv, hb, hp⟩

set_option maxHeartbeats 8000000 in
theorem decode_any (b : ByteArray) (hb : b.size ≤ 20000000) (w : World) : Calls Try.prog 80 #[.string b] w (DecEnd (decB b.data.toList) w) := by
  obtain ⟨F, hF⟩ : ∃ F, F = decB b.data.toList := ⟨_, rfl⟩
  rw [← hF]
  have hnew := Lib.hid (new_any b w)
  obtain ⟨n, X, bad, hU⟩ : ∃ n X bad, cUint b false = (n, X, bad) := ⟨_, _, _, rfl⟩
  have hk := Lib.hid (fun g W hW => cur_uint g b false W (by unfold maxLen; omega) hW)
  rw [hU] at hk
  have hcu := cU_len b false
  rw [hU] at hcu
  simp only at hcu
  obtain ⟨hXs, hn64⟩ := hcu
  -- what stands behind the number
  have hst : (bad = true ∧ n = 0 ∧ F = .form) ∨ (bad = false ∧ 200 < n ∧ F = .form) ∨ (bad = false ∧ n ≤ 200 ∧ F = finO (decR n 0 [] 60000 X.data.toList)) := by
    have eb : (⟨b.data.toList.toArray⟩ : ByteArray) = b := ba_ext (by simp)
    cases h : tk b.data.toList with
    | none =>
      have := uN_none h
      rw [eb, hU] at this
      cases this
      exact .inl ⟨rfl, rfl, hF.trans (decB_none h)⟩
    | some p =>
      obtain ⟨m, k⟩ := p
      have := uN_some h
      rw [eb, hU] at this
      cases this
      rcases Nat.lt_or_ge 200 n with h2 | h2
      · exact .inr (.inl ⟨rfl, h2, hF.trans (decB_big h h2)⟩)
      · exact .inr (.inr ⟨rfl, h2, hF.trans (decB_some h h2)⟩)
  clear hF hU
  have HST := Lib.hid hst
  have HXS := Lib.hid hXs
  clear hst hXs
  go_enter Try.func80, Try.ntmps80
  go_upto_region 3 with (first
    | (go_at_call 41; (with_reducible refine hnew.out.mono ?_); rintro e w1 ⟨rfl, hc1, hb1⟩; have hc1 := Lib.hid hc1; have hb1 := Lib.hid hb1)
    | (go_at_call 56; (with_reducible refine (hk.out _ _ hc1.out).mono ?_); rintro e w2 ⟨rfl, hc2, hg2⟩; have hc2 := Lib.hid hc2))
  have HB2 := Lib.hid (below_grown hb1.out hg2 (Nat.le_refl _))
  have hgl := CurAt.lt hc2.out
  obtain ⟨g, hg⟩ : ∃ g, g = w.heap.size := ⟨_, rfl⟩
  rw [← hg] at hc2 hgl ⊢
  have HGW := Lib.hid (show w.heap.size ≤ g by omega)
  clear hg hg2 hb1 hc1 hk hnew
  by_cases h200 : 200 < n
  · have hx := Lib.hid (show F = .form by rcases HST.out with h | h | h <;> first | exact h.2.2 | (exfalso; omega))
    have hz : (200 : Int) < (n : Int) := by omega
    clear h200 HST
    go_wp2_with fail
    go_ret2
    exact dec_form hx.out HB2.out
  · have hz : ¬ (200 : Int) < (n : Int) := by omega
    go_upto_region 8 with fail
    have hr3 := heap_alloc_new w2 (.cells (plc 0 ⟨#[]⟩) 147)
    have hc3 : CurAt (w2.alloc (.cells (plc 0 ⟨#[]⟩) 147)) g X bad := CurAt.kept hc2.out ((Below.refl _ _).alloc (Nat.le_refl _) _) hgl
    have hb3 := HB2.out.alloc HB2.out.size (.cells (plc 0 ⟨#[]⟩) 147)
    obtain ⟨P, hP⟩ : ∃ P, P = w2.heap.size := ⟨_, rfl⟩
    obtain ⟨w3, hw3⟩ : ∃ w3, w3 = w2.alloc (.cells (plc 0 ⟨#[]⟩) 147) := ⟨_, rfl⟩
    have hsz : w3.heap.size = P + 1 := by rw [hw3, hP]; simp
    rw [← hw3] at hr3 hc3 hb3
    unfold plc at hw3
    simp only [Int.natCast_zero] at hw3
    rw [← hP] at hr3 ⊢
    rw [← hw3]
    have hgP : g < P := by rw [hP]; exact hgl
    have R3 := Lib.hid hr3
    have C3 := Lib.hid hc3
    have B3 := Lib.hid hb3
    have HPW := Lib.hid (show w.heap.size ≤ P by rw [hP]; exact HB2.out.size)
    have HSZ := Lib.hid (Nat.le_of_eq hsz.symm)
    have HSX := Lib.hid (show (bad = true ∧ n = 0 ∧ F = .form) ∨ (bad = false ∧ F = finO ((decR n 0 (⟨#[]⟩ : ByteArray).data.toList 60000 X.data.toList).ahead [])) by
      rcases HST.out with h | h | h
      · exact .inl h
      · exfalso; omega
      · exact .inr ⟨h.1, by rw [DecO.ahead_nil]; exact h.2.2⟩)
    have hX2 : X.size ≤ 20000000 := Nat.le_trans HXS.out hb
    have hn2 : n ≤ 200 := by omega
    clear HST HXS hc2 HB2 hr3 hc3 hb3 hw3 hP hsz h200 hz hgl
    obtain ⟨i1, hj, hy0, hy1, hy2⟩ := info_parts verInfoP
    go_wp2_with fail
    go_loopg [6, 8, 18] n (fun q s6 s8 s18 wx => ∃ (i t room : Nat) (acc : List Vr) (bs L : ByteArray) (bd : Bool) (a : Option Addr) (c : Nat), i + q = n ∧ s6 = .slice a i c ∧ s8 = .int .i64 (room : Int) ∧ s18 = .int .u64 (i : Int) ∧
      room ≤ 60000 ∧ bs.size ≤ 60000 ∧ L.size ≤ 20000000 ∧ t < 18446744073709551616 ∧ Hid (acc.length = i) ∧ Hid (∀ v ∈ acc, v.time < 18446744073709551616 ∧ v.val.size ≤ 60000) ∧
      Hid (wx.ownsRow (P + 1) 35 3 (.slice a i c) i (versC acc)) ∧ Hid (CurAt wx g L bd) ∧ Hid (wx.heap[P]? = some (.cells (plc t bs) 147 (0, 0))) ∧ Hid (Below w.heap.size w wx) ∧ Hid (P + 1 ≤ wx.heap.size) ∧
      Hid ((bd = true ∧ q = 0 ∧ F = .form) ∨ (bd = false ∧ F = finO ((decR q t bs.data.toList room L.data.toList).ahead acc))))
    case atStart => exact ⟨0, 0, 60000, [], ⟨#[]⟩, X, bad, none, 0, by omega, rfl, rfl, rfl, by omega, by decide, hX2, by omega, Lib.hid rfl, Lib.hid (fun v h => by cases h), Lib.hid (World.ownsRow_nil _ _ _ _), C3, R3, B3, HSZ, HSX⟩
    case round =>
      obtain ⟨i, t, room, acc, bs, L, bd, a, c, hiq, rfl, rfl, rfl, hroom, hbs, hL, ht, hal, hav, hown, hcur, hrow, hbel, hpz, hout⟩ := hrel
      cases gk with
      | zero =>
        obtain rfl : i = n := by omega
        have HD := Lib.hid (done_any g L bd wr (by unfold maxLen; omega) hcur.out)
        by_cases hfin : bd = false ∧ L.size = 0
        · obtain ⟨rfl, hL0⟩ := hfin
          have hx := Lib.hid (show F = .all acc [] by
            rcases hout.out with h | h
            · cases h.1
            · have e : L.data.toList = [] := by have := c_size L; rw [hL0] at this; exact List.eq_nil_of_length_eq_zero this
              rw [h.2, decR, e]
              show finO (.all (acc ++ []) []) = _
              rw [List.append_nil]; rfl)
          have hd : (!false && L.size == 0) = true := by rw [hL0]; rfl
          rw [hd] at HD
          have HV := Lib.hid (versC_vers hown.out hal.out (by omega) (fun v h => (hav.out v h).1) (fun v h => (hav.out v h).2))
          clear hd hL0
          go_wp2_with (go_at_call 59; (with_reducible refine HD.out.mono ?_); rintro e w4 ⟨rfl, rfl⟩)
          go_ret2
          exact dec_all hx.out hal.out HV.out hbel.out (own_lower hown.out (Nat.le_succ_of_le HPW.out))
        · have hx := Lib.hid (show F = .form by
            rcases hout.out with h | h
            · exact h.2.2
            · have hne : ¬ L.size = 0 := fun e => hfin ⟨h.1, e⟩
              rw [h.2, decR]
              show finO (.all (acc ++ []) L.data.toList) = _
              cases hll : L.data.toList with
              | nil => exfalso; have := c_size L; rw [hll] at this; exact hne this.symm
              | cons x r => rfl)
          have hd : (!bd && L.size == 0) = false := by
            cases bd with
            | true => rfl
            | false => simpa using hfin
          rw [hd] at HD
          clear hd hfin
          go_wp2_with (go_at_call 59; (with_reducible refine HD.out.mono ?_); rintro e w4 ⟨rfl, rfl⟩)
          go_ret2
          exact dec_form hx.out hbel.out
      | succ q =>
        have hout2 : bd = false ∧ F = finO ((decR (q + 1) t bs.data.toList room L.data.toList).ahead acc) := by
          rcases hout.out with h | h
          · exact absurd h.2.1 (by omega)
          · exact h
        obtain ⟨rfl, hF⟩ := hout2
        have hil : i < n := by omega
        have hiz : (i : Int) < (n : Int) := by omega
        have HTV := Lib.hid (takeVersion_any g t bs L.data.toList wr ht hbs (by rw [c_size]; exact hL) (cur_list hcur.out))
        have HVO := Lib.hid (show ∀ e w', VerOut g (tkVer t bs.data.toList L.data.toList) wr e w' → ∃ (zt : Nat) (zg : Bool) (zv : ByteArray) (ok : Bool), e = .returned (.tuple #[.agg #[.int .u64 (zt : Int), .bool zg, .string zv], .bool ok]) ∧ Hid (wr.grownBy w' (some g)) ∧
            Hid ((ok = false ∧ F = .form) ∨ (ok = true ∧ zt < 18446744073709551616 ∧ zv.size ≤ 20060000 ∧ ∃ r, r.length ≤ 20000000 ∧ CurAt w' g ⟨r.toArray⟩ false ∧ (room < zv.size → F = .long) ∧ (zv.size ≤ room → F = finO ((decR q zt (nextS bs ⟨zt, zg, zv⟩).data.toList (room - zv.size) r).ahead (acc ++ [⟨zt, zg, zv⟩]))))) from fun e w' h => by
          rcases h with ⟨z, rfl, hx, hg⟩ | ⟨z, r, rfl, hx, hcu, hg⟩
          · exact ⟨z.time, z.gone, z.val, false, rfl, Lib.hid hg, Lib.hid (.inl ⟨rfl, hF.trans (step_none hx)⟩)⟩
          · obtain ⟨zt, zg, zv⟩ := z
            have hs := tkVer_size ht hx
            obtain ⟨_, ⟨_, k2, _⟩, hlen⟩ := tkVer_some ht hx
            rw [c_size, c_size] at hs
            rw [c_size] at hlen
            simp only at hs k2
            exact ⟨zt, zg, zv, true, rfl, Lib.hid hg, Lib.hid (.inr ⟨rfl, k2, by omega, r, by omega, hcu, fun h => hF.trans (step_long hx h), fun h => by rw [nextS_list]; exact hF.trans (step_next hx h)⟩)⟩)
        have hpsz : (Try.prog.info? 147).map (·.size) = some (plc t bs).size := plc_size
        obtain ⟨ps, hps⟩ : ∃ ps, ps = plc t bs := ⟨_, rfl⟩
        rw [← hps] at HTV hpsz hrow
        have HPS := Lib.hid hps
        clear hF hout hps
        go_upto_region 11 with (first
          | (refine wpList_load_row rfl 147 _ rfl P rfl 147 ps (0, 0) _ hrow.out Try.underlying147 rfl hpsz ?_; dsimp only [Act.put])
          | (go_at_call 95; (with_reducible refine HTV.out.mono ?_); intro e w4 h4; obtain ⟨zt, zg, zv, ok, rfl, hg4, hc4⟩ := HVO.out e w4 h4; clear h4))
        have hg5 := grownBy_trans hg4.out (grown_of_below (r := some g) ((Below.refl _ _).alloc (Nat.le_refl w4.heap.size) (.cells #[.int .u64 (zt : Int), .bool zg, .string zv] 35)))
        have hr5 := heap_alloc_new w4 (.cells #[.int .u64 (zt : Int), .bool zg, .string zv] 35)
        have hcur5 : ∀ r : List UInt8, CurAt w4 g ⟨r.toArray⟩ false → CurAt (w4.alloc (.cells #[.int .u64 (zt : Int), .bool zg, .string zv] 35)) g ⟨r.toArray⟩ false := fun r h => CurAt.kept h ((Below.refl _ _).alloc (Nat.le_refl _) _) (CurAt.lt h)
        have hs5 : (w4.alloc (.cells #[.int .u64 (zt : Int), .bool zg, .string zv] 35)).heap.size = w4.heap.size + 1 := by simp
        obtain ⟨v, hv⟩ : ∃ v, v = w4.heap.size := ⟨_, rfl⟩
        obtain ⟨w5, hw5⟩ : ∃ w5, w5 = w4.alloc (.cells #[.int .u64 (zt : Int), .bool zg, .string zv] 35) := ⟨_, rfl⟩
        rw [← hw5] at hg5 hr5 hcur5 hs5 ⊢
        rw [← hv] at hr5 hs5 ⊢
        have hvr : wr.heap.size ≤ v := by rw [hv]; exact hg4.out.size
        have hB5 : Below w.heap.size w w5 := below_grown hbel.out hg5 HGW.out
        have HB5 := Lib.hid hB5
        have HR5 := Lib.hid hr5
        have HC5 := Lib.hid hcur5
        have HO5 := Lib.hid (own_grown hown.out hg5 (show g < P + 1 by omega))
        have hPr := (Array.getElem?_eq_some_iff.1 hrow.out).1
        have HP5 := Lib.hid ((hg5.block P hPr (fun e => by injection e with e; omega)).trans hrow.out)
        have HVR := Lib.hid hvr
        have HS5 := Lib.hid hs5
        have hc4 := Lib.hid hc4.out
        have hvc := (cells3 hr5).2.2
        have HLT := Lib.hid (fun k hk => hown.out.lt k hk)
        have HPZ := Lib.hid hpz.out
        clear hw5 hv hg5 hr5 hcur5 hs5 hvr hB5 hPr hcur hrow hown hbel HTV HVO hg4 hpz
        rcases hc4.out with ⟨rfl, hx⟩ | ⟨rfl, hzt, hzv, r, hrl, hcr, hxl, hxn⟩
        · have HX := Lib.hid hx
          clear hx hc4 hvc
          go_wp2_with fail
          go_ret2
          exact dec_form HX.out HB5.out
        · by_cases hlong : room < zv.size
          · have HX := Lib.hid (hxl hlong)
            have z1 : (room : Int) - (zv.size : Int) < 0 := by omega
            clear hxl hxn hc4 hlong
            go_wp2_with fail
            go_ret2
            exact dec_long HX.out HB5.out
          · have HX := Lib.hid (hxn (by omega))
            have hzr : zv.size ≤ room := by omega
            have z1 : (room : Int) - (zv.size : Int) = ((room - zv.size : Nat) : Int) := by omega
            have z2 : ¬ ((room - zv.size : Nat) : Int) < 0 := by omega
            have HCR := Lib.hid hcr
            clear hxl hxn hc4 hlong hcr
            go_upto_region 16 with fail
            clear z1 z2
            obtain ⟨cs, hcs⟩ : ∃ cs : List Value, cs = [.int .u64 (zt : Int), .bool zg, .string zv] := ⟨_, rfl⟩
            have hc3 := Lib.hid (show ∀ (W : World), ∀ j u, [Value.int .u64 (zt : Int), .bool zg, .string zv][j]? = some u → (W.alloc (.cells #[.int .u64 (zt : Int), .bool zg, .string zv] 35)).cell? ((⟨W.heap.size, 0, none⟩ : Addr).add j) = some u from fun W j u h => by
              have hadd : (⟨W.heap.size, 0, none⟩ : Addr).add j = ⟨W.heap.size, j, none⟩ := by unfold Addr.add; split <;> simp_all
              rw [hadd, cell_of_row _ _ _ _ _ _ (heap_alloc_new W _)]
              simpa using h)
            have q1 := Lib.hid (HO5.out.alloc (.cells #[.int .u64 (zt : Int), .bool zg, .string zv] 35))
            have q3 := Lib.hid (show ∀ u ∈ [Value.int .u64 (zt : Int), .bool zg, .string zv], u.oneCell' = true by simp [Value.oneCell'])
            have q4 := Lib.hid (show (i + 1) * 32 ≤ 140737488355328 by omega)
            have q5 := Lib.hid (show i + 1 ≤ maxLen by unfold maxLen; omega)
            have q6 := Lib.hid (show P + 1 ≤ (w5.alloc (.cells #[.int .u64 (zt : Int), .bool zg, .string zv] 35)).heap.size by simp; have := HS5.out; have := HVR.out; have := HPZ.out; omega)
            have q8 := Lib.hid (HB5.out.alloc HB5.out.size (.cells #[.int .u64 (zt : Int), .bool zg, .string zv] 35))
            have hkeep := Lib.hid (show ∀ (w9 : World) (y : Nat) (o : Obj), (w5.alloc (.cells #[.int .u64 (zt : Int), .bool zg, .string zv] 35)).grownBy w9 (Value.slice a i c).ownBlock → (y < P + 1 ∨ y = v) → w5.heap[y]? = some o → w9.heap[y]? = some o from fun w9 y o hg hy ho => by
              have hyl := (Array.getElem?_eq_some_iff.1 ho).1
              rw [hg.block y (by simp; omega) (fun e => by have := HLT.out y e.symm; have := HVR.out; omega), heap_alloc_old w5 _ hyl]
              exact ho)
            obtain ⟨c0, c1, c2⟩ := cells3 HR5.out
            clear hcs hvc
            go_upto_region 17 with (at_builtin; refine wpList_append_own _ rfl _ _ 71 rfl (P + 1) 35 i1 (.agg #[.int .u64 0, .bool false, .string ⟨#[]⟩]) 3 32 Try.underlying71 hj hy0 hy1 hy2 rfl (by decide) (.slice a i c) i (versC acc) rfl q1.out ⟨w5.heap.size, 0, none⟩ 1 1 [.int .u64 (zt : Int), .bool zg, .string zv] rfl rfl (hc3.out w5) q3.out q5.out q4.out q6.out ?_; intro v9 w9 hown9 hg9 hn9; obtain ⟨g9, c9, rfl, _, _⟩ := own_slice hown9 (Nat.succ_pos i))
            have hP9 := hkeep.out w9 P _ hg9 (.inl (by omega)) HP5.out
            have hR9 := hkeep.out w9 v _ hg9 (.inr rfl) HR5.out
            have hC9 : CurAt w9 g ⟨r.toArray⟩ false := hkeep.out w9 g _ hg9 (.inl (by omega)) (HC5.out r HCR.out)
            have hB9 : Below w.heap.size w w9 := q8.out.grown hg9 q8.out.size (fun k hk => by have := (HLT.out k hk).1; have := HPW.out; omega)
            have hO9 : w9.ownsRow (P + 1) 35 3 (.slice (some ⟨g9, 0, none⟩) (i + 1) c9) (i + 1) (versC (acc ++ [⟨zt, zg, zv⟩])) := by rw [versC_snoc]; exact hown9
            have hz9 : P + 1 ≤ w9.heap.size := Nat.le_trans q6.out hg9.size
            have hbe := fun W => behind_any t bs ⟨zt, zg, zv⟩ W
            rw [← HPS.out] at hbe
            obtain ⟨ns, hns⟩ : ∃ ns, ns = plc zt (nextS bs ⟨zt, zg, zv⟩) := ⟨_, rfl⟩
            have hnsz : (Try.prog.info? 147).map (·.size) = some ns.size := by rw [hns]; exact plc_size
            have hpn : ps.size = ns.size := by rw [hns, HPS.out]; rfl
            have hone : ns.all (·.oneCell') = true := by rw [hns]; simp [plc, Value.oneCell']
            simp only at hbe
            rw [← hns] at hbe
            unfold Vr.cells at hbe
            simp only at hbe
            have HNS := Lib.hid hns
            have HBE := Lib.hid hbe
            have P9 := Lib.hid hP9
            have R9 := Lib.hid hR9
            have C9 := Lib.hid hC9
            have B9 := Lib.hid hB9
            have O9 := Lib.hid hO9
            have Z9 := Lib.hid hz9
            have hbs2 : (nextS bs ⟨zt, zg, zv⟩).size ≤ 60000 := by
              unfold nextS
              split
              · exact hbs
              · show zv.size ≤ 60000
                omega
            obtain ⟨d0, d1, d2⟩ := cells3 R9.out
            clear hP9 hR9 hC9 hB9 hO9 hz9 hown9 hg9 hn9 hkeep hbe hns q1 q3 q4 q5 q6 q8 hc3 c0 c1 c2 HP5 HR5 HC5 HB5 HO5 HCR HVR HS5 HLT
            go_wp2_with (first
              | (refine wpList_load_row rfl 147 _ rfl P rfl 147 ps (0, 0) _ P9.out Try.underlying147 rfl hpsz ?_; dsimp only [Act.put])
              | (go_at_call 96; (with_reducible refine (HBE.out _).mono ?_); rintro e w10 ⟨rfl, hb10⟩; have P10 := Lib.hid ((hb10.block P (Array.getElem?_eq_some_iff.1 P9.out).1).trans P9.out); have C10 := Lib.hid (CurAt.kept C9.out hb10 (CurAt.lt C9.out)); have B10 := Lib.hid (B9.out.trans (hb10.mono B9.out.size)); have O10 := Lib.hid (own_belowP O9.out hb10); have Z10 := Lib.hid (Nat.le_trans Z9.out hb10.size); clear hb10)
              | (refine wpList_store_row rfl 147 _ _ rfl P ns rfl rfl 147 ps P10.out hnsz hpn hone ?_))
            go_roundg q
            case measure => omega
            case rel =>
              refine ⟨i + 1, zt, room - zv.size, acc ++ [⟨zt, zg, zv⟩], nextS bs ⟨zt, zg, zv⟩, ⟨r.toArray⟩, false, some ⟨g9, 0, none⟩, c9, by omega, rfl, rfl, by go_num, by omega, hbs2, by rw [arr_size]; exact hrl, hzt, Lib.hid ?_, Lib.hid ?_, Lib.hid ?_, Lib.hid (cur_setRow C10.out hgP), Lib.hid ?_, Lib.hid (below_setRow B10.out HPW.out _), Lib.hid (by simpa using Z10.out), Lib.hid (.inr ⟨rfl, HX.out⟩)⟩
              · rw [List.length_append, hal.out]; rfl
              · intro x hx
                rcases List.mem_append.1 hx with hx | hx
                · exact hav.out x hx
                · rw [List.mem_singleton.1 hx]; exact ⟨hzt, by simp only; omega⟩
              · exact own_grown O10.out grown_setRow (by omega)
              · rw [setRow_heap _ _ _ _ _ _ P10.out, HNS.out]
end Go.Proofs.Ytdcefhhmddjodaa
