/-
  The document's Stands.
-/
import Derived.Test.YtlkifliaaaomeaaLogRef
import Derived.Test.YtlkifliaaaomeaaClass
import Derived.Test.YtlkifliaaaomeaaBuildOne
import Derived.Deep.LoopGhost
import Derived.Lib.IndexBytes
import Derived.Lib.Strings
namespace Go.Proofs.Ytlkifliaaaomeaa
open Go.RowKit
set_option linter.unusedVariables false
set_option linter.unnecessarySimpa false
set_option linter.unusedSimpArgs false
set_option maxRecDepth 100000

def strCells (l : List (List UInt8)) : List Value := l.map fun x => Value.string ⟨x.toArray⟩
theorem logStrInfo : (Try.prog.info? 9).map (fun i => (i.zero, i.size, i.bytes)) = some (some (.string ByteArray.empty), 1, 16) := by kernel_rfl
/-- What is answered. -/
def StandsOut (w : World) (l : List UInt8) (e : Ending) (w' : World) : Prop :=
  ∃ v, e = .returned (.tuple #[v, .int .i64 (endOf (stands l) : Int)]) ∧ w'.ownsRow w.heap.size 9 1 v (stands l).length (strCells (stands l)) ∧ Below w.heap.size w w'

/-- What comes next, case by case. -/
theorem next_cases (l : List UInt8) : (l.length ≤ 6 ∧ nextR l = none) ∨ (6 < l.length ∧ (sayN l < 1 ∨ 4000 < sayN l ∨ l.length < 6 + sayN l) ∧ nextR l = none) ∨
    (6 < l.length ∧ 1 ≤ sayN l ∧ sayN l ≤ 4000 ∧ 6 + sayN l ≤ l.length ∧ recB ((l.drop 6).take (sayN l)) ≠ l.take (6 + sayN l) ∧ nextR l = none) ∨
    (6 < l.length ∧ 1 ≤ sayN l ∧ sayN l ≤ 4000 ∧ 6 + sayN l ≤ l.length ∧ recB ((l.drop 6).take (sayN l)) = l.take (6 + sayN l) ∧ nextR l = some ((l.drop 6).take (sayN l))) := by
  unfold nextR
  by_cases h1 : l.length ≤ 6
  · left; exact ⟨h1, if_pos h1⟩
  right
  by_cases h2 : sayN l < 1 ∨ 4000 < sayN l ∨ l.length < 6 + sayN l
  · left; exact ⟨by omega, h2, by rw [if_neg h1, if_pos h2]⟩
  right
  by_cases h3 : recB ((l.drop 6).take (sayN l)) = l.take (6 + sayN l)
  · right; exact ⟨by omega, by omega, by omega, by omega, h3, by rw [if_neg h1, if_neg h2, if_pos h3]⟩
  · left; exact ⟨by omega, by omega, by omega, by omega, h3, by rw [if_neg h1, if_neg h2, if_neg h3]⟩

theorem say_at {b : ByteArray} {at_ : Nat} (h : at_ + 6 < b.size) : sayN (b.data.toList.drop at_) = (b[at_]'(by omega)).toNat * 256 + (b[at_ + 1]'(by omega)).toNat := by
  have h1 := Lib.data_getElem? b at_ (by omega)
  have h2 := Lib.data_getElem? b (at_ + 1) (by omega)
  unfold sayN
  rw [List.getD, List.getD, List.getElem?_drop, List.getElem?_drop, Nat.add_zero, h1, h2]
  rfl

set_option maxHeartbeats 4000000 in
theorem refStands_any (b : ByteArray) (hb : b.size ≤ 300000) (w : World) : Calls Try.prog 16 #[.string b] w (StandsOut w b.data.toList) := by
  obtain ⟨i0, hi, hy0, hy1, hy2⟩ := info_parts logStrInfo
  go_enter Try.func16, Try.ntmps16
  go_wp2_with fail
  go_loopg [4, 5] b.size (fun g s4 s5 wx => ∃ (done : List (List UInt8)) (at_ : Nat), s5 = .int .i64 at_ ∧ Hid (at_ = endOf done) ∧ at_ ≤ b.size ∧ b.size - at_ ≤ g ∧ Hid (done.length ≤ at_) ∧ Hid (stands b.data.toList = done ++ stands (b.data.toList.drop at_)) ∧
    wx.ownsRow w.heap.size 9 1 s4 done.length (strCells done) ∧ Hid (Below w.heap.size w wx))
  case atStart => exact ⟨[], 0, rfl, Lib.hid rfl, by omega, by omega, Lib.hid (Nat.le_refl _), Lib.hid (by simp), ⟨rfl, .inl ⟨rfl, rfl⟩⟩, Lib.hid (Below.refl _ _)⟩
  case round =>
    obtain ⟨done, at_, rfl, hat, hle, hg, hdl, hst, hown, hbl⟩ := hrel
    have hrl : (b.data.toList.drop at_).length = b.size - at_ := by rw [List.length_drop, ← Lib.size_eq]
    obtain ⟨R, hR⟩ : ∃ R, R = b.data.toList.drop at_ := ⟨_, rfl⟩
    rw [← hR] at hst hrl
    have hexit : nextR R = none → ∀ wz, Below wr.heap.size wr wz → StandsOut w b.data.toList (.returned (.tuple #[u4, .int .i64 (at_ : Int)])) wz := by
      intro hn wz hbz
      have e : stands b.data.toList = done := by rw [hst.out, stands_none hn, List.append_nil]
      exact ⟨u4, by rw [e, hat.out], by rw [e]; exact own_below hown hbz, hbl.out.trans (hbz.mono hbl.out.size)⟩
    rcases next_cases R with ⟨h1, hn⟩ | ⟨h1, h2, hn⟩ | ⟨h1, h2, h3, h4, h5, hn⟩ | ⟨h1, h2, h3, h4, h5, hn⟩
    · have HX := Lib.hid (hexit hn)
      have hz : ¬ (at_ : Int) + 6 < (b.size : Int) := by omega
      have hzd : decide ((at_ : Int) + 6 < (b.size : Int)) = false := by simpa using hz
      have hzd2 : decide (at_ + 6 < b.size) = false := by rw [decide_eq_false_iff_not]; omega
      clear hexit hn hst hat hdl
      go_wp2_with fail
      go_ret2
      exact HX.out _ (Below.refl _ _)
    · have HX := Lib.hid (hexit hn)
      have hz : (at_ : Int) + 6 < (b.size : Int) := by omega
      have hsay := say_at (b := b) (at_ := at_) (by omega)
      rw [← hR] at hsay
      obtain ⟨x, hx⟩ : ∃ x : UInt8, b[at_]'(by omega) = x := ⟨_, rfl⟩
      obtain ⟨y, hy⟩ : ∃ y : UInt8, b[at_ + 1]'(by omega) = y := ⟨_, rfl⟩
      rw [hx, hy] at hsay
      have hx8 := UInt8.toNat_lt x
      have hy8 := UInt8.toNat_lt y
      have hxz : (x.toNat : Int) < 256 := by omega
      have hyz : (y.toNat : Int) < 256 := by omega
      have hz1 : (at_ : Int) < (b.size : Int) := by omega
      have hz2 : (at_ : Int) + 1 < (b.size : Int) := by omega
      have hz3 : at_ + 1 < b.size := by omega
      have hz4 : at_ < b.size := by omega
      obtain ⟨n, hnn⟩ : ∃ n, n = x.toNat * 256 + y.toNat := ⟨_, rfl⟩
      have hnz := Lib.hid (show (x.toNat : Int) * 256 + (y.toNat : Int) = (n : Int) by omega)
      have hcs : ((n : Int) < 1) ∨ (¬ (n : Int) < 1 ∧ (4000 : Int) < (n : Int)) ∨ (¬ (n : Int) < 1 ∧ ¬ (4000 : Int) < (n : Int) ∧ (b.size : Int) < (at_ : Int) + 6 + (n : Int)) := by omega
      have hk1 := Lib.hid (show IntKind.i64.wrap ((at_ : Int) + 1) = (at_ : Int) + 1 from IntWalk.i64_in _ (by omega))
      have hk2 := Lib.hid (show IntKind.i64.wrap ((x.toNat : Int) * 256) = (x.toNat : Int) * 256 from IntWalk.i64_in _ (by omega))
      have hk3 := Lib.hid (show IntKind.i64.wrap ((x.toNat : Int) * 256 + (y.toNat : Int)) = (x.toNat : Int) * 256 + (y.toNat : Int) from IntWalk.i64_in _ (by omega))
      have hk4 : ((at_ : Int) + 1).toNat = at_ + 1 := by omega
      clear hexit hn hst hat hdl h2 hsay hR
      go_upto_region 4 with fail
      have q1 := hk1.out
      have q2 := hk2.out
      have q3 := hk3.out
      go_quiet (fail)
      clear q1 q2 q3 hk4
      rw [hnz.out]
      rcases hcs with c1 | ⟨c1, c2⟩ | ⟨c1, c2, c3⟩
      all_goals
        go_wp2_with fail
        go_ret2
        exact HX.out _ ⟨rfl, rfl, rfl, Nat.le_refl _, fun _ _ => rfl⟩
    · have HX := Lib.hid (hexit hn)
      have hz : (at_ : Int) + 6 < (b.size : Int) := by omega
      have hsay := say_at (b := b) (at_ := at_) (by omega)
      rw [← hR] at hsay
      obtain ⟨x, hx⟩ : ∃ x : UInt8, b[at_]'(by omega) = x := ⟨_, rfl⟩
      obtain ⟨y, hy⟩ : ∃ y : UInt8, b[at_ + 1]'(by omega) = y := ⟨_, rfl⟩
      rw [hx, hy] at hsay
      have hx8 := UInt8.toNat_lt x
      have hy8 := UInt8.toNat_lt y
      have hxz : (x.toNat : Int) < 256 := by omega
      have hyz : (y.toNat : Int) < 256 := by omega
      have hz1 : (at_ : Int) < (b.size : Int) := by omega
      have hz2 : (at_ : Int) + 1 < (b.size : Int) := by omega
      have hz3 : at_ + 1 < b.size := by omega
      have hz4 : at_ < b.size := by omega
      obtain ⟨n, hnn⟩ : ∃ n, n = x.toNat * 256 + y.toNat := ⟨_, rfl⟩
      have hnz := Lib.hid (show (x.toNat : Int) * 256 + (y.toNat : Int) = (n : Int) by omega)
      have hns : sayN R = n := by omega
      have c1 : ¬ (n : Int) < 1 := by omega
      have c2 : ¬ (4000 : Int) < (n : Int) := by omega
      have c3 : ¬ (b.size : Int) < (at_ : Int) + 6 + (n : Int) := by omega
      have c4 : at_ + 6 + n ≤ b.size := by omega
      have hk1 := Lib.hid (show IntKind.i64.wrap ((at_ : Int) + 1) = (at_ : Int) + 1 from IntWalk.i64_in _ (by omega))
      have hk2 := Lib.hid (show IntKind.i64.wrap ((x.toNat : Int) * 256) = (x.toNat : Int) * 256 from IntWalk.i64_in _ (by omega))
      have hk3 := Lib.hid (show IntKind.i64.wrap ((x.toNat : Int) * 256 + (y.toNat : Int)) = (x.toNat : Int) * 256 + (y.toNat : Int) from IntWalk.i64_in _ (by omega))
      have hk5 := Lib.hid (show IntKind.i64.wrap ((at_ : Int) + 6) = (at_ : Int) + 6 from IntWalk.i64_in _ (by omega))
      have hk6 := Lib.hid (show IntKind.i64.wrap ((at_ : Int) + 6 + (n : Int)) = (at_ : Int) + 6 + (n : Int) from IntWalk.i64_in _ (by omega))
      have hk4 : ((at_ : Int) + 1).toNat = at_ + 1 := by omega
      rw [hns] at h5
      obtain ⟨r, hr⟩ : ∃ r, r = b.extract (at_ + 6) (at_ + 6 + n) := ⟨_, rfl⟩
      obtain ⟨t, ht⟩ : ∃ t, t = b.extract at_ (at_ + 6 + n) := ⟨_, rfl⟩
      have hrl2 : r.data.toList = (R.drop 6).take n := by rw [hr, hR, Lib.extract_data, List.drop_drop]; congr 1; omega
      have htl : t.data.toList = R.take (6 + n) := by rw [ht, hR, Lib.extract_data]; congr 1; omega
      have hrs : r.size = n := by rw [hr, ByteArray.size_extract]; omega
      have HMA := Lib.hid (made_any r (by omega))
      obtain ⟨P, hP⟩ : ∃ P, P = recS r := ⟨_, rfl⟩
      rw [← hP] at HMA
      have hne : (P.toList == t.toList) = false := by
        rw [beq_eq_false_iff_ne, Lib.toList_data, Lib.toList_data]
        intro e
        apply h5
        rw [← hrl2, ← htl, ← e, hP]
        rfl
      have HR1 := Lib.hid hr.symm
      have HT1 := Lib.hid ht.symm
      clear hexit hn hst hat hdl h2 h3 h4 h5 hsay hR hns hrl2 htl hr ht hnn hP
      go_upto_region 4 with fail
      have q1 := hk1.out
      have q2 := hk2.out
      have q3 := hk3.out
      go_quiet (fail)
      clear q1 q2 q3 hk4
      rw [hnz.out]
      go_upto_region 7 with fail
      rw [HR1.out]
      have q5 := hk5.out
      have q6 := hk6.out
      have q7 := HT1.out
      obtain ⟨W, hW⟩ : ∃ W, W = wr.drewN nq := ⟨_, rfl⟩
      have HBW := Lib.hid (show Below wr.heap.size wr W by rw [hW]; exact ⟨rfl, rfl, rfl, Nat.le_refl _, fun _ _ => rfl⟩)
      rw [← hW]
      clear hW
      refine region_likes (by kernel_rfl) (by kernel_rfl) ?_
      repeat (go_big_quiet_step ((go_at_call 12; exact calls_likes (Like.size _) (HMA.out _))))
      refine wpQuiet_nil ?_
      intro x2
      have HBX := Lib.hid (show Below wr.heap.size wr x2.val from HBW.out.trans (x2.below.mono HBW.out.size))
      go_wp2_with fail
      go_ret2
      exact HX.out _ HBX.out
    · clear hexit
      have hz : (at_ : Int) + 6 < (b.size : Int) := by omega
      have hsay := say_at (b := b) (at_ := at_) (by omega)
      rw [← hR] at hsay
      obtain ⟨x, hx⟩ : ∃ x : UInt8, b[at_]'(by omega) = x := ⟨_, rfl⟩
      obtain ⟨y, hy⟩ : ∃ y : UInt8, b[at_ + 1]'(by omega) = y := ⟨_, rfl⟩
      rw [hx, hy] at hsay
      have hx8 := UInt8.toNat_lt x
      have hy8 := UInt8.toNat_lt y
      have hxz : (x.toNat : Int) < 256 := by omega
      have hyz : (y.toNat : Int) < 256 := by omega
      have hz1 : (at_ : Int) < (b.size : Int) := by omega
      have hz2 : (at_ : Int) + 1 < (b.size : Int) := by omega
      have hz3 : at_ + 1 < b.size := by omega
      have hz4 : at_ < b.size := by omega
      obtain ⟨n, hnn⟩ : ∃ n, n = x.toNat * 256 + y.toNat := ⟨_, rfl⟩
      have hnz := Lib.hid (show (x.toNat : Int) * 256 + (y.toNat : Int) = (n : Int) by omega)
      have hns : sayN R = n := by omega
      have c1 : ¬ (n : Int) < 1 := by omega
      have c2 : ¬ (4000 : Int) < (n : Int) := by omega
      have c3 : ¬ (b.size : Int) < (at_ : Int) + 6 + (n : Int) := by omega
      have c4 : at_ + 6 + n ≤ b.size := by omega
      have hk1 := Lib.hid (show IntKind.i64.wrap ((at_ : Int) + 1) = (at_ : Int) + 1 from IntWalk.i64_in _ (by omega))
      have hk2 := Lib.hid (show IntKind.i64.wrap ((x.toNat : Int) * 256) = (x.toNat : Int) * 256 from IntWalk.i64_in _ (by omega))
      have hk3 := Lib.hid (show IntKind.i64.wrap ((x.toNat : Int) * 256 + (y.toNat : Int)) = (x.toNat : Int) * 256 + (y.toNat : Int) from IntWalk.i64_in _ (by omega))
      have hk5 := Lib.hid (show IntKind.i64.wrap ((at_ : Int) + 6) = (at_ : Int) + 6 from IntWalk.i64_in _ (by omega))
      have hk6 := Lib.hid (show IntKind.i64.wrap ((at_ : Int) + 6 + (n : Int)) = (at_ : Int) + 6 + (n : Int) from IntWalk.i64_in _ (by omega))
      have hk4 : ((at_ : Int) + 1).toNat = at_ + 1 := by omega
      rw [hns] at h5
      obtain ⟨r, hr⟩ : ∃ r, r = b.extract (at_ + 6) (at_ + 6 + n) := ⟨_, rfl⟩
      obtain ⟨t, ht⟩ : ∃ t, t = b.extract at_ (at_ + 6 + n) := ⟨_, rfl⟩
      have hrl2 : r.data.toList = (R.drop 6).take n := by rw [hr, hR, Lib.extract_data, List.drop_drop]; congr 1; omega
      have htl : t.data.toList = R.take (6 + n) := by rw [ht, hR, Lib.extract_data]; congr 1; omega
      have hrs : r.size = n := by rw [hr, ByteArray.size_extract]; omega
      have HMA := Lib.hid (made_any r (by omega))
      have hsn := stands_some hn
      rw [hns] at hn hsn
      have hrR : (R.drop 6).take n = r.data.toList := hrl2.symm
      rw [hrR] at hsn h5
      have hrlen : r.data.toList.length = n := by rw [← Lib.size_eq]; exact hrs
      obtain ⟨P, hP⟩ : ∃ P, P = recS r := ⟨_, rfl⟩
      rw [← hP] at HMA
      have hne : (P.toList == t.toList) = true := by
        rw [beq_iff_eq, Lib.toList_data, Lib.toList_data, htl, hP]
        exact h5
      have hst2 := Lib.hid (show stands b.data.toList = (done ++ [r.data.toList]) ++ stands (b.data.toList.drop (at_ + (6 + n))) by
        rw [hst.out, hsn, hrlen, hR, List.drop_drop]; simp)
      have hat2 := Lib.hid (show at_ + (6 + n) = endOf (done ++ [r.data.toList]) by rw [endOf_snoc, hrlen, ← hat.out])
      have hdl2 := Lib.hid (show (done ++ [r.data.toList]).length ≤ at_ + (6 + n) by rw [List.length_append]; have := hdl.out; simp; omega)
      have hln := hdl.out
      have HR1 := Lib.hid hr.symm
      have HT1 := Lib.hid ht.symm
      have hk7 := Lib.hid (show strCells (done ++ [r.data.toList]) = strCells done ++ [Value.string r] by simp [strCells])
      clear hn hsn hrR h5 hst hat hdl h2 h3 h4 hsay hR hns hrl2 htl hr ht hnn hP hrlen hrs
      go_upto_region 4 with fail
      have q1 := hk1.out
      have q2 := hk2.out
      have q3 := hk3.out
      go_quiet (fail)
      clear q1 q2 q3 hk4
      rw [hnz.out]
      go_upto_region 7 with fail
      rw [HR1.out]
      have q5 := hk5.out
      have q6 := hk6.out
      have q7 := HT1.out
      obtain ⟨W, hW⟩ : ∃ W, W = wr.drewN nq := ⟨_, rfl⟩
      have HBW := Lib.hid (show Below wr.heap.size wr W by rw [hW]; exact ⟨rfl, rfl, rfl, Nat.le_refl _, fun _ _ => rfl⟩)
      rw [← hW]
      clear hW
      refine region_likes (by kernel_rfl) (by kernel_rfl) ?_
      repeat (go_big_quiet_step ((go_at_call 12; exact calls_likes (Like.size _) (HMA.out _))))
      refine wpQuiet_nil ?_
      intro x2
      obtain ⟨W2, hW2⟩ : ∃ W2, W2 = x2.val := ⟨_, rfl⟩
      have HBX := Lib.hid (show Below wr.heap.size wr W2 by rw [hW2]; exact HBW.out.trans (x2.below.mono HBW.out.size))
      rw [← hW2]
      clear hW2 q5 q6 q7
      have hown2 := own_below hown HBX.out
      have HB2 := Lib.hid (hbl.out.trans (HBX.out.mono hbl.out.size))
      have hone := Lib.hid (cell_one_new W2 (.string r) 9)
      clear hown
      go_wp2_with (at_builtin; refine wpList_append_own _ rfl _ _ 22 rfl w.heap.size 9 i0 (.string ByteArray.empty) 1 16 Try.underlying22 hi hy0 hy1 hy2 rfl (by decide) _ _ _ rfl (hown2.alloc _) ⟨W2.heap.size, 0, none⟩ 1 1 [.string r] rfl rfl hone.out ?c2 ?c3 ?c4 ?c5 ?c6)
      case c2 => simp [Value.oneCell']
      case c3 => simp [maxLen]; omega
      case c4 => omega
      case c5 => have := HB2.out.size; simp; omega
      case c6 =>
        intro v' w5 hown5 hg5 _
        have HB5 := Lib.hid ((HB2.out.alloc HB2.out.size (.cells #[.string r] 9)).grown hg5 (by have := HB2.out.size; simp; omega) (fun k hk => (hown2.lt k hk).1))
        have hown6 : w5.ownsRow w.heap.size 9 1 v' (done ++ [r.data.toList]).length (strCells (done ++ [r.data.toList])) := by rw [hk7.out, List.length_append]; exact hown5
        clear hown5 hg5 hown2 hone
        go_wp2_with fail
        go_roundg (b.size - (at_ + (6 + n)))
        case measure => omega
        case rel => exact ⟨done ++ [r.data.toList], at_ + (6 + n), by go_num, hat2, by omega, by omega, hdl2, hst2, hown6, HB5⟩
end Go.Proofs.Ytlkifliaaaomeaa
