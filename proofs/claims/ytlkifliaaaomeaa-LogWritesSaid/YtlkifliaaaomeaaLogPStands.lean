/-
  The program's Stands tells what stands.
-/
import Derived.Test.YtlkifliaaaomeaaLogPLead
import Derived.Test.YtlkifliaaaomeaaLogStands
import Derived.Test.YtlkifliaaaomeaaDskPWrite
namespace Go.Proofs.Ytlkifliaaaomeaa
open Go.RowKit
set_option linter.unusedVariables false
set_option linter.unnecessarySimpa false
set_option linter.unusedSimpArgs false
set_option maxRecDepth 100000

theorem lp_lower {w : World} {B B' e size n : Nat} {v : Value} {xs : List Value} (h : w.ownsRow B e size v n xs) (hb : B' ≤ B) : w.ownsRow B' e size v n xs := by
  refine ⟨h.1, ?_⟩
  rcases h.2 with h2 | ⟨g, cap, cur, rfl, hB, rest⟩
  · exact .inl h2
  · exact .inr ⟨g, cap, cur, rfl, Nat.le_trans hb hB, rest⟩
set_option maxHeartbeats 4000000 in
theorem lp_stands (b : ByteArray) (hb : b.size ≤ 300000) (w : World) : Calls Try.prog 17 #[.agg tab, .string b] w (StandsOut w b.data.toList) := by
  obtain ⟨i0, hi, hy0, hy1, hy2⟩ := info_parts logStrInfo
  have hrow := Lib.hid (heap_alloc_last w (.cells tab 29))
  have his := Lib.hid (show (Try.prog.info? 29).map (·.size) = some tab.size by rw [tab_size]; exact (zero_of_info (P := Try.prog) tableInfo).2)
  go_enter Try.func17, Try.ntmps17
  go_wp2_with fail
  go_loopg [6, 7] b.size (fun g s6 s7 wx => ∃ (done : List (List UInt8)) (at_ : Nat), s7 = .int .i64 at_ ∧ Hid (at_ = endOf done) ∧ at_ ≤ b.size ∧ b.size - at_ ≤ g ∧ Hid (done.length ≤ at_) ∧ Hid (stands b.data.toList = done ++ stands (b.data.toList.drop at_)) ∧
    wx.ownsRow (w.heap.size + 1) 9 1 s6 done.length (strCells done) ∧ Hid (Below (w.heap.size + 1) (w.alloc (.cells tab 29)) wx) ∧ Hid (w.heap.size + 1 ≤ wx.heap.size))
  case atStart => exact ⟨[], 0, rfl, Lib.hid rfl, by omega, by omega, Lib.hid (Nat.le_refl _), Lib.hid (by simp), ⟨rfl, .inl ⟨rfl, rfl⟩⟩, Lib.hid (Below.refl _ _), Lib.hid (by simp)⟩
  case round =>
    obtain ⟨done, at_, rfl, hat, hle, hg, hdl, hst, hown, hbl, hsz⟩ := hrel
    obtain ⟨R, hR⟩ : ∃ R, R = b.data.toList.drop at_ := ⟨_, rfl⟩
    obtain ⟨X, hX⟩ : ∃ X, X = b.extract at_ b.size := ⟨_, rfl⟩
    have hXR : X.data.toList = R := by
      rw [hX, hR, Lib.extract_data]
      exact List.take_of_length_le (by rw [List.length_drop, ← Lib.size_eq]; exact Nat.le_refl _)
    have hXs : X.size = b.size - at_ := by rw [Lib.size_eq, hXR, hR, List.length_drop, ← Lib.size_eq]
    have HLd := Lib.hid (lp_leading X (by omega))
    rw [hXR] at HLd
    rw [← hR] at hst
    have hrw := Lib.hid (show wr.heap[w.heap.size]? = some (.cells tab 29 (0, 0)) by exact (hbl.out.block _ (by omega)).trans hrow.out)
    have HX := Lib.hid hX.symm
    have z1 : (0 : Int) ≤ (at_ : Int) := by omega
    have z2 : (at_ : Int) ≤ (b.size : Int) := by omega
    have z3 : at_ ≤ b.size := hle
    have hmax : Hid (b.size ≤ 300000) := Lib.hid hb
    cases hnx : nextR R with
    | none =>
      rw [hnx] at HLd
      have hexit : ∀ wz, Below wr.heap.size wr wz → StandsOut w b.data.toList (.returned (.tuple #[u6, .int .i64 (at_ : Int)])) wz := by
        intro wz hbz
        have e : stands b.data.toList = done := by rw [hst.out, stands_none hnx, List.append_nil]
        refine ⟨u6, by rw [e, hat.out], ?_, ?_⟩
        · rw [e]
          exact lp_lower (own_below hown hbz) (by omega)
        · exact (((Below.refl w.heap.size w).alloc (Nat.le_refl _) _).trans (hbl.out.mono (by omega))).trans (hbz.mono (by have := hsz.out; omega))
      have HE := Lib.hid hexit
      have HLd2 := Lib.hid (show ∀ w, Calls Try.prog 34 #[.agg tab, .string X] w fun e w' => e = .returned (.tuple #[.string ⟨#[]⟩, .bool false]) ∧ Below w.heap.size w w' from HLd.out)
      clear HLd hexit hnx hst hat hdl hXR hXs hR hX hb
      go_upto_region 3 with fail
      refine region_likes (by kernel_rfl) (by kernel_rfl) ?_
      repeat (first
        | (go_big_quiet_want; refine quiet_row 29 _ rfl w.heap.size rfl 29 tab (0, 0) _ (likes_row hrw.out) Try.underlying29 rfl his.out ?_; go_simp; go_big_quiet_on)
        | (go_big_quiet_step ((go_at_call 34; rw [HX.out]; exact calls_likes (Like.size _) (HLd2.out _)))))
      refine wpQuiet_nil ?_
      intro x2
      have HBX := Lib.hid (show Below wr.heap.size wr x2.val from x2.below)
      go_wp2_with fail
      go_ret2
      exact HE.out _ HBX.out
    | some r =>
      rw [hnx] at HLd
      have hsn := stands_some hnx
      have hls := nextR_some hnx
      have hrl : R.length = b.size - at_ := by rw [hR, List.length_drop, ← Lib.size_eq]
      have hrlen := nextR_len hnx
      obtain ⟨n, hn⟩ : ∃ n, n = r.length := ⟨_, rfl⟩
      have hn4 : n ≤ 4000 := by omega
      have hn6 : at_ + (6 + n) ≤ b.size := by omega
      have hst2 := Lib.hid (show stands b.data.toList = (done ++ [r]) ++ stands (b.data.toList.drop (at_ + (6 + n))) by
        rw [hst.out, hsn, ← hn, hR, List.drop_drop]; simp)
      have hat2 := Lib.hid (show at_ + (6 + n) = endOf (done ++ [r]) by rw [endOf_snoc, ← hn, ← hat.out])
      have hdl2 := Lib.hid (show (done ++ [r]).length ≤ at_ + (6 + n) by rw [List.length_append]; have := hdl.out; simp; omega)
      obtain ⟨q, hq⟩ : ∃ q : ByteArray, q = ⟨r.toArray⟩ := ⟨_, rfl⟩
      have hqs : q.size = n := by rw [hq, ba_of, hn]
      have hk7 := Lib.hid (show strCells (done ++ [r]) = strCells done ++ [Value.string q] by rw [hq]; simp [strCells])
      have hln := hdl.out
      have HLd2 := Lib.hid (show ∀ w, Calls Try.prog 34 #[.agg tab, .string X] w fun e w' => e = .returned (.tuple #[.string q, .bool true]) ∧ Below w.heap.size w w' by rw [hq]; exact HLd.out)
      have HCl := Lib.hid (p_clone q · (by omega))
      have hqz : (q.size : Int) = (n : Int) := by omega
      have k1 := IntWalk.i64_in ((6 : Int) + (n : Int)) (by omega)
      have k2 := IntWalk.i64_in ((at_ : Int) + ((6 : Int) + (n : Int))) (by omega)
      clear HLd hnx hsn hls hrl hrlen hn hst hat hdl hXR hXs hR hX hq hqs
      go_upto_region 3 with fail
      refine region_likes (by kernel_rfl) (by kernel_rfl) ?_
      repeat (first
        | (go_big_quiet_want; refine quiet_row 29 _ rfl w.heap.size rfl 29 tab (0, 0) _ (likes_row hrw.out) Try.underlying29 rfl his.out ?_; go_simp; go_big_quiet_on)
        | (go_big_quiet_step ((go_at_call 34; rw [HX.out]; exact calls_likes (Like.size _) (HLd2.out _)))))
      refine wpQuiet_nil ?_
      intro x2
      obtain ⟨W2, hW2⟩ : ∃ W2, W2 = x2.val := ⟨_, rfl⟩
      have HBX := Lib.hid (show Below wr.heap.size wr W2 by rw [hW2]; exact x2.below)
      rw [← hW2]
      clear hW2
      have hs4 := hsz.out
      go_wp2_with (first
        | (go_at_call 35; refine (HCl.out _).mono ?_; rintro e W3 ⟨rfl, hb3⟩; have HB3 := Lib.hid (HBX.out.trans (hb3.mono HBX.out.size)); have hown2 := Lib.hid (own_below hown HB3.out); have hs3 := HB3.out.size; have hone := Lib.hid (cell_one_new W3 (.string q) 9))
        | (at_builtin; refine wpList_append_own _ rfl _ _ 22 rfl (w.heap.size + 1) 9 i0 (.string ByteArray.empty) 1 16 Try.underlying22 hi hy0 hy1 hy2 rfl (by decide) _ _ _ rfl (hown2.out.alloc _) ⟨W3.heap.size, 0, none⟩ 1 1 [.string q] rfl rfl hone.out ?c2 ?c3 ?c4 ?c5 ?c6))
      case c2 => simp [Value.oneCell']
      case c3 => simp [maxLen]; omega
      case c4 => omega
      case c5 => simp; omega
      case c6 =>
        intro v' w5 hown5 hg5 _
        have HB5 := Lib.hid ((((hbl.out.trans (HB3.out.mono hsz.out)).alloc (by omega) (.cells #[.string q] 9)).grown hg5 (by simp; omega) (fun k hk => (hown2.out.lt k hk).1)))
        have hs5 := Lib.hid (show w.heap.size + 1 ≤ w5.heap.size by have := hg5.size; simp at this; omega)
        have hown6 : w5.ownsRow (w.heap.size + 1) 9 1 v' (done ++ [r]).length (strCells (done ++ [r])) := by rw [hk7.out, List.length_append]; exact hown5
        clear hown5 hg5 hown2 hone hown
        go_wp2_with fail
        go_roundg (b.size - (at_ + (6 + n)))
        case measure => omega
        case rel => exact ⟨done ++ [r], at_ + (6 + n), by go_num, hat2, by omega, by omega, hdl2, hst2, hown6, HB5, hs5⟩
end Go.Proofs.Ytlkifliaaaomeaa
