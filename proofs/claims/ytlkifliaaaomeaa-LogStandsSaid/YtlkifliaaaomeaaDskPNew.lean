/-
  The walk of the program's disk: New.
-/
import Derived.Test.YtlkifliaaaomeaaDskPSmall
import Derived.Test.YtlkifliaaaomeaaClass
import Derived.Test.YtlkifliaaaomeaaShelf
import Derived.Deep.LoopGhost
import Derived.RegionTactic
import Derived.StillTailTactics
namespace Go.Proofs.Ytlkifliaaaomeaa
open Go.RowKit
set_option linter.unusedVariables false
set_option linter.unnecessarySimpa false
set_option linter.unusedSimpArgs false
set_option maxRecDepth 100000

theorem secInfo : (Try.prog.info? 54).map (fun i => (i.zero, i.size, i.bytes)) = some (some (.agg #[.string ⟨#[]⟩, .string ⟨#[]⟩]), 2, 32) := by kernel_rfl
theorem secC_empty (m : Nat) : madeCells #[Value.string ⟨#[]⟩, .string ⟨#[]⟩] (m * 2) = (secC (List.replicate m ([], []))).toArray := by
  apply Array.ext
  · show (madeCells _ _).size = (secC _).length
    unfold secC
    rw [twoC_len]
    simp [madeCells]
  · intro j h1 h2
    have hj : j < m * 2 := by simpa [madeCells] using h1
    have e1 : (madeCells #[Value.string ⟨#[]⟩, .string ⟨#[]⟩] (m * 2))[j] = .string ⟨#[]⟩ := by
      have : j % 2 = 0 ∨ j % 2 = 1 := by omega
      simp only [madeCells, Array.getElem_map, Array.getElem_range]
      rcases this with e | e <;> simp [e]
    have e2 : (secC (List.replicate m ([], [])))[j]? = some (.string ⟨#[]⟩) := by
      obtain ⟨k, hk⟩ : ∃ k, k = j / 2 := ⟨_, rfl⟩
      have hkm : (List.replicate m (([], []) : Sec))[k]? = some ([], []) := by rw [List.getElem?_replicate, if_pos (by omega)]
      have : j = k * 2 ∨ j = k * 2 + 1 := by omega
      unfold secC
      rcases this with rfl | rfl
      · rw [twoC_at0, hkm]; rfl
      · rw [twoC_at1, hkm]; rfl
    rw [e1]
    rw [List.getElem?_eq_getElem (by simpa using h2)] at e2
    injection e2 with e2
    simpa using e2.symm
theorem p_mk (c : Nat) (h1 : c ≤ 300000) (w : World) :
    (Instr.makeSlice 48 (.int .i64 (c : Int)) (.int .i64 (c : Int))).run Try.prog w = .ok (.slice (some ⟨w.heap.size, 0, none⟩) c c) (w.alloc (.cells (secC (List.replicate c ([], []))).toArray 54)) := by
  obtain ⟨i0, hi, hz0, hz1, hz2⟩ := info_parts secInfo
  have := run_make (P := Try.prog) w 48 54 i0 (.agg #[.string ⟨#[]⟩, .string ⟨#[]⟩]) Try.underlying48 hi hz0 .i64 .i64 (c : Int) (c : Int) (by omega) (Int.le_refl _) (by rw [hz2]; omega) (by omega)
  rw [this, hz1, ← secC_empty]
  rfl
theorem repeatL_one (x : UInt8) : ∀ c, Lib.repeatL [x] c = List.replicate c x
  | 0 => rfl
  | c + 1 => by rw [Lib.repeatL, repeatL_one x c]; rfl
theorem p_noughts (w : World) : Calls Try.prog 21 #[.string ⟨#[0]⟩, .int .i64 64] w fun e w' => e = .returned (.string ⟨(fullB 0).toArray⟩) ∧ Below w.heap.size w w' := by
  have := Try.strings_Repeat ⟨#[0]⟩ 64 w (by omega) (by decide)
  have e : Lib.repeatL (⟨#[0]⟩ : ByteArray).data.toList 64 = fullB 0 := repeatL_one 0 64
  rw [e] at this
  exact this
/-- Sectors, some of which are noughts. -/
def newP (m i : Nat) : List Sec := List.replicate i (fullB 0, fullB 0) ++ List.replicate (m - i) ([], [])
theorem newP_zero (m : Nat) : newP m 0 = List.replicate m ([], []) := by simp [newP]
theorem newP_all (m : Nat) : newP m m = List.replicate m (fullB 0, fullB 0) := by simp [newP]
theorem newP_at {m i : Nat} (h : i < m) : (newP m i)[i]? = some ([], []) := by
  unfold newP
  rw [List.getElem?_append_right (by simp), List.length_replicate, Nat.sub_self, List.getElem?_replicate, if_pos (by omega)]
theorem newP_next {m i : Nat} (h : i < m) : (newP m i).set i (fullB 0, fullB 0) = newP m (i + 1) := by
  unfold newP
  rw [List.set_append_right _ _ (by simp), List.length_replicate, Nat.sub_self, show m - i = (m - (i + 1)) + 1 by omega, List.replicate_succ, List.set_cons_zero, List.replicate_succ', List.append_assoc]
  rfl
theorem p_clamp (n : Int) : min (max n 0) 4096 = ((clampD n : Nat) : Int) := by unfold clampD; split; omega; split <;> omega
theorem p_clamp_le (n : Int) : clampD n ≤ 4096 := by unfold clampD; split; omega; split <;> omega

set_option maxHeartbeats 4000000 in
theorem p_new (n : Int) (hn1 : -2147483648 ≤ n) (hn2 : n ≤ 2147483647) (w : World) : Calls Try.prog 7 #[.int .i64 n] w fun e w' => ∃ g gs, e = .returned (.pointer (some ⟨g, 0, none⟩)) ∧
    DP w' g gs (clampD n) (.slice none 0 0) (List.replicate (clampD n) (fullB 0, fullB 0)) [] false 0 ∧ Moves (fun _ => False) (pOwn g gs (.slice none 0 0)) w w' := by
  have hcl := Lib.hid (p_clamp n)
  have hle := p_clamp_le n
  obtain ⟨m, hm⟩ : ∃ m, m = clampD n := ⟨_, rfl⟩
  rw [← hm] at hcl hle ⊢
  have HN := Lib.hid p_noughts
  clear hm
  have hmk := p_mk m (by omega)
  obtain ⟨Z, hZ⟩ : ∃ Z, Z = (secC (List.replicate m ([], []))).toArray := ⟨_, rfl⟩
  rw [← hZ] at hmk
  have HZ := Lib.hid hZ
  clear hZ
  rw [← hcl.out] at hmk
  go_enter Try.func7, Try.ntmps7
  go_upto_region 2 with fail
  clear hmk
  obtain ⟨w1, hw1⟩ : ∃ w1, w1 = (w.alloc (.cells Z 54)).alloc (.cells #[.slice (some ⟨w.heap.size, 0, none⟩) m m, .slice none 0 0, .bool false, .int .i64 0] 51) := ⟨_, rfl⟩
  obtain ⟨gs, hgs⟩ : ∃ gs, gs = w.heap.size := ⟨_, rfl⟩
  obtain ⟨g, hg⟩ : ∃ g, g = w.heap.size + 1 := ⟨_, rfl⟩
  have H1 : DP w1 g gs m (.slice none 0 0) (newP m 0) [] false 0 := by
    have e0 : (newP m 0).length = m := by rw [newP_zero]; simp
    refine ⟨e0, ?_, ?_, World.ownsRow_nil _ _ _ _⟩
    · rw [hw1, hg, hgs]
      show ((w.heap.push _).push _)[w.heap.size + 1]? = _
      rw [Array.getElem?_push, if_pos (by simp)]
    · rw [hw1, hgs, newP_zero, ← HZ.out]
      show ((w.heap.push _).push _)[w.heap.size]? = _
      rw [Array.getElem?_push, if_neg (by simp), Array.getElem?_push, if_pos rfl]
  have M1 : Moves (fun _ => False) (pOwn g gs (.slice none 0 0)) w w1 := by
    refine (Moves.of_below (O := fun _ => False) (show Below w.heap.size w w1 by rw [hw1]; exact ((Below.refl _ _).alloc (Nat.le_refl _) _).alloc (by simp) _)).owns ?_
    rintro k (e | e | e)
    · exact .inr (by omega)
    · exact .inr (by omega)
    · simp [Value.ownBlock] at e
  rw [← hw1, ← hg, ← hgs]
  have HH := Lib.hid H1
  have HM := Lib.hid M1
  clear hw1 H1 M1 hgs hg HZ
  go_upto_region 3 with (go_at_call 21; refine (HN.out _).mono ?_; rintro e w2 ⟨rfl, hb2⟩)
  have H2 := Lib.hid (HH.out.below hb2)
  have M2 := Lib.hid (HM.out.belowP hb2)
  obtain ⟨c0, c1, c2, c3, cf⟩ := H2.out.cells
  obtain ⟨B, hB⟩ : ∃ B : ByteArray, B = ⟨(fullB 0).toArray⟩ := ⟨_, rfl⟩
  rw [← hB]
  have HB := Lib.hid (show vS (fullB 0) = .string B by rw [hB]; rfl)
  clear HH HM hb2 hB
  go_upto_region 4 with fail
  clear c0 c1 c2 c3 cf
  go_loopg [5, 18] m (fun q s5 s18 wx => ∃ (i : Nat), i + q = m ∧ s18 = .int .i64 i ∧ Hid (DP wx g gs m (.slice none 0 0) (newP m i) [] false 0) ∧ Hid (Moves (fun _ => False) (pOwn g gs (.slice none 0 0)) w wx))
  case atStart => exact ⟨0, by omega, rfl, H2, M2⟩
  case round =>
    obtain ⟨i, hiq, rfl, HP, HM⟩ := hrel
    clear H2 M2
    obtain ⟨d0, d1, d2, d3, df⟩ := HP.out.cells
    by_cases hlt : i < m
    · obtain ⟨q, rfl⟩ : ∃ q, gk = q + 1 := ⟨gk - 1, by omega⟩
      have hiz : (i : Int) < (m : Int) := by omega
      have hsec := newP_at hlt
      obtain ⟨e0, e1, ef⟩ := HP.out.sec hsec
      have HP2 := HP.out.putNow hsec (fullB 0)
      have hsec2 : ((newP m i).set i (fullB 0, []))[i]? = some (fullB 0, []) := by rw [List.getElem?_set_self (List.getElem?_eq_some_iff.1 hsec).1]
      have HP3 := HP2.putSure hsec2 (fullB 0)
      rw [List.set_set, newP_next hlt, HB.out] at HP3
      have HP4 := Lib.hid HP3
      have HM4 := (HM.out.cellP (a := ⟨gs, i * 2, none⟩) (.inr (HM.out.own gs (.inr (.inl rfl)) |>.elim False.elim id)) (vS (fullB 0))).cellP (a := ⟨gs, i * 2 + 1, none⟩) (.inr (HM.out.own gs (.inr (.inl rfl)) |>.elim False.elim id)) (vS (fullB 0))
      rw [HB.out] at HM4
      have HM5 := Lib.hid HM4
      clear HP2 HP3 HM4 hsec hsec2 HP HM
      have f0 : wr.cell? ⟨gs, i * 2, none⟩ = some (.string ⟨#[]⟩) := e0
      have f1 : wr.cell? ⟨gs, i * 2 + 1, none⟩ = some (.string ⟨#[]⟩) := e1
      clear e0 e1
      go_wp2_with fail
      go_roundg q
      case measure => omega
      case rel => exact ⟨i + 1, by omega, by simp, HP4, HM5⟩
    · obtain rfl : i = m := by omega
      obtain rfl : gk = 0 := by omega
      have hiz : ¬ (i : Int) < (i : Int) := by omega
      rw [newP_all] at HP
      go_wp2_with fail
      go_ret
      exact ⟨_, rfl, _, HP.out, HM.out⟩
end Go.Proofs.Ytlkifliaaaomeaa
