/-
  The walk of the program's disk: Sync.
-/
import Derived.Test.YtlkifliaaaomeaaDskPSmall
import Derived.Test.YtlkifliaaaomeaaClass
import Derived.Deep.LoopGhost
import Derived.RegionTactic
import Derived.StillTailTactics
namespace Go.Proofs.Ytlkifliaaaomeaa
open Go.RowKit
set_option linter.unusedVariables false
set_option linter.unnecessarySimpa false
set_option linter.unusedSimpArgs false
set_option maxRecDepth 100000

section
variable (w : World) (g gs n : Nat) (vb : Value) (P : List Sec) (W : List (Nat × List UInt8)) (f : Bool) (F : Int) (h : DP w g gs n vb P W f F)
include h
theorem p_syncLost (hf : (f && F == 0) = true) : Calls Try.prog 25 #[.pointer (some ⟨g, 0, none⟩)] w fun e w' => e = .returned (.int .i64 6) ∧ w = w' := by
  have HL := Lib.hid (p_lost w g gs n vb P W f F h)
  rw [hf] at HL
  clear h hf
  go_enter Try.func25, Try.ntmps25
  go_wp2_with (go_at_call 36; refine HL.out.mono ?_; rintro e w1 ⟨rfl, rfl⟩)
  go_ret
  exact ⟨rfl, rfl⟩

/-- Sectors as they are behind some writes made sure. -/
def syncP : List Sec → List (Nat × List UInt8) → List Sec
  | P, [] => P
  | P, x :: l => syncP (P.set x.1 ((P.getD x.1 ([], [])).1, x.2)) l
omit h in
theorem syncP_snoc : ∀ (P : List Sec) (l : List (Nat × List UInt8)) (x : Nat × List UInt8), syncP P (l ++ [x]) = (syncP P l).set x.1 (((syncP P l).getD x.1 ([], [])).1, x.2)
  | P, [], x => rfl
  | P, y :: l, x => by rw [List.cons_append, syncP, syncP_snoc]; rfl
omit h in
theorem syncP_snd : ∀ (P : List Sec) (l : List (Nat × List UInt8)), (syncP P l).map (·.2) = madeAll (P.map (·.2)) l
  | P, [] => rfl
  | P, y :: l => by rw [syncP, syncP_snd, List.map_set, madeAll]
omit h in
theorem syncP_fst : ∀ (P : List Sec) (l : List (Nat × List UInt8)), (syncP P l).map (·.1) = P.map (·.1)
  | P, [] => rfl
  | P, y :: l => by
    rw [syncP, syncP_fst, List.map_set]
    apply List.ext_getElem?
    intro j
    rw [List.getElem?_set]
    split
    · rename_i e
      subst e
      split
      · rename_i hl
        have hl2 : y.1 < P.length := by simpa using hl
        simp [List.getD, List.getElem?_eq_getElem hl2]
      · rename_i hl
        rw [List.getElem?_eq_none (by simpa using hl)]
    · rfl

set_option maxHeartbeats 4000000 in
theorem p_sync (hf : (f && F == 0) = false) (hn : n ≤ 4096) (hx : ∀ x ∈ W, x.1 < n) (hW : W.length ≤ 1000000) :
    Calls Try.prog 25 #[.pointer (some ⟨g, 0, none⟩)] w fun e w' => e = .returned (.int .i64 0) ∧
      DP w' g gs n (.slice none 0 0) (syncP P W) [] f F ∧ Moves (pOwn g gs vb) (pOwn g gs (.slice none 0 0)) w w' := by
  have HL := Lib.hid (p_lost w g gs n vb P W f F h)
  rw [hf] at HL
  obtain ⟨c0, c1, c2, c3, cf⟩ := h.cells
  obtain ⟨a, cap, hv⟩ := h.waitForm
  have HV := Lib.hid hv
  obtain ⟨len, hlen⟩ : ∃ len, len = W.length := ⟨_, rfl⟩
  rw [hv, ← hlen] at c1
  rw [← hlen] at hW
  have HLn := Lib.hid hlen
  have H := Lib.hid h
  have HX := Lib.hid hx
  clear h hf hv hx hlen
  go_enter Try.func25, Try.ntmps25
  go_upto_region 4 with (go_at_call 36; refine HL.out.mono ?_; rintro e w1 ⟨rfl, rfl⟩)
  clear c0 c1 c2 c3 cf HL
  go_loopg [4, 12] len (fun q s4 s12 wx => ∃ (i : Nat), i + q = len ∧ s12 = .int .i64 i ∧ Hid (DP wx g gs n vb (syncP P (W.take i)) W f F) ∧ Hid (Moves (pOwn g gs vb) (pOwn g gs vb) w wx))
  case atStart => exact ⟨0, by omega, rfl, H, Lib.hid (Moves.same _ _)⟩
  case round =>
    obtain ⟨i, hiq, rfl, HP, HM⟩ := hrel
    by_cases hlt : i < len
    · obtain ⟨q, rfl⟩ : ∃ q, gk = q + 1 := ⟨gk - 1, by omega⟩
      have hiz : (i : Int) < (len : Int) := by omega
      have hiW : i < W.length := by rw [← HLn.out]; exact hlt
      obtain ⟨x, hxx⟩ : ∃ x, W[i]? = some x := ⟨_, List.getElem?_eq_getElem hiW⟩
      obtain ⟨gw, cp, hvv, x0, x1⟩ := HP.out.write hxx
      have hav : a = some ⟨gw, 0, none⟩ := by have := HV.out.symm.trans hvv; simp at this; exact this.1
      subst hav
      have hj : x.1 < n := HX.out x (List.mem_of_getElem? hxx)
      obtain ⟨d0, d1, d2, d3, df⟩ := HP.out.cells
      obtain ⟨p, hp⟩ : ∃ p, (syncP P (W.take i))[x.1]? = some p := ⟨_, List.getElem?_eq_getElem (by rw [HP.out.len]; exact hj)⟩
      have htk : W.take (i + 1) = W.take i ++ [x] := by rw [List.take_add_one, hxx]; rfl
      have hsn : syncP P (W.take (i + 1)) = (syncP P (W.take i)).set x.1 (p.1, x.2) := by rw [htk, syncP_snoc]; simp [List.getD, hp]
      obtain ⟨e0, e1, ef⟩ := HP.out.sec hp
      obtain ⟨B, hB⟩ : ∃ B : ByteArray, B = ⟨x.2.toArray⟩ := ⟨_, rfl⟩
      have hBv : vS x.2 = .string B := by unfold vS; rw [hB]
      rw [hBv] at x1
      obtain ⟨j, hjj⟩ : ∃ j, j = x.1 := ⟨_, rfl⟩
      have HPn := Lib.hid hp
      rw [← hjj] at x0 hj hp e0 e1 hsn HPn
      have hb1 : Below wr.heap.size wr (wr.alloc (.cells #[.int .i64 (j : Int), .string B] 74)) := (Below.refl _ _).alloc (Nat.le_refl _) _
      have HP1 := Lib.hid (HP.out.below hb1)
      have HM1 := Lib.hid (HM.out.belowP hb1)
      have HBV := Lib.hid hBv
      have HSN := Lib.hid hsn
      clear hBv hB hsn hp htk hvv HV hxx hb1 hjj
      go_upto_region 6 with fail
      have y0 : (wr.alloc (.cells #[.int .i64 (j : Int), .string B] 74)).cell? ⟨wr.heap.size, 0, none⟩ = some (.int .i64 (j : Int)) := by go_simp
      have y1 : (wr.alloc (.cells #[.int .i64 (j : Int), .string B] 74)).cell? ⟨wr.heap.size, 1, none⟩ = some (.string B) := by go_simp
      obtain ⟨w1, hw1⟩ : ∃ w1, w1 = wr.alloc (.cells #[.int .i64 (j : Int), .string B] 74) := ⟨_, rfl⟩
      rw [← hw1] at HP1 HM1 y0 y1
      rw [← hw1]
      clear hw1 d0 d1 d2 d3 df e0 e1 ef x0 x1 HP HM
      obtain ⟨d0, d1, d2, d3, df⟩ := HP1.out.cells
      obtain ⟨e0, e1, ef⟩ := HP1.out.sec HPn.out
      have HP2 := Lib.hid ((HP1.out.below (w1 := w1.drew) (Below.refl _ _).drew).putSure HPn.out x.2)
      have HM2 := Lib.hid ((HM1.out.belowP (w'' := w1.drew) (Below.refl _ _).drew).cellP (a := ⟨gs, j * 2 + 1, none⟩) (.inl (.inr (.inl rfl))) (vS x.2))
      rw [HBV.out] at HP2 HM2
      rw [← HSN.out] at HP2
      go_still_tail 8, (by kernel_rfl)
      change wpList _ _ _ _ _ w1.drew
      go_wp2_with fail
      go_roundg q
      case measure => omega
      case rel => exact ⟨i + 1, by omega, by simp, HP2, HM2⟩
    · obtain rfl : i = len := by omega
      obtain rfl : gk = 0 := by omega
      have hiz : ¬ (i : Int) < (i : Int) := by omega
      have HP2 := Lib.hid HP.out.noWaits
      have HM2 := Lib.hid ((HM.out.cellP (a := ⟨g, 1, none⟩) (.inl (.inl rfl)) (.slice none 0 0)).owns (O'' := pOwn g gs (.slice none 0 0)) (by
        rintro k (e | e | e)
        · exact .inl (.inl e)
        · exact .inl (.inr (.inl e))
        · simp [Value.ownBlock] at e))
      rw [HLn.out, List.take_length] at HP2
      obtain ⟨d0, d1, d2, d3, df⟩ := HP.out.cells
      go_wp2_with fail
      go_ret
      exact ⟨rfl, HP2.out, HM2.out⟩
end
end Go.Proofs.Ytlkifliaaaomeaa
