/-
  The walk of the program's disk: Crash.
-/
import Derived.Test.YtmgdjnkdnakmhaaDskPTorn
import Derived.Deep.LoopGhost
import Derived.RegionTactic
import Derived.StillTailTactics
import Derived.Deep.RegionWith
import Derived.BigRegion
namespace Go.Proofs.Ytmgdjnkdnakmhaa
open Go.RowKit
set_option linter.unusedVariables false
set_option linter.unnecessarySimpa false
set_option linter.unusedSimpArgs false
set_option maxRecDepth 100000

/-! Sectors behind a crash, write by write. -/
def tornB (c : UInt8) (p : Sec) (b : List UInt8) : List UInt8 := b.take (tear c) ++ p.2.drop (tear c)
def stepC (P : List Sec) (x : Nat × List UInt8) (c : UInt8) : List Sec := P.set x.1 (tornB c (P.getD x.1 ([], [])) x.2, tornB c (P.getD x.1 ([], [])) x.2)
def crashP : List Sec → List (Nat × List UInt8) → List UInt8 → List Sec
  | P, [], _ => P
  | P, x :: W, l => crashP (stepC P x (l.getD 0 0)) W l.tail
theorem crashP_snoc : ∀ (P : List Sec) (W : List (Nat × List UInt8)) (l : List UInt8) (x : Nat × List UInt8), crashP P (W ++ [x]) l = stepC (crashP P W l) x (l.getD W.length 0)
  | P, [], l, x => rfl
  | P, y :: W, l, x => by
    rw [List.cons_append, crashP, crashP_snoc]
    cases l <;> simp [crashP, List.getD]
theorem stepC_length (P : List Sec) (x : Nat × List UInt8) (c : UInt8) : (stepC P x c).length = P.length := by simp [stepC]
theorem crashP_length : ∀ (P : List Sec) (W : List (Nat × List UInt8)) (l : List UInt8), (crashP P W l).length = P.length
  | P, [], _ => rfl
  | P, x :: W, l => by rw [crashP, crashP_length, stepC_length]
theorem tornB_64 {c : UInt8} {p : Sec} {b : List UInt8} (hp : p.2.length = 64) (hb : b.length = 64) : (tornB c p b).length = 64 := by
  have := tear_le c
  unfold tornB
  rw [List.length_append, List.length_take, List.length_drop, hp, hb]
  omega
theorem stepC_64 {P : List Sec} {x : Nat × List UInt8} {c : UInt8} (hP : ∀ p ∈ P, p.2.length = 64) (hx : x.1 < P.length) (hb : x.2.length = 64) : ∀ p ∈ stepC P x c, p.2.length = 64 := by
  intro p hp
  unfold stepC at hp
  rcases List.mem_or_eq_of_mem_set hp with h | h
  · exact hP p h
  · rw [h]
    refine tornB_64 ?_ hb
    rw [List.getD, List.getElem?_eq_getElem hx]
    exact hP _ (List.getElem_mem hx)
theorem crashP_64 : ∀ (P : List Sec) (W : List (Nat × List UInt8)) (l : List UInt8), (∀ p ∈ P, p.2.length = 64) → (∀ x ∈ W, x.1 < P.length ∧ x.2.length = 64) → ∀ p ∈ crashP P W l, p.2.length = 64
  | P, [], _, h, _ => h
  | P, x :: W, l, h, hx => by
    rw [crashP]
    have h0 := hx x (by simp)
    exact crashP_64 _ W _ (stepC_64 h h0.1 h0.2) (fun y hy => by rw [stepC_length]; exact hx y (by simp [hy]))
theorem stepC_snd (P : List Sec) (x : Nat × List UInt8) (c : UInt8) : (stepC P x c).map (·.2) = tornOne (P.map (·.2)) x c := by
  unfold stepC tornOne tornB
  rw [List.map_set]
  congr 2
  simp only [List.getD, List.getElem?_map]
  cases P[x.1]? <;> rfl
theorem tornOne_zero (s : List (List UInt8)) (x : Nat × List UInt8) : tornOne s x 0 = s := by
  unfold tornOne
  rw [show tear 0 = 0 from rfl, List.take_zero, List.nil_append, List.drop_zero]
  apply List.ext_getElem?
  intro j
  rw [List.getElem?_set]
  split
  · rename_i e
    subst e
    split
    · rename_i h; simp [List.getD, List.getElem?_eq_getElem h]
    · rename_i h; rw [List.getElem?_eq_none (by omega)]
  · rfl
theorem crashP_snd : ∀ (P : List Sec) (W : List (Nat × List UInt8)) (l : List UInt8), (crashP P W l).map (·.2) = torn (P.map (·.2)) W l
  | P, [], l => by cases l <;> rfl
  | P, x :: W, [] => by
    rw [crashP, crashP_snd, stepC_snd, show ([] : List UInt8).getD 0 0 = 0 from rfl, tornOne_zero]
    cases W <;> rfl
  | P, x :: W, c :: l => by
    rw [crashP, crashP_snd, stepC_snd]
    rfl
/-- What no write that is left goes to is read as it is sure. -/
def SameP (P : List Sec) (R : List (Nat × List UInt8)) : Prop := ∀ i p, P[i]? = some p → (∀ x ∈ R, x.1 ≠ i) → p.1 = p.2
theorem SameP.step {P : List Sec} {x : Nat × List UInt8} {R : List (Nat × List UInt8)} (h : SameP P (x :: R)) (c : UInt8) : SameP (stepC P x c) R := by
  intro i p hp hR
  unfold stepC at hp
  by_cases hi : x.1 = i
  · subst hi
    rw [List.getElem?_set] at hp
    simp only [if_true] at hp
    split at hp
    · injection hp with hp; rw [← hp]
    · cases hp
  · rw [List.getElem?_set_ne hi] at hp
    exact h i p hp (fun y hy => by rcases List.mem_cons.1 hy with rfl | hy; exact hi; exact hR y hy)
theorem SameP.crash : ∀ {P : List Sec} {W : List (Nat × List UInt8)} (l : List UInt8), SameP P W → SameP (crashP P W l) []
  | P, [], _, h => h
  | P, x :: W, l, h => by rw [crashP]; exact SameP.crash _ (h.step _)
theorem SameP.all {P : List Sec} (h : SameP P []) : P.map (·.1) = P.map (·.2) := by
  apply List.map_congr_left
  intro p hp
  obtain ⟨i, hi⟩ := List.getElem?_of_mem hp
  exact h i p hi (fun x hx => by cases hx)
theorem SameP.of {P : List Sec} {W : List (Nat × List UInt8)} (h : P.map (·.1) = madeAll (P.map (·.2)) W) : SameP P W := by
  intro i p hp hR
  have h1 : (P.map (·.1))[i]? = some p.1 := by rw [List.getElem?_map, hp]; rfl
  have h2 : (P.map (·.2))[i]? = some p.2 := by rw [List.getElem?_map, hp]; rfl
  rw [h, madeAll_away _ _ _ hR, h2] at h1
  injection h1 with h1
  exact h1.symm

set_option maxHeartbeats 8000000 in
theorem p_crash (w : World) (g gs n : Nat) (vb : Value) (P : List Sec) (W : List (Nat × List UInt8)) (f : Bool) (F : Int) (h : DP w g gs n vb P W f F) (hn : n ≤ 4096) (hx : ∀ x ∈ W, x.1 < n ∧ x.2.length = 64) (hP : ∀ p ∈ P, p.2.length = 64)
    (hW : W.length ≤ 1000000) (a : Option Addr) (len cap : Nat) (l : List UInt8) (hl : BytesAt w a len l) (hlen : len ≤ 1000000) (hfar : 0 < len → ∀ b off s, a = some ⟨b, off, s⟩ → ¬ pOwn g gs vb b) :
    Calls Try.prog 14 #[.pointer (some ⟨g, 0, none⟩), .slice a len cap] w fun e w' => e = .returned (.tuple #[]) ∧
      DP w' g gs n (.slice none 0 0) (crashP P W l) [] false 0 ∧ Moves (pOwn g gs vb) (pOwn g gs (.slice none 0 0)) w w' := by
  obtain ⟨c0, c1, c2, c3, cf⟩ := h.cells
  obtain ⟨av, cv, hv⟩ := h.waitForm
  have HV := Lib.hid hv
  obtain ⟨wl, hwl⟩ : ∃ wl, wl = W.length := ⟨_, rfl⟩
  rw [hv, ← hwl] at c1
  rw [← hwl] at hW
  have HWL := Lib.hid hwl
  have H := Lib.hid h
  have HX := Lib.hid hx
  have HP64 := Lib.hid hP
  -- the fate that a write meets, in every world of the loop
  have HFt := Lib.hid (show ∀ (i : Nat) (wx : World), Moves (pOwn g gs vb) (pOwn g gs vb) w wx → Calls Try.prog 24 #[.slice a len cap, .int .i64 (i : Int)] wx fun e w' => e = .returned (.int .u8 ((l.getD i 0).toNat : Int)) ∧ wx = w' from by
    intro i wx hm
    by_cases hi : i < len
    · obtain ⟨b, off, ha, hb, hc⟩ := hl.2 (by omega)
      have h1 := hc i hi
      have h2 : wx.heap[b]? = w.heap[b]? := hm.block b hb (hfar (by omega) b off none ha)
      have h3 : wx.cell? ⟨b, off + i, none⟩ = w.cell? ⟨b, off + i, none⟩ := by simp only [World.cell?, h2]
      subst ha
      exact p_fate b off len cap i hi _ wx (h3.trans h1)
    · have h1 : l.getD i 0 = 0 := by rw [List.getD, List.getElem?_eq_none (by rw [hl.1]; omega)]; rfl
      rw [h1]
      exact p_fateNone a len cap i (by omega) wx)
  clear h hv hx hP hl hfar hwl
  go_enter Try.func14, Try.ntmps14
  go_upto_region 1 with fail
  clear c0 c1 c2 c3 cf
  go_loopg [4, 5, 6, 12] wl (fun q s4 s5 s6 s12 wx => ∃ (i : Nat), i + q = wl ∧ s12 = .int .i64 i ∧ Hid (DP wx g gs n vb (crashP P (W.take i) l) W f F) ∧ Hid (Moves (pOwn g gs vb) (pOwn g gs vb) w wx))
  case atStart => exact ⟨0, by omega, rfl, H, Lib.hid (Moves.same _ _)⟩
  case round =>
    obtain ⟨i, hiq, rfl, HP, HM⟩ := hrel
    by_cases hlt : i < wl
    · obtain ⟨q, rfl⟩ : ∃ q, gk = q + 1 := ⟨gk - 1, by omega⟩
      have hiz : (i : Int) < (wl : Int) := by omega
      have hiW : i < W.length := by rw [← HWL.out]; exact hlt
      obtain ⟨x, hxx⟩ : ∃ x, W[i]? = some x := ⟨_, List.getElem?_eq_getElem hiW⟩
      obtain ⟨gw, cp, hvv, x0, x1⟩ := HP.out.write hxx
      have hav : av = some ⟨gw, 0, none⟩ := by have := HV.out.symm.trans hvv; simp at this; exact this.1
      subst hav
      have hj := (HX.out x (List.mem_of_getElem? hxx)).1
      have hx64 := (HX.out x (List.mem_of_getElem? hxx)).2
      have hlenP : (crashP P (W.take i) l).length = n := HP.out.len
      obtain ⟨p, hp⟩ : ∃ p, (crashP P (W.take i) l)[x.1]? = some p := ⟨_, List.getElem?_eq_getElem (by rw [hlenP]; exact hj)⟩
      have hp64 : p.2.length = 64 := by
        refine crashP_64 _ _ _ HP64.out (fun y hy => ?_) p (List.mem_of_getElem? hp)
        have := HX.out y (List.mem_of_mem_take hy)
        have h2 := crashP_length P (W.take i) l
        exact ⟨by omega, this.2⟩
      have htk : W.take (i + 1) = W.take i ++ [x] := by rw [List.take_add_one, hxx]; rfl
      have hsn : crashP P (W.take (i + 1)) l = (crashP P (W.take i) l).set x.1 (tornB (l.getD i 0) p x.2, tornB (l.getD i 0) p x.2) := by
        rw [htk, crashP_snoc, List.length_take, Nat.min_eq_left (by omega)]
        unfold stepC
        simp [List.getD, hp]
      have HTo := Lib.hid (p_torn p.2 x.2 (l.getD i 0) hp64 hx64)
      obtain ⟨B, hB⟩ : ∃ B : ByteArray, B = ⟨x.2.toArray⟩ := ⟨_, rfl⟩
      obtain ⟨C, hC⟩ : ∃ C : ByteArray, C = ⟨p.2.toArray⟩ := ⟨_, rfl⟩
      obtain ⟨A, hA⟩ : ∃ A : ByteArray, A = ⟨p.1.toArray⟩ := ⟨_, rfl⟩
      obtain ⟨T, hT⟩ : ∃ T, T = tornB (l.getD i 0) p x.2 := ⟨_, rfl⟩
      obtain ⟨E, hE⟩ : ∃ E : ByteArray, E = ⟨T.toArray⟩ := ⟨_, rfl⟩
      obtain ⟨ft, hft⟩ : ∃ ft, ft = (l.getD i 0).toNat := ⟨_, rfl⟩
      have HF := Lib.hid (HFt.out i)
      rw [← hft] at HF HTo
      have hBv : vS x.2 = .string B := by unfold vS; rw [hB]
      have hTv : vS T = .string E := by unfold vS; rw [hE]
      rw [← hT] at hsn
      rw [← hB, ← hC, show (x.2.take (tear (l.getD i 0)) ++ p.2.drop (tear (l.getD i 0))) = T by rw [hT]; rfl, hTv] at HTo
      rw [hBv] at x1
      obtain ⟨j, hjj⟩ : ∃ j, j = x.1 := ⟨_, rfl⟩
      have HPn := Lib.hid hp
      rw [← hjj] at x0 hj hp hsn HPn
      have HTV := Lib.hid hTv
      have HSN := Lib.hid hsn
      have HA := Lib.hid (show vS p.1 = .string A by unfold vS; rw [hA])
      have HC := Lib.hid (show vS p.2 = .string C by unfold vS; rw [hC])
      have hb1 : Below wr.heap.size wr (wr.alloc (.cells #[.int .i64 (j : Int), .string B] 60)) := (Below.refl _ _).alloc (Nat.le_refl _) _
      have HP1 := Lib.hid (HP.out.below hb1)
      have HM1 := Lib.hid (HM.out.belowP hb1)
      clear hBv hB hC hA hT hE hTv hsn hp htk hvv HV hxx hb1 hjj hft hx64 hp64 hlenP hiW HFt
      go_upto_region 3 with fail
      obtain ⟨w1, hw1⟩ : ∃ w1, w1 = wr.alloc (.cells #[.int .i64 (j : Int), .string B] 60) := ⟨_, rfl⟩
      have y0 : w1.cell? ⟨wr.heap.size, 0, none⟩ = some (.int .i64 (j : Int)) := by rw [hw1]; go_simp
      have y1 : w1.cell? ⟨wr.heap.size, 1, none⟩ = some (.string B) := by rw [hw1]; go_simp
      have hsz : w1.heap.size = wr.heap.size + 1 := by rw [hw1]; simp
      rw [← hw1] at HP1 HM1
      rw [← hw1]
      clear hw1 x0 x1 HP HM
      obtain ⟨d0, d1, d2, d3, df⟩ := HP1.out.cells
      obtain ⟨e0, e1, ef⟩ := HP1.out.sec HPn.out
      rw [HA.out] at e0
      rw [HC.out] at e1
      obtain ⟨bw, hbw⟩ : ∃ bw, bw = wr.heap.size := ⟨_, rfl⟩
      rw [← hbw] at y0 y1 hsz
      rw [← hbw]
      clear hbw
      go_quiet (fail)
      go_upto_region 4 with fail
      obtain ⟨w2, hw2⟩ : ∃ w2, w2 = w1.drewN nq := ⟨_, rfl⟩
      have hb2 : Below w1.heap.size w1 w2 := by rw [hw2]; exact below_drewP (Below.refl _ _) _
      have HP2 := Lib.hid (HP1.out.below hb2)
      have HM2 := Lib.hid (HM1.out.belowP hb2)
      have z1 : w2.cell? ⟨bw, 1, none⟩ = some (.string B) := by rw [hw2]; exact y1
      rw [← hw2]
      clear hw2 hb2 HP1 HM1 d0 d1 d2 d3 df e0 e1 ef y0 y1
      obtain ⟨e0, e1, ef⟩ := HP2.out.sec HPn.out
      rw [HC.out] at e1
      rw [HA.out] at e0
      have HM2d := Lib.hid (HM2.out.belowP (w'' := w2.drew) (Below.refl _ _).drew)
      have HS3 := Lib.hid (show ∀ w3, Below w2.drew.heap.size w2.drew w3 → w3.cell? ⟨gs, j * 2 + 1, none⟩ = some (.string C) ∧ ∀ k, w3.frozen? ⟨gs, k, none⟩ = false from fun w3 hb => by
        obtain ⟨_, h1, h2⟩ := ((HP2.out.below (w1 := w2.drew) (Below.refl _ _).drew).below hb).sec HPn.out
        rw [HC.out] at h1
        exact ⟨h1, h2⟩)
      go_region_with (first
        | (go_at_call 24; refine (HF.out _ HM2d.out).mono ?_; rintro e w3 ⟨rfl, rfl⟩)
        | (go_at_call 23; refine (HTo.out _).mono ?_; rintro e w3 ⟨rfl, hb3⟩; obtain ⟨k1, kf⟩ := HS3.out _ hb3; have HB3 := Lib.hid hb3; clear hb3))
      all_goals
        have H3 := (HP2.out.below (w1 := w2.drew) (Below.refl _ _).drew).below HB3.out
        have M3 := (HM2d.out).belowP HB3.out
        have H4 := Lib.hid (H3.putSure HPn.out T)
        have M4 := Lib.hid (M3.cellP (a := ⟨gs, j * 2 + 1, none⟩) (.inl (.inr (.inl rfl))) (vS T))
        rw [HTV.out] at H4 M4
        clear H3 M3 k1 kf
        obtain ⟨w4, hw4⟩ : ∃ w4, w4 = w3.setCell ⟨gs, j * 2 + 1, none⟩ (.string E) := ⟨_, rfl⟩
        rw [← hw4] at H4 M4
        rw [← hw4]
        clear hw4 HB3
        have hp4 := Lib.hid (show ((crashP P (W.take i) l).set j (p.1, T))[j]? = some (p.1, T) by rw [List.getElem?_set_self (List.getElem?_eq_some_iff.1 HPn.out).1])
        obtain ⟨k0, k1, kf⟩ := H4.out.sec hp4.out
        rw [HA.out] at k0
        rw [HTV.out] at k1
        have H5 := Lib.hid (H4.out.putNow hp4.out T)
        have M5 := Lib.hid (M4.out.cellP (a := ⟨gs, j * 2, none⟩) (.inl (.inr (.inl rfl))) (vS T))
        rw [List.set_set, HTV.out, ← HSN.out] at H5
        rw [HTV.out] at M5
        clear z1 e0 e1 ef
        go_wp2_with fail
        go_roundg q
        case measure => omega
        case rel => exact ⟨i + 1, by omega, by simp, H5, M5⟩
    · obtain rfl : i = wl := by omega
      obtain rfl : gk = 0 := by omega
      have hiz : ¬ (i : Int) < (i : Int) := by omega
      have HP2 := Lib.hid ((HP.out.noWaits.putF false).putL 0)
      have HM2 := Lib.hid ((((HM.out.cellP (a := ⟨g, 1, none⟩) (.inl (.inl rfl)) (.slice none 0 0)).cellP (a := ⟨g, 2, none⟩) (.inl (.inl rfl)) (.bool false)).cellP (a := ⟨g, 3, none⟩) (.inl (.inl rfl)) (.int .i64 0)).owns (O'' := pOwn g gs (.slice none 0 0)) (by
        rintro k (e | e | e)
        · exact .inl (.inl e)
        · exact .inl (.inr (.inl e))
        · simp [Value.ownBlock] at e))
      rw [HWL.out, List.take_length] at HP2
      obtain ⟨d0, d1, d2, d3, df⟩ := HP.out.cells
      clear HFt
      go_wp2_with fail
      go_end0
      exact ⟨rfl, HP2.out, HM2.out⟩
end Go.Proofs.Ytmgdjnkdnakmhaa
