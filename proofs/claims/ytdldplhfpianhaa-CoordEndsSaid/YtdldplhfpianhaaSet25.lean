/-
  Joined: CrdPVote, CrdPPart.
-/
import Derived.Test.YtdldplhfpianhaaSet24
namespace Go.Proofs.Ytdldplhfpianhaa
open Go.RowKit Go.Sort
set_option linter.unusedVariables false
set_option linter.unnecessarySimpa false
set_option linter.unusedSimpArgs false
set_option maxRecDepth 100000

section
variable {w : World} {r : Addr} {b : Nat} {u : Rw} {F : Nat → Prop} {p : Pn} {t : Tn} {x : Rn}
theorem RnM.wl (h : RnM w r b u F p t x) : (waitsL p x.voted).length ≤ 5 ∧ ∀ k ∈ waitsL p x.voted, k < 1000 :=
  ⟨Nat.le_trans (waitsL_len p x.voted) h.pn.n.2, fun k hk => by have := (waitsL_lt hk).1; have := h.pn.n.2; omega⟩
set_option maxHeartbeats 1000000 in
theorem pwaits_any (h : RnM w r b u F p t x) : Calls Try.prog 16 #[.pointer (some r)] w fun e w' => ∃ a c, e = .returned (.slice a (waitsP p x).length c) ∧ IsNs w' a (waitsP p x).length (waitsP p x) ∧ Below w.heap.size w w' := by
  obtain ⟨-, -, -, c3, -, -, -, -, c8, -⟩ := h.cells
  have hp := h.ptr
  subst hp
  by_cases h3 : x.stage = 3
  · have e : waitsP p x = waitsL p x.voted := if_pos h3
    rw [e]
    have HC := Lib.hid (pnclone_any (by have := h.wl.1; omega) h.wl.2 h.waits)
    obtain ⟨L, hL⟩ : ∃ L, L = waitsL p x.voted := ⟨_, rfl⟩
    rw [← hL] at HC c8 ⊢
    rw [h3] at c3
    clear h h3 e hL
    go_enter Try.func16, Try.ntmps16
    go_wp2_with (go_at_call 36; (with_reducible refine HC.out.mono ?_); rintro e w1 ⟨a, c, rfl, hz, hb1⟩)
    go_ret
    exact ⟨a, c, rfl, hz, hb1⟩
  · have e : waitsP p x = [] := if_neg h3
    rw [e]
    have h3z : ((x.stage : Int) != 3) = true := by rw [bne_iff_ne]; omega
    clear h h3 e
    go_enter Try.func16, Try.ntmps16
    go_wp2_with fail
    go_ret
    exact ⟨none, 0, rfl, ⟨rfl, by decide, fun i hi => absurd hi (Nat.not_lt_zero i)⟩, Below.refl _ _⟩
/-- One has voted: what a run is then. -/
theorem RnM.voted {W : World} (h : RnM w r b u F p t x) {g k : Nat} (e1 : u.va = some ⟨g, 0, none⟩) (hr : W.ownsRow 0 3 1 (.slice (some ⟨g, 0, none⟩) (waitsL p (x.voted ++ [k])).length u.vc) (waitsL p (x.voted ++ [k])).length (nsCells (waitsL p (x.voted ++ [k]))))
    (hbk : ∀ j, j ≠ g → W.heap[j]? = w.heap[j]?) (hsz : W.heap.size = w.heap.size) (hos : W.os = w.os ∧ W.tape = w.tape ∧ W.output = w.output) :
    RnM (W.setCell ⟨b, 8, none⟩ (.slice (some ⟨g, 0, none⟩) (waitsL p (x.voted ++ [k])).length u.vc)) r b u F p t ⟨x.stage, x.start, x.commit, x.read, x.voted ++ [k]⟩ ∧
      Moves (rnO b u F) (rnO b u F) w (W.setCell ⟨b, 8, none⟩ (.slice (some ⟨g, 0, none⟩) (waitsL p (x.voted ++ [k])).length u.vc)) := by
  have hvg : blkO u.va g := ⟨_, e1, rfl⟩
  obtain ⟨f1, f2, f3⟩ := h.fv g hvg
  have hbx := (hbk b (Ne.symm f2)).trans h.box
  have hbx8 := heap_setCell_same _ b 8 _ _ (.slice (some ⟨g, 0, none⟩) (waitsL p (x.voted ++ [k])).length u.vc) hbx
  have he : (u.cells p t x).setIfInBounds 8 (.slice (some ⟨g, 0, none⟩) (waitsL p (x.voted ++ [k])).length u.vc) = u.cells p t ⟨x.stage, x.start, x.commit, x.read, x.voted ++ [k]⟩ := by
    unfold Rw.cells
    rw [e1]
    rfl
  rw [he] at hbx8
  obtain ⟨w6, hw6⟩ : ∃ w6, w6 = W.setCell ⟨b, 8, none⟩ (.slice (some ⟨g, 0, none⟩) (waitsL p (x.voted ++ [k])).length u.vc) := ⟨_, rfl⟩
  have hot : ∀ j, j ≠ b → w6.heap[j]? = W.heap[j]? := fun j hk => by rw [hw6]; exact Below.heap_setCell _ _ _ _ hk
  have hs6 : w6.heap.size = W.heap.size := by rw [hw6]; simp [World.setCell]
  have hos6 : w6.os = w.os ∧ w6.tape = w.tape ∧ w6.output = w.output := by rw [hw6]; exact hos
  rw [← hw6] at hbx8 ⊢
  clear hw6
  have hkk : ∀ j, j ≠ b → j ≠ g → w6.heap[j]? = w.heap[j]? := fun j h1 h2 => (hot j h1).trans (hbk j h2)
  have hsz6 : w.heap.size ≤ w6.heap.size := by omega
  refine ⟨⟨h.ptr, hbx8, h.fx.same hsz6 fun j hF => hkk j (fun e => h.fb (by rw [← e]; exact hF)) (fun e => f1 (by rw [← e]; exact hF)), own_same h.reads fun j hj => hkk j (h.fr j hj).2 (fun e => f3 (by rw [← e]; exact hj)), ?_, h.pn, h.fb, h.fr, h.fv⟩, hos6.1, hos6.2.1, hos6.2.2, hsz6, fun j hj hn => hkk j (fun e => hn (.inl e)) (fun e => hn (.inr (.inr (.inr (by rw [e]; exact hvg))))), fun j hj => .inl hj⟩
  rw [e1]
  exact own_same hr fun j hj => hot j (by
    obtain ⟨q, e2, rfl⟩ := hj
    cases e2
    exact f2)
set_option maxHeartbeats 4000000 in
theorem pvote_any (h : RnM w r b u F p t x) (node : Int) (yes : Bool) : Calls Try.prog 31 #[.pointer (some r), .int .i64 node, .bool yes] w fun e w' => e = .returned (.tuple #[]) ∧ RnOut w r b u F p t (voteR p x node yes) w' := by
  have HO := Lib.hid (fun W hb => h.out (W := W) hb)
  have hp := h.ptr
  subst hp
  have HS := Lib.hid (psearch_any (waitsL_sorted p x.voted) (by have := h.wl.1; omega) h.waits node)
  obtain ⟨-, -, -, c3, -, -, -, -, c8, -, -, fr⟩ := h.cells
  have HM := Lib.hid h
  obtain ⟨L, hL⟩ : ∃ L, L = waitsL p x.voted := ⟨_, rfl⟩
  obtain ⟨I, hI⟩ : ∃ I, I = idxN L node := ⟨_, rfl⟩
  obtain ⟨OK, hOK⟩ : ∃ OK, OK = hasN L node := ⟨_, rfl⟩
  rw [← hL, ← hI, ← hOK] at HS
  rw [← hL] at c8
  by_cases hc : OK = true ∧ x.stage = 3
  · obtain ⟨h1, h3⟩ := hc
    rw [h1] at HS hOK
    have hany := hOK.symm
    unfold hasN at hany
    obtain ⟨k, hk, ek⟩ := List.any_eq_true.1 hany
    rw [beq_iff_eq] at ek
    subst ek
    obtain ⟨i1, i2⟩ := cut_sorted (by rw [hL]; exact waitsL_sorted p x.voted) hk
    rw [← hI] at i1 i2
    have hcut : L.take I ++ L.drop (I + 1) = waitsL p (x.voted ++ [k]) := by rw [waitsL_vote, ← hL]; exact i2
    have hl5 : L.length ≤ 5 := by rw [hL]; exact h.wl.1
    have hlen : (waitsL p (x.voted ++ [k])).length + 1 = L.length := by
      rw [← hcut, List.length_append, List.length_take, List.length_drop]
      omega
    have hrow := h.waits
    rw [← hL] at hrow
    obtain ⟨g, cap, e1, -, hgl⟩ := own_slice hrow (by omega)
    have e1a : u.va = some ⟨g, 0, none⟩ := by injection e1
    rw [e1a] at hrow c8 HS
    obtain ⟨V, hV⟩ : ∃ V, V = voteR p x (k : Int) yes := ⟨_, rfl⟩
    have hVV : V = ⟨if yes = false then 6 else if (waitsL p (x.voted ++ [k])).length = 0 then 4 else x.stage, x.start, x.commit, x.read, x.voted ++ [k]⟩ := by
      rw [hV]
      unfold voteR
      have e : waitsP p x = L := by rw [hL]; exact if_pos h3
      rw [e, if_pos hany]
      have e3 : (L.length = 1) = ((waitsL p (x.voted ++ [k])).length = 0) := propext ⟨fun _ => by omega, fun _ => by omega⟩
      simp only [e3, Int.toNat_natCast]
    rw [← hV]
    have HDEL : Hid (∀ q, Calls Try.prog 47 #[.slice (some ⟨g, 0, none⟩) L.length u.vc, .int .i64 (I : Int), .int .i64 ((I : Int) + 1)] (w.drewN q) fun e w' => e = .returned (.slice (some ⟨g, 0, none⟩) (waitsL p (x.voted ++ [k])).length u.vc) ∧
        RnM (w'.setCell ⟨b, 8, none⟩ (.slice (some ⟨g, 0, none⟩) (waitsL p (x.voted ++ [k])).length u.vc)) ⟨b, 0, none⟩ b u F p t ⟨x.stage, x.start, x.commit, x.read, x.voted ++ [k]⟩ ∧ Moves (rnO b u F) (rnO b u F) w (w'.setCell ⟨b, 8, none⟩ (.slice (some ⟨g, 0, none⟩) (waitsL p (x.voted ++ [k])).length u.vc)) ∧ w'.cell? ⟨b, 8, none⟩ = some (.slice (some ⟨g, 0, none⟩) L.length u.vc) ∧ (∀ j, w'.frozen? ⟨b, j, none⟩ = false) ∧ w'.cell? ⟨b, 3, none⟩ = some (.int .i64 (x.stage : Int))) := Lib.hid (fun q => by
      have hbq : Below w.heap.size w (w.drewN q) := below_drewN (Below.refl _ _) _
      have hm := HM.out.below hbq
      have hrow2 := hm.waits
      rw [← hL, e1a] at hrow2
      obtain ⟨cur, k1, k2, k3, k4, k5, k6, k7⟩ := ints_cur hrow2
      have := Try.slices_Delete_int g 0 u.vc I (I + 1) (ints L) (w.drewN q) (ints_holds hrow2) (by rw [ints_len]; omega) (by unfold maxLen at k5; omega) (by omega) (by rw [ints_len]; omega)
      rw [ints_len] at this
      refine this.mono ?_
      rintro e w' ⟨rfl, q2, hw⟩
      have hcast : (ints L).take I ++ (ints L).drop (I + 1) ++ List.replicate (I + 1 - I) 0 = ints (waitsL p (x.voted ++ [k])) ++ List.replicate 1 (0 : Int) := by
        rw [← hcut, show I + 1 - I = 1 by omega]
        unfold ints
        rw [List.map_append, List.map_take, List.map_drop]
      rw [hcast] at hw
      obtain ⟨r1, r2, r3, r4⟩ := ints_put hrow2 hlen hw
      obtain ⟨s1, s2⟩ := hm.voted e1a r1 r2 r3 r4
      have hgb : b ≠ g := fun e => (hm.fv g ⟨_, e1a, rfl⟩).2.1 e.symm
      have hbx := (r2 b hgb).trans hm.box
      refine ⟨by rw [show L.length - (I + 1 - I) = (waitsL p (x.voted ++ [k])).length by omega], s1, (Moves.of_below hbq).trans s2, ?_, fun j => frozen_of_row _ _ j _ _ hbx, ?_⟩
      · rw [cell_of_row _ _ _ _ _ _ hbx, hL, ← e1a]; rfl
      · rw [cell_of_row _ _ _ _ _ _ hbx]; rfl)
    obtain ⟨N, hN⟩ : ∃ N, N = (waitsL p (x.voted ++ [k])).length := ⟨_, rfl⟩
    obtain ⟨M, hM⟩ : ∃ M, M = L.length := ⟨_, rfl⟩
    rw [← hN, ← hM] at HDEL
    rw [← hN] at hVV
    rw [← hM] at HS c8
    have hI5 : (I : Int) < 5 := by omega
    have HV := Lib.hid hVV
    rw [h3] at c3 HDEL HV
    clear h hany hk i1 i2 hcut hl5 hlen hrow e1 hV hVV hOK hI hL hN hM hgl e1a HM HO h1 OK L
    cases yes with
    | false =>
      go_enter Try.func31, Try.ntmps31
      go_wp2_with (first
        | (go_at_call 46; (with_reducible refine HS.out.mono ?_); rintro e w1 ⟨rfl, q, rfl⟩)
        | (go_at_call 47; (with_reducible refine (HDEL.out _).mono ?_); rintro e w3 ⟨rfl, s1, s2, d8, df, d3⟩; have HS1 := Lib.hid s1; have HS2 := Lib.hid s2; clear s1 s2))
      go_end0
      rw [HV.out]
      exact ⟨rfl, u, HS1.out.set 3 (.int .i64 6) ⟨6, x.start, x.commit, x.read, x.voted ++ [k]⟩ rfl rfl rfl, HS2.out.trans (moves_box _ b 3 _ (.inl rfl))⟩
    | true =>
      by_cases hN0 : N = 0
      · have hN1 : ((N : Int) == 0) = true := by rw [beq_iff_eq]; omega
        go_enter Try.func31, Try.ntmps31
        go_wp2_with (first
          | (go_at_call 46; (with_reducible refine HS.out.mono ?_); rintro e w1 ⟨rfl, q, rfl⟩)
          | (go_at_call 47; (with_reducible refine (HDEL.out _).mono ?_); rintro e w3 ⟨rfl, s1, s2, d8, df, d3⟩; have HS1 := Lib.hid s1; have HS2 := Lib.hid s2; clear s1 s2))
        go_end0
        rw [HV.out, if_neg (by decide), if_pos hN0]
        subst hN0
        exact ⟨rfl, u, HS1.out.set 3 (.int .i64 4) ⟨4, x.start, x.commit, x.read, x.voted ++ [k]⟩ rfl rfl rfl, HS2.out.trans (moves_box _ b 3 _ (.inl rfl))⟩
      · have hN1 : ((N : Int) == 0) = false := by rw [beq_eq_false_iff_ne]; omega
        go_enter Try.func31, Try.ntmps31
        go_wp2_with (first
          | (go_at_call 46; (with_reducible refine HS.out.mono ?_); rintro e w1 ⟨rfl, q, rfl⟩)
          | (go_at_call 47; (with_reducible refine (HDEL.out _).mono ?_); rintro e w3 ⟨rfl, s1, s2, d8, df, d3⟩; have HS1 := Lib.hid s1; have HS2 := Lib.hid s2; clear s1 s2))
        go_end0
        rw [HV.out, if_neg (by decide), if_neg hN0]
        exact ⟨rfl, u, HS1.out, HS2.out⟩
  · have e : voteR p x node yes = x := by
      unfold voteR
      refine if_neg (fun e => hc ⟨?_, waits_stageB e⟩)
      have e3 := waits_stageB e
      have e4 : waitsP p x = L := by rw [hL]; exact if_pos e3
      rw [e4] at e
      rw [hOK]
      exact e
    rw [e]
    obtain ⟨M, hM⟩ : ∃ M, M = L.length := ⟨_, rfl⟩
    rw [← hM] at HS c8
    by_cases h3 : x.stage = 3
    · have hOKf : OK = false := by
        rw [← Bool.not_eq_true]
        exact fun e => hc ⟨e, h3⟩
      rw [hOKf] at HS
      rw [h3] at c3
      clear h hc e hI hOK hL hM HM h3 hOKf
      go_enter Try.func31, Try.ntmps31
      go_wp2_with (go_at_call 46; (with_reducible refine HS.out.mono ?_); rintro e w1 ⟨rfl, q, rfl⟩)
      refine bodyPost_ret (results_none rfl _ _ _) rfl ?_
      exact ⟨rfl, HO.out _ (below_drewN (Below.refl _ _) _)⟩
    · have h3z : ((x.stage : Int) != 3) = true := by rw [bne_iff_ne]; omega
      clear h hc e hI hOK hL hM HM h3
      go_enter Try.func31, Try.ntmps31
      go_wp2_with (go_at_call 46; (with_reducible refine HS.out.mono ?_); rintro e w1 ⟨rfl, q, rfl⟩)
      refine bodyPost_ret (results_none rfl _ _ _) rfl ?_
      exact ⟨rfl, HO.out _ (below_drewN (Below.refl _ _) _)⟩
end
end Go.Proofs.Ytdldplhfpianhaa

namespace Go.Proofs.Ytdldplhfpianhaa
open Go.RowKit
set_option linter.unusedVariables false
set_option linter.unnecessarySimpa false
set_option linter.unusedSimpArgs false
set_option maxRecDepth 100000

theorem settled_enters : ∀ args w, (callFunc 55 args).run Try.prog w = .ok (.enter 55 args) w := enters_of Try.func55 (by kernel_rfl) rfl
section
variable {w : World} {r : Addr} {b : Nat} {u : Rw} {F : Nat → Prop} {p : Pn} {t : Tn} {x : Rn}
set_option maxHeartbeats 4000000 in
theorem ppart_any (h : RnM w r b u F p t x) (node : Int) :
    Calls Try.prog 20 #[.pointer (some r), .int .i64 node] w fun e w' => ∃ a n c, e = .returned (.slice a n c) ∧ IsWqs w' a n c (partC p.n node p.W) ∧ Below w.heap.size w w' := by
  obtain ⟨-, -, -, -, -, -, c6, c7, -⟩ := h.cells
  have hp := h.ptr
  subst hp
  have HM := Lib.hid h
  have hq0 := h.fx.writes
  obtain ⟨wa, hwa0⟩ : ∃ wa, wa = u.wa := ⟨_, rfl⟩
  rw [← hwa0] at hq0 c6
  have HQ := Lib.hid hq0
  clear hwa0 hq0
  have heq := Lib.hid (show p.W.length = u.wn from h.fx.writes.1)
  have hw8 : u.wn ≤ 8 := by have := h.pn.W.1; have := heq.out; omega
  have hw8' := Lib.hid hw8
  have HOW := Lib.hid (fun W (hb : Below w.heap.size w W) => h.fx.owner W (fun k hk => hb.block k (h.fx.lt k hk)))
  have hvs := Lib.hid h.pn.W.2
  obtain ⟨inf, hj, hy0, hy1, hy2⟩ := info_parts wqInfo
  have HEN := settled_enters
  unfold Rw.owner at c7
  clear h hw8
  go_enter Try.func20, Try.ntmps20
  go_wp2_with fail
  go_loopg [5, 13] u.wn (fun g s5 s13 wx => ∃ (i : Nat) (L : List Wq) (v : Value), i + g = u.wn ∧ s5 = v ∧ s13 = .int .i64 i ∧ Hid (L = partC p.n node (p.W.take i)) ∧ Hid (L.length ≤ i) ∧ Hid (wx.ownsRow w.heap.size 64 3 v L.length (wqCells L)) ∧ Hid (Below w.heap.size w wx))
  case atStart => exact ⟨0, [], _, by omega, rfl, rfl, Lib.hid rfl, Lib.hid (Nat.le_refl _), Lib.hid ⟨rfl, .inl ⟨rfl, rfl⟩⟩, Lib.hid (Below.refl _ _)⟩
  case round =>
    obtain ⟨i, L, v, hig, rfl, rfl, HL, HN, HO, HB⟩ := hrel
    clear c6 c7
    cases gk with
    | zero =>
      have hin : u.wn = i := by omega
      have hfin : L = partC p.n node p.W := by
        have e : p.W.take i = p.W := List.take_of_length_le (by have := heq.out; omega)
        rw [HL.out, e]
      obtain ⟨a, n, c, rfl, hz⟩ : ∃ a n c, u5 = .slice a n c ∧ IsWqs wr a n c L := by
        rcases HO.out.2 with ⟨h1, h2⟩ | ⟨g, cap', cur, h, hB, _⟩
        · subst h1
          have hn0 : L = [] := List.eq_nil_of_length_eq_zero h2
          subst hn0
          exact ⟨none, 0, 0, rfl, rfl, Nat.zero_le _, Nat.le_refl _, fun i hi => absurd hi (Nat.not_lt_zero i)⟩
        · have ho := HO.out
          subst h
          refine ⟨_, _, _, rfl, wqs_own ho rfl (by have := HN.out; have := hw8'.out; omega) (fun q hq => ?_)⟩
          rw [hfin] at hq
          have := hvs.out q (List.mem_filter.1 hq).1
          unfold maxLen
          omega
      rw [hfin] at hz
      have HZ := Lib.hid hz
      have hlz : ¬ (i : Int) < (u.wn : Int) := by omega
      clear hz hfin
      go_wp2_with fail
      go_ret
      exact ⟨a, n, c, rfl, HZ.out, HB.out⟩
    | succ g =>
      have hw8 := hw8'.out
      have hil : i < u.wn := by omega
      have hiz : (i : Int) < (u.wn : Int) := by omega
      obtain ⟨wb, off, rfl, hbl, _, _, j0, j1, j2⟩ := (HQ.out.below HB.out).2.2.2 i hil
      have hnx := partC_next (nodes := p.n) (node := node) (l := p.W) (i := i) (by rw [heq.out]; exact hil)
      obtain ⟨z, hz⟩ : ∃ z, z = p.W.getD i wq0 := ⟨_, rfl⟩
      have hzm : z ∈ p.W := by
        rw [hz, List.getD, List.getElem?_eq_getElem (by rw [heq.out]; exact hil)]
        exact List.getElem_mem _
      have HZS := Lib.hid (hvs.out z hzm)
      have HCL := Lib.hid (fun W => pcloneW_any z W (by have := HZS.out; omega) (by have := HZS.out; omega))
      have HOZ := Lib.hid (fun W hb => HOW.out W hb z hzm)
      rw [← hz] at j0 j1 j2 hnx
      obtain ⟨K, G, V⟩ := z
      simp only at j0 j1 j2 hnx HCL HOZ
      obtain ⟨B, hB⟩ : ∃ B, ((ownN K p.n : Int) == node) = B := ⟨_, rfl⟩
      rw [hB, ← HL.out] at hnx
      have HNX := Lib.hid hnx
      have hb1 := (Below.refl wr.heap.size wr).alloc (Nat.le_refl _) (.cells #[.string K, .bool G, .string V] 64)
      have hr1 := heap_alloc_new wr (.cells #[.string K, .bool G, .string V] 64)
      obtain ⟨w2, hw2⟩ : ∃ w2, w2 = wr.alloc (.cells #[.string K, .bool G, .string V] 64) := ⟨_, rfl⟩
      rw [← hw2] at hb1 hr1
      obtain ⟨A, hA⟩ : ∃ A, A = wr.heap.size := ⟨_, rfl⟩
      rw [← hA] at hr1
      have HB2 := Lib.hid (HB.out.trans (hb1.mono HB.out.size))
      have HO2 : Hid (w2.ownsRow w.heap.size 64 3 u5 L.length (wqCells L)) := Lib.hid (own_later HO.out hb1)
      have HR2 := Lib.hid hr1
      clear hz hbl hnx hzm hb1 hr1
      go_upto_region 5 with fail
      rw [← hw2, ← hA]
      clear hw2 hA j0 j1 j2
      obtain ⟨-, -, -, -, -, -, -, c7, -⟩ := (HM.out.below HB2.out).cells
      unfold Rw.owner at c7
      obtain ⟨a0, a1, a2⟩ := pcells3 HR2.out
      have HOQ := Lib.hid (fun q => HOZ.out (w2.drewN q) (below_drewN HB2.out q))
      cases B with
      | false =>
        rw [if_neg (by decide)] at HNX
        go_quiet ((go_at_call 55; exact Calls.quiet_of_same ((HOQ.out _).mono fun _ _ hh => ⟨hh.1, hh.2.symm⟩)))
        go_wp2_with fail
        go_roundg g
        case measure => omega
        case rel => exact ⟨i + 1, L, _, by omega, rfl, by go_num, Lib.hid HNX.out.symm, Lib.hid (by have := HN.out; omega), Lib.hid (own_later HO2.out (below_drewN (Below.refl _ _) _)), Lib.hid (below_drewN HB2.out _)⟩
      | true =>
        rw [if_pos rfl] at HNX
        go_quiet ((go_at_call 55; exact Calls.quiet_of_same ((HOQ.out _).mono fun _ _ hh => ⟨hh.1, hh.2.symm⟩)))
        have q1 := Lib.hid (show (wqCells [(⟨K, G, V⟩ : Wq)]).length = 1 * 3 from rfl)
        have q3 := Lib.hid (wqCells_one [(⟨K, G, V⟩ : Wq)])
        have q4 := Lib.hid (show L.length + 1 ≤ maxLen by have := HN.out; have := hw8'.out; unfold maxLen; omega)
        have q5 := Lib.hid (show (L.length + 1) * 40 ≤ 140737488355328 by have := HN.out; have := hw8'.out; omega)
        go_upto_region 6 with fail
        obtain ⟨wy, hwy⟩ : ∃ wy, wy = w2.drewN nq := ⟨_, rfl⟩
        have hby : Below w2.heap.size w2 wy := by rw [hwy]; exact below_drewN (Below.refl _ _) _
        rw [← hwy]
        obtain ⟨k0, k1, k2⟩ := pcells3 ((hby.block A (Array.getElem?_eq_some_iff.1 HR2.out).1).trans HR2.out)
        have HBy := Lib.hid (HB2.out.trans (hby.mono HB2.out.size))
        have HOy : Hid (wy.ownsRow w.heap.size 64 3 u5 L.length (wqCells L)) := Lib.hid (own_later HO2.out hby)
        clear hwy hby a0 a1 a2 c7
        go_wp2_with (first
          | (go_at_call 38; (with_reducible refine (HCL.out _).mono ?_); rintro e w5 ⟨rfl, hb5⟩; have HB5 := Lib.hid (HBy.out.trans (hb5.mono HBy.out.size)); have HO5 : Hid (w5.ownsRow w.heap.size 64 3 u5 L.length (wqCells L)) := Lib.hid (own_later HOy.out hb5); clear hb5)
          | (refine wpList_plain rfl fun K' hK' => wqwp_bs1 _ ⟨K, G, V⟩ rfl rfl ?_; refine hK' _ _ ?_; (try simp only [Wq.cells]))
          | (at_builtin; refine wpList_append_own _ rfl _ _ 23 rfl w.heap.size 64 inf (.agg #[.string ⟨#[]⟩, .bool false, .string ⟨#[]⟩]) 3 40 Try.underlying23 hj hy0 hy1 hy2 rfl (by decide) u5 L.length (wqCells L) rfl (HO5.out.alloc _) ⟨w5.heap.size, 0, none⟩ 1 1 (wqCells [(⟨K, G, V⟩ : Wq)]) rfl q1.out (fun j u h => by rw [Addr.add_lit, Nat.zero_add, cell_of_row _ _ _ _ _ _ (heap_alloc_new w5 _)]; simpa [wqCells, Wq.cells] using h) q3.out q4.out q5.out (Nat.le_trans HB5.out.size (by simp)) ?_; intro v9 w9 hown9 hg9 hn9))
        have hb9 : Below w.heap.size w w9 := HB5.out.trans (((Below.refl w5.heap.size w5).alloc (Nat.le_refl _) (.cells #[.string K, .bool G, .string V] 64)).mono HB5.out.size |>.trans ⟨hg9.os, hg9.tape, hg9.output, hg9.size, fun k hk => hg9.block k (by have := HB5.out.size; simp; omega) (fun e => by have := ((HO5.out.alloc (.cells #[.string K, .bool G, .string V] 64)).lt k e.symm).1; omega)⟩)
        have HB9 := Lib.hid hb9
        have HO9 : Hid (w9.ownsRow w.heap.size 64 3 v9 (L ++ [(⟨K, G, V⟩ : Wq)]).length (wqCells (L ++ [(⟨K, G, V⟩ : Wq)]))) := Lib.hid (by rw [wqCells_app, List.length_append]; exact hown9)
        clear hown9 hg9 hn9 hb9
        go_roundg g
        case measure => omega
        case rel => exact ⟨i + 1, _, _, by omega, rfl, by go_num, Lib.hid HNX.out.symm, Lib.hid (by have := HN.out; simp; omega), HO9, HB9⟩
end
end Go.Proofs.Ytdldplhfpianhaa
