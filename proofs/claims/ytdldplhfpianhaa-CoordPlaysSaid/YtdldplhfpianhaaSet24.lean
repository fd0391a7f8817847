/-
  Joined: CrdPTook, CrdPInts.
-/
import Derived.Test.YtdldplhfpianhaaSet22
import Derived.Test.YtdldplhfpianhaaSet23
namespace Go.Proofs.Ytdldplhfpianhaa
open Go.RowKit
set_option linter.unusedVariables false
set_option linter.unnecessarySimpa false
set_option linter.unusedSimpArgs false
set_option maxRecDepth 100000

section
variable {w : World} {r : Addr} {b : Nat} {u : Rw} {F : Nat → Prop} {p : Pn} {t : Tn} {x : Rn}
/-- What is left to be read begins with the key that is next. -/
theorem RnM.first (h : RnM w r b u F p t x) (hl : x.read.length < p.R.length) : ∃ g off, u.la = some ⟨g, off, none⟩ ∧ g < w.heap.size ∧ 0 < u.ln ∧ w.cell? ⟨g, off, none⟩ = some (.string (p.R.getD x.read.length ⟨#[]⟩)) ∧ (p.R.getD x.read.length ⟨#[]⟩).size ≤ 100 := by
  have hln := h.fx.left.1
  rw [List.length_drop] at hln
  obtain ⟨g, off, h1, h2, h3, h4⟩ := h.fx.left.2.2 0 (by omega)
  have e : (p.R.drop x.read.length).getD 0 ⟨#[]⟩ = p.R.getD x.read.length ⟨#[]⟩ := by
    rw [List.getD, List.getD, List.getElem?_drop, Nat.add_zero]
  rw [e] at h4
  refine ⟨g, off, h1, h2, by omega, h4, h.pn.R.2 _ ?_⟩
  rw [List.getD, List.getElem?_eq_getElem hl]
  exact List.getElem_mem hl
set_option maxHeartbeats 1000000 in
theorem pnext_any (h : RnM w r b u F p t x) (hok : RnOk p x) : Calls Try.prog 13 #[.pointer (some r)] w fun e w' => e = .returned (.tuple (if x.stage = 2 then #[.string (p.R.getD x.read.length ⟨#[]⟩), .bool true] else #[.string ⟨#[]⟩, .bool false])) ∧ Below w.heap.size w w' := by
  obtain ⟨-, -, -, c3, c4, -⟩ := h.cells
  have hp := h.ptr
  subst hp
  by_cases h2 : x.stage = 2
  · obtain ⟨g, off, e1, h3, h4, c, h5⟩ := h.first (hok.left h2)
    rw [if_pos h2]
    obtain ⟨K, hK⟩ : ∃ K, K = p.R.getD x.read.length ⟨#[]⟩ := ⟨_, rfl⟩
    rw [← hK] at c h5 ⊢
    rw [h2] at c3
    rw [e1] at c4
    have h4z : (0 : Int) < (u.ln : Int) := by omega
    have H := Lib.hid (fun W => pclone_any K W (by omega))
    clear h h2 hok e1 hK h5 h3
    go_enter Try.func13, Try.ntmps13
    go_wp2_with (go_at_call 35; (with_reducible refine (H.out _).mono ?_); rintro e w1 ⟨rfl, hb1⟩)
    go_ret2
    exact ⟨rfl, hb1⟩
  · rw [if_neg h2]
    have h2z : ((x.stage : Int) != 2) = true := by rw [bne_iff_ne]; omega
    clear h h2 hok
    go_enter Try.func13, Try.ntmps13
    go_wp2_with fail
    go_ret2
    exact ⟨rfl, Below.refl _ _⟩
def psiTk (A b B : Nat) (v0 : Value) (rl : Nat) (L : List Rd) (d : Rd) (row : Option Nat) (t : Nat) (v : Value) (W : World) : Prop :=
  match t with
  | 0 => v = .pointer (some ⟨b, 0, none⟩)
  | 3 => v = .pointer (some ⟨A, 0, none⟩)
  | 20 => v = .pointer (some ⟨b, 0, none⟩)
  | 21 => v = .pointer (some ⟨b, 0, none⟩)
  | 22 => v = .pointer (some ⟨b, 0, none⟩)
  | 23 => v = .pointer (some ⟨b, 5, none⟩)
  | 24 => v = v0
  | 25 => v = .agg #[.string d.key, .bool d.found, .int .u64 (d.v.time : Int), .bool d.v.gone, .string d.v.val]
  | 26 => v = .agg #[.string d.key, .bool d.found, .int .u64 (d.v.time : Int), .bool d.v.gone, .string d.v.val]
  | 27 => ∃ gu, v = .slice (some ⟨gu, 0, none⟩) 1 1 ∧ B ≤ gu ∧ W.heap[gu]? = some (.cells d.cells.toArray 45 (0, 0))
  | 28 => W.ownsRow 0 45 5 v (rl + 1) (rdCells L ++ rdCells [d]) ∧ ∀ k, v.ownBlock = some k → row = some k ∨ B ≤ k
  | 29 => v = .pointer (some ⟨b, 0, none⟩)
  | 30 => v = .pointer (some ⟨b, 5, none⟩)
  | _ => True
theorem psiTk_stable {A b B : Nat} {v0 : Value} {rl : Nat} {L : List Rd} {d : Rd} {row : Option Nat} (hrow : ∀ k, row = some k → k < B) {t : Nat} {v : Value} {w w' : World} (h : psiTk A b B v0 rl L d row t v w) (hb : KeepG 45 5 rl (rl + 1) (rdCells L) (rdCells L ++ rdCells [d]) row w w') : psiTk A b B v0 rl L d row t v w' := by
  by_cases e : t = 27
  · subst e
    obtain ⟨D, h1, h2, h3⟩ := h
    exact ⟨D, h1, h2, (hb.block D (Array.getElem?_eq_some_iff.1 h3).1 (fun e => by have := hrow D e.symm; omega)).trans h3⟩
  · by_cases e2 : t = 28
    · subst e2
      exact ⟨hb.k3 _ h.1, h.2⟩
    · unfold psiTk at h ⊢
      split at h <;> first | exact h | exact absurd rfl e | exact absurd rfl e2 | trivial
/-- One more is read: what a run is then, behind both stores. -/
def Rw.took (u : Rw) (g off g' c : Nat) : Rw := ⟨some ⟨g, off, none⟩, u.ln - 1, u.lc - 1, some ⟨g', 0, none⟩, c, u.wa, u.wn, u.wc, u.va, u.vc, u.mb⟩
theorem RnM.took {W : World} (h : RnM w r b u F p t x) (hl : x.read.length < p.R.length) {g off off' : Nat} (e1 : u.la = some ⟨g, off, none⟩) (ho : off' = off ∧ u.lc = 1 ∨ off' = off + 1) (d : Rd) {g' c : Nat}
    (hsz : w.heap.size ≤ W.heap.size) (hbk : ∀ k, k < w.heap.size → ¬ blkO u.ra k → W.heap[k]? = w.heap[k]?) (hos : W.os = w.os ∧ W.tape = w.tape ∧ W.output = w.output)
    (hq : W.ownsRow 0 45 5 (.slice (some ⟨g', 0, none⟩) (x.read ++ [d]).length c) (x.read ++ [d]).length (rdCells (x.read ++ [d]))) (hg : blkO u.ra g' ∨ w.heap.size ≤ g') :
    RnM ((W.setCell ⟨b, 5, none⟩ (.slice (some ⟨g', 0, none⟩) (x.read ++ [d]).length c)).setCell ⟨b, 4, none⟩ (.slice (some ⟨g, off', none⟩) (u.ln - 1) (u.lc - 1))) r b (u.took g off' g' c) F p t ⟨x.stage, x.start, x.commit, x.read ++ [d], x.voted⟩ ∧
      Moves (rnO b u F) (rnO b (u.took g off' g' c) F) w ((W.setCell ⟨b, 5, none⟩ (.slice (some ⟨g', 0, none⟩) (x.read ++ [d]).length c)).setCell ⟨b, 4, none⟩ (.slice (some ⟨g, off', none⟩) (u.ln - 1) (u.lc - 1))) := by
  have hbra : ¬ blkO u.ra b := fun e => (h.fr b e).2 rfl
  have hgb : g' ≠ b := fun e => by
    rcases hg with e2 | e2
    · exact hbra (by rw [← e]; exact e2)
    · have := h.blt; omega
  have hbx := (hbk b h.blt hbra).trans h.box
  have hbx5 := heap_setCell_same _ b 5 _ _ (.slice (some ⟨g', 0, none⟩) (x.read ++ [d]).length c) hbx
  have hbx4 := heap_setCell_same _ b 4 _ _ (.slice (some ⟨g, off', none⟩) (u.ln - 1) (u.lc - 1)) hbx5
  obtain ⟨w6, hw6⟩ : ∃ w6, w6 = ((W.setCell ⟨b, 5, none⟩ (.slice (some ⟨g', 0, none⟩) (x.read ++ [d]).length c)).setCell ⟨b, 4, none⟩ (.slice (some ⟨g, off', none⟩) (u.ln - 1) (u.lc - 1))) := ⟨_, rfl⟩
  have hot : ∀ k, k ≠ b → w6.heap[k]? = W.heap[k]? := fun k hk => by rw [hw6]; exact (Below.heap_setCell _ _ _ _ hk).trans (Below.heap_setCell _ _ _ _ hk)
  have hs6 : w6.heap.size = W.heap.size := by rw [hw6]; simp [World.setCell]
  have hos6 : w6.os = w.os ∧ w6.tape = w.tape ∧ w6.output = w.output := by rw [hw6]; exact hos
  rw [← hw6] at hbx4 ⊢
  clear hw6
  have hkk : ∀ k, k < w.heap.size → k ≠ b → ¬ blkO u.ra k → w6.heap[k]? = w.heap[k]? := fun k h1 h2 h3 => (hot k h2).trans (hbk k h1 h3)
  have hF : ∀ k, F k → w6.heap[k]? = w.heap[k]? := fun k hF => hkk k (h.fx.lt k hF) (fun e => h.fb (by rw [← e]; exact hF)) (fun e => (h.fr k e).1 hF)
  have hsz6 : w.heap.size ≤ w6.heap.size := by omega
  have hgr : ∀ k, blkO (some (⟨g', 0, none⟩ : Addr)) k → k = g' := by rintro k ⟨q, e2, rfl⟩; cases e2; rfl
  refine ⟨⟨h.ptr, hbx4, ?_, ?_, ?_, h.pn, h.fb, ?_, ?_⟩, hos6.1, hos6.2.1, hos6.2.2, hsz6, ?_, ?_⟩
  · have hx := h.fx.same hsz6 hF
    refine ⟨?_, by have := hx.lcap; show u.ln - 1 ≤ u.lc - 1; omega, fun q hq => h.fx.lfix ⟨g, off, none⟩ e1 |> fun z => by cases hq; exact z, hx.writes, hx.wfix, hx.owner, hx.lt⟩
    have hl2 := hx.left
    rw [e1] at hl2
    have hlen := hl2.1
    rw [List.length_drop] at hlen
    refine ⟨by rw [List.length_drop, List.length_append]; show p.R.length - (x.read.length + 1) = u.ln - 1; omega, by have := hl2.2.1; show u.ln - 1 ≤ maxLen; omega, fun i hi => ?_⟩
    have hi : i < u.ln - 1 := hi
    obtain ⟨g2, off2, k1, k2, k3, k4⟩ := hl2.2.2 (i + 1) (by omega)
    cases k1
    have he : (p.R.drop (x.read ++ [d]).length).getD i ⟨#[]⟩ = (p.R.drop x.read.length).getD (i + 1) ⟨#[]⟩ := by
      rw [List.getD, List.getD, List.getElem?_drop, List.getElem?_drop, List.length_append]
      simp only [List.length_cons, List.length_nil]
      rw [show x.read.length + (0 + 1) + i = x.read.length + (i + 1) by omega]
    rw [he]
    have ho2 : off' = off + 1 := by
      rcases ho with ⟨_, h2⟩ | h2
      · have := hx.lcap; omega
      · exact h2
    refine ⟨g, off', rfl, k2, k3, ?_⟩
    rw [ho2, show off + 1 + i = off + (i + 1) by omega]
    exact k4
  · exact own_same hq fun k hk => by rw [hgr k hk]; exact hot g' hgb
  · exact own_same h.waits fun k hk => hkk k (own_lt h.waits k hk) (h.fv k hk).2.1 (h.fv k hk).2.2
  · intro k hk
    rw [hgr k hk]
    rcases hg with e2 | e2
    · exact h.fr g' e2
    · exact ⟨fun hF => by have := h.fx.lt g' hF; omega, hgb⟩
  · intro k hk
    refine ⟨(h.fv k hk).1, (h.fv k hk).2.1, fun e => ?_⟩
    have := hgr k e
    subst this
    rcases hg with e2 | e2
    · exact (h.fv k hk).2.2 e2
    · have := own_lt h.waits k hk; omega
  · intro k hk hn
    exact hkk k hk (fun e => hn (.inl e)) (fun e => hn (.inr (.inr (.inl e))))
  · rintro k (hk | hk | hk | hk)
    · exact .inl (.inl hk)
    · exact .inl (.inr (.inl hk))
    · rw [hgr k hk]
      rcases hg with e2 | e2
      · exact .inl (.inr (.inr (.inl e2)))
      · exact .inr e2
    · exact .inl (.inr (.inr (.inr hk)))
set_option maxHeartbeats 4000000 in
theorem ptook_any (h : RnM w r b u F p t x) (hok : RnOk p x) (d : Rd) (hd : d.ok) : Calls Try.prog 30 #[.pointer (some r), .agg d.cells.toArray] w fun e w' => e = .returned (.tuple #[]) ∧ RnOut w r b u F p t (tookR p x d) w' := by
  have hblt := h.blt
  have HO := Lib.hid (fun W hb => h.out (W := W) hb)
  have hbA := (Below.refl w.heap.size w).alloc (Nat.le_refl _) (.cells d.cells.toArray 45)
  have hrA := heap_alloc_new w (.cells d.cells.toArray 45)
  obtain ⟨w1, hw1⟩ : ∃ w1, w1 = w.alloc (.cells d.cells.toArray 45) := ⟨_, rfl⟩
  rw [← hw1] at hbA hrA
  obtain ⟨A, hA⟩ : ∃ A, A = w.heap.size := ⟨_, rfl⟩
  rw [← hA] at hrA
  have hAl : A < w1.heap.size := (Array.getElem?_eq_some_iff.1 hrA).1
  have HB := Lib.hid hbA
  have HA := Lib.hid hrA
  have hne : b ≠ A := by omega
  have hm := h.below hbA
  obtain ⟨-, -, -, c3, c4, c5, -, -, -, -, -, fr⟩ := hm.cells
  have hp := h.ptr
  subst hp
  unfold Rd.cells at *
  by_cases h2 : x.stage = 2
  · obtain ⟨g, off, e1, h3, h4, c, h5⟩ := hm.first (hok.left h2)
    obtain ⟨K, hK⟩ : ∃ K, K = p.R.getD x.read.length ⟨#[]⟩ := ⟨_, rfl⟩
    obtain ⟨E, hE⟩ : ∃ E, E = sameK K d.key := ⟨_, rfl⟩
    rw [← hK] at c h5
    have hE1 : (d.key.toList == K.toList) = E := by rw [hE]; unfold sameK; rw [Bool.eq_iff_iff, beq_iff_eq, beq_iff_eq]; exact eq_comm
    rw [h2] at c3
    rw [e1] at c4
    have h4z : (0 : Int) < (u.ln : Int) := by omega
    obtain ⟨a0, a1, a2, a3, a4⟩ := pcells5 hrA
    cases E with
    | false =>
      have e : tookR p x d = x := if_neg (fun e => by rw [← hK, ← hE] at e; cases e.2)
      rw [e]
      clear h hm e hok hE hK e1 h5 h3 h4 hbA hrA
      go_enter Try.func30, Try.ntmps30
      go_upto_region 1 with fail
      rw [← hw1, ← hA]
      clear hw1 hA
      go_quiet (fail)
      revert nq; intro n1
      go_wp2_with fail
      refine bodyPost_ret (results_none rfl _ _ _) rfl ?_
      exact ⟨rfl, HO.out _ (below_drewN HB.out _)⟩
    | true =>
      have hlt := hok.left h2
      have e : tookR p x d = goOn p ⟨x.stage, x.start, x.commit, x.read ++ [d], x.voted⟩ := if_pos ⟨h2, by rw [← hK, ← hE]⟩
      rw [e, h2]
      have HM := Lib.hid hm
      have HRD := Lib.hid (And.intro hlt (And.intro hd e1))
      have HRL := Lib.hid (fun k (hk : blkO u.ra k) => own_lt h.reads k hk)
      clear h e hok hE hK h5 h3 h4 hbA hlt HO h2 hm
      go_enter Try.func30, Try.ntmps30
      go_upto_region 1 with fail
      rw [← hw1, ← hA]
      have HAw := Lib.hid (show w.heap.size ≤ A from Nat.le_of_eq hA.symm)
      clear hw1 hA
      go_quiet (fail)
      revert nq; intro n1
      go_upto_region 2 with fail
      have hb1 : Below w1.heap.size w1 (w1.drewN n1) := below_drewN (Below.refl _ _) _
      obtain ⟨W1, hW1⟩ : ∃ W1, W1 = w1.drewN n1 := ⟨_, rfl⟩
      rw [← hW1] at hb1
      rw [← hW1]
      clear hW1
      have HM1 := Lib.hid (HM.out.below hb1)
      have HA1 := Lib.hid ((hb1.block A hAl).trans HA.out)
      have HBW := Lib.hid (HB.out.trans (hb1.mono HB.out.size))
      have HBS := Lib.hid (show w.heap.size ≤ W1.heap.size from HBW.out.size)
      clear c3 c4 c5 fr c hb1 hrA hAl a0 a1 a2 a3 a4 hE1 hd
      obtain ⟨row, hrow⟩ : ∃ row, row = (Value.slice u.ra x.read.length u.rc).ownBlock := ⟨_, rfl⟩
      have hrb : ∀ k, row = some k → blkO u.ra k := fun k hk => by
        rw [hrow] at hk
        cases hra : u.ra with
        | none => rw [hra] at hk; cases hk
        | some q => rw [hra] at hk; exact ⟨q, rfl, by simpa [Value.ownBlock] using hk⟩
      have hrB : ∀ k, row = some k → k < W1.heap.size := fun k hk => own_lt HM1.out.reads k (hrb k hk)
      have hrA2 : some A ≠ row := fun e => by have := HRL.out A (hrb A e.symm); have := HAw.out; omega
      have hrb2 : some b ≠ row := fun e => (HM1.out.fr b (hrb b e.symm)).2 rfl
      obtain ⟨v0, hv0⟩ : ∃ v0, v0 = Value.slice u.ra x.read.length u.rc := ⟨_, rfl⟩
      have hown : W1.ownsRow 0 45 5 v0 x.read.length (rdCells x.read) := by rw [hv0]; exact HM1.out.reads
      rw [← hv0] at hrow
      have HV0 := Lib.hid hv0
      clear hv0
      have hsm : x.read.length ≤ 1000 := by have := HRD.out.1; have := HM1.out.pn.R.1; omega
      have HBX := Lib.hid HM1.out.box
      refine wp_region_tailN [0, 3] [28, 30] (KeepG 45 5 x.read.length (x.read.length + 1) (rdCells x.read) (rdCells x.read ++ rdCells [d]) row) (psiTk A b W1.heap.size v0 x.read.length x.read d row) (fun _ _ => True) 41 11 none (.store 37 (.tmp 30) (.tmp 28)) (by kernel_rfl) (by kernel_rfl) (by kernel_rfl) (by kernel_rfl) rfl (by kernel_rfl) (by kernel_rfl)
        (.of (Below.refl _ _).drew) (fun _ _ _ h k => h.trans k) (fun _ _ _ _ h k => psiTk_stable hrB h k) (fun _ _ _ _ _ => trivial) ?_ ?_ [20, 21, 22, 23, 24, 25, 26, 27, 28, 29, 30] (by kernel_rfl) ?_
      · intro t ht w' _
        simp only [List.mem_cons, List.not_mem_nil, or_false] at ht
        rcases ht with rfl | rfl <;> rfl
      · repeat' (first | exact AllStepsL.nil | refine AllStepsL.cons ?_ ?_)
        all_goals
          intro hik
          first
            | (exfalso; revert hik; decide)
            | (intro a' w' K' Q' hRl hP hK'
               have hbx := (hRl.block b HM1.out.blt hrb2).trans HBX.out
               have c5 : w'.cell? ⟨b, 5, none⟩ = some v0 := by rw [cell_of_row _ _ _ _ _ _ hbx, HV0.out]; rfl
               obtain ⟨a0, a1, a2, a3, a4⟩ := pcells5 ((hRl.block A (Array.getElem?_eq_some_iff.1 HA1.out).1 hrA2).trans HA1.out)
               have hsz := hRl.size
               have how := hRl.k2 _ hown
               clear hRl hbx
               first
                | (obtain ⟨h26, _⟩ := hP
                   refine rwp_bs1 _ d rfl (by simp only [Act.eval, Array.getD_eq_getD_getElem?]; exact h26) ?_
                   refine hK' _ _ (.of ((Below.refl _ _).alloc (Nat.le_refl _) _)) trivial ?_
                   intro d hd; cases hd
                   exact ⟨_, rfl, hsz, heap_alloc_new w' _⟩)
                | (obtain ⟨h24, ⟨gu, h27, hgu, hgr⟩, _⟩ := hP
                   obtain ⟨i, z, hi, hz0, hz1, hz2, hz3⟩ := rdI
                   obtain ⟨v', w3, hr, q1, q2, q3⟩ := run_append_keep (P := Try.prog) w' 37 37 45 i z 5 56 Try.underlying37 hi hz0 hz2 hz3 hz1 (by omega) v0 x.read.length (rdCells x.read) how ⟨gu, 0, none⟩ 1 1 (rdCells [d]) rfl (fun j u hu => by rw [Addr.add_lit, Nat.zero_add, cell_of_row _ _ _ _ _ _ hgr]; simpa [rdCells] using hu) (rdCells_one _) (by unfold maxLen; omega) (by omega)
                   refine wp_appG 37 _ _ rfl v0 (.slice (some ⟨gu, 0, none⟩) 1 1) v' w3 (by simp only [Act.eval, Array.getD_eq_getD_getElem?]; exact h24) (by simp only [Act.eval, Array.getD_eq_getD_getElem?]; exact h27) hr ?_
                   rw [← hrow] at q2 q3
                   refine hK' _ _ q2 trivial ?_
                   intro d hd; cases hd
                   exact ⟨q1, fun k hk => (q3 k hk).elim (fun e => .inl e) (fun e => .inr (Nat.le_trans hsz e))⟩)
                | (repeat (obtain ⟨h, hP⟩ := hP; conv at h => whnf)
                   try go_simp
                   first
                    | (refine hK' _ _ .refl trivial ?_; intro d hd; cases hd; first | rfl | exact h)
                    | (go_at_call 37; (with_reducible refine (pcloneR_any d _ HRD.out.2.1).mono ?_); rintro e w4 ⟨rfl, hb4⟩; refine hK' _ _ (.of hb4) trivial ?_; intro d hd; cases hd; rfl)
                    | (trace_state; fail)))
      · intro f w4 hRl hf hT ok hd ho
        have h30 : f 30 = .pointer (some ⟨b, 5, none⟩) := hf 30 (by simp)
        obtain ⟨q1, q2⟩ : w4.ownsRow 0 45 5 (f 28) (x.read.length + 1) (rdCells x.read ++ rdCells [d]) ∧ ∀ k, (f 28).ownBlock = some k → row = some k ∨ W1.heap.size ≤ k := hf 28 (by simp)
        obtain ⟨g', cap', h28, -, hgl⟩ := own_slice q1 (by omega)
        rw [h28] at q1 q2
        have q3 := q2 g' rfl
        have hgb : g' ≠ b := fun e => by
          rcases q3 with e2 | e2
          · exact hrb2 (by rw [e2, e])
          · have := HM1.out.blt; omega
        have hbx := (hRl.block b HM1.out.blt hrb2).trans HBX.out
        have hml : x.read.length + 1 = (x.read ++ [d]).length := by simp
        rw [← rdCells_app, hml] at q1
        rw [hml] at h28
        have hrow2 : ∀ k, k < W1.heap.size → ¬ blkO u.ra k → w4.heap[k]? = W1.heap[k]? := fun k h1 h2 => hRl.block k h1 (fun e => h2 (hrb k e.symm))
        have hq3 : blkO u.ra g' ∨ W1.heap.size ≤ g' := q3.elim (fun e => .inl (hrb g' e)) .inr
        have HTK := Lib.hid (fun off' (ho : off' = off ∧ u.lc = 1 ∨ off' = off + 1) => HM1.out.took HRD.out.1 HRD.out.2.2 ho d hRl.size hrow2 ⟨hRl.os, hRl.tape, hRl.output⟩ q1 hq3)
        have hcell : w4.cell? ⟨b, 5, none⟩ = some v0 := by rw [cell_of_row _ _ _ _ _ _ hbx, HV0.out]; rfl
        obtain ⟨m, hm⟩ : ∃ m, m = (x.read ++ [d]).length := ⟨_, rfl⟩
        rw [← hm] at h28 HTK
        simp only [putAll, List.foldl_cons, List.foldl_nil, h28, h30]
        dsimp only [Act.put]
        simp only [List.setIfInBounds_toArray]
        simp only [List.set_cons_succ, List.set_cons_zero]
        refine wp_store1K 37 _ _ ho ⟨b, 5, none⟩ (.slice (some ⟨g', 0, none⟩) m cap') _ rfl rfl rfl hcell (frozen_of_row _ _ 5 _ _ hbx) (by kernel_rfl) ?_
        rw [hd]
        have hbx5 := heap_setCell_same _ b 5 _ _ (.slice (some ⟨g', 0, none⟩) m cap') hbx
        obtain ⟨w5, hw5⟩ : ∃ w5, w5 = w4.setCell ⟨b, 5, none⟩ (.slice (some ⟨g', 0, none⟩) m cap') := ⟨_, rfl⟩
        rw [← hw5] at hbx5 HTK
        rw [← hw5]
        have c4 : w5.cell? ⟨b, 4, none⟩ = some (.slice (some ⟨g, off, none⟩) u.ln u.lc) := by rw [cell_of_row _ _ _ _ _ _ hbx5, ← e1]; rfl
        have fr : ∀ j, w5.frozen? ⟨b, j, none⟩ = false := fun j => frozen_of_row _ _ j _ _ hbx5
        have hl0 := HM1.out.fx.lcap
        have HLE := Lib.hid (show (x.read ++ [d]).length ≤ p.R.length by rw [← hml]; exact HRD.out.1)
        clear hw5 hd ho hf hT h28 h30 hm hown hrow hsm hcell hq3 q1 q2 q3 hrow2 hbx hbx5 hml hRl hgb hgl hrb hrB hrA2 hrb2
        by_cases hlc : u.lc = 1
        · have HN := Lib.hid (HTK.out off (.inl ⟨rfl, hlc⟩))
          have HC := Lib.hid (ponward_any HN.out.1 HLE.out)
          rw [hlc, Nat.sub_self] at HN HC
          rw [hlc] at c4
          clear HTK
          go_wp2_with (go_at_call 45; (with_reducible refine HC.out.mono ?_); rintro e w7 ⟨rfl, ho⟩)
          go_end0
          obtain ⟨u', h5, h6⟩ := ho
          exact ⟨rfl, u', h5, ((Moves.of_below HBW.out).trans HN.out.2).trans h6⟩
        · have HN := Lib.hid (HTK.out (off + 1) (.inr rfl))
          have HC := Lib.hid (ponward_any HN.out.1 HLE.out)
          clear HTK
          go_wp2_with (go_at_call 45; (with_reducible refine HC.out.mono ?_); rintro e w7 ⟨rfl, ho⟩)
          go_end0
          obtain ⟨u', h5, h6⟩ := ho
          exact ⟨rfl, u', h5, ((Moves.of_below HBW.out).trans HN.out.2).trans h6⟩
  · have e : tookR p x d = x := if_neg (fun e => h2 e.1)
    rw [e]
    have h2z : ((x.stage : Int) != 2) = true := by rw [bne_iff_ne]; omega
    clear h hm e hok h2 hbA hrA
    go_enter Try.func30, Try.ntmps30
    go_upto_region 1 with fail
    rw [← hw1, ← hA]
    clear hw1 hA
    go_quiet (fail)
    revert nq; intro n1
    go_wp2_with fail
    refine bodyPost_ret (results_none rfl _ _ _) rfl ?_
    exact ⟨rfl, HO.out _ (below_drewN HB.out _)⟩
end
end Go.Proofs.Ytdldplhfpianhaa

namespace Go.Proofs.Ytdldplhfpianhaa
open Go.RowKit Go.Sort
set_option linter.unusedVariables false
set_option linter.unnecessarySimpa false
set_option linter.unusedSimpArgs false
set_option maxRecDepth 100000

def ints (L : List Nat) : List Int := L.map (fun k => ((k : Nat) : Int))
theorem ints_len (L : List Nat) : (ints L).length = L.length := List.length_map ..
theorem ints_at (L : List Nat) (j : Nat) : (ints L).getD j 0 = ((L.getD j 0 : Nat) : Int) := by
  unfold ints
  rw [List.getD, List.getD, List.getElem?_map]
  cases L[j]? <;> rfl
theorem ints_cells (L : List Nat) : (ints L).map (Value.int .i64) = nsCells L := by
  unfold ints nsCells
  rw [List.map_map]
  rfl
section
variable {w : World} {B g n c : Nat} {L : List Nat}
theorem ints_cell {v : Value} (h : w.ownsRow B 3 1 (.slice (some ⟨g, 0, none⟩) n c) L.length (nsCells L)) : ∀ j, j < (ints L).length → w.cell? ⟨g, 0 + j, none⟩ = some (.int .i64 ((ints L).getD j 0)) := by
  intro j hj
  rw [ints_len] at hj
  have := h.cells (g := g) rfl j (.int .i64 ((L.getD j 0 : Nat) : Int)) (nsCells_at hj)
  rw [Addr.add_lit] at this
  rw [ints_at]
  exact this
theorem ints_cur {m : Nat} (h : w.ownsRow B 3 1 (.slice (some ⟨g, 0, none⟩) n c) m (nsCells L)) : ∃ cur, w.heap[g]? = some (.cells cur 3 (0, 0)) ∧ B ≤ g ∧ n = m ∧ m ≤ c ∧ c ≤ maxLen ∧ cur.size = c ∧ cur.toList.take m = nsCells L := by
  rcases h.2 with ⟨h1, _⟩ | ⟨g', cap, cur, h1, h2, h3, h4, h5, h6, h7⟩
  · cases h1
  · cases h1
    exact ⟨cur, h3, h2, rfl, h4, h5, by omega, by rw [Nat.mul_one] at h7; exact h7⟩
theorem ints_holds (h : w.ownsRow B 3 1 (.slice (some ⟨g, 0, none⟩) n c) L.length (nsCells L)) : Holds (Value.int .i64) w g 0 (ints L).toArray := by
  intro j hj
  rw [List.size_toArray] at hj
  obtain ⟨cur, h1, _⟩ := ints_cur h
  refine ⟨?_, frozen_of_row _ _ _ _ _ h1⟩
  rw [ints_cell (v := .bool true) h j hj]
  congr 2
  rw [List.getD, getElem!_def, List.getElem?_toArray]
  cases (ints L)[j]? <;> rfl
/-- Behind a call that lays a row anew. -/
theorem ints_put {L' : List Nat} {k q : Nat} (h : w.ownsRow B 3 1 (.slice (some ⟨g, 0, none⟩) n c) L.length (nsCells L)) (hl : L'.length + k = L.length) {W : World} (hW : W = putRow (Value.int .i64) (Sort.ahead w q) g 0 (ints L' ++ List.replicate k 0).toArray) :
    W.ownsRow B 3 1 (.slice (some ⟨g, 0, none⟩) L'.length c) L'.length (nsCells L') ∧ (∀ j, j ≠ g → W.heap[j]? = w.heap[j]?) ∧ W.heap.size = w.heap.size ∧ W.os = w.os ∧ W.tape = w.tape ∧ W.output = w.output := by
  subst hW
  obtain ⟨cur, h1, h2, h3, h4, h5, h6, h7⟩ := ints_cur h
  refine ⟨⟨by rw [nsCells_len], .inr ⟨g, c, putCells (Value.int .i64) 0 (ints L' ++ List.replicate k 0).toArray cur, rfl, h2, ?_, by omega, h5, ?_, ?_⟩⟩, ?_, by simp, rfl, rfl, rfl⟩
  · have hlt : g < w.heap.size := (Array.getElem?_eq_some_iff.1 h1).1
    unfold putRow mapBlock
    simp only [heap_ahead]
    rw [Array.getElem?_modify, if_pos rfl, h1]
    rfl
  · unfold putCells
    rw [Array.size_mapIdx]
    omega
  · rw [Nat.mul_one]
    apply List.ext_getElem?
    intro j
    rw [List.getElem?_take]
    by_cases hj : j < L'.length
    · rw [if_pos hj, nsCells_at hj, Array.getElem?_toList]
      unfold putCells
      have hjc : j < cur.size := by omega
      rw [Array.getElem?_mapIdx, Array.getElem?_eq_getElem hjc]
      simp only [Option.map_some, Nat.sub_zero]
      have hsz : (ints L' ++ List.replicate k (0 : Int)).toArray.size = L'.length + k := by rw [List.size_toArray, List.length_append, ints_len, List.length_replicate]
      rw [if_pos ⟨Nat.zero_le _, by omega⟩]
      congr 2
      rw [getElem!_def, List.getElem?_toArray, List.getElem?_append_left (by rw [ints_len]; exact hj)]
      unfold ints
      rw [List.getElem?_map, List.getD, List.getElem?_eq_getElem hj]
      rfl
    · rw [if_neg hj]
      exact (List.getElem?_eq_none (by rw [nsCells_len]; omega)).symm
  · intro j hj
    unfold putRow mapBlock
    simp only [heap_ahead]
    rw [Array.getElem?_modify, if_neg (Ne.symm hj)]
end
/-- Where a node stands, or would. -/
def idxN (L : List Nat) (node : Int) : Nat := L.countP (fun (k : Nat) => decide ((k : Int) < node))
def hasN (L : List Nat) (node : Int) : Bool := L.any (fun (k : Nat) => (k : Int) == node)
theorem ints_countP (L : List Nat) (node : Int) : (ints L).countP (fun z => decide (z < node)) = idxN L node := by
  unfold ints idxN
  rw [List.countP_map]
  rfl
theorem ints_contains (L : List Nat) (node : Int) : (ints L).contains node = hasN L node := by
  unfold ints hasN
  rw [Bool.eq_iff_iff, List.contains_iff_mem, List.mem_map, List.any_eq_true]
  constructor
  · rintro ⟨k, h1, h2⟩; exact ⟨k, h1, by rw [beq_iff_eq]; exact h2⟩
  · rintro ⟨k, h1, h2⟩; exact ⟨k, h1, by rw [beq_iff_eq] at h2; exact h2⟩
theorem cut_sorted : ∀ {L : List Nat} {k : Nat}, L.Pairwise (· < ·) → k ∈ L → idxN L (k : Int) < L.length ∧ L.take (idxN L (k : Int)) ++ L.drop (idxN L (k : Int) + 1) = L.filter (fun z => !(z == k))
  | [], k, _, hk => by cases hk
  | a :: l, k, hp, hk => by
    obtain ⟨h1, h2⟩ := List.pairwise_cons.1 hp
    unfold idxN
    rw [List.countP_cons]
    by_cases hak : a = k
    · subst hak
      have h0 : l.countP (fun (z : Nat) => decide ((z : Int) < (a : Int))) = 0 := by
        rw [List.countP_eq_zero]
        intro z hz
        have := h1 z hz
        rw [decide_eq_true_eq]
        omega
      rw [h0]
      have hf : l.filter (fun z => !(z == a)) = l := by
        rw [List.filter_eq_self]
        intro z hz
        have := h1 z hz
        rw [Bool.not_eq_true', beq_eq_false_iff_ne]
        omega
      refine ⟨by simp, ?_⟩
      rw [List.filter_cons, if_neg (by simp), hf]
      simp
    · have hkl : k ∈ l := by
        rcases List.mem_cons.1 hk with e | e
        · exact absurd e.symm hak
        · exact e
      have hlt := h1 k hkl
      obtain ⟨i1, i2⟩ := cut_sorted h2 hkl
      unfold idxN at i1 i2
      rw [if_pos (by rw [decide_eq_true_eq]; omega)]
      refine ⟨by rw [List.length_cons]; omega, ?_⟩
      rw [List.take_succ_cons, List.drop_succ_cons, List.cons_append, i2, List.filter_cons, if_pos (by rw [Bool.not_eq_true', beq_eq_false_iff_ne]; exact hak)]
theorem waitsL_sorted (p : Pn) (v : List Nat) : (waitsL p v).Pairwise (· < ·) := by
  unfold waitsL
  exact List.Pairwise.filter _ List.pairwise_lt_range
theorem waitsL_vote (p : Pn) (v : List Nat) (k : Nat) : waitsL p (v ++ [k]) = (waitsL p v).filter (fun z => !(z == k)) := by
  unfold waitsL
  rw [List.filter_filter]
  congr 1
  funext z
  rw [Bool.eq_iff_iff]
  simp
  constructor
  · rintro ⟨h1, h2, h3⟩; exact ⟨h3, h1, h2⟩
  · rintro ⟨h3, h1, h2⟩; exact ⟨h1, h2, h3⟩
theorem ints_sorted {L : List Nat} (h : L.Pairwise (· < ·)) : (ints L).Pairwise (· ≤ ·) := by
  unfold ints
  rw [List.pairwise_map]
  exact h.imp (fun h => by omega)
/-- slices.BinarySearch of them. -/
theorem psearch_any {w : World} {va : Option Addr} {vc : Nat} {L : List Nat} (hs : L.Pairwise (· < ·)) (hl : L.length ≤ 1000) (h : w.ownsRow 0 3 1 (.slice va L.length vc) L.length (nsCells L)) (node : Int) :
    Calls Try.prog 46 #[.slice va L.length vc, .int .i64 node] w fun e w' => e = .returned (.tuple #[.int .i64 ((idxN L node : Nat) : Int), .bool (hasN L node)]) ∧ ∃ q, w' = w.drewN q := by
  rcases h.2 with ⟨e1, e2⟩ | ⟨g, cap, cur, e1, _⟩
  · cases L with
    | nil =>
      refine (Try.slices_BinarySearch_int_empty va vc node w).mono ?_
      rintro e w' ⟨rfl, rfl⟩
      exact ⟨rfl, 0, rfl⟩
    | cons a l => cases e2
  · cases e1
    have hc := ints_cell (v := .bool true) h
    have := Try.slices_BinarySearch_int g 0 (ints L).length vc (ints L) node w (Nat.le_refl _) (by rw [ints_len]; omega) hc (by rw [List.take_length]; exact ints_sorted hs)
    rw [List.take_length, ints_countP, ints_contains, ints_len] at this
    exact this
/-- slices.Clone of them. -/
theorem pnclone_any {w : World} {va : Option Addr} {vc : Nat} {L : List Nat} (hl : L.length ≤ 1000) (hv : ∀ k ∈ L, k < 1000) (h : w.ownsRow 0 3 1 (.slice va L.length vc) L.length (nsCells L)) :
    Calls Try.prog 36 #[.slice va L.length vc] w fun e w' => ∃ a c, e = .returned (.slice a L.length c) ∧ IsNs w' a L.length L ∧ Below w.heap.size w w' := by
  rcases h.2 with ⟨e1, e2⟩ | ⟨g, cap, cur, e1, _⟩
  · cases L with
    | nil =>
      cases e1
      refine (Try.slices_Clone_int_nil 0 0 w).mono ?_
      rintro e w' ⟨rfl, rfl⟩
      exact ⟨none, 0, rfl, ⟨rfl, hl, fun i hi => absurd hi (Nat.not_lt_zero i)⟩, Below.refl _ _⟩
    | cons a l => cases e2
  · cases e1
    have hc := ints_cell (v := .bool true) h
    have := Try.slices_Clone_int g 0 (ints L).length vc (ints L) w (Nat.le_refl _) (by rw [ints_len]; omega) hc
    rw [List.take_length, ints_cells, ints_len] at this
    refine this.mono ?_
    rintro e w' ⟨v', rfl, ho, _, hb⟩
    obtain ⟨a, c, rfl, hz, _⟩ := ns_own ho hl hv
    exact ⟨a, c, rfl, hz, hb⟩
end Go.Proofs.Ytdldplhfpianhaa
