/-
  The program's New.
-/
import Derived.Test.YtdldplhfpianhaaSet30
namespace Go.Proofs.Ytdldplhfpianhaa
open Go.RowKit
set_option linter.unusedVariables false
set_option linter.unnecessarySimpa false
set_option linter.unusedSimpArgs false
set_option maxRecDepth 100000

/-- Both boxes that New makes first. -/
structure NwW (w : World) (T X : Nat) (tc pc : Array Value) (W : World) : Prop where
  below : Below w.heap.size w W
  le : w.heap.size ≤ T ∧ w.heap.size ≤ X ∧ T ≠ X
  t : W.heap[T]? = some (.cells tc 30 (0, 0))
  x : W.heap[X]? = some (.cells pc 25 (0, 0))
section
variable {w W W2 : World} {T X : Nat} {tc pc : Array Value}
theorem NwW.later (h : NwW w T X tc pc W) (hb : Below W.heap.size W W2) : NwW w T X tc pc W2 :=
  ⟨h.below.trans (hb.mono h.below.size), h.le, (hb.block T (Array.getElem?_eq_some_iff.1 h.t).1).trans h.t, (hb.block X (Array.getElem?_eq_some_iff.1 h.x).1).trans h.x⟩
theorem NwW.start (w : World) (tc pc : Array Value) : NwW w w.heap.size (w.heap.size + 1) tc pc ((w.alloc (.cells tc 30)).alloc (.cells pc 25)) := by
  refine ⟨((Below.refl w.heap.size w).alloc (Nat.le_refl _) _).alloc (by simp) _, ⟨Nat.le_refl _, by omega, by omega⟩, ?_, ?_⟩
  · exact (Below.heap_alloc _ _ _ (by simp)).trans (heap_alloc_new _ _)
  · simpa using heap_alloc_new (w.alloc (.cells tc 30)) (.cells pc 25)
end
set_option maxHeartbeats 4000000 in
theorem pnew_no (w : World) (t : Tn) (p : Pg) (g : Nat) (hp : PgOk w p) (hrn : p.rn ≤ 1000) (hwn : p.wn ≤ 1000) (hm : mayC p ≠ 0) :
    Calls Try.prog 23 #[.agg t.cells, .agg p.cells, .func (.func g) #[] #[]] w fun e w' => e = .returned (.tuple #[.pointer none, .int .i64 (mayC p)]) ∧ Below w.heap.size w w' := by
  have HS := NwW.start w t.cells p.cells
  obtain ⟨w0, hw0⟩ : ∃ w0, w0 = (w.alloc (.cells t.cells 30)).alloc (.cells p.cells 25) := ⟨_, rfl⟩
  rw [← hw0] at HS
  obtain ⟨X, hX⟩ : ∃ X, X = w.heap.size + 1 := ⟨_, rfl⟩
  obtain ⟨T, hT⟩ : ∃ T, T = w.heap.size := ⟨_, rfl⟩
  rw [← hX, ← hT] at HS
  have HS0 := Lib.hid HS
  have HRT := Lib.hid (fun W (hb : Below w.heap.size w W) => pright_any p W ⟨hp.1.below hb, hp.2.below hb⟩ hrn hwn)
  have HLG := Lib.hid (fun W (hb : Below w.heap.size w W) => ptooLong_any p W ⟨hp.1.below hb, hp.2.below hb⟩ hrn hwn)
  have hmc := mayC_is p
  obtain ⟨D1, hD1⟩ : ∃ D1, D1 = rightC p := ⟨_, rfl⟩
  obtain ⟨D2, hD2⟩ : ∃ D2, D2 = longP p := ⟨_, rfl⟩
  rw [← hD1, ← hD2] at hmc
  rw [← hD1] at HRT
  rw [← hD2] at HLG
  obtain ⟨M, hM⟩ : ∃ M, M = mayC p := ⟨_, rfl⟩
  rw [← hM] at hm hmc ⊢
  obtain ⟨ra, rn, rc, Rs, wa, wn, wc, Ws⟩ := p
  unfold Pg.cells Tn.cells at *
  simp only at *
  obtain ⟨x0, x1⟩ := pcells2 HS.x
  clear hp HS hD1 hD2 hM hrn hwn
  cases D1 with
  | false =>
    have hM1 : M = 1 := by rw [hmc]; rfl
    subst hM1
    clear hmc hm
    go_enter Try.func23, Try.ntmps23
    go_upto_region 1 with fail
    rw [← hw0, ← hX, ← hT]
    clear hw0 hX hT
    go_wp2_with (go_at_call 40; (with_reducible refine (HRT.out _ HS0.out.below).mono ?_); rintro e w1 ⟨rfl, hb1⟩; have HS1 := Lib.hid (HS0.out.later hb1); clear hb1)
    go_ret2
    exact ⟨rfl, HS1.out.below⟩
  | true =>
    cases D2 with
    | false => exact absurd (by rw [hmc]; rfl) hm
    | true =>
      have hM1 : M = 3 := by rw [hmc]; rfl
      subst hM1
      clear hmc hm
      go_enter Try.func23, Try.ntmps23
      go_upto_region 1 with fail
      rw [← hw0, ← hX, ← hT]
      clear hw0 hX hT
      go_wp2_with (first
        | (go_at_call 40; (with_reducible refine (HRT.out _ HS0.out.below).mono ?_); rintro e w1 ⟨rfl, hb1⟩; have HS1 := Lib.hid (HS0.out.later hb1); obtain ⟨y0, y1⟩ := pcells2 HS1.out.x; clear hb1)
        | (go_at_call 41; (with_reducible refine (HLG.out _ HS1.out.below).mono ?_); rintro e w2 ⟨rfl, hb2⟩; have HS2 := Lib.hid (HS1.out.later hb2); clear hb2))
      go_ret2
      exact ⟨rfl, HS2.out.below⟩
/-! The run that is made. -/
theorem SeSt.base {w w1 W : World} {N m n i : Nat} {Ws : List Wq} (h : SeSt w1 N m n i Ws W) (hb : Below w.heap.size w w1) : SeSt w N m n i Ws W :=
  ⟨hb.trans (h.below.mono hb.size), ⟨Nat.le_trans hb.size h.le.1, Nat.le_trans hb.size h.le.2.1, h.le.2.2⟩, h.box, h.own⟩
theorem SeSt.calls {w W : World} {N m n i : Nat} {Ws : List Wq} (h : SeSt w N m n i Ws W) (hi : Ws.length ≤ i) (hk : ∀ q ∈ Ws, q.key.size ≤ 100) {W2 : World} (hN : W2.heap[N]? = W.heap[N]?) (hm : W2.heap[m]? = W.heap[m]?) :
    ∀ q ∈ Ws, Calls Try.prog 55 #[.string q.key, .pointer (some ⟨N, 0, none⟩)] W2 fun e w' => e = .returned (.int .i64 ((ownN q.key n : Nat) : Int)) ∧ W2 = w' := by
  intro q hq
  obtain ⟨D, h1, h2⟩ := h.own
  exact settled1_any (hN.trans h.box) (own_map_sameC h1 hm) (by have := hk q hq; unfold maxLen; omega) (h2 q (by rw [List.take_of_length_le hi]; exact hq) _)
def newCells (t : Tn) (la : Option Addr) (rn lc : Nat) (wa : Option Addr) (wn wc : Nat) (N : Nat) : Array Value :=
  #[.int .i64 t.node, .int .i64 t.life, .int .i64 t.seq, .int .i64 1, .slice la rn lc, .slice none 0 0, .slice wa wn wc, .func (.func 55) #[] #[.pointer (some ⟨N, 0, none⟩)], .slice none 0 0, .int .u64 0, .int .u64 0]
def psiN1 (w5 : World) (g T X n : Nat) (t : Tn) (la : Option Addr) (rn lc : Nat) (wa : Option Addr) (wn wc : Nat) (Ws : List Wq) (i : Nat) (v : Value) (W : World) : Prop :=
  match i with
  | 2 => v = .func (.func g) #[] #[]
  | 3 => v = .pointer (some ⟨T, 0, none⟩)
  | 4 => v = .pointer (some ⟨X, 0, none⟩)
  | 18 => v = .agg #[.int .i64 t.node, .int .i64 t.life, .int .i64 t.seq]
  | 19 => v = .pointer (some ⟨X, 0, none⟩)
  | 20 => v = .slice la rn lc
  | 21 => v = .pointer (some ⟨X, 1, none⟩)
  | 22 => v = .slice wa wn wc
  | 23 => v = .func (.func g) #[] #[]
  | 24 => v = .pointer (some ⟨X, 1, none⟩)
  | 25 => v = .slice wa wn wc
  | 26 => ∃ N m, v = .func (.func 55) #[] #[.pointer (some ⟨N, 0, none⟩)] ∧ SeSt w5 N m n wn Ws W
  | 27 => ∃ N m, v = .agg (newCells t la rn lc wa wn wc N) ∧ SeSt w5 N m n wn Ws W
  | 28 => ∃ N m b, v = .pointer (some ⟨b, 0, none⟩) ∧ w5.heap.size ≤ b ∧ b ≠ N ∧ b ≠ m ∧ W.heap[b]? = some (.cells (newCells t la rn lc wa wn wc N) 72 (0, 0)) ∧ SeSt w5 N m n wn Ws W
  | _ => True
theorem psiN1_stable {w5 : World} {g T X n : Nat} {t : Tn} {la : Option Addr} {rn lc : Nat} {wa : Option Addr} {wn wc : Nat} {Ws : List Wq} {i : Nat} {v : Value} {w w' : World} (h : psiN1 w5 g T X n t la rn lc wa wn wc Ws i v w) (hb : Below w.heap.size w w') : psiN1 w5 g T X n t la rn lc wa wn wc Ws i v w' := by
  by_cases e : i = 26
  · subst e
    obtain ⟨N, m, h1, h2⟩ := h
    exact ⟨N, m, h1, h2.later hb⟩
  · by_cases e2 : i = 27
    · subst e2
      obtain ⟨N, m, h1, h2⟩ := h
      exact ⟨N, m, h1, h2.later hb⟩
    · by_cases e3 : i = 28
      · subst e3
        obtain ⟨N, m, b, h1, h2, h3, h4, h5, h6⟩ := h
        exact ⟨N, m, b, h1, h2, h3, h4, (hb.block b (Array.getElem?_eq_some_iff.1 h5).1).trans h5, h6.later hb⟩
      · unfold psiN1 at h ⊢
        split at h <;> first | exact h | exact absurd rfl e | exact absurd rfl e2 | exact absurd rfl e3 | trivial
def psiN2 (w6 : World) (b N : Nat) (wa : Option Addr) (wn wc : Nat) (L : List Nat) (i : Nat) (v : Value) (W : World) : Prop :=
  match i with
  | 8 => v = .pointer (some ⟨b, 0, none⟩)
  | 29 => v = .pointer (some ⟨b, 0, none⟩)
  | 30 => v = .pointer (some ⟨b, 0, none⟩)
  | 31 => v = .pointer (some ⟨b, 0, none⟩)
  | 32 => v = .pointer (some ⟨b, 7, none⟩)
  | 33 => v = .func (.func 55) #[] #[.pointer (some ⟨N, 0, none⟩)]
  | 34 => v = .pointer (some ⟨b, 0, none⟩)
  | 35 => v = .pointer (some ⟨b, 0, none⟩)
  | 36 => v = .pointer (some ⟨b, 6, none⟩)
  | 37 => v = .slice wa wn wc
  | 38 => ∃ va vc, v = .slice va L.length vc ∧ W.ownsRow 0 3 1 (.slice va L.length vc) L.length (nsCells L) ∧ ∀ k, blkO va k → w6.heap.size ≤ k
  | 39 => v = .pointer (some ⟨b, 0, none⟩)
  | 40 => v = .pointer (some ⟨b, 8, none⟩)
  | _ => True
theorem psiN2_stable {w6 : World} {b N : Nat} {wa : Option Addr} {wn wc : Nat} {L : List Nat} {i : Nat} {v : Value} {w w' : World} (h : psiN2 w6 b N wa wn wc L i v w) (hb : Below w.heap.size w w') : psiN2 w6 b N wa wn wc L i v w' := by
  by_cases e : i = 38
  · subst e
    obtain ⟨va, vc, h1, h2, h3⟩ := h
    exact ⟨va, vc, h1, own_later h2 hb, h3⟩
  · unfold psiN2 at h ⊢
    split at h <;> first | exact h | exact absurd rfl e | trivial
theorem new_rn {w w5 w6 w7 w8 : World} {t : Tn} {Rs : List ByteArray} {Ws : List Wq} {n b N m rn lc wn wd vc : Nat} {la wb va : Option Addr} (ht : t.ok) (hp : PnOk ⟨Rs, Ws, n⟩) (h5 : Below w.heap.size w w5) (h6 : Below w5.heap.size w5 w6) (h7 : Below w6.heap.size w6 w7)
    (hot : ∀ k, k ≠ b → w8.heap[k]? = w7.heap[k]?) (hsz : w8.heap.size = w7.heap.size) (hos : w8.os = w7.os ∧ w8.tape = w7.tape ∧ w8.output = w7.output)
    (hk : IsKs w5 la rn lc Rs) (hlc : rn ≤ lc) (hw : IsWqs w5 wb wn wd Ws) (hla : ∀ q : Addr, la = some q → w.heap.size ≤ q.block ∧ q.block < w5.heap.size) (hwb : ∀ q : Addr, wb = some q → w.heap.size ≤ q.block ∧ q.block < w5.heap.size)
    (hse : SeSt w5 N m n wn Ws w6) (hb : w5.heap.size ≤ b ∧ b ≠ N ∧ b ≠ m) (hbl : b < w6.heap.size)
    (hrow : w7.ownsRow 0 3 1 (.slice va (waitsL ⟨Rs, Ws, n⟩ []).length vc) (waitsL ⟨Rs, Ws, n⟩ []).length (nsCells (waitsL ⟨Rs, Ws, n⟩ []))) (hva : ∀ k, blkO va k → w6.heap.size ≤ k)
    (hbx : w8.heap[b]? = some (.cells ((newCells t la rn lc wb wn wd N).setIfInBounds 8 (.slice va (waitsL ⟨Rs, Ws, n⟩ []).length vc)) 72 (0, 0))) :
    ∃ O, RnAt w8 ⟨b, 0, none⟩ ⟨Rs, Ws, n⟩ t rn0 O ∧ Moves (fun _ => False) O w w8 := by
  have hwl : Ws.length = wn := hw.1
  have hF : ∀ k, (blkO la k ∨ blkO wb k ∨ k = N ∨ k = m) → w.heap.size ≤ k ∧ k < w6.heap.size ∧ k ≠ b := by
    have s5 := h5.size
    have s6 := h6.size
    rintro k (⟨q, e, rfl⟩ | ⟨q, e, rfl⟩ | rfl | rfl)
    · have := hla q e; omega
    · have := hwb q e; omega
    · have := hse.le.1; have := (Array.getElem?_eq_some_iff.1 hse.box).1; exact ⟨by omega, by omega, fun e => hb.2.1 e.symm⟩
    · have := hse.le.2.1; have := hse.mlt; exact ⟨by omega, by omega, fun e => hb.2.2 e.symm⟩
  have h8 : ∀ k, k < w6.heap.size → k ≠ b → w8.heap[k]? = w6.heap[k]? := fun k hk hn => (hot k hn).trans (h7.block k hk)
  have h85 : ∀ k, k < w5.heap.size → w8.heap[k]? = w5.heap[k]? := fun k hk => (h8 k (by have := h6.size; omega) (by omega)).trans (h6.block k hk)
  have hs8 : w5.heap.size ≤ w8.heap.size ∧ w6.heap.size ≤ w8.heap.size := by have := h6.size; have := h7.size; omega
  refine ⟨_, ⟨b, ⟨la, rn, lc, none, 0, wb, wn, wd, va, vc, N⟩, fun k => blkO la k ∨ blkO wb k ∨ k = N ∨ k = m, ⟨rfl, hbx, ?_, ⟨rfl, .inl ⟨rfl, rfl⟩⟩, own_same hrow fun k hk => hot k (by have := hva k hk; omega), hp, fun e => (hF b e).2.2 rfl, fun k hk => (by obtain ⟨q, e, _⟩ := hk; cases e), fun k hk => ⟨fun e => by have := (hF k e).2.1; have := hva k hk; omega, by have := hva k hk; omega, fun e => (by obtain ⟨q, e, _⟩ := e; cases e)⟩⟩, ?_, ht, rfl⟩, ?_⟩
  · refine ⟨hk.sameB hs8.1 fun q hq => h85 _ (hla q hq).2, hlc, fun q hq => .inl ⟨q, hq, rfl⟩, hw.sameC hs8.1 fun q hq => h85 _ (hwb q hq).2, fun q hq => .inr (.inl ⟨q, hq, rfl⟩), fun W hW q hq => ?_, fun k hk => by have := (hF k hk).2.1; omega⟩
    exact hse.calls (by omega) (fun q hq => (hp.W.2 q hq).1) ((hW N (.inr (.inr (.inl rfl)))).trans (h8 N (hF N (.inr (.inr (.inl rfl)))).2.1 (hF N (.inr (.inr (.inl rfl)))).2.2)) ((hW m (.inr (.inr (.inr rfl)))).trans (h8 m (hF m (.inr (.inr (.inr rfl)))).2.1 (hF m (.inr (.inr (.inr rfl)))).2.2)) q hq
  · exact ⟨⟨Nat.le_refl _, by decide⟩, (by decide : (0 : Nat) < 18446744073709551616), (by decide : (0 : Nat) < 18446744073709551616), (fun e => by cases e), Nat.zero_le _, ⟨List.nodup_nil, fun k hk => (by cases hk)⟩, fun d hd => (by cases hd)⟩
  · have s5 := h5.size
    refine ⟨hos.1.trans (h7.os.trans (h6.os.trans h5.os)), hos.2.1.trans (h7.tape.trans (h6.tape.trans h5.tape)), hos.2.2.trans (h7.output.trans (h6.output.trans h5.output)), by omega, fun k hk _ => (h85 k (by omega)).trans (h5.block k hk), ?_⟩
    rintro k (rfl | hk | hk | hk)
    · exact .inr (by omega)
    · exact .inr (hF k hk).1
    · obtain ⟨q, e, _⟩ := hk; cases e
    · exact .inr (by have := hva k hk; have := h6.size; omega)
theorem wp_assignC {P : Program} {op : Oper} {a : Act} {w : World} {K : Act → World → Prop} {Q : Exit → Act → World → Prop} (x : Operand) (ho : op.op = .assign x) (v : Value) (hx : a.eval x = v) (h : K (a.put op.dst v) w) : op.wp P a w K Q := by
  unfold Oper.wp execOp
  simp only [ho, hx, Sem.run_pure]
  exact h
set_option maxHeartbeats 8000000 in
theorem pnew_yes (w : World) (t : Tn) (p : Pg) (n g : Nat) (ht : t.ok) (hp : PgOk w p) (hrn : p.rn ≤ 1000) (hwn : p.wn ≤ 1000) (hn : 1 ≤ n ∧ n ≤ 5) (eg : ∀ args w, (callFunc g args).run Try.prog w = .ok (.enter g args) w) (hg : ∀ key W, Calls Try.prog g #[.string key] W fun e w' => e = .returned (.int .i64 ((ownN key n : Nat) : Int)) ∧ W = w') (hm : mayC p = 0) :
    Calls Try.prog 23 #[.agg t.cells, .agg p.cells, .func (.func g) #[] #[]] w fun e w' => ∃ r O, e = .returned (.tuple #[.pointer (some r), .int .i64 0]) ∧ RnAt w' r ⟨p.R, p.W, n⟩ t rn0 O ∧ Moves (fun _ => False) O w w' := by
  have HS := NwW.start w t.cells p.cells
  obtain ⟨w0, hw0⟩ : ∃ w0, w0 = (w.alloc (.cells t.cells 30)).alloc (.cells p.cells 25) := ⟨_, rfl⟩
  rw [← hw0] at HS
  obtain ⟨X, hX⟩ : ∃ X, X = w.heap.size + 1 := ⟨_, rfl⟩
  obtain ⟨T, hT⟩ : ∃ T, T = w.heap.size := ⟨_, rfl⟩
  rw [← hX, ← hT] at HS
  have HS0 := Lib.hid HS
  have HRT := Lib.hid (fun W (hb : Below w.heap.size w W) => pright_any p W ⟨hp.1.below hb, hp.2.below hb⟩ hrn hwn)
  have HLG := Lib.hid (fun W (hb : Below w.heap.size w W) => ptooLong_any p W ⟨hp.1.below hb, hp.2.below hb⟩ hrn hwn)
  have hmc := mayC_is p
  have hgood : rightC p = true ∧ longP p = false := by
    rw [hm] at hmc
    cases h1 : rightC p <;> cases h2 : longP p <;> rw [h1, h2] at hmc <;> simp at hmc <;> simp
  rw [hgood.1] at HRT
  rw [hgood.2] at HLG
  have hR : p.R.length ≤ 8 ∧ ∀ k ∈ p.R, k.size ≤ 100 := by
    refine ⟨?_, fun k hk => ?_⟩
    · refine Classical.byContradiction fun hc => ?_
      have := rightC_len (p := p) (.inl (by omega))
      rw [hgood.1] at this
      cases this
    · refine Classical.byContradiction fun hc => ?_
      have := hgood.2
      unfold longP at this
      rw [Bool.or_eq_false_iff] at this
      have := (List.any_eq_false.1 this.1) k hk
      unfold longK at this
      simp at this
      omega
  have hW : p.W.length ≤ 8 ∧ ∀ m ∈ p.W, m.key.size ≤ 100 ∧ m.val.size ≤ 500 := by
    refine ⟨?_, fun k hk => ?_⟩
    · refine Classical.byContradiction fun hc => ?_
      have := rightC_len (p := p) (.inr (by omega))
      rw [hgood.1] at this
      cases this
    · have := hgood.2
      unfold longP at this
      rw [Bool.or_eq_false_iff] at this
      have := (List.any_eq_false.1 this.2) k hk
      unfold longC at this
      simp at this
      omega
  have HCL := Lib.hid (fun W (hb : Below w.heap.size w W) => pcloned_any p W ⟨hp.1.below hb, hp.2.below hb⟩ hR hW)
  have HSE := Lib.hid (fun wa wc W (h : IsWqs W wa p.wn wc p.W) => psettled_any g n wa p.wn wc p.W W eg hg h (by have := hp.2.1; omega))
  have HND := Lib.hid (fun N wa wc W (h1 : ∀ W2, Below W.heap.size W W2 → ∀ m ∈ p.W, Calls Try.prog 55 #[.string m.key, .pointer (some ⟨N, 0, none⟩)] W2 fun e w' => e = .returned (.int .i64 ((ownN m.key n : Nat) : Int)) ∧ W2 = w') (h2 : IsWqs W wa p.wn wc p.W) => pnodes_any N n p.R wa p.wn wc p.W W hn h1 h2 (by have := hp.2.1; omega))
  have HPN := Lib.hid (show PnOk ⟨p.R, p.W, n⟩ from ⟨hn, hR, hW⟩)
  have HLW := Lib.hid hp.2.1
  have HLR := Lib.hid hp.1.1
  have HT := Lib.hid ht
  obtain ⟨ra, rn, rc, Rs, wa, wn, wc, Ws⟩ := p
  unfold Pg.cells Tn.cells at *
  simp only at *
  obtain ⟨x0, x1⟩ := pcells2 HS.x
  clear hp HS hrn hwn hmc hgood hR hW hm hg
  go_enter Try.func23, Try.ntmps23
  go_upto_region 1 with fail
  rw [← hw0, ← hX, ← hT]
  clear hw0 hX hT
  go_upto_region 6 with (first
    | (go_at_call 40; (with_reducible refine (HRT.out _ HS0.out.below).mono ?_); rintro e w1 ⟨rfl, hb1⟩; have HS1 := Lib.hid (HS0.out.later hb1); obtain ⟨y0, y1⟩ := pcells2 HS1.out.x; clear hb1)
    | (go_at_call 41; (with_reducible refine (HLG.out _ HS1.out.below).mono ?_); rintro e w2 ⟨rfl, hb2⟩; have HS2 := Lib.hid (HS1.out.later hb2); obtain ⟨z0, z1⟩ := pcells2 HS2.out.x; clear hb2)
    | (go_at_call 42; (with_reducible refine (HCL.out _ HS2.out.below).mono ?_); rintro e w3 ⟨la, lc, wb, wd, rfl, q1, q2, q3, q4, q5, hb3⟩; have HS3 := Lib.hid (HS2.out.later hb3); obtain ⟨u0, u1⟩ := pcells2 HS3.out.x; have uf := fun j => frozen_of_row _ _ j _ _ HS3.out.x; have HQ := Lib.hid (And.intro q1 (And.intro q2 (And.intro q3 (And.intro q4 q5)))); have HB3 := Lib.hid (And.intro HS2.out.below.size (And.intro (Array.getElem?_eq_some_iff.1 HS2.out.x).1 hb3.size)); clear hb3 q1 q2 q3 q4 q5))
  clear x0 x1 y0 y1 z0 z1
  have hx1 := heap_setCell_same _ X 0 _ _ (.slice la rn lc) HS3.out.x
  have hx2 := heap_setCell_same _ X 1 _ _ (.slice wb wn wd) hx1
  obtain ⟨w5, hw5⟩ : ∃ w5, w5 = (w3.setCell ⟨X, 0, none⟩ (.slice la rn lc)).setCell ⟨X, 1, none⟩ (.slice wb wn wd) := ⟨_, rfl⟩
  have hot : ∀ k, k ≠ X → w5.heap[k]? = w3.heap[k]? := fun k hk => by rw [hw5]; exact (Below.heap_setCell _ _ _ _ hk).trans (Below.heap_setCell _ _ _ _ hk)
  have hsz : w5.heap.size = w3.heap.size := by rw [hw5]; simp [World.setCell]
  have hos : w5.os = w3.os ∧ w5.tape = w3.tape ∧ w5.output = w3.output := by rw [hw5]; exact ⟨rfl, rfl, rfl⟩
  rw [← hw5] at hx2
  rw [← hw5]
  clear hw5 u0 u1 uf hx1
  obtain ⟨k1, k2, k3, k4, k5⟩ := HQ.out
  obtain ⟨l1, l2, l3⟩ := HB3.out
  have hlaX : ∀ q : Addr, la = some q → q.block ≠ X ∧ w.heap.size ≤ q.block ∧ q.block < w5.heap.size := fun q hq => by have := k4 q hq; omega
  have hwbX : ∀ q : Addr, wb = some q → q.block ≠ X ∧ w.heap.size ≤ q.block ∧ q.block < w5.heap.size := fun q hq => by have := k5 q hq; omega
  have HS5 : Hid (NwW w T X #[.int .i64 t.node, .int .i64 t.life, .int .i64 t.seq] #[.slice la rn lc, .slice wb wn wd] w5) := Lib.hid ⟨⟨hos.1.trans HS3.out.below.os, hos.2.1.trans HS3.out.below.tape, hos.2.2.trans HS3.out.below.output, by rw [hsz]; exact HS3.out.below.size, fun k hk => (hot k (by have := HS3.out.le.2.1; omega)).trans (HS3.out.below.block k hk)⟩, HS3.out.le, (hot T HS3.out.le.2.2).trans HS3.out.t, hx2⟩
  have HK5 := Lib.hid (show IsKs w5 la rn lc Rs from k1.sameB (by omega) fun q hq => hot _ (hlaX q hq).1)
  have HW5 := Lib.hid (show IsWqs w5 wb wn wd Ws from k3.sameC (by omega) fun q hq => hot _ (hwbX q hq).1)
  have HLA := Lib.hid hlaX
  have HWB := Lib.hid hwbX
  have HLC := Lib.hid k2
  clear k1 k2 k3 k4 k5 l1 l2 l3 hlaX hwbX hos hot hx2 hsz HQ HB3 HS3 HS2 HS1 HS0
  refine wp_region_tailN [2, 3, 4] [28] (fun x y => Below x.heap.size x y) (psiN1 w5 g T X n t la rn lc wb wn wd Ws) (fun _ _ => True) 42 11 (some 8) (.assign (.tmp 28)) (by kernel_rfl) (by kernel_rfl) (by kernel_rfl) (by kernel_rfl) rfl (by kernel_rfl) (by kernel_rfl)
    (Below.refl _ _).drew (fun _ _ _ h k => h.trans (k.mono h.size)) (fun _ _ _ _ h k => psiN1_stable h k) (fun _ _ _ _ _ => trivial) ?_ ?_ [18, 19, 20, 21, 22, 23, 24, 25, 26, 27, 28, 8] (by kernel_rfl) ?_
  · intro t ht w' _
    simp only [List.mem_cons, List.not_mem_nil, or_false] at ht
    rcases ht with rfl | rfl | rfl <;> rfl
  · repeat' (first | exact AllStepsL.nil | refine AllStepsL.cons ?_ ?_)
    all_goals
      intro hik
      first
        | (exfalso; revert hik; decide)
        | (intro a' w' K' Q' hRl hP hK'
           have hS := HS5.out.later hRl
           obtain ⟨x0, x1⟩ := pcells2 hS.x
           obtain ⟨t0, t1, t2⟩ := pcells3 hS.t
           have HQW := Lib.hid (HW5.out.below hRl)
           have HRl := Lib.hid hRl
           clear hS hRl
           first
            | (obtain ⟨h18, h20, h22, ⟨N, m, h26, hse⟩, _⟩ := hP
               conv at h18 => whnf
               conv at h20 => whnf
               conv at h22 => whnf
               try go_simp
               refine hK' _ _ (Below.refl _ _) trivial ?_
               intro d hd; cases hd
               exact ⟨N, m, rfl, hse⟩)
            | (obtain ⟨⟨N, m, h27, hse⟩, _⟩ := hP
               unfold newCells at h27
               try go_simp
               refine hK' _ _ ((Below.refl _ _).alloc (Nat.le_refl _) _) trivial ?_
               intro d hd; cases hd
               refine ⟨N, m, w'.heap.size, rfl, HRl.out.size, ?_, ?_, heap_alloc_new _ _, hse.later ((Below.refl _ _).alloc (Nat.le_refl _) _)⟩
               · exact fun e => by have := (Array.getElem?_eq_some_iff.1 hse.box).1; omega
               · exact fun e => by have := hse.mlt; omega)
            | (repeat (obtain ⟨h, hP⟩ := hP; conv at h => whnf)
               try go_simp
               first
                | (refine hK' _ _ (Below.refl _ _) trivial ?_; intro d hd; cases hd; first | rfl | exact h)
                | (go_at_call 43; (with_reducible refine (HSE.out _ _ _ HQW.out).mono ?_); rintro e w4 ⟨N, m, rfl, hse⟩; refine hK' _ _ (hse.below.mono (Nat.le_refl _)) trivial ?_; intro d hd; cases hd; exact ⟨N, m, rfl, hse.base HRl.out⟩)
                | (trace_state; fail)))
  · intro f w6 hRl hf hT ok hd ho
    obtain ⟨N, m, b, h28, hb5, hbN, hbm, hbx, hse⟩ := hf 28 (by simp)
    have HB6 := Lib.hid (show Below w5.heap.size w5 w6 from hRl)
    have HSE6 := Lib.hid hse
    have HBX := Lib.hid hbx
    have HBN := Lib.hid (And.intro hb5 (And.intro hbN hbm))
    simp only [putAll, List.foldl_cons, List.foldl_nil, h28]
    dsimp only [Act.put]
    simp only [List.setIfInBounds_toArray]
    simp only [List.set_cons_succ, List.set_cons_zero]
    refine wp_assignC _ ho (.pointer (some ⟨b, 0, none⟩)) rfl ?_
    rw [hd]
    clear hRl hf hT hd ho h28 hb5 hbN hbm hbx hse
    go_upto_region 7 with fail
    obtain ⟨L, hL⟩ : ∃ L, L = waitsL ⟨Rs, Ws, n⟩ [] := ⟨_, rfl⟩
    have HND6 := Lib.hid (fun W (hb : Below w6.heap.size w6 W) => HND.out N wb wd W (fun W2 hb2 => HSE6.out.calls (by have := HLW.out; omega) (fun q hq => (HPN.out.W.2 q hq).1) (((hb2.block N (Nat.lt_of_lt_of_le (Array.getElem?_eq_some_iff.1 HSE6.out.box).1 hb.size))).trans (hb.block N (Array.getElem?_eq_some_iff.1 HSE6.out.box).1)) ((hb2.block m (Nat.lt_of_lt_of_le HSE6.out.mlt hb.size)).trans (hb.block m HSE6.out.mlt))) ((HW5.out.below HB6.out).below hb))
    rw [← hL] at HND6
    have HL := Lib.hid hL
    clear hL
    refine wp_region_tailN [8] [38, 40] (fun x y => Below x.heap.size x y) (psiN2 w6 b N wb wn wd L) (fun _ _ => True) 42 12 none (.store 38 (.tmp 40) (.tmp 38)) (by kernel_rfl) (by kernel_rfl) (by kernel_rfl) (by kernel_rfl) rfl (by kernel_rfl) (by kernel_rfl)
      (Below.refl _ _).drew (fun _ _ _ h k => h.trans (k.mono h.size)) (fun _ _ _ _ h k => psiN2_stable h k) (fun _ _ _ _ _ => trivial) ?_ ?_ [29, 30, 31, 32, 33, 34, 35, 36, 37, 38, 39, 40] (by kernel_rfl) ?_
    · intro t ht w' _
      simp only [List.mem_cons, List.not_mem_nil, or_false] at ht
      rcases ht with rfl
      rfl
    · repeat' (first | exact AllStepsL.nil | refine AllStepsL.cons ?_ ?_)
      all_goals
        intro hik
        first
          | (exfalso; revert hik; decide)
          | (intro a' w' K' Q' hRl hP hK'
             have hbw := (hRl.block b (Array.getElem?_eq_some_iff.1 HBX.out).1).trans HBX.out
             have c6 : w'.cell? ⟨b, 6, none⟩ = some (.slice wb wn wd) := by rw [cell_of_row _ _ _ _ _ _ hbw]; rfl
             have c7 : w'.cell? ⟨b, 7, none⟩ = some (.func (.func 55) #[] #[.pointer (some ⟨N, 0, none⟩)]) := by rw [cell_of_row _ _ _ _ _ _ hbw]; rfl
             have HRl := Lib.hid hRl
             clear hbw hRl
             repeat (obtain ⟨h, hP⟩ := hP; conv at h => whnf)
             try go_simp
             first
              | (refine hK' _ _ (Below.refl _ _) trivial ?_; intro d hd; cases hd; first | rfl | exact h)
              | (go_at_call 44; (with_reducible refine (HND6.out _ HRl.out).mono ?_); rintro e w4 ⟨va, vc, rfl, q1, q2, hb4⟩; refine hK' _ _ hb4 trivial ?_; intro d hd; cases hd; exact ⟨va, vc, rfl, q1, fun k hk => Nat.le_trans HRl.out.size (q2 k hk)⟩)
              | (trace_state; fail))
    · intro f w7 hRl hf hT ok hd ho
      obtain ⟨va, vc, h38, hrow, hvb⟩ := hf 38 (by simp)
      have h40 : f 40 = .pointer (some ⟨b, 8, none⟩) := hf 40 (by simp)
      have hbw := (hRl.block b (Array.getElem?_eq_some_iff.1 HBX.out).1).trans HBX.out
      have hbs := heap_setCell_same _ b 8 _ _ (.slice va L.length vc) hbw
      obtain ⟨M, hM⟩ : ∃ M, M = L.length := ⟨_, rfl⟩
      rw [← hM] at h38
      simp only [putAll, List.foldl_cons, List.foldl_nil, h38, h40]
      dsimp only [Act.put]
      simp only [List.setIfInBounds_toArray]
      simp only [List.set_cons_succ, List.set_cons_zero]
      refine wp_store1K 38 _ _ ho ⟨b, 8, none⟩ (.slice va M vc) _ rfl rfl rfl (by rw [cell_of_row _ _ _ _ _ _ hbw]; rfl) (frozen_of_row _ _ 8 _ _ hbw) (by kernel_rfl) ?_
      rw [hd]
      rw [hM]
      have HX := Lib.hid (And.intro hrow (And.intro hvb hbs))
      have HRl := Lib.hid (show Below w6.heap.size w6 w7 from hRl)
      obtain ⟨w8, hw8⟩ : ∃ w8, w8 = w7.setCell ⟨b, 8, none⟩ (.slice va L.length vc) := ⟨_, rfl⟩
      have HOT := Lib.hid (show ∀ k, k ≠ b → w8.heap[k]? = w7.heap[k]? from fun k hk => by rw [hw8]; exact Below.heap_setCell _ _ _ _ hk)
      have HSZ := Lib.hid (show w8.heap.size = w7.heap.size by rw [hw8]; simp [World.setCell])
      have HOS := Lib.hid (show w8.os = w7.os ∧ w8.tape = w7.tape ∧ w8.output = w7.output by rw [hw8]; exact ⟨rfl, rfl, rfl⟩)
      rw [← hw8] at HX
      rw [← hw8]
      clear hw8 hRl hf hT hd ho h38 h40 hbw hbs hrow hvb hM
      go_wp2_with fail
      go_ret2
      have hx := HX.out
      rw [HL.out] at hx
      obtain ⟨O, q1, q2⟩ := new_rn HT.out HPN.out HS5.out.below HB6.out HRl.out HOT.out HSZ.out HOS.out HK5.out HLC.out HW5.out (fun q hq => (HLA.out q hq).2) (fun q hq => (HWB.out q hq).2) HSE6.out HBN.out (Array.getElem?_eq_some_iff.1 HBX.out).1 hx.1 hx.2.1 hx.2.2
      exact ⟨_, O, rfl, q1, q2⟩
end Go.Proofs.Ytdldplhfpianhaa
