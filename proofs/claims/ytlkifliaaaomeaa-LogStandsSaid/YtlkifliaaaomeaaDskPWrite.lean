/-
  The walks of the program's disk: strings.Clone, Write.
-/
import Derived.Test.YtlkifliaaaomeaaDskPSmall
import Derived.Test.YtlkifliaaaomeaaClass
import Derived.Test.YtlkifliaaaomeaaShelf
namespace Go.Proofs.Ytlkifliaaaomeaa
open Go.RowKit
set_option linter.unusedVariables false
set_option linter.unnecessarySimpa false
set_option linter.unusedSimpArgs false
set_option maxRecDepth 100000

theorem p_clone (s : ByteArray) (w : World) (h : s.size ≤ 281474976710656) : Calls Try.prog 35 #[.string s] w fun e w' => e = .returned (.string s) ∧ Below w.heap.size w w' := by
  have H := Lib.hid (Try.stringslite_Clone s w h)
  go_enter Try.func35, Try.ntmps35
  go_wp2_with (go_at_call 54; refine H.out.mono ?_; rintro e w1 ⟨rfl, hb1⟩)
  go_ret
  exact ⟨rfl, hb1⟩
theorem wpList_append_ownP {P : Program} {w : World} {ops : Array Oper} {rest : List Oper} {o : Oper} {a : Act} {Q : Exit → Act → World → Prop} (hgd : o.guard = none) (s x : Operand) (t : TypeId)
    (ho : o.op = .call { callee := .builtin .append, args := #[s, x], argTypes := #[t, t] })
    (base : Nat) (e : TypeId) (i : TypeInfo) (z : Value) (size bytes : Nat) (ht : P.underlying t = some (.slice e)) (hi : P.info? e = some i) (hz : i.zero = some z)
    (hsize : i.size = size) (hby : i.bytes = bytes) (hzs : z.cells.size = size) (hsz : 0 < size)
    (v : Value) (n : Nat) (xs : List Value) (hs : a.eval s = v) (hown : w.ownsRow base e size v n xs)
    (ad : Addr) (m c : Nat) (news : List Value) (hx : a.eval x = .slice (some ad) m c) (hl : news.length = m * size) (hnews : ∀ j u, news[j]? = some u → w.cell? (ad.add j) = some u) (h1 : ∀ u ∈ news, u.oneCell' = true)
    (h63 : n + m ≤ maxLen) (hbytes : (n + m) * bytes ≤ 140737488355328) (hbase : base ≤ w.heap.size)
    (h : ∀ v' w', w'.ownsRow base e size v' (n + m) (xs ++ news) → w.grownBy w' v.ownBlock → (∀ k, v'.ownBlock = some k → v.ownBlock = some k ∨ w.heap.size ≤ k) → wpList P ops Q rest (a.put o.dst v') w') : wpList P ops Q (o :: rest) a w := by
  refine wpList_plain hgd fun K hK => ?_
  obtain ⟨v', w', hr, h2, h3, h4⟩ := run_append_own2 (P := P) w base t o.type e i z size bytes ht hi hz hsize hby hzs hsz v n xs hown ad m c news hl hnews h1 h63 hbytes hbase
  unfold Oper.wp execOp
  simp only [ho, resolve, invoke, builtin, Sem.run_bind, Sem.run_pure, Result.andThen_ok, List.map_toArray, List.map_cons, List.map_nil, hs, hx, hr]
  exact hK _ _ (h v' w' h2 h3 h4)
theorem wInfo : (Try.prog.info? 74).map (fun i => (i.zero, i.size, i.bytes)) = some (some (.agg #[.int .i64 0, .string ⟨#[]⟩]), 2, 24) := by kernel_rfl
theorem two_newP (w : World) (a b : Value) (t : TypeId) : ∀ j u, ([a, b] : List Value)[j]? = some u → (w.alloc (.cells #[a, b] t)).cell? ((⟨w.heap.size, 0, none⟩ : Addr).add j) = some u := fun j u hu => by
  have hr := heap_alloc_new w (.cells #[a, b] t)
  have hadd : (⟨w.heap.size, 0, none⟩ : Addr).add j = ⟨w.heap.size, j, none⟩ := by unfold Addr.add; split <;> simp_all
  rw [hadd]
  simp only [World.cell?, hr]
  simpa using hu

section
variable (w : World) (g gs n : Nat) (vb : Value) (P : List Sec) (W : List (Nat × List UInt8)) (f : Bool) (F : Int) (h : DP w g gs n vb P W f F)
include h
theorem p_writeLost (i : Int) (b : ByteArray) (hf : (f && F == 0) = true) : Calls Try.prog 19 #[.pointer (some ⟨g, 0, none⟩), .int .i64 i, .string b] w fun e w' => e = .returned (.int .i64 6) ∧ w = w' := by
  have HL := Lib.hid (p_lost w g gs n vb P W f F h)
  rw [hf] at HL
  clear h hf
  go_enter Try.func19, Try.ntmps19
  go_wp2_with (go_at_call 36; refine HL.out.mono ?_; rintro e w1 ⟨rfl, rfl⟩)
  go_ret
  exact ⟨rfl, rfl⟩
theorem p_writeNone (i : Int) (b : ByteArray) (hf : (f && F == 0) = false) (hi : (decide (0 ≤ i) && decide (i < (n : Int))) = false ∨ b.size ≠ 64) : Calls Try.prog 19 #[.pointer (some ⟨g, 0, none⟩), .int .i64 i, .string b] w fun e w' => e = .returned (.int .i64 1) ∧ w = w' := by
  have HL := Lib.hid (p_lost w g gs n vb P W f F h)
  have HS := Lib.hid (p_isSector w g gs n vb P W f F h i)
  rw [hf] at HL
  clear h hf
  obtain ⟨k, hk⟩ : ∃ k, k = (decide (0 ≤ i) && decide (i < (n : Int))) := ⟨_, rfl⟩
  rw [← hk] at hi HS
  clear hk
  cases k with
  | false =>
    clear hi
    go_enter Try.func19, Try.ntmps19
    go_wp2_with (first
      | (go_at_call 36; refine HL.out.mono ?_; rintro e w1 ⟨rfl, rfl⟩)
      | (go_at_call 37; refine HS.out.mono ?_; rintro e w1 ⟨rfl, rfl⟩))
    go_ret
    exact ⟨rfl, rfl⟩
  | true =>
    have hb : ((b.size : Int) != 64) = true := by
      rw [bne_iff_ne]
      rcases hi with hi | hi
      · cases hi
      · omega
    have hb2 : ((b.size : Int) == 64) = false := by
      rw [beq_eq_false_iff_ne]
      rcases hi with hi | hi
      · cases hi
      · omega
    clear hi
    go_enter Try.func19, Try.ntmps19
    go_wp2_with (first
      | (go_at_call 36; refine HL.out.mono ?_; rintro e w1 ⟨rfl, rfl⟩)
      | (go_at_call 37; refine HS.out.mono ?_; rintro e w1 ⟨rfl, rfl⟩))
    go_ret
    exact ⟨rfl, rfl⟩

set_option maxHeartbeats 4000000 in
theorem p_write (i : Nat) (b : ByteArray) (hf : (f && F == 0) = false) (hi : i < n) (hn : n ≤ 4096) (p : Sec) (hp : P[i]? = some p) (hb : b.size = 64) (hW : W.length < 1000000) (hF : -1000 ≤ F ∧ F ≤ 9223372036854775807) :
    Calls Try.prog 19 #[.pointer (some ⟨g, 0, none⟩), .int .i64 i, .string b] w fun e w' => ∃ vb', e = .returned (.int .i64 0) ∧
      DP w' g gs n vb' (P.set i (b.data.toList, p.2)) (W ++ [(i, b.data.toList)]) f (if f = true then F - 1 else F) ∧ Moves (pOwn g gs vb) (pOwn g gs vb') w w' := by
  have HL := Lib.hid (p_lost w g gs n vb P W f F h)
  have HS := Lib.hid (p_isSector w g gs n vb P W f F h i)
  rw [hf] at HL
  rw [show (decide (0 ≤ (i : Int)) && decide ((i : Int) < (n : Int))) = true by simp; omega] at HS
  have hb1 : ((b.size : Int) != 64) = false := by rw [bne_eq_false_iff_eq]; omega
  have hb2 : ((b.size : Int) == 64) = true := by rw [beq_iff_eq]; omega
  have HCl := Lib.hid (p_clone b w (by omega))
  obtain ⟨i0, hi0, hz0, hz1, hz2⟩ := info_parts wInfo
  have hvb : vS b.data.toList = .string b := by unfold vS; simp
  have HVB := Lib.hid hvb
  have H := Lib.hid h
  have HPp := Lib.hid hp
  have HB := Lib.hid hb
  obtain ⟨wl, hwl⟩ : ∃ wl, wl = W.length := ⟨_, rfl⟩
  rw [← hwl] at hW
  have HWL := Lib.hid hwl
  have HFF := Lib.hid hf
  clear h hf hp hb hvb hwl
  go_enter Try.func19, Try.ntmps19
  go_upto_region 6 with (first
    | (go_at_call 36; refine HL.out.mono ?_; rintro e w1 ⟨rfl, rfl⟩)
    | (go_at_call 37; refine HS.out.mono ?_; rintro e w1 ⟨rfl, rfl⟩)
    | (go_at_call 35; refine HCl.out.mono ?_; rintro e w1 ⟨rfl, hc1⟩))
  have H1 := Lib.hid (H.out.below hc1)
  have M1 := Lib.hid (Moves.of_below (O := pOwn g gs vb) hc1)
  obtain ⟨s0, s1, sf⟩ := H1.out.sec HPp.out
  obtain ⟨c0, c1, c2, c3, cf⟩ := H1.out.cells
  have H2 := Lib.hid (H1.out.putNow HPp.out b.data.toList)
  have M2 := Lib.hid (M1.out.cellP (a := ⟨gs, i * 2, none⟩) (.inl (.inr (.inl rfl))) (vS b.data.toList))
  rw [HVB.out] at H2 M2
  go_upto_region 7 with fail
  obtain ⟨w2, hw2⟩ : ∃ w2, w2 = w1.setCell ⟨gs, i * 2, none⟩ (.string b) := ⟨_, rfl⟩
  rw [← hw2] at H2 M2
  rw [← hw2]
  clear hw2 H1 M1 s0 s1 sf c0 c1 c2 c3 cf hc1 H
  obtain ⟨c0, c1, c2, c3, cf⟩ := H2.out.cells
  have hnew := Lib.hid (two_newP w2 (.int .i64 (i : Int)) (.string b) 74)
  have hown := Lib.hid (own_below H2.out.wait ((Below.refl _ _).alloc (Nat.le_refl _) (.cells #[.int .i64 (i : Int), .string b] 74)))
  rw [← HWL.out] at hown
  go_upto_block 0 with (at_builtin; refine wpList_append_ownP rfl (.tmp 32) (.tmp 36) 49 rfl 0 74 i0 (.agg #[.int .i64 0, .string ⟨#[]⟩]) 2 24 Try.underlying49 hi0 hz0 hz1 hz2 rfl (by decide) vb wl _ rfl hown.out ⟨w2.heap.size, 0, none⟩ 1 1 [.int .i64 (i : Int), .string b] rfl rfl hnew.out (by simp [Value.oneCell']) (by unfold maxLen; omega) (by omega) (Nat.zero_le _) ?_)
  intro v3 w3 hown3 hg3 hn3
  obtain ⟨gv, cv, rfl, _, _⟩ := own_slice hown3 (by omega)
  have hal : Below w2.heap.size w2 (w2.alloc (.cells #[.int .i64 (i : Int), .string b] 74)) := (Below.refl _ _).alloc (Nat.le_refl _) _
  have H3 := H2.out.below hal
  have hg1 : w3.heap[g]? = _ := (hg3.block g (pRow_lt H3.cell) (fun e => H3.neW.1 e.symm)).trans H3.cell
  have d1 : w3.cell? ⟨g, 1, none⟩ = some vb := by rw [cell_of_row _ _ _ _ _ _ hg1]; rfl
  have df : w3.frozen? ⟨g, 1, none⟩ = false := frozen_of_row _ _ _ _ _ hg1
  have hwt : wtC W ++ [.int .i64 (i : Int), .string b] = wtC (W ++ [(i, b.data.toList)]) := by
    unfold wtC; rw [← twoC_snoc, ← HVB.out]
  have hln : (W ++ [(i, b.data.toList)]).length = wl + 1 := by rw [List.length_append, HWL.out]; rfl
  have H4 := Lib.hid (H3.grow (vb' := .slice (some ⟨gv, 0, none⟩) (wl + 1) cv) (W' := W ++ [(i, b.data.toList)]) hg3 (by rw [hln, ← hwt]; exact hown3))
  have hs2 := M2.out.size
  have M4 := Lib.hid ((((M2.out.belowP hal).grownP hg3 (fun k e => .inl (.inr (.inr e)))).cellP (a := ⟨g, 1, none⟩) (.inl (.inl rfl)) (.slice (some ⟨gv, 0, none⟩) (wl + 1) cv)).owns (O'' := pOwn g gs (.slice (some ⟨gv, 0, none⟩) (wl + 1) cv)) (by
    rintro k (e | e | e)
    · exact .inl (.inl e)
    · exact .inl (.inr (.inl e))
    · rcases hn3 k e with e2 | e2
      · exact .inl (.inr (.inr e2))
      · exact .inr (by omega)))
  clear hg3 hn3 hown3 hown hnew hal H3 hg1 hwt hln H2 M2 c0 c1 c2 c3 cf
  go_upto_region 8 with fail
  obtain ⟨w4, hw4⟩ : ∃ w4, w4 = w3.setCell ⟨g, 1, none⟩ (.slice (some ⟨gv, 0, none⟩) (wl + 1) cv) := ⟨_, rfl⟩
  rw [← hw4] at H4 M4
  rw [← hw4]
  clear hw4 d1 df
  obtain ⟨c0, c1, c2, c3, cf⟩ := H4.out.cells
  cases f with
  | false =>
    go_wp2_with fail
    go_ret
    exact ⟨rfl, _, H4.out, M4.out⟩
  | true =>
    have H5 := Lib.hid (H4.out.putL (F - 1))
    have M5 := Lib.hid (M4.out.cellP (a := ⟨g, 3, none⟩) (.inl (.inl rfl)) (.int .i64 (F - 1)))
    have hwr : IntKind.i64.wrap (F - 1) = F - 1 := IntWalk.i64_in _ (by omega)
    go_wp2_with fail
    go_ret
    exact ⟨rfl, _, H5.out, M5.out⟩
end
end Go.Proofs.Ytlkifliaaaomeaa
