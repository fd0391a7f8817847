/-
  The program's net: Drop.
-/
import Derived.Test.YtbhlgceicfjncaaSet19
import Derived.Test.YtbhlgceicfjncaaSet20
import Derived.Laws.CopyRow
import Derived.Laws.CopyOwn
import Derived.Lib.SlBuf
import Derived.Deep.RegionLaw
import Derived.StillTailTactics
import Derived.Deep.DeepCutAuto
import Derived.Deep.CutBlock
namespace Go.Proofs.Ytbhlgceicfjncaa
open Go.RowKit
set_option linter.unusedVariables false
set_option linter.unnecessarySimpa false
set_option linter.unusedSimpArgs false
set_option maxRecDepth 100000

theorem run_copy_rowW {P : Program} (w : World) (dT sT ty elem : TypeId) (size : Nat) (g o dLen dCap : Nat) (a : Addr) (sLen sCap m : Nat) (cur : Array Value) (t : TypeId) (cs : List Value)
    (hu : P.underlying dT = some (.slice elem)) (hs : (P.info? elem).map (·.size) = some size)
    (hg : w.heap[g]? = some (.cells cur t (0, 0))) (hm : Nat.min sLen dLen = m) (hn : cs.length = m * size)
    (hsrc : ∀ j v, cs[j]? = some v → w.cell? (a.add j) = some v) (hfit : o + cs.length ≤ cur.size) (h1 : ∀ v ∈ cs, v.oneCell' = true) :
    (Builtin.copy_ #[dT, sT] ty #[.slice (some ⟨g, o, none⟩) dLen dCap, .slice (some a) sLen sCap]).run P w =
      .ok (goInt m) (w.setRow g (cur.toList.take o ++ cs ++ cur.toList.drop (o + cs.length)).toArray) := by
  have hl := run_firstCells_some (P := P) w size m a sLen sCap cs hn hsrc
  have hst := run_storeCells_at P g o t cs 0 cur w hg (by simpa using hfit) h1
  cases hq : P.info? elem with
  | none => simp [hq] at hs
  | some i =>
    have hi : i.size = size := by simpa [hq] using hs
    simp [Builtin.copy_, run_underlying hu, Builtin.lenOf, sizeOf, typeInfo, hq, hi, hm, hl, hst]
/-- 'copy' as one step of a region that draws its order. -/
theorem step_copyW {P : Program} {ops : Array Oper} {o : Oper} {a : Act} {w : World} {K : Act → World → Prop} {Q : Exit → Act → World → Prop} {E : Prop}
    (hg : o.guard = none) (d x : Operand) (dT sT : TypeId) (hop : o.op = Op.call { callee := Callee.builtin Builtin.copy, args := #[d, x], argTypes := #[dT, sT] })
    (v u : Value) (hd : a.eval d = v) (hx : a.eval x = u) {v' : Value} {w' : World} (hr : (Builtin.copy_ #[dT, sT] o.type #[v, u]).run P w = .ok v' w') (hK : K (a.put o.dst v') w') :
    if Region.wanted o (yielded ops a.tmps) = true then Oper.wp P o a w K Q else E := by
  rw [if_pos (show Region.wanted o (yielded ops a.tmps) = true by simp [Region.wanted, hg])]
  unfold Oper.wp
  simp [execOp, hop, resolve, invoke, builtin, hd, hx, hr, Result.andThen]
  exact hK
theorem owSz : (Try.prog.info? 70).map (·.size) = some 5 := by kernel_rfl

/-- What a row is once one is taken out of it: what was behind comes to its place; the last place is emptied. -/
theorem ocs_cut {J : List Wj} {j : Nat} (hj : j < J.length) {cur : List Value} (hc : J.length * 5 ≤ cur.length) (ht : cur.take (J.length * 5) = ocs J) :
    ((cur.take (j * 5) ++ (ocs J).drop ((j + 1) * 5) ++ cur.drop (j * 5 + ((ocs J).drop ((j + 1) * 5)).length)).take ((J.length - 1) * 5)) = ocs (J.eraseIdx j) := by
  have h1 : cur.take (j * 5) = ocs (J.take j) := by
    rw [ocs_take, ← ht, List.take_take, Nat.min_eq_left (by omega)]
  have h2 : (ocs J).drop ((j + 1) * 5) = ocs (J.drop (j + 1)) := (ocs_drop J (j + 1)).symm
  have hl : (ocs (J.take j) ++ ocs (J.drop (j + 1))).length = (J.length - 1) * 5 := by
    rw [← ocs_app, ocs_len, List.length_append, List.length_take, List.length_drop]; omega
  rw [h1, h2, ← hl, List.take_left, List.eraseIdx_eq_take_drop_succ, ocs_app]
/-- A row of which the beginning is told. -/
def RowT (w : World) (k : Nat) (t : TypeId) (len m : Nat) (L : List Value) : Prop := ∃ R : List Value, w.heap[k]? = some (.cells R.toArray t (0, 0)) ∧ R.length = len ∧ R.take m = L
theorem RowT.set {w : World} {k : Nat} {t : TypeId} {len m : Nat} {L : List Value} (h : RowT w k t len m L) (o : Nat) (v : Value) : RowT (w.setCell ⟨k, m + o, none⟩ v) k t len m L := by
  obtain ⟨R, h1, h2, h3⟩ := h
  refine ⟨R.set (m + o) v, ?_, by rw [List.length_set, h2], ?_⟩
  · rw [heap_setCell_same w k (m + o) _ _ _ h1, List.setIfInBounds_toArray]
  · rw [← h3, List.take_set_of_le (by omega)]
theorem Moves.setW {O O' : Nat → Prop} {w w' : World} (h : Moves O O' w w') {p : Addr} (hp : O p.block) (v : Value) : Moves O O' w (w'.setCell p v) :=
  ⟨h.os, h.tape, h.output, by simpa using h.size, fun k hk hO => by
    obtain ⟨b, o, x⟩ := p
    rw [Below.heap_setCell _ _ _ _ (fun e => hO (by rw [e]; exact hp))]
    exact h.block k hk hO, h.own⟩
set_option maxHeartbeats 8000000 in
theorem net_drop {w : World} {g : Nat} {v : Value} {J : List Wj} (h : NetV w g v J) (hl : J.length ≤ 1000) (i : Int) :
    Calls Try.prog 11 #[.pointer (some ⟨g, 0, none⟩), .int .i64 i] w fun e w' => ∃ v', e = .returned (.tuple #[]) ∧ NetV w' g v' (cutJ J i) ∧ Moves (netO g v) (netO g v') w w' := by
  have HH := Lib.hid (net_has h i)
  unfold cutJ
  cases hb : hasW J i with
  | false =>
    rw [hb] at HH
    have HN := Lib.hid h
    clear h hb
    go_enter Try.func11, Try.ntmps11
    go_wp2_with (go_at_call 23; (with_reducible refine HH.out.mono ?_); rintro e w1 ⟨rfl, rfl⟩)
    (first | refine bodyPost_noneR rfl rfl ?_ | refine bodyPost_none rfl rfl ?_)
    first | exact ⟨v, rfl, HN.out, Moves.same _ _⟩ | exact ⟨rfl, v, HN.out, Moves.same _ _⟩
  | true =>
    rw [hb] at HH
    have hi := hasW_iff.1 hb
    obtain ⟨j, rfl⟩ : ∃ j : Nat, i = (j : Int) := ⟨i.toNat, by omega⟩
    rw [if_pos rfl, show (j : Int).toNat = j from Int.toNat_natCast j]
    have hj : j < J.length := by omega
    rcases h.2.2 with ⟨rfl, h0⟩ | ⟨k, c, cur, rfl, _, hk, hnc, hcm, hcs, htk⟩
    · omega
    have hgk : g ≠ k := fun e => h.ne (by rw [e]; rfl)
    have hcl : cur.toList.length = c * 5 := by simpa using hcs
    have hol := ocs_len J
    obtain ⟨n, hn⟩ : ∃ n, n = J.length := ⟨_, rfl⟩
    have htk2 := ocs_cut hj (cur := cur.toList) (by omega) htk
    obtain ⟨R1, hR1⟩ : ∃ R1, R1 = cur.toList.take (j * 5) ++ (ocs J).drop ((j + 1) * 5) ++ cur.toList.drop (j * 5 + ((ocs J).drop ((j + 1) * 5)).length) := ⟨_, rfl⟩
    rw [← hR1] at htk2
    have hdl : ((ocs J).drop ((j + 1) * 5)).length = (n - (j + 1)) * 5 := by rw [List.length_drop, hol]; omega
    have hR1l : R1.length = c * 5 := by
      rw [hR1, List.length_append, List.length_append, hdl, List.length_take, hcl, List.length_drop, hcl]
      omega
    have hga : ∀ (a b : Nat), (⟨k, a, none⟩ : Addr).add b = ⟨k, a + b, none⟩ := fun a b => by unfold Addr.add; split <;> simp_all
    have hcp := Lib.hid (show ∀ ty dc sc so, (so = (j + 1) * 5 ∨ c = j + 1) → (Builtin.copy_ #[59, 59] ty #[.slice (some ⟨k, j * 5, none⟩) (n - j) dc, .slice (some ⟨k, so, none⟩) (n - (j + 1)) sc]).run Try.prog w.drew = .ok (goInt ((n - (j + 1) : Nat) : Int)) (w.drew.setRow k R1.toArray) from fun ty dc sc so hso => by
      rw [hR1]
      exact run_copy_rowW w.drew _ _ ty 70 5 k (j * 5) _ dc ⟨k, so, none⟩ _ sc (n - (j + 1)) cur 70 ((ocs J).drop ((j + 1) * 5)) Try.underlying59 owSz hk (by simp only [Nat.min_def]; split <;> omega) hdl
        (fun a u hu => by
          have hlt : a < (n - (j + 1)) * 5 := by rw [← hdl]; exact (List.getElem?_eq_some_iff.1 hu).1
          have hso2 : so = (j + 1) * 5 := by
            rcases hso with e | e
            · exact e
            · exfalso
              have : n - (j + 1) = 0 := by omega
              rw [this] at hlt
              omega
          subst hso2
          rw [hga]
          show w.cell? _ = _
          rw [cell_of_row _ _ _ _ _ _ hk]
          rw [List.getElem?_drop, ← htk, List.getElem?_take] at hu
          split at hu
          · simpa using hu
          · cases hu)
        (by rw [hdl, hcs]; omega) (fun u hu => ocs_one J u (List.mem_of_mem_drop hu)))
    have hbox : w.heap[g]? = some (.cells (nRow (.slice (some ⟨k, 0, none⟩) n c)) 61 (0, 0)) := by rw [hn]; exact h.1
    obtain ⟨w1, hw1⟩ : ∃ w1, w1 = w.drew.setRow k R1.toArray := ⟨_, rfl⟩
    rw [← hw1] at hcp
    have hk1 : w1.heap[k]? = some (.cells R1.toArray 70 (0, 0)) := by rw [hw1]; exact setRow_heap w.drew k cur _ _ _ hk
    have hg1 : w1.heap[g]? = some (.cells (nRow (.slice (some ⟨k, 0, none⟩) n c)) 61 (0, 0)) := by rw [hw1]; exact (setRow_other w.drew k g _ hgk).trans hbox
    have hM1 := Lib.hid (show Moves (netO g (.slice (some ⟨k, 0, none⟩) n c)) (netO g (.slice (some ⟨k, 0, none⟩) n c)) w w1 from by
      rw [hw1]
      exact ⟨rfl, rfl, rfl, by simp, fun q hq hne => setRow_other w.drew k q _ (fun e => hne (.inr (by rw [e]; rfl))), fun q hq => .inl hq⟩)
    have HR1 := Lib.hid htk2
    have HK1 := Lib.hid hk1
    have HG1 := Lib.hid hg1
    have HL1 := Lib.hid hR1l
    rw [← hn] at hnc
    have HNC := Lib.hid (And.intro hnc hcm)
    have hc0 := h.c
    rw [← hn] at hc0
    have gc : w1.cell? ⟨g, 256, none⟩ = some (.slice (some ⟨k, 0, none⟩) n c) := by rw [cell_of_row _ _ _ _ _ _ hg1, nRow_v]
    have gf : w1.frozen? ⟨g, 256, none⟩ = false := frozen_of_row _ _ _ _ _ hg1
    have HJ := Lib.hid hn
    have hlast : ∃ l, n = l + 1 := ⟨n - 1, by omega⟩
    obtain ⟨l, hl1⟩ := hlast
    have HLN := Lib.hid hl1
    have HJL := Lib.hid hj
    have hR5 : ∀ q, q < 5 → ∃ u, R1.toArray[l * 5 + q]? = some u := fun q hq => ⟨R1.toArray[l * 5 + q]'(by rw [List.size_toArray, hR1l]; omega), Array.getElem?_eq_getElem (by rw [List.size_toArray, hR1l]; omega)⟩
    obtain ⟨u0, hu0⟩ := hR5 0 (by decide)
    obtain ⟨u1, hu1⟩ := hR5 1 (by decide)
    obtain ⟨u2, hu2⟩ := hR5 2 (by decide)
    obtain ⟨u3, hu3⟩ := hR5 3 (by decide)
    obtain ⟨u4, hu4⟩ := hR5 4 (by decide)
    have k0 : w1.cell? ⟨k, l * 5, none⟩ = some u0 := by rw [cell_of_row _ _ _ _ _ _ hk1]; exact hu0
    have k1 : w1.cell? ⟨k, l * 5 + 1, none⟩ = some u1 := by rw [cell_of_row _ _ _ _ _ _ hk1]; exact hu1
    have k2 : w1.cell? ⟨k, l * 5 + 2, none⟩ = some u2 := by rw [cell_of_row _ _ _ _ _ _ hk1]; exact hu2
    have k3 : w1.cell? ⟨k, l * 5 + 3, none⟩ = some u3 := by rw [cell_of_row _ _ _ _ _ _ hk1]; exact hu3
    have k4 : w1.cell? ⟨k, l * 5 + 4, none⟩ = some u4 := by rw [cell_of_row _ _ _ _ _ _ hk1]; exact hu4
    have kf : ∀ q, w1.frozen? ⟨k, q, none⟩ = false := fun q => frozen_of_row _ _ _ _ _ hk1
    have kg : k ≠ g := fun e => hgk e.symm
    have hGk := Lib.hid hgk
    have hw2 : IntKind.i64.wrap ((j : Int) + 1) = (j : Int) + 1 := by rw [IntKind.wrap_i64]; omega
    have hw3 : IntKind.i64.wrap ((n : Int) - 1) = (l : Int) := by rw [IntKind.wrap_i64]; omega
    have hz1 : (0 : Int) ≤ (j : Int) + 1 := by omega
    have hz2 : (j : Int) ≤ (n : Int) := by omega
    have hz3 : (j : Int) + 1 ≤ (n : Int) := by omega
    have hz4 : (l : Int) < (n : Int) := by omega
    have hz5 : (l : Int) ≤ (n : Int) := by omega
    have hz6 : (l : Int) ≤ (c : Int) := by omega
    have ht1 : ((j : Int) + 1).toNat = j + 1 := by omega
    have hcj : ¬ (c = j) := by omega
    have hjn : j ≤ n := by omega
    have hjn1 : j + 1 ≤ n := by omega
    have hjc1 : j + 1 ≤ c := by omega
    have hz7 : (j : Int) + 1 ≤ (c : Int) := by omega
    have hz8 : (j : Int) ≤ (c : Int) := by omega
    clear h hb hi hj hk htk hcl hcs hol hn htk2 hR1 hdl hR1l hga hbox hw1 hk1 hg1 hR5 hu0 hu1 hu2 hu3 hu4 hnc hcm hgk hl1
    go_enter Try.func11, Try.ntmps11
    go_upto_region 2 with (go_at_call 23; (with_reducible refine HH.out.mono ?_); rintro e w1 ⟨rfl, rfl⟩)
    have hcq := Lib.hid (show ∀ dc sc, (Builtin.copy_ #[59, 59] 3 #[.slice (some ⟨k, j * 5, none⟩) (n - j) dc, .slice (if c = j + 1 then some ⟨k, 0, none⟩ else some ⟨k, (j + 1) * 5, none⟩) (n - (j + 1)) sc]).run Try.prog w.drew = .ok (goInt ((n - (j + 1) : Nat) : Int)) w1 from fun dc sc => by
      split
      · exact hcp.out 3 dc sc 0 (.inr (by assumption))
      · exact hcp.out 3 dc sc ((j + 1) * 5) (.inl rfl))
    clear hcp
    go_still_tail 13, (by kernel_rfl)
    refine Lib.wpList_copy_run w.drew rfl (.tmp 20) (.tmp 27) 59 59 rfl _ _ rfl rfl (hcq.out (c - j) (c - (j + 1))) ?_
    simp only [Act.put, List.setIfInBounds_toArray, List.set_cons_succ, List.set_cons_zero]
    generalize (if c = j + 1 then some (⟨k, 0, none⟩ : Addr) else some ⟨k, (j + 1) * 5, none⟩) = Z
    clear hw2 hz1 hz2 hz3 ht1 hcj hjn hjn1 hjc1 hz7 hz8 hc0
    go_upto_region 4 with fail
    have ht : RowT w1 k 70 (c * 5) (l * 5) (ocs (J.eraseIdx j)) := ⟨R1, HK1.out, HL1.out, by have := HR1.out; rw [show J.length - 1 = l by have := HJ.out; have := HLN.out; omega] at this; exact this⟩
    have ht5 := ((((ht.set 0 (.int .i64 0)).set 1 (.int .i64 0)).set 2 (.string ⟨#[]⟩)).set 3 (.bool false)).set 4 (.int .i64 0)
    have hg5 : (((((w1.setCell ⟨k, l * 5 + 0, none⟩ (.int .i64 0)).setCell ⟨k, l * 5 + 1, none⟩ (.int .i64 0)).setCell ⟨k, l * 5 + 2, none⟩ (.string ⟨#[]⟩)).setCell ⟨k, l * 5 + 3, none⟩ (.bool false)).setCell ⟨k, l * 5 + 4, none⟩ (.int .i64 0)).heap[g]? = some (.cells (nRow (.slice (some ⟨k, 0, none⟩) n c)) 61 (0, 0)) := by
      rw [Below.heap_setCell _ _ _ _ hGk.out, Below.heap_setCell _ _ _ _ hGk.out, Below.heap_setCell _ _ _ _ hGk.out, Below.heap_setCell _ _ _ _ hGk.out, Below.heap_setCell _ _ _ _ hGk.out]; exact HG1.out
    have hm5 := Lib.hid (((((hM1.out.setW (p := ⟨k, l * 5 + 0, none⟩) (.inr rfl) (.int .i64 0)).setW (p := ⟨k, l * 5 + 1, none⟩) (.inr rfl) (.int .i64 0)).setW (p := ⟨k, l * 5 + 2, none⟩) (.inr rfl) (.string ⟨#[]⟩)).setW (p := ⟨k, l * 5 + 3, none⟩) (.inr rfl) (.bool false)).setW (p := ⟨k, l * 5 + 4, none⟩) (.inr rfl) (.int .i64 0))
    rw [Nat.add_zero] at ht5 hg5 hm5
    obtain ⟨w5, hw5⟩ : ∃ w5, w5 = (((((w1.setCell ⟨k, l * 5, none⟩ (.int .i64 0)).setCell ⟨k, l * 5 + 1, none⟩ (.int .i64 0)).setCell ⟨k, l * 5 + 2, none⟩ (.string ⟨#[]⟩)).setCell ⟨k, l * 5 + 3, none⟩ (.bool false)).setCell ⟨k, l * 5 + 4, none⟩ (.int .i64 0)) := ⟨_, rfl⟩
    rw [← hw5] at ht5 hg5 hm5
    rw [← hw5]
    have HT5 := Lib.hid ht5
    have HG5 := Lib.hid hg5
    clear hw5 gc gf k0 k1 k2 k3 k4 kf ht ht5
    have gc : w5.cell? ⟨g, 256, none⟩ = some (.slice (some ⟨k, 0, none⟩) n c) := by rw [cell_of_row _ _ _ _ _ _ hg5, nRow_v]
    have gf : w5.frozen? ⟨g, 256, none⟩ = false := frozen_of_row _ _ _ _ _ hg5
    clear hg5
    go_wp2_with fail
    refine bodyPost_none rfl rfl ?_
    first
      | refine ⟨.slice (some ⟨k, 0, none⟩) l c, rfl, ⟨?_, ?_⟩, ?_⟩
      | refine ⟨rfl, .slice (some ⟨k, 0, none⟩) l c, ⟨?_, ?_⟩, ?_⟩
    · rw [heap_setCell_same w5 g 256 _ _ _ HG5.out, nRow_set]
    · obtain ⟨R, r1, r2, r3⟩ := HT5.out
      have hel : (J.eraseIdx j).length = l := by
        have := HJ.out
        have := HLN.out
        have := HJL.out
        rw [List.length_eraseIdx, if_pos (by omega)]; omega
      rw [hel]
      exact ⟨by rw [ocs_len, hel], .inr ⟨k, c, R.toArray, rfl, Nat.zero_le _, by rw [Below.heap_setCell _ _ _ _ kg]; exact r1, by have := HNC.out; have := HLN.out; omega, HNC.out.2, by rw [List.size_toArray, r2], r3⟩⟩
    · have := hm5.out.setW (p := ⟨g, 256, none⟩) (.inl rfl) (.slice (some ⟨k, 0, none⟩) l c)
      rw [HJ.out] at this
      exact this
end Go.Proofs.Ytbhlgceicfjncaa
