/-
  What the entries of MvccBad are, with the one more.
-/
import Derived.Test.YtdcefhhmddjodaaMvcBadU
import Derived.Test.YtdcefhhmddjodaaSet16
import Derived.Test.YtdcefhhmddjodaaSet12
import Derived.Test.YtdcefhhmddjodaaSet15
namespace Go.Proofs.Ytdcefhhmddjodaa
open Go.RowKit
set_option linter.unusedVariables false
set_option linter.unnecessarySimpa false
set_option linter.unusedSimpArgs false
set_option maxRecDepth 100000

def moreV (R : Nat) : Vr := ⟨1, false, zb R⟩
def moreEn (M R : Nat) : En := ⟨badK M, [moreV R]⟩
theorem zb_size (k : Nat) : (zb k).size = k := by simp [zb, ByteArray.size]
theorem badK_size (M : Nat) : (badK M).size = 3 + M := by
  unfold badK
  rw [ByteArray.size_append, zb_size]
  rfl
/-- Entries that a slice has, with their chains' slices. -/
structure EpOf (w : World) (a : Option Addr) (len : Nat) (es : List En) (lp : List EP) : Prop where
  acc : accE lp = es
  count : lp.length = len
  vers : ∀ x ∈ lp, IsVers w x.a x.n x.c x.e.ch ∧ ∀ p : Addr, x.a = some p → p.block < w.heap.size
  cells : len = 0 ∨ (0 < len ∧ ∃ b off, a = some ⟨b, off, none⟩ ∧ b < w.heap.size ∧ ∀ j u, (entC lp)[j]? = some u → w.cell? ⟨b, off + j, none⟩ = some u)
theorem entC_get : ∀ (l : List EP) (j : Nat) (u : Value), (entC l)[j]? = some u → ∃ i x, l[i]? = some x ∧ ((j = i * 2 ∧ u = .string x.e.key) ∨ (j = i * 2 + 1 ∧ u = .slice x.a x.n x.c))
  | [], j, u, h => by simp [entC] at h
  | x :: l, j, u, h => by
    have e : entC (x :: l) = .string x.e.key :: .slice x.a x.n x.c :: entC l := rfl
    rw [e] at h
    rcases j with _ | _ | j
    · exact ⟨0, x, rfl, .inl ⟨rfl, by simpa using h.symm⟩⟩
    · exact ⟨0, x, rfl, .inr ⟨rfl, by simpa using h.symm⟩⟩
    · obtain ⟨i, y, h1, h2⟩ := entC_get l j u (by simpa using h)
      exact ⟨i + 1, y, by simpa using h1, h2.elim (fun ⟨q, r⟩ => .inl ⟨by omega, r⟩) (fun ⟨q, r⟩ => .inr ⟨by omega, r⟩)⟩
theorem ents_eps {w : World} {a : Option Addr} {len cap : Nat} {es : List En} (h : IsEnts w a len cap es) (hr : rightE es = true) : ∃ lp, EpOf w a len es lp := by
  have key : ∀ i, ∃ x : EP, i < len → x.e = es.getD i en0 ∧ (IsVers w x.a x.n x.c x.e.ch ∧ ∀ p : Addr, x.a = some p → p.block < w.heap.size) ∧ ∃ b off, a = some ⟨b, off, none⟩ ∧ b < w.heap.size ∧ w.cell? ⟨b, off + i * 2, none⟩ = some (.string x.e.key) ∧ w.cell? ⟨b, off + i * 2 + 1, none⟩ = some (.slice x.a x.n x.c) := by
    intro i
    by_cases hi : i < len
    · obtain ⟨b, off, ha, hlt, hs, h1, ca, cl, cc, h2, hv⟩ := h.1.2 i hi
      refine ⟨⟨es.getD i en0, ca, cl, cc⟩, fun _ => ⟨rfl, ⟨hv, ?_⟩, b, off, ha, hlt, h1, h2⟩⟩
      intro p hp
      have hok := rightE_true.1 hr i (by rw [h.1.1]; exact hi)
      unfold entOk at hok
      simp only [Bool.and_eq_true, decide_eq_true_eq] at hok
      have hpos := hok.1.1
      obtain ⟨b', off', ha', hlt', _⟩ := hv.1.2 0 (by rw [← hv.1.1]; exact hpos)
      simp only at hp
      rw [hp] at ha'
      injection ha' with ha'
      rw [ha']
      exact hlt'
    · exact ⟨⟨en0, none, 0, 0⟩, fun h => absurd h hi⟩
  obtain ⟨f, hf⟩ := Classical.skolem.1 key
  have hel := h.1.1
  refine ⟨(List.range len).map f, ?_, by simp, ?_, ?_⟩
  · apply List.ext_getElem
    · simp [accE, hel]
    · intro i h1 h2
      simp only [accE, List.getElem_map, List.getElem_range]
      rw [(hf i (by omega)).1, List.getD, List.getElem?_eq_getElem h2]
      rfl
  · intro x hx
    obtain ⟨i, hi, rfl⟩ := List.mem_map.1 hx
    exact (hf i (by simpa using hi)).2.1
  · rcases Nat.eq_zero_or_pos len with h0 | h0
    · exact .inl h0
    · obtain ⟨_, _, b, off, ha, hb, _⟩ := hf 0 h0
      refine .inr ⟨h0, b, off, ha, hb, fun j u hj => ?_⟩
      obtain ⟨i, x, hx, hc⟩ := entC_get _ j u hj
      have hil : i < len := by
        have := (List.getElem?_eq_some_iff.1 hx).1
        simpa using this
      have hxf : x = f i := by
        rw [List.getElem?_map, List.getElem?_range hil] at hx
        simpa using hx.symm
      obtain ⟨_, _, b', off', ha', _, k1, k2⟩ := hf i hil
      rw [ha] at ha'
      injection ha' with ha'
      injection ha' with e1 e2
      subst e1 e2 hxf
      rcases hc with ⟨rfl, rfl⟩ | ⟨rfl, rfl⟩
      · exact k1
      · rw [← Nat.add_assoc]; exact k2
/-- The entries and the one more. -/
structure MoreOut (es : List En) (M R : Nat) : Prop where
  right : rightE (es ++ [moreEn M R]) = true
  small : SmallE (es ++ [moreEn M R])
  ok : OkE (es ++ [moreEn M R])
  ins : (insideB (es ++ [moreEn M R])).length ≤ 60000
theorem more_out {w : World} {a : Option Addr} {len cap : Nat} {es : List En} (h : IsEnts w a len cap es) (hf : FewEnts es 10) (hr : rightE es = true) (M R : Nat) (hM : M < 200) (hR : R ≤ 654) (hl : len = 0 ∨ ltS (lastS es) (badK M) = true) : MoreOut es M R := by
  have hF := fewOut h hf
  have hk := badK_size M
  have hz := zb_size R
  have hch : (chainB [moreV R]).length ≤ 2000 := by
    have h1 := tailN_le ([] : List UInt8) (zb R).data.toList
    rw [c_size, hz] at h1
    have u0 := ub_len10 (n := [moreV R].length) (by simp)
    have u1 := ub_len10 (n := headN ([] : List UInt8) (zb R).data.toList) (by omega)
    have u2 := ub_len10 (n := tailN ([] : List UInt8) (zb R).data.toList) (by omega)
    have hm : (midB ([] : List UInt8) (zb R).data.toList).length ≤ R := by unfold midB; rw [List.length_take, List.length_drop, c_size, hz]; omega
    have u3 := ub_len10 (n := (midB ([] : List UInt8) (zb R).data.toList).length) (by omega)
    have u4 := ub_len10 (n := (moreV R).time - 0) (by show 1 - 0 < _; omega)
    unfold chainB versB versB valB
    rw [if_neg (by simp [moreV])]
    show (ub [moreV R].length ++ (ub ((moreV R).time - 0) ++ (0 :: (ub (headN [] (zb R).data.toList) ++ ub (tailN [] (zb R).data.toList) ++ (ub (midB [] (zb R).data.toList).length ++ midB [] (zb R).data.toList)) ++ []))).length ≤ 2000
    simp only [List.length_cons, List.length_append, List.length_nil] at *
    omega
  have hm : ∀ e ∈ es, fewOne e := fun e he => by
    obtain ⟨i, hi, rfl⟩ := List.mem_iff_getElem.1 he
    have := hf.1 i hi (by have := hF.len; omega)
    rwa [List.getD, List.getElem?_eq_getElem hi] at this
  refine ⟨rightE_snoc.2 ⟨hr, Nat.succ_pos 0, rfl, ?_⟩, ?_, ?_, ?_⟩
  · unfold risesS
    rcases hl with h0 | h0
    · rw [decide_eq_true (by rw [h.1.1]; exact h0), Bool.true_or]
    · show (_ || ltS (lastS es) (badK M)) = true
      rw [h0, Bool.or_true]
  · intro e he
    rcases List.mem_append.1 he with he | he
    · exact hF.small e he
    · obtain rfl := List.mem_singleton.1 he
      refine ⟨by show (badK M).size ≤ 60000; omega, by show (chainB [moreV R]).length ≤ _; omega, fun v hv => ?_⟩
      obtain rfl := List.mem_singleton.1 hv
      show (zb R).size ≤ _
      omega
  · intro e he
    rcases List.mem_append.1 he with he | he
    · exact hF.ok e he
    · obtain rfl := List.mem_singleton.1 he
      refine ⟨?_, fun v hv => ?_⟩
      · show allN [moreV R] ≤ 60000
        simp [allN, moreV]
        omega
      · obtain rfl := List.mem_singleton.1 hv
        show 1 < 18446744073709551616
        omega
  · have hs := entsB_le es [] (by simp) (fun e he => ⟨(hm e he).1, by have := (hm e he).2.2; omega, fun v hv => ⟨fewV_mem (hm e he).2 v hv, ents_times h e he v hv⟩⟩)
    have hsum : ∀ l : List En, (∀ e ∈ l, fewOne e) → (l.map fun e => e.ch.length).sum ≤ 10 * l.length := by
      intro l
      induction l with
      | nil => intro _; simp
      | cons e l ih =>
        intro hh
        have a1 := (hh e (by simp)).2.2
        have a2 := ih (fun x hx => hh x (by simp [hx]))
        rw [List.map_cons, List.sum_cons, List.length_cons]
        omega
    have hs2 := hsum es hm
    have hlen := hF.len
    have u := ub_len10 (n := (es ++ [moreEn M R]).length) (by simp; omega)
    have hp := pre_le (lastKey [] es) (moreEn M R).key.data.toList
    have hks : (moreEn M R).key.data.toList.length = 3 + M := by rw [c_size]; exact hk
    have u1 := ub_len10 (n := pre (lastKey [] es) (moreEn M R).key.data.toList) (by omega)
    have u2 := txtB_len ((moreEn M R).key.data.toList.drop (pre (lastKey [] es) (moreEn M R).key.data.toList)) (by rw [List.length_drop]; omega)
    rw [List.length_drop] at u2
    have u3 := txtB_len (chainB (moreEn M R).ch) (by show (chainB [moreV R]).length ≤ _; omega)
    have u4 : (chainB (moreEn M R).ch).length ≤ 2000 := hch
    unfold insideB
    rw [entsB_snoc]
    unfold entB
    simp only [List.length_append, List.length_singleton] at u ⊢
    omega
theorem more_short {w : World} {a : Option Addr} {len cap : Nat} {es : List En} (h : IsEnts w a len cap es) (hf : FewEnts es 10) (M R : Nat) : shortKV (es ++ [moreEn M R]) ↔ ¬ (100 < 3 + M ∨ 500 < R) := by
  have hk := badK_size M
  have hz := zb_size R
  have hF := fewOut h hf
  constructor
  · intro hs
    have h1 := hs (moreEn M R) (by simp)
    have h2 := h1.1
    have h3 := h1.2 (moreV R) (by simp [moreEn])
    have h2' : (badK M).size ≤ 100 := h2
    have h3' : (zb R).size ≤ 500 := h3
    omega
  · intro hn e he
    rcases List.mem_append.1 he with he | he
    · obtain ⟨i, hi, rfl⟩ := List.mem_iff_getElem.1 he
      have := hf.1 i hi (by have := hF.len; omega)
      rw [List.getD, List.getElem?_eq_getElem hi] at this
      exact ⟨this.1, fewV_mem this.2⟩
    · obtain rfl := List.mem_singleton.1 he
      refine ⟨by show (badK M).size ≤ 100; omega, fun v hv => ?_⟩
      obtain rfl := List.mem_singleton.1 hv
      show (zb R).size ≤ 500
      omega
theorem more_vers {w : World} {gv R : Nat} (h : w.heap[gv]? = some (.cells #[.int .u64 1, .bool false, .string (zb R)] 35 (0, 0))) (hR : R ≤ 654) : IsVers w (some ⟨gv, 0, none⟩) 1 1 [moreV R] := by
  have hz := zb_size R
  refine ⟨⟨rfl, fun i hi => ?_⟩, by unfold maxLen; omega⟩
  obtain rfl : i = 0 := by omega
  refine ⟨gv, 0, rfl, (Array.getElem?_eq_some_iff.1 h).1, by show 1 < 18446744073709551616; omega, by show (zb R).size ≤ maxLen; unfold maxLen; omega, ?_, ?_, ?_⟩ <;> (rw [cell_of_row _ _ _ _ _ _ h]; rfl)
/-- What the appended row is. -/
theorem more_ents {w0 W : World} {a : Option Addr} {len g c gv M R : Nat} {es : List En} {lp : List EP} (hE : EpOf w0 a len es lp) (hk : ∀ e ∈ es, e.key.size ≤ 60000) (hlen : len ≤ 10) (hM : M < 200) (hR : R ≤ 654) (hv : w0.heap[gv]? = some (.cells #[.int .u64 1, .bool false, .string (zb R)] 35 (0, 0))) (hb : Below w0.heap.size w0 W)
    (ho : W.ownsRow w0.heap.size 73 2 (.slice (some ⟨g, 0, none⟩) (len + 1) c) (len + 1) (entC lp ++ moreC (badK M) gv)) : IsEnts W (some ⟨g, 0, none⟩) (len + 1) c (es ++ [moreEn M R]) := by
  have e : entC lp ++ moreC (badK M) gv = entC (lp ++ [⟨moreEn M R, some ⟨gv, 0, none⟩, 1, 1⟩]) := by rw [entC_snoc]; rfl
  have hg := (ho.lt g rfl).1
  rw [e] at ho
  have := entC_ents ho (by rw [List.length_append, hE.count]; rfl) (by omega) (fun x hx => by
    rcases List.mem_append.1 hx with hx | hx
    · obtain ⟨v1, v2⟩ := hE.vers x hx
      refine ⟨hk _ (by rw [← hE.acc]; exact List.mem_map.2 ⟨x, hx, rfl⟩), vers_bel v1 hb, fun p hp => ⟨?_, Nat.lt_of_lt_of_le (v2 p hp) hb.size⟩⟩
      intro h
      injection h with h
      have := v2 p hp
      have h' : g = p.block := h
      omega
    · obtain rfl := List.mem_singleton.1 hx
      have hlt := (Array.getElem?_eq_some_iff.1 hv).1
      refine ⟨by have := badK_size M; show (badK M).size ≤ 60000; omega, vers_bel (more_vers hv hR) hb, fun p hp => ?_⟩
      simp only [Option.some.injEq] at hp
      subst hp
      refine ⟨fun h => ?_, Nat.lt_of_lt_of_le hlt hb.size⟩
      injection h with h
      have h' : g = gv := h
      omega)
  rw [accE_snoc, hE.acc] at this
  exact this
end Go.Proofs.Ytdcefhhmddjodaa
