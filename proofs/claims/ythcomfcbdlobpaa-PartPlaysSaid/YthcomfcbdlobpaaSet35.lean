/-
  Joined: MvcPMath, MvcScan, BlkEPs, MvcEntries, LzKit, LzFour, LzAlike, LzKey.
-/
import Derived.Test.YthcomfcbdlobpaaSet33
import Derived.Test.YthcomfcbdlobpaaSet34
import Derived.Test.YthcomfcbdlobpaaSet29
import Derived.Test.YthcomfcbdlobpaaSet04
import Derived.OwnWalk
import Derived.Laws.OwnMore
import Derived.Test.YthcomfcbdlobpaaSet30
import Derived.Test.YthcomfcbdlobpaaSet28
import Derived.Lib.AppendStr
import Derived.Lib.IndexBytes
import Derived.Deep.LoopGhost
import Derived.Deep.DeepCutAuto
import Derived.Deep.CutBlock
import Derived.Deep.QuietTactic
import Derived.BigQuiet
import Derived.StillTailTactics
import Derived.IntWalk
import Derived.Deep.WholeRow
import Derived.Laws.Rows
import Derived.Laws.Tables
import Derived.Laws.CopyOwn
import Derived.Maps.OwnSet
import Derived.DeepKeys4
namespace Go.Proofs.Ythcomfcbdlobpaa
open Go.RowKit
set_option linter.unusedVariables false
set_option linter.unnecessarySimpa false
set_option linter.unusedSimpArgs false
set_option maxRecDepth 100000

theorem fAt_pos (L : List Im) (k : ByteArray) : ∀ ks : List ByteArray, fAt (ks.map (entOf L)) k = posK k ks
  | [] => rfl
  | x :: ks => by
    have ih := fAt_pos L k ks
    unfold fAt at ih ⊢
    rw [List.map_cons, List.takeWhile_cons]
    unfold posK
    have e : ltS (entOf L x).key k = ltK x k := rfl
    rw [e]
    by_cases h : ltK x k = true
    · rw [if_pos h, if_pos h, List.length_cons, ih]
    · rw [if_neg h, if_neg h]; rfl
theorem fAt_ents (L : List Im) (k : ByteArray) : fAt (entsM L) k = posK k (keysM L) := fAt_pos L k _
theorem fOk_ents (L : List Im) (k : ByteArray) : fOk (entsM L) k = (decide (posK k (keysM L) < (keysM L).length) && sameK ((keysM L).getD (posK k (keysM L)) ⟨#[]⟩) k) := by
  unfold fOk
  rw [fAt_ents, entsM_len]
  by_cases h : posK k (keysM L) < (keysM L).length
  · rw [ents_getD L h]; rfl
  · rw [decide_eq_false h, Bool.false_and, Bool.false_and]
theorem find_yes {L : List Im} {k : ByteArray} (h : fOk (entsM L) k = true) : fAt (entsM L) k < (entsM L).length ∧ (entsM L).getD (fAt (entsM L) k) en0 = ⟨k, chainOf k L⟩ := by
  rw [fOk_ents, Bool.and_eq_true, decide_eq_true_eq] at h
  obtain ⟨h1, h2⟩ := h
  rw [fAt_ents, entsM_len]
  refine ⟨h1, ?_⟩
  rw [ents_getD L h1, sameK_iff.1 h2]
  rfl
theorem find_no {L : List Im} {k : ByteArray} (h : fOk (entsM L) k = false) : k ∉ keysM L ∧ chainOf k L = [] := by
  have hn : k ∉ keysM L := fun hm => by
    have := posK_there (keys_rise L) ⟨k, hm, sameK_of rfl⟩
    rw [fOk_ents] at h
    rw [h] at this
    cases this
  exact ⟨hn, chain_none hn⟩

/-! One version more. -/
theorem ents_there {L : List Im} {m : Im} (h : fOk (entsM L) m.key = true) : entsM (L ++ [m]) = (entsM L).set (fAt (entsM L) m.key) ⟨m.key, chainOf m.key L ++ [m.v]⟩ := by
  have h' := h
  rw [fOk_ents] at h'
  have hk : keysM (L ++ [m]) = keysM L := by
    rw [keysM_snoc]
    unfold keyStep
    rw [if_pos h']
  rw [Bool.and_eq_true, decide_eq_true_eq] at h'
  obtain ⟨h1, h2⟩ := h'
  rw [fAt_ents]
  have hd := rise_apart (keys_rise L)
  refine List.ext_getElem (by rw [entsM_len, hk, List.length_set, entsM_len]) fun i hi1 hi2 => ?_
  rw [entsM_len, hk] at hi1
  have hg : (keysM L).getD (posK m.key (keysM L)) ⟨#[]⟩ = (keysM L)[posK m.key (keysM L)] := by rw [List.getD, List.getElem?_eq_getElem h1]; rfl
  rw [hg] at h2
  have h2 := sameK_iff.1 h2
  have e1 : (entsM (L ++ [m]))[i]'(by rw [entsM_len, hk]; exact hi1) = entOf (L ++ [m]) (keysM L)[i] := by
    unfold entsM
    simp only [hk, List.getElem_map]
  rw [e1, List.getElem_set]
  unfold entOf
  rw [chainOf_snoc]
  by_cases hip : posK m.key (keysM L) = i
  · subst hip
    rw [if_pos rfl, h2, if_pos (sameK_of rfl)]
  · rw [if_neg hip]
    have hne : (keysM L)[i] ≠ m.key := by
      rw [← h2]
      rcases Nat.lt_or_ge i (posK m.key (keysM L)) with h3 | h3
      · exact List.pairwise_iff_getElem.1 hd i _ hi1 h1 h3
      · exact fun e => List.pairwise_iff_getElem.1 hd _ i h1 hi1 (by omega) e.symm
    rw [sameK_no.2 (Ne.symm hne)]
    unfold entsM
    rw [List.getElem_map]
    rfl
theorem ents_more {L : List Im} {m : Im} (h : fOk (entsM L) m.key = false) : entsM (L ++ [m]) = (entsM L).take (fAt (entsM L) m.key) ++ [⟨m.key, [m.v]⟩] ++ (entsM L).drop (fAt (entsM L) m.key) := by
  obtain ⟨hn, hc⟩ := find_no h
  rw [fOk_ents] at h
  have hk : keysM (L ++ [m]) = (keysM L).take (posK m.key (keysM L)) ++ [m.key] ++ (keysM L).drop (posK m.key (keysM L)) := by
    rw [keysM_snoc]
    unfold keyStep
    rw [if_neg (by rw [h]; simp)]
  rw [fAt_ents]
  have key : ∀ ks : List ByteArray, (∀ x ∈ ks, x ∈ keysM L) → ks.map (entOf (L ++ [m])) = ks.map (entOf L) := fun ks hks => by
    refine List.map_congr_left fun x hx => ?_
    unfold entOf
    rw [chainOf_snoc, sameK_no.2 (fun e => hn (by rw [e]; exact hks x hx))]
    rfl
  have hm1 : [m.key].map (entOf (L ++ [m])) = [⟨m.key, [m.v]⟩] := by
    rw [List.map_singleton]
    unfold entOf
    rw [chainOf_snoc, if_pos (sameK_of rfl), hc]
    rfl
  unfold entsM
  rw [hk, List.map_append, List.map_append, hm1, key _ (fun x hx => List.mem_of_mem_take hx), key _ (fun x hx => List.mem_of_mem_drop hx), List.map_take, List.map_drop]

/-! What is told of a chain. -/
theorem atV_best (t : Nat) : ∀ (l : List Vr) (t0 : Nat) (r : Vr × Bool), risesB t0 l = true → r.1.time ≤ t0 →
    l.foldl (fun r v => if decide (v.time ≤ t) && decide (r.1.time < v.time) then (v, true) else r) r = match atV l t with | none => r | some v => (v, true)
  | [], t0, r, _, _ => rfl
  | v :: l, t0, r, h, hr => by
    simp only [risesB, Bool.and_eq_true, decide_eq_true_eq] at h
    obtain ⟨⟨h1, _⟩, h2⟩ := h
    rw [List.foldl_cons, atV]
    by_cases hv : v.time ≤ t
    · have hx : (decide (v.time ≤ t) && decide (r.1.time < v.time)) = true := by
        rw [decide_eq_true hv, decide_eq_true (show r.1.time < v.time by omega)]; rfl
      rw [hx, if_pos rfl, if_pos hv, atV_best t l v.time _ h2 (Nat.le_refl _)]
      cases atV l t <;> rfl
    · have hx : (decide (v.time ≤ t) && decide (r.1.time < v.time)) = false := by
        rw [decide_eq_false hv]; rfl
      rw [hx, if_neg (by simp), if_neg hv, atV_best t l v.time _ h2 (by omega)]
      cases atV l t <;> rfl
theorem best_at {L : List Im} (h : GoodL L) (k : ByteArray) (t : Nat) : bestOf k t L = match atV (chainOf k L) t with | none => (vr0, false) | some v => (v, true) := by
  rw [best_chain]
  exact atV_best t _ 0 _ (h.rise k) (Nat.zero_le _)
theorem lastOf_max (k : ByteArray) : ∀ L : List Im, (lastOf k L).1 = (chainOf k L).foldr (fun v r => max v.time r) 0
  | [] => rfl
  | m :: L => by
    have ih := lastOf_max k L
    have e : chainOf k (m :: L) = if sameK m.key k then m.v :: chainOf k L else chainOf k L := by
      unfold chainOf
      by_cases h : sameK m.key k = true <;> simp [h]
    rw [e]
    simp only [lastOf]
    by_cases h : sameK m.key k = true
    · rw [if_pos h, if_pos h, List.foldr_cons, ih]
    · rw [if_neg h, if_neg h, ih]
theorem max_end : ∀ (l : List Vr) (t : Nat), risesB t l = true → max t (l.foldr (fun v r => max v.time r) 0) = endT t l
  | [], t, _ => by simp [endT]
  | v :: l, t, h => by
    simp only [risesB, Bool.and_eq_true, decide_eq_true_eq] at h
    obtain ⟨⟨h1, _⟩, h2⟩ := h
    rw [List.foldr_cons, max_end l v.time h2]
    have := max_end l v.time h2
    show max t (endT v.time l) = endT v.time l
    omega
theorem endT_last : ∀ (l : List Vr) (t : Nat), l ≠ [] → endT t l = (l.getD (l.length - 1) vr0).time
  | [], t, h => absurd rfl h
  | [v], t, _ => rfl
  | v :: x :: l, t, _ => by
    have := endT_last (x :: l) v.time (by simp)
    rw [endT, this]
    rfl
theorem last_end {L : List Im} (h : GoodL L) (k : ByteArray) : (lastOf k L).1 = endT 0 (chainOf k L) := by
  have := max_end (chainOf k L) 0 (h.rise k)
  rw [lastOf_max]
  omega

/-! A store of whatever entries. -/
theorem flat_cons (e : En) (es : List En) : flatE (e :: es) = itsOf e ++ flatE es := by simp [flatE]
theorem flat_not {k : ByteArray} : ∀ {es : List En}, (∀ e ∈ es, e.key ≠ k) → chainOf k (flatE es) = []
  | [], _ => rfl
  | e :: es, h => by
    rw [flat_cons, chainOf_app, chainOf_its, sameK_no.2 (h e (by simp)), flat_not (fun x hx => h x (by simp [hx]))]
    rfl
theorem flat_in : ∀ {es : List En}, (es.map (·.key)).Pairwise (fun a b => a ≠ b) → ∀ e ∈ es, chainOf e.key (flatE es) = e.ch
  | [], _, e, he => by cases he
  | x :: es, hp, e, he => by
    rw [List.map_cons, List.pairwise_cons] at hp
    rw [flat_cons, chainOf_app, chainOf_its]
    rcases List.mem_cons.1 he with rfl | he
    · rw [if_pos (sameK_of rfl), flat_not (fun y hy e2 => hp.1 y.key (List.mem_map.2 ⟨y, hy, rfl⟩) e2.symm), List.append_nil]
    · rw [sameK_no.2 (hp.1 e.key (List.mem_map.2 ⟨e, he, rfl⟩)), flat_in hp.2 e he]
      rfl
theorem flat_keys : ∀ (n : Nat) (es : List En), es.length = n → Rise (es.map (·.key)) → (∀ e ∈ es, 0 < e.ch.length) → keysM (flatE es) = es.map (·.key)
  | 0, es, hn, _, _ => by rw [List.eq_nil_of_length_eq_zero hn]; rfl
  | n + 1, es, hn, hr, hc => by
    rcases List.eq_nil_or_concat es with rfl | ⟨l, k, rfl⟩
    · simp at hn
    · rw [List.concat_eq_append] at *
      rw [List.map_append] at hr ⊢
      have hr2 := List.pairwise_append.1 hr
      have ih := flat_keys n l (by simpa using hn) hr2.1 (fun x hx => hc x (by simp [hx]))
      have e : flatE (l ++ [k]) = flatE l ++ itsOf k := by simp [flatE]
      rw [e]
      unfold keysM at ih ⊢
      rw [List.foldl_append, ih]
      exact keys_its hr (fun x hx => hr2.2.2 x hx k.key (by simp)) (hc k (by simp))
theorem right_rise {es : List En} (h : rightE es = true) : Rise (es.map (·.key)) := by
  refine List.pairwise_iff_getElem.2 fun i j hi hj hij => ?_
  rw [List.length_map] at hi hj
  rw [List.getElem_map, List.getElem_map]
  have key : ∀ d a, a + d + 1 < es.length → ltS (es.getD a en0).key (es.getD (a + d + 1) en0).key = true := fun d => by
    induction d with
    | zero => intro a ha; exact lt_step h ha
    | succ d ih => intro a ha; exact ltK_trans (ih a (by omega)) (lt_step h (i := a + d + 1) (by omega))
  have := key (j - i - 1) i (by omega)
  rw [show i + (j - i - 1) + 1 = j by omega] at this
  rw [List.getD, List.getD, List.getElem?_eq_getElem hi, List.getElem?_eq_getElem hj] at this
  exact this
theorem right_mem {es : List En} (h : rightE es = true) : ∀ e ∈ es, 0 < e.ch.length ∧ risesB 0 e.ch = true ∧ e.ch.length ≤ 200 := fun e he => by
  obtain ⟨i, hi, rfl⟩ := List.mem_iff_getElem.1 he
  have h2 := rightE_true.1 h i hi
  unfold entOk at h2
  rw [List.getD, List.getElem?_eq_getElem hi] at h2
  simp only [Bool.and_eq_true, Option.getD_some, decide_eq_true_eq] at h2
  obtain ⟨⟨h3, h4⟩, _⟩ := h2
  unfold rightB at h4
  rw [Bool.and_eq_true, decide_eq_true_eq] at h4
  exact ⟨h3, h4.1, h4.2⟩
theorem ents_all {es : List En} (h : rightE es = true) : entsM (flatE es) = es := by
  have hr := right_rise h
  have hk := flat_keys _ es rfl hr (fun e he => (right_mem h e he).1)
  unfold entsM
  rw [hk, List.map_map]
  conv => rhs; rw [← List.map_id es]
  refine List.map_congr_left fun e he => ?_
  show entOf (flatE es) e.key = e
  unfold entOf
  rw [flat_in (rise_apart hr) e he]
theorem good_flat {es : List En} (h : rightE es = true) (ho : OkE es) (hs : shortKV es) : GoodL (flatE es) := by
  have hm : ∀ m ∈ flatE es, ∃ e ∈ es, m.key = e.key ∧ m.v ∈ e.ch := fun m hm => by
    unfold flatE at hm
    obtain ⟨e, he, hm⟩ := List.mem_flatMap.1 hm
    unfold itsOf at hm
    obtain ⟨v, hv, rfl⟩ := List.mem_map.1 hm
    exact ⟨e, he, rfl, hv⟩
  have hc : ∀ k, chainOf k (flatE es) = [] ∨ ∃ e ∈ es, chainOf k (flatE es) = e.ch := fun k => by
    by_cases hx : ∃ e ∈ es, e.key = k
    · obtain ⟨e, he, rfl⟩ := hx
      exact .inr ⟨e, he, flat_in (rise_apart (right_rise h)) e he⟩
    · exact .inl (flat_not fun e he hk => hx ⟨e, he, hk⟩)
  refine ⟨fun m h1 => ?_, fun m h1 => ?_, fun m h1 => ?_, fun k => ?_, fun k => ?_⟩
  · obtain ⟨e, he, h2, _⟩ := hm m h1
    rw [h2]; exact (hs e he).1
  · obtain ⟨e, he, _, h3⟩ := hm m h1
    exact (hs e he).2 _ h3
  · obtain ⟨e, he, _, h3⟩ := hm m h1
    exact (ho e he).2 _ h3
  · rcases hc k with e | ⟨e, he, e2⟩
    · rw [e]; rfl
    · rw [e2]; exact (right_mem h e he).2.1
  · rcases hc k with e | ⟨e, he, e2⟩
    · rw [e]; exact Nat.zero_le _
    · rw [e2]; exact (right_mem h e he).2.2
end Go.Proofs.Ythcomfcbdlobpaa

namespace Go.Proofs.Ythcomfcbdlobpaa
open Go.RowKit
set_option linter.unusedVariables false
set_option linter.unnecessarySimpa false
set_option linter.unusedSimpArgs false
set_option maxRecDepth 100000

theorem KSo.keys {w : World} {B : Nat} {v : Value} {l : List ByteArray} (h : KSo w B v l) : ∃ a c, v = .slice a l.length c ∧ ∀ i, i < l.length → ∃ g, a = some ⟨g, 0, none⟩ ∧ g < w.heap.size ∧ w.cell? ⟨g, i, none⟩ = some (.string (l.getD i ⟨#[]⟩)) := by
  rcases h.form with ⟨rfl, rfl⟩ | ⟨h0, g, c, rfl, _, _, hg, hc⟩
  · exact ⟨none, 0, rfl, fun i hi => by simp at hi⟩
  · exact ⟨_, c, rfl, fun i hi => ⟨g, rfl, hg, hc i hi⟩⟩

theorem cells3_new (w : World) (x y z : Value) (t : TypeId) : ∀ j u, [x, y, z][j]? = some u → (w.alloc (.cells #[x, y, z] t)).cell? ((⟨w.heap.size, 0, none⟩ : Addr).add j) = some u := fun j u h => by
  have hadd : (⟨w.heap.size, 0, none⟩ : Addr).add j = ⟨w.heap.size, j, none⟩ := by unfold Addr.add; split <;> simp_all
  rw [hadd, cell_of_row _ _ _ _ _ _ (heap_alloc_new w _)]
  simpa using h

end Go.Proofs.Ythcomfcbdlobpaa

namespace Go.Proofs.Ythcomfcbdlobpaa
open Go.RowKit
set_option linter.unusedVariables false
set_option linter.unnecessarySimpa false
set_option linter.unusedSimpArgs false
set_option maxRecDepth 100000

/-- An entry that was taken, and its chain's slice. -/
structure EP where
  e : En
  a : Option Addr
  n : Nat
  c : Nat
def entC (l : List EP) : List Value := l.flatMap fun x => [.string x.e.key, .slice x.a x.n x.c]
theorem entC_len : ∀ l : List EP, (entC l).length = l.length * 2
  | [] => rfl
  | v :: l => by
    have := entC_len l
    unfold entC at this ⊢
    rw [List.flatMap_cons, List.length_append, this, List.length_cons]
    simp; omega
theorem entC_snoc (l : List EP) (v : EP) : entC (l ++ [v]) = entC l ++ [.string v.e.key, .slice v.a v.n v.c] := by simp [entC]
theorem entC_at : ∀ (l : List EP) (i : Nat) (x : EP), l[i]? = some x → (entC l)[i * 2]? = some (.string x.e.key) ∧ (entC l)[i * 2 + 1]? = some (.slice x.a x.n x.c)
  | [], i, x, h => by simp at h
  | v :: l, 0, x, h => by
    have : v = x := by simpa using h
    subst this
    exact ⟨rfl, rfl⟩
  | v :: l, i + 1, x, h => by
    have := entC_at l i x (by simpa using h)
    have e : entC (v :: l) = [.string v.e.key, .slice v.a v.n v.c] ++ entC l := by simp [entC]
    rw [e, show (i + 1) * 2 = 2 + i * 2 by omega, show 2 + i * 2 + 1 = 2 + (i * 2 + 1) by omega]
    refine ⟨?_, ?_⟩
    · rw [List.getElem?_append_right (by simp)]; simpa using this.1
    · rw [List.getElem?_append_right (by simp)]; simpa using this.2
def accE (l : List EP) : List En := l.map (·.e)
theorem accE_snoc (l : List EP) (x : EP) : accE (l ++ [x]) = accE l ++ [x.e] := by simp [accE]
/-- Entries that were taken, with chains that no row's block holds. -/
def EPs (W : World) (v : Value) (l : List EP) : Prop := ∀ x ∈ l, x.e.key.size ≤ 60000 ∧ IsVers W x.a x.n x.c x.e.ch ∧ ∀ p : Addr, x.a = some p → v.ownBlock ≠ some p.block ∧ p.block < W.heap.size
theorem entC_ents {w : World} {B n c : Nat} {a : Option Addr} {l : List EP} (h : w.ownsRow B 109 2 (.slice a n c) n (entC l)) (hn : l.length = n) (hl : n ≤ 100000) (hv : EPs w (.slice a n c) l) : IsEnts w a n c (accE l) := by
  have hcap : n ≤ c := by
    rcases h.2 with ⟨h1, h2⟩ | ⟨g, cap, cur, h1, _, _, h2, _⟩
    · omega
    · injection h1 with _ _ h1; omega
  refine ⟨⟨by unfold accE; rw [List.length_map, hn], fun i hi => ?_⟩, by unfold maxLen; omega, hcap⟩
  obtain ⟨g, cap, e, hg, hgl⟩ := own_slice h (by omega)
  injection e with e1 e2 e3
  subst e1 e3
  have hil : i < l.length := by omega
  have hx : l[i]? = some l[i] := List.getElem?_eq_getElem hil
  obtain ⟨h0, h1⟩ := entC_at l i _ hx
  obtain ⟨k1, k2, _⟩ := hv _ (List.getElem_mem hil)
  have he : (accE l).getD i en0 = (l[i]).e := by unfold accE; rw [List.getD, List.getElem?_map, hx]; rfl
  rw [he]
  refine ⟨g, 0, rfl, hgl, by unfold maxLen; omega, ?_, l[i].a, l[i].n, l[i].c, ?_, k2⟩
  · rw [Nat.zero_add, h.cellAt (i * 2) (by omega)]; exact h0
  · rw [Nat.zero_add, h.cellAt (i * 2 + 1) (by omega)]; exact h1
theorem vers_grownK {w w' : World} {r : Option Nat} {a : Option Addr} {len cap : Nat} {zs : List Vr} (h : IsVers w a len cap zs) (hg : w.grownBy w' r) (hr : ∀ p : Addr, a = some p → r ≠ some p.block) : IsVers w' a len cap zs := by
  refine ⟨⟨h.1.1, fun i hi => ?_⟩, h.2⟩
  obtain ⟨b, off, ha, hlt, h1, h2, h3, h4, h5⟩ := h.1.2 i hi
  have hb : w'.heap[b]? = w.heap[b]? := hg.block b hlt (fun e => hr _ ha e.symm)
  have key : ∀ k, w'.cell? ⟨b, k, none⟩ = w.cell? ⟨b, k, none⟩ := fun k => by unfold World.cell?; rw [hb]
  exact ⟨b, off, ha, Nat.lt_of_lt_of_le hlt hg.size, h1, h2, (key _).trans h3, (key _).trans h4, (key _).trans h5⟩
theorem entInfoP : (Try.prog.info? 109).map (fun i => (i.zero, i.size, i.bytes)) = some (some (.agg #[.string ⟨#[]⟩, .slice none 0 0]), 2, 40) := by kernel_rfl

theorem eps_below {W W' : World} {v : Value} {l : List EP} (h : EPs W v l) (hb : Below W.heap.size W W') : EPs W' v l := fun x hx => ⟨(h x hx).1, vers_bel (h x hx).2.1 hb, fun p hp => ⟨((h x hx).2.2 p hp).1, Nat.lt_of_lt_of_le ((h x hx).2.2 p hp).2 hb.size⟩⟩
end Go.Proofs.Ythcomfcbdlobpaa

namespace Go.Proofs.Ythcomfcbdlobpaa
open Go.RowKit
set_option linter.unusedVariables false
set_option linter.unnecessarySimpa false
set_option linter.unusedSimpArgs false
set_option maxRecDepth 100000

/-! Rows of versions. -/
def vtC (l : List Vr) : List Value := l.flatMap fun v => [.int .u64 (v.time : Int), .bool v.gone, .string v.val]
theorem vtC_len : ∀ l : List Vr, (vtC l).length = l.length * 3
  | [] => rfl
  | v :: l => by
    have := vtC_len l
    unfold vtC at this ⊢
    rw [List.flatMap_cons, List.length_append, this, List.length_cons]
    simp; omega
theorem vtC_snoc (l : List Vr) (v : Vr) : vtC (l ++ [v]) = vtC l ++ [.int .u64 (v.time : Int), .bool v.gone, .string v.val] := by simp [vtC]
theorem vtC_at : ∀ (l : List Vr) (i : Nat), i < l.length → (vtC l)[i * 3]? = some (.int .u64 ((l.getD i vr0).time : Int)) ∧ (vtC l)[i * 3 + 1]? = some (.bool (l.getD i vr0).gone) ∧ (vtC l)[i * 3 + 2]? = some (.string (l.getD i vr0).val)
  | [], i, h => by simp at h
  | v :: l, 0, _ => ⟨rfl, rfl, rfl⟩
  | v :: l, i + 1, h => by
    have := vtC_at l i (by simpa using h)
    have e : vtC (v :: l) = [.int .u64 (v.time : Int), .bool v.gone, .string v.val] ++ vtC l := by simp [vtC]
    rw [e, show (i + 1) * 3 = 3 + i * 3 by omega, show 3 + i * 3 + 1 = 3 + (i * 3 + 1) by omega, show 3 + i * 3 + 2 = 3 + (i * 3 + 2) by omega]
    refine ⟨?_, ?_, ?_⟩
    · rw [List.getElem?_append_right (by simp)]; simpa using this.1
    · rw [List.getElem?_append_right (by simp)]; simpa using this.2.1
    · rw [List.getElem?_append_right (by simp)]; simpa using this.2.2
theorem vtC_vers {w : World} {B n c : Nat} {a : Option Addr} {zs : List Vr} (h : w.ownsRow B 42 3 (.slice a n c) n (vtC zs)) (hn : zs.length = n) (hl : n ≤ 100000) (ht : ∀ v ∈ zs, v.time < 18446744073709551616 ∧ v.val.size ≤ maxLen) : IsVers w a n c zs := by
  refine ⟨⟨hn, fun i hi => ?_⟩, by unfold maxLen; omega⟩
  obtain ⟨g, cap, e, hg, hgl⟩ := own_slice h (by omega)
  injection e with e1 e2 e3
  subst e1 e3
  have hm : zs.getD i vr0 ∈ zs := by rw [List.getD, List.getElem?_eq_getElem (by omega)]; exact List.getElem_mem _
  obtain ⟨h0, h1, h2⟩ := vtC_at zs i (by omega)
  refine ⟨g, 0, rfl, hgl, (ht _ hm).1, (ht _ hm).2, ?_, ?_, ?_⟩
  · rw [Nat.zero_add, h.cellAt (i * 3) (by omega)]; exact h0
  · rw [Nat.zero_add, h.cellAt (i * 3 + 1) (by omega)]; exact h1
  · rw [Nat.zero_add, h.cellAt (i * 3 + 2) (by omega)]; exact h2
theorem vtInfo : (Try.prog.info? 42).map (fun i => (i.zero, i.size, i.bytes)) = some (some (.agg #[.int .u64 0, .bool false, .string ⟨#[]⟩]), 3, 32) := by kernel_rfl
theorem own_fresh {W : World} {B e size n : Nat} {a : Option Addr} {c : Nat} {xs : List Value} (h : W.ownsRow B e size (.slice a n c) n xs) : ∀ p : Addr, a = some p → B ≤ p.block ∧ p.block < W.heap.size := fun p hp => by
  subst hp
  exact h.lt p.block rfl
/-- One entry more. -/
theorem eps_next {wr wy W w9 : World} {acc : List EP} {a a6 a9 : Option Addr} {B i c m6 c6 c9 : Nat} {K : ByteArray} {ch : List Vr}
    (hown : wr.ownsRow B 109 2 (.slice a i c) i (entC acc)) (heps : EPs wr (.slice a i c) acc) (hb : Below wr.heap.size wr wy) (hv : IsVers wy a6 m6 c6 ch) (hf : ∀ p : Addr, a6 = some p → wr.heap.size ≤ p.block ∧ p.block < wy.heap.size)
    (hbW : Below wy.heap.size wy W) (hk : K.size ≤ 60000) (hg9 : W.grownBy w9 (Value.slice a i c).ownBlock) (hk9 : ∀ k, (Value.slice a9 (i + 1) c9).ownBlock = some k → (Value.slice a i c).ownBlock = some k ∨ W.heap.size ≤ k) :
    EPs w9 (.slice a9 (i + 1) c9) (acc ++ [⟨⟨K, ch⟩, a6, m6, c6⟩]) := by
  have hlt := hown.lt
  have s1 := hb.size
  have s2 := hbW.size
  have s3 := hg9.size
  intro x hx
  rcases List.mem_append.1 hx with hx | hx
  · obtain ⟨k1, k2, k3⟩ := heps x hx
    refine ⟨k1, vers_grownK (vers_bel (vers_bel k2 hb) hbW) hg9 (fun p hp => (k3 p hp).1), fun p hp => ⟨fun e => ?_, by have := (k3 p hp).2; omega⟩⟩
    rcases hk9 _ e with h | h
    · exact (k3 p hp).1 h
    · have := (k3 p hp).2; omega
  · rw [List.mem_singleton.1 hx]
    refine ⟨hk, vers_grownK (vers_bel hv hbW) hg9 (fun p hp e => ?_), fun p hp => ⟨fun e => ?_, by have := (hf p hp).2; omega⟩⟩
    · have h1 := (hlt _ e).2
      have h2 := (hf p hp).1
      omega
    · rcases hk9 _ e with h | h
      · have h1 := (hlt _ h).2
        have h2 := (hf p hp).1
        omega
      · have := (hf p hp).2; omega

theorem cells2_new (w : World) (x y : Value) (t : TypeId) : ∀ j u, [x, y][j]? = some u → (w.alloc (.cells #[x, y] t)).cell? ((⟨w.heap.size, 0, none⟩ : Addr).add j) = some u := fun j u h => by
  have hadd : (⟨w.heap.size, 0, none⟩ : Addr).add j = ⟨w.heap.size, j, none⟩ := by unfold Addr.add; split <;> simp_all
  rw [hadd, cell_of_row _ _ _ _ _ _ (heap_alloc_new w _)]
  simpa using h
theorem drewN_belowE (w : World) (n : Nat) : Below w.heap.size w (w.drewN n) := ⟨rfl, rfl, rfl, Nat.le_refl _, fun _ _ => rfl⟩

end Go.Proofs.Ythcomfcbdlobpaa

namespace Go.Proofs.Ythcomfcbdlobpaa
open Go.RowKit
set_option linter.unusedVariables false
set_option linter.unnecessarySimpa false
set_option linter.unusedSimpArgs false
set_option maxRecDepth 100000
theorem cells_len (o : List UInt8) : (Lib.byteCells o).length = o.length := Lib.byteCells_length o
end Go.Proofs.Ythcomfcbdlobpaa

namespace Go.Proofs.Ythcomfcbdlobpaa
open Go.RowKit
set_option linter.unusedVariables false
set_option linter.unnecessarySimpa false
set_option linter.unusedSimpArgs false
set_option maxRecDepth 100000

/-- The byte at a place. -/
def bt (s : ByteArray) (i : Nat) : UInt8 := s.data.toList.getD i 0
theorem bt_nat (s : ByteArray) (i : Nat) (h : i < s.size) : s[i].toNat = (bt s i).toNat := by
  unfold bt
  rw [List.getD, List.getElem?_eq_getElem (by rw [Array.length_toList]; exact h)]
  rfl
/-- Four bytes as a value, and as a key. -/
def four (x : UInt8 × UInt8 × UInt8 × UInt8) : Array Value := #[.int .u8 x.1.toNat, .int .u8 x.2.1.toNat, .int .u8 x.2.2.1.toNat, .int .u8 x.2.2.2.toNat]
def fours (s : ByteArray) (i : Nat) : UInt8 × UInt8 × UInt8 × UInt8 := (bt s i, bt s (i + 1), bt s (i + 2), bt s (i + 3))

theorem i64_add (a k : Int) (h0 : 0 ≤ a + k) (h : a + k ≤ 1000000) : IntKind.i64.wrap (a + k) = a + k := IntWalk.i64_in _ (by omega)
theorem w64_add (a k : Int) (h0 : 0 ≤ a + k) (h : a + k ≤ 1000000) : wrap64 (a + k) = a + k := IntWalk.wrap64_in _ (by omega)
theorem four_wraps (a : Nat) (h : a ≤ 100000) : IntKind.i64.wrap ((a : Int) + 1) = (a : Int) + 1 ∧ IntKind.i64.wrap ((a : Int) + 2) = (a : Int) + 2 ∧ IntKind.i64.wrap ((a : Int) + 3) = (a : Int) + 3 ∧
    wrap64 ((a : Int) + 1) = (a : Int) + 1 ∧ wrap64 ((a : Int) + 2) = (a : Int) + 2 ∧ wrap64 ((a : Int) + 3) = (a : Int) + 3 :=
  ⟨i64_add _ _ (by omega) (by omega), i64_add _ _ (by omega) (by omega), i64_add _ _ (by omega) (by omega), w64_add _ _ (by omega) (by omega), w64_add _ _ (by omega) (by omega), w64_add _ _ (by omega) (by omega)⟩

theorem same_wraps (a b m n : Nat) (h0 : a + m ≤ n) (h1 : b + m ≤ n) (h : n ≤ 100000) : IntKind.i64.wrap ((a : Int) + (m : Int)) = (a : Int) + (m : Int) ∧ IntKind.i64.wrap ((b : Int) + (m : Int)) = (b : Int) + (m : Int) ∧
    wrap64 ((a : Int) + (m : Int)) = (a : Int) + (m : Int) ∧ wrap64 ((b : Int) + (m : Int)) = (b : Int) + (m : Int) :=
  ⟨i64_add _ _ (by omega) (by omega), i64_add _ _ (by omega) (by omega), w64_add _ _ (by omega) (by omega), w64_add _ _ (by omega) (by omega)⟩

end Go.Proofs.Ythcomfcbdlobpaa

namespace Go.Proofs.Ythcomfcbdlobpaa
open Go.RowKit
set_option linter.unusedVariables false
set_option linter.unnecessarySimpa false
set_option linter.unusedSimpArgs false
set_option maxRecDepth 100000

/-- As many bytes are the same, and no more. -/
def Same (s : ByteArray) (a b m : Nat) : Prop := b + m ≤ s.size ∧ (∀ i, i < m → bt s (a + i) = bt s (b + i)) ∧ (b + m < s.size → ¬ bt s (a + m) = bt s (b + m))
theorem bt_eq {s : ByteArray} {i j : Nat} : (((bt s i).toNat : Int) == ((bt s j).toNat : Int)) = decide (bt s i = bt s j) := by
  by_cases h : bt s i = bt s j
  · rw [h]; simp
  · rw [decide_eq_false h, beq_eq_false_iff_ne]
    intro e
    exact h (UInt8.toNat_inj.1 (by omega))

theorem below_drewN {B : Nat} {w w' : World} (h : Below B w w') (n : Nat) : Below B w (w'.drewN n) := ⟨h.os, h.tape, h.output, h.size, h.block⟩

end Go.Proofs.Ythcomfcbdlobpaa

namespace Go.Proofs.Ythcomfcbdlobpaa
open Go.RowKit Go.Maps
set_option linter.unusedVariables false
set_option linter.unnecessarySimpa false
set_option linter.unusedSimpArgs false
set_option maxRecDepth 100000

abbrev F4 := UInt8 × UInt8 × UInt8 × UInt8
def key4 (x : F4) : Lit := .string [x.1, x.2.1, x.2.2.1, x.2.2.2]
theorem key4_inj {x y : F4} (h : key4 x = key4 y) : x = y := by
  obtain ⟨a, b, c, d⟩ := x
  obtain ⟨a', b', c', d'⟩ := y
  simp only [key4, Lit.string.injEq, List.cons.injEq, and_true] at h
  obtain ⟨rfl, rfl, rfl, rfl⟩ := h
  rfl
theorem key_laidOut : laidOutB Try.prog = true := by kernel_rfl
theorem u8_cells : Try.prog.cellsOf 5 = 1 := by kernel_rfl
theorem u8_wf (x : UInt8) : (Lit.int .u8 (x.toNat : Int)).wf = true := by
  have := UInt8.toNat_lt x
  simp [Lit.wf, IntKind.min, IntKind.max, IntKind.bits, IntKind.signed]
  omega

theorem lits_u8 (m : Nat) (x : UInt8) : Try.prog.keyLits (m + 1) 5 [.int .u8 x.toNat] = some [.int .u8 x.toNat] := by
  unfold Program.keyLits
  rw [Try.underlying5]
  simp [u8_wf]
theorem ba_byte (x : UInt8) : bytesBE 1 ((x.toNat : Int) % 2 ^ 8).toNat = [x] := by
  have := UInt8.toNat_lt x
  have e : ((x.toNat : Int) % 2 ^ 8).toNat = x.toNat := by omega
  rw [e]
  simp only [bytesBE, bytesLE, List.reverse_cons, List.reverse_nil, List.nil_append]
  rw [Nat.mod_eq_of_lt (by omega)]
  simp
end Go.Proofs.Ythcomfcbdlobpaa
