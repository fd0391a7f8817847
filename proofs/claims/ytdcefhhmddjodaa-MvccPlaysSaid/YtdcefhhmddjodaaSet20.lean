/-
  A store's entries: where a key is found, what an installed version makes of them, what is told of a chain; plain mathematics.
-/
import Derived.Test.YtdcefhhmddjodaaSet16
import Derived.Test.YtdcefhhmddjodaaSet18
import Derived.Test.YtdcefhhmddjodaaSet19
namespace Go.Proofs.Ytdcefhhmddjodaa
open Go.RowKit
set_option linter.unusedVariables false
set_option linter.unnecessarySimpa false
set_option linter.unusedSimpArgs false
set_option maxRecDepth 100000

theorem fAt_pos (L : List Im) (k : ByteArray) : ∀ ks : List ByteArray, fAt (ks.map (entOf L)) k = posK k ks
  | [] => rfl
  | x :: ks => by
    have ih := fAt_pos L k ks
    unfold fAt at ih ⊢
    rw [List.map_cons, List.takeWhile_cons]
    unfold posK
    have e : ltS (entOf L x).key k = ltK x k := rfl
    rw [e]
    by_cases h : ltK x k = true
    · rw [if_pos h, if_pos h, List.length_cons, ih]
    · rw [if_neg h, if_neg h]; rfl
theorem fAt_ents (L : List Im) (k : ByteArray) : fAt (entsM L) k = posK k (keysM L) := fAt_pos L k _
theorem fOk_ents (L : List Im) (k : ByteArray) : fOk (entsM L) k = (decide (posK k (keysM L) < (keysM L).length) && sameK ((keysM L).getD (posK k (keysM L)) ⟨#[]⟩) k) := by
  unfold fOk
  rw [fAt_ents, entsM_len]
  by_cases h : posK k (keysM L) < (keysM L).length
  · rw [ents_getD L h]; rfl
  · rw [decide_eq_false h, Bool.false_and, Bool.false_and]
theorem find_yes {L : List Im} {k : ByteArray} (h : fOk (entsM L) k = true) : fAt (entsM L) k < (entsM L).length ∧ (entsM L).getD (fAt (entsM L) k) en0 = ⟨k, chainOf k L⟩ := by
  rw [fOk_ents, Bool.and_eq_true, decide_eq_true_eq] at h
  obtain ⟨h1, h2⟩ := h
  rw [fAt_ents, entsM_len]
  refine ⟨h1, ?_⟩
  rw [ents_getD L h1, sameK_iff.1 h2]
  rfl
theorem find_no {L : List Im} {k : ByteArray} (h : fOk (entsM L) k = false) : k ∉ keysM L ∧ chainOf k L = [] := by
  have hn : k ∉ keysM L := fun hm => by
    have := posK_there (keys_rise L) ⟨k, hm, sameK_of rfl⟩
    rw [fOk_ents] at h
    rw [h] at this
    cases this
  exact ⟨hn, chain_none hn⟩

/-! One version more. -/
theorem ents_there {L : List Im} {m : Im} (h : fOk (entsM L) m.key = true) : entsM (L ++ [m]) = (entsM L).set (fAt (entsM L) m.key) ⟨m.key, chainOf m.key L ++ [m.v]⟩ := by
  have h' := h
  rw [fOk_ents] at h'
  have hk : keysM (L ++ [m]) = keysM L := by
    rw [keysM_snoc]
    unfold keyStep
    rw [if_pos h']
  rw [Bool.and_eq_true, decide_eq_true_eq] at h'
  obtain ⟨h1, h2⟩ := h'
  rw [fAt_ents]
  have hd := rise_apart (keys_rise L)
  refine List.ext_getElem (by rw [entsM_len, hk, List.length_set, entsM_len]) fun i hi1 hi2 => ?_
  rw [entsM_len, hk] at hi1
  have hg : (keysM L).getD (posK m.key (keysM L)) ⟨#[]⟩ = (keysM L)[posK m.key (keysM L)] := by rw [List.getD, List.getElem?_eq_getElem h1]; rfl
  rw [hg] at h2
  have h2 := sameK_iff.1 h2
  have e1 : (entsM (L ++ [m]))[i]'(by rw [entsM_len, hk]; exact hi1) = entOf (L ++ [m]) (keysM L)[i] := by
    unfold entsM
    simp only [hk, List.getElem_map]
  rw [e1, List.getElem_set]
  unfold entOf
  rw [chainOf_snoc]
  by_cases hip : posK m.key (keysM L) = i
  · subst hip
    rw [if_pos rfl, h2, if_pos (sameK_of rfl)]
  · rw [if_neg hip]
    have hne : (keysM L)[i] ≠ m.key := by
      rw [← h2]
      rcases Nat.lt_or_ge i (posK m.key (keysM L)) with h3 | h3
      · exact List.pairwise_iff_getElem.1 hd i _ hi1 h1 h3
      · exact fun e => List.pairwise_iff_getElem.1 hd _ i h1 hi1 (by omega) e.symm
    rw [sameK_no.2 (Ne.symm hne)]
    unfold entsM
    rw [List.getElem_map]
    rfl
theorem ents_more {L : List Im} {m : Im} (h : fOk (entsM L) m.key = false) : entsM (L ++ [m]) = (entsM L).take (fAt (entsM L) m.key) ++ [⟨m.key, [m.v]⟩] ++ (entsM L).drop (fAt (entsM L) m.key) := by
  obtain ⟨hn, hc⟩ := find_no h
  rw [fOk_ents] at h
  have hk : keysM (L ++ [m]) = (keysM L).take (posK m.key (keysM L)) ++ [m.key] ++ (keysM L).drop (posK m.key (keysM L)) := by
    rw [keysM_snoc]
    unfold keyStep
    rw [if_neg (by rw [h]; simp)]
  rw [fAt_ents]
  have key : ∀ ks : List ByteArray, (∀ x ∈ ks, x ∈ keysM L) → ks.map (entOf (L ++ [m])) = ks.map (entOf L) := fun ks hks => by
    refine List.map_congr_left fun x hx => ?_
    unfold entOf
    rw [chainOf_snoc, sameK_no.2 (fun e => hn (by rw [e]; exact hks x hx))]
    rfl
  have hm1 : [m.key].map (entOf (L ++ [m])) = [⟨m.key, [m.v]⟩] := by
    rw [List.map_singleton]
    unfold entOf
    rw [chainOf_snoc, if_pos (sameK_of rfl), hc]
    rfl
  unfold entsM
  rw [hk, List.map_append, List.map_append, hm1, key _ (fun x hx => List.mem_of_mem_take hx), key _ (fun x hx => List.mem_of_mem_drop hx), List.map_take, List.map_drop]

/-! What is told of a chain. -/
theorem atV_best (t : Nat) : ∀ (l : List Vr) (t0 : Nat) (r : Vr × Bool), risesB t0 l = true → r.1.time ≤ t0 →
    l.foldl (fun r v => if decide (v.time ≤ t) && decide (r.1.time < v.time) then (v, true) else r) r = match atV l t with | none => r | some v => (v, true)
  | [], t0, r, _, _ => rfl
  | v :: l, t0, r, h, hr => by
    simp only [risesB, Bool.and_eq_true, decide_eq_true_eq] at h
    obtain ⟨⟨h1, _⟩, h2⟩ := h
    rw [List.foldl_cons, atV]
    by_cases hv : v.time ≤ t
    · have hx : (decide (v.time ≤ t) && decide (r.1.time < v.time)) = true := by
        rw [decide_eq_true hv, decide_eq_true (show r.1.time < v.time by omega)]; rfl
      rw [hx, if_pos rfl, if_pos hv, atV_best t l v.time _ h2 (Nat.le_refl _)]
      cases atV l t <;> rfl
    · have hx : (decide (v.time ≤ t) && decide (r.1.time < v.time)) = false := by
        rw [decide_eq_false hv]; rfl
      rw [hx, if_neg (by simp), if_neg hv, atV_best t l v.time _ h2 (by omega)]
      cases atV l t <;> rfl
theorem best_at {L : List Im} (h : GoodL L) (k : ByteArray) (t : Nat) : bestOf k t L = match atV (chainOf k L) t with | none => (vr0, false) | some v => (v, true) := by
  rw [best_chain]
  exact atV_best t _ 0 _ (h.rise k) (Nat.zero_le _)
theorem lastOf_max (k : ByteArray) : ∀ L : List Im, (lastOf k L).1 = (chainOf k L).foldr (fun v r => max v.time r) 0
  | [] => rfl
  | m :: L => by
    have ih := lastOf_max k L
    have e : chainOf k (m :: L) = if sameK m.key k then m.v :: chainOf k L else chainOf k L := by
      unfold chainOf
      by_cases h : sameK m.key k = true <;> simp [h]
    rw [e]
    simp only [lastOf]
    by_cases h : sameK m.key k = true
    · rw [if_pos h, if_pos h, List.foldr_cons, ih]
    · rw [if_neg h, if_neg h, ih]
theorem max_end : ∀ (l : List Vr) (t : Nat), risesB t l = true → max t (l.foldr (fun v r => max v.time r) 0) = endT t l
  | [], t, _ => by simp [endT]
  | v :: l, t, h => by
    simp only [risesB, Bool.and_eq_true, decide_eq_true_eq] at h
    obtain ⟨⟨h1, _⟩, h2⟩ := h
    rw [List.foldr_cons, max_end l v.time h2]
    have := max_end l v.time h2
    show max t (endT v.time l) = endT v.time l
    omega
theorem endT_last : ∀ (l : List Vr) (t : Nat), l ≠ [] → endT t l = (l.getD (l.length - 1) vr0).time
  | [], t, h => absurd rfl h
  | [v], t, _ => rfl
  | v :: x :: l, t, _ => by
    have := endT_last (x :: l) v.time (by simp)
    rw [endT, this]
    rfl
theorem last_end {L : List Im} (h : GoodL L) (k : ByteArray) : (lastOf k L).1 = endT 0 (chainOf k L) := by
  have := max_end (chainOf k L) 0 (h.rise k)
  rw [lastOf_max]
  omega

/-! A store of whatever entries. -/
theorem flat_cons (e : En) (es : List En) : flatE (e :: es) = itsOf e ++ flatE es := by simp [flatE]
theorem flat_not {k : ByteArray} : ∀ {es : List En}, (∀ e ∈ es, e.key ≠ k) → chainOf k (flatE es) = []
  | [], _ => rfl
  | e :: es, h => by
    rw [flat_cons, chainOf_app, chainOf_its, sameK_no.2 (h e (by simp)), flat_not (fun x hx => h x (by simp [hx]))]
    rfl
theorem flat_in : ∀ {es : List En}, (es.map (·.key)).Pairwise (fun a b => a ≠ b) → ∀ e ∈ es, chainOf e.key (flatE es) = e.ch
  | [], _, e, he => by cases he
  | x :: es, hp, e, he => by
    rw [List.map_cons, List.pairwise_cons] at hp
    rw [flat_cons, chainOf_app, chainOf_its]
    rcases List.mem_cons.1 he with rfl | he
    · rw [if_pos (sameK_of rfl), flat_not (fun y hy e2 => hp.1 y.key (List.mem_map.2 ⟨y, hy, rfl⟩) e2.symm), List.append_nil]
    · rw [sameK_no.2 (hp.1 e.key (List.mem_map.2 ⟨e, he, rfl⟩)), flat_in hp.2 e he]
      rfl
theorem flat_keys : ∀ (n : Nat) (es : List En), es.length = n → Rise (es.map (·.key)) → (∀ e ∈ es, 0 < e.ch.length) → keysM (flatE es) = es.map (·.key)
  | 0, es, hn, _, _ => by rw [List.eq_nil_of_length_eq_zero hn]; rfl
  | n + 1, es, hn, hr, hc => by
    rcases List.eq_nil_or_concat es with rfl | ⟨l, k, rfl⟩
    · simp at hn
    · rw [List.concat_eq_append] at *
      rw [List.map_append] at hr ⊢
      have hr2 := List.pairwise_append.1 hr
      have ih := flat_keys n l (by simpa using hn) hr2.1 (fun x hx => hc x (by simp [hx]))
      have e : flatE (l ++ [k]) = flatE l ++ itsOf k := by simp [flatE]
      rw [e]
      unfold keysM at ih ⊢
      rw [List.foldl_append, ih]
      exact keys_its hr (fun x hx => hr2.2.2 x hx k.key (by simp)) (hc k (by simp))
theorem right_rise {es : List En} (h : rightE es = true) : Rise (es.map (·.key)) := by
  refine List.pairwise_iff_getElem.2 fun i j hi hj hij => ?_
  rw [List.length_map] at hi hj
  rw [List.getElem_map, List.getElem_map]
  have key : ∀ d a, a + d + 1 < es.length → ltS (es.getD a en0).key (es.getD (a + d + 1) en0).key = true := fun d => by
    induction d with
    | zero => intro a ha; exact lt_step h ha
    | succ d ih => intro a ha; exact ltK_trans (ih a (by omega)) (lt_step h (i := a + d + 1) (by omega))
  have := key (j - i - 1) i (by omega)
  rw [show i + (j - i - 1) + 1 = j by omega] at this
  rw [List.getD, List.getD, List.getElem?_eq_getElem hi, List.getElem?_eq_getElem hj] at this
  exact this
theorem right_mem {es : List En} (h : rightE es = true) : ∀ e ∈ es, 0 < e.ch.length ∧ risesB 0 e.ch = true ∧ e.ch.length ≤ 200 := fun e he => by
  obtain ⟨i, hi, rfl⟩ := List.mem_iff_getElem.1 he
  have h2 := rightE_true.1 h i hi
  unfold entOk at h2
  rw [List.getD, List.getElem?_eq_getElem hi] at h2
  simp only [Bool.and_eq_true, Option.getD_some, decide_eq_true_eq] at h2
  obtain ⟨⟨h3, h4⟩, _⟩ := h2
  unfold rightB at h4
  rw [Bool.and_eq_true, decide_eq_true_eq] at h4
  exact ⟨h3, h4.1, h4.2⟩
theorem ents_all {es : List En} (h : rightE es = true) : entsM (flatE es) = es := by
  have hr := right_rise h
  have hk := flat_keys _ es rfl hr (fun e he => (right_mem h e he).1)
  unfold entsM
  rw [hk, List.map_map]
  conv => rhs; rw [← List.map_id es]
  refine List.map_congr_left fun e he => ?_
  show entOf (flatE es) e.key = e
  unfold entOf
  rw [flat_in (rise_apart hr) e he]
theorem good_flat {es : List En} (h : rightE es = true) (ho : OkE es) (hs : shortKV es) : GoodL (flatE es) := by
  have hm : ∀ m ∈ flatE es, ∃ e ∈ es, m.key = e.key ∧ m.v ∈ e.ch := fun m hm => by
    unfold flatE at hm
    obtain ⟨e, he, hm⟩ := List.mem_flatMap.1 hm
    unfold itsOf at hm
    obtain ⟨v, hv, rfl⟩ := List.mem_map.1 hm
    exact ⟨e, he, rfl, hv⟩
  have hc : ∀ k, chainOf k (flatE es) = [] ∨ ∃ e ∈ es, chainOf k (flatE es) = e.ch := fun k => by
    by_cases hx : ∃ e ∈ es, e.key = k
    · obtain ⟨e, he, rfl⟩ := hx
      exact .inr ⟨e, he, flat_in (rise_apart (right_rise h)) e he⟩
    · exact .inl (flat_not fun e he hk => hx ⟨e, he, hk⟩)
  refine ⟨fun m h1 => ?_, fun m h1 => ?_, fun m h1 => ?_, fun k => ?_, fun k => ?_⟩
  · obtain ⟨e, he, h2, _⟩ := hm m h1
    rw [h2]; exact (hs e he).1
  · obtain ⟨e, he, _, h3⟩ := hm m h1
    exact (hs e he).2 _ h3
  · obtain ⟨e, he, _, h3⟩ := hm m h1
    exact (ho e he).2 _ h3
  · rcases hc k with e | ⟨e, he, e2⟩
    · rw [e]; rfl
    · rw [e2]; exact (right_mem h e he).2.1
  · rcases hc k with e | ⟨e, he, e2⟩
    · rw [e]; exact Nat.zero_le _
    · rw [e2]; exact (right_mem h e he).2.2
end Go.Proofs.Ytdcefhhmddjodaa
