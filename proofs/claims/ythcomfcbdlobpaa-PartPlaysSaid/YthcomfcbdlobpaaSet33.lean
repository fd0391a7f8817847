/-
  Joined: MvcGood, MvcFlat, ChnPRight.
-/
import Derived.Test.YthcomfcbdlobpaaSet30
import Derived.Test.YthcomfcbdlobpaaSet32
import Derived.Test.YthcomfcbdlobpaaSet28
namespace Go.Proofs.Ythcomfcbdlobpaa
open Go.RowKit
set_option linter.unusedVariables false
set_option linter.unnecessarySimpa false
set_option linter.unusedSimpArgs false
set_option maxRecDepth 100000

theorem sameK_iff {a b : ByteArray} : sameK a b = true ↔ a = b := by
  constructor
  · intro h
    have := sameK_eq h
    rw [Lib.toList_data, Lib.toList_data] at this
    exact c_ba_ext this
  · rintro rfl; exact sameK_of rfl
theorem sameK_no {a b : ByteArray} : sameK a b = false ↔ a ≠ b := by rw [← Bool.not_eq_true, sameK_iff]
theorem ltK_ne {a b : ByteArray} (h : ltK a b = true) : a ≠ b := fun e => by rw [e, ltK_irr] at h; cases h

/-! The last time, and the chain. -/
theorem lastOf_chain (k : ByteArray) : ∀ L : List Im, (lastOf k L).2 = (chainOf k L).length ∧ ∀ v ∈ chainOf k L, v.time ≤ (lastOf k L).1
  | [] => ⟨rfl, fun v h => by cases h⟩
  | m :: L => by
    obtain ⟨h1, h2⟩ := lastOf_chain k L
    have e : chainOf k (m :: L) = if sameK m.key k then m.v :: chainOf k L else chainOf k L := by
      unfold chainOf
      by_cases h : sameK m.key k = true <;> simp [h]
    rw [e]
    simp only [lastOf]
    by_cases h : sameK m.key k = true
    · rw [if_pos h, if_pos h]
      refine ⟨by simp [h1], fun v hv => ?_⟩
      rcases List.mem_cons.1 hv with rfl | hv
      · exact Nat.le_max_left _ _
      · exact Nat.le_trans (h2 v hv) (Nat.le_max_right _ _)
    · rw [if_neg h, if_neg h]
      exact ⟨h1, h2⟩
theorem endT_le {n : Nat} : ∀ (l : List Vr) (t : Nat), t ≤ n → (∀ v ∈ l, v.time ≤ n) → endT t l ≤ n
  | [], t, h, _ => h
  | v :: l, t, _, h => endT_le l v.time (h v (by simp)) (fun x hx => h x (by simp [hx]))
theorem rises_snoc : ∀ (l : List Vr) (t : Nat) (v : Vr), risesB t (l ++ [v]) = true ↔ risesB t l = true ∧ endT t l < v.time ∧ (v.gone = true → v.val.size = 0)
  | [], t, v => by
    simp only [List.nil_append, risesB, endT, Bool.and_true, Bool.and_eq_true, decide_eq_true_eq, Bool.or_eq_true, Bool.not_eq_true', true_and]
    cases v.gone <;> simp
  | x :: l, t, v => by
    simp only [List.cons_append, risesB, Bool.and_eq_true, rises_snoc l x.time v, endT, and_assoc]

/-- What was installed. -/
structure GoodL (L : List Im) : Prop where
  key : ∀ m ∈ L, m.key.size ≤ 100
  val : ∀ m ∈ L, m.v.val.size ≤ 500
  time : ∀ m ∈ L, m.v.time < 18446744073709551616
  rise : ∀ k, risesB 0 (chainOf k L) = true
  many : ∀ k, (chainOf k L).length ≤ 200
theorem good_nil : GoodL [] := ⟨fun m h => (by cases h), fun m h => (by cases h), fun m h => (by cases h), fun k => rfl, fun k => Nat.zero_le _⟩
theorem good_ins {L : List Im} {m : Im} (h : GoodL L) (hm : m.v.time < 18446744073709551616) : GoodL (insM L m).1 := by
  unfold insM
  split
  · exact h
  rename_i h1
  split
  · exact h
  rename_i h2
  split
  · exact h
  rename_i h3
  split
  · exact h
  rename_i h4
  simp only [Bool.or_eq_true, decide_eq_true_eq, not_or] at h1
  have hb : m.v.gone = true → m.v.val.size = 0 := fun hg => by
    unfold badIm at h2
    rw [hg, Bool.true_and, Bool.or_eq_true, not_or] at h2
    have h5 : m.v.val.toList = [] := by simpa using h2.2
    rw [Lib.toList_data] at h5
    have := c_size m.v.val
    rw [h5] at this
    exact this.symm
  have hlc := lastOf_chain m.key L
  refine ⟨fun x hx => ?_, fun x hx => ?_, fun x hx => ?_, fun k => ?_, fun k => ?_⟩
  · rcases List.mem_append.1 hx with hx | hx
    · exact h.key x hx
    · rw [List.mem_singleton.1 hx]; omega
  · rcases List.mem_append.1 hx with hx | hx
    · exact h.val x hx
    · rw [List.mem_singleton.1 hx]; omega
  · rcases List.mem_append.1 hx with hx | hx
    · exact h.time x hx
    · rw [List.mem_singleton.1 hx]; exact hm
  · rw [chainOf_snoc]
    split
    · rename_i hk
      rw [← sameK_iff.1 hk]
      exact (rises_snoc _ _ _).2 ⟨h.rise _, by have := endT_le (n := (lastOf m.key L).1) (chainOf m.key L) 0 (Nat.zero_le _) hlc.2; omega, hb⟩
    · exact h.rise k
  · rw [chainOf_snoc]
    split
    · rename_i hk
      rw [← sameK_iff.1 hk, List.length_append, List.length_singleton]
      have := hlc.1
      omega
    · exact h.many k

/-! Keys and their chains. -/
theorem ents_getD (L : List Im) {i : Nat} (h : i < (keysM L).length) : (entsM L).getD i en0 = entOf L ((keysM L).getD i ⟨#[]⟩) := by
  unfold entsM
  rw [List.getD, List.getElem?_map, List.getD, List.getElem?_eq_getElem h]
  rfl
theorem chain_some {L : List Im} {k : ByteArray} (h : k ∈ keysM L) : 0 < (chainOf k L).length := by
  obtain ⟨m, hm, rfl⟩ := keysM_from L k h
  unfold chainOf
  rw [List.length_map]
  exact List.length_pos_of_mem (List.mem_filter.2 ⟨hm, sameK_of rfl⟩)
theorem keys_mem {L : List Im} {m : Im} (h : m ∈ L) : m.key ∈ keysM L := by
  obtain ⟨x, hx, hs⟩ := keys_have L m h
  rw [← sameK_iff.1 hs]
  exact hx
theorem ltK_data (a b : ByteArray) : ltK a b = ltS a b := rfl
theorem ents_right {L : List Im} (h : GoodL L) : rightE (entsM L) = true := by
  refine rightE_true.2 fun i hi => ?_
  rw [entsM_len] at hi
  have hmem : (keysM L).getD i ⟨#[]⟩ ∈ keysM L := by rw [List.getD, List.getElem?_eq_getElem hi]; exact List.getElem_mem _
  unfold entOk
  rw [ents_getD L hi]
  simp only [entOf, Bool.and_eq_true]
  refine ⟨⟨decide_eq_true (chain_some hmem), ?_⟩, ?_⟩
  · unfold rightB
    rw [h.rise, Bool.true_and, decide_eq_true_eq]
    exact h.many _
  · rcases Nat.eq_zero_or_pos i with rfl | h0
    · rfl
    · rw [ents_getD L (show i - 1 < (keysM L).length by omega), decide_eq_false (by omega), Bool.false_or]
      simp only [entOf]
      have hr := List.pairwise_iff_getElem.1 (keys_rise L) (i - 1) i (by omega) hi (by omega)
      unfold ltS eqS
      rw [lb_not]
      rw [List.getD, List.getD, List.getElem?_eq_getElem hi, List.getElem?_eq_getElem (show i - 1 < (keysM L).length by omega)]
      exact hr
theorem ents_mem {L : List Im} {e : En} (h : e ∈ entsM L) : e.key ∈ keysM L ∧ e.ch = chainOf e.key L := by
  unfold entsM at h
  obtain ⟨k, hk, rfl⟩ := List.mem_map.1 h
  exact ⟨hk, rfl⟩
theorem keys_good {L : List Im} (h : GoodL L) : ∀ k ∈ keysM L, k.size ≤ 100 := fun k hk => by
  obtain ⟨m, hm, rfl⟩ := keysM_from L k hk
  exact h.key m hm
theorem chain_good {L : List Im} (h : GoodL L) (k : ByteArray) : ∀ v ∈ chainOf k L, v.val.size ≤ 500 ∧ v.time < 18446744073709551616 := fun v hv => by
  obtain ⟨m, hm, rfl⟩ := chainOf_mem hv
  exact ⟨h.val m hm, h.time m hm⟩
def shortKV (es : List En) : Prop := ∀ e ∈ es, e.key.size ≤ 100 ∧ ∀ v ∈ e.ch, v.val.size ≤ 500
theorem ents_short {L : List Im} (h : GoodL L) : shortKV (entsM L) := fun e he => by
  obtain ⟨h1, h2⟩ := ents_mem he
  exact ⟨keys_good h _ h1, fun v hv => (chain_good h e.key v (by rw [← h2]; exact hv)).1⟩
theorem allN_le {n : Nat} : ∀ l : List Vr, (∀ v ∈ l, v.val.size ≤ n) → allN l ≤ n * l.length
  | [], _ => by simp [allN]
  | v :: l, h => by
    have h1 := h v (by simp)
    have h2 := allN_le l (fun x hx => h x (by simp [hx]))
    unfold allN at h2 ⊢
    rw [List.map_cons, List.sum_cons, List.length_cons, Nat.mul_succ]
    omega
theorem ents_ok {L : List Im} (h : GoodL L) (hl : L.length ≤ 60) : OkE (entsM L) := fun e he => by
  obtain ⟨_, h2⟩ := ents_mem he
  have hc := chain_good h e.key
  rw [← h2] at hc
  refine ⟨?_, fun v hv => (hc v hv).2⟩
  have h3 := allN_le e.ch (fun v hv => (hc v hv).1)
  have h4 := chainOf_len e.key L
  rw [← h2] at h4
  have : 500 * e.ch.length ≤ 500 * 60 := Nat.mul_le_mul_left _ (by omega)
  omega
theorem chainB_le {l : List Vr} (h : ∀ v ∈ l, v.val.size ≤ 500 ∧ v.time < 18446744073709551616) (hl : l.length ≤ 1000) : (chainB l).length ≤ 10 + 551 * l.length := by
  have h1 := versB_len 0 [] l (by simp) h
  have u := ub_len10 (n := l.length) (by omega)
  unfold chainB
  rw [List.length_append]
  omega
theorem ents_small {L : List Im} (h : GoodL L) (hl : L.length ≤ 60) : SmallE (entsM L) := fun e he => by
  obtain ⟨h1, h2⟩ := ents_mem he
  have hc := chain_good h e.key
  rw [← h2] at hc
  have h4 := chainOf_len e.key L
  rw [← h2] at h4
  have h5 := chainB_le hc (by omega)
  have h6 := keys_good h _ h1
  exact ⟨by omega, by have : 551 * e.ch.length ≤ 551 * 60 := Nat.mul_le_mul_left _ (by omega)
                      omega, fun v hv => by have := (hc v hv).1; omega⟩
/-- Each version is one key's. -/
theorem chains_sum : ∀ (L : List Im) (ks : List ByteArray), ks.Pairwise (fun a b => a ≠ b) → (ks.map fun k => (chainOf k L).length).sum ≤ L.length
  | [], ks, _ => by
    have : ∀ ks : List ByteArray, (ks.map fun k => (chainOf k []).length).sum = 0 := by
      intro ks
      induction ks with
      | nil => rfl
      | cons k ks ih => rw [List.map_cons, List.sum_cons, ih]; rfl
    rw [this]; exact Nat.zero_le _
  | m :: L, ks, hp => by
    have ih := chains_sum L ks hp
    have e : ∀ k, (chainOf k (m :: L)).length = (if sameK m.key k then 1 else 0) + (chainOf k L).length := fun k => by
      unfold chainOf
      by_cases h : sameK m.key k = true <;> simp [h]
      omega
    have hone : ∀ ks : List ByteArray, ks.Pairwise (fun a b => a ≠ b) → (ks.map fun k => if sameK m.key k then 1 else 0).sum ≤ 1 := by
      intro ks
      induction ks with
      | nil => intro _; exact Nat.zero_le _
      | cons k ks ih =>
        intro hp
        obtain ⟨h1, h2⟩ := List.pairwise_cons.1 hp
        rw [List.map_cons, List.sum_cons]
        by_cases h : sameK m.key k = true
        · rw [if_pos h]
          have : (ks.map fun k => if sameK m.key k then 1 else 0).sum = 0 := by
            have hno : ∀ x ∈ ks, sameK m.key x = false := fun x hx => sameK_no.2 (by rw [sameK_iff.1 h]; exact h1 x hx)
            clear ih h1 h2 hp
            induction ks with
            | nil => rfl
            | cons y ks ih2 =>
              rw [List.map_cons, List.sum_cons, hno y (by simp), ih2 (fun x hx => hno x (by simp [hx]))]
              rfl
          omega
        · rw [if_neg h]
          have := ih h2
          omega
    have hsum : (ks.map fun k => (chainOf k (m :: L)).length).sum = (ks.map fun k => if sameK m.key k then 1 else 0).sum + (ks.map fun k => (chainOf k L).length).sum := by
      clear ih hp
      induction ks with
      | nil => rfl
      | cons k ks ih => simp only [List.map_cons, List.sum_cons] at ih ⊢; rw [ih, e]; omega
    rw [hsum, List.length_cons]
    have := hone ks hp
    omega
theorem entsB_le : ∀ (es : List En) (p : List UInt8), p.length ≤ 100 → (∀ e ∈ es, e.key.size ≤ 100 ∧ e.ch.length ≤ 500 ∧ ∀ v ∈ e.ch, v.val.size ≤ 500 ∧ v.time < 18446744073709551616) → (entsB p es).length ≤ 140 * es.length + 551 * (es.map fun e => e.ch.length).sum
  | [], p, _, _ => by simp [entsB]
  | e :: es, p, hp, h => by
    obtain ⟨h1, h2, h3⟩ := h e (by simp)
    have h4 := entsB_le es e.key.data.toList (by rw [c_size]; exact h1) (fun x hx => h x (by simp [hx]))
    have h5 := chainB_le h3 (by omega)
    have hk := c_size e.key
    have hpl := pre_le p e.key.data.toList
    have u1 := ub_len10 (n := pre p e.key.data.toList) (by omega)
    have u2 := txtB_len (e.key.data.toList.drop (pre p e.key.data.toList)) (by rw [List.length_drop]; omega)
    have u3 := txtB_len (chainB e.ch) (by omega)
    rw [List.length_drop] at u2
    rw [entsB, List.length_append, List.length_cons, List.map_cons, List.sum_cons]
    unfold entB
    rw [List.length_append, List.length_append]
    omega
theorem rise_apart {l : List ByteArray} (h : Rise l) : l.Pairwise (fun a b => a ≠ b) := h.imp fun h => ltK_ne h
theorem ents_inside {L : List Im} (h : GoodL L) (hl : L.length ≤ 60) : (insideB (entsM L)).length ≤ 60000 := by
  have hs := chains_sum L (keysM L) (rise_apart (keys_rise L))
  have hk := keys_len L
  have h1 := entsB_le (entsM L) [] (by simp) (fun e he => by
    obtain ⟨h1, h2⟩ := ents_mem he
    have h4 := chainOf_len e.key L
    rw [← h2] at h4
    exact ⟨keys_good h _ h1, by omega, by rw [h2]; exact chain_good h e.key⟩)
  have e : ((entsM L).map fun e => e.ch.length).sum = ((keysM L).map fun k => (chainOf k L).length).sum := by
    unfold entsM
    rw [List.map_map]
    rfl
  rw [e, entsM_len] at h1
  have u := ub_len10 (n := (entsM L).length) (by rw [entsM_len]; omega)
  unfold insideB
  rw [List.length_append]
  omega
end Go.Proofs.Ythcomfcbdlobpaa

namespace Go.Proofs.Ythcomfcbdlobpaa
open Go.RowKit
set_option linter.unusedVariables false
set_option linter.unnecessarySimpa false
set_option linter.unusedSimpArgs false
set_option maxRecDepth 100000

def itsOf (e : En) : List Im := e.ch.map fun v => ⟨e.key, v⟩
def flatE (es : List En) : List Im := es.flatMap itsOf
theorem chainOf_app (k : ByteArray) (A B : List Im) : chainOf k (A ++ B) = chainOf k A ++ chainOf k B := by simp [chainOf]
theorem chainOf_its (k : ByteArray) (e : En) : chainOf k (itsOf e) = if sameK e.key k then e.ch else [] := by
  unfold chainOf itsOf
  obtain ⟨key, ch⟩ := e
  by_cases h : sameK key k = true
  · simp only [h, if_true]
    induction ch with
    | nil => rfl
    | cons v ch ih => simp [h] at ih ⊢; exact ih
  · simp only [h]
    induction ch with
    | nil => rfl
    | cons v ch ih => simp [h] at ih ⊢
theorem chain_none {k : ByteArray} {L : List Im} (h : k ∉ keysM L) : chainOf k L = [] := by
  unfold chainOf
  rw [List.filter_eq_nil_iff.2]
  · rfl
  · intro m hm hs
    exact h (by rw [← sameK_iff.1 hs]; exact keys_mem hm)
open Classical in
theorem chain_flat (L : List Im) (k : ByteArray) : ∀ ks : List ByteArray, ks.Pairwise (fun a b => a ≠ b) → chainOf k (flatE (ks.map (entOf L))) = if k ∈ ks then chainOf k L else []
  | [], _ => by simp [flatE, chainOf]
  | x :: ks, hp => by
    obtain ⟨h1, h2⟩ := List.pairwise_cons.1 hp
    have ih := chain_flat L k ks h2
    have e : flatE ((x :: ks).map (entOf L)) = itsOf (entOf L x) ++ flatE (ks.map (entOf L)) := by simp [flatE]
    have hi : chainOf k (itsOf (entOf L x)) = if sameK x k then chainOf x L else [] := chainOf_its k _
    rw [e, chainOf_app, ih, hi]
    by_cases h : x = k
    · subst h
      have hn : x ∉ ks := fun hm => h1 x hm rfl
      rw [if_pos (sameK_of rfl), if_neg hn, if_pos (by simp), List.append_nil]
    · have hs : sameK x k = false := sameK_no.2 h
      rw [hs]
      simp only [Bool.false_eq_true, if_false, List.nil_append, List.mem_cons]
      by_cases hm : k ∈ ks
      · rw [if_pos hm, if_pos (.inr hm)]
      · rw [if_neg hm, if_neg (by rintro (h3 | h3); exact h h3.symm; exact hm h3)]
theorem chain_same (L : List Im) (k : ByteArray) : chainOf k (flatE (entsM L)) = chainOf k L := by
  unfold entsM
  rw [chain_flat L k _ (rise_apart (keys_rise L))]
  split
  · rfl
  · rename_i h; exact (chain_none h).symm
theorem posK_all {k : ByteArray} : ∀ {l : List ByteArray}, (∀ x ∈ l, ltK x k = true) → posK k l = l.length
  | [], _ => rfl
  | x :: l, h => by
    unfold posK
    rw [if_pos (h x (by simp)), posK_all (fun y hy => h y (by simp [hy])), List.length_cons]
theorem keyStep_new {l : List ByteArray} {k : ByteArray} (h : ∀ x ∈ l, ltK x k = true) : keyStep l k = l ++ [k] := by
  unfold keyStep
  rw [posK_all h, decide_eq_false (Nat.lt_irrefl _), Bool.false_and, if_neg (by simp), List.take_length, List.drop_length, List.append_nil]
theorem keyStep_same {l : List ByteArray} {k : ByteArray} (hr : Rise l) (h : k ∈ l) : keyStep l k = l := by
  unfold keyStep
  rw [if_pos (posK_there hr ⟨k, h, sameK_of rfl⟩)]
theorem keys_its {l : List ByteArray} {e : En} (hr : Rise (l ++ [e.key])) (h : ∀ x ∈ l, ltK x e.key = true) (h0 : 0 < e.ch.length) : (itsOf e).foldl (fun l m => keyStep l m.key) l = l ++ [e.key] := by
  obtain ⟨key, ch⟩ := e
  unfold itsOf
  simp only at hr h h0 ⊢
  cases ch with
  | nil => simp at h0
  | cons v ch =>
    rw [List.map_cons, List.foldl_cons, keyStep_new h]
    clear h0
    induction ch with
    | nil => rfl
    | cons x ch ih => rw [List.map_cons, List.foldl_cons, keyStep_same hr (by simp), ih]
theorem keys_flat (L : List Im) : ∀ (n : Nat) (ks : List ByteArray), ks.length = n → Rise ks → (∀ k ∈ ks, 0 < (chainOf k L).length) → keysM (flatE (ks.map (entOf L))) = ks
  | 0, ks, hn, _, _ => by rw [List.eq_nil_of_length_eq_zero hn]; rfl
  | n + 1, ks, hn, hr, hc => by
    rcases List.eq_nil_or_concat ks with rfl | ⟨l, k, rfl⟩
    · simp at hn
    · rw [List.concat_eq_append] at *
      have hr2 := List.pairwise_append.1 hr
      have ih := keys_flat L n l (by simpa using hn) hr2.1 (fun x hx => hc x (by simp [hx]))
      have e : flatE ((l ++ [k]).map (entOf L)) = flatE (l.map (entOf L)) ++ itsOf (entOf L k) := by simp [flatE]
      rw [e]
      unfold keysM at ih ⊢
      rw [List.foldl_append, ih]
      exact keys_its (e := entOf L k) hr (fun x hx => hr2.2.2 x hx k (by simp)) (hc k (by simp))
theorem ents_flat (L : List Im) : entsM (flatE (entsM L)) = entsM L := by
  have hk : keysM (flatE (entsM L)) = keysM L := by
    unfold entsM
    exact keys_flat L _ _ rfl (keys_rise L) (fun k hk => chain_some hk)
  unfold entsM at hk ⊢
  rw [hk]
  refine List.map_congr_left fun k _ => ?_
  have := chain_same L k
  unfold entsM at this
  unfold entOf at this ⊢
  rw [this]
def bestV (t : Nat) (l : List Vr) : Vr × Bool := l.foldl (fun r v => if decide (v.time ≤ t) && decide (r.1.time < v.time) then (v, true) else r) (vr0, false)
theorem best_chain (k : ByteArray) (t : Nat) (L : List Im) : bestOf k t L = bestV t (chainOf k L) := by
  unfold bestOf bestV
  suffices ∀ (L : List Im) (r : Vr × Bool), L.foldl (bestStep k t) r = (chainOf k L).foldl (fun r v => if decide (v.time ≤ t) && decide (r.1.time < v.time) then (v, true) else r) r from this L _
  intro L
  induction L with
  | nil => intro r; rfl
  | cons m L ih =>
    intro r
    have e : chainOf k (m :: L) = if sameK m.key k then m.v :: chainOf k L else chainOf k L := by
      unfold chainOf
      by_cases h : sameK m.key k = true <;> simp [h]
    rw [List.foldl_cons, ih, e]
    unfold bestStep
    by_cases h : sameK m.key k = true
    · rw [if_pos h, List.foldl_cons, h, Bool.true_and]
    · rw [if_neg h]
      simp [h]
theorem best_flat (L : List Im) (k : ByteArray) (t : Nat) : bestOf k t (flatE (entsM L)) = bestOf k t L := by rw [best_chain, best_chain, chain_same]
end Go.Proofs.Ythcomfcbdlobpaa

namespace Go.Proofs.Ythcomfcbdlobpaa
open Go.RowKit
set_option linter.unusedVariables false
set_option linter.unnecessarySimpa false
set_option linter.unusedSimpArgs false
set_option maxRecDepth 100000

theorem okAt_step {zs : List Vr} {i : Nat} (h : ∀ j, j < i → okAt 0 zs j) (hi : okAt 0 zs i) : ∀ j, j < i + 1 → okAt 0 zs j := fun j hj => by
  rcases Nat.lt_or_ge j i with h1 | h1
  · exact h j h1
  · have : j = i := by omega
    rw [this]; exact hi
theorem not_right {zs : List Vr} {i : Nat} (hi : i < zs.length) (h : ¬ okAt 0 zs i) : rightB zs = false := by
  unfold rightB
  have : risesB 0 zs = false := by
    rw [← Bool.not_eq_true]; intro h2; exact h ((rises_iff zs 0).1 h2 i hi)
  rw [this, Bool.false_and]
/-- A version in a slice, in a world where it stands yet. -/
theorem ver_at {w wx : World} {a : Option Addr} {len cap : Nat} {zs : List Vr} (h : IsVers w a len cap zs) (hb : Below w.heap.size w wx) {i : Nat} (hi : i < len) :
    ∃ b off, a = some ⟨b, off, none⟩ ∧ b < w.heap.size ∧ (zs.getD i vr0).time < 18446744073709551616 ∧ wx.cell? ⟨b, off + i * 3, none⟩ = some (.int .u64 ((zs.getD i vr0).time : Int)) ∧ wx.cell? ⟨b, off + i * 3 + 1, none⟩ = some (.bool (zs.getD i vr0).gone) ∧ wx.cell? ⟨b, off + i * 3 + 2, none⟩ = some (.string (zs.getD i vr0).val) := by
  obtain ⟨b, off, ha, hbl, h1, _, h2, h3, h4⟩ := h.1.2 i hi
  exact ⟨b, off, ha, hbl, h1, (hb.cell (p := ⟨b, off + i * 3, none⟩) hbl).trans h2, (hb.cell (p := ⟨b, off + i * 3 + 1, none⟩) hbl).trans h3, (hb.cell (p := ⟨b, off + i * 3 + 2, none⟩) hbl).trans h4⟩

end Go.Proofs.Ythcomfcbdlobpaa
