/-
  Joined: RegionG, RegionT, RegionL.
-/
import Derived.Test.YtbhlgceicfjncaaSet22
import Derived.Test.YtbhlgceicfjncaaSet23
namespace Go.Proofs.Ytbhlgceicfjncaa
open Go.RowKit
set_option linter.unusedVariables false
set_option linter.unnecessarySimpa false
set_option linter.unusedSimpArgs false
set_option maxRecDepth 100000

section
variable {P : Program} {ops : Array Oper} {md : Region.Mode}

/-- The region's form: an operation waits for those ahead of it alone, for each whose slot it reads, and for its guard; no slot is written twice. -/
def flowGB (md : Region.Mode) (ops : Array Oper) (outer : List Tmp) : Bool :=
  outer.all (fun t => !ops.any fun o => o.dst == some t) &&
  (List.range ops.size).all fun i => match ops[i]? with
    | none => false
    | some o => o.after.all (fun e => !Region.binds md e || decide (e.on < i)) &&
      (o.looksAt ops).all (fun t => outer.contains t || o.after.any fun e => Region.binds md e && ((ops[e.on]?).bind (·.dst) == some t)) &&
      (match o.dst with
        | none => true
        | some d => (List.range ops.size).all fun j => j == i || !((ops[j]?).bind (·.dst) == some d)) &&
      (match o.guard with
        | none => true
        | some (g, _) => o.after.any fun e => Region.binds md e && e.on == g)
/-- The guards' slots, and what they ask. -/
def guardsB (gs : List (Tmp × Bool)) (ops : Array Oper) : Bool :=
  ops.all fun o => match o.guard with
    | none => true
    | some (g, b) => match (ops[g]?).bind (·.dst) with
      | none => false
      | some d => gs.contains (d, b)

structure FlowG (md : Region.Mode) (ops : Array Oper) (outer : List Tmp) : Prop where
  out : ∀ t ∈ outer, ∀ (j : Nat) (o : Oper), ops[j]? = some o → o.dst ≠ some t
  down : ∀ (i : Nat) (o : Oper), ops[i]? = some o → ∀ e ∈ o.after, Region.binds md e = true → e.on < i
  reads : ∀ (i : Nat) (o : Oper), ops[i]? = some o → ∀ t ∈ o.looksAt ops, t ∈ outer ∨ ∃ e ∈ o.after, Region.binds md e = true ∧ ∃ o', ops[e.on]? = some o' ∧ o'.dst = some t
  once : ∀ (i j : Nat) (o o' : Oper) (d : Tmp), ops[i]? = some o → ops[j]? = some o' → o.dst = some d → o'.dst = some d → i = j
  guard : ∀ (i : Nat) (o : Oper), ops[i]? = some o → ∀ g b, o.guard = some (g, b) → ∃ e ∈ o.after, Region.binds md e = true ∧ e.on = g

theorem flowG_of {outer : List Tmp} (h : flowGB md ops outer = true) : FlowG md ops outer := by
  unfold flowGB at h
  simp only [Bool.and_eq_true, List.all_eq_true, List.mem_range] at h
  obtain ⟨h0, h1⟩ := h
  have at_ : ∀ (i : Nat) (o : Oper), ops[i]? = some o → (((o.after.all (fun e => !Region.binds md e || decide (e.on < i))) = true ∧
      ((o.looksAt ops).all (fun t => outer.contains t || o.after.any fun e => Region.binds md e && ((ops[e.on]?).bind (·.dst) == some t))) = true) ∧
      (match o.dst with
        | none => true
        | some d => (List.range ops.size).all fun j => j == i || !((ops[j]?).bind (·.dst) == some d)) = true) ∧
      (match o.guard with
        | none => true
        | some (g, _) => o.after.any fun e => Region.binds md e && e.on == g) = true := by
    intro i o ho
    have hlt : i < ops.size := (Array.getElem?_eq_some_iff.1 ho).1
    have := h1 i hlt
    simpa only [ho, Bool.and_eq_true, List.all_eq_true] using this
  refine ⟨?_, ?_, ?_, ?_, ?_⟩
  · intro t ht j o ho hd
    have := h0 t ht
    rw [Bool.not_eq_true', ← Bool.not_eq_true, Array.any_eq_true] at this
    obtain ⟨hlt, he⟩ := Array.getElem?_eq_some_iff.1 ho
    exact this ⟨j, hlt, by rw [he, hd]; simp⟩
  · intro i o ho e he hb
    have := (at_ i o ho).1.1.1
    rw [Array.all_eq_true_iff_forall_mem] at this
    simpa [hb] using this e he
  · intro i o ho t ht
    have h3 := (at_ i o ho).1.1.2
    rw [List.all_eq_true] at h3
    have h4 := h3 t ht
    rw [Bool.or_eq_true] at h4
    rcases h4 with h4 | h4
    · exact .inl (by simpa using h4)
    · rw [Array.any_eq_true] at h4
      obtain ⟨k, hk, h5⟩ := h4
      rw [Bool.and_eq_true] at h5
      refine .inr ⟨o.after[k], Array.getElem_mem hk, h5.1, ?_⟩
      have h6 := h5.2
      cases hq : ops[o.after[k].on]? with
      | none => rw [hq] at h6; simp at h6
      | some o' => rw [hq] at h6; exact ⟨o', rfl, by simpa using h6⟩
  · intro i j o o' d ho ho' hd hd'
    have h3 := (at_ i o ho).1.2
    rw [hd] at h3
    simp only [List.all_eq_true, List.mem_range] at h3
    have h4 := h3 j (Array.getElem?_eq_some_iff.1 ho').1
    rw [ho'] at h4
    simp [hd'] at h4
    exact h4.symm
  · intro i o ho g b hg
    have h3 := (at_ i o ho).2
    rw [hg] at h3
    simp only at h3
    rw [Array.any_eq_true] at h3
    obtain ⟨k, hk, h5⟩ := h3
    rw [Bool.and_eq_true, beq_iff_eq] at h5
    exact ⟨o.after[k], Array.getElem_mem hk, h5.1, h5.2⟩

variable {w0 : World} {a0 : Act} {S : Nat → Value → World → Prop} {outer : List Tmp} {Q : Exit → Act → World → Prop}

theorem ready_nilG (hf : FlowG md ops outer) {listed : Array Bool} (hsz : listed.size = ops.size) (h : Region.ready md ops listed = []) : ∀ i, i < ops.size → listed.getD i false = true := by
  intro i
  induction i using Nat.strongRecOn with
  | _ i ih =>
    intro hi
    cases hl : listed.getD i true with
    | true =>
      rw [Array.getD_eq_getD_getElem?, Array.getElem?_eq_getElem (by omega)] at hl ⊢
      simpa using hl
    | false =>
      have ho : ops[i]? = some ops[i] := Array.getElem?_eq_getElem hi
      have : i ∈ Region.ready md ops listed := mem_ready.2 ⟨hl, ops[i], ho, fun e he hb => ih e.on (hf.down i _ ho e he hb) (by have := hf.down i _ ho e he hb; omega)⟩
      rw [h] at this
      cases this

theorem wpAny_flowG (hf : FlowG md ops outer) (gs : List (Tmp × Bool)) (hgs : guardsB gs ops = true) (hgv : ∀ x ∈ gs, ∀ v w, S x.1 v w → v = .bool x.2)
    (stable : ∀ t v w w', S t v w → Below w.heap.size w w' → S t v w')
    (hout : ∀ t ∈ outer, ∀ w, Below w0.heap.size w0 w → S t (a0.tmps.getD t undef) w)
    (hsize : ∀ (i : Nat) (o : Oper) (d : Tmp), ops[i]? = some o → o.dst = some d → d < a0.tmps.size)
    (hstep : ∀ (i : Nat) (o : Oper), ops[i]? = some o → StepOK P w0 S (o.looksAt ops) o)
    (hdone : ∀ a w, RegAt ops w0 a0 S (Array.replicate ops.size true) a w → Q .normal a w) :
    ∀ (fuel : Nat) (listed : Array Bool) (a : Act) (w : World), listed.size = ops.size → ops.size ≤ fuel + listed.toList.countP id → RegAt ops w0 a0 S listed a w → wpAny P md ops Q fuel listed a w
  | 0, listed, a, w, hsz, hfu, hI => by
    have hall : ∀ i, i < ops.size → listed.getD i false = true := by
      intro i hi
      have hle := List.countP_le_length (p := id) (l := listed.toList)
      have hl : listed.toList.length = ops.size := by simpa using hsz
      have heq : listed.toList.countP id = listed.toList.length := by omega
      rw [List.countP_eq_length] at heq
      have hm : listed[i]'(by omega) ∈ listed.toList := by simp
      have := heq _ hm
      rw [Array.getD_eq_getD_getElem?, Array.getElem?_eq_getElem (by omega)]
      simpa using this
    have hrn : Region.ready md ops listed = [] := by
      rw [List.eq_nil_iff_forall_not_mem]
      intro i hi
      obtain ⟨h0, o, ho, _⟩ := mem_ready.1 hi
      have hlt : i < ops.size := (Array.getElem?_eq_some_iff.1 ho).1
      have := hall i hlt
      rw [Array.getD_eq_getD_getElem?, Array.getElem?_eq_getElem (by omega)] at h0 this
      simp at h0 this
      rw [h0] at this
      cases this
    refine ⟨hrn, hdone a w ⟨hI.below, hI.size, hI.defers, hI.rest, fun j o d ho _ hd => hI.done j o d ho (hall j (Array.getElem?_eq_some_iff.1 ho).1) hd⟩⟩
  | fuel + 1, listed, a, w, hsz, hfu, hI => by
    refine ⟨fun hn => hdone a w ⟨hI.below, hI.size, hI.defers, hI.rest, fun j o d ho _ hd => hI.done j o d ho (ready_nilG hf hsz hn j (Array.getElem?_eq_some_iff.1 ho).1) hd⟩, fun i hi => ?_⟩
    obtain ⟨h0, o, ho, hall⟩ := mem_ready.1 hi
    have hlt : i < ops.size := (Array.getElem?_eq_some_iff.1 ho).1
    unfold wpOp
    rw [ho]
    simp only
    have hw : Region.wanted o (yielded ops a.tmps) = true := by
      unfold Region.wanted
      cases hg : o.guard with
      | none => rfl
      | some gb =>
        obtain ⟨g, b⟩ := gb
        simp only
        obtain ⟨e, he, hb, heg⟩ := hf.guard i o ho g b hg
        unfold guardsB at hgs
        rw [Array.all_eq_true_iff_forall_mem] at hgs
        have h1 := hgs o (Array.mem_of_getElem? ho)
        rw [hg] at h1
        simp only at h1
        cases hd : (ops[g]?).bind (·.dst) with
        | none => rw [hd] at h1; cases h1
        | some d =>
          rw [hd] at h1
          simp only at h1
          have hmem : (d, b) ∈ gs := by simpa using h1
          cases ho' : ops[g]? with
          | none => rw [ho'] at hd; cases hd
          | some o' =>
            rw [ho'] at hd
            have hd' : o'.dst = some d := hd
            have hS := hI.done g o' d ho' (heg ▸ hall e he hb) hd'
            have hv := hgv (d, b) hmem _ _ hS
            simp only at hv
            have hds : d < a.tmps.size := by rw [hI.size]; exact hsize g o' d ho' hd'
            rw [Array.getD_eq_getD_getElem?, Array.getElem?_eq_getElem hds] at hv
            have hv2 : a.tmps[d] = .bool b := hv
            unfold yielded
            rw [ho']
            simp [hd', Array.getElem?_eq_getElem hds, hv2]
    rw [if_pos hw]
    refine .inl (hstep i o ho a w _ Q hI.below ?_ ?_)
    · intro t ht
      rcases hf.reads i o ho t ht with h | ⟨e, he, hb, o', ho', hd'⟩
      · rw [hI.rest t (fun j o2 ho2 => hf.out t h j o2 ho2)]
        exact hout t h w hI.below
      · exact hI.done e.on o' t ho' (hall e he hb) hd'
    · intro v w' hb hS
      refine wpAny_flowG hf gs hgs hgv stable hout hsize hstep hdone fuel _ _ _ (by simpa using hsz) ?_ ?_
      · have hl0 : listed[i]'(by omega) = false := by
          rw [Array.getD_eq_getD_getElem?, Array.getElem?_eq_getElem (by omega)] at h0
          simpa using h0
        have hc : (listed.setIfInBounds i true).toList.countP id = listed.toList.countP id + 1 := by
          rw [Array.toList_setIfInBounds, List.countP_set (by simpa using (show i < listed.size by omega))]
          simp [hl0]
        omega
      · refine ⟨hI.below.trans (hb.mono hI.below.size), by rw [put_size]; exact hI.size, by rw [put_defers']; exact hI.defers, ?_, ?_⟩
        · intro t ht
          rw [put_other (ht i o ho)]
          exact hI.rest t ht
        · intro j o' d ho' hj hd
          by_cases hji : i = j
          · subst hji
            rw [ho] at ho'
            injection ho' with ho'
            subst ho'
            rw [hd, put_self (by rw [hI.size]; exact hsize i o d ho hd)]
            exact hS d hd
          · rw [getD_set_ne false hji] at hj
            rw [put_other (fun e => hji (hf.once i j o o' d ho ho' e hd))]
            exact stable _ _ _ _ (hI.done j o' d ho' hj hd) hb

/-- A region that draws its order, by what each operation leaves: outer: slots that it doesn't write; outs: those of what it writes that are read later; gs: the guards' slots, each with what it holds. -/
theorem wp_region_flowG {id : Nat} {l : List Oper} {a : Act} {w : World} (outer outs : List Tmp) (gs : List (Tmp × Bool)) (S : Nat → Value → World → Prop) (n : Nat) (hm : P.follows .mixedOrders = true) (hf : flowGB .any l.toArray outer = true)
    (hn : a.tmps.size = n) (hd : dstsIn n l.toArray = true) (ho : outsIn outs l.toArray = true) (hgs : guardsB gs l.toArray = true) (hgv : ∀ x ∈ gs, ∀ v w, S x.1 v w → v = .bool x.2)
    (stable : ∀ t v w w', S t v w → Below w.heap.size w w' → S t v w')
    (hout : ∀ t ∈ outer, ∀ w', Below w.heap.size w w' → S t (a.tmps.getD t undef) w')
    (hstep : AllSteps P w S l)
    (hdone : ∀ a' w', Below w.heap.size w w' → a'.tmps.size = n → a'.defers = a.defers → (∀ t ∈ outer, a'.tmps.getD t undef = a.tmps.getD t undef) → (∀ t ∈ outs, S t (a'.tmps.getD t undef) w') → Q .normal a' w') :
    (Code.region id l.toArray true).wp P Q a w := by
  refine wp_region_any hm ?_
  have hfl := flowG_of hf
  refine wpAny_flowG (w0 := w) (a0 := a) hfl gs hgs hgv stable hout ?_ ?_ ?_ _ _ _ _ (by simp) (by omega) ?_
  · intro i o d ho hdo
    unfold dstsIn at hd
    rw [Array.all_eq_true_iff_forall_mem] at hd
    have := hd o (Array.mem_of_getElem? ho)
    rw [hdo] at this
    simpa [hn] using this
  · intro i o ho a1 w1 K Q1 hB hr hK
    refine hstep.at i o (by simpa using ho) a1 w1 K Q1 hB (fun t ht => hr t ?_) hK
    unfold Oper.looksAt
    exact List.mem_append_left _ ht
  · intro a' w' h
    refine hdone a' w' h.below (h.size.trans hn) h.defers (fun t ht => h.rest t (fun j o ho => hfl.out t ht j o ho)) (fun t ht => ?_)
    unfold outsIn at ho
    rw [List.all_eq_true] at ho
    have := ho t ht
    rw [Array.any_eq_true] at this
    obtain ⟨j, hj, e⟩ := this
    exact h.done j _ t (Array.getElem?_eq_getElem hj) (by rw [Array.getD_eq_getD_getElem?, Array.getElem?_replicate]; simp only [if_pos hj]; rfl) (by simpa using e)
  · refine ⟨?_, rfl, rfl, fun _ _ => rfl, ?_⟩
    · exact (Below.refl _ _).drew
    · intro j o d ho hj
      rw [Array.getD_eq_getD_getElem?] at hj
      have hlt : j < l.toArray.size := (Array.getElem?_eq_some_iff.1 ho).1
      rw [Array.getElem?_eq_getElem (by simpa using hlt)] at hj
      simp at hj
end
end Go.Proofs.Ytbhlgceicfjncaa

namespace Go.Proofs.Ytbhlgceicfjncaa
open Go.RowKit
set_option linter.unusedVariables false
set_option linter.unnecessarySimpa false
set_option linter.unusedSimpArgs false
set_option maxRecDepth 100000

def putAll (f : Nat → Value) (W : List Nat) (a : Act) : Act := W.foldl (fun x k => x.put (some k) (f k)) a
theorem putAll_is (f : Nat → Value) : ∀ (W : List Nat) (a : Act), (∀ k ∈ W, k < a.tmps.size) → (putAll f W a).tmps.size = a.tmps.size ∧ (putAll f W a).defers = a.defers ∧ ∀ i, (putAll f W a).tmps.getD i undef = if i ∈ W then f i else a.tmps.getD i undef
  | [], a, _ => ⟨rfl, rfl, fun i => by simp [putAll]⟩
  | k :: W, a, h => by
    have hk := h k (by simp)
    obtain ⟨h1, h2, h3⟩ := putAll_is f W (a.put (some k) (f k)) (fun j hj => by rw [put_size]; exact h j (by simp [hj]))
    have e : putAll f (k :: W) a = putAll f W (a.put (some k) (f k)) := rfl
    rw [e]
    refine ⟨by rw [h1, put_size], by rw [h2, put_defers'], fun i => ?_⟩
    rw [h3]
    by_cases hi : i ∈ W
    · rw [if_pos hi, if_pos (by simp [hi])]
    · rw [if_neg hi]
      by_cases hik : i = k
      · subst hik
        rw [put_self hk, if_pos (by simp)]
      · rw [put_other (fun e => hik (by injection e with e; exact e.symm)), if_neg (by simp [hi, hik])]
theorem act_puts {a a' : Act} {W : List Nat} (hs : a'.tmps.size = a.tmps.size) (hd : a'.defers = a.defers) (hW : ∀ k ∈ W, k < a.tmps.size) (rest : ∀ t, t ∉ W → a'.tmps.getD t undef = a.tmps.getD t undef) : a' = putAll (fun k => a'.tmps.getD k undef) W a := by
  obtain ⟨h1, h2, h3⟩ := putAll_is (fun k => a'.tmps.getD k undef) W a hW
  obtain ⟨b, hb⟩ : ∃ b, b = putAll (fun k => a'.tmps.getD k undef) W a := ⟨_, rfl⟩
  rw [← hb] at h1 h2 h3 ⊢
  obtain ⟨t', d'⟩ := a'
  obtain ⟨t, d⟩ := b
  simp only at h1 h2 h3 hs hd
  have e1 : t' = t := by
    apply Array.ext
    · omega
    · intro i hi1 hi2
      have := h3 i
      by_cases hi : i ∈ W
      · rw [if_pos hi] at this
        simp only [Array.getD_eq_getD_getElem?, Array.getElem?_eq_getElem hi1, Array.getElem?_eq_getElem hi2, Option.getD_some] at this
        exact this.symm
      · rw [if_neg hi, ← rest i hi] at this
        simp only [Array.getD_eq_getD_getElem?, Array.getElem?_eq_getElem hi1, Array.getElem?_eq_getElem hi2, Option.getD_some] at this
        exact this.symm
  subst e1
  rw [h2, hd]
/-- The slots that a region writes. -/
def dstsOf (l : List Oper) : List Nat := l.filterMap (·.dst)
theorem not_dst {l : List Oper} {t : Nat} (h : t ∉ dstsOf l) (j : Nat) (o : Oper) (ho : l.toArray[j]? = some o) : o.dst ≠ some t := fun e => h (by
  unfold dstsOf
  exact List.mem_filterMap.2 ⟨o, List.mem_of_getElem? (by simpa using ho), e⟩)
theorem dst_in {n : Nat} {l : List Oper} (hd : dstsIn n l.toArray = true) : ∀ k ∈ dstsOf l, k < n := fun k hk => by
  unfold dstsOf at hk
  obtain ⟨o, ho, e⟩ := List.mem_filterMap.1 hk
  unfold dstsIn at hd
  rw [Array.all_eq_true_iff_forall_mem] at hd
  have := hd o (by simpa using ho)
  rw [e] at this
  simpa using this

section
variable {P : Program}
theorem wp_region_S2 {id : Nat} {l : List Oper} {a : Act} {w : World} {Q : Exit → Act → World → Prop} (outer outs W : List Tmp) (B : Nat) (S : Nat → Value → World → Prop) (TS : Value → Value → World → Prop) (p q : Tmp) (st : Nat) (n : Nat) (hm : P.follows .mixedOrders = true) (hf : flowB .any l.toArray outer = true)
    (hn : a.tmps.size = n) (hd : dstsIn n l.toArray = true) (ho : outsIn outs l.toArray = true) (hpq : pqB .any l.toArray p q st = true) (hW : dstsOf l = W)
    (hout : ∀ t ∈ outer, ∀ w', Below B w w' → S t (a.tmps.getD t undef) w')
    (hstep : AllStepsS P B w S TS p q st 0 l)
    (hdone : ∀ (f : Nat → Value) w', Below B w w' → (∀ t ∈ outs, S t (f t) w') → TS (f p) (f q) w' → Q .normal (putAll f W a) w') :
    (Code.region id l.toArray true).wp P Q a w := by
  refine wp_region_any hm ?_
  have hfl := flow_of hf
  have hstl : st < l.toArray.size := by
    unfold pqB at hpq
    cases ho : l.toArray[st]? with
    | none => rw [ho] at hpq; cases hpq
    | some o => exact (Array.getElem?_eq_some_iff.1 ho).1
  refine wpAny_S (w0 := w) (a0 := a) (B := B) (S := S) (TS := TS) hfl hpq hout ?_ ?_ ?_ _ _ _ _ (by simp) (by omega) ?_
  · intro i o d ho hdo
    unfold dstsIn at hd
    rw [Array.all_eq_true_iff_forall_mem] at hd
    have := hd o (Array.mem_of_getElem? ho)
    rw [hdo] at this
    simpa [hn] using this
  · intro i o ho
    rw [looksAt_plain (hfl.plain i o ho)]
    have := hstep.at i o (by simpa using ho)
    rw [Nat.zero_add] at this
    exact this
  · intro a' w' h
    have hall : ∀ i, i < l.toArray.size → (Array.replicate l.toArray.size true).getD i false = true := fun i hi => by
      rw [Array.getD_eq_getD_getElem?, Array.getElem?_replicate]; simp only [if_pos hi]; rfl
    have e := act_puts (W := W) h.size h.defers (fun k hk => by rw [hn]; exact dst_in hd k (by rw [hW]; exact hk)) (fun t ht => h.rest t (fun j o ho => not_dst (by rw [hW]; exact ht) j o ho))
    rw [e]
    refine hdone _ w' h.rel (fun t ht => ?_) (h.fact (hall st hstl)).1
    unfold outsIn at ho
    rw [List.all_eq_true] at ho
    have := ho t ht
    rw [Array.any_eq_true] at this
    obtain ⟨j, hj, e⟩ := this
    exact h.done j _ t (Array.getElem?_eq_getElem hj) (hall j hj) (by simpa using e)
  · refine ⟨(Below.refl _ _).drew, rfl, rfl, fun _ _ => rfl, ?_, ?_⟩
    · intro j o d ho hj
      rw [Array.getD_eq_getD_getElem?] at hj
      have hlt : j < l.toArray.size := (Array.getElem?_eq_some_iff.1 ho).1
      rw [Array.getElem?_eq_getElem (by simpa using hlt)] at hj
      simp at hj
    · intro hjl
      rw [Array.getD_eq_getD_getElem?, Array.getElem?_eq_getElem (by simpa using hstl)] at hjl
      simp at hjl
theorem wp_region_flowG2 {id : Nat} {l : List Oper} {a : Act} {w : World} {Q : Exit → Act → World → Prop} (outer outs W : List Tmp) (gs : List (Tmp × Bool)) (S : Nat → Value → World → Prop) (n : Nat) (hm : P.follows .mixedOrders = true) (hf : flowGB .any l.toArray outer = true)
    (hn : a.tmps.size = n) (hd : dstsIn n l.toArray = true) (ho : outsIn outs l.toArray = true) (hgs : guardsB gs l.toArray = true) (hgv : ∀ x ∈ gs, ∀ v w, S x.1 v w → v = .bool x.2) (hW : dstsOf l = W)
    (stable : ∀ t v w w', S t v w → Below w.heap.size w w' → S t v w')
    (hout : ∀ t ∈ outer, ∀ w', Below w.heap.size w w' → S t (a.tmps.getD t undef) w')
    (hstep : AllSteps P w S l)
    (hdone : ∀ (f : Nat → Value) w', Below w.heap.size w w' → (∀ t ∈ outs, S t (f t) w') → Q .normal (putAll f W a) w') :
    (Code.region id l.toArray true).wp P Q a w := by
  refine wp_region_any hm ?_
  have hfl := flowG_of hf
  refine wpAny_flowG (w0 := w) (a0 := a) hfl gs hgs hgv stable hout ?_ ?_ ?_ _ _ _ _ (by simp) (by omega) ?_
  · intro i o d ho hdo
    unfold dstsIn at hd
    rw [Array.all_eq_true_iff_forall_mem] at hd
    have := hd o (Array.mem_of_getElem? ho)
    rw [hdo] at this
    simpa [hn] using this
  · intro i o ho a1 w1 K Q1 hB hr hK
    refine hstep.at i o (by simpa using ho) a1 w1 K Q1 hB (fun t ht => hr t ?_) hK
    unfold Oper.looksAt
    exact List.mem_append_left _ ht
  · intro a' w' h
    have e := act_puts (W := W) h.size h.defers (fun k hk => by rw [hn]; exact dst_in hd k (by rw [hW]; exact hk)) (fun t ht => h.rest t (fun j o ho => not_dst (by rw [hW]; exact ht) j o ho))
    rw [e]
    refine hdone _ w' h.below (fun t ht => ?_)
    unfold outsIn at ho
    rw [List.all_eq_true] at ho
    have := ho t ht
    rw [Array.any_eq_true] at this
    obtain ⟨j, hj, e⟩ := this
    exact h.done j _ t (Array.getElem?_eq_getElem hj) (by rw [Array.getD_eq_getD_getElem?, Array.getElem?_replicate]; simp only [if_pos hj]; rfl) (by simpa using e)
  · refine ⟨?_, rfl, rfl, fun _ _ => rfl, ?_⟩
    · exact (Below.refl _ _).drew
    · intro j o d ho hj
      rw [Array.getD_eq_getD_getElem?] at hj
      have hlt : j < l.toArray.size := (Array.getElem?_eq_some_iff.1 ho).1
      rw [Array.getElem?_eq_getElem (by simpa using hlt)] at hj
      simp at hj
end
end Go.Proofs.Ytbhlgceicfjncaa

namespace Go.Proofs.Ytbhlgceicfjncaa
open Go.RowKit
set_option linter.unusedVariables false
set_option linter.unnecessarySimpa false
set_option linter.unusedSimpArgs false
set_option maxRecDepth 100000

section
variable {P : Program} {ops : Array Oper} {md : Region.Mode}

/-- The last operation waits for all others. -/
def lateB (md : Region.Mode) (ops : Array Oper) (k : Nat) : Bool := decide (k + 1 = ops.size) && match ops[k]? with
  | none => false
  | some o => (List.range k).all fun i => o.after.any fun e => Region.binds md e && decide (e.on = i)

variable {Rl : World → World → Prop} {w0 : World} {a0 : Act} {S : Nat → Value → World → Prop} {T : Nat → World → Prop} {outer : List Tmp} {Q : Exit → Act → World → Prop}

theorem wpAny_tail {k : Nat} {ok : Oper} (hok : ops[k]? = some ok) (hk : k + 1 = ops.size) (late : ∀ i, i < k → ∃ e ∈ ok.after, Region.binds md e = true ∧ e.on = i)
    (hf : Flow md ops outer) (trans : ∀ x y z, Rl x y → Rl y z → Rl x z) (stable : ∀ t v w w', S t v w → Rl w w' → S t v w') (stableT : ∀ i w w', T i w → Rl w w' → T i w')
    (hout : ∀ t ∈ outer, ∀ w, Rl w0 w → S t (a0.tmps.getD t undef) w)
    (hsize : ∀ (i : Nat) (o : Oper) (d : Tmp), ops[i]? = some o → o.dst = some d → d < a0.tmps.size)
    (hstep : ∀ (i : Nat) (o : Oper), i < k → ops[i]? = some o → StepR P Rl w0 S T (o.looksAt ops) i o)
    (hdone : ∀ a w listed, (∀ j, j < k → listed.getD j false = true) → listed.getD k true = false → listed.size = ops.size → RegR ops Rl w0 a0 S T listed a w → ok.wp P a w (fun a' w' => Q .normal a' w') Q) :
    ∀ (fuel : Nat) (listed : Array Bool) (a : Act) (w : World), listed.size = ops.size → ops.size ≤ fuel + listed.toList.countP id → listed.getD k true = false → RegR ops Rl w0 a0 S T listed a w → wpAny P md ops Q fuel listed a w
  | 0, listed, a, w, hsz, hfu, hkf, hI => by
    exfalso
    have hle := List.countP_le_length (p := id) (l := listed.toList)
    have hl : listed.toList.length = ops.size := by simpa using hsz
    have heq : listed.toList.countP id = listed.toList.length := by omega
    rw [List.countP_eq_length] at heq
    have hm : listed[k]'(by omega) ∈ listed.toList := by simp
    have := heq _ hm
    rw [Array.getD_eq_getD_getElem?, Array.getElem?_eq_getElem (by omega)] at hkf
    simp at hkf
    rw [hkf] at this
    cases this
  | fuel + 1, listed, a, w, hsz, hfu, hkf, hI => by
    refine ⟨fun hn => ?_, fun i hi => ?_⟩
    · exfalso
      have := ready_nil hf hsz hn k (by omega)
      rw [Array.getD_eq_getD_getElem?, Array.getElem?_eq_getElem (by omega)] at hkf this
      simp at hkf this
      rw [hkf] at this
      cases this
    · obtain ⟨h0, o, ho, hall⟩ := mem_ready.1 hi
      have hlt : i < ops.size := (Array.getElem?_eq_some_iff.1 ho).1
      unfold wpOp
      rw [ho]
      simp only
      have hw : Region.wanted o (yielded ops a.tmps) = true := by
        unfold Region.wanted
        rw [hf.plain i o ho]
      rw [if_pos hw]
      have hl0 : listed[i]'(by omega) = false := by
        rw [Array.getD_eq_getD_getElem?, Array.getElem?_eq_getElem (by omega)] at h0
        simpa using h0
      have hc : (listed.setIfInBounds i true).toList.countP id = listed.toList.countP id + 1 := by
        rw [Array.toList_setIfInBounds, List.countP_set (by simpa using (show i < listed.size by omega))]
        simp [hl0]
      by_cases hik : i = k
      · subst hik
        rw [hok] at ho
        injection ho with ho
        subst ho
        have hpre : ∀ j, j < i → listed.getD j false = true := fun j hj => by
          obtain ⟨e, he, hb, rfl⟩ := late j hj
          exact hall e he hb
        refine .inl (Oper.wp_mono ?_ (hdone a w listed hpre hkf hsz hI))
        intro a' w' hq
        have hall2 : ∀ j, j < ops.size → (listed.setIfInBounds i true).getD j false = true := fun j hj => by
          by_cases hji : j = i
          · subst hji
            rw [Array.getD_eq_getD_getElem?, Array.getElem?_setIfInBounds_self_of_lt (by omega)]
            rfl
          · rw [getD_set_ne false (Ne.symm hji)]
            exact hpre j (by omega)
        have hrn : Region.ready md ops (listed.setIfInBounds i true) = [] := by
          rw [List.eq_nil_iff_forall_not_mem]
          intro j hj
          obtain ⟨h0, o2, ho2, _⟩ := mem_ready.1 hj
          have hlt2 : j < ops.size := (Array.getElem?_eq_some_iff.1 ho2).1
          have := hall2 j hlt2
          rw [Array.getD_eq_getD_getElem?, Array.getElem?_eq_getElem (by simp; omega)] at h0 this
          simp at h0 this
          rw [h0] at this
          cases this
        exact wpAny_done hrn hq fuel
      · have hik2 : i < k := by omega
        refine .inl (hstep i o hik2 ho a w _ Q hI.rel ?_ ?_)
        · intro t ht
          rcases hf.reads i o ho t ht with h | ⟨e, he, hb, o', ho', hd'⟩
          · rw [hI.rest t (fun j o2 ho2 => hf.out t h j o2 ho2)]
            exact hout t h w hI.rel
          · exact hI.done e.on o' t ho' (hall e he hb) hd'
        · intro v w' hb hT hS
          refine wpAny_tail hok hk late hf trans stable stableT hout hsize hstep hdone fuel _ _ _ (by simpa using hsz) (by omega) (by rw [getD_set_ne true hik]; exact hkf) ?_
          refine ⟨trans _ _ _ hI.rel hb, by rw [put_size]; exact hI.size, by rw [put_defers']; exact hI.defers, ?_, ?_, ?_⟩
          · intro t ht
            rw [put_other (ht i o ho)]
            exact hI.rest t ht
          · intro j o' d ho' hj hd
            by_cases hji : i = j
            · subst hji
              rw [ho] at ho'
              injection ho' with ho'
              subst ho'
              rw [hd, put_self (by rw [hI.size]; exact hsize i o d ho hd)]
              exact hS d hd
            · rw [getD_set_ne false hji] at hj
              rw [put_other (fun e => hji (hf.once i j o o' d ho ho' e hd))]
              exact stable _ _ _ _ (hI.done j o' d ho' hj hd) hb
          · intro j hj hjl
            by_cases hji : i = j
            · subst hji; exact hT
            · rw [getD_set_ne false hji] at hjl
              exact stableT _ _ _ (hI.facts j hj hjl) hb

/-- All steps of a list but those from the k-th on. -/
def AllStepsL (P : Program) (Rl : World → World → Prop) (w0 : World) (S : Nat → Value → World → Prop) (T : Nat → World → Prop) (k : Nat) : Nat → List Oper → Prop
  | _, [] => True
  | i, o :: l => (i < k → StepAtR P Rl w0 S T i o.dst o.op o.type) ∧ AllStepsL P Rl w0 S T k (i + 1) l
theorem AllStepsL.nil {k i : Nat} : AllStepsL P Rl w0 S T k i [] := trivial
theorem AllStepsL.cons {k i : Nat} {d : Option Tmp} {op : Op} {ty : TypeId} {pos : String} {af : Array Edge} {gd : Option (Nat × Bool)} {l : List Oper} (h : i < k → StepAtR P Rl w0 S T i d op ty) (hl : AllStepsL P Rl w0 S T k (i + 1) l) :
    AllStepsL P Rl w0 S T k i ({ dst := d, op := op, type := ty, pos := pos, after := af, guard := gd } :: l) := ⟨h, hl⟩
theorem AllStepsL.at {k : Nat} {l : List Oper} : ∀ {n : Nat} (h : AllStepsL P Rl w0 S T k n l) (i : Nat) (o : Oper), n + i < k → l[i]? = some o → StepR P Rl w0 S T (tmpsOf o.op) (n + i) o := by
  induction l with
  | nil => intro n h i o _ ho; simp at ho
  | cons x l ih =>
    intro n h i o hlt ho
    cases i with
    | zero =>
      simp at ho
      subst ho
      exact fun a w K Q hB hr hK => h.1 (by omega) a w K Q hB (Reads.of hr) hK
    | succ i =>
      have := ih h.2 i o (by omega) (by simpa using ho)
      rw [show n + (i + 1) = n + 1 + i by omega]
      exact this

/-- A region that draws its order, whose last operation waits for all others. -/
theorem wp_region_tail {id : Nat} {l : List Oper} {a : Act} {w : World} (outer outs : List Tmp) (Rl : World → World → Prop) (S : Nat → Value → World → Prop) (T : Nat → World → Prop) (n k : Nat) (od : Option Tmp) (oo : Op) (hok0 : (l[k]?).map (fun o => (o.dst, o.op)) = some (od, oo)) (hm : P.follows .mixedOrders = true) (hf : flowB .any l.toArray outer = true) (hlate : lateB .any l.toArray k = true)
    (hn : a.tmps.size = n) (hd : dstsIn n l.toArray = true) (ho : outsIn outs (l.take k).toArray = true) (hdrew : Rl w w.drew) (trans : ∀ x y z, Rl x y → Rl y z → Rl x z)
    (stable : ∀ t v w w', S t v w → Rl w w' → S t v w') (stableT : ∀ i w w', T i w → Rl w w' → T i w')
    (hout : ∀ t ∈ outer, ∀ w', Rl w w' → S t (a.tmps.getD t undef) w')
    (hstep : AllStepsL P Rl w S T k 0 l)
    (W : List Nat) (hW : dstsOf l = W)
    (hdone : ∀ (f : Nat → Value) w', Rl w w' → (∀ t ∈ outs, S t (f t) w') → (∀ i, i < k → T i w') → ∀ ok : Oper, ok.dst = od → ok.op = oo → ok.wp P (putAll f W a) w' (fun a2 w2 => Q .normal a2 w2) Q) :
    (Code.region id l.toArray true).wp P Q a w := by
  refine wp_region_any hm ?_
  have hfl := flow_of hf
  unfold lateB at hlate
  rw [Bool.and_eq_true, decide_eq_true_eq] at hlate
  obtain ⟨hk, hlate⟩ := hlate
  obtain ⟨ok, hok⟩ : ∃ ok, l[k]? = some ok := by
    cases h : l[k]? with
    | none => rw [h] at hok0; cases hok0
    | some o => exact ⟨o, rfl⟩
  rw [hok] at hok0
  simp only [Option.map_some, Option.some.injEq, Prod.mk.injEq] at hok0
  have hok' : l.toArray[k]? = some ok := by simpa using hok
  rw [hok'] at hlate
  simp only [List.all_eq_true, List.mem_range] at hlate
  refine wpAny_tail (w0 := w) (a0 := a) (Rl := Rl) (S := S) (T := T) hok' hk (fun i hi => ?_) hfl trans stable stableT hout ?_ ?_ ?_ _ _ _ _ (by simp) (by omega) ?_ ?_
  · have := hlate i hi
    rw [Array.any_eq_true] at this
    obtain ⟨j, hj, e⟩ := this
    rw [Bool.and_eq_true, decide_eq_true_eq] at e
    exact ⟨_, Array.getElem_mem hj, e.1, e.2⟩
  · intro i o d ho hdo
    unfold dstsIn at hd
    rw [Array.all_eq_true_iff_forall_mem] at hd
    have := hd o (Array.mem_of_getElem? ho)
    rw [hdo] at this
    simpa [hn] using this
  · intro i o hik ho
    rw [looksAt_plain (hfl.plain i o ho)]
    have := hstep.at i o (by omega) (by simpa using ho)
    rw [Nat.zero_add] at this
    exact this
  · intro a' w' listed hpre hkf hsz h
    have e := act_puts (W := W) h.size h.defers (fun k hk => by rw [hn]; exact dst_in hd k (by rw [hW]; exact hk)) (fun t ht => h.rest t (fun j o ho => not_dst (by rw [hW]; exact ht) j o ho))
    rw [e]
    refine hdone _ w' h.rel (fun t ht => ?_) (fun i hi => h.facts i (by omega) (hpre i hi)) ok hok0.1 hok0.2
    · unfold outsIn at ho
      rw [List.all_eq_true] at ho
      have := ho t ht
      rw [Array.any_eq_true] at this
      obtain ⟨j, hj, e⟩ := this
      have hjk : j < k := by
        rw [List.size_toArray, List.length_take] at hj
        omega
      have hjl : j < l.length := by
        rw [List.size_toArray, List.length_take] at hj
        omega
      have e2 : (l.take k).toArray[j] = l[j] := by simp
      rw [e2] at e
      exact h.done j l[j] t (by simp [List.getElem?_eq_getElem hjl]) (hpre j hjk) (by simpa using e)
  · rw [Array.getD_eq_getD_getElem?, Array.getElem?_replicate]
    rw [if_pos (by omega)]
    rfl
  · refine ⟨hdrew, rfl, rfl, fun _ _ => rfl, ?_, ?_⟩
    · intro j o d ho hj
      rw [Array.getD_eq_getD_getElem?] at hj
      have hlt : j < l.toArray.size := (Array.getElem?_eq_some_iff.1 ho).1
      rw [Array.getElem?_eq_getElem (by simpa using hlt)] at hj
      simp at hj
    · intro j hj hjl
      rw [Array.getD_eq_getD_getElem?, Array.getElem?_eq_getElem (by simpa using hj)] at hjl
      simp at hjl
end
end Go.Proofs.Ytbhlgceicfjncaa
