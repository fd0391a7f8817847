/-
  Joined: RegionR, RegionS.
-/
import Derived.Test.YtbhlgceicfjncaaSet22
namespace Go.Proofs.Ytbhlgceicfjncaa
open Go.RowKit
set_option linter.unusedVariables false
set_option linter.unnecessarySimpa false
set_option linter.unusedSimpArgs false
set_option maxRecDepth 100000

section
variable {P : Program} {ops : Array Oper} {md : Region.Mode}

/-- What an operation leaves, wherever it comes up: S says of each slot what it holds, T of each operation what holds of the world behind it. -/
def StepR (P : Program) (Rl : World → World → Prop) (w0 : World) (S : Nat → Value → World → Prop) (T : Nat → World → Prop) (rs : List Tmp) (i : Nat) (o : Oper) : Prop :=
  ∀ (a : Act) (w : World) (K : Act → World → Prop) (Q : Exit → Act → World → Prop), Rl w0 w → (∀ t ∈ rs, S t (a.tmps.getD t undef) w) →
    (∀ v w', Rl w w' → T i w' → (∀ d, o.dst = some d → S d v w') → K (a.put o.dst v) w') → o.wp P a w K Q

structure RegR (ops : Array Oper) (Rl : World → World → Prop) (w0 : World) (a0 : Act) (S : Nat → Value → World → Prop) (T : Nat → World → Prop) (listed : Array Bool) (a : Act) (w : World) : Prop where
  rel : Rl w0 w
  size : a.tmps.size = a0.tmps.size
  defers : a.defers = a0.defers
  rest : ∀ t, (∀ (j : Nat) (o : Oper), ops[j]? = some o → o.dst ≠ some t) → a.tmps.getD t undef = a0.tmps.getD t undef
  done : ∀ (j : Nat) (o : Oper) (d : Tmp), ops[j]? = some o → listed.getD j false = true → o.dst = some d → S d (a.tmps.getD d undef) w
  facts : ∀ j, j < ops.size → listed.getD j false = true → T j w

variable {Rl : World → World → Prop} {w0 : World} {a0 : Act} {S : Nat → Value → World → Prop} {T : Nat → World → Prop} {outer : List Tmp} {Q : Exit → Act → World → Prop}

theorem wpAny_rel (hf : Flow md ops outer) (trans : ∀ x y z, Rl x y → Rl y z → Rl x z) (stable : ∀ t v w w', S t v w → Rl w w' → S t v w') (stableT : ∀ i w w', T i w → Rl w w' → T i w')
    (hout : ∀ t ∈ outer, ∀ w, Rl w0 w → S t (a0.tmps.getD t undef) w)
    (hsize : ∀ (i : Nat) (o : Oper) (d : Tmp), ops[i]? = some o → o.dst = some d → d < a0.tmps.size)
    (hstep : ∀ (i : Nat) (o : Oper), ops[i]? = some o → StepR P Rl w0 S T (o.looksAt ops) i o)
    (hdone : ∀ a w, RegR ops Rl w0 a0 S T (Array.replicate ops.size true) a w → Q .normal a w) :
    ∀ (fuel : Nat) (listed : Array Bool) (a : Act) (w : World), listed.size = ops.size → ops.size ≤ fuel + listed.toList.countP id → RegR ops Rl w0 a0 S T listed a w → wpAny P md ops Q fuel listed a w
  | 0, listed, a, w, hsz, hfu, hI => by
    have hall : ∀ i, i < ops.size → listed.getD i false = true := by
      intro i hi
      have hle := List.countP_le_length (p := id) (l := listed.toList)
      have hl : listed.toList.length = ops.size := by simpa using hsz
      have heq : listed.toList.countP id = listed.toList.length := by omega
      rw [List.countP_eq_length] at heq
      have hm : listed[i]'(by omega) ∈ listed.toList := by simp
      have := heq _ hm
      rw [Array.getD_eq_getD_getElem?, Array.getElem?_eq_getElem (by omega)]
      simpa using this
    have hrn : Region.ready md ops listed = [] := by
      rw [List.eq_nil_iff_forall_not_mem]
      intro i hi
      obtain ⟨h0, o, ho, _⟩ := mem_ready.1 hi
      have hlt : i < ops.size := (Array.getElem?_eq_some_iff.1 ho).1
      have := hall i hlt
      rw [Array.getD_eq_getD_getElem?, Array.getElem?_eq_getElem (by omega)] at h0 this
      simp at h0 this
      rw [h0] at this
      cases this
    exact ⟨hrn, hdone a w ⟨hI.rel, hI.size, hI.defers, hI.rest, fun j o d ho _ hd => hI.done j o d ho (hall j (Array.getElem?_eq_some_iff.1 ho).1) hd, fun j hj _ => hI.facts j hj (hall j hj)⟩⟩
  | fuel + 1, listed, a, w, hsz, hfu, hI => by
    refine ⟨fun hn => hdone a w ⟨hI.rel, hI.size, hI.defers, hI.rest, fun j o d ho _ hd => hI.done j o d ho (ready_nil hf hsz hn j (Array.getElem?_eq_some_iff.1 ho).1) hd, fun j hj _ => hI.facts j hj (ready_nil hf hsz hn j hj)⟩, fun i hi => ?_⟩
    obtain ⟨h0, o, ho, hall⟩ := mem_ready.1 hi
    have hlt : i < ops.size := (Array.getElem?_eq_some_iff.1 ho).1
    unfold wpOp
    rw [ho]
    simp only
    have hw : Region.wanted o (yielded ops a.tmps) = true := by
      unfold Region.wanted
      rw [hf.plain i o ho]
    rw [if_pos hw]
    refine .inl (hstep i o ho a w _ Q hI.rel ?_ ?_)
    · intro t ht
      rcases hf.reads i o ho t ht with h | ⟨e, he, hb, o', ho', hd'⟩
      · rw [hI.rest t (fun j o2 ho2 => hf.out t h j o2 ho2)]
        exact hout t h w hI.rel
      · exact hI.done e.on o' t ho' (hall e he hb) hd'
    · intro v w' hb hT hS
      refine wpAny_rel hf trans stable stableT hout hsize hstep hdone fuel _ _ _ (by simpa using hsz) ?_ ?_
      · have hl0 : listed[i]'(by omega) = false := by
          rw [Array.getD_eq_getD_getElem?, Array.getElem?_eq_getElem (by omega)] at h0
          simpa using h0
        have hc : (listed.setIfInBounds i true).toList.countP id = listed.toList.countP id + 1 := by
          rw [Array.toList_setIfInBounds, List.countP_set (by simpa using (show i < listed.size by omega))]
          simp [hl0]
        omega
      · refine ⟨trans _ _ _ hI.rel hb, by rw [put_size]; exact hI.size, by rw [put_defers']; exact hI.defers, ?_, ?_, ?_⟩
        · intro t ht
          rw [put_other (ht i o ho)]
          exact hI.rest t ht
        · intro j o' d ho' hj hd
          by_cases hji : i = j
          · subst hji
            rw [ho] at ho'
            injection ho' with ho'
            subst ho'
            rw [hd, put_self (by rw [hI.size]; exact hsize i o d ho hd)]
            exact hS d hd
          · rw [getD_set_ne false hji] at hj
            rw [put_other (fun e => hji (hf.once i j o o' d ho ho' e hd))]
            exact stable _ _ _ _ (hI.done j o' d ho' hj hd) hb
        · intro j hj hjl
          by_cases hji : i = j
          · subst hji; exact hT
          · rw [getD_set_ne false hji] at hjl
            exact stableT _ _ _ (hI.facts j hj hjl) hb

/-- What an operation leaves, of its own words alone. -/
def StepAtR (P : Program) (Rl : World → World → Prop) (w0 : World) (S : Nat → Value → World → Prop) (T : Nat → World → Prop) (i : Nat) (d : Option Tmp) (op : Op) (ty : TypeId) : Prop :=
  ∀ (a : Act) (w : World) (K : Act → World → Prop) (Q : Exit → Act → World → Prop), Rl w0 w → Reads S a w (tmpsOf op) →
    (∀ v w', Rl w w' → T i w' → (∀ t, d = some t → S t v w') → K (a.put d v) w') → ({ dst := d, op := op, type := ty, pos := "", after := #[], guard := none } : Oper).wp P a w K Q
def AllStepsR (P : Program) (Rl : World → World → Prop) (w0 : World) (S : Nat → Value → World → Prop) (T : Nat → World → Prop) : Nat → List Oper → Prop
  | _, [] => True
  | i, o :: l => StepAtR P Rl w0 S T i o.dst o.op o.type ∧ AllStepsR P Rl w0 S T (i + 1) l
theorem AllStepsR.nil {i : Nat} : AllStepsR P Rl w0 S T i [] := trivial
theorem AllStepsR.cons {i : Nat} {d : Option Tmp} {op : Op} {ty : TypeId} {pos : String} {af : Array Edge} {gd : Option (Nat × Bool)} {l : List Oper} (h : StepAtR P Rl w0 S T i d op ty) (hl : AllStepsR P Rl w0 S T (i + 1) l) :
    AllStepsR P Rl w0 S T i ({ dst := d, op := op, type := ty, pos := pos, after := af, guard := gd } :: l) := ⟨h, hl⟩
theorem AllStepsR.at {l : List Oper} : ∀ {k : Nat} (h : AllStepsR P Rl w0 S T k l) (i : Nat) (o : Oper), l[i]? = some o → StepR P Rl w0 S T (tmpsOf o.op) (k + i) o := by
  induction l with
  | nil => intro k h i o ho; simp at ho
  | cons x l ih =>
    intro k h i o ho
    cases i with
    | zero =>
      simp at ho
      subst ho
      exact fun a w K Q hB hr hK => h.1 a w K Q hB (Reads.of hr) hK
    | succ i =>
      have := ih h.2 i o (by simpa using ho)
      rw [show k + (i + 1) = k + 1 + i by omega]
      exact this

/-- A region that draws its order, over whichever relation of worlds. -/
theorem wp_region_rel {id : Nat} {l : List Oper} {a : Act} {w : World} (outer outs : List Tmp) (Rl : World → World → Prop) (S : Nat → Value → World → Prop) (T : Nat → World → Prop) (n : Nat) (hm : P.follows .mixedOrders = true) (hf : flowB .any l.toArray outer = true)
    (hn : a.tmps.size = n) (hd : dstsIn n l.toArray = true) (ho : outsIn outs l.toArray = true) (hdrew : Rl w w.drew) (trans : ∀ x y z, Rl x y → Rl y z → Rl x z)
    (stable : ∀ t v w w', S t v w → Rl w w' → S t v w') (stableT : ∀ i w w', T i w → Rl w w' → T i w')
    (hout : ∀ t ∈ outer, ∀ w', Rl w w' → S t (a.tmps.getD t undef) w')
    (hstep : AllStepsR P Rl w S T 0 l)
    (hdone : ∀ a' w', Rl w w' → a'.tmps.size = n → a'.defers = a.defers → (∀ t ∈ outer, a'.tmps.getD t undef = a.tmps.getD t undef) → (∀ t ∈ outs, S t (a'.tmps.getD t undef) w') → (∀ i, i < l.length → T i w') → Q .normal a' w') :
    (Code.region id l.toArray true).wp P Q a w := by
  refine wp_region_any hm ?_
  have hfl := flow_of hf
  refine wpAny_rel (w0 := w) (a0 := a) (Rl := Rl) (S := S) (T := T) hfl trans stable stableT hout ?_ ?_ ?_ _ _ _ _ (by simp) (by omega) ?_
  · intro i o d ho hdo
    unfold dstsIn at hd
    rw [Array.all_eq_true_iff_forall_mem] at hd
    have := hd o (Array.mem_of_getElem? ho)
    rw [hdo] at this
    simpa [hn] using this
  · intro i o ho
    rw [looksAt_plain (hfl.plain i o ho)]
    have := hstep.at i o (by simpa using ho)
    rw [Nat.zero_add] at this
    exact this
  · intro a' w' h
    refine hdone a' w' h.rel (h.size.trans hn) h.defers (fun t ht => h.rest t (fun j o ho => hfl.out t ht j o ho)) (fun t ht => ?_) (fun i hi => h.facts i (by simpa using hi) (by rw [Array.getD_eq_getD_getElem?, Array.getElem?_replicate]; simp only [if_pos (show i < l.toArray.size by simpa using hi)]; rfl))
    unfold outsIn at ho
    rw [List.all_eq_true] at ho
    have := ho t ht
    rw [Array.any_eq_true] at this
    obtain ⟨j, hj, e⟩ := this
    exact h.done j _ t (Array.getElem?_eq_getElem hj) (by rw [Array.getD_eq_getD_getElem?, Array.getElem?_replicate]; simp only [if_pos hj]; rfl) (by simpa using e)
  · refine ⟨hdrew, rfl, rfl, fun _ _ => rfl, ?_, ?_⟩
    · intro j o d ho hj
      rw [Array.getD_eq_getD_getElem?] at hj
      have hlt : j < l.toArray.size := (Array.getElem?_eq_some_iff.1 ho).1
      rw [Array.getElem?_eq_getElem (by simpa using hlt)] at hj
      simp at hj
    · intro j hj hjl
      rw [Array.getD_eq_getD_getElem?, Array.getElem?_eq_getElem (by simpa using hj)] at hjl
      simp at hjl
end
end Go.Proofs.Ytbhlgceicfjncaa

namespace Go.Proofs.Ytbhlgceicfjncaa
open Go.RowKit
set_option linter.unusedVariables false
set_option linter.unnecessarySimpa false
set_option linter.unusedSimpArgs false
set_option maxRecDepth 100000

section
variable {P : Program} {ops : Array Oper} {md : Region.Mode}

/-- What an operation leaves, wherever it comes up: S says of each slot what it holds; TS what holds behind the store (operation st) of the slots p, q. -/
def StepS (P : Program) (B : Nat) (w0 : World) (S : Nat → Value → World → Prop) (TS : Value → Value → World → Prop) (p q : Tmp) (st : Nat) (rs : List Tmp) (i : Nat) (o : Oper) : Prop :=
  ∀ (a : Act) (w : World) (K : Act → World → Prop) (Q : Exit → Act → World → Prop), Below B w0 w → (∀ t ∈ rs, S t (a.tmps.getD t undef) w) →
    (∀ v w', Below B w w' → (∀ t u, S t u w → S t u w') → (i ≠ st → ∀ x y, TS x y w → TS x y w') → (i = st → TS (a.tmps.getD p undef) (a.tmps.getD q undef) w') → (∀ d, o.dst = some d → S d v w') → K (a.put o.dst v) w') → o.wp P a w K Q
/-- The store waits for those that write p and q; it writes no slot. -/
def pqB (md : Region.Mode) (ops : Array Oper) (p q : Tmp) (st : Nat) : Bool := match ops[st]? with
  | none => false
  | some o => o.dst == none && o.after.any (fun e => Region.binds md e && ((ops[e.on]?).bind (·.dst) == some p)) && o.after.any (fun e => Region.binds md e && ((ops[e.on]?).bind (·.dst) == some q))

structure RegS (ops : Array Oper) (B : Nat) (w0 : World) (a0 : Act) (S : Nat → Value → World → Prop) (TS : Value → Value → World → Prop) (p q : Tmp) (st : Nat) (listed : Array Bool) (a : Act) (w : World) : Prop where
  rel : Below B w0 w
  size : a.tmps.size = a0.tmps.size
  defers : a.defers = a0.defers
  rest : ∀ t, (∀ (j : Nat) (o : Oper), ops[j]? = some o → o.dst ≠ some t) → a.tmps.getD t undef = a0.tmps.getD t undef
  done : ∀ (j : Nat) (o : Oper) (d : Tmp), ops[j]? = some o → listed.getD j false = true → o.dst = some d → S d (a.tmps.getD d undef) w
  fact : listed.getD st false = true → TS (a.tmps.getD p undef) (a.tmps.getD q undef) w ∧ (∃ j o, ops[j]? = some o ∧ listed.getD j false = true ∧ o.dst = some p) ∧ (∃ j o, ops[j]? = some o ∧ listed.getD j false = true ∧ o.dst = some q)

variable {B : Nat} {w0 : World} {a0 : Act} {S : Nat → Value → World → Prop} {TS : Value → Value → World → Prop} {p q : Tmp} {st : Nat} {outer : List Tmp} {Q : Exit → Act → World → Prop}

theorem wpAny_S (hf : Flow md ops outer) (hpq : pqB md ops p q st = true)
    (hout : ∀ t ∈ outer, ∀ w, Below B w0 w → S t (a0.tmps.getD t undef) w)
    (hsize : ∀ (i : Nat) (o : Oper) (d : Tmp), ops[i]? = some o → o.dst = some d → d < a0.tmps.size)
    (hstep : ∀ (i : Nat) (o : Oper), ops[i]? = some o → StepS P B w0 S TS p q st (o.looksAt ops) i o)
    (hdone : ∀ a w, RegS ops B w0 a0 S TS p q st (Array.replicate ops.size true) a w → Q .normal a w) :
    ∀ (fuel : Nat) (listed : Array Bool) (a : Act) (w : World), listed.size = ops.size → ops.size ≤ fuel + listed.toList.countP id → RegS ops B w0 a0 S TS p q st listed a w → wpAny P md ops Q fuel listed a w := by
  have hstl : st < ops.size := by
    unfold pqB at hpq
    cases ho : ops[st]? with
    | none => rw [ho] at hpq; cases hpq
    | some o => exact (Array.getElem?_eq_some_iff.1 ho).1
  have hfin : ∀ (listed : Array Bool) a w, (∀ i, i < ops.size → listed.getD i false = true) → RegS ops B w0 a0 S TS p q st listed a w → Q .normal a w := fun listed a w hall hI => by
    have hr : ∀ j, (Array.replicate ops.size true).getD j false = true → j < ops.size := fun j h => by
      refine Classical.byContradiction fun hn => ?_
      rw [Array.getD_eq_getD_getElem?, Array.getElem?_eq_none (by simp; omega)] at h
      cases h
    have hrt : ∀ j, j < ops.size → (Array.replicate ops.size true).getD j false = true := fun j h => by
      rw [Array.getD_eq_getD_getElem?, Array.getElem?_eq_getElem (by simpa using h)]; simp
    obtain ⟨f1, ⟨j1, o1, g1, g2, g3⟩, ⟨j2, o2, k1, k2, k3⟩⟩ := hI.fact (hall st hstl)
    exact hdone a w ⟨hI.rel, hI.size, hI.defers, hI.rest, fun j o d ho _ hd => hI.done j o d ho (hall j (Array.getElem?_eq_some_iff.1 ho).1) hd,
      fun _ => ⟨f1, ⟨j1, o1, g1, hrt j1 (Array.getElem?_eq_some_iff.1 g1).1, g3⟩, ⟨j2, o2, k1, hrt j2 (Array.getElem?_eq_some_iff.1 k1).1, k3⟩⟩⟩
  intro fuel
  induction fuel with
  | zero =>
    intro listed a w hsz hfu hI
    have hall : ∀ i, i < ops.size → listed.getD i false = true := by
      intro i hi
      have hle := List.countP_le_length (p := id) (l := listed.toList)
      have hl : listed.toList.length = ops.size := by simpa using hsz
      have heq : listed.toList.countP id = listed.toList.length := by omega
      rw [List.countP_eq_length] at heq
      have hm : listed[i]'(by omega) ∈ listed.toList := by simp
      have := heq _ hm
      rw [Array.getD_eq_getD_getElem?, Array.getElem?_eq_getElem (by omega)]
      simpa using this
    have hrn : Region.ready md ops listed = [] := by
      rw [List.eq_nil_iff_forall_not_mem]
      intro i hi
      obtain ⟨h0, o, ho, _⟩ := mem_ready.1 hi
      have hlt : i < ops.size := (Array.getElem?_eq_some_iff.1 ho).1
      have := hall i hlt
      rw [Array.getD_eq_getD_getElem?, Array.getElem?_eq_getElem (by omega)] at h0 this
      simp at h0 this
      rw [h0] at this
      cases this
    exact ⟨hrn, hfin listed a w hall hI⟩
  | succ fuel ih =>
    intro listed a w hsz hfu hI
    refine ⟨fun hn => hfin listed a w (fun i hi => ready_nil hf hsz hn i hi) hI, fun i hi => ?_⟩
    obtain ⟨h0, o, ho, hall⟩ := mem_ready.1 hi
    have hlt : i < ops.size := (Array.getElem?_eq_some_iff.1 ho).1
    unfold wpOp
    rw [ho]
    simp only
    have hw : Region.wanted o (yielded ops a.tmps) = true := by
      unfold Region.wanted
      rw [hf.plain i o ho]
    rw [if_pos hw]
    have h0f : listed.getD i false = false := by
      rw [Array.getD_eq_getD_getElem?, Array.getElem?_eq_getElem (by omega)] at h0 ⊢
      simpa using h0
    refine .inl (hstep i o ho a w _ Q hI.rel ?_ ?_)
    · intro t ht
      rcases hf.reads i o ho t ht with h | ⟨e, he, hb, o', ho', hd'⟩
      · rw [hI.rest t (fun j o2 ho2 => hf.out t h j o2 ho2)]
        exact hout t h w hI.rel
      · exact hI.done e.on o' t ho' (hall e he hb) hd'
    · intro v w' hb hSS hTk hTs hS
      have hset : ∀ j, listed.getD j false = true → (listed.setIfInBounds i true).getD j false = true := fun j hj => by
        by_cases hji : i = j
        · subst hji; rw [h0f] at hj; cases hj
        · rw [getD_set_ne false hji]; exact hj
      refine ih _ _ _ (by simpa using hsz) ?_ ?_
      · have hl0 : listed[i]'(by omega) = false := by
          rw [Array.getD_eq_getD_getElem?, Array.getElem?_eq_getElem (by omega)] at h0
          simpa using h0
        have hc : (listed.setIfInBounds i true).toList.countP id = listed.toList.countP id + 1 := by
          rw [Array.toList_setIfInBounds, List.countP_set (by simpa using (show i < listed.size by omega))]
          simp [hl0]
        omega
      · refine ⟨hI.rel.trans hb, by rw [put_size]; exact hI.size, by rw [put_defers']; exact hI.defers, ?_, ?_, ?_⟩
        · intro t ht
          rw [put_other (ht i o ho)]
          exact hI.rest t ht
        · intro j o' d ho' hj hd
          by_cases hji : i = j
          · subst hji
            rw [ho] at ho'
            injection ho' with ho'
            subst ho'
            rw [hd, put_self (by rw [hI.size]; exact hsize i o d ho hd)]
            exact hS d hd
          · rw [getD_set_ne false hji] at hj
            rw [put_other (fun e => hji (hf.once i j o o' d ho ho' e hd))]
            exact hSS _ _ (hI.done j o' d ho' hj hd)
        · intro hst
          by_cases his : i = st
          · subst his
            unfold pqB at hpq
            rw [ho] at hpq
            simp only [Bool.and_eq_true, beq_iff_eq] at hpq
            obtain ⟨⟨hn, h1⟩, h2⟩ := hpq
            rw [hn]
            have key : ∀ x : Tmp, (o.after.any fun e => Region.binds md e && ((ops[e.on]?).bind (·.dst) == some x)) = true → ∃ j o', ops[j]? = some o' ∧ (listed.setIfInBounds i true).getD j false = true ∧ o'.dst = some x := fun x hx => by
              rw [Array.any_eq_true] at hx
              obtain ⟨k, hk, h5⟩ := hx
              rw [Bool.and_eq_true] at h5
              have h6 := h5.2
              cases hq : ops[o.after[k].on]? with
              | none => rw [hq] at h6; simp at h6
              | some o' => rw [hq] at h6; exact ⟨_, o', hq, hset _ (hall _ (Array.getElem_mem hk) h5.1), by simpa using h6⟩
            exact ⟨hTs rfl, key p h1, key q h2⟩
          · rw [getD_set_ne false his] at hst
            obtain ⟨f1, ⟨j1, o1, g1, g2, g3⟩, ⟨j2, o2, k1, k2, k3⟩⟩ := hI.fact hst
            have hp' : o.dst ≠ some p := fun e => by
              have := hf.once i j1 o o1 p ho g1 e g3
              subst this
              rw [h0f] at g2; cases g2
            have hq' : o.dst ≠ some q := fun e => by
              have := hf.once i j2 o o2 q ho k1 e k3
              subst this
              rw [h0f] at k2; cases k2
            rw [put_other hp', put_other hq']
            exact ⟨hTk his _ _ f1, ⟨j1, o1, g1, hset j1 g2, g3⟩, ⟨j2, o2, k1, hset j2 k2, k3⟩⟩

/-- What an operation leaves, of its own words alone. -/
def StepAtS (P : Program) (B : Nat) (w0 : World) (S : Nat → Value → World → Prop) (TS : Value → Value → World → Prop) (p q : Tmp) (st : Nat) (i : Nat) (d : Option Tmp) (op : Op) (ty : TypeId) : Prop :=
  ∀ (a : Act) (w : World) (K : Act → World → Prop) (Q : Exit → Act → World → Prop), Below B w0 w → Reads S a w (tmpsOf op) →
    (∀ v w', Below B w w' → (∀ t u, S t u w → S t u w') → (i ≠ st → ∀ x y, TS x y w → TS x y w') → (i = st → TS (a.tmps.getD p undef) (a.tmps.getD q undef) w') → (∀ t, d = some t → S t v w') → K (a.put d v) w') → ({ dst := d, op := op, type := ty, pos := "", after := #[], guard := none } : Oper).wp P a w K Q
def AllStepsS (P : Program) (B : Nat) (w0 : World) (S : Nat → Value → World → Prop) (TS : Value → Value → World → Prop) (p q : Tmp) (st : Nat) : Nat → List Oper → Prop
  | _, [] => True
  | i, o :: l => StepAtS P B w0 S TS p q st i o.dst o.op o.type ∧ AllStepsS P B w0 S TS p q st (i + 1) l
theorem AllStepsS.nil {i : Nat} : AllStepsS P B w0 S TS p q st i [] := trivial
theorem AllStepsS.cons {i : Nat} {d : Option Tmp} {op : Op} {ty : TypeId} {pos : String} {af : Array Edge} {gd : Option (Nat × Bool)} {l : List Oper} (h : StepAtS P B w0 S TS p q st i d op ty) (hl : AllStepsS P B w0 S TS p q st (i + 1) l) :
    AllStepsS P B w0 S TS p q st i ({ dst := d, op := op, type := ty, pos := pos, after := af, guard := gd } :: l) := ⟨h, hl⟩
theorem AllStepsS.at {l : List Oper} : ∀ {k : Nat} (h : AllStepsS P B w0 S TS p q st k l) (i : Nat) (o : Oper), l[i]? = some o → StepS P B w0 S TS p q st (tmpsOf o.op) (k + i) o := by
  induction l with
  | nil => intro k h i o ho; simp at ho
  | cons x l ih =>
    intro k h i o ho
    cases i with
    | zero =>
      simp at ho
      subst ho
      exact fun a w K Q hB hr hK => h.1 a w K Q hB (Reads.of hr) hK
    | succ i =>
      have := ih h.2 i o (by simpa using ho)
      rw [show k + (i + 1) = k + 1 + i by omega]
      exact this
/-- A step that makes new memory alone. -/
theorem stepS_new {i : Nat} {d : Option Tmp} {a : Act} {w : World} {K : Act → World → Prop} (hBw : B ≤ w.heap.size) (hst : i ≠ st) (stable : ∀ t v w w', S t v w → Below w.heap.size w w' → S t v w') (stableT : ∀ x y w w', TS x y w → Below w.heap.size w w' → TS x y w')
    (hK : ∀ v w', Below B w w' → (∀ t u, S t u w → S t u w') → (i ≠ st → ∀ x y, TS x y w → TS x y w') → (i = st → TS (a.tmps.getD p undef) (a.tmps.getD q undef) w') → (∀ t, d = some t → S t v w') → K (a.put d v) w') :
    ∀ v w', Below w.heap.size w w' → (∀ t, d = some t → S t v w') → K (a.put d v) w' := fun v w' hb hd =>
  hK v w' (hb.mono hBw) (fun t u h => stable _ _ _ _ h hb) (fun _ x y h => stableT _ _ _ _ h hb) (fun e => absurd e hst) hd

theorem wp_region_S {id : Nat} {l : List Oper} {a : Act} {w : World} (outer outs : List Tmp) (B : Nat) (S : Nat → Value → World → Prop) (TS : Value → Value → World → Prop) (p q : Tmp) (st : Nat) (n : Nat) (hm : P.follows .mixedOrders = true) (hf : flowB .any l.toArray outer = true)
    (hn : a.tmps.size = n) (hd : dstsIn n l.toArray = true) (ho : outsIn outs l.toArray = true) (hpq : pqB .any l.toArray p q st = true)
    (hout : ∀ t ∈ outer, ∀ w', Below B w w' → S t (a.tmps.getD t undef) w')
    (hstep : AllStepsS P B w S TS p q st 0 l)
    (hdone : ∀ a' w', Below B w w' → a'.tmps.size = n → a'.defers = a.defers → (∀ t ∈ outer, a'.tmps.getD t undef = a.tmps.getD t undef) → (∀ t ∈ outs, S t (a'.tmps.getD t undef) w') → TS (a'.tmps.getD p undef) (a'.tmps.getD q undef) w' → Q .normal a' w') :
    (Code.region id l.toArray true).wp P Q a w := by
  refine wp_region_any hm ?_
  have hfl := flow_of hf
  have hstl : st < l.toArray.size := by
    unfold pqB at hpq
    cases ho : l.toArray[st]? with
    | none => rw [ho] at hpq; cases hpq
    | some o => exact (Array.getElem?_eq_some_iff.1 ho).1
  refine wpAny_S (w0 := w) (a0 := a) (B := B) (S := S) (TS := TS) hfl hpq hout ?_ ?_ ?_ _ _ _ _ (by simp) (by omega) ?_
  · intro i o d ho hdo
    unfold dstsIn at hd
    rw [Array.all_eq_true_iff_forall_mem] at hd
    have := hd o (Array.mem_of_getElem? ho)
    rw [hdo] at this
    simpa [hn] using this
  · intro i o ho
    rw [looksAt_plain (hfl.plain i o ho)]
    have := hstep.at i o (by simpa using ho)
    rw [Nat.zero_add] at this
    exact this
  · intro a' w' h
    have hall : ∀ i, i < l.toArray.size → (Array.replicate l.toArray.size true).getD i false = true := fun i hi => by
      rw [Array.getD_eq_getD_getElem?, Array.getElem?_replicate]; simp only [if_pos hi]; rfl
    refine hdone a' w' h.rel (h.size.trans hn) h.defers (fun t ht => h.rest t (fun j o ho => hfl.out t ht j o ho)) (fun t ht => ?_) (h.fact (hall st hstl)).1
    unfold outsIn at ho
    rw [List.all_eq_true] at ho
    have := ho t ht
    rw [Array.any_eq_true] at this
    obtain ⟨j, hj, e⟩ := this
    exact h.done j _ t (Array.getElem?_eq_getElem hj) (hall j hj) (by simpa using e)
  · refine ⟨(Below.refl _ _).drew, rfl, rfl, fun _ _ => rfl, ?_, ?_⟩
    · intro j o d ho hj
      rw [Array.getD_eq_getD_getElem?] at hj
      have hlt : j < l.toArray.size := (Array.getElem?_eq_some_iff.1 ho).1
      rw [Array.getElem?_eq_getElem (by simpa using hlt)] at hj
      simp at hj
    · intro hjl
      rw [Array.getD_eq_getD_getElem?, Array.getElem?_eq_getElem (by simpa using hstl)] at hjl
      simp at hjl
end
end Go.Proofs.Ytbhlgceicfjncaa
