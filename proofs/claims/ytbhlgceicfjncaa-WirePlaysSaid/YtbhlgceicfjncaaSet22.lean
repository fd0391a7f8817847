/-
  Regions that draw their order, by what each operation leaves: whatever order the tape picks, an operation finds what it reads as it was left.
-/
import Derived.Test.YtbhlgceicfjncaaRows
import Derived.WalkKit
import Derived.Below
import Derived.Deep.Cut
namespace Go.Proofs.Ytbhlgceicfjncaa
open Go.RowKit
set_option linter.unusedVariables false
set_option linter.unnecessarySimpa false
set_option linter.unusedSimpArgs false
set_option maxRecDepth 100000

section
variable {P : Program} {ops : Array Oper} {md : Region.Mode}

/-- What an operation leaves, wherever it comes up: S says of each slot what it holds, in a world. -/
def StepOK (P : Program) (w0 : World) (S : Nat → Value → World → Prop) (rs : List Tmp) (o : Oper) : Prop :=
  ∀ (a : Act) (w : World) (K : Act → World → Prop) (Q : Exit → Act → World → Prop), Below w0.heap.size w0 w → (∀ t ∈ rs, S t (a.tmps.getD t undef) w) →
    (∀ v w', Below w.heap.size w w' → (∀ d, o.dst = some d → S d v w') → K (a.put o.dst v) w') → o.wp P a w K Q

/-- The region's form: no guard; an operation waits for those ahead of it alone, and for each whose slot it reads; no slot is written twice. -/
def flowB (md : Region.Mode) (ops : Array Oper) (outer : List Tmp) : Bool :=
  outer.all (fun t => !ops.any fun o => o.dst == some t) &&
  (List.range ops.size).all fun i => match ops[i]? with
    | none => false
    | some o => o.guard.isNone && o.after.all (fun e => !Region.binds md e || decide (e.on < i)) &&
      (o.looksAt ops).all (fun t => outer.contains t || o.after.any fun e => Region.binds md e && ((ops[e.on]?).bind (·.dst) == some t)) &&
      (match o.dst with
        | none => true
        | some d => (List.range ops.size).all fun j => j == i || !((ops[j]?).bind (·.dst) == some d))

structure Flow (md : Region.Mode) (ops : Array Oper) (outer : List Tmp) : Prop where
  out : ∀ t ∈ outer, ∀ (j : Nat) (o : Oper), ops[j]? = some o → o.dst ≠ some t
  plain : ∀ (i : Nat) (o : Oper), ops[i]? = some o → o.guard = none
  down : ∀ (i : Nat) (o : Oper), ops[i]? = some o → ∀ e ∈ o.after, Region.binds md e = true → e.on < i
  reads : ∀ (i : Nat) (o : Oper), ops[i]? = some o → ∀ t ∈ o.looksAt ops, t ∈ outer ∨ ∃ e ∈ o.after, Region.binds md e = true ∧ ∃ o', ops[e.on]? = some o' ∧ o'.dst = some t
  once : ∀ (i j : Nat) (o o' : Oper) (d : Tmp), ops[i]? = some o → ops[j]? = some o' → o.dst = some d → o'.dst = some d → i = j

theorem flow_of {outer : List Tmp} (h : flowB md ops outer = true) : Flow md ops outer := by
  unfold flowB at h
  simp only [Bool.and_eq_true, List.all_eq_true, List.mem_range] at h
  obtain ⟨h0, h1⟩ := h
  have at_ : ∀ (i : Nat) (o : Oper), ops[i]? = some o → ((o.guard.isNone = true ∧ (o.after.all (fun e => !Region.binds md e || decide (e.on < i))) = true) ∧
      ((o.looksAt ops).all (fun t => outer.contains t || o.after.any fun e => Region.binds md e && ((ops[e.on]?).bind (·.dst) == some t))) = true) ∧
      (match o.dst with
        | none => true
        | some d => (List.range ops.size).all fun j => j == i || !((ops[j]?).bind (·.dst) == some d)) = true := by
    intro i o ho
    have hlt : i < ops.size := (Array.getElem?_eq_some_iff.1 ho).1
    have := h1 i hlt
    simpa only [ho, Bool.and_eq_true, List.all_eq_true] using this
  refine ⟨?_, ?_, ?_, ?_, ?_⟩
  · intro t ht j o ho hd
    have := h0 t ht
    rw [Bool.not_eq_true', ← Bool.not_eq_true, Array.any_eq_true] at this
    obtain ⟨hlt, he⟩ := Array.getElem?_eq_some_iff.1 ho
    exact this ⟨j, hlt, by rw [he, hd]; simp⟩
  · intro i o ho
    simpa using (at_ i o ho).1.1.1
  · intro i o ho e he hb
    have := (at_ i o ho).1.1.2
    rw [Array.all_eq_true_iff_forall_mem] at this
    simpa [hb] using this e he
  · intro i o ho t ht
    have h3 := (at_ i o ho).1.2
    rw [List.all_eq_true] at h3
    have h4 := h3 t ht
    rw [Bool.or_eq_true] at h4
    rcases h4 with h4 | h4
    · exact .inl (by simpa using h4)
    · rw [Array.any_eq_true] at h4
      obtain ⟨k, hk, h5⟩ := h4
      rw [Bool.and_eq_true] at h5
      refine .inr ⟨o.after[k], Array.getElem_mem hk, h5.1, ?_⟩
      have h6 := h5.2
      cases hq : ops[o.after[k].on]? with
      | none => rw [hq] at h6; simp at h6
      | some o' => rw [hq] at h6; exact ⟨o', rfl, by simpa using h6⟩
  · intro i j o o' d ho ho' hd hd'
    have h3 := (at_ i o ho).2
    rw [hd] at h3
    simp only [List.all_eq_true, List.mem_range] at h3
    have h4 := h3 j (Array.getElem?_eq_some_iff.1 ho').1
    rw [ho'] at h4
    simp [hd'] at h4
    exact h4.symm

theorem put_size (a : Act) (d : Option Tmp) (v : Value) : (a.put d v).tmps.size = a.tmps.size := by
  cases d <;> simp [Act.put]
theorem put_defers' (a : Act) (d : Option Tmp) (v : Value) : (a.put d v).defers = a.defers := by
  cases d <;> rfl
theorem put_other {a : Act} {d : Option Tmp} {v : Value} {t : Tmp} (h : d ≠ some t) : (a.put d v).tmps.getD t undef = a.tmps.getD t undef := by
  cases d with
  | none => rfl
  | some d =>
    have hne : d ≠ t := fun e => h (by rw [e])
    simp only [Act.put, Array.getD_eq_getD_getElem?, Array.getElem?_setIfInBounds_ne hne]
theorem put_self {a : Act} {d : Tmp} {v : Value} (h : d < a.tmps.size) : (a.put (some d) v).tmps.getD d undef = v := by
  simp [Act.put, Array.getD_eq_getD_getElem?, h]

/-- Where a region stands. -/
structure RegAt (ops : Array Oper) (w0 : World) (a0 : Act) (S : Nat → Value → World → Prop) (listed : Array Bool) (a : Act) (w : World) : Prop where
  below : Below w0.heap.size w0 w
  size : a.tmps.size = a0.tmps.size
  defers : a.defers = a0.defers
  rest : ∀ t, (∀ (j : Nat) (o : Oper), ops[j]? = some o → o.dst ≠ some t) → a.tmps.getD t undef = a0.tmps.getD t undef
  done : ∀ (j : Nat) (o : Oper) (d : Tmp), ops[j]? = some o → listed.getD j false = true → o.dst = some d → S d (a.tmps.getD d undef) w

variable {w0 : World} {a0 : Act} {S : Nat → Value → World → Prop} {outer : List Tmp} {Q : Exit → Act → World → Prop}

theorem ready_nil (hf : Flow md ops outer) {listed : Array Bool} (hsz : listed.size = ops.size) (h : Region.ready md ops listed = []) : ∀ i, i < ops.size → listed.getD i false = true := by
  intro i
  induction i using Nat.strongRecOn with
  | _ i ih =>
    intro hi
    cases hl : listed.getD i true with
    | true =>
      rw [Array.getD_eq_getD_getElem?, Array.getElem?_eq_getElem (by omega)] at hl ⊢
      simpa using hl
    | false =>
      have ho : ops[i]? = some ops[i] := Array.getElem?_eq_getElem hi
      have : i ∈ Region.ready md ops listed := mem_ready.2 ⟨hl, ops[i], ho, fun e he hb => ih e.on (hf.down i _ ho e he hb) (by have := hf.down i _ ho e he hb; omega)⟩
      rw [h] at this
      cases this

theorem wpAny_flow (hf : Flow md ops outer) (stable : ∀ t v w w', S t v w → Below w.heap.size w w' → S t v w')
    (hout : ∀ t ∈ outer, ∀ w, Below w0.heap.size w0 w → S t (a0.tmps.getD t undef) w)
    (hsize : ∀ (i : Nat) (o : Oper) (d : Tmp), ops[i]? = some o → o.dst = some d → d < a0.tmps.size)
    (hstep : ∀ (i : Nat) (o : Oper), ops[i]? = some o → StepOK P w0 S (o.looksAt ops) o)
    (hdone : ∀ a w, RegAt ops w0 a0 S (Array.replicate ops.size true) a w → Q .normal a w) :
    ∀ (fuel : Nat) (listed : Array Bool) (a : Act) (w : World), listed.size = ops.size → ops.size ≤ fuel + listed.toList.countP id → RegAt ops w0 a0 S listed a w → wpAny P md ops Q fuel listed a w
  | 0, listed, a, w, hsz, hfu, hI => by
    have hall : ∀ i, i < ops.size → listed.getD i false = true := by
      intro i hi
      have hle := List.countP_le_length (p := id) (l := listed.toList)
      have hl : listed.toList.length = ops.size := by simpa using hsz
      have heq : listed.toList.countP id = listed.toList.length := by omega
      rw [List.countP_eq_length] at heq
      have hm : listed[i]'(by omega) ∈ listed.toList := by simp
      have := heq _ hm
      rw [Array.getD_eq_getD_getElem?, Array.getElem?_eq_getElem (by omega)]
      simpa using this
    have hrn : Region.ready md ops listed = [] := by
      rw [List.eq_nil_iff_forall_not_mem]
      intro i hi
      obtain ⟨h0, o, ho, _⟩ := mem_ready.1 hi
      have hlt : i < ops.size := (Array.getElem?_eq_some_iff.1 ho).1
      have := hall i hlt
      rw [Array.getD_eq_getD_getElem?, Array.getElem?_eq_getElem (by omega)] at h0 this
      simp at h0 this
      rw [h0] at this
      cases this
    refine ⟨hrn, hdone a w ⟨hI.below, hI.size, hI.defers, hI.rest, fun j o d ho _ hd => hI.done j o d ho (hall j (Array.getElem?_eq_some_iff.1 ho).1) hd⟩⟩
  | fuel + 1, listed, a, w, hsz, hfu, hI => by
    refine ⟨fun hn => hdone a w ⟨hI.below, hI.size, hI.defers, hI.rest, fun j o d ho _ hd => hI.done j o d ho (ready_nil hf hsz hn j (Array.getElem?_eq_some_iff.1 ho).1) hd⟩, fun i hi => ?_⟩
    obtain ⟨h0, o, ho, hall⟩ := mem_ready.1 hi
    have hlt : i < ops.size := (Array.getElem?_eq_some_iff.1 ho).1
    unfold wpOp
    rw [ho]
    simp only
    have hw : Region.wanted o (yielded ops a.tmps) = true := by
      unfold Region.wanted
      rw [hf.plain i o ho]
    rw [if_pos hw]
    refine .inl (hstep i o ho a w _ Q hI.below ?_ ?_)
    · intro t ht
      rcases hf.reads i o ho t ht with h | ⟨e, he, hb, o', ho', hd'⟩
      · rw [hI.rest t (fun j o2 ho2 => hf.out t h j o2 ho2)]
        exact hout t h w hI.below
      · exact hI.done e.on o' t ho' (hall e he hb) hd'
    · intro v w' hb hS
      refine wpAny_flow hf stable hout hsize hstep hdone fuel _ _ _ (by simpa using hsz) ?_ ?_
      · have hl0 : listed[i]'(by omega) = false := by
          rw [Array.getD_eq_getD_getElem?, Array.getElem?_eq_getElem (by omega)] at h0
          simpa using h0
        have hc : (listed.setIfInBounds i true).toList.countP id = listed.toList.countP id + 1 := by
          rw [Array.toList_setIfInBounds, List.countP_set (by simpa using (show i < listed.size by omega))]
          simp [hl0]
        omega
      · refine ⟨hI.below.trans (hb.mono hI.below.size), by rw [put_size]; exact hI.size, by rw [put_defers']; exact hI.defers, ?_, ?_⟩
        · intro t ht
          rw [put_other (ht i o ho)]
          exact hI.rest t ht
        · intro j o' d ho' hj hd
          by_cases hji : i = j
          · subst hji
            rw [ho] at ho'
            injection ho' with ho'
            subst ho'
            rw [hd, put_self (by rw [hI.size]; exact hsize i o d ho hd)]
            exact hS d hd
          · rw [getD_set_ne false hji] at hj
            rw [put_other (fun e => hji (hf.once i j o o' d ho ho' e hd))]
            exact stable _ _ _ _ (hI.done j o' d ho' hj hd) hb

/-- The slots that an operation's operands name. -/
def tmpsOf (op : Op) : List Tmp := op.operands.toList.filterMap fun | .tmp t => some t | _ => none
theorem looksAt_plain {o : Oper} (h : o.guard = none) : o.looksAt ops = tmpsOf o.op := by
  unfold Oper.looksAt tmpsOf
  rw [h]
  simp only [List.append_nil]
  rfl
/-- What slots hold. -/
def Reads (S : Nat → Value → World → Prop) (a : Act) (w : World) : List Tmp → Prop
  | [] => True
  | t :: l => S t ((a.tmps[t]?).getD undef) w ∧ Reads S a w l
theorem Reads.of {a : Act} {w : World} : ∀ {l : List Tmp}, (∀ t ∈ l, S t (a.tmps.getD t undef) w) → Reads S a w l
  | [], _ => trivial
  | t :: l, h => ⟨by have := h t (by simp); rwa [Array.getD_eq_getD_getElem?] at this, Reads.of fun t' ht => h t' (by simp [ht])⟩
/-- What an operation leaves, of its own words alone. -/
def StepAt (P : Program) (w0 : World) (S : Nat → Value → World → Prop) (d : Option Tmp) (op : Op) (ty : TypeId) : Prop :=
  ∀ (a : Act) (w : World) (K : Act → World → Prop) (Q : Exit → Act → World → Prop), Below w0.heap.size w0 w → Reads S a w (tmpsOf op) →
    (∀ v w', Below w.heap.size w w' → (∀ t, d = some t → S t v w') → K (a.put d v) w') → ({ dst := d, op := op, type := ty, pos := "", after := #[], guard := none } : Oper).wp P a w K Q
/-- All steps of a list. -/
def AllSteps (P : Program) (w0 : World) (S : Nat → Value → World → Prop) : List Oper → Prop
  | [] => True
  | o :: l => StepAt P w0 S o.dst o.op o.type ∧ AllSteps P w0 S l
theorem AllSteps.nil : AllSteps P w0 S [] := trivial
theorem AllSteps.cons {d : Option Tmp} {op : Op} {ty : TypeId} {pos : String} {af : Array Edge} {gd : Option (Nat × Bool)} {l : List Oper} (h : StepAt P w0 S d op ty) (hl : AllSteps P w0 S l) :
    AllSteps P w0 S ({ dst := d, op := op, type := ty, pos := pos, after := af, guard := gd } :: l) := ⟨h, hl⟩
theorem AllSteps.at {l : List Oper} (h : AllSteps P w0 S l) : ∀ (i : Nat) (o : Oper), l[i]? = some o → StepOK P w0 S (tmpsOf o.op) o := by
  induction l with
  | nil => intro i o ho; simp at ho
  | cons x l ih =>
    intro i o ho
    cases i with
    | zero =>
      simp at ho
      subst ho
      exact fun a w K Q hB hr hK => h.1 a w K Q hB (Reads.of hr) hK
    | succ i => exact ih h.2 i o (by simpa using ho)
def dstsIn (n : Nat) (ops : Array Oper) : Bool := ops.all fun o => match o.dst with | none => true | some d => decide (d < n)

def outsIn (outs : List Tmp) (ops : Array Oper) : Bool := outs.all fun t => ops.any fun o => o.dst == some t

/-- A region that draws its order, by what each operation leaves: outer: slots that it doesn't write (those that it reads, and those that are read later); outs: those of what it writes that are read later. -/
theorem wp_region_flow {id : Nat} {l : List Oper} {a : Act} {w : World} (outer outs : List Tmp) (S : Nat → Value → World → Prop) (n : Nat) (hm : P.follows .mixedOrders = true) (hf : flowB .any l.toArray outer = true)
    (hn : a.tmps.size = n) (hd : dstsIn n l.toArray = true) (ho : outsIn outs l.toArray = true) (stable : ∀ t v w w', S t v w → Below w.heap.size w w' → S t v w')
    (hout : ∀ t ∈ outer, ∀ w', Below w.heap.size w w' → S t (a.tmps.getD t undef) w')
    (hstep : AllSteps P w S l)
    (hdone : ∀ a' w', Below w.heap.size w w' → a'.tmps.size = n → a'.defers = a.defers → (∀ t ∈ outer, a'.tmps.getD t undef = a.tmps.getD t undef) → (∀ t ∈ outs, S t (a'.tmps.getD t undef) w') → Q .normal a' w') :
    (Code.region id l.toArray true).wp P Q a w := by
  refine wp_region_any hm ?_
  have hfl := flow_of hf
  refine wpAny_flow (w0 := w) (a0 := a) hfl stable hout ?_ ?_ ?_ _ _ _ _ (by simp) (by omega) ?_
  · intro i o d ho hdo
    unfold dstsIn at hd
    rw [Array.all_eq_true_iff_forall_mem] at hd
    have := hd o (Array.mem_of_getElem? ho)
    rw [hdo] at this
    simpa [hn] using this
  · intro i o ho
    rw [looksAt_plain (hfl.plain i o ho)]
    exact hstep.at i o (by simpa using ho)
  · intro a' w' h
    refine hdone a' w' h.below (h.size.trans hn) h.defers (fun t ht => h.rest t (fun j o ho => hfl.out t ht j o ho)) (fun t ht => ?_)
    unfold outsIn at ho
    rw [List.all_eq_true] at ho
    have := ho t ht
    rw [Array.any_eq_true] at this
    obtain ⟨j, hj, e⟩ := this
    exact h.done j _ t (Array.getElem?_eq_getElem hj) (by rw [Array.getD_eq_getD_getElem?, Array.getElem?_replicate]; simp only [if_pos hj]; rfl) (by simpa using e)
  · refine ⟨?_, rfl, rfl, fun _ _ => rfl, ?_⟩
    · exact (Below.refl _ _).drew
    · intro j o d ho hj
      rw [Array.getD_eq_getD_getElem?] at hj
      have hlt : j < l.toArray.size := (Array.getElem?_eq_some_iff.1 ho).1
      rw [Array.getElem?_eq_getElem (by simpa using hlt)] at hj
      simp at hj
end

/-! ### .. the last operation of which waits for all others, and may write -/
section
variable {P : Program} {md : Region.Mode} {init : List Oper} {o : Oper} {w0 : World} {a0 : Act} {S : Nat → Value → World → Prop} {outer : List Tmp} {Q : Exit → Act → World → Prop}

/-- Every operation but the last is waited for by one behind it. -/
def coverB (md : Region.Mode) (ops : Array Oper) : Bool :=
  (List.range (ops.size - 1)).all fun i => (List.range ops.size).any fun j => decide (i < j) && match ops[j]? with
    | none => false
    | some o => o.after.any fun e => Region.binds md e && e.on == i
theorem cover_of {ops : Array Oper} (h : coverB md ops = true) {i : Nat} (hi : i < ops.size - 1) : ∃ j o, i < j ∧ ops[j]? = some o ∧ ∃ e ∈ o.after, Region.binds md e = true ∧ e.on = i := by
  unfold coverB at h
  rw [List.all_eq_true] at h
  have := h i (List.mem_range.2 hi)
  rw [List.any_eq_true] at this
  obtain ⟨j, hj, h2⟩ := this
  rw [Bool.and_eq_true, decide_eq_true_eq] at h2
  obtain ⟨h3, h4⟩ := h2
  cases hq : ops[j]? with
  | none => rw [hq] at h4; cases h4
  | some o =>
    rw [hq] at h4
    simp only at h4
    rw [Array.any_eq_true] at h4
    obtain ⟨k, hk, h5⟩ := h4
    rw [Bool.and_eq_true, beq_iff_eq] at h5
    exact ⟨j, o, h3, hq, o.after[k], Array.getElem_mem hk, h5.1, h5.2⟩

/-- Where a region stands, its last operation not yet come up. -/
structure RegL (md : Region.Mode) (ops : Array Oper) (w0 : World) (a0 : Act) (S : Nat → Value → World → Prop) (listed : Array Bool) (a : Act) (w : World) : Prop where
  below : Below w0.heap.size w0 w
  size : a.tmps.size = a0.tmps.size
  defers : a.defers = a0.defers
  rest : ∀ t, (∀ (j : Nat) (o : Oper), ops[j]? = some o → o.dst ≠ some t) → a.tmps.getD t undef = a0.tmps.getD t undef
  done : ∀ (j : Nat) (o : Oper) (d : Tmp), ops[j]? = some o → listed.getD j false = true → o.dst = some d → S d (a.tmps.getD d undef) w
  closed : ∀ (j : Nat) (o : Oper), ops[j]? = some o → listed.getD j false = true → ∀ e ∈ o.after, Region.binds md e = true → listed.getD e.on false = true
  open_ : listed.getD (ops.size - 1) true = false

theorem set_getD {listed : Array Bool} {i : Nat} (hi : i < listed.size) : (listed.setIfInBounds i true).getD i false = true := by
  rw [Array.getD_eq_getD_getElem?, Array.getElem?_setIfInBounds_self_of_lt hi]; rfl
theorem set_mono {listed : Array Bool} {i j : Nat} (h : listed.getD j false = true) : (listed.setIfInBounds i true).getD j false = true := by
  by_cases hij : i = j
  · subst hij
    have : i < listed.size := by
      rcases Nat.lt_or_ge i listed.size with h' | h'
      · exact h'
      · rw [Array.getD_eq_getD_getElem?, Array.getElem?_eq_none h'] at h; cases h
    exact set_getD this
  · rw [getD_set_ne false hij]; exact h

theorem all_listed {ops : Array Oper} (hc : coverB md ops = true) {listed : Array Bool} (hcl : ∀ (j : Nat) (o : Oper), ops[j]? = some o → listed.getD j false = true → ∀ e ∈ o.after, Region.binds md e = true → listed.getD e.on false = true)
    (hlast : ∀ o, ops[ops.size - 1]? = some o → ∀ e ∈ o.after, Region.binds md e = true → listed.getD e.on false = true) : ∀ n i, i < ops.size - 1 → ops.size - 1 - i ≤ n → listed.getD i false = true
  | 0, i, hi, hn => by omega
  | n + 1, i, hi, hn => by
    obtain ⟨j, o, hij, ho, e, he, hb, rfl⟩ := cover_of hc hi
    by_cases hj : j = ops.size - 1
    · subst hj; exact hlast o ho e he hb
    · have hjl : j < ops.size := (Array.getElem?_eq_some_iff.1 ho).1
      exact hcl j o ho (all_listed hc hcl hlast n j (by omega) (by omega)) e he hb

theorem wpAny_last {ops : Array Oper} (hf : Flow md ops outer) (hc : coverB md ops = true) (h0 : 0 < ops.size) (stable : ∀ t v w w', S t v w → Below w.heap.size w w' → S t v w')
    (hout : ∀ t ∈ outer, ∀ w, Below w0.heap.size w0 w → S t (a0.tmps.getD t undef) w)
    (hsize : ∀ (i : Nat) (o : Oper) (d : Tmp), ops[i]? = some o → o.dst = some d → d < a0.tmps.size)
    (hstep : ∀ (i : Nat) (o : Oper), ops[i]? = some o → i < ops.size - 1 → StepOK P w0 S (o.looksAt ops) o)
    (hlast : ∀ (o : Oper), ops[ops.size - 1]? = some o → ∀ listed a w, RegL md ops w0 a0 S listed a w → (∀ i, i < ops.size - 1 → listed.getD i false = true) → o.wp P a w (fun a' w' => Q .normal a' w') Q) :
    ∀ (fuel : Nat) (listed : Array Bool) (a : Act) (w : World), listed.size = ops.size → ops.size ≤ fuel + listed.toList.countP id → RegL md ops w0 a0 S listed a w → wpAny P md ops Q fuel listed a w
  | 0, listed, a, w, hsz, hfu, hI => by
    exfalso
    have hle := List.countP_le_length (p := id) (l := listed.toList)
    have hl : listed.toList.length = ops.size := by simpa using hsz
    have heq : listed.toList.countP id = listed.toList.length := by omega
    rw [List.countP_eq_length] at heq
    have hlt : ops.size - 1 < listed.size := by omega
    have hm : listed[ops.size - 1]'hlt ∈ listed.toList := by simp
    have := heq _ hm
    have hop := hI.open_
    rw [Array.getD_eq_getD_getElem?, Array.getElem?_eq_getElem hlt] at hop
    simp at this hop
    rw [this] at hop
    cases hop
  | fuel + 1, listed, a, w, hsz, hfu, hI => by
    have hnn : ¬ Region.ready md ops listed = [] := fun hn => by
      have := ready_nil hf hsz hn (ops.size - 1) (by omega)
      have hop := hI.open_
      have hlt : ops.size - 1 < listed.size := by omega
      rw [Array.getD_eq_getD_getElem?, Array.getElem?_eq_getElem hlt] at hop this
      simp at hop this
      rw [this] at hop
      cases hop
    refine ⟨fun hn => absurd hn hnn, fun i hi => ?_⟩
    obtain ⟨hl0, o, ho, hall⟩ := mem_ready.1 hi
    have hlt : i < ops.size := (Array.getElem?_eq_some_iff.1 ho).1
    unfold wpOp
    rw [ho]
    simp only
    have hw : Region.wanted o (yielded ops a.tmps) = true := by
      unfold Region.wanted
      rw [hf.plain i o ho]
    rw [if_pos hw]
    by_cases hil : i = ops.size - 1
    · subst hil
      have hal := all_listed hc hI.closed (fun o' ho' e he hb => by rw [ho] at ho'; injection ho' with ho'; subst ho'; exact hall e he hb) ops.size
      have hal' : ∀ i, i < ops.size - 1 → listed.getD i false = true := fun i hi => hal i hi (by omega)
      refine .inl (Oper.wp_mono (fun a' w' hq => ?_) (hlast o ho listed a w hI hal'))
      have hrn : Region.ready md ops (listed.setIfInBounds (ops.size - 1) true) = [] := by
        rw [List.eq_nil_iff_forall_not_mem]
        intro k hk
        obtain ⟨hk0, ok, hok, _⟩ := mem_ready.1 hk
        have hkl : k < ops.size := (Array.getElem?_eq_some_iff.1 hok).1
        have hkt : (listed.setIfInBounds (ops.size - 1) true).getD k false = true := by
          by_cases hkn : k = ops.size - 1
          · subst hkn; exact set_getD (by omega)
          · exact set_mono (hal' k (by omega))
        have hks : k < (listed.setIfInBounds (ops.size - 1) true).size := by simpa using (by omega : k < listed.size)
        rw [Array.getD_eq_getD_getElem?, Array.getElem?_eq_getElem hks] at hk0 hkt
        simp only [Option.getD_some] at hk0 hkt
        rw [hk0] at hkt
        cases hkt
      cases fuel with
      | zero => exact ⟨hrn, hq⟩
      | succ f => exact ⟨fun _ => hq, fun k hk => by rw [hrn] at hk; cases hk⟩
    · refine .inl (hstep i o ho (by omega) a w _ Q hI.below ?_ ?_)
      · intro t ht
        rcases hf.reads i o ho t ht with h | ⟨e, he, hb, o', ho', hd'⟩
        · rw [hI.rest t (fun j o2 ho2 => hf.out t h j o2 ho2)]
          exact hout t h w hI.below
        · exact hI.done e.on o' t ho' (hall e he hb) hd'
      · intro v w' hb hS
        have hli : i < listed.size := by omega
        refine wpAny_last hf hc h0 stable hout hsize hstep hlast fuel _ _ _ (by simpa using hsz) ?_ ?_
        · have hlf : listed[i]'hli = false := by
            rw [Array.getD_eq_getD_getElem?, Array.getElem?_eq_getElem hli] at hl0
            simpa using hl0
          have hcn : (listed.setIfInBounds i true).toList.countP id = listed.toList.countP id + 1 := by
            rw [Array.toList_setIfInBounds, List.countP_set (by simpa using hli)]
            simp [hlf]
          omega
        · refine ⟨hI.below.trans (hb.mono hI.below.size), by rw [put_size]; exact hI.size, by rw [put_defers']; exact hI.defers, ?_, ?_, ?_, ?_⟩
          · intro t ht
            rw [put_other (ht i o ho)]
            exact hI.rest t ht
          · intro j o' d ho' hj hd
            by_cases hji : i = j
            · subst hji
              rw [ho] at ho'
              injection ho' with ho'
              subst ho'
              rw [hd, put_self (by rw [hI.size]; exact hsize i o d ho hd)]
              exact hS d hd
            · rw [getD_set_ne false hji] at hj
              rw [put_other (fun e => hji (hf.once i j o o' d ho ho' e hd))]
              exact stable _ _ _ _ (hI.done j o' d ho' hj hd) hb
          · intro j o' ho' hj e he hbd
            by_cases hji : i = j
            · subst hji
              rw [ho] at ho'
              injection ho' with ho'
              subst ho'
              exact set_mono (hall e he hbd)
            · rw [getD_set_ne false hji] at hj
              exact set_mono (hI.closed j o' ho' hj e he hbd)
          · rw [getD_set_ne true hil]
            exact hI.open_

/-- A region that draws its order, the last operation of which waits for all others: that one is met by itself. -/
theorem wp_region_last {id : Nat} {a : Act} {w : World} (outer outs : List Tmp) (S : Nat → Value → World → Prop) (n : Nat) (hm : P.follows .mixedOrders = true) (hf : flowB .any (init ++ [o]).toArray outer = true) (hc : coverB .any (init ++ [o]).toArray = true)
    (hn : a.tmps.size = n) (hd : dstsIn n (init ++ [o]).toArray = true) (ho : outsIn outs init.toArray = true) (stable : ∀ t v w w', S t v w → Below w.heap.size w w' → S t v w')
    (hout : ∀ t ∈ outer, ∀ w', Below w.heap.size w w' → S t (a.tmps.getD t undef) w')
    (hstep : AllSteps P w S init)
    (hlast : ∀ a' w', Below w.heap.size w w' → a'.tmps.size = n → a'.defers = a.defers → (∀ t ∈ outer, a'.tmps.getD t undef = a.tmps.getD t undef) → (∀ t ∈ outs, S t (a'.tmps.getD t undef) w') → o.wp P a' w' (fun a'' w'' => Q .normal a'' w'') Q) :
    (Code.region id (init ++ [o]).toArray true).wp P Q a w := by
  refine wp_region_any hm ?_
  have hfl := flow_of hf
  have hsz : (init ++ [o]).toArray.size = init.length + 1 := by simp
  refine wpAny_last (w0 := w) (a0 := a) hfl hc (by omega) stable hout ?_ ?_ ?_ _ _ _ _ (by simp) (by omega) ?_
  · intro i o' d ho' hdo
    unfold dstsIn at hd
    rw [Array.all_eq_true_iff_forall_mem] at hd
    have := hd o' (Array.mem_of_getElem? ho')
    rw [hdo] at this
    simpa [hn] using this
  · intro i o' ho' hi
    rw [looksAt_plain (hfl.plain i o' ho')]
    refine hstep.at i o' ?_
    rw [hsz] at hi
    rw [List.getElem?_toArray, List.getElem?_append_left (by omega)] at ho'
    exact ho'
  · intro o' ho' listed a' w' h hal
    rw [hsz] at ho' hal
    have he : o' = o := by
      rw [List.getElem?_toArray, List.getElem?_append_right (by omega)] at ho'
      simpa using ho'.symm
    subst he
    refine hlast a' w' h.below (h.size.trans hn) h.defers (fun t ht => h.rest t (fun j o ho => hfl.out t ht j o ho)) (fun t ht => ?_)
    unfold outsIn at ho
    rw [List.all_eq_true] at ho
    have := ho t ht
    rw [Array.any_eq_true] at this
    obtain ⟨j, hj, e⟩ := this
    have hj' : j < init.length := by simpa using hj
    refine h.done j (init[j]) t ?_ (hal j (by omega)) (by simpa using e)
    rw [List.getElem?_toArray, List.getElem?_append_left hj', List.getElem?_eq_getElem hj']
  · refine ⟨?_, rfl, rfl, fun _ _ => rfl, ?_, ?_, ?_⟩
    · exact (Below.refl _ _).drew
    · intro j o' d ho' hj
      rw [Array.getD_eq_getD_getElem?] at hj
      have hlt : j < (init ++ [o]).toArray.size := (Array.getElem?_eq_some_iff.1 ho').1
      rw [Array.getElem?_eq_getElem (by simpa using hlt)] at hj
      simp at hj
    · intro j o' ho' hj
      rw [Array.getD_eq_getD_getElem?] at hj
      have hlt : j < (init ++ [o]).toArray.size := (Array.getElem?_eq_some_iff.1 ho').1
      rw [Array.getElem?_eq_getElem (by simpa using hlt)] at hj
      simp at hj
    · rw [Array.getD_eq_getD_getElem?, Array.getElem?_eq_getElem (by simp)]
      simp
end
/-- A frame by its slots. -/
theorem act_eta {n : Nat} (a : Act) (h : a.tmps.size = n) : a = ⟨((List.range n).map fun i => a.tmps.getD i undef).toArray, a.defers⟩ := by
  obtain ⟨t, d⟩ := a
  congr 1
  apply Array.ext
  · simpa using h
  · intro i h1 h2
    simp [Array.getD_eq_getD_getElem?, Array.getElem?_eq_getElem h1]
end Go.Proofs.Ytbhlgceicfjncaa
