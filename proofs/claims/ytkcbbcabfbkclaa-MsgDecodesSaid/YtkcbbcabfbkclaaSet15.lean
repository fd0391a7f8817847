/-
  Joined: RegionR, MsgTmA.
-/
import Derived.Test.YtkcbbcabfbkclaaRegion
import Derived.Test.YtkcbbcabfbkclaaMsgTmMath
import Derived.Test.YtkcbbcabfbkclaaMsgProject
import Derived.Deep.MidRow
namespace Go.Proofs.Ytkcbbcabfbkclaa
open Go.RowKit
set_option linter.unusedVariables false
set_option linter.unnecessarySimpa false
set_option linter.unusedSimpArgs false
set_option maxRecDepth 100000

section
variable {P : Program} {ops : Array Oper} {md : Region.Mode}

/-- What an operation leaves, wherever it comes up: S says of each slot what it holds, T of each operation what holds of the world behind it. -/
def StepR (P : Program) (Rl : World → World → Prop) (w0 : World) (S : Nat → Value → World → Prop) (T : Nat → World → Prop) (rs : List Tmp) (i : Nat) (o : Oper) : Prop :=
  ∀ (a : Act) (w : World) (K : Act → World → Prop) (Q : Exit → Act → World → Prop), Rl w0 w → (∀ t ∈ rs, S t (a.tmps.getD t undef) w) →
    (∀ v w', Rl w w' → T i w' → (∀ d, o.dst = some d → S d v w') → K (a.put o.dst v) w') → o.wp P a w K Q

structure RegR (ops : Array Oper) (Rl : World → World → Prop) (w0 : World) (a0 : Act) (S : Nat → Value → World → Prop) (T : Nat → World → Prop) (listed : Array Bool) (a : Act) (w : World) : Prop where
  rel : Rl w0 w
  size : a.tmps.size = a0.tmps.size
  defers : a.defers = a0.defers
  rest : ∀ t, (∀ (j : Nat) (o : Oper), ops[j]? = some o → o.dst ≠ some t) → a.tmps.getD t undef = a0.tmps.getD t undef
  done : ∀ (j : Nat) (o : Oper) (d : Tmp), ops[j]? = some o → listed.getD j false = true → o.dst = some d → S d (a.tmps.getD d undef) w
  facts : ∀ j, j < ops.size → listed.getD j false = true → T j w

variable {Rl : World → World → Prop} {w0 : World} {a0 : Act} {S : Nat → Value → World → Prop} {T : Nat → World → Prop} {outer : List Tmp} {Q : Exit → Act → World → Prop}

theorem wpAny_rel (hf : Flow md ops outer) (trans : ∀ x y z, Rl x y → Rl y z → Rl x z) (stable : ∀ t v w w', S t v w → Rl w w' → S t v w') (stableT : ∀ i w w', T i w → Rl w w' → T i w')
    (hout : ∀ t ∈ outer, ∀ w, Rl w0 w → S t (a0.tmps.getD t undef) w)
    (hsize : ∀ (i : Nat) (o : Oper) (d : Tmp), ops[i]? = some o → o.dst = some d → d < a0.tmps.size)
    (hstep : ∀ (i : Nat) (o : Oper), ops[i]? = some o → StepR P Rl w0 S T (o.looksAt ops) i o)
    (hdone : ∀ a w, RegR ops Rl w0 a0 S T (Array.replicate ops.size true) a w → Q .normal a w) :
    ∀ (fuel : Nat) (listed : Array Bool) (a : Act) (w : World), listed.size = ops.size → ops.size ≤ fuel + listed.toList.countP id → RegR ops Rl w0 a0 S T listed a w → wpAny P md ops Q fuel listed a w
  | 0, listed, a, w, hsz, hfu, hI => by
    have hall : ∀ i, i < ops.size → listed.getD i false = true := by
      intro i hi
      have hle := List.countP_le_length (p := id) (l := listed.toList)
      have hl : listed.toList.length = ops.size := by simpa using hsz
      have heq : listed.toList.countP id = listed.toList.length := by omega
      rw [List.countP_eq_length] at heq
      have hm : listed[i]'(by omega) ∈ listed.toList := by simp
      have := heq _ hm
      rw [Array.getD_eq_getD_getElem?, Array.getElem?_eq_getElem (by omega)]
      simpa using this
    have hrn : Region.ready md ops listed = [] := by
      rw [List.eq_nil_iff_forall_not_mem]
      intro i hi
      obtain ⟨h0, o, ho, _⟩ := mem_ready.1 hi
      have hlt : i < ops.size := (Array.getElem?_eq_some_iff.1 ho).1
      have := hall i hlt
      rw [Array.getD_eq_getD_getElem?, Array.getElem?_eq_getElem (by omega)] at h0 this
      simp at h0 this
      rw [h0] at this
      cases this
    exact ⟨hrn, hdone a w ⟨hI.rel, hI.size, hI.defers, hI.rest, fun j o d ho _ hd => hI.done j o d ho (hall j (Array.getElem?_eq_some_iff.1 ho).1) hd, fun j hj _ => hI.facts j hj (hall j hj)⟩⟩
  | fuel + 1, listed, a, w, hsz, hfu, hI => by
    refine ⟨fun hn => hdone a w ⟨hI.rel, hI.size, hI.defers, hI.rest, fun j o d ho _ hd => hI.done j o d ho (ready_nil hf hsz hn j (Array.getElem?_eq_some_iff.1 ho).1) hd, fun j hj _ => hI.facts j hj (ready_nil hf hsz hn j hj)⟩, fun i hi => ?_⟩
    obtain ⟨h0, o, ho, hall⟩ := mem_ready.1 hi
    have hlt : i < ops.size := (Array.getElem?_eq_some_iff.1 ho).1
    unfold wpOp
    rw [ho]
    simp only
    have hw : Region.wanted o (yielded ops a.tmps) = true := by
      unfold Region.wanted
      rw [hf.plain i o ho]
    rw [if_pos hw]
    refine .inl (hstep i o ho a w _ Q hI.rel ?_ ?_)
    · intro t ht
      rcases hf.reads i o ho t ht with h | ⟨e, he, hb, o', ho', hd'⟩
      · rw [hI.rest t (fun j o2 ho2 => hf.out t h j o2 ho2)]
        exact hout t h w hI.rel
      · exact hI.done e.on o' t ho' (hall e he hb) hd'
    · intro v w' hb hT hS
      refine wpAny_rel hf trans stable stableT hout hsize hstep hdone fuel _ _ _ (by simpa using hsz) ?_ ?_
      · have hl0 : listed[i]'(by omega) = false := by
          rw [Array.getD_eq_getD_getElem?, Array.getElem?_eq_getElem (by omega)] at h0
          simpa using h0
        have hc : (listed.setIfInBounds i true).toList.countP id = listed.toList.countP id + 1 := by
          rw [Array.toList_setIfInBounds, List.countP_set (by simpa using (show i < listed.size by omega))]
          simp [hl0]
        omega
      · refine ⟨trans _ _ _ hI.rel hb, by rw [put_size]; exact hI.size, by rw [put_defers']; exact hI.defers, ?_, ?_, ?_⟩
        · intro t ht
          rw [put_other (ht i o ho)]
          exact hI.rest t ht
        · intro j o' d ho' hj hd
          by_cases hji : i = j
          · subst hji
            rw [ho] at ho'
            injection ho' with ho'
            subst ho'
            rw [hd, put_self (by rw [hI.size]; exact hsize i o d ho hd)]
            exact hS d hd
          · rw [getD_set_ne false hji] at hj
            rw [put_other (fun e => hji (hf.once i j o o' d ho ho' e hd))]
            exact stable _ _ _ _ (hI.done j o' d ho' hj hd) hb
        · intro j hj hjl
          by_cases hji : i = j
          · subst hji; exact hT
          · rw [getD_set_ne false hji] at hjl
            exact stableT _ _ _ (hI.facts j hj hjl) hb

/-- What an operation leaves, of its own words alone. -/
def StepAtR (P : Program) (Rl : World → World → Prop) (w0 : World) (S : Nat → Value → World → Prop) (T : Nat → World → Prop) (i : Nat) (d : Option Tmp) (op : Op) (ty : TypeId) : Prop :=
  ∀ (a : Act) (w : World) (K : Act → World → Prop) (Q : Exit → Act → World → Prop), Rl w0 w → Reads S a w (tmpsOf op) →
    (∀ v w', Rl w w' → T i w' → (∀ t, d = some t → S t v w') → K (a.put d v) w') → ({ dst := d, op := op, type := ty, pos := "", after := #[], guard := none } : Oper).wp P a w K Q
def AllStepsR (P : Program) (Rl : World → World → Prop) (w0 : World) (S : Nat → Value → World → Prop) (T : Nat → World → Prop) : Nat → List Oper → Prop
  | _, [] => True
  | i, o :: l => StepAtR P Rl w0 S T i o.dst o.op o.type ∧ AllStepsR P Rl w0 S T (i + 1) l
theorem AllStepsR.nil {i : Nat} : AllStepsR P Rl w0 S T i [] := trivial
theorem AllStepsR.cons {i : Nat} {d : Option Tmp} {op : Op} {ty : TypeId} {pos : String} {af : Array Edge} {gd : Option (Nat × Bool)} {l : List Oper} (h : StepAtR P Rl w0 S T i d op ty) (hl : AllStepsR P Rl w0 S T (i + 1) l) :
    AllStepsR P Rl w0 S T i ({ dst := d, op := op, type := ty, pos := pos, after := af, guard := gd } :: l) := ⟨h, hl⟩
theorem AllStepsR.at {l : List Oper} : ∀ {k : Nat} (h : AllStepsR P Rl w0 S T k l) (i : Nat) (o : Oper), l[i]? = some o → StepR P Rl w0 S T (tmpsOf o.op) (k + i) o := by
  induction l with
  | nil => intro k h i o ho; simp at ho
  | cons x l ih =>
    intro k h i o ho
    cases i with
    | zero =>
      simp at ho
      subst ho
      exact fun a w K Q hB hr hK => h.1 a w K Q hB (Reads.of hr) hK
    | succ i =>
      have := ih h.2 i o (by simpa using ho)
      rw [show k + (i + 1) = k + 1 + i by omega]
      exact this

/-- A region that draws its order, over whichever relation of worlds. -/
theorem wp_region_rel {id : Nat} {l : List Oper} {a : Act} {w : World} (outer outs : List Tmp) (Rl : World → World → Prop) (S : Nat → Value → World → Prop) (T : Nat → World → Prop) (n : Nat) (hm : P.follows .mixedOrders = true) (hf : flowB .any l.toArray outer = true)
    (hn : a.tmps.size = n) (hd : dstsIn n l.toArray = true) (ho : outsIn outs l.toArray = true) (hdrew : Rl w w.drew) (trans : ∀ x y z, Rl x y → Rl y z → Rl x z)
    (stable : ∀ t v w w', S t v w → Rl w w' → S t v w') (stableT : ∀ i w w', T i w → Rl w w' → T i w')
    (hout : ∀ t ∈ outer, ∀ w', Rl w w' → S t (a.tmps.getD t undef) w')
    (hstep : AllStepsR P Rl w S T 0 l)
    (hdone : ∀ a' w', Rl w w' → a'.tmps.size = n → a'.defers = a.defers → (∀ t ∈ outer, a'.tmps.getD t undef = a.tmps.getD t undef) → (∀ t ∈ outs, S t (a'.tmps.getD t undef) w') → (∀ i, i < l.length → T i w') → Q .normal a' w') :
    (Code.region id l.toArray true).wp P Q a w := by
  refine wp_region_any hm ?_
  have hfl := flow_of hf
  refine wpAny_rel (w0 := w) (a0 := a) (Rl := Rl) (S := S) (T := T) hfl trans stable stableT hout ?_ ?_ ?_ _ _ _ _ (by simp) (by omega) ?_
  · intro i o d ho hdo
    unfold dstsIn at hd
    rw [Array.all_eq_true_iff_forall_mem] at hd
    have := hd o (Array.mem_of_getElem? ho)
    rw [hdo] at this
    simpa [hn] using this
  · intro i o ho
    rw [looksAt_plain (hfl.plain i o ho)]
    have := hstep.at i o (by simpa using ho)
    rw [Nat.zero_add] at this
    exact this
  · intro a' w' h
    refine hdone a' w' h.rel (h.size.trans hn) h.defers (fun t ht => h.rest t (fun j o ho => hfl.out t ht j o ho)) (fun t ht => ?_) (fun i hi => h.facts i (by simpa using hi) (by rw [Array.getD_eq_getD_getElem?, Array.getElem?_replicate]; simp only [if_pos (show i < l.toArray.size by simpa using hi)]; rfl))
    unfold outsIn at ho
    rw [List.all_eq_true] at ho
    have := ho t ht
    rw [Array.any_eq_true] at this
    obtain ⟨j, hj, e⟩ := this
    exact h.done j _ t (Array.getElem?_eq_getElem hj) (by rw [Array.getD_eq_getD_getElem?, Array.getElem?_replicate]; simp only [if_pos hj]; rfl) (by simpa using e)
  · refine ⟨hdrew, rfl, rfl, fun _ _ => rfl, ?_, ?_⟩
    · intro j o d ho hj
      rw [Array.getD_eq_getD_getElem?] at hj
      have hlt : j < l.toArray.size := (Array.getElem?_eq_some_iff.1 ho).1
      rw [Array.getElem?_eq_getElem (by simpa using hlt)] at hj
      simp at hj
    · intro j hj hjl
      rw [Array.getD_eq_getD_getElem?, Array.getElem?_eq_getElem (by simpa using hj)] at hjl
      simp at hjl
end
end Go.Proofs.Ytkcbbcabfbkclaa

namespace Go.Proofs.Ytkcbbcabfbkclaa
open Go.RowKit
set_option linter.unusedVariables false
set_option linter.unnecessarySimpa false
set_option linter.unusedSimpArgs false
set_option maxRecDepth 100000

theorem taken_size : (Try.prog.info? 78).map (·.size) = some 19 := by kernel_rfl
def zeroTaken : Array Value := #[.int .i64 0, .int .i64 0, .int .i64 0, .int .i64 0, .int .i64 0, .int .i64 0, .int .u64 0, .int .u64 0, .string ⟨#[]⟩, .bool false, .int .u64 0, .bool false, .string ⟨#[]⟩, .slice none 0 0, .string ⟨#[]⟩, .int .u64 0, .int .u64 0, .int .i64 0, .bool false]
theorem zeroTaken_one : zeroTaken.all (·.oneCell') = true := by simp [zeroTaken, Value.oneCell']
/-- What stands behind the message. -/
abbrev tkE (left : Nat) (crit : Bool) : Array Value × TypeId := (#[.int .i64 left, .bool crit], 78)
theorem tk_ret {w : World} {g : Nat} {cs : Array Value} {fn : Func} {p u : Tmp} {tmps : Array Value} {v : Value} (h : w.heap[g]? = some (.cells cs 78 (0, 0))) (hcs : cs.size = 19)
    (hf : fn.results = #[.cell p 78, .tmp u]) (hp : tmps.getD p undef = .pointer (some ⟨g, 0, none⟩)) (hv : tmps.getD u undef = v) :
    (results fn tmps).run Try.prog w = .ok (.tuple #[.agg cs, v]) w :=
  results_row_tmp hf tmps w g _ _ _ _ v hp h Try.underlying78 rfl (by rw [hcs]; exact taken_size) hv

/-! ### The block that is put together -/
section
variable {E : Array Value × TypeId} {G c : Nat} {m : Mg} {sl : Value} {w w1 w2 : World} {left : Nat} {crit : Bool}
theorem Kept2.refl (G c : Nat) (w : World) : Kept2 G c w w := ⟨rfl, rfl, rfl, Nat.le_refl _, fun _ _ _ _ => rfl⟩
theorem Kept2.trans (h1 : Kept2 G c w w1) (h2 : Kept2 G c w1 w2) : Kept2 G c w w2 :=
  ⟨h2.os.trans h1.os, h2.tape.trans h1.tape, h2.output.trans h1.output, Nat.le_trans h1.size h2.size, fun k hk hG hc => (h2.block k (Nat.lt_of_lt_of_le hk h1.size) hG hc).trans (h1.block k hk hG hc)⟩
theorem Kept2.of_G (h : w.grownBy w1 (some G)) : Kept2 G c w w1 := ⟨h.os, h.tape, h.output, h.size, fun k hk hG _ => h.block k hk (fun e => hG (by injection e))⟩
theorem Kept2.below (h : Kept2 G c w1 w2) (hb : Below w.heap.size w w1) (hG : w.heap.size ≤ G) (hc : w.heap.size ≤ c) : Below w.heap.size w w2 :=
  ⟨h.os.trans hb.os, h.tape.trans hb.tape, h.output.trans hb.output, Nat.le_trans hb.size h.size, fun k hk => (h.block k (Nat.lt_of_lt_of_le hk hb.size) (by omega) (by omega)).trans (hb.block k hk)⟩
theorem Kept2.row (h : Kept2 G c w w1) {k : Nat} {o : Obj} (hk : w.heap[k]? = some o) (hG : k ≠ G) (hc : k ≠ c) : w1.heap[k]? = some o := (h.block k (Array.getElem?_eq_some_iff.1 hk).1 hG hc).trans hk
theorem MsgAt.grown (h : MsgAt E G m sl w) (hg : w.grownBy w1 (some c)) (hne : G ≠ c) (hc : sl.ownBlock ≠ some c) : MsgAt E G m sl w1 :=
  ⟨grown_row hg h.row hne, h.ws.stay hg.size fun k e hlt => hg.block k hlt (fun q => hc (by rw [e]; exact q)), h.far, fun k e => Nat.lt_of_lt_of_le (h.bnd k e) hg.size⟩
theorem ext17 {C : Array Value} (hC : C.size = 17) (a b v : Value) : (C ++ #[a, b]).setIfInBounds 17 v = C ++ #[v, b] := by
  apply Array.toList_inj.1
  rw [Array.toList_setIfInBounds, Array.toList_append, Array.toList_append, List.set_append_right _ _ (by rw [Array.length_toList, hC]; exact Nat.le_refl _), Array.length_toList, hC]
  rfl
theorem ext18 {C : Array Value} (hC : C.size = 17) (a b v : Value) : (C ++ #[a, b]).setIfInBounds 18 v = C ++ #[a, v] := by
  apply Array.toList_inj.1
  rw [Array.toList_setIfInBounds, Array.toList_append, Array.toList_append, List.set_append_right _ _ (by rw [Array.length_toList, hC]; decide), Array.length_toList, hC]
  rfl
theorem ext_at {C : Array Value} (hC : C.size = 17) (a b : Value) : (C ++ #[a, b])[17]? = some a ∧ (C ++ #[a, b])[18]? = some b := by
  constructor
  · rw [Array.getElem?_append_right (by omega), hC]; rfl
  · rw [Array.getElem?_append_right (by omega), hC]; rfl
theorem MsgAt.c17 (h : MsgAt (tkE left crit) G m sl w) : w.cell? ⟨G, 17, none⟩ = some (.int .i64 left) := by
  have := h.row
  unfold rowE at this
  simp only [World.cell?, this]
  exact (ext_at (C := m.cells sl) rfl _ _).1
theorem MsgAt.c18 (h : MsgAt (tkE left crit) G m sl w) : w.cell? ⟨G, 18, none⟩ = some (.bool crit) := by
  have := h.row
  unfold rowE at this
  simp only [World.cell?, this]
  exact (ext_at (C := m.cells sl) rfl _ _).2
theorem MsgAt.free (h : MsgAt E G m sl w) (k : Nat) : w.frozen? ⟨G, k, none⟩ = false := free_row h.row
theorem MsgAt.stay1 (h : MsgAt E G m sl w) {E' : Array Value × TypeId} {k : Nat} {v : Value} (hrow : (w.setCell ⟨G, k, none⟩ v).heap[G]? = some (rowE E' m sl)) : MsgAt E' G m sl (w.setCell ⟨G, k, none⟩ v) := by
  have hz : (w.setCell ⟨G, k, none⟩ v).heap.size = w.heap.size := by simp [World.setCell]
  refine ⟨hrow, h.ws.stay (by rw [hz]; exact Nat.le_refl _) (fun j e _ => Below.heap_setCell w _ v j (fun q => h.far (by rw [e, q]))), h.far, fun j e => by rw [hz]; exact h.bnd j e⟩
theorem MsgAt.put17 (h : MsgAt (tkE left crit) G m sl w) (n : Nat) : MsgAt (tkE n crit) G m sl (w.setCell ⟨G, 17, none⟩ (.int .i64 (n : Int))) := by
  refine h.stay1 ?_
  rw [heap_set h.row, ext17 rfl]
  rfl
theorem MsgAt.put18 (h : MsgAt (tkE left crit) G m sl w) (b : Bool) : MsgAt (tkE left b) G m sl (w.setCell ⟨G, 18, none⟩ (.bool b)) := by
  refine h.stay1 ?_
  rw [heap_set h.row, ext18 rfl]
  rfl
theorem kept_set {k : Nat} {v : Value} : Kept2 G c w (w.setCell ⟨G, k, none⟩ v) := (Kept2.refl G c w).set
end

/-! ### A field off the cursor; where the program begins -/
theorem one_cases (l : List UInt8) (bad : Bool) : ((txT (nxt (ar l, bad))).2 = true ∧ (bad = true ∨ oneS l = none)) ∨
    (bad = false ∧ ∃ h t r, oneS l = some (h, t, r) ∧ (cUint (ar l) bad).1 = h ∧ tx (nxt (ar l, bad)) = ar t ∧ txT (nxt (ar l, bad)) = (ar r, false) ∧ r.length < l.length ∧ t.length ≤ l.length ∧ h < 18446744073709551616) := by
  cases bad with
  | true => exact .inl ⟨by rw [nxt_bad, txT_bad], .inl rfl⟩
  | false =>
    cases h : oneS l with
    | none => exact .inl ⟨one_none h, .inr rfl⟩
    | some p =>
      obtain ⟨hd, t, r⟩ := p
      have h1 := one_some h
      have h2 := oneS_some h
      refine .inr ⟨rfl, hd, t, r, rfl, h1.1, h1.2.1, h1.2.2, h2.2.2.2, ?_, h2.2.1⟩
      have := congrArg List.length h2.1
      simp only [List.length_append] at this
      omega
theorem tm_init (last : Nat) (b : List UInt8) : ∃ l bad, nxt (ar b, false) = (ar l, bad) ∧ l.length ≤ b.length ∧ TmSt last (preB last b) 0 { mg0 with kind := ((cInt (ar b) false : Nat) : Int) } 0 false l bad := by
  unfold preB
  cases h : tk b with
  | none => exact ⟨b, true, nxt_none h, Nat.le_refl _, .inl ⟨rfl, rfl⟩⟩
  | some p =>
    obtain ⟨n, k⟩ := p
    refine ⟨b.drop k, false, nxt_some h, by rw [List.length_drop]; omega, .inr ⟨rfl, ?_⟩⟩
    simp only
    have e : cInt (ar b) false = min n 2147483648 := i_some h
    rw [e]
    by_cases h9 : n ≤ 9
    · left
      rw [if_pos h9, show min n 2147483648 = n by omega]
      rfl
    · right
      refine ⟨if_neg h9, 0, Nat.le_refl _, ?_⟩
      show kindOK _ = false
      unfold kindOK
      exact decide_eq_false (by show ¬ (1 ≤ ((min n 2147483648 : Nat) : Int) ∧ ((min n 2147483648 : Nat) : Int) ≤ 9); omega)

/-! ### Worlds in which block R alone turns, to D -/
structure OneTo (R : Nat) (o : Obj) (w w' : World) : Prop where
  os : w'.os = w.os
  tape : w'.tape = w.tape
  output : w'.output = w.output
  size : w'.heap.size = w.heap.size
  block : ∀ k, k ≠ R → w'.heap[k]? = w.heap[k]?
  at_ : w'.heap[R]? = w.heap[R]? ∨ w'.heap[R]? = some o
section
variable {R : Nat} {o : Obj} {w w1 w2 : World}
theorem OneTo.refl : OneTo R o w w := ⟨rfl, rfl, rfl, rfl, fun _ _ => rfl, .inl rfl⟩
theorem OneTo.drew : OneTo R o w w.drew := ⟨rfl, rfl, rfl, rfl, fun _ _ => rfl, .inl rfl⟩
theorem OneTo.trans (h1 : OneTo R o w w1) (h2 : OneTo R o w1 w2) : OneTo R o w w2 :=
  ⟨h2.os.trans h1.os, h2.tape.trans h1.tape, h2.output.trans h1.output, h2.size.trans h1.size, fun k hk => (h2.block k hk).trans (h1.block k hk), by
    rcases h2.at_ with h | h
    · rw [h]; exact h1.at_
    · exact .inr h⟩
theorem OneTo.done (h : OneTo R o w w1) (hr : w.heap[R]? = some o) : w1.heap[R]? = some o := by
  rcases h.at_ with h | h
  · rw [h, hr]
  · exact h
theorem OneTo.below {w0 : World} (h : OneTo R o w w1) (hb : Below w0.heap.size w0 w) (hR : w0.heap.size ≤ R) : Below w0.heap.size w0 w1 :=
  ⟨h.os.trans hb.os, h.tape.trans hb.tape, h.output.trans hb.output, by rw [h.size]; exact hb.size, fun k hk => (h.block k (by omega)).trans (hb.block k hk)⟩
theorem OneTo.setRow {cs old : Array Value} {t : TypeId} (h : w.heap[R]? = some (.cells old t (0, 0))) : OneTo R (.cells cs t (0, 0)) w (w.setRow R cs) :=
  ⟨rfl, rfl, rfl, by simp, fun k hk => setRow_other _ _ _ _ hk, .inr (setRow_heap _ _ _ _ _ _ h)⟩
end
end Go.Proofs.Ytkcbbcabfbkclaa
