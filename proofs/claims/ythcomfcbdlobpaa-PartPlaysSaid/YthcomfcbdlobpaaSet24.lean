/-
  As XRegionL, where the last operation may write a slot that the others read ('x = append(x, ..)').
-/
import Derived.Test.YthcomfcbdlobpaaSet15
namespace Go.Proofs.Ythcomfcbdlobpaa
open Go.RowKit
set_option linter.unusedVariables false
set_option linter.unnecessarySimpa false
set_option linter.unusedSimpArgs false
set_option maxRecDepth 100000

section
variable {P : Program} {l : List Oper} {md : Region.Mode}

def downB (md : Region.Mode) (ops : Array Oper) : Bool := (List.range ops.size).all fun i => match ops[i]? with
  | none => false
  | some o => o.guard.isNone && o.after.all (fun e => !Region.binds md e || decide (e.on < i))
theorem down_of {ops : Array Oper} (h : downB md ops = true) : (∀ (i : Nat) (o : Oper), ops[i]? = some o → o.guard = none) ∧ ∀ (i : Nat) (o : Oper), ops[i]? = some o → ∀ e ∈ o.after, Region.binds md e = true → e.on < i := by
  unfold downB at h
  simp only [List.all_eq_true, List.mem_range] at h
  have at_ : ∀ (i : Nat) (o : Oper), ops[i]? = some o → o.guard.isNone = true ∧ (o.after.all (fun e => !Region.binds md e || decide (e.on < i))) = true := fun i o ho => by
    have := h i (Array.getElem?_eq_some_iff.1 ho).1
    simpa only [ho, Bool.and_eq_true] using this
  refine ⟨fun i o ho => by simpa using (at_ i o ho).1, fun i o ho e he hb => ?_⟩
  have := (at_ i o ho).2
  rw [Array.all_eq_true_iff_forall_mem] at this
  simpa [hb] using this e he
theorem ready_nil2 {ops : Array Oper} (hd : ∀ (i : Nat) (o : Oper), ops[i]? = some o → ∀ e ∈ o.after, Region.binds md e = true → e.on < i) {listed : Array Bool} (hsz : listed.size = ops.size) (h : Region.ready md ops listed = []) : ∀ i, i < ops.size → listed.getD i false = true := by
  intro i
  induction i using Nat.strongRecOn with
  | _ i ih =>
    intro hi
    cases hl : listed.getD i true with
    | true =>
      rw [Array.getD_eq_getD_getElem?, Array.getElem?_eq_getElem (by omega)] at hl ⊢
      simpa using hl
    | false =>
      have ho : ops[i]? = some ops[i] := Array.getElem?_eq_getElem hi
      have : i ∈ Region.ready md ops listed := mem_ready.2 ⟨hl, ops[i], ho, fun e he hb => ih e.on (hd i _ ho e he hb) (by have := hd i _ ho e he hb; omega)⟩
      rw [h] at this
      cases this

structure RegK (k : Nat) (ops : Array Oper) (Rl : World → World → Prop) (w0 : World) (a0 : Act) (S : Nat → Value → World → Prop) (listed : Array Bool) (a : Act) (w : World) : Prop where
  rel : Rl w0 w
  size : a.tmps.size = a0.tmps.size
  defers : a.defers = a0.defers
  rest : ∀ t, (∀ (j : Nat) (o : Oper), j < k → ops[j]? = some o → o.dst ≠ some t) → a.tmps.getD t undef = a0.tmps.getD t undef
  done : ∀ (j : Nat) (o : Oper) (d : Tmp), j < k → ops[j]? = some o → listed.getD j false = true → o.dst = some d → S d (a.tmps.getD d undef) w

variable {ops : Array Oper} {Rl : World → World → Prop} {w0 : World} {a0 : Act} {S : Nat → Value → World → Prop} {outer : List Tmp} {Q : Exit → Act → World → Prop}

theorem wpAny_tailK {k : Nat} {ok : Oper} (hok : ops[k]? = some ok) (hk : k + 1 = ops.size) (late : ∀ i, i < k → ∃ e ∈ ok.after, Region.binds md e = true ∧ e.on = i)
    (plain : ∀ (i : Nat) (o : Oper), ops[i]? = some o → o.guard = none) (down : ∀ (i : Nat) (o : Oper), ops[i]? = some o → ∀ e ∈ o.after, Region.binds md e = true → e.on < i)
    (out : ∀ t ∈ outer, ∀ (j : Nat) (o : Oper), j < k → ops[j]? = some o → o.dst ≠ some t)
    (reads : ∀ (i : Nat) (o : Oper), i < k → ops[i]? = some o → ∀ t ∈ tmpsOf o.op, t ∈ outer ∨ ∃ e ∈ o.after, Region.binds md e = true ∧ ∃ o', ops[e.on]? = some o' ∧ o'.dst = some t)
    (once : ∀ (i j : Nat) (o o' : Oper) (d : Tmp), i < k → j < k → ops[i]? = some o → ops[j]? = some o' → o.dst = some d → o'.dst = some d → i = j)
    (trans : ∀ x y z, Rl x y → Rl y z → Rl x z) (stable : ∀ t v w w', S t v w → Rl w w' → S t v w')
    (hout : ∀ t ∈ outer, ∀ w, Rl w0 w → S t (a0.tmps.getD t undef) w)
    (hsize : ∀ (i : Nat) (o : Oper) (d : Tmp), i < k → ops[i]? = some o → o.dst = some d → d < a0.tmps.size)
    (hstep : ∀ (i : Nat) (o : Oper), i < k → ops[i]? = some o → StepR P Rl w0 S (fun _ _ => True) (tmpsOf o.op) i o)
    (hdone : ∀ a w listed, (∀ j, j < k → listed.getD j false = true) → listed.size = ops.size → RegK k ops Rl w0 a0 S listed a w → ok.wp P a w (fun a' w' => Q .normal a' w') Q) :
    ∀ (fuel : Nat) (listed : Array Bool) (a : Act) (w : World), listed.size = ops.size → ops.size ≤ fuel + listed.toList.countP id → listed.getD k true = false → RegK k ops Rl w0 a0 S listed a w → wpAny P md ops Q fuel listed a w
  | 0, listed, a, w, hsz, hfu, hkf, hI => by
    exfalso
    have hle := List.countP_le_length (p := id) (l := listed.toList)
    have hl : listed.toList.length = ops.size := by simpa using hsz
    have heq : listed.toList.countP id = listed.toList.length := by omega
    rw [List.countP_eq_length] at heq
    have hm : listed[k]'(by omega) ∈ listed.toList := by simp
    have := heq _ hm
    rw [Array.getD_eq_getD_getElem?, Array.getElem?_eq_getElem (by omega)] at hkf
    simp at hkf
    rw [hkf] at this
    cases this
  | fuel + 1, listed, a, w, hsz, hfu, hkf, hI => by
    refine ⟨fun hn => ?_, fun i hi => ?_⟩
    · exfalso
      have := ready_nil2 down hsz hn k (by omega)
      rw [Array.getD_eq_getD_getElem?, Array.getElem?_eq_getElem (by omega)] at hkf this
      simp at hkf this
      rw [hkf] at this
      cases this
    · obtain ⟨h0, o, ho, hall⟩ := mem_ready.1 hi
      have hlt : i < ops.size := (Array.getElem?_eq_some_iff.1 ho).1
      unfold wpOp
      rw [ho]
      simp only
      have hw : Region.wanted o (yielded ops a.tmps) = true := by
        unfold Region.wanted
        rw [plain i o ho]
      rw [if_pos hw]
      have hl0 : listed[i]'(by omega) = false := by
        rw [Array.getD_eq_getD_getElem?, Array.getElem?_eq_getElem (by omega)] at h0
        simpa using h0
      have hc : (listed.setIfInBounds i true).toList.countP id = listed.toList.countP id + 1 := by
        rw [Array.toList_setIfInBounds, List.countP_set (by simpa using (show i < listed.size by omega))]
        simp [hl0]
      by_cases hik : i = k
      · subst hik
        rw [hok] at ho
        injection ho with ho
        subst ho
        have hpre : ∀ j, j < i → listed.getD j false = true := fun j hj => by
          obtain ⟨e, he, hb, rfl⟩ := late j hj
          exact hall e he hb
        refine .inl (Oper.wp_mono ?_ (hdone a w listed hpre hsz hI))
        intro a' w' hq
        have hall2 : ∀ j, j < ops.size → (listed.setIfInBounds i true).getD j false = true := fun j hj => by
          by_cases hji : j = i
          · subst hji
            rw [Array.getD_eq_getD_getElem?, Array.getElem?_setIfInBounds_self_of_lt (by omega)]
            rfl
          · rw [getD_set_ne false (Ne.symm hji)]
            exact hpre j (by omega)
        have hrn : Region.ready md ops (listed.setIfInBounds i true) = [] := by
          rw [List.eq_nil_iff_forall_not_mem]
          intro j hj
          obtain ⟨h0, o2, ho2, _⟩ := mem_ready.1 hj
          have hlt2 : j < ops.size := (Array.getElem?_eq_some_iff.1 ho2).1
          have := hall2 j hlt2
          rw [Array.getD_eq_getD_getElem?, Array.getElem?_eq_getElem (by simp; omega)] at h0 this
          simp at h0 this
          rw [h0] at this
          cases this
        exact wpAny_done hrn hq fuel
      · have hik2 : i < k := by omega
        refine .inl (hstep i o hik2 ho a w _ Q hI.rel ?_ ?_)
        · intro t ht
          rcases reads i o hik2 ho t ht with h | ⟨e, he, hb, o', ho', hd'⟩
          · rw [hI.rest t (fun j o2 hj ho2 => out t h j o2 hj ho2)]
            exact hout t h w hI.rel
          · exact hI.done e.on o' t (by have := down i o ho e he hb; omega) ho' (hall e he hb) hd'
        · intro v w' hb hT hS
          refine wpAny_tailK hok hk late plain down out reads once trans stable hout hsize hstep hdone fuel _ _ _ (by simpa using hsz) (by omega) (by rw [getD_set_ne true hik]; exact hkf) ?_
          refine ⟨trans _ _ _ hI.rel hb, by rw [put_size]; exact hI.size, by rw [put_defers']; exact hI.defers, ?_, ?_⟩
          · intro t ht
            rw [put_other (ht i o hik2 ho)]
            exact hI.rest t ht
          · intro j o' d hjk ho' hj hd
            by_cases hji : i = j
            · subst hji
              rw [ho] at ho'
              injection ho' with ho'
              subst ho'
              rw [hd, put_self (by rw [hI.size]; exact hsize i o d hik2 ho hd)]
              exact hS d hd
            · rw [getD_set_ne false hji] at hj
              rw [put_other (fun e => hji (once i j o o' d hik2 hjk ho ho' e hd))]
              exact stable _ _ _ _ (hI.done j o' d hjk ho' hj hd) hb

/-- A region that draws its order, whose last operation waits for all others, and may write what they read. -/
theorem wp_region_tailK {id : Nat} {l : List Oper} {a : Act} {w : World} (outer outs : List Tmp) (Rl : World → World → Prop) (S : Nat → Value → World → Prop) (n k : Nat) (od : Option Tmp) (oo : Op) (hok0 : (l[k]?).map (fun o => (o.dst, o.op)) = some (od, oo)) (hm : P.follows .mixedOrders = true)
    (hf : flowB .any (l.take k).toArray outer = true) (hdn : downB .any l.toArray = true) (hlate : lateB .any l.toArray k = true)
    (hn : a.tmps.size = n) (hd : dstsIn n (l.take k).toArray = true) (ho : outsIn outs (l.take k).toArray = true) (hdrew : Rl w w.drew) (trans : ∀ x y z, Rl x y → Rl y z → Rl x z)
    (stable : ∀ t v w w', S t v w → Rl w w' → S t v w')
    (hout : ∀ t ∈ outer, ∀ w', Rl w w' → S t (a.tmps.getD t undef) w')
    (hstep : AllStepsL P Rl w S (fun _ _ => True) k 0 l)
    (W : List Nat) (hW : dstsOf (l.take k) = W)
    (hdone : ∀ (f : Nat → Value) w', Rl w w' → (∀ t ∈ outs, S t (f t) w') → ∀ ok : Oper, ok.dst = od → ok.op = oo → ok.wp P (putAll f W a) w' (fun a2 w2 => Q .normal a2 w2) Q) :
    (Code.region id l.toArray true).wp P Q a w := by
  refine wp_region_any hm ?_
  have hfl := flow_of hf
  obtain ⟨plain, down⟩ := down_of hdn
  unfold lateB at hlate
  rw [Bool.and_eq_true, decide_eq_true_eq] at hlate
  obtain ⟨hk, hlate⟩ := hlate
  obtain ⟨ok, hok⟩ : ∃ ok, l[k]? = some ok := by
    cases h : l[k]? with
    | none => rw [h] at hok0; cases hok0
    | some o => exact ⟨o, rfl⟩
  rw [hok] at hok0
  simp only [Option.map_some, Option.some.injEq, Prod.mk.injEq] at hok0
  have hok' : l.toArray[k]? = some ok := by simpa using hok
  rw [hok'] at hlate
  simp only [List.all_eq_true, List.mem_range] at hlate
  have htk : ∀ i o, i < k → (l.toArray[i]? = some o) → (l.take k).toArray[i]? = some o := fun i o hi h => by
    have h2 : l[i]? = some o := by simpa using h
    simp [List.getElem?_take, hi, h2]
  have htk2 : ∀ i o, (l.take k).toArray[i]? = some o → i < k ∧ l.toArray[i]? = some o := fun i o h => by
    have h2 : (l.take k)[i]? = some o := by simpa using h
    rw [List.getElem?_take] at h2
    split at h2
    · exact ⟨by assumption, by simpa using h2⟩
    · cases h2
  refine wpAny_tailK (w0 := w) (a0 := a) (Rl := Rl) (S := S) hok' hk (fun i hi => ?_) plain down (fun t ht j o hj ho => hfl.out t ht j o (htk j o hj ho)) (fun i o hi ho t ht => ?_) (fun i j o o' d hi hj h1 h2 => hfl.once i j o o' d (htk i o hi h1) (htk j o' hj h2)) trans stable hout (fun i o d hi ho hdo => ?_) (fun i o hik ho => ?_) ?_ _ _ _ _ (by simp) (by omega) ?_ ?_
  · have := hlate i hi
    rw [Array.any_eq_true] at this
    obtain ⟨j, hj, e⟩ := this
    rw [Bool.and_eq_true, decide_eq_true_eq] at e
    exact ⟨_, Array.getElem_mem hj, e.1, e.2⟩
  · rcases hfl.reads i o (htk i o hi ho) t (by rw [looksAt_plain (plain i o ho)]; exact ht) with h | ⟨e, he, hb, o', ho', hd'⟩
    · exact .inl h
    · exact .inr ⟨e, he, hb, o', (htk2 _ _ ho').2, hd'⟩
  · unfold dstsIn at hd
    rw [Array.all_eq_true_iff_forall_mem] at hd
    have := hd o (Array.mem_of_getElem? (htk i o hi ho))
    rw [hdo] at this
    simpa [hn] using this
  · have := hstep.at i o (by omega) (by simpa using ho)
    rw [Nat.zero_add] at this
    exact this
  · intro a' w' listed hpre hsz h
    have e := act_puts (W := W) h.size h.defers (fun j hj => by rw [hn]; exact dst_in hd j (by rw [hW]; exact hj)) (fun t ht => h.rest t (fun j o hjk ho => not_dst (by rw [hW]; exact ht) j o (htk j o hjk ho)))
    rw [e]
    refine hdone _ w' h.rel (fun t ht => ?_) ok hok0.1 hok0.2
    unfold outsIn at ho
    rw [List.all_eq_true] at ho
    have := ho t ht
    rw [Array.any_eq_true] at this
    obtain ⟨j, hj, e⟩ := this
    obtain ⟨hjk, hjo⟩ := htk2 j _ (Array.getElem?_eq_getElem hj)
    exact h.done j _ t hjk hjo (hpre j hjk) (by simpa using e)
  · rw [Array.getD_eq_getD_getElem?, Array.getElem?_replicate]
    rw [if_pos (by omega)]
    rfl
  · refine ⟨hdrew, rfl, rfl, fun _ _ => rfl, ?_⟩
    intro j o d hjk ho hj
    rw [Array.getD_eq_getD_getElem?] at hj
    have hlt : j < l.toArray.size := (Array.getElem?_eq_some_iff.1 ho).1
    rw [Array.getElem?_eq_getElem (by simpa using hlt)] at hj
    simp at hj
end
end Go.Proofs.Ythcomfcbdlobpaa
