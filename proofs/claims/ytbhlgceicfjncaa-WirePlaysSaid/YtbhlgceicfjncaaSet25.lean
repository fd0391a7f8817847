/-
  As XRegionL, where the last operation waits for all others, be it by way of others.
-/
import Derived.Test.YtbhlgceicfjncaaSet24
namespace Go.Proofs.Ytbhlgceicfjncaa
open Go.RowKit
set_option linter.unusedVariables false
set_option linter.unnecessarySimpa false
set_option linter.unusedSimpArgs false
set_option maxRecDepth 100000

section
variable {P : Program} {ops : Array Oper} {md : Region.Mode}

/-- Each operation but the last is waited for by a later one. -/
def lateC (md : Region.Mode) (ops : Array Oper) (k : Nat) : Bool := decide (k + 1 = ops.size) && (List.range k).all fun i => (List.range (k + 1)).any fun j => decide (i < j) && match ops[j]? with
  | none => false
  | some o => o.after.any fun e => Region.binds md e && decide (e.on = i)

theorem getD_set_keep {l : Array Bool} {i m : Nat} (h : l.getD m false = true) : (l.setIfInBounds i true).getD m false = true := by
  by_cases e : i = m
  · subst e
    have hlt : i < l.size := by
      refine Classical.byContradiction fun hn => ?_
      rw [Array.getD_eq_getD_getElem?, Array.getElem?_eq_none (by omega)] at h
      cases h
    rw [Array.getD_eq_getD_getElem?, Array.getElem?_setIfInBounds_self_of_lt (by omega)]
    rfl
  · rw [getD_set_ne false e]
    exact h
variable {Rl : World → World → Prop} {w0 : World} {a0 : Act} {S : Nat → Value → World → Prop} {T : Nat → World → Prop} {outer : List Tmp} {Q : Exit → Act → World → Prop}

theorem wpAny_tailN {k : Nat} {ok : Oper} (hok : ops[k]? = some ok) (hk : k + 1 = ops.size) (late : ∀ i, i < k → ∃ (j : Nat) (o : Oper), i < j ∧ j ≤ k ∧ ops[j]? = some o ∧ ∃ e ∈ o.after, Region.binds md e = true ∧ e.on = i)
    (hf : Flow md ops outer) (trans : ∀ x y z, Rl x y → Rl y z → Rl x z) (stable : ∀ t v w w', S t v w → Rl w w' → S t v w') (stableT : ∀ i w w', T i w → Rl w w' → T i w')
    (hout : ∀ t ∈ outer, ∀ w, Rl w0 w → S t (a0.tmps.getD t undef) w)
    (hsize : ∀ (i : Nat) (o : Oper) (d : Tmp), ops[i]? = some o → o.dst = some d → d < a0.tmps.size)
    (hstep : ∀ (i : Nat) (o : Oper), i < k → ops[i]? = some o → StepR P Rl w0 S T (o.looksAt ops) i o)
    (hdone : ∀ a w listed, (∀ j, j < k → listed.getD j false = true) → listed.getD k true = false → listed.size = ops.size → RegR ops Rl w0 a0 S T listed a w → ok.wp P a w (fun a' w' => Q .normal a' w') Q) :
    ∀ (fuel : Nat) (listed : Array Bool) (a : Act) (w : World), listed.size = ops.size → ops.size ≤ fuel + listed.toList.countP id → listed.getD k true = false → RegR ops Rl w0 a0 S T listed a w → (∀ (j : Nat) (o : Oper), ops[j]? = some o → listed.getD j false = true → ∀ e ∈ o.after, Region.binds md e = true → listed.getD e.on false = true) → wpAny P md ops Q fuel listed a w
  | 0, listed, a, w, hsz, hfu, hkf, hI, hcl => by
    exfalso
    have hle := List.countP_le_length (p := id) (l := listed.toList)
    have hl : listed.toList.length = ops.size := by simpa using hsz
    have heq : listed.toList.countP id = listed.toList.length := by omega
    rw [List.countP_eq_length] at heq
    have hm : listed[k]'(by omega) ∈ listed.toList := by simp
    have := heq _ hm
    rw [Array.getD_eq_getD_getElem?, Array.getElem?_eq_getElem (by omega)] at hkf
    simp at hkf
    rw [hkf] at this
    cases this
  | fuel + 1, listed, a, w, hsz, hfu, hkf, hI, hcl => by
    refine ⟨fun hn => ?_, fun i hi => ?_⟩
    · exfalso
      have := ready_nil hf hsz hn k (by omega)
      rw [Array.getD_eq_getD_getElem?, Array.getElem?_eq_getElem (by omega)] at hkf this
      simp at hkf this
      rw [hkf] at this
      cases this
    · obtain ⟨h0, o, ho, hall⟩ := mem_ready.1 hi
      have hlt : i < ops.size := (Array.getElem?_eq_some_iff.1 ho).1
      unfold wpOp
      rw [ho]
      simp only
      have hw : Region.wanted o (yielded ops a.tmps) = true := by
        unfold Region.wanted
        rw [hf.plain i o ho]
      rw [if_pos hw]
      have hl0 : listed[i]'(by omega) = false := by
        rw [Array.getD_eq_getD_getElem?, Array.getElem?_eq_getElem (by omega)] at h0
        simpa using h0
      have hc : (listed.setIfInBounds i true).toList.countP id = listed.toList.countP id + 1 := by
        rw [Array.toList_setIfInBounds, List.countP_set (by simpa using (show i < listed.size by omega))]
        simp [hl0]
      by_cases hik : i = k
      · subst hik
        rw [hok] at ho
        injection ho with ho
        subst ho
        have hpre0 : ∀ n j, i - j ≤ n → j < i → listed.getD j false = true := by
          intro n
          induction n with
          | zero => intro j h1 h2; omega
          | succ n ih =>
            intro j h1 h2
            obtain ⟨m, o2, q1, q2, q3, e, he, hb, rfl⟩ := late j h2
            by_cases hmi : m = i
            · subst hmi
              rw [hok] at q3
              injection q3 with q3
              subst q3
              exact hall e he hb
            · exact hcl m o2 q3 (ih m (by omega) (by omega)) e he hb
        have hpre : ∀ j, j < i → listed.getD j false = true := fun j hj => hpre0 _ j (Nat.le_refl _) hj
        refine .inl (Oper.wp_mono ?_ (hdone a w listed hpre hkf hsz hI))
        intro a' w' hq
        have hall2 : ∀ j, j < ops.size → (listed.setIfInBounds i true).getD j false = true := fun j hj => by
          by_cases hji : j = i
          · subst hji
            rw [Array.getD_eq_getD_getElem?, Array.getElem?_setIfInBounds_self_of_lt (by omega)]
            rfl
          · rw [getD_set_ne false (Ne.symm hji)]
            exact hpre j (by omega)
        have hrn : Region.ready md ops (listed.setIfInBounds i true) = [] := by
          rw [List.eq_nil_iff_forall_not_mem]
          intro j hj
          obtain ⟨h0, o2, ho2, _⟩ := mem_ready.1 hj
          have hlt2 : j < ops.size := (Array.getElem?_eq_some_iff.1 ho2).1
          have := hall2 j hlt2
          rw [Array.getD_eq_getD_getElem?, Array.getElem?_eq_getElem (by simp; omega)] at h0 this
          simp at h0 this
          rw [h0] at this
          cases this
        exact wpAny_done hrn hq fuel
      · have hik2 : i < k := by omega
        refine .inl (hstep i o hik2 ho a w _ Q hI.rel ?_ ?_)
        · intro t ht
          rcases hf.reads i o ho t ht with h | ⟨e, he, hb, o', ho', hd'⟩
          · rw [hI.rest t (fun j o2 ho2 => hf.out t h j o2 ho2)]
            exact hout t h w hI.rel
          · exact hI.done e.on o' t ho' (hall e he hb) hd'
        · intro v w' hb hT hS
          refine wpAny_tailN hok hk late hf trans stable stableT hout hsize hstep hdone fuel _ _ _ (by simpa using hsz) (by omega) (by rw [getD_set_ne true hik]; exact hkf) ?_ (fun j o2 ho2 hj e he hbb => by
            by_cases hji : i = j
            · subst hji
              rw [ho] at ho2
              injection ho2 with ho2
              subst ho2
              exact getD_set_keep (hall e he hbb)
            · rw [getD_set_ne false hji] at hj
              exact getD_set_keep (hcl j o2 ho2 hj e he hbb))
          refine ⟨trans _ _ _ hI.rel hb, by rw [put_size]; exact hI.size, by rw [put_defers']; exact hI.defers, ?_, ?_, ?_⟩
          · intro t ht
            rw [put_other (ht i o ho)]
            exact hI.rest t ht
          · intro j o' d ho' hj hd
            by_cases hji : i = j
            · subst hji
              rw [ho] at ho'
              injection ho' with ho'
              subst ho'
              rw [hd, put_self (by rw [hI.size]; exact hsize i o d ho hd)]
              exact hS d hd
            · rw [getD_set_ne false hji] at hj
              rw [put_other (fun e => hji (hf.once i j o o' d ho ho' e hd))]
              exact stable _ _ _ _ (hI.done j o' d ho' hj hd) hb
          · intro j hj hjl
            by_cases hji : i = j
            · subst hji; exact hT
            · rw [getD_set_ne false hji] at hjl
              exact stableT _ _ _ (hI.facts j hj hjl) hb

/-- A region that draws its order, whose last operation waits for all others. -/
theorem wp_region_tailN {id : Nat} {l : List Oper} {a : Act} {w : World} (outer outs : List Tmp) (Rl : World → World → Prop) (S : Nat → Value → World → Prop) (T : Nat → World → Prop) (n k : Nat) (od : Option Tmp) (oo : Op) (hok0 : (l[k]?).map (fun o => (o.dst, o.op)) = some (od, oo)) (hm : P.follows .mixedOrders = true) (hf : flowB .any l.toArray outer = true) (hlate : lateC .any l.toArray k = true)
    (hn : a.tmps.size = n) (hd : dstsIn n l.toArray = true) (ho : outsIn outs (l.take k).toArray = true) (hdrew : Rl w w.drew) (trans : ∀ x y z, Rl x y → Rl y z → Rl x z)
    (stable : ∀ t v w w', S t v w → Rl w w' → S t v w') (stableT : ∀ i w w', T i w → Rl w w' → T i w')
    (hout : ∀ t ∈ outer, ∀ w', Rl w w' → S t (a.tmps.getD t undef) w')
    (hstep : AllStepsL P Rl w S T k 0 l)
    (W : List Nat) (hW : dstsOf l = W)
    (hdone : ∀ (f : Nat → Value) w', Rl w w' → (∀ t ∈ outs, S t (f t) w') → (∀ i, i < k → T i w') → ∀ ok : Oper, ok.dst = od → ok.op = oo → ok.wp P (putAll f W a) w' (fun a2 w2 => Q .normal a2 w2) Q) :
    (Code.region id l.toArray true).wp P Q a w := by
  refine wp_region_any hm ?_
  have hfl := flow_of hf
  unfold lateC at hlate
  rw [Bool.and_eq_true, decide_eq_true_eq] at hlate
  obtain ⟨hk, hlate⟩ := hlate
  obtain ⟨ok, hok⟩ : ∃ ok, l[k]? = some ok := by
    cases h : l[k]? with
    | none => rw [h] at hok0; cases hok0
    | some o => exact ⟨o, rfl⟩
  rw [hok] at hok0
  simp only [Option.map_some, Option.some.injEq, Prod.mk.injEq] at hok0
  have hok' : l.toArray[k]? = some ok := by simpa using hok
  simp only [List.all_eq_true, List.mem_range] at hlate
  refine wpAny_tailN (w0 := w) (a0 := a) (Rl := Rl) (S := S) (T := T) hok' hk (fun i hi => ?_) hfl trans stable stableT hout ?_ ?_ ?_ _ _ _ _ (by simp) (by omega) ?_ ?_ ?_
  · have := hlate i hi
    rw [List.any_eq_true] at this
    obtain ⟨j, hj, hjj⟩ := this
    rw [Bool.and_eq_true, decide_eq_true_eq] at hjj
    obtain ⟨h1, h2⟩ := hjj
    cases ho2 : l.toArray[j]? with
    | none => rw [ho2] at h2; cases h2
    | some o2 =>
      rw [ho2] at h2
      simp only at h2
      rw [Array.any_eq_true] at h2
      obtain ⟨m, hm, e⟩ := h2
      rw [Bool.and_eq_true, decide_eq_true_eq] at e
      exact ⟨j, o2, h1, by have := List.mem_range.1 hj; omega, ho2, _, Array.getElem_mem hm, e.1, e.2⟩
  · intro i o d ho hdo
    unfold dstsIn at hd
    rw [Array.all_eq_true_iff_forall_mem] at hd
    have := hd o (Array.mem_of_getElem? ho)
    rw [hdo] at this
    simpa [hn] using this
  · intro i o hik ho
    rw [looksAt_plain (hfl.plain i o ho)]
    have := hstep.at i o (by omega) (by simpa using ho)
    rw [Nat.zero_add] at this
    exact this
  · intro a' w' listed hpre hkf hsz h
    have e := act_puts (W := W) h.size h.defers (fun k hk => by rw [hn]; exact dst_in hd k (by rw [hW]; exact hk)) (fun t ht => h.rest t (fun j o ho => not_dst (by rw [hW]; exact ht) j o ho))
    rw [e]
    refine hdone _ w' h.rel (fun t ht => ?_) (fun i hi => h.facts i (by omega) (hpre i hi)) ok hok0.1 hok0.2
    · unfold outsIn at ho
      rw [List.all_eq_true] at ho
      have := ho t ht
      rw [Array.any_eq_true] at this
      obtain ⟨j, hj, e⟩ := this
      have hjk : j < k := by
        rw [List.size_toArray, List.length_take] at hj
        omega
      have hjl : j < l.length := by
        rw [List.size_toArray, List.length_take] at hj
        omega
      have e2 : (l.take k).toArray[j] = l[j] := by simp
      rw [e2] at e
      exact h.done j l[j] t (by simp [List.getElem?_eq_getElem hjl]) (hpre j hjk) (by simpa using e)
  · rw [Array.getD_eq_getD_getElem?, Array.getElem?_replicate]
    rw [if_pos (by omega)]
    rfl
  · refine ⟨hdrew, rfl, rfl, fun _ _ => rfl, ?_, ?_⟩
    · intro j o d ho hj
      rw [Array.getD_eq_getD_getElem?] at hj
      have hlt : j < l.toArray.size := (Array.getElem?_eq_some_iff.1 ho).1
      rw [Array.getElem?_eq_getElem (by simpa using hlt)] at hj
      simp at hj
    · intro j hj hjl
      rw [Array.getD_eq_getD_getElem?, Array.getElem?_eq_getElem (by simpa using hj)] at hjl
      simp at hjl
  · intro j o ho hj
    rw [Array.getD_eq_getD_getElem?] at hj
    have hlt : j < l.toArray.size := (Array.getElem?_eq_some_iff.1 ho).1
    rw [Array.getElem?_eq_getElem (by simpa using hlt)] at hj
    simp at hj
end
end Go.Proofs.Ytbhlgceicfjncaa
