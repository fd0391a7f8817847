/-
  Regions that draw their order, by what each operation leaves: the frame behind them is the old one, with what they wrote put in.
-/
import Derived.Test.YtdcefhhmddjodaaRegionS
import Derived.Test.YtdcefhhmddjodaaRegionG
namespace Go.Proofs.Ytdcefhhmddjodaa
open Go.RowKit
set_option linter.unusedVariables false
set_option linter.unnecessarySimpa false
set_option linter.unusedSimpArgs false
set_option maxRecDepth 100000

def putAll (f : Nat → Value) (W : List Nat) (a : Act) : Act := W.foldl (fun x k => x.put (some k) (f k)) a
theorem putAll_is (f : Nat → Value) : ∀ (W : List Nat) (a : Act), (∀ k ∈ W, k < a.tmps.size) → (putAll f W a).tmps.size = a.tmps.size ∧ (putAll f W a).defers = a.defers ∧ ∀ i, (putAll f W a).tmps.getD i undef = if i ∈ W then f i else a.tmps.getD i undef
  | [], a, _ => ⟨rfl, rfl, fun i => by simp [putAll]⟩
  | k :: W, a, h => by
    have hk := h k (by simp)
    obtain ⟨h1, h2, h3⟩ := putAll_is f W (a.put (some k) (f k)) (fun j hj => by rw [put_size]; exact h j (by simp [hj]))
    have e : putAll f (k :: W) a = putAll f W (a.put (some k) (f k)) := rfl
    rw [e]
    refine ⟨by rw [h1, put_size], by rw [h2, put_defers'], fun i => ?_⟩
    rw [h3]
    by_cases hi : i ∈ W
    · rw [if_pos hi, if_pos (by simp [hi])]
    · rw [if_neg hi]
      by_cases hik : i = k
      · subst hik
        rw [put_self hk, if_pos (by simp)]
      · rw [put_other (fun e => hik (by injection e with e; exact e.symm)), if_neg (by simp [hi, hik])]
theorem act_puts {a a' : Act} {W : List Nat} (hs : a'.tmps.size = a.tmps.size) (hd : a'.defers = a.defers) (hW : ∀ k ∈ W, k < a.tmps.size) (rest : ∀ t, t ∉ W → a'.tmps.getD t undef = a.tmps.getD t undef) : a' = putAll (fun k => a'.tmps.getD k undef) W a := by
  obtain ⟨h1, h2, h3⟩ := putAll_is (fun k => a'.tmps.getD k undef) W a hW
  obtain ⟨b, hb⟩ : ∃ b, b = putAll (fun k => a'.tmps.getD k undef) W a := ⟨_, rfl⟩
  rw [← hb] at h1 h2 h3 ⊢
  obtain ⟨t', d'⟩ := a'
  obtain ⟨t, d⟩ := b
  simp only at h1 h2 h3 hs hd
  have e1 : t' = t := by
    apply Array.ext
    · omega
    · intro i hi1 hi2
      have := h3 i
      by_cases hi : i ∈ W
      · rw [if_pos hi] at this
        simp only [Array.getD_eq_getD_getElem?, Array.getElem?_eq_getElem hi1, Array.getElem?_eq_getElem hi2, Option.getD_some] at this
        exact this.symm
      · rw [if_neg hi, ← rest i hi] at this
        simp only [Array.getD_eq_getD_getElem?, Array.getElem?_eq_getElem hi1, Array.getElem?_eq_getElem hi2, Option.getD_some] at this
        exact this.symm
  subst e1
  rw [h2, hd]
/-- The slots that a region writes. -/
def dstsOf (l : List Oper) : List Nat := l.filterMap (·.dst)
theorem not_dst {l : List Oper} {t : Nat} (h : t ∉ dstsOf l) (j : Nat) (o : Oper) (ho : l.toArray[j]? = some o) : o.dst ≠ some t := fun e => h (by
  unfold dstsOf
  exact List.mem_filterMap.2 ⟨o, List.mem_of_getElem? (by simpa using ho), e⟩)
theorem dst_in {n : Nat} {l : List Oper} (hd : dstsIn n l.toArray = true) : ∀ k ∈ dstsOf l, k < n := fun k hk => by
  unfold dstsOf at hk
  obtain ⟨o, ho, e⟩ := List.mem_filterMap.1 hk
  unfold dstsIn at hd
  rw [Array.all_eq_true_iff_forall_mem] at hd
  have := hd o (by simpa using ho)
  rw [e] at this
  simpa using this

section
variable {P : Program}
theorem wp_region_S2 {id : Nat} {l : List Oper} {a : Act} {w : World} {Q : Exit → Act → World → Prop} (outer outs W : List Tmp) (B : Nat) (S : Nat → Value → World → Prop) (TS : Value → Value → World → Prop) (p q : Tmp) (st : Nat) (n : Nat) (hm : P.follows .mixedOrders = true) (hf : flowB .any l.toArray outer = true)
    (hn : a.tmps.size = n) (hd : dstsIn n l.toArray = true) (ho : outsIn outs l.toArray = true) (hpq : pqB .any l.toArray p q st = true) (hW : dstsOf l = W)
    (hout : ∀ t ∈ outer, ∀ w', Below B w w' → S t (a.tmps.getD t undef) w')
    (hstep : AllStepsS P B w S TS p q st 0 l)
    (hdone : ∀ (f : Nat → Value) w', Below B w w' → (∀ t ∈ outs, S t (f t) w') → TS (f p) (f q) w' → Q .normal (putAll f W a) w') :
    (Code.region id l.toArray true).wp P Q a w := by
  refine wp_region_any hm ?_
  have hfl := flow_of hf
  have hstl : st < l.toArray.size := by
    unfold pqB at hpq
    cases ho : l.toArray[st]? with
    | none => rw [ho] at hpq; cases hpq
    | some o => exact (Array.getElem?_eq_some_iff.1 ho).1
  refine wpAny_S (w0 := w) (a0 := a) (B := B) (S := S) (TS := TS) hfl hpq hout ?_ ?_ ?_ _ _ _ _ (by simp) (by omega) ?_
  · intro i o d ho hdo
    unfold dstsIn at hd
    rw [Array.all_eq_true_iff_forall_mem] at hd
    have := hd o (Array.mem_of_getElem? ho)
    rw [hdo] at this
    simpa [hn] using this
  · intro i o ho
    rw [looksAt_plain (hfl.plain i o ho)]
    have := hstep.at i o (by simpa using ho)
    rw [Nat.zero_add] at this
    exact this
  · intro a' w' h
    have hall : ∀ i, i < l.toArray.size → (Array.replicate l.toArray.size true).getD i false = true := fun i hi => by
      rw [Array.getD_eq_getD_getElem?, Array.getElem?_replicate]; simp only [if_pos hi]; rfl
    have e := act_puts (W := W) h.size h.defers (fun k hk => by rw [hn]; exact dst_in hd k (by rw [hW]; exact hk)) (fun t ht => h.rest t (fun j o ho => not_dst (by rw [hW]; exact ht) j o ho))
    rw [e]
    refine hdone _ w' h.rel (fun t ht => ?_) (h.fact (hall st hstl)).1
    unfold outsIn at ho
    rw [List.all_eq_true] at ho
    have := ho t ht
    rw [Array.any_eq_true] at this
    obtain ⟨j, hj, e⟩ := this
    exact h.done j _ t (Array.getElem?_eq_getElem hj) (hall j hj) (by simpa using e)
  · refine ⟨(Below.refl _ _).drew, rfl, rfl, fun _ _ => rfl, ?_, ?_⟩
    · intro j o d ho hj
      rw [Array.getD_eq_getD_getElem?] at hj
      have hlt : j < l.toArray.size := (Array.getElem?_eq_some_iff.1 ho).1
      rw [Array.getElem?_eq_getElem (by simpa using hlt)] at hj
      simp at hj
    · intro hjl
      rw [Array.getD_eq_getD_getElem?, Array.getElem?_eq_getElem (by simpa using hstl)] at hjl
      simp at hjl
theorem wp_region_flowG2 {id : Nat} {l : List Oper} {a : Act} {w : World} {Q : Exit → Act → World → Prop} (outer outs W : List Tmp) (gs : List (Tmp × Bool)) (S : Nat → Value → World → Prop) (n : Nat) (hm : P.follows .mixedOrders = true) (hf : flowGB .any l.toArray outer = true)
    (hn : a.tmps.size = n) (hd : dstsIn n l.toArray = true) (ho : outsIn outs l.toArray = true) (hgs : guardsB gs l.toArray = true) (hgv : ∀ x ∈ gs, ∀ v w, S x.1 v w → v = .bool x.2) (hW : dstsOf l = W)
    (stable : ∀ t v w w', S t v w → Below w.heap.size w w' → S t v w')
    (hout : ∀ t ∈ outer, ∀ w', Below w.heap.size w w' → S t (a.tmps.getD t undef) w')
    (hstep : AllSteps P w S l)
    (hdone : ∀ (f : Nat → Value) w', Below w.heap.size w w' → (∀ t ∈ outs, S t (f t) w') → Q .normal (putAll f W a) w') :
    (Code.region id l.toArray true).wp P Q a w := by
  refine wp_region_any hm ?_
  have hfl := flowG_of hf
  refine wpAny_flowG (w0 := w) (a0 := a) hfl gs hgs hgv stable hout ?_ ?_ ?_ _ _ _ _ (by simp) (by omega) ?_
  · intro i o d ho hdo
    unfold dstsIn at hd
    rw [Array.all_eq_true_iff_forall_mem] at hd
    have := hd o (Array.mem_of_getElem? ho)
    rw [hdo] at this
    simpa [hn] using this
  · intro i o ho a1 w1 K Q1 hB hr hK
    refine hstep.at i o (by simpa using ho) a1 w1 K Q1 hB (fun t ht => hr t ?_) hK
    unfold Oper.looksAt
    exact List.mem_append_left _ ht
  · intro a' w' h
    have e := act_puts (W := W) h.size h.defers (fun k hk => by rw [hn]; exact dst_in hd k (by rw [hW]; exact hk)) (fun t ht => h.rest t (fun j o ho => not_dst (by rw [hW]; exact ht) j o ho))
    rw [e]
    refine hdone _ w' h.below (fun t ht => ?_)
    unfold outsIn at ho
    rw [List.all_eq_true] at ho
    have := ho t ht
    rw [Array.any_eq_true] at this
    obtain ⟨j, hj, e⟩ := this
    exact h.done j _ t (Array.getElem?_eq_getElem hj) (by rw [Array.getD_eq_getD_getElem?, Array.getElem?_replicate]; simp only [if_pos hj]; rfl) (by simpa using e)
  · refine ⟨?_, rfl, rfl, fun _ _ => rfl, ?_⟩
    · exact (Below.refl _ _).drew
    · intro j o d ho hj
      rw [Array.getD_eq_getD_getElem?] at hj
      have hlt : j < l.toArray.size := (Array.getElem?_eq_some_iff.1 ho).1
      rw [Array.getElem?_eq_getElem (by simpa using hlt)] at hj
      simp at hj
end
end Go.Proofs.Ytdcefhhmddjodaa
