/-
  Joined: RegionU, CrdPlaysS.
-/
import Derived.Test.YtdldplhfpianhaaSet13
import Derived.Test.YtdldplhfpianhaaSet17
namespace Go.Proofs.Ytdldplhfpianhaa
open Go.RowKit
set_option linter.unusedVariables false
set_option linter.unnecessarySimpa false
set_option linter.unusedSimpArgs false
set_option maxRecDepth 100000

section
variable {P : Program} {ops : Array Oper} {md : Region.Mode}
/-- The guards' slots, and what they hold; sk: the operations that are passed over. -/
def guardsUB (gs : List (Tmp × Bool)) (sk : List Nat) (ops : Array Oper) : Bool :=
  (List.range ops.size).all fun i => match ops[i]? with
    | none => false
    | some o => match o.guard with
      | none => !sk.contains i
      | some (g, b) => match (ops[g]?).bind (·.dst) with
        | none => false
        | some d => gs.contains (d, if sk.contains i then !b else b)
theorem guardsU_at {gs : List (Tmp × Bool)} {sk : List Nat} (h : guardsUB gs sk ops = true) {i : Nat} {o : Oper} (ho : ops[i]? = some o) : (match o.guard with
      | none => !sk.contains i
      | some (g, b) => match (ops[g]?).bind (·.dst) with
        | none => false
        | some d => gs.contains (d, if sk.contains i then !b else b)) = true := by
  unfold guardsUB at h
  rw [List.all_eq_true] at h
  have := h i (List.mem_range.2 (Array.getElem?_eq_some_iff.1 ho).1)
  rw [ho] at this
  exact this
def skipsB (sk : List Nat) (ds : List Tmp) (ops : Array Oper) : Bool := sk.all fun i => match (ops[i]?).bind (·.dst) with
  | none => true
  | some d => ds.contains d
theorem skips_at {sk : List Nat} {ds : List Tmp} (h : skipsB sk ds ops = true) {i : Nat} (hi : sk.contains i = true) : (match (ops[i]?).bind (·.dst) with
  | none => true
  | some d => ds.contains d) = true := by
  unfold skipsB at h
  rw [List.all_eq_true] at h
  exact h i (by simpa using hi)
variable {w0 : World} {a0 : Act} {S : Nat → Value → World → Prop} {outer : List Tmp} {Q : Exit → Act → World → Prop}
/-- All steps of a list but those passed over. -/
def AllStepsK (P : Program) (w0 : World) (S : Nat → Value → World → Prop) (sk : List Nat) : Nat → List Oper → Prop
  | _, [] => True
  | i, o :: l => (sk.contains i = false → StepAt P w0 S o.dst o.op o.type) ∧ AllStepsK P w0 S sk (i + 1) l
theorem AllStepsK.nil {sk : List Nat} {i : Nat} : AllStepsK P w0 S sk i [] := trivial
theorem AllStepsK.cons {sk : List Nat} {i : Nat} {d : Option Tmp} {op : Op} {ty : TypeId} {pos : String} {af : Array Edge} {gd : Option (Nat × Bool)} {l : List Oper} (h : sk.contains i = false → StepAt P w0 S d op ty) (hl : AllStepsK P w0 S sk (i + 1) l) :
    AllStepsK P w0 S sk i ({ dst := d, op := op, type := ty, pos := pos, after := af, guard := gd } :: l) := ⟨h, hl⟩
theorem AllStepsK.at {sk : List Nat} {l : List Oper} : ∀ {n : Nat} (h : AllStepsK P w0 S sk n l) (i : Nat) (o : Oper), sk.contains (n + i) = false → l[i]? = some o → StepOK P w0 S (tmpsOf o.op) o := by
  induction l with
  | nil => intro n h i o _ ho; simp at ho
  | cons x l ih =>
    intro n h i o hlt ho
    cases i with
    | zero =>
      simp at ho
      subst ho
      exact fun a w K Q hB hr hK => h.1 hlt a w K Q hB (Reads.of hr) hK
    | succ i => exact ih h.2 i o (by rw [show n + 1 + i = n + (i + 1) by omega]; exact hlt) (by simpa using ho)

theorem wpAny_flowU (hf : FlowG md ops outer) (gs : List (Tmp × Bool)) (sk : List Nat) (ds : List Tmp) (hgs : guardsUB gs sk ops = true) (hds : skipsB sk ds ops = true) (hskip : ∀ d ∈ ds, ∀ w, S d undef w) (hgv : ∀ x ∈ gs, ∀ v w, S x.1 v w → v = .bool x.2)
    (stable : ∀ t v w w', S t v w → Below w.heap.size w w' → S t v w')
    (hout : ∀ t ∈ outer, ∀ w, Below w0.heap.size w0 w → S t (a0.tmps.getD t undef) w)
    (hsize : ∀ (i : Nat) (o : Oper) (d : Tmp), ops[i]? = some o → o.dst = some d → d < a0.tmps.size)
    (hstep : ∀ (i : Nat) (o : Oper), sk.contains i = false → ops[i]? = some o → StepOK P w0 S (o.looksAt ops) o)
    (hdone : ∀ a w, RegAt ops w0 a0 S (Array.replicate ops.size true) a w → Q .normal a w) :
    ∀ (fuel : Nat) (listed : Array Bool) (a : Act) (w : World), listed.size = ops.size → ops.size ≤ fuel + listed.toList.countP id → RegAt ops w0 a0 S listed a w → wpAny P md ops Q fuel listed a w
  | 0, listed, a, w, hsz, hfu, hI => by
    have hall : ∀ i, i < ops.size → listed.getD i false = true := by
      intro i hi
      have hle := List.countP_le_length (p := id) (l := listed.toList)
      have hl : listed.toList.length = ops.size := by simpa using hsz
      have heq : listed.toList.countP id = listed.toList.length := by omega
      rw [List.countP_eq_length] at heq
      have hm : listed[i]'(by omega) ∈ listed.toList := by simp
      have := heq _ hm
      rw [Array.getD_eq_getD_getElem?, Array.getElem?_eq_getElem (by omega)]
      simpa using this
    have hrn : Region.ready md ops listed = [] := by
      rw [List.eq_nil_iff_forall_not_mem]
      intro i hi
      obtain ⟨h0, o, ho, _⟩ := mem_ready.1 hi
      have hlt : i < ops.size := (Array.getElem?_eq_some_iff.1 ho).1
      have := hall i hlt
      rw [Array.getD_eq_getD_getElem?, Array.getElem?_eq_getElem (by omega)] at h0 this
      simp at h0 this
      rw [h0] at this
      cases this
    refine ⟨hrn, hdone a w ⟨hI.below, hI.size, hI.defers, hI.rest, fun j o d ho _ hd => hI.done j o d ho (hall j (Array.getElem?_eq_some_iff.1 ho).1) hd⟩⟩
  | fuel + 1, listed, a, w, hsz, hfu, hI => by
    refine ⟨fun hn => hdone a w ⟨hI.below, hI.size, hI.defers, hI.rest, fun j o d ho _ hd => hI.done j o d ho (ready_nilG hf hsz hn j (Array.getElem?_eq_some_iff.1 ho).1) hd⟩, fun i hi => ?_⟩
    obtain ⟨h0, o, ho, hall⟩ := mem_ready.1 hi
    have hlt : i < ops.size := (Array.getElem?_eq_some_iff.1 ho).1
    unfold wpOp
    rw [ho]
    simp only
    have hmv : ∀ (listed' : Array Bool) (v : Value) (w' : World), listed' = listed.setIfInBounds i true → Below w.heap.size w w' → (∀ d, o.dst = some d → S d v w') → wpAny P md ops Q fuel listed' (a.put o.dst v) w' := by
      intro listed' v w' hl' hb hS
      subst hl'
      refine wpAny_flowU hf gs sk ds hgs hds hskip hgv stable hout hsize hstep hdone fuel _ _ _ (by simpa using hsz) ?_ ?_
      · have hl0 : listed[i]'(by omega) = false := by
          rw [Array.getD_eq_getD_getElem?, Array.getElem?_eq_getElem (by omega)] at h0
          simpa using h0
        have hc : (listed.setIfInBounds i true).toList.countP id = listed.toList.countP id + 1 := by
          rw [Array.toList_setIfInBounds, List.countP_set (by simpa using (show i < listed.size by omega))]
          simp [hl0]
        omega
      · refine ⟨hI.below.trans (hb.mono hI.below.size), by rw [put_size]; exact hI.size, by rw [put_defers']; exact hI.defers, ?_, ?_⟩
        · intro t ht
          rw [put_other (ht i o ho)]
          exact hI.rest t ht
        · intro j o' d ho' hj hd
          by_cases hji : i = j
          · subst hji
            rw [ho] at ho'
            injection ho' with ho'
            subst ho'
            rw [hd, put_self (by rw [hI.size]; exact hsize i o d ho hd)]
            exact hS d hd
          · rw [getD_set_ne false hji] at hj
            rw [put_other (fun e => hji (hf.once i j o o' d ho ho' e hd))]
            exact stable _ _ _ _ (hI.done j o' d ho' hj hd) hb
    have hguard : ∀ g b, o.guard = some (g, b) → Region.wanted o (yielded ops a.tmps) = (if sk.contains i then false else true) := by
      intro g b hg
      unfold Region.wanted
      rw [hg]
      simp only
      obtain ⟨e, he, hb, heg⟩ := hf.guard i o ho g b hg
      have h1 := guardsU_at hgs ho
      rw [hg] at h1
      simp only at h1
      cases hd : (ops[g]?).bind (·.dst) with
      | none => rw [hd] at h1; cases h1
      | some d =>
        rw [hd] at h1
        simp only at h1
        have hmem : (d, if sk.contains i then !b else b) ∈ gs := by simpa using h1
        cases ho' : ops[g]? with
        | none => rw [ho'] at hd; cases hd
        | some o' =>
          rw [ho'] at hd
          have hd' : o'.dst = some d := hd
          have hS := hI.done g o' d ho' (heg ▸ hall e he hb) hd'
          have hv := hgv _ hmem _ _ hS
          simp only at hv
          have hds : d < a.tmps.size := by rw [hI.size]; exact hsize g o' d ho' hd'
          rw [Array.getD_eq_getD_getElem?, Array.getElem?_eq_getElem hds] at hv
          have hv2 : a.tmps[d] = .bool (if sk.contains i then !b else b) := hv
          unfold yielded
          rw [ho']
          obtain ⟨u, hu⟩ : ∃ u, u = sk.contains i := ⟨_, rfl⟩
          rw [← hu] at hv2 ⊢
          clear hu hmem h1 hv
          cases u <;> cases b <;> simp [hd', Array.getElem?_eq_getElem hds, hv2]
    have hplain : o.guard = none → sk.contains i = false := by
      intro hg
      have h1 := guardsU_at hgs ho
      rw [hg] at h1
      simpa using h1
    cases hsk : sk.contains i with
    | true =>
      have hw : Region.wanted o (yielded ops a.tmps) = false := by
        cases hg : o.guard with
        | none => rw [hplain hg] at hsk; cases hsk
        | some gb => rw [hguard gb.1 gb.2 hg, hsk]; rfl
      rw [if_neg (by rw [hw]; decide)]
      refine hmv _ undef w rfl (Below.refl _ _) (fun d hd => ?_)
      have h2 := skips_at hds hsk
      rw [ho] at h2
      simp only [Option.bind_some, hd] at h2
      exact hskip d (by simpa using h2) w
    | false =>
    have hw : Region.wanted o (yielded ops a.tmps) = true := by
      cases hg : o.guard with
      | none => unfold Region.wanted; rw [hg]
      | some gb => rw [hguard gb.1 gb.2 hg, hsk]; rfl
    rw [if_pos hw]
    refine .inl (hstep i o hsk ho a w _ Q hI.below ?_ ?_)
    · intro t ht
      rcases hf.reads i o ho t ht with h | ⟨e, he, hb, o', ho', hd'⟩
      · rw [hI.rest t (fun j o2 ho2 => hf.out t h j o2 ho2)]
        exact hout t h w hI.below
      · exact hI.done e.on o' t ho' (hall e he hb) hd'
    · intro v w' hb hS
      exact hmv _ v w' rfl hb hS

theorem wp_region_flowU {id : Nat} {l : List Oper} {a : Act} {w : World} {Q : Exit → Act → World → Prop} (outer outs W : List Tmp) (gs : List (Tmp × Bool)) (S : Nat → Value → World → Prop) (n : Nat) (hm : P.follows .mixedOrders = true) (hf : flowGB .any l.toArray outer = true)
    (hn : a.tmps.size = n) (hd : dstsIn n l.toArray = true) (ho : outsIn outs l.toArray = true) (sk : List Nat) (ds : List Tmp) (hgs : guardsUB gs sk l.toArray = true) (hds : skipsB sk ds l.toArray = true) (hskip : ∀ d ∈ ds, ∀ w, S d undef w) (hgv : ∀ x ∈ gs, ∀ v w, S x.1 v w → v = .bool x.2) (hW : dstsOf l = W)
    (stable : ∀ t v w w', S t v w → Below w.heap.size w w' → S t v w')
    (hout : ∀ t ∈ outer, ∀ w', Below w.heap.size w w' → S t (a.tmps.getD t undef) w')
    (hstep : AllStepsK P w S sk 0 l)
    (hdone : ∀ (f : Nat → Value) w', Below w.heap.size w w' → (∀ t ∈ outs, S t (f t) w') → Q .normal (putAll f W a) w') :
    (Code.region id l.toArray true).wp P Q a w := by
  refine wp_region_any hm ?_
  have hfl := flowG_of hf
  refine wpAny_flowU (w0 := w) (a0 := a) hfl gs sk ds hgs hds hskip hgv stable hout ?_ ?_ ?_ _ _ _ _ (by simp) (by omega) ?_
  · intro i o d ho hdo
    unfold dstsIn at hd
    rw [Array.all_eq_true_iff_forall_mem] at hd
    have := hd o (Array.mem_of_getElem? ho)
    rw [hdo] at this
    simpa [hn] using this
  · intro i o hik ho a1 w1 K Q1 hB hr hK
    refine hstep.at i o (by rw [Nat.zero_add]; exact hik) (by simpa using ho) a1 w1 K Q1 hB (fun t ht => hr t ?_) hK
    unfold Oper.looksAt
    exact List.mem_append_left _ ht
  · intro a' w' h
    have e := act_puts (W := W) h.size h.defers (fun k hk => by rw [hn]; exact dst_in hd k (by rw [hW]; exact hk)) (fun t ht => h.rest t (fun j o ho => not_dst (by rw [hW]; exact ht) j o ho))
    rw [e]
    refine hdone _ w' h.below (fun t ht => ?_)
    unfold outsIn at ho
    rw [List.all_eq_true] at ho
    have := ho t ht
    rw [Array.any_eq_true] at this
    obtain ⟨j, hj, e⟩ := this
    exact h.done j _ t (Array.getElem?_eq_getElem hj) (by rw [Array.getD_eq_getD_getElem?, Array.getElem?_replicate]; simp only [if_pos hj]; rfl) (by simpa using e)
  · refine ⟨?_, rfl, rfl, fun _ _ => rfl, ?_⟩
    · exact (Below.refl _ _).drew
    · intro j o d ho hj
      rw [Array.getD_eq_getD_getElem?] at hj
      have hlt : j < l.toArray.size := (Array.getElem?_eq_some_iff.1 ho).1
      rw [Array.getElem?_eq_getElem (by simpa using hlt)] at hj
      simp at hj
end
end Go.Proofs.Ytdldplhfpianhaa

namespace Go.Proofs.Ytdldplhfpianhaa
open Go.RowKit
set_option linter.unusedVariables false
set_option linter.unnecessarySimpa false
set_option linter.unusedSimpArgs false
set_option maxRecDepth 100000

def Bk (a : Option Addr) (k : Nat) : Prop := ∃ off, a = some ⟨k, off, none⟩
def farC (X : Nat → Obj → Prop) (g : Nat) (da va : Option Addr) (k : Nat) : Prop := k = g ∨ (∃ q, X k q) ∨ Bk da k ∨ Bk va k
/-- The program's run x, the document's y in its box. -/
structure CPl (C : CrdC) (wm : World) (X : Nat → Obj → Prop) (g : Nat) (r : Addr) (p : Pg) (n : Nat) (t : Tn) (x y : Rn) (da : Option Addr) (dc : Nat) (va : Option Addr) (vc : Nat) (wx : World) : Prop where
  st : CSt C wm wm.heap.size (farC X g da va) r ⟨p.R, p.W, n⟩ t x wx
  pg : PgOk wm p
  old : wm.heap.size ≤ g
  box : wx.heap[g]? = some (.cells (runQ p n y da dc va vc) 40 (0, 0))
  ext : ∀ h q, X h q → wm.heap.size ≤ h ∧ h ≠ g ∧ ¬ Bk da h ∧ ¬ Bk va h ∧ wx.heap[h]? = some q
  doc : DoIn wx p n y da dc va vc
  apart : ¬ Bk da g ∧ ¬ Bk va g
theorem IsRds.same {W W' : World} {a : Option Addr} {len cap : Nat} {L : List Rd} (hz : IsRds W a len cap L) (hs : W.heap.size ≤ W'.heap.size) (h : ∀ k, Bk a k → W'.heap[k]? = W.heap[k]?) : IsRds W' a len cap L :=
  ⟨hz.1, hz.2.1, hz.2.2.1, fun i hi => by
    obtain ⟨b, off, ha, h1, h2, k0, k1, k2, k3, k4⟩ := hz.2.2.2 i hi
    have e := h b ⟨off, ha⟩
    exact ⟨b, off, ha, Nat.lt_of_lt_of_le h1 hs, h2, (cell_of_block e).trans k0, (cell_of_block e).trans k1, (cell_of_block e).trans k2, (cell_of_block e).trans k3, (cell_of_block e).trans k4⟩⟩
theorem IsNs.same {W W' : World} {a : Option Addr} {len : Nat} {L : List Nat} (hz : IsNs W a len L) (hs : W.heap.size ≤ W'.heap.size) (h : ∀ k, Bk a k → W'.heap[k]? = W.heap[k]?) : IsNs W' a len L :=
  ⟨hz.1, hz.2.1, fun i hi => by
    obtain ⟨b, off, ha, h1, h2, k0⟩ := hz.2.2 i hi
    exact ⟨b, off, ha, Nat.lt_of_lt_of_le h1 hs, h2, (cell_of_block (h b ⟨off, ha⟩)).trans k0⟩⟩
theorem DoIn.same {W W' : World} {p : Pg} {n : Nat} {y : Rn} {da : Option Addr} {dc : Nat} {va : Option Addr} {vc : Nat} (h : DoIn W p n y da dc va vc) (hp : PgOk W' p) (hs : W.heap.size ≤ W'.heap.size) (h1 : ∀ k, Bk da k → W'.heap[k]? = W.heap[k]?) (h2 : ∀ k, Bk va k → W'.heap[k]? = W.heap[k]?) : DoIn W' p n y da dc va vc :=
  ⟨hp, h.rds.same hs h1, h.rnil, h.ns.same hs h2, h.vnil, (fun b off e => Nat.lt_of_lt_of_le (h.rlt b off e) hs), (fun b off e => Nat.lt_of_lt_of_le (h.vlt b off e) hs), h.ok, h.nodes, h.rn, h.wn⟩
/-- A far block is written as a whole. -/
theorem CSt.putRow {C : CrdC} {w0 w : World} {B : Nat} {far : Nat → Prop} {r : Addr} {p : Pn} {t : Tn} {x : Rn} (h : CSt C w0 B far r p t x w) {g : Nat} (hg : far g) (hB : B ≤ g) (cs : Array Value) : CSt C w0 B far r p t x (w.setRow g cs) := by
  obtain ⟨O, hat, hO, hb, hBw, hf⟩ := h
  exact ⟨O, C.stay hat fun k hk => setRow_other _ _ _ _ (fun e => (hO k hk).2 (by rw [e]; exact hg)), hO, ⟨hb.os, hb.tape, hb.output, by simpa using hb.size, fun k hk => (setRow_other _ _ _ _ (by omega)).trans (hb.block k hk)⟩, by simpa using hBw, fun k hk => by simpa using hf k hk⟩
section
variable {C : CrdC} {wm wx w' : World} {X : Nat → Obj → Prop} {g : Nat} {r : Addr} {p : Pg} {n : Nat} {t : Tn} {x x' y : Rn} {da : Option Addr} {dc : Nat} {va : Option Addr} {vc : Nat}
theorem CPl.later (h : CPl C wm X g r p n t x y da dc va vc wx) (hb : Below wx.heap.size wx w') : CPl C wm X g r p n t x y da dc va vc w' :=
  ⟨(h.st.later hb).1, h.pg, h.old, (hb.block _ (Array.getElem?_eq_some_iff.1 h.box).1).trans h.box, fun k q hx => by
    obtain ⟨h1, h2, h3, h4, h5⟩ := h.ext k q hx
    exact ⟨h1, h2, h3, h4, (hb.block _ (Array.getElem?_eq_some_iff.1 h5).1).trans h5⟩, h.doc.below hb, h.apart⟩
/-- The program was told something. -/
theorem CPl.told (h : CPl C wm X g r p n t x y da dc va vc wx) (hs : CSt C wm wm.heap.size (farC X g da va) r ⟨p.R, p.W, n⟩ t x' w') (hf : FarSame2 (farC X g da va) wx w') : CPl C wm X g r p n t x' y da dc va vc w' :=
  ⟨hs, h.pg, h.old, (hf.2 _ (.inl rfl)).trans h.box, fun k q hx => by
    obtain ⟨h1, h2, h3, h4, h5⟩ := h.ext k q hx
    exact ⟨h1, h2, h3, h4, (hf.2 _ (.inr (.inl ⟨q, hx⟩))).trans h5⟩, h.doc.same (h.pg.below hs.below) hf.1 (fun k hk => hf.2 k (.inr (.inr (.inl hk)))) (fun k hk => hf.2 k (.inr (.inr (.inr hk)))), h.apart⟩
/-- The document's run goes on, and is put into its box. -/
theorem CPl.did (h : CPl C wm X g r p n t x y da dc va vc wx) {z : Rn} {da' va' : Option Addr} {dc' vc' : Nat} (hb : Below wx.heap.size wx w') (hd : DoIn w' p n z da' dc' va' vc') (hn1 : NewA wx da da') (hn2 : NewA wx va va') :
    CPl C wm X g r p n t x z da' dc' va' vc' (w'.setRow g (runQ p n z da' dc' va' vc')) := by
  have hgl : g < wx.heap.size := (Array.getElem?_eq_some_iff.1 h.box).1
  have apd : ∀ k, k < wx.heap.size → ¬ Bk da k → ¬ Bk da' k := fun k hk h1 h2 => by
    rcases hn1 with e | ⟨g2, e, h3⟩
    · rw [e] at h2; exact h1 h2
    · obtain ⟨off, e2⟩ := h2; rw [e] at e2; cases e2; omega
  have apv : ∀ k, k < wx.heap.size → ¬ Bk va k → ¬ Bk va' k := fun k hk h1 h2 => by
    rcases hn2 with e | ⟨g2, e, h3⟩
    · rw [e] at h2; exact h1 h2
    · obtain ⟨off, e2⟩ := h2; rw [e] at e2; cases e2; omega
  have hs' : CSt C wm wm.heap.size (farC X g da' va') r ⟨p.R, p.W, n⟩ t x w' := h.st.more hb (fun k hk => by
    rcases hk with rfl | ⟨q, hq⟩ | ⟨off, e⟩ | ⟨off, e⟩
    · exact ⟨Nat.lt_of_lt_of_le hgl hb.size, .inl (.inl rfl)⟩
    · exact ⟨Nat.lt_of_lt_of_le (Array.getElem?_eq_some_iff.1 (h.ext k q hq).2.2.2.2).1 hb.size, .inl (.inr (.inl ⟨q, hq⟩))⟩
    · refine ⟨hd.rlt k off e, ?_⟩
      rcases hn1 with e2 | ⟨g2, e2, h3⟩
      · exact .inl (.inr (.inr (.inl ⟨off, by rw [← e2]; exact e⟩)))
      · rw [e2] at e; cases e; exact .inr h3
    · refine ⟨hd.vlt k off e, ?_⟩
      rcases hn2 with e2 | ⟨g2, e2, h3⟩
      · exact .inl (.inr (.inr (.inr ⟨off, by rw [← e2]; exact e⟩)))
      · rw [e2] at e; cases e; exact .inr h3)
  have hs2 := hs'.putRow (.inl rfl) h.old (runQ p n z da' dc' va' vc')
  have hap : ¬ Bk da' g ∧ ¬ Bk va' g := ⟨apd g hgl h.apart.1, apv g hgl h.apart.2⟩
  refine ⟨hs2, h.pg, h.old, setRow_heap _ _ _ _ _ _ ((hb.block _ hgl).trans h.box), fun k q hx => ?_, ?_, hap⟩
  · obtain ⟨h1, h2, h3, h4, h5⟩ := h.ext k q hx
    have hk : k < wx.heap.size := (Array.getElem?_eq_some_iff.1 h5).1
    exact ⟨h1, h2, apd k hk h3, apv k hk h4, (setRow_other _ _ _ _ h2).trans ((hb.block _ hk).trans h5)⟩
  · exact hd.same (h.pg.below hs2.below) (by simp) (fun k hk => setRow_other _ _ _ _ (fun e => hap.1 (by rw [← e]; exact hk))) (fun k hk => setRow_other _ _ _ _ (fun e => hap.2 (by rw [← e]; exact hk)))
def noX : Nat → Obj → Prop := fun _ _ => False
/-- The event that is looked at has a box. -/
theorem CPl.add (h : CPl C wm noX g r p n t x y da dc va vc wx) (oc : Array Value) : CPl C wm (OpX wx.heap.size oc) g r p n t x y da dc va vc (wx.alloc (.cells oc 47)) := by
  have hb : Below wx.heap.size wx (wx.alloc (.cells oc 47)) := (Below.refl _ _).alloc (Nat.le_refl _) _
  have hl := h.later hb
  have hgl : g < wx.heap.size := (Array.getElem?_eq_some_iff.1 h.box).1
  refine ⟨h.st.more hb (fun k hk => ?_), h.pg, h.old, hl.box, ?_, hl.doc, h.apart⟩
  · rcases hk with rfl | ⟨q, rfl, hq⟩ | hk | hk
    · exact ⟨Nat.lt_of_lt_of_le hgl hb.size, .inl (.inl rfl)⟩
    · exact ⟨by simp, .inr (Nat.le_refl _)⟩
    · obtain ⟨off, e⟩ := hk; exact ⟨hl.doc.rlt k off e, .inl (.inr (.inr (.inl ⟨off, e⟩)))⟩
    · obtain ⟨off, e⟩ := hk; exact ⟨hl.doc.vlt k off e, .inl (.inr (.inr (.inr ⟨off, e⟩)))⟩
  · rintro k q ⟨rfl, rfl⟩
    refine ⟨h.st.size, by omega, fun ⟨off, e⟩ => ?_, fun ⟨off, e⟩ => ?_, heap_alloc_new wx _⟩
    · have := h.doc.rlt _ off e; omega
    · have := h.doc.vlt _ off e; omega
theorem CPl.drop {oc : Array Value} {k : Nat} (h : CPl C wm (OpX k oc) g r p n t x y da dc va vc wx) : CPl C wm noX g r p n t x y da dc va vc wx :=
  ⟨by
    obtain ⟨O, hat, hO, hb, hB, hf⟩ := h.st
    exact ⟨O, hat, fun k hk => ⟨(hO k hk).1, fun hx => (hO k hk).2 (hx.imp id (fun h => h.elim (fun ⟨q, e⟩ => e.elim) .inr))⟩, hb, hB, fun k hk => hf k (hk.imp id (fun h => h.elim (fun ⟨q, e⟩ => e.elim) .inr))⟩, h.pg, h.old, h.box, fun _ _ e => e.elim, h.doc, h.apart⟩
/-- The event's box is written. -/
theorem CPl.put {oc : Array Value} {k i : Nat} {v : Value} (h : CPl C wm (OpX k oc) g r p n t x y da dc va vc wx) : CPl C wm (OpX k (oc.setIfInBounds i v)) g r p n t x y da dc va vc (wx.setCell ⟨k, i, none⟩ v) := by
  obtain ⟨h1, h2, h3, h4, h5⟩ := h.ext k _ ⟨rfl, rfl⟩
  have hs := h.st.put (g := k) (.inr (.inl ⟨_, rfl, rfl⟩)) h1 i v
  have hsz : (wx.setCell ⟨k, i, none⟩ v).heap.size = wx.heap.size := by simp [World.setCell]
  refine ⟨?_, h.pg, h.old, (Below.heap_setCell _ _ _ _ (Ne.symm h2)).trans h.box, ?_, h.doc.same (h.pg.below hs.below) (by rw [hsz]; exact Nat.le_refl _) (fun b hb => Below.heap_setCell _ _ _ _ (fun e => h3 (by have e : b = k := e; rw [← e]; exact hb))) (fun b hb => Below.heap_setCell _ _ _ _ (fun e => h4 (by have e : b = k := e; rw [← e]; exact hb))), h.apart⟩
  · obtain ⟨O, hat, hO, hb, hB, hf⟩ := hs
    have hq : ∀ j, farC (OpX k (oc.setIfInBounds i v)) g da va j → farC (OpX k oc) g da va j := fun j hj => by
      rcases hj with h | ⟨q, rfl, _⟩ | h
      · exact .inl h
      · exact .inr (.inl ⟨_, rfl, rfl⟩)
      · exact .inr (.inr h)
    exact ⟨O, hat, fun j hj => ⟨(hO j hj).1, fun hx => (hO j hj).2 (hq j hx)⟩, hb, hB, fun j hj => hf j (hq j hj)⟩
  · rintro j q ⟨rfl, rfl⟩
    exact ⟨h1, h2, h3, h4, heap_setCell_same _ _ _ _ _ _ h5⟩
theorem CPl.opc {k : Nat} {a0 a1 a2 a3 a4 a5 a6 a7 a8 : Value} (h : CPl C wm (OpX k #[a0, a1, a2, a3, a4, a5, a6, a7, a8]) g r p n t x y da dc va vc wx) :
    wx.cell? ⟨k, 0, none⟩ = some a0 ∧ wx.cell? ⟨k, 1, none⟩ = some a1 ∧ wx.cell? ⟨k, 2, none⟩ = some a2 ∧ wx.cell? ⟨k, 3, none⟩ = some a3 ∧ wx.cell? ⟨k, 4, none⟩ = some a4 ∧ wx.cell? ⟨k, 5, none⟩ = some a5 ∧ wx.cell? ⟨k, 6, none⟩ = some a6 ∧ wx.cell? ⟨k, 7, none⟩ = some a7 ∧ wx.cell? ⟨k, 8, none⟩ = some a8 := by
  have h1 := (h.ext k _ ⟨rfl, rfl⟩).2.2.2.2
  refine ⟨?_, ?_, ?_, ?_, ?_, ?_, ?_, ?_, ?_⟩ <;> (rw [cell_of_row _ _ _ _ _ _ h1]; rfl)
theorem CPl.frz {k : Nat} {oc : Array Value} (h : CPl C wm (OpX k oc) g r p n t x y da dc va vc wx) : ∀ j, wx.frozen? ⟨k, j, none⟩ = false := fun j => frozen_of_row _ _ _ _ _ (h.ext k _ ⟨rfl, rfl⟩).2.2.2.2
theorem CPl.cells (h : CPl C wm X g r p n t x y da dc va vc wx) :
    wx.cell? ⟨g, 0, none⟩ = some (.slice p.ra p.rn p.rc) ∧ wx.cell? ⟨g, 1, none⟩ = some (.slice p.wa p.wn p.wc) ∧ wx.cell? ⟨g, 2, none⟩ = some (.int .i64 (n : Int)) ∧ wx.cell? ⟨g, 3, none⟩ = some (.int .i64 (y.stage : Int)) ∧ wx.cell? ⟨g, 4, none⟩ = some (.int .u64 (y.start : Int)) ∧ wx.cell? ⟨g, 5, none⟩ = some (.int .u64 (y.commit : Int)) ∧ wx.cell? ⟨g, 6, none⟩ = some (.slice da y.read.length dc) ∧ wx.cell? ⟨g, 7, none⟩ = some (.slice va y.voted.length vc) ∧ (∀ j, wx.frozen? ⟨g, j, none⟩ = false) := by
  have h1 := h.box
  unfold runQ runCells at h1
  refine ⟨?_, ?_, ?_, ?_, ?_, ?_, ?_, ?_, fun j => frozen_of_row _ _ _ _ _ h1⟩ <;> (rw [cell_of_row _ _ _ _ _ _ h1]; rfl)
theorem CPl.base (h : CPl C wm X g r p n t x y da dc va vc wx) : Below wm.heap.size wm wx := h.st.below
theorem CPl.tell (h : CPl C wm X g r p n t x y da dc va vc wx) (o : Cq) (ho : o.ok) : Calls Try.prog 10 #[.pointer (some r), .agg o.cells] wx fun e w' => e = .returned (.tuple #[]) ∧ CPl C wm X g r p n t (tellR ⟨p.R, p.W, n⟩ x o) y da dc va vc w' :=
  (tell_any h.st o ho).mono fun e w' ⟨he, h1, h2⟩ => ⟨he, h.told h1 h2⟩
end
end Go.Proofs.Ytdldplhfpianhaa
