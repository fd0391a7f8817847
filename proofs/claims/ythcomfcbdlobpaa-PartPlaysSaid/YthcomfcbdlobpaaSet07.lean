/-
  Joined: RegionR, MvcRow.
-/
import Derived.Test.YthcomfcbdlobpaaSet06
import Derived.Test.YthcomfcbdlobpaaSet02
import Derived.Laws.Rows
import Derived.Laws.AppendOwn
import Derived.Laws.OwnMore
namespace Go.Proofs.Ythcomfcbdlobpaa
open Go.RowKit
set_option linter.unusedVariables false
set_option linter.unnecessarySimpa false
set_option linter.unusedSimpArgs false
set_option maxRecDepth 100000

section
variable {P : Program} {ops : Array Oper} {md : Region.Mode}

/-- What an operation leaves, wherever it comes up: S says of each slot what it holds, T of each operation what holds of the world behind it. -/
def StepR (P : Program) (Rl : World → World → Prop) (w0 : World) (S : Nat → Value → World → Prop) (T : Nat → World → Prop) (rs : List Tmp) (i : Nat) (o : Oper) : Prop :=
  ∀ (a : Act) (w : World) (K : Act → World → Prop) (Q : Exit → Act → World → Prop), Rl w0 w → (∀ t ∈ rs, S t (a.tmps.getD t undef) w) →
    (∀ v w', Rl w w' → T i w' → (∀ d, o.dst = some d → S d v w') → K (a.put o.dst v) w') → o.wp P a w K Q

structure RegR (ops : Array Oper) (Rl : World → World → Prop) (w0 : World) (a0 : Act) (S : Nat → Value → World → Prop) (T : Nat → World → Prop) (listed : Array Bool) (a : Act) (w : World) : Prop where
  rel : Rl w0 w
  size : a.tmps.size = a0.tmps.size
  defers : a.defers = a0.defers
  rest : ∀ t, (∀ (j : Nat) (o : Oper), ops[j]? = some o → o.dst ≠ some t) → a.tmps.getD t undef = a0.tmps.getD t undef
  done : ∀ (j : Nat) (o : Oper) (d : Tmp), ops[j]? = some o → listed.getD j false = true → o.dst = some d → S d (a.tmps.getD d undef) w
  facts : ∀ j, j < ops.size → listed.getD j false = true → T j w

variable {Rl : World → World → Prop} {w0 : World} {a0 : Act} {S : Nat → Value → World → Prop} {T : Nat → World → Prop} {outer : List Tmp} {Q : Exit → Act → World → Prop}

theorem wpAny_rel (hf : Flow md ops outer) (trans : ∀ x y z, Rl x y → Rl y z → Rl x z) (stable : ∀ t v w w', S t v w → Rl w w' → S t v w') (stableT : ∀ i w w', T i w → Rl w w' → T i w')
    (hout : ∀ t ∈ outer, ∀ w, Rl w0 w → S t (a0.tmps.getD t undef) w)
    (hsize : ∀ (i : Nat) (o : Oper) (d : Tmp), ops[i]? = some o → o.dst = some d → d < a0.tmps.size)
    (hstep : ∀ (i : Nat) (o : Oper), ops[i]? = some o → StepR P Rl w0 S T (o.looksAt ops) i o)
    (hdone : ∀ a w, RegR ops Rl w0 a0 S T (Array.replicate ops.size true) a w → Q .normal a w) :
    ∀ (fuel : Nat) (listed : Array Bool) (a : Act) (w : World), listed.size = ops.size → ops.size ≤ fuel + listed.toList.countP id → RegR ops Rl w0 a0 S T listed a w → wpAny P md ops Q fuel listed a w
  | 0, listed, a, w, hsz, hfu, hI => by
    have hall : ∀ i, i < ops.size → listed.getD i false = true := by
      intro i hi
      have hle := List.countP_le_length (p := id) (l := listed.toList)
      have hl : listed.toList.length = ops.size := by simpa using hsz
      have heq : listed.toList.countP id = listed.toList.length := by omega
      rw [List.countP_eq_length] at heq
      have hm : listed[i]'(by omega) ∈ listed.toList := by simp
      have := heq _ hm
      rw [Array.getD_eq_getD_getElem?, Array.getElem?_eq_getElem (by omega)]
      simpa using this
    have hrn : Region.ready md ops listed = [] := by
      rw [List.eq_nil_iff_forall_not_mem]
      intro i hi
      obtain ⟨h0, o, ho, _⟩ := mem_ready.1 hi
      have hlt : i < ops.size := (Array.getElem?_eq_some_iff.1 ho).1
      have := hall i hlt
      rw [Array.getD_eq_getD_getElem?, Array.getElem?_eq_getElem (by omega)] at h0 this
      simp at h0 this
      rw [h0] at this
      cases this
    exact ⟨hrn, hdone a w ⟨hI.rel, hI.size, hI.defers, hI.rest, fun j o d ho _ hd => hI.done j o d ho (hall j (Array.getElem?_eq_some_iff.1 ho).1) hd, fun j hj _ => hI.facts j hj (hall j hj)⟩⟩
  | fuel + 1, listed, a, w, hsz, hfu, hI => by
    refine ⟨fun hn => hdone a w ⟨hI.rel, hI.size, hI.defers, hI.rest, fun j o d ho _ hd => hI.done j o d ho (ready_nil hf hsz hn j (Array.getElem?_eq_some_iff.1 ho).1) hd, fun j hj _ => hI.facts j hj (ready_nil hf hsz hn j hj)⟩, fun i hi => ?_⟩
    obtain ⟨h0, o, ho, hall⟩ := mem_ready.1 hi
    have hlt : i < ops.size := (Array.getElem?_eq_some_iff.1 ho).1
    unfold wpOp
    rw [ho]
    simp only
    have hw : Region.wanted o (yielded ops a.tmps) = true := by
      unfold Region.wanted
      rw [hf.plain i o ho]
    rw [if_pos hw]
    refine .inl (hstep i o ho a w _ Q hI.rel ?_ ?_)
    · intro t ht
      rcases hf.reads i o ho t ht with h | ⟨e, he, hb, o', ho', hd'⟩
      · rw [hI.rest t (fun j o2 ho2 => hf.out t h j o2 ho2)]
        exact hout t h w hI.rel
      · exact hI.done e.on o' t ho' (hall e he hb) hd'
    · intro v w' hb hT hS
      refine wpAny_rel hf trans stable stableT hout hsize hstep hdone fuel _ _ _ (by simpa using hsz) ?_ ?_
      · have hl0 : listed[i]'(by omega) = false := by
          rw [Array.getD_eq_getD_getElem?, Array.getElem?_eq_getElem (by omega)] at h0
          simpa using h0
        have hc : (listed.setIfInBounds i true).toList.countP id = listed.toList.countP id + 1 := by
          rw [Array.toList_setIfInBounds, List.countP_set (by simpa using (show i < listed.size by omega))]
          simp [hl0]
        omega
      · refine ⟨trans _ _ _ hI.rel hb, by rw [put_size]; exact hI.size, by rw [put_defers']; exact hI.defers, ?_, ?_, ?_⟩
        · intro t ht
          rw [put_other (ht i o ho)]
          exact hI.rest t ht
        · intro j o' d ho' hj hd
          by_cases hji : i = j
          · subst hji
            rw [ho] at ho'
            injection ho' with ho'
            subst ho'
            rw [hd, put_self (by rw [hI.size]; exact hsize i o d ho hd)]
            exact hS d hd
          · rw [getD_set_ne false hji] at hj
            rw [put_other (fun e => hji (hf.once i j o o' d ho ho' e hd))]
            exact stable _ _ _ _ (hI.done j o' d ho' hj hd) hb
        · intro j hj hjl
          by_cases hji : i = j
          · subst hji; exact hT
          · rw [getD_set_ne false hji] at hjl
            exact stableT _ _ _ (hI.facts j hj hjl) hb

/-- What an operation leaves, of its own words alone. -/
def StepAtR (P : Program) (Rl : World → World → Prop) (w0 : World) (S : Nat → Value → World → Prop) (T : Nat → World → Prop) (i : Nat) (d : Option Tmp) (op : Op) (ty : TypeId) : Prop :=
  ∀ (a : Act) (w : World) (K : Act → World → Prop) (Q : Exit → Act → World → Prop), Rl w0 w → Reads S a w (tmpsOf op) →
    (∀ v w', Rl w w' → T i w' → (∀ t, d = some t → S t v w') → K (a.put d v) w') → ({ dst := d, op := op, type := ty, pos := "", after := #[], guard := none } : Oper).wp P a w K Q
def AllStepsR (P : Program) (Rl : World → World → Prop) (w0 : World) (S : Nat → Value → World → Prop) (T : Nat → World → Prop) : Nat → List Oper → Prop
  | _, [] => True
  | i, o :: l => StepAtR P Rl w0 S T i o.dst o.op o.type ∧ AllStepsR P Rl w0 S T (i + 1) l
theorem AllStepsR.nil {i : Nat} : AllStepsR P Rl w0 S T i [] := trivial
theorem AllStepsR.cons {i : Nat} {d : Option Tmp} {op : Op} {ty : TypeId} {pos : String} {af : Array Edge} {gd : Option (Nat × Bool)} {l : List Oper} (h : StepAtR P Rl w0 S T i d op ty) (hl : AllStepsR P Rl w0 S T (i + 1) l) :
    AllStepsR P Rl w0 S T i ({ dst := d, op := op, type := ty, pos := pos, after := af, guard := gd } :: l) := ⟨h, hl⟩
theorem AllStepsR.at {l : List Oper} : ∀ {k : Nat} (h : AllStepsR P Rl w0 S T k l) (i : Nat) (o : Oper), l[i]? = some o → StepR P Rl w0 S T (tmpsOf o.op) (k + i) o := by
  induction l with
  | nil => intro k h i o ho; simp at ho
  | cons x l ih =>
    intro k h i o ho
    cases i with
    | zero =>
      simp at ho
      subst ho
      exact fun a w K Q hB hr hK => h.1 a w K Q hB (Reads.of hr) hK
    | succ i =>
      have := ih h.2 i o (by simpa using ho)
      rw [show k + (i + 1) = k + 1 + i by omega]
      exact this

/-- A region that draws its order, over whichever relation of worlds. -/
theorem wp_region_rel {id : Nat} {l : List Oper} {a : Act} {w : World} (outer outs : List Tmp) (Rl : World → World → Prop) (S : Nat → Value → World → Prop) (T : Nat → World → Prop) (n : Nat) (hm : P.follows .mixedOrders = true) (hf : flowB .any l.toArray outer = true)
    (hn : a.tmps.size = n) (hd : dstsIn n l.toArray = true) (ho : outsIn outs l.toArray = true) (hdrew : Rl w w.drew) (trans : ∀ x y z, Rl x y → Rl y z → Rl x z)
    (stable : ∀ t v w w', S t v w → Rl w w' → S t v w') (stableT : ∀ i w w', T i w → Rl w w' → T i w')
    (hout : ∀ t ∈ outer, ∀ w', Rl w w' → S t (a.tmps.getD t undef) w')
    (hstep : AllStepsR P Rl w S T 0 l)
    (hdone : ∀ a' w', Rl w w' → a'.tmps.size = n → a'.defers = a.defers → (∀ t ∈ outer, a'.tmps.getD t undef = a.tmps.getD t undef) → (∀ t ∈ outs, S t (a'.tmps.getD t undef) w') → (∀ i, i < l.length → T i w') → Q .normal a' w') :
    (Code.region id l.toArray true).wp P Q a w := by
  refine wp_region_any hm ?_
  have hfl := flow_of hf
  refine wpAny_rel (w0 := w) (a0 := a) (Rl := Rl) (S := S) (T := T) hfl trans stable stableT hout ?_ ?_ ?_ _ _ _ _ (by simp) (by omega) ?_
  · intro i o d ho hdo
    unfold dstsIn at hd
    rw [Array.all_eq_true_iff_forall_mem] at hd
    have := hd o (Array.mem_of_getElem? ho)
    rw [hdo] at this
    simpa [hn] using this
  · intro i o ho
    rw [looksAt_plain (hfl.plain i o ho)]
    have := hstep.at i o (by simpa using ho)
    rw [Nat.zero_add] at this
    exact this
  · intro a' w' h
    refine hdone a' w' h.rel (h.size.trans hn) h.defers (fun t ht => h.rest t (fun j o ho => hfl.out t ht j o ho)) (fun t ht => ?_) (fun i hi => h.facts i (by simpa using hi) (by rw [Array.getD_eq_getD_getElem?, Array.getElem?_replicate]; simp only [if_pos (show i < l.toArray.size by simpa using hi)]; rfl))
    unfold outsIn at ho
    rw [List.all_eq_true] at ho
    have := ho t ht
    rw [Array.any_eq_true] at this
    obtain ⟨j, hj, e⟩ := this
    exact h.done j _ t (Array.getElem?_eq_getElem hj) (by rw [Array.getD_eq_getD_getElem?, Array.getElem?_replicate]; simp only [if_pos hj]; rfl) (by simpa using e)
  · refine ⟨hdrew, rfl, rfl, fun _ _ => rfl, ?_, ?_⟩
    · intro j o d ho hj
      rw [Array.getD_eq_getD_getElem?] at hj
      have hlt : j < l.toArray.size := (Array.getElem?_eq_some_iff.1 ho).1
      rw [Array.getElem?_eq_getElem (by simpa using hlt)] at hj
      simp at hj
    · intro j hj hjl
      rw [Array.getD_eq_getD_getElem?, Array.getElem?_eq_getElem (by simpa using hj)] at hjl
      simp at hjl
end
end Go.Proofs.Ythcomfcbdlobpaa

namespace Go.Proofs.Ythcomfcbdlobpaa
open Go.RowKit
set_option linter.unusedVariables false
set_option linter.unnecessarySimpa false
set_option linter.unusedSimpArgs false
set_option maxRecDepth 100000

def Im.cells (m : Im) : List Value := [.string m.key, .int .u64 (m.v.time : Int), .bool m.v.gone, .string m.v.val]
def imCells : List Im → List Value
  | [] => []
  | m :: L => m.cells ++ imCells L
theorem imCells_len : ∀ L : List Im, (imCells L).length = L.length * 4
  | [] => rfl
  | m :: L => by rw [imCells, List.length_append, imCells_len L, List.length_cons]; simp [Im.cells]; omega
theorem imCells_app : ∀ L M : List Im, imCells (L ++ M) = imCells L ++ imCells M
  | [], _ => rfl
  | m :: L, M => by rw [List.cons_append, imCells, imCells, imCells_app L M, List.append_assoc]
theorem imCells_at : ∀ (L : List Im) (i j : Nat), i < L.length → j < 4 → (imCells L)[i * 4 + j]? = ((L.getD i im0).cells)[j]?
  | [], i, j, hi, _ => by simp at hi
  | m :: L, 0, j, _, hj => by
    rw [imCells, List.getElem?_append_left (by simp [Im.cells]; omega)]
    simp
  | m :: L, i + 1, j, hi, hj => by
    rw [imCells, List.getElem?_append_right (by simp [Im.cells]; omega)]
    have := imCells_at L i j (by simpa using hi) hj
    rw [show (i + 1) * 4 + j - m.cells.length = i * 4 + j by simp [Im.cells]; omega, this]
    simp
theorem imCells_one : ∀ (L : List Im) (u : Value), u ∈ imCells L → u.oneCell' = true
  | [], u, h => by simp [imCells] at h
  | m :: L, u, h => by
    rw [imCells, List.mem_append] at h
    rcases h with h | h
    · simp only [Im.cells, List.mem_cons, List.not_mem_nil, or_false] at h
      rcases h with rfl | rfl | rfl | rfl <;> rfl
    · exact imCells_one L u h
/-- The cells of versions that came in. -/
theorem IsItms.news {W : World} {b off len cap : Nat} {L : List Im} (hz : IsItms W (some ⟨b, off, none⟩) len cap L) : ∀ j u, (imCells L)[j]? = some u → W.cell? ((⟨b, off, none⟩ : Addr).add j) = some u := by
  intro j u hu
  have hj : j < L.length * 4 := by rw [← imCells_len]; exact (List.getElem?_eq_some_iff.1 hu).1
  have hd : j = (j / 4) * 4 + j % 4 := by omega
  have hi : j / 4 < len := by have := hz.1; omega
  obtain ⟨b', off', ha, _, _, _, _, k0, k1, k2, k3⟩ := hz.2.2 (j / 4) hi
  simp only [Option.some.injEq, Addr.mk.injEq, and_true] at ha
  obtain ⟨rfl, rfl⟩ := ha
  have hm : j % 4 < 4 := Nat.mod_lt _ (by omega)
  rw [hd, imCells_at L _ _ (by rw [hz.1]; exact hi) hm] at hu
  have hadd : (⟨b, off, none⟩ : Addr).add j = ⟨b, off + j, none⟩ := Addr.add_lit ..
  rw [hadd]
  obtain ⟨r, hr⟩ : ∃ r, r = j % 4 := ⟨_, rfl⟩
  rw [← hr] at hu hm hd
  rw [hd]
  have hcs : r = 0 ∨ r = 1 ∨ r = 2 ∨ r = 3 := by omega
  rcases hcs with rfl | rfl | rfl | rfl
  · simp only [Im.cells, List.getElem?_cons_zero] at hu; cases hu; exact k0
  · simp only [Im.cells, List.getElem?_cons_succ, List.getElem?_cons_zero] at hu; cases hu; exact k1
  · simp only [Im.cells, List.getElem?_cons_succ, List.getElem?_cons_zero] at hu; cases hu; exact k2
  · simp only [Im.cells, List.getElem?_cons_succ, List.getElem?_cons_zero] at hu; cases hu; exact k3

/-- A row of the call's own, from block B on, that begins with the cells of these versions; 'tight': it has no room. -/
def RowOf (B : Nat) (tight : Bool) (L : List Im) (v : Value) (w : World) : Prop :=
  ∃ h cap cur, v = .slice (some ⟨h, 0, none⟩) L.length cap ∧ B ≤ h ∧ w.heap[h]? = some (.cells cur 111 (0, 0)) ∧ cur.size = cap * 4 ∧ L.length ≤ cap ∧ cap ≤ maxLen ∧ cur.toList.take (L.length * 4) = imCells L ∧ (tight = true → cap = L.length)
section
variable {B : Nat} {tight : Bool} {L M : List Im} {v : Value} {w w' : World}
theorem RowOf.below (h : RowOf B tight L v w) (hb : Below w.heap.size w w') : RowOf B tight L v w' := by
  obtain ⟨g, cap, cur, h1, h2, h3, h4⟩ := h
  exact ⟨g, cap, cur, h1, h2, (hb.block g (Array.getElem?_eq_some_iff.1 h3).1).trans h3, h4⟩
theorem RowOf.own (h : RowOf B tight L v w) : w.ownsRow B 111 4 v L.length (imCells L) := by
  obtain ⟨g, cap, cur, h1, h2, h3, h4, h5, h6, h7, _⟩ := h
  exact ⟨imCells_len L, .inr ⟨g, cap, cur, h1, h2, h3, h5, h6, h4, h7⟩⟩
theorem RowOf.items (h : RowOf B tight L v w) (hL : ∀ i, i < L.length → (L.getD i im0).key.size ≤ maxLen ∧ (L.getD i im0).v.val.size ≤ maxLen ∧ (L.getD i im0).v.time < 18446744073709551616) (hl : L.length ≤ maxLen) :
    ∃ a cap, v = .slice a L.length cap ∧ IsItms w a L.length cap L := by
  obtain ⟨g, cap, cur, rfl, h2, h3, h4, h5, h6, h7, _⟩ := h
  refine ⟨_, cap, rfl, rfl, hl, fun i hi => ⟨g, 0, rfl, ?_⟩⟩
  obtain ⟨k1, k2, k3⟩ := hL i hi
  have hc : ∀ j, j < 4 → w.cell? ⟨g, 0 + i * 4 + j, none⟩ = ((L.getD i im0).cells)[j]? := fun j hj => by
    rw [cell_of_row w g _ cur _ (0, 0) h3, ← imCells_at L i j hi hj, ← h7, List.getElem?_take, if_pos (by omega)]
    simp
  exact ⟨(Array.getElem?_eq_some_iff.1 h3).1, k1, k2, k3, hc 0 (by omega), hc 1 (by omega), hc 2 (by omega), hc 3 (by omega)⟩
end

theorem itemInfo : (Try.prog.info? 111).map (fun i => (i.zero.map (fun z => z.cells.size), i.size, i.bytes)) = some (some 4, 4, 48) := by kernel_rfl
theorem itemI : ∃ i z, Try.prog.info? 111 = some i ∧ i.zero = some z ∧ z.cells.size = 4 ∧ i.size = 4 ∧ i.bytes = 48 := by
  have h := itemInfo
  cases hq : Try.prog.info? 111 with
  | none => rw [hq] at h; simp at h
  | some i =>
    rw [hq] at h
    simp only [Option.map_some, Option.some.injEq, Prod.mk.injEq] at h
    obtain ⟨h1, h2, h3⟩ := h
    cases hz : i.zero with
    | none => rw [hz] at h1; simp at h1
    | some z => rw [hz] at h1; exact ⟨i, z, rfl, hz, by simpa using h1, h2, h3⟩

theorem zcells_size {i : TypeInfo} (z : Value) (n : Nat) (hz : z.cells.size = 4) : (Builtin.zeroCells z.cells n).size = n * 4 := by rw [size_zeroCells, hz]

/-- 'append([]Item{}, l...)'. -/
theorem app_first {B : Nat} (w : World) (v : Value) (a : Option Addr) (len cap : Nat) (L : List Im) (h : RowOf B true [] v w) (hz : IsItms w a len cap L) (hl : len ≤ 100000) (ha : len = 0 → a = none → cap = 0) (hB : B ≤ w.heap.size) :
    ∃ v' w', (Builtin.append_ #[29, 29] 29 #[v, .slice a len cap]).run Try.prog w = .ok v' w' ∧ Below w.heap.size w w' ∧ RowOf B (L.length == 0) L v' w' := by
  obtain ⟨i, z, hi, hz0, hz1, hz2, hz3⟩ := itemI
  have hlen := hz.1
  by_cases h0 : len = 0
  · subst h0
    have hL : L = [] := List.eq_nil_of_length_eq_zero hlen
    subst hL
    cases a with
    | none =>
      rw [ha rfl rfl]
      exact ⟨v, w, run_append_owned_none (P := Try.prog) (w := w) B _ _ _ i 4 Try.underlying29 hi v 0 (imCells []) h.own, Below.refl _ _, h⟩
    | some ad =>
      obtain ⟨g, c, cur, rfl, h2, h3, h4, h5, h6, h7, h8⟩ := h
      have hr := run_append_room (P := Try.prog) w 29 29 111 i Try.underlying29 hi g 0 c cur h3 ad 0 cap [] (by simp) (by simp) (by simp) (by omega) (by simp)
      have hself : (cur.toList.take (0 * i.size) ++ [] ++ cur.toList.drop (0 * i.size + ([] : List Value).length)).toArray = cur := by simp
      rw [hself, setRow_self w g cur _ _ h3] at hr
      exact ⟨_, w, hr, Below.refl _ _, g, c, cur, rfl, h2, h3, h4, h5, h6, h7, fun _ => h8 rfl⟩
  · have hL : ¬ L.length = 0 := by omega
    obtain ⟨b, off, rfl, _⟩ := hz.2.2 0 (by omega)
    obtain ⟨g, c, cur, rfl, h2, h3, h4, h5, h6, h7, h8⟩ := h
    have hc0 : c = 0 := h8 rfl
    subst hc0
    have hr := run_append_grow (P := Try.prog) w 29 29 111 i z Try.underlying29 hi hz0 ⟨g, 0, none⟩ 0 0 [] (by simp) (by simp) ⟨b, off, none⟩ len cap (imCells L) (by rw [imCells_len, hz2, hlen]) hz.news (by omega) (by omega) (growslice_fits (by omega) (by rw [hz3]; omega))
    have hge := grownCap_ge w (0 + len) 0 111
    have hcm := grownCap_le_maxLen w (0 + len) 0 111 (by unfold maxLen; omega)
    refine ⟨_, _, hr, ?_, w.heap.size, _, _, by rw [hlen, Nat.zero_add], hB, heap_alloc_new w.drew _, ?_, ?_, hcm, ?_, ?_⟩
    · exact ((Below.refl _ _).drew).alloc (Nat.le_refl _) _
    · simp only [Array.size_append, List.size_toArray, size_zeroCells, hz1, imCells_len, List.length_nil]
      omega
    · omega
    · simp only [Array.toList_append, List.nil_append, List.append_assoc]
      rw [← imCells_len L]
      exact List.take_left
    · intro e; simp at e; subst e; simp at hL

/-- What worlds keep while a region makes a row and puts it into block R. -/
structure RowKeep (B R : Nat) (L : List Im) (m : Im) (w w' : World) : Prop where
  os : w'.os = w.os
  tape : w'.tape = w.tape
  output : w'.output = w.output
  size : w.heap.size ≤ w'.heap.size
  block : ∀ k, k < B → k ≠ R → w'.heap[k]? = w.heap[k]?
  k0 : ∀ v, RowOf B true [] v w → RowOf B true [] v w'
  k1 : ∀ v, RowOf B true [m] v w → RowOf B true [m] v w'
  k2 : ∀ v, RowOf B (L.length == 0) L v w → RowOf B (L.length == 0) L v w'
  k3 : ∀ v, RowOf B false (L ++ [m]) v w → RowOf B false (L ++ [m]) v w'
  good : ∀ s, RowOf B false (L ++ [m]) s w → w.heap[R]? = some (.cells #[s] 31 (0, 0)) → ∃ s', RowOf B false (L ++ [m]) s' w' ∧ w'.heap[R]? = some (.cells #[s'] 31 (0, 0))
  res : ∀ s, w.heap[R]? = some (.cells #[s] 31 (0, 0)) → ∃ s', w'.heap[R]? = some (.cells #[s'] 31 (0, 0))
section
variable {B R : Nat} {L : List Im} {m : Im} {w w' w2 : World}
theorem RowKeep.of (hR : R < w.heap.size) (hB : B ≤ w.heap.size) (hb : Below w.heap.size w w') : RowKeep B R L m w w' :=
  ⟨hb.os, hb.tape, hb.output, hb.size, fun k hk _ => hb.block k (by omega), fun _ h => h.below hb, fun _ h => h.below hb, fun _ h => h.below hb, fun _ h => h.below hb,
    fun s h1 h2 => ⟨s, h1.below hb, (hb.block R hR).trans h2⟩, fun s h => ⟨s, (hb.block R hR).trans h⟩⟩
theorem RowKeep.trans (h : RowKeep B R L m w w') (g : RowKeep B R L m w' w2) : RowKeep B R L m w w2 :=
  ⟨g.os.trans h.os, g.tape.trans h.tape, g.output.trans h.output, Nat.le_trans h.size g.size, fun k hk hr => (g.block k hk hr).trans (h.block k hk hr), fun v x => g.k0 v (h.k0 v x), fun v x => g.k1 v (h.k1 v x), fun v x => g.k2 v (h.k2 v x), fun v x => g.k3 v (h.k3 v x),
    fun s h1 h2 => by obtain ⟨s', a, b⟩ := h.good s h1 h2; exact g.good s' a b, fun s h1 => by obtain ⟨s', a⟩ := h.res s h1; exact g.res s' a⟩
theorem RowKeep.put (hR : R < B) {old s : Value} (ho : w.heap[R]? = some (.cells #[old] 31 (0, 0))) (hs : RowOf B false (L ++ [m]) s w) :
    RowKeep B R L m w (w.setRow R #[s]) := by
  have kp : ∀ (t : Bool) (M : List Im) (v : Value), RowOf B t M v w → RowOf B t M v (w.setRow R #[s]) := fun t M v h => by
    obtain ⟨g, cap, cur, h1, h2, h3, h4⟩ := h
    exact ⟨g, cap, cur, h1, h2, by rw [setRow_other _ _ _ _ (by omega)]; exact h3, h4⟩
  exact ⟨rfl, rfl, rfl, by simp, fun k _ hk => setRow_other _ _ _ _ hk, kp _ _, kp _ _, kp _ _, kp _ _, fun s' h1 h2 => ⟨s, kp _ _ _ hs, setRow_heap _ _ _ _ _ _ ho⟩, fun _ _ => ⟨s, setRow_heap _ _ _ _ _ _ ho⟩⟩
end

/-- 'append(row, item)'. -/
theorem app_second {B R : Nat} (w : World) (v u : Value) (L : List Im) (m : Im) (h : RowOf B (L.length == 0) L v w) (hu : RowOf B true [m] u w) (hl : L.length ≤ 100000) (hB : B ≤ w.heap.size) (hR : R < B) :
    ∃ v' w', (Builtin.append_ #[29, 29] 29 #[v, u]).run Try.prog w = .ok v' w' ∧ RowKeep B R L m w w' ∧ RowOf B false (L ++ [m]) v' w' := by
  obtain ⟨i, z, hi, hz0, hz1, hz2, hz3⟩ := itemI
  have hown := h.own
  have houn := hu.own
  obtain ⟨gu, cu, curu, rfl, u2, u3, u4, u5, u6, u7, u8⟩ := hu
  obtain ⟨g, c, cur, rfl, h2, h3, h4, h5, h6, h7, h8⟩ := h
  have hnews : ∀ j x, (imCells [m])[j]? = some x → w.cell? ((⟨gu, 0, none⟩ : Addr).add j) = some x := houn.cells rfl
  have hnl : (imCells [m]).length = 1 * i.size := by rw [imCells_len, hz2]; rfl
  by_cases hroom : L.length + 1 ≤ c
  · have hpos : 0 < L.length := by
      by_cases e : L.length = 0
      · have := h8 (by rw [e]; rfl); omega
      · omega
    have hr := run_append_room (P := Try.prog) w 29 29 111 i Try.underlying29 hi g L.length c cur h3 ⟨gu, 0, none⟩ 1 cu (imCells [m]) hnl hnews (imCells_one _) hroom (by rw [hnl, hz2]; omega)
    rw [hz2, imCells_len] at hr
    have hcl : cur.toList.length = cur.size := Array.length_toList
    obtain ⟨N, hN⟩ : ∃ N, N = (cur.toList.take (L.length * 4) ++ imCells [m] ++ cur.toList.drop (L.length * 4 + [m].length * 4)).toArray := ⟨_, rfl⟩
    rw [← hN] at hr
    have hNs : N.size = cur.size := by
      rw [hN, List.size_toArray, List.length_append, List.length_append, List.length_take, List.length_drop, imCells_len, hcl]
      simp only [List.length_cons, List.length_nil]
      omega
    have hN4 : ∀ k, k ≤ L.length * 4 → N.toList.take k = cur.toList.take k := fun k hk => by
      rw [hN]
      simp only [List.append_assoc]
      rw [List.take_append_of_le_length (by rw [List.length_take, hcl]; omega), List.take_take, Nat.min_eq_left hk]
    have hN5 : N.toList.take ((L ++ [m]).length * 4) = imCells (L ++ [m]) := by
      rw [hN, h7, ← imCells_app, List.length_append, ← List.length_append, ← imCells_len]
      exact List.take_left
    have hset := setRow_heap w g cur N _ _ h3
    have kp : ∀ (t : Bool) (M : List Im) (x : Value), M.length ≤ L.length → RowOf B t M x w → RowOf B t M x (w.setRow g N) := fun t M x hM hx => by
      obtain ⟨g', c', cur', e1, e2, e3, e4, e5, e6, e7, e8⟩ := hx
      by_cases hg : g' = g
      · subst hg
        rw [h3] at e3
        injection e3 with e3
        injection e3 with e3 _ _
        subst e3
        exact ⟨g', c', N, e1, e2, hset, by rw [hNs]; exact e4, e5, e6, by rw [hN4 _ (Nat.mul_le_mul_right 4 hM)]; exact e7, e8⟩
      · exact ⟨g', c', cur', e1, e2, by rw [setRow_other _ _ _ _ hg]; exact e3, e4, e5, e6, e7, e8⟩
    have kp3 : ∀ x, RowOf B false (L ++ [m]) x w → RowOf B false (L ++ [m]) x (w.setRow g N) := fun x hx => by
      obtain ⟨g', c', cur', e1, e2, e3, e4, e5, e6, e7, e8⟩ := hx
      by_cases hg : g' = g
      · subst hg
        rw [h3] at e3
        injection e3 with e3
        injection e3 with e3 _ _
        subst e3
        exact ⟨g', c', N, e1, e2, hset, by rw [hNs]; exact e4, e5, e6, hN5, e8⟩
      · exact ⟨g', c', cur', e1, e2, by rw [setRow_other _ _ _ _ hg]; exact e3, e4, e5, e6, e7, e8⟩
    refine ⟨_, _, hr, ⟨rfl, rfl, rfl, by simp, fun k hk _ => setRow_other _ _ _ _ (by omega), fun x => kp _ _ x (by simp), fun x => kp _ _ x (by simp only [List.length_cons, List.length_nil]; omega), fun x => kp _ _ x (Nat.le_refl _), kp3,
      fun s h1 h2 => ⟨s, kp3 s h1, by rw [setRow_other _ _ _ _ (by omega)]; exact h2⟩, fun s h1 => ⟨s, by rw [setRow_other _ _ _ _ (by omega)]; exact h1⟩⟩, ?_⟩
    exact ⟨g, c, N, by simp, h2, hset, by rw [hNs]; exact h4, by simpa using hroom, h6, hN5, fun e => by cases e⟩
  · have hr := run_append_grow (P := Try.prog) w 29 29 111 i z Try.underlying29 hi hz0 ⟨g, 0, none⟩ L.length c (imCells L) (by rw [imCells_len, hz2]) (hown.cells rfl) ⟨gu, 0, none⟩ 1 cu (imCells [m]) hnl hnews (by omega) (by omega) (growslice_fits (by omega) (by rw [hz3]; omega))
    have hge := grownCap_ge w (L.length + 1) c 111
    have hcm := grownCap_le_maxLen w (L.length + 1) c 111 (by unfold maxLen; omega)
    have hb : Below w.heap.size w (w.drew.alloc (.cells ((imCells L).toArray ++ (imCells [m]).toArray ++ Builtin.zeroCells z.cells (grownCap w (L.length + 1) c 111 - (L.length + 1))) 111)) := ((Below.refl _ _).drew).alloc (Nat.le_refl _) _
    refine ⟨_, _, hr, RowKeep.of (by omega) hB hb, w.heap.size, _, _, by simp, hB, heap_alloc_new w.drew _, ?_, by simpa using hge, hcm, ?_, fun e => by cases e⟩
    · simp only [Array.size_append, List.size_toArray, size_zeroCells, hz1, imCells_len, List.length_cons, List.length_nil]
      omega
    · simp only [Array.toList_append]
      rw [← imCells_app, ← imCells_len]
      exact List.take_left
end Go.Proofs.Ythcomfcbdlobpaa
