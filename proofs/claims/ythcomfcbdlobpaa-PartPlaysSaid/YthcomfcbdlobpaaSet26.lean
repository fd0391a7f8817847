/-
  Joined: PrtPMath, PrtPSt, PrtPSmall.
-/
import Derived.Test.YthcomfcbdlobpaaSet18
import Derived.Test.YthcomfcbdlobpaaSet20
import Derived.Maps.OwnSet
import Derived.Deep.WholeRow
import Derived.Maps.Ext
import Derived.Maps.Views
import Derived.Laws.Strings
import Derived.RegionTactic
import Derived.BigQuiet
import Derived.Deep.RegionWith
import Derived.Deep.DeepCutAuto
import Derived.Deep.CutBlock
import Derived.Deep.LoopGhost
namespace Go.Proofs.Ythcomfcbdlobpaa
open Go.RowKit Go.Maps
set_option linter.unusedVariables false
set_option linter.unnecessarySimpa false
set_option linter.unusedSimpArgs false
set_option maxRecDepth 100000

/-- A map's element read as itself. -/
def RW (v : Value) : Option (DataW Value × List MemPlace) := some (.held v, [])
noncomputable def litT (t : Tn) : Lit := (keyOf Try.prog 36 (.agg t.cells)).getD (.bool false)
theorem litT_key {t : Tn} (h : t.ok) : keyOf Try.prog 36 (.agg t.cells) = some (litT t) := by
  obtain ⟨l, e⟩ := keyOf_txn t h
  unfold litT
  rw [e]
  rfl
theorem litT_inj {t u : Tn} (h : t.ok) (k : u.ok) (e : litT t = litT u) : t = u := by
  have h1 := litT_key h
  have h2 := litT_key k
  rw [e] at h1
  have := tk_law.inj h1 h2
  obtain ⟨a, b, c⟩ := t
  obtain ⟨a', b', c'⟩ := u
  simp [Tn.cells] at this
  simp [this]
theorem sk_law : Keyed Try.prog 9 := string_keyed Try.underlying9
def litS (k : ByteArray) : Lit := .string k.data.toList
theorem litS_key {k : ByteArray} (h : k.size ≤ maxLen) : keyOf Try.prog 9 (.string k) = some (litS k) := by
  unfold keyOf
  rw [Try.underlying9]
  simp [mapKey, Try.underlying9, h, litS]
theorem litS_same (a b : ByteArray) : litS a = litS b ↔ sameK a b = true := by
  have h1 : a.data.toList = a.toList := (ByteArray.toList_eq _).symm
  have h2 : b.data.toList = b.toList := (ByteArray.toList_eq _).symm
  unfold litS sameK
  simp [h1, h2]

/-- What may be prepared. -/
structure GoodP (P : List Pd) : Prop where
  tn : P.Pairwise (fun p q => p.t ≠ q.t)
  ok : ∀ p ∈ P, p.t.ok ∧ p.start < 18446744073709551616 ∧ p.w.length ≤ 8 ∧ ∀ m ∈ p.w, m.key.size ≤ 100 ∧ m.val.size ≤ 500
  own : ∀ p ∈ P, p.w.Pairwise Dis
  dis : P.Pairwise (fun p q => DisW p.w q.w)
theorem GoodP.nil : GoodP [] := ⟨List.Pairwise.nil, fun p h => (by cases h), fun p h => (by cases h), List.Pairwise.nil⟩
theorem GoodP.out {P : List Pd} (h : GoodP P) (i : Nat) : GoodP (outP P i) :=
  ⟨h.tn.sublist (outP_sublist P i), fun p hp => h.ok p (outP_sub hp), fun p hp => h.own p (outP_sub hp), h.dis.sublist (outP_sublist P i)⟩
theorem atN_yes {t : Tn} : ∀ {P : List Pd} {p : Pd}, p ∈ P → p.t = t → atN t P < P.length
  | q :: l, p, hp, e => by
    unfold atN
    split
    · simp
    · rename_i hn
      rcases List.mem_cons.1 hp with rfl | hp
      · exact absurd e hn
      · have := atN_yes hp e
        simp
        omega
theorem atN_not {t : Tn} {P : List Pd} (h : ¬ atN t P < P.length) : ∀ q ∈ P, q.t ≠ t := fun q hq e => h (atN_yes hq e)
theorem atN_get {t : Tn} : ∀ {P : List Pd}, atN t P < P.length → (P.getD (atN t P) pd0).t = t
  | [], h => by simp at h
  | p :: l, h => by
    unfold atN at h ⊢
    split
    · rename_i e
      simpa using e
    · rename_i hn
      rw [if_neg hn] at h
      simpa using atN_get (P := l) (by simpa using h)
theorem getD_mem {α : Type} {l : List α} {i : Nat} (h : i < l.length) (d : α) : l.getD i d ∈ l := by
  rw [List.getD, List.getElem?_eq_getElem h]
  exact List.getElem_mem h
theorem GoodP.app {S : List Im} {P : List Pd} (h : GoodP P) (p : Pd) (h0 : mayN S P p.t p.start p.w = 0) (hn : ¬ atN p.t P < P.length) (ht : p.t.ok) (hs : p.start < 18446744073709551616) : GoodP (P ++ [p]) := by
  obtain ⟨h1, h2, h3⟩ := may_zero h0 hn
  refine ⟨List.pairwise_append.2 ⟨h.tn, List.pairwise_singleton _ _, fun q hq x hx => ?_⟩, fun q hq => ?_, fun q hq => ?_, List.pairwise_append.2 ⟨h.dis, List.pairwise_singleton _ _, fun q hq x hx => ?_⟩⟩
  · rw [List.mem_singleton.1 hx]
    exact atN_not hn q hq
  · rcases List.mem_append.1 hq with hq | hq
    · exact h.ok q hq
    · rw [List.mem_singleton.1 hq]
      exact ⟨ht, hs, may_small h0 hn, fun m hm => ⟨(h1 m hm).1, (h1 m hm).2.1⟩⟩
  · rcases List.mem_append.1 hq with hq | hq
    · exact h.own q hq
    · rw [List.mem_singleton.1 hq]
      exact h2
  · rw [List.mem_singleton.1 hx]
    exact h3 q hq
/-- What is left, by its transactions. -/
theorem mem_out {P : List Pd} (h : GoodP P) {i : Nat} (hi : i < P.length) (q : Pd) : q ∈ outP P i ↔ q ∈ P ∧ q.t ≠ (P.getD i pd0).t := by
  have e : P = P.take i ++ P.getD i pd0 :: P.drop (i + 1) := by
    rw [List.getD, List.getElem?_eq_getElem hi]
    simp
  have hp := h.tn
  rw [e] at hp
  obtain ⟨h1, h2, h3⟩ := List.pairwise_append.1 hp
  obtain ⟨h4, h5⟩ := List.pairwise_cons.1 h2
  obtain ⟨p, hpp⟩ : ∃ p, p = P.getD i pd0 := ⟨_, rfl⟩
  rw [← hpp] at e h3 h4 ⊢
  unfold outP
  constructor
  · intro hq
    refine ⟨outP_sub hq, ?_⟩
    rcases List.mem_append.1 hq with hq | hq
    · exact h3 q hq p (by simp)
    · exact fun e => h4 q hq e.symm
  · rintro ⟨hq, hn⟩
    rw [e] at hq
    rcases List.mem_append.1 hq with hq | hq
    · exact List.mem_append.2 (.inl hq)
    · rcases List.mem_cons.1 hq with rfl | hq
      · exact absurd rfl hn
      · exact List.mem_append.2 (.inr hq)
theorem lockedP_true {key : ByteArray} {P : List Pd} : lockedP key P = true ↔ ∃ p ∈ P, ∃ m ∈ p.w, sameK m.key key = true := by
  unfold lockedP
  rw [List.any_eq_true]
  constructor
  · rintro ⟨p, hp, h⟩
    exact ⟨p, hp, hasK_true.1 h⟩
  · rintro ⟨p, hp, h⟩
    exact ⟨p, hp, hasK_true.2 h⟩
theorem dis_same {P : List Pd} (h : GoodP P) {p q : Pd} (hp : p ∈ P) (hq : q ∈ P) {m m' : Wq} (hm : m ∈ p.w) (hm' : m' ∈ q.w) (e : sameK m.key m'.key = true) : p = q := by
  have hd := h.dis
  induction P with
  | nil => cases hp
  | cons x l ih =>
    obtain ⟨h1, h2⟩ := List.pairwise_cons.1 hd
    rcases List.mem_cons.1 hp with e1 | kp
    · rcases List.mem_cons.1 hq with e2 | kq
      · rw [e1, e2]
      · rw [e1] at hm
        rw [h1 q kq m hm m' hm'] at e
        cases e
    · rcases List.mem_cons.1 hq with e2 | kq
      · rw [e2] at hm'
        have := h1 p kp m' hm' m hm
        rw [sameK_sy e] at this
        cases this
      · exact ih ⟨(List.pairwise_cons.1 h.tn).2, fun p hp => h.ok p (List.mem_cons_of_mem _ hp), fun p hp => h.own p (List.mem_cons_of_mem _ hp), h2⟩ kp kq h2
theorem locked_out {P : List Pd} (h : GoodP P) {i : Nat} (hi : i < P.length) (key : ByteArray) : lockedP key (outP P i) = true ↔ lockedP key P = true ∧ hasK key (P.getD i pd0).w = false := by
  have hpm := getD_mem hi pd0
  rw [lockedP_true, lockedP_true]
  constructor
  · rintro ⟨q, hq, m, hm, e⟩
    obtain ⟨hq1, hq2⟩ := (mem_out h hi q).1 hq
    refine ⟨⟨q, hq1, m, hm, e⟩, ?_⟩
    rw [← Bool.not_eq_true]
    intro hk
    obtain ⟨m', hm', e'⟩ := hasK_true.1 hk
    exact hq2 (by rw [dis_same h hq1 hpm hm hm' (sameK_tr e (sameK_sy e'))])
  · rintro ⟨⟨q, hq, m, hm, e⟩, hk⟩
    refine ⟨q, (mem_out h hi q).2 ⟨hq, fun ht => ?_⟩, m, hm, e⟩
    have hqe : q = P.getD i pd0 := by
      have hd := h.tn
      have : ∀ {l : List Pd}, l.Pairwise (fun p q => p.t ≠ q.t) → ∀ {x y : Pd}, x ∈ l → y ∈ l → x.t = y.t → x = y := by
        intro l
        induction l with
        | nil => intro _ x y hx; cases hx
        | cons z l ih =>
          intro hp x y hx hy e
          obtain ⟨h1, h2⟩ := List.pairwise_cons.1 hp
          rcases List.mem_cons.1 hx with e1 | kx
          · rcases List.mem_cons.1 hy with e2 | ky
            · rw [e1, e2]
            · rw [e1] at e
              exact absurd e (h1 y ky)
          · rcases List.mem_cons.1 hy with e2 | ky
            · rw [e2] at e
              exact absurd e.symm (h1 x kx)
            · exact ih h2 kx ky e
      exact this hd hq hpm ht
    subst hqe
    rw [hasK_false.1 hk m hm] at e
    cases e
theorem locked_app (key : ByteArray) (P : List Pd) (p : Pd) : lockedP key (P ++ [p]) = (lockedP key P || hasK key p.w) := by
  unfold lockedP
  rw [List.any_append]
  simp
theorem atN_app {t : Tn} {P : List Pd} {p : Pd} : (atN t (P ++ [p]) < (P ++ [p]).length) ↔ (atN t P < P.length ∨ p.t = t) := by
  constructor
  · intro h
    have h1 := atN_get h
    have h2 := getD_mem h pd0
    rcases List.mem_append.1 h2 with h2 | h2
    · exact .inl (atN_yes h2 h1)
    · right
      rw [← List.mem_singleton.1 h2]
      exact h1
  · rintro (h | h)
    · exact atN_yes (List.mem_append.2 (.inl (getD_mem h pd0))) (atN_get h)
    · exact atN_yes (p := p) (by simp) h

/-- No more than there are. -/
theorem sub_len {α : Type} : ∀ {l m : List α}, l.Pairwise (fun x y => x ≠ y) → (∀ x ∈ l, x ∈ m) → l.length ≤ m.length
  | [], m, _, _ => by simp
  | x :: l, m, hd, hm => by
    obtain ⟨h1, h2⟩ := List.pairwise_cons.1 hd
    obtain ⟨m1, m2, e⟩ := List.append_of_mem (hm x (by simp))
    have := sub_len (l := l) (m := m1 ++ m2) h2 (fun y hy => by
      have := hm y (by simp [hy])
      rw [e] at this
      rcases List.mem_append.1 this with h | h
      · exact List.mem_append.2 (.inl h)
      · rcases List.mem_cons.1 h with rfl | h
        · exact absurd rfl (h1 y hy)
        · exact List.mem_append.2 (.inr h))
    rw [e]
    simp at this ⊢
    omega
theorem map_tight {k : TypeId} {R : Value → Option (DataW Value × List MemPlace)} {w : World} {b n : Nat} {D : DataW Value} (h : w.ownsMap Try.prog k R b n D) (K : Keyed Try.prog k) (L : List Lit) (hL : ∀ l, has D l = true → l ∈ L) : w.ownsMap Try.prog k R b L.length D := by
  have hlen : Maps.size D ≤ L.length := by
    obtain ⟨es, e, hp, hk⟩ := World.ownsMap.entries h K
    subst e
    have := sub_len (l := es.map (·.1)) (m := L) (by rw [List.pairwise_map]; exact hp) (fun x hx => by
      obtain ⟨p, hp1, rfl⟩ := List.mem_map.1 hx
      refine hL _ ?_
      rw [has_eq, List.any_eq_true]
      exact ⟨p, hp1, by rw [WideAt.sameKey_iff (hk p hp1)]⟩)
    simpa [Maps.size] using this
  obtain ⟨es, clock, hb, F, hs, rfl⟩ := h
  refine ⟨es, clock, hb, F, ?_, rfl⟩
  rw [show Maps.size (DataW.map ((es.toList.map (WideElems.rg Try.prog k R)).foldr DataW.insert [])) = es.size by simp [Maps.size, length_sorted]] at hlen
  exact hlen
end Go.Proofs.Ythcomfcbdlobpaa

namespace Go.Proofs.Ythcomfcbdlobpaa
open Go.RowKit Go.Maps
set_option linter.unusedVariables false
set_option linter.unnecessarySimpa false
set_option linter.unusedSimpArgs false
set_option maxRecDepth 100000

/-- The writes of one that is prepared lie in a row away from everything else. -/
def RowAt (w : World) (R : Nat → Prop) (a : Option Addr) (n c : Nat) (ws : List Wq) : Prop := IsWqs w a n c ws ∧ ∀ p : Addr, a = some p → R p.block
def workV (start : Nat) (a : Option Addr) (n c : Nat) : Value := .agg #[.int .u64 (start : Int), .slice a n c]
def HeldAt (w : World) (R : Nat → Prop) (D : DataW Value) (p : Pd) : Prop := ∃ a n c, (∀ z, D.atKey (litT p.t) z = .held (workV p.start a n c)) ∧ RowAt w R a n c p.w
/-- The map of what is prepared. -/
def MapP (w : World) (R : Nat → Prop) (m : Nat) (P : List Pd) : Prop :=
  ∃ D, w.ownsMap Try.prog 36 RW m P.length D ∧ (∀ l, has D l = true → ∃ p ∈ P, p.t.ok ∧ litT p.t = l) ∧ ∀ p ∈ P, HeldAt w R D p
def keysP (P : List Pd) : List Lit := P.flatMap (fun p => p.w.map (fun m => litS m.key))
/-- The map of what is locked: of the keys for which 'lk' is so. -/
def MapL (w : World) (k n : Nat) (lk : ByteArray → Bool) : Prop :=
  ∃ D, w.ownsMap Try.prog 9 (unitElem (H := Value)) k n D ∧ (∀ l, has D l = true → ∃ x, l = litS x) ∧ ∀ x, has D (litS x) = lk x
def MapK (w : World) (k : Nat) (P : List Pd) : Prop := MapL w k (keysP P).length (fun x => lockedP x P)
/-- Both maps, if there are any. -/
def MapsAt (w : World) (R : Nat → Prop) (mp ml : Option Nat) (P : List Pd) : Prop :=
  (mp = none ∧ ml = none ∧ P = []) ∨ ∃ m k, mp = some m ∧ ml = some k ∧ m ≠ k ∧ MapP w R m P ∧ MapK w k P
def mapsO (mp ml : Option Nat) : Nat → Prop := fun k => mp = some k ∨ ml = some k
/-- The participant at b. -/
structure PtM (M : MvcC) (w : World) (r rs : Addr) (b : Nat) (mp ml : Option Nat) (S : List Im) (P : List Pd) (OS R : Nat → Prop) : Prop where
  ptr : r = ⟨b, 0, none⟩
  box : w.heap[b]? = some (.cells #[.pointer (some rs), .map mp, .map ml] 68 (0, 0))
  store : M.At w rs S OS
  maps : MapsAt w R mp ml P
  good : GoodP P
  rlt : ∀ k, R k → k < w.heap.size
  ob : ¬ OS b
  om : ∀ k, mapsO mp ml k → ¬ OS k ∧ ¬ R k ∧ k ≠ b
  orr : ∀ k, R k → ¬ OS k ∧ k ≠ b
def ptO (b : Nat) (mp ml : Option Nat) (OS R : Nat → Prop) : Nat → Prop := fun k => k = b ∨ mapsO mp ml k ∨ OS k ∨ R k
def PtAt (M : MvcC) (w : World) (r rs : Addr) (S : List Im) (P : List Pd) (O : Nat → Prop) : Prop := ∃ b mp ml OS R, PtM M w r rs b mp ml S P OS R ∧ O = ptO b mp ml OS R

theorem IsWqs.sameB {w w' : World} {a : Option Addr} {n c : Nat} {ws : List Wq} (h : IsWqs w a n c ws) (hs : w.heap.size ≤ w'.heap.size) (hb : ∀ p : Addr, a = some p → w'.heap[p.block]? = w.heap[p.block]?) : IsWqs w' a n c ws := by
  refine ⟨h.1, h.2.1, h.2.2.1, fun i hi => ?_⟩
  obtain ⟨b, off, ha, q1, q2, q3, q4, q5, q6⟩ := h.2.2.2 i hi
  have hbk := hb _ ha
  exact ⟨b, off, ha, Nat.lt_of_lt_of_le q1 hs, q2, q3, by rw [World.cell?, hbk]; exact q4, by rw [World.cell?, hbk]; exact q5, by rw [World.cell?, hbk]; exact q6⟩
theorem own_map_same {k : TypeId} {R : Value → Option (DataW Value × List MemPlace)} {w w' : World} {b n : Nat} {D : DataW Value} (h : w.ownsMap Try.prog k R b n D) (hb : w'.heap[b]? = w.heap[b]?) : w'.ownsMap Try.prog k R b n D := by
  obtain ⟨es, clock, h1, h2, h3, h4⟩ := h
  exact ⟨es, clock, hb.trans h1, h2, h3, h4⟩
section
variable {w w' : World} {R R' : Nat → Prop} {mp ml : Option Nat} {P : List Pd} {m k : Nat}
theorem RowAt.same {a : Option Addr} {n c : Nat} {ws : List Wq} (h : RowAt w R a n c ws) (hs : w.heap.size ≤ w'.heap.size) (hb : ∀ j, R j → w'.heap[j]? = w.heap[j]?) (hR : ∀ j, R j → R' j) : RowAt w' R' a n c ws :=
  ⟨h.1.sameB hs fun p hp => hb _ (h.2 p hp), fun p hp => hR _ (h.2 p hp)⟩
theorem HeldAt.same {D : DataW Value} {p : Pd} (h : HeldAt w R D p) (hs : w.heap.size ≤ w'.heap.size) (hb : ∀ j, R j → w'.heap[j]? = w.heap[j]?) (hR : ∀ j, R j → R' j) : HeldAt w' R' D p := by
  obtain ⟨a, n, c, h1, h2⟩ := h
  exact ⟨a, n, c, h1, h2.same hs hb hR⟩
theorem MapP.same (h : MapP w R m P) (hs : w.heap.size ≤ w'.heap.size) (hm : w'.heap[m]? = w.heap[m]?) (hb : ∀ j, R j → w'.heap[j]? = w.heap[j]?) (hR : ∀ j, R j → R' j) : MapP w' R' m P := by
  obtain ⟨D, h1, h2, h3⟩ := h
  exact ⟨D, own_map_same h1 hm, h2, fun p hp => (h3 p hp).same hs hb hR⟩
theorem MapL.same {n : Nat} {lk : ByteArray → Bool} (h : MapL w k n lk) (hm : w'.heap[k]? = w.heap[k]?) : MapL w' k n lk := by
  obtain ⟨D, h1, h2, h3⟩ := h
  exact ⟨D, own_map_same h1 hm, h2, h3⟩
theorem MapP.lt (h : MapP w R m P) : m < w.heap.size := by obtain ⟨D, h1, _⟩ := h; exact h1.lt
theorem MapL.lt {n : Nat} {lk : ByteArray → Bool} (h : MapL w k n lk) : k < w.heap.size := by obtain ⟨D, h1, _⟩ := h; exact h1.lt
theorem MapsAt.same (h : MapsAt w R mp ml P) (hs : w.heap.size ≤ w'.heap.size) (hm : ∀ j, mapsO mp ml j → w'.heap[j]? = w.heap[j]?) (hb : ∀ j, R j → w'.heap[j]? = w.heap[j]?) (hR : ∀ j, R j → R' j) : MapsAt w' R' mp ml P := by
  rcases h with h | ⟨m, k, e1, e2, h1, h2, h3⟩
  · exact .inl h
  · exact .inr ⟨m, k, e1, e2, h1, h2.same hs (hm m (.inl e1)) hb hR, MapL.same h3 (hm k (.inr e2))⟩
theorem MapsAt.lt (h : MapsAt w R mp ml P) : ∀ j, mapsO mp ml j → j < w.heap.size := by
  rcases h with ⟨e1, e2, _⟩ | ⟨m, k, e1, e2, h1, h2, h3⟩
  · rintro j (h | h)
    · rw [e1] at h; cases h
    · rw [e2] at h; cases h
  · rintro j (h | h)
    · rw [e1] at h; cases h; exact h2.lt
    · rw [e2] at h; cases h; exact MapL.lt h3
end
section
variable {M : MvcC} {w w' : World} {r rs : Addr} {b : Nat} {mp ml : Option Nat} {S : List Im} {P : List Pd} {OS R : Nat → Prop}
theorem PtM.blt (h : PtM M w r rs b mp ml S P OS R) : b < w.heap.size := (Array.getElem?_eq_some_iff.1 h.box).1
theorem PtM.lt (h : PtM M w r rs b mp ml S P OS R) : ∀ k, ptO b mp ml OS R k → k < w.heap.size := by
  rintro k (rfl | h1 | h1 | h1)
  · exact h.blt
  · exact h.maps.lt k h1
  · exact M.lt h.store k h1
  · exact h.rlt k h1
theorem PtM.stay (h : PtM M w r rs b mp ml S P OS R) (hs : w.heap.size ≤ w'.heap.size) (hk : ∀ k, ptO b mp ml OS R k → w'.heap[k]? = w.heap[k]?) : PtM M w' r rs b mp ml S P OS R :=
  ⟨h.ptr, (hk b (.inl rfl)).trans h.box, M.stay h.store fun k hk' => hk k (.inr (.inr (.inl hk'))), h.maps.same hs (fun j hj => hk j (.inr (.inl hj))) (fun j hj => hk j (.inr (.inr (.inr hj)))) (fun _ h => h), h.good, fun k hk' => Nat.lt_of_lt_of_le (h.rlt k hk') hs, h.ob, h.om, h.orr⟩
theorem PtM.below (h : PtM M w r rs b mp ml S P OS R) (hb : Below w.heap.size w w') : PtM M w' r rs b mp ml S P OS R := h.stay hb.size fun k hk => hb.block k (h.lt k hk)
theorem PtM.cells (h : PtM M w r rs b mp ml S P OS R) : w.cell? ⟨b, 0, none⟩ = some (.pointer (some rs)) ∧ w.cell? ⟨b, 1, none⟩ = some (.map mp) ∧ w.cell? ⟨b, 2, none⟩ = some (.map ml) ∧ ∀ j, w.frozen? ⟨b, j, none⟩ = false := by
  refine ⟨?_, ?_, ?_, fun j => frozen_of_row _ _ _ _ _ h.box⟩
  · rw [cell_of_row _ _ _ _ _ _ h.box]; rfl
  · rw [cell_of_row _ _ _ _ _ _ h.box]; rfl
  · rw [cell_of_row _ _ _ _ _ _ h.box]; rfl
end
/-! Look-ups. -/
theorem zero_unit (w : World) : (zeroValue 98).run Try.prog w = .ok (.agg #[]) w := (zero_of_info (by kernel_rfl : (Try.prog.info? 98).map (fun i => (i.zero, i.size)) = some (some (.agg #[]), 0))).1 w
theorem zero_work (w : World) : (zeroValue 81).run Try.prog w = .ok (workV 0 none 0 0) w := (zero_of_info (by kernel_rfl : (Try.prog.info? 81).map (fun i => (i.zero, i.size)) = some (some (workV 0 none 0 0), 2))).1 w
theorem look_locked {w : World} {R : Nat → Prop} {mp ml : Option Nat} {P : List Pd} (h : MapsAt w R mp ml P) (key : ByteArray) (hk : key.size ≤ maxLen) :
    (Instr.lookup 66 (.map ml) (.string key) true).run Try.prog w = .ok (.tuple #[.agg #[], .bool (lockedP key P)]) w := by
  rcases h with ⟨e1, rfl, rfl⟩ | ⟨m, k, e1, rfl, h1, h2, D, h3, h4, h5⟩
  · exact Maps.look_nil true sk_law Try.underlying66 (zero_unit w) (litS_key hk)
  · obtain ⟨v, ps, hr, hv⟩ := h3.look_ok sk_law Try.underlying66 (zero_unit w) unitElem_mk (litS_key hk)
    obtain ⟨rfl, _⟩ := unitElem_inv hv
    rw [hr, h5]
/-- A look-up in the map of what is prepared, in whatever world has that map. -/
theorem look_held {w : World} {m n : Nat} {D : DataW Value} (h3 : w.ownsMap Try.prog 36 RW m n D) {t : Tn} (ht : t.ok) {v : Value} (hv : D.atKey (litT t) (.held (workV 0 none 0 0)) = .held v) (k : Bool) :
    (Instr.lookup 65 (.map (some m)) (.agg t.cells) k).run Try.prog w = .ok (if k then .tuple #[v, .bool (has D (litT t))] else v) w := by
  cases k with
  | false =>
    obtain ⟨v', ps, hr, hv'⟩ := h3.lookup tk_law Try.underlying65 (zero_work w) (zd := .held (workV 0 none 0 0)) (zp := []) rfl (litT_key ht)
    rw [hv] at hv'
    unfold RW at hv'
    simp only [Option.some.injEq, Prod.mk.injEq, DataW.held.injEq] at hv'
    rw [hr, hv'.1]
    rfl
  | true =>
    obtain ⟨v', ps, hr, hv'⟩ := h3.look_ok tk_law Try.underlying65 (zero_work w) (zd := .held (workV 0 none 0 0)) (zp := []) rfl (litT_key ht)
    rw [hv] at hv'
    unfold RW at hv'
    simp only [Option.some.injEq, Prod.mk.injEq, DataW.held.injEq] at hv'
    rw [hr, hv'.1]
    rfl
theorem has_held {w : World} {R : Nat → Prop} {P : List Pd} {D : DataW Value} (h4 : ∀ l, has D l = true → ∃ p ∈ P, p.t.ok ∧ litT p.t = l) (h5 : ∀ p ∈ P, HeldAt w R D p) {t : Tn} (ht : t.ok) : has D (litT t) = decide (atN t P < P.length) := by
  by_cases hp : atN t P < P.length
  · obtain ⟨a, n, c, q1, q2⟩ := h5 _ (getD_mem hp pd0)
    rw [atN_get hp] at q1
    rw [decide_eq_true hp]
    exact has_true_of_atKey q1
  · rw [decide_eq_false hp, ← Bool.not_eq_true]
    intro hh
    obtain ⟨p, hp1, hp0, hp2⟩ := h4 _ hh
    exact hp (atN_yes hp1 (litT_inj hp0 ht hp2))
/-- What stands of a transaction: its work, if it is prepared. -/
theorem look_prep {w : World} {R : Nat → Prop} {mp ml : Option Nat} {P : List Pd} (h : MapsAt w R mp ml P) (t : Tn) (ht : t.ok) :
    ∃ st a n c, (atN t P < P.length → st = (P.getD (atN t P) pd0).start ∧ RowAt w R a n c (P.getD (atN t P) pd0).w) ∧ (¬ atN t P < P.length → n = 0) ∧
      ∀ W, Below w.heap.size w W → (Instr.lookup 65 (.map mp) (.agg t.cells) true).run Try.prog W = .ok (.tuple #[workV st a n c, .bool (decide (atN t P < P.length))]) W ∧ (Instr.lookup 65 (.map mp) (.agg t.cells) false).run Try.prog W = .ok (workV st a n c) W := by
  rcases h with ⟨rfl, e1, rfl⟩ | ⟨m, k, rfl, e1, h1, ⟨D, h3, h4, h5⟩, h2⟩
  · refine ⟨0, none, 0, 0, fun h => absurd h (by simp), fun _ => rfl, fun W hb => ⟨?_, ?_⟩⟩
    · rw [Maps.look_nil true tk_law Try.underlying65 (zero_work W) (litT_key ht)]
      rfl
    · rw [Maps.look_nil false tk_law Try.underlying65 (zero_work W) (litT_key ht)]
      rfl
  · have hh := has_held h4 h5 ht
    have hW : ∀ W, Below w.heap.size w W → W.ownsMap Try.prog 36 RW m P.length D := fun W hb => own_map_same h3 (hb.block m h3.lt)
    by_cases hp : atN t P < P.length
    · obtain ⟨a, n, c, q1, q2⟩ := h5 _ (getD_mem hp pd0)
      rw [atN_get hp] at q1
      refine ⟨_, a, n, c, fun _ => ⟨rfl, q2⟩, fun h => absurd hp h, fun W hb => ⟨?_, ?_⟩⟩
      · rw [look_held (hW W hb) ht (q1 _) true, hh]; rfl
      · rw [look_held (hW W hb) ht (q1 _) false]; rfl
    · refine ⟨0, none, 0, 0, fun h => absurd h hp, fun _ => rfl, fun W hb => ⟨?_, ?_⟩⟩
      · rw [look_held (hW W hb) ht (atKey_of_not_has (by rw [hh, decide_eq_false hp]) _) true, hh]; rfl
      · rw [look_held (hW W hb) ht (atKey_of_not_has (by rw [hh, decide_eq_false hp]) _) false]; rfl
end Go.Proofs.Ythcomfcbdlobpaa

namespace Go.Proofs.Ythcomfcbdlobpaa
open Go.RowKit Go.Maps
set_option linter.unusedVariables false
set_option linter.unnecessarySimpa false
set_option linter.unusedSimpArgs false
set_option maxRecDepth 100000

set_option maxHeartbeats 1000000 in
theorem gnew_any {M : MvcC} {w : World} {rs : Addr} {L : List Im} {O : Nat → Prop} (h : M.At w rs L O) :
    Calls Try.prog 7 #[.pointer (some rs)] w fun e w' => ∃ r O', e = .returned (.pointer (some r)) ∧ PtAt M w' r rs L [] O' ∧ Moves O O' w w' := by
  have hb := (Below.refl w.heap.size w).alloc (Nat.le_refl _) (.cells #[.pointer (some rs), .map none, .map none] 68)
  have hr := heap_alloc_new w (.cells #[.pointer (some rs), .map none, .map none] 68)
  have hlt := M.lt h
  have HS := Lib.hid (show PtM M (w.alloc (.cells #[.pointer (some rs), .map none, .map none] 68)) ⟨w.heap.size, 0, none⟩ rs w.heap.size none none L [] O (fun _ => False) from
    ⟨rfl, hr, M.stay h fun k hk => hb.block k (hlt k hk), .inl ⟨rfl, rfl, rfl⟩, GoodP.nil, fun k h => h.elim, fun ho => by have := hlt _ ho; omega, fun k hk => (hk.elim (fun e => by cases e) (fun e => by cases e)), fun k h => h.elim⟩)
  have HB := Lib.hid hb
  clear hb hr hlt h
  go_enter Try.func7, Try.ntmps7
  go_wp2_with fail
  go_ret
  refine ⟨_, _, rfl, ⟨_, _, _, _, _, HS.out, rfl⟩, HB.out.os, HB.out.tape, HB.out.output, HB.out.size, fun k hk _ => HB.out.block k hk, ?_⟩
  rintro k (rfl | hk | hk | hk)
  · exact .inr (Nat.le_refl _)
  · exact hk.elim (fun e => by cases e) (fun e => by cases e)
  · exact .inl hk
  · exact hk.elim

section
variable {M : MvcC} {w : World} {r rs : Addr} {b : Nat} {mp ml : Option Nat} {S : List Im} {P : List Pd} {OS R : Nat → Prop}
set_option maxHeartbeats 1000000 in
theorem gstore_any (h : PtM M w r rs b mp ml S P OS R) : Calls Try.prog 15 #[.pointer (some r)] w fun e w' => e = .returned (.pointer (some rs)) ∧ w = w' := by
  obtain ⟨c0, c1, c2, fr⟩ := h.cells
  have hp := h.ptr
  subst hp
  clear h
  go_enter Try.func15, Try.ntmps15
  go_wp2_with fail
  go_ret
  exact ⟨rfl, rfl⟩
set_option maxHeartbeats 1000000 in
theorem glocked_any (h : PtM M w r rs b mp ml S P OS R) (key : ByteArray) (hk : key.size ≤ maxLen) :
    Calls Try.prog 22 #[.pointer (some r), .string key] w fun e w' => e = .returned (.bool (lockedP key P)) ∧ Below w.heap.size w w' := by
  obtain ⟨c0, c1, c2, fr⟩ := h.cells
  have hp := h.ptr
  subst hp
  have hl := look_locked h.maps key hk
  have HB := Lib.hid ((Below.refl w.heap.size w).alloc (Nat.le_refl _) (.cells #[] 98))
  obtain ⟨B, hB⟩ : ∃ B, B = lockedP key P := ⟨_, rfl⟩
  rw [← hB] at hl ⊢
  clear h hB hk
  go_enter Try.func22, Try.ntmps22
  go_wp2_with fail
  go_ret
  exact ⟨rfl, HB.out⟩
set_option maxHeartbeats 1000000 in
theorem glong_any (m : Wq) (w : World) (h1 : m.key.size ≤ maxLen) (h2 : m.val.size ≤ maxLen) :
    Calls Try.prog 30 #[.agg #[.string m.key, .bool m.gone, .string m.val]] w fun e w' => e = .returned (.bool (longQ m)) ∧ Below w.heap.size w w' := by
  have HB := Lib.hid ((Below.refl w.heap.size w).alloc (Nat.le_refl _) (.cells #[.string m.key, .bool m.gone, .string m.val] 51))
  obtain ⟨key, gone, val⟩ := m
  simp only at *
  unfold longQ
  simp only
  unfold maxLen at h1 h2
  obtain ⟨x, hx⟩ : ∃ x, x = decide (100 < key.size) := ⟨_, rfl⟩
  obtain ⟨y, hy⟩ : ∃ y, y = decide (500 < val.size) := ⟨_, rfl⟩
  have hxz : decide ((100 : Int) < (key.size : Int)) = x := by rw [hx, decide_eq_decide]; omega
  have hyz : decide ((500 : Int) < (val.size : Int)) = y := by rw [hy, decide_eq_decide]; omega
  rw [← hx, ← hy]
  have hx2 := hx.symm
  have hy2 := hy.symm
  clear hx hy
  cases x with
  | true =>
    go_enter Try.func30, Try.ntmps30
    go_wp2_with fail
    go_ret
    exact ⟨rfl, HB.out⟩
  | false =>
    go_enter Try.func30, Try.ntmps30
    go_wp2_with fail
    go_ret
    exact ⟨rfl, HB.out⟩
end
end Go.Proofs.Ythcomfcbdlobpaa
