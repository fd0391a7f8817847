/-
  A participant of the program's and one of the document's beside each other: what PartPlays keeps.
-/
import Derived.Test.YthcomfcbdlobpaaSet18
namespace Go.Proofs.Ythcomfcbdlobpaa
open Go.RowKit
set_option linter.unusedVariables false
set_option linter.unnecessarySimpa false
set_option linter.unusedSimpArgs false
set_option maxRecDepth 100000

/-- The blocks of the document's rows. -/
def rowS (S : List Im) (s : Value) (k : Nat) : Prop := 0 < S.length ∧ ∃ off n c, s = .slice (some ⟨k, off, none⟩) n c
def rowP (P : List Pd) (a : Option Addr) (k : Nat) : Prop := 0 < P.length ∧ ∃ off, a = some ⟨k, off, none⟩
/-- What is prepared, of writes that came in. -/
def NstP (w : World) (P : List Pd) : Prop := ∀ p ∈ P, p.start < 18446744073709551616 ∧ (∀ W, Below w.heap.size w W → IsWqs W p.a p.n p.c p.w) ∧ p.w.length ≤ 8
/-- The document's participant, as values. -/
structure DocV (w : World) (S : List Im) (P : List Pd) (s : Value) (a : Option Addr) (k : Nat) (wx : World) : Prop where
  sv : StV wx s S
  pv : IsPds wx a P.length k P
  nil : a = none → k = 0
  nst : NstP w P
theorem rowS_lt {wx : World} {S : List Im} {s : Value} (h : StV wx s S) {k : Nat} (hk : rowS S s k) : k < wx.heap.size := by
  obtain ⟨a, cap, rfl, h2, _⟩ := h
  obtain ⟨h0, off, n, c, e⟩ := hk
  obtain ⟨b, o2, e2, h4, _⟩ := h2.2.2 0 h0
  injection e with e
  rw [e] at e2
  simp only [Option.some.injEq, Addr.mk.injEq] at e2
  omega
theorem rowP_lt {wx : World} {P : List Pd} {a : Option Addr} {n k : Nat} (h : IsPds wx a n k P) {j : Nat} (hj : rowP P a j) : j < wx.heap.size := by
  obtain ⟨h0, off, e⟩ := hj
  obtain ⟨b, o2, e2, h4, _⟩ := h.2.2.2 0 (by have := h.1; omega)
  rw [e] at e2
  simp only [Option.some.injEq, Addr.mk.injEq] at e2
  omega
theorem DocV.same {w wx w' : World} {S : List Im} {P : List Pd} {s : Value} {a : Option Addr} {k : Nat} (h : DocV w S P s a k wx) (hb : Below w.heap.size w w') (hs : wx.heap.size ≤ w'.heap.size) (h1 : ∀ j, rowS S s j → w'.heap[j]? = wx.heap[j]?) (h2 : ∀ j, rowP P a j → w'.heap[j]? = wx.heap[j]?) : DocV w S P s a k w' := by
  refine ⟨?_, ?_, h.nil, h.nst⟩
  · obtain ⟨a0, cap, rfl, k2, k3⟩ := h.sv
    refine ⟨a0, cap, rfl, ⟨k2.1, k2.2.1, fun i hi => ?_⟩, k3⟩
    obtain ⟨b, off, ha, q1, q2, q3, q4, q5, q6, q7, q8⟩ := k2.2.2 i hi
    have hbk := h1 b ⟨by omega, off, S.length, cap, by rw [ha]⟩
    exact ⟨b, off, ha, Nat.lt_of_lt_of_le q1 hs, q2, q3, q4, by rw [World.cell?, hbk]; exact q5, by rw [World.cell?, hbk]; exact q6, by rw [World.cell?, hbk]; exact q7, by rw [World.cell?, hbk]; exact q8⟩
  · refine ⟨h.pv.1, h.pv.2.1, h.pv.2.2.1, fun i hi => ?_⟩
    obtain ⟨b, off, ha, q1, q2, q3, q4, q5, q6, q7, q8⟩ := h.pv.2.2.2 i hi
    have hbk := h2 b ⟨by omega, off, ha⟩
    have hm : P.getD i pd0 ∈ P := by rw [List.getD, List.getElem?_eq_getElem hi]; exact List.getElem_mem hi
    exact ⟨b, off, ha, Nat.lt_of_lt_of_le q1 hs, q2, (h.nst _ hm).2.1 w' hb, by rw [World.cell?, hbk]; exact q4, by rw [World.cell?, hbk]; exact q5, by rw [World.cell?, hbk]; exact q6, by rw [World.cell?, hbk]; exact q7, by rw [World.cell?, hbk]; exact q8⟩
theorem DocV.below {w wx w' : World} {S : List Im} {P : List Pd} {s : Value} {a : Option Addr} {k : Nat} (h : DocV w S P s a k wx) (hw : Below w.heap.size w wx) (hb : Below wx.heap.size wx w') : DocV w S P s a k w' :=
  h.same (hw.trans (hb.mono hw.size)) hb.size (fun j hj => hb.block j (rowS_lt h.sv hj)) (fun j hj => hb.block j (rowP_lt h.pv hj))

/-- Both, with some blocks X of the law's own that stay. -/
def farPl (X : Nat → Obj → Prop) (S : List Im) (P : List Pd) (s : Value) (a : Option Addr) : Nat → Prop := fun k => (∃ o, X k o) ∨ rowS S s k ∨ rowP P a k
structure PlSt (C : PrtC) (w : World) (X : Nat → Obj → Prop) (r rs : Addr) (S1 : List Im) (P1 : List Pd) (S : List Im) (P : List Pd) (s : Value) (a : Option Addr) (k : Nat) (wx : World) : Prop where
  st : PSt C w w.heap.size (farPl X S P s a) r rs S1 P1 wx
  ext : ∀ j o, X j o → wx.heap[j]? = some o
  doc : DocV w S P s a k wx
  own : ∀ j o, X j o → w.heap.size ≤ j
  apart : ∀ j o, X j o → ¬ rowS S s j ∧ ¬ rowP P a j
section
variable {C : PrtC} {w wx w' : World} {X : Nat → Obj → Prop} {r rs : Addr} {S1 S1' S S' : List Im} {P1 P1' P P' : List Pd} {s s' : Value} {a a' : Option Addr} {k k' : Nat}
theorem PlSt.below (h : PlSt C w X r rs S1 P1 S P s a k wx) : Below w.heap.size w wx := h.st.below
theorem PlSt.far (h : PlSt C w X r rs S1 P1 S P s a k wx) (hs : PSt C w w.heap.size (farPl X S P s a) r rs S1' P1' w') (hf : FarSame (farPl X S P s a) wx w') : PlSt C w X r rs S1' P1' S P s a k w' :=
  ⟨hs, fun j o hj => (hf.2 j (.inl ⟨o, hj⟩)).trans (h.ext j o hj), h.doc.same hs.below hf.1 (fun j hj => hf.2 j (.inr (.inl hj))) (fun j hj => hf.2 j (.inr (.inr hj))), h.own, h.apart⟩
theorem PlSt.later (h : PlSt C w X r rs S1 P1 S P s a k wx) (hb : Below wx.heap.size wx w') : PlSt C w X r rs S1 P1 S P s a k w' :=
  h.far (h.st.later hb).1 (h.st.later hb).2
/-- One more block of the law's own. -/
def X1 (X : Nat → Obj → Prop) (g : Nat) (o : Obj) : Nat → Obj → Prop := fun j q => X j q ∨ (j = g ∧ q = o)
theorem PlSt.add (h : PlSt C w X r rs S1 P1 S P s a k wx) (o : Obj) : PlSt C w (X1 X wx.heap.size o) r rs S1 P1 S P s a k (wx.alloc o) := by
  have hb : Below wx.heap.size wx (wx.alloc o) := (Below.refl _ _).alloc (Nat.le_refl _) _
  have hl := h.later hb
  refine ⟨h.st.more hb (fun j hj => ?_), fun j q hj => ?_, hl.doc, fun j q hj => ?_, fun j q hj => ?_⟩
  · rcases hj with ⟨q, hj | ⟨rfl, _⟩⟩ | hj | hj
    · exact ⟨hl.st.far_lt j (.inl ⟨q, hj⟩), .inl (.inl ⟨q, hj⟩)⟩
    · exact ⟨by simp, .inr (Nat.le_refl _)⟩
    · exact ⟨hl.st.far_lt j (.inr (.inl hj)), .inl (.inr (.inl hj))⟩
    · exact ⟨hl.st.far_lt j (.inr (.inr hj)), .inl (.inr (.inr hj))⟩
  · rcases hj with hj | ⟨rfl, rfl⟩
    · exact hl.ext j q hj
    · exact heap_alloc_new wx _
  · rcases hj with hj | ⟨rfl, rfl⟩
    · exact h.own j q hj
    · exact h.st.size
  · rcases hj with hj | ⟨rfl, rfl⟩
    · exact h.apart j q hj
    · exact ⟨fun hx => by have := rowS_lt h.doc.sv hx; omega, fun hx => by have := rowP_lt h.doc.pv hx; omega⟩
/-- A block of the law's own is written. -/
def X2 (X : Nat → Obj → Prop) (g : Nat) (o : Obj) : Nat → Obj → Prop := fun j q => (X j q ∧ j ≠ g) ∨ (j = g ∧ q = o)
theorem PlSt.put (h : PlSt C w X r rs S1 P1 S P s a k wx) {g : Nat} {cs : Array Value} {t : TypeId} (hg : X g (.cells cs t (0, 0))) (i : Nat) (v : Value) :
    PlSt C w (X2 X g (.cells (cs.setIfInBounds i v) t (0, 0))) r rs S1 P1 S P s a k (wx.setCell ⟨g, i, none⟩ v) := by
  have hge := h.own _ _ hg
  have hap := h.apart _ _ hg
  have hrow := h.ext _ _ hg
  have hst := h.st.put (g := g) (.inl ⟨_, hg⟩) hge i v
  have hX : ∀ j q, X2 X g (.cells (cs.setIfInBounds i v) t (0, 0)) j q → ∃ q', X j q' := fun j q hj => by
    rcases hj with ⟨hj, _⟩ | ⟨rfl, _⟩
    · exact ⟨q, hj⟩
    · exact ⟨_, hg⟩
  refine ⟨?_, fun j q hj => ?_, h.doc.same hst.below (by simp [World.setCell]) (fun j hj => Below.heap_setCell _ _ _ _ (fun e => hap.1 ((show j = g from e) ▸ hj))) (fun j hj => Below.heap_setCell _ _ _ _ (fun e => hap.2 ((show j = g from e) ▸ hj))), fun j q hj => ?_, fun j q hj => ?_⟩
  · refine hst.more (Below.refl _ _) (fun j hj => ?_)
    have hj2 : farPl X S P s a j := by
      rcases hj with ⟨q, hj⟩ | hj
      · exact .inl (hX j q hj)
      · exact .inr hj
    exact ⟨hst.far_lt j hj2, .inl hj2⟩
  · rcases hj with ⟨hj, hne⟩ | ⟨rfl, rfl⟩
    · exact (Below.heap_setCell _ _ _ _ hne).trans (h.ext j q hj)
    · exact heap_setCell_same _ _ i _ _ _ hrow
  · obtain ⟨q', hq⟩ := hX j q hj
    exact h.own j q' hq
  · obtain ⟨q', hq⟩ := hX j q hj
    exact h.apart j q' hq
/-- Fewer blocks, or told otherwise. -/
theorem PlSt.sub (h : PlSt C w X r rs S1 P1 S P s a k wx) {Y : Nat → Obj → Prop} (hY : ∀ j o, Y j o → X j o) : PlSt C w Y r rs S1 P1 S P s a k wx := by
  refine ⟨h.st.more (Below.refl _ _) (fun j hj => ?_), fun j o hj => h.ext j o (hY j o hj), h.doc, fun j o hj => h.own j o (hY j o hj), fun j o hj => h.apart j o (hY j o hj)⟩
  have : farPl X S P s a j := by
    rcases hj with ⟨q, hj⟩ | hj
    · exact .inl ⟨q, hY j q hj⟩
    · exact .inr hj
  exact ⟨h.st.far_lt j this, .inl this⟩
/-- The document's participant takes a new value, behind its Do. -/
theorem PlSt.take (h : PlSt C w X r rs S1 P1 S P s a k wx) (hb : Below wx.heap.size wx w') (hd : DocV w S' P' s' a' k' w') (h1 : NewS wx s s') (h2 : NewP wx (.slice a P.length k) a' P'.length k') : PlSt C w X r rs S1 P1 S' P' s' a' k' w' := by
  have hlt := h.later hb
  obtain ⟨a0, c0, e0, _⟩ := h.doc.sv
  obtain ⟨a1, c1, e1, _⟩ := hd.sv
  have hS : ∀ j, rowS S' s' j → rowS S s j ∨ wx.heap.size ≤ j := by
    rintro j ⟨h0, off, n, c, e⟩
    rcases h1 with rfl | ⟨g, n2, c2, e2, hg⟩
    · left
      rw [e0] at e1
      injection e1 with _ e1
      exact ⟨by omega, off, n, c, e⟩
    · right
      rw [e2] at e
      injection e with e
      simp only [Option.some.injEq, Addr.mk.injEq] at e
      omega
  have hP : ∀ j, rowP P' a' j → rowP P a j ∨ wx.heap.size ≤ j := by
    rintro j ⟨h0, off, e⟩
    rcases h2 with h2 | h2 | ⟨g, e2, hg⟩
    · left
      injection h2 with h2 h3
      exact ⟨by omega, off, by rw [← h2]; exact e⟩
    · omega
    · right
      rw [e2] at e
      simp only [Option.some.injEq, Addr.mk.injEq] at e
      omega
  refine ⟨h.st.more hb (fun j hj => ?_), hlt.ext, hd, h.own, fun j o hj => ?_⟩
  · rcases hj with hj | hj | hj
    · exact ⟨hlt.st.far_lt j (.inl hj), .inl (.inl hj)⟩
    · exact ⟨rowS_lt hd.sv hj, (hS j hj).imp (fun h => .inr (.inl h)) id⟩
    · exact ⟨rowP_lt hd.pv hj, (hP j hj).imp (fun h => .inr (.inr h)) id⟩
  · have hlj := h.st.far_lt j (.inl ⟨o, hj⟩)
    exact ⟨fun hx => (hS j hx).elim (h.apart j o hj).1 (fun h2 => by omega), fun hx => (hP j hx).elim (h.apart j o hj).2 (fun h2 => by omega)⟩
theorem PlSt.start (hs : PSt C w w.heap.size (fun _ => False) r rs [] [] wx) : PlSt C w (fun _ _ => False) r rs [] [] [] [] (.slice none 0 0) none 0 wx := by
  refine ⟨hs.more (Below.refl _ _) (fun j hj => ?_), fun j o hj => hj.elim, ⟨⟨none, 0, rfl, ⟨rfl, Nat.zero_le _, fun i hi => absurd hi (by simp)⟩, fun _ _ => rfl⟩, ⟨rfl, Nat.zero_le _, Nat.le_refl _, fun i hi => absurd hi (by simp)⟩, fun _ => rfl, fun p hp => absurd hp (by simp)⟩, fun j o hj => hj.elim, fun j o hj => hj.elim⟩
  rcases hj with ⟨o, hj⟩ | ⟨h0, _⟩ | ⟨h0, _⟩
  · exact hj.elim
  · simp at h0
  · simp at h0
end
/-! The calls of PartPlays, of both. -/
section
variable {C : PrtC} {w wx : World} {X : Nat → Obj → Prop} {r rs : Addr} {S S1 : List Im} {P P1 : List Pd} {s : Value} {a : Option Addr} {k : Nat}
theorem pl_read (h : PlSt C w X r rs S P S P s a k wx) (o : Oq) (hk : o.kind % 6 = 0) (h1 : o.key.size ≤ maxLen) (h2 : o.time < 18446744073709551616) :
    Calls Try.prog 9 #[.pointer (some r), .string o.key, .int .u64 (o.time : Int)] wx fun e w' => e = .returned (.tuple #[.agg #[.int .u64 ((docV S P o).time : Int), .bool (docV S P o).gone, .string (docV S P o).val], .int .i64 (docE S P o : Int)]) ∧ PlSt C w X r rs (docS S P o) (docP S P o) S P s a k w' := by
  have e1 : docS S P o = S := by simp [docS, hk]
  have e2 : docP S P o = P := by simp [docP, hk]
  have e3 : docV S P o = readV S P o.key o.time := by simp [docV, hk]
  have e4 : docE S P o = readE S P o.key o.time := by simp [docE, hk]
  rw [e1, e2, e3, e4]
  exact (h.st.read o.key o.time h1 h2).mono fun e w' ⟨he, hs, hf⟩ => ⟨he, h.far hs hf⟩
theorem pl_may (h : PlSt C w X r rs S P S P s a k wx) (o : Oq) (hk : o.kind % 6 = 1) (h0 : o.t.ok) (h1 : IsWqs wx o.a o.n o.c o.w) (h2 : o.time < 18446744073709551616) (h3 : o.n ≤ 1000) (h4 : S.length ≤ 1000) :
    Calls Try.prog 10 #[.pointer (some r), .agg o.t.cells, .int .u64 (o.time : Int), .slice o.a o.n o.c] wx fun e w' => e = .returned (.int .i64 (docE S P o : Int)) ∧ PlSt C w X r rs (docS S P o) (docP S P o) S P s a k w' := by
  have e1 : docS S P o = S := by simp [docS, hk]
  have e2 : docP S P o = P := by simp [docP, hk]
  have e4 : docE S P o = mayN S P o.t o.time o.w := by simp [docE, hk]
  rw [e1, e2, e4]
  exact (h.st.may o.t o.time o.a o.n o.c o.w h0 h1 h2 h3 h4).mono fun e w' ⟨he, hs, hf⟩ => ⟨he, h.far hs hf⟩
theorem pl_prepare (h : PlSt C w X r rs S P S P s a k wx) (o : Oq) (hk : o.kind % 6 = 2) (h0 : o.t.ok) (h1 : IsWqs wx o.a o.n o.c o.w) (h2 : o.time < 18446744073709551616) (h3 : o.n ≤ 1000) (h4 : S.length ≤ 1000) (h5 : P.length ≤ 1000) :
    Calls Try.prog 11 #[.pointer (some r), .agg o.t.cells, .int .u64 (o.time : Int), .slice o.a o.n o.c] wx fun e w' => e = .returned (.int .i64 (docE S P o : Int)) ∧ PlSt C w X r rs (docS S P o) (docP S P o) S P s a k w' := by
  have e1 : docS S P o = S := by simp [docS, hk]
  have e2 : docP S P o = prepP S P o.pd := by simp [docP, hk]
  have e4 : docE S P o = mayN S P o.t o.time o.w := by simp [docE, hk]
  rw [e1, e2, e4]
  exact (h.st.prepare o.pd h0 h1 h2 h3 h4 h5).mono fun e w' ⟨he, hs, hf⟩ => ⟨he, h.far hs hf⟩
theorem pl_commit (h : PlSt C w X r rs S P S P s a k wx) (o : Oq) (hk : o.kind % 6 = 3) (h0 : o.t.ok) (h2 : o.time < 18446744073709551616) (h4 : S.length ≤ 900) (h5 : P.length ≤ 1000) :
    Calls Try.prog 12 #[.pointer (some r), .agg o.t.cells, .int .u64 (o.time : Int)] wx fun e w' => e = .returned (.int .i64 (docE S P o : Int)) ∧ PlSt C w X r rs (docS S P o) (docP S P o) S P s a k w' := by
  have e1 : docS S P o = (comR S P o.t o.time).1.1 := by simp [docS, hk]
  have e2 : docP S P o = (comR S P o.t o.time).1.2 := by simp [docP, hk]
  have e4 : docE S P o = (comR S P o.t o.time).2 := by simp [docE, hk]
  rw [e1, e2, e4]
  exact (h.st.commit o.t o.time h0 h2 h4 h5 (fun p hp => (h.doc.nst p hp).2.2)).mono fun e w' ⟨he, hs, hf⟩ => ⟨he, h.far hs hf⟩
theorem pl_abort (h : PlSt C w X r rs S P S P s a k wx) (o : Oq) (hk : o.kind % 6 = 4) (h0 : o.t.ok) (h5 : P.length ≤ 1000) :
    Calls Try.prog 13 #[.pointer (some r), .agg o.t.cells] wx fun e w' => e = .returned (.int .i64 (docE S P o : Int)) ∧ PlSt C w X r rs (docS S P o) (docP S P o) S P s a k w' := by
  have e1 : docS S P o = S := by simp [docS, hk]
  have e2 : docP S P o = (aboR P o.t).1 := by simp [docP, hk]
  have e4 : docE S P o = (aboR P o.t).2 := by simp [docE, hk]
  rw [e1, e2, e4]
  exact (h.st.abort o.t h0 h5).mono fun e w' ⟨he, hs, hf⟩ => ⟨he, h.far hs hf⟩
theorem pl_store (h : PlSt C w X r rs S1 P1 S P s a k wx) : Calls Try.prog 15 #[.pointer (some r)] wx fun e w' => e = .returned (.pointer (some rs)) ∧ PlSt C w X r rs S1 P1 S P s a k w' ∧ Below wx.heap.size wx w' :=
  h.st.store.mono fun e w' ⟨he, hs, hb⟩ => ⟨he, h.later hb, hb⟩
theorem pl_install (h : PlSt C w X r rs S P S P s a k wx) (o : Oq) (hk : o.kind % 6 = 5) (hn : ¬ o.n < 1) (hl : lockedP (o.w.getD 0 wq0).key P = false) (h2 : o.time < 18446744073709551616) (h4 : S.length ≤ 1000) (h5 : (o.w.getD 0 wq0).key.size ≤ maxLen) (h6 : (o.w.getD 0 wq0).val.size ≤ maxLen) :
    Calls Try.prog 16 #[.pointer (some rs), .string (o.w.getD 0 wq0).key, .agg #[.int .u64 (o.time : Int), .bool false, .string (o.w.getD 0 wq0).val]] wx fun e w' => e = .returned (.int .i64 (docE S P o : Int)) ∧ PlSt C w X r rs (docS S P o) (docP S P o) S P s a k w' := by
  have hi : insR S P o = insM S ⟨(o.w.getD 0 wq0).key, ⟨o.time, false, (o.w.getD 0 wq0).val⟩⟩ := by unfold insR; rw [if_neg (fun h => h.elim hn (fun h => by rw [hl] at h; cases h))]
  have e1 : docS S P o = (insM S ⟨(o.w.getD 0 wq0).key, ⟨o.time, false, (o.w.getD 0 wq0).val⟩⟩).1 := by simp [docS, hk, hi]
  have e2 : docP S P o = P := by simp [docP, hk]
  have e4 : docE S P o = (insM S ⟨(o.w.getD 0 wq0).key, ⟨o.time, false, (o.w.getD 0 wq0).val⟩⟩).2 := by simp [docE, hk, hi]
  rw [e1, e2, e4]
  exact (h.st.install ⟨(o.w.getD 0 wq0).key, ⟨o.time, false, (o.w.getD 0 wq0).val⟩⟩ h4 h5 h6 h2).mono fun e w' ⟨he, hs, hf⟩ => ⟨he, h.far hs hf⟩
theorem doc_none (S : List Im) (P : List Pd) (o : Oq) (hk : o.kind % 6 = 5) (hn : o.n < 1 ∨ lockedP (o.w.getD 0 wq0).key P = true) : docS S P o = S ∧ docP S P o = P ∧ docE S P o = 0 := by
  have hi : insR S P o = (S, 0) := by unfold insR; rw [if_pos hn]
  exact ⟨by simp [docS, hk, hi], by simp [docP, hk], by simp [docE, hk, hi]⟩
theorem doc_vr0 (S : List Im) (P : List Pd) (o : Oq) (hk : o.kind % 6 ≠ 0) : docV S P o = vr0 := by simp [docV, hk]
/-! How much comes. -/
theorem may_small {S : List Im} {P : List Pd} {t : Tn} {time : Nat} {ws : List Wq} (h : mayN S P t time ws = 0) (h2 : ¬ atN t P < P.length) : ws.length ≤ 8 := by
  have hm := mayN_is S P t time ws
  rw [h] at hm
  unfold mayP at hm
  rw [if_neg h2] at hm
  split at hm
  · cases hm
  · split at hm
    · cases hm
    · omega
theorem docS_len (S : List Im) (P : List Pd) (o : Oq) (h : ∀ p ∈ P, p.w.length ≤ 8) : (docS S P o).length ≤ S.length + 8 := by
  unfold docS
  split
  · unfold comR
    split
    · rename_i hp
      split
      · simp
      · have hm : P.getD (atN o.t P) pd0 ∈ P := by rw [List.getD, List.getElem?_eq_getElem hp]; exact List.getElem_mem hp
        have h1 := insAll_len o.time (P.getD (atN o.t P) pd0).w S
        have h2 := h _ hm
        simp only
        omega
    · simp
  · split
    · unfold insR
      split
      · simp
      · have := insM_len S ⟨(o.w.getD 0 wq0).key, ⟨o.time, false, (o.w.getD 0 wq0).val⟩⟩
        omega
    · omega
theorem outP_sub {P : List Pd} {i : Nat} {p : Pd} (h : p ∈ outP P i) : p ∈ P := (List.mem_append.1 h).elim List.mem_of_mem_take List.mem_of_mem_drop
theorem outP_len (P : List Pd) (i : Nat) : (outP P i).length ≤ P.length := by unfold outP; rw [List.length_append, List.length_take, List.length_drop]; omega
theorem docP_mem {S : List Im} {P : List Pd} {o : Oq} {p : Pd} (h : p ∈ docP S P o) : p ∈ P ∨ (p = o.pd ∧ o.w.length ≤ 8) := by
  unfold docP at h
  split at h
  · unfold prepP at h
    split at h
    · rename_i hc
      rcases List.mem_append.1 h with h | h
      · exact .inl h
      · exact .inr ⟨List.mem_singleton.1 h, may_small hc.1 hc.2⟩
    · exact .inl h
  · split at h
    · unfold comR at h
      split at h
      · split at h
        · exact .inl h
        · exact .inl (outP_sub h)
      · exact .inl h
    · split at h
      · unfold aboR at h
        split at h
        · exact .inl (outP_sub h)
        · exact .inl h
      · exact .inl h
theorem docP_len (S : List Im) (P : List Pd) (o : Oq) : (docP S P o).length ≤ P.length + 1 := by
  unfold docP
  split
  · unfold prepP
    split <;> simp
  · split
    · unfold comR
      split
      · split
        · simp
        · have := outP_len P (atN o.t P); simp only; omega
      · simp
    · split
      · unfold aboR
        split
        · have := outP_len P (atN o.t P); simp only; omega
        · simp
      · omega
theorem docP_nst {S : List Im} {o : Oq} (h : NstP w P) (ht : o.time < 18446744073709551616) (hw : ∀ W, Below w.heap.size w W → IsWqs W o.a o.n o.c o.w) : NstP w (docP S P o) := fun p hp => by
  rcases docP_mem hp with h2 | ⟨rfl, h2⟩
  · exact h p h2
  · exact ⟨ht, hw, h2⟩
end
/-- The blocks of PartPlays' own: the document's participant; the call, the version in a round. -/
def XA (g4 : Nat) (s : Value) (sl : Value) : Nat → Obj → Prop := fun j q => j = g4 ∧ q = .cells #[s, sl] 34 (0, 0)
def XB (g4 : Nat) (s : Value) (sl : Value) (g6 : Nat) (oc : Array Value) (g7 : Nat) (v : Vr) : Nat → Obj → Prop := fun j q =>
  (j = g4 ∧ q = .cells #[s, sl] 34 (0, 0)) ∨ (j = g6 ∧ q = .cells oc 40 (0, 0)) ∨ (j = g7 ∧ q = .cells #[.int .u64 (v.time : Int), .bool v.gone, .string v.val] 42 (0, 0))
section
variable {C : PrtC} {w wx w' : World} {r rs : Addr} {S1 S1' S S' : List Im} {P1 P1' P P' : List Pd} {s s' : Value} {a a' : Option Addr} {k k' g4 g6 g7 : Nat} {sl : Value} {oc : Array Value} {v : Vr}
theorem PlSt.openR (h : PlSt C w (XA g4 s sl) r rs S1 P1 S P s a k wx) (oc : Array Value) :
    PlSt C w (XB g4 s sl wx.heap.size oc (wx.heap.size + 1) vr0) r rs S1 P1 S P s a k ((wx.alloc (.cells oc 40)).alloc (.cells #[.int .u64 0, .bool false, .string ⟨#[]⟩] 42)) := by
  refine ((h.add _).add _).sub ?_
  rintro j o (⟨rfl, rfl⟩ | ⟨rfl, rfl⟩ | ⟨rfl, rfl⟩)
  · exact .inl (.inl ⟨rfl, rfl⟩)
  · exact .inl (.inr ⟨rfl, rfl⟩)
  · exact .inr ⟨by simp, rfl⟩
theorem PlSt.part (h : PlSt C w (XB g4 s sl g6 oc g7 v) r rs S1 P1 S P s' a k wx) : wx.cell? ⟨g4, 0, none⟩ = some s ∧ wx.cell? ⟨g4, 1, none⟩ = some sl ∧ ∀ j, wx.frozen? ⟨g4, j, none⟩ = false := by
  have hg := h.ext g4 _ (.inl ⟨rfl, rfl⟩)
  exact ⟨by rw [cell_of_row _ _ _ _ _ _ hg]; rfl, by rw [cell_of_row _ _ _ _ _ _ hg]; rfl, fun j => frozen_of_row _ _ _ _ _ hg⟩
theorem PlSt.opc (h : PlSt C w (XB g4 s sl g6 oc g7 v) r rs S1 P1 S P s' a k wx) (j : Nat) : wx.cell? ⟨g6, j, none⟩ = oc[j]? := cell_of_row _ _ _ _ _ _ (h.ext g6 _ (.inr (.inl ⟨rfl, rfl⟩)))
theorem PlSt.ver (h : PlSt C w (XB g4 s sl g6 oc g7 v) r rs S1 P1 S P s' a k wx) : wx.cell? ⟨g7, 0, none⟩ = some (.int .u64 (v.time : Int)) ∧ wx.cell? ⟨g7, 1, none⟩ = some (.bool v.gone) ∧ wx.cell? ⟨g7, 2, none⟩ = some (.string v.val) ∧ ∀ j, wx.frozen? ⟨g7, j, none⟩ = false := by
  have hg := h.ext g7 _ (.inr (.inr ⟨rfl, rfl⟩))
  exact ⟨by rw [cell_of_row _ _ _ _ _ _ hg]; rfl, by rw [cell_of_row _ _ _ _ _ _ hg]; rfl, by rw [cell_of_row _ _ _ _ _ _ hg]; rfl, fun j => frozen_of_row _ _ _ _ _ hg⟩
/-- The version of the round is written. -/
theorem PlSt.putV (h : PlSt C w (XB g4 s sl g6 oc g7 v) r rs S1 P1 S P s' a k wx) (h1 : g4 ≠ g7) (h2 : g6 ≠ g7) (u : Vr) :
    PlSt C w (XB g4 s sl g6 oc g7 u) r rs S1 P1 S P s' a k (((wx.setCell ⟨g7, 0, none⟩ (.int .u64 (u.time : Int))).setCell ⟨g7, 1, none⟩ (.bool u.gone)).setCell ⟨g7, 2, none⟩ (.string u.val)) := by
  refine (((h.put (.inr (.inr ⟨rfl, rfl⟩)) 0 (.int .u64 (u.time : Int))).put (.inr ⟨rfl, rfl⟩) 1 (.bool u.gone)).put (.inr ⟨rfl, rfl⟩) 2 (.string u.val)).sub ?_
  rintro j o (⟨rfl, rfl⟩ | ⟨rfl, rfl⟩ | ⟨rfl, rfl⟩)
  · exact .inl ⟨.inl ⟨.inl ⟨.inl ⟨rfl, rfl⟩, h1⟩, h1⟩, h1⟩
  · exact .inl ⟨.inl ⟨.inl ⟨.inr (.inl ⟨rfl, rfl⟩), h2⟩, h2⟩, h2⟩
  · exact .inr ⟨rfl, rfl⟩
/-- The document's participant is written. -/
theorem PlSt.putP (h : PlSt C w (XB g4 s sl g6 oc g7 v) r rs S1 P1 S P s' a k wx) (h1 : g4 ≠ g7) (h2 : g4 ≠ g6) (u ul : Value) :
    PlSt C w (XB g4 u ul g6 oc g7 v) r rs S1 P1 S P s' a k ((wx.setCell ⟨g4, 0, none⟩ u).setCell ⟨g4, 1, none⟩ ul) := by
  refine ((h.put (.inl ⟨rfl, rfl⟩) 0 u).put (.inr ⟨rfl, rfl⟩) 1 ul).sub ?_
  rintro j o (⟨rfl, rfl⟩ | ⟨rfl, rfl⟩ | ⟨rfl, rfl⟩)
  · exact .inr ⟨rfl, rfl⟩
  · exact .inl ⟨.inl ⟨.inr (.inl ⟨rfl, rfl⟩), h2.symm⟩, h2.symm⟩
  · exact .inl ⟨.inl ⟨.inr (.inr ⟨rfl, rfl⟩), h1.symm⟩, h1.symm⟩
theorem PlSt.closeR (h : PlSt C w (XB g4 s sl g6 oc g7 v) r rs S1 P1 S P s' a k wx) : PlSt C w (XA g4 s sl) r rs S1 P1 S P s' a k wx := h.sub (fun j o hj => .inl hj)
end
end Go.Proofs.Ythcomfcbdlobpaa
