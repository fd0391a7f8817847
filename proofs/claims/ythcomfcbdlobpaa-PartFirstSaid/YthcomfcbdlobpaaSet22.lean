/-
  What PartFirst keeps: a participant, the map of starts, the list of those that have committed.
-/
import Derived.Test.YthcomfcbdlobpaaSet20
import Derived.Test.YthcomfcbdlobpaaSet21
import Derived.Maps.Ext
import Derived.Deep.WholeRow
namespace Go.Proofs.Ythcomfcbdlobpaa
open Go.RowKit Go.Maps
set_option linter.unusedVariables false
set_option linter.unnecessarySimpa false
set_option linter.unusedSimpArgs false
set_option maxRecDepth 100000

/-- A map's element read as itself. -/
def RV (v : Value) : Option (DataW Value × List MemPlace) := some (.held v, [])
abbrev MapV (w : World) (M n : Nat) (DM : DataW Value) : Prop := w.ownsMap Try.prog 36 RV M n DM
def dnV (start time : Nat) (a : Option Addr) (n c : Nat) : Value := .agg #[.int .u64 (start : Int), .int .u64 (time : Int), .slice a n c]
def StartAt (DM : DataW Value) (p : Pd) : Prop := ∃ l, keyOf Try.prog 36 (.agg p.t.cells) = some l ∧ ∀ z, DM.atKey l z = .held (dnV p.start 0 p.a p.n p.c)
theorem MapV.same {w w' : World} {M n : Nat} {DM : DataW Value} (h : MapV w M n DM) (hb : w'.heap[M]? = w.heap[M]?) : MapV w' M n DM := by
  obtain ⟨es, clock, h1, h2, h3, h4⟩ := h
  exact ⟨es, clock, hb.trans h1, h2, h3, h4⟩
theorem MapV.update {w : World} {M n : Nat} {DM : DataW Value} (h : MapV w M n DM) (hn : n < maxLen) (p : Pd) (hp : p.t.ok) : ∃ w' DM', (Instr.mapUpdate 60 (.map (some M)) (.agg p.t.cells) (dnV p.start 0 p.a p.n p.c)).run Try.prog w = .ok () w' ∧ MapV w' M (n + 1) DM' ∧ w.grownBy w' (some M) ∧
    StartAt DM' p ∧ ∀ q : Pd, q.t ≠ p.t → StartAt DM q → StartAt DM' q := by
  obtain ⟨l, hl⟩ := keyOf_txn p.t hp
  obtain ⟨w', hrun, hown, hg⟩ := World.ownsMap.update h tk_law Try.underlying60 hn hl (d := .held (dnV p.start 0 p.a p.n p.c)) (ps := []) rfl
  refine ⟨w', _, hrun, hown, hg, ⟨l, hl, fun z => ?_⟩, fun q hq ⟨l2, hl2, hz⟩ => ⟨l2, hl2, fun z => ?_⟩⟩
  · obtain ⟨es, e, _⟩ := World.ownsMap.canon h tk_law
    exact atKey_put_same ⟨es, e⟩ (tk_law.key hl) _ _
  · rw [atKey_put_other (fun e => hq ?_)]
    · exact hz z
    · subst e
      have := tk_law.inj hl2 hl
      obtain ⟨⟨a, b, c⟩, _⟩ := q
      obtain ⟨⟨a', b', c'⟩, _⟩ := p
      simp [Tn.cells] at this
      simp [this]
theorem doneInfo : (Try.prog.info? 63).map (fun i => (i.zero, i.size)) = some (some (dnV 0 0 none 0 0), 3) := by kernel_rfl
theorem zero_done (w : World) : (zeroValue 63).run Try.prog w = .ok (dnV 0 0 none 0 0) w := (zero_of_info doneInfo).1 w
theorem MapV.look {w : World} {M n : Nat} {DM : DataW Value} (h : MapV w M n DM) (p : Pd) (hs : StartAt DM p) : (Instr.lookup 60 (.map (some M)) (.agg p.t.cells) false).run Try.prog w = .ok (dnV p.start 0 p.a p.n p.c) w := by
  obtain ⟨l, hl, hz⟩ := hs
  obtain ⟨v, ps, hrun, hv⟩ := World.ownsMap.lookup h tk_law Try.underlying60 (zero_done w) (zd := .held (dnV 0 0 none 0 0)) (zp := []) rfl hl
  rw [hz] at hv
  unfold RV at hv
  simp only [Option.some.injEq, Prod.mk.injEq, DataW.held.injEq] at hv
  rw [hrun, hv.1]

def rowD (D : List Dn) (a : Option Addr) (k : Nat) : Prop := 0 < D.length ∧ ∃ off, a = some ⟨k, off, none⟩
def NstD (w : World) (D : List Dn) : Prop := ∀ d ∈ D, d.start < 18446744073709551616 ∧ d.time < 18446744073709551616 ∧ ∀ W, Below w.heap.size w W → IsWqs W d.a d.n d.c d.w
theorem rowD_lt {wx : World} {D : List Dn} {a : Option Addr} {n k : Nat} (h : IsDns wx a n k D) {j : Nat} (hj : rowD D a j) : j < wx.heap.size := by
  obtain ⟨h0, off, e⟩ := hj
  obtain ⟨b, o2, e2, h4, _⟩ := h.2.2.2 0 (by have := h.1; omega)
  rw [e] at e2
  simp only [Option.some.injEq, Addr.mk.injEq] at e2
  omega
theorem IsDns.same {w wx w' : World} {D : List Dn} {a : Option Addr} {n k : Nat} (h : IsDns wx a n k D) (hn : NstD w D) (hb : Below w.heap.size w w') (hs : wx.heap.size ≤ w'.heap.size) (h2 : ∀ j, rowD D a j → w'.heap[j]? = wx.heap[j]?) : IsDns w' a n k D := by
  refine ⟨h.1, h.2.1, h.2.2.1, fun i hi => ?_⟩
  obtain ⟨b, off, ha, q1, q2, q3, q4, q5, q6, q7⟩ := h.2.2.2 i hi
  have hil : i < D.length := by rw [h.1]; exact hi
  have hbk := h2 b ⟨by omega, off, ha⟩
  have hm : D.getD i dn0 ∈ D := by rw [List.getD, List.getElem?_eq_getElem hil]; exact List.getElem_mem hil
  exact ⟨b, off, ha, Nat.lt_of_lt_of_le q1 hs, q2, q3, (hn _ hm).2.2 w' hb, by rw [World.cell?, hbk]; exact q5, by rw [World.cell?, hbk]; exact q6, by rw [World.cell?, hbk]; exact q7⟩
def farF (X : Nat → Obj → Prop) (M : Nat) (D : List Dn) (a : Option Addr) : Nat → Prop := fun k => (∃ o, X k o) ∨ k = M ∨ rowD D a k
/-- In memory, with some blocks X of the law's own that stay. -/
structure FiSt (C : PrtC) (w : World) (X : Nat → Obj → Prop) (r rs : Addr) (S : List Im) (P : List Pd) (D : List Dn) (M n : Nat) (DM : DataW Value) (a : Option Addr) (k : Nat) (wx : World) : Prop where
  st : PSt C w w.heap.size (farF X M D a) r rs S P wx
  ext : ∀ j o, X j o → wx.heap[j]? = some o
  map : MapV wx M n DM
  dv : IsDns wx a D.length k D
  nil : a = none → k = 0
  nst : NstD w D
  apart : ¬ rowD D a M
  ge : w.heap.size ≤ M
  xne : ∀ j o, X j o → j ≠ M ∧ ¬ rowD D a j
section
variable {C : PrtC} {w wx w' : World} {X : Nat → Obj → Prop} {r rs : Addr} {S S' : List Im} {P P' : List Pd} {D D' : List Dn} {M n n' : Nat} {DM DM' : DataW Value} {a a' : Option Addr} {k k' : Nat}
theorem FiSt.below (h : FiSt C w X r rs S P D M n DM a k wx) : Below w.heap.size w wx := h.st.below
theorem FiSt.far (h : FiSt C w X r rs S P D M n DM a k wx) (hs : PSt C w w.heap.size (farF X M D a) r rs S' P' w') (hf : FarSame (farF X M D a) wx w') : FiSt C w X r rs S' P' D M n DM a k w' :=
  ⟨hs, fun j o hj => (hf.2 j (.inl ⟨o, hj⟩)).trans (h.ext j o hj), h.map.same (hf.2 M (.inr (.inl rfl))), h.dv.same h.nst hs.below hf.1 (fun j hj => hf.2 j (.inr (.inr hj))), h.nil, h.nst, h.apart, h.ge, h.xne⟩
theorem FiSt.later (h : FiSt C w X r rs S P D M n DM a k wx) (hb : Below wx.heap.size wx w') : FiSt C w X r rs S P D M n DM a k w' := h.far (h.st.later hb).1 (h.st.later hb).2
theorem FiSt.update (h : FiSt C w X r rs S P D M n DM a k wx) (hm : MapV w' M n' DM') (hg : wx.grownBy w' (some M)) : FiSt C w X r rs S P D M n' DM' a k w' := by
  have hs : ∀ j, j < wx.heap.size → j ≠ M → w'.heap[j]? = wx.heap[j]? := fun j hj hn => hg.block j hj (fun e => by injection e with e; exact hn e)
  have hb : Below w.heap.size w w' := ⟨hg.os.trans h.below.os, hg.tape.trans h.below.tape, hg.output.trans h.below.output, Nat.le_trans h.below.size hg.size, fun j hj => (hs j (Nat.lt_of_lt_of_le hj h.below.size) (by have := h.ge; omega)).trans (h.below.block j hj)⟩
  have hst : PSt C w w.heap.size (farF X M D a) r rs S P w' := by
    obtain ⟨O, hat, hO, hb0, hB, hf⟩ := h.st
    exact ⟨O, C.stay hat fun j hj => hs j (C.lt hat j hj) (fun e => (hO j hj).2 (.inr (.inl e))), hO, hb, Nat.le_trans hB hg.size, fun j hj => Nat.lt_of_lt_of_le (hf j hj) hg.size⟩
  exact ⟨hst, fun j o hj => (hs j (h.st.far_lt j (.inl ⟨o, hj⟩)) (h.xne j o hj).1).trans (h.ext j o hj), hm, h.dv.same h.nst hb hg.size (fun j hj => hs j (rowD_lt h.dv hj) (fun e => h.apart (by rw [← e]; exact hj))), h.nil, h.nst, h.apart, h.ge, h.xne⟩
theorem FiSt.append (h : FiSt C w X r rs S P D M n DM a k wx) (hb : Below wx.heap.size wx w') (hd : IsDns w' a' D'.length k' D') (hn : NstD w D') (hnew : ∃ g, a' = some ⟨g, 0, none⟩ ∧ wx.heap.size ≤ g) : FiSt C w X r rs S P D' M n DM a' k' w' := by
  obtain ⟨g, rfl, hg⟩ := hnew
  have hrow : ∀ j, rowD D' (some ⟨g, 0, none⟩) j → j = g := fun j ⟨_, off, e⟩ => by simp only [Option.some.injEq, Addr.mk.injEq] at e; exact e.1.symm
  have hML := h.map.lt
  have hl := h.later hb
  refine ⟨h.st.more hb (fun j hj => ?_), hl.ext, hl.map, hd, (fun e => by cases e), hn, fun hx => by have := hrow M hx; omega, h.ge, fun j o hj => ⟨(h.xne j o hj).1, fun hx => by have := hrow j hx; have := h.st.far_lt j (.inl ⟨o, hj⟩); omega⟩⟩
  rcases hj with hj | rfl | hj
  · exact ⟨hl.st.far_lt j (.inl hj), .inl (.inl hj)⟩
  · exact ⟨Nat.lt_of_lt_of_le hML hb.size, .inl (.inr (.inl rfl))⟩
  · exact ⟨rowD_lt hd hj, .inr (by rw [hrow j hj]; exact hg)⟩
theorem FiSt.add (h : FiSt C w X r rs S P D M n DM a k wx) (o : Obj) : FiSt C w (X1 X wx.heap.size o) r rs S P D M n DM a k (wx.alloc o) := by
  have hb : Below wx.heap.size wx (wx.alloc o) := (Below.refl _ _).alloc (Nat.le_refl _) _
  have hl := h.later hb
  have hML := h.map.lt
  refine ⟨h.st.more hb (fun j hj => ?_), fun j q hj => ?_, hl.map, hl.dv, h.nil, h.nst, h.apart, h.ge, fun j q hj => ?_⟩
  · rcases hj with ⟨q, hj | ⟨rfl, _⟩⟩ | hj
    · exact ⟨hl.st.far_lt j (.inl ⟨q, hj⟩), .inl (.inl ⟨q, hj⟩)⟩
    · exact ⟨by simp, .inr (Nat.le_refl _)⟩
    · exact ⟨hl.st.far_lt j (.inr hj), .inl (.inr hj)⟩
  · rcases hj with hj | ⟨rfl, rfl⟩
    · exact hl.ext j q hj
    · exact heap_alloc_new wx _
  · rcases hj with hj | ⟨rfl, rfl⟩
    · exact h.xne j q hj
    · exact ⟨by omega, fun hx => by have := rowD_lt h.dv hx; omega⟩
theorem FiSt.sub (h : FiSt C w X r rs S P D M n DM a k wx) {Y : Nat → Obj → Prop} (hY : ∀ j o, Y j o → X j o) : FiSt C w Y r rs S P D M n DM a k wx := by
  refine ⟨h.st.more (Below.refl _ _) (fun j hj => ?_), fun j o hj => h.ext j o (hY j o hj), h.map, h.dv, h.nil, h.nst, h.apart, h.ge, fun j o hj => h.xne j o (hY j o hj)⟩
  have : farF X M D a j := by
    rcases hj with ⟨q, hj⟩ | hj
    · exact .inl ⟨q, hY j q hj⟩
    · exact .inr hj
  exact ⟨h.st.far_lt j this, .inl this⟩
theorem FiSt.start (hs : PSt C w w.heap.size (fun _ => False) r rs [] [] wx) : FiSt C w (fun _ _ => False) r rs [] [] [] wx.heap.size 0 (.map []) none 0 (wx.alloc (.map #[] 0)) := by
  have hb : Below wx.heap.size wx (wx.alloc (.map #[] 0)) := (Below.refl _ _).alloc (Nat.le_refl _) _
  refine ⟨hs.more hb (fun j hj => ?_), fun j o hj => hj.elim, World.ownsMap_made _ _ _ _, ⟨rfl, Nat.zero_le _, Nat.le_refl _, fun i hi => absurd hi (by simp)⟩, fun _ => rfl, fun d hd => absurd hd (by simp), fun ⟨h0, _⟩ => by simp at h0, hs.size, fun j o hj => hj.elim⟩
  rcases hj with ⟨o, hj⟩ | rfl | ⟨h0, _⟩
  · exact hj.elim
  · exact ⟨by simp, .inr (Nat.le_refl _)⟩
  · simp at h0
/-! The calls. -/
theorem fi_prepared (h : FiSt C w X r rs S P D M n DM a k wx) (t : Tn) (h0 : t.ok) :
    Calls Try.prog 19 #[.pointer (some r), .agg t.cells] wx fun e w' => e = .returned (.bool (decide (atN t P < P.length))) ∧ FiSt C w X r rs S P D M n DM a k w' :=
  (h.st.prepared t h0).mono fun e w' ⟨he, hs, hb⟩ => ⟨he, h.later hb⟩
theorem fi_prepare (h : FiSt C w X r rs S P D M n DM a k wx) (p : Pd) (h0 : p.t.ok) (h1 : IsWqs wx p.a p.n p.c p.w) (h2 : p.start < 18446744073709551616) (h3 : p.n ≤ 1000) (h4 : S.length ≤ 1000) (h5 : P.length ≤ 1000) :
    Calls Try.prog 11 #[.pointer (some r), .agg p.t.cells, .int .u64 (p.start : Int), .slice p.a p.n p.c] wx fun e w' => e = .returned (.int .i64 (mayN S P p.t p.start p.w : Int)) ∧ FiSt C w X r rs S (prepP S P p) D M n DM a k w' :=
  (h.st.prepare p h0 h1 h2 h3 h4 h5).mono fun e w' ⟨he, hs, hf⟩ => ⟨he, h.far hs hf⟩
theorem fi_commit (h : FiSt C w X r rs S P D M n DM a k wx) (t : Tn) (time : Nat) (h0 : t.ok) (h1 : time < 18446744073709551616) (h2 : S.length ≤ 900) (h3 : P.length ≤ 1000) (h4 : ∀ p ∈ P, p.w.length ≤ 8) :
    Calls Try.prog 12 #[.pointer (some r), .agg t.cells, .int .u64 (time : Int)] wx fun e w' => e = .returned (.int .i64 ((comR S P t time).2 : Int)) ∧ FiSt C w X r rs (comR S P t time).1.1 (comR S P t time).1.2 D M n DM a k w' :=
  (h.st.commit t time h0 h1 h2 h3 h4).mono fun e w' ⟨he, hs, hf⟩ => ⟨he, h.far hs hf⟩
theorem fi_abort (h : FiSt C w X r rs S P D M n DM a k wx) (t : Tn) (h0 : t.ok) (h3 : P.length ≤ 1000) :
    Calls Try.prog 13 #[.pointer (some r), .agg t.cells] wx fun e w' => e = .returned (.int .i64 ((aboR P t).2 : Int)) ∧ FiSt C w X r rs S (aboR P t).1 D M n DM a k w' :=
  (h.st.abort t h0 h3).mono fun e w' ⟨he, hs, hf⟩ => ⟨he, h.far hs hf⟩
end
/-- What is so of all. -/
structure FLog (w : World) (S : List Im) (P : List Pd) (now : Nat) (D : List Dn) (DM : DataW Value) : Prop where
  inv : FInv S P now D
  nst : NstP w P
  sta : ∀ p ∈ P, StartAt DM p
section
variable {w : World} {S : List Im} {P : List Pd} {now : Nat} {D : List Dn} {DM : DataW Value}
theorem FLog.zero : FLog w [] [] 0 [] (.map []) := ⟨FInv.zero, fun p hp => absurd hp (by simp), fun p hp => absurd hp (by simp)⟩
theorem atN_no {t : Tn} : ∀ {P : List Pd}, ¬ atN t P < P.length → ∀ q ∈ P, q.t ≠ t
  | [], _, q, hq => absurd hq (by simp)
  | p :: l, h, q, hq => by
    unfold atN at h
    split at h
    · simp at h
    · rename_i hn
      rcases List.mem_cons.1 hq with rfl | hq
      · exact hn
      · exact atN_no (by simpa using h) q hq
theorem FLog.prepYes {DM' : DataW Value} (h : FLog w S P now D DM) (p : Pd) (hs : p.start ≤ now) (hc : mayN S P p.t p.start p.w = 0 ∧ ¬ atN p.t P < P.length) (ht : p.start < 18446744073709551616) (hw : ∀ W, Below w.heap.size w W → IsWqs W p.a p.n p.c p.w)
    (h1 : StartAt DM' p) (h2 : ∀ q : Pd, q.t ≠ p.t → StartAt DM q → StartAt DM' q) : FLog w S (P ++ [p]) now D DM' := by
  have hi := h.inv.prep p hs
  unfold prepP at hi
  rw [if_pos hc] at hi
  refine ⟨hi, fun q hq => ?_, fun q hq => ?_⟩
  · rcases List.mem_append.1 hq with hq | hq
    · exact h.nst q hq
    · rw [List.mem_singleton.1 hq]
      exact ⟨ht, hw, may_small hc.1 hc.2⟩
  · rcases List.mem_append.1 hq with hq | hq
    · exact h2 q (atN_no hc.2 q hq) (h.sta q hq)
    · rw [List.mem_singleton.1 hq]; exact h1
theorem FLog.later (h : FLog w S P now D DM) {now' : Nat} (hn : now ≤ now') : FLog w S P now' D DM := ⟨h.inv.later hn, h.nst, h.sta⟩
theorem FLog.commit (h : FLog w S P now D DM) {i : Nat} (hi : i < P.length) {p : Pd} (hp : P.getD i pd0 = p) : FLog w (insAll S (now + 1) p.w) (outP P i) (now + 1) (D ++ [⟨p.start, now + 1, p.a, p.n, p.c, p.w⟩]) DM :=
  ⟨h.inv.commit hi hp p.a p.n p.c, fun q hq => h.nst q (outP_sub hq), fun q hq => h.sta q (outP_sub hq)⟩
theorem FLog.abort (h : FLog w S P now D DM) (t : Tn) : FLog w S (aboR P t).1 now D DM := by
  unfold aboR
  split
  · exact ⟨h.inv.out _, fun p hp => h.nst p (outP_sub hp), fun p hp => h.sta p (outP_sub hp)⟩
  · exact h
end
end Go.Proofs.Ythcomfcbdlobpaa
