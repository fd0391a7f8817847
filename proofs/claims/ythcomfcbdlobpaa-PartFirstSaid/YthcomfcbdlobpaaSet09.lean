/-
  Joined: PrtDoW, PrtFrn, PrtDoA.
-/
import Derived.Test.YthcomfcbdlobpaaSet03
import Derived.Test.YthcomfcbdlobpaaSet04
import Derived.Test.YthcomfcbdlobpaaSet05
import Derived.Test.YthcomfcbdlobpaaSet08
import Derived.Deep.RegionHeld3
namespace Go.Proofs.Ythcomfcbdlobpaa
open Go.RowKit
set_option linter.unusedVariables false
set_option linter.unnecessarySimpa false
set_option linter.unusedSimpArgs false
set_option maxRecDepth 100000

/-- The boxes that Do makes first, under names of their own. -/
structure DoW (w : World) (H0 H1 R2 R3 : Nat) (s sl : Value) (oc : Array Value) (wx : World) : Prop where
  below : Below w.heap.size w wx
  old : w.heap.size ≤ H0 ∧ H0 < H1 ∧ H1 < R2 ∧ R2 < R3
  r0 : wx.heap[H0]? = some (.cells #[s, sl] 34 (0, 0))
  r1 : wx.heap[H1]? = some (.cells oc 40 (0, 0))
  r2 : wx.heap[R2]? = some (.cells #[.slice none 0 0, .slice none 0 0] 34 (0, 0))
  r3 : wx.heap[R3]? = some (.cells #[.int .u64 0, .bool false, .string ⟨#[]⟩] 42 (0, 0))
theorem o4_heap {w : World} (o1 o2 o3 o4 : Obj) : ((((w.alloc o1).alloc o2).alloc o3).alloc o4).heap[w.heap.size]? = some o1 ∧ ((((w.alloc o1).alloc o2).alloc o3).alloc o4).heap[w.heap.size + 1]? = some o2 ∧
    ((((w.alloc o1).alloc o2).alloc o3).alloc o4).heap[w.heap.size + 1 + 1]? = some o3 ∧ ((((w.alloc o1).alloc o2).alloc o3).alloc o4).heap[w.heap.size + 1 + 1 + 1]? = some o4 := by
  refine ⟨?_, ?_, ?_, ?_⟩
  · show ((((w.heap.push o1).push o2).push o3).push o4)[_]? = _
    rw [Array.getElem?_push, if_neg (by simp; omega), Array.getElem?_push, if_neg (by simp; omega), Array.getElem?_push, if_neg (by simp), Array.getElem?_push, if_pos rfl]
  · show ((((w.heap.push o1).push o2).push o3).push o4)[_]? = _
    rw [Array.getElem?_push, if_neg (by simp), Array.getElem?_push, if_neg (by simp), Array.getElem?_push, if_pos (by simp)]
  · show ((((w.heap.push o1).push o2).push o3).push o4)[_]? = _
    rw [Array.getElem?_push, if_neg (by simp), Array.getElem?_push, if_pos (by simp)]
  · show ((((w.heap.push o1).push o2).push o3).push o4)[_]? = _
    rw [Array.getElem?_push, if_pos (by simp)]
theorem DoW.start (w : World) (s sl : Value) (oc : Array Value) : DoW w w.heap.size (w.heap.size + 1) (w.heap.size + 1 + 1) (w.heap.size + 1 + 1 + 1) s sl oc ((((w.alloc (.cells #[s, sl] 34)).alloc (.cells oc 40)).alloc (.cells #[.slice none 0 0, .slice none 0 0] 34)).alloc (.cells #[.int .u64 0, .bool false, .string ⟨#[]⟩] 42)) :=
  ⟨((((Below.refl w.heap.size w).alloc (Nat.le_refl _) _).alloc (by simp) _).alloc (by simp; omega) _).alloc (by simp; omega) _, by omega, (o4_heap _ _ _ _).1, (o4_heap _ _ _ _).2.1, (o4_heap _ _ _ _).2.2.1, (o4_heap _ _ _ _).2.2.2⟩
section
variable {w wx w' : World} {H0 H1 R2 R3 : Nat} {s sl : Value} {oc : Array Value}
theorem DoW.later (h : DoW w H0 H1 R2 R3 s sl oc wx) (hb : Below wx.heap.size wx w') : DoW w H0 H1 R2 R3 s sl oc w' :=
  ⟨h.below.trans (hb.mono h.below.size), h.old, (hb.block _ (Array.getElem?_eq_some_iff.1 h.r0).1).trans h.r0, (hb.block _ (Array.getElem?_eq_some_iff.1 h.r1).1).trans h.r1, (hb.block _ (Array.getElem?_eq_some_iff.1 h.r2).1).trans h.r2, (hb.block _ (Array.getElem?_eq_some_iff.1 h.r3).1).trans h.r3⟩
theorem DoW.drew (h : DoW w H0 H1 R2 R3 s sl oc wx) : DoW w H0 H1 R2 R3 s sl oc wx.drew := h.later (Below.refl _ _).drew
theorem DoW.ne (h : DoW w H0 H1 R2 R3 s sl oc wx) : H0 ≠ R2 ∧ H0 ≠ R3 ∧ H1 ≠ R2 ∧ H1 ≠ R3 ∧ R2 ≠ R3 ∧ R2 ≠ H0 ∧ R3 ≠ H0 ∧ R2 ≠ H1 ∧ R3 ≠ H1 ∧ R3 ≠ R2 := by
  have := h.old
  omega
theorem DoW.cells {k tn tl ts ky ti sw : Value} (h : DoW w H0 H1 R2 R3 s sl #[k, tn, tl, ts, ky, ti, sw] wx) :
    wx.cell? ⟨H0, 0, none⟩ = some s ∧ wx.cell? ⟨H0, 1, none⟩ = some sl ∧ wx.cell? ⟨H1, 0, none⟩ = some k ∧ wx.cell? ⟨H1, 1, none⟩ = some tn ∧ wx.cell? ⟨H1, 2, none⟩ = some tl ∧
    wx.cell? ⟨H1, 3, none⟩ = some ts ∧ wx.cell? ⟨H1, 4, none⟩ = some ky ∧ wx.cell? ⟨H1, 5, none⟩ = some ti ∧ wx.cell? ⟨H1, 6, none⟩ = some sw ∧
    (∀ j, wx.frozen? ⟨R2, j, none⟩ = false) ∧ (∀ j, wx.frozen? ⟨R3, j, none⟩ = false) ∧ (∀ j, wx.frozen? ⟨H0, j, none⟩ = false) ∧
    wx.cell? ⟨R2, 0, none⟩ = some (.slice none 0 0) ∧ wx.cell? ⟨R2, 1, none⟩ = some (.slice none 0 0) ∧
    wx.cell? ⟨R3, 0, none⟩ = some (.int .u64 0) ∧ wx.cell? ⟨R3, 1, none⟩ = some (.bool false) ∧ wx.cell? ⟨R3, 2, none⟩ = some (.string ⟨#[]⟩) := by
  refine ⟨?_, ?_, ?_, ?_, ?_, ?_, ?_, ?_, ?_, fun j => frozen_of_row _ _ _ _ _ h.r2, fun j => frozen_of_row _ _ _ _ _ h.r3, fun j => frozen_of_row _ _ _ _ _ h.r0, ?_, ?_, ?_, ?_, ?_⟩
  · rw [cell_of_row _ _ _ _ _ _ h.r0]; rfl
  · rw [cell_of_row _ _ _ _ _ _ h.r0]; rfl
  · rw [cell_of_row _ _ _ _ _ _ h.r1]; rfl
  · rw [cell_of_row _ _ _ _ _ _ h.r1]; rfl
  · rw [cell_of_row _ _ _ _ _ _ h.r1]; rfl
  · rw [cell_of_row _ _ _ _ _ _ h.r1]; rfl
  · rw [cell_of_row _ _ _ _ _ _ h.r1]; rfl
  · rw [cell_of_row _ _ _ _ _ _ h.r1]; rfl
  · rw [cell_of_row _ _ _ _ _ _ h.r1]; rfl
  · rw [cell_of_row _ _ _ _ _ _ h.r2]; rfl
  · rw [cell_of_row _ _ _ _ _ _ h.r2]; rfl
  · rw [cell_of_row _ _ _ _ _ _ h.r3]; rfl
  · rw [cell_of_row _ _ _ _ _ _ h.r3]; rfl
  · rw [cell_of_row _ _ _ _ _ _ h.r3]; rfl
end

/-- Two result cells beside a slot. -/
theorem results_rows2_tmp {P : Program} {fn : Func} {p q u : Tmp} {ty ty2 : TypeId} (h : fn.results = #[.cell p ty, .cell q ty2, .tmp u]) (tmps : Array Value) (w : World) (g g2 : Nat) (t t2 : TypeId) (cs cs2 : Array Value) (fr fr2 : Nat × Nat) (d d2 : TypeDesc) (v : Value)
    (hp : tmps.getD p undef = .pointer (some ⟨g, 0, none⟩)) (hg : w.heap[g]? = some (.cells cs t fr))
    (hu : P.underlying ty = some d) (hd : (match d with | .struct _ | .array _ _ => true | _ => false) = true) (hi : (P.info? ty).map (·.size) = some cs.size)
    (hq : tmps.getD q undef = .pointer (some ⟨g2, 0, none⟩)) (hg2 : w.heap[g2]? = some (.cells cs2 t2 fr2))
    (hu2 : P.underlying ty2 = some d2) (hd2 : (match d2 with | .struct _ | .array _ _ => true | _ => false) = true) (hi2 : (P.info? ty2).map (·.size) = some cs2.size) (hv : tmps.getD u undef = v) :
    (results fn tmps).run P w = .ok (.tuple #[.agg cs, .agg cs2, v]) w := by
  have hp' : tmps[p]?.getD undef = .pointer (some ⟨g, 0, none⟩) := by simpa using hp
  have hq' : tmps[q]?.getD undef = .pointer (some ⟨g2, 0, none⟩) := by simpa using hq
  have hv' : tmps[u]?.getD undef = v := by simpa using hv
  simp [results, h, hp', hq', hv', asAddr, run_loadVar_row w g t ty cs fr d hg hu hd hi, run_loadVar_row w g2 t2 ty2 cs2 fr2 d2 hg2 hu2 hd2 hi2, Sem.run_bind]
theorem partSize : (Try.prog.info? 34).map (·.size) = some 2 := by kernel_rfl
theorem verSizeP : (Try.prog.info? 42).map (·.size) = some 3 := by kernel_rfl

/-- A store's value that is the old one, or new. -/
def NewS (w : World) (s0 s : Value) : Prop := s = s0 ∨ ∃ h n c, s = .slice (some ⟨h, 0, none⟩) n c ∧ w.heap.size ≤ h
/-- A slice that is the old one, empty, or new. -/
def NewP (w : World) (l0 : Value) (a : Option Addr) (n k : Nat) : Prop := .slice a n k = l0 ∨ n = 0 ∨ ∃ g, a = some ⟨g, 0, none⟩ ∧ w.heap.size ≤ g
/-- What Do answers. -/
def DoRes (w : World) (s0 l0 : Value) (S : List Im) (P : List Pd) (v : Vr) (c : Nat) (e : Ending) (w' : World) : Prop :=
  ∃ s a n k, e = .returned (.tuple #[.agg #[s, .slice a n k], .agg #[.int .u64 (v.time : Int), .bool v.gone, .string v.val], .int .i64 (c : Int)]) ∧ StV w' s S ∧ IsPds w' a n k P ∧ Below w.heap.size w w' ∧ (a = none → k = 0) ∧ NewS w s0 s ∧ NewP w l0 a n k
theorem dores_end {w w' : World} {R2 R3 : Nat} {S : List Im} {P : List Pd} {v : Vr} {c : Nat} {a : Act} {s : Value} {b : Option Addr} {n k : Nat} (h : a.defers = [])
    (h2 : w'.heap[R2]? = some (.cells #[s, .slice b n k] 34 (0, 0))) (h3 : w'.heap[R3]? = some (.cells #[.int .u64 (v.time : Int), .bool v.gone, .string v.val] 42 (0, 0)))
    (hs : StV w' s S) (hz : IsPds w' b n k P) (hb : Below w.heap.size w w') (hnl : b = none → k = 0) {s0 l0 : Value} (hl1 : NewS w s0 s) (hl2 : NewP w l0 b n k)
    (hp : a.tmps.getD 4 undef = .pointer (some ⟨R2, 0, none⟩)) (hq : a.tmps.getD 5 undef = .pointer (some ⟨R3, 0, none⟩)) (h6 : a.tmps.getD 6 undef = .int .i64 (c : Int)) :
    bodyPost Try.prog Try.f17 (DoRes w s0 l0 S P v c) .ret a w' := by
  refine bodyPost_ret (v := .tuple #[.agg #[s, .slice b n k], .agg #[.int .u64 (v.time : Int), .bool v.gone, .string v.val], .int .i64 (c : Int)]) ?_ h ⟨s, b, n, k, rfl, hs, hz, hb, hnl, hl1, hl2⟩
  exact results_rows2_tmp rfl _ _ R2 R3 34 42 _ _ (0, 0) (0, 0) _ _ _ hp h2 Try.underlying34 rfl partSize hq h3 Try.underlying42 rfl verSizeP h6
/-- The result boxes as they are written, in the order of the text. -/
theorem DoW.res {w wx : World} {H0 H1 R2 R3 : Nat} {s sl : Value} {oc : Array Value} (h : DoW w H0 H1 R2 R3 s sl oc wx) (s' sl' : Value) (v : Vr) :
    let w' := ((((wx.setCell ⟨R2, 0, none⟩ s').setCell ⟨R2, 1, none⟩ sl').setCell ⟨R3, 0, none⟩ (.int .u64 (v.time : Int))).setCell ⟨R3, 1, none⟩ (.bool v.gone)).setCell ⟨R3, 2, none⟩ (.string v.val)
    w'.heap[R2]? = some (.cells #[s', sl'] 34 (0, 0)) ∧ w'.heap[R3]? = some (.cells #[.int .u64 (v.time : Int), .bool v.gone, .string v.val] 42 (0, 0)) ∧ Below w.heap.size w w' := by
  intro w'
  obtain ⟨o1, o2, o3, o4⟩ := h.old
  have ne : R2 ≠ R3 := by omega
  refine ⟨?_, ?_, ?_⟩
  · show ((((((wx.setCell _ _).setCell _ _).setCell _ _).setCell _ _).setCell _ _).heap[_]?) = _
    rw [Below.heap_setCell _ _ _ _ ne, Below.heap_setCell _ _ _ _ ne, Below.heap_setCell _ _ _ _ ne, heap_setCell_same _ _ 1 _ _ _ (heap_setCell_same _ _ 0 _ _ _ h.r2)]
    rfl
  · show ((((((wx.setCell _ _).setCell _ _).setCell _ _).setCell _ _).setCell _ _).heap[_]?) = _
    have h3 : ((wx.setCell ⟨R2, 0, none⟩ s').setCell ⟨R2, 1, none⟩ sl').heap[R3]? = some (.cells #[.int .u64 0, .bool false, .string ⟨#[]⟩] 42 (0, 0)) := by
      rw [Below.heap_setCell _ _ _ _ ne.symm, Below.heap_setCell _ _ _ _ ne.symm]
      exact h.r3
    rw [heap_setCell_same _ _ 2 _ _ _ (heap_setCell_same _ _ 1 _ _ _ (heap_setCell_same _ _ 0 _ _ _ h3))]
    rfl
  · exact ((((h.below.setCell (by show w.heap.size ≤ R2; omega) _).setCell (by show w.heap.size ≤ R2; omega) _).setCell (by show w.heap.size ≤ R3; omega) _).setCell (by show w.heap.size ≤ R3; omega) _).setCell (by show w.heap.size ≤ R3; omega) _
end Go.Proofs.Ythcomfcbdlobpaa

namespace Go.Proofs.Ythcomfcbdlobpaa
open Go.RowKit
set_option linter.unusedVariables false
set_option linter.unnecessarySimpa false
set_option linter.unusedSimpArgs false
set_option maxRecDepth 100000

/-- A box of another kind: a participant, a version, a store. -/
def Frn (w : World) (k : Nat) : Prop :=
  (∃ a n c a2 n2 c2 t f, w.heap[k]? = some (.cells #[.slice a n c, .slice a2 n2 c2] t f)) ∨ (∃ (x : Int) (g : Bool) (v : ByteArray) (t : TypeId) (f : Nat × Nat), w.heap[k]? = some (.cells #[.int .u64 x, .bool g, .string v] t f)) ∨ (∃ a n c t f, w.heap[k]? = some (.cells #[.slice a n c] t f))
structure FrnSame (w w' : World) : Prop where
  size : w.heap.size ≤ w'.heap.size
  block : ∀ k, k < w.heap.size → w'.heap[k]? = w.heap[k]? ∨ Frn w k
section
variable {w w' : World} {b off : Nat}
theorem FrnSame.of (h : Below w.heap.size w w') : FrnSame w w' := ⟨h.size, fun k hk => .inl (h.block k hk)⟩
theorem frn_cell {k j : Nat} {v : Value} (h : Frn w k) (hc : w.cell? ⟨k, j, none⟩ = some v) : (∃ a n c, v = .slice a n c) ∨ (∃ x : Int, v = .int .u64 x ∧ j = 0) ∨ (∃ g, v = .bool g ∧ j = 1) ∨ (∃ s, v = .string s ∧ j = 2 ∧ w.cell? ⟨k, 3, none⟩ = none) := by
  rcases h with ⟨a, n, c, a2, n2, c2, t, f, h⟩ | ⟨x, g, s, t, f, h⟩ | ⟨a, n, c, t, f, h⟩
  · rw [cell_of_row _ _ _ _ _ _ h] at hc
    match j with
    | 0 => simp at hc; exact .inl ⟨_, _, _, hc.symm⟩
    | 1 => simp at hc; exact .inl ⟨_, _, _, hc.symm⟩
    | j + 2 => simp at hc
  · have h3 : w.cell? ⟨k, 3, none⟩ = none := by rw [cell_of_row _ _ _ _ _ _ h]; rfl
    rw [cell_of_row _ _ _ _ _ _ h] at hc
    match j with
    | 0 => simp at hc; exact .inr (.inl ⟨_, hc.symm, rfl⟩)
    | 1 => simp at hc; exact .inr (.inr (.inl ⟨_, hc.symm, rfl⟩))
    | 2 => simp at hc; exact .inr (.inr (.inr ⟨_, hc.symm, rfl, h3⟩))
    | j + 3 => simp at hc
  · rw [cell_of_row _ _ _ _ _ _ h] at hc
    match j with
    | 0 => simp at hc; exact .inl ⟨_, _, _, hc.symm⟩
    | j + 1 => simp at hc
theorem frn_string {k j : Nat} {s : ByteArray} {v : Value} (h : Frn w k) (hc : w.cell? ⟨k, j, none⟩ = some (.string s)) (hd : w.cell? ⟨k, j + 1, none⟩ = some v) : False := by
  rcases frn_cell h hc with ⟨_, _, _, e⟩ | ⟨_, e, _⟩ | ⟨_, e, _⟩ | ⟨_, _, rfl, e⟩
  · cases e
  · cases e
  · cases e
  · rw [show 2 + 1 = 3 from rfl, e] at hd; cases hd
theorem frn_i64 {k j : Nat} {x : Int} (h : Frn w k) (hc : w.cell? ⟨k, j, none⟩ = some (.int .i64 x)) : False := by
  rcases frn_cell h hc with ⟨_, _, _, e⟩ | ⟨_, e, _⟩ | ⟨_, e, _⟩ | ⟨_, e, _⟩ <;> cases e
theorem FrnSame.row (h : FrnSame w w') {k : Nat} (hk : k < w.heap.size) (hn : ¬ Frn w k) : ∀ j, w'.cell? ⟨k, j, none⟩ = w.cell? ⟨k, j, none⟩ := fun j => by
  have e := (h.block k hk).resolve_right hn
  unfold World.cell?
  simp only [e]
theorem WqAt.frn {m : Wq} (h : WqAt w b off m) (hs : FrnSame w w') : WqAt w' b off m := by
  obtain ⟨h1, h2, h3, k0, k1, k2⟩ := h
  have hr := hs.row h1 (fun hf => frn_string hf k0 k1)
  exact ⟨Nat.lt_of_lt_of_le h1 hs.size, h2, h3, (hr _).trans k0, (hr _).trans k1, (hr _).trans k2⟩
theorem IsWqs.frn {a : Option Addr} {len cap : Nat} {L : List Wq} (h : IsWqs w a len cap L) (hs : FrnSame w w') : IsWqs w' a len cap L :=
  ⟨h.1, h.2.1, h.2.2.1, fun i hi => by obtain ⟨b, off, ha, he⟩ := h.2.2.2 i hi; exact ⟨b, off, ha, he.frn hs⟩⟩
theorem PdAt.frn {p : Pd} (h : PdAt w b off p) (hs : FrnSame w w') : PdAt w' b off p := by
  obtain ⟨h1, h2, h3, k0, k1, k2, k3, k4⟩ := h
  have hr := hs.row h1 (fun hf => frn_i64 hf k0)
  exact ⟨Nat.lt_of_lt_of_le h1 hs.size, h2, h3.frn hs, (hr _).trans k0, (hr _).trans k1, (hr _).trans k2, (hr _).trans k3, (hr _).trans k4⟩
theorem IsPds.frn {a : Option Addr} {len cap : Nat} {L : List Pd} (h : IsPds w a len cap L) (hs : FrnSame w w') : IsPds w' a len cap L :=
  ⟨h.1, h.2.1, h.2.2.1, fun i hi => by obtain ⟨b, off, ha, he⟩ := h.2.2.2 i hi; exact ⟨b, off, ha, he.frn hs⟩⟩
theorem ItmAt.frn {m : Im} (h : ItmAt w b off m) (hs : FrnSame w w') : ItmAt w' b off m := by
  obtain ⟨h1, h2, h3, h4, k0, k1, k2, k3⟩ := h
  have hr := hs.row h1 (fun hf => frn_string hf k0 k1)
  exact ⟨Nat.lt_of_lt_of_le h1 hs.size, h2, h3, h4, (hr _).trans k0, (hr _).trans k1, (hr _).trans k2, (hr _).trans k3⟩
theorem IsItms.frn {a : Option Addr} {len cap : Nat} {L : List Im} (h : IsItms w a len cap L) (hs : FrnSame w w') : IsItms w' a len cap L :=
  ⟨h.1, h.2.1, fun i hi => by obtain ⟨b, off, ha, he⟩ := h.2.2 i hi; exact ⟨b, off, ha, he.frn hs⟩⟩
theorem StV.frn {s : Value} {L : List Im} (h : StV w s L) (hs : FrnSame w w') : StV w' s L := by
  obtain ⟨a, cap, e, h1, h2⟩ := h
  exact ⟨a, cap, e, h1.frn hs, h2⟩
/-- One cell of a box of another kind is written. -/
theorem FrnSame.set {g j : Nat} (h : Frn w g) (v : Value) : FrnSame w (w.setCell ⟨g, j, none⟩ v) :=
  ⟨by simp [World.setCell], fun k hk => if e : k = g then .inr (by rw [e]; exact h) else .inl (Below.heap_setCell _ _ _ _ e)⟩
end
/-- The result boxes written: what stays. -/
theorem DoW.resFrn {w wx : World} {H0 H1 R2 R3 : Nat} {s sl : Value} {oc : Array Value} (h : DoW w H0 H1 R2 R3 s sl oc wx) (s' sl' : Value) (v : Vr) :
    FrnSame wx (((((wx.setCell ⟨R2, 0, none⟩ s').setCell ⟨R2, 1, none⟩ sl').setCell ⟨R3, 0, none⟩ (.int .u64 (v.time : Int))).setCell ⟨R3, 1, none⟩ (.bool v.gone)).setCell ⟨R3, 2, none⟩ (.string v.val)) := by
  refine ⟨by simp [World.setCell], fun k hk => ?_⟩
  by_cases e2 : k = R2
  · exact .inr (.inl ⟨_, _, _, _, _, _, _, _, by rw [e2]; exact h.r2⟩)
  · by_cases e3 : k = R3
    · exact .inr (.inr (.inl ⟨_, _, _, _, _, by rw [e3]; exact h.r3⟩))
    · left
      rw [Below.heap_setCell _ _ _ _ e3, Below.heap_setCell _ _ _ _ e3, Below.heap_setCell _ _ _ _ e3, Below.heap_setCell _ _ _ _ e2, Below.heap_setCell _ _ _ _ e2]
/-- The end of Do, the result boxes written in the text's order. -/
theorem do_fin {w wx : World} {H0 H1 R2 R3 : Nat} {s0 sl0 : Value} {oc : Array Value} (h : DoW w H0 H1 R2 R3 s0 sl0 oc wx) {S : List Im} {P : List Pd} (v : Vr) {c : Nat} {a : Act} {s : Value} {b : Option Addr} {n k : Nat}
    (hs : StV wx s S) (hz : IsPds wx b n k P) (hnl : b = none → k = 0) {sO lO : Value} (hl1 : NewS w sO s) (hl2 : NewP w lO b n k) (hd : a.defers = [])
    (hp : a.tmps.getD 4 undef = .pointer (some ⟨R2, 0, none⟩)) (hq : a.tmps.getD 5 undef = .pointer (some ⟨R3, 0, none⟩)) (h6 : a.tmps.getD 6 undef = .int .i64 (c : Int)) :
    bodyPost Try.prog Try.f17 (DoRes w sO lO S P v c) .ret a (((((wx.setCell ⟨R2, 0, none⟩ s).setCell ⟨R2, 1, none⟩ (.slice b n k)).setCell ⟨R3, 0, none⟩ (.int .u64 (v.time : Int))).setCell ⟨R3, 1, none⟩ (.bool v.gone)).setCell ⟨R3, 2, none⟩ (.string v.val)) := by
  obtain ⟨e2, e3, e4⟩ := h.res s (.slice b n k) v
  have hf := h.resFrn s (.slice b n k) v
  exact dores_end hd e2 e3 (hs.frn hf) (hz.frn hf) e4 hnl hl1 hl2 hp hq h6
theorem do_finD {w wx : World} {H0 H1 R2 R3 : Nat} {s0 sl0 : Value} {oc : Array Value} (h : DoW w H0 H1 R2 R3 s0 sl0 oc wx) {S : List Im} {P : List Pd} (v : Vr) {c : Nat} {a : Act} {s : Value} {b : Option Addr} {n k : Nat}
    (hs : StV wx s S) (hz : IsPds wx b n k P) (hnl : b = none → k = 0) {sO lO : Value} (hl1 : NewS w sO s) (hl2 : NewP w lO b n k) (hd : a.defers = [])
    (hp : a.tmps.getD 4 undef = .pointer (some ⟨R2, 0, none⟩)) (hq : a.tmps.getD 5 undef = .pointer (some ⟨R3, 0, none⟩)) (h6 : a.tmps.getD 6 undef = .int .i64 (c : Int)) :
    bodyPost Try.prog Try.f17 (DoRes w sO lO S P v c) .ret a (((((wx.setCell ⟨R2, 0, none⟩ s).setCell ⟨R2, 1, none⟩ (.slice b n k)).setCell ⟨R3, 0, none⟩ (.int .u64 (v.time : Int))).setCell ⟨R3, 1, none⟩ (.bool v.gone)).setCell ⟨R3, 2, none⟩ (.string v.val)).drew := by
  obtain ⟨e2, e3, e4⟩ := h.res s (.slice b n k) v
  have hf := h.resFrn s (.slice b n k) v
  generalize ((((wx.setCell ⟨R2, 0, none⟩ s).setCell ⟨R2, 1, none⟩ (.slice b n k)).setCell ⟨R3, 0, none⟩ (.int .u64 (v.time : Int))).setCell ⟨R3, 1, none⟩ (.bool v.gone)).setCell ⟨R3, 2, none⟩ (.string v.val) = w5 at e2 e3 e4 hf ⊢
  have hb : Below w5.heap.size w5 w5.drew := (Below.refl _ _).drew
  exact dores_end (w' := w5.drew) hd e2 e3 ((hs.frn hf).below hb) ((hz.frn hf).below hb) (e4.trans (hb.mono e4.size)) hnl hl1 hl2 hp hq h6
end Go.Proofs.Ythcomfcbdlobpaa

namespace Go.Proofs.Ythcomfcbdlobpaa
open Go.RowKit
set_option linter.unusedVariables false
set_option linter.unnecessarySimpa false
set_option linter.unusedSimpArgs false
set_option maxRecDepth 100000

/-- What Read answers. -/
def readV (S : List Im) (P : List Pd) (key : ByteArray) (t : Nat) : Vr := if lockedP key P then vr0 else if (bestOf key t S).2 then (bestOf key t S).1 else vr0
def readE (S : List Im) (P : List Pd) (key : ByteArray) (t : Nat) : Nat := if lockedP key P then 7 else if (bestOf key t S).2 then 0 else 9
set_option maxHeartbeats 8000000 in
theorem pdo_read (s : Value) (S : List Im) (a : Option Addr) (len cap : Nat) (P : List Pd) (kind : Nat) (t : Tn) (key : ByteArray) (time : Nat) (aw : Option Addr) (nw cw : Nat) (w : World)
    (hS : StV w s S) (hlS : S.length ≤ 100000) (hz : IsPds w a len cap P) (hnl : a = none → cap = 0) (ht : time < 18446744073709551616) (hk : (kind : Int) % 6 = 0) :
    Calls Try.prog 17 #[.agg #[s, .slice a len cap], .agg (opCells kind t key time aw nw cw)] w (DoRes w s (.slice a len cap) S P (readV S P key time) (readE S P key time)) := by
  obtain ⟨aS, cS, rfl, hS1, hS2⟩ := hS
  obtain ⟨tn, tl, ts⟩ := t
  have HNL := Lib.hid hnl
  clear hnl
  have HAT := Lib.hid (fun W (hb : Below w.heap.size w W) => pat_any (.slice aS S.length cS) a len cap P ⟨tn, tl, ts⟩ W (hz.below hb))
  have HLK := Lib.hid (fun W (hb : Below w.heap.size w W) => plocked_any (.slice aS S.length cS) a len cap P key W (hz.below hb))
  have HBA := Lib.hid (fun W (hb : Below w.heap.size w W) => mat_any aS S.length cS S key time ht W (hS1.below hb) hlS)
  have HFS := Lib.hid (show ∀ W, Below w.heap.size w W → StV W (.slice aS S.length cS) S from fun W hb => ⟨aS, cS, rfl, hS1.below hb, hS2⟩)
  have HFP := Lib.hid (show ∀ W, Below w.heap.size w W → IsPds W a len cap P from fun W hb => hz.below hb)
  obtain ⟨sv, hsv⟩ : ∃ sv, sv = Value.slice aS S.length cS := ⟨_, rfl⟩
  have HSV := Lib.hid hsv
  unfold Tn.cells at HAT
  rw [← hsv] at HFS
  have HW00 := Lib.hid (DoW.start w (.slice aS S.length cS) (.slice a len cap) (opCells kind ⟨tn, tl, ts⟩ key time aw nw cw))
  unfold opCells at HW00 ⊢
  have HRV : Hid (readV S P key time = if lockedP key P then vr0 else if (bestOf key time S).2 then (bestOf key time S).1 else vr0) := Lib.hid rfl
  have HRE : Hid (readE S P key time = if lockedP key P then 7 else if (bestOf key time S).2 then 0 else 9) := Lib.hid rfl
  obtain ⟨RV, hRV⟩ : ∃ RV, RV = readV S P key time := ⟨_, rfl⟩
  obtain ⟨RE, hRE⟩ : ∃ RE, RE = readE S P key time := ⟨_, rfl⟩
  rw [← hRV] at HRV ⊢
  rw [← hRE] at HRE ⊢
  obtain ⟨LB, hLB⟩ : ∃ LB, LB = lockedP key P := ⟨_, rfl⟩
  rw [← hLB] at HRV HRE HLK
  obtain ⟨BV, hBV⟩ : ∃ BV, BV = bestOf key time S := ⟨_, rfl⟩
  rw [← hBV] at HRV HRE HBA
  obtain ⟨⟨vt, vg, vv⟩, bk⟩ := BV
  unfold Vr.cells at HBA
  simp only at HBA HRV
  obtain ⟨A, hA⟩ : ∃ A, A = atP ⟨tn, tl, ts⟩ P := ⟨_, rfl⟩
  rw [← hA] at HAT
  clear hS1 hS2 hz ht hRV hRE hLB hBV hA hsv
  go_enter Try.func17, Try.ntmps17
  go_upto_region 1 with fail
  obtain ⟨W0, hW0⟩ : ∃ W0, W0 = (((w.alloc (.cells #[.slice aS S.length cS, .slice a len cap] 34)).alloc (.cells #[.int .u8 (kind : Int), .int .i64 tn, .int .i64 tl, .int .i64 ts, .string key, .int .u64 (time : Int), .slice aw nw cw] 40)).alloc (.cells #[.slice none 0 0, .slice none 0 0] 34)).alloc (.cells #[.int .u64 0, .bool false, .string ⟨#[]⟩] 42) := ⟨_, rfl⟩
  obtain ⟨R3, hR3⟩ : ∃ R3, R3 = w.heap.size + 1 + 1 + 1 := ⟨_, rfl⟩
  obtain ⟨R2, hR2⟩ : ∃ R2, R2 = w.heap.size + 1 + 1 := ⟨_, rfl⟩
  obtain ⟨H1, hH1⟩ : ∃ H1, H1 = w.heap.size + 1 := ⟨_, rfl⟩
  obtain ⟨H0, hH0⟩ : ∃ H0, H0 = w.heap.size := ⟨_, rfl⟩
  have HW0 : Hid (DoW w H0 H1 R2 R3 (.slice aS S.length cS) (.slice a len cap) #[.int .u8 (kind : Int), .int .i64 tn, .int .i64 tl, .int .i64 ts, .string key, .int .u64 (time : Int), .slice aw nw cw] W0) := by
    rw [hH0, hH1, hR2, hR3, hW0]; exact HW00
  rw [← hW0, ← hR3, ← hR2, ← hH1, ← hH0]
  clear hW0 hR3 hR2 hH1 hH0 HW00
  obtain ⟨p0, p1, o0, o1, o2, o3, o4, o5, o6, f2, f3, f0, c20, c21, c30, c31, c32⟩ := HW0.out.cells
  obtain ⟨ne02, ne03, ne12, ne13, ne23, ne20, ne30, ne21, ne31, ne32⟩ := HW0.out.ne
  go_upto_region 2 with (go_at_call 37; (with_reducible refine (HAT.out _ HW0.out.below).mono ?_); rintro e w1 ⟨rfl, hb1⟩; have HW1 := Lib.hid (HW0.out.later hb1); clear hb1)
  clear p0 p1 o0 o1 o2 o3 o4 o5 o6 f2 f3 f0 c20 c21 c30 c31 c32 HW0 HAT
  obtain ⟨p0, p1, o0, o1, o2, o3, o4, o5, o6, f2, f3, f0, c20, c21, c30, c31, c32⟩ := HW1.out.cells
  cases LB with
  | true =>
    have HRV2 := Lib.hid (show RV = vr0 from HRV.out)
    have HRE2 := Lib.hid (show RE = 7 from HRE.out)
    clear HRV HRE
    go_upto_region 5 with (go_at_call 14; (with_reducible refine (HLK.out _ HW1.out.below).mono ?_); rintro e w2 ⟨rfl, hb2⟩; have HW2 := Lib.hid (HW1.out.later hb2); clear hb2)
    clear p0 p1 o0 o1 o2 o3 o4 o5 o6 f2 f3 f0 c20 c21 c30 c31 c32
    obtain ⟨p0, p1, o0, o1, o2, o3, o4, o5, o6, f2, f3, f0, c20, c21, c30, c31, c32⟩ := HW2.out.cells
    go_wp2_with fail
    rw [HRV2.out, HRE2.out]
    exact do_fin HW2.out vr0 (by have := HFS.out _ HW2.out.below; rwa [HSV.out] at this) (HFP.out _ HW2.out.below) HNL.out (.inl rfl) (.inl rfl) rfl rfl rfl rfl
  | false =>
    have HRV2 := Lib.hid (show RV = if bk then ⟨vt, vg, vv⟩ else vr0 from HRV.out)
    have HRE2 := Lib.hid (show RE = if bk then 0 else 9 from HRE.out)
    clear HRV HRE
    go_upto_region 6 with (go_at_call 14; (with_reducible refine (HLK.out _ HW1.out.below).mono ?_); rintro e w2 ⟨rfl, hb2⟩; have HW2 := Lib.hid (HW1.out.later hb2); clear hb2)
    clear p0 p1 o0 o1 o2 o3 o4 o5 o6 f2 f3 f0 c20 c21 c30 c31 c32
    obtain ⟨p0, p1, o0, o1, o2, o3, o4, o5, o6, f2, f3, f0, c20, c21, c30, c31, c32⟩ := HW2.out.cells
    go_upto_region 7 with (go_at_call 38; (with_reducible refine (HBA.out _ HW2.out.below).mono ?_); rintro e w3 ⟨rfl, hb3⟩; have HW3 := Lib.hid (HW2.out.later hb3); clear hb3)
    clear p0 p1 o0 o1 o2 o3 o4 o5 o6 f2 f3 f0 c20 c21 c30 c31 c32
    have HW4 := Lib.hid (HW3.out.later ((Below.refl w3.heap.size w3).alloc (Nat.le_refl _) (.cells #[.int .u64 (vt : Int), .bool vg, .string vv] 42)))
    have hbox := heap_alloc_new w3 (.cells #[.int .u64 (vt : Int), .bool vg, .string vv] 42)
    have hlt3 : R3 < w3.heap.size := (Array.getElem?_eq_some_iff.1 HW3.out.r3).1
    have hR23 := HW3.out.old
    obtain ⟨g8, hg8⟩ : ∃ g8, g8 = w3.heap.size := ⟨_, rfl⟩
    have n1 : g8 ≠ R2 := by omega
    have n2 : R2 ≠ g8 := by omega
    have n3 : g8 ≠ R3 := by omega
    have n4 : R3 ≠ g8 := by omega
    clear hlt3 hR23
    obtain ⟨w4, hw4⟩ : ∃ w4, w4 = w3.alloc (.cells #[.int .u64 (vt : Int), .bool vg, .string vv] 42) := ⟨_, rfl⟩
    rw [← hg8] at hbox ⊢
    rw [← hw4] at HW4 hbox ⊢
    clear hg8 hw4 HW3 HW2 HW1
    obtain ⟨p0, p1, o0, o1, o2, o3, o4, o5, o6, f2, f3, f0, c20, c21, c30, c31, c32⟩ := HW4.out.cells
    have v0 : w4.cell? ⟨g8, 0, none⟩ = some (.int .u64 (vt : Int)) := by rw [cell_of_row _ _ _ _ _ _ hbox]; rfl
    have v1 : w4.cell? ⟨g8, 1, none⟩ = some (.bool vg) := by rw [cell_of_row _ _ _ _ _ _ hbox]; rfl
    have v2 : w4.cell? ⟨g8, 2, none⟩ = some (.string vv) := by rw [cell_of_row _ _ _ _ _ _ hbox]; rfl
    clear hbox
    cases bk with
    | false =>
      have HRV3 := Lib.hid (show RV = vr0 from HRV2.out)
      have HRE3 := Lib.hid (show RE = 9 from HRE2.out)
      clear HRV2 HRE2
      go_wp2_with fail
      rw [HRV3.out, HRE3.out]
      exact do_fin HW4.out vr0 (by have := HFS.out _ HW4.out.below; rwa [HSV.out] at this) (HFP.out _ HW4.out.below) HNL.out (.inl rfl) (.inl rfl) rfl rfl rfl rfl
    | true =>
      have HRV3 := Lib.hid (show RV = ⟨vt, vg, vv⟩ from HRV2.out)
      have HRE3 := Lib.hid (show RE = 0 from HRE2.out)
      clear HRV2 HRE2
      go_upto_region 9 with fail
      go_region_held3 (fun w' => w'.cell? ⟨H0, 0, none⟩ = some (.slice aS S.length cS) ∧ w'.cell? ⟨H0, 1, none⟩ = some (.slice a len cap) ∧ w'.cell? ⟨g8, 0, none⟩ = some (.int .u64 (vt : Int)) ∧ w'.cell? ⟨g8, 1, none⟩ = some (.bool vg) ∧ w'.cell? ⟨g8, 2, none⟩ = some (.string vv)) (go_keep) (fail)
      all_goals
        go_wp2_with fail
        rw [HRV3.out, HRE3.out]
        exact do_finD HW4.out ⟨vt, vg, vv⟩ (by have := HFS.out _ HW4.out.below; rwa [HSV.out] at this) (HFP.out _ HW4.out.below) HNL.out (.inl rfl) (.inl rfl) rfl rfl rfl rfl
end Go.Proofs.Ythcomfcbdlobpaa
