/-
  The program's readers: what each answers, and leaves.
-/
import Derived.Test.YtbhlgceicfjncaaSet38
namespace Go.Proofs.Ytbhlgceicfjncaa
open Go.RowKit
set_option linter.unusedVariables false
set_option linter.unnecessarySimpa false
set_option linter.unusedSimpArgs false
set_option maxRecDepth 100000
set_option linter.unusedSectionVars false

/-- Nothing that was there turns but blocks G and c. -/
structure Kept2 (G c : Nat) (w w' : World) : Prop where
  os : w'.os = w.os
  tape : w'.tape = w.tape
  output : w'.output = w.output
  size : w.heap.size ≤ w'.heap.size
  block : ∀ k, k < w.heap.size → k ≠ G → k ≠ c → w'.heap[k]? = w.heap[k]?
theorem Kept2.of_grown {G c : Nat} {w w' : World} (h : w.grownBy w' (some c)) : Kept2 G c w w' := ⟨h.os, h.tape, h.output, h.size, fun k hk _ hc => h.block k hk (fun e => hc (by injection e))⟩
theorem Kept2.set {G c k : Nat} {v : Value} {w w' : World} (h : Kept2 G c w w') : Kept2 G c w (w'.setCell ⟨G, k, none⟩ v) :=
  ⟨h.os, h.tape, h.output, by rw [show (w'.setCell ⟨G, k, none⟩ v).heap.size = w'.heap.size by simp [World.setCell]]; exact h.size, fun j hj hG hc => (Below.heap_setCell w' _ v j hG).trans (h.block j hj hG hc)⟩
theorem WsAt.stay {w w' : World} {sl : Value} {ws : List Wr} (h : WsAt w sl ws) (hs : w.heap.size ≤ w'.heap.size) (hb : ∀ k, sl.ownBlock = some k → k < w.heap.size → w'.heap[k]? = w.heap[k]?) : WsAt w' sl ws := by
  obtain ⟨a, len, cap, rfl, h2, h3⟩ := h
  refine ⟨a, len, cap, rfl, h2, fun i hi => ?_⟩
  obtain ⟨b, off, rfl, hlt, c0, c1, c2⟩ := h3 i hi
  have e := hb b rfl hlt
  exact ⟨b, off, rfl, Nat.lt_of_lt_of_le hlt hs, (cell_same e _).trans c0, (cell_same e _).trans c1, (cell_same e _).trans c2⟩

/-- What a reader of a field has, and what it leaves: whether the field is so, the message, the cursor. -/
def rdF (m : Mg) (r : ByteArray × Bool) : Nat → Bool × Mg × (ByteArray × Bool)
  | 1 => (((cInt r.1 r.2 : Nat) : Int) != 0, { m with frm := ((cInt r.1 r.2 : Nat) : Int) }, nxtM r)
  | 2 => (((cInt r.1 r.2 : Nat) : Int) != 0, { m with to_ := ((cInt r.1 r.2 : Nat) : Int) }, nxtM r)
  | 3 => (!(((cInt r.1 r.2 : Nat) : Int) == 0 && ((cInt (nxtM r).1 (nxtM r).2 : Nat) : Int) == 0 && ((cInt (nxtM (nxtM r)).1 (nxtM (nxtM r)).2 : Nat) : Int) == 0),
      { m with node := ((cInt r.1 r.2 : Nat) : Int), life := ((cInt (nxtM r).1 (nxtM r).2 : Nat) : Int), seq := ((cInt (nxtM (nxtM r)).1 (nxtM (nxtM r)).2 : Nat) : Int) }, nxtM (nxtM (nxtM r)))
  | 4 => (((cUint r.1 r.2).1 : Int) != 0, { m with a := (cUint r.1 r.2).1 }, nxtM r)
  | 5 => (((cUint r.1 r.2).1 : Int) != 0, { m with b := (cUint r.1 r.2).1 }, nxtM r)
  | 6 => (!(rst r).toList.isEmpty, { m with key := rst r }, rstT r)
  | 7 => (true, { m with found := true }, r)
  | 8 => (goneK (byt (nxtM r)) && !((cUint r.1 r.2).1 == 0 && !goneB (byt (nxtM r)) && (rst (bytT (nxtM r))).size == 0), { m with time := (cUint r.1 r.2).1, gone := goneB (byt (nxtM r)), val := rst (bytT (nxtM r)) }, rstT (bytT (nxtM r)))
  | 9 => ((cWr r).1 && decide (0 < (cWr r).2.1.length), { m with ws := (cWr r).2.1 }, (cWr r).2.2)
  | 10 => (!(rst r).toList.isEmpty, { m with note := rst r }, rstT r)
  | 11 => (((cUint r.1 r.2).1 : Int) != 0, { m with hint := (cUint r.1 r.2).1 }, nxtM r)
  | 12 => (((cUint r.1 r.2).1 : Int) != 0, { m with must := (cUint r.1 r.2).1 }, nxtM r)
  | _ => (false, m, r)
/-- A block that begins with a message's cells. -/
def rowE (E : Array Value × TypeId) (m : Mg) (sl : Value) : Obj := .cells (m.cells sl ++ E.1) E.2 (0, 0)
theorem setE {C D ext : Array Value} {k : Nat} {v : Value} (hk : k < C.size) (h : C.setIfInBounds k v = D) : (C ++ ext).setIfInBounds k v = D ++ ext := by
  rw [← h]
  apply Array.toList_inj.1
  rw [Array.toList_setIfInBounds, Array.toList_append, Array.toList_append, Array.toList_setIfInBounds, List.set_append_left _ _ (by simpa using hk)]
theorem heap_setE {w : World} {G k : Nat} {E : Array Value × TypeId} {C D : Array Value} {v : Value} (h : w.heap[G]? = some (.cells (C ++ E.1) E.2 (0, 0))) (hk : k < C.size) (hd : C.setIfInBounds k v = D) :
    (w.setCell ⟨G, k, none⟩ v).heap[G]? = some (.cells (D ++ E.1) E.2 (0, 0)) := by
  rw [heap_set h v, setE hk hd]
theorem cell_rowE {w : World} {G k : Nat} {E : Array Value × TypeId} {m : Mg} {sl v : Value} (h : w.heap[G]? = some (rowE E m sl)) (hc : (m.cells sl)[k]? = some v) : w.cell? ⟨G, k, none⟩ = some v := by
  unfold rowE at h
  simp only [World.cell?, h]
  have hk : k < (m.cells sl).size := (Array.getElem?_eq_some_iff.1 hc).1
  rw [Array.getElem?_append_left hk]
  exact hc
def RdOut (E : Array Value × TypeId) (G c : Nat) (R : Bool × Mg × (ByteArray × Bool)) (sl : Value) (w : World) (e : Ending) (w' : World) : Prop :=
  ∃ sl', e = .returned (.bool R.1) ∧ w'.heap[G]? = some (rowE E R.2.1 sl') ∧ WsAt w' sl' R.2.1.ws ∧ CurAt w' c R.2.2.1 R.2.2.2 ∧ Kept2 G c w w' ∧ (sl' = sl ∨ (∀ k, sl'.ownBlock = some k → w.heap.size ≤ k) ∧ SlFit sl') ∧ ∀ k, sl'.ownBlock = some k → k < w'.heap.size
/-- Where a reader begins. -/
structure RdIn (E : Array Value × TypeId) (G c : Nat) (m : Mg) (sl : Value) (r : ByteArray × Bool) (w : World) : Prop where
  row : w.heap[G]? = some (rowE E m sl)
  ws : WsAt w sl m.ws
  cur : CurAt w c r.1 r.2
  ne : G ≠ c
  far : sl.ownBlock ≠ some G
  off : sl.ownBlock ≠ some c
  bnd : ∀ k, sl.ownBlock = some k → k < w.heap.size
  size : r.1.size ≤ 1000000
section
variable {E : Array Value × TypeId} {G c : Nat} {m : Mg} {sl : Value} {r : ByteArray × Bool} {w : World}
theorem RdIn.lt (h : RdIn E G c m sl r w) : G < w.heap.size := (Array.getElem?_eq_some_iff.1 h.row).1
theorem RdIn.row1 (h : RdIn E G c m sl r w) {w1 : World} {r' : ByteArray × Bool} (ht : CurTo c r' w w1) : w1.heap[G]? = some (rowE E m sl) := grown_row ht.2 h.row h.ne
theorem cur_set {w1 : World} {r' : ByteArray × Bool} {k : Nat} {v : Value} (h : CurAt w1 c r'.1 r'.2) (hne : G ≠ c) : CurAt (w1.setCell ⟨G, k, none⟩ v) c r'.1 r'.2 := by
  unfold CurAt at h ⊢
  rw [Below.heap_setCell w1 _ v c (Ne.symm hne)]
  exact h
theorem RdIn.wsto (h : RdIn E G c m sl r w) {w' : World} (hk : Kept2 G c w w') : WsAt w' sl m.ws :=
  h.ws.stay hk.size fun k e hlt => hk.block k hlt (fun q => h.far (by rw [e, q])) (fun q => h.off (by rw [e, q]))
theorem RdIn.one (h : RdIn E G c m sl r w) {w1 : World} {r' : ByteArray × Bool} (ht : CurTo c r' w w1) {k : Nat} {v : Value} {m' : Mg} {b : Bool} (hm : (m.cells sl).setIfInBounds k v = m'.cells sl) (hws : m'.ws = m.ws) (hk17 : k < 17 := by decide) :
    RdOut E G c (b, m', r') sl w (.returned (.bool b)) (w1.setCell ⟨G, k, none⟩ v) := by
  have hk : Kept2 G c w (w1.setCell ⟨G, k, none⟩ v) := (Kept2.of_grown ht.2).set
  refine ⟨sl, rfl, ?_, ?_, cur_set ht.1 h.ne, hk, .inl rfl, fun k e => Nat.lt_of_lt_of_le (h.bnd k e) hk.size⟩
  · exact heap_setE (h.row1 ht) hk17 hm
  · show WsAt _ sl m'.ws
    rw [hws]; exact h.wsto hk
theorem RdIn.three (h : RdIn E G c m sl r w) {w1 : World} {r' : ByteArray × Bool} (ht : CurTo c r' w w1) {i j k : Nat} {x y z : Value} {m' : Mg} {b : Bool} (hm : (((m.cells sl).setIfInBounds i x).setIfInBounds j y).setIfInBounds k z = m'.cells sl) (hws : m'.ws = m.ws) (hi : i < 17 := by decide) (hj : j < 17 := by decide) (hkk : k < 17 := by decide) :
    RdOut E G c (b, m', r') sl w (.returned (.bool b)) (((w1.setCell ⟨G, i, none⟩ x).setCell ⟨G, j, none⟩ y).setCell ⟨G, k, none⟩ z) := by
  have hk : Kept2 G c w (((w1.setCell ⟨G, i, none⟩ x).setCell ⟨G, j, none⟩ y).setCell ⟨G, k, none⟩ z) := (Kept2.of_grown ht.2).set.set.set
  refine ⟨sl, rfl, ?_, ?_, cur_set (cur_set (cur_set ht.1 h.ne) h.ne) h.ne, hk, .inl rfl, fun k e => Nat.lt_of_lt_of_le (h.bnd k e) hk.size⟩
  · exact heap_setE (heap_setE (heap_setE (h.row1 ht) hi rfl) (by rw [Array.size_setIfInBounds]; exact hj) rfl) (by rw [Array.size_setIfInBounds, Array.size_setIfInBounds]; exact hkk) hm
  · show WsAt _ sl m'.ws
    rw [hws]; exact h.wsto hk
theorem RdIn.ws9 (h : RdIn E G c m sl r w) {w1 : World} {r' : ByteArray × Bool} (ht : CurTo c r' w w1) {sl' : Value} {l : List Wr} {b : Bool} (hl : WsAt w1 sl' l) (hf : (∀ k, sl'.ownBlock = some k → w.heap.size ≤ k ∧ k < w1.heap.size) ∧ SlFit sl') :
    RdOut E G c (b, { m with ws := l }, r') sl w (.returned (.bool b)) (w1.setCell ⟨G, 13, none⟩ sl') := by
  have hk : Kept2 G c w (w1.setCell ⟨G, 13, none⟩ sl') := (Kept2.of_grown ht.2).set
  refine ⟨sl', rfl, ?_, ?_, cur_set ht.1 h.ne, hk, .inr ⟨fun k e => (hf.1 k e).1, hf.2⟩, fun k e => by rw [show (w1.setCell ⟨G, 13, none⟩ sl').heap.size = w1.heap.size by simp [World.setCell]]; exact (hf.1 k e).2⟩
  · exact heap_setE (D := ({ m with ws := l } : Mg).cells sl') (h.row1 ht) (show 13 < 17 by decide) rfl
  · show WsAt _ sl' l
    have := h.lt
    exact hl.stay (by rw [show (w1.setCell ⟨G, 13, none⟩ sl').heap.size = w1.heap.size by simp [World.setCell]]; exact Nat.le_refl _) (fun k e _ => Below.heap_setCell w1 _ sl' k (fun q => by have := (hf.1 k e).1; simp only at q; omega))
end
theorem free_row {w : World} {g k : Nat} {E : Array Value × TypeId} {m : Mg} {sl : Value} (h : w.heap[g]? = some (rowE E m sl)) : w.frozen? ⟨g, k, none⟩ = false := by unfold rowE at h; simp [World.frozen?, h]

set_option maxHeartbeats 2000000 in
theorem rd_1 (E : Array Value × TypeId) (G c : Nat) (m : Mg) (sl : Value) (r : ByteArray × Bool) (w : World) (h : RdIn E G c m sl r w) :
    Calls Try.prog 79 #[.pointer (some ⟨G, 0, none⟩), .pointer (some ⟨c, 0, none⟩)] w (RdOut E G c (rdF m r 1) sl w) := by
  have HT : Calls Try.prog 61 #[.pointer (some ⟨c, 0, none⟩)] w fun e w' => e = .returned (.int .i64 ((cInt r.1 r.2 : Nat) : Int)) ∧ CurTo c (nxtM r) w w' := takeInt_any c r.1 r.2 h.size w h.cur
  have H := Lib.hid h
  have hR : rdF m r 1 = ((((cInt r.1 r.2 : Nat) : Int) != 0), { m with frm := ((cInt r.1 r.2 : Nat) : Int) }, nxtM r) := rfl
  rw [hR]
  obtain ⟨x, hx⟩ : ∃ x, x = cInt r.1 r.2 := ⟨_, rfl⟩
  rw [← hx] at HT ⊢
  have HT := Lib.hid HT
  clear hR hx h
  go_enter Try.func79, Try.ntmps79
  go_wp2_with (go_at_call 61; refine HT.out.mono ?_; rintro e w1 ⟨rfl, ht⟩; have hr1 := H.out.row1 ht; have c1 : w1.cell? ⟨G, 1, none⟩ = some (.int .i64 m.frm) := cell_rowE hr1 rfl; have f1 : w1.frozen? ⟨G, 1, none⟩ = false := free_row hr1; have HT1 := Lib.hid ht; clear hr1 ht)
  go_ret
  exact H.out.one HT1.out rfl rfl

set_option maxHeartbeats 2000000 in
theorem rd_2 (E : Array Value × TypeId) (G c : Nat) (m : Mg) (sl : Value) (r : ByteArray × Bool) (w : World) (h : RdIn E G c m sl r w) :
    Calls Try.prog 80 #[.pointer (some ⟨G, 0, none⟩), .pointer (some ⟨c, 0, none⟩)] w (RdOut E G c (rdF m r 2) sl w) := by
  have HT : Calls Try.prog 61 #[.pointer (some ⟨c, 0, none⟩)] w fun e w' => e = .returned (.int .i64 ((cInt r.1 r.2 : Nat) : Int)) ∧ CurTo c (nxtM r) w w' := takeInt_any c r.1 r.2 h.size w h.cur
  have H := Lib.hid h
  have hR : rdF m r 2 = ((((cInt r.1 r.2 : Nat) : Int) != 0), { m with to_ := ((cInt r.1 r.2 : Nat) : Int) }, nxtM r) := rfl
  rw [hR]
  obtain ⟨x, hx⟩ : ∃ x, x = cInt r.1 r.2 := ⟨_, rfl⟩
  rw [← hx] at HT ⊢
  have HT := Lib.hid HT
  clear hR hx h
  go_enter Try.func80, Try.ntmps80
  go_wp2_with (go_at_call 61; refine HT.out.mono ?_; rintro e w1 ⟨rfl, ht⟩; have hr1 := H.out.row1 ht; have c1 : w1.cell? ⟨G, 2, none⟩ = some (.int .i64 m.to_) := cell_rowE hr1 rfl; have f1 : w1.frozen? ⟨G, 2, none⟩ = false := free_row hr1; have HT1 := Lib.hid ht; clear hr1 ht)
  go_ret
  exact H.out.one HT1.out rfl rfl

set_option maxHeartbeats 2000000 in
theorem rd_4 (E : Array Value × TypeId) (G c : Nat) (m : Mg) (sl : Value) (r : ByteArray × Bool) (w : World) (h : RdIn E G c m sl r w) :
    Calls Try.prog 83 #[.pointer (some ⟨G, 0, none⟩), .pointer (some ⟨c, 0, none⟩)] w (RdOut E G c (rdF m r 4) sl w) := by
  have HT : Calls Try.prog 64 #[.pointer (some ⟨c, 0, none⟩)] w fun e w' => e = .returned (.int .u64 (((cUint r.1 r.2).1 : Nat) : Int)) ∧ CurTo c (nxtM r) w w' := cur_uint c r.1 r.2 w (maxOK c r.1 r.2 h.size w h.cur) h.cur
  have H := Lib.hid h
  have hR : rdF m r 4 = ((((cUint r.1 r.2).1 : Int) != 0), { m with a := (cUint r.1 r.2).1 }, nxtM r) := rfl
  rw [hR]
  obtain ⟨x, hx⟩ : ∃ x, x = (cUint r.1 r.2).1 := ⟨_, rfl⟩
  rw [← hx] at HT ⊢
  have HT := Lib.hid HT
  clear hR hx h
  go_enter Try.func83, Try.ntmps83
  go_wp2_with (go_at_call 64; refine HT.out.mono ?_; rintro e w1 ⟨rfl, ht⟩; have hr1 := H.out.row1 ht; have c1 : w1.cell? ⟨G, 6, none⟩ = some (.int .u64 m.a) := cell_rowE hr1 rfl; have f1 : w1.frozen? ⟨G, 6, none⟩ = false := free_row hr1; have HT1 := Lib.hid ht; clear hr1 ht)
  go_ret
  exact H.out.one HT1.out rfl rfl

set_option maxHeartbeats 2000000 in
theorem rd_5 (E : Array Value × TypeId) (G c : Nat) (m : Mg) (sl : Value) (r : ByteArray × Bool) (w : World) (h : RdIn E G c m sl r w) :
    Calls Try.prog 84 #[.pointer (some ⟨G, 0, none⟩), .pointer (some ⟨c, 0, none⟩)] w (RdOut E G c (rdF m r 5) sl w) := by
  have HT : Calls Try.prog 64 #[.pointer (some ⟨c, 0, none⟩)] w fun e w' => e = .returned (.int .u64 (((cUint r.1 r.2).1 : Nat) : Int)) ∧ CurTo c (nxtM r) w w' := cur_uint c r.1 r.2 w (maxOK c r.1 r.2 h.size w h.cur) h.cur
  have H := Lib.hid h
  have hR : rdF m r 5 = ((((cUint r.1 r.2).1 : Int) != 0), { m with b := (cUint r.1 r.2).1 }, nxtM r) := rfl
  rw [hR]
  obtain ⟨x, hx⟩ : ∃ x, x = (cUint r.1 r.2).1 := ⟨_, rfl⟩
  rw [← hx] at HT ⊢
  have HT := Lib.hid HT
  clear hR hx h
  go_enter Try.func84, Try.ntmps84
  go_wp2_with (go_at_call 64; refine HT.out.mono ?_; rintro e w1 ⟨rfl, ht⟩; have hr1 := H.out.row1 ht; have c1 : w1.cell? ⟨G, 7, none⟩ = some (.int .u64 m.b) := cell_rowE hr1 rfl; have f1 : w1.frozen? ⟨G, 7, none⟩ = false := free_row hr1; have HT1 := Lib.hid ht; clear hr1 ht)
  go_ret
  exact H.out.one HT1.out rfl rfl

set_option maxHeartbeats 2000000 in
theorem rd_11 (E : Array Value × TypeId) (G c : Nat) (m : Mg) (sl : Value) (r : ByteArray × Bool) (w : World) (h : RdIn E G c m sl r w) :
    Calls Try.prog 93 #[.pointer (some ⟨G, 0, none⟩), .pointer (some ⟨c, 0, none⟩)] w (RdOut E G c (rdF m r 11) sl w) := by
  have HT : Calls Try.prog 64 #[.pointer (some ⟨c, 0, none⟩)] w fun e w' => e = .returned (.int .u64 (((cUint r.1 r.2).1 : Nat) : Int)) ∧ CurTo c (nxtM r) w w' := cur_uint c r.1 r.2 w (maxOK c r.1 r.2 h.size w h.cur) h.cur
  have H := Lib.hid h
  have hR : rdF m r 11 = ((((cUint r.1 r.2).1 : Int) != 0), { m with hint := (cUint r.1 r.2).1 }, nxtM r) := rfl
  rw [hR]
  obtain ⟨x, hx⟩ : ∃ x, x = (cUint r.1 r.2).1 := ⟨_, rfl⟩
  rw [← hx] at HT ⊢
  have HT := Lib.hid HT
  clear hR hx h
  go_enter Try.func93, Try.ntmps93
  go_wp2_with (go_at_call 64; refine HT.out.mono ?_; rintro e w1 ⟨rfl, ht⟩; have hr1 := H.out.row1 ht; have c1 : w1.cell? ⟨G, 15, none⟩ = some (.int .u64 m.hint) := cell_rowE hr1 rfl; have f1 : w1.frozen? ⟨G, 15, none⟩ = false := free_row hr1; have HT1 := Lib.hid ht; clear hr1 ht)
  go_ret
  exact H.out.one HT1.out rfl rfl

set_option maxHeartbeats 2000000 in
theorem rd_12 (E : Array Value × TypeId) (G c : Nat) (m : Mg) (sl : Value) (r : ByteArray × Bool) (w : World) (h : RdIn E G c m sl r w) :
    Calls Try.prog 94 #[.pointer (some ⟨G, 0, none⟩), .pointer (some ⟨c, 0, none⟩)] w (RdOut E G c (rdF m r 12) sl w) := by
  have HT : Calls Try.prog 64 #[.pointer (some ⟨c, 0, none⟩)] w fun e w' => e = .returned (.int .u64 (((cUint r.1 r.2).1 : Nat) : Int)) ∧ CurTo c (nxtM r) w w' := cur_uint c r.1 r.2 w (maxOK c r.1 r.2 h.size w h.cur) h.cur
  have H := Lib.hid h
  have hR : rdF m r 12 = ((((cUint r.1 r.2).1 : Int) != 0), { m with must := (cUint r.1 r.2).1 }, nxtM r) := rfl
  rw [hR]
  obtain ⟨x, hx⟩ : ∃ x, x = (cUint r.1 r.2).1 := ⟨_, rfl⟩
  rw [← hx] at HT ⊢
  have HT := Lib.hid HT
  clear hR hx h
  go_enter Try.func94, Try.ntmps94
  go_wp2_with (go_at_call 64; refine HT.out.mono ?_; rintro e w1 ⟨rfl, ht⟩; have hr1 := H.out.row1 ht; have c1 : w1.cell? ⟨G, 16, none⟩ = some (.int .u64 m.must) := cell_rowE hr1 rfl; have f1 : w1.frozen? ⟨G, 16, none⟩ = false := free_row hr1; have HT1 := Lib.hid ht; clear hr1 ht)
  go_ret
  exact H.out.one HT1.out rfl rfl

set_option maxHeartbeats 2000000 in
theorem rd_6 (E : Array Value × TypeId) (G c : Nat) (m : Mg) (sl : Value) (r : ByteArray × Bool) (w : World) (h : RdIn E G c m sl r w) :
    Calls Try.prog 85 #[.pointer (some ⟨G, 0, none⟩), .pointer (some ⟨c, 0, none⟩)] w (RdOut E G c (rdF m r 6) sl w) := by
  have HT : Calls Try.prog 86 #[.pointer (some ⟨c, 0, none⟩)] w fun e w' => e = .returned (.string (rst r)) ∧ CurTo c (rstT r) w w' := takeRest_any c r.1 r.2 h.size w h.cur
  have H := Lib.hid h
  have hR : rdF m r 6 = ((!(rst r).toList.isEmpty), { m with key := rst r }, rstT r) := rfl
  rw [hR]
  obtain ⟨x, hx⟩ : ∃ x, x = rst r := ⟨_, rfl⟩
  rw [← hx] at HT ⊢
  have HT := Lib.hid HT
  clear hR hx h
  go_enter Try.func85, Try.ntmps85
  go_wp2_with (go_at_call 86; refine HT.out.mono ?_; rintro e w1 ⟨rfl, ht⟩; have hr1 := H.out.row1 ht; have c1 : w1.cell? ⟨G, 8, none⟩ = some (.string m.key) := cell_rowE hr1 rfl; have f1 : w1.frozen? ⟨G, 8, none⟩ = false := free_row hr1; have HT1 := Lib.hid ht; clear hr1 ht)
  go_ret
  exact H.out.one HT1.out rfl rfl

set_option maxHeartbeats 2000000 in
theorem rd_10 (E : Array Value × TypeId) (G c : Nat) (m : Mg) (sl : Value) (r : ByteArray × Bool) (w : World) (h : RdIn E G c m sl r w) :
    Calls Try.prog 92 #[.pointer (some ⟨G, 0, none⟩), .pointer (some ⟨c, 0, none⟩)] w (RdOut E G c (rdF m r 10) sl w) := by
  have HT : Calls Try.prog 86 #[.pointer (some ⟨c, 0, none⟩)] w fun e w' => e = .returned (.string (rst r)) ∧ CurTo c (rstT r) w w' := takeRest_any c r.1 r.2 h.size w h.cur
  have H := Lib.hid h
  have hR : rdF m r 10 = ((!(rst r).toList.isEmpty), { m with note := rst r }, rstT r) := rfl
  rw [hR]
  obtain ⟨x, hx⟩ : ∃ x, x = rst r := ⟨_, rfl⟩
  rw [← hx] at HT ⊢
  have HT := Lib.hid HT
  clear hR hx h
  go_enter Try.func92, Try.ntmps92
  go_wp2_with (go_at_call 86; refine HT.out.mono ?_; rintro e w1 ⟨rfl, ht⟩; have hr1 := H.out.row1 ht; have c1 : w1.cell? ⟨G, 14, none⟩ = some (.string m.note) := cell_rowE hr1 rfl; have f1 : w1.frozen? ⟨G, 14, none⟩ = false := free_row hr1; have HT1 := Lib.hid ht; clear hr1 ht)
  go_ret
  exact H.out.one HT1.out rfl rfl

set_option maxHeartbeats 2000000 in
theorem rd_7 (E : Array Value × TypeId) (G c : Nat) (m : Mg) (sl : Value) (r : ByteArray × Bool) (w : World) (h : RdIn E G c m sl r w) :
    Calls Try.prog 87 #[.pointer (some ⟨G, 0, none⟩), .pointer (some ⟨c, 0, none⟩)] w (RdOut E G c (rdF m r 7) sl w) := by
  have H := Lib.hid h
  have hr1 := h.row
  have c1 : w.cell? ⟨G, 9, none⟩ = some (.bool m.found) := cell_rowE hr1 rfl
  have f1 : w.frozen? ⟨G, 9, none⟩ = false := free_row hr1
  have HT1 := Lib.hid (show CurTo c r w w from ⟨h.cur, grownBy_refl _ _⟩)
  clear h hr1
  go_enter Try.func87, Try.ntmps87
  go_wp2_with fail
  go_ret
  exact H.out.one HT1.out rfl rfl

set_option maxHeartbeats 2000000 in
theorem rd_3 (E : Array Value × TypeId) (G c : Nat) (m : Mg) (sl : Value) (r : ByteArray × Bool) (w : World) (h : RdIn E G c m sl r w) :
    Calls Try.prog 81 #[.pointer (some ⟨G, 0, none⟩), .pointer (some ⟨c, 0, none⟩)] w (RdOut E G c (rdF m r 3) sl w) := by
  have HT := takeTxn_any c r h.size w h.cur
  have H := Lib.hid h
  have hR : rdF m r 3 = (!(((cInt r.1 r.2 : Nat) : Int) == 0 && ((cInt (nxtM r).1 (nxtM r).2 : Nat) : Int) == 0 && ((cInt (nxtM (nxtM r)).1 (nxtM (nxtM r)).2 : Nat) : Int) == 0),
      { m with node := ((cInt r.1 r.2 : Nat) : Int), life := ((cInt (nxtM r).1 (nxtM r).2 : Nat) : Int), seq := ((cInt (nxtM (nxtM r)).1 (nxtM (nxtM r)).2 : Nat) : Int) }, nxtM (nxtM (nxtM r))) := rfl
  rw [hR]
  obtain ⟨x, hx⟩ : ∃ x : Int, x = (cInt r.1 r.2 : Nat) := ⟨_, rfl⟩
  obtain ⟨y, hy⟩ : ∃ y : Int, y = (cInt (nxtM r).1 (nxtM r).2 : Nat) := ⟨_, rfl⟩
  obtain ⟨z, hz⟩ : ∃ z : Int, z = (cInt (nxtM (nxtM r)).1 (nxtM (nxtM r)).2 : Nat) := ⟨_, rfl⟩
  rw [← hx, ← hy, ← hz] at HT ⊢
  have HT := Lib.hid HT
  clear hR hx hy hz h
  have hcase : x ≠ 0 ∨ (x = 0 ∧ y ≠ 0) ∨ (x = 0 ∧ y = 0 ∧ z ≠ 0) ∨ (x = 0 ∧ y = 0 ∧ z = 0) := by omega
  rcases hcase with h1 | ⟨rfl, h1⟩ | ⟨rfl, rfl, h1⟩ | ⟨rfl, rfl, rfl⟩
  · rw [show (!(x == 0 && y == 0 && z == 0)) = true by simp [h1]]
    go_enter Try.func81, Try.ntmps81
    go_wp2_with (go_at_call 82; refine HT.out.mono ?_; rintro e w1 ⟨rfl, ht⟩; have hr1 := H.out.row1 ht; have c3 : w1.cell? ⟨G, 3, none⟩ = some (.int .i64 m.node) := cell_rowE hr1 rfl; have c4 : w1.cell? ⟨G, 4, none⟩ = some (.int .i64 m.life) := cell_rowE hr1 rfl; have c5 : w1.cell? ⟨G, 5, none⟩ = some (.int .i64 m.seq) := cell_rowE hr1 rfl; have f3 : w1.frozen? ⟨G, 3, none⟩ = false := free_row hr1; have f4 : w1.frozen? ⟨G, 4, none⟩ = false := free_row hr1; have f5 : w1.frozen? ⟨G, 5, none⟩ = false := free_row hr1; have HT1 := Lib.hid ht; clear hr1 ht)
    go_ret
    exact H.out.three (m' := { m with node := x, life := y, seq := z }) HT1.out rfl rfl
  · rw [show (!((0 : Int) == 0 && y == 0 && z == 0)) = true by simp [h1]]
    go_enter Try.func81, Try.ntmps81
    go_wp2_with (go_at_call 82; refine HT.out.mono ?_; rintro e w1 ⟨rfl, ht⟩; have hr1 := H.out.row1 ht; have c3 : w1.cell? ⟨G, 3, none⟩ = some (.int .i64 m.node) := cell_rowE hr1 rfl; have c4 : w1.cell? ⟨G, 4, none⟩ = some (.int .i64 m.life) := cell_rowE hr1 rfl; have c5 : w1.cell? ⟨G, 5, none⟩ = some (.int .i64 m.seq) := cell_rowE hr1 rfl; have f3 : w1.frozen? ⟨G, 3, none⟩ = false := free_row hr1; have f4 : w1.frozen? ⟨G, 4, none⟩ = false := free_row hr1; have f5 : w1.frozen? ⟨G, 5, none⟩ = false := free_row hr1; have HT1 := Lib.hid ht; clear hr1 ht)
    go_ret
    exact H.out.three (m' := { m with node := 0, life := y, seq := z }) HT1.out rfl rfl
  · rw [show (!((0 : Int) == 0 && (0 : Int) == 0 && z == 0)) = true by simp [h1]]
    go_enter Try.func81, Try.ntmps81
    go_wp2_with (go_at_call 82; refine HT.out.mono ?_; rintro e w1 ⟨rfl, ht⟩; have hr1 := H.out.row1 ht; have c3 : w1.cell? ⟨G, 3, none⟩ = some (.int .i64 m.node) := cell_rowE hr1 rfl; have c4 : w1.cell? ⟨G, 4, none⟩ = some (.int .i64 m.life) := cell_rowE hr1 rfl; have c5 : w1.cell? ⟨G, 5, none⟩ = some (.int .i64 m.seq) := cell_rowE hr1 rfl; have f3 : w1.frozen? ⟨G, 3, none⟩ = false := free_row hr1; have f4 : w1.frozen? ⟨G, 4, none⟩ = false := free_row hr1; have f5 : w1.frozen? ⟨G, 5, none⟩ = false := free_row hr1; have HT1 := Lib.hid ht; clear hr1 ht)
    go_ret
    exact H.out.three (m' := { m with node := 0, life := 0, seq := z }) HT1.out rfl rfl
  · rw [show (!((0 : Int) == 0 && (0 : Int) == 0 && (0 : Int) == 0)) = false from rfl]
    go_enter Try.func81, Try.ntmps81
    go_wp2_with (go_at_call 82; refine HT.out.mono ?_; rintro e w1 ⟨rfl, ht⟩; have hr1 := H.out.row1 ht; have c3 : w1.cell? ⟨G, 3, none⟩ = some (.int .i64 m.node) := cell_rowE hr1 rfl; have c4 : w1.cell? ⟨G, 4, none⟩ = some (.int .i64 m.life) := cell_rowE hr1 rfl; have c5 : w1.cell? ⟨G, 5, none⟩ = some (.int .i64 m.seq) := cell_rowE hr1 rfl; have f3 : w1.frozen? ⟨G, 3, none⟩ = false := free_row hr1; have f4 : w1.frozen? ⟨G, 4, none⟩ = false := free_row hr1; have f5 : w1.frozen? ⟨G, 5, none⟩ = false := free_row hr1; have HT1 := Lib.hid ht; clear hr1 ht)
    go_ret
    exact H.out.three (m' := { m with node := 0, life := 0, seq := 0 }) HT1.out rfl rfl

set_option maxHeartbeats 4000000 in
theorem rd_9 (E : Array Value × TypeId) (G c : Nat) (m : Mg) (sl : Value) (r : ByteArray × Bool) (w : World) (h : RdIn E G c m sl r w) :
    Calls Try.prog 90 #[.pointer (some ⟨G, 0, none⟩), .pointer (some ⟨c, 0, none⟩)] w (RdOut E G c (rdF m r 9) sl w) := by
  have HT := takeWrites_any c r h.size w h.cur
  have H := Lib.hid h
  have hR : rdF m r 9 = ((cWr r).1 && decide (0 < (cWr r).2.1.length), { m with ws := (cWr r).2.1 }, (cWr r).2.2) := rfl
  rw [hR]
  obtain ⟨F, hF⟩ : ∃ F, F = cWr r := ⟨_, rfl⟩
  rw [← hF] at HT ⊢
  obtain ⟨ok, l, r'⟩ := F
  unfold TwOut at HT
  simp only at HT ⊢
  have HT := Lib.hid HT
  clear hR hF h
  cases ok with
  | false =>
    rw [Bool.false_and]
    go_enter Try.func90, Try.ntmps90
    go_wp2_with (go_at_call 91; refine HT.out.mono ?_; rintro e w1 ⟨sl', rfl, hws, ht, hfr⟩; have hr1 := H.out.row1 ht; have c13 : w1.cell? ⟨G, 13, none⟩ = some sl := cell_rowE hr1 rfl; have f13 : w1.frozen? ⟨G, 13, none⟩ = false := free_row hr1; have HT1 := Lib.hid ht; have HW := Lib.hid hws; have HF := Lib.hid hfr; obtain ⟨a', len', cap', rfl, hlen', _⟩ := hws; clear hr1 ht hfr)
    go_ret
    exact H.out.ws9 HT1.out HW.out HF.out
  | true =>
    rw [Bool.true_and]
    go_enter Try.func90, Try.ntmps90
    go_wp2_with (go_at_call 91; refine HT.out.mono ?_; rintro e w1 ⟨sl', rfl, hws, ht, hfr⟩; have hr1 := H.out.row1 ht; have c13 : w1.cell? ⟨G, 13, none⟩ = some sl := cell_rowE hr1 rfl; have f13 : w1.frozen? ⟨G, 13, none⟩ = false := free_row hr1; have HT1 := Lib.hid ht; have HW := Lib.hid hws; have HF := Lib.hid hfr; obtain ⟨a', len', cap', rfl, hlen', _⟩ := hws; have HLE := Lib.hid hlen'; clear hr1 ht hfr hlen')
    go_ret
    have e : decide (0 < len') = decide (0 < l.length) := by rw [HLE.out]
    rw [← e]
    exact H.out.ws9 HT1.out HW.out HF.out

theorem RdOut.alloc {E : Array Value × TypeId} {G c : Nat} {R : Bool × Mg × (ByteArray × Bool)} {sl : Value} {w w' : World} {e : Ending} (o : Obj) (h : RdOut E G c R sl w e w') : RdOut E G c R sl w e (w'.alloc o) := by
  obtain ⟨sl', h1, h2, h3, h4, h5, h6⟩ := h
  have hb : Below w'.heap.size w' (w'.alloc o) := (Below.refl _ _).alloc (Nat.le_refl _) o
  refine ⟨sl', h1, (hb.block G (Array.getElem?_eq_some_iff.1 h2).1).trans h2, h3.below hb, h4.kept hb h4.lt, ?_, h6.1, fun k e => Nat.lt_of_lt_of_le (h6.2 k e) hb.size⟩
  exact ⟨hb.os.trans h5.os, hb.tape.trans h5.tape, hb.output.trans h5.output, Nat.le_trans h5.size hb.size, fun k hk hG hc => (hb.block k (Nat.lt_of_lt_of_le hk h5.size)).trans (h5.block k hk hG hc)⟩

set_option maxHeartbeats 4000000 in
theorem rd_8 (E : Array Value × TypeId) (G c : Nat) (m : Mg) (sl : Value) (r : ByteArray × Bool) (w : World) (h : RdIn E G c m sl r w) :
    Calls Try.prog 88 #[.pointer (some ⟨G, 0, none⟩), .pointer (some ⟨c, 0, none⟩)] w (RdOut E G c (rdF m r 8) sl w) := by
  have HT := takeVersion_any c r h.size w h.cur
  have H := Lib.hid h
  have hR : rdF m r 8 = (goneK (byt (nxtM r)) && !((cUint r.1 r.2).1 == 0 && !goneB (byt (nxtM r)) && (rst (bytT (nxtM r))).size == 0), { m with time := (cUint r.1 r.2).1, gone := goneB (byt (nxtM r)), val := rst (bytT (nxtM r)) }, rstT (bytT (nxtM r))) := rfl
  rw [hR]
  obtain ⟨n, hn⟩ : ∃ n, n = (cUint r.1 r.2).1 := ⟨_, rfl⟩
  obtain ⟨gb, hg⟩ : ∃ gb, gb = goneB (byt (nxtM r)) := ⟨_, rfl⟩
  obtain ⟨gk, hk⟩ : ∃ gk, gk = goneK (byt (nxtM r)) := ⟨_, rfl⟩
  obtain ⟨v, hv⟩ : ∃ v, v = rst (bytT (nxtM r)) := ⟨_, rfl⟩
  rw [← hn, ← hg, ← hk, ← hv] at HT ⊢
  have HT := Lib.hid HT
  clear hR hn hg hk hv h
  cases gk with
  | false =>
    rw [Bool.false_and]
    go_enter Try.func88, Try.ntmps88
    go_wp2_with (go_at_call 89; refine HT.out.mono ?_; rintro e w1 ⟨rfl, ht⟩; have hr1 := H.out.row1 ht; have c10 : w1.cell? ⟨G, 10, none⟩ = some (.int .u64 m.time) := cell_rowE hr1 rfl; have c11 : w1.cell? ⟨G, 11, none⟩ = some (.bool m.gone) := cell_rowE hr1 rfl; have c12 : w1.cell? ⟨G, 12, none⟩ = some (.string m.val) := cell_rowE hr1 rfl; have f10 : w1.frozen? ⟨G, 10, none⟩ = false := free_row hr1; have f11 : w1.frozen? ⟨G, 11, none⟩ = false := free_row hr1; have f12 : w1.frozen? ⟨G, 12, none⟩ = false := free_row hr1; have hgz : G < w1.heap.size := (Array.getElem?_eq_some_iff.1 hr1).1; have HT1 := Lib.hid ht; clear hr1 ht)
    go_ret
    exact (H.out.three (m' := { m with time := n, gone := gb, val := v }) HT1.out rfl rfl).alloc _
  | true =>
    rw [Bool.true_and]
    by_cases hn0 : n = 0
    · subst hn0
      cases gb with
      | true =>
        rw [show (!((0 : Nat) == 0 && !true && v.size == 0)) = true from rfl]
        go_enter Try.func88, Try.ntmps88
        go_wp2_with (go_at_call 89; refine HT.out.mono ?_; rintro e w1 ⟨rfl, ht⟩; have hr1 := H.out.row1 ht; have c10 : w1.cell? ⟨G, 10, none⟩ = some (.int .u64 m.time) := cell_rowE hr1 rfl; have c11 : w1.cell? ⟨G, 11, none⟩ = some (.bool m.gone) := cell_rowE hr1 rfl; have c12 : w1.cell? ⟨G, 12, none⟩ = some (.string m.val) := cell_rowE hr1 rfl; have f10 : w1.frozen? ⟨G, 10, none⟩ = false := free_row hr1; have f11 : w1.frozen? ⟨G, 11, none⟩ = false := free_row hr1; have f12 : w1.frozen? ⟨G, 12, none⟩ = false := free_row hr1; have hgz : G < w1.heap.size := (Array.getElem?_eq_some_iff.1 hr1).1; have HT1 := Lib.hid ht; clear hr1 ht)
        go_ret
        exact (H.out.three (m' := { m with time := 0, gone := true, val := v }) HT1.out rfl rfl).alloc _
      | false =>
        by_cases hv0 : v.size = 0
        · have e1 := str_empty hv0
          have e2 := str_list hv0
          rw [show (!((0 : Nat) == 0 && !false && v.size == 0)) = false by simp [hv0]]
          clear hv0
          go_enter Try.func88, Try.ntmps88
          go_wp2_with (go_at_call 89; refine HT.out.mono ?_; rintro e w1 ⟨rfl, ht⟩; have hr1 := H.out.row1 ht; have c10 : w1.cell? ⟨G, 10, none⟩ = some (.int .u64 m.time) := cell_rowE hr1 rfl; have c11 : w1.cell? ⟨G, 11, none⟩ = some (.bool m.gone) := cell_rowE hr1 rfl; have c12 : w1.cell? ⟨G, 12, none⟩ = some (.string m.val) := cell_rowE hr1 rfl; have f10 : w1.frozen? ⟨G, 10, none⟩ = false := free_row hr1; have f11 : w1.frozen? ⟨G, 11, none⟩ = false := free_row hr1; have f12 : w1.frozen? ⟨G, 12, none⟩ = false := free_row hr1; have hgz : G < w1.heap.size := (Array.getElem?_eq_some_iff.1 hr1).1; have HT1 := Lib.hid ht; clear hr1 ht)
          go_ret
          exact (H.out.three (m' := { m with time := 0, gone := false, val := v }) HT1.out rfl rfl).alloc _
        · have e1 := str_full hv0
          have e2 : ¬ v.toList = [] := by simpa using e1
          rw [show (!((0 : Nat) == 0 && !false && v.size == 0)) = true by simp [hv0]]
          clear hv0
          go_enter Try.func88, Try.ntmps88
          go_wp2_with (go_at_call 89; refine HT.out.mono ?_; rintro e w1 ⟨rfl, ht⟩; have hr1 := H.out.row1 ht; have c10 : w1.cell? ⟨G, 10, none⟩ = some (.int .u64 m.time) := cell_rowE hr1 rfl; have c11 : w1.cell? ⟨G, 11, none⟩ = some (.bool m.gone) := cell_rowE hr1 rfl; have c12 : w1.cell? ⟨G, 12, none⟩ = some (.string m.val) := cell_rowE hr1 rfl; have f10 : w1.frozen? ⟨G, 10, none⟩ = false := free_row hr1; have f11 : w1.frozen? ⟨G, 11, none⟩ = false := free_row hr1; have f12 : w1.frozen? ⟨G, 12, none⟩ = false := free_row hr1; have hgz : G < w1.heap.size := (Array.getElem?_eq_some_iff.1 hr1).1; have HT1 := Lib.hid ht; clear hr1 ht)
          go_ret
          exact (H.out.three (m' := { m with time := 0, gone := false, val := v }) HT1.out rfl rfl).alloc _
    · have hnz : ¬ ((n : Int) = 0) := by omega
      have hnb : ((n : Int) == 0) = false := by rw [beq_eq_false_iff_ne]; exact hnz
      rw [show (!(n == 0 && !gb && v.size == 0)) = true by simp [hn0]]
      go_enter Try.func88, Try.ntmps88
      go_wp2_with (go_at_call 89; refine HT.out.mono ?_; rintro e w1 ⟨rfl, ht⟩; have hr1 := H.out.row1 ht; have c10 : w1.cell? ⟨G, 10, none⟩ = some (.int .u64 m.time) := cell_rowE hr1 rfl; have c11 : w1.cell? ⟨G, 11, none⟩ = some (.bool m.gone) := cell_rowE hr1 rfl; have c12 : w1.cell? ⟨G, 12, none⟩ = some (.string m.val) := cell_rowE hr1 rfl; have f10 : w1.frozen? ⟨G, 10, none⟩ = false := free_row hr1; have f11 : w1.frozen? ⟨G, 11, none⟩ = false := free_row hr1; have f12 : w1.frozen? ⟨G, 12, none⟩ = false := free_row hr1; have hgz : G < w1.heap.size := (Array.getElem?_eq_some_iff.1 hr1).1; have HT1 := Lib.hid ht; clear hr1 ht)
      go_ret
      exact (H.out.three (m' := { m with time := n, gone := gb, val := v }) HT1.out rfl rfl).alloc _
end Go.Proofs.Ytbhlgceicfjncaa
