/-
  Three regions of MvccPlays that call the store or the document's one and keep the answer in new memory: what each operation leaves.
-/
import Derived.Test.YtdcefhhmddjodaaRegionS
import Derived.Test.YtdcefhhmddjodaaMvcPlaysR
namespace Go.Proofs.Ytdcefhhmddjodaa
open Go.RowKit
set_option linter.unusedVariables false
set_option linter.unnecessarySimpa false
set_option linter.unusedSimpArgs false
set_option maxRecDepth 100000

/-- A new block of three cells. -/
def BoxV (B : Nat) (v : Value) (w : World) : Prop := ∃ p, v = .pointer (some ⟨p, 0, none⟩) ∧ B ≤ p ∧ p < w.heap.size ∧ ∃ x y z, w.heap[p]? = some (.cells #[x, y, z] 35 (0, 0))
theorem BoxV.below {B : Nat} {v : Value} {w w' : World} (h : BoxV B v w) (hb : Below w.heap.size w w') : BoxV B v w' := by
  obtain ⟨p, h1, h2, h3, x, y, z, h4⟩ := h
  exact ⟨p, h1, h2, Nat.lt_of_lt_of_le h3 hb.size, x, y, z, (hb.block p h3).trans h4⟩
theorem cells3V {W : World} {B : Nat} {x y z : Value} {t : TypeId} (h : W.heap[B]? = some (.cells #[x, y, z] t (0, 0))) : W.cell? ⟨B, 0, none⟩ = some x ∧ W.cell? ⟨B, 1, none⟩ = some y ∧ W.cell? ⟨B, 2, none⟩ = some z := by
  refine ⟨?_, ?_, ?_⟩ <;> (rw [cell_of_row _ _ _ _ _ _ h]; rfl)
/-- The world with a version put into the block p. -/
def putV (w : World) (p : Nat) (x y z : Value) : World := ((w.setCell ⟨p, 0, none⟩ x).setCell ⟨p, 1, none⟩ y).setCell ⟨p, 2, none⟩ z
theorem putV_row {w : World} {p : Nat} {x y z a b c : Value} (h : w.heap[p]? = some (.cells #[a, b, c] 35 (0, 0))) : (putV w p x y z).heap[p]? = some (.cells #[x, y, z] 35 (0, 0)) := by
  unfold putV
  rw [heap_setCell_same _ _ 2 _ _ _ (heap_setCell_same _ _ 1 _ _ _ (heap_setCell_same _ _ 0 _ _ _ h))]
  rfl
theorem putV_other {w : World} {p k : Nat} {x y z : Value} (h : k ≠ p) : (putV w p x y z).heap[k]? = w.heap[k]? := by
  unfold putV
  rw [Below.heap_setCell _ _ _ _ h, Below.heap_setCell _ _ _ _ h, Below.heap_setCell _ _ _ _ h]
theorem putV_below {B p : Nat} {w : World} {x y z : Value} (hp : B ≤ p) : Below B w (putV w p x y z) := (((Below.refl B w).setCell hp _).setCell hp _).setCell hp _
theorem putV_size {p : Nat} {w : World} {x y z : Value} : (putV w p x y z).heap.size = w.heap.size := by simp [putV, World.setCell]
theorem BoxV.put {B p : Nat} {v x y z a b c : Value} {w : World} (h : BoxV B v w) (hp : w.heap[p]? = some (.cells #[a, b, c] 35 (0, 0))) : BoxV B v (putV w p x y z) := by
  obtain ⟨k, h1, h2, h3, x', y', z', h4⟩ := h
  refine ⟨k, h1, h2, by rw [putV_size]; exact h3, ?_⟩
  by_cases e : k = p
  · subst e; exact ⟨x, y, z, putV_row hp⟩
  · exact ⟨x', y', z', (putV_other e).trans h4⟩

/-- What the slots hold where the program's At is asked. -/
def psiA (B : Nat) (r : Addr) (b off lenq capq j : Nat) (K : ByteArray) (t vt : Nat) (vg : Bool) (vv : ByteArray) (ok : Bool) : Nat → Value → World → Prop := fun tm v w =>
  match tm with
  | 5 => v = .pointer (some r) | 103 => v = .pointer (some r)
  | 1 => v = .slice (some ⟨b, off, none⟩) lenq capq | 104 => v = .slice (some ⟨b, off, none⟩) lenq capq | 109 => v = .slice (some ⟨b, off, none⟩) lenq capq
  | 10 => v = .int .i64 (j : Int) | 105 => v = .int .i64 (j : Int) | 110 => v = .int .i64 (j : Int)
  | 106 => v = .pointer (some ⟨b, off + j * 5, none⟩) | 107 => v = .pointer (some ⟨b, off + j * 5, none⟩) | 111 => v = .pointer (some ⟨b, off + j * 5, none⟩) | 112 => v = .pointer (some ⟨b, off + j * 5 + 1, none⟩)
  | 108 => v = .string K | 113 => v = .int .u64 (t : Int)
  | 114 => v = .tuple #[.agg #[.int .u64 (vt : Int), .bool vg, .string vv], .bool ok] | 102 => v = .tuple #[.agg #[.int .u64 (vt : Int), .bool vg, .string vv], .bool ok]
  | 115 => v = .agg #[.int .u64 (vt : Int), .bool vg, .string vv] | 116 => v = .bool ok | 12 => v = .bool ok
  | 11 => BoxV B v w
  | _ => True
theorem psiA_put {B : Nat} {r : Addr} {b off lenq capq j : Nat} {K : ByteArray} {t vt : Nat} {vg : Bool} {vv : ByteArray} {ok : Bool} {tm : Nat} {v : Value} {w w' : World} (h : psiA B r b off lenq capq j K t vt vg vv ok tm v w) (hk : ∀ v, BoxV B v w → BoxV B v w') : psiA B r b off lenq capq j K t vt vg vv ok tm v w' := by
  unfold psiA at h ⊢
  split at h <;> first | exact h | exact hk _ h | trivial
def tsV (B vt : Nat) (vg : Bool) (vv : ByteArray) (x y : Value) (w : World) : Prop := ∃ p, x = .pointer (some ⟨p, 0, none⟩) ∧ B ≤ p ∧ w.heap[p]? = some (.cells #[.int .u64 (vt : Int), .bool vg, .string vv] 35 (0, 0))
theorem tsV_below {B vt : Nat} {vg : Bool} {vv : ByteArray} {x y : Value} {w w' : World} (h : tsV B vt vg vv x y w) (hb : Below w.heap.size w w') : tsV B vt vg vv x y w' := by
  obtain ⟨p, h1, h2, h3⟩ := h
  exact ⟨p, h1, h2, (hb.block p (Array.getElem?_eq_some_iff.1 h3).1).trans h3⟩
noncomputable def atOps : List Oper := (opsOf 16 (Try.f3.body.getD .skip)).getD []

set_option maxHeartbeats 4000000 in
theorem at_steps {w0 : World} (r : Addr) (b off lenq capq j : Nat) (K : ByteArray) (t vt : Nat) (vg : Bool) (vv : ByteArray) (ok : Bool) (hj : j < lenq) (hjz : (j : Int) < (lenq : Int))
    (HA : Hid (∀ W, Below w0.heap.size w0 W → Calls Try.prog 12 #[.pointer (some r), .string K, .int .u64 (t : Int)] W fun e w' => e = .returned (.tuple #[.agg #[.int .u64 (vt : Int), .bool vg, .string vv], .bool ok]) ∧ Below W.heap.size W w'))
    (HQ : Hid (∀ W, Below w0.heap.size w0 W → W.cell? ⟨b, off + j * 5, none⟩ = some (.string K) ∧ W.cell? ⟨b, off + j * 5 + 1, none⟩ = some (.int .u64 (t : Int)))) :
    AllStepsS Try.prog w0.heap.size w0 (psiA w0.heap.size r b off lenq capq j K t vt vg vv ok) (tsV w0.heap.size vt vg vv) 11 115 16 0 atOps := by
  repeat' (first | exact AllStepsS.nil | refine AllStepsS.cons ?_ ?_)
  all_goals
    first
    | (intro a' w' K' Q hB hP hK0
       repeat (obtain ⟨h, hP⟩ := hP; conv at h => whnf)
       have HBl := Lib.hid hB
       obtain ⟨e0, e1⟩ := HQ.out w' hB
       try go_simp
       first
        | (refine hK0 _ _ (Below.refl _ _) (fun _ _ h => h) (fun _ _ _ h => h) (fun e => absurd e (by decide)) ?_; intro d hd; cases hd; first | rfl | exact h | trivial)
        | (go_at_call 12; refine (HA.out _ HBl.out).mono ?_; rintro e w'' ⟨rfl, hb⟩; refine hK0 _ _ (hb.mono HBl.out.size) (fun _ _ h => psiA_put h fun v hv => hv.below hb) (fun _ _ _ h => tsV_below h hb) (fun e => absurd e (by decide)) ?_; intro d hd; cases hd; rfl)
        | (have hb := (Below.refl w'.heap.size w').alloc (Nat.le_refl _) (.cells #[.int .u64 0, .bool false, .string ⟨#[]⟩] 35); refine hK0 _ _ (hb.mono HBl.out.size) (fun _ _ h => psiA_put h fun v hv => hv.below hb) (fun _ _ _ h => tsV_below h hb) (fun e => absurd e (by decide)) ?_; intro d hd; cases hd; exact ⟨_, rfl, HBl.out.size, by simp, _, _, _, heap_alloc_new _ _⟩))
    | (intro a' w' K' Q hB hP hK0
       obtain ⟨h1, h2, _⟩ := hP
       conv at h1 => whnf
       obtain ⟨p, hp1, hp2, hp3, x, y, z, hp4⟩ := h1
       conv at h2 => whnf
       obtain ⟨c0, c1, c2⟩ := cells3V hp4
       have f1 : ∀ j, w'.frozen? ⟨p, j, none⟩ = false := fun j => frozen_of_row _ _ _ _ _ hp4
       have HK := Lib.hid (hK0 .nilIface (putV w' p (.int .u64 (vt : Int)) (.bool vg) (.string vv)) (putV_below hp2) (fun _ _ h => psiA_put h fun v hv => hv.put hp4) (fun e => absurd rfl e) (fun _ => ⟨p, by rw [Array.getD_eq_getD_getElem?]; exact hp1, hp2, putV_row hp4⟩) (fun d hd => by cases hd))
       clear hK0 hB hp2 hp3 hp4
       go_simp
       exact HK.out)

/-- What the slots hold where the document's At is asked. -/
def psiD (B g6 : Nat) (s : Value) (b off lenq capq j : Nat) (K : ByteArray) (t vt : Nat) (vg : Bool) (vv : ByteArray) (ok : Bool) : Nat → Value → World → Prop := fun tm v w =>
  match tm with
  | 6 => v = .pointer (some ⟨g6, 0, none⟩) | 118 => v = .agg #[s]
  | 1 => v = .slice (some ⟨b, off, none⟩) lenq capq | 119 => v = .slice (some ⟨b, off, none⟩) lenq capq | 124 => v = .slice (some ⟨b, off, none⟩) lenq capq
  | 10 => v = .int .i64 (j : Int) | 120 => v = .int .i64 (j : Int) | 125 => v = .int .i64 (j : Int)
  | 121 => v = .pointer (some ⟨b, off + j * 5, none⟩) | 122 => v = .pointer (some ⟨b, off + j * 5, none⟩) | 126 => v = .pointer (some ⟨b, off + j * 5, none⟩) | 127 => v = .pointer (some ⟨b, off + j * 5 + 1, none⟩)
  | 123 => v = .string K | 128 => v = .int .u64 (t : Int)
  | 129 => v = .tuple #[.agg #[.int .u64 (vt : Int), .bool vg, .string vv], .bool ok] | 117 => v = .tuple #[.agg #[.int .u64 (vt : Int), .bool vg, .string vv], .bool ok]
  | 130 => v = .agg #[.int .u64 (vt : Int), .bool vg, .string vv] | 131 => v = .bool ok | 14 => v = .bool ok
  | 13 => BoxV B v w
  | _ => True
theorem psiD_put {B g6 : Nat} {s : Value} {b off lenq capq j : Nat} {K : ByteArray} {t vt : Nat} {vg : Bool} {vv : ByteArray} {ok : Bool} {tm : Nat} {v : Value} {w w' : World} (h : psiD B g6 s b off lenq capq j K t vt vg vv ok tm v w) (hk : ∀ v, BoxV B v w → BoxV B v w') : psiD B g6 s b off lenq capq j K t vt vg vv ok tm v w' := by
  unfold psiD at h ⊢
  split at h <;> first | exact h | exact hk _ h | trivial
noncomputable def datOps : List Oper := (opsOf 17 (Try.f3.body.getD .skip)).getD []

set_option maxHeartbeats 4000000 in
theorem dat_steps {w0 : World} (g6 : Nat) (s : Value) (b off lenq capq j : Nat) (K : ByteArray) (t vt : Nat) (vg : Bool) (vv : ByteArray) (ok : Bool) (hj : j < lenq) (hjz : (j : Int) < (lenq : Int))
    (HA : Hid (∀ W, Below w0.heap.size w0 W → Calls Try.prog 13 #[.agg #[s], .string K, .int .u64 (t : Int)] W fun e w' => e = .returned (.tuple #[.agg #[.int .u64 (vt : Int), .bool vg, .string vv], .bool ok]) ∧ Below W.heap.size W w'))
    (HQ : Hid (∀ W, Below w0.heap.size w0 W → W.cell? ⟨b, off + j * 5, none⟩ = some (.string K) ∧ W.cell? ⟨b, off + j * 5 + 1, none⟩ = some (.int .u64 (t : Int)) ∧ W.cell? ⟨g6, 0, none⟩ = some s)) :
    AllStepsS Try.prog w0.heap.size w0 (psiD w0.heap.size g6 s b off lenq capq j K t vt vg vv ok) (tsV w0.heap.size vt vg vv) 13 130 16 0 datOps := by
  repeat' (first | exact AllStepsS.nil | refine AllStepsS.cons ?_ ?_)
  all_goals
    first
    | (intro a' w' K' Q hB hP hK0
       repeat (obtain ⟨h, hP⟩ := hP; conv at h => whnf)
       have HBl := Lib.hid hB
       obtain ⟨e0, e1, e2⟩ := HQ.out w' hB
       try go_simp
       first
        | (refine hK0 _ _ (Below.refl _ _) (fun _ _ h => h) (fun _ _ _ h => h) (fun e => absurd e (by decide)) ?_; intro d hd; cases hd; first | rfl | exact h | trivial)
        | (go_at_call 13; refine (HA.out _ HBl.out).mono ?_; rintro e w'' ⟨rfl, hb⟩; refine hK0 _ _ (hb.mono HBl.out.size) (fun _ _ h => psiD_put h fun v hv => hv.below hb) (fun _ _ _ h => tsV_below h hb) (fun e => absurd e (by decide)) ?_; intro d hd; cases hd; rfl)
        | (have hb := (Below.refl w'.heap.size w').alloc (Nat.le_refl _) (.cells #[.int .u64 0, .bool false, .string ⟨#[]⟩] 35); refine hK0 _ _ (hb.mono HBl.out.size) (fun _ _ h => psiD_put h fun v hv => hv.below hb) (fun _ _ _ h => tsV_below h hb) (fun e => absurd e (by decide)) ?_; intro d hd; cases hd; exact ⟨_, rfl, HBl.out.size, by simp, _, _, _, heap_alloc_new _ _⟩))
    | (intro a' w' K' Q hB hP hK0
       obtain ⟨h1, h2, _⟩ := hP
       conv at h1 => whnf
       obtain ⟨p, hp1, hp2, hp3, x, y, z, hp4⟩ := h1
       conv at h2 => whnf
       obtain ⟨c0, c1, c2⟩ := cells3V hp4
       have f1 : ∀ j, w'.frozen? ⟨p, j, none⟩ = false := fun j => frozen_of_row _ _ _ _ _ hp4
       have HK := Lib.hid (hK0 .nilIface (putV w' p (.int .u64 (vt : Int)) (.bool vg) (.string vv)) (putV_below hp2) (fun _ _ h => psiD_put h fun v hv => hv.put hp4) (fun e => absurd rfl e) (fun _ => ⟨p, by rw [Array.getD_eq_getD_getElem?]; exact hp1, hp2, putV_row hp4⟩) (fun d hd => by cases hd))
       clear hK0 hB hp2 hp3 hp4
       go_simp
       exact HK.out)

/-! The document's Install, its answer kept in a box. -/
def Box1 (B : Nat) (v : Value) (w : World) : Prop := ∃ p, v = .pointer (some ⟨p, 0, none⟩) ∧ B ≤ p ∧ p < w.heap.size ∧ ∃ x, w.heap[p]? = some (.cells #[x] 29 (0, 0))
theorem Box1.below {B : Nat} {v : Value} {w w' : World} (h : Box1 B v w) (hb : Below w.heap.size w w') : Box1 B v w' := by
  obtain ⟨p, h1, h2, h3, x, h4⟩ := h
  exact ⟨p, h1, h2, Nat.lt_of_lt_of_le h3 hb.size, x, (hb.block p h3).trans h4⟩
theorem Box1.put {B p : Nat} {v x a : Value} {w : World} (h : Box1 B v w) (hp : w.heap[p]? = some (.cells #[a] 29 (0, 0))) : Box1 B v (w.setCell ⟨p, 0, none⟩ x) := by
  obtain ⟨k, h1, h2, h3, x', h4⟩ := h
  refine ⟨k, h1, h2, by simpa [World.setCell] using h3, ?_⟩
  by_cases e : k = p
  · subst e; exact ⟨x, heap_setCell_same _ _ 0 _ _ _ hp⟩
  · exact ⟨x', (Below.heap_setCell _ _ _ _ e).trans h4⟩
/-- A store's value that stands in new memory, or is the old one. -/
def GoodV (B : Nat) (s : Value) (M' : List Im) (s' : Value) (w : World) : Prop := StV w s' M' ∧ (s' = s ∨ ∃ g n c, s' = .slice (some ⟨g, 0, none⟩) n c ∧ B ≤ g)
theorem GoodV.below {B : Nat} {s s' : Value} {M' : List Im} {w w' : World} (h : GoodV B s M' s' w) (hb : Below w.heap.size w w') : GoodV B s M' s' w' := ⟨h.1.below hb, h.2⟩
theorem GoodV.put {B p : Nat} {s s' x a : Value} {M' : List Im} {w : World} (h : GoodV B s M' s' w) (hp : w.heap[p]? = some (.cells #[a] 29 (0, 0))) : GoodV B s M' s' (w.setCell ⟨p, 0, none⟩ x) := by
  refine ⟨h.1.same (by simp [World.setCell]) fun k off n c h0 e => Below.heap_setCell _ _ _ _ ?_, h.2⟩
  show k ≠ p
  rintro rfl
  obtain ⟨a2, c2, e2, hz, _⟩ := h.1
  obtain ⟨b, o2, e3, hi⟩ := hz.2.2 0 h0
  obtain ⟨_, _, _, _, _, k1, _⟩ := hi
  rw [e2] at e
  injection e with e
  rw [e3] at e
  simp only [Option.some.injEq, Addr.mk.injEq, and_true] at e
  obtain ⟨rfl, rfl⟩ := e
  rw [cell_of_row _ _ _ _ _ _ hp] at k1
  simp at k1
def psiI7 (B g6 : Nat) (s : Value) (b off len cap i : Nat) (z : Im) (M' : List Im) (cd : Nat) : Nat → Value → World → Prop := fun tm v w =>
  match tm with
  | 6 => v = .pointer (some ⟨g6, 0, none⟩) | 42 => v = .agg #[s]
  | 0 => v = .slice (some ⟨b, off, none⟩) len cap | 43 => v = .slice (some ⟨b, off, none⟩) len cap | 48 => v = .slice (some ⟨b, off, none⟩) len cap
  | 7 => v = .int .i64 (i : Int) | 44 => v = .int .i64 (i : Int) | 49 => v = .int .i64 (i : Int)
  | 45 => v = .pointer (some ⟨b, off + i * 4, none⟩) | 46 => v = .pointer (some ⟨b, off + i * 4, none⟩) | 50 => v = .pointer (some ⟨b, off + i * 4, none⟩) | 51 => v = .pointer (some ⟨b, off + i * 4 + 1, none⟩)
  | 47 => v = .string z.key | 52 => v = .agg #[.int .u64 (z.v.time : Int), .bool z.v.gone, .string z.v.val]
  | 53 => ∃ s', v = .tuple #[.agg #[s'], .int .i64 (cd : Int)] ∧ GoodV B s M' s' w | 41 => ∃ s', v = .tuple #[.agg #[s'], .int .i64 (cd : Int)] ∧ GoodV B s M' s' w
  | 54 => ∃ s', v = .agg #[s'] ∧ GoodV B s M' s' w | 55 => v = .int .i64 (cd : Int) | 9 => v = .int .i64 (cd : Int)
  | 8 => Box1 B v w
  | _ => True
theorem psiI7_put {B g6 : Nat} {s : Value} {b off len cap i : Nat} {z : Im} {M' : List Im} {cd tm : Nat} {v : Value} {w w' : World} (h : psiI7 B g6 s b off len cap i z M' cd tm v w) (hk : ∀ v, Box1 B v w → Box1 B v w') (hg : ∀ s', GoodV B s M' s' w → GoodV B s M' s' w') : psiI7 B g6 s b off len cap i z M' cd tm v w' := by
  unfold psiI7 at h ⊢
  split at h <;> first | exact h | exact hk _ h | (obtain ⟨s', h1, h2⟩ := h; exact ⟨s', h1, hg _ h2⟩) | trivial
def tsI (B : Nat) (s : Value) (M' : List Im) (x y : Value) (w : World) : Prop := ∃ p s', x = .pointer (some ⟨p, 0, none⟩) ∧ B ≤ p ∧ GoodV B s M' s' w ∧ w.heap[p]? = some (.cells #[s'] 29 (0, 0))
theorem tsI_below {B : Nat} {s : Value} {M' : List Im} {x y : Value} {w w' : World} (h : tsI B s M' x y w) (hb : Below w.heap.size w w') : tsI B s M' x y w' := by
  obtain ⟨p, s', h1, h2, h4, h3⟩ := h
  exact ⟨p, s', h1, h2, h4.below hb, (hb.block p (Array.getElem?_eq_some_iff.1 h3).1).trans h3⟩
noncomputable def insOps : List Oper := (opsOf 7 (Try.f3.body.getD .skip)).getD []

set_option maxHeartbeats 4000000 in
theorem ins_steps {w0 : World} (g6 : Nat) (s : Value) (b off len cap i : Nat) (z : Im) (M' : List Im) (cd : Nat) (hj : i < len) (hjz : (i : Int) < (len : Int))
    (HA : Hid (∀ W, Below w0.heap.size w0 W → Calls Try.prog 10 #[.agg #[s], .string z.key, .agg #[.int .u64 (z.v.time : Int), .bool z.v.gone, .string z.v.val]] W fun e w' => ∃ s', e = .returned (.tuple #[.agg #[s'], .int .i64 (cd : Int)]) ∧ GoodV w0.heap.size s M' s' w' ∧ Below W.heap.size W w'))
    (HQ : Hid (∀ W, Below w0.heap.size w0 W → W.cell? ⟨b, off + i * 4, none⟩ = some (.string z.key) ∧ W.cell? ⟨b, off + i * 4 + 1, none⟩ = some (.int .u64 (z.v.time : Int)) ∧ W.cell? ⟨b, off + i * 4 + 1 + 1, none⟩ = some (.bool z.v.gone) ∧ W.cell? ⟨b, off + i * 4 + 1 + 2, none⟩ = some (.string z.v.val) ∧ W.cell? ⟨g6, 0, none⟩ = some s)) :
    AllStepsS Try.prog w0.heap.size w0 (psiI7 w0.heap.size g6 s b off len cap i z M' cd) (tsI w0.heap.size s M') 8 54 16 0 insOps := by
  repeat' (first | exact AllStepsS.nil | refine AllStepsS.cons ?_ ?_)
  all_goals
    first
    | (intro a' w' K' Q hB hP hK0
       repeat (obtain ⟨h, hP⟩ := hP; conv at h => whnf)
       have HBl := Lib.hid hB
       obtain ⟨e0, e1, e2, e3, e4⟩ := HQ.out w' hB
       try go_simp
       first
        | (refine hK0 _ _ (Below.refl _ _) (fun _ _ h => h) (fun _ _ _ h => h) (fun e => absurd e (by decide)) ?_; intro d hd; cases hd; first | rfl | exact h | trivial)
        | (go_at_call 10; refine (HA.out _ HBl.out).mono ?_; rintro e w'' ⟨s', rfl, hg, hb⟩; refine hK0 _ _ (hb.mono HBl.out.size) (fun _ _ h => psiI7_put h (fun v hv => hv.below hb) (fun s' hv => hv.below hb)) (fun _ _ _ h => tsI_below h hb) (fun e => absurd e (by decide)) ?_; intro d hd; cases hd; exact ⟨s', rfl, hg⟩)
        | (have hb := (Below.refl w'.heap.size w').alloc (Nat.le_refl _) (.cells #[.slice none 0 0] 29); refine hK0 _ _ (hb.mono HBl.out.size) (fun _ _ h => psiI7_put h (fun v hv => hv.below hb) (fun s' hv => hv.below hb)) (fun _ _ _ h => tsI_below h hb) (fun e => absurd e (by decide)) ?_; intro d hd; cases hd; exact ⟨_, rfl, HBl.out.size, by simp, _, heap_alloc_new _ _⟩))
    | (intro a' w' K' Q hB hP hK0
       obtain ⟨h1, _⟩ := hP
       conv at h1 => whnf
       obtain ⟨s', h1, hg⟩ := h1
       first
        | (refine (?_ : Oper.wp _ _ a' w' K' Q)
           have HBl := Lib.hid hB
           have HG := Lib.hid hg
           clear hg hB
           go_simp
           refine hK0 _ _ (Below.refl _ _) (fun _ _ h => h) (fun _ _ _ h => h) (fun e => absurd e (by decide)) ?_
           intro d hd; cases hd; first | exact ⟨s', rfl, HG.out⟩ | rfl))
    | (intro a' w' K' Q hB hP hK0
       obtain ⟨h1, h2, _⟩ := hP
       conv at h1 => whnf
       obtain ⟨p, hp1, hp2, hp3, x, hp4⟩ := h1
       conv at h2 => whnf
       obtain ⟨s', h2, hg⟩ := h2
       have c0 : w'.cell? ⟨p, 0, none⟩ = some x := by rw [cell_of_row _ _ _ _ _ _ hp4]; rfl
       have f1 : ∀ j, w'.frozen? ⟨p, j, none⟩ = false := fun j => frozen_of_row _ _ _ _ _ hp4
       have HK := Lib.hid (hK0 .nilIface (w'.setCell ⟨p, 0, none⟩ s') ((Below.refl _ _).setCell hp2 _) (fun _ _ h => psiI7_put h (fun v hv => hv.put hp4) (fun s' hv => hv.put hp4)) (fun e => absurd rfl e) (fun _ => ⟨p, s', by rw [Array.getD_eq_getD_getElem?]; exact hp1, hp2, hg.put hp4, heap_setCell_same _ _ 0 _ _ _ hp4⟩) (fun d hd => by cases hd))
       obtain ⟨aS, cS, rfl, _⟩ := hg.1
       clear hK0 hB hp2 hp3 hp4 hg
       go_simp
       exact HK.out)
end Go.Proofs.Ytdcefhhmddjodaa
