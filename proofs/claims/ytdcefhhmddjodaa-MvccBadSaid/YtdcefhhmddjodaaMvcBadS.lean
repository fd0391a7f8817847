/-
  A region of MvccBad that makes an entry of many noughts: what each operation leaves.
-/
import Derived.Test.YtdcefhhmddjodaaRegionS
import Derived.Test.YtdcefhhmddjodaaMvcPlaysS
import Derived.Test.YtdcefhhmddjodaaSet10
import Derived.Laws.MakeOwn
import Derived.Laws.OwnMore
namespace Go.Proofs.Ytdcefhhmddjodaa
open Go.RowKit
set_option linter.unusedVariables false
set_option linter.unnecessarySimpa false
set_option linter.unusedSimpArgs false
set_option maxRecDepth 100000

def zb (k : Nat) : ByteArray := ⟨(List.replicate k (0 : UInt8)).toArray⟩
def badK (M : Nat) : ByteArray := (⟨#[255, 255, 255]⟩ : ByteArray) ++ zb M
def zRow (k : Nat) : Array Value := (Lib.byteCells (List.replicate k (0 : UInt8))).toArray
theorem bu8Info : (Try.prog.info? 5).map (fun i => (i.zero, i.size, i.bytes)) = some (some (.int .u8 0), 1, 1) := by kernel_rfl
theorem mk_zB (k : Nat) (h1 : k ≤ 300000) (w : World) :
    (Instr.makeSlice 70 (.int .i64 (k : Int)) (.int .i64 (k : Int))).run Try.prog w = .ok (.slice (some ⟨w.heap.size, 0, none⟩) k k) (w.alloc (.cells (zRow k) 5)) := by
  obtain ⟨i0, hi, hz0, hz1, hz2⟩ := info_parts bu8Info
  have := run_make (P := Try.prog) w 70 5 i0 (.int .u8 0) Try.underlying70 hi hz0 .i64 .i64 (k : Int) (k : Int) (by omega) (Int.le_refl _) (by rw [hz2]; omega) (by omega)
  rw [this, hz1, Nat.mul_one]
  have e : madeCells (Value.int .u8 0).cells (k : Int).toNat = zRow k := by
    apply Array.toList_inj.1
    show (madeCells #[Value.int .u8 0] k).toList = _
    rw [toList_madeCells_one]
    simp [zRow, Lib.byteCells]
  rw [e]
  rfl
theorem conv_zB (k : Nat) (hk : k ≤ 300000) (w : World) (g : Nat) (h : w.heap[g]? = some (.cells (zRow k) 5 (0, 0))) :
    (convert 70 9 (.slice (some ⟨g, 0, none⟩) k k)).run Try.prog w = .ok (.string (zb k)) w := by
  have := run_convert_bytes_back w 70 9 5 ⟨g, 0, none⟩ k (List.replicate k (0 : UInt8)) Try.underlying70 Try.underlying5 Try.underlying9 (fun j hj => by
    have hadd : (⟨g, 0, none⟩ : Addr).add j = ⟨g, j, none⟩ := by unfold Addr.add; split <;> simp_all
    rw [hadd, cell_of_row _ _ _ _ _ _ h]
    simp only [List.length_replicate] at hj
    simp [zRow, Lib.byteCells, hj])
  rw [List.length_replicate] at this
  exact this

def ZB (k : Nat) (v : Value) (w : World) : Prop := ∃ g, v = .slice (some ⟨g, 0, none⟩) k k ∧ w.heap[g]? = some (.cells (zRow k) 5 (0, 0))
def VB (B : Nat) (V : ByteArray) (v : Value) (w : World) : Prop := ∃ g, v = .slice (some ⟨g, 0, none⟩) 1 1 ∧ B ≤ g ∧ w.heap[g]? = some (.cells #[.int .u64 1, .bool false, .string V] 35 (0, 0))
def Box2 (B : Nat) (v : Value) (w : World) : Prop := ∃ p, v = .pointer (some ⟨p, 0, none⟩) ∧ B ≤ p ∧ p < w.heap.size ∧ ∃ x y, w.heap[p]? = some (.cells #[x, y] 73 (0, 0))
theorem ZB.below {k : Nat} {v : Value} {w w' : World} (h : ZB k v w) (hb : Below w.heap.size w w') : ZB k v w' := by
  obtain ⟨g, h1, h2⟩ := h
  exact ⟨g, h1, (hb.block g (Array.getElem?_eq_some_iff.1 h2).1).trans h2⟩
theorem VB.below {B : Nat} {V : ByteArray} {v : Value} {w w' : World} (h : VB B V v w) (hb : Below w.heap.size w w') : VB B V v w' := by
  obtain ⟨g, h1, h3, h2⟩ := h
  exact ⟨g, h1, h3, (hb.block g (Array.getElem?_eq_some_iff.1 h2).1).trans h2⟩
theorem Box2.below {B : Nat} {v : Value} {w w' : World} (h : Box2 B v w) (hb : Below w.heap.size w w') : Box2 B v w' := by
  obtain ⟨p, h1, h2, h3, x, y, h4⟩ := h
  exact ⟨p, h1, h2, Nat.lt_of_lt_of_le h3 hb.size, x, y, (hb.block p h3).trans h4⟩
def putE (w : World) (p : Nat) (x y : Value) : World := (w.setCell ⟨p, 0, none⟩ x).setCell ⟨p, 1, none⟩ y
theorem putE_row {w : World} {p : Nat} {x y a b : Value} (h : w.heap[p]? = some (.cells #[a, b] 73 (0, 0))) : (putE w p x y).heap[p]? = some (.cells #[x, y] 73 (0, 0)) := by
  unfold putE
  rw [heap_setCell_same _ _ 1 _ _ _ (heap_setCell_same _ _ 0 _ _ _ h)]
  rfl
theorem putE_other {w : World} {p k : Nat} {x y : Value} (h : k ≠ p) : (putE w p x y).heap[k]? = w.heap[k]? := by
  unfold putE
  rw [Below.heap_setCell _ _ _ _ h, Below.heap_setCell _ _ _ _ h]
theorem putE_size {p : Nat} {w : World} {x y : Value} : (putE w p x y).heap.size = w.heap.size := by simp [putE, World.setCell]
theorem ZB.put {k p : Nat} {v x y a b : Value} {w : World} (h : ZB k v w) (hp : w.heap[p]? = some (.cells #[a, b] 73 (0, 0))) : ZB k v (putE w p x y) := by
  obtain ⟨g, h1, h2⟩ := h
  refine ⟨g, h1, (putE_other ?_).trans h2⟩
  rintro rfl
  rw [h2] at hp
  injection hp with hp
  injection hp with _ hp
  exact absurd hp (by decide)
theorem VB.put {B p : Nat} {V : ByteArray} {v x y a b : Value} {w : World} (h : VB B V v w) (hp : w.heap[p]? = some (.cells #[a, b] 73 (0, 0))) : VB B V v (putE w p x y) := by
  obtain ⟨g, h1, h3, h2⟩ := h
  refine ⟨g, h1, h3, (putE_other ?_).trans h2⟩
  rintro rfl
  rw [h2] at hp
  injection hp with hp
  injection hp with _ hp
  exact absurd hp (by decide)
theorem Box2.put {B p : Nat} {v x y a b : Value} {w : World} (h : Box2 B v w) (hp : w.heap[p]? = some (.cells #[a, b] 73 (0, 0))) : Box2 B v (putE w p x y) := by
  obtain ⟨k, h1, h2, h3, x', y', h4⟩ := h
  refine ⟨k, h1, h2, by rw [putE_size]; exact h3, ?_⟩
  by_cases e : k = p
  · subst e; exact ⟨x, y, putE_row hp⟩
  · exact ⟨x', y', (putE_other e).trans h4⟩
/-- What the slots hold. -/
def psiB (B N M Q R : Nat) : Nat → Value → World → Prop := fun tm v w =>
  match tm with
  | 1 => v = .int .u16 (N : Int) | 26 => v = .int .u16 (N : Int) | 32 => v = .int .u16 (N : Int)
  | 27 => v = .int .u16 (M : Int) | 28 => v = .int .i64 (M : Int)
  | 29 => ZB M v w | 30 => v = .string (zb M) | 31 => v = .string (badK M)
  | 33 => v = .int .i64 (N : Int) | 34 => v = .int .i64 (Q : Int) | 35 => v = .int .i64 (R : Int)
  | 36 => ZB R v w | 37 => v = .string (zb R)
  | 38 => v = .agg #[.int .u64 1, .bool false, .string (zb R)]
  | 39 => VB B (zb R) v w
  | 40 => ∃ s, v = .agg #[.string (badK M), s] ∧ VB B (zb R) s w
  | 6 => Box2 B v w
  | _ => True
theorem psiB_put {B N M Q R tm : Nat} {v : Value} {w w' : World} (h : psiB B N M Q R tm v w) (h1 : ∀ k v, ZB k v w → ZB k v w') (h2 : ∀ v, VB B (zb R) v w → VB B (zb R) v w') (h3 : ∀ v, Box2 B v w → Box2 B v w') : psiB B N M Q R tm v w' := by
  unfold psiB at h ⊢
  split at h <;> first | exact h | exact h1 _ _ h | exact h2 _ h | exact h3 _ h | (obtain ⟨s, k1, k2⟩ := h; exact ⟨s, k1, h2 _ k2⟩) | trivial
theorem psiB_below {B N M Q R tm : Nat} {v : Value} {w w' : World} (h : psiB B N M Q R tm v w) (hb : Below w.heap.size w w') : psiB B N M Q R tm v w' := psiB_put h (fun _ _ h => h.below hb) (fun _ h => h.below hb) (fun _ h => h.below hb)
def tsB (B M R : Nat) (x y : Value) (w : World) : Prop := ∃ p g, x = .pointer (some ⟨p, 0, none⟩) ∧ B ≤ p ∧ B ≤ g ∧ w.heap[g]? = some (.cells #[.int .u64 1, .bool false, .string (zb R)] 35 (0, 0)) ∧ w.heap[p]? = some (.cells #[.string (badK M), .slice (some ⟨g, 0, none⟩) 1 1] 73 (0, 0))
theorem tsB_below {B M R : Nat} {x y : Value} {w w' : World} (h : tsB B M R x y w) (hb : Below w.heap.size w w') : tsB B M R x y w' := by
  obtain ⟨p, g, h1, h2, h3, h4, h5⟩ := h
  exact ⟨p, g, h1, h2, h3, (hb.block g (Array.getElem?_eq_some_iff.1 h4).1).trans h4, (hb.block p (Array.getElem?_eq_some_iff.1 h5).1).trans h5⟩
noncomputable def badOps : List Oper := (opsOf 4 (Try.f5.body.getD .skip)).getD []

set_option maxHeartbeats 4000000 in
theorem bad_steps {w0 : World} (N M Q R : Nat) (hN : N < 65536) (hM : Hid (M = N % 200)) (hQ : Hid (Q = N / 200)) (hR : Hid (R = N / 200 * 2)) : AllStepsS Try.prog w0.heap.size w0 (psiB w0.heap.size N M Q R) (tsB w0.heap.size M R) 6 40 16 0 badOps := by
  have z1 : (N : Int) % 200 = (M : Int) := by have := hM.out; omega
  have z2 : (N : Int) / 200 = (Q : Int) := by have := hQ.out; omega
  have z2b : Int.tdiv (N : Int) 200 = (Q : Int) := by rw [Int.tdiv_eq_ediv_of_nonneg (by omega)]; exact z2
  have z1b : Int.tmod (N : Int) 200 = (M : Int) := by rw [Int.tmod_eq_emod_of_nonneg (by omega)]; exact z1
  have z3 : (Q : Int) * 2 = (R : Int) := by have := hQ.out; have := hR.out; omega
  have z4 : M < 200 := by have := hM.out; omega
  have z5 : Q ≤ 327 := by have := hQ.out; omega
  have z6 : R ≤ 654 := by have := hR.out; omega
  have hmk1 := mk_zB M (by omega)
  have hmk2 := mk_zB R (by omega)
  have y1 : IntKind.i64.wrap (N : Int) = (N : Int) := IntWalk.i64_in _ (by omega)
  have y2 : IntKind.i64.wrap (M : Int) = (M : Int) := IntWalk.i64_in _ (by omega)
  have y3 : IntKind.i64.wrap (Q : Int) = (Q : Int) := IntWalk.i64_in _ (by omega)
  have y4 : IntKind.i64.wrap (R : Int) = (R : Int) := IntWalk.i64_in _ (by omega)
  have y5 : IntKind.u16.wrap (M : Int) = (M : Int) := by rw [show IntKind.u16.wrap (M : Int) = (M : Int) % 65536 from rfl]; omega
  have x1 : ¬ 9223372036854775807 < 3 + (zb M).size := by have : (zb M).size = M := by simp [zb, ByteArray.size]
                                                          omega
  repeat' (first | exact AllStepsS.nil | refine AllStepsS.cons ?_ ?_)
  all_goals
    first
    | (intro a' w' K' Q' hB hP hK0
       obtain ⟨h1, h2, _⟩ := hP
       conv at h1 => whnf
       obtain ⟨p, hp1, hp2, hp3, x, y, hp4⟩ := h1
       conv at h2 => whnf
       obtain ⟨s, h2, g, h3, h4, h5⟩ := h2
       have c0 : w'.cell? ⟨p, 0, none⟩ = some x := by rw [cell_of_row _ _ _ _ _ _ hp4]; rfl
       have c1 : w'.cell? ⟨p, 1, none⟩ = some y := by rw [cell_of_row _ _ _ _ _ _ hp4]; rfl
       have f1 : ∀ j, w'.frozen? ⟨p, j, none⟩ = false := fun j => frozen_of_row _ _ _ _ _ hp4
       have hgp : g ≠ p := by
         rintro rfl
         rw [hp4] at h5
         injection h5 with h5
         injection h5 with _ h5
         exact absurd h5 (by decide)
       have HK := Lib.hid (hK0 .nilIface (putE w' p (.string (badK M)) s) (((Below.refl _ _).setCell hp2 _).setCell hp2 _) (fun _ _ h => psiB_put h (fun _ _ h => h.put hp4) (fun _ h => h.put hp4) (fun _ h => h.put hp4)) (fun e => absurd rfl e) (fun _ => ⟨p, g, by rw [Array.getD_eq_getD_getElem?]; exact hp1, hp2, h4, (putE_other hgp).trans h5, by rw [← h3]; exact putE_row hp4⟩) (fun d hd => by cases hd))
       subst h3
       clear hK0 hB hp2 hp3 hp4 h4 h5
       go_simp
       exact HK.out)
    | (intro a' w' K' Q' hB hP hK0
       obtain ⟨h1, _⟩ := hP
       conv at h1 => whnf
       obtain ⟨g, h1, h2⟩ := h1
       have hcv1 := fun h => conv_zB M (by omega) w' g h
       have hcv2 := fun h => conv_zB R (by omega) w' g h
       first
        | (have hcv := hcv1 h2
           clear hcv1 hcv2 h2 hB
           go_simp
           refine hK0 _ _ (Below.refl _ _) (fun _ _ h => h) (fun _ _ _ h => h) (fun e => absurd e (by decide)) ?_
           intro d hd; cases hd; rfl)
        | (have hcv := hcv2 h2
           clear hcv1 hcv2 h2 hB
           go_simp
           refine hK0 _ _ (Below.refl _ _) (fun _ _ h => h) (fun _ _ _ h => h) (fun e => absurd e (by decide)) ?_
           intro d hd; cases hd; rfl))
    | (intro a' w' K' Q' hB hP hK0
       obtain ⟨h0, h1, _⟩ := hP
       conv at h0 => whnf
       conv at h1 => whnf
       obtain ⟨g, h2, h4, h5⟩ := h1
       have HV := Lib.hid (And.intro h4 h5)
       clear h4 h5 hB
       go_simp
       refine hK0 _ _ (Below.refl _ _) (fun _ _ h => h) (fun _ _ _ h => h) (fun e => absurd e (by decide)) ?_
       intro d hd; cases hd; exact ⟨_, rfl, g, rfl, HV.out.1, HV.out.2⟩)
    | (intro a' w' K' Q' hB hP hK0
       repeat (obtain ⟨h, hP⟩ := hP; conv at h => whnf)
       have HBl := Lib.hid hB
       clear hB
       try go_simp
       first
        | (refine hK0 _ _ (Below.refl _ _) (fun _ _ h => h) (fun _ _ _ h => h) (fun e => absurd e (by decide)) ?_; intro d hd; cases hd; first | rfl | exact h | trivial)
        | (have hb := (Below.refl w'.heap.size w').alloc (Nat.le_refl _) (.cells #[.string ⟨#[]⟩, .slice none 0 0] 73); refine hK0 _ _ (hb.mono HBl.out.size) (fun _ _ h => psiB_below h hb) (fun _ _ _ h => tsB_below h hb) (fun e => absurd e (by decide)) ?_; intro d hd; cases hd; exact ⟨_, rfl, HBl.out.size, by simp, _, _, heap_alloc_new _ _⟩)
        | (have hb := (Below.refl w'.heap.size w').alloc (Nat.le_refl _) (.cells (zRow M) 5); refine hK0 _ _ (hb.mono HBl.out.size) (fun _ _ h => psiB_below h hb) (fun _ _ _ h => tsB_below h hb) (fun e => absurd e (by decide)) ?_; intro d hd; cases hd; exact ⟨_, rfl, heap_alloc_new _ _⟩)
        | (have hb := (Below.refl w'.heap.size w').alloc (Nat.le_refl _) (.cells (zRow R) 5); refine hK0 _ _ (hb.mono HBl.out.size) (fun _ _ h => psiB_below h hb) (fun _ _ _ h => tsB_below h hb) (fun e => absurd e (by decide)) ?_; intro d hd; cases hd; exact ⟨_, rfl, heap_alloc_new _ _⟩)
        | (have hb := (Below.refl w'.heap.size w').alloc (Nat.le_refl _) (.cells #[.int .u64 1, .bool false, .string (zb R)] 35); refine hK0 _ _ (hb.mono HBl.out.size) (fun _ _ h => psiB_below h hb) (fun _ _ _ h => tsB_below h hb) (fun e => absurd e (by decide)) ?_; intro d hd; cases hd; exact ⟨_, rfl, HBl.out.size, heap_alloc_new _ _⟩)
        | fail)
end Go.Proofs.Ytdcefhhmddjodaa
