/-
  A disk as mathematics: sectors, those that are sure, those that are read, writes that wait, the fuse; what worlds keep of one another but for what an object owns. No program stands here.
-/
import Derived.Test.YtbekgmcchecnkaaFixMath
import Derived.Below
namespace Go.Proofs.Ytbekgmcchecnkaa
open Go.RowKit
set_option linter.unusedVariables false
set_option linter.unnecessarySimpa false
set_option linter.unusedSimpArgs false
set_option maxRecDepth 100000

structure DK where
  sure : List (List UInt8)
  seen : List (List UInt8)
  waits : List (Nat × List UInt8)
  fuse : Int

def fullB (c : UInt8) : List UInt8 := List.replicate 64 c
theorem fullB_length (c : UInt8) : (fullB c).length = 64 := by simp [fullB]
def clampD (n : Int) : Nat := if n < 0 then 0 else if 4096 < n then 4096 else n.toNat
def DK.new (n : Nat) : DK := ⟨List.replicate n (fullB 0), List.replicate n (fullB 0), [], -1⟩
def DK.wrote (D : DK) (i : Nat) (b : List UInt8) : DK := ⟨D.sure, D.seen.set i b, D.waits ++ [(i, b)], if 0 < D.fuse then D.fuse - 1 else D.fuse⟩
def DK.synced (D : DK) : DK := ⟨D.seen, D.seen, [], D.fuse⟩
def DK.lit (D : DK) (n : Int) : DK := ⟨D.sure, D.seen, D.waits, if D.fuse = 0 then 0 else max n (-1)⟩
def tear (f : UInt8) : Nat := if f = 255 then 64 else f.toNat % 64
def tornOne (s : List (List UInt8)) (x : Nat × List UInt8) (f : UInt8) : List (List UInt8) := s.set x.1 (x.2.take (tear f) ++ (s.getD x.1 []).drop (tear f))
def torn : List (List UInt8) → List (Nat × List UInt8) → List UInt8 → List (List UInt8)
  | s, x :: l, f :: fs => torn (tornOne s x f) l fs
  | s, _, _ => s
def DK.crashed (D : DK) (fates : List UInt8) : DK := ⟨torn D.sure D.waits fates, torn D.sure D.waits fates, [], -1⟩
structure DK.ok (D : DK) : Prop where
  len : D.sure.length = D.seen.length
  sure : ∀ s ∈ D.sure, s.length = 64
  seen : ∀ s ∈ D.seen, s.length = 64
  waits : ∀ x ∈ D.waits, x.1 < D.seen.length ∧ x.2.length = 64
  fuse : -1 ≤ D.fuse ∧ D.fuse ≤ 9223372036854775807
  small : D.seen.length ≤ 4096

theorem tornOne_length (s : List (List UInt8)) (x : Nat × List UInt8) (f : UInt8) : (tornOne s x f).length = s.length := by simp [tornOne]
theorem tear_le (f : UInt8) : tear f ≤ 64 := by unfold tear; split <;> omega
theorem tornOne_64 {s : List (List UInt8)} {x : Nat × List UInt8} {f : UInt8} (hs : ∀ t ∈ s, t.length = 64) (hx : x.1 < s.length) (h64 : x.2.length = 64) : ∀ t ∈ tornOne s x f, t.length = 64 := by
  intro t ht
  unfold tornOne at ht
  rcases List.mem_or_eq_of_mem_set ht with h | h
  · exact hs t h
  · have h1 : (s.getD x.1 []).length = 64 := by
      rw [List.getD, List.getElem?_eq_getElem hx]; exact hs _ (List.getElem_mem _)
    have := tear_le f
    rw [h, List.length_append, List.length_take, List.length_drop, h64, h1]
    omega
theorem torn_length : ∀ (s : List (List UInt8)) (l : List (Nat × List UInt8)) (fs : List UInt8), (torn s l fs).length = s.length
  | s, [], _ => by cases ‹List UInt8› <;> rfl
  | s, _ :: _, [] => rfl
  | s, x :: l, f :: fs => by rw [torn, torn_length, tornOne_length]
theorem torn_64 : ∀ (s : List (List UInt8)) (l : List (Nat × List UInt8)) (fs : List UInt8), (∀ t ∈ s, t.length = 64) → (∀ x ∈ l, x.1 < s.length ∧ x.2.length = 64) → ∀ t ∈ torn s l fs, t.length = 64
  | s, [], fs, h, _ => by cases fs <;> exact h
  | s, _ :: _, [], h, _ => h
  | s, x :: l, f :: fs, h, hx => by
    rw [torn]
    have h0 := hx x (by simp)
    exact torn_64 _ l fs (tornOne_64 h h0.1 h0.2) (fun y hy => by rw [tornOne_length]; exact hx y (by simp [hy]))

theorem DK.new_ok {n : Nat} (h : n ≤ 4096) : (DK.new n).ok :=
  ⟨rfl, fun s hs => by rw [List.eq_of_mem_replicate hs]; exact fullB_length 0, fun s hs => by rw [List.eq_of_mem_replicate hs]; exact fullB_length 0, fun x hx => absurd hx (by simp [DK.new]), by simp [DK.new], by simpa [DK.new] using h⟩
theorem DK.wrote_ok {D : DK} (h : D.ok) {i : Nat} {b : List UInt8} (hi : i < D.seen.length) (hb : b.length = 64) : (D.wrote i b).ok :=
  ⟨by simp [DK.wrote, h.len], h.sure, fun s hs => (List.mem_or_eq_of_mem_set hs).elim (h.seen s) (fun e => by rw [e, hb]),
    fun x hx => by
      simp only [DK.wrote, List.mem_append, List.mem_singleton, List.length_set] at hx ⊢
      rcases hx with hx | rfl
      · exact h.waits x hx
      · exact ⟨hi, hb⟩,
    by have := h.fuse; show -1 ≤ (if 0 < D.fuse then D.fuse - 1 else D.fuse) ∧ (if 0 < D.fuse then D.fuse - 1 else D.fuse) ≤ 9223372036854775807; split <;> omega, by simpa [DK.wrote] using h.small⟩
theorem DK.synced_ok {D : DK} (h : D.ok) : D.synced.ok := ⟨rfl, h.seen, h.seen, fun x hx => absurd hx (by simp [DK.synced]), h.fuse, h.small⟩
theorem DK.lit_ok {D : DK} (h : D.ok) (n : Int) (hn : n ≤ 9223372036854775807) : (D.lit n).ok :=
  ⟨h.len, h.sure, h.seen, h.waits, by show -1 ≤ (if D.fuse = 0 then 0 else max n (-1)) ∧ (if D.fuse = 0 then 0 else max n (-1)) ≤ 9223372036854775807; split <;> omega, h.small⟩
theorem DK.crashed_ok {D : DK} (h : D.ok) (fs : List UInt8) : (D.crashed fs).ok :=
  ⟨rfl, torn_64 _ _ _ h.sure (fun x hx => by rw [h.len]; exact h.waits x hx), torn_64 _ _ _ h.sure (fun x hx => by rw [h.len]; exact h.waits x hx), fun x hx => absurd hx (by simp [DK.crashed]), by simp [DK.crashed],
    by show (torn _ _ _).length ≤ 4096; rw [torn_length, h.len]; exact h.small⟩

/-- w' is as w, but for what O owned of it; what O' owns is of O, or new. -/
structure Moves (O O' : Nat → Prop) (w w' : World) : Prop where
  os : w'.os = w.os
  tape : w'.tape = w.tape
  output : w'.output = w.output
  size : w.heap.size ≤ w'.heap.size
  block : ∀ k, k < w.heap.size → ¬ O k → w'.heap[k]? = w.heap[k]?
  own : ∀ k, O' k → O k ∨ w.heap.size ≤ k
section
variable {O O' O'' : Nat → Prop} {w w' w'' : World} {B : Nat}
theorem Moves.same (O : Nat → Prop) (w : World) : Moves O O w w := ⟨rfl, rfl, rfl, Nat.le_refl _, fun _ _ _ => rfl, fun _ h => .inl h⟩
theorem Moves.of_below (h : Below w.heap.size w w') : Moves O O w w' := ⟨h.os, h.tape, h.output, h.size, fun k hk _ => h.block k hk, fun _ h => .inl h⟩
theorem Moves.trans (h : Moves O O' w w') (k : Moves O' O'' w' w'') : Moves O O'' w w'' :=
  ⟨k.os.trans h.os, k.tape.trans h.tape, k.output.trans h.output, Nat.le_trans h.size k.size,
    fun i hi hO => (k.block i (Nat.lt_of_lt_of_le hi h.size) (fun hO' => (h.own i hO').elim hO (fun h2 => by omega))).trans (h.block i hi hO),
    fun i hi => (k.own i hi).elim (fun h2 => h.own i h2) (fun h2 => .inr (Nat.le_trans h.size h2))⟩
theorem Moves.below (h : Moves O O' w w') (hO : ∀ k, O k → B ≤ k) (hB : B ≤ w.heap.size) : Below B w w' :=
  ⟨h.os, h.tape, h.output, h.size, fun k hk => h.block k (by omega) (fun hk' => by have := hO k hk'; omega)⟩
theorem Moves.from (h : Moves O O' w w') (hO : ∀ k, O k → B ≤ k) (hB : B ≤ w.heap.size) : ∀ k, O' k → B ≤ k :=
  fun k hk => (h.own k hk).elim (hO k) (fun h2 => Nat.le_trans hB h2)
end
/-- Bytes that a slice has. -/
def BytesAt (w : World) (a : Option Addr) (len : Nat) (l : List UInt8) : Prop :=
  l.length = len ∧ (0 < len → ∃ b off, a = some ⟨b, off, none⟩ ∧ b < w.heap.size ∧ ∀ i, i < len → w.cell? ⟨b, off + i, none⟩ = some (.int .u8 ((l.getD i 0).toNat : Int)))
end Go.Proofs.Ytbekgmcchecnkaa
