/-
  Joined: PrtDo, DskMath, MvcSame, MvcContracts.
-/
import Derived.Test.YthcomfcbdlobpaaSet12
import Derived.Test.YthcomfcbdlobpaaSet16
import Derived.Test.YthcomfcbdlobpaaSet04
import Derived.Below
import Derived.Test.YthcomfcbdlobpaaSet02
import Derived.BigQuiet
import Derived.Test.YthcomfcbdlobpaaSet08
namespace Go.Proofs.Ythcomfcbdlobpaa
open Go.RowKit
set_option linter.unusedVariables false
set_option linter.unnecessarySimpa false
set_option linter.unusedSimpArgs false
set_option maxRecDepth 100000

theorem mayP_cases (S : List Im) (P : List Pd) (t : Tn) (time : Nat) (ws : List Wq) : mayP S P t time ws = 0 ∨ mayP S P t time ws = 1 ∨ mayP S P t time ws = 3 ∨ mayP S P t time ws = 7 ∨ mayP S P t time ws = 8 ∨ mayP S P t time ws = 11 := by
  unfold mayP
  repeat' split
  all_goals simp
def mayN (S : List Im) (P : List Pd) (t : Tn) (time : Nat) (ws : List Wq) : Nat := (mayP S P t time ws).toNat
theorem mayN_is (S : List Im) (P : List Pd) (t : Tn) (time : Nat) (ws : List Wq) : mayP S P t time ws = (mayN S P t time ws : Int) := by
  unfold mayN
  rcases mayP_cases S P t time ws with h | h | h | h | h | h <;> rw [h] <;> rfl
/-- What is prepared behind a Prepare. -/
def prepP (S : List Im) (P : List Pd) (p : Pd) : List Pd := if mayN S P p.t p.start p.w = 0 ∧ ¬ atN p.t P < P.length then P ++ [p] else P
/-- What is prepared, but one. -/
def outP (P : List Pd) (i : Nat) : List Pd := P.take i ++ P.drop (i + 1)
def aboR (P : List Pd) (t : Tn) : List Pd × Nat := if atN t P < P.length then (outP P (atN t P), 0) else (P, 9)
def comR (S : List Im) (P : List Pd) (t : Tn) (time : Nat) : (List Im × List Pd) × Nat :=
  if atN t P < P.length then
    if time ≤ (P.getD (atN t P) pd0).start then ((S, P), 1) else ((insAll S time (P.getD (atN t P) pd0).w, outP P (atN t P)), 0)
  else ((S, P), 9)
def insR (S : List Im) (P : List Pd) (o : Oq) : List Im × Nat := if o.n < 1 ∨ lockedP (o.w.getD 0 wq0).key P = true then (S, 0) else insM S ⟨(o.w.getD 0 wq0).key, ⟨o.time, false, (o.w.getD 0 wq0).val⟩⟩
def Oq.pd (o : Oq) : Pd := ⟨o.t, o.time, o.a, o.n, o.c, o.w⟩
def docS (S : List Im) (P : List Pd) (o : Oq) : List Im := if o.kind % 6 = 3 then (comR S P o.t o.time).1.1 else if o.kind % 6 = 5 then (insR S P o).1 else S
def docP (S : List Im) (P : List Pd) (o : Oq) : List Pd := if o.kind % 6 = 2 then prepP S P o.pd else if o.kind % 6 = 3 then (comR S P o.t o.time).1.2 else if o.kind % 6 = 4 then (aboR P o.t).1 else P
def docV (S : List Im) (P : List Pd) (o : Oq) : Vr := if o.kind % 6 = 0 then readV S P o.key o.time else vr0
def docE (S : List Im) (P : List Pd) (o : Oq) : Nat :=
  if o.kind % 6 = 0 then readE S P o.key o.time else if o.kind % 6 = 1 ∨ o.kind % 6 = 2 then mayN S P o.t o.time o.w else if o.kind % 6 = 3 then (comR S P o.t o.time).2 else if o.kind % 6 = 4 then (aboR P o.t).2 else (insR S P o).2

theorem pdo_any (s : Value) (S : List Im) (a : Option Addr) (len cap : Nat) (P : List Pd) (o : Oq) (w : World) (hS : StV w s S) (hlS : S.length ≤ 900) (hz : IsPds w a len cap P) (hlP : len ≤ 1000) (hnl : a = none → cap = 0) (hw : IsWqs w o.a o.n o.c o.w) (ht : o.time < 18446744073709551616)
    (h8 : ∀ p ∈ P, p.w.length ≤ 8) :
    Calls Try.prog 17 #[.agg #[s, .slice a len cap], .agg (opCells o.kind o.t o.key o.time o.a o.n o.c)] w (DoRes w s (.slice a len cap) (docS S P o) (docP S P o) (docV S P o) (docE S P o)) := by
  have h6 : o.kind % 6 = 0 ∨ o.kind % 6 = 1 ∨ o.kind % 6 = 2 ∨ o.kind % 6 = 3 ∨ o.kind % 6 = 4 ∨ o.kind % 6 = 5 := by omega
  have hcast : ∀ k : Nat, o.kind % 6 = k → (o.kind : Int) % 6 = (k : Int) := fun k h => by omega
  have hle := atN_le o.t P
  rcases h6 with h | h | h | h | h | h
  · have e1 : docS S P o = S := by simp [docS, h]
    have e2 : docP S P o = P := by simp [docP, h]
    have e3 : docV S P o = readV S P o.key o.time := by simp [docV, h]
    have e4 : docE S P o = readE S P o.key o.time := by simp [docE, h]
    rw [e1, e2, e3, e4]
    exact pdo_read s S a len cap P o.kind o.t o.key o.time o.a o.n o.c w hS (by omega) hz hnl ht (hcast 0 h)
  · have e1 : docS S P o = S := by simp [docS, h]
    have e2 : docP S P o = P := by simp [docP, h]
    have e3 : docV S P o = vr0 := by simp [docV, h]
    have e4 : docE S P o = mayN S P o.t o.time o.w := by simp [docE, h]
    rw [e1, e2, e3, e4]
    exact pdo_may s S a len cap P o.kind o.t o.key o.time o.a o.n o.c o.w w hS (by omega) hz hnl hw ht (hcast 1 h) _ (mayN_is S P o.t o.time o.w)
  · have e1 : docS S P o = S := by simp [docS, h]
    have e2 : docP S P o = prepP S P o.pd := by simp [docP, h]
    have e3 : docV S P o = vr0 := by simp [docV, h]
    have e4 : docE S P o = mayN S P o.t o.time o.w := by simp [docE, h]
    rw [e1, e2, e3, e4]
    unfold prepP Oq.pd
    simp only
    have hm := mayN_is S P o.t o.time o.w
    by_cases hc : mayN S P o.t o.time o.w = 0 ∧ ¬ atN o.t P < P.length
    · rw [if_pos hc, hc.1]
      rw [hc.1] at hm
      exact pdo_prep_yes s S a len cap P o.kind o.t o.key o.time o.a o.n o.c o.w w hS (by omega) hz hnl hw ht (hcast 2 h) hlP hm (by unfold atP; rw [if_neg hc.2]; omega)
    · rw [if_neg hc]
      exact pdo_prep_no s S a len cap P o.kind o.t o.key o.time o.a o.n o.c o.w w hS (by omega) hz hnl hw ht (hcast 2 h) _ hm (by
        by_cases h0 : mayN S P o.t o.time o.w = 0
        · right
          have : atN o.t P < P.length := Classical.byContradiction fun hn => hc ⟨h0, hn⟩
          unfold atP
          rw [if_pos this]
          omega
        · exact .inl h0)
  · have e1 : docS S P o = (comR S P o.t o.time).1.1 := by simp [docS, h]
    have e2 : docP S P o = (comR S P o.t o.time).1.2 := by simp [docP, h]
    have e3 : docV S P o = vr0 := by simp [docV, h]
    have e4 : docE S P o = (comR S P o.t o.time).2 := by simp [docE, h]
    rw [e1, e2, e3, e4]
    unfold comR
    by_cases hp : atN o.t P < P.length
    · rw [if_pos hp]
      by_cases ht2 : o.time ≤ (P.getD (atN o.t P) pd0).start
      · rw [if_pos ht2]
        exact pdo_commit_early s S a len cap P o.kind o.t o.key o.time o.a o.n o.c o.w w hS (by omega) hz hnl hw ht (hcast 3 h) _ rfl hp _ rfl ht2
      · rw [if_neg ht2]
        have hm : P.getD (atN o.t P) pd0 ∈ P := by rw [List.getD, List.getElem?_eq_getElem hp]; exact List.getElem_mem hp
        exact pdo_commit s S a len cap P o.kind o.t o.key o.time o.a o.n o.c o.w w hS (by omega) hz hnl hw ht (hcast 3 h) _ rfl hp _ rfl ht2 hlP (by have := h8 _ hm; omega)
    · rw [if_neg hp]
      exact pdo_none s S a len cap P o.kind o.t o.key o.time o.a o.n o.c o.w w hS (by omega) hz hnl hw ht 3 (hcast 3 h) (.inl rfl) hp
  · have e1 : docS S P o = S := by simp [docS, h]
    have e2 : docP S P o = (aboR P o.t).1 := by simp [docP, h]
    have e3 : docV S P o = vr0 := by simp [docV, h]
    have e4 : docE S P o = (aboR P o.t).2 := by simp [docE, h]
    rw [e1, e2, e3, e4]
    unfold aboR
    by_cases hp : atN o.t P < P.length
    · rw [if_pos hp]
      exact pdo_abort s S a len cap P o.kind o.t o.key o.time o.a o.n o.c o.w w hS (by omega) hz hnl hw ht (hcast 4 h) _ rfl hp hlP
    · rw [if_neg hp]
      exact pdo_none s S a len cap P o.kind o.t o.key o.time o.a o.n o.c o.w w hS (by omega) hz hnl hw ht 4 (hcast 4 h) (.inr rfl) hp
  · have e1 : docS S P o = (insR S P o).1 := by simp [docS, h]
    have e2 : docP S P o = P := by simp [docP, h]
    have e3 : docV S P o = vr0 := by simp [docV, h]
    have e4 : docE S P o = (insR S P o).2 := by simp [docE, h]
    rw [e1, e2, e3, e4]
    unfold insR
    by_cases h1 : o.n < 1
    · rw [if_pos (.inl h1)]
      exact pdo_ins_none s S a len cap P o.kind o.t o.key o.time o.a o.n o.c o.w w hS (by omega) hz hnl hw ht (hcast 5 h) h1
    · by_cases h2 : lockedP (o.w.getD 0 wq0).key P = true
      · rw [if_pos (.inr h2)]
        exact pdo_ins_locked s S a len cap P o.kind o.t o.key o.time o.a o.n o.c o.w w hS (by omega) hz hnl hw ht (hcast 5 h) (by omega) h2
      · rw [if_neg (fun h => h.elim h1 h2)]
        exact pdo_ins_yes s S a len cap P o.kind o.t o.key o.time o.a o.n o.c o.w w hS (by omega) hz hnl hw ht (hcast 5 h) (by omega) _ rfl (by simpa using h2) _ rfl
end Go.Proofs.Ythcomfcbdlobpaa

namespace Go.Proofs.Ythcomfcbdlobpaa
open Go.RowKit
set_option linter.unusedVariables false
set_option linter.unnecessarySimpa false
set_option linter.unusedSimpArgs false
set_option maxRecDepth 100000

structure DK where
  sure : List (List UInt8)
  seen : List (List UInt8)
  waits : List (Nat × List UInt8)
  fuse : Int

def fullB (c : UInt8) : List UInt8 := List.replicate 64 c
theorem fullB_length (c : UInt8) : (fullB c).length = 64 := by simp [fullB]
def clampD (n : Int) : Nat := if n < 0 then 0 else if 4096 < n then 4096 else n.toNat
def DK.new (n : Nat) : DK := ⟨List.replicate n (fullB 0), List.replicate n (fullB 0), [], -1⟩
def DK.wrote (D : DK) (i : Nat) (b : List UInt8) : DK := ⟨D.sure, D.seen.set i b, D.waits ++ [(i, b)], if 0 < D.fuse then D.fuse - 1 else D.fuse⟩
def DK.synced (D : DK) : DK := ⟨D.seen, D.seen, [], D.fuse⟩
def DK.lit (D : DK) (n : Int) : DK := ⟨D.sure, D.seen, D.waits, if D.fuse = 0 then 0 else max n (-1)⟩
def tear (f : UInt8) : Nat := if f = 255 then 64 else f.toNat % 64
def tornOne (s : List (List UInt8)) (x : Nat × List UInt8) (f : UInt8) : List (List UInt8) := s.set x.1 (x.2.take (tear f) ++ (s.getD x.1 []).drop (tear f))
def torn : List (List UInt8) → List (Nat × List UInt8) → List UInt8 → List (List UInt8)
  | s, x :: l, f :: fs => torn (tornOne s x f) l fs
  | s, _, _ => s
def DK.crashed (D : DK) (fates : List UInt8) : DK := ⟨torn D.sure D.waits fates, torn D.sure D.waits fates, [], -1⟩
structure DK.ok (D : DK) : Prop where
  len : D.sure.length = D.seen.length
  sure : ∀ s ∈ D.sure, s.length = 64
  seen : ∀ s ∈ D.seen, s.length = 64
  waits : ∀ x ∈ D.waits, x.1 < D.seen.length ∧ x.2.length = 64
  fuse : -1 ≤ D.fuse ∧ D.fuse ≤ 9223372036854775807
  small : D.seen.length ≤ 4096

theorem tornOne_length (s : List (List UInt8)) (x : Nat × List UInt8) (f : UInt8) : (tornOne s x f).length = s.length := by simp [tornOne]
theorem tear_le (f : UInt8) : tear f ≤ 64 := by unfold tear; split <;> omega
theorem tornOne_64 {s : List (List UInt8)} {x : Nat × List UInt8} {f : UInt8} (hs : ∀ t ∈ s, t.length = 64) (hx : x.1 < s.length) (h64 : x.2.length = 64) : ∀ t ∈ tornOne s x f, t.length = 64 := by
  intro t ht
  unfold tornOne at ht
  rcases List.mem_or_eq_of_mem_set ht with h | h
  · exact hs t h
  · have h1 : (s.getD x.1 []).length = 64 := by
      rw [List.getD, List.getElem?_eq_getElem hx]; exact hs _ (List.getElem_mem _)
    have := tear_le f
    rw [h, List.length_append, List.length_take, List.length_drop, h64, h1]
    omega
theorem torn_length : ∀ (s : List (List UInt8)) (l : List (Nat × List UInt8)) (fs : List UInt8), (torn s l fs).length = s.length
  | s, [], _ => by cases ‹List UInt8› <;> rfl
  | s, _ :: _, [] => rfl
  | s, x :: l, f :: fs => by rw [torn, torn_length, tornOne_length]
theorem torn_64 : ∀ (s : List (List UInt8)) (l : List (Nat × List UInt8)) (fs : List UInt8), (∀ t ∈ s, t.length = 64) → (∀ x ∈ l, x.1 < s.length ∧ x.2.length = 64) → ∀ t ∈ torn s l fs, t.length = 64
  | s, [], fs, h, _ => by cases fs <;> exact h
  | s, _ :: _, [], h, _ => h
  | s, x :: l, f :: fs, h, hx => by
    rw [torn]
    have h0 := hx x (by simp)
    exact torn_64 _ l fs (tornOne_64 h h0.1 h0.2) (fun y hy => by rw [tornOne_length]; exact hx y (by simp [hy]))

theorem DK.new_ok {n : Nat} (h : n ≤ 4096) : (DK.new n).ok :=
  ⟨rfl, fun s hs => by rw [List.eq_of_mem_replicate hs]; exact fullB_length 0, fun s hs => by rw [List.eq_of_mem_replicate hs]; exact fullB_length 0, fun x hx => absurd hx (by simp [DK.new]), by simp [DK.new], by simpa [DK.new] using h⟩
theorem DK.wrote_ok {D : DK} (h : D.ok) {i : Nat} {b : List UInt8} (hi : i < D.seen.length) (hb : b.length = 64) : (D.wrote i b).ok :=
  ⟨by simp [DK.wrote, h.len], h.sure, fun s hs => (List.mem_or_eq_of_mem_set hs).elim (h.seen s) (fun e => by rw [e, hb]),
    fun x hx => by
      simp only [DK.wrote, List.mem_append, List.mem_singleton, List.length_set] at hx ⊢
      rcases hx with hx | rfl
      · exact h.waits x hx
      · exact ⟨hi, hb⟩,
    by have := h.fuse; show -1 ≤ (if 0 < D.fuse then D.fuse - 1 else D.fuse) ∧ (if 0 < D.fuse then D.fuse - 1 else D.fuse) ≤ 9223372036854775807; split <;> omega, by simpa [DK.wrote] using h.small⟩
theorem DK.synced_ok {D : DK} (h : D.ok) : D.synced.ok := ⟨rfl, h.seen, h.seen, fun x hx => absurd hx (by simp [DK.synced]), h.fuse, h.small⟩
theorem DK.lit_ok {D : DK} (h : D.ok) (n : Int) (hn : n ≤ 9223372036854775807) : (D.lit n).ok :=
  ⟨h.len, h.sure, h.seen, h.waits, by show -1 ≤ (if D.fuse = 0 then 0 else max n (-1)) ∧ (if D.fuse = 0 then 0 else max n (-1)) ≤ 9223372036854775807; split <;> omega, h.small⟩
theorem DK.crashed_ok {D : DK} (h : D.ok) (fs : List UInt8) : (D.crashed fs).ok :=
  ⟨rfl, torn_64 _ _ _ h.sure (fun x hx => by rw [h.len]; exact h.waits x hx), torn_64 _ _ _ h.sure (fun x hx => by rw [h.len]; exact h.waits x hx), fun x hx => absurd hx (by simp [DK.crashed]), by simp [DK.crashed],
    by show (torn _ _ _).length ≤ 4096; rw [torn_length, h.len]; exact h.small⟩

/-- w' is as w, but for what O owned of it; what O' owns is of O, or new. -/
structure Moves (O O' : Nat → Prop) (w w' : World) : Prop where
  os : w'.os = w.os
  tape : w'.tape = w.tape
  output : w'.output = w.output
  size : w.heap.size ≤ w'.heap.size
  block : ∀ k, k < w.heap.size → ¬ O k → w'.heap[k]? = w.heap[k]?
  own : ∀ k, O' k → O k ∨ w.heap.size ≤ k
section
variable {O O' O'' : Nat → Prop} {w w' w'' : World} {B : Nat}
theorem Moves.same (O : Nat → Prop) (w : World) : Moves O O w w := ⟨rfl, rfl, rfl, Nat.le_refl _, fun _ _ _ => rfl, fun _ h => .inl h⟩
theorem Moves.of_below (h : Below w.heap.size w w') : Moves O O w w' := ⟨h.os, h.tape, h.output, h.size, fun k hk _ => h.block k hk, fun _ h => .inl h⟩
theorem Moves.trans (h : Moves O O' w w') (k : Moves O' O'' w' w'') : Moves O O'' w w'' :=
  ⟨k.os.trans h.os, k.tape.trans h.tape, k.output.trans h.output, Nat.le_trans h.size k.size,
    fun i hi hO => (k.block i (Nat.lt_of_lt_of_le hi h.size) (fun hO' => (h.own i hO').elim hO (fun h2 => by omega))).trans (h.block i hi hO),
    fun i hi => (k.own i hi).elim (fun h2 => h.own i h2) (fun h2 => .inr (Nat.le_trans h.size h2))⟩
theorem Moves.below (h : Moves O O' w w') (hO : ∀ k, O k → B ≤ k) (hB : B ≤ w.heap.size) : Below B w w' :=
  ⟨h.os, h.tape, h.output, h.size, fun k hk => h.block k (by omega) (fun hk' => by have := hO k hk'; omega)⟩
theorem Moves.from (h : Moves O O' w w') (hO : ∀ k, O k → B ≤ k) (hB : B ≤ w.heap.size) : ∀ k, O' k → B ≤ k :=
  fun k hk => (h.own k hk).elim (hO k) (fun h2 => Nat.le_trans hB h2)
end
/-- Bytes that a slice has. -/
def BytesAt (w : World) (a : Option Addr) (len : Nat) (l : List UInt8) : Prop :=
  l.length = len ∧ (0 < len → ∃ b off, a = some ⟨b, off, none⟩ ∧ b < w.heap.size ∧ ∀ i, i < len → w.cell? ⟨b, off + i, none⟩ = some (.int .u8 ((l.getD i 0).toNat : Int)))
end Go.Proofs.Ythcomfcbdlobpaa

namespace Go.Proofs.Ythcomfcbdlobpaa
open Go.RowKit
set_option linter.unusedVariables false
set_option linter.unnecessarySimpa false
set_option linter.unusedSimpArgs false
set_option maxRecDepth 100000

/-- A write: its key, its value. -/
abbrev Wt := ByteArray × ByteArray
def wt0 : Wt := (⟨#[]⟩, ⟨#[]⟩)
def WtAt (W : World) (b off : Nat) (m : Wt) : Prop :=
  b < W.heap.size ∧ m.1.size ≤ maxLen ∧ m.2.size ≤ maxLen ∧ W.cell? ⟨b, off, none⟩ = some (.string m.1) ∧ W.cell? ⟨b, off + 1, none⟩ = some (.bool false) ∧ W.cell? ⟨b, off + 2, none⟩ = some (.string m.2)
def IsWts (W : World) (a : Option Addr) (len _cap : Nat) (L : List Wt) : Prop := L.length = len ∧ len ≤ maxLen ∧ ∀ i, i < len → ∃ b off, a = some ⟨b, off, none⟩ ∧ WtAt W b (off + i * 3) (L.getD i wt0)
theorem WtAt.below {W W' : World} {b off : Nat} {m : Wt} (h : WtAt W b off m) (hb : Below W.heap.size W W') : WtAt W' b off m := by
  obtain ⟨h1, h2, h3, k0, k1, k2⟩ := h
  exact ⟨Nat.lt_of_lt_of_le h1 hb.size, h2, h3, (hb.cell (p := ⟨b, off, none⟩) h1).trans k0, (hb.cell (p := ⟨b, off + 1, none⟩) h1).trans k1, (hb.cell (p := ⟨b, off + 2, none⟩) h1).trans k2⟩
theorem IsWts.below {W W' : World} {a : Option Addr} {len cap : Nat} {L : List Wt} (h : IsWts W a len cap L) (hb : Below W.heap.size W W') : IsWts W' a len cap L :=
  ⟨h.1, h.2.1, fun i hi => by obtain ⟨b, off, ha, he⟩ := h.2.2 i hi; exact ⟨b, off, ha, he.below hb⟩⟩
/-- A list of keys. -/
def IsKs (W : World) (a : Option Addr) (len _cap : Nat) (L : List ByteArray) : Prop := L.length = len ∧ len ≤ maxLen ∧ ∀ i, i < len → ∃ b off, a = some ⟨b, off, none⟩ ∧ b < W.heap.size ∧ (L.getD i ⟨#[]⟩).size ≤ maxLen ∧ W.cell? ⟨b, off + i, none⟩ = some (.string (L.getD i ⟨#[]⟩))
theorem IsKs.below {W W' : World} {a : Option Addr} {len cap : Nat} {L : List ByteArray} (h : IsKs W a len cap L) (hb : Below W.heap.size W W') : IsKs W' a len cap L :=
  ⟨h.1, h.2.1, fun i hi => by obtain ⟨b, off, ha, h1, h2, h3⟩ := h.2.2 i hi; exact ⟨b, off, ha, Nat.lt_of_lt_of_le h1 hb.size, h2, (hb.cell (p := ⟨b, off + i, none⟩) h1).trans h3⟩⟩

end Go.Proofs.Ythcomfcbdlobpaa

namespace Go.Proofs.Ythcomfcbdlobpaa
open Go.RowKit
set_option linter.unusedVariables false
set_option linter.unnecessarySimpa false
set_option linter.unusedSimpArgs false
set_option maxRecDepth 100000

def ltK (a b : ByteArray) : Bool := Op.bytesLess a.toList b.toList
/-- Where a key stands among keys that rise. -/
def posK (k : ByteArray) : List ByteArray → Nat
  | [] => 0
  | x :: l => if ltK x k then posK k l + 1 else 0
def keyStep (l : List ByteArray) (k : ByteArray) : List ByteArray := if decide (posK k l < l.length) && sameK (l.getD (posK k l) ⟨#[]⟩) k then l else l.take (posK k l) ++ [k] ++ l.drop (posK k l)
def keysM (L : List Im) : List ByteArray := L.foldl (fun l m => keyStep l m.key) []
theorem keysM_snoc (L : List Im) (m : Im) : keysM (L ++ [m]) = keyStep (keysM L) m.key := by unfold keysM; rw [List.foldl_append]; rfl
/-- What a key is told with. -/
def scanOne (L : List Im) (lo hi : ByteArray) (t : Nat) (k : ByteArray) : Option Wt :=
  if (!ltK k lo && (hi.toList.isEmpty || ltK k hi)) && ((bestOf k t L).2 && !(bestOf k t L).1.gone) then some (k, (bestOf k t L).1.val) else none
def scanM (L : List Im) (lo hi : ByteArray) (t : Nat) (most : Int) : List Wt := ((keysM L).filterMap (scanOne L lo hi t)).take most.toNat

/-- What comes later changes nothing at earlier times. -/
theorem best_later (L : List Im) (m : Im) (k : ByteArray) (t : Nat) (h : t < m.v.time) : bestOf k t (L ++ [m]) = bestOf k t L := by
  rw [bestOf_snoc]
  unfold bestStep
  rw [show decide (m.v.time ≤ t) = false by simpa using h, Bool.false_and, Bool.and_false]
  rfl
theorem best_none (L : List Im) (k : ByteArray) (t : Nat) (h : ∀ m ∈ L, sameK m.key k = false) : bestOf k t L = (vr0, false) := by
  unfold bestOf
  suffices ∀ r, L.foldl (bestStep k t) r = r from this _
  induction L with
  | nil => intro r; rfl
  | cons x L ih =>
    intro r
    rw [List.foldl_cons, show bestStep k t r x = r by unfold bestStep; rw [h x (by simp), Bool.false_and]; rfl]
    exact ih (fun m hm => h m (by simp [hm])) r
theorem ins_cases (L : List Im) (m : Im) : (insM L m).1 = L ∨ (insM L m).1 = L ++ [m] := by
  unfold insM
  repeat' split
  all_goals first | exact .inl rfl | exact .inr rfl
theorem sameK_eq {a b : ByteArray} (h : sameK a b = true) : a.toList = b.toList := by unfold sameK at h; simpa using h
theorem sameK_of {a b : ByteArray} (h : a.toList = b.toList) : sameK a b = true := by unfold sameK; simpa using h
theorem mem_keyStep {l : List ByteArray} {k x : ByteArray} (h : x ∈ l) : x ∈ keyStep l k := by
  unfold keyStep
  split
  · exact h
  · rw [← List.take_append_drop (posK k l) l, List.mem_append] at h
    simp only [List.mem_append]
    rcases h with h | h
    · exact .inl (.inl h)
    · exact .inr h
theorem key_there {l : List ByteArray} {k : ByteArray} : ∃ x ∈ keyStep l k, sameK x k = true := by
  unfold keyStep
  split
  · rename_i h
    rw [Bool.and_eq_true, decide_eq_true_eq] at h
    exact ⟨_, by rw [List.getD, List.getElem?_eq_getElem h.1]; exact List.getElem_mem h.1, h.2⟩
  · exact ⟨k, by simp, sameK_of rfl⟩
theorem scan_later (L : List Im) (m : Im) (lo hi : ByteArray) (t : Nat) (most : Int) (h : t < m.v.time) (hnew : (keyStep (keysM L) m.key = keysM L) ∨ bestOf m.key t L = (vr0, false)) : scanM (L ++ [m]) lo hi t most = scanM L lo hi t most := by
  have hf : scanOne (L ++ [m]) lo hi t = scanOne L lo hi t := by funext k; unfold scanOne; rw [best_later L m k t h]
  unfold scanM
  rw [hf, keysM_snoc]
  congr 1
  rcases hnew with e | e
  · rw [e]
  · unfold keyStep
    split
    · rfl
    · have hn : scanOne L lo hi t m.key = none := by unfold scanOne; rw [e]; simp
      rw [List.filterMap_append, List.filterMap_append, List.filterMap_cons_none hn, List.filterMap_nil, List.append_nil, ← List.filterMap_append, List.take_append_drop]

/-- A store of the program's: 'At w r L O': in w, the one at r has the versions L, as they came; O is what it owns. -/
structure MvcC where
  At : World → Addr → List Im → (Nat → Prop) → Prop
  lt : ∀ {w r L O}, At w r L O → ∀ k, O k → k < w.heap.size
  stay : ∀ {w w' r L O}, At w r L O → (∀ k, O k → w'.heap[k]? = w.heap[k]?) → At w' r L O
  new : ∀ (w : World), Calls Try.prog 8 #[] w fun e w' => ∃ r O, e = .returned (.pointer (some r)) ∧ At w' r [] O ∧ Moves (fun _ => False) O w w'
  install : ∀ {w r L O}, At w r L O → ∀ m : Im, L.length ≤ 1000 → m.key.size ≤ maxLen → m.v.val.size ≤ maxLen → m.v.time < 18446744073709551616 →
    Calls Try.prog 16 #[.pointer (some r), .string m.key, .agg #[.int .u64 (m.v.time : Int), .bool m.v.gone, .string m.v.val]] w fun e w' => ∃ O', e = .returned (.int .i64 ((insM L m).2 : Int)) ∧ At w' r (insM L m).1 O' ∧ Moves O O' w w'
  at_ : ∀ {w r L O}, At w r L O → ∀ (key : ByteArray) (t : Nat), key.size ≤ maxLen → t < 18446744073709551616 →
    Calls Try.prog 23 #[.pointer (some r), .string key, .int .u64 (t : Int)] w fun e w' => e = .returned (.tuple #[.agg (bestOf key t L).1.cells, .bool (bestOf key t L).2]) ∧ Below w.heap.size w w'
  last : ∀ {w r L O}, At w r L O → ∀ (key : ByteArray), key.size ≤ maxLen → Calls Try.prog 25 #[.pointer (some r), .string key] w fun e w' => e = .returned (.int .u64 ((lastOf key L).1 : Int)) ∧ Below w.heap.size w w'
  room : ∀ {w r L O}, At w r L O → ∀ (key : ByteArray), key.size ≤ maxLen → Calls Try.prog 27 #[.pointer (some r), .string key] w fun e w' => e = .returned (.bool (decide ((lastOf key L).2 < 200))) ∧ Below w.heap.size w w'

/-- A store beside a call's own memory: below B the world is as w0. -/
def MSt (S : MvcC) (w0 : World) (B : Nat) (far : Nat → Prop) (r : Addr) (L : List Im) (w : World) : Prop :=
  ∃ O, S.At w r L O ∧ (∀ k, O k → B ≤ k ∧ ¬ far k) ∧ Below B w0 w ∧ B ≤ w.heap.size ∧ (∀ k, far k → k < w.heap.size)
def FarSame (far : Nat → Prop) (w w' : World) : Prop := w.heap.size ≤ w'.heap.size ∧ ∀ k, far k → w'.heap[k]? = w.heap[k]?
section
variable {S : MvcC} {w0 w w' : World} {B : Nat} {far : Nat → Prop} {r : Addr} {L L' : List Im}
theorem MSt.below (h : MSt S w0 B far r L w) : Below B w0 w := by obtain ⟨O, _, _, hb, _⟩ := h; exact hb
theorem MSt.step {O O' : Nat → Prop} (hO : ∀ k, O k → B ≤ k ∧ ¬ far k) (hb : Below B w0 w) (hB : B ≤ w.heap.size) (hf : ∀ k, far k → k < w.heap.size) (h : S.At w' r L' O') (hm : Moves O O' w w') : MSt S w0 B far r L' w' ∧ FarSame far w w' :=
  ⟨⟨O', h, fun k hk => (hm.own k hk).elim (hO k) (fun h2 => ⟨Nat.le_trans hB h2, fun hx => by have := hf k hx; omega⟩), hb.trans (hm.below (fun k hk => (hO k hk).1) hB), Nat.le_trans hB hm.size, fun k hk => Nat.lt_of_lt_of_le (hf k hk) hm.size⟩,
    hm.size, fun k hk => hm.block k (hf k hk) (fun hx => (hO k hx).2 hk)⟩
theorem MSt.later (h : MSt S w0 B far r L w) (hb : Below w.heap.size w w') : MSt S w0 B far r L w' := by
  obtain ⟨O, hat, hO, hb0, hB, hf⟩ := h
  exact (MSt.step hO hb0 hB hf (S.stay hat fun k hk => hb.block k (S.lt hat k hk)) (Moves.of_below hb)).1
theorem MSt.install (h : MSt S w0 B far r L w) (m : Im) (hl : L.length ≤ 1000) (h1 : m.key.size ≤ maxLen) (h2 : m.v.val.size ≤ maxLen) (h3 : m.v.time < 18446744073709551616) :
    Calls Try.prog 16 #[.pointer (some r), .string m.key, .agg #[.int .u64 (m.v.time : Int), .bool m.v.gone, .string m.v.val]] w fun e w' => e = .returned (.int .i64 ((insM L m).2 : Int)) ∧ MSt S w0 B far r (insM L m).1 w' ∧ FarSame far w w' := by
  obtain ⟨O, hat, hO, hb, hB, hf⟩ := h
  exact (S.install hat m hl h1 h2 h3).mono fun e w' ⟨O', he, h1, h2⟩ => ⟨he, MSt.step hO hb hB hf h1 h2⟩
theorem MSt.at_ (h : MSt S w0 B far r L w) (key : ByteArray) (t : Nat) (h1 : key.size ≤ maxLen) (h2 : t < 18446744073709551616) :
    Calls Try.prog 23 #[.pointer (some r), .string key, .int .u64 (t : Int)] w fun e w' => e = .returned (.tuple #[.agg (bestOf key t L).1.cells, .bool (bestOf key t L).2]) ∧ MSt S w0 B far r L w' ∧ Below w.heap.size w w' := by
  obtain ⟨O, hat, _⟩ := id h
  exact (S.at_ hat key t h1 h2).mono fun e w' ⟨he, hb⟩ => ⟨he, h.later hb, hb⟩
theorem MSt.last (h : MSt S w0 B far r L w) (key : ByteArray) (h1 : key.size ≤ maxLen) :
    Calls Try.prog 25 #[.pointer (some r), .string key] w fun e w' => e = .returned (.int .u64 ((lastOf key L).1 : Int)) ∧ MSt S w0 B far r L w' ∧ Below w.heap.size w w' := by
  obtain ⟨O, hat, _⟩ := id h
  exact (S.last hat key h1).mono fun e w' ⟨he, hb⟩ => ⟨he, h.later hb, hb⟩
theorem MSt.room (h : MSt S w0 B far r L w) (key : ByteArray) (h1 : key.size ≤ maxLen) :
    Calls Try.prog 27 #[.pointer (some r), .string key] w fun e w' => e = .returned (.bool (decide ((lastOf key L).2 < 200))) ∧ MSt S w0 B far r L w' ∧ Below w.heap.size w w' := by
  obtain ⟨O, hat, _⟩ := id h
  exact (S.room hat key h1).mono fun e w' ⟨he, hb⟩ => ⟨he, h.later hb, hb⟩
/-- A block that is new is far, too. -/
theorem MSt.more (h : MSt S w0 B far r L w) (hb : Below w.heap.size w w') (g : Nat) (h1 : w.heap.size ≤ g) (h2 : g < w'.heap.size) : MSt S w0 B (fun k => far k ∨ k = g) r L w' := by
  obtain ⟨O, hat, hO, hb0, hB, hf⟩ := h
  refine ⟨O, S.stay hat fun k hk => hb.block k (S.lt hat k hk), fun k hk => ⟨(hO k hk).1, ?_⟩, hb0.trans (hb.mono hB), Nat.le_trans hB hb.size, ?_⟩
  · rintro (h | rfl)
    · exact (hO k hk).2 h
    · have := S.lt hat k hk
      omega
  · rintro k (h | rfl)
    · exact Nat.lt_of_lt_of_le (hf k h) hb.size
    · exact h2
theorem mst_new (S : MvcC) {w0 w : World} {B : Nat} {far : Nat → Prop} (hb : Below B w0 w) (hB : B ≤ w.heap.size) (hf : ∀ k, far k → k < w.heap.size) :
    Calls Try.prog 8 #[] w fun e w' => ∃ r, e = .returned (.pointer (some r)) ∧ MSt S w0 B far r [] w' ∧ FarSame far w w' :=
  (S.new w).mono fun e w' ⟨r, O, he, h1, h2⟩ => ⟨r, he, MSt.step (O := fun _ => False) (fun k hk => hk.elim) hb hB hf h1 h2⟩
end

def awIm : Im := ⟨⟨#[107]⟩, ⟨5, false, ⟨#[]⟩⟩⟩
theorem aw_ins : insM [] awIm = ([awIm], 0) := by
  unfold insM badIm awIm lastOf
  simp
  decide
theorem aw_last : lastOf awIm.key [awIm] = (5, 1) := by
  unfold lastOf
  simp [lastOf, sameK, awIm]
end Go.Proofs.Ythcomfcbdlobpaa
