/-
  Joined: MvcMath, PrtMath, PrtAt, PrtLock.
-/
import Derived.Test.YthcomfcbdlobpaaSet01
import Derived.Deep.LoopGhost
import Derived.Deep.DeepCutAuto
import Derived.Deep.CutBlock
import Derived.BigQuiet
import Derived.RegionTactic
import Derived.Deep.QuietTactic
import Derived.Laws.StructEq
import Derived.ChangeKeysEq
namespace Go.Proofs.Ythcomfcbdlobpaa
open Go.RowKit
set_option linter.unusedVariables false
set_option linter.unnecessarySimpa false
set_option linter.unusedSimpArgs false
set_option maxRecDepth 100000

/-- A version of a key. -/
structure Im where
  key : ByteArray
  v : Vr
def im0 : Im := ⟨⟨#[]⟩, vr0⟩
def ItmAt (W : World) (b off : Nat) (m : Im) : Prop :=
  b < W.heap.size ∧ m.key.size ≤ maxLen ∧ m.v.val.size ≤ maxLen ∧ m.v.time < 18446744073709551616 ∧ W.cell? ⟨b, off, none⟩ = some (.string m.key) ∧ W.cell? ⟨b, off + 1, none⟩ = some (.int .u64 (m.v.time : Int)) ∧
    W.cell? ⟨b, off + 1 + 1, none⟩ = some (.bool m.v.gone) ∧ W.cell? ⟨b, off + 1 + 2, none⟩ = some (.string m.v.val)
def IsItms (W : World) (a : Option Addr) (len _cap : Nat) (L : List Im) : Prop := L.length = len ∧ len ≤ maxLen ∧ ∀ i, i < len → ∃ b off, a = some ⟨b, off, none⟩ ∧ ItmAt W b (off + i * 4) (L.getD i im0)
theorem ItmAt.below {W W' : World} {b off : Nat} {m : Im} (h : ItmAt W b off m) (hb : Below W.heap.size W W') : ItmAt W' b off m := by
  obtain ⟨h1, h2, h3, h4, k0, k1, k2, k3⟩ := h
  exact ⟨Nat.lt_of_lt_of_le h1 hb.size, h2, h3, h4, (hb.cell (p := ⟨b, off, none⟩) h1).trans k0, (hb.cell (p := ⟨b, off + 1, none⟩) h1).trans k1, (hb.cell (p := ⟨b, off + 1 + 1, none⟩) h1).trans k2, (hb.cell (p := ⟨b, off + 1 + 2, none⟩) h1).trans k3⟩
theorem IsItms.below {W W' : World} {a : Option Addr} {len cap : Nat} {L : List Im} (h : IsItms W a len cap L) (hb : Below W.heap.size W W') : IsItms W' a len cap L :=
  ⟨h.1, h.2.1, fun i hi => by obtain ⟨b, off, ha, he⟩ := h.2.2 i hi; exact ⟨b, off, ha, he.below hb⟩⟩

def fewIm (m : Im) : Prop := m.key.size ≤ 300 ∧ m.v.val.size ≤ 700
def FewIms (L : List Im) (n : Nat) : Prop := (∀ i, i < L.length → i < 500 → fewIm (L.getD i im0)) ∧ L.length ≤ n
open Classical in
noncomputable def fewM (L : List Im) (n : Nat) : Bool := decide (FewIms L n)
theorem fewM_true {L : List Im} {n : Nat} : fewM L n = true ↔ FewIms L n := by unfold fewM; simp

/-! The last time of a key, and how many versions it has. -/
def sameK (a b : ByteArray) : Bool := a.toList == b.toList
def lastOf (key : ByteArray) : List Im → Nat × Nat
  | [] => (0, 0)
  | m :: L => let r := lastOf key L; if sameK m.key key then (max m.v.time r.1, r.2 + 1) else r
def lastStep (key : ByteArray) (r : Nat × Nat) (m : Im) : Nat × Nat := if sameK m.key key then (max r.1 m.v.time, r.2 + 1) else r
theorem lastOf_snoc (key : ByteArray) : ∀ (L : List Im) (m : Im), lastOf key (L ++ [m]) = lastStep key (lastOf key L) m
  | [], m => by
    show (if sameK m.key key then (max m.v.time 0, 0 + 1) else ((0, 0) : Nat × Nat)) = _
    unfold lastStep
    split <;> simp [lastOf]
  | x :: L, m => by
    rw [List.cons_append]
    simp only [lastOf]
    rw [lastOf_snoc key L m]
    unfold lastStep
    by_cases h1 : sameK x.key key = true <;> by_cases h2 : sameK m.key key = true <;> simp [h1, h2, Nat.max_assoc]
theorem lastOf_le (key : ByteArray) : ∀ L : List Im, (lastOf key L).2 ≤ L.length
  | [] => Nat.le_refl _
  | m :: L => by
    have := lastOf_le key L
    simp only [lastOf, List.length_cons]
    split
    · simp only; omega
    · omega
theorem takeI_succ (L : List Im) {i : Nat} (h : i < L.length) : L.take (i + 1) = L.take i ++ [L.getD i im0] := by rw [List.take_add_one, List.getD, List.getElem?_eq_getElem h]; rfl

set_option maxHeartbeats 2000000 in
theorem mlast_any (a : Option Addr) (len cap : Nat) (L : List Im) (key : ByteArray) (w : World) (hz : IsItms w a len cap L) (hl : len ≤ 100000) :
    Calls Try.prog 52 #[.agg #[.slice a len cap], .string key] w fun e w' => e = .returned (.tuple #[.int .u64 (lastOf key L).1, .int .i64 (lastOf key L).2]) ∧ Below w.heap.size w w' := by
  have HZ := Lib.hid hz
  have hel := Lib.hid hz.1
  clear hz
  go_enter Try.func52, Try.ntmps52
  go_wp2_with fail
  go_loopg [6, 7, 8] len (fun g s6 s7 s8 wx => ∃ (i t n : Nat), i + g = len ∧ s6 = .int .u64 t ∧ s7 = .int .i64 n ∧ s8 = .int .i64 i ∧ n ≤ i ∧ Hid (lastOf key (L.take i) = (t, n)) ∧ w.alloc (.cells #[.slice a len cap] 31) = wx)
  case atStart => exact ⟨0, 0, 0, by omega, rfl, rfl, rfl, by omega, Lib.hid rfl, rfl⟩
  case round =>
    obtain ⟨i, t, n, hig, rfl, rfl, rfl, hni, HL, rfl⟩ := hrel
    cases gk with
    | zero =>
      obtain rfl : i = len := by omega
      have hfin := HL.out
      rw [List.take_of_length_le (Nat.le_of_eq hel.out)] at hfin
      have HFin := Lib.hid hfin
      clear hfin
      go_wp2_with fail
      go_ret2
      exact ⟨by rw [HFin.out]; rfl, (Below.refl _ _).alloc (Nat.le_refl _) _⟩
    | succ g =>
      have hil : i < len := by omega
      have hiz : (i : Int) < (len : Int) := by omega
      have hie : i < L.length := by rw [hel.out]; exact hil
      obtain ⟨b, off, rfl, hbl, _, _, ht64, k0, k1, _, _⟩ := (HZ.out).2.2 i hil
      have HS := Lib.hid (lastOf_snoc key (L.take i) (L.getD i im0))
      rw [← takeI_succ L hie, HL.out] at HS
      unfold lastStep sameK at HS
      obtain ⟨K, hK⟩ : ∃ K, K = (L.getD i im0).key := ⟨_, rfl⟩
      obtain ⟨T, hT⟩ : ∃ T, T = (L.getD i im0).v.time := ⟨_, rfl⟩
      rw [← hK, ← hT] at HS
      rw [← hK] at k0
      rw [← hT] at k1 ht64
      obtain ⟨E, hE⟩ : ∃ E, E = (K.toList == key.toList) := ⟨_, rfl⟩
      rw [← hE] at HS
      have hE2 := hE.symm
      clear hE hK hT HL
      cases E with
      | false =>
        have HS2 := Lib.hid (show lastOf key (L.take (i + 1)) = (t, n) by rw [HS.out]; rfl)
        clear HS
        go_wp2_with fail
        go_roundg g
        case measure => omega
        case rel => exact ⟨i + 1, t, n, by omega, rfl, rfl, by go_num, by omega, HS2, rfl⟩
      | true =>
        have HS2 := Lib.hid (show lastOf key (L.take (i + 1)) = (max t T, n + 1) by rw [HS.out]; rfl)
        have hmx : (max (t : Int) (T : Int)) = ((max t T : Nat) : Int) := by omega
        clear HS
        go_wp2_with fail
        all_goals
          go_roundg g
          case measure => omega
          case rel => exact ⟨i + 1, max t T, n + 1, by omega, by first | rfl | (congr 1; omega), by go_num, by go_num, by omega, HS2, rfl⟩
end Go.Proofs.Ythcomfcbdlobpaa

namespace Go.Proofs.Ythcomfcbdlobpaa
open Go.RowKit
set_option linter.unusedVariables false
set_option linter.unnecessarySimpa false
set_option linter.unusedSimpArgs false
set_option maxRecDepth 100000

/-- A write. -/
structure Wq where
  key : ByteArray
  gone : Bool
  val : ByteArray
def wq0 : Wq := ⟨⟨#[]⟩, false, ⟨#[]⟩⟩
def WqAt (W : World) (b off : Nat) (m : Wq) : Prop :=
  b < W.heap.size ∧ m.key.size ≤ maxLen ∧ m.val.size ≤ maxLen ∧ W.cell? ⟨b, off, none⟩ = some (.string m.key) ∧ W.cell? ⟨b, off + 1, none⟩ = some (.bool m.gone) ∧ W.cell? ⟨b, off + 2, none⟩ = some (.string m.val)
def IsWqs (W : World) (a : Option Addr) (len cap : Nat) (L : List Wq) : Prop := L.length = len ∧ len ≤ maxLen ∧ len ≤ cap ∧ ∀ i, i < len → ∃ b off, a = some ⟨b, off, none⟩ ∧ WqAt W b (off + i * 3) (L.getD i wq0)
theorem WqAt.below {W W' : World} {b off : Nat} {m : Wq} (h : WqAt W b off m) (hb : Below W.heap.size W W') : WqAt W' b off m := by
  obtain ⟨h1, h2, h3, k0, k1, k2⟩ := h
  exact ⟨Nat.lt_of_lt_of_le h1 hb.size, h2, h3, (hb.cell (p := ⟨b, off, none⟩) h1).trans k0, (hb.cell (p := ⟨b, off + 1, none⟩) h1).trans k1, (hb.cell (p := ⟨b, off + 2, none⟩) h1).trans k2⟩
theorem IsWqs.below {W W' : World} {a : Option Addr} {len cap : Nat} {L : List Wq} (h : IsWqs W a len cap L) (hb : Below W.heap.size W W') : IsWqs W' a len cap L :=
  ⟨h.1, h.2.1, h.2.2.1, fun i hi => by obtain ⟨b, off, ha, he⟩ := h.2.2.2 i hi; exact ⟨b, off, ha, he.below hb⟩⟩
/-- A transaction's number. -/
structure Tn where
  node : Int
  life : Int
  seq : Int
deriving DecidableEq
def Tn.ok (t : Tn) : Prop := (Lit.int .i64 t.node).wf = true ∧ (Lit.int .i64 t.life).wf = true ∧ (Lit.int .i64 t.seq).wf = true
def Tn.cells (t : Tn) : Array Value := #[.int .i64 t.node, .int .i64 t.life, .int .i64 t.seq]
/-- One that is prepared, with the words of its slice of writes. -/
structure Pd where
  t : Tn
  start : Nat
  a : Option Addr
  n : Nat
  c : Nat
  w : List Wq
def pd0 : Pd := ⟨⟨0, 0, 0⟩, 0, none, 0, 0, []⟩
def PdAt (W : World) (b off : Nat) (p : Pd) : Prop :=
  b < W.heap.size ∧ p.start < 18446744073709551616 ∧ IsWqs W p.a p.n p.c p.w ∧ W.cell? ⟨b, off, none⟩ = some (.int .i64 p.t.node) ∧ W.cell? ⟨b, off + 1, none⟩ = some (.int .i64 p.t.life) ∧ W.cell? ⟨b, off + 2, none⟩ = some (.int .i64 p.t.seq) ∧
    W.cell? ⟨b, off + 3, none⟩ = some (.int .u64 (p.start : Int)) ∧ W.cell? ⟨b, off + 4, none⟩ = some (.slice p.a p.n p.c)
def IsPds (W : World) (a : Option Addr) (len cap : Nat) (L : List Pd) : Prop := L.length = len ∧ len ≤ maxLen ∧ len ≤ cap ∧ ∀ i, i < len → ∃ b off, a = some ⟨b, off, none⟩ ∧ PdAt W b (off + i * 5) (L.getD i pd0)
theorem PdAt.below {W W' : World} {b off : Nat} {p : Pd} (h : PdAt W b off p) (hb : Below W.heap.size W W') : PdAt W' b off p := by
  obtain ⟨h1, h2, h3, k0, k1, k2, k3, k4⟩ := h
  exact ⟨Nat.lt_of_lt_of_le h1 hb.size, h2, h3.below hb, (hb.cell (p := ⟨b, off, none⟩) h1).trans k0, (hb.cell (p := ⟨b, off + 1, none⟩) h1).trans k1, (hb.cell (p := ⟨b, off + 2, none⟩) h1).trans k2, (hb.cell (p := ⟨b, off + 3, none⟩) h1).trans k3, (hb.cell (p := ⟨b, off + 4, none⟩) h1).trans k4⟩
theorem IsPds.below {W W' : World} {a : Option Addr} {len cap : Nat} {L : List Pd} (h : IsPds W a len cap L) (hb : Below W.heap.size W W') : IsPds W' a len cap L :=
  ⟨h.1, h.2.1, h.2.2.1, fun i hi => by obtain ⟨b, off, ha, he⟩ := h.2.2.2 i hi; exact ⟨b, off, ha, he.below hb⟩⟩
/-- Where one that is prepared stands; how many there are, if it isn't. -/
def atN (t : Tn) : List Pd → Nat
  | [] => 0
  | p :: l => if p.t = t then 0 else atN t l + 1
def atP (t : Tn) (P : List Pd) : Int := if atN t P < P.length then (atN t P : Int) else -1
theorem atN_le (t : Tn) : ∀ P : List Pd, atN t P ≤ P.length
  | [] => Nat.le_refl _
  | p :: l => by
    have := atN_le t l
    unfold atN
    split
    · omega
    · simp; omega
theorem atN_at {t : Tn} : ∀ {P : List Pd} {i : Nat}, i < P.length → (∀ j, j < i → (P.getD j pd0).t ≠ t) → (P.getD i pd0).t = t → atN t P = i
  | [], i, h, _, _ => by simp at h
  | p :: l, 0, _, _, h => by
    unfold atN
    rw [if_pos (by simpa using h)]
  | p :: l, i + 1, h, h1, h2 => by
    unfold atN
    rw [if_neg (by have := h1 0 (by omega); simpa using this), atN_at (by simpa using h) (fun j hj => by have := h1 (j + 1) (by omega); simpa using this) (by simpa using h2)]
theorem atN_none {t : Tn} : ∀ {P : List Pd}, (∀ j, j < P.length → (P.getD j pd0).t ≠ t) → atN t P = P.length
  | [], _ => rfl
  | p :: l, h => by
    unfold atN
    rw [if_neg (by have := h 0 (by simp); simpa using this), atN_none (fun j hj => by have := h (j + 1) (by simpa using hj); simpa using this)]
    rfl
/-- Is a key locked? -/
def hasK (key : ByteArray) (l : List Wq) : Bool := l.any fun m => sameK m.key key
def lockedP (key : ByteArray) (P : List Pd) : Bool := P.any fun p => hasK key p.w
theorem any_getD {α : Type} {f : α → Bool} {d : α} {l : List α} {i : Nat} (hi : i < l.length) (h : f (l.getD i d) = true) : l.any f = true :=
  List.any_eq_true.2 ⟨l.getD i d, by rw [List.getD, List.getElem?_eq_getElem hi]; exact List.getElem_mem hi, h⟩
theorem any_none {α : Type} {f : α → Bool} {d : α} {l : List α} (h : ∀ i, i < l.length → f (l.getD i d) = false) : l.any f = false := by
  rw [List.any_eq_false]
  intro x hx
  obtain ⟨i, hi, rfl⟩ := List.mem_iff_getElem.1 hx
  have := h i hi
  rw [List.getD, List.getElem?_eq_getElem hi] at this
  simpa using this
end Go.Proofs.Ythcomfcbdlobpaa

namespace Go.Proofs.Ythcomfcbdlobpaa
open Go.RowKit
set_option linter.unusedVariables false
set_option linter.unnecessarySimpa false
set_option linter.unusedSimpArgs false
set_option maxRecDepth 100000

/-- Two boxes that a call makes first. -/
structure TwoW (w : World) (b0 b1 : Array Value) (t0 t1 : TypeId) (wx : World) : Prop where
  below : Below w.heap.size w wx
  r0 : wx.heap[w.heap.size]? = some (.cells b0 t0 (0, 0))
  r1 : wx.heap[w.heap.size + 1]? = some (.cells b1 t1 (0, 0))
theorem TwoW.start (w : World) (b0 b1 : Array Value) (t0 t1 : TypeId) : TwoW w b0 b1 t0 t1 ((w.alloc (.cells b0 t0)).alloc (.cells b1 t1)) := by
  refine ⟨((Below.refl w.heap.size w).alloc (Nat.le_refl _) _).alloc (by simp) _, ?_, ?_⟩
  · show ((w.heap.push _).push _)[w.heap.size]? = _
    rw [Array.getElem?_push, if_neg (by simp), Array.getElem?_push, if_pos rfl]
  · show ((w.heap.push _).push _)[w.heap.size + 1]? = _
    rw [Array.getElem?_push, if_pos (by simp)]
theorem TwoW.drewN {w wx : World} {b0 b1 : Array Value} {t0 t1 : TypeId} (h : TwoW w b0 b1 t0 t1 wx) (n : Nat) : TwoW w b0 b1 t0 t1 (wx.drewN n) := ⟨⟨h.below.os, h.below.tape, h.below.output, h.below.size, h.below.block⟩, h.r0, h.r1⟩
theorem tn_eq (x y : Tn) (w : World) : (Op.equal 36 (.agg x.cells) (.agg y.cells)).run Try.prog w = .ok (decide (x = y)) w := by
  have h := run_equalIn_struct (P := Try.prog) w 9999 36 x.cells y.cells (by kernel_rfl) (by kernel_rfl)
  obtain ⟨a, b, c⟩ := x
  obtain ⟨a', b', c'⟩ := y
  refine h.trans ?_
  unfold Program.fieldsOf
  rw [Try.underlying36]
  have hp : Try.prog.plainKey 3 = true := by kernel_rfl
  have hi : ∀ (x y : Int) W, (Op.equalIn 9999 3 (.int .i64 x) (.int .i64 y)).run Try.prog W = .ok (x == y) W := fun x y W => run_equalIn_int W 9998 3 .i64 .i64 x y Try.underlying3
  have h0 : ∀ (x y z : Int) W, (part 3 #[.int .i64 x, .int .i64 y, .int .i64 z] 0).run Try.prog W = .ok (.int .i64 x) W := fun x y z W => run_part_plain (P := Try.prog) W hp rfl
  have h1 : ∀ (x y z : Int) W, (part 3 #[.int .i64 x, .int .i64 y, .int .i64 z] 1).run Try.prog W = .ok (.int .i64 y) W := fun x y z W => run_part_plain (P := Try.prog) W hp rfl
  have h2 : ∀ (x y z : Int) W, (part 3 #[.int .i64 x, .int .i64 y, .int .i64 z] 2).run Try.prog W = .ok (.int .i64 z) W := fun x y z W => run_part_plain (P := Try.prog) W hp rfl
  simp [Op.eqFields, Tn.cells, h0, h1, h2, hi, Result.andThen]
  by_cases e1 : a = a' <;> by_cases e2 : b = b' <;> by_cases e3 : c = c' <;> simp [e1, e2, e3]
set_option maxHeartbeats 2000000 in
theorem pat_any (s : Value) (a : Option Addr) (len cap : Nat) (P : List Pd) (t : Tn) (w : World) (hz : IsPds w a len cap P) :
    Calls Try.prog 37 #[.agg #[s, .slice a len cap], .agg t.cells] w fun e w' => e = .returned (.int .i64 (atP t P)) ∧ Below w.heap.size w w' := by
  have HZ := Lib.hid hz
  have hel := Lib.hid hz.1
  have hlm := hz.2.1
  unfold maxLen at hlm
  clear hz
  obtain ⟨tn, tl, ts⟩ := t
  have HW0 := Lib.hid (TwoW.start w #[s, .slice a len cap] #[.int .i64 tn, .int .i64 tl, .int .i64 ts] 34 36)
  unfold Tn.cells
  go_enter Try.func37, Try.ntmps37
  go_wp2_with fail
  go_loopg [5] len (fun g s5 wx => ∃ (i : Nat), i + g = len ∧ s5 = .int .i64 i ∧ Hid (∀ j, j < i → (P.getD j pd0).t ≠ ⟨tn, tl, ts⟩) ∧ Hid (TwoW w #[s, .slice a len cap] #[.int .i64 tn, .int .i64 tl, .int .i64 ts] 34 36 wx))
  case atStart => exact ⟨0, by omega, rfl, Lib.hid (fun j hj => by omega), HW0⟩
  case round =>
    obtain ⟨i, hig, rfl, HL, HW⟩ := hrel
    clear HW0
    have c1 : wr.cell? ⟨w.heap.size, 1, none⟩ = some (.slice a len cap) := by rw [cell_of_row _ _ _ _ _ _ HW.out.r0]; rfl
    cases gk with
    | zero =>
      obtain rfl : i = len := by omega
      have hfin : atP ⟨tn, tl, ts⟩ P = -1 := by
        unfold atP
        rw [atN_none (fun j hj => HL.out j (by rw [← hel.out]; exact hj)), if_neg (Nat.lt_irrefl _)]
      have HFin := Lib.hid hfin
      clear hfin
      go_wp2_with fail
      go_ret
      exact ⟨by rw [HFin.out]; rfl, HW.out.below⟩
    | succ g =>
      have hil : i < len := by omega
      have hiz : (i : Int) < (len : Int) := by omega
      have r0 : wr.cell? ⟨w.heap.size + 1, 0, none⟩ = some (.int .i64 tn) := by rw [cell_of_row _ _ _ _ _ _ HW.out.r1]; rfl
      have r1 : wr.cell? ⟨w.heap.size + 1, 1, none⟩ = some (.int .i64 tl) := by rw [cell_of_row _ _ _ _ _ _ HW.out.r1]; rfl
      have r2 : wr.cell? ⟨w.heap.size + 1, 2, none⟩ = some (.int .i64 ts) := by rw [cell_of_row _ _ _ _ _ _ HW.out.r1]; rfl
      obtain ⟨b, off, rfl, hbl, _, _, k0, k1, k2, _⟩ := (HZ.out.below HW.out.below).2.2.2 i hil
      obtain ⟨z, hzz⟩ : ∃ z, z = P.getD i pd0 := ⟨_, rfl⟩
      have HZZ := Lib.hid hzz
      rw [← hzz] at k0 k1 k2
      clear hzz hbl
      obtain ⟨⟨zn, zl, zs⟩, zst, za, zn', zc, zw⟩ := z
      simp only at k0 k1 k2
      go_wp2_with fail
      have hEQ := fun W => tn_eq ⟨zn, zl, zs⟩ ⟨tn, tl, ts⟩ W
      unfold Tn.cells at hEQ
      simp only at hEQ
      obtain ⟨B, hB⟩ : ∃ B, B = decide ((⟨zn, zl, zs⟩ : Tn) = ⟨tn, tl, ts⟩) := ⟨_, rfl⟩
      rw [← hB] at hEQ
      have HBB := Lib.hid hB
      clear hB
      have hBE : ∀ W, (binOp .eql 36 (.agg #[.int .i64 zn, .int .i64 zl, .int .i64 zs]) (.agg #[.int .i64 tn, .int .i64 tl, .int .i64 ts])).run Try.prog W = .ok (.bool B) W := fun W => by
        show (do pure (Value.bool (← Op.equal _ _ _)) : Sem Value).run Try.prog W = _
        simp [Sem.run_bind, hEQ, Result.andThen]
      clear hEQ
      cases B with
      | true =>
        go_quiet (fail)
        have hfin : atP ⟨tn, tl, ts⟩ P = (i : Int) := by
          unfold atP
          rw [atN_at (by rw [hel.out]; exact hil) HL.out (by rw [← HZZ.out]; exact of_decide_eq_true HBB.out.symm), if_pos (by rw [hel.out]; exact hil)]
        have HFin := Lib.hid hfin
        clear hfin
        go_wp2_with fail
        go_ret
        exact ⟨by rw [HFin.out]; rfl, (HW.out.drewN nq).below⟩
      | false =>
        go_quiet (fail)
        go_wp2_with fail
        go_roundg g
        case measure => omega
        case rel => exact ⟨i + 1, by omega, by go_num, Lib.hid (fun j hj => by
          rcases Nat.lt_succ_iff_lt_or_eq.1 hj with h | rfl
          · exact HL.out j h
          · rw [← HZZ.out]; exact of_decide_eq_false HBB.out.symm), Lib.hid (HW.out.drewN nq)⟩
end Go.Proofs.Ythcomfcbdlobpaa

namespace Go.Proofs.Ythcomfcbdlobpaa
open Go.RowKit
set_option linter.unusedVariables false
set_option linter.unnecessarySimpa false
set_option linter.unusedSimpArgs false
set_option maxRecDepth 100000

/-- A box that a call makes first. -/
structure OneW (w : World) (b0 : Array Value) (t0 : TypeId) (wx : World) : Prop where
  below : Below w.heap.size w wx
  r0 : wx.heap[w.heap.size]? = some (.cells b0 t0 (0, 0))
theorem OneW.start (w : World) (b0 : Array Value) (t0 : TypeId) : OneW w b0 t0 (w.alloc (.cells b0 t0)) := ⟨(Below.refl w.heap.size w).alloc (Nat.le_refl _) _, heap_alloc_new w _⟩
theorem OneW.drewN {w wx : World} {b0 : Array Value} {t0 : TypeId} (h : OneW w b0 t0 wx) (n : Nat) : OneW w b0 t0 (wx.drewN n) := ⟨⟨h.below.os, h.below.tape, h.below.output, h.below.size, h.below.block⟩, h.r0⟩
theorem OneW.later {w wx w' : World} {b0 : Array Value} {t0 : TypeId} (h : OneW w b0 t0 wx) (hb : Below wx.heap.size wx w') : OneW w b0 t0 w' := ⟨h.below.trans (hb.mono h.below.size), (hb.block _ (Array.getElem?_eq_some_iff.1 h.r0).1).trans h.r0⟩

set_option maxHeartbeats 4000000 in
theorem plocked_any (s : Value) (a : Option Addr) (len cap : Nat) (P : List Pd) (key : ByteArray) (w : World) (hz : IsPds w a len cap P) :
    Calls Try.prog 14 #[.agg #[s, .slice a len cap], .string key] w fun e w' => e = .returned (.bool (lockedP key P)) ∧ Below w.heap.size w w' := by
  have HZ := Lib.hid hz
  have hel := Lib.hid hz.1
  have hlm := hz.2.1
  unfold maxLen at hlm
  clear hz
  have HW0 := Lib.hid (OneW.start w #[s, .slice a len cap] 34)
  go_enter Try.func14, Try.ntmps14
  go_wp2_with fail
  go_loopg [5] len (fun g s5 wx => ∃ (i : Nat), i + g = len ∧ s5 = .int .i64 i ∧ Hid (∀ j, j < i → hasK key (P.getD j pd0).w = false) ∧ Hid (OneW w #[s, .slice a len cap] 34 wx))
  case atStart => exact ⟨0, by omega, rfl, Lib.hid (fun j hj => by omega), HW0⟩
  case round =>
    obtain ⟨i, hig, rfl, HL, HW⟩ := hrel
    clear HW0
    have c1 : wr.cell? ⟨w.heap.size, 1, none⟩ = some (.slice a len cap) := by rw [cell_of_row _ _ _ _ _ _ HW.out.r0]; rfl
    cases gk with
    | zero =>
      obtain rfl : i = len := by omega
      have hfin : lockedP key P = false := any_none (d := pd0) (fun j hj => HL.out j (by rw [← hel.out]; exact hj))
      have HFin := Lib.hid hfin
      clear hfin
      go_wp2_with fail
      go_ret
      exact ⟨by rw [HFin.out]; rfl, HW.out.below⟩
    | succ g =>
      have hil : i < len := by omega
      have hiz : (i : Int) < (len : Int) := by omega
      obtain ⟨b, off, rfl, hbl, _, hws, _, _, _, _, k4⟩ := (HZ.out.below HW.out.below).2.2.2 i hil
      obtain ⟨z, hzz⟩ : ∃ z, z = P.getD i pd0 := ⟨_, rfl⟩
      have HZZ := Lib.hid hzz
      rw [← hzz] at k4 hws
      obtain ⟨zt, zst, za, zn, zc, zw⟩ := z
      simp only at k4 hws
      have HWS := Lib.hid hws
      have hzl := Lib.hid hws.1
      have hzm := hws.2.1
      unfold maxLen at hzm
      have HWO := HW
      clear hzz hbl hws
      go_wp2_with fail
      go_loopg [6] zn (fun g2 s6 wx => ∃ (k : Nat), k + g2 = zn ∧ s6 = .int .i64 k ∧ Hid (∀ j, j < k → sameK (zw.getD j wq0).key key = false) ∧ wx = wr)
      case atStart => exact ⟨0, by omega, rfl, Lib.hid (fun j hj => by omega), rfl⟩
      case round =>
        obtain ⟨k, hkg, rfl, HL2, rfl⟩ := hrel
        cases gk with
        | zero =>
          obtain rfl : k = zn := by omega
          have hno : hasK key (P.getD i pd0).w = false := by
            rw [← HZZ.out]
            exact any_none (d := wq0) (fun j hj => HL2.out j (by rw [← hzl.out]; exact hj))
          have HNo := Lib.hid hno
          clear hno
          go_wp2_with fail
          go_roundg g
          case measure => omega
          case rel => exact ⟨i + 1, by omega, by go_num, Lib.hid (fun j hj => by
            rcases Nat.lt_succ_iff_lt_or_eq.1 hj with h | rfl
            · exact HL.out j h
            · exact HNo.out), HWO⟩
        | succ g3 =>
          have hkn : k < zn := by omega
          have hkz : (k : Int) < (zn : Int) := by omega
          obtain ⟨b2, off2, rfl, hbl2, _, _, j0, _⟩ := HWS.out.2.2.2 k hkn
          obtain ⟨K, hK⟩ : ∃ K, K = (zw.getD k wq0).key := ⟨_, rfl⟩
          have HK := Lib.hid hK
          rw [← hK] at j0
          obtain ⟨B, hB⟩ : ∃ B, (K.toList == key.toList) = B := ⟨_, rfl⟩
          have HB := Lib.hid hB
          clear hK hbl2
          cases B with
          | true =>
            have hyes : lockedP key P = true := any_getD (d := pd0) (i := i) (by rw [hel.out]; exact hil) (by
              rw [← HZZ.out]
              exact any_getD (d := wq0) (i := k) (by rw [hzl.out]; exact hkn) (by rw [← HK.out]; exact HB.out))
            have HYes := Lib.hid hyes
            clear hyes
            go_wp2_with fail
            go_ret
            exact ⟨by rw [HYes.out]; rfl, HWO.out.below⟩
          | false =>
            go_wp2_with fail
            go_roundg g3
            case measure => omega
            case rel => exact ⟨k + 1, by omega, by go_num, Lib.hid (fun j hj => by
              rcases Nat.lt_succ_iff_lt_or_eq.1 hj with h | rfl
              · exact HL2.out j h
              · rw [← HK.out]; exact HB.out), rfl⟩
end Go.Proofs.Ythcomfcbdlobpaa
