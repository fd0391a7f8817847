/-
  Joined: PrtMath, MvcSame, CrdMath, FixMath, BuildOne, WqRow, CrdRow.
-/
import Derived.Test.YtdldplhfpianhaaSet01
import Derived.BigQuiet
import Derived.RegionTactic
import Derived.ProofKit
import Derived.WalkSpells
import Derived.WalkLawsBesides
import Derived.Lib.Hide
namespace Go.Proofs.Ytdldplhfpianhaa
open Go.RowKit
set_option linter.unusedVariables false
set_option linter.unnecessarySimpa false
set_option linter.unusedSimpArgs false
set_option maxRecDepth 100000

/-- A write. -/
structure Wq where
  key : ByteArray
  gone : Bool
  val : ByteArray
def wq0 : Wq := ⟨⟨#[]⟩, false, ⟨#[]⟩⟩
def WqAt (W : World) (b off : Nat) (m : Wq) : Prop :=
  b < W.heap.size ∧ m.key.size ≤ maxLen ∧ m.val.size ≤ maxLen ∧ W.cell? ⟨b, off, none⟩ = some (.string m.key) ∧ W.cell? ⟨b, off + 1, none⟩ = some (.bool m.gone) ∧ W.cell? ⟨b, off + 2, none⟩ = some (.string m.val)
def IsWqs (W : World) (a : Option Addr) (len cap : Nat) (L : List Wq) : Prop := L.length = len ∧ len ≤ maxLen ∧ len ≤ cap ∧ ∀ i, i < len → ∃ b off, a = some ⟨b, off, none⟩ ∧ WqAt W b (off + i * 3) (L.getD i wq0)
theorem WqAt.below {W W' : World} {b off : Nat} {m : Wq} (h : WqAt W b off m) (hb : Below W.heap.size W W') : WqAt W' b off m := by
  obtain ⟨h1, h2, h3, k0, k1, k2⟩ := h
  exact ⟨Nat.lt_of_lt_of_le h1 hb.size, h2, h3, (hb.cell (p := ⟨b, off, none⟩) h1).trans k0, (hb.cell (p := ⟨b, off + 1, none⟩) h1).trans k1, (hb.cell (p := ⟨b, off + 2, none⟩) h1).trans k2⟩
theorem IsWqs.below {W W' : World} {a : Option Addr} {len cap : Nat} {L : List Wq} (h : IsWqs W a len cap L) (hb : Below W.heap.size W W') : IsWqs W' a len cap L :=
  ⟨h.1, h.2.1, h.2.2.1, fun i hi => by obtain ⟨b, off, ha, he⟩ := h.2.2.2 i hi; exact ⟨b, off, ha, he.below hb⟩⟩
/-- A transaction's number. -/
structure Tn where
  node : Int
  life : Int
  seq : Int
deriving DecidableEq
def Tn.ok (t : Tn) : Prop := (Lit.int .i64 t.node).wf = true ∧ (Lit.int .i64 t.life).wf = true ∧ (Lit.int .i64 t.seq).wf = true
def Tn.cells (t : Tn) : Array Value := #[.int .i64 t.node, .int .i64 t.life, .int .i64 t.seq]
/-- One that is prepared, with the words of its slice of writes. -/
structure Pd where
  t : Tn
  start : Nat
  a : Option Addr
  n : Nat
  c : Nat
  w : List Wq
def pd0 : Pd := ⟨⟨0, 0, 0⟩, 0, none, 0, 0, []⟩
def PdAt (W : World) (b off : Nat) (p : Pd) : Prop :=
  b < W.heap.size ∧ p.start < 18446744073709551616 ∧ IsWqs W p.a p.n p.c p.w ∧ W.cell? ⟨b, off, none⟩ = some (.int .i64 p.t.node) ∧ W.cell? ⟨b, off + 1, none⟩ = some (.int .i64 p.t.life) ∧ W.cell? ⟨b, off + 2, none⟩ = some (.int .i64 p.t.seq) ∧
    W.cell? ⟨b, off + 3, none⟩ = some (.int .u64 (p.start : Int)) ∧ W.cell? ⟨b, off + 4, none⟩ = some (.slice p.a p.n p.c)
def IsPds (W : World) (a : Option Addr) (len cap : Nat) (L : List Pd) : Prop := L.length = len ∧ len ≤ maxLen ∧ len ≤ cap ∧ ∀ i, i < len → ∃ b off, a = some ⟨b, off, none⟩ ∧ PdAt W b (off + i * 5) (L.getD i pd0)
theorem PdAt.below {W W' : World} {b off : Nat} {p : Pd} (h : PdAt W b off p) (hb : Below W.heap.size W W') : PdAt W' b off p := by
  obtain ⟨h1, h2, h3, k0, k1, k2, k3, k4⟩ := h
  exact ⟨Nat.lt_of_lt_of_le h1 hb.size, h2, h3.below hb, (hb.cell (p := ⟨b, off, none⟩) h1).trans k0, (hb.cell (p := ⟨b, off + 1, none⟩) h1).trans k1, (hb.cell (p := ⟨b, off + 2, none⟩) h1).trans k2, (hb.cell (p := ⟨b, off + 3, none⟩) h1).trans k3, (hb.cell (p := ⟨b, off + 4, none⟩) h1).trans k4⟩
theorem IsPds.below {W W' : World} {a : Option Addr} {len cap : Nat} {L : List Pd} (h : IsPds W a len cap L) (hb : Below W.heap.size W W') : IsPds W' a len cap L :=
  ⟨h.1, h.2.1, h.2.2.1, fun i hi => by obtain ⟨b, off, ha, he⟩ := h.2.2.2 i hi; exact ⟨b, off, ha, he.below hb⟩⟩
/-- Where one that is prepared stands; how many there are, if it isn't. -/
def atN (t : Tn) : List Pd → Nat
  | [] => 0
  | p :: l => if p.t = t then 0 else atN t l + 1
def atP (t : Tn) (P : List Pd) : Int := if atN t P < P.length then (atN t P : Int) else -1
theorem atN_le (t : Tn) : ∀ P : List Pd, atN t P ≤ P.length
  | [] => Nat.le_refl _
  | p :: l => by
    have := atN_le t l
    unfold atN
    split
    · omega
    · simp; omega
theorem atN_at {t : Tn} : ∀ {P : List Pd} {i : Nat}, i < P.length → (∀ j, j < i → (P.getD j pd0).t ≠ t) → (P.getD i pd0).t = t → atN t P = i
  | [], i, h, _, _ => by simp at h
  | p :: l, 0, _, _, h => by
    unfold atN
    rw [if_pos (by simpa using h)]
  | p :: l, i + 1, h, h1, h2 => by
    unfold atN
    rw [if_neg (by have := h1 0 (by omega); simpa using this), atN_at (by simpa using h) (fun j hj => by have := h1 (j + 1) (by omega); simpa using this) (by simpa using h2)]
theorem atN_none {t : Tn} : ∀ {P : List Pd}, (∀ j, j < P.length → (P.getD j pd0).t ≠ t) → atN t P = P.length
  | [], _ => rfl
  | p :: l, h => by
    unfold atN
    rw [if_neg (by have := h 0 (by simp); simpa using this), atN_none (fun j hj => by have := h (j + 1) (by simpa using hj); simpa using this)]
    rfl
/-- Is a key locked? -/
def hasK (key : ByteArray) (l : List Wq) : Bool := l.any fun m => sameK m.key key
def lockedP (key : ByteArray) (P : List Pd) : Bool := P.any fun p => hasK key p.w
theorem any_getD {α : Type} {f : α → Bool} {d : α} {l : List α} {i : Nat} (hi : i < l.length) (h : f (l.getD i d) = true) : l.any f = true :=
  List.any_eq_true.2 ⟨l.getD i d, by rw [List.getD, List.getElem?_eq_getElem hi]; exact List.getElem_mem hi, h⟩
theorem any_none {α : Type} {f : α → Bool} {d : α} {l : List α} (h : ∀ i, i < l.length → f (l.getD i d) = false) : l.any f = false := by
  rw [List.any_eq_false]
  intro x hx
  obtain ⟨i, hi, rfl⟩ := List.mem_iff_getElem.1 hx
  have := h i hi
  rw [List.getD, List.getElem?_eq_getElem hi] at this
  simpa using this
end Go.Proofs.Ytdldplhfpianhaa

namespace Go.Proofs.Ytdldplhfpianhaa
open Go.RowKit
set_option linter.unusedVariables false
set_option linter.unnecessarySimpa false
set_option linter.unusedSimpArgs false
set_option maxRecDepth 100000

/-- A write: its key, its value. -/
abbrev Wt := ByteArray × ByteArray
def wt0 : Wt := (⟨#[]⟩, ⟨#[]⟩)
def WtAt (W : World) (b off : Nat) (m : Wt) : Prop :=
  b < W.heap.size ∧ m.1.size ≤ maxLen ∧ m.2.size ≤ maxLen ∧ W.cell? ⟨b, off, none⟩ = some (.string m.1) ∧ W.cell? ⟨b, off + 1, none⟩ = some (.bool false) ∧ W.cell? ⟨b, off + 2, none⟩ = some (.string m.2)
def IsWts (W : World) (a : Option Addr) (len _cap : Nat) (L : List Wt) : Prop := L.length = len ∧ len ≤ maxLen ∧ ∀ i, i < len → ∃ b off, a = some ⟨b, off, none⟩ ∧ WtAt W b (off + i * 3) (L.getD i wt0)
theorem WtAt.below {W W' : World} {b off : Nat} {m : Wt} (h : WtAt W b off m) (hb : Below W.heap.size W W') : WtAt W' b off m := by
  obtain ⟨h1, h2, h3, k0, k1, k2⟩ := h
  exact ⟨Nat.lt_of_lt_of_le h1 hb.size, h2, h3, (hb.cell (p := ⟨b, off, none⟩) h1).trans k0, (hb.cell (p := ⟨b, off + 1, none⟩) h1).trans k1, (hb.cell (p := ⟨b, off + 2, none⟩) h1).trans k2⟩
theorem IsWts.below {W W' : World} {a : Option Addr} {len cap : Nat} {L : List Wt} (h : IsWts W a len cap L) (hb : Below W.heap.size W W') : IsWts W' a len cap L :=
  ⟨h.1, h.2.1, fun i hi => by obtain ⟨b, off, ha, he⟩ := h.2.2 i hi; exact ⟨b, off, ha, he.below hb⟩⟩
/-- A list of keys. -/
def IsKs (W : World) (a : Option Addr) (len _cap : Nat) (L : List ByteArray) : Prop := L.length = len ∧ len ≤ maxLen ∧ ∀ i, i < len → ∃ b off, a = some ⟨b, off, none⟩ ∧ b < W.heap.size ∧ (L.getD i ⟨#[]⟩).size ≤ maxLen ∧ W.cell? ⟨b, off + i, none⟩ = some (.string (L.getD i ⟨#[]⟩))
theorem IsKs.below {W W' : World} {a : Option Addr} {len cap : Nat} {L : List ByteArray} (h : IsKs W a len cap L) (hb : Below W.heap.size W W') : IsKs W' a len cap L :=
  ⟨h.1, h.2.1, fun i hi => by obtain ⟨b, off, ha, h1, h2, h3⟩ := h.2.2 i hi; exact ⟨b, off, ha, Nat.lt_of_lt_of_le h1 hb.size, h2, (hb.cell (p := ⟨b, off + i, none⟩) h1).trans h3⟩⟩

set_option maxHeartbeats 2000000 in
/-- Of equal writes. -/
theorem msame_yes (a1 a2 : Option Addr) (len c1 c2 : Nat) (L : List Wt) (w : World) (h1 : IsWts w a1 len c1 L) (h2 : IsWts w a2 len c2 L) :
    Calls Try.prog 19 #[.slice a1 len c1, .slice a2 len c2] w fun e w' => e = .returned (.bool true) ∧ ∃ n, w' = w.drewN n := by
  have H1 := Lib.hid h1
  have H2 := Lib.hid h2
  have hlm := h1.2.1
  unfold maxLen at hlm
  clear h1 h2
  go_enter Try.func19, Try.ntmps19
  go_wp2_with fail
  go_loopg [5] len (fun g s5 wx => ∃ i n : Nat, i + g = len ∧ s5 = .int .i64 i ∧ wx = w.drewN n)
  case atStart => exact ⟨0, 0, by omega, rfl, rfl⟩
  case round =>
    obtain ⟨i, n, hig, rfl, rfl⟩ := hrel
    cases gk with
    | zero =>
      obtain rfl : len = i := by omega
      go_wp2_with fail
      go_ret
      exact ⟨rfl, n, rfl⟩
    | succ g =>
      have hil : i < len := by omega
      have hiz : (i : Int) < (len : Int) := by omega
      obtain ⟨b, off, rfl, hbl, _, _, k0, k1, k2⟩ := H1.out.2.2 i hil
      obtain ⟨b', off', rfl, hbl', _, _, j0, j1, j2⟩ := H2.out.2.2 i hil
      obtain ⟨z, hzz⟩ : ∃ z, z = L.getD i wt0 := ⟨_, rfl⟩
      rw [← hzz] at k0 k2 j0 j2
      clear hzz hbl hbl'
      go_wp2_with fail
      go_quiet (fail)
      go_wp2_with fail
      go_roundg g
      case measure => omega
      case rel => exact ⟨i + 1, n + nq, by omega, by go_num, rfl⟩
end Go.Proofs.Ytdldplhfpianhaa

namespace Go.Proofs.Ytdldplhfpianhaa
open Go.RowKit
set_option linter.unusedVariables false
set_option linter.unnecessarySimpa false
set_option linter.unusedSimpArgs false
set_option maxRecDepth 100000

/-- A program, with the words of its slices. -/
structure Pg where
  ra : Option Addr
  rn : Nat
  rc : Nat
  R : List ByteArray
  wa : Option Addr
  wn : Nat
  wc : Nat
  W : List Wq
def Pg.cells (p : Pg) : Array Value := #[.slice p.ra p.rn p.rc, .slice p.wa p.wn p.wc]
def PgOk (w : World) (p : Pg) : Prop := IsKs w p.ra p.rn p.rc p.R ∧ IsWqs w p.wa p.wn p.wc p.W
theorem PgOk.below {w w' : World} {p : Pg} (h : PgOk w p) (hb : Below w.heap.size w w') : PgOk w' p := ⟨h.1.below hb, h.2.below hb⟩
/-- Of so many nodes the one that a key is at. -/
def ownN (key : ByteArray) (n : Nat) : Nat := if key.size = 0 then 0 else (key.data.toList.getD 0 0).toNat * n / 256
theorem ownN_lt (key : ByteArray) {n : Nat} (hn : 0 < n) : ownN key n < n := by
  unfold ownN
  split
  · exact hn
  · have h : (key.data.toList.getD 0 0).toNat ≤ 255 := by have := (key.data.toList.getD 0 0).toNat_lt; omega
    have := Nat.mul_le_mul_right n h
    omega

set_option maxHeartbeats 2000000 in
theorem owner_none (n : Nat) (w : World) :
    Calls Try.prog 39 #[.string ⟨#[]⟩, .int .i64 (n : Int)] w fun e w' => e = .returned (.int .i64 0) ∧ w = w' := by
  go_enter Try.func39, Try.ntmps39
  go_wp2_with fail
  go_ret
  exact ⟨rfl, rfl⟩
theorem crd_some {s : ByteArray} (h : ¬ s.size = 0) : s.toList.isEmpty = false := by
  have h1 : ¬ s.toList = [] := by
    rw [Lib.toList_data]
    intro e
    have := congrArg List.length e
    rw [← Lib.size_eq] at this
    exact h this
  cases hl : s.toList with
  | nil => exact absurd hl h1
  | cons => rfl
set_option maxHeartbeats 2000000 in
theorem owner_some (key : ByteArray) (n : Nat) (hs : ¬ key.size = 0) (hn : n ≤ 1000) (w : World) :
    Calls Try.prog 39 #[.string key, .int .i64 (n : Int)] w fun e w' => e = .returned (.int .i64 ((ownN key n : Nat) : Int)) ∧ w = w' := by
  have hks : 0 < key.size := by omega
  have hke := crd_some hs
  have hq : Hid (ownN key n = (key[0]'hks).toNat * n / 256) := Lib.hid (by
    unfold ownN
    rw [if_neg hs]
    have e : key.data.toList.getD 0 0 = key[0]'hks := by
      obtain ⟨⟨l⟩⟩ := key
      cases l with
      | nil => exact absurd hks (by decide)
      | cons c l => rfl
    rw [e])
  have hc : (key[0]'hks).toNat < 256 := UInt8.toNat_lt _
  have hm : (key[0]'hks).toNat * n ≤ 255 * 1000 := Nat.mul_le_mul (by omega) hn
  have z1 : wrap64 ((key[0]'hks).toNat : Int) = ((key[0]'hks).toNat : Int) := IntWalk.wrap64_in _ (by omega)
  have z2 : wrap64 (((key[0]'hks).toNat : Int) * (n : Int)) = (((key[0]'hks).toNat * n : Nat) : Int) := by rw [← Int.natCast_mul]; exact IntWalk.wrap64_in _ (by omega)
  have z3 : (((key[0]'hks).toNat * n : Nat) : Int).tdiv 256 = (((key[0]'hks).toNat * n / 256 : Nat) : Int) := by rw [Int.tdiv_eq_ediv_of_nonneg (by omega)]; omega
  have z4 : wrap64 (((key[0]'hks).toNat * n / 256 : Nat) : Int) = (((key[0]'hks).toNat * n / 256 : Nat) : Int) := IntWalk.wrap64_in _ (by omega)
  have Z := Lib.hid (And.intro z1 (And.intro z2 (And.intro z3 z4)))
  clear z1 z2 z3 z4 hm hc hs
  go_enter Try.func39, Try.ntmps39
  go_wp2_with fail
  rw [Z.out.1, Z.out.2.1, Z.out.2.2.1, Z.out.2.2.2, ← hq.out]
  go_ret
  exact ⟨rfl, rfl⟩
/-- The document's owner. -/
theorem owner_any (key : ByteArray) (n : Nat) (hn : n ≤ 1000) (w : World) :
    Calls Try.prog 39 #[.string key, .int .i64 (n : Int)] w fun e w' => e = .returned (.int .i64 ((ownN key n : Nat) : Int)) ∧ w = w' := by
  by_cases hs : key.size = 0
  · have e : key = ⟨#[]⟩ := ByteArray.ext (Array.eq_empty_of_size_eq_zero hs)
    subst e
    exact owner_none n w
  · exact owner_some key n hs hn w
end Go.Proofs.Ytdldplhfpianhaa

namespace Go.Proofs.Ytdldplhfpianhaa
open Go.RowKit
set_option linter.unnecessarySimpa false
set_option linter.unusedVariables false
set_option linter.unusedSimpArgs false
set_option maxRecDepth 100000

theorem u8info : (Try.prog.info? 5).map (fun i => (i.zero, i.size, i.bytes)) = some (some (.int .u8 0), 1, 1) := by kernel_rfl

/-- Bytes by their places. -/
def cellsF (size : Nat) (f : Nat → UInt8) : List UInt8 := (List.range size).map f

theorem cellsF_length (size : Nat) (f : Nat → UInt8) : (cellsF size f).length = size := by simp [cellsF]

theorem cellsF_congr {size : Nat} {f g : Nat → UInt8} (h : ∀ j, j < size → f j = g j) : cellsF size f = cellsF size g := by
  unfold cellsF
  apply List.map_congr_left
  intro j hj
  exact h j (List.mem_range.1 hj)

theorem cellsF_set {size p : Nat} {f : Nat → UInt8} (v : UInt8) : (Lib.byteCells (cellsF size f)).set p (.int .u8 (v.toNat : Int)) = Lib.byteCells (cellsF size (fun j => if j = p then v else f j)) := by
  apply List.ext_getElem
  · simp [Lib.byteCells, cellsF]
  · intro j h1 h2
    simp only [Lib.byteCells, cellsF, List.getElem_set, List.getElem_map, List.getElem_range]
    by_cases h : p = j
    · subst h; simp
    · rw [if_neg h, if_neg (fun e => h e.symm)]

theorem zeros_cellsF (size : Nat) : (madeCells #[Value.int .u8 0] size).toList = Lib.byteCells (cellsF size (fun _ => 0)) := by
  rw [toList_madeCells_one]
  simp [Lib.byteCells, cellsF, List.map_const']

/-- Which byte of n stands at place j of size. -/
def pl (size : Nat) (big : Bool) (j : Nat) : Nat := if big then size - 1 - j else j
def fxAt (n size : Nat) (big : Bool) (j : Nat) : UInt8 := UInt8.ofNat (n / 256 ^ pl size big j)
theorem pl_lt {size j : Nat} (big : Bool) (h : j < size) : pl size big j < size := by unfold pl; split <;> omega
theorem fxAt_shift (n size : Nat) (big : Bool) (j : Nat) : (n : Int) / 2 ^ (8 * pl size big j) % 256 = ((fxAt n size big j).toNat : Int) := by
  unfold fxAt
  have e : ((2 : Int) ^ (8 * pl size big j)) = ((256 ^ pl size big j : Nat) : Int) := by
    rw [show (256 : Nat) = 2 ^ 8 from rfl, ← Nat.pow_mul]; simp
  rw [e]
  generalize 256 ^ pl size big j = q
  simp only [UInt8.toNat_ofNat']
  omega
/-- One place more is filled. -/
theorem cellsF_next {size p : Nat} {P P' : Nat → Prop} [DecidablePred P] [DecidablePred P'] {g : Nat → UInt8} (h : ∀ j, j < size → (P' j ↔ j = p ∨ P j)) :
    (Lib.byteCells (cellsF size fun j => if P j then g j else 0)).set p (.int .u8 ((g p).toNat : Int)) = Lib.byteCells (cellsF size fun j => if P' j then g j else 0) := by
  rw [cellsF_set]
  congr 1
  apply cellsF_congr
  intro j hj
  have := h j hj
  by_cases e : j = p
  · subst e; simp [this]
  · by_cases hp : P j <;> simp [this, e, hp]
def fx (n size : Nat) (big : Bool) : List UInt8 := cellsF size (fxAt n size big)
theorem pl_pl {size k : Nat} (big : Bool) (h : k < size) : pl size big (pl size big k) = k := by unfold pl; split <;> omega
theorem fxAt_pl {n size k : Nat} (big : Bool) (h : k < size) : ((n / 256 ^ k : Nat) : Int) % 256 = ((fxAt n size big (pl size big k)).toNat : Int) := by
  unfold fxAt
  rw [pl_pl big h]
  simp only [UInt8.toNat_ofNat']
  omega
end Go.Proofs.Ytdldplhfpianhaa

namespace Go.Proofs.Ytdldplhfpianhaa
open Go.RowKit
set_option linter.unnecessarySimpa false
set_option linter.unusedVariables false
set_option linter.unusedSimpArgs false
set_option maxRecDepth 100000

/-- A row of the call's own stays, whatever is made besides. -/
theorem own_below {w w' : World} {B e size n : Nat} {v : Value} {xs : List Value} (h : w.ownsRow B e size v n xs) (hb : Below w.heap.size w w') : w'.ownsRow B e size v n xs := by
  refine ⟨h.1, ?_⟩
  rcases h.2 with h2 | ⟨g, cap, cur, hv, hB, hg, h3⟩
  · exact .inl h2
  · exact .inr ⟨g, cap, cur, hv, hB, by rw [hb.block g (Array.getElem?_eq_some_iff.1 hg).1]; exact hg, h3⟩

theorem own_slice {w : World} {base e size n : Nat} {v : Value} {xs : List Value} (h : w.ownsRow base e size v n xs) (hn : 0 < n) : ∃ g cap, v = .slice (some ⟨g, 0, none⟩) n cap ∧ base ≤ g ∧ g < w.heap.size := by
  rcases h.2 with ⟨_, rfl⟩ | ⟨g, cap, cur, rfl, hb, hg, _⟩
  · omega
  · exact ⟨g, cap, rfl, hb, (Array.getElem?_eq_some_iff.1 hg).1⟩

theorem own_form {w : World} {base e size n : Nat} {v : Value} {xs : List Value} (h : w.ownsRow base e size v n xs) : ∃ a cap, v = .slice a n cap := by
  rcases h.2 with ⟨h1, rfl⟩ | ⟨g, cap, cur, rfl, _⟩
  · exact ⟨none, 0, h1⟩
  · exact ⟨_, cap, rfl⟩

theorem cells_one {v : Value} (h : v.oneCell' = true) : v.cells = #[v] := by cases v <;> first | rfl | (simp [Value.oneCell'] at h)

theorem run_buildSlice_one {P : Program} (w : World) (t e : TypeId) (z v : Value) (hu : P.underlying t = some (.slice e)) (hi : (P.info? e).map (fun i => (i.zero, i.size)) = some (some z, 1)) (hz : z.oneCell' = true) (hv : v.oneCell' = true) :
    (Instr.buildSlice t 1 #[(0, v)]).run P w = .ok (.slice (some ⟨w.heap.size, 0, none⟩) 1 1) (w.alloc (.cells #[v] e)) := by
  cases hq : P.info? e with
  | none => simp [hq] at hi
  | some i =>
    simp [hq] at hi
    unfold Instr.buildSlice
    simp [run_underlying hu, sizeOf, typeInfo, zeroValue, hq, hi.1, hi.2, cells_one hz, cells_one hv, Instr.fill, newRow, Sem.run_bind]
    refine congrArg (fun c => w.alloc (.cells c e)) ?_
    apply Array.ext
    · simp
    · intro j h1 h2
      obtain rfl : j = 0 := by simp at h2; omega
      simp

theorem wp_buildSlice_one {P : Program} {op : Oper} {a : Act} {w : World} {K : Act → World → Prop} {Q : Exit → Act → World → Prop} (t e : TypeId) (x : Operand) (ho : op.op = .buildSlice t 1 #[(0, x)])
    (z v : Value) (hx : a.eval x = v) (hu : P.underlying t = some (.slice e)) (hi : (P.info? e).map (fun i => (i.zero, i.size)) = some (some z, 1)) (hz : z.oneCell' = true) (hv : v.oneCell' = true)
    (h : K (a.put op.dst (.slice (some ⟨w.heap.size, 0, none⟩) 1 1)) (w.alloc (.cells #[v] e))) : op.wp P a w K Q := by
  unfold Oper.wp execOp
  simp [ho, hx, run_buildSlice_one w t e z v hu hi hz hv, Oper.upon]
  exact h

theorem wpList_buildSlice_one {P : Program} {ops : Array Oper} {rest : List Oper} {op : Oper} {a : Act} {w : World} {Q : Exit → Act → World → Prop} (hgd : op.guard = none) (t e : TypeId) (x : Operand) (ho : op.op = .buildSlice t 1 #[(0, x)])
    (z v : Value) (hx : a.eval x = v) (hu : P.underlying t = some (.slice e)) (hi : (P.info? e).map (fun i => (i.zero, i.size)) = some (some z, 1)) (hz : z.oneCell' = true) (hv : v.oneCell' = true)
    (h : wpList P ops Q rest (a.put op.dst (.slice (some ⟨w.heap.size, 0, none⟩) 1 1)) (w.alloc (.cells #[v] e))) : wpList P ops Q (op :: rest) a w :=
  wpList_plain hgd fun _ hK => by
    unfold Oper.wp execOp
    simp [ho, hx, run_buildSlice_one w t e z v hu hi hz hv, Oper.upon]
    exact hK _ _ h

theorem run_buildSlice_two {P : Program} (w : World) (t e : TypeId) (z u v : Value) (hu : P.underlying t = some (.slice e)) (hi : (P.info? e).map (fun i => (i.zero, i.size)) = some (some z, 1)) (hz : z.oneCell' = true) (hu1 : u.oneCell' = true) (hv : v.oneCell' = true) :
    (Instr.buildSlice t 2 #[(0, u), (1, v)]).run P w = .ok (.slice (some ⟨w.heap.size, 0, none⟩) 2 2) (w.alloc (.cells #[u, v] e)) := by
  cases hq : P.info? e with
  | none => simp [hq] at hi
  | some i =>
    simp [hq] at hi
    unfold Instr.buildSlice
    simp [run_underlying hu, sizeOf, typeInfo, zeroValue, hq, hi.1, hi.2, cells_one hz, cells_one hv, cells_one hu1, Instr.fill, newRow, Sem.run_bind]
    refine congrArg (fun c => w.alloc (.cells c e)) ?_
    apply Array.ext
    · simp
    · intro j h1 h2
      have : j = 0 ∨ j = 1 := by simp at h2; omega
      rcases this with rfl | rfl <;> simp
theorem wp_buildSlice_two {P : Program} {op : Oper} {a : Act} {w : World} {K : Act → World → Prop} {Q : Exit → Act → World → Prop} (t e : TypeId) (x y : Operand) (ho : op.op = .buildSlice t 2 #[(0, x), (1, y)])
    (z u v : Value) (hx : a.eval x = u) (hy : a.eval y = v) (hu : P.underlying t = some (.slice e)) (hi : (P.info? e).map (fun i => (i.zero, i.size)) = some (some z, 1)) (hz : z.oneCell' = true) (hu1 : u.oneCell' = true) (hv : v.oneCell' = true)
    (h : K (a.put op.dst (.slice (some ⟨w.heap.size, 0, none⟩) 2 2)) (w.alloc (.cells #[u, v] e))) : op.wp P a w K Q := by
  unfold Oper.wp execOp
  simp [ho, hx, hy, run_buildSlice_two w t e z u v hu hi hz hu1 hv, Oper.upon]
  exact h
end Go.Proofs.Ytdldplhfpianhaa

namespace Go.Proofs.Ytdldplhfpianhaa
open Go.RowKit
set_option linter.unusedVariables false
set_option linter.unnecessarySimpa false
set_option linter.unusedSimpArgs false
set_option maxRecDepth 100000

def Wq.cells (p : Wq) : List Value := [.string p.key, .bool p.gone, .string p.val]
def wqCells : List Wq → List Value
  | [] => []
  | m :: L => m.cells ++ wqCells L
theorem wqCells_len : ∀ L : List Wq, (wqCells L).length = L.length * 3
  | [] => rfl
  | m :: L => by rw [wqCells, List.length_append, wqCells_len L, List.length_cons]; simp [Wq.cells]; omega
theorem wqCells_app : ∀ L M : List Wq, wqCells (L ++ M) = wqCells L ++ wqCells M
  | [], _ => rfl
  | m :: L, M => by rw [List.cons_append, wqCells, wqCells, wqCells_app L M, List.append_assoc]
theorem wqCells_at : ∀ (L : List Wq) (i j : Nat), i < L.length → j < 3 → (wqCells L)[i * 3 + j]? = ((L.getD i wq0).cells)[j]?
  | [], i, j, hi, _ => by simp at hi
  | m :: L, 0, j, _, hj => by
    rw [wqCells, List.getElem?_append_left (by simp [Wq.cells]; omega)]
    simp
  | m :: L, i + 1, j, hi, hj => by
    rw [wqCells, List.getElem?_append_right (by simp [Wq.cells]; omega)]
    have := wqCells_at L i j (by simpa using hi) hj
    rw [show (i + 1) * 3 + j - m.cells.length = i * 3 + j by simp [Wq.cells]; omega, this]
    simp
theorem wqCells_one : ∀ (L : List Wq) (u : Value), u ∈ wqCells L → u.oneCell' = true
  | [], u, h => by simp [wqCells] at h
  | m :: L, u, h => by
    rw [wqCells, List.mem_append] at h
    rcases h with h | h
    · simp only [Wq.cells, List.mem_cons, List.not_mem_nil, or_false] at h
      rcases h with rfl | rfl | rfl <;> rfl
    · exact wqCells_one L u h
/-- The cells of what came in, from the k-th on. -/
theorem IsWqs.news {W : World} {b off len cap : Nat} {L : List Wq} (hz : IsWqs W (some ⟨b, off, none⟩) len cap L) (M : List Wq) (k : Nat) (hk : ∀ i, i < M.length → k + i < len ∧ M.getD i wq0 = L.getD (k + i) wq0) :
    ∀ j u, (wqCells M)[j]? = some u → W.cell? ((⟨b, off + k * 3, none⟩ : Addr).add j) = some u := by
  intro j u hu
  have hj : j < M.length * 3 := by rw [← wqCells_len]; exact (List.getElem?_eq_some_iff.1 hu).1
  have hd : j = (j / 3) * 3 + j % 3 := by omega
  have hi : j / 3 < M.length := by omega
  obtain ⟨hkl, hM⟩ := hk (j / 3) hi
  obtain ⟨b', off', ha, _, _, _, k0, k1, k2⟩ := hz.2.2.2 (k + j / 3) hkl
  simp only [Option.some.injEq, Addr.mk.injEq, and_true] at ha
  obtain ⟨rfl, rfl⟩ := ha
  have hm : j % 3 < 3 := Nat.mod_lt _ (by omega)
  rw [hd, wqCells_at M _ _ hi hm, hM] at hu
  have hadd : (⟨b, off + k * 3, none⟩ : Addr).add j = ⟨b, off + k * 3 + j, none⟩ := Addr.add_lit ..
  rw [hadd]
  obtain ⟨r, hr⟩ : ∃ r, r = j % 3 := ⟨_, rfl⟩
  rw [← hr] at hu hm hd
  have e : off + k * 3 + j = off + (k + j / 3) * 3 + r := by omega
  rw [e]
  have hcs : r = 0 ∨ r = 1 ∨ r = 2 := by omega
  rcases hcs with rfl | rfl | rfl
  · simp only [Wq.cells, List.getElem?_cons_zero] at hu; cases hu; exact k0
  · simp only [Wq.cells, List.getElem?_cons_succ, List.getElem?_cons_zero] at hu; cases hu; exact k1
  · simp only [Wq.cells, List.getElem?_cons_succ, List.getElem?_cons_zero] at hu; cases hu; exact k2
/-- A row of them is a slice of them. -/
theorem wqs_own {w : World} {B n c : Nat} {a : Option Addr} {L : List Wq} (h : w.ownsRow B 64 3 (.slice a n c) n (wqCells L)) (hn : L.length = n) (hl : n ≤ 100000) (hv : ∀ p ∈ L, p.key.size ≤ maxLen ∧ p.val.size ≤ maxLen) : IsWqs w a n c L := by
  have hcap : n ≤ c := by
    rcases h.2 with ⟨h1, h2⟩ | ⟨g, cap, cur, h1, _, _, h2, _⟩
    · omega
    · injection h1 with _ _ h1; omega
  refine ⟨hn, by unfold maxLen; omega, hcap, fun i hi => ?_⟩
  obtain ⟨g, cap, e, hg, hgl⟩ := own_slice h (by omega)
  injection e with e1 e2 e3
  subst e1 e3
  have hil : i < L.length := by omega
  have hm : L.getD i wq0 ∈ L := by rw [List.getD, List.getElem?_eq_getElem hil]; exact List.getElem_mem hil
  obtain ⟨k1, k2⟩ := hv _ hm
  have hc := fun j (hj : j < 3) => (h.cellAt (i * 3 + j) (by omega)).trans (wqCells_at L i j hil hj)
  have h0 := hc 0 (by omega)
  have h1 := hc 1 (by omega)
  have h2 := hc 2 (by omega)
  exact ⟨g, 0, rfl, hgl, k1, k2, by rw [Nat.zero_add]; exact h0, by rw [Nat.zero_add]; exact h1, by rw [Nat.zero_add]; exact h2⟩
theorem wqInfo : (Try.prog.info? 64).map (fun i => (i.zero, i.size, i.bytes)) = some (some (.agg #[.string ⟨#[]⟩, .bool false, .string ⟨#[]⟩]), 3, 40) := by kernel_rfl
theorem wqCells_set : ∀ (L : List Wq) (i : Nat) (m : Wq), i < L.length → (((wqCells L).set (i * 3) (.string m.key)).set (i * 3 + 1) (.bool m.gone)).set (i * 3 + 2) (.string m.val) = wqCells (L.set i m)
  | [], i, m, h => by simp at h
  | x :: L, 0, m, h => by
    simp [wqCells, Wq.cells]
  | x :: L, i + 1, m, h => by
    have ih := wqCells_set L i m (by simpa using h)
    simp only [wqCells, Wq.cells, List.set_cons_succ, List.cons_append, List.nil_append]
    rw [← ih, show (i + 1) * 3 = i * 3 + 1 + 1 + 1 by omega, show i * 3 + 1 + 1 + 1 + 1 = (i * 3 + 1) + 1 + 1 + 1 by omega, show i * 3 + 1 + 1 + 1 + 2 = (i * 3 + 2) + 1 + 1 + 1 by omega]
    simp only [List.set_cons_succ]
end Go.Proofs.Ytdldplhfpianhaa

namespace Go.Proofs.Ytdldplhfpianhaa
end Go.Proofs.Ytdldplhfpianhaa
