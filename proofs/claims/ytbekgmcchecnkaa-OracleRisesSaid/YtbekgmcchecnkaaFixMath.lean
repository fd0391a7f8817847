/-
  A number's lowest bytes, either way round, as a list of bytes by their places; no program stands here.
-/
import Derived.Test.YtbekgmcchecnkaaMath
import Derived.ProofKit
import Derived.WalkSpells
import Derived.WalkLawsBesides
import Derived.Lib.Hide
namespace Go.Proofs.Ytbekgmcchecnkaa
open Go.RowKit
set_option linter.unnecessarySimpa false
set_option linter.unusedVariables false
set_option linter.unusedSimpArgs false
set_option maxRecDepth 100000

theorem u8info : (Try.prog.info? 5).map (fun i => (i.zero, i.size, i.bytes)) = some (some (.int .u8 0), 1, 1) := by kernel_rfl

/-- Bytes by their places. -/
def cellsF (size : Nat) (f : Nat → UInt8) : List UInt8 := (List.range size).map f

theorem cellsF_length (size : Nat) (f : Nat → UInt8) : (cellsF size f).length = size := by simp [cellsF]

theorem cellsF_congr {size : Nat} {f g : Nat → UInt8} (h : ∀ j, j < size → f j = g j) : cellsF size f = cellsF size g := by
  unfold cellsF
  apply List.map_congr_left
  intro j hj
  exact h j (List.mem_range.1 hj)

theorem cellsF_set {size p : Nat} {f : Nat → UInt8} (v : UInt8) : (Lib.byteCells (cellsF size f)).set p (.int .u8 (v.toNat : Int)) = Lib.byteCells (cellsF size (fun j => if j = p then v else f j)) := by
  apply List.ext_getElem
  · simp [Lib.byteCells, cellsF]
  · intro j h1 h2
    simp only [Lib.byteCells, cellsF, List.getElem_set, List.getElem_map, List.getElem_range]
    by_cases h : p = j
    · subst h; simp
    · rw [if_neg h, if_neg (fun e => h e.symm)]

theorem zeros_cellsF (size : Nat) : (madeCells #[Value.int .u8 0] size).toList = Lib.byteCells (cellsF size (fun _ => 0)) := by
  rw [toList_madeCells_one]
  simp [Lib.byteCells, cellsF, List.map_const']

/-- Which byte of n stands at place j of size. -/
def pl (size : Nat) (big : Bool) (j : Nat) : Nat := if big then size - 1 - j else j
def fxAt (n size : Nat) (big : Bool) (j : Nat) : UInt8 := UInt8.ofNat (n / 256 ^ pl size big j)
theorem pl_lt {size j : Nat} (big : Bool) (h : j < size) : pl size big j < size := by unfold pl; split <;> omega
theorem fxAt_shift (n size : Nat) (big : Bool) (j : Nat) : (n : Int) / 2 ^ (8 * pl size big j) % 256 = ((fxAt n size big j).toNat : Int) := by
  unfold fxAt
  have e : ((2 : Int) ^ (8 * pl size big j)) = ((256 ^ pl size big j : Nat) : Int) := by
    rw [show (256 : Nat) = 2 ^ 8 from rfl, ← Nat.pow_mul]; simp
  rw [e]
  generalize 256 ^ pl size big j = q
  simp only [UInt8.toNat_ofNat']
  omega
/-- One place more is filled. -/
theorem cellsF_next {size p : Nat} {P P' : Nat → Prop} [DecidablePred P] [DecidablePred P'] {g : Nat → UInt8} (h : ∀ j, j < size → (P' j ↔ j = p ∨ P j)) :
    (Lib.byteCells (cellsF size fun j => if P j then g j else 0)).set p (.int .u8 ((g p).toNat : Int)) = Lib.byteCells (cellsF size fun j => if P' j then g j else 0) := by
  rw [cellsF_set]
  congr 1
  apply cellsF_congr
  intro j hj
  have := h j hj
  by_cases e : j = p
  · subst e; simp [this]
  · by_cases hp : P j <;> simp [this, e, hp]
def fx (n size : Nat) (big : Bool) : List UInt8 := cellsF size (fxAt n size big)
theorem pl_pl {size k : Nat} (big : Bool) (h : k < size) : pl size big (pl size big k) = k := by unfold pl; split <;> omega
theorem fxAt_pl {n size k : Nat} (big : Bool) (h : k < size) : ((n / 256 ^ k : Nat) : Int) % 256 = ((fxAt n size big (pl size big k)).toNat : Int) := by
  unfold fxAt
  rw [pl_pl big h]
  simp only [UInt8.toNat_ofNat']
  omega
end Go.Proofs.Ytbekgmcchecnkaa
