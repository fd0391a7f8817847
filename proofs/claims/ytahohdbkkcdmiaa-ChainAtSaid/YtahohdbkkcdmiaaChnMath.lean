/-
  Versions of a key as mathematics: a chain, its bytes; no program stands here.
-/
import Derived.Test.YtahohdbkkcdmiaaTakeMath
import Derived.ProofKit
import Derived.Lib.Hide
import Derived.Lib.IndexBytes
namespace Go.Proofs.Ytahohdbkkcdmiaa
open Go.RowKit
set_option linter.unusedVariables false
set_option linter.unnecessarySimpa false
set_option linter.unusedSimpArgs false
set_option maxRecDepth 100000

/-- A version. -/
structure Vr where
  time : Nat
  gone : Bool
  val : ByteArray
def vr0 : Vr := ⟨0, false, ⟨#[]⟩⟩
def Vr.cells (v : Vr) : Array Value := #[.int .u64 (v.time : Int), .bool v.gone, .string v.val]
/-- With how many bytes two begin alike. -/
def pre : List UInt8 → List UInt8 → Nat
  | a :: x, b :: y => if a = b then pre x y + 1 else 0
  | _, _ => 0
theorem pre_le : ∀ (x y : List UInt8), pre x y ≤ x.length ∧ pre x y ≤ y.length
  | [], _ => by simp [pre]
  | _ :: _, [] => by simp [pre]
  | a :: x, b :: y => by
    have := pre_le x y
    unfold pre
    split <;> simp <;> omega
theorem pre_take : ∀ (x y : List UInt8), x.take (pre x y) = y.take (pre x y)
  | [], y => by simp [pre]
  | _ :: _, [] => by simp [pre]
  | a :: x, b :: y => by
    unfold pre
    split
    · rename_i h
      rw [List.take_succ_cons, List.take_succ_cons, h, pre_take x y]
    · rfl
theorem pre_most : ∀ (x y : List UInt8) (n : Nat), n ≤ x.length → n ≤ y.length → x.take n = y.take n → n ≤ pre x y
  | [], y, n, h, _, _ => by simp at h; omega
  | _ :: _, [], n, _, h, _ => by simp at h; omega
  | a :: x, b :: y, 0, _, _, _ => Nat.zero_le _
  | a :: x, b :: y, n + 1, h1, h2, h => by
    rw [List.take_succ_cons, List.take_succ_cons] at h
    injection h with h3 h4
    have := pre_most x y n (by simpa using h1) (by simpa using h2) h4
    unfold pre
    rw [if_pos h3]; omega
/-- .. and end. -/
def suf (x y : List UInt8) : Nat := pre x.reverse y.reverse
theorem suf_le (x y : List UInt8) : suf x y ≤ x.length ∧ suf x y ≤ y.length := by
  have := pre_le x.reverse y.reverse
  simpa [suf] using this
theorem take_rev (x : List UInt8) {n : Nat} (h : n ≤ x.length) : x.reverse.take n = (x.drop (x.length - n)).reverse := by
  rw [List.take_reverse]
theorem suf_drop (x y : List UInt8) : x.drop (x.length - suf x y) = y.drop (y.length - suf x y) := by
  have h := suf_le x y
  have := pre_take x.reverse y.reverse
  have e : pre x.reverse y.reverse = suf x y := rfl
  rw [e, take_rev x h.1, take_rev y h.2] at this
  have := congrArg List.reverse this
  simpa using this
theorem suf_most (x y : List UInt8) (n : Nat) (h1 : n ≤ x.length) (h2 : n ≤ y.length) (h : x.drop (x.length - n) = y.drop (y.length - n)) : n ≤ suf x y := by
  refine pre_most x.reverse y.reverse n (by simpa using h1) (by simpa using h2) ?_
  rw [take_rev x h1, take_rev y h2, h]

/-- How many bytes of a value are the base's: at its head, at its end. -/
def headN (base v : List UInt8) : Nat := pre base v
def tailN (base v : List UInt8) : Nat := suf (base.drop (headN base v)) (v.drop (headN base v))
def midB (base v : List UInt8) : List UInt8 := (v.drop (headN base v)).take (v.length - headN base v - tailN base v)
/-- A value's bytes. -/
def valB (base v : List UInt8) : List UInt8 := 0 :: (ub (headN base v) ++ ub (tailN base v) ++ (ub (midB base v).length ++ midB base v))
/-- Versions' bytes, behind a time, over a base. -/
def versB : Nat → List UInt8 → List Vr → List UInt8
  | _, _, [] => []
  | t, base, v :: l => ub (v.time - t) ++ (if v.gone then 1 :: versB v.time base l else valB base v.val.data.toList ++ versB v.time v.val.data.toList l)
def chainB (l : List Vr) : List UInt8 := ub l.length ++ versB 0 [] l
/-- A chain, behind a time. -/
def risesB : Nat → List Vr → Bool
  | _, [] => true
  | t, v :: l => decide (t < v.time) && (!v.gone || decide (v.val.size = 0)) && risesB v.time l
def rightB (l : List Vr) : Bool := risesB 0 l && decide (l.length ≤ 200)
/-- The time that the first k versions end at, and the base that they leave. -/
def lastT (l : List Vr) (k : Nat) : Nat := if k = 0 then 0 else (l.getD (k - 1) vr0).time
def baseOf : List UInt8 → List Vr → List UInt8
  | b, [] => b
  | b, v :: l => if v.gone then baseOf b l else baseOf v.val.data.toList l
theorem baseOf_snoc (b : List UInt8) (l : List Vr) (v : Vr) : baseOf b (l ++ [v]) = if v.gone then baseOf b l else v.val.data.toList := by
  induction l generalizing b with
  | nil => simp [baseOf]
  | cons x l ih => simp only [List.cons_append, baseOf]; split <;> exact ih _
def endT (t : Nat) : List Vr → Nat
  | [] => t
  | v :: l => endT v.time l
theorem endT_snoc (t : Nat) (l : List Vr) (v : Vr) : endT t (l ++ [v]) = v.time := by
  induction l generalizing t with
  | nil => rfl
  | cons x l ih => exact ih _
theorem versB_snoc (t : Nat) (b : List UInt8) (l : List Vr) (v : Vr) : versB t b (l ++ [v]) = versB t b l ++ (ub (v.time - endT t l) ++ (if v.gone then [1] else valB (baseOf b l) v.val.data.toList)) := by
  induction l generalizing t b with
  | nil => simp only [List.nil_append, versB, endT, baseOf]; split <;> simp
  | cons x l ih =>
    simp only [List.cons_append, versB, endT, baseOf]
    split
    · rw [ih]; simp
    · rw [ih]; simp
/-- What its values have. -/
def allN (l : List Vr) : Nat := (l.map fun v => v.val.size).sum
/-- The last version up to a time. -/
def atV : List Vr → Nat → Option Vr
  | [], _ => none
  | v :: l, t => match atV l t with
    | some x => some x
    | none => if v.time ≤ t then some v else none
end Go.Proofs.Ytahohdbkkcdmiaa
