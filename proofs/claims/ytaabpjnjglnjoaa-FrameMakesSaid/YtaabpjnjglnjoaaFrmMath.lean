/-
  A payload's frame as a list of bytes; no program stands here.
-/
import Derived.Test.YtaabpjnjglnjoaaFixMath
import Derived.Test.YtaabpjnjglnjoaaCrcMath
namespace Go.Proofs.Ytaabpjnjglnjoaa
set_option linter.unusedVariables false
set_option linter.unnecessarySimpa false
set_option linter.unusedSimpArgs false
set_option maxRecDepth 100000

theorem fx_length (n size : Nat) (big : Bool) : (fx n size big).length = size := by rw [fx, cellsF_length]

/-- A frame: how many bytes, their sum, they. -/
def frmB (l : List UInt8) : List UInt8 := fx l.length 4 true ++ fx (sumB l) 4 true ++ l
theorem frmB_length (l : List UInt8) : (frmB l).length = l.length + 8 := by
  unfold frmB
  rw [List.length_append, List.length_append, fx_length, fx_length]; omega

/-- A payload that has a frame. -/
def good (s : ByteArray) : Bool := decide (1 ≤ s.size) && decide (s.size ≤ 4000)
theorem good_iff (s : ByteArray) : good s = true ↔ 1 ≤ s.size ∧ s.size ≤ 4000 := by simp [good]
theorem good_no (s : ByteArray) : good s = false ↔ s.size < 1 ∨ 4000 < s.size := by
  unfold good; rw [Bool.and_eq_false_iff, decide_eq_false_iff_not, decide_eq_false_iff_not]; omega
/-- What is told of payloads. -/
def goods (l : List ByteArray) : List ByteArray := l.filter good
theorem goods_snoc_yes {l : List ByteArray} {s : ByteArray} (h : good s = true) : goods (l ++ [s]) = goods l ++ [s] := by simp [goods, h]
theorem goods_snoc_no {l : List ByteArray} {s : ByteArray} (h : good s = false) : goods (l ++ [s]) = goods l := by simp [goods, h]
theorem goods_cons_yes {l : List ByteArray} {s : ByteArray} (h : good s = true) : goods (s :: l) = s :: goods l := by simp [goods, h]
theorem goods_cons_no {l : List ByteArray} {s : ByteArray} (h : good s = false) : goods (s :: l) = goods l := by simp [goods, h]
theorem goods_le (l : List ByteArray) : (goods l).length ≤ l.length := List.length_filter_le _ _
theorem take_snocD {α : Type} (l : List α) (d : α) {i : Nat} (h : i < l.length) : l.take (i + 1) = l.take i ++ [l.getD i d] := by
  rw [List.take_add_one, List.getD, List.getElem?_eq_getElem h]; rfl
theorem drop_consD {α : Type} (l : List α) (d : α) {i : Nat} (h : i < l.length) : l.drop i = l.getD i d :: l.drop (i + 1) := by
  rw [List.getD, List.getElem?_eq_getElem h]; exact List.drop_eq_getElem_cons h
end Go.Proofs.Ytaabpjnjglnjoaa
