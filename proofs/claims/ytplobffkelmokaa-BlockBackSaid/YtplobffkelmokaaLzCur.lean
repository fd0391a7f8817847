/-
  A cursor by the list of the bytes that are left; what stays while the cursor and the call's own memory are written.
-/
import Derived.Test.YtplobffkelmokaaSet13
import Derived.Test.YtplobffkelmokaaSet08
import Derived.Test.YtplobffkelmokaaSet03
import Derived.Lib.Strings
import Derived.Lib.IndexBytes
namespace Go.Proofs.Ytplobffkelmokaa
open Go.RowKit
set_option linter.unusedVariables false
set_option linter.unnecessarySimpa false
set_option linter.unusedSimpArgs false
set_option maxRecDepth 100000

theorem ba_ext {a b : ByteArray} (h : a.data.toList = b.data.toList) : a = b := by
  apply ByteArray.ext
  exact Array.toList_inj.1 h
/-- A cursor by the list of what is left. -/
def CurL (w : World) (g : Nat) (l : List UInt8) (bad : Bool) : Prop := CurAt w g ⟨l.toArray⟩ bad
theorem arr_size (l : List UInt8) : (⟨l.toArray⟩ : ByteArray).size = l.length := List.size_toArray
theorem arr_drop (l : List UInt8) (k : Nat) : (⟨l.toArray⟩ : ByteArray).extract k (⟨l.toArray⟩ : ByteArray).size = ⟨(l.drop k).toArray⟩ := ba_ext (Lib.extract_to_end _ _)
theorem arr_take (l : List UInt8) (k : Nat) : (⟨l.toArray⟩ : ByteArray).extract 0 k = ⟨(l.take k).toArray⟩ := ba_ext (by rw [Lib.extract_data]; simp)
theorem CurL.lt {w : World} {g : Nat} {l : List UInt8} {bad : Bool} (h : CurL w g l bad) : g < w.heap.size := CurAt.lt h

/-! What the calls tell, by the list. -/
theorem uN_none {l : List UInt8} (h : tk l = none) : cUint ⟨l.toArray⟩ false = (0, ⟨l.toArray⟩, true) := by
  have := tk_is_none h
  unfold cUint
  simp only [Bool.false_eq_true, if_false]
  rw [if_pos (show tkK (⟨l.toArray⟩ : ByteArray).data.toList = 0 from this.2)]
theorem uN_some {l : List UInt8} {n k : Nat} (h : tk l = some (n, k)) : cUint ⟨l.toArray⟩ false = (n, ⟨(l.drop k).toArray⟩, false) := by
  have h1 := tk_is_some h
  have h2 := (tk_some h).2.2.2.1
  have e : (⟨l.toArray⟩ : ByteArray).data.toList = l := rfl
  unfold cUint
  simp only [Bool.false_eq_true, if_false]
  rw [h1.1, h1.2, if_neg (by omega), arr_drop]
theorem uN_bad (l : List UInt8) : cUint ⟨l.toArray⟩ true = (0, ⟨l.toArray⟩, true) := by simp [cUint]
theorem cT_none {l : List UInt8} (h : tk l = none) : cText ⟨l.toArray⟩ false = (ByteArray.empty, ⟨l.toArray⟩, true) := by
  have h1 := tk_is_none h
  have e : (⟨l.toArray⟩ : ByteArray).data.toList = l := rfl
  unfold cText
  rw [e, if_pos (.inr (.inl h1.2))]
theorem cT_short {l : List UInt8} {n k : Nat} (h : tk l = some (n, k)) (hn : (l.drop k).length < n) : cText ⟨l.toArray⟩ false = (ByteArray.empty, ⟨l.toArray⟩, true) := by
  have h1 := tk_is_some h
  have e : (⟨l.toArray⟩ : ByteArray).data.toList = l := rfl
  rw [List.length_drop] at hn
  unfold cText
  rw [e, arr_size, h1.1, h1.2, if_pos (.inr (.inr hn))]
theorem cT_full {l : List UInt8} {n k : Nat} (h : tk l = some (n, k)) (hn : n ≤ (l.drop k).length) : cText ⟨l.toArray⟩ false = (⟨((l.drop k).take n).toArray⟩, ⟨((l.drop k).drop n).toArray⟩, false) := by
  have h1 := tk_is_some h
  have h2 := tk_some h
  have e : (⟨l.toArray⟩ : ByteArray).data.toList = l := rfl
  have hl : (l.drop k).length = l.length - k := List.length_drop
  unfold cText
  rw [e, h1.1, h1.2, if_neg (by rw [arr_size]; simp only [Bool.false_eq_true, false_or]; omega), arr_drop, arr_take]
  rw [show (⟨l.toArray⟩ : ByteArray).size - k = (⟨(l.drop k).toArray⟩ : ByteArray).size by rw [arr_size, arr_size, hl], arr_drop]
theorem cB_full {l : List UInt8} {k : Nat} (h : k ≤ l.length) : cBytes ⟨l.toArray⟩ false k = (⟨(l.take k).toArray⟩, ⟨(l.drop k).toArray⟩, false) := by
  unfold cBytes
  rw [if_neg (by rw [arr_size]; simp only [Bool.false_eq_true, false_or]; omega), Int.toNat_natCast, arr_drop, arr_take]
theorem cB_short {l : List UInt8} {k : Nat} (h : l.length < k) : cBytes ⟨l.toArray⟩ false k = (ByteArray.empty, ⟨l.toArray⟩, true) := by
  unfold cBytes
  rw [if_pos (by rw [arr_size]; right; right; omega)]

/-- Below B nothing turns but block g. -/
structure Kept (B g : Nat) (w w' : World) : Prop where
  os : w'.os = w.os
  tape : w'.tape = w.tape
  output : w'.output = w.output
  size : w.heap.size ≤ w'.heap.size
  block : ∀ k, k < B → k ≠ g → w'.heap[k]? = w.heap[k]?
section
variable {B g : Nat} {w w1 w2 : World}
theorem Kept.refl (B g : Nat) (w : World) : Kept B g w w := ⟨rfl, rfl, rfl, Nat.le_refl _, fun _ _ _ => rfl⟩
theorem Kept.trans (h1 : Kept B g w w1) (h2 : Kept B g w1 w2) : Kept B g w w2 :=
  ⟨h2.os.trans h1.os, h2.tape.trans h1.tape, h2.output.trans h1.output, Nat.le_trans h1.size h2.size, fun k hk hg => (h2.block k hk hg).trans (h1.block k hk hg)⟩
theorem Kept.of_below (h : Below B w w1) : Kept B g w w1 := ⟨h.os, h.tape, h.output, h.size, fun k hk _ => h.block k hk⟩
theorem Kept.of_grown (h : w.grownBy w1 (some g)) (hB : B ≤ w.heap.size) : Kept B g w w1 := ⟨h.os, h.tape, h.output, h.size, fun k hk hg => h.block k (by omega) (fun e => hg (by injection e))⟩
theorem Kept.below (h : Kept B g w w1) (hg : B = g + 1) : Below g w w1 := ⟨h.os, h.tape, h.output, h.size, fun k hk => h.block k (by omega) (by omega)⟩
end
theorem own_grown {W W' : World} {B e size n g : Nat} {v : Value} {xs : List Value} (h : W.ownsRow B e size v n xs) (hg : W.grownBy W' (some g)) (hB : g < B) : W'.ownsRow B e size v n xs := by
  refine h.kept hg ?_
  cases hv : v.ownBlock with
  | none => exact .inl rfl
  | some k =>
    refine .inr ?_
    have := (h.lt k hv).1
    intro e
    injection e with e
    omega
theorem CurL.below {W W' : World} {g B : Nat} {l : List UInt8} {bad : Bool} (h : CurL W g l bad) (hb : Below B W W') (hg : g < B) : CurL W' g l bad := CurAt.kept h hb hg
end Go.Proofs.Ytplobffkelmokaa
