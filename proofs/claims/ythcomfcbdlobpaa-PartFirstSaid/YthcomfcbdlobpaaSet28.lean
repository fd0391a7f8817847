/-
  Joined: LzCur, ChnPMath, ChnPShared, ChnPBytes, MvcKeys.
-/
import Derived.Test.YthcomfcbdlobpaaSet27
import Derived.Test.YthcomfcbdlobpaaSet04
import Derived.Lib.Strings
import Derived.Lib.IndexBytes
import Derived.BigQuiet
import Derived.Test.YthcomfcbdlobpaaSet17
import Derived.Sort.Walk0
namespace Go.Proofs.Ythcomfcbdlobpaa
open Go.RowKit
set_option linter.unusedVariables false
set_option linter.unnecessarySimpa false
set_option linter.unusedSimpArgs false
set_option maxRecDepth 100000

theorem ba_ext {a b : ByteArray} (h : a.data.toList = b.data.toList) : a = b := by
  apply ByteArray.ext
  exact Array.toList_inj.1 h
theorem arr_size (l : List UInt8) : (⟨l.toArray⟩ : ByteArray).size = l.length := List.size_toArray
theorem arr_drop (l : List UInt8) (k : Nat) : (⟨l.toArray⟩ : ByteArray).extract k (⟨l.toArray⟩ : ByteArray).size = ⟨(l.drop k).toArray⟩ := ba_ext (Lib.extract_to_end _ _)
theorem arr_take (l : List UInt8) (k : Nat) : (⟨l.toArray⟩ : ByteArray).extract 0 k = ⟨(l.take k).toArray⟩ := ba_ext (by rw [Lib.extract_data]; simp)
/-! What the calls tell, by the list. -/
theorem uN_none {l : List UInt8} (h : tk l = none) : cUint ⟨l.toArray⟩ false = (0, ⟨l.toArray⟩, true) := by
  have := tk_is_none h
  unfold cUint
  simp only [Bool.false_eq_true, if_false]
  rw [if_pos (show tkK (⟨l.toArray⟩ : ByteArray).data.toList = 0 from this.2)]
theorem uN_some {l : List UInt8} {n k : Nat} (h : tk l = some (n, k)) : cUint ⟨l.toArray⟩ false = (n, ⟨(l.drop k).toArray⟩, false) := by
  have h1 := tk_is_some h
  have h2 := (tk_some h).2.2.2.1
  have e : (⟨l.toArray⟩ : ByteArray).data.toList = l := rfl
  unfold cUint
  simp only [Bool.false_eq_true, if_false]
  rw [h1.1, h1.2, if_neg (by omega), arr_drop]
theorem uN_bad (l : List UInt8) : cUint ⟨l.toArray⟩ true = (0, ⟨l.toArray⟩, true) := by simp [cUint]
theorem cT_none {l : List UInt8} (h : tk l = none) : cText ⟨l.toArray⟩ false = (ByteArray.empty, ⟨l.toArray⟩, true) := by
  have h1 := tk_is_none h
  have e : (⟨l.toArray⟩ : ByteArray).data.toList = l := rfl
  unfold cText
  rw [e, if_pos (.inr (.inl h1.2))]
theorem cT_short {l : List UInt8} {n k : Nat} (h : tk l = some (n, k)) (hn : (l.drop k).length < n) : cText ⟨l.toArray⟩ false = (ByteArray.empty, ⟨l.toArray⟩, true) := by
  have h1 := tk_is_some h
  have e : (⟨l.toArray⟩ : ByteArray).data.toList = l := rfl
  rw [List.length_drop] at hn
  unfold cText
  rw [e, arr_size, h1.1, h1.2, if_pos (.inr (.inr hn))]
theorem cT_full {l : List UInt8} {n k : Nat} (h : tk l = some (n, k)) (hn : n ≤ (l.drop k).length) : cText ⟨l.toArray⟩ false = (⟨((l.drop k).take n).toArray⟩, ⟨((l.drop k).drop n).toArray⟩, false) := by
  have h1 := tk_is_some h
  have h2 := tk_some h
  have e : (⟨l.toArray⟩ : ByteArray).data.toList = l := rfl
  have hl : (l.drop k).length = l.length - k := List.length_drop
  unfold cText
  rw [e, h1.1, h1.2, if_neg (by rw [arr_size]; simp only [Bool.false_eq_true, false_or]; omega), arr_drop, arr_take]
  rw [show (⟨l.toArray⟩ : ByteArray).size - k = (⟨(l.drop k).toArray⟩ : ByteArray).size by rw [arr_size, arr_size, hl], arr_drop]
theorem cB_full {l : List UInt8} {k : Nat} (h : k ≤ l.length) : cBytes ⟨l.toArray⟩ false k = (⟨(l.take k).toArray⟩, ⟨(l.drop k).toArray⟩, false) := by
  unfold cBytes
  rw [if_neg (by rw [arr_size]; simp only [Bool.false_eq_true, false_or]; omega), Int.toNat_natCast, arr_drop, arr_take]
theorem cB_short {l : List UInt8} {k : Nat} (h : l.length < k) : cBytes ⟨l.toArray⟩ false k = (ByteArray.empty, ⟨l.toArray⟩, true) := by
  unfold cBytes
  rw [if_pos (by rw [arr_size]; right; right; omega)]

/-- Below B nothing turns but block g. -/
structure Kept (B g : Nat) (w w' : World) : Prop where
  os : w'.os = w.os
  tape : w'.tape = w.tape
  output : w'.output = w.output
  size : w.heap.size ≤ w'.heap.size
  block : ∀ k, k < B → k ≠ g → w'.heap[k]? = w.heap[k]?
section
variable {B g : Nat} {w w1 w2 : World}
theorem Kept.refl (B g : Nat) (w : World) : Kept B g w w := ⟨rfl, rfl, rfl, Nat.le_refl _, fun _ _ _ => rfl⟩
theorem Kept.trans (h1 : Kept B g w w1) (h2 : Kept B g w1 w2) : Kept B g w w2 :=
  ⟨h2.os.trans h1.os, h2.tape.trans h1.tape, h2.output.trans h1.output, Nat.le_trans h1.size h2.size, fun k hk hg => (h2.block k hk hg).trans (h1.block k hk hg)⟩
theorem Kept.of_below (h : Below B w w1) : Kept B g w w1 := ⟨h.os, h.tape, h.output, h.size, fun k hk _ => h.block k hk⟩
theorem Kept.of_grown (h : w.grownBy w1 (some g)) (hB : B ≤ w.heap.size) : Kept B g w w1 := ⟨h.os, h.tape, h.output, h.size, fun k hk hg => h.block k (by omega) (fun e => hg (by injection e))⟩
theorem Kept.below (h : Kept B g w w1) (hg : B = g + 1) : Below g w w1 := ⟨h.os, h.tape, h.output, h.size, fun k hk => h.block k (by omega) (by omega)⟩
end
theorem own_grown {W W' : World} {B e size n g : Nat} {v : Value} {xs : List Value} (h : W.ownsRow B e size v n xs) (hg : W.grownBy W' (some g)) (hB : g < B) : W'.ownsRow B e size v n xs := by
  refine h.kept hg ?_
  cases hv : v.ownBlock with
  | none => exact .inl rfl
  | some k =>
    refine .inr ?_
    have := (h.lt k hv).1
    intro e
    injection e with e
    omega
end Go.Proofs.Ythcomfcbdlobpaa

namespace Go.Proofs.Ythcomfcbdlobpaa
open Go.RowKit
set_option linter.unusedVariables false
set_option linter.unnecessarySimpa false
set_option linter.unusedSimpArgs false
set_option maxRecDepth 100000

/-! What two values share. -/
theorem pre_comm : ∀ x y : List UInt8, pre x y = pre y x
  | [], [] => rfl
  | [], _ :: _ => by simp [pre]
  | _ :: _, [] => by simp [pre]
  | a :: x, b :: y => by
    unfold pre
    by_cases h : a = b
    · rw [if_pos h, if_pos h.symm, pre_comm x y]
    · rw [if_neg h, if_neg (fun e => h e.symm)]
theorem head_at {b v : List UInt8} {i : Nat} (h : i < headN b v) : v.getD i 0 = b.getD i 0 := by
  have h1 := pre_take b v
  have e : pre b v = headN b v := rfl
  rw [e] at h1
  have h2 := congrArg (fun l : List UInt8 => l.getD i 0) h1
  simp only [List.getD, List.getElem?_take, if_pos h] at h2
  simp only [List.getD]
  exact h2.symm
theorem head_end {b v : List UInt8} (h1 : headN b v < b.length) (h2 : headN b v < v.length) : ¬ v.getD (headN b v) 0 = b.getD (headN b v) 0 := by
  intro h
  refine head_ne b v (headN b v + 1) (by omega) h1 h2 ?_
  rw [List.take_add_one, List.take_add_one]
  have e := pre_take b v
  have e2 : pre b v = headN b v := rfl
  rw [e2] at e
  rw [e]
  congr 1
  simp only [List.getD, List.getElem?_eq_getElem h1, List.getElem?_eq_getElem h2, Option.getD_some] at h ⊢
  rw [h]
theorem getD_drop (x : List UInt8) (a i : Nat) : (x.drop a).getD i 0 = x.getD (a + i) 0 := by simp only [List.getD, List.getElem?_drop]
theorem tail_at {b v : List UInt8} {j : Nat} (h : j < tailN b v) : v.getD (v.length - 1 - j) 0 = b.getD (b.length - 1 - j) 0 := by
  have hl := tailN_le b v
  have h1 := congrArg (fun l : List UInt8 => l.getD (tailN b v - 1 - j) 0) (tail_eq b v)
  simp only [getD_drop] at h1
  rw [show b.length - tailN b v + (tailN b v - 1 - j) = b.length - 1 - j by omega, show v.length - tailN b v + (tailN b v - 1 - j) = v.length - 1 - j by omega] at h1
  exact h1.symm
theorem drop_getD (x : List UInt8) (a : Nat) (h : a < x.length) : x.drop a = x.getD a 0 :: x.drop (a + 1) := by
  rw [List.drop_eq_getElem_cons h, List.getD, List.getElem?_eq_getElem h]; rfl
theorem tail_end {b v : List UInt8} (h1 : headN b v + tailN b v < b.length) (h2 : headN b v + tailN b v < v.length) : ¬ v.getD (v.length - 1 - tailN b v) 0 = b.getD (b.length - 1 - tailN b v) 0 := by
  intro h
  refine tail_ne b v (tailN b v + 1) (by omega) (by omega) (by omega) ?_
  rw [drop_getD b (b.length - (tailN b v + 1)) (by omega), drop_getD v (v.length - (tailN b v + 1)) (by omega)]
  rw [show b.length - (tailN b v + 1) = b.length - 1 - tailN b v by omega, show v.length - (tailN b v + 1) = v.length - 1 - tailN b v by omega, h]
  rw [show b.length - 1 - tailN b v + 1 = b.length - tailN b v by omega, show v.length - 1 - tailN b v + 1 = v.length - tailN b v by omega, tail_eq b v]

/-! A value off the head. -/
def mkVal (base mid : List UInt8) (h t : Nat) : List UInt8 := base.take h ++ mid ++ base.drop (base.length - t)
theorem mkVal_back (b v : List UInt8) : mkVal b (midB b v) (headN b v) (tailN b v) = v := by
  have h1 := tailN_le b v
  have h2 := pre_take b v
  have e : pre b v = headN b v := rfl
  rw [e] at h2
  unfold mkVal midB
  rw [tail_eq b v, h2]
  have h3 : v.drop (v.length - tailN b v) = (v.drop (headN b v)).drop (v.length - headN b v - tailN b v) := by rw [List.drop_drop]; congr 1; omega
  rw [h3, List.append_assoc, List.take_append_drop, List.take_append_drop]
theorem midB_mk {b mid v : List UInt8} {h t : Nat} (hh : h ≤ b.length) (ht : t ≤ b.length - h) (hv : v = mkVal b mid h t) (e1 : h = headN b v) (e2 : t = tailN b v) : midB b v = mid := by
  unfold midB
  rw [← e1, ← e2, hv]
  unfold mkVal
  have l1 : (b.take h).length = h := by rw [List.length_take]; omega
  have l2 : (b.drop (b.length - t)).length = t := by rw [List.length_drop]; omega
  rw [List.append_assoc, List.drop_left' l1]
  simp only [List.length_append, l1, l2]
  rw [show h + (mid.length + t) - h - t = mid.length by omega, List.take_left]
theorem mkVal_len {b mid : List UInt8} {h t : Nat} (hh : h ≤ b.length) (ht : t ≤ b.length - h) : (mkVal b mid h t).length = h + mid.length + t := by
  unfold mkVal
  rw [List.length_append, List.length_append, List.length_take, List.length_drop]; omega
def valOf (base : List UInt8) (h t : Nat) (mid r : List UInt8) : Option (List UInt8 × List UInt8) :=
  if h ≤ base.length ∧ t ≤ base.length - h ∧ h = headN base (mkVal base mid h t) ∧ t = tailN base (mkVal base mid h t) then some (mkVal base mid h t, r) else none
def tkVal (base l : List UInt8) : Option (List UInt8 × List UInt8) :=
  match tk l with
  | none => none
  | some (h, k1) => match tk (l.drop k1) with
    | none => none
    | some (t, k2) => match tk ((l.drop k1).drop k2) with
      | none => none
      | some (n, k3) => if n ≤ (((l.drop k1).drop k2).drop k3).length then valOf base h t ((((l.drop k1).drop k2).drop k3).take n) ((((l.drop k1).drop k2).drop k3).drop n) else none
theorem ub_split {l : List UInt8} {n k : Nat} (h : tk l = some (n, k)) : l = ub n ++ l.drop k := by
  rw [← (tk_some h).1, List.take_append_drop]
/-- A value's bytes behind the byte that tells that it is there. -/
def bodyB (base v : List UInt8) : List UInt8 := ub (headN base v) ++ ub (tailN base v) ++ (ub (midB base v).length ++ midB base v)
theorem tkVal_some {base l v r : List UInt8} (h : tkVal base l = some (v, r)) : l = bodyB base v ++ r := by
  unfold tkVal at h
  split at h
  · cases h
  rename_i hh k1 h1
  split at h
  · cases h
  rename_i tt k2 h2
  split at h
  · cases h
  rename_i n k3 h3
  split at h
  case isFalse => cases h
  rename_i hn
  unfold valOf at h
  split at h
  case isFalse => cases h
  rename_i hc
  injection h with h
  injection h with hv hr
  have e1 := ub_split h1
  have e2 := ub_split h2
  have e3 := ub_split h3
  have hm := midB_mk hc.1 hc.2.1 hv.symm (by rw [← hv]; exact hc.2.2.1) (by rw [← hv]; exact hc.2.2.2)
  unfold bodyB
  rw [hm, ← hv, ← hc.2.2.1, ← hc.2.2.2, ← hr, List.length_take, Nat.min_eq_left hn]
  conv => lhs; rw [e1, e2, e3]
  simp only [List.append_assoc, List.take_append_drop]
theorem drop_ub (n : Nat) (r : List UInt8) : (ub n ++ r).drop (ub n).length = r := by simp
theorem tkVal_body {base v r : List UInt8} (hb : base.length < 4294967296) (hv : v.length < 4294967296) : tkVal base (bodyB base v ++ r) = some (v, r) := by
  have h1 := tailN_le base v
  have hmid : (midB base v).length ≤ v.length := by unfold midB; rw [List.length_take, List.length_drop]; omega
  have e : bodyB base v ++ r = ub (headN base v) ++ (ub (tailN base v) ++ (ub (midB base v).length ++ (midB base v ++ r))) := by unfold bodyB; simp
  unfold tkVal
  rw [e, tk_ub _ (by omega)]
  simp only
  rw [drop_ub, tk_ub _ (by omega)]
  simp only
  rw [drop_ub, tk_ub _ (by omega)]
  simp only
  rw [drop_ub, if_pos (by simp)]
  unfold valOf
  rw [List.take_left, List.drop_left, mkVal_back, if_pos ⟨by omega, by omega, rfl, rfl⟩]
theorem tkVal_len {base l v r : List UInt8} (h : tkVal base l = some (v, r)) : r.length ≤ l.length ∧ v.length ≤ base.length + l.length := by
  have e := tkVal_some h
  have h1 := tailN_le base v
  have h2 := mkVal_len (b := base) (mid := midB base v) (h := headN base v) (t := tailN base v) (by omega) (by omega)
  rw [mkVal_back] at h2
  have h3 := congrArg List.length e
  unfold bodyB at h3
  simp only [List.length_append] at h3
  omega

/-! A version off the head. -/
def verB (t : Nat) (b : List UInt8) (v : Vr) : List UInt8 := ub (v.time - t) ++ (if v.gone then [1] else valB b v.val.data.toList)
def nextB (b : List UInt8) (v : Vr) : List UInt8 := if v.gone then b else v.val.data.toList
def W64 : Nat := 18446744073709551616
def tkVer (t : Nat) (base l : List UInt8) : Option (Vr × List UInt8) :=
  match tk l with
  | none => none
  | some (s, k) => match l.drop k with
    | [] => none
    | x :: r => if (t + s) % 18446744073709551616 ≤ t then none else if x = 1 then some (⟨(t + s) % 18446744073709551616, true, ⟨#[]⟩⟩, r)
      else if x = 0 then (match tkVal base r with | none => none | some (v, r') => some (⟨(t + s) % 18446744073709551616, false, ⟨v.toArray⟩⟩, r')) else none
theorem valB_body (b v : List UInt8) : valB b v = 0 :: bodyB b v := rfl
/-- A version that may stand behind a time. -/
def okVer (t : Nat) (v : Vr) : Prop := t < v.time ∧ v.time < 18446744073709551616 ∧ (v.gone = true → v.val = ⟨#[]⟩)
theorem tkVer_some {t : Nat} {base l : List UInt8} {v : Vr} {r : List UInt8} (ht : t < 18446744073709551616) (h : tkVer t base l = some (v, r)) : l = verB t base v ++ r ∧ okVer t v ∧ r.length < l.length := by
  unfold tkVer at h
  split at h
  · cases h
  rename_i s k h1
  have e1 := ub_split h1
  have hs := (tk_some h1).2.1
  have hu := ub_pos s
  split at h
  · cases h
  rename_i x q h2
  split at h
  · cases h
  rename_i h3
  have e3 : (t + s) % 18446744073709551616 = t + s := by
    rcases Nat.lt_or_ge (t + s) 18446744073709551616 with h | h
    · exact Nat.mod_eq_of_lt h
    · omega
  have hl := congrArg List.length e1
  rw [List.length_append, h2, List.length_cons] at hl
  split at h
  · rename_i h4
    injection h with h
    injection h with hv hr
    subst hv hr
    refine ⟨?_, ⟨by simp only; omega, by simp only; omega, fun _ => rfl⟩, by omega⟩
    unfold verB
    simp only [if_true]
    rw [e3, Nat.add_sub_cancel_left, List.append_assoc, ← h4, List.singleton_append, ← h2]
    exact e1
  · split at h
    case isFalse => cases h
    rename_i h5
    split at h
    · cases h
    rename_i v' r' h6
    injection h with h
    injection h with hv hr
    subst hv hr
    have hl2 := (tkVal_len h6).1
    refine ⟨?_, ⟨by simp only; omega, by simp only; omega, fun h => by cases h⟩, by omega⟩
    unfold verB
    simp only [Bool.false_eq_true, if_false]
    rw [e3, Nat.add_sub_cancel_left, valB_body, List.append_assoc, List.cons_append, ← tkVal_some h6, ← h5, ← h2]
    exact e1
theorem tkVer_ver {t : Nat} {base r : List UInt8} {v : Vr} (hv : okVer t v) (hb : base.length < 4294967296) (hs : v.val.size < 4294967296) : tkVer t base (verB t base v ++ r) = some (v, r) := by
  obtain ⟨h1, h2, h3⟩ := hv
  obtain ⟨vt, vg, vv⟩ := v
  simp only at h1 h2 h3 hs
  have ht : t + (vt - t) = vt := by omega
  have hm : vt % 18446744073709551616 = vt := Nat.mod_eq_of_lt h2
  have hn : ¬ vt ≤ t := by omega
  unfold tkVer verB
  simp only
  rw [List.append_assoc, tk_ub _ (by omega)]
  simp only
  rw [drop_ub, ht, hm]
  cases vg with
  | true =>
    simp only [if_true, List.singleton_append]
    rw [if_neg hn, h3 rfl]
  | false =>
    simp only [Bool.false_eq_true, if_false]
    rw [valB_body, List.cons_append]
    simp only
    rw [if_neg hn, if_neg (by decide), if_pos trivial, tkVal_body hb (by rw [c_size]; exact hs)]

/-! Versions off the head, and a chain. -/
inductive DecO where
  | form : DecO
  | long : DecO
  | all : List Vr → List UInt8 → DecO
def DecO.ahead (l : List Vr) : DecO → DecO
  | .all zs r => .all (l ++ zs) r
  | x => x
theorem DecO.ahead_nil (x : DecO) : x.ahead [] = x := by cases x <;> rfl
theorem DecO.ahead_snoc (l : List Vr) (v : Vr) (x : DecO) : (x.ahead [v]).ahead l = x.ahead (l ++ [v]) := by cases x <;> simp [DecO.ahead]
def decR : Nat → Nat → List UInt8 → Nat → List UInt8 → DecO
  | 0, _, _, _, l => .all [] l
  | n + 1, t, base, room, l => match tkVer t base l with
    | none => .form
    | some (v, r) => if room < v.val.size then .long else (decR n v.time (nextB base v) (room - v.val.size) r).ahead [v]
def decB (l : List UInt8) : DecO :=
  match tk l with
  | none => .form
  | some (n, k) => if 200 < n then .form else match decR n 0 [] 60000 (l.drop k) with
    | .all zs [] => .all zs []
    | .all _ (_ :: _) => .form
    | x => x
theorem allN_cons (v : Vr) (l : List Vr) : allN (v :: l) = v.val.size + allN l := by simp [allN]
theorem versB_cons (t : Nat) (b : List UInt8) (v : Vr) (l : List Vr) : versB t b (v :: l) = verB t b v ++ versB v.time (nextB b v) l := by
  unfold verB nextB
  rw [versB]
  split <;> simp
theorem rises_cons {t : Nat} {v : Vr} {l : List Vr} : risesB t (v :: l) = true ↔ (t < v.time ∧ (v.gone = true → v.val.size = 0)) ∧ risesB v.time l = true := by
  rw [risesB, Bool.and_eq_true, Bool.and_eq_true]
  cases v.gone <;> simp
theorem okVer_of {t : Nat} {v : Vr} (h : t < v.time ∧ (v.gone = true → v.val.size = 0)) (h2 : v.time < 18446744073709551616) : okVer t v := ⟨h.1, h2, fun hg => str_none (h.2 hg)⟩
theorem decR_vers : ∀ (zs : List Vr) (t : Nat) (base : List UInt8) (room : Nat) (r : List UInt8), risesB t zs = true → (∀ v ∈ zs, v.time < 18446744073709551616 ∧ v.val.size ≤ 60000) → base.length ≤ 60000 →
    decR zs.length t base room (versB t base zs ++ r) = if allN zs ≤ room then .all zs r else .long
  | [], t, base, room, r, _, _, _ => by simp [decR, versB, allN]
  | v :: zs, t, base, room, r, hr, hv, hb => by
    obtain ⟨h1, h2⟩ := rises_cons.1 hr
    have hv1 := hv v (by simp)
    have hnb : (nextB base v).length ≤ 60000 := by
      unfold nextB; split
      · exact hb
      · rw [c_size]; exact hv1.2
    rw [versB_cons, List.append_assoc, List.length_cons, decR, tkVer_ver (okVer_of h1 hv1.1) (by omega) (by omega), allN_cons]
    simp only
    rw [decR_vers zs v.time (nextB base v) _ r h2 (fun x hx => hv x (by simp [hx])) hnb]
    by_cases h3 : room < v.val.size
    · rw [if_pos h3, if_neg (by omega)]
    · rw [if_neg h3]
      by_cases h4 : allN zs ≤ room - v.val.size
      · rw [if_pos h4, if_pos (by omega)]; rfl
      · rw [if_neg h4, if_neg (by omega)]; rfl
theorem decR_all : ∀ (n t : Nat) (base : List UInt8) (room : Nat) (l : List UInt8) (zs : List Vr) (r : List UInt8), t < 18446744073709551616 → decR n t base room l = .all zs r →
    l = versB t base zs ++ r ∧ zs.length = n ∧ risesB t zs = true ∧ (∀ v ∈ zs, v.time < 18446744073709551616) ∧ allN zs ≤ room
  | 0, t, base, room, l, zs, r, _, h => by
    rw [decR] at h
    injection h with h1 h2
    subst h1 h2
    simp [versB, risesB, allN]
  | n + 1, t, base, room, l, zs, r, ht, h => by
    rw [decR] at h
    split at h
    · cases h
    rename_i v q h1
    split at h
    · cases h
    rename_i h2
    obtain ⟨e1, ⟨k1, k2, k3⟩, _⟩ := tkVer_some ht h1
    cases hd : decR n v.time (nextB base v) (room - v.val.size) q with
    | form => rw [hd] at h; cases h
    | long => rw [hd] at h; cases h
    | all zs' r' =>
      rw [hd] at h
      injection h with h3 h4
      subst h3 h4
      obtain ⟨e2, e3, e4, e5, e6⟩ := decR_all n v.time (nextB base v) _ q zs' r' k2 hd
      refine ⟨?_, by simp [e3], ?_, ?_, ?_⟩
      · rw [List.singleton_append, versB_cons, List.append_assoc, ← e2]; exact e1
      · rw [List.singleton_append]; exact rises_cons.2 ⟨⟨k1, fun hg => by rw [k3 hg]; rfl⟩, e4⟩
      · intro x hx
        rw [List.singleton_append] at hx
        rcases List.mem_cons.1 hx with rfl | hx
        · exact k2
        · exact e5 x hx
      · rw [List.singleton_append, allN_cons]; omega
theorem decB_chain {zs : List Vr} (h : okV zs) (hv : ∀ v ∈ zs, v.val.size ≤ 60000) : decB (chainB zs) = if allN zs ≤ 60000 then .all zs [] else .long := by
  obtain ⟨h1, h2⟩ := right_parts h.1
  unfold decB chainB
  rw [tk_ub _ (by omega)]
  simp only
  rw [drop_ub, if_neg (by omega)]
  have := decR_vers zs 0 [] 60000 [] h1 (fun v hv2 => ⟨h.2 v hv2, hv v hv2⟩) (by simp)
  rw [List.append_nil] at this
  rw [this]
  by_cases h3 : allN zs ≤ 60000
  · rw [if_pos h3]
  · rw [if_neg h3]
theorem decB_all {l : List UInt8} {zs : List Vr} {r : List UInt8} (h : decB l = .all zs r) : l = chainB zs ∧ okV zs ∧ allN zs ≤ 60000 ∧ r = [] := by
  unfold decB at h
  split at h
  · cases h
  rename_i n k h1
  split at h
  · cases h
  rename_i h2
  have e1 := ub_split h1
  split at h
  · rename_i zs' hd
    injection h with h3 h4
    subst h3 h4
    obtain ⟨e2, e3, e4, e5, e6⟩ := decR_all n 0 [] _ _ zs' [] (by omega) hd
    rw [List.append_nil] at e2
    refine ⟨?_, ⟨?_, e5⟩, e6, rfl⟩
    · unfold chainB; rw [e3, ← e2]; exact e1
    · unfold rightB; rw [e4]; simp; omega
  · cases h
  · rename_i x h5 h6
    cases r with
    | nil => exact absurd h (h5 zs)
    | cons a r => exact absurd h (h6 zs a r)
end Go.Proofs.Ythcomfcbdlobpaa

namespace Go.Proofs.Ythcomfcbdlobpaa
open Go.RowKit
set_option linter.unusedVariables false
set_option linter.unnecessarySimpa false
set_option linter.unusedSimpArgs false
set_option maxRecDepth 100000

theorem ba_getD (s : ByteArray) (i : Nat) (h : i < s.size) : s.data.toList.getD i 0 = s[i] := by
  have h2 : i < s.data.toList.length := by rw [c_size]; exact h
  rw [List.getD, List.getElem?_eq_getElem h2]
  rfl
end Go.Proofs.Ythcomfcbdlobpaa

namespace Go.Proofs.Ythcomfcbdlobpaa
open Go.RowKit
set_option linter.unusedVariables false
set_option linter.unnecessarySimpa false
set_option linter.unusedSimpArgs false
set_option maxRecDepth 100000

/-- A place, as its struct's cells. -/
def plc (t : Nat) (b : ByteArray) : Array Value := #[.int .u64 (t : Int), .string b]
def nextS (b : ByteArray) (v : Vr) : ByteArray := if v.gone then b else v.val
theorem nextS_list (b : ByteArray) (v : Vr) : (nextS b v).data.toList = nextB b.data.toList v := by
  unfold nextS nextB; split <;> rfl

theorem cells3 {W : World} {B : Nat} {x y z : Value} {t : TypeId} (h : W.heap[B]? = some (.cells #[x, y, z] t (0, 0))) : W.cell? ⟨B, 0, none⟩ = some x ∧ W.cell? ⟨B, 1, none⟩ = some y ∧ W.cell? ⟨B, 2, none⟩ = some z := by
  refine ⟨?_, ?_, ?_⟩ <;> rw [cell_of_row _ _ _ _ _ _ h] <;> rfl
theorem cells2 {W : World} {B : Nat} {x y : Value} {t : TypeId} (h : W.heap[B]? = some (.cells #[x, y] t (0, 0))) : W.cell? ⟨B, 0, none⟩ = some x ∧ W.cell? ⟨B, 1, none⟩ = some y := by
  refine ⟨?_, ?_⟩ <;> rw [cell_of_row _ _ _ _ _ _ h] <;> rfl
end Go.Proofs.Ythcomfcbdlobpaa

namespace Go.Proofs.Ythcomfcbdlobpaa
open Go.RowKit
set_option maxRecDepth 100000
set_option linter.unusedVariables false
set_option linter.unnecessarySimpa false
set_option linter.unusedSimpArgs false

theorem ltK_eq (a b : ByteArray) : ltK a b = decide (a.toList < b.toList) := by unfold ltK; exact bytesLess_eq _ _
theorem ltK_trans {a b c : ByteArray} (h1 : ltK a b = true) (h2 : ltK b c = true) : ltK a c = true := by
  rw [ltK_eq, decide_eq_true_eq] at *
  exact List.lt_trans h1 h2
theorem ltK_irr (a : ByteArray) : ltK a a = false := by
  rw [ltK_eq, decide_eq_false_iff_not]
  exact List.lt_irrefl _
theorem ltK_total {a b : ByteArray} (h1 : ltK a b = false) (h2 : sameK a b = false) : ltK b a = true := by
  rw [ltK_eq] at *
  rw [decide_eq_false_iff_not] at h1
  rw [decide_eq_true_eq]
  refine Classical.byContradiction fun h => ?_
  have : a.toList = b.toList := List.le_antisymm (List.not_lt.1 h) (List.not_lt.1 h1)
  rw [sameK_of this] at h2
  cases h2
theorem ltK_same {a b c : ByteArray} (h : sameK b c = true) : ltK a b = ltK a c := by unfold ltK; rw [sameK_eq h]
def Rise (l : List ByteArray) : Prop := l.Pairwise fun a b => ltK a b = true
theorem posK_there {k : ByteArray} : ∀ {l : List ByteArray}, Rise l → (∃ x ∈ l, sameK x k = true) → (decide (posK k l < l.length) && sameK (l.getD (posK k l) ⟨#[]⟩) k) = true
  | [], _, ⟨x, hx, _⟩ => by simp at hx
  | y :: l, hr, ⟨x, hx, hs⟩ => by
    have hr' := List.pairwise_cons.1 hr
    unfold posK
    by_cases hy : ltK y k = true
    · rw [if_pos hy]
      have hxl : x ∈ l := by
        rcases List.mem_cons.1 hx with rfl | h
        · rw [← ltK_same hs, ltK_irr] at hy
          cases hy
        · exact h
      have := posK_there hr'.2 ⟨x, hxl, hs⟩
      simp only [Bool.and_eq_true, decide_eq_true_eq] at this ⊢
      exact ⟨by simp; exact this.1, by simpa using this.2⟩
    · rw [if_neg hy]
      rcases List.mem_cons.1 hx with rfl | h
      · simpa using hs
      · have := hr'.1 x h
        rw [ltK_same hs] at this
        exact absurd this hy
theorem rise_ins {k : ByteArray} : ∀ {l : List ByteArray}, Rise l → (decide (posK k l < l.length) && sameK (l.getD (posK k l) ⟨#[]⟩) k) = false → Rise (l.take (posK k l) ++ [k] ++ l.drop (posK k l))
  | [], _, _ => by simp [Rise]
  | y :: l, hr, hn => by
    have hr' := List.pairwise_cons.1 hr
    unfold posK at hn ⊢
    by_cases hy : ltK y k = true
    · rw [if_pos hy] at hn ⊢
      have ih := rise_ins (k := k) hr'.2 (by simpa using hn)
      show Rise (y :: (l.take (posK k l) ++ [k] ++ l.drop (posK k l)))
      refine List.pairwise_cons.2 ⟨fun z hz => ?_, ih⟩
      simp only [List.mem_append, List.mem_cons, List.not_mem_nil, or_false] at hz
      rcases hz with (h | rfl) | h
      · exact hr'.1 z (List.mem_of_mem_take h)
      · exact hy
      · exact hr'.1 z (List.mem_of_mem_drop h)
    · rw [if_neg hy] at hn ⊢
      have hk : ltK k y = true := ltK_total (by simpa using hy) (by simpa using hn)
      show Rise (k :: y :: l)
      refine List.pairwise_cons.2 ⟨fun z hz => ?_, hr⟩
      rcases List.mem_cons.1 hz with rfl | h
      · exact hk
      · exact ltK_trans hk (hr'.1 z h)
theorem rise_step {l : List ByteArray} (k : ByteArray) (h : Rise l) : Rise (keyStep l k) := by
  unfold keyStep
  split
  · exact h
  · rename_i hn
    exact rise_ins h (by simpa using hn)
theorem keys_rise (L : List Im) : Rise (keysM L) := by
  unfold keysM
  suffices ∀ l, Rise l → Rise (L.foldl (fun l m => keyStep l m.key) l) from this [] List.Pairwise.nil
  induction L with
  | nil => exact fun l h => h
  | cons m L ih => exact fun l h => ih _ (rise_step m.key h)
theorem keys_have (L : List Im) (m : Im) (h : m ∈ L) : ∃ x ∈ keysM L, sameK x m.key = true := by
  unfold keysM
  suffices ∀ l, ((∃ x ∈ l, sameK x m.key = true) ∨ m ∈ L) → ∃ x ∈ L.foldl (fun l m => keyStep l m.key) l, sameK x m.key = true from this [] (.inr h)
  clear h
  induction L with
  | nil => intro l h; rcases h with h | h; exact h; simp at h
  | cons y L ih =>
    intro l h
    refine ih _ ?_
    rcases h with ⟨x, hx, hs⟩ | h
    · exact .inl ⟨x, mem_keyStep hx, hs⟩
    · rcases List.mem_cons.1 h with rfl | h
      · exact .inl key_there
      · exact .inr h
theorem sameK_symm {a b : ByteArray} (h : sameK a b = true) : sameK b a = true := sameK_of (sameK_eq h).symm
theorem sameK_trans {a b c : ByteArray} (h : sameK a b = true) (g : sameK b c = true) : sameK a c = true := sameK_of ((sameK_eq h).trans (sameK_eq g))
/-- P11.3, as mathematics. -/
theorem past_scan (L : List Im) (m : Im) (lo hi : ByteArray) (t : Nat) (most : Int) (h : t < m.v.time) : scanM (insM L m).1 lo hi t most = scanM L lo hi t most := by
  rcases ins_cases L m with e | e
  · rw [e]
  · rw [e]
    refine scan_later L m lo hi t most h ?_
    by_cases hx : ∃ x ∈ L, sameK x.key m.key = true
    · obtain ⟨x, hx, hs⟩ := hx
      obtain ⟨y, hy, hys⟩ := keys_have L x hx
      left
      unfold keyStep
      rw [if_pos (posK_there (keys_rise L) ⟨y, hy, sameK_trans hys hs⟩)]
    · exact .inr (best_none L m.key t (fun x hxL => by
        rw [← Bool.not_eq_true]
        exact fun hs => hx ⟨x, hxL, hs⟩))
theorem past_best (L : List Im) (m : Im) (k : ByteArray) (t : Nat) (h : t < m.v.time) : bestOf k t (insM L m).1 = bestOf k t L := by
  rcases ins_cases L m with e | e
  · rw [e]
  · rw [e]; exact best_later L m k t h
end Go.Proofs.Ythcomfcbdlobpaa
