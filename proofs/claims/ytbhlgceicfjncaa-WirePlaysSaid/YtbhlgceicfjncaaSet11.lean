/-
  Plain mathematics of layer 16: a frame with a bit turned; what is on its way, and what each call leaves. No program stands here.
-/
import Derived.Test.YtbhlgceicfjncaaSet09
import Derived.Test.YtbhlgceicfjncaaSet10
namespace Go.Proofs.Ytbhlgceicfjncaa
open Go.RowKit
set_option linter.unusedVariables false
set_option linter.unnecessarySimpa false
set_option linter.unusedSimpArgs false
set_option maxRecDepth 100000

/-- A byte with a bit turned. -/
def xorB (x : UInt8) (r : Nat) : UInt8 := UInt8.ofNat (x.toNat ^^^ 2 ^ r)
theorem pow8 {r : Nat} (hr : r < 8) : (2 : Nat) ^ r < 256 := Nat.pow_lt_pow_right (a := 2) (by decide) (show r < 8 from hr)
theorem xorB_nat (x : UInt8) {r : Nat} (hr : r < 8) : (xorB x r).toNat = x.toNat ^^^ 2 ^ r := by
  unfold xorB
  rw [UInt8.toNat_ofNat', Nat.mod_eq_of_lt (Nat.xor_lt_two_pow (n := 8) (UInt8.toNat_lt x) (pow8 hr))]
theorem xorB_ne (x : UInt8) {r : Nat} (hr : r < 8) : x ≠ xorB x r := fun h => by
  have h1 := congrArg UInt8.toNat h
  rw [xorB_nat x hr] at h1
  have h2 : x.toNat ^^^ x.toNat = x.toNat ^^^ (x.toNat ^^^ 2 ^ r) := by rw [← h1]
  rw [Nat.xor_self, ← Nat.xor_assoc, Nat.xor_self, Nat.zero_xor] at h2
  have := Nat.pow_pos (n := r) (show 0 < 2 by decide)
  omega
theorem xorB_twice (x : UInt8) {r : Nat} (hr : r < 8) : xorB (xorB x r) r = x := by
  apply UInt8.toNat_inj.1
  rw [xorB_nat _ hr, xorB_nat _ hr, Nat.xor_assoc, Nat.xor_self, Nat.xor_zero]
/-- Bytes with a bit turned behind the first four. -/
def turnL (l : List UInt8) (k : Nat) : List UInt8 := l.set (4 + k / 8) (xorB (l.getD (4 + k / 8) 0) (k % 8))
theorem turnL_length (l : List UInt8) (k : Nat) : (turnL l k).length = l.length := by simp [turnL]
theorem turnL_twice {l : List UInt8} {k : Nat} (h : 4 + k / 8 < l.length) : turnL (turnL l k) k = l := by
  unfold turnL
  have e : (l.set (4 + k / 8) (xorB (l.getD (4 + k / 8) 0) (k % 8))).getD (4 + k / 8) 0 = xorB (l.getD (4 + k / 8) 0) (k % 8) := by
    rw [List.getD, List.getElem?_set_self h]; rfl
  rw [e, xorB_twice _ (Nat.mod_lt _ (by omega)), List.set_set]
  rw [List.getD, List.getElem?_eq_getElem h, Option.getD_some, List.set_getElem_self]
def turnS (b : ByteArray) (k : Nat) : ByteArray := ⟨(turnL b.data.toList k).toArray⟩
theorem turnS_size (b : ByteArray) (k : Nat) : (turnS b k).size = b.size := by
  show (turnL b.data.toList k).toArray.size = _
  rw [List.size_toArray, turnL_length, Lib.size_eq]
theorem turnS_twice {b : ByteArray} {k : Nat} (h : 4 + k / 8 < b.size) : turnS (turnS b k) k = b := by
  unfold turnS
  have := turnL_twice (l := b.data.toList) (k := k) (by rw [← Lib.size_eq]; exact h)
  show (⟨(turnL (turnL b.data.toList k).toArray.toList k).toArray⟩ : ByteArray) = b
  rw [List.toList_toArray, this]

theorem wle_inj : ∀ (a b : List UInt8), a.length = b.length → le a = le b → a = b
  | [], [], _, _ => rfl
  | [], _ :: _, h, _ => by simp at h
  | _ :: _, [], h, _ => by simp at h
  | x :: a, y :: b, h, e => by
    simp only [le] at e
    have h1 := UInt8.toNat_lt x
    have h2 := UInt8.toNat_lt y
    have e1 : x.toNat = y.toNat := by omega
    have e2 : le a = le b := by omega
    rw [UInt8.toNat_inj.1 e1, wle_inj a b (by simpa using h) e2]
theorem wval_inj {a b : List UInt8} (h : a.length = b.length) (e : valFx a true = valFx b true) : a = b := by
  unfold valFx at e
  simp only [if_true] at e
  exact List.reverse_inj.1 (wle_inj _ _ (by rw [List.length_reverse, List.length_reverse, h]) e)
theorem wle_cells (n size : Nat) : le ((List.range size).map fun j => UInt8.ofNat (n / 256 ^ j)) = n % 256 ^ size := by
  induction size generalizing n with
  | zero => simp [le, Nat.mod_one]
  | succ k ih =>
    rw [List.range_succ_eq_map, List.map_cons, List.map_map]
    have e : ((fun j => UInt8.ofNat (n / 256 ^ j)) ∘ Nat.succ) = fun j => UInt8.ofNat (n / 256 / 256 ^ j) := by
      funext j; simp only [Function.comp]; rw [Nat.pow_succ', Nat.div_div_eq_div_mul]
    rw [e]
    simp only [le]
    rw [ih (n / 256), Nat.pow_succ', Nat.mod_mul]
    simp only [UInt8.toNat_ofNat', Nat.pow_zero, Nat.div_one]
theorem wval_fx (n size : Nat) : valFx (fx n size true) true = n % 256 ^ size := by
  rw [← wle_cells]
  unfold valFx fx cellsF fxAt pl
  simp only [if_true]
  congr 1
  apply List.ext_getElem
  · simp
  · intro j h1 h2
    simp at h1
    rw [List.getElem_reverse]
    simp only [List.getElem_map, List.getElem_range, List.length_map, List.length_range]
    congr 3
    omega
/-- Bytes behind a length that no payload is told of. -/
structure BadB (n : Nat) (S Q : List UInt8) : Prop where
  s : S.length = 4
  q : Q.length = n
  bad : valFx S true ≠ sumB Q
theorem turn_bad (p : List UInt8) {k : Nat} (hk : k < 8 * (4 + p.length)) : ∃ S Q, BadB p.length S Q ∧ turnL (frmB p) k = fx p.length 4 true ++ (S ++ Q) := by
  have hl := sumB_lt p
  have hm : k % 8 < 8 := Nat.mod_lt _ (by omega)
  have hfl : (fx p.length 4 true).length = 4 := fx_length _ _ _
  have hsl : (fx (sumB p) 4 true).length = 4 := fx_length _ _ _
  have hv : valFx (fx (sumB p) 4 true) true = sumB p := by rw [wval_fx, Nat.mod_eq_of_lt (by simpa using hl)]
  obtain ⟨s, hs⟩ : ∃ s, s = fx (sumB p) 4 true := ⟨_, rfl⟩
  obtain ⟨f, hf⟩ : ∃ f, f = fx p.length 4 true := ⟨_, rfl⟩
  have e0 : frmB p = f ++ (s ++ p) := by rw [frmB, ← hs, ← hf, List.append_assoc]
  rw [e0]
  rw [← hf] at hfl ⊢
  rw [← hs] at hsl hv
  obtain ⟨c, hc⟩ : ∃ c, c = xorB ((f ++ (s ++ p)).getD (4 + k / 8) 0) (k % 8) := ⟨_, rfl⟩
  have e1 : turnL (f ++ (s ++ p)) k = f ++ ((s ++ p).set (k / 8) c) := by
    unfold turnL
    rw [← hc, List.set_append_right _ _ (by omega), hfl, Nat.add_sub_cancel_left]
  have hc2 : c = xorB ((s ++ p).getD (k / 8) 0) (k % 8) := by
    rw [hc, List.getD, List.getElem?_append_right (by omega), hfl, Nat.add_sub_cancel_left]; rfl
  rw [e1]
  by_cases h4 : k / 8 < 4
  · refine ⟨s.set (k / 8) c, p, ⟨by rw [List.length_set, hsl], rfl, fun h => ?_⟩, by rw [List.set_append_left _ _ (by omega)]⟩
    rw [← hv] at h
    have h2 := wval_inj (by rw [List.length_set]) h
    have h3 : s[k / 8]? = (s.set (k / 8) c)[k / 8]? := by rw [h2]
    rw [List.getElem?_set_self (by omega), List.getElem?_eq_getElem (by omega)] at h3
    injection h3 with h3
    rw [hc2, List.getD, List.getElem?_append_left (by omega), List.getElem?_eq_getElem (by omega), Option.getD_some] at h3
    exact xorB_ne _ hm h3
  · have hj : k / 8 - 4 < p.length := by omega
    refine ⟨s, p.set (k / 8 - 4) c, ⟨hsl, by rw [List.length_set], fun h => ?_⟩, by rw [List.set_append_right _ _ (by omega), hsl]⟩
    rw [hv] at h
    have hne : p[k / 8 - 4] ≠ c := by
      rw [hc2, List.getD, List.getElem?_append_right (by omega), hsl, List.getElem?_eq_getElem hj, Option.getD_some]
      exact xorB_ne _ hm
    have hp : p = p.take (k / 8 - 4) ++ p[k / 8 - 4] :: p.drop (k / 8 - 4 + 1) := by
      rw [← List.drop_eq_getElem_cons hj, List.take_append_drop]
    have hp2 : p.set (k / 8 - 4) c = p.take (k / 8 - 4) ++ c :: p.drop (k / 8 - 4 + 1) := by rw [List.set_eq_take_append_cons_drop, if_pos hj]
    have := sumB_bent (p.take (k / 8 - 4)) (p.drop (k / 8 - 4 + 1)) hne
    rw [← hp, ← hp2] at this
    exact this h

/-- What is on its way: a message with the words of its slice; the version; whether a bit is turned; the one that was turned last. -/
structure Wj where
  m : Mg
  sl : Value
  v : Int
  on : Bool
  k : Nat
def wj0 : Wj := ⟨mg0, .slice none 0 0, 0, false, 0⟩
def payW (m : Mg) (v : Int) : ByteArray := ⟨(msgB m (lastOfM v)).toArray⟩
theorem payW_list (m : Mg) (v : Int) : (payW m v).data.toList = msgB m (lastOfM v) := by unfold payW; rfl
theorem payW_size (m : Mg) (v : Int) : (payW m v).size = (msgB m (lastOfM v)).length := by show (msgB m (lastOfM v)).toArray.size = _; rw [List.size_toArray]
/-- Its frame, as it is now. -/
def Wj.b (x : Wj) : ByteArray := if x.on then turnS (frmS (payW x.m x.v)) x.k else frmS (payW x.m x.v)
/-- How many bits of it may be turned. -/
def Wj.bits (x : Wj) : Nat := 8 * (4 + (msgB x.m (lastOfM x.v)).length)
structure Wj.ok (x : Wj) : Prop where
  right : rightBM x.m = true
  fits : x.m.fits
  few : x.m.few
  v : x.v = 1 ∨ x.v = 2 ∨ x.v = 3
  must : x.v = 3 ∨ x.m.must = 0
  k : x.on = true → x.k < x.bits
  kk : x.k < 100000
theorem pay_len {m : Mg} (h : rightBM m = true) {v : Int} (hv : v = 1 ∨ v = 2 ∨ v = 3) : 1 ≤ (payW m v).size ∧ (payW m v).size ≤ 4000 := by
  rw [payW_size]
  have h1 := msgB_le m hv
  have h2 := (right_partsM h).2.2.2.2.2
  have h3 : 0 < (ub m.kind.toNat).length := ub_pos _
  have h4 : (ub m.kind.toNat).length ≤ (msgB m (lastOfM v)).length := by unfold msgB; rw [List.length_append]; omega
  omega
theorem Wj.b_size (x : Wj) : x.b.size = (payW x.m x.v).size + 8 := by
  unfold Wj.b
  split
  · rw [turnS_size, frmS_size]
  · rw [frmS_size]
theorem Wj.bits_eq (x : Wj) : x.bits = 8 * (x.b.size - 4) := by
  unfold Wj.bits
  rw [x.b_size, payW_size]
  omega
/-- Turned, and turned back. -/
def Wj.turn (x : Wj) (k : Nat) : Wj := { x with on := !x.on, k := k }
theorem Wj.turn_b {x : Wj} (h : x.ok) {k : Nat} (hk : k < x.bits) (hc : ¬ (x.on = true ∧ x.k ≠ k)) : (x.turn k).b = turnS x.b k := by
  obtain ⟨m, sl, v, on, k0⟩ := x
  unfold Wj.turn Wj.b
  simp only at hc ⊢
  cases on with
  | false => rfl
  | true =>
    have e : k0 = k := Classical.byContradiction fun e => hc ⟨rfl, e⟩
    subst e
    have hs : (frmS (payW m v)).size = (msgB m (lastOfM v)).length + 8 := by rw [frmS_size, payW_size]
    unfold Wj.bits at hk
    simp only at hk
    show frmS (payW m v) = turnS (turnS (frmS (payW m v)) k0) k0
    rw [turnS_twice (by rw [hs]; omega)]
theorem Wj.turn_ok {x : Wj} (h : x.ok) {k : Nat} (hk : k < x.bits) : (x.turn k).ok := by
  have h1 := pay_len h.right h.v
  rw [payW_size] at h1
  have h2 : x.bits < 100000 := by unfold Wj.bits; omega
  exact ⟨h.right, h.fits, h.few, h.v, h.must, fun _ => hk, by show k < 100000; omega⟩
end Go.Proofs.Ytbhlgceicfjncaa
