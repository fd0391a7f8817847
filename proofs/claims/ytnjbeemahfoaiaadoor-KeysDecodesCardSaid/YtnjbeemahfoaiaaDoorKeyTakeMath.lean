/-
  Plain mathematics of layer 3's Decode: an item taken off the head of bytes; no program stands here.
-/
import Derived.Test.YtnjbeemahfoaiaaDoorKeyMath
import Derived.Test.YtnjbeemahfoaiaaDoorCurFixed
namespace Go.Proofs.YtnjbeemahfoaiaaDoor
open Go.RowKit
set_option linter.unusedVariables false
set_option linter.unusedSimpArgs false
set_option linter.unnecessarySimpa false
set_option maxRecDepth 100000

def fl (d : Bool) (b : UInt8) : UInt8 := if d then flip8 b else b
theorem fl_fl (d : Bool) (b : UInt8) : fl d (fl d b) = b := by cases d <;> simp [fl, flip8_flip8]
theorem map_fl_fl (d : Bool) (l : List UInt8) : (l.map (fl d)).map (fl d) = l := by
  rw [List.map_map]
  have : (fl d) ∘ (fl d) = id := by funext b; exact fl_fl d b
  rw [this, List.map_id]
theorem map_fl_false (l : List UInt8) : l.map (fl false) = l := by
  have : fl false = id := by funext b; rfl
  rw [this, List.map_id]
theorem map_fl_true (l : List UInt8) : l.map (fl true) = l.map flip8 := by
  have : fl true = flip8 := by funext b; rfl
  rw [this]

/-! ### A text -/
def tx : List UInt8 → Option (List UInt8 × List UInt8)
  | [] => none
  | b :: l => if b = 0 then (match l with
      | [] => none
      | c :: m => if c = 0 then some ([], m) else if c = 255 then (tx m).map fun p => (0 :: p.1, p.2) else none)
    else (tx l).map fun p => (b :: p.1, p.2)

theorem tx_nil : tx [] = none := by rw [tx]
theorem tx_other {b : UInt8} (h : ¬ b = 0) (l : List UInt8) : tx (b :: l) = (tx l).map fun p => (b :: p.1, p.2) := by rw [tx.eq_def]; simp only [if_neg h]
theorem tx_zero_nil : tx [0] = none := by rw [tx]; rfl
theorem tx_zero_zero (l : List UInt8) : tx (0 :: 0 :: l) = some ([], l) := by rw [tx]; rfl
theorem tx_zero_ff (l : List UInt8) : tx (0 :: 255 :: l) = (tx l).map fun p => (0 :: p.1, p.2) := by rw [tx]; rfl
theorem tx_zero_other {c : UInt8} (h : ¬ c = 0) (h' : ¬ c = 255) (l : List UInt8) : tx (0 :: c :: l) = none := by
  rw [tx, if_pos rfl]
  simp only [if_neg h, if_neg h']

theorem tx_of (t r : List UInt8) : tx (escT t ++ r) = some (t, r) := by
  unfold escT
  induction t with
  | nil => exact tx_zero_zero r
  | cons b t ih =>
    rw [esc_cons, List.append_assoc, List.append_assoc]
    rw [List.append_assoc] at ih
    by_cases hb : b = 0
    · subst hb
      rw [esc1_zero]
      show tx (0 :: 255 :: _) = _
      rw [tx_zero_ff]
      show Option.map _ (tx (esc t ++ ([0, 0] ++ r))) = _
      rw [ih]; rfl
    · rw [esc1_other hb]
      show tx (b :: _) = _
      rw [tx_other hb]
      show Option.map _ (tx (esc t ++ ([0, 0] ++ r))) = _
      rw [ih]; rfl
theorem tx_some : ∀ (n : Nat) (l t r : List UInt8), l.length ≤ n → tx l = some (t, r) → l = escT t ++ r
  | _, [], t, r, _, h => by rw [tx_nil] at h; cases h
  | 0, _ :: _, _, _, hn, _ => by simp at hn
  | n + 1, b :: l, t, r, hn, h => by
    by_cases hb : b = 0
    · subst hb
      cases l with
      | nil => rw [tx_zero_nil] at h; cases h
      | cons c m =>
        by_cases hc : c = 0
        · subst hc
          rw [tx_zero_zero] at h
          cases h
          rfl
        · by_cases hf : c = 255
          · subst hf
            rw [tx_zero_ff] at h
            cases hm : tx m with
            | none => rw [hm] at h; cases h
            | some p =>
              rw [hm] at h
              cases h
              have := tx_some n m p.1 p.2 (by simp at hn; omega) hm
              unfold escT at this ⊢
              rw [esc_cons, esc1_zero, List.append_assoc, List.append_assoc, ← List.append_assoc (esc p.1), ← this]
              rfl
          · rw [tx_zero_other hc hf] at h; cases h
    · rw [tx_other hb] at h
      cases hm : tx l with
      | none => rw [hm] at h; cases h
      | some p =>
        rw [hm] at h
        cases h
        have := tx_some n l p.1 p.2 (by simp at hn; omega) hm
        unfold escT at this ⊢
        rw [esc_cons, esc1_other hb, List.append_assoc, List.append_assoc, ← List.append_assoc (esc p.1), ← this]
        rfl

/-! ### Numbers of eight bytes -/
theorem le_inj : ∀ {l m : List UInt8}, l.length = m.length → le l = le m → l = m
  | [], [], _, _ => rfl
  | [], _ :: _, h, _ => by simp at h
  | _ :: _, [], h, _ => by simp at h
  | a :: l, b :: m, h, he => by
    simp only [le] at he
    have ha := UInt8.toNat_lt a
    have hb := UInt8.toNat_lt b
    have h1 : a.toNat = b.toNat := by omega
    rw [UInt8.toNat_inj.1 h1, le_inj (l := l) (m := m) (by simpa using h) (by omega)]
theorem valB_lt {m : List UInt8} (h : m.length = 8) : valB m true < 18446744073709551616 := by
  have := le_lt m.reverse
  rw [List.length_reverse, h] at this
  exact this
theorem fx_rev : ∀ (k n : Nat), le (fx n k true).reverse = n % 256 ^ k
  | 0, n => by simp [fx, cellsF, le, Nat.mod_one]
  | k + 1, n => by
    rw [fx_succ, List.reverse_append]
    show le (UInt8.ofNat n :: (fx (n / 256) k true).reverse) = _
    rw [le, fx_rev k, UInt8.toNat_ofNat', show (2 : Nat) ^ 8 = 256 from rfl, Nat.pow_succ, Nat.mul_comm (256 ^ k), Nat.mod_mul]
theorem valB_fx {n : Nat} (h : n < 18446744073709551616) : valB (fx n 8 true) true = n := by
  show le _ = n
  rw [fx_rev, Nat.mod_eq_of_lt h]
theorem fx_len8 (n : Nat) : (fx n 8 true).length = 8 := by simp [fx, cellsF_length]
theorem fx_valB {m : List UInt8} (h : m.length = 8) : fx (valB m true) 8 true = m := by
  have h1 := valB_fx (valB_lt h)
  have h2 : (fx (valB m true) 8 true).reverse = m.reverse := le_inj (by rw [List.length_reverse, List.length_reverse, fx_len8, h]) h1
  exact List.reverse_inj.1 h2
theorem le_flip : ∀ (l : List UInt8), le (l.map flip8) + le l = 256 ^ l.length - 1
  | [] => rfl
  | b :: l => by
    have := le_flip l
    have hb := UInt8.toNat_lt b
    have hp : 0 < 256 ^ l.length := Nat.pow_pos (by decide)
    simp only [List.map_cons, le, List.length_cons, Nat.pow_succ, flip8_nat]
    omega
theorem valB_flip {m : List UInt8} (h : m.length = 8) : valB (m.map flip8) true = 18446744073709551615 - valB m true := by
  have := le_flip m.reverse
  rw [List.length_reverse, h, List.map_reverse] at this
  show le (m.map flip8).reverse = _ - le m.reverse
  have h8 : (256 : Nat) ^ 8 = 18446744073709551616 := by decide
  omega

/-! ### An item -/
/-- The number that an int64 of these bytes is. -/
def dn63 (n : Nat) : Int := (n : Int) - 9223372036854775808
theorem dn_up {n : Int} (h : -9223372036854775808 ≤ n ∧ n < 9223372036854775808) : dn63 (up63 n) = n := by unfold dn63 up63; omega
theorem up_dn {n : Nat} (h : n < 18446744073709551616) : up63 (dn63 n) = n := by unfold dn63 up63; omega
theorem dn_ok {n : Nat} (h : n < 18446744073709551616) : (KV.int (dn63 n)).ok := by unfold KV.ok dn63; simp only; omega

/-- What stands behind a first byte f, d: of a Down. -/
def tkF (f : Nat) (d : Bool) (l : List UInt8) : Option (KV × List UInt8) :=
  if f = 16 then some (.nil, l) else if f = 32 then some (.bool false, l) else if f = 33 then some (.bool true, l)
  else if f = 48 then (if l.length < 8 then none else some (.int (dn63 (valB ((l.take 8).map (fl d)) true)), l.drop 8))
  else if f = 64 then (if l.length < 8 then none else some (.uint (valB ((l.take 8).map (fl d)) true), l.drop 8))
  else if f = 80 then (tx (l.map (fl d))).map fun p => (.text ⟨p.1.toArray⟩, p.2.map (fl d))
  else none
/-- An item off the head of bytes. -/
def tkI : List UInt8 → Option ((KV × Bool) × List UInt8)
  | [] => none
  | b :: l => (tkF (fl (decide (128 ≤ b.toNat)) b).toNat (decide (128 ≤ b.toNat)) l).map fun p => ((p.1, decide (128 ≤ b.toNat)), p.2)

theorem encI_fl (v : KV) (d : Bool) : encI (v, d) = (encV v).map (fl d) := by
  cases d
  · rw [map_fl_false]; rfl
  · rw [map_fl_true]; rfl
theorem tkF_some {f : Nat} {d : Bool} {l r : List UInt8} {v : KV} (h : tkF f d l = some (v, r)) : v.ok ∧ (encV v).map (fl d) ++ r = fl d (UInt8.ofNat f) :: l := by
  unfold tkF at h
  split at h
  · rename_i hf; cases h; subst hf; exact ⟨trivial, rfl⟩
  split at h
  · rename_i hf; cases h; subst hf; exact ⟨trivial, rfl⟩
  split at h
  · rename_i hf; cases h; subst hf; exact ⟨trivial, rfl⟩
  split at h
  · rename_i hf
    subst hf
    split at h
    · cases h
    · cases h
      have hlen : ((l.take 8).map (fl d)).length = 8 := by rw [List.length_map, List.length_take]; omega
      refine ⟨dn_ok (valB_lt hlen), ?_⟩
      show (fl d 48) :: (fx (up63 (dn63 _)) 8 true).map (fl d) ++ l.drop 8 = _
      rw [up_dn (valB_lt hlen), fx_valB hlen, map_fl_fl]
      simp
  split at h
  · rename_i hf
    subst hf
    split at h
    · cases h
    · cases h
      have hlen : ((l.take 8).map (fl d)).length = 8 := by rw [List.length_map, List.length_take]; omega
      refine ⟨valB_lt hlen, ?_⟩
      show (fl d 64) :: (fx _ 8 true).map (fl d) ++ l.drop 8 = _
      rw [fx_valB hlen, map_fl_fl]
      simp
  split at h
  · rename_i hf
    subst hf
    cases hm : tx (l.map (fl d)) with
    | none => rw [hm] at h; cases h
    | some p =>
      rw [hm] at h
      cases h
      refine ⟨trivial, ?_⟩
      have h1 := tx_some _ _ p.1 p.2 (Nat.le_refl _) hm
      show (fl d 80) :: (escT p.1).map (fl d) ++ p.2.map (fl d) = _
      rw [List.cons_append, ← List.map_append, ← h1, map_fl_fl]
      rfl
  · cases h
theorem flip_head (v : KV) : ∃ f, f < 128 ∧ (∃ u, encV v = UInt8.ofNat f :: u) ∧ ∀ (d : Bool) (r : List UInt8), v.ok → ∀ u, encV v = UInt8.ofNat f :: u → tkF f d (u.map (fl d) ++ r) = some (v, r) := by
  cases v with
  | nil => exact ⟨16, by decide, ⟨_, rfl⟩, fun d r _ u hu => by cases hu; rfl⟩
  | bool b => cases b
              · exact ⟨32, by decide, ⟨_, rfl⟩, fun d r _ u hu => by cases hu; rfl⟩
              · exact ⟨33, by decide, ⟨_, rfl⟩, fun d r _ u hu => by cases hu; rfl⟩
  | int n => exact ⟨48, by decide, ⟨_, rfl⟩, fun d r hok u hu => by
      have : u = fx (up63 n) 8 true := by
        have := congrArg List.tail hu
        exact this.symm
      subst this
      have hlen : ((fx (up63 n) 8 true).map (fl d)).length = 8 := by rw [List.length_map, fx_len8]
      unfold tkF
      rw [if_neg (by decide), if_neg (by decide), if_neg (by decide), if_pos rfl, if_neg (by rw [List.length_append, hlen]; omega), List.take_left' hlen, List.drop_left' hlen, map_fl_fl, valB_fx (by have := hok; unfold KV.ok at this; simp only at this; unfold up63; omega), dn_up hok]⟩
  | uint n => exact ⟨64, by decide, ⟨_, rfl⟩, fun d r hok u hu => by
      have : u = fx n 8 true := by
        have := congrArg List.tail hu
        exact this.symm
      subst this
      have hlen : ((fx n 8 true).map (fl d)).length = 8 := by rw [List.length_map, fx_len8]
      unfold tkF
      rw [if_neg (by decide), if_neg (by decide), if_neg (by decide), if_neg (by decide), if_pos rfl, if_neg (by rw [List.length_append, hlen]; omega), List.take_left' hlen, List.drop_left' hlen, map_fl_fl, valB_fx hok]⟩
  | text s => exact ⟨80, by decide, ⟨_, rfl⟩, fun d r hok u hu => by
      have : u = escT s.data.toList := by
        have := congrArg List.tail hu
        exact this.symm
      subst this
      unfold tkF
      rw [if_neg (by decide), if_neg (by decide), if_neg (by decide), if_neg (by decide), if_neg (by decide), if_pos rfl, List.map_append, map_fl_fl, tx_of]
      simp only [Option.map_some, map_fl_fl]⟩
theorem tkI_of (x : KV × Bool) (hx : x.1.ok) (r : List UInt8) : tkI (encI x ++ r) = some (x, r) := by
  obtain ⟨v, d⟩ := x
  obtain ⟨f, hf, ⟨u, hu⟩, ht⟩ := flip_head v
  rw [encI_fl, hu, List.map_cons, List.cons_append, tkI]
  have hfn : (UInt8.ofNat f).toNat = f := by rw [UInt8.toNat_ofNat']; omega
  have hd : decide (128 ≤ (fl d (UInt8.ofNat f)).toNat) = d := by
    cases d
    · exact decide_eq_false (by show ¬ 128 ≤ (UInt8.ofNat f).toNat; omega)
    · exact decide_eq_true (by show 128 ≤ (flip8 (UInt8.ofNat f)).toNat; rw [flip8_nat]; omega)
  rw [hd, fl_fl, hfn, ht d r hx u hu]
  rfl
theorem tkI_some {l r : List UInt8} {x : KV × Bool} (h : tkI l = some (x, r)) : x.1.ok ∧ l = encI x ++ r := by
  cases l with
  | nil => cases h
  | cons b l =>
    rw [tkI] at h
    obtain ⟨d, hd⟩ : ∃ d, d = decide (128 ≤ b.toNat) := ⟨_, rfl⟩
    rw [← hd] at h
    cases hm : tkF (fl d b).toNat d l with
    | none => rw [hm] at h; cases h
    | some p =>
      rw [hm] at h
      cases h
      obtain ⟨h1, h2⟩ := tkF_some (v := p.1) (r := p.2) hm
      refine ⟨h1, ?_⟩
      rw [encI_fl, h2]
      congr 1
      rw [UInt8.ofNat_toNat, fl_fl]

/-- What stands behind items that stand at the head of a tuple's bytes is a tuple's. -/
theorem encL_rest : ∀ (done : List (KV × Bool)) (rest : List UInt8) (xs : List (KV × Bool)), (∀ x ∈ done, x.1.ok) → (∀ x ∈ xs, x.1.ok) → encL done ++ rest = encL xs → ∃ ys : List (KV × Bool), (∀ y ∈ ys, y.1.ok) ∧ rest = encL ys
  | [], rest, xs, _, h2, h => ⟨xs, h2, h⟩
  | x :: done, rest, xs, h1, h2, h => by
    rw [encL_cons, List.append_assoc] at h
    have e1 := tkI_of x (h1 x (by simp)) (encL done ++ rest)
    rw [h] at e1
    cases xs with
    | nil => cases e1
    | cons y ys =>
      rw [encL_cons, tkI_of y (h2 y (by simp))] at e1
      simp only [Option.some.injEq, Prod.mk.injEq] at e1
      exact encL_rest done rest ys (fun z hz => h1 z (by simp [hz])) (fun z hz => h2 z (by simp [hz])) e1.2.symm
/-- No item, no tuple. -/
theorem no_tuple {done : List (KV × Bool)} {rest : List UInt8} (h1 : ∀ x ∈ done, x.1.ok) (hr : tkI rest = none) (hne : rest ≠ []) (xs : List (KV × Bool)) (h2 : ∀ x ∈ xs, x.1.ok) : encL done ++ rest ≠ encL xs := by
  intro h
  obtain ⟨ys, hy, e⟩ := encL_rest done rest xs h1 h2 h
  cases ys with
  | nil => exact hne e
  | cons y ys =>
    rw [e, encL_cons, tkI_of y (hy y (by simp))] at hr
    cases hr
end Go.Proofs.YtnjbeemahfoaiaaDoor
