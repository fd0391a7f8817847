/-
  Plain mathematics of layer 3: items, their bytes, their order; no program stands here.
-/
import Derived.Test.YtnjbeemahfoaiaaDoorFixMath
import Derived.Laws.Cover1
import Derived.Lib.Strings
namespace Go.Proofs.YtnjbeemahfoaiaaDoor
open Go.RowKit
set_option linter.unnecessarySimpa false
set_option linter.unusedVariables false
set_option linter.unusedSimpArgs false
set_option maxRecDepth 100000

/-! ### Bytes that differ at one place, and are alike ahead of it -/
def Diff (a b : List UInt8) : Prop := ∃ p x y u v, a = p ++ x :: u ∧ b = p ++ y :: v ∧ x < y

theorem Diff.append {a b : List UInt8} (h : Diff a b) (c d : List UInt8) : Diff (a ++ c) (b ++ d) := by
  obtain ⟨p, x, y, u, v, rfl, rfl, hxy⟩ := h
  exact ⟨p, x, y, u ++ c, v ++ d, by simp, by simp, hxy⟩
theorem Diff.prepend {a b : List UInt8} (h : Diff a b) (q : List UInt8) : Diff (q ++ a) (q ++ b) := by
  obtain ⟨p, x, y, u, v, rfl, rfl, hxy⟩ := h
  exact ⟨q ++ p, x, y, u, v, by simp, by simp, hxy⟩
theorem Diff.head {x y : UInt8} (h : x < y) (u v : List UInt8) : Diff (x :: u) (y :: v) := ⟨[], x, y, u, v, rfl, rfl, h⟩
theorem Diff.cons {a b : List UInt8} (h : Diff a b) (x : UInt8) : Diff (x :: a) (x :: b) := h.prepend [x]

def flip8 (x : UInt8) : UInt8 := 255 - x
theorem flip8_nat (x : UInt8) : (flip8 x).toNat = 255 - x.toNat := by
  have := UInt8.toNat_lt x
  have h255 : (255 : UInt8).toNat = 255 := rfl
  rw [flip8, UInt8.toNat_sub_of_le _ _ (by rw [UInt8.le_iff_toNat_le]; omega), h255]
theorem flip8_flip8 (x : UInt8) : flip8 (flip8 x) = x := by
  have := UInt8.toNat_lt x
  apply UInt8.toNat_inj.1
  rw [flip8_nat, flip8_nat]; omega
theorem flip8_lt {x y : UInt8} (h : x < y) : flip8 y < flip8 x := by
  rw [UInt8.lt_iff_toNat_lt] at *
  have := UInt8.toNat_lt x
  have := UInt8.toNat_lt y
  rw [flip8_nat, flip8_nat]; omega
theorem Diff.flip {a b : List UInt8} (h : Diff a b) : Diff (b.map flip8) (a.map flip8) := by
  obtain ⟨p, x, y, u, v, rfl, rfl, hxy⟩ := h
  exact ⟨p.map flip8, flip8 y, flip8 x, v.map flip8, u.map flip8, by simp, by simp, flip8_lt hxy⟩

theorem bytesLess_append (p : List UInt8) (a b : List UInt8) : Op.bytesLess (p ++ a) (p ++ b) = Op.bytesLess a b := by
  induction p with
  | nil => rfl
  | cons x p ih =>
    show (decide (x < x) || (x == x && Op.bytesLess (p ++ a) (p ++ b))) = _
    rw [ih]
    have : ¬ x < x := UInt8.lt_irrefl x
    simp [this]
theorem bytesLess_self (a : List UInt8) : Op.bytesLess a a = false := by
  induction a with
  | nil => rfl
  | cons x a ih => show (decide (x < x) || (x == x && Op.bytesLess a a)) = false; have : ¬ x < x := UInt8.lt_irrefl x; simp [this, ih]
theorem Diff.less {a b : List UInt8} (h : Diff a b) : Op.bytesLess a b = true := by
  obtain ⟨p, x, y, u, v, rfl, rfl, hxy⟩ := h
  rw [bytesLess_append]
  show (decide (x < y) || _) = true
  simp [hxy]
theorem Diff.more {a b : List UInt8} (h : Diff a b) : Op.bytesLess b a = false := by
  obtain ⟨p, x, y, u, v, rfl, rfl, hxy⟩ := h
  rw [bytesLess_append]
  show (decide (y < x) || (y == x && _)) = false
  have h1 : ¬ y < x := fun h => UInt8.lt_irrefl _ (UInt8.lt_trans hxy h)
  have h2 : ¬ y = x := fun h => by subst h; exact UInt8.lt_irrefl _ hxy
  simp [h1, h2]
theorem Diff.ne {a b : List UInt8} (h : Diff a b) : a ≠ b := fun e => by
  have := h.less
  rw [e, bytesLess_self] at this
  cases this
theorem Diff.take_ne {a b : List UInt8} (h : Diff a b) : b.take a.length ≠ a := by
  obtain ⟨p, x, y, u, v, rfl, rfl, hxy⟩ := h
  intro e
  have e1 := congrArg (fun l => l[p.length]?) e
  simp only [List.length_append, List.length_cons] at e1
  rw [List.getElem?_take_of_lt (by omega)] at e1
  simp at e1
  subst e1
  exact UInt8.lt_irrefl _ hxy
theorem Diff.take_ne' {a b : List UInt8} (h : Diff a b) : a.take b.length ≠ b := by
  obtain ⟨p, x, y, u, v, rfl, rfl, hxy⟩ := h
  intro e
  have e1 := congrArg (fun l => l[p.length]?) e
  simp only [List.length_append, List.length_cons] at e1
  rw [List.getElem?_take_of_lt (by omega)] at e1
  simp at e1
  subst e1
  exact UInt8.lt_irrefl _ hxy
theorem bytesLess_total : ∀ (a b : List UInt8), Op.bytesLess a b = false → Op.bytesLess b a = false → a = b
  | [], [], _, _ => rfl
  | [], _ :: _, h, _ => by simp [Op.bytesLess] at h
  | _ :: _, [], _, h => by simp [Op.bytesLess] at h
  | x :: a, y :: b, h, k => by
    have h : (decide (x < y) || (x == y && Op.bytesLess a b)) = false := h
    have k : (decide (y < x) || (y == x && Op.bytesLess b a)) = false := k
    simp only [Bool.or_eq_false_iff, decide_eq_false_iff_not] at h k
    have e : x = y := by
      apply UInt8.toNat_inj.1
      have h1 := h.1; have k1 := k.1
      rw [UInt8.lt_iff_toNat_lt] at h1 k1
      omega
    subst e
    have h2 := h.2; have k2 := k.2
    simp at h2 k2
    rw [bytesLess_total a b h2 k2]
theorem bytesLess_asymm : ∀ (a b : List UInt8), Op.bytesLess a b = true → Op.bytesLess b a = false
  | [], [], _ => rfl
  | [], _ :: _, _ => rfl
  | _ :: _, [], h => by simp [Op.bytesLess] at h
  | x :: a, y :: b, h => by
    have h0 : (decide (x < y) || (x == y && Op.bytesLess a b)) = true := h
    clear h
    show (decide (y < x) || (y == x && Op.bytesLess b a)) = false
    simp only [Bool.or_eq_true, decide_eq_true_eq, Bool.and_eq_true, beq_iff_eq] at h0
    rcases h0 with h | ⟨rfl, h⟩
    · have h1 : ¬ y < x := fun k => UInt8.lt_irrefl _ (UInt8.lt_trans h k)
      have h2 : ¬ y = x := fun e => by subst e; exact UInt8.lt_irrefl _ h
      simp [h1, h2]
    · have := bytesLess_asymm a b h
      have h1 : ¬ x < x := UInt8.lt_irrefl x
      simp [h1, this]

/-! ### Numbers, the greatest byte first -/
theorem fx_succ (n k : Nat) : fx n (k + 1) true = fx (n / 256) k true ++ [UInt8.ofNat n] := by
  unfold fx cellsF
  rw [List.range_succ, List.map_append]
  congr 1
  · apply List.map_congr_left
    intro j hj
    have hj := List.mem_range.1 hj
    unfold fxAt pl
    rw [if_pos rfl, if_pos rfl, Nat.div_div_eq_div_mul, show k + 1 - 1 - j = (k - 1 - j) + 1 by omega, Nat.pow_succ, Nat.mul_comm]
  · simp [fxAt, pl]
theorem fx_diff : ∀ (k n m : Nat), m < 256 ^ k → n < m → Diff (fx n k true) (fx m k true)
  | 0, n, m, h, hl => by simp at h; omega
  | k + 1, n, m, h, hl => by
    rw [fx_succ, fx_succ]
    by_cases e : n / 256 = m / 256
    · rw [e]
      refine Diff.prepend (Diff.head ?_ [] []) _
      rw [UInt8.lt_iff_toNat_lt, UInt8.toNat_ofNat', UInt8.toNat_ofNat']
      omega
    · refine (fx_diff k _ _ ?_ (by omega)).append _ _
      rw [Nat.div_lt_iff_lt_mul (by decide), ← Nat.pow_succ]; exact h

/-! ### Texts: each nought twice marked, two noughts behind -/
def esc1 (b : UInt8) : List UInt8 := if b = 0 then [0, 255] else [b]
def esc (l : List UInt8) : List UInt8 := l.flatMap esc1
def escT (l : List UInt8) : List UInt8 := esc l ++ [0, 0]
theorem esc_nil : esc [] = [] := rfl
theorem esc_cons (b : UInt8) (l : List UInt8) : esc (b :: l) = esc1 b ++ esc l := rfl
theorem esc_append (l m : List UInt8) : esc (l ++ m) = esc l ++ esc m := by simp [esc]
theorem esc1_zero : esc1 0 = [0, 255] := rfl
theorem esc1_other {b : UInt8} (h : ¬ b = 0) : esc1 b = [b] := if_neg h
theorem pos8 {b : UInt8} (h : ¬ b = 0) : (0 : UInt8) < b := by
  rw [UInt8.lt_iff_toNat_lt]
  have : b.toNat ≠ 0 := fun e => h (UInt8.toNat_inj.1 e)
  have h0 : (0 : UInt8).toNat = 0 := rfl
  omega
theorem escT_diff : ∀ (s t : List UInt8), Op.bytesLess s t = true → Diff (escT s) (escT t)
  | _, [], h => by cases ‹List UInt8› <;> simp [Op.bytesLess] at h
  | [], y :: t, _ => by
    unfold escT
    rw [esc_nil, esc_cons]
    by_cases hy : y = 0
    · subst hy
      rw [esc1_zero]
      exact Diff.cons (Diff.head (by decide) _ _) 0
    · rw [esc1_other hy]
      exact Diff.head (pos8 hy) _ _
  | x :: s, y :: t, h => by
    have h0 : (decide (x < y) || (x == y && Op.bytesLess s t)) = true := h
    clear h
    simp only [Bool.or_eq_true, decide_eq_true_eq, Bool.and_eq_true, beq_iff_eq] at h0
    unfold escT
    rw [esc_cons, esc_cons]
    rcases h0 with h | ⟨rfl, h⟩
    · have hy : ¬ y = 0 := fun e => by subst e; rw [UInt8.lt_iff_toNat_lt] at h; exact absurd h (Nat.not_lt_zero _)
      rw [esc1_other hy]
      by_cases hx : x = 0
      · subst hx; rw [esc1_zero]; exact Diff.head h _ _
      · rw [esc1_other hx]; exact Diff.head h _ _
    · rw [List.append_assoc, List.append_assoc]
      exact (escT_diff s t h).prepend _

/-! ### Items -/
inductive KV where
  | nil
  | bool (b : Bool)
  | int (n : Int)
  | uint (n : Nat)
  | text (s : ByteArray)

def KV.ok : KV → Prop
  | .int n => -9223372036854775808 ≤ n ∧ n < 9223372036854775808
  | .uint n => n < 18446744073709551616
  | _ => True
def KV.rank : KV → Nat
  | .nil => 0
  | .bool false => 1
  | .bool true => 2
  | .int _ => 3
  | .uint _ => 4
  | .text _ => 5
def up63 (n : Int) : Nat := (n + 9223372036854775808).toNat
/-- An item's bytes. -/
def encV : KV → List UInt8
  | .nil => [16]
  | .bool false => [32]
  | .bool true => [33]
  | .int n => 48 :: fx (up63 n) 8 true
  | .uint n => 64 :: fx n 8 true
  | .text s => 80 :: escT s.data.toList
/-- .. of an item, or a Down. -/
def encI (x : KV × Bool) : List UInt8 := if x.2 then (encV x.1).map flip8 else encV x.1
def encL (l : List (KV × Bool)) : List UInt8 := l.flatMap encI

def sgn (less more : Bool) : Int := if less then -1 else if more then 1 else 0
/-- The order. -/
def cmpV (a b : KV) : Int :=
  if a.rank < b.rank then -1 else if b.rank < a.rank then 1 else
  match a, b with
  | .int n, .int m => sgn (decide (n < m)) (decide (m < n))
  | .uint n, .uint m => sgn (decide (n < m)) (decide (m < n))
  | .text s, .text t => sgn (Op.bytesLess s.data.toList t.data.toList) (Op.bytesLess t.data.toList s.data.toList)
  | _, _ => 0
def cmpI (a b : KV × Bool) : Int := if a.2 = b.2 then (if a.2 then - cmpV a.1 b.1 else cmpV a.1 b.1) else sgn b.2 a.2
def cmpL : List (KV × Bool) → List (KV × Bool) → Int
  | [], [] => 0
  | [], _ :: _ => -1
  | _ :: _, [] => 1
  | x :: a, y :: b => if cmpI x y = 0 then cmpL a b else cmpI x y

theorem sgn_neg {p q : Bool} (h : sgn p q < 0) : p = true := by cases p <;> cases q <;> simp_all [sgn]
theorem sgn_pos {p q : Bool} (h : 0 < sgn p q) : q = true := by cases p <;> cases q <;> simp_all [sgn]
theorem sgn_zero {p q : Bool} (h : sgn p q = 0) : p = false ∧ q = false := by cases p <;> cases q <;> simp_all [sgn]
theorem sgn_swap {p q : Bool} (h : ¬ (p = true ∧ q = true)) : sgn q p = - sgn p q := by cases p <;> cases q <;> simp_all [sgn]

/-- A first byte tells an item's rank. -/
theorem enc_rank {a b : KV} (h : a.rank < b.rank) : Diff (encV a) (encV b) := by
  cases a <;> cases b <;> (try (rename_i x; cases x)) <;> (try (rename_i x _; cases x)) <;> (try (rename_i x; cases x)) <;>
    first
    | (exfalso; simp [KV.rank] at h; done)
    | exact Diff.head (by decide) _ _

theorem cmpV_neg {a b : KV} (ha : a.ok) (hb : b.ok) (h : cmpV a b < 0) : Diff (encV a) (encV b) := by
  unfold cmpV at h
  by_cases h1 : a.rank < b.rank
  · exact enc_rank h1
  rw [if_neg h1] at h
  by_cases h2 : b.rank < a.rank
  · rw [if_pos h2] at h; exact absurd h (by decide)
  rw [if_neg h2] at h
  split at h
  · rename_i n m
    have := of_decide_eq_true (sgn_neg h)
    simp only [KV.ok] at ha hb
    exact Diff.cons (fx_diff 8 _ _ (by unfold up63; omega) (by unfold up63; omega)) _
  · have := of_decide_eq_true (sgn_neg h)
    simp only [KV.ok] at ha hb
    exact Diff.cons (fx_diff 8 _ _ (by omega) this) _
  · exact Diff.cons (escT_diff _ _ (sgn_neg h)) _
  · exact absurd h (by decide)

theorem cmpV_zero {a b : KV} (h : cmpV a b = 0) : a = b := by
  unfold cmpV at h
  by_cases h1 : a.rank < b.rank
  · rw [if_pos h1] at h; exact absurd h (by decide)
  rw [if_neg h1] at h
  by_cases h2 : b.rank < a.rank
  · rw [if_pos h2] at h; exact absurd h (by decide)
  rw [if_neg h2] at h
  have hr : a.rank = b.rank := by omega
  split at h
  · have := sgn_zero h
    rw [decide_eq_false_iff_not, decide_eq_false_iff_not] at this
    congr 1; omega
  · have := sgn_zero h
    rw [decide_eq_false_iff_not, decide_eq_false_iff_not] at this
    congr 1; omega
  · rename_i s t
    have := sgn_zero h
    have e := bytesLess_total _ _ this.1 this.2
    have : s = t := by
      obtain ⟨⟨s⟩⟩ := s
      obtain ⟨⟨t⟩⟩ := t
      simp at e
      rw [e]
    rw [this]
  · rename_i n1 n2 n3
    cases a <;> cases b <;> first
      | rfl
      | (exfalso; simp [KV.rank] at hr; done)
      | (exfalso; first | exact n1 _ _ rfl rfl | exact n2 _ _ rfl rfl | exact n3 _ _ rfl rfl)
      | skip
    all_goals
      rename_i x y
      cases x <;> cases y <;> simp [KV.rank] at hr ⊢
theorem cmpV_swap (a b : KV) : cmpV b a = - cmpV a b := by
  unfold cmpV
  by_cases h1 : a.rank < b.rank
  · rw [if_pos h1, if_neg (by omega), if_pos h1]; rfl
  by_cases h2 : b.rank < a.rank
  · rw [if_pos h2, if_neg h1, if_pos h2]
  rw [if_neg h1, if_neg h2, if_neg h2, if_neg h1]
  cases a <;> cases b <;> first
    | rfl
    | (refine sgn_swap ?_; simp; omega)
    | (refine sgn_swap ?_; rintro ⟨h, k⟩; rw [bytesLess_asymm _ _ h] at k; cases k)
    | skip
theorem cmpV_pos {a b : KV} (ha : a.ok) (hb : b.ok) (h : 0 < cmpV a b) : Diff (encV b) (encV a) := cmpV_neg hb ha (by rw [cmpV_swap]; omega)

theorem encV_head (a : KV) : ∃ x u, encV a = x :: u ∧ x.toNat < 128 := by
  cases a with
  | bool b => cases b <;> exact ⟨_, _, rfl, by decide⟩
  | _ => exact ⟨_, _, rfl, by decide⟩
/-- What is no Down is ahead of each Down. -/
theorem down_diff (a b : KV) : Diff (encV a) ((encV b).map flip8) := by
  obtain ⟨x, u, h1, hx⟩ := encV_head a
  obtain ⟨y, v, h2, hy⟩ := encV_head b
  rw [h1, h2]
  refine Diff.head ?_ _ _
  rw [UInt8.lt_iff_toNat_lt, flip8_nat]
  omega

theorem cmpI_neg {a b : KV × Bool} (ha : a.1.ok) (hb : b.1.ok) (h : cmpI a b < 0) : Diff (encI a) (encI b) := by
  obtain ⟨a, d⟩ := a
  obtain ⟨b, e⟩ := b
  unfold cmpI at h
  unfold encI
  cases d <;> cases e <;> simp at h ⊢
  · exact cmpV_neg ha hb h
  · exact down_diff a b
  · simp [sgn] at h
  · exact (cmpV_pos ha hb h).flip
theorem cmpI_zero {a b : KV × Bool} (h : cmpI a b = 0) : a = b := by
  obtain ⟨a, d⟩ := a
  obtain ⟨b, e⟩ := b
  unfold cmpI at h
  cases d <;> cases e <;> simp [sgn] at h ⊢
  · exact cmpV_zero h
  · exact cmpV_zero (by omega)
theorem cmpI_swap (a b : KV × Bool) : cmpI b a = - cmpI a b := by
  obtain ⟨a, d⟩ := a
  obtain ⟨b, e⟩ := b
  unfold cmpI
  cases d <;> cases e <;> simp [sgn, cmpV_swap a b]
theorem cmpI_self (a : KV × Bool) : cmpI a a = 0 := by have := cmpI_swap a a; omega
theorem cmpI_pos {a b : KV × Bool} (ha : a.1.ok) (hb : b.1.ok) (h : 0 < cmpI a b) : Diff (encI b) (encI a) := cmpI_neg hb ha (by rw [cmpI_swap]; omega)
theorem encI_ne (a : KV × Bool) : encI a ≠ [] := by
  obtain ⟨a, d⟩ := a
  obtain ⟨x, u, h1, _⟩ := encV_head a
  unfold encI
  cases d <;> simp [h1]
/-- No item's bytes begin with another's. -/
theorem encI_first {a b : KV × Bool} (ha : a.1.ok) (hb : b.1.ok) (h : encI a ≠ encI b) : (encI b).take (encI a).length ≠ encI a := by
  rcases Int.lt_trichotomy (cmpI a b) 0 with hc | hc | hc
  · exact (cmpI_neg ha hb hc).take_ne
  · exact absurd (congrArg encI (cmpI_zero hc)) h
  · exact (cmpI_pos ha hb hc).take_ne'

/-! ### Tuples -/
theorem encL_cons (x : KV × Bool) (l : List (KV × Bool)) : encL (x :: l) = encI x ++ encL l := rfl
theorem encL_append (l m : List (KV × Bool)) : encL (l ++ m) = encL l ++ encL m := by simp [encL]
theorem less_prefix (a : List UInt8) {b : List UInt8} (h : b ≠ []) : Op.bytesLess a (a ++ b) = true ∧ Op.bytesLess (a ++ b) a = false := by
  have h1 := bytesLess_append a [] b
  have h2 := bytesLess_append a b []
  rw [List.append_nil] at h1 h2
  rw [h1, h2]
  cases b with
  | nil => exact absurd rfl h
  | cons y b => exact ⟨rfl, rfl⟩
/-- Bytes are in order as their tuples. -/
theorem cmpL_less : ∀ {a b : List (KV × Bool)}, (∀ x ∈ a, x.1.ok) → (∀ x ∈ b, x.1.ok) → cmpL a b < 0 → Op.bytesLess (encL a) (encL b) = true ∧ Op.bytesLess (encL b) (encL a) = false
  | [], [], _, _, h => absurd h (by decide)
  | [], y :: b, _, _, _ => by
    have hne : encL (y :: b) ≠ [] := by
      rw [encL_cons]
      intro h
      exact encI_ne y (List.append_eq_nil_iff.1 h).1
    have := less_prefix [] hne
    exact this
  | _ :: _, [], _, _, h => by simp [cmpL] at h
  | x :: a, y :: b, ha, hb, h => by
    unfold cmpL at h
    rw [encL_cons, encL_cons]
    by_cases hz : cmpI x y = 0
    · rw [if_pos hz] at h
      rw [cmpI_zero hz, bytesLess_append, bytesLess_append]
      exact cmpL_less (fun z hz => ha z (List.mem_cons_of_mem _ hz)) (fun z hz => hb z (List.mem_cons_of_mem _ hz)) h
    · rw [if_neg hz] at h
      have := (cmpI_neg (ha x (List.mem_cons_self ..)) (hb y (List.mem_cons_self ..)) h).append (encL a) (encL b)
      exact ⟨this.less, this.more⟩
theorem cmpL_zero : ∀ {a b : List (KV × Bool)}, cmpL a b = 0 → a = b
  | [], [], _ => rfl
  | [], _ :: _, h => by simp [cmpL] at h
  | _ :: _, [], h => by simp [cmpL] at h
  | x :: a, y :: b, h => by
    unfold cmpL at h
    by_cases hz : cmpI x y = 0
    · rw [if_pos hz] at h; rw [cmpI_zero hz, cmpL_zero h]
    · rw [if_neg hz] at h; exact absurd h hz
theorem cmpL_swap : ∀ (a b : List (KV × Bool)), cmpL b a = - cmpL a b
  | [], [] => rfl
  | [], _ :: _ => rfl
  | _ :: _, [] => rfl
  | x :: a, y :: b => by
    unfold cmpL
    have hs := cmpI_swap x y
    by_cases hz : cmpI x y = 0
    · rw [if_pos hz, if_pos (by omega), cmpL_swap a b]
    · rw [if_neg hz, if_neg (by omega), hs]
theorem cmpL_self (a : List (KV × Bool)) : cmpL a a = 0 := by have := cmpL_swap a a; omega
/-- All that is asked of the order, at once. -/
theorem cmpL_order {a b : List (KV × Bool)} (ha : ∀ x ∈ a, x.1.ok) (hb : ∀ x ∈ b, x.1.ok) :
    Op.bytesLess (encL a) (encL b) = decide (cmpL a b < 0) ∧ (encL a == encL b) = decide (cmpL a b = 0) := by
  rcases Int.lt_trichotomy (cmpL a b) 0 with hc | hc | hc
  · have := cmpL_less ha hb hc
    refine ⟨by rw [this.1, decide_eq_true hc], ?_⟩
    rw [decide_eq_false (by omega), beq_eq_false_iff_ne]
    intro e
    rw [e, bytesLess_self] at this
    exact absurd this.1 (by decide)
  · rw [cmpL_zero hc, bytesLess_self, cmpL_self]; simp
  · have := cmpL_less hb ha (by rw [cmpL_swap]; omega)
    refine ⟨by rw [this.2, decide_eq_false (by omega)], ?_⟩
    rw [decide_eq_false (by omega), beq_eq_false_iff_ne]
    intro e
    rw [e, bytesLess_self] at this
    exact absurd this.1 (by decide)
/-- A tuple comes of its bytes alone. -/
theorem encL_inj {a b : List (KV × Bool)} (ha : ∀ x ∈ a, x.1.ok) (hb : ∀ x ∈ b, x.1.ok) (h : encL a = encL b) : a = b := by
  have := (cmpL_order ha hb).2
  rw [h, beq_self_eq_true] at this
  exact cmpL_zero (of_decide_eq_true this.symm)
end Go.Proofs.YtnjbeemahfoaiaaDoor
