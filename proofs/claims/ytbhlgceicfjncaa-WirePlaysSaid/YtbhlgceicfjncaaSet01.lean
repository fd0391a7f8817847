/-
  Joined: Math, TakeMath, FixMath, MsgMath, BuildOne, MsgCells.
-/
import Derived.Test.YtbhlgceicfjncaaRows
import Derived.WalkKit
import Derived.Lib.UnsafeStr
import Derived.Laws.BitsAllLaws
import Derived.Laws.AppendOwn
import Derived.Laws.IdiomStrings
import Derived.ProofKit
import Derived.WalkSpells
import Derived.WalkLawsBesides
import Derived.Lib.Hide
import Derived.Lib.Strings
namespace Go.Proofs.Ytbhlgceicfjncaa
set_option linter.unnecessarySimpa false
set_option linter.unusedVariables false
set_option linter.unusedSimpArgs false
set_option maxRecDepth 100000

theorem ret_int {k : IntKind} {a b : Int} (h : a = b) : Ending.returned (.int k a) = .returned (.int k b) := by rw [h]

/-- A number's bytes: its bits by sevens, the lowest first; all but the last with the bit 80 set. -/
def ub (n : Nat) : List UInt8 :=
  if h : n < 128 then [UInt8.ofNat n] else UInt8.ofNat (n % 128 + 128) :: ub (n / 128)
  termination_by n
  decreasing_by omega

theorem ub_small {n : Nat} (h : n < 128) : ub n = [UInt8.ofNat n] := by rw [ub, dif_pos h]
theorem ub_big {n : Nat} (h : ¬ n < 128) : ub n = UInt8.ofNat (n % 128 + 128) :: ub (n / 128) := by rw [ub, dif_neg h]

theorem ub_len (k : Nat) : ∀ n : Nat, n < 128 ^ (k + 1) → (ub n).length ≤ k + 1 := by
  induction k with
  | zero => intro n h; rw [ub_small (by simpa using h)]; simp
  | succ k ih =>
    intro n h
    by_cases hn : n < 128
    · rw [ub_small hn]; simp
    · rw [ub_big hn]
      have := ih (n / 128) (by rw [Nat.div_lt_iff_lt_mul (by decide)]; rw [Nat.pow_succ] at h; exact h)
      simp only [List.length_cons]; omega

theorem ub_len10 {n : Nat} (h : n < 18446744073709551616) : (ub n).length ≤ 10 :=
  ub_len 9 n (Nat.lt_of_lt_of_le h (by decide))

theorem ub_pos (n : Nat) : 1 ≤ (ub n).length := by
  by_cases hn : n < 128
  · rw [ub_small hn]; simp
  · rw [ub_big hn]; simp

/-- A row of bytes, grown by one: as the walk has it. -/
theorem cells_snoc (done : List UInt8) (b : UInt8) : Lib.byteCells done ++ [.int .u8 (b.toNat : Int)] = Lib.byteCells (done ++ [b]) := by simp [Lib.byteCells]

set_option maxRecDepth 100000 in
theorem or80 (m : Nat) : bits BinOp.or IntKind.u8 ((m : Int) % 256) 128 = ((UInt8.ofNat (m % 128 + 128)).toNat : Int) := by
  have e : ((m : Int) % 256) = ((m % 256 : Nat) : Int) := by omega
  rw [e, show (128 : Int) = ((128 : Nat) : Int) from rfl, u8_or_nat _ _ (by omega) (by omega)]
  have h1 : m % 256 = m / 128 % 2 * 128 + m % 128 := by omega
  have h2 : m % 256 ||| 128 = m % 128 + 128 := by
    have key : ∀ x : Fin 256, x.val ||| 128 = x.val % 128 + 128 := by decide
    have := key ⟨m % 256, by omega⟩
    simp only at this
    rw [this]
    omega
  rw [h2]
  simp only [UInt8.toNat_ofNat']
  omega

/-- 'string(b)' of a row of the call's own. -/
theorem convert_own {P : Program} {w : World} {base e src dst : Nat} {v : Value} {n : Nat} {l : List UInt8} (hown : w.ownsRow base e 1 v n (Lib.byteCells l)) (hne : ¬ v = .slice none 0 0)
    (hs : P.underlying src = some (.slice e)) (he : P.underlying e = some (.int .u8)) (hd : P.underlying dst = some .string) :
    (convert src dst v).run P w = .ok (.string ⟨l.toArray⟩) w := by
  have hn : l.length = n := by have := hown.1; simpa [Lib.byteCells] using this
  subst hn
  rcases hown.2 with ⟨h, _⟩ | ⟨g, cap, cur, rfl, hb, hg, _⟩
  · exact absurd h hne
  · refine run_convert_bytes_back w src dst e _ cap l hs he hd fun j hj => ?_
    exact hown.cells (g := g) rfl j _ (by simp [Lib.byteCells, List.getElem?_eq_getElem hj])

end Go.Proofs.Ytbhlgceicfjncaa

namespace Go.Proofs.Ytbhlgceicfjncaa
set_option linter.unnecessarySimpa false
set_option linter.unusedVariables false
set_option linter.unusedSimpArgs false
set_option maxRecDepth 100000

/-- A number's bytes read on from place i, what stands ahead being worth acc: the number, and how many bytes it has. -/
def tkAux (i acc : Nat) : List UInt8 → Option (Nat × Nat)
  | [] => none
  | b :: r =>
    if i = 9 ∧ 1 < b.toNat then none
    else if 128 ≤ b.toNat then tkAux (i + 1) (acc + b.toNat % 128 * 128 ^ i) r
    else if b.toNat = 0 ∧ 0 < i then none else some (acc + b.toNat % 128 * 128 ^ i, i + 1)

def tk (l : List UInt8) : Option (Nat × Nat) := tkAux 0 0 l

theorem ofNat_eq {b : UInt8} {x : Nat} (h : b.toNat = x) : UInt8.ofNat x = b := by subst h; simp

theorem tkAux_some : ∀ (l : List UInt8) (i acc n k : Nat), i ≤ 9 → tkAux i acc l = some (n, k) →
    ∃ m, n = acc + m * 128 ^ i ∧ i < k ∧ k - i ≤ l.length ∧ l.take (k - i) = ub m ∧ m < 2 ^ (64 - 7 * i) ∧ (m = 0 → i = 0) ∧ k - i = (ub m).length := by
  intro l
  induction l with
  | nil => intro i acc n k _ h; simp [tkAux] at h
  | cons b r ih =>
    intro i acc n k hi h
    have hb := b.toNat_lt
    unfold tkAux at h
    by_cases h9 : i = 9 ∧ 1 < b.toNat
    · rw [if_pos h9] at h; simp at h
    rw [if_neg h9] at h
    by_cases h128 : 128 ≤ b.toNat
    · rw [if_pos h128] at h
      have hi' : i + 1 ≤ 9 := by omega
      obtain ⟨m, e1, e2, e3, e4, e5, e6, e7⟩ := ih (i + 1) _ n k hi' h
      have hm : m ≠ 0 := fun e => by have := e6 e; omega
      have hlt : ¬ b.toNat % 128 + 128 * m < 128 := by omega
      have hub : ub (b.toNat % 128 + 128 * m) = b :: ub m := by
        rw [ub_big hlt]
        congr 1
        · exact ofNat_eq (by omega)
        · congr 1; omega
      refine ⟨b.toNat % 128 + 128 * m, ?_, by omega, by simp only [List.length_cons]; omega, ?_, ?_, by omega, ?_⟩
      · rw [e1, Nat.pow_succ, Nat.add_mul, Nat.add_assoc]; congr 2; rw [Nat.mul_comm 128 m, Nat.mul_assoc, Nat.mul_comm 128]
      · rw [hub, show k - i = (k - (i + 1)) + 1 by omega, List.take_succ_cons, e4]
      · rw [show 64 - 7 * i = 7 + (64 - 7 * (i + 1)) by omega, Nat.pow_add]; omega
      · rw [hub, List.length_cons, ← e7]; omega
    · rw [if_neg h128] at h
      by_cases h0 : b.toNat = 0 ∧ 0 < i
      · rw [if_pos h0] at h; simp at h
      rw [if_neg h0] at h
      simp only [Option.some.injEq, Prod.mk.injEq] at h
      obtain ⟨rfl, rfl⟩ := h
      have hub : ub b.toNat = [b] := by rw [ub_small (by omega)]; simp
      refine ⟨b.toNat, by rw [Nat.mod_eq_of_lt (by omega)], by omega, by simp, by rw [hub]; simp, ?_, by omega, by rw [hub]; simp⟩
      by_cases e : i = 9
      · subst e; have : b.toNat ≤ 1 := by omega
        calc b.toNat ≤ 1 := this
          _ < _ := by decide
      · have h7 : (2 : Nat) ^ 7 ≤ 2 ^ (64 - 7 * i) := Nat.pow_le_pow_right (by decide) (by omega)
        omega

/-- What is taken as a number is a number's bytes. -/
theorem tk_some {l : List UInt8} {n k : Nat} (h : tk l = some (n, k)) : l.take k = ub n ∧ n < 18446744073709551616 ∧ k ≤ l.length ∧ 0 < k ∧ k ≤ 10 := by
  obtain ⟨m, e1, e2, e3, e4, e5, _, e7⟩ := tkAux_some l 0 0 n k (by omega) h
  simp only [Nat.pow_zero, Nat.mul_one, Nat.zero_add, Nat.sub_zero] at e1 e3 e4 e5 e7
  subst e1
  exact ⟨e4, e5, e3, e2, by rw [e7]; exact ub_len10 e5⟩

theorem tkAux_ub : ∀ (j m i acc : Nat) (r : List UInt8), (ub m).length ≤ j → i ≤ 9 → m < 2 ^ (64 - 7 * i) → (m = 0 → i = 0) → tkAux i acc (ub m ++ r) = some (acc + m * 128 ^ i, i + (ub m).length) := by
  intro j
  induction j with
  | zero => intro m i acc r h; have := ub_pos m; omega
  | succ j ih =>
    intro m i acc r h hi hm h0
    by_cases hs : m < 128
    · rw [ub_small hs]
      have e : (UInt8.ofNat m).toNat = m := by simp only [UInt8.toNat_ofNat']; omega
      have h9 : ¬ (i = 9 ∧ 1 < m) := by
        rintro ⟨rfl, h1⟩
        have : m < 2 := by simpa using hm
        omega
      show tkAux i acc (UInt8.ofNat m :: r) = _
      unfold tkAux
      rw [e, if_neg h9, if_neg (by omega), if_neg (by omega), Nat.mod_eq_of_lt hs]
      rfl
    · rw [ub_big hs] at h ⊢
      have e : (UInt8.ofNat (m % 128 + 128)).toNat = m % 128 + 128 := by simp only [UInt8.toNat_ofNat']; omega
      have hi' : i < 9 := by
        rcases Nat.lt_or_ge i 9 with h | h
        · exact h
        · have : i = 9 := by omega
          subst this
          have : m < 2 := by simpa using hm
          omega
      show tkAux i acc (UInt8.ofNat (m % 128 + 128) :: (ub (m / 128) ++ r)) = _
      unfold tkAux
      rw [e, if_neg (by omega), if_pos (by omega), ih (m / 128) (i + 1) _ r (by simp only [List.length_cons] at h; omega) (by omega) ?_ (by omega)]
      · simp only [List.length_cons, Option.some.injEq, Prod.mk.injEq]
        refine ⟨?_, by omega⟩
        rw [Nat.pow_succ, show (m % 128 + 128) % 128 = m % 128 by omega, Nat.add_assoc]
        congr 1
        rw [Nat.mul_comm (128 ^ i) 128, ← Nat.mul_assoc, ← Nat.add_mul]
        congr 1
        omega
      · have : 2 ^ (64 - 7 * i) = 128 * 2 ^ (64 - 7 * (i + 1)) := by rw [show 64 - 7 * i = 7 + (64 - 7 * (i + 1)) by omega, Nat.pow_add]
        rw [this] at hm
        exact Nat.div_lt_of_lt_mul hm

theorem tk_ub (n : Nat) (hn : n < 18446744073709551616) (r : List UInt8) : tk (ub n ++ r) = some (n, (ub n).length) := by
  have := tkAux_ub _ n 0 0 r (Nat.le_refl _) (by omega) (by simpa using hn) (fun _ => rfl)
  simpa [tk] using this
theorem tkAux_step (l : List UInt8) (k n b : Nat) (h : k < l.length) (hb : l[k].toNat = b) :
    tkAux k n (l.drop k) = if k = 9 ∧ 1 < b then none else if 128 ≤ b then tkAux (k + 1) (n + b % 128 * 128 ^ k) (l.drop (k + 1))
      else if b = 0 ∧ 0 < k then none else some (n + b % 128 * 128 ^ k, k + 1) := by
  subst hb
  rw [List.drop_eq_getElem_cons h, tkAux]

theorem and127 (b : Nat) (h : b < 256) : bits BinOp.and IntKind.u8 (b : Int) 127 = ((b % 128 : Nat) : Int) := by
  rw [show (127 : Int) = ((127 : Nat) : Int) from rfl, u8_and_nat _ _ h (by decide), nat_mask7]

theorem and128 (b : Nat) (h : b < 256) : bits BinOp.and IntKind.u8 (b : Int) 128 = ((b / 128 * 128 : Nat) : Int) := by
  rw [show (128 : Int) = ((2 ^ 7 : Nat) : Int) from rfl, u8_and_nat _ _ h (by decide), nat_bit]
  have : b / 2 ^ 7 % 2 = b / 128 := by omega
  rw [this]
theorem and128_yes (b : Nat) (h : b < 256) (h1 : 128 ≤ b) : (bits BinOp.and IntKind.u8 (b : Int) 128 != 0) = true := by
  rw [and128 b h]; simp; omega
theorem and128_no (b : Nat) (h : b < 256) (h1 : b < 128) : (bits BinOp.and IntKind.u8 (b : Int) 128 != 0) = false := by
  rw [and128 b h]; simp; omega

theorem or_step (n b k : Nat) (hb : b < 256) (hn : n < 2 ^ (7 * k)) (hk : k ≤ 9) (h9 : k = 9 → b ≤ 1) :
    bits BinOp.or IntKind.u64 (n : Int) (IntKind.u64.wrap (IntKind.u64.wrap (bits BinOp.and IntKind.u8 (b : Int) 127) * 2 ^ (7 * k))) = ((n + b % 128 * 128 ^ k : Nat) : Int) := by
  have hP : (128 : Nat) ^ k = 2 ^ (7 * k) := by rw [show (128 : Nat) = 2 ^ 7 from rfl, ← Nat.pow_mul]
  have hlt : b % 128 * 2 ^ (7 * k) + 2 ^ (7 * k) ≤ 18446744073709551616 := by
    by_cases e : k = 9
    · subst e
      have h1 := h9 rfl
      have : b % 128 ≤ 1 := by omega
      have h3 := Nat.mul_le_mul_right (2 ^ (7 * 9)) this
      exact Nat.le_trans (Nat.add_le_add_right h3 _) (by decide)
    · have h1 : b % 128 + 1 ≤ 128 := by omega
      have h2 : (2 : Nat) ^ (7 * k) ≤ 2 ^ 56 := Nat.pow_le_pow_right (by decide) (by omega)
      have h3 := Nat.mul_le_mul h1 h2
      rw [Nat.add_mul, Nat.one_mul] at h3
      omega
  have hpos : 0 < 2 ^ (7 * k) := Nat.two_pow_pos _
  rw [and127 b hb, hP]
  have e1 : IntKind.u64.wrap ((b % 128 : Nat) : Int) = ((b % 128 : Nat) : Int) := by rw [IntKind.wrap_u64]; omega
  rw [e1]
  have e2 : ((b % 128 : Nat) : Int) * 2 ^ (7 * k) = ((b % 128 * 2 ^ (7 * k) : Nat) : Int) := by simp
  rw [e2]
  have e3 : IntKind.u64.wrap ((b % 128 * 2 ^ (7 * k) : Nat) : Int) = ((b % 128 * 2 ^ (7 * k) : Nat) : Int) := by rw [IntKind.wrap_u64]; omega
  rw [e3, u64_or_nat _ _ (by omega) (by omega), Nat.or_comm, nat_join (7 * k) _ n (Nat.mul_mod_left _ _) hn, Nat.add_comm]

theorem next_lt (n b k : Nat) (hn : n < 2 ^ (7 * k)) : n + b % 128 * 128 ^ k < 2 ^ (7 * (k + 1)) := by
  have hP : (128 : Nat) ^ k = 2 ^ (7 * k) := by rw [show (128 : Nat) = 2 ^ 7 from rfl, ← Nat.pow_mul]
  have h1 : b % 128 + 1 ≤ 128 := by omega
  have h3 := Nat.mul_le_mul_right (2 ^ (7 * k)) h1
  rw [Nat.add_mul, Nat.one_mul] at h3
  rw [hP, show 7 * (k + 1) = 7 * k + 7 by omega, Nat.pow_add]
  omega

/-- What is told: 0, 0 where there is no number. -/
def tkN (l : List UInt8) : Nat := ((tk l).getD (0, 0)).1
def tkK (l : List UInt8) : Nat := ((tk l).getD (0, 0)).2
theorem tk_is_none {l : List UInt8} (h : tk l = none) : tkN l = 0 ∧ tkK l = 0 := by simp [tkN, tkK, h]
theorem tk_is_some {l : List UInt8} {n k : Nat} (h : tk l = some (n, k)) : tkN l = n ∧ tkK l = k := by simp [tkN, tkK, h]

theorem ret_two {k k' : IntKind} {a b c d : Int} (h : a = b) (h' : c = d) : Ending.returned (.tuple #[.int k a, .int k' c]) = .returned (.tuple #[.int k b, .int k' d]) := by rw [h, h']
end Go.Proofs.Ytbhlgceicfjncaa

namespace Go.Proofs.Ytbhlgceicfjncaa
open Go.RowKit
set_option linter.unnecessarySimpa false
set_option linter.unusedVariables false
set_option linter.unusedSimpArgs false
set_option maxRecDepth 100000

theorem u8info : (Try.prog.info? 5).map (fun i => (i.zero, i.size, i.bytes)) = some (some (.int .u8 0), 1, 1) := by kernel_rfl

/-- Bytes by their places. -/
def cellsF (size : Nat) (f : Nat → UInt8) : List UInt8 := (List.range size).map f

theorem cellsF_length (size : Nat) (f : Nat → UInt8) : (cellsF size f).length = size := by simp [cellsF]

theorem cellsF_congr {size : Nat} {f g : Nat → UInt8} (h : ∀ j, j < size → f j = g j) : cellsF size f = cellsF size g := by
  unfold cellsF
  apply List.map_congr_left
  intro j hj
  exact h j (List.mem_range.1 hj)

theorem cellsF_set {size p : Nat} {f : Nat → UInt8} (v : UInt8) : (Lib.byteCells (cellsF size f)).set p (.int .u8 (v.toNat : Int)) = Lib.byteCells (cellsF size (fun j => if j = p then v else f j)) := by
  apply List.ext_getElem
  · simp [Lib.byteCells, cellsF]
  · intro j h1 h2
    simp only [Lib.byteCells, cellsF, List.getElem_set, List.getElem_map, List.getElem_range]
    by_cases h : p = j
    · subst h; simp
    · rw [if_neg h, if_neg (fun e => h e.symm)]

theorem zeros_cellsF (size : Nat) : (madeCells #[Value.int .u8 0] size).toList = Lib.byteCells (cellsF size (fun _ => 0)) := by
  rw [toList_madeCells_one]
  simp [Lib.byteCells, cellsF, List.map_const']

/-- Which byte of n stands at place j of size. -/
def pl (size : Nat) (big : Bool) (j : Nat) : Nat := if big then size - 1 - j else j
def fxAt (n size : Nat) (big : Bool) (j : Nat) : UInt8 := UInt8.ofNat (n / 256 ^ pl size big j)
theorem pl_lt {size j : Nat} (big : Bool) (h : j < size) : pl size big j < size := by unfold pl; split <;> omega
theorem fxAt_shift (n size : Nat) (big : Bool) (j : Nat) : (n : Int) / 2 ^ (8 * pl size big j) % 256 = ((fxAt n size big j).toNat : Int) := by
  unfold fxAt
  have e : ((2 : Int) ^ (8 * pl size big j)) = ((256 ^ pl size big j : Nat) : Int) := by
    rw [show (256 : Nat) = 2 ^ 8 from rfl, ← Nat.pow_mul]; simp
  rw [e]
  generalize 256 ^ pl size big j = q
  simp only [UInt8.toNat_ofNat']
  omega
/-- One place more is filled. -/
theorem cellsF_next {size p : Nat} {P P' : Nat → Prop} [DecidablePred P] [DecidablePred P'] {g : Nat → UInt8} (h : ∀ j, j < size → (P' j ↔ j = p ∨ P j)) :
    (Lib.byteCells (cellsF size fun j => if P j then g j else 0)).set p (.int .u8 ((g p).toNat : Int)) = Lib.byteCells (cellsF size fun j => if P' j then g j else 0) := by
  rw [cellsF_set]
  congr 1
  apply cellsF_congr
  intro j hj
  have := h j hj
  by_cases e : j = p
  · subst e; simp [this]
  · by_cases hp : P j <;> simp [this, e, hp]
def fx (n size : Nat) (big : Bool) : List UInt8 := cellsF size (fxAt n size big)
theorem pl_pl {size k : Nat} (big : Bool) (h : k < size) : pl size big (pl size big k) = k := by unfold pl; split <;> omega
theorem fxAt_pl {n size k : Nat} (big : Bool) (h : k < size) : ((n / 256 ^ k : Nat) : Int) % 256 = ((fxAt n size big (pl size big k)).toNat : Int) := by
  unfold fxAt
  rw [pl_pl big h]
  simp only [UInt8.toNat_ofNat']
  omega
end Go.Proofs.Ytbhlgceicfjncaa

namespace Go.Proofs.Ytbhlgceicfjncaa
open Go.RowKit
set_option linter.unusedVariables false
set_option linter.unnecessarySimpa false
set_option linter.unusedSimpArgs false
set_option maxRecDepth 100000

/-- A write, a message, as plain data. -/
structure Wr where
  key : ByteArray
  gone : Bool
  val : ByteArray
structure Mg where
  kind : Int
  frm : Int
  to_ : Int
  node : Int
  life : Int
  seq : Int
  a : Nat
  b : Nat
  key : ByteArray
  found : Bool
  time : Nat
  gone : Bool
  val : ByteArray
  ws : List Wr
  note : ByteArray
  hint : Nat
  must : Nat
def wr0 : Wr := ⟨ByteArray.empty, false, ByteArray.empty⟩
def mg0 : Mg := ⟨0, 0, 0, 0, 0, 0, 0, 0, ByteArray.empty, false, 0, false, ByteArray.empty, [], ByteArray.empty, 0, 0⟩

def bl (b : Bool) : List UInt8 := [if b then 1 else 0]
def txB (s : ByteArray) : List UInt8 := ub s.size ++ s.data.toList
def wrB (w : Wr) : List UInt8 := bl w.gone ++ txB w.key ++ txB w.val
def wsB (l : List Wr) : List UInt8 := l.flatMap wrB
def numF (n : Nat) : Option (List UInt8) := if n = 0 then none else some (ub n)
def txnZero (m : Mg) : Bool := m.node == 0 && m.life == 0 && m.seq == 0
def verZeroM (m : Mg) : Bool := m.time == 0 && !m.gone && m.val.size == 0
/-- What a tag's field has; none: it is zero. -/
def fld (m : Mg) : Nat → Option (List UInt8)
  | 1 => numF m.frm.toNat
  | 2 => numF m.to_.toNat
  | 3 => if txnZero m then none else some (ub m.node.toNat ++ ub m.life.toNat ++ ub m.seq.toNat)
  | 4 => numF m.a
  | 5 => numF m.b
  | 6 => if m.key.size = 0 then none else some m.key.data.toList
  | 7 => if m.found then some [] else none
  | 8 => if verZeroM m then none else some (ub m.time ++ bl m.gone ++ m.val.data.toList)
  | 9 => if m.ws.length = 0 then none else some (ub m.ws.length ++ wsB m.ws)
  | 10 => if m.note.size = 0 then none else some m.note.data.toList
  | 11 => numF m.hint
  | 12 => numF m.must
  | _ => none
theorem fld_3 (m : Mg) : fld m 3 = if txnZero m then none else some (ub m.node.toNat ++ ub m.life.toNat ++ ub m.seq.toNat) := rfl
theorem fld_6 (m : Mg) : fld m 6 = if m.key.size = 0 then none else some m.key.data.toList := rfl
theorem fld_7 (m : Mg) : fld m 7 = if m.found then some [] else none := rfl
theorem fld_8 (m : Mg) : fld m 8 = if verZeroM m then none else some (ub m.time ++ bl m.gone ++ m.val.data.toList) := rfl
theorem fld_9 (m : Mg) : fld m 9 = if m.ws.length = 0 then none else some (ub m.ws.length ++ wsB m.ws) := rfl
theorem fld_10 (m : Mg) : fld m 10 = if m.note.size = 0 then none else some m.note.data.toList := rfl
def headT (tag : Nat) : Nat := if tag = 12 then 25 else 2 * tag
def encT (tag : Nat) (t : List UInt8) : List UInt8 := ub (headT tag) ++ (ub t.length ++ t)
def fldB (m : Mg) (tag : Nat) : List UInt8 := match fld m tag with
  | none => []
  | some t => encT tag t
def fldsB (m : Mg) : Nat → List UInt8
  | 0 => []
  | k + 1 => fldsB m k ++ fldB m (k + 1)
/-- A message's bytes, up to a tag. -/
def msgB (m : Mg) (last : Nat) : List UInt8 := ub m.kind.toNat ++ fldsB m last

def in31 (n : Int) : Bool := decide (0 ≤ n ∧ n ≤ 2147483647)
def nums31 (m : Mg) : Bool := in31 m.frm && in31 m.to_ && in31 m.node && in31 m.life && in31 m.seq
def wrOK (w : Wr) : Bool := !(w.gone && w.val.size != 0)
def kindOK (m : Mg) : Bool := decide (1 ≤ m.kind ∧ m.kind ≤ 9)
def verOK (m : Mg) : Bool := !(m.gone && m.val.size != 0)
def rightBM (m : Mg) : Bool := nums31 m && (kindOK m && (verOK m && (decide (m.ws.length ≤ 8) && (m.ws.all wrOK && decide ((msgB m 12).length ≤ 4000)))))

def lastOfM (v : Int) : Nat := if v = 1 then 9 else if v = 2 then 10 else if v = 3 then 12 else 0
/-- Without what is from later versions. -/
def cut (v : Int) (m : Mg) : Mg := { m with hint := if v < 3 then 0 else m.hint, note := if v < 2 then ByteArray.empty else m.note }
def projB (v : Int) (m : Mg) : Mg × Int :=
  if lastOfM v = 0 ∨ rightBM m = false then (mg0, 1) else if v < 3 ∧ m.must ≠ 0 then (mg0, 4) else (cut v m, 0)
def encB (v : Int) (m : Mg) : List UInt8 × Int := if (projB v m).2 = 0 then (msgB m (lastOfM v), 0) else ([], (projB v m).2)

/-- The numbers fit. -/
structure Mg.fits (m : Mg) : Prop where
  kind : -9223372036854775808 ≤ m.kind ∧ m.kind ≤ 9223372036854775807
  frm : -9223372036854775808 ≤ m.frm ∧ m.frm ≤ 9223372036854775807
  to_ : -9223372036854775808 ≤ m.to_ ∧ m.to_ ≤ 9223372036854775807
  node : -9223372036854775808 ≤ m.node ∧ m.node ≤ 9223372036854775807
  life : -9223372036854775808 ≤ m.life ∧ m.life ≤ 9223372036854775807
  seq : -9223372036854775808 ≤ m.seq ∧ m.seq ≤ 9223372036854775807
  a : m.a < 18446744073709551616
  b : m.b < 18446744073709551616
  time : m.time < 18446744073709551616
  hint : m.hint < 18446744073709551616
  must : m.must < 18446744073709551616
/-- The sizes fit: as the statements look at them. -/
structure Mg.few (m : Mg) : Prop where
  key : m.key.size ≤ 5000
  note : m.note.size ≤ 5000
  val : m.val.size ≤ 12000
  ws : m.ws.length ≤ 20
  all : ∀ w ∈ m.ws, w.key.size ≤ 5000 ∧ w.val.size ≤ 5000
theorem mg0_fits : mg0.fits := by constructor <;> simp [mg0]
theorem mg0_few : mg0.few := by constructor <;> simp [mg0]
end Go.Proofs.Ytbhlgceicfjncaa

namespace Go.Proofs.Ytbhlgceicfjncaa
open Go.RowKit
set_option linter.unnecessarySimpa false
set_option linter.unusedVariables false
set_option linter.unusedSimpArgs false
set_option maxRecDepth 100000

/-- A row of the call's own stays, whatever is made besides. -/
theorem own_below {w w' : World} {B e size n : Nat} {v : Value} {xs : List Value} (h : w.ownsRow B e size v n xs) (hb : Below w.heap.size w w') : w'.ownsRow B e size v n xs := by
  refine ⟨h.1, ?_⟩
  rcases h.2 with h2 | ⟨g, cap, cur, hv, hB, hg, h3⟩
  · exact .inl h2
  · exact .inr ⟨g, cap, cur, hv, hB, by rw [hb.block g (Array.getElem?_eq_some_iff.1 hg).1]; exact hg, h3⟩

theorem own_slice {w : World} {base e size n : Nat} {v : Value} {xs : List Value} (h : w.ownsRow base e size v n xs) (hn : 0 < n) : ∃ g cap, v = .slice (some ⟨g, 0, none⟩) n cap ∧ base ≤ g ∧ g < w.heap.size := by
  rcases h.2 with ⟨_, rfl⟩ | ⟨g, cap, cur, rfl, hb, hg, _⟩
  · omega
  · exact ⟨g, cap, rfl, hb, (Array.getElem?_eq_some_iff.1 hg).1⟩

theorem own_form {w : World} {base e size n : Nat} {v : Value} {xs : List Value} (h : w.ownsRow base e size v n xs) : ∃ a cap, v = .slice a n cap := by
  rcases h.2 with ⟨h1, rfl⟩ | ⟨g, cap, cur, rfl, _⟩
  · exact ⟨none, 0, h1⟩
  · exact ⟨_, cap, rfl⟩

theorem cells_one {v : Value} (h : v.oneCell' = true) : v.cells = #[v] := by cases v <;> first | rfl | (simp [Value.oneCell'] at h)

theorem run_buildSlice_one {P : Program} (w : World) (t e : TypeId) (z v : Value) (hu : P.underlying t = some (.slice e)) (hi : (P.info? e).map (fun i => (i.zero, i.size)) = some (some z, 1)) (hz : z.oneCell' = true) (hv : v.oneCell' = true) :
    (Instr.buildSlice t 1 #[(0, v)]).run P w = .ok (.slice (some ⟨w.heap.size, 0, none⟩) 1 1) (w.alloc (.cells #[v] e)) := by
  cases hq : P.info? e with
  | none => simp [hq] at hi
  | some i =>
    simp [hq] at hi
    unfold Instr.buildSlice
    simp [run_underlying hu, sizeOf, typeInfo, zeroValue, hq, hi.1, hi.2, cells_one hz, cells_one hv, Instr.fill, newRow, Sem.run_bind]
    refine congrArg (fun c => w.alloc (.cells c e)) ?_
    apply Array.ext
    · simp
    · intro j h1 h2
      obtain rfl : j = 0 := by simp at h2; omega
      simp

theorem wp_buildSlice_one {P : Program} {op : Oper} {a : Act} {w : World} {K : Act → World → Prop} {Q : Exit → Act → World → Prop} (t e : TypeId) (x : Operand) (ho : op.op = .buildSlice t 1 #[(0, x)])
    (z v : Value) (hx : a.eval x = v) (hu : P.underlying t = some (.slice e)) (hi : (P.info? e).map (fun i => (i.zero, i.size)) = some (some z, 1)) (hz : z.oneCell' = true) (hv : v.oneCell' = true)
    (h : K (a.put op.dst (.slice (some ⟨w.heap.size, 0, none⟩) 1 1)) (w.alloc (.cells #[v] e))) : op.wp P a w K Q := by
  unfold Oper.wp execOp
  simp [ho, hx, run_buildSlice_one w t e z v hu hi hz hv, Oper.upon]
  exact h

theorem wpList_buildSlice_one {P : Program} {ops : Array Oper} {rest : List Oper} {op : Oper} {a : Act} {w : World} {Q : Exit → Act → World → Prop} (hgd : op.guard = none) (t e : TypeId) (x : Operand) (ho : op.op = .buildSlice t 1 #[(0, x)])
    (z v : Value) (hx : a.eval x = v) (hu : P.underlying t = some (.slice e)) (hi : (P.info? e).map (fun i => (i.zero, i.size)) = some (some z, 1)) (hz : z.oneCell' = true) (hv : v.oneCell' = true)
    (h : wpList P ops Q rest (a.put op.dst (.slice (some ⟨w.heap.size, 0, none⟩) 1 1)) (w.alloc (.cells #[v] e))) : wpList P ops Q (op :: rest) a w :=
  wpList_plain hgd fun _ hK => by
    unfold Oper.wp execOp
    simp [ho, hx, run_buildSlice_one w t e z v hu hi hz hv, Oper.upon]
    exact hK _ _ h

theorem run_buildSlice_two {P : Program} (w : World) (t e : TypeId) (z u v : Value) (hu : P.underlying t = some (.slice e)) (hi : (P.info? e).map (fun i => (i.zero, i.size)) = some (some z, 1)) (hz : z.oneCell' = true) (hu1 : u.oneCell' = true) (hv : v.oneCell' = true) :
    (Instr.buildSlice t 2 #[(0, u), (1, v)]).run P w = .ok (.slice (some ⟨w.heap.size, 0, none⟩) 2 2) (w.alloc (.cells #[u, v] e)) := by
  cases hq : P.info? e with
  | none => simp [hq] at hi
  | some i =>
    simp [hq] at hi
    unfold Instr.buildSlice
    simp [run_underlying hu, sizeOf, typeInfo, zeroValue, hq, hi.1, hi.2, cells_one hz, cells_one hv, cells_one hu1, Instr.fill, newRow, Sem.run_bind]
    refine congrArg (fun c => w.alloc (.cells c e)) ?_
    apply Array.ext
    · simp
    · intro j h1 h2
      have : j = 0 ∨ j = 1 := by simp at h2; omega
      rcases this with rfl | rfl <;> simp
theorem wp_buildSlice_two {P : Program} {op : Oper} {a : Act} {w : World} {K : Act → World → Prop} {Q : Exit → Act → World → Prop} (t e : TypeId) (x y : Operand) (ho : op.op = .buildSlice t 2 #[(0, x), (1, y)])
    (z u v : Value) (hx : a.eval x = u) (hy : a.eval y = v) (hu : P.underlying t = some (.slice e)) (hi : (P.info? e).map (fun i => (i.zero, i.size)) = some (some z, 1)) (hz : z.oneCell' = true) (hu1 : u.oneCell' = true) (hv : v.oneCell' = true)
    (h : K (a.put op.dst (.slice (some ⟨w.heap.size, 0, none⟩) 2 2)) (w.alloc (.cells #[u, v] e))) : op.wp P a w K Q := by
  unfold Oper.wp execOp
  simp [ho, hx, hy, run_buildSlice_two w t e z u v hu hi hz hu1 hv, Oper.upon]
  exact h
end Go.Proofs.Ytbhlgceicfjncaa

namespace Go.Proofs.Ytbhlgceicfjncaa
open Go.RowKit
set_option linter.unusedVariables false
set_option linter.unnecessarySimpa false
set_option linter.unusedSimpArgs false
set_option maxRecDepth 100000

def Mg.cells (m : Mg) (sl : Value) : Array Value :=
  #[.int .i64 m.kind, .int .i64 m.frm, .int .i64 m.to_, .int .i64 m.node, .int .i64 m.life, .int .i64 m.seq, .int .u64 m.a, .int .u64 m.b, .string m.key, .bool m.found,
    .int .u64 m.time, .bool m.gone, .string m.val, sl, .string m.note, .int .u64 m.hint, .int .u64 m.must]
/-- A slice of writes, in memory. -/
def WsAt (W : World) (sl : Value) (ws : List Wr) : Prop :=
  ∃ a len cap, sl = .slice a len cap ∧ ws.length = len ∧ ∀ i, i < len → ∃ b off, a = some ⟨b, off, none⟩ ∧ b < W.heap.size ∧
    W.cell? ⟨b, off + i * 3, none⟩ = some (.string (ws.getD i wr0).key) ∧ W.cell? ⟨b, off + i * 3 + 1, none⟩ = some (.bool (ws.getD i wr0).gone) ∧ W.cell? ⟨b, off + i * 3 + 2, none⟩ = some (.string (ws.getD i wr0).val)
theorem WsAt.below {W W' : World} {sl : Value} {ws : List Wr} (h : WsAt W sl ws) (hb : Below W.heap.size W W') : WsAt W' sl ws := by
  obtain ⟨a, len, cap, h1, h2, h3⟩ := h
  refine ⟨a, len, cap, h1, h2, fun i hi => ?_⟩
  obtain ⟨b, off, ha, hlt, c0, c1, c2⟩ := h3 i hi
  exact ⟨b, off, ha, Nat.lt_of_lt_of_le hlt hb.size, (hb.cell hlt).trans c0, (hb.cell hlt).trans c1, (hb.cell hlt).trans c2⟩
theorem WsAt.nil (W : World) : WsAt W (.slice none 0 0) [] := ⟨none, 0, 0, rfl, rfl, fun i hi => by omega⟩

/-- What is looked at: numbers that are written as they are, sizes that are told. -/
structure Mg.sane (m : Mg) : Prop where
  kind : 0 ≤ m.kind ∧ m.kind ≤ 9
  nums : nums31 m = true
  fits : m.fits
  few : m.few
theorem mg0_sane : mg0.sane := ⟨by simp [mg0], rfl, mg0_fits, mg0_few⟩

/-- What Field tells of a tag, zero or not. -/
def fldX (m : Mg) (tag : Nat) : List UInt8 :=
  if tag = 8 then ub m.time ++ bl m.gone ++ m.val.data.toList else if tag = 9 then ub m.ws.length ++ wsB m.ws else (fld m tag).getD []
theorem fldX_some {m : Mg} {tag : Nat} {t : List UInt8} (h : fld m tag = some t) : fldX m tag = t := by
  unfold fldX
  split
  · subst_vars
    simp only [fld] at h
    split at h
    · cases h
    · injection h
  · split
    · subst_vars
      simp only [fld] at h
      split at h
      · cases h
      · injection h
    · rw [h]; rfl
end Go.Proofs.Ytbhlgceicfjncaa
