/-
  Joined: CrcSum, RefFixedB, LzMath, RefTakeB, RefUnpack, BlkContracts, BlkFinds, BlkBack, BlkBentMath.
-/
import Derived.Test.YtdcefhhmddjodaaSet11
import Derived.Test.YtdcefhhmddjodaaSet02
import Derived.Lib.IndexBytes
import Derived.Lib.Strings
import Derived.Test.YtdcefhhmddjodaaSet01
import Derived.Test.YtdcefhhmddjodaaSet04
import Derived.Lib.AppendStr
import Derived.Deep.LoopGhost
import Derived.Deep.DeepCutAuto
import Derived.Deep.CutBlock
import Derived.Deep.QuietTactic
import Derived.BigQuiet
namespace Go.Proofs.Ytdcefhhmddjodaa
open Go.RowKit
set_option linter.unnecessarySimpa false
set_option linter.unusedVariables false
set_option linter.unusedSimpArgs false
set_option maxRecDepth 100000

/-- The model's way to a place of the table. -/
theorem place8 {s : Nat} (b : UInt8) : bits BinOp.xor IntKind.u8 ((s : Int) % 256) (b.toNat : Int) = ((((s % 256) ^^^ b.toNat) : Nat) : Int) := by
  have e : ((s : Int) % 256) = ((s % 256 : Nat) : Int) := by omega
  rw [e, u8_xor_nat _ _ (by omega) (UInt8.toNat_lt b)]
theorem place_lt (s : Nat) (b : UInt8) : (s % 256) ^^^ b.toNat < 256 := Nat.xor_lt_two_pow (n := 8) (by omega) (UInt8.toNat_lt b)
theorem moreB_take_succ (s : Nat) (l : List UInt8) (i : Nat) {x : UInt8} (h : l[i]? = some x) : moreB s (l.take (i + 1)) = stepB (moreB s (l.take i)) x := by
  rw [List.take_add_one, h, moreB_append]; rfl

set_option maxRecDepth 100000 in
set_option maxHeartbeats 400000 in
theorem more_any (s : Nat) (hs : s < 4294967296) (b : ByteArray) (hb : b.size < 4000000000) (w : World) :
    Calls Try.prog 72 #[.agg tab, .int .u32 s, .string b] w fun e w' => e = .returned (.int .u32 (moreB s b.data.toList)) ∧ Below w.heap.size w w' := by
  have HS := Lib.hid hs
  clear hs
  go_enter Try.func72, Try.ntmps72
  go_wp2_with fail
  go_loopg [1, 7, 10] b.size (fun g s1 s7 s10 wx => ∃ i : Nat, i + g = b.size ∧ s1 = .int .u32 (moreB s (b.data.toList.take i)) ∧ s10 = .int .i64 i ∧ wx = w.alloc (.cells tab 55))
  case atStart => exact ⟨0, by omega, rfl, rfl, rfl⟩
  case round =>
    obtain ⟨i, hig, rfl, rfl, rfl⟩ := hrel
    cases gk with
    | zero =>
      obtain rfl : i = b.size := by omega
      have hall := Lib.hid (show b.data.toList.take b.size = b.data.toList from List.take_of_length_le (by rw [← Lib.size_eq]; exact Nat.le_refl _))
      go_wp2_with fail
      go_ret
      exact ⟨crc_ret_int (by rw [hall.out]), (Below.refl _ _).alloc (Nat.le_refl _) _⟩
    | succ g =>
      have hi : i < b.size := by omega
      have hiz : (i : Int) < (b.size : Int) := by omega
      have hib : (i : Int) < 4000000000 := by omega
      obtain ⟨x, hx⟩ : ∃ x : UInt8, b[i]'hi = x := ⟨_, rfl⟩
      have hxl := Lib.hid (show b.data.toList[i]? = some x by rw [← hx]; exact Lib.data_getElem? b i hi)
      obtain ⟨m, hm⟩ : ∃ m, m = moreB s (b.data.toList.take i) := ⟨_, rfl⟩
      have hml : m < 4294967296 := by rw [hm]; exact moreB_lt _ HS.out
      have HM := Lib.hid hm
      rw [← hm]
      clear hm
      obtain ⟨p, hp⟩ : ∃ p, p = (m % 256) ^^^ x.toNat := ⟨_, rfl⟩
      have hp8 : bits BinOp.xor IntKind.u8 ((m : Int) % 256) (x.toNat : Int) = (p : Int) := by rw [place8, hp]
      have hpl : p < 256 := by rw [hp]; exact place_lt m x
      have htab := tab_at hpl
      have hpz : (p : Int) < 256 := by omega
      have hx32 := Lib.hid (show bits BinOp.xor IntKind.u32 ((m : Int) / 256) ((halves 8 p : Nat) : Int) = ((moreB s (b.data.toList.take (i + 1)) : Nat) : Int) by
        rw [show (m : Int) / 256 = ((m / 256 : Nat) : Int) by omega, u32_xor_nat _ _ (by omega) (halves_lt 8 (by omega)), moreB_take_succ _ _ _ hxl.out, ← HM.out, stepB_table, hp])
      have HP := Lib.hid hp
      clear hp hml
      go_wp2_with fail
      go_roundg g
      case measure => omega
      case rel => exact ⟨i + 1, by omega, congrArg (Value.int .u32) hx32.out, by simp, rfl⟩

set_option maxRecDepth 100000 in
set_option maxHeartbeats 400000 in
theorem sum_any (b : ByteArray) (hb : b.size < 4000000000) (w : World) :
    Calls Try.prog 55 #[.agg tab, .string b] w fun e w' => e = .returned (.int .u32 (sumB b.data.toList)) ∧ Below w.heap.size w w' := by
  have hm := Lib.hid (more_any 4294967295 (by decide) b hb)
  have hml := Lib.hid (moreB_lt b.data.toList (s := 4294967295) (by decide))
  have hrow := Lib.hid (heap_alloc_last w (.cells tab 55))
  have his := Lib.hid (show (Try.prog.info? 55).map (·.size) = some tab.size by rw [tab_size]; exact (zero_of_info (P := Try.prog) tableInfo).2)
  clear hb
  go_enter Try.func55, Try.ntmps55
  go_wp2_with fail
  refine region_likes (by kernel_rfl) (by kernel_rfl) ?_
  repeat (first
    | (go_big_quiet_want; refine quiet_row 55 _ rfl w.heap.size rfl 55 tab (0, 0) _ (likes_row hrow.out) Try.underlying55 rfl his.out ?_; go_simp; go_big_quiet_on)
    | (go_big_quiet_step (first
        | (go_at_call 73; exact calls_likes_same (begin_any _))
        | (go_at_call 72; exact calls_likes (Like.size _) (hm.out _))
        | (go_at_call 71; exact calls_likes_same (end_any _ hml.out _)))))
  refine wpQuiet_nil ?_
  intro x
  have hx := Lib.hid (show Below w.heap.size w x.val from ((Below.refl _ _).alloc (Nat.le_refl _) _).trans (x.below.mono (by simp)))
  go_wp2_with fail
  go_ret
  exact ⟨rfl, hx.out⟩

/-- A table's info, as the store asks it. -/
theorem tableSize : (Try.prog.info? 55).map (·.size) = some tab.size := by rw [tab_size]; exact (zero_of_info (P := Try.prog) tableInfo).2
theorem zeroTable_size : (Array.replicate 256 (Value.int .u32 0)).size = tab.size := by rw [tab_size, Array.size_replicate]
end Go.Proofs.Ytdcefhhmddjodaa

namespace Go.Proofs.Ytdcefhhmddjodaa
open Go.RowKit
set_option linter.unnecessarySimpa false
set_option linter.unusedVariables false
set_option linter.unusedSimpArgs false
set_option maxRecDepth 100000

end Go.Proofs.Ytdcefhhmddjodaa

namespace Go.Proofs.Ytdcefhhmddjodaa
open Go.RowKit
set_option linter.unnecessarySimpa false
set_option linter.unusedVariables false
set_option linter.unusedSimpArgs false
set_option maxRecDepth 100000

/-- i bytes more, each the one that stands d ahead of it. -/
def copyTo : Nat → Nat → List UInt8 → List UInt8
  | 0, _, o => o
  | i + 1, d, o => copyTo i d o ++ [(copyTo i d o).getD ((copyTo i d o).length - d) 0]
theorem copyTo_len (i d : Nat) (o : List UInt8) : (copyTo i d o).length = o.length + i := by
  induction i with
  | zero => rfl
  | succ i ih => rw [copyTo, List.length_append, ih]; rfl

/-- One part: of n bytes, 'copy' telling which kind comes next. -/
def uStep (n : Nat) (copy : Bool) (out rest : List UInt8) : Option (List UInt8 × List UInt8) :=
  match tk rest with
  | none => none
  | some (v, m) =>
    if copy then
      match tk (rest.drop m) with
      | none => none
      | some (w, l) => if 1 ≤ v ∧ v ≤ out.length ∧ 4 ≤ w ∧ w ≤ n - out.length then some (copyTo w v out, (rest.drop m).drop l) else none
    else if v ≤ (rest.drop m).length ∧ v ≤ n - out.length then some (out ++ (rest.drop m).take v, (rest.drop m).drop v) else none

def uRun : Nat → Nat → Nat → List UInt8 → List UInt8 → Option (List UInt8)
  | 0, _, _, _, _ => none
  | f + 1, n, t, out, rest =>
    if t = 0 ∨ out.length < n then
      match uStep n (t % 2 == 1) out rest with
      | none => none
      | some (o, r) => uRun f n (t + 1) o r
    else if rest = [] then some out else none

/-- What packed bytes mean, or the error. -/
def unp (s : List UInt8) : List UInt8 × Int :=
  match tk s with
  | none => ([], 2)
  | some (n, k) =>
    if 60000 < n then ([], 3) else
    match s.drop k with
    | [] => ([], 2)
    | how :: rest =>
      if how = 0 ∧ rest.length = n then (rest, 0) else if ¬ how = 1 then ([], 2) else
      match uRun (rest.length + 1) n 0 [] rest with
      | none => ([], 2)
      | some o => (o, 0)

theorem uStep_less {n : Nat} {c : Bool} {out rest o r : List UInt8} (h : uStep n c out rest = some (o, r)) (hn : out.length ≤ n) : r.length < rest.length ∧ o.length ≤ n := by
  unfold uStep at h
  cases h1 : tk rest with
  | none => rw [h1] at h; cases h
  | some p =>
    obtain ⟨v, m⟩ := p
    have h2 := tk_some h1
    rw [h1] at h
    simp only at h
    cases c
    · simp only [Bool.false_eq_true, if_false] at h
      split at h
      · rename_i hc
        injection h with h
        injection h with e1 e2
        subst e1 e2
        simp only [List.length_drop, List.length_append, List.length_take] at *
        omega
      · cases h
    · simp only [if_true] at h
      cases h3 : tk (rest.drop m) with
      | none => rw [h3] at h; cases h
      | some p =>
        obtain ⟨w, l⟩ := p
        have h4 := tk_some h3
        rw [h3] at h
        simp only at h
        split at h
        · rename_i hc
          injection h with h
          injection h with e1 e2
          subst e1 e2
          simp only [List.length_drop, copyTo_len] at *
          omega
        · cases h

theorem uRun_go {f n t : Nat} {out rest : List UInt8} (h : t = 0 ∨ out.length < n) : uRun (f + 1) n t out rest = match uStep n (t % 2 == 1) out rest with
    | none => none
    | some (o, r) => uRun f n (t + 1) o r := by rw [uRun, if_pos h]
theorem uRun_end {f n t : Nat} {out rest : List UInt8} (h : ¬ (t = 0 ∨ out.length < n)) : uRun (f + 1) n t out rest = if rest = [] then some out else none := by rw [uRun, if_neg h]
theorem uRun_none {f n t : Nat} {out rest : List UInt8} (h : t = 0 ∨ out.length < n) (hs : uStep n (t % 2 == 1) out rest = none) : uRun (f + 1) n t out rest = none := by rw [uRun_go h, hs]
theorem uRun_some {f n t : Nat} {out rest o r : List UInt8} (h : t = 0 ∨ out.length < n) (hs : uStep n (t % 2 == 1) out rest = some (o, r)) : uRun (f + 1) n t out rest = uRun f n (t + 1) o r := by rw [uRun_go h, hs]

/-! A step's outcomes, by their conditions. -/
theorem step_bad {n : Nat} {c : Bool} {out rest : List UInt8} (h : tk rest = none) : uStep n c out rest = none := by unfold uStep; rw [h]
theorem step_lit {n v m : Nat} {out rest : List UInt8} (h : tk rest = some (v, m)) : uStep n false out rest = if v ≤ (rest.drop m).length ∧ v ≤ n - out.length then some (out ++ (rest.drop m).take v, (rest.drop m).drop v) else none := by
  unfold uStep; rw [h]; rfl
theorem step_copy_bad {n v m : Nat} {out rest : List UInt8} (h : tk rest = some (v, m)) (h2 : tk (rest.drop m) = none) : uStep n true out rest = none := by
  unfold uStep; rw [h]; simp only [if_true]; rw [h2]
theorem step_copy {n v m w l : Nat} {out rest : List UInt8} (h : tk rest = some (v, m)) (h2 : tk (rest.drop m) = some (w, l)) :
    uStep n true out rest = if 1 ≤ v ∧ v ≤ out.length ∧ 4 ≤ w ∧ w ≤ n - out.length then some (copyTo w v out, (rest.drop m).drop l) else none := by
  unfold uStep; rw [h]; simp only [if_true]; rw [h2]

theorem ext_drop (r : ByteArray) (m : Nat) : (r.extract m r.size).data.toList = r.data.toList.drop m := by
  simp only [ByteArray.data_extract, Array.toList_extract, List.extract_eq_drop_take']
  rw [show r.size = r.data.toList.length from Lib.size_eq r, List.take_length]
theorem ext_take (r : ByteArray) (v : Nat) : (r.extract 0 v).data.toList = r.data.toList.take v := by
  simp only [ByteArray.data_extract, Array.toList_extract, List.extract_eq_drop_take', List.drop_zero]
end Go.Proofs.Ytdcefhhmddjodaa

namespace Go.Proofs.Ytdcefhhmddjodaa
open Go.RowKit
set_option linter.unnecessarySimpa false
set_option linter.unusedVariables false
set_option linter.unusedSimpArgs false
set_option maxRecDepth 100000

theorem add_step (n b k : Nat) (hn : n < 2 ^ (7 * k)) (hk : k ≤ 9) (h9 : k = 9 → b % 128 ≤ 1) (u : Int) (hu : u = ((128 ^ k : Nat) : Int)) :
    IntKind.u64.wrap ((n : Int) + IntKind.u64.wrap (((b % 128 : Nat) : Int) * u)) = ((n + b % 128 * 128 ^ k : Nat) : Int) := by
  have hP : (128 : Nat) ^ k = 2 ^ (7 * k) := by rw [show (128 : Nat) = 2 ^ 7 from rfl, ← Nat.pow_mul]
  have hlt : b % 128 * 2 ^ (7 * k) + 2 ^ (7 * k) ≤ 18446744073709551616 := by
    by_cases e : k = 9
    · subst e
      have this := h9 rfl
      have h3 := Nat.mul_le_mul_right (2 ^ (7 * 9)) this
      exact Nat.le_trans (Nat.add_le_add_right h3 _) (by decide)
    · have h1 : b % 128 + 1 ≤ 128 := by omega
      have h2 : (2 : Nat) ^ (7 * k) ≤ 2 ^ 56 := Nat.pow_le_pow_right (by decide) (by omega)
      have h3 := Nat.mul_le_mul h1 h2
      rw [Nat.add_mul, Nat.one_mul] at h3
      omega
  rw [hu, hP, show ((b % 128 : Nat) : Int) * ((2 ^ (7 * k) : Nat) : Int) = ((b % 128 * 2 ^ (7 * k) : Nat) : Int) by simp]
  rw [show IntKind.u64.wrap ((b % 128 * 2 ^ (7 * k) : Nat) : Int) = ((b % 128 * 2 ^ (7 * k) : Nat) : Int) by rw [IntKind.wrap_u64]; omega]
  rw [IntKind.wrap_u64]
  omega

theorem unit_step (k : Nat) (hk : k ≤ 8) (u : Int) (hu : u = ((128 ^ k : Nat) : Int)) : IntKind.u64.wrap (u * 128) = ((128 ^ (k + 1) : Nat) : Int) := by
  have h2 : (128 : Nat) ^ (k + 1) ≤ 128 ^ 9 := Nat.pow_le_pow_right (by decide) (by omega)
  have h3 : (128 : Nat) ^ 9 = 9223372036854775808 := by decide
  rw [hu, show ((128 ^ k : Nat) : Int) * 128 = ((128 ^ (k + 1) : Nat) : Int) by rw [Nat.pow_succ]; simp, IntKind.wrap_u64]
  generalize 128 ^ (k + 1) = z at *
  omega

end Go.Proofs.Ytdcefhhmddjodaa

namespace Go.Proofs.Ytdcefhhmddjodaa
open Go.RowKit
set_option linter.unnecessarySimpa false
set_option linter.unusedVariables false
set_option linter.unusedSimpArgs false
set_option maxRecDepth 100000

theorem unp_none {s : List UInt8} (h : tk s = none) : unp s = ([], 2) := by unfold unp; rw [h]
theorem unp_long {s : List UInt8} {n k : Nat} (h : tk s = some (n, k)) (hn : 60000 < n) : unp s = ([], 3) := by unfold unp; rw [h]; simp only; rw [if_pos hn]
theorem unp_short {s : List UInt8} {n k : Nat} (h : tk s = some (n, k)) (hn : ¬ 60000 < n) (hk : k = s.length) : unp s = ([], 2) := by
  unfold unp; rw [h]; simp only; rw [if_neg hn, List.drop_eq_nil_of_le (by omega)]
theorem unp_how {s : List UInt8} {n k : Nat} {how : UInt8} {rest : List UInt8} (h : tk s = some (n, k)) (hn : ¬ 60000 < n) (hd : s.drop k = how :: rest) :
    unp s = if how = 0 ∧ rest.length = n then (rest, (0 : Int)) else if ¬ how = 1 then ([], 2) else match uRun (rest.length + 1) n 0 [] rest with
      | none => ([], 2)
      | some o => (o, 0) := by
  unfold unp; rw [h]; simp only; rw [if_neg hn, hd] <;> rfl

theorem ret_unp {a b : ByteArray} {c d : Int} (h : a = b) (h' : c = d) : Ending.returned (.tuple #[.string a, .int .i64 c]) = .returned (.tuple #[.string b, .int .i64 d]) := by rw [h, h']
theorem beq_u8 (b : UInt8) (n : Nat) (hn : n < 256) : ((b.toNat : Int) == (n : Int)) = decide (b = UInt8.ofNat n) := by
  by_cases h : b = UInt8.ofNat n
  · rw [decide_eq_true h, beq_iff_eq, h, UInt8.toNat_ofNat']; omega
  · rw [decide_eq_false h, beq_eq_false_iff_ne]; intro e; apply h; apply UInt8.toNat_inj.1; rw [UInt8.toNat_ofNat']; omega

end Go.Proofs.Ytdcefhhmddjodaa

namespace Go.Proofs.Ytdcefhhmddjodaa
open Go.RowKit
set_option linter.unusedVariables false
set_option linter.unnecessarySimpa false
set_option linter.unusedSimpArgs false
set_option maxRecDepth 100000

/-- A packed inside's bytes, behind them their sum. -/
def sumS (p : ByteArray) : List UInt8 := fx (sumB p.data.toList) 4 true
def blkS (p : ByteArray) : ByteArray := ⟨(p.data.toList ++ sumS p).toArray⟩
def insideS (es : List En) : ByteArray := ⟨(insideB es).toArray⟩
/-- Entries whose times are numbers and whose values are few. -/
def OkE (es : List En) : Prop := ∀ e ∈ es, allN e.ch ≤ 60000 ∧ ∀ v ∈ e.ch, v.time < 18446744073709551616
/-- Where a key is, or would be. -/
def fAt (es : List En) (key : ByteArray) : Nat := (es.takeWhile fun e => ltS e.key key).length
def fOk (es : List En) (key : ByteArray) : Bool := decide (fAt es key < es.length) && eqS (es.getD (fAt es key) en0).key key

structure BlkC : Prop where
  insNone : ∀ w : World, Calls Try.prog 45 #[.slice none 0 0] w fun e w' => e = .returned (.tuple #[.string ⟨#[0]⟩, .int .i64 0]) ∧ Below w.heap.size w w'
  encYes : ∀ (a : Option Addr) (len cap : Nat) (es : List En) (w : World), IsEnts w a len cap es → len ≤ 20 → rightE es = true → SmallE es → (insideB es).length ≤ 60000 →
    Calls Try.prog 30 #[.agg tab, .slice a len cap] w fun e w' => ∃ p : ByteArray, p.size ≤ 90000 ∧ unp p.data.toList = (insideB es, 0) ∧ e = .returned (.tuple #[.string (blkS p), .int .i64 0]) ∧ Below w.heap.size w w'
  encNo : ∀ (a : Option Addr) (len cap : Nat) (es : List En) (w : World), IsEnts w a len cap es → len ≤ 20 → rightE es = false → SmallE es →
    Calls Try.prog 30 #[.agg tab, .slice a len cap] w fun e w' => e = .returned (.tuple #[.string ⟨#[]⟩, .int .i64 1]) ∧ Below w.heap.size w w'
  decYes : ∀ (p : ByteArray) (es : List En) (w : World), p.size ≤ 90000 → unp p.data.toList = (insideB es, 0) → rightE es = true → OkE es →
    Calls Try.prog 24 #[.agg tab, .string (blkS p)] w fun e w' => ∃ a c, e = .returned (.tuple #[.slice a es.length c, .int .i64 0]) ∧ IsEnts w' a es.length c es ∧ Below w.heap.size w w'
  decNo : ∀ (p : ByteArray) (l : List UInt8) (w : World), p.size ≤ 90000 → unp p.data.toList = (l, 0) → (¬ ∃ es, rightE es = true ∧ OkE es ∧ insideB es = l) →
    Calls Try.prog 24 #[.agg tab, .string (blkS p)] w fun e w' => ∃ a c k, (k = 2 ∨ k = 3) ∧ e = .returned (.tuple #[.slice a 0 c, .int .i64 k]) ∧ Below w.heap.size w w'
  decSum : ∀ (p : ByteArray) (s : List UInt8) (w : World), p.size ≤ 90000 → s.length = 4 → s ≠ sumS p →
    Calls Try.prog 24 #[.agg tab, .string ⟨(p.data.toList ++ s).toArray⟩] w fun e w' => ∃ a c, e = .returned (.tuple #[.slice a 0 c, .int .i64 2]) ∧ Below w.heap.size w w'
  decShort : ∀ (b : ByteArray) (w : World), b.size < 4 →
    Calls Try.prog 24 #[.agg tab, .string b] w fun e w' => ∃ a c, e = .returned (.tuple #[.slice a 0 c, .int .i64 2]) ∧ Below w.heap.size w w'
  find : ∀ (a : Option Addr) (len cap : Nat) (es : List En) (key : ByteArray) (w : World), IsEnts w a len cap es → len ≤ 10 → rightE es = true → SmallE es → key.size ≤ 200 →
    Calls Try.prog 35 #[.slice a len cap, .string key] w fun e w' => e = .returned (.tuple #[.int .i64 (fAt es key), .bool (fOk es key)]) ∧ Below w.heap.size w w'

/-! What few entries have. -/
theorem valB_len (b v : List UInt8) (hb : b.length ≤ 500) (hv : v.length ≤ 500) : (valB b v).length ≤ 540 := by
  unfold valB
  have h1 := tailN_le b v
  have u1 := ub_len10 (n := headN b v) (by omega)
  have u2 := ub_len10 (n := tailN b v) (by omega)
  have hm : (midB b v).length ≤ v.length := by unfold midB; rw [List.length_take, List.length_drop]; omega
  have u3 := ub_len10 (n := (midB b v).length) (by omega)
  simp only [List.length_cons, List.length_append]
  omega
theorem versB_len : ∀ (t : Nat) (b : List UInt8) (l : List Vr), b.length ≤ 500 → (∀ v ∈ l, v.val.size ≤ 500 ∧ v.time < 18446744073709551616) → (versB t b l).length ≤ 551 * l.length
  | _, _, [], _, _ => by simp [versB]
  | t, b, v :: l, hb, h => by
    have hv := h v (by simp)
    have u := ub_len10 (n := v.time - t) (by omega)
    have hl : v.val.data.toList.length ≤ 500 := by rw [c_size]; exact hv.1
    unfold versB
    rw [List.length_append, List.length_cons]
    split
    · have ih := versB_len v.time b l hb (fun x hx => h x (by simp [hx]))
      rw [List.length_cons]
      omega
    · have ih := versB_len v.time v.val.data.toList l hl (fun x hx => h x (by simp [hx]))
      have := valB_len b v.val.data.toList hb hl
      rw [List.length_append]
      omega
theorem fewV_mem {zs : List Vr} (h : FewVers zs 10) : ∀ v ∈ zs, v.val.size ≤ 500 := fun v hv => by
  obtain ⟨i, hi, rfl⟩ := List.mem_iff_getElem.1 hv
  have := h.1 i hi (by have := h.2; omega)
  rwa [List.getD, List.getElem?_eq_getElem hi] at this
theorem ents_times {w : World} {a : Option Addr} {len cap : Nat} {es : List En} (h : IsEnts w a len cap es) : ∀ e ∈ es, ∀ v ∈ e.ch, v.time < 18446744073709551616 := fun e he v hv => by
  obtain ⟨i, hi, rfl⟩ := List.mem_iff_getElem.1 he
  obtain ⟨b, off, _, _, _, _, ca, cl, cc, _, hz⟩ := h.1.2 i (by rw [← h.1.1]; exact hi)
  rw [List.getD, List.getElem?_eq_getElem hi, Option.getD_some] at hz
  obtain ⟨j, hj, rfl⟩ := List.mem_iff_getElem.1 hv
  obtain ⟨_, _, _, _, h1, _⟩ := hz.1.2 j (by rw [← hz.1.1]; exact hj)
  rwa [List.getD, List.getElem?_eq_getElem hj] at h1
/-- What few entries have, all told. -/
structure FewOut (es : List En) : Prop where
  len : es.length ≤ 10
  small : SmallE es
  ok : OkE es
  ins : (insideB es).length ≤ 60000
theorem fewOut {w : World} {a : Option Addr} {len cap : Nat} {es : List En} (h : IsEnts w a len cap es) (hf : FewEnts es 10) : FewOut es := by
  have hl := hf.2
  have ht := ents_times h
  have hm : ∀ e ∈ es, fewOne e := fun e he => by
    obtain ⟨i, hi, rfl⟩ := List.mem_iff_getElem.1 he
    have := hf.1 i hi (by omega)
    rwa [List.getD, List.getElem?_eq_getElem hi] at this
  have hc : ∀ e ∈ es, (chainB e.ch).length ≤ 5520 := fun e he => by
    have h1 := hm e he
    have h2 := versB_len 0 [] e.ch (by simp) (fun v hv => ⟨fewV_mem h1.2 v hv, ht e he v hv⟩)
    have h3 := h1.2.2
    have u := ub_len10 (n := e.ch.length) (by omega)
    unfold chainB
    rw [List.length_append]
    omega
  have hall : ∀ l : List Vr, (∀ v ∈ l, v.val.size ≤ 500) → allN l ≤ 500 * l.length := by
    intro l
    induction l with
    | nil => intro _; simp [allN]
    | cons v l ih =>
      intro hl
      have a1 := hl v (by simp)
      have a2 := ih (fun x hx => hl x (by simp [hx]))
      unfold allN at a2 ⊢
      rw [List.map_cons, List.sum_cons, List.length_cons]
      omega
  refine ⟨hl, fun e he => ⟨by have := (hm e he).1; omega, by have := hc e he; omega, fun v hv => by have := fewV_mem (hm e he).2 v hv; omega⟩,
    fun e he => ⟨by have := hall e.ch (fewV_mem (hm e he).2); have := (hm e he).2.2; omega, ht e he⟩, ?_⟩
  have key : ∀ (p : List UInt8) (l : List En), (∀ e ∈ l, e.key.size ≤ 100 ∧ (chainB e.ch).length ≤ 5520) → (entsB p l).length ≤ 5750 * l.length := by
    intro p l
    induction l generalizing p with
    | nil => intro _; simp [entsB]
    | cons e l ih =>
      intro hle
      have h1 := hle e (by simp)
      have h2 := ih e.key.data.toList (fun x hx => hle x (by simp [hx]))
      have hp := pre_le p e.key.data.toList
      have hk := c_size e.key
      have u1 := ub_len10 (n := pre p e.key.data.toList) (by omega)
      have u2 := txtB_len (e.key.data.toList.drop (pre p e.key.data.toList)) (by rw [List.length_drop]; omega)
      have u3 := txtB_len (chainB e.ch) (by omega)
      rw [List.length_drop] at u2
      rw [entsB, List.length_append, List.length_cons]
      unfold entB
      rw [List.length_append, List.length_append]
      omega
  have h2 := key [] es (fun e he => ⟨(hm e he).1, hc e he⟩)
  have u := ub_len10 (n := es.length) (by omega)
  unfold insideB
  rw [List.length_append]
  omega
end Go.Proofs.Ytdcefhhmddjodaa

namespace Go.Proofs.Ytdcefhhmddjodaa
open Go.RowKit
set_option linter.unusedVariables false
set_option linter.unnecessarySimpa false
set_option linter.unusedSimpArgs false
set_option maxRecDepth 100000

theorem fAt_le : ∀ (es : List En) (key : ByteArray), fAt es key ≤ es.length
  | [], key => by simp [fAt]
  | e :: es, key => by
    have := fAt_le es key
    unfold fAt at *
    rw [List.takeWhile_cons]
    split <;> simp
    omega
theorem fAt_lt : ∀ (es : List En) (key : ByteArray) (j : Nat), j < fAt es key → ltS (es.getD j en0).key key = true
  | [], key, j, h => by simp [fAt] at h
  | e :: es, key, j, h => by
    unfold fAt at h
    rw [List.takeWhile_cons] at h
    split at h
    · rename_i he
      cases j with
      | zero => exact he
      | succ j =>
        have := fAt_lt es key j (by unfold fAt; simpa using h)
        simpa [List.getD] using this
    · simp at h
theorem fAt_end : ∀ (es : List En) (key : ByteArray), fAt es key < es.length → ltS (es.getD (fAt es key) en0).key key = false
  | [], key, h => by simp at h
  | e :: es, key, h => by
    by_cases he : ltS e.key key = true
    · have e1 : fAt (e :: es) key = fAt es key + 1 := by unfold fAt; rw [List.takeWhile_cons, if_pos he]; rfl
      rw [e1] at h ⊢
      have := fAt_end es key (by simpa using h)
      simpa [List.getD] using this
    · have e1 : fAt (e :: es) key = 0 := by unfold fAt; rw [List.takeWhile_cons, if_neg he]; rfl
      rw [e1]
      simpa [List.getD] using he

end Go.Proofs.Ytdcefhhmddjodaa

namespace Go.Proofs.Ytdcefhhmddjodaa
open Go.RowKit
set_option linter.unusedVariables false
set_option linter.unnecessarySimpa false
set_option linter.unusedSimpArgs false
set_option maxRecDepth 100000

theorem ext_ba (l1 l2 : List UInt8) : (⟨(l1 ++ l2).toArray⟩ : ByteArray).extract 0 l1.length = ⟨l1.toArray⟩ ∧ (⟨(l1 ++ l2).toArray⟩ : ByteArray).extract l1.length (l1.length + l2.length) = ⟨l2.toArray⟩ := by
  refine ⟨c_ba_ext ?_, c_ba_ext ?_⟩
  · rw [ext_list]; simp
  · rw [ext_list]; simp
theorem ba_list (p : ByteArray) : (⟨p.data.toList.toArray⟩ : ByteArray) = p := by simp
theorem blkS_parts (p : ByteArray) : (blkS p).size = p.size + 4 ∧ (blkS p).extract 0 p.size = p ∧ (blkS p).extract p.size (p.size + 4) = ⟨(sumS p).toArray⟩ := by
  have h4 : (sumS p).length = 4 := by unfold sumS; rw [fx, cellsF_length]
  have hp := c_size p
  have h := ext_ba p.data.toList (sumS p)
  rw [h4, hp, ba_list] at h
  refine ⟨?_, h.1, h.2⟩
  show (p.data.toList ++ sumS p).toArray.size = _
  rw [List.size_toArray, List.length_append, h4, hp]
theorem tabRow_one : tab.all (·.oneCell') = true := tab_one

end Go.Proofs.Ytdcefhhmddjodaa

namespace Go.Proofs.Ytdcefhhmddjodaa
open Go.RowKit
set_option linter.unusedVariables false
set_option linter.unnecessarySimpa false
set_option linter.unusedSimpArgs false
set_option maxRecDepth 100000

/-- A stored inside. -/
theorem unp_storedE (l : List UInt8) (h : l.length ≤ 60000) : unp (ub l.length ++ 0 :: l) = (l, 0) := by
  have hk := tk_ub l.length (by omega) (0 :: l)
  have hd : (ub l.length ++ 0 :: l).drop (ub l.length).length = 0 :: l := List.drop_left
  rw [unp_how hk (by omega) hd]
  simp
theorem fx_next (n : Nat) : fx (n + 1) 4 true ≠ fx n 4 true := by
  intro h
  have h1 : (fx (n + 1) 4 true)[3]? = (fx n 4 true)[3]? := by rw [h]
  simp only [fx, cellsF, fxAt, pl, List.getElem?_map, List.getElem?_range (show 3 < 4 by omega), Option.map_some, if_true] at h1
  have h2 : UInt8.ofNat ((n + 1) / 256 ^ 0) = UInt8.ofNat (n / 256 ^ 0) := by simpa using h1
  have h3 := congrArg UInt8.toNat h2
  rw [UInt8.toNat_ofNat', UInt8.toNat_ofNat'] at h3
  omega
/-- Entries whose inside is short are small. -/
theorem entsB_small : ∀ (p : List UInt8) (l : List En), l.length ≤ (entsB p l).length ∧ ∀ e ∈ l, e.key.size ≤ p.length + (entsB p l).length ∧ (chainB e.ch).length ≤ (entsB p l).length
  | _, [] => by simp [entsB]
  | p, e :: l => by
    obtain ⟨h1, h2⟩ := entsB_small e.key.data.toList l
    have hp := pre_le p e.key.data.toList
    have hk := c_size e.key
    have hb : (entB p e).length ≥ 1 + (e.key.size - pre p e.key.data.toList) + (chainB e.ch).length := by
      unfold entB txtB
      have u : ∀ n, 1 ≤ (ub n).length := fun n => by unfold ub; split <;> simp
      have := u (pre p e.key.data.toList)
      simp only [List.length_append, List.length_drop]
      omega
    rw [entsB, List.length_append, List.length_cons]
    refine ⟨by omega, fun x hx => ?_⟩
    rcases List.mem_cons.1 hx with rfl | hx
    · exact ⟨by omega, by omega⟩
    · have := h2 x hx
      rw [hk] at this
      exact ⟨by omega, by omega⟩
theorem inside_small {es : List En} {n : Nat} (h : (insideB es).length ≤ n) (hn : n ≤ 60000) (ho : OkE es) : es.length ≤ n ∧ SmallE es := by
  unfold insideB at h
  rw [List.length_append] at h
  obtain ⟨h1, h2⟩ := entsB_small [] es
  refine ⟨by omega, fun e he => ?_⟩
  obtain ⟨h3, h4⟩ := h2 e he
  refine ⟨by simp at h3; omega, by omega, fun v hv => ?_⟩
  have h5 := (ho e he).1
  have : ∀ (l : List Vr) (v : Vr), v ∈ l → v.val.size ≤ allN l := by
    intro l
    induction l with
    | nil => intro v hv; cases hv
    | cons x l ih =>
      intro v hv
      unfold allN
      rw [List.map_cons, List.sum_cons]
      rcases List.mem_cons.1 hv with rfl | hv
      · omega
      · have := ih v hv
        unfold allN at this
        omega
  have := this e.ch v hv
  omega
theorem bend_byte (x : UInt8) (y : Nat) (hy : y < 256) : ∃ u : UInt8, bits BinOp.xor IntKind.u8 (x.toNat : Int) (y : Int) = (u.toNat : Int) ∧ (y = 0 → u = x) := by
  have hx := UInt8.toNat_lt x
  have hl : x.toNat ^^^ y < 256 := Nat.xor_lt_two_pow (n := 8) hx hy
  refine ⟨UInt8.ofNat (x.toNat ^^^ y), ?_, fun h => ?_⟩
  · rw [u8_xor_nat _ _ hx hy, UInt8.toNat_ofNat', Nat.mod_eq_of_lt hl]
  · subst h
    rw [Nat.xor_zero]
    exact UInt8.toNat_inj.1 (by rw [UInt8.toNat_ofNat']; omega)
end Go.Proofs.Ytdcefhhmddjodaa
