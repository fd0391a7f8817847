/-
  Joined: CrcSum, RefFixedB, LzMath.
-/
import Derived.Test.YtplobffkelmokaaSet06
import Derived.Test.YtplobffkelmokaaSet04
import Derived.Lib.IndexBytes
import Derived.Lib.Strings
import Derived.Test.YtplobffkelmokaaSet03
import Derived.Test.YtplobffkelmokaaSet01
namespace Go.Proofs.Ytplobffkelmokaa
open Go.RowKit
set_option linter.unnecessarySimpa false
set_option linter.unusedVariables false
set_option linter.unusedSimpArgs false
set_option maxRecDepth 100000

/-- The model's way to a place of the table. -/
theorem place8 {s : Nat} (b : UInt8) : bits BinOp.xor IntKind.u8 ((s : Int) % 256) (b.toNat : Int) = ((((s % 256) ^^^ b.toNat) : Nat) : Int) := by
  have e : ((s : Int) % 256) = ((s % 256 : Nat) : Int) := by omega
  rw [e, u8_xor_nat _ _ (by omega) (UInt8.toNat_lt b)]
theorem place_lt (s : Nat) (b : UInt8) : (s % 256) ^^^ b.toNat < 256 := Nat.xor_lt_two_pow (n := 8) (by omega) (UInt8.toNat_lt b)
theorem moreB_take_succ (s : Nat) (l : List UInt8) (i : Nat) {x : UInt8} (h : l[i]? = some x) : moreB s (l.take (i + 1)) = stepB (moreB s (l.take i)) x := by
  rw [List.take_add_one, h, moreB_append]; rfl

set_option maxRecDepth 100000 in
set_option maxHeartbeats 400000 in
theorem more_any (s : Nat) (hs : s < 4294967296) (b : ByteArray) (hb : b.size < 4000000000) (w : World) :
    Calls Try.prog 66 #[.agg tab, .int .u32 s, .string b] w fun e w' => e = .returned (.int .u32 (moreB s b.data.toList)) ∧ Below w.heap.size w w' := by
  have HS := Lib.hid hs
  clear hs
  go_enter Try.func66, Try.ntmps66
  go_wp2_with fail
  go_loopg [1, 7, 10] b.size (fun g s1 s7 s10 wx => ∃ i : Nat, i + g = b.size ∧ s1 = .int .u32 (moreB s (b.data.toList.take i)) ∧ s10 = .int .i64 i ∧ wx = w.alloc (.cells tab 27))
  case atStart => exact ⟨0, by omega, rfl, rfl, rfl⟩
  case round =>
    obtain ⟨i, hig, rfl, rfl, rfl⟩ := hrel
    cases gk with
    | zero =>
      obtain rfl : i = b.size := by omega
      have hall := Lib.hid (show b.data.toList.take b.size = b.data.toList from List.take_of_length_le (by rw [← Lib.size_eq]; exact Nat.le_refl _))
      go_wp2_with fail
      go_ret
      exact ⟨crc_ret_int (by rw [hall.out]), (Below.refl _ _).alloc (Nat.le_refl _) _⟩
    | succ g =>
      have hi : i < b.size := by omega
      have hiz : (i : Int) < (b.size : Int) := by omega
      have hib : (i : Int) < 4000000000 := by omega
      obtain ⟨x, hx⟩ : ∃ x : UInt8, b[i]'hi = x := ⟨_, rfl⟩
      have hxl := Lib.hid (show b.data.toList[i]? = some x by rw [← hx]; exact Lib.data_getElem? b i hi)
      obtain ⟨m, hm⟩ : ∃ m, m = moreB s (b.data.toList.take i) := ⟨_, rfl⟩
      have hml : m < 4294967296 := by rw [hm]; exact moreB_lt _ HS.out
      have HM := Lib.hid hm
      rw [← hm]
      clear hm
      obtain ⟨p, hp⟩ : ∃ p, p = (m % 256) ^^^ x.toNat := ⟨_, rfl⟩
      have hp8 : bits BinOp.xor IntKind.u8 ((m : Int) % 256) (x.toNat : Int) = (p : Int) := by rw [place8, hp]
      have hpl : p < 256 := by rw [hp]; exact place_lt m x
      have htab := tab_at hpl
      have hpz : (p : Int) < 256 := by omega
      have hx32 := Lib.hid (show bits BinOp.xor IntKind.u32 ((m : Int) / 256) ((halves 8 p : Nat) : Int) = ((moreB s (b.data.toList.take (i + 1)) : Nat) : Int) by
        rw [show (m : Int) / 256 = ((m / 256 : Nat) : Int) by omega, u32_xor_nat _ _ (by omega) (halves_lt 8 (by omega)), moreB_take_succ _ _ _ hxl.out, ← HM.out, stepB_table, hp])
      have HP := Lib.hid hp
      clear hp hml
      go_wp2_with fail
      go_roundg g
      case measure => omega
      case rel => exact ⟨i + 1, by omega, congrArg (Value.int .u32) hx32.out, by simp, rfl⟩

set_option maxRecDepth 100000 in
set_option maxHeartbeats 400000 in
theorem sum_any (b : ByteArray) (hb : b.size < 4000000000) (w : World) :
    Calls Try.prog 48 #[.agg tab, .string b] w fun e w' => e = .returned (.int .u32 (sumB b.data.toList)) ∧ Below w.heap.size w w' := by
  have hm := Lib.hid (more_any 4294967295 (by decide) b hb)
  have hml := Lib.hid (moreB_lt b.data.toList (s := 4294967295) (by decide))
  have hrow := Lib.hid (heap_alloc_last w (.cells tab 27))
  have his := Lib.hid (show (Try.prog.info? 27).map (·.size) = some tab.size by rw [tab_size]; exact (zero_of_info (P := Try.prog) tableInfo).2)
  clear hb
  go_enter Try.func48, Try.ntmps48
  go_wp2_with fail
  refine region_likes (by kernel_rfl) (by kernel_rfl) ?_
  repeat (first
    | (go_big_quiet_want; refine quiet_row 27 _ rfl w.heap.size rfl 27 tab (0, 0) _ (likes_row hrow.out) Try.underlying27 rfl his.out ?_; go_simp; go_big_quiet_on)
    | (go_big_quiet_step (first
        | (go_at_call 67; exact calls_likes_same (begin_any _))
        | (go_at_call 66; exact calls_likes (Like.size _) (hm.out _))
        | (go_at_call 65; exact calls_likes_same (end_any _ hml.out _)))))
  refine wpQuiet_nil ?_
  intro x
  have hx := Lib.hid (show Below w.heap.size w x.val from ((Below.refl _ _).alloc (Nat.le_refl _) _).trans (x.below.mono (by simp)))
  go_wp2_with fail
  go_ret
  exact ⟨rfl, hx.out⟩

set_option maxHeartbeats 400000 in
/-- The document's. -/
theorem refsum_any (b : ByteArray) (hb : b.size < 4000000000) (w : World) :
    Calls Try.prog 17 #[.string b] w fun e w' => e = .returned (.int .u32 (sumB b.data.toList)) ∧ w' = w := by
  go_enter Try.func17, Try.ntmps17
  go_wp2_with fail
  go_loopg [3, 4] b.size (fun g s3 s4 wx => ∃ i : Nat, i + g = b.size ∧ s3 = .int .u64 (moreB 4294967295 (b.data.toList.take i)) ∧ s4 = .int .i64 i ∧ wx = w)
  case atStart => exact ⟨0, by omega, rfl, rfl, rfl⟩
  case round =>
    obtain ⟨i, hig, rfl, rfl, rfl⟩ := hrel
    cases gk with
    | zero =>
      obtain rfl : i = b.size := by omega
      have hall := Lib.hid (show b.data.toList.take b.size = b.data.toList from List.take_of_length_le (by rw [← Lib.size_eq]; exact Nat.le_refl _))
      obtain ⟨m, hm⟩ : ∃ m, m = moreB 4294967295 (b.data.toList.take b.size) := ⟨_, rfl⟩
      have hml : m < 4294967296 := by rw [hm]; exact moreB_lt _ (by decide)
      have HM := Lib.hid hm
      rw [← hm]
      clear hm
      go_wp2_with fail
      go_ret
      exact ⟨crc_ret_int (by rw [sumB, ← hall.out, ← HM.out]; omega), rfl⟩
    | succ g =>
      have hi : i < b.size := by omega
      have hiz : (i : Int) < (b.size : Int) := by omega
      have hib : (i : Int) < 4000000000 := by omega
      obtain ⟨x, hx⟩ : ∃ x : UInt8, b[i]'hi = x := ⟨_, rfl⟩
      have hxl := Lib.hid (show b.data.toList[i]? = some x by rw [← hx]; exact Lib.data_getElem? b i hi)
      obtain ⟨m, hm⟩ : ∃ m, m = moreB 4294967295 (b.data.toList.take i) := ⟨_, rfl⟩
      have hml : m < 4294967296 := by rw [hm]; exact moreB_lt _ (by decide)
      have HM := Lib.hid hm
      rw [← hm]
      clear hm
      have hx8 := UInt8.toNat_lt x
      obtain ⟨p, hp⟩ : ∃ p, p = m ^^^ x.toNat := ⟨_, rfl⟩
      have hp8 : bits BinOp.xor IntKind.u64 (m : Int) (x.toNat : Int) = (p : Int) := by rw [u64_xor_nat _ _ (by omega) (by omega), hp]
      have hwx : IntKind.u64.wrap (x.toNat : Int) = (x.toNat : Int) := by simp [IntKind.wrap, IntKind.bits, IntKind.signed]; omega
      have hst := Lib.hid (steps_any p (by rw [hp]; exact Nat.xor_lt_two_pow (n := 32) hml (by omega)))
      have hnx := Lib.hid (show Value.int .u64 ((halves 8 p : Nat) : Int) = Value.int .u64 ((moreB 4294967295 (b.data.toList.take (i + 1)) : Nat) : Int) by
        rw [moreB_take_succ _ _ _ hxl.out, ← HM.out, hp]; rfl)
      clear hp hml hx8
      go_wp2_with (go_at_call 36; refine (hst.out _).mono ?_; rintro e w' ⟨rfl, rfl⟩)
      go_roundg g
      case measure => omega
      case rel => exact ⟨i + 1, by omega, hnx.out, by simp, rfl⟩
/-- A table's info, as the store asks it. -/
theorem tableSize : (Try.prog.info? 27).map (·.size) = some tab.size := by rw [tab_size]; exact (zero_of_info (P := Try.prog) tableInfo).2
theorem zeroTable_size : (Array.replicate 256 (Value.int .u32 0)).size = tab.size := by rw [tab_size, Array.size_replicate]
end Go.Proofs.Ytplobffkelmokaa

namespace Go.Proofs.Ytplobffkelmokaa
open Go.RowKit
set_option linter.unnecessarySimpa false
set_option linter.unusedVariables false
set_option linter.unusedSimpArgs false
set_option maxRecDepth 100000

set_option maxRecDepth 100000 in
set_option maxHeartbeats 800000 in
theorem refFixed_any (n size : Nat) (big : Bool) (w : World) (hn : n < 18446744073709551616) (h1 : 1 ≤ size) (h2 : size ≤ 8) :
    Calls Try.prog 16 #[.int .u64 n, .int .i64 size, .bool big] w fun e w' => e = .returned (.string ⟨(fx n size big).toArray⟩) ∧ Below w.heap.size w w' := by
  obtain ⟨i0, hi, hz0, hz1, hz2⟩ := info_parts u8info
  have HN := Lib.hid hn
  clear hn
  go_enter Try.func16, Try.ntmps16
  go_wp2_with (at_make; refine wpList_make_full _ rfl _ _ 43 rfl w.heap.size 5 i0 (.int .u8 0) 1 Try.underlying43 hi hz0 hz1 _ _ _ _ size rfl rfl rfl rfl ?c1 ?c2 ?c3 ?c4)
  case c1 => rw [hz2]; omega
  case c2 => simp [maxLen]; omega
  case c3 => exact Nat.le_refl _
  case c4 =>
    intro w1 hown1 hg1
    rw [zeros_cellsF] at hown1
    have hb1 : Below w.heap.size w w1 := (Below.refl _ _).grown hg1 (Nat.le_refl _) (by simp)
    clear hg1
    go_wp2_with fail
    go_loopw [0, 8] (fun s t wr => ∃ (k m : Nat), k ≤ size ∧ s = .int .u64 m ∧ Hid (m = n / 256 ^ k) ∧ t = .int .i64 k ∧ wr.ownsRow w.heap.size 5 1 (.slice (some ⟨w.heap.size, 0, none⟩) size size) size (Lib.byteCells (cellsF size fun j => if pl size big j < k then fxAt n size big j else 0)) ∧ Below w.heap.size w wr) (fun _ t _ => size - (intOf t).toNat)
    case atStart => exact ⟨0, n, Nat.zero_le _, rfl, Lib.hid (by simp), rfl, by simpa using hown1, hb1⟩
    case round =>
      obtain ⟨k, m, hk, rfl, hm, rfl, hown, hb⟩ := hrel
      by_cases hlt : k < size
      · have hpl := pl_lt big hlt
        have hfz := hown.frozenAt (pl size big k)
        have hcl := hown.cellAt (pl size big k) (by omega)
        have hgl : (Lib.byteCells (cellsF size fun j => if pl size big j < k then fxAt n size big j else 0))[pl size big k]? = some (.int .u8 0) := by simp [Lib.byteCells, cellsF, hpl, pl_pl big hlt]
        rw [hgl] at hcl
        clear hgl
        have hm64 : (m : Int) ≤ 18446744073709551615 := by
          have h5 := hm.out
          have h6 := Nat.div_le_self n (256 ^ k)
          have h7 := HN.out
          omega
        have hst := Lib.hid (hown.stored (pl size big k) (.int .u8 ((m : Int) % 256))).1
        have hfx := Lib.hid (fxAt_pl (n := n) big hlt)
        have hnx := Lib.hid (show m / 256 = n / 256 ^ (k + 1) by rw [hm.out, Nat.pow_succ, Nat.div_div_eq_div_mul])
        have hrow := Lib.hid (cellsF_next (size := size) (P := fun j => pl size big j < k) (P' := fun j => pl size big j < k + 1) (p := pl size big k) (g := fxAt n size big) (fun j hj => by unfold pl at *; split <;> omega))
        cases big
        all_goals
          simp only [pl, Bool.false_eq_true, if_false, if_true] at hfz hcl hpl
          go_wp2_with fail
          refine ⟨⟨k + 1, m / 256, by omega, by go_num, hnx, by go_num, ?_, hb.setCell (Nat.le_refl _) _⟩, by simp [intOf]; omega⟩
          rw [← hrow.out, ← hfx.out, ← hm.out]
          exact hst.out
      · have hcv := convert_own (P := Try.prog) (src := 43) (dst := 9) hown (by simp) Try.underlying43 Try.underlying5 Try.underlying9
        have hfin : (cellsF size fun j => if pl size big j < k then fxAt n size big j else 0) = fx n size big := cellsF_congr fun j hj => by rw [if_pos (by have := pl_lt big hj; omega)]
        rw [hfin] at hcv
        clear hfin
        go_wp2_with fail
        go_ret
        exact ⟨rfl, hb⟩
end Go.Proofs.Ytplobffkelmokaa

namespace Go.Proofs.Ytplobffkelmokaa
open Go.RowKit
set_option linter.unnecessarySimpa false
set_option linter.unusedVariables false
set_option linter.unusedSimpArgs false
set_option maxRecDepth 100000

/-- i bytes more, each the one that stands d ahead of it. -/
def copyTo : Nat → Nat → List UInt8 → List UInt8
  | 0, _, o => o
  | i + 1, d, o => copyTo i d o ++ [(copyTo i d o).getD ((copyTo i d o).length - d) 0]
theorem copyTo_len (i d : Nat) (o : List UInt8) : (copyTo i d o).length = o.length + i := by
  induction i with
  | zero => rfl
  | succ i ih => rw [copyTo, List.length_append, ih]; rfl

/-- One part: of n bytes, 'copy' telling which kind comes next. -/
def uStep (n : Nat) (copy : Bool) (out rest : List UInt8) : Option (List UInt8 × List UInt8) :=
  match tk rest with
  | none => none
  | some (v, m) =>
    if copy then
      match tk (rest.drop m) with
      | none => none
      | some (w, l) => if 1 ≤ v ∧ v ≤ out.length ∧ 4 ≤ w ∧ w ≤ n - out.length then some (copyTo w v out, (rest.drop m).drop l) else none
    else if v ≤ (rest.drop m).length ∧ v ≤ n - out.length then some (out ++ (rest.drop m).take v, (rest.drop m).drop v) else none

def uRun : Nat → Nat → Nat → List UInt8 → List UInt8 → Option (List UInt8)
  | 0, _, _, _, _ => none
  | f + 1, n, t, out, rest =>
    if t = 0 ∨ out.length < n then
      match uStep n (t % 2 == 1) out rest with
      | none => none
      | some (o, r) => uRun f n (t + 1) o r
    else if rest = [] then some out else none

/-- What packed bytes mean, or the error. -/
def unp (s : List UInt8) : List UInt8 × Int :=
  match tk s with
  | none => ([], 2)
  | some (n, k) =>
    if 60000 < n then ([], 3) else
    match s.drop k with
    | [] => ([], 2)
    | how :: rest =>
      if how = 0 ∧ rest.length = n then (rest, 0) else if ¬ how = 1 then ([], 2) else
      match uRun (rest.length + 1) n 0 [] rest with
      | none => ([], 2)
      | some o => (o, 0)

theorem uStep_less {n : Nat} {c : Bool} {out rest o r : List UInt8} (h : uStep n c out rest = some (o, r)) (hn : out.length ≤ n) : r.length < rest.length ∧ o.length ≤ n := by
  unfold uStep at h
  cases h1 : tk rest with
  | none => rw [h1] at h; cases h
  | some p =>
    obtain ⟨v, m⟩ := p
    have h2 := tk_some h1
    rw [h1] at h
    simp only at h
    cases c
    · simp only [Bool.false_eq_true, if_false] at h
      split at h
      · rename_i hc
        injection h with h
        injection h with e1 e2
        subst e1 e2
        simp only [List.length_drop, List.length_append, List.length_take] at *
        omega
      · cases h
    · simp only [if_true] at h
      cases h3 : tk (rest.drop m) with
      | none => rw [h3] at h; cases h
      | some p =>
        obtain ⟨w, l⟩ := p
        have h4 := tk_some h3
        rw [h3] at h
        simp only at h
        split at h
        · rename_i hc
          injection h with h
          injection h with e1 e2
          subst e1 e2
          simp only [List.length_drop, copyTo_len] at *
          omega
        · cases h

theorem uRun_go {f n t : Nat} {out rest : List UInt8} (h : t = 0 ∨ out.length < n) : uRun (f + 1) n t out rest = match uStep n (t % 2 == 1) out rest with
    | none => none
    | some (o, r) => uRun f n (t + 1) o r := by rw [uRun, if_pos h]
theorem uRun_end {f n t : Nat} {out rest : List UInt8} (h : ¬ (t = 0 ∨ out.length < n)) : uRun (f + 1) n t out rest = if rest = [] then some out else none := by rw [uRun, if_neg h]
theorem uRun_none {f n t : Nat} {out rest : List UInt8} (h : t = 0 ∨ out.length < n) (hs : uStep n (t % 2 == 1) out rest = none) : uRun (f + 1) n t out rest = none := by rw [uRun_go h, hs]
theorem uRun_some {f n t : Nat} {out rest o r : List UInt8} (h : t = 0 ∨ out.length < n) (hs : uStep n (t % 2 == 1) out rest = some (o, r)) : uRun (f + 1) n t out rest = uRun f n (t + 1) o r := by rw [uRun_go h, hs]

/-! A step's outcomes, by their conditions. -/
theorem step_bad {n : Nat} {c : Bool} {out rest : List UInt8} (h : tk rest = none) : uStep n c out rest = none := by unfold uStep; rw [h]
theorem step_lit {n v m : Nat} {out rest : List UInt8} (h : tk rest = some (v, m)) : uStep n false out rest = if v ≤ (rest.drop m).length ∧ v ≤ n - out.length then some (out ++ (rest.drop m).take v, (rest.drop m).drop v) else none := by
  unfold uStep; rw [h]; rfl
theorem step_copy_bad {n v m : Nat} {out rest : List UInt8} (h : tk rest = some (v, m)) (h2 : tk (rest.drop m) = none) : uStep n true out rest = none := by
  unfold uStep; rw [h]; simp only [if_true]; rw [h2]
theorem step_copy {n v m w l : Nat} {out rest : List UInt8} (h : tk rest = some (v, m)) (h2 : tk (rest.drop m) = some (w, l)) :
    uStep n true out rest = if 1 ≤ v ∧ v ≤ out.length ∧ 4 ≤ w ∧ w ≤ n - out.length then some (copyTo w v out, (rest.drop m).drop l) else none := by
  unfold uStep; rw [h]; simp only [if_true]; rw [h2]

theorem ext_drop (r : ByteArray) (m : Nat) : (r.extract m r.size).data.toList = r.data.toList.drop m := by
  simp only [ByteArray.data_extract, Array.toList_extract, List.extract_eq_drop_take']
  rw [show r.size = r.data.toList.length from Lib.size_eq r, List.take_length]
theorem ext_take (r : ByteArray) (v : Nat) : (r.extract 0 v).data.toList = r.data.toList.take v := by
  simp only [ByteArray.data_extract, Array.toList_extract, List.extract_eq_drop_take', List.drop_zero]
end Go.Proofs.Ytplobffkelmokaa
