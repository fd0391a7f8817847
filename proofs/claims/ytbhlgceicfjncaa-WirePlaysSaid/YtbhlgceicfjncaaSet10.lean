/-
  Joined: CrcMake, CrcSum, RefFixedB, FrmContracts, CurB, CurBytes, FixedB, CurFixed.
-/
import Derived.Test.YtbhlgceicfjncaaSet09
import Derived.Deep.WholeRow
import Derived.Laws.Rows
import Derived.Laws.Tables
import Derived.Laws.CopyOwn
import Derived.Test.YtbhlgceicfjncaaSet03
import Derived.Lib.IndexBytes
import Derived.Lib.Strings
import Derived.Test.YtbhlgceicfjncaaSet01
import Derived.ProofKit
import Derived.OpenShut
import Derived.Deep.DeepCutAuto
import Derived.Deep.CutBlock
import Derived.WalkSpells
import Derived.WalkLawsBesides
import Derived.Lib.Hide
import Derived.Deep.QuietTactic
import Derived.BigQuiet
namespace Go.Proofs.Ytbhlgceicfjncaa
open Go.RowKit
set_option linter.unnecessarySimpa false
set_option linter.unusedVariables false
set_option linter.unusedSimpArgs false
set_option maxRecDepth 100000

theorem tableInfo : (Try.prog.info? 28).map (fun i => (i.zero, i.size)) = some (some (.agg (Array.replicate 256 (.int .u32 0))), 256) := by kernel_rfl

set_option maxRecDepth 100000 in
set_option maxHeartbeats 2000000 in
theorem make_any (w : World) : Calls Try.prog 7 #[] w fun e w' => e = .returned (.agg tab) ∧ Below w.heap.size w w' := by
  have hz := (zero_of_info (P := Try.prog) tableInfo).1
  have hi := Lib.hid (zero_of_info (P := Try.prog) tableInfo).2
  go_enter Try.func7, Try.ntmps7
  go_wp2_with fail
  rw [← tabTo_zero]
  go_loopg [2, 3] 256 (fun g s2 s3 wx => ∃ i : Nat, i + g = 256 ∧ s3 = .int .i64 i ∧ wx = (w.alloc (.cells (tabTo 0) 28)).alloc (.cells (tabTo i) 28))
  case atStart => exact ⟨0, by omega, rfl, rfl⟩
  case round =>
    obtain ⟨i, hig, rfl, rfl⟩ := hrel
    cases gk with
    | zero =>
      obtain rfl : i = 256 := by omega
      rw [tabTo_all]
      have hg0 := Lib.hid (show ((w.alloc (.cells (tabTo 0) 28)).alloc (.cells tab 28)).heap[w.heap.size]? = some (.cells (tabTo 0) 28 (0, 0)) by rw [Below.heap_alloc _ _ _ (by simp)]; exact heap_alloc_last w _)
      have hg1 := Lib.hid (show ((w.alloc (.cells (tabTo 0) 28)).alloc (.cells tab 28)).heap[w.heap.size + 1]? = some (.cells tab 28 (0, 0)) by have := heap_alloc_last (w.alloc (.cells (tabTo 0) 28)) (.cells tab 28); simpa using this)
      have his := Lib.hid (show (Try.prog.info? 28).map (·.size) = some tab.size by rw [tab_size]; exact hi.out)
      have hss := Lib.hid (show (tabTo 0).size = tab.size by rw [tab_size, tabTo_size])
      go_wp2_with (first
        | (refine wpList_load_row rfl 28 _ rfl (w.heap.size + 1) rfl 28 tab (0, 0) _ hg1.out Try.underlying28 rfl his.out ?_)
        | (refine wpList_store_row rfl 28 _ _ rfl w.heap.size tab rfl rfl 28 (tabTo 0) hg0.out his.out hss.out tab_one ?_))
      refine bodyPost_ret (v := .agg tab) ?_ rfl ⟨rfl, below_setRow (((Below.refl _ _).alloc (Nat.le_refl _) _).alloc (by simp) _) (Nat.le_refl _) _⟩
      exact results_cell_row rfl _ _ w.heap.size 28 tab (0, 0) _ rfl (setRow_heap _ _ _ _ _ _ hg0.out) Try.underlying28 rfl his.out
    | succ g =>
      have hi : (i : Int) < 256 := by omega
      have hw := Lib.hid (tabTo_succ i)
      have hcell := tabTo_cur (k := i) (by omega)
      have hdiv := Lib.hid (divided_any i (by omega))
      go_wp2_with (go_at_call 19; refine (hdiv.out _).mono ?_; rintro e w' ⟨rfl, rfl⟩)
      rw [hw.out]
      go_roundg g
      case measure => omega
      case rel => exact ⟨i + 1, by omega, by simp, rfl⟩
end Go.Proofs.Ytbhlgceicfjncaa

namespace Go.Proofs.Ytbhlgceicfjncaa
open Go.RowKit
set_option linter.unnecessarySimpa false
set_option linter.unusedVariables false
set_option linter.unusedSimpArgs false
set_option maxRecDepth 100000

/-- The model's way to a place of the table. -/
theorem place8 {s : Nat} (b : UInt8) : bits BinOp.xor IntKind.u8 ((s : Int) % 256) (b.toNat : Int) = ((((s % 256) ^^^ b.toNat) : Nat) : Int) := by
  have e : ((s : Int) % 256) = ((s % 256 : Nat) : Int) := by omega
  rw [e, u8_xor_nat _ _ (by omega) (UInt8.toNat_lt b)]
theorem place_lt (s : Nat) (b : UInt8) : (s % 256) ^^^ b.toNat < 256 := Nat.xor_lt_two_pow (n := 8) (by omega) (UInt8.toNat_lt b)
theorem moreB_take_succ (s : Nat) (l : List UInt8) (i : Nat) {x : UInt8} (h : l[i]? = some x) : moreB s (l.take (i + 1)) = stepB (moreB s (l.take i)) x := by
  rw [List.take_add_one, h, moreB_append]; rfl

set_option maxRecDepth 100000 in
set_option maxHeartbeats 400000 in
theorem more_any (s : Nat) (hs : s < 4294967296) (b : ByteArray) (hb : b.size < 4000000000) (w : World) :
    Calls Try.prog 54 #[.agg tab, .int .u32 s, .string b] w fun e w' => e = .returned (.int .u32 (moreB s b.data.toList)) ∧ Below w.heap.size w w' := by
  have HS := Lib.hid hs
  clear hs
  go_enter Try.func54, Try.ntmps54
  go_wp2_with fail
  go_loopg [1, 7, 10] b.size (fun g s1 s7 s10 wx => ∃ i : Nat, i + g = b.size ∧ s1 = .int .u32 (moreB s (b.data.toList.take i)) ∧ s10 = .int .i64 i ∧ wx = w.alloc (.cells tab 28))
  case atStart => exact ⟨0, by omega, rfl, rfl, rfl⟩
  case round =>
    obtain ⟨i, hig, rfl, rfl, rfl⟩ := hrel
    cases gk with
    | zero =>
      obtain rfl : i = b.size := by omega
      have hall := Lib.hid (show b.data.toList.take b.size = b.data.toList from List.take_of_length_le (by rw [← Lib.size_eq]; exact Nat.le_refl _))
      go_wp2_with fail
      go_ret
      exact ⟨crc_ret_int (by rw [hall.out]), (Below.refl _ _).alloc (Nat.le_refl _) _⟩
    | succ g =>
      have hi : i < b.size := by omega
      have hiz : (i : Int) < (b.size : Int) := by omega
      have hib : (i : Int) < 4000000000 := by omega
      obtain ⟨x, hx⟩ : ∃ x : UInt8, b[i]'hi = x := ⟨_, rfl⟩
      have hxl := Lib.hid (show b.data.toList[i]? = some x by rw [← hx]; exact Lib.data_getElem? b i hi)
      obtain ⟨m, hm⟩ : ∃ m, m = moreB s (b.data.toList.take i) := ⟨_, rfl⟩
      have hml : m < 4294967296 := by rw [hm]; exact moreB_lt _ HS.out
      have HM := Lib.hid hm
      rw [← hm]
      clear hm
      obtain ⟨p, hp⟩ : ∃ p, p = (m % 256) ^^^ x.toNat := ⟨_, rfl⟩
      have hp8 : bits BinOp.xor IntKind.u8 ((m : Int) % 256) (x.toNat : Int) = (p : Int) := by rw [place8, hp]
      have hpl : p < 256 := by rw [hp]; exact place_lt m x
      have htab := tab_at hpl
      have hpz : (p : Int) < 256 := by omega
      have hx32 := Lib.hid (show bits BinOp.xor IntKind.u32 ((m : Int) / 256) ((halves 8 p : Nat) : Int) = ((moreB s (b.data.toList.take (i + 1)) : Nat) : Int) by
        rw [show (m : Int) / 256 = ((m / 256 : Nat) : Int) by omega, u32_xor_nat _ _ (by omega) (halves_lt 8 (by omega)), moreB_take_succ _ _ _ hxl.out, ← HM.out, stepB_table, hp])
      have HP := Lib.hid hp
      clear hp hml
      go_wp2_with fail
      go_roundg g
      case measure => omega
      case rel => exact ⟨i + 1, by omega, congrArg (Value.int .u32) hx32.out, by simp, rfl⟩

set_option maxRecDepth 100000 in
set_option maxHeartbeats 400000 in
theorem sum_any (b : ByteArray) (hb : b.size < 4000000000) (w : World) :
    Calls Try.prog 37 #[.agg tab, .string b] w fun e w' => e = .returned (.int .u32 (sumB b.data.toList)) ∧ Below w.heap.size w w' := by
  have hm := Lib.hid (more_any 4294967295 (by decide) b hb)
  have hml := Lib.hid (moreB_lt b.data.toList (s := 4294967295) (by decide))
  have hrow := Lib.hid (heap_alloc_last w (.cells tab 28))
  have his := Lib.hid (show (Try.prog.info? 28).map (·.size) = some tab.size by rw [tab_size]; exact (zero_of_info (P := Try.prog) tableInfo).2)
  clear hb
  go_enter Try.func37, Try.ntmps37
  go_wp2_with fail
  refine region_likes (by kernel_rfl) (by kernel_rfl) ?_
  repeat (first
    | (go_big_quiet_want; refine quiet_row 28 _ rfl w.heap.size rfl 28 tab (0, 0) _ (likes_row hrow.out) Try.underlying28 rfl his.out ?_; go_simp; go_big_quiet_on)
    | (go_big_quiet_step (first
        | (go_at_call 55; exact calls_likes_same (begin_any _))
        | (go_at_call 54; exact calls_likes (Like.size _) (hm.out _))
        | (go_at_call 53; exact calls_likes_same (end_any _ hml.out _)))))
  refine wpQuiet_nil ?_
  intro x
  have hx := Lib.hid (show Below w.heap.size w x.val from ((Below.refl _ _).alloc (Nat.le_refl _) _).trans (x.below.mono (by simp)))
  go_wp2_with fail
  go_ret
  exact ⟨rfl, hx.out⟩

/-- A table's info, as the store asks it. -/
theorem tableSize : (Try.prog.info? 28).map (·.size) = some tab.size := by rw [tab_size]; exact (zero_of_info (P := Try.prog) tableInfo).2
theorem zeroTable_size : (Array.replicate 256 (Value.int .u32 0)).size = tab.size := by rw [tab_size, Array.size_replicate]
end Go.Proofs.Ytbhlgceicfjncaa

namespace Go.Proofs.Ytbhlgceicfjncaa
open Go.RowKit
set_option linter.unnecessarySimpa false
set_option linter.unusedVariables false
set_option linter.unusedSimpArgs false
set_option maxRecDepth 100000

end Go.Proofs.Ytbhlgceicfjncaa

namespace Go.Proofs.Ytbhlgceicfjncaa
open Go.RowKit
set_option linter.unusedVariables false
set_option linter.unnecessarySimpa false
set_option linter.unusedSimpArgs false
set_option maxRecDepth 100000

/-- A frame, as Go's string. -/
def frmS (p : ByteArray) : ByteArray := ⟨(frmB p.data.toList).toArray⟩
theorem frmS_size (p : ByteArray) : (frmS p).size = p.size + 8 := by
  show (frmB p.data.toList).toArray.size = _
  rw [List.size_toArray, frmB_length, Lib.size_eq]
theorem frmS_eq (p : ByteArray) : (⟨(fx p.size 4 true).toArray⟩ ++ ⟨(fx (sumB p.data.toList) 4 true).toArray⟩ : ByteArray) ++ p = frmS p := by
  have h : ∀ a b : ByteArray, a.data.toList = b.data.toList → a = b := fun a b h => by
    cases a; cases b; simp only [ByteArray.mk.injEq]; exact Array.toList_inj.1 h
  apply h
  show _ = (frmB p.data.toList)
  unfold frmB
  rw [← Lib.size_eq]
  simp [ByteArray.data_append]

def MakeOK : Prop := ∀ (p : ByteArray) (w : World), 1 ≤ p.size → p.size ≤ 4000 →
  Calls Try.prog 22 #[.agg tab, .string p] w fun e w' => e = .returned (.tuple #[.string (frmS p), .int .i64 0]) ∧ Below w.heap.size w w'
def MakeLong : Prop := ∀ (p : ByteArray) (w : World), (p.size < 1 ∨ 4000 < p.size) → p.size ≤ 9000 →
  Calls Try.prog 22 #[.agg tab, .string p] w fun e w' => e = .returned (.tuple #[.string ⟨#[]⟩, .int .i64 3]) ∧ Below w.heap.size w w'

theorem frm_a : (frmS ⟨#[97]⟩) = ⟨#[0, 0, 0, 1, 193, 208, 67, 48, 97]⟩ := by
  have : frmB [97] = [0, 0, 0, 1, 193, 208, 67, 48, 97] := by decide +kernel
  show (⟨(frmB [97]).toArray⟩ : ByteArray) = _
  rw [this]

end Go.Proofs.Ytbhlgceicfjncaa

namespace Go.Proofs.Ytbhlgceicfjncaa
open Go.RowKit
set_option linter.unnecessarySimpa false
set_option linter.unusedSimpArgs false
set_option maxRecDepth 100000
set_option linter.unusedVariables false

/-- A cursor in memory: what is left, and whether it is bad. -/
def CurAtB (w : World) (g : Nat) (s : ByteArray) (bad : Bool) : Prop := w.heap[g]? = some (.cells #[.string s, .bool bad] 135 (0, 0))

section
variable {w : World} {g : Nat} {s : ByteArray} {bad : Bool}
theorem CurAtB.lt (h : CurAtB w g s bad) : g < w.heap.size := (Array.getElem?_eq_some_iff.1 h).1
theorem CurAtB.c0 (h : CurAtB w g s bad) : w.cell? ⟨g, 0, none⟩ = some (.string s) := by unfold CurAtB at h; simp [World.cell?, h]
theorem CurAtB.c1 (h : CurAtB w g s bad) : w.cell? ⟨g, 1, none⟩ = some (.bool bad) := by unfold CurAtB at h; simp [World.cell?, h]
theorem CurAtB.f0 (h : CurAtB w g s bad) : w.frozen? ⟨g, 0, none⟩ = false := by unfold CurAtB at h; simp [World.frozen?, h]
theorem CurAtB.f1 (h : CurAtB w g s bad) : w.frozen? ⟨g, 1, none⟩ = false := by unfold CurAtB at h; simp [World.frozen?, h]
theorem CurAtB.set0 (h : CurAtB w g s bad) (s' : ByteArray) : CurAtB (w.setCell ⟨g, 0, none⟩ (.string s')) g s' bad := by
  unfold CurAtB at *
  rw [heap_setCell_same w g 0 _ _ _ h]
  rfl
theorem CurAtB.set1 (h : CurAtB w g s bad) (bad' : Bool) : CurAtB (w.setCell ⟨g, 1, none⟩ (.bool bad')) g s bad' := by
  unfold CurAtB at *
  rw [heap_setCell_same w g 1 _ _ _ h]
  rfl
theorem grownByB_setCell (w : World) (g j : Nat) (v : Value) : w.grownBy (w.setCell ⟨g, j, none⟩ v) (some g) :=
  ⟨rfl, rfl, rfl, by simp [World.setCell], fun k _ hk => heap_setCell_other w ⟨g, j, none⟩ k v (fun e => hk (by simp [e]))⟩
theorem grownByB_refl (w : World) (row : Option Nat) : w.grownBy w row := ⟨rfl, rfl, rfl, Nat.le_refl _, fun _ _ _ => rfl⟩
theorem grownByB_trans {w w1 w2 : World} {row : Option Nat} (h1 : w.grownBy w1 row) (h2 : w1.grownBy w2 row) : w.grownBy w2 row :=
  ⟨h2.os.trans h1.os, h2.tape.trans h1.tape, h2.output.trans h1.output, Nat.le_trans h1.size h2.size, fun k hk hr => (h2.block k (Nat.lt_of_lt_of_le hk h1.size) hr).trans (h1.block k hk hr)⟩
theorem CurAtB.kept {w' : World} {B : Nat} (h : CurAtB w g s bad) (hb : Below B w w') (hg : g < B) : CurAtB w' g s bad := (hb.block g hg).trans h
end

theorem below_grownB {w w1 w2 : World} {g : Nat} (h : Below w.heap.size w w1) (hg : w1.grownBy w2 (some g)) (hl : w.heap.size ≤ g) : Below w.heap.size w w2 :=
  h.grown hg h.size (fun k hk => by cases hk; exact hl)

set_option maxHeartbeats 800000 in
theorem new_anyB (s : ByteArray) (w : World) :
    Calls Try.prog 58 #[.string s] w fun e w' => e = .returned (.pointer (some ⟨w.heap.size, 0, none⟩)) ∧ CurAtB w' w.heap.size s false ∧ Below w.heap.size w w' := by
  have hn : CurAtB (w.alloc (.cells #[.string s, .bool false] 135)) w.heap.size s false := heap_alloc_new w _
  go_enter Try.func58, Try.ntmps58
  go_wp2
  go_ret
  exact ⟨rfl, hn, (Below.refl _ _).alloc (Nat.le_refl _) _⟩

set_option maxHeartbeats 800000 in
theorem take_anyB (g : Nat) (s : ByteArray) (bad : Bool) (n : Nat) (hs : s.size ≤ maxLen) (hn : n ≤ s.size) (w : World) (h : CurAtB w g s bad) :
    Calls Try.prog 96 #[.pointer (some ⟨g, 0, none⟩), .int .i64 n] w fun e w' => e = .returned (.string (s.extract 0 n)) ∧ CurAtB w' g (s.extract n s.size) bad ∧ w.grownBy w' (some g) := by
  unfold maxLen at hs
  have c0 := h.c0
  have f0 := h.f0
  have hq := Lib.hid (h.set0 (s.extract n s.size))
  clear h
  go_enter Try.func96, Try.ntmps96
  go_wp2
  go_ret
  exact ⟨rfl, hq.out, grownByB_setCell _ _ _ _⟩

set_option maxHeartbeats 800000 in
theorem left_anyB (g : Nat) (s : ByteArray) (bad : Bool) (w : World) (hs : s.size ≤ maxLen) (h : CurAtB w g s bad) :
    Calls Try.prog 63 #[.pointer (some ⟨g, 0, none⟩)] w fun e w' => e = .returned (.int .i64 s.size) ∧ w = w' := by
  unfold maxLen at hs
  have c0 := h.c0
  clear h
  go_enter Try.func63, Try.ntmps63
  go_wp2
  go_ret
  exact ⟨rfl, rfl⟩

theorem list_sizeB (s : ByteArray) : s.data.toList.length = s.size := by rw [Array.length_toList]; rfl

end Go.Proofs.Ytbhlgceicfjncaa

namespace Go.Proofs.Ytbhlgceicfjncaa
open Go.RowKit
set_option linter.unnecessarySimpa false
set_option linter.unusedSimpArgs false
set_option maxRecDepth 100000
set_option linter.unusedVariables false

/-- What Bytes tells, and what it leaves. -/
def cBytesB (s : ByteArray) (bad : Bool) (n : Int) : ByteArray × ByteArray × Bool :=
  if bad = true ∨ n < 0 ∨ (s.size : Int) < n then (ByteArray.empty, s, true) else (s.extract 0 n.toNat, s.extract n.toNat s.size, false)

set_option maxHeartbeats 1600000 in
theorem cur_bytesB (g : Nat) (s : ByteArray) (bad : Bool) (n : Int) (w : World) (hs : s.size ≤ maxLen) (h : CurAtB w g s bad) :
    Calls Try.prog 78 #[.pointer (some ⟨g, 0, none⟩), .int .i64 n] w fun e w' => e = .returned (.string (cBytesB s bad n).1) ∧ CurAtB w' g (cBytesB s bad n).2.1 (cBytesB s bad n).2.2 ∧ w.grownBy w' (some g) := by
  have HS := Lib.hid hs
  have hs' := hs
  unfold maxLen at hs'
  have H := Lib.hid h
  have c0 := h.c0
  have c1 := h.c1
  have f1 := h.f1
  clear h hs
  cases bad
  · by_cases h0 : n < 0
    · have hd := Lib.hid (show cBytesB s false n = (ByteArray.empty, s, true) by simp [cBytesB, h0])
      go_enter Try.func78, Try.ntmps78
      go_wp2_with fail
      go_ret
      rw [hd.out]
      exact ⟨rfl, H.out.set1 true, grownByB_setCell _ _ _ _⟩
    · obtain ⟨k, rfl⟩ := Int.eq_ofNat_of_zero_le (show 0 ≤ n by omega)
      by_cases h1 : s.size < k
      · have hd := Lib.hid (show cBytesB s false k = (ByteArray.empty, s, true) by simp [cBytesB, h1])
        go_enter Try.func78, Try.ntmps78
        go_wp2_with fail
        go_ret
        rw [hd.out]
        exact ⟨rfl, H.out.set1 true, grownByB_setCell _ _ _ _⟩
      · have hd := Lib.hid (show cBytesB s false k = (s.extract 0 k, s.extract k s.size, false) by simp [cBytesB, h1])
        have hk : k ≤ s.size := by omega
        go_enter Try.func78, Try.ntmps78
        go_wp2_with (go_at_call 96; refine (take_anyB g s false k HS.out hk _ H.out).mono ?_; rintro e w' ⟨rfl, hc, hg⟩)
        go_ret
        rw [hd.out]
        exact ⟨rfl, hc, hg⟩
  · have hd := Lib.hid (show cBytesB s true n = (ByteArray.empty, s, true) by simp [cBytesB])
    go_enter Try.func78, Try.ntmps78
    go_wp2_with fail
    go_ret
    rw [hd.out]
    exact ⟨rfl, H.out.set1 true, grownByB_setCell _ _ _ _⟩

end Go.Proofs.Ytbhlgceicfjncaa

namespace Go.Proofs.Ytbhlgceicfjncaa
open Go.RowKit
set_option linter.unnecessarySimpa false
set_option linter.unusedVariables false
set_option linter.unusedSimpArgs false
set_option maxRecDepth 100000

set_option maxHeartbeats 800000 in
theorem isSize_yes (n : Int) (w : World) (h : 1 ≤ n ∧ n ≤ 8) : Calls Try.prog 56 #[.int .i64 n] w fun e w' => e = .returned (.bool true) ∧ w = w' := by
  obtain ⟨h1, h2⟩ := h
  go_enter Try.func56, Try.ntmps56
  go_wp2
  go_ret
  exact ⟨rfl, rfl⟩

set_option maxHeartbeats 800000 in
theorem isSize_no (n : Int) (w : World) (h : n < 1 ∨ 8 < n) : Calls Try.prog 56 #[.int .i64 n] w fun e w' => e = .returned (.bool false) ∧ w = w' := by
  rcases h with h | h
  · have h1 : ¬ 1 ≤ n := by omega
    go_enter Try.func56, Try.ntmps56
    go_wp2
    go_ret
    exact ⟨rfl, rfl⟩
  · have h1 : 1 ≤ n := by omega
    have h2 : ¬ n ≤ 8 := by omega
    go_enter Try.func56, Try.ntmps56
    go_wp2
    go_ret
    exact ⟨rfl, rfl⟩

set_option maxHeartbeats 800000 in
theorem place_little (i size : Nat) (w : World) (h1 : i < size) (h2 : size ≤ 8) : Calls Try.prog 57 #[.int .i64 i, .int .i64 size, .bool false] w fun e w' => e = .returned (.int .u64 (8 * (i : Int))) ∧ w = w' := by
  go_enter Try.func57, Try.ntmps57
  go_wp2
  go_ret
  exact ⟨rfl, rfl⟩

set_option maxHeartbeats 800000 in
theorem place_big (i size : Nat) (w : World) (h1 : i < size) (h2 : size ≤ 8) : Calls Try.prog 57 #[.int .i64 i, .int .i64 size, .bool true] w fun e w' => e = .returned (.int .u64 (8 * ((size - 1 - i : Nat) : Int))) ∧ w = w' := by
  go_enter Try.func57, Try.ntmps57
  go_wp2
  go_ret
  exact ⟨ret_int (by omega), rfl⟩

theorem place_any (i size : Nat) (big : Bool) (w : World) (h1 : i < size) (h2 : size ≤ 8) : Calls Try.prog 57 #[.int .i64 i, .int .i64 size, .bool big] w fun e w' => e = .returned (.int .u64 (8 * ((pl size big i : Nat) : Int))) ∧ w = w' := by
  cases big
  · exact place_little i size w h1 h2
  · exact place_big i size w h1 h2

theorem fixed_none (n : Nat) (size : Int) (big : Bool) (w : World) (h : size < 1 ∨ 8 < size) :
    Calls Try.prog 38 #[.int .u64 n, .int .i64 size, .bool big] w fun e w' => e = .returned (.string ⟨#[]⟩) ∧ w = w' := by
  go_enter Try.func38, Try.ntmps38
  go_wp2_with (go_at_call 56; refine (isSize_no _ _ h).mono ?_; rintro e w' ⟨rfl, rfl⟩)
  go_ret
  exact ⟨rfl, rfl⟩

set_option maxHeartbeats 800000 in
theorem fixed_any (n size : Nat) (big : Bool) (w : World) (h1 : 1 ≤ size) (h2 : size ≤ 8) :
    Calls Try.prog 38 #[.int .u64 n, .int .i64 size, .bool big] w fun e w' => e = .returned (.string ⟨(fx n size big).toArray⟩) ∧ Below w.heap.size w w' := by
  obtain ⟨i0, hi, hz0, hz1, hz2⟩ := info_parts u8info
  go_enter Try.func38, Try.ntmps38
  go_wp2_with (first | (go_at_call 56; refine (isSize_yes _ _ (by omega)).mono ?_; rintro e w' ⟨rfl, rfl⟩) | (at_make; refine wpList_make_full _ rfl _ _ 91 rfl w.heap.size 5 i0 (.int .u8 0) 1 Try.underlying91 hi hz0 hz1 _ _ _ _ size rfl rfl rfl rfl ?c1 ?c2 ?c3 ?c4))
  case c1 => rw [hz2]; omega
  case c2 => simp [maxLen]; omega
  case c3 => exact Nat.le_refl _
  case c4 =>
    intro w1 hown1 hg1
    rw [zeros_cellsF] at hown1
    have hb1 : Below w.heap.size w w1 := (Below.refl _ _).grown hg1 (Nat.le_refl _) (by simp)
    clear hg1
    go_wp2_with fail
    go_loopw [8, 16] (fun _ t wr => ∃ (k : Nat), k ≤ size ∧ t = .int .i64 k ∧ wr.ownsRow w.heap.size 5 1 (.slice (some ⟨w.heap.size, 0, none⟩) size size) size (Lib.byteCells (cellsF size fun j => if j < k then fxAt n size big j else 0)) ∧ Below w.heap.size w wr) (fun _ t _ => size - (intOf t).toNat)
    case atStart => exact ⟨0, Nat.zero_le _, rfl, by simpa using hown1, hb1⟩
    case round =>
      obtain ⟨k, hk, rfl, hown, hb⟩ := hrel
      by_cases hlt : k < size
      · have hfz := hown.frozenAt k
        have hcl := hown.cellAt k (by omega)
        have hpl := pl_lt big hlt
        have hgl : (Lib.byteCells (cellsF size fun j => if j < k then fxAt n size big j else 0))[k]? = some (.int .u8 0) := by simp [Lib.byteCells, cellsF, hlt]
        rw [hgl] at hcl
        clear hgl
        go_wp2_with (go_at_call 57; refine (place_any k size big _ hlt h2).mono ?_; rintro e w' ⟨rfl, rfl⟩)
        have hst := hown.stored k (.int .u8 ((n : Int) / 2 ^ (8 * pl size big k) % 256))
        refine ⟨⟨k + 1, by omega, by go_num, ?_, hb.setCell (Nat.le_refl _) _⟩, by simp [intOf]; omega⟩
        have h3 := hst.1
        rw [fxAt_shift, cellsF_next (P := fun j => j < k) (P' := fun j => j < k + 1) (p := k) (g := fxAt n size big) (fun j _ => by omega)] at h3
        rw [fxAt_shift]
        exact h3
      · have hcv := convert_own (P := Try.prog) (src := 91) (dst := 9) hown (by simp) Try.underlying91 Try.underlying5 Try.underlying9
        have hfin : (cellsF size fun j => if j < k then fxAt n size big j else 0) = fx n size big := cellsF_congr fun j hj => by rw [if_pos (by omega)]
        rw [hfin] at hcv
        clear hfin
        go_wp2_with fail
        go_ret
        exact ⟨rfl, hb⟩
end Go.Proofs.Ytbhlgceicfjncaa

namespace Go.Proofs.Ytbhlgceicfjncaa
open Go.RowKit
set_option linter.unnecessarySimpa false
set_option linter.unusedSimpArgs false
set_option maxRecDepth 100000
set_option linter.unusedVariables false

/-- Bytes as a number, the lowest first. -/
def le : List UInt8 → Nat
  | [] => 0
  | b :: r => b.toNat + 256 * le r

theorem le_append (a b : List UInt8) : le (a ++ b) = le a + 256 ^ a.length * le b := by
  induction a with
  | nil => simp [le]
  | cons x a ih => simp only [List.cons_append, le, ih, List.length_cons, Nat.pow_succ, Nat.mul_add]; rw [Nat.add_assoc, Nat.mul_comm (256 ^ a.length) 256, Nat.mul_assoc]

theorem le_lt (l : List UInt8) : le l < 256 ^ l.length := by
  induction l with
  | nil => simp [le]
  | cons x l ih => have := x.toNat_lt; simp only [le, List.length_cons, Nat.pow_succ]; omega

/-- The number that bytes are, either way round. -/
def valFx (l : List UInt8) (big : Bool) : Nat := if big then le l.reverse else le l

/-- What has been gathered of the first k of size bytes. -/
def acc (l : List UInt8) (size : Nat) (big : Bool) (k : Nat) : Nat := if big then le (l.take k).reverse * 256 ^ (size - k) else le (l.take k)

theorem acc_zero (l : List UInt8) (size : Nat) (big : Bool) : acc l size big 0 = 0 := by unfold acc; split <;> simp [le]
theorem acc_full (l : List UInt8) (big : Bool) : acc l l.length big l.length = valFx l big := by unfold acc valFx; split <;> simp

theorem acc_step (l : List UInt8) (size : Nat) (big : Bool) (k : Nat) (h : k < l.length) (hs : l.length = size) : acc l size big (k + 1) = acc l size big k + l[k].toNat * 256 ^ pl size big k := by
  have ht : l.take (k + 1) = l.take k ++ [l[k]] := by rw [List.take_succ_eq_append_getElem h]
  have hlen : (l.take k).length = k := by simp; omega
  unfold acc pl
  rw [ht]
  cases big
  · simp only [Bool.false_eq_true, if_false]
    rw [le_append, hlen]
    simp only [le]
    rw [Nat.mul_zero, Nat.add_zero, Nat.mul_comm]
  · simp only [if_true]
    rw [List.reverse_append]
    simp only [List.reverse_cons, List.reverse_nil, List.nil_append, List.cons_append, le]
    rw [show size - k = (size - 1 - k) + 1 by omega, show size - (k + 1) = size - 1 - k by omega, Nat.pow_succ, Nat.add_mul]
    rw [Nat.add_comm, Nat.mul_comm 256, Nat.mul_assoc, Nat.mul_comm 256]

/-- What has been gathered, and what comes, do not meet. -/
theorem acc_or (l : List UInt8) (size : Nat) (big : Bool) (k : Nat) (h : k < l.length) (hs : l.length = size) (h8 : size ≤ 8) :
    bits BinOp.or IntKind.u64 (acc l size big k : Int) (IntKind.u64.wrap ((l[k].toNat : Int) * 2 ^ (8 * pl size big k))) = (acc l size big (k + 1) : Int) := by
  have hb := l[k].toNat_lt
  have hpl := pl_lt (size := size) (j := k) big (by omega)
  have hstep := acc_step l size big k h hs
  have hP : (2 : Int) ^ (8 * pl size big k) = ((256 ^ pl size big k : Nat) : Int) := by
    rw [show (256 : Nat) = 2 ^ 8 from rfl, ← Nat.pow_mul]; simp
  have hlen : (l.take k).length = k := by simp; omega
  have h7 : 256 * 256 ^ pl size big k ≤ 18446744073709551616 := by
    rw [← Nat.pow_succ']
    exact Nat.le_trans (Nat.pow_le_pow_right (by decide) (show pl size big k + 1 ≤ 8 by omega)) (by decide)
  have hx : l[k].toNat * 256 ^ pl size big k + 256 ^ pl size big k ≤ 256 * 256 ^ pl size big k := by
    have := Nat.mul_le_mul_right (256 ^ pl size big k) (show l[k].toNat + 1 ≤ 256 by omega)
    rwa [Nat.add_mul, Nat.one_mul] at this
  have hpos : 0 < 256 ^ pl size big k := Nat.pow_pos (by decide)
  rw [hP, show ((l[k].toNat : Int) * ((256 ^ pl size big k : Nat) : Int)) = ((l[k].toNat * 256 ^ pl size big k : Nat) : Int) by simp]
  have e3 : IntKind.u64.wrap ((l[k].toNat * 256 ^ pl size big k : Nat) : Int) = ((l[k].toNat * 256 ^ pl size big k : Nat) : Int) := by rw [IntKind.wrap_u64]; omega
  rw [e3]
  cases big
  · have hlt := le_lt (l.take k)
    rw [hlen] at hlt
    have ha : acc l size false k = le (l.take k) := by simp [acc]
    have hp : pl size false k = k := by simp [pl]
    rw [hp] at hstep h7 hx hpos e3 ⊢
    rw [ha] at hstep ⊢
    rw [u64_or_nat _ _ (by omega) (by omega), Nat.or_comm, show (256 : Nat) ^ k = 2 ^ (8 * k) by rw [Nat.pow_mul], nat_join (8 * k) _ _ (Nat.mul_mod_left _ _) (by rw [Nat.pow_mul]; exact hlt)]
    rw [hstep, Nat.pow_mul, Nat.add_comm]
  · have hlt := le_lt (l.take k).reverse
    rw [List.length_reverse, hlen] at hlt
    have hp : pl size true k = size - 1 - k := by simp [pl]
    have ha : acc l size true k = le (l.take k).reverse * (256 * 256 ^ pl size true k) := by
      rw [hp, ← Nat.pow_succ', show (size - 1 - k).succ = size - k by omega]; simp [acc]
    have hlt2 : acc l size true k + 256 * 256 ^ pl size true k ≤ 18446744073709551616 := by
      rw [ha, ← Nat.succ_mul]
      refine Nat.le_trans (Nat.mul_le_mul_right _ (Nat.succ_le_of_lt hlt)) ?_
      rw [hp, ← Nat.pow_succ', ← Nat.pow_add]
      exact Nat.le_trans (Nat.pow_le_pow_right (by decide) (show k + (size - 1 - k).succ ≤ 8 by omega)) (by decide)
    rw [u64_or_nat _ _ (by omega) (by omega), nat_join (8 * (pl size true k + 1)) _ _ ?_ ?_]
    · rw [hstep]
    · rw [Nat.pow_mul, show (2 ^ 8 : Nat) = 256 from rfl, ha, Nat.pow_succ', Nat.mul_mod_left]
    · rw [Nat.pow_mul, show (2 ^ 8 : Nat) = 256 from rfl, Nat.pow_succ']; omega

/-- What Fixed tells, and what it leaves. -/
def cFixed (s : ByteArray) (bad : Bool) (size : Int) (big : Bool) : Nat × ByteArray × Bool :=
  if size < 1 ∨ 8 < size then (0, s, true) else (valFx (cBytesB s bad size).1.data.toList big, (cBytesB s bad size).2.1, (cBytesB s bad size).2.2)

theorem cBytes_fst (s : ByteArray) (bad : Bool) (n : Int) : (cBytesB s bad n).1.size = 0 ∨ ((cBytesB s bad n).1.size : Int) = n := by
  unfold cBytesB
  split
  · exact .inl rfl
  · refine .inr ?_; simp; omega

set_option maxHeartbeats 1600000 in
theorem cur_fixed_no (g : Nat) (s : ByteArray) (bad : Bool) (size : Int) (big : Bool) (w : World) (hs : s.size ≤ maxLen) (hz : size < 1 ∨ 8 < size) (h : CurAtB w g s bad) :
    Calls Try.prog 59 #[.pointer (some ⟨g, 0, none⟩), .int .i64 size, .bool big] w fun e w' => e = .returned (.int .u64 (cFixed s bad size big).1) ∧ CurAtB w' g (cFixed s bad size big).2.1 (cFixed s bad size big).2.2 ∧ w.grownBy w' (some g) := by
  have hd := Lib.hid (show cFixed s bad size big = (0, s, true) by simp [cFixed, hz])
  have HZ := Lib.hid hz
  have H := Lib.hid h
  have c1 := h.c1
  have f1 := h.f1
  clear h hz
  go_enter Try.func59, Try.ntmps59
  go_wp2_with (go_at_call 56; refine (isSize_no _ _ HZ.out).mono ?_; rintro e w' ⟨rfl, rfl⟩)
  go_ret
  rw [hd.out]
  exact ⟨rfl, H.out.set1 true, grownByB_setCell _ _ _ _⟩

set_option maxHeartbeats 1600000 in
theorem cur_fixed_yes (g : Nat) (s : ByteArray) (bad : Bool) (size : Nat) (big : Bool) (w : World) (hs : s.size ≤ maxLen) (h1 : 1 ≤ size) (h8 : size ≤ 8) (h : CurAtB w g s bad) :
    Calls Try.prog 59 #[.pointer (some ⟨g, 0, none⟩), .int .i64 size, .bool big] w fun e w' => e = .returned (.int .u64 (cFixed s bad size big).1) ∧ CurAtB w' g (cFixed s bad size big).2.1 (cFixed s bad size big).2.2 ∧ w.grownBy w' (some g) := by
  have hd := Lib.hid (show cFixed s bad size big = (valFx (cBytesB s bad size).1.data.toList big, (cBytesB s bad size).2.1, (cBytesB s bad size).2.2) by simp [cFixed]; omega)
  have HC := Lib.hid (cur_bytesB g s bad size w hs h)
  have HF := Lib.hid (cBytes_fst s bad size)
  obtain ⟨b, eb⟩ : ∃ b, (cBytesB s bad size).1 = b := ⟨_, rfl⟩
  have H := Lib.hid h
  clear h hs
  rw [eb] at HC HF hd
  clear eb
  have hbs : b.size ≤ size := by have := HF.out; omega
  go_enter Try.func59, Try.ntmps59
  go_wp2_with (first | (go_at_call 56; refine (isSize_yes _ _ (by omega)).mono ?_; rintro e w' ⟨rfl, rfl⟩) | (go_at_call 78; refine HC.out.mono ?_; rintro e w1 ⟨rfl, hc1, hg1⟩))
  have HC1 := Lib.hid hc1
  clear hc1
  go_loopw [8, 9, 21] (fun t _ i wr => ∃ k : Nat, k ≤ b.size ∧ i = .int .i64 k ∧ t = .int .u64 (acc b.data.toList size big k) ∧ w1.grownBy wr (some g) ∧ CurAtB wr g (cBytesB s bad size).2.1 (cBytesB s bad size).2.2) (fun _ _ i _ => b.size - (intOf i).toNat)
  case atStart => exact ⟨0, Nat.zero_le _, rfl, by rw [acc_zero]; rfl, grownByB_refl _ _, HC1.out⟩
  case round =>
    obtain ⟨k, hk, rfl, rfl, hgr, hcr⟩ := hrel
    have HCR := Lib.hid hcr
    clear hcr
    by_cases hlt : k < b.size
    · have hks : k < size := by omega
      have hpl := pl_lt (size := size) (j := k) big hks
      have hb255 : (b[k].toNat : Int) ≤ 255 := by have := b[k].toNat_lt; omega
      have HSZ : b.size = size := by have := HF.out; omega
      have HOR := Lib.hid (acc_or b.data.toList size big k (by rw [list_sizeB]; exact hlt) (by rw [list_sizeB]; exact HSZ) h8)
      clear HSZ
      go_wp2_with fail
      go_quiet ((go_at_call 57; exact Calls.quiet_of_same ((place_any k size big _ hks h8).mono fun _ _ hh => ⟨hh.1, hh.2.symm⟩)))
      go_wp2_with fail
      refine ⟨⟨k + 1, by omega, by go_num, by rw [← HOR.out]; rfl, ⟨hgr.os, hgr.tape, hgr.output, hgr.size, hgr.block⟩, HCR.out⟩, by simp [intOf]; omega⟩
    · have HV : Hid (acc b.data.toList size big k = valFx b.data.toList big) := by
        rcases HF.out with h0 | h0
        · have hnil : b.data.toList = [] := List.length_eq_zero_iff.1 (by rw [list_sizeB]; exact h0)
          have hk0 : k = 0 := by omega
          rw [hnil, hk0]
          exact Lib.hid (by rw [acc_zero]; simp [valFx, le])
        · have e1 : k = b.data.toList.length := by rw [list_sizeB]; omega
          have e2 : size = b.data.toList.length := by rw [list_sizeB]; omega
          rw [e1, e2]
          exact Lib.hid (acc_full _ _)
      go_wp2_with fail
      go_ret
      rw [hd.out]
      exact ⟨ret_int (by rw [HV.out]), HCR.out, grownByB_trans hg1 hgr⟩

theorem cur_fixed (g : Nat) (s : ByteArray) (bad : Bool) (size : Int) (big : Bool) (w : World) (hs : s.size ≤ maxLen) (h : CurAtB w g s bad) :
    Calls Try.prog 59 #[.pointer (some ⟨g, 0, none⟩), .int .i64 size, .bool big] w fun e w' => e = .returned (.int .u64 (cFixed s bad size big).1) ∧ CurAtB w' g (cFixed s bad size big).2.1 (cFixed s bad size big).2.2 ∧ w.grownBy w' (some g) := by
  by_cases hz : 1 ≤ size ∧ size ≤ 8
  · obtain ⟨k, rfl⟩ := Int.eq_ofNat_of_zero_le (show 0 ≤ size by omega)
    exact cur_fixed_yes g s bad k big w hs (by omega) (by omega) h
  · exact cur_fixed_no g s bad size big w hs (by omega) h
end Go.Proofs.Ytbhlgceicfjncaa
