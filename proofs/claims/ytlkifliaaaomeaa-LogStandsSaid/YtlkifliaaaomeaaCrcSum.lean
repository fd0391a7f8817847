/-
  The walks of crc's More and Sum over Make's table.
-/
import Derived.Test.YtlkifliaaaomeaaCrcMake
import Derived.Test.YtlkifliaaaomeaaClass
import Derived.Lib.IndexBytes
import Derived.Lib.Strings
namespace Go.Proofs.Ytlkifliaaaomeaa
open Go.RowKit
set_option linter.unnecessarySimpa false
set_option linter.unusedVariables false
set_option linter.unusedSimpArgs false
set_option maxRecDepth 100000

/-- The model's way to a place of the table. -/
theorem place8 {s : Nat} (b : UInt8) : bits BinOp.xor IntKind.u8 ((s : Int) % 256) (b.toNat : Int) = ((((s % 256) ^^^ b.toNat) : Nat) : Int) := by
  have e : ((s : Int) % 256) = ((s % 256 : Nat) : Int) := by omega
  rw [e, u8_xor_nat _ _ (by omega) (UInt8.toNat_lt b)]
theorem place_lt (s : Nat) (b : UInt8) : (s % 256) ^^^ b.toNat < 256 := Nat.xor_lt_two_pow (n := 8) (by omega) (UInt8.toNat_lt b)
theorem moreB_take_succ (s : Nat) (l : List UInt8) (i : Nat) {x : UInt8} (h : l[i]? = some x) : moreB s (l.take (i + 1)) = stepB (moreB s (l.take i)) x := by
  rw [List.take_add_one, h, moreB_append]; rfl

set_option maxRecDepth 100000 in
set_option maxHeartbeats 400000 in
theorem more_any (s : Nat) (hs : s < 4294967296) (b : ByteArray) (hb : b.size < 4000000000) (w : World) :
    Calls Try.prog 62 #[.agg tab, .int .u32 s, .string b] w fun e w' => e = .returned (.int .u32 (moreB s b.data.toList)) ∧ Below w.heap.size w w' := by
  have HS := Lib.hid hs
  clear hs
  go_enter Try.func62, Try.ntmps62
  go_wp2_with fail
  go_loopg [1, 7, 10] b.size (fun g s1 s7 s10 wx => ∃ i : Nat, i + g = b.size ∧ s1 = .int .u32 (moreB s (b.data.toList.take i)) ∧ s10 = .int .i64 i ∧ wx = w.alloc (.cells tab 29))
  case atStart => exact ⟨0, by omega, rfl, rfl, rfl⟩
  case round =>
    obtain ⟨i, hig, rfl, rfl, rfl⟩ := hrel
    cases gk with
    | zero =>
      obtain rfl : i = b.size := by omega
      have hall := Lib.hid (show b.data.toList.take b.size = b.data.toList from List.take_of_length_le (by rw [← Lib.size_eq]; exact Nat.le_refl _))
      go_wp2_with fail
      go_ret
      exact ⟨crc_ret_int (by rw [hall.out]), (Below.refl _ _).alloc (Nat.le_refl _) _⟩
    | succ g =>
      have hi : i < b.size := by omega
      have hiz : (i : Int) < (b.size : Int) := by omega
      have hib : (i : Int) < 4000000000 := by omega
      obtain ⟨x, hx⟩ : ∃ x : UInt8, b[i]'hi = x := ⟨_, rfl⟩
      have hxl := Lib.hid (show b.data.toList[i]? = some x by rw [← hx]; exact Lib.data_getElem? b i hi)
      obtain ⟨m, hm⟩ : ∃ m, m = moreB s (b.data.toList.take i) := ⟨_, rfl⟩
      have hml : m < 4294967296 := by rw [hm]; exact moreB_lt _ HS.out
      have HM := Lib.hid hm
      rw [← hm]
      clear hm
      obtain ⟨p, hp⟩ : ∃ p, p = (m % 256) ^^^ x.toNat := ⟨_, rfl⟩
      have hp8 : bits BinOp.xor IntKind.u8 ((m : Int) % 256) (x.toNat : Int) = (p : Int) := by rw [place8, hp]
      have hpl : p < 256 := by rw [hp]; exact place_lt m x
      have htab := tab_at hpl
      have hpz : (p : Int) < 256 := by omega
      have hx32 := Lib.hid (show bits BinOp.xor IntKind.u32 ((m : Int) / 256) ((halves 8 p : Nat) : Int) = ((moreB s (b.data.toList.take (i + 1)) : Nat) : Int) by
        rw [show (m : Int) / 256 = ((m / 256 : Nat) : Int) by omega, u32_xor_nat _ _ (by omega) (halves_lt 8 (by omega)), moreB_take_succ _ _ _ hxl.out, ← HM.out, stepB_table, hp])
      have HP := Lib.hid hp
      clear hp hml
      go_wp2_with fail
      go_roundg g
      case measure => omega
      case rel => exact ⟨i + 1, by omega, congrArg (Value.int .u32) hx32.out, by simp, rfl⟩


set_option maxHeartbeats 400000 in
/-- The document's. -/
theorem refsum_any (b : ByteArray) (hb : b.size < 4000000000) (w : World) :
    Calls Try.prog 31 #[.string b] w fun e w' => e = .returned (.int .u32 (sumB b.data.toList)) ∧ w' = w := by
  go_enter Try.func31, Try.ntmps31
  go_wp2_with fail
  go_loopg [3, 4] b.size (fun g s3 s4 wx => ∃ i : Nat, i + g = b.size ∧ s3 = .int .u64 (moreB 4294967295 (b.data.toList.take i)) ∧ s4 = .int .i64 i ∧ wx = w)
  case atStart => exact ⟨0, by omega, rfl, rfl, rfl⟩
  case round =>
    obtain ⟨i, hig, rfl, rfl, rfl⟩ := hrel
    cases gk with
    | zero =>
      obtain rfl : i = b.size := by omega
      have hall := Lib.hid (show b.data.toList.take b.size = b.data.toList from List.take_of_length_le (by rw [← Lib.size_eq]; exact Nat.le_refl _))
      obtain ⟨m, hm⟩ : ∃ m, m = moreB 4294967295 (b.data.toList.take b.size) := ⟨_, rfl⟩
      have hml : m < 4294967296 := by rw [hm]; exact moreB_lt _ (by decide)
      have HM := Lib.hid hm
      rw [← hm]
      clear hm
      go_wp2_with fail
      go_ret
      exact ⟨crc_ret_int (by rw [sumB, ← hall.out, ← HM.out]; omega), rfl⟩
    | succ g =>
      have hi : i < b.size := by omega
      have hiz : (i : Int) < (b.size : Int) := by omega
      have hib : (i : Int) < 4000000000 := by omega
      obtain ⟨x, hx⟩ : ∃ x : UInt8, b[i]'hi = x := ⟨_, rfl⟩
      have hxl := Lib.hid (show b.data.toList[i]? = some x by rw [← hx]; exact Lib.data_getElem? b i hi)
      obtain ⟨m, hm⟩ : ∃ m, m = moreB 4294967295 (b.data.toList.take i) := ⟨_, rfl⟩
      have hml : m < 4294967296 := by rw [hm]; exact moreB_lt _ (by decide)
      have HM := Lib.hid hm
      rw [← hm]
      clear hm
      have hx8 := UInt8.toNat_lt x
      obtain ⟨p, hp⟩ : ∃ p, p = m ^^^ x.toNat := ⟨_, rfl⟩
      have hp8 : bits BinOp.xor IntKind.u64 (m : Int) (x.toNat : Int) = (p : Int) := by rw [u64_xor_nat _ _ (by omega) (by omega), hp]
      have hwx : IntKind.u64.wrap (x.toNat : Int) = (x.toNat : Int) := by simp [IntKind.wrap, IntKind.bits, IntKind.signed]; omega
      have hst := Lib.hid (steps_any p (by rw [hp]; exact Nat.xor_lt_two_pow (n := 32) hml (by omega)))
      have hnx := Lib.hid (show Value.int .u64 ((halves 8 p : Nat) : Int) = Value.int .u64 ((moreB 4294967295 (b.data.toList.take (i + 1)) : Nat) : Int) by
        rw [moreB_take_succ _ _ _ hxl.out, ← HM.out, hp]; rfl)
      clear hp hml hx8
      go_wp2_with (go_at_call 49; refine (hst.out _).mono ?_; rintro e w' ⟨rfl, rfl⟩)
      go_roundg g
      case measure => omega
      case rel => exact ⟨i + 1, by omega, hnx.out, by simp, rfl⟩
/-- A table's info, as the store asks it. -/
theorem tableSize : (Try.prog.info? 29).map (·.size) = some tab.size := by rw [tab_size]; exact (zero_of_info (P := Try.prog) tableInfo).2
theorem zeroTable_size : (Array.replicate 256 (Value.int .u32 0)).size = tab.size := by rw [tab_size, Array.size_replicate]
end Go.Proofs.Ytlkifliaaaomeaa
