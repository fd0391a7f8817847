/-
  Four bytes as a map's key; what a map of the program's is good for: whatever stands at a key stood there ahead.
-/
import Derived.Test.YtdkkbplkclcabaaLzAlike
import Derived.Maps.OwnSet
import Derived.DeepKeys4
namespace Go.Proofs.Ytdkkbplkclcabaa
open Go.RowKit Go.Maps
set_option linter.unusedVariables false
set_option linter.unnecessarySimpa false
set_option linter.unusedSimpArgs false
set_option maxRecDepth 100000

abbrev F4 := UInt8 × UInt8 × UInt8 × UInt8
def key4 (x : F4) : Lit := .string [x.1, x.2.1, x.2.2.1, x.2.2.2]
theorem key4_inj {x y : F4} (h : key4 x = key4 y) : x = y := by
  obtain ⟨a, b, c, d⟩ := x
  obtain ⟨a', b', c', d'⟩ := y
  simp only [key4, Lit.string.injEq, List.cons.injEq, and_true] at h
  obtain ⟨rfl, rfl, rfl, rfl⟩ := h
  rfl
theorem key_laidOut : laidOutB Try.prog = true := by kernel_rfl
theorem key_row : 52 < Try.prog.types.size := of_decide_eq_true (by kernel_rfl)
theorem key_type : Try.prog.keyTypeAt 2 52 = true := by kernel_rfl
theorem key_wide : (match Try.prog.underlying 52 with | some (.array _ _) | some (.struct _) => true | _ => false) = true := by kernel_rfl
theorem klaw : Keyed Try.prog 52 := Keyed.of_law (deep_law_laid key_laidOut (m := 2) (by omega) key_row key_type key_wide)
theorem key_ok : Try.prog.keyType 52 = true := by kernel_rfl
theorem key_cells : Try.prog.cellsOf 52 = 4 := by kernel_rfl
theorem u8_cells : Try.prog.cellsOf 5 = 1 := by kernel_rfl
theorem u8_wf (x : UInt8) : (Lit.int .u8 (x.toNat : Int)).wf = true := by
  have := UInt8.toNat_lt x
  simp [Lit.wf, IntKind.min, IntKind.max, IntKind.bits, IntKind.signed]
  omega

theorem lits_u8 (m : Nat) (x : UInt8) : Try.prog.keyLits (m + 1) 5 [.int .u8 x.toNat] = some [.int .u8 x.toNat] := by
  unfold Program.keyLits
  rw [Try.underlying5]
  simp [u8_wf]
theorem ba_byte (x : UInt8) : bytesBE 1 ((x.toNat : Int) % 2 ^ 8).toNat = [x] := by
  have := UInt8.toNat_lt x
  have e : ((x.toNat : Int) % 2 ^ 8).toNat = x.toNat := by omega
  rw [e]
  simp only [bytesBE, bytesLE, List.reverse_cons, List.reverse_nil, List.nil_append]
  rw [Nat.mod_eq_of_lt (by omega)]
  simp
theorem keyOf_four (x : F4) : keyOf Try.prog 52 (.agg (four x)) = some (key4 x) := by
  obtain ⟨a, b, c, d⟩ := x
  have hf : (Value.agg (four (a, b, c, d))).formed Try.prog 52 = true := by
    unfold Value.formed
    rw [Try.underlying52, key_cells]
    rfl
  obtain ⟨m, hm⟩ : ∃ m, Try.prog.types.size = m + 1 := ⟨Try.prog.types.size - 1, by have := key_row; omega⟩
  have hl : Try.prog.keyLits (Try.prog.types.size + 1) 52 (Value.agg (four (a, b, c, d))).cells.toList = some [.int .u8 a.toNat, .int .u8 b.toNat, .int .u8 c.toNat, .int .u8 d.toNat] := by
    rw [hm]
    unfold Program.keyLits
    rw [Try.underlying52]
    simp only [key_cells, u8_cells, Value.cells, four]
    rw [if_pos (by rfl)]
    simp [List.range, List.range.loop, lits_u8]
  unfold keyOf
  rw [Try.underlying52]
  simp only [key_ok, hf, hl, Bool.and_self, if_true, Option.map_some]
  simp only [key4, keyBytes, List.flatMap_cons, List.flatMap_nil, Lit.keyBytes, IntKind.bits]
  have e := fun y => ba_byte y
  simp only [e, show 8 / 8 = 1 from rfl, List.cons_append, List.nil_append, List.append_nil]
end Go.Proofs.Ytdkkbplkclcabaa
