/-
  The walk of the document's Uint: it answers a number's bytes.
-/
import Derived.Test.YtahohdbkkcdmiaaFixMath
import Derived.ProofKit
import Derived.WalkSpells
import Derived.WalkLawsBesides
import Derived.Lib.Hide
namespace Go.Proofs.Ytahohdbkkcdmiaa
open Go.RowKit
set_option linter.unnecessarySimpa false
set_option linter.unusedVariables false
set_option linter.unusedSimpArgs false
set_option maxRecDepth 100000

set_option maxRecDepth 100000 in
set_option maxHeartbeats 800000 in
theorem refUint_any (n : Nat) (hn : n < 18446744073709551616) (w : World) :
    Calls Try.prog 26 #[.int .u64 n] w fun e w' => e = .returned (.string ⟨(ub n).toArray⟩) ∧ Below w.heap.size w w' := by
  obtain ⟨i0, hi, hz0, hz1, hz2⟩ := info_parts u8info
  have hlen := Lib.hid (ub_len10 hn)
  have HN := Lib.hid hn
  clear hn
  go_enter Try.func26, Try.ntmps26
  go_wp2_with fail
  go_loopw [0, 3] (fun t v wr => ∃ (m : Nat) (done : List UInt8), t = .int .u64 m ∧ Hid (m < 18446744073709551616) ∧ wr.ownsRow w.heap.size 5 1 v done.length (Lib.byteCells done) ∧ Hid (done ++ ub m = ub n) ∧ Below w.heap.size w wr) (fun t _ _ => (intOf t).toNat)
  case atStart => exact ⟨n, [], rfl, HN, World.ownsRow_nil _ _ _ _, Lib.hid rfl, Below.refl _ _⟩
  case round =>
    obtain ⟨m, done, rfl, hm, hown, hd, hb⟩ := hrel
    have hl := congrArg List.length hd.out
    rw [List.length_append] at hl
    have hp := ub_pos m
    have hll := hlen.out
    have hdl : done.length ≤ 9 := by omega
    clear hl hll hp
    have hor := Lib.hid (show (m : Int) % 128 + 128 = ((UInt8.ofNat (m % 128 + 128)).toNat : Int) by simp only [UInt8.toNat_ofNat']; omega)
    have hone := Lib.hid (cell_one_new wr (.int .u8 ((m : Int) % 128 + 128)) 5)
    by_cases h : 128 ≤ m
    · have hm64 : (m : Int) ≤ 18446744073709551615 := by have := hm.out; omega
      have hub := Lib.hid (ub_big (n := m) (by omega))
      go_wp2_with (at_builtin; refine wpList_append_own _ rfl _ _ 43 rfl w.heap.size 5 i0 (.int .u8 0) 1 1 Try.underlying43 hi hz0 hz1 hz2 rfl (by decide) _ _ _ rfl (hown.alloc _) ⟨wr.heap.size, 0, none⟩ 1 1 [.int .u8 ((m : Int) % 128 + 128)] rfl rfl ?c1 ?c2 ?c3 ?c4 ?c5 ?c6)
      case c1 => exact hone.out
      case c2 => simp [Value.oneCell']
      case c3 => simp [maxLen]; omega
      case c4 => simp; omega
      case c5 => have := hb.size; simp; omega
      case c6 =>
        intro v' w1 hown1 hg1 _
        rw [hor.out, cells_snoc] at hown1
        go_wp2_with fail
        clear hone hor
        refine ⟨⟨m / 128, done ++ [UInt8.ofNat (m % 128 + 128)], by go_num, Lib.hid (by have := hm.out; omega), by rw [List.length_append]; exact hown1, Lib.hid ?_, (hb.alloc hb.size _).grown hg1 (by have := hb.size; simp; omega) (fun k hk => (hown.lt k hk).1)⟩, ?_⟩
        · have h1 := hd.out
          rw [hub.out] at h1
          simpa using h1
        · simp [intOf]; omega
    · have hm' : m ≤ 127 := by omega
      have hub := Lib.hid (ub_small (n := m) (by omega))
      have hone2 := Lib.hid (cell_one_new wr (.int .u8 (m : Int)) 5)
      have e256 := Lib.hid (show (m : Int) = ((UInt8.ofNat m).toNat : Int) by simp only [UInt8.toNat_ofNat']; omega)
      go_wp2_with (at_builtin; refine wpList_append_own _ rfl _ _ 43 rfl w.heap.size 5 i0 (.int .u8 0) 1 1 Try.underlying43 hi hz0 hz1 hz2 rfl (by decide) _ _ _ rfl (hown.alloc _) ⟨wr.heap.size, 0, none⟩ 1 1 [.int .u8 (m : Int)] rfl rfl ?c1 ?c2 ?c3 ?c4 ?c5 ?c6)
      case c1 => exact hone2.out
      case c2 => simp [Value.oneCell']
      case c3 => simp [maxLen]; omega
      case c4 => simp; omega
      case c5 => have := hb.size; simp; omega
      case c6 =>
        intro v' w1 hown1 hg1 hnil
        have hown2 : w1.ownsRow w.heap.size 5 1 v' (done.length + 1) (Lib.byteCells (done ++ [UInt8.ofNat m])) := by rw [← cells_snoc, ← e256.out]; exact hown1
        have hnn : ¬ v' = .slice none 0 0 := hnil
        have hcv := convert_own (P := Try.prog) (src := 43) (dst := 9) hown2 hnn Try.underlying43 Try.underlying5 Try.underlying9
        have hfin : done ++ [UInt8.ofNat m] = ub n := by have h1 := hd.out; rw [hub.out] at h1; exact h1
        rw [hfin] at hcv
        have HB := (hb.alloc hb.size (.cells #[.int .u8 (m : Int)] 5)).grown hg1 (by have := hb.size; simp; omega) (fun k hk => (hown.lt k hk).1)
        clear hone hor hone2 e256 hnil hfin hown1 hown2
        go_wp2_with fail
        go_ret
        exact ⟨rfl, HB⟩
end Go.Proofs.Ytahohdbkkcdmiaa
