/-
  Joined: ChnProgram, LzKit, LzFour, LzAlike, LzKey.
-/
import Derived.Test.YtplobffkelmokaaChnPDec
import Derived.Test.YtplobffkelmokaaLzCur
import Derived.Lib.AppendStr
import Derived.Lib.IndexBytes
import Derived.Deep.LoopGhost
import Derived.Deep.DeepCutAuto
import Derived.Deep.CutBlock
import Derived.Deep.QuietTactic
import Derived.BigQuiet
import Derived.Test.YtplobffkelmokaaSet07
import Derived.StillTailTactics
import Derived.IntWalk
import Derived.Deep.WholeRow
import Derived.Laws.Rows
import Derived.Laws.Tables
import Derived.Laws.CopyOwn
import Derived.Maps.OwnSet
import Derived.DeepKeys4
namespace Go.Proofs.Ytplobffkelmokaa
open Go.RowKit
set_option linter.unusedVariables false
set_option linter.unnecessarySimpa false
set_option linter.unusedSimpArgs false
set_option maxRecDepth 100000

theorem versB_lenP : ∀ (zs : List Vr) (t : Nat) (b : List UInt8), (∀ v ∈ zs, v.time < 18446744073709551616 ∧ v.val.size ≤ 60000) → b.length ≤ 60000 → (versB t b zs).length ≤ zs.length * 60100
  | [], t, b, _, _ => by simp [versB]
  | v :: zs, t, b, h, hb => by
    have h1 := h v (by simp)
    have h2 := verB_len (t := t) hb h1.1 h1.2
    have h3 : (nextB b v).length ≤ 60000 := by
      unfold nextB; split
      · exact hb
      · rw [c_size]; exact h1.2
    have h4 := versB_lenP zs v.time (nextB b v) (fun x hx => h x (by simp [hx])) h3
    rw [versB_cons, List.length_append, List.length_cons]
    omega
theorem chainS_size {zs : List Vr} (h : okV zs) (hv : ∀ v ∈ zs, v.val.size ≤ 60000) : (chainS zs).size ≤ 20000000 := by
  have h2 := (right_parts h.1).2
  have h3 := versB_lenP zs 0 [] (fun v hx => ⟨h.2 v hx, hv v hx⟩) (by simp)
  have h4 := ub_len10 (n := zs.length) (by omega)
  unfold chainS chainB
  rw [arr_size, List.length_append]
  omega
theorem chainS_list (zs : List Vr) : (chainS zs).data.toList = chainB zs := rfl
theorem chnC : ChnC where
  encYes a len cap zs w hz hr hv := encode_yes a len cap zs w hz hr hv
  encNo a len cap zs w hz hr _ _ := encode_no a len cap zs w hz hr
  right a len cap zs w hz _ _ := right_any a len cap zs w hz
  decYes zs w h ha := by
    have hv : ∀ v ∈ zs, v.val.size ≤ 60000 := fun v hx => Nat.le_trans (allN_mem zs v hx) ha
    refine (decode_any (chainS zs) (chainS_size h hv) w).mono fun e w' hd => ?_
    rw [chainS_list, decB_chain h hv, if_pos ha] at hd
    exact hd.out
  decLong zs w h ha hv := by
    refine (decode_any (chainS zs) (chainS_size h hv) w).mono fun e w' hd => ?_
    rw [chainS_list, decB_chain h hv, if_neg (by omega)] at hd
    exact hd.out
  decNo b w hb hno := by
    refine (decode_any b (by omega) w).mono fun e w' hd => ?_
    cases hF : decB b.data.toList with
    | form => rw [hF] at hd; exact .inl (VersNew.out hd)
    | long => rw [hF] at hd; exact .inr (VersNew.out hd)
    | all zs r =>
      exfalso
      obtain ⟨h1, h2, h3, _⟩ := decB_all hF
      exact hno ⟨zs, h2, h3, c_ba_ext h1⟩
end Go.Proofs.Ytplobffkelmokaa

namespace Go.Proofs.Ytplobffkelmokaa
open Go.RowKit
set_option linter.unusedVariables false
set_option linter.unnecessarySimpa false
set_option linter.unusedSimpArgs false
set_option maxRecDepth 100000
theorem cells_len (o : List UInt8) : (Lib.byteCells o).length = o.length := Lib.byteCells_length o
end Go.Proofs.Ytplobffkelmokaa

namespace Go.Proofs.Ytplobffkelmokaa
open Go.RowKit
set_option linter.unusedVariables false
set_option linter.unnecessarySimpa false
set_option linter.unusedSimpArgs false
set_option maxRecDepth 100000

/-- The byte at a place. -/
def bt (s : ByteArray) (i : Nat) : UInt8 := s.data.toList.getD i 0
theorem bt_nat (s : ByteArray) (i : Nat) (h : i < s.size) : s[i].toNat = (bt s i).toNat := by
  unfold bt
  rw [List.getD, List.getElem?_eq_getElem (by rw [Array.length_toList]; exact h)]
  rfl
/-- Four bytes as a value, and as a key. -/
def four (x : UInt8 × UInt8 × UInt8 × UInt8) : Array Value := #[.int .u8 x.1.toNat, .int .u8 x.2.1.toNat, .int .u8 x.2.2.1.toNat, .int .u8 x.2.2.2.toNat]
def fours (s : ByteArray) (i : Nat) : UInt8 × UInt8 × UInt8 × UInt8 := (bt s i, bt s (i + 1), bt s (i + 2), bt s (i + 3))

theorem i64_add (a k : Int) (h0 : 0 ≤ a + k) (h : a + k ≤ 1000000) : IntKind.i64.wrap (a + k) = a + k := IntWalk.i64_in _ (by omega)
theorem w64_add (a k : Int) (h0 : 0 ≤ a + k) (h : a + k ≤ 1000000) : wrap64 (a + k) = a + k := IntWalk.wrap64_in _ (by omega)
theorem four_wraps (a : Nat) (h : a ≤ 100000) : IntKind.i64.wrap ((a : Int) + 1) = (a : Int) + 1 ∧ IntKind.i64.wrap ((a : Int) + 2) = (a : Int) + 2 ∧ IntKind.i64.wrap ((a : Int) + 3) = (a : Int) + 3 ∧
    wrap64 ((a : Int) + 1) = (a : Int) + 1 ∧ wrap64 ((a : Int) + 2) = (a : Int) + 2 ∧ wrap64 ((a : Int) + 3) = (a : Int) + 3 :=
  ⟨i64_add _ _ (by omega) (by omega), i64_add _ _ (by omega) (by omega), i64_add _ _ (by omega) (by omega), w64_add _ _ (by omega) (by omega), w64_add _ _ (by omega) (by omega), w64_add _ _ (by omega) (by omega)⟩

theorem same_wraps (a b m n : Nat) (h0 : a + m ≤ n) (h1 : b + m ≤ n) (h : n ≤ 100000) : IntKind.i64.wrap ((a : Int) + (m : Int)) = (a : Int) + (m : Int) ∧ IntKind.i64.wrap ((b : Int) + (m : Int)) = (b : Int) + (m : Int) ∧
    wrap64 ((a : Int) + (m : Int)) = (a : Int) + (m : Int) ∧ wrap64 ((b : Int) + (m : Int)) = (b : Int) + (m : Int) :=
  ⟨i64_add _ _ (by omega) (by omega), i64_add _ _ (by omega) (by omega), w64_add _ _ (by omega) (by omega), w64_add _ _ (by omega) (by omega)⟩

set_option maxHeartbeats 2000000 in
theorem fourAt_any (s : ByteArray) (at_ : Nat) (h : at_ + 4 ≤ s.size) (hs : s.size ≤ 100000) (w : World) :
    Calls Try.prog 59 #[.string s, .int .i64 at_] w fun e w' => e = .returned (.agg (four (fours s at_))) ∧ Below w.heap.size w w' := by
  have hs6 : at_ ≤ 100000 := by omega
  have b0 := bt_nat s at_ (by omega)
  have b1 := bt_nat s (at_ + 1) (by omega)
  have b2 := bt_nat s (at_ + 2) (by omega)
  have b3 := bt_nat s (at_ + 3) (by omega)
  have q0 : (at_ : Int) < (s.size : Int) := by omega
  have q1 : (at_ : Int) + 1 < (s.size : Int) := by omega
  have q2 : (at_ : Int) + 2 < (s.size : Int) := by omega
  have q3 : (at_ : Int) + 3 < (s.size : Int) := by omega
  have p1 : (0 : Int) ≤ (at_ : Int) + 1 := by omega
  have p2 : (0 : Int) ≤ (at_ : Int) + 2 := by omega
  have p3 : (0 : Int) ≤ (at_ : Int) + 3 := by omega
  have n1 : ((at_ : Int) + 1).toNat = at_ + 1 := by omega
  have n2 : ((at_ : Int) + 2).toNat = at_ + 2 := by omega
  have n3 : ((at_ : Int) + 3).toNat = at_ + 3 := by omega
  obtain ⟨e1, e2, e3, w1, w2, w3⟩ := four_wraps at_ hs6
  go_enter Try.func59, Try.ntmps59
  go_upto_region 1 with fail
  go_still_tail 16, (by kernel_rfl)
  change wpList _ _ _ _ _ (World.drew _)
  go_wp2_with fail
  exact bodyPost_ret (v := .agg (four (fours s at_))) (by simp [results, Try.results59, go_sem, four, fours]) rfl ⟨rfl, ((Below.refl _ _).alloc (Nat.le_refl _) _).drew⟩

end Go.Proofs.Ytplobffkelmokaa

namespace Go.Proofs.Ytplobffkelmokaa
open Go.RowKit
set_option linter.unusedVariables false
set_option linter.unnecessarySimpa false
set_option linter.unusedSimpArgs false
set_option maxRecDepth 100000

/-- As many bytes are the same, and no more. -/
def Same (s : ByteArray) (a b m : Nat) : Prop := b + m ≤ s.size ∧ (∀ i, i < m → bt s (a + i) = bt s (b + i)) ∧ (b + m < s.size → ¬ bt s (a + m) = bt s (b + m))
theorem bt_eq {s : ByteArray} {i j : Nat} : (((bt s i).toNat : Int) == ((bt s j).toNat : Int)) = decide (bt s i = bt s j) := by
  by_cases h : bt s i = bt s j
  · rw [h]; simp
  · rw [decide_eq_false h, beq_eq_false_iff_ne]
    intro e
    exact h (UInt8.toNat_inj.1 (by omega))

theorem below_drewN {B : Nat} {w w' : World} (h : Below B w w') (n : Nat) : Below B w (w'.drewN n) := ⟨h.os, h.tape, h.output, h.size, h.block⟩

set_option maxHeartbeats 2000000 in
theorem alike_any (s : ByteArray) (a b : Nat) (hab : a < b) (hb : b ≤ s.size) (hs : s.size ≤ 100000) (w : World) :
    Calls Try.prog 60 #[.string s, .int .i64 a, .int .i64 b] w fun e w' => ∃ m : Nat, e = .returned (.int .i64 m) ∧ Hid (Same s a b m) ∧ Below w.heap.size w w' := by
  go_enter Try.func60, Try.ntmps60
  go_wp2_with fail
  go_loopg [7] (s.size - b) (fun q s7 wx => ∃ m : Nat, b + m + q = s.size ∧ s7 = .int .i64 m ∧ Hid (∀ i, i < m → bt s (a + i) = bt s (b + i)) ∧ Hid (Below w.heap.size w wx))
  case atStart => exact ⟨0, by omega, rfl, Lib.hid (fun i hi => absurd hi (Nat.not_lt_zero _)), Lib.hid (Below.refl _ _)⟩
  case round =>
    obtain ⟨m, hmq, rfl, hsame, hbel⟩ := hrel
    by_cases hlt : b + m < s.size
    · obtain ⟨q, rfl⟩ : ∃ q, gk = q + 1 := ⟨gk - 1, by omega⟩
      have hla : a + m < s.size := by omega
      have b0 := bt_nat s (a + m) hla
      have b1 := bt_nat s (b + m) hlt
      have q0 : (a : Int) + (m : Int) < (s.size : Int) := by omega
      have q1 : (b : Int) + (m : Int) < (s.size : Int) := by omega
      have p0 : (0 : Int) ≤ (a : Int) + (m : Int) := by omega
      have p1 : (0 : Int) ≤ (b : Int) + (m : Int) := by omega
      have n0 : ((a : Int) + (m : Int)).toNat = a + m := by omega
      have n1 : ((b : Int) + (m : Int)).toNat = b + m := by omega
      have hm1 : m ≤ 100000 := by omega
      have HM := Lib.hid (show b + (m + 1) + q = s.size by omega)
      have HL := Lib.hid hlt
      have HC := Lib.hid (show b + m ≤ s.size by omega)
      have hd : decide ((b : Int) + (m : Int) < (s.size : Int)) = true := decide_eq_true q1
      obtain ⟨e0, e1, w0, w1⟩ := same_wraps a b m s.size (by omega) (by omega) hs
      by_cases heq : bt s (a + m) = bt s (b + m)
      · have hbe : (((bt s (a + m)).toNat : Int) == ((bt s (b + m)).toNat : Int)) = true := by rw [bt_eq]; exact decide_eq_true heq
        have HE := Lib.hid (show ∀ i, i < m + 1 → bt s (a + i) = bt s (b + i) from fun i hi => by
          by_cases e : i = m
          · subst e; exact heq
          · exact hsame.out i (by omega))
        clear heq hmq
        go_upto_region 2 with fail
        go_quiet (fail)
        go_wp2_with fail
        go_roundg q
        case measure => omega
        case rel => exact ⟨m + 1, HM.out, by simp, HE, Lib.hid (below_drewN hbel.out nq)⟩
      · have hbe : (((bt s (a + m)).toNat : Int) == ((bt s (b + m)).toNat : Int)) = false := by rw [bt_eq]; exact decide_eq_false heq
        have HE := Lib.hid (show Same s a b m from ⟨by omega, hsame.out, fun _ => heq⟩)
        clear heq hmq
        go_upto_region 2 with fail
        go_quiet (fail)
        go_wp2_with fail
        go_ret
        exact ⟨m, rfl, HE, below_drewN hbel.out nq⟩
    · have hd : decide ((b : Int) + (m : Int) < (s.size : Int)) = false := decide_eq_false (by omega)
      have HE := Lib.hid (show Same s a b m from ⟨by omega, hsame.out, fun h => absurd h hlt⟩)
      obtain ⟨_, e1, _, w1⟩ := same_wraps 0 b m s.size (by omega) (by omega) hs
      clear hmq
      go_upto_region 2 with fail
      go_quiet (fail)
      go_wp2_with fail
      go_ret
      exact ⟨m, rfl, HE, below_drewN hbel.out nq⟩

set_option maxHeartbeats 1000000 in
theorem copyOf_any (d n : Nat) (hd : d ≤ 100000) (hn : n ≤ 100000) (w : World) :
    Calls Try.prog 61 #[.int .i64 d, .int .i64 n] w fun e w' => e = .returned (.string ⟨(ub d ++ ub n).toArray⟩) ∧ Below w.heap.size w w' := by
  have hu1 := Lib.hid (fun w => uint_any d (by omega) w)
  have hu2 := Lib.hid (fun w => uint_any n (by omega) w)
  have hz1 : (⟨(ub d).toArray⟩ : ByteArray).size ≤ 10 := by rw [arr_size]; exact ub_len10 (by omega)
  have hz2 : (⟨(ub n).toArray⟩ : ByteArray).size ≤ 10 := by rw [arr_size]; exact ub_len10 (by omega)
  obtain ⟨U1, hU1⟩ : ∃ U : ByteArray, U = ⟨(ub d).toArray⟩ := ⟨_, rfl⟩
  obtain ⟨U2, hU2⟩ : ∃ U : ByteArray, U = ⟨(ub n).toArray⟩ := ⟨_, rfl⟩
  have hadd := Lib.hid (show U1 ++ U2 = ⟨(ub d ++ ub n).toArray⟩ by rw [hU1, hU2]; apply ByteArray.ext; simp)
  rw [← hU1] at hu1 hz1
  rw [← hU2] at hu2 hz2
  have hwd : IntKind.u64.wrap (d : Int) = (d : Int) := by simp [IntKind.wrap, IntKind.bits, IntKind.signed]; omega
  have hwn : IntKind.u64.wrap (n : Int) = (n : Int) := by simp [IntKind.wrap, IntKind.bits, IntKind.signed]; omega
  have hsA : U1.size + U2.size ≤ 9223372036854775807 := by omega
  clear hU1 hU2
  go_enter Try.func61, Try.ntmps61
  go_wp2_with (first
    | (go_at_call 23; with_reducible refine (hu1.out _).mono ?_; rintro e w5 ⟨rfl, hb5⟩)
    | (go_at_call 23; with_reducible refine (hu2.out _).mono ?_; rintro e w6 ⟨rfl, hb6⟩))
  go_ret
  exact ⟨by rw [← hadd.out]; rfl, hb5.trans (hb6.mono hb5.size)⟩
end Go.Proofs.Ytplobffkelmokaa

namespace Go.Proofs.Ytplobffkelmokaa
open Go.RowKit Go.Maps
set_option linter.unusedVariables false
set_option linter.unnecessarySimpa false
set_option linter.unusedSimpArgs false
set_option maxRecDepth 100000

abbrev F4 := UInt8 × UInt8 × UInt8 × UInt8
def key4 (x : F4) : Lit := .string [x.1, x.2.1, x.2.2.1, x.2.2.2]
theorem key4_inj {x y : F4} (h : key4 x = key4 y) : x = y := by
  obtain ⟨a, b, c, d⟩ := x
  obtain ⟨a', b', c', d'⟩ := y
  simp only [key4, Lit.string.injEq, List.cons.injEq, and_true] at h
  obtain ⟨rfl, rfl, rfl, rfl⟩ := h
  rfl
theorem key_laidOut : laidOutB Try.prog = true := by kernel_rfl
theorem key_row : 99 < Try.prog.types.size := of_decide_eq_true (by kernel_rfl)
theorem key_type : Try.prog.keyTypeAt 2 99 = true := by kernel_rfl
theorem key_wide : (match Try.prog.underlying 99 with | some (.array _ _) | some (.struct _) => true | _ => false) = true := by kernel_rfl
theorem klaw : Keyed Try.prog 99 := Keyed.of_law (deep_law_laid key_laidOut (m := 2) (by omega) key_row key_type key_wide)
theorem key_ok : Try.prog.keyType 99 = true := by kernel_rfl
theorem key_cells : Try.prog.cellsOf 99 = 4 := by kernel_rfl
theorem u8_cells : Try.prog.cellsOf 5 = 1 := by kernel_rfl
theorem u8_wf (x : UInt8) : (Lit.int .u8 (x.toNat : Int)).wf = true := by
  have := UInt8.toNat_lt x
  simp [Lit.wf, IntKind.min, IntKind.max, IntKind.bits, IntKind.signed]
  omega

theorem lits_u8 (m : Nat) (x : UInt8) : Try.prog.keyLits (m + 1) 5 [.int .u8 x.toNat] = some [.int .u8 x.toNat] := by
  unfold Program.keyLits
  rw [Try.underlying5]
  simp [u8_wf]
theorem ba_byte (x : UInt8) : bytesBE 1 ((x.toNat : Int) % 2 ^ 8).toNat = [x] := by
  have := UInt8.toNat_lt x
  have e : ((x.toNat : Int) % 2 ^ 8).toNat = x.toNat := by omega
  rw [e]
  simp only [bytesBE, bytesLE, List.reverse_cons, List.reverse_nil, List.nil_append]
  rw [Nat.mod_eq_of_lt (by omega)]
  simp
theorem keyOf_four (x : F4) : keyOf Try.prog 99 (.agg (four x)) = some (key4 x) := by
  obtain ⟨a, b, c, d⟩ := x
  have hf : (Value.agg (four (a, b, c, d))).formed Try.prog 99 = true := by
    unfold Value.formed
    rw [Try.underlying99, key_cells]
    rfl
  obtain ⟨m, hm⟩ : ∃ m, Try.prog.types.size = m + 1 := ⟨Try.prog.types.size - 1, by have := key_row; omega⟩
  have hl : Try.prog.keyLits (Try.prog.types.size + 1) 99 (Value.agg (four (a, b, c, d))).cells.toList = some [.int .u8 a.toNat, .int .u8 b.toNat, .int .u8 c.toNat, .int .u8 d.toNat] := by
    rw [hm]
    unfold Program.keyLits
    rw [Try.underlying99]
    simp only [key_cells, u8_cells, Value.cells, four]
    rw [if_pos (by rfl)]
    simp [List.range, List.range.loop, lits_u8]
  unfold keyOf
  rw [Try.underlying99]
  simp only [key_ok, hf, hl, Bool.and_self, if_true, Option.map_some]
  simp only [key4, keyBytes, List.flatMap_cons, List.flatMap_nil, Lit.keyBytes, IntKind.bits]
  have e := fun y => ba_byte y
  simp only [e, show 8 / 8 = 1 from rfl, List.cons_append, List.nil_append, List.append_nil]
end Go.Proofs.Ytplobffkelmokaa
