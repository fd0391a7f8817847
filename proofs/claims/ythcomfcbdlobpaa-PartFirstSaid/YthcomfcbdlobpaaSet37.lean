/-
  Joined: LzTake, LzLong, LzPack, MvcContractsB, ChnPTake, ChnPVer, ChnPDec, BlkPTake, BlkPEnt.
-/
import Derived.Test.YthcomfcbdlobpaaSet36
import Derived.Test.YthcomfcbdlobpaaShelf
import Derived.Test.YthcomfcbdlobpaaSet33
import Derived.Test.YthcomfcbdlobpaaSet35
import Derived.Test.YthcomfcbdlobpaaSet30
import Derived.Test.YthcomfcbdlobpaaSet34
import Derived.StillTailTactics
import Derived.Deep.DeepCutAuto
import Derived.OwnWalk
import Derived.Laws.OwnMore
namespace Go.Proofs.Ythcomfcbdlobpaa
open Go.RowKit
set_option linter.unusedVariables false
set_option linter.unnecessarySimpa false
set_option linter.unusedSimpArgs false
set_option maxRecDepth 100000
set_option linter.unusedSectionVars false

/-- A part, in the run of the steps. -/
theorem uRun_part {f n t : Nat} {o l : List UInt8} (ht : t % 2 = 0) (h : t = 0 ∨ o.length < n) (ho : o.length ≤ n) (hf : l.length + 1 ≤ f) :
    match partR n o l with
    | none => uRun f n t o l = none
    | some (o', r) => ∃ f' t', uRun f n t o l = uRun f' n t' o' r ∧ t' ≠ 0 ∧ (o'.length < n → t' % 2 = 0) ∧ r.length + 1 ≤ f' ∧ r.length < l.length ∧ o'.length ≤ n := by
  obtain ⟨f1, rfl⟩ : ∃ f1, f = f1 + 1 := ⟨f - 1, by omega⟩
  have e0 : (t % 2 == 1) = false := by rw [beq_eq_false_iff_ne]; omega
  unfold partR
  cases h1 : uStep n false o l with
  | none => exact uRun_none h (by rw [e0]; exact h1)
  | some p =>
    obtain ⟨o1, r1⟩ := p
    have hl1 := uStep_less h1 ho
    have hrun := uRun_some (f := f1) h (by rw [e0]; exact h1)
    by_cases hE : o1.length = n
    · simp only [if_pos hE]
      exact ⟨f1, t + 1, hrun, by omega, fun h => by omega, by omega, hl1.1, hl1.2⟩
    · simp only [if_neg hE]
      obtain ⟨f2, rfl⟩ : ∃ f2, f1 = f2 + 1 := ⟨f1 - 1, by omega⟩
      have e1 : ((t + 1) % 2 == 1) = true := by rw [beq_iff_eq]; omega
      cases h2 : uStep n true o1 r1 with
      | none => rw [hrun]; exact uRun_none (.inr (by omega)) (by rw [e1]; exact h2)
      | some p =>
        obtain ⟨o2, r2⟩ := p
        have hl2 := uStep_less h2 hl1.2
        exact ⟨f2, t + 2, by rw [hrun]; exact uRun_some (.inr (by omega)) (by rw [e1]; exact h2), by omega, fun _ => by omega, by omega, by omega, hl2.2⟩

def fin (o r : List UInt8) : Option (List UInt8) := if r = [] then some o else none
theorem clone_any (s : ByteArray) (w : World) (h : s.size ≤ 281474976710656) : Calls Try.prog 49 #[.string s] w fun e w' => e = .returned (.string s) ∧ Below w.heap.size w w' := by
  have H := Lib.hid (Try.stringslite_Clone s w h)
  go_enter Try.func49, Try.ntmps49
  go_wp2_with (go_at_call 60; refine H.out.mono ?_; rintro e w1 ⟨rfl, hb1⟩)
  go_ret
  exact ⟨rfl, hb1⟩

/-- What stands behind the number of bytes. -/
def inside (n : Nat) : List UInt8 → Option (List UInt8)
  | [] => none
  | how :: rest => if how = 0 ∧ rest.length = n then some rest else if ¬ how = 1 then none else uRun (rest.length + 1) n 0 [] rest
theorem inside_zero {n : Nat} {rest : List UInt8} (h : n ≤ rest.length) : inside n (0 :: rest) = fin (rest.take n) (rest.drop n) := by
  show (if (0 : UInt8) = 0 ∧ rest.length = n then some rest else if ¬ (0 : UInt8) = 1 then none else uRun (rest.length + 1) n 0 [] rest) = if rest.drop n = [] then some (rest.take n) else none
  by_cases h2 : rest.length = n
  · rw [if_pos ⟨rfl, h2⟩, if_pos (List.drop_of_length_le (by omega)), List.take_of_length_le (by omega)]
  · rw [if_neg (fun h3 => h2 h3.2), if_pos (by decide), if_neg (by intro e; have := congrArg List.length e; simp at this; omega)]
theorem inside_short {n : Nat} {rest : List UInt8} (h : rest.length < n) : inside n (0 :: rest) = none := by
  show (if (0 : UInt8) = 0 ∧ rest.length = n then some rest else if ¬ (0 : UInt8) = 1 then none else uRun (rest.length + 1) n 0 [] rest) = none
  rw [if_neg (fun h3 => by omega), if_pos (by decide)]
theorem inside_one {n : Nat} {rest : List UInt8} : inside n (1 :: rest) = uRun (rest.length + 1) n 0 [] rest := by
  show (if (1 : UInt8) = 0 ∧ rest.length = n then some rest else if ¬ (1 : UInt8) = 1 then none else uRun (rest.length + 1) n 0 [] rest) = _
  rw [if_neg (fun h3 => absurd h3.1 (by decide)), if_neg (by decide)]
theorem inside_other {n : Nat} {how : UInt8} {rest : List UInt8} (h0 : ¬ how = 0) (h1 : ¬ how = 1) : inside n (how :: rest) = none := by
  show (if how = 0 ∧ rest.length = n then some rest else if ¬ how = 1 then none else uRun (rest.length + 1) n 0 [] rest) = none
  rw [if_neg (fun h3 => h0 h3.1), if_pos h1]
theorem one_byte_ne {a b : UInt8} (h : ¬ a = b) : ((⟨#[a]⟩ : ByteArray).toList == [b]) = false := by
  rw [beq_eq_false_iff_ne, Lib.toList_data]
  intro e
  injection e with e
  exact h e

section
end

/-- What packed bytes mean, by what stands behind the number. -/
theorem unp_inside {s : List UInt8} {n k : Nat} (h : tk s = some (n, k)) (hn : ¬ 60000 < n) : unp s = match inside n (s.drop k) with
    | none => ([], 2)
    | some o => (o, 0) := by
  unfold unp
  rw [h]
  simp only
  rw [if_neg hn]
  unfold inside
  cases s.drop k with
  | nil => rfl
  | cons how rest =>
    simp only
    split
    · rfl
    · split
      · rfl
      · cases uRun (rest.length + 1) n 0 [] rest <;> rfl

end Go.Proofs.Ythcomfcbdlobpaa

namespace Go.Proofs.Ythcomfcbdlobpaa
open Go.RowKit
set_option linter.unnecessarySimpa false
set_option linter.unusedVariables false
set_option linter.unusedSimpArgs false
set_option maxRecDepth 100000

def filled (k i : Nat) (c : UInt8) : List UInt8 := cellsF k fun j => if j < i then c else 0
theorem filled_len (k i : Nat) (c : UInt8) : (filled k i c).length = k := cellsF_length _ _

end Go.Proofs.Ythcomfcbdlobpaa

namespace Go.Proofs.Ythcomfcbdlobpaa
open Go.RowKit
set_option linter.unusedVariables false
set_option linter.unnecessarySimpa false
set_option linter.unusedSimpArgs false
set_option maxRecDepth 100000

theorem packed_in (b : ByteArray) (P : List UInt8) : (((⟨(ub b.size).toArray⟩ : ByteArray) ++ ⟨#[1]⟩) ++ ⟨P.toArray⟩).data.toList = ub b.size ++ 1 :: P := by simp
theorem packed_as (b : ByteArray) : (((⟨(ub b.size).toArray⟩ : ByteArray) ++ ⟨#[0]⟩) ++ b).data.toList = ub b.size ++ 0 :: b.data.toList := by simp

/-- What Pack makes of bytes. -/
noncomputable def packF (b : ByteArray) : ByteArray := if (partsF b).length < b.size then ⟨(ub b.size ++ 1 :: partsF b).toArray⟩ else ⟨(ub b.size ++ 0 :: b.data.toList).toArray⟩
end Go.Proofs.Ythcomfcbdlobpaa

namespace Go.Proofs.Ythcomfcbdlobpaa
open Go.RowKit
set_option linter.unusedVariables false
set_option linter.unnecessarySimpa false
set_option linter.unusedSimpArgs false
set_option maxRecDepth 100000

/-- The image of a store: what Encode answers of its keys and chains. -/
noncomputable def imgS (L : List Im) : ByteArray := blkS (packF (insideS (entsM L)))
structure MvcD extends MvcC where
section
variable {S : MvcD} {w0 w w' : World} {B : Nat} {far : Nat → Prop} {r : Addr} {L : List Im}
end
end Go.Proofs.Ythcomfcbdlobpaa

namespace Go.Proofs.Ythcomfcbdlobpaa
open Go.RowKit
set_option linter.unusedVariables false
set_option linter.unnecessarySimpa false
set_option linter.unusedSimpArgs false
set_option maxRecDepth 100000

theorem cU_len (s : ByteArray) (b : Bool) : (cUint s b).2.1.size ≤ s.size ∧ (cUint s b).1 < 18446744073709551616 := by
  unfold cUint
  cases b with
  | true => simp
  | false =>
    simp only [Bool.false_eq_true, if_false]
    split
    · simp
    · rename_i h
      refine ⟨by rw [ByteArray.size_extract]; omega, ?_⟩
      unfold tkN
      cases ht : tk s.data.toList with
      | none => simp
      | some p => exact (tk_some (n := p.1) (k := p.2) ht).2.1
theorem cT_len (s : ByteArray) (b : Bool) : (cText s b).2.1.size ≤ s.size ∧ (cText s b).1.size ≤ s.size := by
  unfold cText
  split
  · exact ⟨Nat.le_refl _, Nat.zero_le _⟩
  · simp only [ByteArray.size_extract]; omega

/-- What the calls of a cursor tell of a value's head. -/
structure ValHead (base l : List UInt8) (h t : Nat) (m X1 X2 X3 : ByteArray) (b1 b2 b3 : Bool) : Prop where
  f1 : cUint ⟨l.toArray⟩ false = (h, X1, b1)
  f2 : cUint X1 b1 = (t, X2, b2)
  f3 : cText X2 b2 = (m, X3, b3)
  hlt : h < 18446744073709551616
  tlt : t < 18446744073709551616
  s1 : X1.size ≤ l.length
  s2 : X2.size ≤ l.length
  s3 : X3.size ≤ l.length
  sm : m.size ≤ l.length
  no : b3 = true → tkVal base l = none
  yes : b3 = false → tkVal base l = valOf base h t m.data.toList X3.data.toList
theorem valHead_of (base l : List UInt8) : ∃ h t m X1 X2 X3 b1 b2 b3, ValHead base l h t m X1 X2 X3 b1 b2 b3 := by
  rcases f1 : cUint ⟨l.toArray⟩ false with ⟨h, X1, b1⟩
  rcases f2 : cUint X1 b1 with ⟨t, X2, b2⟩
  rcases f3 : cText X2 b2 with ⟨m, X3, b3⟩
  have g1 := cU_len ⟨l.toArray⟩ false
  have g2 := cU_len X1 b1
  have g3 := cT_len X2 b2
  rw [f1, arr_size l] at g1
  rw [f2] at g2
  rw [f3] at g3
  simp only at g1 g2 g3
  refine ⟨h, t, m, X1, X2, X3, b1, b2, b3, ⟨by first | exact f1 | rfl, f2, f3, g1.2, g2.2, g1.1, by omega, by omega, by omega, ?_, ?_⟩⟩
  · rintro rfl
    unfold tkVal
    cases h1 : tk l with
    | none => rfl
    | some p =>
      obtain ⟨h', k1⟩ := p
      simp only
      rw [uN_some h1] at f1
      cases f1
      cases h2 : tk (l.drop k1) with
      | none => rfl
      | some p =>
        obtain ⟨t', k2⟩ := p
        simp only
        rw [uN_some h2] at f2
        cases f2
        cases h3 : tk ((l.drop k1).drop k2) with
        | none => rfl
        | some p =>
          obtain ⟨n, k3⟩ := p
          simp only
          by_cases hn : n ≤ (((l.drop k1).drop k2).drop k3).length
          · rw [cT_full h3 hn] at f3; cases f3
          · rw [if_neg hn]
  · rintro rfl
    unfold tkVal
    cases h1 : tk l with
    | none =>
      rw [uN_none h1] at f1
      cases f1
      rw [uN_bad l] at f2
      cases f2
      simp [cText] at f3
    | some p =>
      obtain ⟨h', k1⟩ := p
      simp only
      rw [uN_some h1] at f1
      cases f1
      cases h2 : tk (l.drop k1) with
      | none =>
        rw [uN_none h2] at f2
        cases f2
        simp [cText] at f3
      | some p =>
        obtain ⟨t', k2⟩ := p
        simp only
        rw [uN_some h2] at f2
        cases f2
        cases h3 : tk ((l.drop k1).drop k2) with
        | none => rw [cT_none h3] at f3; cases f3
        | some p =>
          obtain ⟨n, k3⟩ := p
          simp only
          by_cases hn : n ≤ (((l.drop k1).drop k2).drop k3).length
          · rw [cT_full h3 hn] at f3
            cases f3
            rw [if_pos hn]
          · rw [cT_short h3 (by omega)] at f3; cases f3

theorem grown_of_below {w w' : World} {r : Option Nat} (h : Below w.heap.size w w') : w.grownBy w' r := ⟨h.os, h.tape, h.output, h.size, fun k hk _ => h.block k hk⟩
end Go.Proofs.Ythcomfcbdlobpaa

namespace Go.Proofs.Ythcomfcbdlobpaa
open Go.RowKit
set_option linter.unusedVariables false
set_option linter.unnecessarySimpa false
set_option linter.unusedSimpArgs false
set_option maxRecDepth 100000

theorem grown_setRow {w : World} {g : Nat} {cs : Array Value} : w.grownBy (w.setRow g cs) (some g) := ⟨rfl, rfl, rfl, by simp, fun k _ hk => setRow_other w g k _ (fun e => hk (by rw [e]))⟩
/-- Changed: block g, and nothing else that was there ahead of w. -/
theorem grown_over {w w1 w2 : World} {g P : Nat} (h : w.grownBy w1 (some g)) (hg : w1.grownBy w2 (some P)) (hP : w.heap.size ≤ P) : w.grownBy w2 (some g) :=
  ⟨hg.os.trans h.os, hg.tape.trans h.tape, hg.output.trans h.output, Nat.le_trans h.size hg.size, fun k hk hkg => (hg.block k (Nat.lt_of_lt_of_le hk h.size) (fun e => by injection e with e; omega)).trans (h.block k hk hkg)⟩

theorem drew_grown {w w' : World} {r : Option Nat} (h : w.drew.grownBy w' r) : w.grownBy w' r := ⟨h.os, h.tape, h.output, h.size, h.block⟩
def sumT (t s : Nat) : Nat := (t + s) % 18446744073709551616
/-- What the calls of a cursor tell of a version's head. -/
structure VerHead (t : Nat) (base l : List UInt8) (s : Nat) (one X1 X2 : ByteArray) (b1 b2 : Bool) : Prop where
  f1 : cUint ⟨l.toArray⟩ false = (s, X1, b1)
  f2 : cBytes X1 b1 1 = (one, X2, b2)
  slt : s < 18446744073709551616
  s1 : X1.size ≤ l.length
  s2 : X2.size ≤ l.length
  low : sumT t s ≤ t → tkVer t base l = none
  gone : t < sumT t s → one.data.toList = [1] → b2 = false ∧ tkVer t base l = some (⟨sumT t s, true, ⟨#[]⟩⟩, X2.data.toList)
  there : t < sumT t s → one.data.toList = [0] → b2 = false ∧ tkVer t base l = (match tkVal base X2.data.toList with | none => none | some (v, r') => some (⟨sumT t s, false, ⟨v.toArray⟩⟩, r'))
  no : t < sumT t s → one.data.toList ≠ [1] → one.data.toList ≠ [0] → tkVer t base l = none
theorem cB_len (s : ByteArray) (b : Bool) (n : Int) : (cBytes s b n).2.1.size ≤ s.size := by
  unfold cBytes
  split
  · exact Nat.le_refl _
  · simp only [ByteArray.size_extract]; omega
theorem verHead_of (t : Nat) (base l : List UInt8) (ht : t < 18446744073709551616) : ∃ s one X1 X2 b1 b2, VerHead t base l s one X1 X2 b1 b2 := by
  rcases f1 : cUint ⟨l.toArray⟩ false with ⟨s, X1, b1⟩
  rcases f2 : cBytes X1 b1 1 with ⟨one, X2, b2⟩
  have g1 := cU_len ⟨l.toArray⟩ false
  have g2 := cB_len X1 b1 1
  rw [f1, arr_size l] at g1
  rw [f2] at g2
  simp only at g1 g2
  suffices H : (sumT t s ≤ t → tkVer t base l = none) ∧ (t < sumT t s → one.data.toList = [1] → b2 = false ∧ tkVer t base l = some (⟨sumT t s, true, ⟨#[]⟩⟩, X2.data.toList)) ∧
      (t < sumT t s → one.data.toList = [0] → b2 = false ∧ tkVer t base l = (match tkVal base X2.data.toList with | none => none | some (v, r') => some (⟨sumT t s, false, ⟨v.toArray⟩⟩, r'))) ∧
      (t < sumT t s → one.data.toList ≠ [1] → one.data.toList ≠ [0] → tkVer t base l = none) from
    ⟨s, one, X1, X2, b1, b2, ⟨f1, f2, g1.2, g1.1, by omega, H.1, H.2.1, H.2.2.1, H.2.2.2⟩⟩
  cases h1 : tk l with
  | none =>
    rw [uN_none h1] at f1
    cases f1
    have e : sumT t 0 = t := by unfold sumT; rw [Nat.add_zero, Nat.mod_eq_of_lt ht]
    rw [e]
    exact ⟨fun _ => by unfold tkVer; rw [h1], fun h => absurd h (Nat.lt_irrefl _), fun h => absurd h (Nat.lt_irrefl _), fun h => absurd h (Nat.lt_irrefl _)⟩
  | some p =>
    obtain ⟨s', k⟩ := p
    rw [uN_some h1] at f1
    cases f1
    unfold tkVer
    rw [h1]
    simp only
    cases hd : l.drop k with
    | nil =>
      have f3 := cB_short (l := l.drop k) (k := 1) (by rw [hd]; decide)
      rw [show ((1 : Nat) : Int) = 1 from rfl, f2] at f3
      cases f3
      exact ⟨fun _ => rfl, fun _ h => (by cases h), fun _ h => (by cases h), fun _ _ _ => rfl⟩
    | cons x r =>
      have f3 := cB_full (l := l.drop k) (k := 1) (by rw [hd]; simp)
      rw [show ((1 : Nat) : Int) = 1 from rfl, f2, hd] at f3
      cases f3
      simp only [List.take_succ_cons, List.take_zero, List.drop_succ_cons, List.drop_zero]
      refine ⟨fun h => if_pos h, fun h hx => ?_, fun h hx => ?_, fun h n1 n0 => ?_⟩
      · injection hx with hx
        exact ⟨by first | trivial | rfl, by rw [if_neg (by unfold sumT at h; omega), if_pos hx]; rfl⟩
      · injection hx with hx
        exact ⟨by first | trivial | rfl, by rw [if_neg (by unfold sumT at h; omega), if_neg (by rw [hx]; decide), if_pos hx]; rfl⟩
      · rw [if_neg (by unfold sumT at h; omega), if_neg (fun e => n1 (by rw [e])), if_neg (fun e => n0 (by rw [e]))]
theorem vr_one (v : Vr) : v.cells.all (·.oneCell') = true := by simp [Vr.cells, Value.oneCell']
theorem vr_size (v : Vr) : (Try.prog.info? 42).map (·.size) = some v.cells.size := verSize
end Go.Proofs.Ythcomfcbdlobpaa

namespace Go.Proofs.Ythcomfcbdlobpaa
open Go.RowKit
set_option linter.unusedVariables false
set_option linter.unnecessarySimpa false
set_option linter.unusedSimpArgs false
set_option maxRecDepth 100000

theorem verInfoP : (Try.prog.info? 42).map (fun i => (i.zero, i.size, i.bytes)) = some (some (.agg #[.int .u64 0, .bool false, .string ⟨#[]⟩]), 3, 32) := by kernel_rfl
/-! Versions' cells, one behind the other. -/
def versC (l : List Vr) : List Value := l.flatMap fun v => [.int .u64 (v.time : Int), .bool v.gone, .string v.val]
theorem versC_len : ∀ l : List Vr, (versC l).length = l.length * 3
  | [] => rfl
  | v :: l => by
    have := versC_len l
    unfold versC at this ⊢
    rw [List.flatMap_cons, List.length_append, this, List.length_cons]
    simp; omega
theorem versC_snoc (l : List Vr) (v : Vr) : versC (l ++ [v]) = versC l ++ [.int .u64 (v.time : Int), .bool v.gone, .string v.val] := by simp [versC]
theorem versC_at : ∀ (l : List Vr) (i : Nat), i < l.length → (versC l)[i * 3]? = some (.int .u64 ((l.getD i vr0).time : Int)) ∧ (versC l)[i * 3 + 1]? = some (.bool (l.getD i vr0).gone) ∧ (versC l)[i * 3 + 2]? = some (.string (l.getD i vr0).val)
  | [], i, h => by simp at h
  | v :: l, 0, _ => ⟨rfl, rfl, rfl⟩
  | v :: l, i + 1, h => by
    have := versC_at l i (by simpa using h)
    have e : versC (v :: l) = [.int .u64 (v.time : Int), .bool v.gone, .string v.val] ++ versC l := by simp [versC]
    rw [e, show (i + 1) * 3 = 3 + i * 3 by omega, show 3 + i * 3 + 1 = 3 + (i * 3 + 1) by omega, show 3 + i * 3 + 2 = 3 + (i * 3 + 2) by omega]
    refine ⟨?_, ?_, ?_⟩
    · rw [List.getElem?_append_right (by simp)]; simpa using this.1
    · rw [List.getElem?_append_right (by simp)]; simpa using this.2.1
    · rw [List.getElem?_append_right (by simp)]; simpa using this.2.2
theorem versC_vers {w : World} {B n c : Nat} {a : Option Addr} {zs : List Vr} (h : w.ownsRow B 42 3 (.slice a n c) n (versC zs)) (hn : zs.length = n) (hl : n ≤ 1000) (ht : ∀ v ∈ zs, v.time < 18446744073709551616) (hv : ∀ v ∈ zs, v.val.size ≤ 60000) : IsVers w a n c zs := by
  refine ⟨⟨hn, fun i hi => ?_⟩, by unfold maxLen; omega⟩
  obtain ⟨g, cap, e, hg, hgl⟩ := own_slice h (by omega)
  injection e with e1 e2 e3
  subst e1 e3
  have hm : zs.getD i vr0 ∈ zs := by rw [List.getD, List.getElem?_eq_getElem (by omega)]; exact List.getElem_mem _
  obtain ⟨h0, h1, h2⟩ := versC_at zs i (by omega)
  refine ⟨g, 0, rfl, hgl, ht _ hm, by have := hv _ hm; unfold maxLen; omega, ?_, ?_, ?_⟩
  · rw [Nat.zero_add, h.cellAt (i * 3) (by omega)]; exact h0
  · rw [Nat.zero_add, h.cellAt (i * 3 + 1) (by omega)]; exact h1
  · rw [Nat.zero_add, h.cellAt (i * 3 + 2) (by omega)]; exact h2

theorem own_belowP {w w' : World} {base e n sz : Nat} {v : Value} {xs : List Value} (h : w.ownsRow base e sz v n xs) (hb : Below w.heap.size w w') : w'.ownsRow base e sz v n xs := by
  refine ⟨h.1, ?_⟩
  rcases h.2 with hn | ⟨g, cap, cur, rfl, hb0, hgg, rest⟩
  · exact .inl hn
  · exact .inr ⟨g, cap, cur, rfl, hb0, (hb.block g (Array.getElem?_eq_some_iff.1 hgg).1).trans hgg, rest⟩
def finO : DecO → DecO
  | .all zs [] => .all zs []
  | .all _ (_ :: _) => .form
  | x => x
theorem decB_none {l : List UInt8} (h : tk l = none) : decB l = .form := by unfold decB; rw [h]
theorem decB_big {l : List UInt8} {n k : Nat} (h : tk l = some (n, k)) (hn : 200 < n) : decB l = .form := by unfold decB; rw [h]; simp only; rw [if_pos hn]
theorem decB_some {l : List UInt8} {n k : Nat} (h : tk l = some (n, k)) (hn : n ≤ 200) : decB l = finO (decR n 0 [] 60000 (l.drop k)) := by
  unfold decB
  rw [h]
  simp only
  rw [if_neg (by omega)]
  cases decR n 0 [] 60000 (l.drop k) with
  | form => rfl
  | long => rfl
  | all zs r => cases r <;> rfl
theorem step_none {g t room : Nat} {base l : List UInt8} {acc : List Vr} (h : tkVer t base l = none) : finO ((decR (g + 1) t base room l).ahead acc) = .form := by rw [decR, h]; rfl
theorem step_long {g t room : Nat} {base l : List UInt8} {acc : List Vr} {v : Vr} {r : List UInt8} (h : tkVer t base l = some (v, r)) (hr : room < v.val.size) : finO ((decR (g + 1) t base room l).ahead acc) = .long := by
  rw [decR, h]; simp only; rw [if_pos hr]; rfl
theorem step_next {g t room : Nat} {base l : List UInt8} {acc : List Vr} {v : Vr} {r : List UInt8} (h : tkVer t base l = some (v, r)) (hr : v.val.size ≤ room) :
    finO ((decR (g + 1) t base room l).ahead acc) = finO ((decR g v.time (nextB base v) (room - v.val.size) r).ahead (acc ++ [v])) := by
  rw [decR, h]; simp only; rw [if_neg (by omega), DecO.ahead_snoc]
theorem tkVer_size {t : Nat} {base l : List UInt8} {v : Vr} {r : List UInt8} (ht : t < 18446744073709551616) (h : tkVer t base l = some (v, r)) : v.val.size ≤ base.length + l.length := by
  obtain ⟨e, ⟨_, _, k3⟩, _⟩ := tkVer_some ht h
  cases hg : v.gone with
  | true => rw [k3 hg]; exact Nat.zero_le _
  | false =>
    have h1 := tailN_le base v.val.data.toList
    have h2 := mkVal_len (b := base) (mid := midB base v.val.data.toList) (h := headN base v.val.data.toList) (t := tailN base v.val.data.toList) (by omega) (by omega)
    rw [mkVal_back, c_size] at h2
    have h3 := congrArg List.length e
    unfold verB at h3
    rw [hg] at h3
    simp only [Bool.false_eq_true, if_false] at h3
    rw [valB_body] at h3
    unfold bodyB at h3
    simp only [List.length_append, List.length_cons] at h3
    omega
/-- Versions handed back in new memory, beside an error. -/
def VersNew (zs : List Vr) (k : Int) (w : World) (e : Ending) (w' : World) : Prop := ∃ a c, e = .returned (.tuple #[.slice a zs.length c, .int .i64 k]) ∧ IsVers w' a zs.length c zs ∧ Below w.heap.size w w' ∧ w'.ownsRow w.heap.size 42 3 (.slice a zs.length c) zs.length (versC zs)
theorem VersNew.out {zs : List Vr} {k : Int} {w w' : World} {e : Ending} (h : VersNew zs k w e w') : VersOut zs k w e w' := by
  obtain ⟨a, c, h1, h2, h3, _⟩ := h
  exact ⟨a, c, h1, h2, h3⟩
theorem own_new {W : World} {B e size n : Nat} {a : Option Addr} {c : Nat} {xs : List Value} (h : W.ownsRow B e size (.slice a n c) n xs) {m : Nat} (hm : m ≤ B) : ∀ p : Addr, a = some p → m ≤ p.block ∧ p.block < W.heap.size := fun p hp => by
  subst hp
  exact ⟨Nat.le_trans hm (h.lt p.block rfl).1, (h.lt p.block rfl).2⟩
theorem own_lower {W : World} {B e size n : Nat} {v : Value} {xs : List Value} (h : W.ownsRow B e size v n xs) {m : Nat} (hm : m ≤ B) : W.ownsRow m e size v n xs := by
  refine ⟨h.1, ?_⟩
  rcases h.2 with hn | ⟨g, cap, cur, hv, hb, rest⟩
  · exact .inl hn
  · exact .inr ⟨g, cap, cur, hv, Nat.le_trans hm hb, rest⟩
/-- What Decode tells. -/
def DecEnd (F : DecO) (w : World) (e : Ending) (w' : World) : Prop := match F with
  | .form => VersNew [] 2 w e w'
  | .long => VersNew [] 3 w e w'
  | .all zs _ => VersNew zs 0 w e w'
theorem none_vers (w : World) : IsVers w none 0 0 [] := ⟨⟨rfl, fun i hi => absurd hi (by omega)⟩, Nat.zero_le _⟩
theorem dec_form {F : DecO} {w w' : World} (h : F = .form) (hb : Below w.heap.size w w') : DecEnd F w (.returned (.tuple #[.slice none 0 0, .int .i64 2])) w' := by
  rw [h]; exact ⟨none, 0, rfl, none_vers _, hb, World.ownsRow_nil _ _ _ _⟩
theorem dec_long {F : DecO} {w w' : World} (h : F = .long) (hb : Below w.heap.size w w') : DecEnd F w (.returned (.tuple #[.slice none 0 0, .int .i64 3])) w' := by
  rw [h]; exact ⟨none, 0, rfl, none_vers _, hb, World.ownsRow_nil _ _ _ _⟩
theorem dec_all {F : DecO} {zs : List Vr} {r : List UInt8} {w w' : World} {a : Option Addr} {n c : Nat} (h : F = .all zs r) (hn : zs.length = n) (hv : IsVers w' a n c zs) (hb : Below w.heap.size w w') (hp : w'.ownsRow w.heap.size 42 3 (.slice a n c) n (versC zs)) : DecEnd F w (.returned (.tuple #[.slice a n c, .int .i64 0])) w' := by
  rw [h]; subst hn; exact ⟨a, c, rfl, hv, hb, hp⟩

end Go.Proofs.Ythcomfcbdlobpaa

namespace Go.Proofs.Ythcomfcbdlobpaa
open Go.RowKit
set_option linter.unusedVariables false
set_option linter.unnecessarySimpa false
set_option linter.unusedSimpArgs false
set_option maxRecDepth 100000

/-! What stays while a cursor is written. -/
/-! What the calls of a cursor tell. -/
theorem text_tells (X : ByteArray) : ∃ vs X2 b2, cText X false = (vs, X2, b2) ∧ X2.size ≤ X.size ∧ vs.size ≤ X.size ∧ (b2 = true → tkTxt X.data.toList = none) ∧ (b2 = false → tkTxt X.data.toList = some (vs.data.toList, X2.data.toList)) := by
  have hl := cT_len X false
  have eb : (⟨X.data.toList.toArray⟩ : ByteArray) = X := ba_ext (by simp)
  cases h : tkTxt X.data.toList with
  | none =>
    have := cT_txt_none h
    rw [eb] at this
    rw [this] at hl
    exact ⟨_, _, _, this, hl.1, hl.2, fun _ => rfl, fun h => (by cases h)⟩
  | some p =>
    obtain ⟨t, r⟩ := p
    have := cT_txt_some h
    rw [eb] at this
    rw [this] at hl
    exact ⟨_, _, _, this, hl.1, hl.2, fun h => (by cases h), fun _ => rfl⟩
structure KeyHead (es : List En) (l : List UInt8) (b : Nat) (o X1 X2 : ByteArray) (b1 b2 : Bool) : Prop where
  f1 : cUint ⟨l.toArray⟩ false = (b, X1, b1)
  f2 : cText X1 b1 = (o, X2, b2)
  blt : b < 18446744073709551616
  s1 : X1.size ≤ l.length
  s2 : X2.size ≤ l.length
  os : o.size ≤ l.length
  no : b2 = true → tkKey es l = none
  yes : b2 = false → tkKey es l = if keyOk es b o.data.toList = true then some (keyIs es b o.data.toList, X2.data.toList) else none
theorem keyHead_of (es : List En) (l : List UInt8) : ∃ b o X1 X2 b1 b2, KeyHead es l b o X1 X2 b1 b2 := by
  rcases f1 : cUint ⟨l.toArray⟩ false with ⟨b, X1, b1⟩
  rcases f2 : cText X1 b1 with ⟨o, X2, b2⟩
  have g1 := cU_len ⟨l.toArray⟩ false
  have g2 := cT_len X1 b1
  rw [f1, arr_size l] at g1
  rw [f2] at g2
  simp only at g1 g2
  refine ⟨b, o, X1, X2, b1, b2, ⟨by first | exact f1 | rfl, f2, g1.2, g1.1, by omega, by omega, ?_, ?_⟩⟩
  · rintro rfl
    unfold tkKey
    cases h1 : tk l with
    | none => rfl
    | some p =>
      obtain ⟨n, k⟩ := p
      simp only
      rw [uN_some h1] at f1
      cases f1
      cases h2 : tkTxt (l.drop k) with
      | none => rfl
      | some p =>
        obtain ⟨t, r⟩ := p
        rw [cT_txt_some h2] at f2
        cases f2
  · rintro rfl
    unfold tkKey
    cases h1 : tk l with
    | none =>
      rw [uN_none h1] at f1
      cases f1
      simp [cText] at f2
    | some p =>
      obtain ⟨n, k⟩ := p
      simp only
      rw [uN_some h1] at f1
      cases f1
      cases h2 : tkTxt (l.drop k) with
      | none => rw [cT_txt_none h2] at f2; cases f2
      | some p =>
        obtain ⟨t, r⟩ := p
        rw [cT_txt_some h2] at f2
        cases f2
        rfl

end Go.Proofs.Ythcomfcbdlobpaa

namespace Go.Proofs.Ythcomfcbdlobpaa
open Go.RowKit
set_option linter.unusedVariables false
set_option linter.unnecessarySimpa false
set_option linter.unusedSimpArgs false
set_option maxRecDepth 100000

theorem tkEnt_no1 {es : List En} {l : List UInt8} (h : tkKey es l = none) : tkEnt es l = none := by unfold tkEnt; rw [h]
theorem tkEnt_no2 {es : List En} {l r : List UInt8} {key : ByteArray} (h : tkKey es l = some (key, r)) (h2 : tkTxt r = none) : tkEnt es l = none := by unfold tkEnt; rw [h]; simp only; rw [h2]
theorem tkEnt_dec {es : List En} {l r vs r2 : List UInt8} {key : ByteArray} (h : tkKey es l = some (key, r)) (h2 : tkTxt r = some (vs, r2)) : tkEnt es l = match decB vs with
      | .form => none
      | .long => some (⟨key, []⟩, true, r2)
      | .all [] _ => none
      | .all (z :: zs) _ => some (⟨key, z :: zs⟩, false, r2) := by unfold tkEnt; rw [h]; simp only; rw [h2]; rfl

theorem entSize : (Try.prog.info? 109).map (·.size) = some 2 := by kernel_rfl
theorem vers_setRow {w : World} {P : Nat} {x y : Value} {t : TypeId} (hr : w.heap[P]? = some (.cells #[x, y] t (0, 0))) (hx : ∀ n, x ≠ .int .u64 n) (hy : ∀ n, y ≠ .int .u64 n) {cs : Array Value} {a : Option Addr} {len cap : Nat} {zs : List Vr} (h : IsVers w a len cap zs) : IsVers (w.setRow P cs) a len cap zs := by
  refine ⟨⟨h.1.1, fun i hi => ?_⟩, h.2⟩
  obtain ⟨b, off, ha, hlt, h1, h2, h3, h4, h5⟩ := h.1.2 i hi
  have hne : b ≠ P := fun e => by
    subst e
    rw [cell_of_row _ _ _ _ _ _ hr] at h3
    generalize off + i * 3 = k at h3
    match k, h3 with
    | 0, h3 => exact hx _ (by simpa using h3)
    | 1, h3 => exact hy _ (by simpa using h3)
    | k + 2, h3 => simp at h3
  have hb : (w.setRow P cs).heap[b]? = w.heap[b]? := setRow_other w P b cs hne
  have key : ∀ k, (w.setRow P cs).cell? ⟨b, k, none⟩ = w.cell? ⟨b, k, none⟩ := fun k => by unfold World.cell?; rw [hb]
  exact ⟨b, off, ha, by simpa using hlt, h1, h2, (key _).trans h3, (key _).trans h4, (key _).trans h5⟩
end Go.Proofs.Ythcomfcbdlobpaa
