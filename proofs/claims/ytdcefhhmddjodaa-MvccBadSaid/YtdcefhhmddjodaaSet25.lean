/-
  Joined: LzPart, LzContracts.
-/
import Derived.Test.YtdcefhhmddjodaaSet24
import Derived.Test.YtdcefhhmddjodaaSet12
import Derived.ProofKit
import Derived.OpenShut
namespace Go.Proofs.Ytdcefhhmddjodaa
open Go.RowKit
set_option linter.unusedSectionVars false
set_option linter.unusedVariables false
set_option linter.unnecessarySimpa false
set_option linter.unusedSimpArgs false
set_option maxRecDepth 100000

/-- A part: the bytes that are there behind it, and what is left. -/
def partR (n : Nat) (o l : List UInt8) : Option (List UInt8 × List UInt8) :=
  match uStep n false o l with
  | none => none
  | some (o1, r1) => if o1.length = n then some (o1, r1) else uStep n true o1 r1
def PartOut (B g n : Nat) (o l : List UInt8) (w : World) (e : Ending) (w' : World) : Prop :=
  (e = .returned (.tuple #[.slice none 0 0, .bool false]) ∧ partR n o l = none ∧ Kept B g w w') ∨
  ∃ v' o' r, e = .returned (.tuple #[v', .bool true]) ∧ partR n o l = some (o', r) ∧ Hid (w'.ownsRow B 5 1 v' o'.length (Lib.byteCells o')) ∧ Hid (CurL w' g r false) ∧ Kept B g w w'
theorem PartOut.no {B g n : Nat} {o l : List UInt8} {w w' : World} (h : partR n o l = none) (hk : Kept B g w w') : PartOut B g n o l w (.returned (.tuple #[.slice none 0 0, .bool false])) w' := .inl ⟨rfl, h, hk⟩
theorem PartOut.yes {B g n : Nat} {o l o' r : List UInt8} {w w' : World} {v' : Value} (h : partR n o l = some (o', r)) (hv : w'.ownsRow B 5 1 v' o'.length (Lib.byteCells o')) (hc : CurL w' g r false) (hk : Kept B g w w') :
    PartOut B g n o l w (.returned (.tuple #[v', .bool true])) w' := .inr ⟨v', o', r, rfl, h, Lib.hid hv, Lib.hid hc, hk⟩

/-! A part's outcomes. -/
theorem partR_none {n : Nat} {o l : List UInt8} (h : tk l = none) : partR n o l = none := by unfold partR; rw [step_bad h]
theorem partR_short {n v m : Nat} {o l : List UInt8} (h : tk l = some (v, m)) (h2 : ¬ (v ≤ (l.drop m).length ∧ v ≤ n - o.length)) : partR n o l = none := by unfold partR; rw [step_lit h, if_neg h2]
theorem partR_full {n v m : Nat} {o l : List UInt8} (h : tk l = some (v, m)) (h2 : v ≤ (l.drop m).length ∧ v ≤ n - o.length) :
    partR n o l = if (o ++ (l.drop m).take v).length = n then some (o ++ (l.drop m).take v, (l.drop m).drop v) else uStep n true (o ++ (l.drop m).take v) ((l.drop m).drop v) := by unfold partR; rw [step_lit h, if_pos h2]

/-- Two numbers, one behind the other, as the cursor tells them: a copy, or none. -/
theorem two_step {n : Nat} {o r : List UInt8} {d m : Nat} {R1 R2 : ByteArray} {b1 b2 : Bool} (h1 : cUint ⟨r.toArray⟩ false = (d, R1, b1)) (h2 : cUint R1 b1 = (m, R2, b2)) :
    d < 18446744073709551616 ∧ m < 18446744073709551616 ∧ (uStep n true o r = if 1 ≤ d ∧ d ≤ o.length ∧ 4 ≤ m ∧ m ≤ n - o.length then some (copyTo m d o, R2.data.toList) else none) ∧
      ((1 ≤ d ∧ d ≤ o.length ∧ 4 ≤ m ∧ m ≤ n - o.length) → b2 = false) := by
  cases hk : tk r with
  | none =>
    rw [uN_none hk] at h1
    simp only [Prod.mk.injEq] at h1
    obtain ⟨rfl, rfl, rfl⟩ := h1
    rw [uN_bad] at h2
    simp only [Prod.mk.injEq] at h2
    obtain ⟨rfl, rfl, rfl⟩ := h2
    refine ⟨by omega, by omega, ?_, fun h => by omega⟩
    rw [step_bad hk, if_neg (by omega)]
  | some p =>
    obtain ⟨d', k⟩ := p
    have hd := (tk_some hk).2.1
    rw [uN_some hk] at h1
    simp only [Prod.mk.injEq] at h1
    obtain ⟨rfl, rfl, rfl⟩ := h1
    cases hk2 : tk (r.drop k) with
    | none =>
      rw [uN_none hk2] at h2
      simp only [Prod.mk.injEq] at h2
      obtain ⟨rfl, rfl, rfl⟩ := h2
      refine ⟨hd, by omega, ?_, fun h => by omega⟩
      rw [step_copy_bad hk hk2, if_neg (by omega)]
    | some p =>
      obtain ⟨m', k2⟩ := p
      have hm := (tk_some hk2).2.1
      rw [uN_some hk2] at h2
      simp only [Prod.mk.injEq] at h2
      obtain ⟨rfl, rfl, rfl⟩ := h2
      exact ⟨hd, hm, step_copy hk hk2, fun _ => rfl⟩
theorem cUint_size (s : ByteArray) (bad : Bool) : (cUint s bad).2.1.size ≤ s.size := by
  unfold cUint
  split
  · exact Nat.le_refl _
  · split
    · exact Nat.le_refl _
    · simp

section
variable (B g n : Nat) (v : Value) (o l : List UInt8) (hn : n ≤ 60000) (ho : o.length ≤ n) (hl : l.length ≤ 100000) (w : World) (hg : g < B) (hB : B ≤ w.heap.size) (hc : CurL w g l false)
  (hv : w.ownsRow B 5 1 v o.length (Lib.byteCells o))
include hn ho hl hg hB hc hv

set_option maxHeartbeats 1000000 in
theorem part_bad (ht : cText ⟨l.toArray⟩ false = (ByteArray.empty, ⟨l.toArray⟩, true)) (hp : partR n o l = none) :
    Calls Try.prog 93 #[.pointer (some ⟨g, 0, none⟩), v, .int .i64 n] w (PartOut B g n o l w) := by
  have HT := Lib.hid (cur_text g ⟨l.toArray⟩ false w (by rw [arr_size]; unfold maxLen; omega) hc)
  rw [ht] at HT
  have HP := Lib.hid hp
  clear ht hp hc hv
  go_enter Try.func93, Try.ntmps93
  go_wp2_with (first
    | (go_at_call 79; refine HT.out.mono ?_; rintro e w1 ⟨rfl, hc1, hg1⟩)
    | (go_at_call 57; refine (bad_any g _ true _ hc1).mono ?_; rintro e w2 ⟨rfl, rfl⟩))
  go_ret2
  exact PartOut.no HP.out (Kept.of_grown hg1 hB)

set_option maxHeartbeats 1000000 in
theorem part_big (S r : List UInt8) (ht : cText ⟨l.toArray⟩ false = (⟨S.toArray⟩, ⟨r.toArray⟩, false)) (hS : n < o.length + S.length) (hS2 : S.length ≤ 100000) (hp : partR n o l = none) :
    Calls Try.prog 93 #[.pointer (some ⟨g, 0, none⟩), v, .int .i64 n] w (PartOut B g n o l w) := by
  have HT := Lib.hid (cur_text g ⟨l.toArray⟩ false w (by rw [arr_size]; unfold maxLen; omega) hc)
  rw [ht] at HT
  have HP := Lib.hid hp
  obtain ⟨a, cap, rfl⟩ := own_form hv
  have hs := arr_size S
  obtain ⟨X, hX⟩ : ∃ X : ByteArray, X = ⟨S.toArray⟩ := ⟨_, rfl⟩
  rw [← hX] at HT hs
  have hs1 : n < o.length + X.size := by omega
  have hs2 : X.size ≤ 100000 := by omega
  clear ht hp hc hv hs hX hS hS2
  go_enter Try.func93, Try.ntmps93
  go_wp2_with (first
    | (go_at_call 79; refine HT.out.mono ?_; rintro e w1 ⟨rfl, hc1, hg1⟩)
    | (go_at_call 57; refine (bad_any g _ false _ hc1).mono ?_; rintro e w2 ⟨rfl, rfl⟩))
  go_ret2
  exact PartOut.no HP.out (Kept.of_grown hg1 hB)

set_option maxHeartbeats 4000000 in
theorem part_good (S r : List UInt8) (ht : cText ⟨l.toArray⟩ false = (⟨S.toArray⟩, ⟨r.toArray⟩, false)) (hS : o.length + S.length ≤ n) (hr : r.length ≤ 100000)
    (hp : partR n o l = if (o ++ S).length = n then some (o ++ S, r) else uStep n true (o ++ S) r) :
    Calls Try.prog 93 #[.pointer (some ⟨g, 0, none⟩), v, .int .i64 n] w (PartOut B g n o l w) := by
  obtain ⟨i0, hi, hz0, hz1, hz2⟩ := info_parts u8info
  have HT := Lib.hid (cur_text g ⟨l.toArray⟩ false w (by rw [arr_size]; unfold maxLen; omega) hc)
  rw [ht] at HT
  have HP := Lib.hid hp
  have HR := Lib.hid hr
  have HV := Lib.hid hv
  obtain ⟨a, cap, rfl⟩ := own_form hv
  have hs := arr_size S
  obtain ⟨X, hX⟩ : ∃ X : ByteArray, X = ⟨S.toArray⟩ := ⟨_, rfl⟩
  have HX := Lib.hid (show Lib.byteCells (o ++ S) = Lib.byteCells o ++ Lib.strCells X by rw [hX]; simp [Lib.byteCells, Lib.strCells])
  have e3 := Lib.hid (show (o ++ S).length = o.length + X.size by rw [List.length_append, hX, arr_size])
  rw [← hX] at HT hs
  have hs1 : o.length + X.size ≤ n := by omega
  clear ht hp hc hv hs hX hS hr
  go_enter Try.func93, Try.ntmps93
  go_upto_region 4 with (first
    | (go_at_call 79; refine HT.out.mono ?_; rintro e w1 ⟨rfl, hc1, hg1⟩)
    | (go_at_call 57; refine (bad_any g _ false _ hc1).mono ?_; rintro e w2 ⟨rfl, rfl⟩))
  have HO1 := own_grown HV.out hg1 hg
  have HC1 := Lib.hid hc1
  have K1 := Lib.hid (Kept.of_grown (B := B) hg1 hB)
  have hB1 : B ≤ w1.heap.size := Nat.le_trans hB hg1.size
  clear hc1 hg1
  go_upto_region 5 with (at_builtin; refine Lib.wpList_append_own_string _ rfl _ _ 70 9 rfl B 5 i0 Try.underlying70 Try.underlying9 hi hz0 hz1 hz2 _ o.length (Lib.byteCells o) rfl HO1 X rfl (by unfold maxLen; omega) (by omega) hB1 ?_)
  intro v2 w2 hown2 hg2 _
  rw [← HX.out, ← e3.out] at hown2
  have hb2 : Below B w1 w2 := (Below.refl B w1).grown hg2 hB1 (fun k hk => (HO1.lt k hk).1)
  have C2 := Lib.hid (CurL.below HC1.out hb2 hg)
  have K2 := Lib.hid (K1.out.trans (Kept.of_below hb2))
  have hB2 : B ≤ w2.heap.size := Nat.le_trans hB1 hb2.size
  have hle := e3.out
  obtain ⟨o1, ho1⟩ : ∃ o1, o1 = o ++ S := ⟨_, rfl⟩
  rw [← ho1] at HP hown2 hle
  have hle2 : o1.length ≤ n := by omega
  have O2 := Lib.hid hown2
  obtain ⟨a2, cap2, rfl⟩ := own_form hown2
  clear hown2 hg2 hb2 HO1 HC1 K1 HX e3 ho1 hle HT HV
  by_cases hE : o1.length = n
  · have HE := Lib.hid hE
    have hq1 : ((o1.length : Int) == (n : Int)) = true := by rw [beq_iff_eq]; omega
    have hq2 : (o1.length == n) = true := by rw [beq_iff_eq]; omega
    clear hE
    go_wp2_with fail
    go_ret2
    exact PartOut.yes (by rw [HP.out, if_pos HE.out]) O2.out C2.out K2.out
  · have HE := Lib.hid hE
    have hq1 : ((o1.length : Int) == (n : Int)) = false := by rw [beq_eq_false_iff_ne]; omega
    have hq2 : (o1.length == n) = false := by rw [beq_eq_false_iff_ne]; omega
    have hpos : ((n : Int) - (o1.length : Int)) = ((n - o1.length : Nat) : Int) := by omega
    have HPO := Lib.hid hpos
    clear hE hpos
    obtain ⟨⟨d, R1, b1⟩, hD⟩ : ∃ D, D = cUint ⟨r.toArray⟩ false := ⟨_, rfl⟩
    obtain ⟨⟨m, R2, b2⟩, hM⟩ : ∃ D, D = cUint R1 b1 := ⟨_, rfl⟩
    obtain ⟨hd64, hm64, hst, hb⟩ := two_step (n := n) (o := o1) hD.symm hM.symm
    have hr0 : (⟨r.toArray⟩ : ByteArray).size ≤ maxLen := by rw [arr_size]; unfold maxLen; have := HR.out; omega
    have hr1 : R1.size ≤ maxLen := by
      have := cUint_size ⟨r.toArray⟩ false
      rw [← hD] at this
      exact Nat.le_trans this hr0
    have hU := cur_uint g ⟨r.toArray⟩ false w2 hr0 C2.out
    rw [← hD] at hU
    have HU := Lib.hid hU
    have HM := Lib.hid (fun (W : World) (h : CurAt W g R1 b1) => cur_uint g R1 b1 W hr1 h)
    rw [← hM] at HM
    have HST := Lib.hid hst
    have HBB := Lib.hid hb
    have hwl : IntKind.u64.wrap (o1.length : Int) = (o1.length : Int) := by simp [IntKind.wrap, IntKind.bits, IntKind.signed]; omega
    have hwn : IntKind.u64.wrap ((n : Int) - (o1.length : Int)) = (n : Int) - (o1.length : Int) := by simp [IntKind.wrap, IntKind.bits, IntKind.signed]; omega
    clear hD hM hst hb hU hr0 hr1
    go_upto_region 8 with (go_at_call 56; refine HU.out.mono ?_; rintro e w3 ⟨rfl, hc3, hg3⟩)
    have HM3 := Lib.hid (HM.out w3 hc3)
    have K3 := Lib.hid (K2.out.trans (Kept.of_grown hg3 hB2))
    have O3 := Lib.hid (own_grown O2.out hg3 hg)
    have hB3 : B ≤ w3.heap.size := Nat.le_trans hB2 hg3.size
    clear hc3 hg3 HM O2 K2 C2 HU
    go_upto_region 9 with (go_at_call 56; refine HM3.out.mono ?_; rintro e w4 ⟨rfl, hc4, hg4⟩)
    have K4 := Lib.hid (K3.out.trans (Kept.of_grown hg4 hB3))
    have O4 := Lib.hid (own_grown O3.out hg4 hg)
    have C4 := Lib.hid hc4
    have hB4 : B ≤ w4.heap.size := Nat.le_trans hB3 hg4.size
    clear hc4 hg4 K3 O3 HM3
    by_cases hgood : 1 ≤ d ∧ d ≤ o1.length ∧ 4 ≤ m ∧ m ≤ n - o1.length
    · have hb2 := HBB.out hgood
      have HS2 := HST.out
      rw [if_pos hgood] at HS2
      have HS2 := Lib.hid HS2
      obtain ⟨q1, q2, q3, q4⟩ := hgood
      have HAC := Lib.hid (appendCopy_any B (.slice a2 o1.length cap2) o1 d m q1 q2 (by omega) w4 hB4 O4.out)
      have hwd : IntKind.i64.wrap (d : Int) = (d : Int) := by simp [IntKind.wrap, IntKind.bits, IntKind.signed]; omega
      have hwm : IntKind.i64.wrap (m : Int) = (m : Int) := by simp [IntKind.wrap, IntKind.bits, IntKind.signed]; omega
      have q5 : (m : Int) ≤ (n : Int) - (o1.length : Int) := by omega
      have q4h := Lib.hid q4
      clear q4
      go_wp2_with (go_at_call 101; refine HAC.out.mono ?_; rintro e w5 ⟨v5, rfl, O5, B5⟩)
      go_ret2
      subst hb2
      exact PartOut.yes (by rw [HP.out, if_neg HE.out, HS2.out]) (by rw [copyTo_len]; exact O5.out) (CurL.below (by unfold CurL; exact C4.out) B5.out hg) (K4.out.trans (Kept.of_below B5.out))
    · have HS2 := HST.out
      rw [if_neg hgood] at HS2
      have HS2 := Lib.hid HS2
      have HGo := Lib.hid hgood
      clear hgood
      by_cases e1 : 1 ≤ d
      · by_cases e2 : d ≤ o1.length
        · by_cases e3 : 4 ≤ m
          · have e4 : ¬ (m : Int) ≤ (n : Int) - (o1.length : Int) := by have := HGo.out; omega
            go_wp2_with fail
            go_ret2
            exact PartOut.no (by rw [HP.out, if_neg HE.out, HS2.out]) K4.out
          · go_wp2_with fail
            go_ret2
            exact PartOut.no (by rw [HP.out, if_neg HE.out, HS2.out]) K4.out
        · go_wp2_with fail
          go_ret2
          exact PartOut.no (by rw [HP.out, if_neg HE.out, HS2.out]) K4.out
      · go_wp2_with fail
        go_ret2
        exact PartOut.no (by rw [HP.out, if_neg HE.out, HS2.out]) K4.out

theorem takePart_any : Calls Try.prog 93 #[.pointer (some ⟨g, 0, none⟩), v, .int .i64 n] w (PartOut B g n o l w) := by
  cases hk : tk l with
  | none => exact part_bad B g n v o l hn ho hl w hg hB hc hv (cT_none hk) (partR_none hk)
  | some p =>
    obtain ⟨x, m⟩ := p
    by_cases h1 : x ≤ (l.drop m).length
    · have ht := cT_full hk h1
      have hsl : ((l.drop m).take x).length = x := by rw [List.length_take]; omega
      by_cases h2 : x ≤ n - o.length
      · exact part_good B g n v o l hn ho hl w hg hB hc hv _ _ ht (by omega) (by simp only [List.length_drop]; omega) (partR_full hk ⟨h1, h2⟩)
      · exact part_big B g n v o l hn ho hl w hg hB hc hv _ _ ht (by omega) (by rw [hsl]; rw [List.length_drop] at h1; omega) (partR_short hk (fun h => h2 h.2))
    · exact part_bad B g n v o l hn ho hl w hg hB hc hv (cT_short hk (by omega)) (partR_short hk (fun h => h1 h.1))
end
end Go.Proofs.Ytdcefhhmddjodaa

namespace Go.Proofs.Ytdcefhhmddjodaa
open Go.RowKit
set_option linter.unnecessarySimpa false
set_option linter.unusedVariables false
set_option linter.unusedSimpArgs false
set_option maxRecDepth 100000

def UnpackOK : Prop := ∀ (s : ByteArray) (w : World), s.size ≤ 100000 →
  Calls Try.prog 39 #[.string s] w fun e w' => e = .returned (.tuple #[.string ⟨(unp s.data.toList).1.toArray⟩, .int .i64 (unp s.data.toList).2]) ∧ Below w.heap.size w w'
def PackOK : Prop := ∀ (b : ByteArray) (w : World), b.size ≤ 60000 →
  Calls Try.prog 46 #[.string b] w fun e w' => ∃ p : ByteArray, e = .returned (.tuple #[.string p, .int .i64 0]) ∧ unp p.data.toList = (b.data.toList, 0) ∧ p.size ≤ b.size + 4 ∧ Below w.heap.size w w'
def PackLong : Prop := ∀ (b : ByteArray) (w : World), 60000 < b.size → b.size ≤ 100000 →
  Calls Try.prog 46 #[.string b] w fun e w' => e = .returned (.tuple #[.string ⟨#[]⟩, .int .i64 3]) ∧ Below w.heap.size w w'

theorem unp_abc : unp [3, 0, 97, 98, 99] = ([97, 98, 99], 0) := by decide +kernel

theorem ba_of (b : ByteArray) : (⟨b.data.toList.toArray⟩ : ByteArray) = b := by simp

end Go.Proofs.Ytdcefhhmddjodaa
