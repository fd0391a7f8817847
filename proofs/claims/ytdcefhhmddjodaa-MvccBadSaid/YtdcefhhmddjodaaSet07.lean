/-
  Joined: MvcPast, AppOwn.
-/
import Derived.Test.YtdcefhhmddjodaaSet06
import Derived.StillTailTactics
import Derived.Test.YtdcefhhmddjodaaRows
import Derived.WalkKit
import Derived.Laws.AppendOwn
import Derived.OwnWalk
import Derived.Deep.RegionLaw
namespace Go.Proofs.Ytdcefhhmddjodaa
open Go.RowKit
set_option linter.unusedVariables false
set_option linter.unnecessarySimpa false
set_option linter.unusedSimpArgs false
set_option maxRecDepth 100000

/-- What is asked of a store. -/
structure Ask where
  key : ByteArray
  time : Nat
  lo : ByteArray
  hi : ByteArray
  most : Int
def Ask.cells (q : Ask) : Array Value := #[.string q.key, .int .u64 (q.time : Int), .string q.lo, .string q.hi, .int .i64 q.most]
def Im.ok (m : Im) : Prop := m.key.size ≤ maxLen ∧ m.v.val.size ≤ maxLen ∧ m.v.time < 18446744073709551616
theorem items_one {W : World} {g : Nat} {m : Im} (hm : m.ok) (h : W.heap[g]? = some (.cells m.cells.toArray 37 (0, 0))) : IsItms W (some ⟨g, 0, none⟩) 1 1 [m] := by
  refine ⟨rfl, by unfold maxLen; omega, fun i hi => ⟨g, 0, rfl, ?_⟩⟩
  obtain rfl : i = 0 := by omega
  exact ⟨(Array.getElem?_eq_some_iff.1 h).1, hm.1, hm.2.1, hm.2.2, by rw [cell_of_row _ _ _ _ _ _ h]; rfl, by rw [cell_of_row _ _ _ _ _ _ h]; rfl, by rw [cell_of_row _ _ _ _ _ _ h]; rfl, by rw [cell_of_row _ _ _ _ _ _ h]; rfl⟩

/-- The world of the call: the arguments' boxes. -/
structure PstW (w : World) (mc qc : Array Value) (wx : World) : Prop where
  below : Below w.heap.size w wx
  mrow : wx.heap[w.heap.size]? = some (.cells mc 37 (0, 0))
  qrow : wx.heap[w.heap.size + 1]? = some (.cells qc 40 (0, 0))
section
variable {w wx w' : World} {mc qc : Array Value}
theorem PstW.start (w : World) (mc qc : Array Value) : PstW w mc qc ((w.alloc (.cells mc 37)).alloc (.cells qc 40)) := by
  refine ⟨((Below.refl w.heap.size w).alloc (Nat.le_refl _) _).alloc (by simp) _, ?_, ?_⟩
  · show ((w.heap.push _).push _)[w.heap.size]? = _
    rw [Array.getElem?_push, if_neg (by simp), Array.getElem?_push, if_pos rfl]
  · show ((w.heap.push _).push _)[w.heap.size + 1]? = _
    rw [Array.getElem?_push, if_pos (by simp)]
theorem PstW.lt (h : PstW w mc qc wx) : w.heap.size + 1 < wx.heap.size := (Array.getElem?_eq_some_iff.1 h.qrow).1
theorem PstW.later (h : PstW w mc qc wx) (hb : Below wx.heap.size wx w') : PstW w mc qc w' :=
  ⟨h.below.trans (hb.mono h.below.size), (hb.block _ (by have := h.lt; omega)).trans h.mrow, (hb.block _ h.lt).trans h.qrow⟩
theorem PstW.mcell (h : PstW w mc qc wx) (j : Nat) : wx.cell? ⟨w.heap.size, j, none⟩ = mc[j]? := cell_of_row _ _ _ _ _ _ h.mrow
theorem PstW.qcell (h : PstW w mc qc wx) (j : Nat) : wx.cell? ⟨w.heap.size + 1, j, none⟩ = qc[j]? := cell_of_row _ _ _ _ _ _ h.qrow
end
def farP (w : World) : Nat → Prop := fun k => k = w.heap.size ∨ k = w.heap.size + 1
/-- A store beside them. -/
def PS (S : MvcC) (w : World) (mc qc : Array Value) (r : Addr) (L : List Im) (wx : World) : Prop := MSt S w w.heap.size (farP w) r L wx ∧ PstW w mc qc wx
section
variable {S : MvcC} {w wx w' : World} {mc qc : Array Value} {r : Addr} {L L' : List Im}
theorem PstW.far (h : PstW w mc qc wx) (hb : Below w.heap.size w w') (hf : FarSame (farP w) wx w') : PstW w mc qc w' :=
  ⟨hb, (hf.2 _ (.inl rfl)).trans h.mrow, (hf.2 _ (.inr rfl)).trans h.qrow⟩
theorem ps_new (S : MvcC) (h : PstW w mc qc wx) : Calls Try.prog 9 #[] wx fun e w' => ∃ r, e = .returned (.pointer (some r)) ∧ PS S w mc qc r [] w' :=
  (mst_new S h.below h.below.size (far := farP w) (fun k hk => by have := h.lt; rcases hk with rfl | rfl <;> omega)).mono fun e w' ⟨r, he, hs, hf⟩ => ⟨r, he, hs, h.far hs.below hf⟩
theorem PS.later (h : PS S w mc qc r L wx) (hb : Below wx.heap.size wx w') : PS S w mc qc r L w' := ⟨h.1.later hb, h.2.later hb⟩
theorem PS.install (h : PS S w mc qc r L wx) (m : Im) (hl : L.length ≤ 1000) (hm : m.ok) :
    Calls Try.prog 11 #[.pointer (some r), .string m.key, .agg #[.int .u64 (m.v.time : Int), .bool m.v.gone, .string m.v.val]] wx fun e w' => e = .returned (.int .i64 ((insM L m).2 : Int)) ∧ PS S w mc qc r (insM L m).1 w' :=
  (h.1.install m hl hm.1 hm.2.1 hm.2.2).mono fun e w' ⟨he, hs, hf⟩ => ⟨he, hs, h.2.far hs.below hf⟩
theorem PS.at_ (h : PS S w mc qc r L wx) (key : ByteArray) (t : Nat) (h1 : key.size ≤ maxLen) (h2 : t < 18446744073709551616) :
    Calls Try.prog 12 #[.pointer (some r), .string key, .int .u64 (t : Int)] wx fun e w' => e = .returned (.tuple #[.agg (bestOf key t L).1.cells, .bool (bestOf key t L).2]) ∧ PS S w mc qc r L w' ∧ Below wx.heap.size wx w' :=
  (h.1.at_ key t h1 h2).mono fun e w' ⟨he, hs, hb⟩ => ⟨he, h.later hb, hb⟩
end
theorem IsWts.same {W W' : World} {a : Option Addr} {n c : Nat} {L : List Wt} (h : IsWts W a n c L) (hs : W.heap.size ≤ W'.heap.size) (hk : 0 < n → ∀ b off, a = some ⟨b, off, none⟩ → W'.heap[b]? = W.heap[b]?) : IsWts W' a n c L := by
  refine ⟨h.1, h.2.1, fun i hi => ?_⟩
  obtain ⟨b, off, ha, h1, h2, h3, k0, k1, k2⟩ := h.2.2 i hi
  have hb := hk (by omega) b off ha
  exact ⟨b, off, ha, Nat.lt_of_lt_of_le h1 hs, h2, h3, by rw [World.cell?, hb]; exact k0, by rw [World.cell?, hb]; exact k1, by rw [World.cell?, hb]; exact k2⟩
theorem drewN_belowM {B : Nat} {w w' : World} (h : Below B w w') (n : Nat) : Below B w (w'.drewN n) := ⟨h.os, h.tape, h.output, h.size, h.block⟩
theorem ins_len (L : List Im) (m : Im) : (insM L m).1.length ≤ L.length + 1 := by rcases ins_cases L m with e | e <;> rw [e] <;> simp

set_option maxHeartbeats 4000000 in
theorem past_yes (S : MvcC) (a : Option Addr) (len cap : Nat) (L : List Im) (m : Im) (q : Ask) (w : World) (hz : IsItms w a len cap L) (hm : m.ok) (hq : q.time < 18446744073709551616)
    (h1 : fewM L 40 = true) (h2 : fewM [m] 1 = true) (h3 : q.key.size ≤ 300) (h4 : q.lo.size ≤ 300) (h5 : q.hi.size ≤ 300) :
    Calls Try.prog 6 #[.slice a len cap, .agg #[.string m.key, .int .u64 (m.v.time : Int), .bool m.v.gone, .string m.v.val], .agg q.cells] w fun e w' => e = .returned (.bool true) ∧ Below w.heap.size w w' := by
  have haw := Lib.hid (mawake_any S)
  have HF1 := Lib.hid (fun W (hb : Below w.heap.size w W) => mfew_any a len cap 40 L W (hz.below hb) (by omega))
  rw [h1] at HF1
  rw [show ((40 : Nat) : Int) = 40 from rfl] at HF1
  have HF2 := Lib.hid (fun W g (h : W.heap[g]? = some (.cells m.cells.toArray 37 (0, 0))) => mfew_any (some ⟨g, 0, none⟩) 1 1 1 [m] W (items_one hm h) (by omega))
  rw [h2] at HF2
  rw [show ((1 : Nat) : Int) = 1 from rfl] at HF2
  have HZ := Lib.hid hz
  have HM := Lib.hid hm
  have HQ := Lib.hid hq
  have hl40 : len ≤ 40 := by rw [← hz.1]; exact (fewM_true.1 h1).2
  have HPS := Lib.hid (past_scan (m := m))
  have HPB := Lib.hid (past_best (m := m))
  obtain ⟨mk, ⟨mt, mg, mv⟩⟩ := m
  obtain ⟨qk, qt, ql, qh, qm⟩ := q
  simp only at h3 h4 h5
  have c3 : ¬ (300 : Int) < (qk.size : Int) := by omega
  have c3b : decide (300 < qk.size) = false := by simpa using h3
  have c4 : ¬ (300 : Int) < (ql.size : Int) := by omega
  have c4b : decide (300 < ql.size) = false := by simpa using h4
  have c5 : ¬ (300 : Int) < (qh.size : Int) := by omega
  have c5b : decide (300 < qh.size) = false := by simpa using h5
  have HS3 := Lib.hid (And.intro h3 (And.intro h4 h5))
  have HP0 := Lib.hid (PstW.start w #[.string mk, .int .u64 (mt : Int), .bool mg, .string mv] #[.string qk, .int .u64 (qt : Int), .string ql, .string qh, .int .i64 qm])
  clear hz h1 h2 h3 h4 h5 hm hq
  unfold Ask.cells
  go_enter Try.func6, Try.ntmps6
  go_upto_region 3 with (first
    | (go_at_call 7; refine (haw.out _).mono ?_; rintro e w1 ⟨rfl, hb1⟩; have HP1 := Lib.hid (HP0.out.later hb1); clear hb1; have m0 := HP1.out.mcell 0; have m1 := HP1.out.mcell 1; have m2 := HP1.out.mcell 2; have m3 := HP1.out.mcell 3; have HPA := Lib.hid (fun o => HP1.out.later (w' := w1.alloc o) ((Below.refl _ _).alloc (Nat.le_refl _) o)); have HF2X := Lib.hid (HF2.out (w1.alloc (.cells #[.string mk, .int .u64 (mt : Int), .bool mg, .string mv] 37)) w1.heap.size (heap_alloc_new w1 _)); have HF2X := Lib.hid (fun (_ : Unit) => HF2X.out); have q0 := fun o => (HPA.out o).qcell 0; have q2 := fun o => (HPA.out o).qcell 2; have q3 := fun o => (HPA.out o).qcell 3; simp only [List.getElem?_toArray, List.getElem?_cons_zero, List.getElem?_cons_succ] at m0 m1 m2 m3 q0 q2 q3)
    | (go_at_call 8; first
        | (with_reducible refine (HF1.out _ HP1.out.below).mono ?_; rintro e w2 ⟨rfl, rfl⟩)
        | (with_reducible refine (HF2X.out ()).mono ?_; rintro e w3 ⟨rfl, rfl⟩)))
  have HP3 := Lib.hid (HPA.out (.cells #[.string mk, .int .u64 (mt : Int), .bool mg, .string mv] 37))
  obtain ⟨W3, hW3⟩ : ∃ W3, W3 = w1.alloc (.cells #[.string mk, .int .u64 (mt : Int), .bool mg, .string mv] 37) := ⟨_, rfl⟩
  rw [← hW3] at HP3 ⊢
  obtain ⟨mc, hmc⟩ : ∃ mc : Array Value, mc = #[.string mk, .int .u64 (mt : Int), .bool mg, .string mv] := ⟨_, rfl⟩
  obtain ⟨qc, hqc⟩ : ∃ qc : Array Value, qc = #[.string qk, .int .u64 (qt : Int), .string ql, .string qh, .int .i64 qm] := ⟨_, rfl⟩
  rw [← hmc, ← hqc] at HP3
  have HMC := Lib.hid hmc
  have HQC := Lib.hid hqc
  clear hW3 hmc hqc HP0 HP1 HPA HF1 HF2 HF2X m0 m1 m2 m3 q0 q2 q3 haw c3 c3b c4 c4b c5 c5b
  have HN := Lib.hid (ps_new S HP3.out)
  go_wp2_with (go_at_call 9; refine HN.out.mono ?_; rintro e w4 ⟨r, rfl, hs⟩; have HS4 := Lib.hid hs; clear hs)
  clear HN HP3
  go_loopg [8] len (fun g s8 wx => ∃ (i : Nat) (M : List Im), i + g = len ∧ s8 = .int .i64 i ∧ M.length ≤ i ∧ Hid (PS S w mc qc r M wx))
  case atStart => exact ⟨0, [], by omega, rfl, by simp, HS4⟩
  case round =>
    obtain ⟨i, M, hig, rfl, hMi, HS⟩ := hrel
    clear HS4
    cases gk with
    | succ g =>
      have hil : i < len := by omega
      have hiz : (i : Int) < (len : Int) := by omega
      have HSd := HS.out.later (w' := wr.drew) ((Below.refl _ _).drew)
      obtain ⟨b, off, rfl, hbl, hi1, hi2, hi3, k0, k1, k2, k3⟩ := (HZ.out.below HSd.1.below).2.2 i hil
      have HI := Lib.hid (HSd.install (L.getD i im0) (by omega) ⟨hi1, hi2, hi3⟩)
      have HIL := Lib.hid (ins_len M (L.getD i im0))
      obtain ⟨z, hzz⟩ : ∃ z, z = L.getD i im0 := ⟨_, rfl⟩
      rw [← hzz] at k0 k1 k2 k3 HI HIL
      clear hzz hbl hi1 hi2 hi3 HSd
      go_upto_region 7 with fail
      go_still_tail 11, (by kernel_rfl)
      change wpList _ _ _ _ _ wr.drew
      go_wp2_with (go_at_call 11; (with_reducible refine HI.out.mono ?_); rintro e w5 ⟨rfl, hs5⟩; have HS5 := Lib.hid hs5; clear hs5)
      go_roundg g
      case measure => omega
      case rel => exact ⟨i + 1, (insM M z).1, by omega, by go_num, by have := HIL.out; omega, HS5⟩
    | zero =>
      obtain rfl : i = len := by omega
      have m1 := HS.out.2.mcell 1
      have q0 := HS.out.2.qcell 0
      have q1 := HS.out.2.qcell 1
      rw [HMC.out] at m1
      rw [HQC.out] at q0 q1
      simp only [List.getElem?_toArray, List.getElem?_cons_zero, List.getElem?_cons_succ] at m1 q0 q1
      by_cases ht : mt ≤ qt
      · have c1 : (mt : Int) ≤ (qt : Int) := by omega
        have c1b : decide (mt ≤ qt) = true := by simpa using ht
        have c1c : decide ((mt : Int) ≤ (qt : Int)) = true := by simpa using ht
        have HBW := Lib.hid HS.out.1.below
        clear ht
        go_wp2_with fail
        go_ret
        exact ⟨rfl, HBW.out⟩
      · have c1 : ¬ (mt : Int) ≤ (qt : Int) := by omega
        have c1b : decide (mt ≤ qt) = false := by simpa using ht
        have c1c : decide ((mt : Int) ≤ (qt : Int)) = false := by simpa using ht
        have HLT := Lib.hid (show qt < mt by omega)
        clear ht
        obtain ⟨⟨⟨vt, vg, vv⟩, vk⟩, hV⟩ : ∃ V, V = bestOf qk qt M := ⟨_, rfl⟩
        have HA1 := Lib.hid (HS.out.1.at_ qk qt (by have := HS3.out.1; unfold maxLen; omega) HQ.out)
        rw [← hV] at HA1
        unfold Vr.cells at HA1
        have HV := Lib.hid hV
        have HPW := Lib.hid HS.out.2
        clear hV HS
        go_upto_region 11 with (go_at_call 12; (with_reducible refine HA1.out.mono ?_); rintro e w5 ⟨rfl, hs5, hb5⟩; have HS5 := Lib.hid hs5; have HB5 := Lib.hid hb5; clear hs5 hb5)
        obtain ⟨g9, hg9⟩ : ∃ g9, g9 = w5.heap.size := ⟨_, rfl⟩
        have hb6 : Below w5.heap.size w5 (w5.alloc (.cells #[.int .u64 (vt : Int), .bool vg, .string vv] 35)) := (Below.refl _ _).alloc (Nat.le_refl _) _
        have hr6 := heap_alloc_new w5 (.cells #[.int .u64 (vt : Int), .bool vg, .string vv] 35)
        have hs6 := HS5.out.more hb6 w5.heap.size (Nat.le_refl _) (by simp)
        have hp6 := (HPW.out.later HB5.out).later hb6
        rw [← hg9] at hr6 hs6 ⊢
        obtain ⟨W6, hW6⟩ : ∃ W6, W6 = w5.alloc (.cells #[.int .u64 (vt : Int), .bool vg, .string vv] 35) := ⟨_, rfl⟩
        rw [← hW6] at hr6 hs6 hp6 ⊢
        have HR6 := Lib.hid hr6
        have HS6 := Lib.hid hs6
        have HP6 := Lib.hid hp6
        clear hr6 hs6 hp6 hb6 hg9 hW6 HS5 HB5 HPW HA1 m1 q0 q1
        have HML := Lib.hid (show M.length ≤ 1000 by omega)
        have HSC := Lib.hid (HS6.out.scan ql qh qt qm HML.out (by have := HS3.out.2.1; unfold maxLen; omega) (by have := HS3.out.2.2; unfold maxLen; omega) HQ.out)
        have q1 := HP6.out.qcell 1
        have q2 := HP6.out.qcell 2
        have q3 := HP6.out.qcell 3
        have q4 := HP6.out.qcell 4
        rw [HQC.out] at q1 q2 q3 q4
        simp only [List.getElem?_toArray, List.getElem?_cons_zero, List.getElem?_cons_succ] at q1 q2 q3 q4
        go_upto_region 12 with (go_at_call 18; (with_reducible refine HSC.out.mono ?_); rintro e w7 ⟨a7, n7, c7, rfl, hw7, hs7, hb7⟩; have HW7 := Lib.hid hw7; have HS7 := Lib.hid hs7; have HB7 := Lib.hid hb7; clear hw7 hs7 hb7)
        have HP7 := Lib.hid (HP6.out.later HB7.out)
        have HR7 := Lib.hid ((HB7.out.block g9 (Array.getElem?_eq_some_iff.1 HR6.out).1).trans HR6.out)
        clear HS6 HP6 HR6 HB7 HSC q1 q2 q3 q4
        have HI := Lib.hid (HS7.out.install ⟨mk, ⟨mt, mg, mv⟩⟩ HML.out HM.out.1 HM.out.2.1 HM.out.2.2)
        have m0 := HP7.out.mcell 0
        have m1 := HP7.out.mcell 1
        have m2 := HP7.out.mcell 2
        have m3 := HP7.out.mcell 3
        rw [HMC.out] at m0 m1 m2 m3
        simp only [List.getElem?_toArray, List.getElem?_cons_zero, List.getElem?_cons_succ] at m0 m1 m2 m3
        go_upto_region 13 with (go_at_call 11; (with_reducible refine HI.out.mono ?_); rintro e w8 ⟨rfl, hs8, hf8⟩; have HS8 := Lib.hid hs8; have HF8 := Lib.hid hf8; clear hs8 hf8)
        have HP8 := Lib.hid (HP7.out.far HS8.out.below ⟨HF8.out.1, fun k hk => HF8.out.2 k (.inl (.inl hk))⟩)
        have HR8 := Lib.hid ((HF8.out.2 g9 (.inl (.inr rfl))).trans HR7.out)
        have HW8 := Lib.hid (HW7.out.same HF8.out.1 (fun h0 b off e => HF8.out.2 b (.inr ⟨h0, off, e⟩)))
        clear HP7 HR7 HW7 HF8 HI m0 m1 m2 m3
        obtain ⟨M2, hM2⟩ : ∃ M2, M2 = (insM M ⟨mk, ⟨mt, mg, mv⟩⟩).1 := ⟨_, rfl⟩
        have HB2 := Lib.hid (HPB.out M qk qt HLT.out)
        have HC2 := Lib.hid (HPS.out M ql qh qt qm HLT.out)
        have HM2L := Lib.hid (ins_len M ⟨mk, ⟨mt, mg, mv⟩⟩)
        rw [← hM2] at HS8 HB2 HC2 HM2L
        clear hM2
        have HA2 := Lib.hid (HS8.out.at_ qk qt (by have := HS3.out.1; unfold maxLen; omega) HQ.out)
        rw [HB2.out, ← HV.out] at HA2
        unfold Vr.cells at HA2
        have q0 := HP8.out.qcell 0
        have q1 := HP8.out.qcell 1
        rw [HQC.out] at q0 q1
        simp only [List.getElem?_toArray, List.getElem?_cons_zero, List.getElem?_cons_succ] at q0 q1
        go_upto_region 14 with (go_at_call 12; (with_reducible refine HA2.out.mono ?_); rintro e w9 ⟨rfl, hs9, hb9⟩; have HS9 := Lib.hid hs9; have HB9 := Lib.hid hb9; clear hs9 hb9)
        have hb10 : Below w9.heap.size w9 (w9.alloc (.cells #[.int .u64 (vt : Int), .bool vg, .string vv] 35)) := (Below.refl _ _).alloc (Nat.le_refl _) _
        have hr10 := heap_alloc_new w9 (.cells #[.int .u64 (vt : Int), .bool vg, .string vv] 35)
        have hs10 := HS9.out.later hb10
        have hp10 := (HP8.out.later HB9.out).later hb10
        have hw10 := (HW8.out.below HB9.out).below hb10
        have hr9 := (hb10.block g9 (Nat.lt_of_lt_of_le (Array.getElem?_eq_some_iff.1 HR8.out).1 HB9.out.size)).trans ((HB9.out.block g9 (Array.getElem?_eq_some_iff.1 HR8.out).1).trans HR8.out)
        obtain ⟨g12, hg12⟩ : ∃ g12, g12 = w9.heap.size := ⟨_, rfl⟩
        rw [← hg12] at hr10 ⊢
        obtain ⟨W10, hW10⟩ : ∃ W10, W10 = w9.alloc (.cells #[.int .u64 (vt : Int), .bool vg, .string vv] 35) := ⟨_, rfl⟩
        rw [← hW10] at hr10 hs10 hp10 hw10 hr9 ⊢
        clear hb10 hg12 hW10 HS9 HB9 HP8 HW8 HR8 HS8 HA2 q0 q1
        have b0 : W10.cell? ⟨g9, 0, none⟩ = some (.int .u64 (vt : Int)) := by rw [cell_of_row _ _ _ _ _ _ hr9]; rfl
        have b1 : W10.cell? ⟨g9, 1, none⟩ = some (.bool vg) := by rw [cell_of_row _ _ _ _ _ _ hr9]; rfl
        have b2 : W10.cell? ⟨g9, 2, none⟩ = some (.string vv) := by rw [cell_of_row _ _ _ _ _ _ hr9]; rfl
        have d0 : W10.cell? ⟨g12, 0, none⟩ = some (.int .u64 (vt : Int)) := by rw [cell_of_row _ _ _ _ _ _ hr10]; rfl
        have d1 : W10.cell? ⟨g12, 1, none⟩ = some (.bool vg) := by rw [cell_of_row _ _ _ _ _ _ hr10]; rfl
        have d2 : W10.cell? ⟨g12, 2, none⟩ = some (.string vv) := by rw [cell_of_row _ _ _ _ _ _ hr10]; rfl
        have q1 := hp10.qcell 1
        have q2 := hp10.qcell 2
        have q3 := hp10.qcell 3
        have q4 := hp10.qcell 4
        rw [HQC.out] at q1 q2 q3 q4
        simp only [List.getElem?_toArray, List.getElem?_cons_zero, List.getElem?_cons_succ] at q1 q2 q3 q4
        have HS2 := Lib.hid (hs10.scan ql qh qt qm (by have := HM2L.out; have := HML.out; omega) (by have := HS3.out.2.1; unfold maxLen; omega) (by have := HS3.out.2.2; unfold maxLen; omega) HQ.out)
        rw [HC2.out] at HS2
        have HSM := Lib.hid (fun W a c (hb : Below W10.heap.size W10 W) (h : IsWts W a n7 c (scanM M ql qh qt qm)) => msame_yes a7 a n7 c7 c (scanM M ql qh qt qm) W (hw10.below hb) h)
        have HN7 := Lib.hid hw10.1
        clear hr9 hr10 hs10 hp10 hw10
        go_wp2_with (first
          | (go_at_call 18; (with_reducible refine HS2.out.mono ?_); rintro e w11 ⟨a11, n11, c11, rfl, hw11, hs11, hb11⟩; obtain rfl : n7 = n11 := HN7.out.symm.trans hw11.1; have HSN := Lib.hid (HSM.out w11 a11 c11 hb11 hw11); have HB11 := Lib.hid hs11.below; clear hw11 hs11 hb11)
          | (go_at_call 17; (with_reducible refine HSN.out.mono ?_); rintro e w12 ⟨rfl, nn, rfl⟩))
        go_ret
        exact ⟨rfl, drewN_belowM HB11.out _⟩
set_option maxHeartbeats 4000000 in
theorem past_no (S : MvcC) (a : Option Addr) (len cap : Nat) (L : List Im) (m : Im) (q : Ask) (w : World) (hz : IsItms w a len cap L) (hm : m.ok)
    (h : ¬ (fewM L 40 = true ∧ fewM [m] 1 = true ∧ q.key.size ≤ 300 ∧ q.lo.size ≤ 300 ∧ q.hi.size ≤ 300)) :
    Calls Try.prog 6 #[.slice a len cap, .agg #[.string m.key, .int .u64 (m.v.time : Int), .bool m.v.gone, .string m.v.val], .agg q.cells] w fun e w' => e = .returned (.bool true) ∧ Below w.heap.size w w' := by
  have haw := Lib.hid (mawake_any S)
  have HF1 := Lib.hid (fun W (hb : Below w.heap.size w W) => mfew_any a len cap 40 L W (hz.below hb) (by omega))
  rw [show ((40 : Nat) : Int) = 40 from rfl] at HF1
  have HF2 := Lib.hid (fun W g (h : W.heap[g]? = some (.cells m.cells.toArray 37 (0, 0))) => mfew_any (some ⟨g, 0, none⟩) 1 1 1 [m] W (items_one hm h) (by omega))
  rw [show ((1 : Nat) : Int) = 1 from rfl] at HF2
  obtain ⟨F1, hF1⟩ : ∃ F1, F1 = fewM L 40 := ⟨_, rfl⟩
  obtain ⟨F2, hF2⟩ : ∃ F2, F2 = fewM [m] 1 := ⟨_, rfl⟩
  rw [← hF1] at HF1 h
  rw [← hF2] at HF2 h
  obtain ⟨mk, ⟨mt, mg, mv⟩⟩ := m
  obtain ⟨qk, qt, ql, qh, qm⟩ := q
  simp only at h
  have HP0 := Lib.hid (PstW.start w #[.string mk, .int .u64 (mt : Int), .bool mg, .string mv] #[.string qk, .int .u64 (qt : Int), .string ql, .string qh, .int .i64 qm])
  clear hz hm hF1 hF2
  have tests : ∀ n : Nat, (n ≤ 300 ∧ (¬ (300 : Int) < (n : Int)) ∧ decide (300 < n) = false) ∨ ((300 : Int) < (n : Int) ∧ decide (300 < n) = true ∧ ¬ n ≤ 300) := fun n => by
    by_cases hn : n ≤ 300
    · exact .inl ⟨hn, by omega, by simpa using hn⟩
    · exact .inr ⟨by omega, by simp; omega, hn⟩
  have hcs : F1 = false ∨ (F1 = true ∧ F2 = false) ∨ (F1 = true ∧ F2 = true ∧ (300 : Int) < (qk.size : Int) ∧ decide (300 < qk.size) = true) ∨ (F1 = true ∧ F2 = true ∧ (¬ (300 : Int) < (qk.size : Int) ∧ decide (300 < qk.size) = false) ∧ (300 : Int) < (ql.size : Int) ∧ decide (300 < ql.size) = true) ∨
      (F1 = true ∧ F2 = true ∧ (¬ (300 : Int) < (qk.size : Int) ∧ decide (300 < qk.size) = false) ∧ (¬ (300 : Int) < (ql.size : Int) ∧ decide (300 < ql.size) = false) ∧ (300 : Int) < (qh.size : Int) ∧ decide (300 < qh.size) = true) := by
    cases F1 with
    | false => exact .inl rfl
    | true =>
      cases F2 with
      | false => exact .inr (.inl ⟨rfl, rfl⟩)
      | true =>
        rcases tests qk.size with ⟨k1, k2⟩ | ⟨k1, k2, k3⟩
        · rcases tests ql.size with ⟨l1, l2⟩ | ⟨l1, l2, l3⟩
          · rcases tests qh.size with ⟨j1, j2⟩ | ⟨j1, j2, j3⟩
            · exact absurd ⟨rfl, rfl, k1, l1, j1⟩ h
            · exact .inr (.inr (.inr (.inr ⟨rfl, rfl, k2, l2, j1, j2⟩)))
          · exact .inr (.inr (.inr (.inl ⟨rfl, rfl, k2, l1, l2⟩)))
        · exact .inr (.inr (.inl ⟨rfl, rfl, k1, k2⟩))
  clear h tests
  unfold Ask.cells
  rcases hcs with rfl | ⟨rfl, rfl⟩ | ⟨rfl, rfl, c1, c2⟩ | ⟨rfl, rfl, ⟨c1, c2⟩, c3, c4⟩ | ⟨rfl, rfl, ⟨c1, c2⟩, ⟨c3, c4⟩, c5, c6⟩
  all_goals
    go_enter Try.func6, Try.ntmps6
    go_upto_region 2 with (first
      | (go_at_call 7; refine (haw.out _).mono ?_; rintro e w1 ⟨rfl, hb1⟩; have HP1 := Lib.hid (HP0.out.later hb1); clear hb1; have m0 := HP1.out.mcell 0; have m1 := HP1.out.mcell 1; have m2 := HP1.out.mcell 2; have m3 := HP1.out.mcell 3; have HPA := Lib.hid (fun o => HP1.out.later (w' := w1.alloc o) ((Below.refl _ _).alloc (Nat.le_refl _) o)); have HF2X := Lib.hid (HF2.out (w1.alloc (.cells #[.string mk, .int .u64 (mt : Int), .bool mg, .string mv] 37)) w1.heap.size (heap_alloc_new w1 _)); have HF2X := Lib.hid (fun (_ : Unit) => HF2X.out); have q0 := fun o => (HPA.out o).qcell 0; have q2 := fun o => (HPA.out o).qcell 2; have q3 := fun o => (HPA.out o).qcell 3; simp only [List.getElem?_toArray, List.getElem?_cons_zero, List.getElem?_cons_succ] at m0 m1 m2 m3 q0 q2 q3)
      | (go_at_call 8; first
          | (with_reducible refine (HF1.out _ HP1.out.below).mono ?_; rintro e w2 ⟨rfl, rfl⟩)
          | (with_reducible refine (HF2X.out ()).mono ?_; rintro e w3 ⟨rfl, rfl⟩)))
    have hbl : ∀ o, Below w.heap.size w (w1.alloc o) := fun o => (HPA.out o).below
    have HBL := Lib.hid hbl
    clear hbl q0 q2 q3 m0 m1 m2 m3 HF2X
    go_wp2_with (go_at_call 7; refine (haw.out _).mono ?_; rintro e w9 ⟨rfl, hb9⟩; have HB9 := Lib.hid hb9; clear hb9)
    go_ret
    first
      | exact ⟨rfl, HP1.out.below.trans (HB9.out.mono HP1.out.below.size)⟩
      | exact ⟨rfl, (HBL.out _).trans (HB9.out.mono (HBL.out _).size)⟩
end Go.Proofs.Ytdcefhhmddjodaa

namespace Go.Proofs.Ytdcefhhmddjodaa
open Go.RowKit
set_option linter.unusedVariables false
set_option linter.unnecessarySimpa false
set_option linter.unusedSimpArgs false
set_option maxRecDepth 100000

theorem run_append_own2 {P : Program} (w : World) (base : Nat) (t ty e : TypeId) (i : TypeInfo) (z : Value) (size bytes : Nat) (ht : P.underlying t = some (.slice e)) (hi : P.info? e = some i) (hz : i.zero = some z)
    (hsize : i.size = size) (hby : i.bytes = bytes) (hzs : z.cells.size = size) (hsz : 0 < size)
    (v : Value) (n : Nat) (xs : List Value) (hown : w.ownsRow base e size v n xs)
    (a : Addr) (m c : Nat) (news : List Value) (hl : news.length = m * size) (hnews : ∀ j u, news[j]? = some u → w.cell? (a.add j) = some u) (h1 : ∀ u ∈ news, u.oneCell' = true)
    (h63 : n + m ≤ maxLen) (hbytes : (n + m) * bytes ≤ 140737488355328) (hbase : base ≤ w.heap.size) :
    ∃ v' w', (Builtin.append_ #[t, t] ty #[v, .slice (some a) m c]).run P w = .ok v' w' ∧ w'.ownsRow base e size v' (n + m) (xs ++ news) ∧ w.grownBy w' v.ownBlock ∧
      (∀ k, v'.ownBlock = some k → v.ownBlock = some k ∨ w.heap.size ≤ k) := by
  rcases hown.2 with ⟨rfl, rfl⟩ | ⟨g, cap, cur, rfl, hbg, hg, hnc, hcm, hcs, htake⟩
  · obtain ⟨v', w', hr, h2, h3, _⟩ := run_append_own (P := P) w w.heap.size t ty e i z size bytes ht hi hz hsize hby hzs hsz (.slice none 0 0) 0 xs ⟨hown.1, .inl ⟨rfl, rfl⟩⟩ a m c news hl hnews h1 h63 hbytes (Nat.le_refl _)
    refine ⟨v', w', hr, ⟨h2.1, ?_⟩, h3, fun k hk => .inr (h2.lt k hk).1⟩
    rcases h2.2 with h | ⟨g, cap, cur, hv, hb, rest⟩
    · exact .inl h
    · exact .inr ⟨g, cap, cur, hv, Nat.le_trans hbase hb, rest⟩
  · obtain ⟨v', w', hr, h2, h3, _⟩ := run_append_own (P := P) w base t ty e i z size bytes ht hi hz hsize hby hzs hsz _ n xs hown a m c news hl hnews h1 h63 hbytes hbase
    refine ⟨v', w', hr, h2, h3, fun k hk => ?_⟩
    subst hsize hby
    have hsmall : n + m ≤ 9223372036854775807 := by simp only [maxLen] at h63; omega
    by_cases hroom : n + m ≤ cap
    · have hfit : n * i.size + news.length ≤ cur.size := by rw [hl, hcs, ← Nat.add_mul]; exact Nat.mul_le_mul_right _ hroom
      have hr2 := run_append_room (P := P) w t ty e i ht hi g n cap cur hg a m c news hl hnews h1 hroom hfit
      rw [hr] at hr2
      injection hr2 with hv _
      subst hv
      exact .inl hk
    · have hr2 := run_append_grow (P := P) w t ty e i z ht hi hz ⟨g, 0, none⟩ n cap xs hown.1 (hown.cells (g := g) rfl) a m c news hl hnews (by omega) (by omega) (growslice_fits (by omega) hbytes)
      rw [hr] at hr2
      injection hr2 with hv _
      subst hv
      simp only [Value.ownBlock, Option.some.injEq] at hk
      subst hk
      exact .inr (Nat.le_refl _)

theorem step_append_own {P : Program} {ops : Array Oper} {o : Oper} {a : Act} {w : World} {K : Act → World → Prop} {Q : Exit → Act → World → Prop} {E : Prop} (hg : o.guard = none) (s x : Operand) (t : TypeId)
    (ho : o.op = .call { callee := .builtin .append, args := #[s, x], argTypes := #[t, t] })
    (base : Nat) (e : TypeId) (i : TypeInfo) (z : Value) (size bytes : Nat) (ht : P.underlying t = some (.slice e)) (hi : P.info? e = some i) (hz : i.zero = some z)
    (hsize : i.size = size) (hby : i.bytes = bytes) (hzs : z.cells.size = size) (hsz : 0 < size)
    (v : Value) (n : Nat) (xs : List Value) (hs : a.eval s = v) (hown : w.ownsRow base e size v n xs)
    (ad : Addr) (m c : Nat) (news : List Value) (hx : a.eval x = .slice (some ad) m c) (hl : news.length = m * size) (hnews : ∀ j u, news[j]? = some u → w.cell? (ad.add j) = some u) (h1 : ∀ u ∈ news, u.oneCell' = true)
    (h63 : n + m ≤ maxLen) (hbytes : (n + m) * bytes ≤ 140737488355328) (hbase : base ≤ w.heap.size)
    (h : ∀ v' w', w'.ownsRow base e size v' (n + m) (xs ++ news) → w.grownBy w' v.ownBlock → (∀ k, v'.ownBlock = some k → v.ownBlock = some k ∨ w.heap.size ≤ k) → K (a.put o.dst v') w') :
    if Region.wanted o (yielded ops a.tmps) = true then Oper.wp P o a w K Q else E := by
  have hw : Region.wanted o (yielded ops a.tmps) = true := by simp [Region.wanted, hg]
  rw [if_pos hw]
  obtain ⟨v', w', hr, h2, h3, h4⟩ := run_append_own2 (P := P) w base t o.type e i z size bytes ht hi hz hsize hby hzs hsz v n xs hown ad m c news hl hnews h1 h63 hbytes hbase
  unfold Oper.wp execOp
  simp only [ho, resolve, invoke, builtin, Sem.run_bind, Sem.run_pure, Result.andThen_ok, List.map_toArray, List.map_cons, List.map_nil, hs, hx, hr]
  exact h v' w' h2 h3 h4
theorem wpList_append_own2 {P : Program} {ops : Array Oper} {rest : List Oper} {o : Oper} {a : Act} {w : World} {Q : Exit → Act → World → Prop} (hgd : o.guard = none) (s x : Operand) (t : TypeId)
    (ho : o.op = .call { callee := .builtin .append, args := #[s, x], argTypes := #[t, t] })
    (base : Nat) (e : TypeId) (i : TypeInfo) (z : Value) (size bytes : Nat) (ht : P.underlying t = some (.slice e)) (hi : P.info? e = some i) (hz : i.zero = some z)
    (hsize : i.size = size) (hby : i.bytes = bytes) (hzs : z.cells.size = size) (hsz : 0 < size)
    (v : Value) (n : Nat) (xs : List Value) (hs : a.eval s = v) (hown : w.ownsRow base e size v n xs)
    (ad : Addr) (m c : Nat) (news : List Value) (hx : a.eval x = .slice (some ad) m c) (hl : news.length = m * size) (hnews : ∀ j u, news[j]? = some u → w.cell? (ad.add j) = some u) (h1 : ∀ u ∈ news, u.oneCell' = true)
    (h63 : n + m ≤ maxLen) (hbytes : (n + m) * bytes ≤ 140737488355328) (hbase : base ≤ w.heap.size)
    (h : ∀ v' w', w'.ownsRow base e size v' (n + m) (xs ++ news) → w.grownBy w' v.ownBlock → (∀ k, v'.ownBlock = some k → v.ownBlock = some k ∨ w.heap.size ≤ k) → wpList P ops Q rest (a.put o.dst v') w') :
    wpList P ops Q (o :: rest) a w := by
  refine wpList_plain hgd fun K hK => ?_
  obtain ⟨v', w', hr, h2, h3, h4⟩ := run_append_own2 (P := P) w base t o.type e i z size bytes ht hi hz hsize hby hzs hsz v n xs hown ad m c news hl hnews h1 h63 hbytes hbase
  unfold Oper.wp execOp
  simp only [ho, resolve, invoke, builtin, Sem.run_bind, Sem.run_pure, Result.andThen_ok, List.map_toArray, List.map_cons, List.map_nil, hs, hx, hr]
  exact hK _ _ (h v' w' h2 h3 h4)
end Go.Proofs.Ytdcefhhmddjodaa
