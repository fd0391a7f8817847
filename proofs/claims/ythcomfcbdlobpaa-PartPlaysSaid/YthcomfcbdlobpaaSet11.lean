/-
  The document's Do: an Install.
-/
import Derived.Test.YthcomfcbdlobpaaSet10
namespace Go.Proofs.Ythcomfcbdlobpaa
open Go.RowKit
set_option linter.unusedVariables false
set_option linter.unnecessarySimpa false
set_option linter.unusedSimpArgs false
set_option maxRecDepth 100000

theorem keep_set {w : World} {p : Addr} {g j : Nat} {u v : Value} (hn : p.block ≠ g) (h : w.cell? p = some v) : (w.setCell ⟨g, j, none⟩ u).cell? p = some v := by
  have := Below.heap_setCell w ⟨g, j, none⟩ u p.block hn
  unfold World.cell? at *
  rw [this]
  exact h
theorem keep_swap {w : World} {p : Addr} {o o2 : Obj} {v : Value} (hp : p.block < w.heap.size) (h : (w.alloc o).cell? p = some v) : (w.alloc o2).cell? p = some v := by
  have e1 : (w.alloc o).heap[p.block]? = w.heap[p.block]? := Below.heap_alloc _ _ _ hp
  have e2 : (w.alloc o2).heap[p.block]? = w.heap[p.block]? := Below.heap_alloc _ _ _ hp
  unfold World.cell? at *
  rw [e2]
  rw [e1] at h
  exact h
theorem box_kept {w w' : World} {u : Value} {t : TypeId} (h : Below (w.alloc (.cells #[u] t)).drew.heap.size (w.alloc (.cells #[u] t)).drew w') : w'.heap[w.heap.size]? = some (.cells #[u] t (0, 0)) :=
  (h.block w.heap.size (by simp)).trans (heap_alloc_new w _)
set_option maxHeartbeats 8000000 in
theorem pdo_ins_yes (s : Value) (S : List Im) (a : Option Addr) (len cap : Nat) (P : List Pd) (kind : Nat) (t : Tn) (key : ByteArray) (time : Nat) (aw : Option Addr) (nw cw : Nat) (ws : List Wq) (w : World)
    (hS : StV w s S) (hlS : S.length ≤ 1000) (hz : IsPds w a len cap P) (hnl : a = none → cap = 0) (hw : IsWqs w aw nw cw ws) (ht : time < 18446744073709551616) (hk : (kind : Int) % 6 = 5) (hnw : 0 < nw) (z : Wq) (hz0 : ws.getD 0 wq0 = z) (hlk : lockedP z.key P = false) (I : List Im × Nat) (hI : insM S ⟨z.key, ⟨time, false, z.val⟩⟩ = I) :
    Calls Try.prog 17 #[.agg #[s, .slice a len cap], .agg (opCells kind t key time aw nw cw)] w (DoRes w s (.slice a len cap) I.1 P vr0 I.2) := by
  have HSL := Lib.hid (fun i hi => sts_small hS i hi)
  obtain ⟨aS, cS, rfl, hS1, hS2⟩ := hS
  obtain ⟨tn, tl, ts⟩ := t
  have HNL := Lib.hid hnl
  clear hnl
  have HAT := Lib.hid (fun W (hb : Below w.heap.size w W) => pat_any (.slice aS S.length cS) a len cap P ⟨tn, tl, ts⟩ W (hz.below hb))
  have HLK := Lib.hid (fun W (hb : Below w.heap.size w W) k => plocked_any (.slice aS S.length cS) a len cap P k W (hz.below hb))
  have HTM := Lib.hid ht
  have HLS := Lib.hid hlS
  have HFS := Lib.hid (show ∀ W, Below w.heap.size w W → StV W (.slice aS S.length cS) S from fun W hb => ⟨aS, cS, rfl, hS1.below hb, hS2⟩)
  have HFP := Lib.hid (show ∀ W, Below w.heap.size w W → IsPds W a len cap P from fun W hb => hz.below hb)
  have HFW := Lib.hid (show ∀ W, Below w.heap.size w W → IsWqs W aw nw cw ws from fun W hb => hw.below hb)
  unfold Tn.cells at HAT
  have HW00 := Lib.hid (DoW.start w (.slice aS S.length cS) (.slice a len cap) (opCells kind ⟨tn, tl, ts⟩ key time aw nw cw))
  unfold opCells at HW00 ⊢
  obtain ⟨A, hA⟩ : ∃ A, A = atP ⟨tn, tl, ts⟩ P := ⟨_, rfl⟩
  rw [← hA] at HAT
  obtain ⟨k0, g0, v0⟩ := z
  obtain ⟨S2, c2⟩ := I
  simp only at hlk hI ⊢
  have HI := Lib.hid hI
  have HZZ := Lib.hid hz0
  clear hlS hI hz0
  clear hS1 hS2 hz ht hA hw
  go_enter Try.func17, Try.ntmps17
  go_upto_region 1 with fail
  obtain ⟨W0, hW0⟩ : ∃ W0, W0 = (((w.alloc (.cells #[.slice aS S.length cS, .slice a len cap] 34)).alloc (.cells #[.int .u8 (kind : Int), .int .i64 tn, .int .i64 tl, .int .i64 ts, .string key, .int .u64 (time : Int), .slice aw nw cw] 40)).alloc (.cells #[.slice none 0 0, .slice none 0 0] 34)).alloc (.cells #[.int .u64 0, .bool false, .string ⟨#[]⟩] 42) := ⟨_, rfl⟩
  obtain ⟨R3, hR3⟩ : ∃ R3, R3 = w.heap.size + 1 + 1 + 1 := ⟨_, rfl⟩
  obtain ⟨R2, hR2⟩ : ∃ R2, R2 = w.heap.size + 1 + 1 := ⟨_, rfl⟩
  obtain ⟨H1, hH1⟩ : ∃ H1, H1 = w.heap.size + 1 := ⟨_, rfl⟩
  obtain ⟨H0, hH0⟩ : ∃ H0, H0 = w.heap.size := ⟨_, rfl⟩
  have HW0 : Hid (DoW w H0 H1 R2 R3 (.slice aS S.length cS) (.slice a len cap) #[.int .u8 (kind : Int), .int .i64 tn, .int .i64 tl, .int .i64 ts, .string key, .int .u64 (time : Int), .slice aw nw cw] W0) := by
    rw [hH0, hH1, hR2, hR3, hW0]; exact HW00
  rw [← hW0, ← hR3, ← hR2, ← hH1, ← hH0]
  clear hW0 hR3 hR2 hH1 hH0 HW00
  obtain ⟨p0, p1, o0, o1, o2, o3, o4, o5, o6, f2, f3, f0, c20, c21, c30, c31, c32⟩ := HW0.out.cells
  obtain ⟨ne02, ne03, ne12, ne13, ne23, ne20, ne30, ne21, ne31, ne32⟩ := HW0.out.ne
  go_upto_region 2 with (go_at_call 37; (with_reducible refine (HAT.out _ HW0.out.below).mono ?_); rintro e w1 ⟨rfl, hb1⟩; have HW1 := Lib.hid (HW0.out.later hb1); clear hb1)
  clear p0 p1 o0 o1 o2 o3 o4 o5 o6 f2 f3 f0 c20 c21 c30 c31 c32 HW0 HAT
  obtain ⟨p0, p1, o0, o1, o2, o3, o4, o5, o6, f2, f3, f0, c20, c21, c30, c31, c32⟩ := HW1.out.cells
  have e1 : decide ((nw : Int) < 1) = false := by rw [decide_eq_false_iff_not]; omega
  have e2 : decide (nw < 1) = false := by rw [decide_eq_false_iff_not]; omega
  have e3 : ¬ (nw : Int) < 1 := by omega
  have e4 : (0 : Int) < (nw : Int) := by omega
  obtain ⟨b, off, rfl, hbl, hz1, hz2, j0, j1, j2⟩ := (HFW.out _ HW1.out.below).2.2.2 0 hnw
  rw [Nat.zero_mul, Nat.add_zero] at j0 j1 j2
  rw [HZZ.out] at j0 j1 j2 hz1 hz2
  simp only at j0 j1 j2 hz1 hz2
  have HZ1 := Lib.hid hz1
  have HZ2 := Lib.hid hz2
  clear hz1 hz2 hbl
  obtain ⟨LB, hLB⟩ : ∃ LB, LB = lockedP k0 P := ⟨_, rfl⟩
  rw [← hLB] at hlk
  subst hlk
  have HLK2 := Lib.hid (fun W (hb : Below w.heap.size w W) => HLK.out W hb k0)
  rw [← hLB] at HLK2
  clear hLB HLK
  have HIN := Lib.hid (fun W (hb : Below w.heap.size w W) => minstall_any (.slice aS S.length cS) S ⟨k0, ⟨time, false, v0⟩⟩ W (HFS.out W hb) HLS.out ⟨HZ1.out, HZ2.out, HTM.out⟩ HSL.out)
  rw [HI.out] at HIN
  simp only at HIN
  unfold InsOut at HIN
  go_upto_region 18 with fail
  go_region_held3 (fun w' => w'.cell? ⟨H0, 0, none⟩ = some (.slice aS S.length cS) ∧ w'.cell? ⟨H0, 1, none⟩ = some (.slice a len cap) ∧ w'.cell? ⟨H1, 5, none⟩ = some (.int .u64 (time : Int)) ∧ w'.cell? ⟨H1, 6, none⟩ = some (.slice (some ⟨b, off, none⟩) nw cw) ∧ w'.cell? ⟨b, off, none⟩ = some (.string k0) ∧ w'.cell? ⟨b, off + 2, none⟩ = some (.string v0)) (first | go_keep | (go_split_ands; refine ⟨?_, ?_, ?_, ?_, ?_, ?_⟩ <;> exact keep_cell hb2 (by assumption))) (((go_at_call 14; (with_reducible refine (HLK2.out _ HW1.out.drew.below).mono ?_); rintro e w2 ⟨rfl, hb2⟩; have HW2 := Lib.hid (HW1.out.drew.later hb2))))
  all_goals
    clear hb2
    clear p0 p1 o0 o1 o2 o3 o4 o5 o6 f2 f3 f0 c20 c21 c30 c31 c32 HW1 HLK2 j0 j1 j2
    obtain ⟨p0, p1, o0, o1, o2, o3, o4, o5, o6, f2, f3, f0, c20, c21, c30, c31, c32⟩ := HW2.out.cells
    obtain ⟨b', off', hbb, hbl, _, _, j0, j1, j2⟩ := (HFW.out _ HW2.out.below).2.2.2 0 hnw
    rw [Nat.zero_mul, Nat.add_zero] at j0 j1 j2
    rw [HZZ.out] at j0 j1 j2
    simp only [Option.some.injEq, Addr.mk.injEq, and_true] at hbb j0 j1 j2
    obtain ⟨rfl, rfl⟩ := hbb
    have hH0 : H0 < w2.heap.size := (Array.getElem?_eq_some_iff.1 HW2.out.r0).1
    have hH1 : H1 < w2.heap.size := (Array.getElem?_eq_some_iff.1 HW2.out.r1).1
    go_upto_region 20 with fail
    go_region_held3 (fun w' => w'.cell? ⟨H0, 0, none⟩ = some (.slice aS S.length cS) ∧ w'.cell? ⟨H0, 1, none⟩ = some (.slice a len cap) ∧ w'.cell? ⟨H1, 5, none⟩ = some (.int .u64 (time : Int)) ∧ w'.cell? ⟨H1, 6, none⟩ = some (.slice (some ⟨b, off, none⟩) nw cw) ∧ w'.cell? ⟨b, off, none⟩ = some (.string k0) ∧ w'.cell? ⟨b, off + 2, none⟩ = some (.string v0)) (first | (go_split_ands; refine ⟨?_, ?_, ?_, ?_, ?_, ?_⟩ <;> first | assumption | exact keep_cell hb3 (by assumption) | exact keep_cell ((Below.refl _ _).alloc (Nat.le_refl _) _) (by assumption) | exact keep_cell (((Below.refl _ _).alloc (Nat.le_refl _) _).setCell (Nat.le_refl _) _) (by assumption) | exact keep_swap hL0 (by assumption) | exact keep_swap hL1 (by assumption) | exact keep_swap hLb (by assumption) | exact keep_set (Nat.ne_of_lt hH0) (by assumption) | exact keep_set (Nat.ne_of_lt hH1) (by assumption) | exact keep_set (Nat.ne_of_lt hbl) (by assumption)) | go_keep) (((go_at_call 40; (first | (with_reducible refine (HIN.out _ HW2.out.drew.below).mono ?_) | (with_reducible refine (HIN.out _ (HW2.out.drew.later ((Below.refl _ _).alloc (Nat.le_refl _) _)).below).mono ?_) | (with_reducible refine (HIN.out _ (HW2.out.later ((Below.refl _ _).alloc (Nat.le_refl _) _)).drew.below).mono ?_)); rintro e w3 ⟨s', rfl, ⟨a3, k3, rfl, hi3, hn3⟩, hb3, hnw3⟩; have HNW := Lib.hid hnw3; clear hnw3; have HS3 : Hid (StV w3 (.slice a3 S2.length k3) S2) := Lib.hid ⟨a3, k3, rfl, hi3, hn3⟩; have hB23 : Below w2.heap.size w2 w3 := (by first | exact ((Below.refl _ _).drew).trans hb3 | exact (((Below.refl _ _).alloc (Nat.le_refl _) _).drew).trans (hb3.mono (by simp))); have HB23 := Lib.hid hB23; clear hB23; (try (have hbx := box_kept hb3; have cbx : w3.cell? ⟨w2.heap.size, 0, none⟩ = some (.slice none 0 0) := (by rw [cell_of_row _ _ _ _ _ _ hbx]; rfl); have cbf : ∀ j, w3.frozen? ⟨w2.heap.size, j, none⟩ = false := fun j => frozen_of_row _ _ _ _ _ hbx; have HBX := Lib.hid hbx; clear hbx)); have HB3 := Lib.hid hb3; have hL0 : H0 < w3.heap.size := Nat.lt_of_lt_of_le hH0 (Nat.le_trans (by first | exact Nat.le_refl _ | simp) hb3.size); have hL1 : H1 < w3.heap.size := Nat.lt_of_lt_of_le hH1 (Nat.le_trans (by first | exact Nat.le_refl _ | simp) hb3.size); have hLb : b < w3.heap.size := Nat.lt_of_lt_of_le hbl (Nat.le_trans (by first | exact Nat.le_refl _ | simp) hb3.size); clear hi3 hn3)))
    · have HW4 := Lib.hid (HW2.out.later (HB23.out.alloc HB23.out.size (.cells #[.slice a3 S2.length k3] 31)))
      have HS4 := Lib.hid (HS3.out.below ((Below.refl w3.heap.size w3).alloc (Nat.le_refl _) (.cells #[.slice a3 S2.length k3] 31)))
      have hbx2 := heap_alloc_new w3 (.cells #[.slice a3 S2.length k3] 31)
      obtain ⟨w4, hw4⟩ : ∃ w4, w4 = w3.alloc (.cells #[.slice a3 S2.length k3] 31) := ⟨_, rfl⟩
      obtain ⟨g, hg⟩ : ∃ g, g = w3.heap.size := ⟨_, rfl⟩
      rw [← hw4] at HW4 HS4 hbx2
      rw [← hg] at hbx2
      rw [← hw4, ← hg]
      have cb : w4.cell? ⟨g, 0, none⟩ = some (.slice a3 S2.length k3) := by rw [cell_of_row _ _ _ _ _ _ hbx2]; rfl
      clear p0 p1 o0 o1 o2 o3 o4 o5 o6 f2 f3 f0 c20 c21 c30 c31 c32 hw4 hg
      obtain ⟨p0, p1, o0, o1, o2, o3, o4, o5, o6, f2, f3, f0, c20, c21, c30, c31, c32⟩ := HW4.out.cells
      go_wp2_with fail
      exact do_fin HW4.out vr0 HS4.out (HFP.out _ HW4.out.below) HNL.out (HNW.out.imp id (fun ⟨h, n, c, e, hh⟩ => ⟨h, n, c, e, Nat.le_trans HW2.out.below.size (Nat.le_trans (by first | exact Nat.le_refl _ | simp) hh)⟩)) (.inl rfl) rfl rfl rfl rfl
    · have HW4 := Lib.hid (HW2.out.later (HB23.out.setCell (p := ⟨w2.heap.size, 0, none⟩) (Nat.le_refl _) (.slice a3 S2.length k3)))
      have HS4 := Lib.hid (HS3.out.frn (FrnSame.set (j := 0) (.inr (.inr ⟨_, _, _, _, _, HBX.out⟩)) (.slice a3 S2.length k3)))
      have hbx2 := heap_setCell_same w3 w2.heap.size 0 _ _ (.slice a3 S2.length k3) HBX.out
      obtain ⟨w4, hw4⟩ : ∃ w4, w4 = w3.setCell ⟨w2.heap.size, 0, none⟩ (.slice a3 S2.length k3) := ⟨_, rfl⟩
      obtain ⟨g, hg⟩ : ∃ g, g = w2.heap.size := ⟨_, rfl⟩
      rw [← hw4] at HW4 HS4 hbx2
      rw [← hg] at hbx2
      rw [← hw4, ← hg]
      have cb : w4.cell? ⟨g, 0, none⟩ = some (.slice a3 S2.length k3) := by rw [cell_of_row _ _ _ _ _ _ hbx2]; rfl
      clear cbx cbf
      clear p0 p1 o0 o1 o2 o3 o4 o5 o6 f2 f3 f0 c20 c21 c30 c31 c32 hw4 hg
      obtain ⟨p0, p1, o0, o1, o2, o3, o4, o5, o6, f2, f3, f0, c20, c21, c30, c31, c32⟩ := HW4.out.cells
      go_wp2_with fail
      exact do_fin HW4.out vr0 HS4.out (HFP.out _ HW4.out.below) HNL.out (HNW.out.imp id (fun ⟨h, n, c, e, hh⟩ => ⟨h, n, c, e, Nat.le_trans HW2.out.below.size (Nat.le_trans (by first | exact Nat.le_refl _ | simp) hh)⟩)) (.inl rfl) rfl rfl rfl rfl
end Go.Proofs.Ythcomfcbdlobpaa
