/-
  Joined: PrtDoB, PrtDoE.
-/
import Derived.Test.YthcomfcbdlobpaaSet09
namespace Go.Proofs.Ythcomfcbdlobpaa
open Go.RowKit
set_option linter.unusedVariables false
set_option linter.unnecessarySimpa false
set_option linter.unusedSimpArgs false
set_option maxRecDepth 100000

theorem keep_cell {w w' : World} (hb : Below w.heap.size w w') {p : Addr} {v : Value} (h : w.cell? p = some v) : w'.cell? p = some v := (hb.cell (World.block_lt_of_cell? w p h)).trans h
set_option maxHeartbeats 8000000 in
theorem pdo_may (s : Value) (S : List Im) (a : Option Addr) (len cap : Nat) (P : List Pd) (kind : Nat) (t : Tn) (key : ByteArray) (time : Nat) (aw : Option Addr) (nw cw : Nat) (ws : List Wq) (w : World)
    (hS : StV w s S) (hlS : S.length ≤ 100000) (hz : IsPds w a len cap P) (hnl : a = none → cap = 0) (hw : IsWqs w aw nw cw ws) (ht : time < 18446744073709551616) (hk : (kind : Int) % 6 = 1) (c : Nat) (hc : mayP S P t time ws = (c : Int)) :
    Calls Try.prog 17 #[.agg #[s, .slice a len cap], .agg (opCells kind t key time aw nw cw)] w (DoRes w s (.slice a len cap) S P vr0 c) := by
  obtain ⟨aS, cS, rfl, hS1, hS2⟩ := hS
  obtain ⟨tn, tl, ts⟩ := t
  have HNL := Lib.hid hnl
  clear hnl
  have HAT := Lib.hid (fun W (hb : Below w.heap.size w W) => pat_any (.slice aS S.length cS) a len cap P ⟨tn, tl, ts⟩ W (hz.below hb))
  have HMY := Lib.hid (fun W (hb : Below w.heap.size w W) => pmay_any aS S.length cS S a len cap P kind ⟨tn, tl, ts⟩ key time aw nw cw ws W (hS1.below hb) hlS (hz.below hb) (hw.below hb) ht)
  rw [hc] at HMY
  have HFS := Lib.hid (show ∀ W, Below w.heap.size w W → StV W (.slice aS S.length cS) S from fun W hb => ⟨aS, cS, rfl, hS1.below hb, hS2⟩)
  have HFP := Lib.hid (show ∀ W, Below w.heap.size w W → IsPds W a len cap P from fun W hb => hz.below hb)
  unfold Tn.cells at HAT
  have HW00 := Lib.hid (DoW.start w (.slice aS S.length cS) (.slice a len cap) (opCells kind ⟨tn, tl, ts⟩ key time aw nw cw))
  unfold opCells at HW00 HMY ⊢
  obtain ⟨A, hA⟩ : ∃ A, A = atP ⟨tn, tl, ts⟩ P := ⟨_, rfl⟩
  rw [← hA] at HAT
  clear hS1 hS2 hz ht hA hc hw
  go_enter Try.func17, Try.ntmps17
  go_upto_region 1 with fail
  obtain ⟨W0, hW0⟩ : ∃ W0, W0 = (((w.alloc (.cells #[.slice aS S.length cS, .slice a len cap] 34)).alloc (.cells #[.int .u8 (kind : Int), .int .i64 tn, .int .i64 tl, .int .i64 ts, .string key, .int .u64 (time : Int), .slice aw nw cw] 40)).alloc (.cells #[.slice none 0 0, .slice none 0 0] 34)).alloc (.cells #[.int .u64 0, .bool false, .string ⟨#[]⟩] 42) := ⟨_, rfl⟩
  obtain ⟨R3, hR3⟩ : ∃ R3, R3 = w.heap.size + 1 + 1 + 1 := ⟨_, rfl⟩
  obtain ⟨R2, hR2⟩ : ∃ R2, R2 = w.heap.size + 1 + 1 := ⟨_, rfl⟩
  obtain ⟨H1, hH1⟩ : ∃ H1, H1 = w.heap.size + 1 := ⟨_, rfl⟩
  obtain ⟨H0, hH0⟩ : ∃ H0, H0 = w.heap.size := ⟨_, rfl⟩
  have HW0 : Hid (DoW w H0 H1 R2 R3 (.slice aS S.length cS) (.slice a len cap) #[.int .u8 (kind : Int), .int .i64 tn, .int .i64 tl, .int .i64 ts, .string key, .int .u64 (time : Int), .slice aw nw cw] W0) := by
    rw [hH0, hH1, hR2, hR3, hW0]; exact HW00
  rw [← hW0, ← hR3, ← hR2, ← hH1, ← hH0]
  clear hW0 hR3 hR2 hH1 hH0 HW00
  obtain ⟨p0, p1, o0, o1, o2, o3, o4, o5, o6, f2, f3, f0, c20, c21, c30, c31, c32⟩ := HW0.out.cells
  obtain ⟨ne02, ne03, ne12, ne13, ne23, ne20, ne30, ne21, ne31, ne32⟩ := HW0.out.ne
  go_upto_region 2 with (go_at_call 37; (with_reducible refine (HAT.out _ HW0.out.below).mono ?_); rintro e w1 ⟨rfl, hb1⟩; have HW1 := Lib.hid (HW0.out.later hb1); clear hb1)
  clear p0 p1 o0 o1 o2 o3 o4 o5 o6 f2 f3 f0 c20 c21 c30 c31 c32 HW0 HAT
  obtain ⟨p0, p1, o0, o1, o2, o3, o4, o5, o6, f2, f3, f0, c20, c21, c30, c31, c32⟩ := HW1.out.cells
  go_upto_region 11 with fail
  go_region_held3 (fun w' => w'.cell? ⟨H0, 0, none⟩ = some (.slice aS S.length cS) ∧ w'.cell? ⟨H0, 1, none⟩ = some (.slice a len cap) ∧ w'.cell? ⟨H1, 0, none⟩ = some (.int .u8 (kind : Int)) ∧ w'.cell? ⟨H1, 1, none⟩ = some (.int .i64 tn) ∧ w'.cell? ⟨H1, 2, none⟩ = some (.int .i64 tl) ∧ w'.cell? ⟨H1, 3, none⟩ = some (.int .i64 ts) ∧ w'.cell? ⟨H1, 4, none⟩ = some (.string key) ∧ w'.cell? ⟨H1, 5, none⟩ = some (.int .u64 (time : Int)) ∧ w'.cell? ⟨H1, 6, none⟩ = some (.slice aw nw cw)) (first | go_keep | (go_split_ands; refine ⟨?_, ?_, ?_, ?_, ?_, ?_, ?_, ?_, ?_⟩ <;> exact keep_cell hb2 (by assumption))) (((go_at_call 39; (with_reducible refine (HMY.out _ HW1.out.drew.below).mono ?_); rintro e w2 ⟨rfl, hb2⟩; have HW2 := Lib.hid (HW1.out.drew.later hb2); obtain ⟨-, -, -, -, -, -, -, -, -, g2, g3, g0, c20, c21, c30, c31, c32⟩ := HW2.out.cells)))
  all_goals
    go_wp2_with fail
    exact do_fin HW2.out vr0 (HFS.out _ HW2.out.below) (HFP.out _ HW2.out.below) HNL.out (.inl rfl) (.inl rfl) rfl rfl rfl rfl
end Go.Proofs.Ythcomfcbdlobpaa

namespace Go.Proofs.Ythcomfcbdlobpaa
open Go.RowKit
set_option linter.unusedVariables false
set_option linter.unnecessarySimpa false
set_option linter.unusedSimpArgs false
set_option maxRecDepth 100000

theorem sts_small {w : World} {s : Value} {L : List Im} (h : StV w s L) : ∀ i, i < L.length → (L.getD i im0).key.size ≤ maxLen ∧ (L.getD i im0).v.val.size ≤ maxLen ∧ (L.getD i im0).v.time < 18446744073709551616 := by
  obtain ⟨a, cap, _, h1, _⟩ := h
  intro i hi
  obtain ⟨b, off, _, _, k1, k2, k3, _⟩ := h1.2.2 i hi
  exact ⟨k1, k2, k3⟩
set_option maxHeartbeats 8000000 in
theorem pdo_ins_none (s : Value) (S : List Im) (a : Option Addr) (len cap : Nat) (P : List Pd) (kind : Nat) (t : Tn) (key : ByteArray) (time : Nat) (aw : Option Addr) (nw cw : Nat) (ws : List Wq) (w : World)
    (hS : StV w s S) (hlS : S.length ≤ 1000) (hz : IsPds w a len cap P) (hnl : a = none → cap = 0) (hw : IsWqs w aw nw cw ws) (ht : time < 18446744073709551616) (hk : (kind : Int) % 6 = 5) (hno : nw < 1) :
    Calls Try.prog 17 #[.agg #[s, .slice a len cap], .agg (opCells kind t key time aw nw cw)] w (DoRes w s (.slice a len cap) S P vr0 0) := by
  have HSL := Lib.hid (fun i hi => sts_small hS i hi)
  obtain ⟨aS, cS, rfl, hS1, hS2⟩ := hS
  obtain ⟨tn, tl, ts⟩ := t
  have HNL := Lib.hid hnl
  clear hnl
  have HAT := Lib.hid (fun W (hb : Below w.heap.size w W) => pat_any (.slice aS S.length cS) a len cap P ⟨tn, tl, ts⟩ W (hz.below hb))
  have HFS := Lib.hid (show ∀ W, Below w.heap.size w W → StV W (.slice aS S.length cS) S from fun W hb => ⟨aS, cS, rfl, hS1.below hb, hS2⟩)
  have HFP := Lib.hid (show ∀ W, Below w.heap.size w W → IsPds W a len cap P from fun W hb => hz.below hb)
  have HFW := Lib.hid (show ∀ W, Below w.heap.size w W → IsWqs W aw nw cw ws from fun W hb => hw.below hb)
  unfold Tn.cells at HAT
  have HW00 := Lib.hid (DoW.start w (.slice aS S.length cS) (.slice a len cap) (opCells kind ⟨tn, tl, ts⟩ key time aw nw cw))
  unfold opCells at HW00 ⊢
  obtain ⟨A, hA⟩ : ∃ A, A = atP ⟨tn, tl, ts⟩ P := ⟨_, rfl⟩
  rw [← hA] at HAT
  clear hS1 hS2 hz ht hA hw
  go_enter Try.func17, Try.ntmps17
  go_upto_region 1 with fail
  obtain ⟨W0, hW0⟩ : ∃ W0, W0 = (((w.alloc (.cells #[.slice aS S.length cS, .slice a len cap] 34)).alloc (.cells #[.int .u8 (kind : Int), .int .i64 tn, .int .i64 tl, .int .i64 ts, .string key, .int .u64 (time : Int), .slice aw nw cw] 40)).alloc (.cells #[.slice none 0 0, .slice none 0 0] 34)).alloc (.cells #[.int .u64 0, .bool false, .string ⟨#[]⟩] 42) := ⟨_, rfl⟩
  obtain ⟨R3, hR3⟩ : ∃ R3, R3 = w.heap.size + 1 + 1 + 1 := ⟨_, rfl⟩
  obtain ⟨R2, hR2⟩ : ∃ R2, R2 = w.heap.size + 1 + 1 := ⟨_, rfl⟩
  obtain ⟨H1, hH1⟩ : ∃ H1, H1 = w.heap.size + 1 := ⟨_, rfl⟩
  obtain ⟨H0, hH0⟩ : ∃ H0, H0 = w.heap.size := ⟨_, rfl⟩
  have HW0 : Hid (DoW w H0 H1 R2 R3 (.slice aS S.length cS) (.slice a len cap) #[.int .u8 (kind : Int), .int .i64 tn, .int .i64 tl, .int .i64 ts, .string key, .int .u64 (time : Int), .slice aw nw cw] W0) := by
    rw [hH0, hH1, hR2, hR3, hW0]; exact HW00
  rw [← hW0, ← hR3, ← hR2, ← hH1, ← hH0]
  clear hW0 hR3 hR2 hH1 hH0 HW00
  obtain ⟨p0, p1, o0, o1, o2, o3, o4, o5, o6, f2, f3, f0, c20, c21, c30, c31, c32⟩ := HW0.out.cells
  obtain ⟨ne02, ne03, ne12, ne13, ne23, ne20, ne30, ne21, ne31, ne32⟩ := HW0.out.ne
  go_upto_region 2 with (go_at_call 37; (with_reducible refine (HAT.out _ HW0.out.below).mono ?_); rintro e w1 ⟨rfl, hb1⟩; have HW1 := Lib.hid (HW0.out.later hb1); clear hb1)
  clear p0 p1 o0 o1 o2 o3 o4 o5 o6 f2 f3 f0 c20 c21 c30 c31 c32 HW0 HAT
  obtain ⟨p0, p1, o0, o1, o2, o3, o4, o5, o6, f2, f3, f0, c20, c21, c30, c31, c32⟩ := HW1.out.cells
  have e1 : decide ((nw : Int) < 1) = true := by rw [decide_eq_true_eq]; omega
  have e2 : decide (nw < 1) = true := by rw [decide_eq_true_eq]; omega
  have e3 : (nw : Int) < 1 := by omega
  clear hno
  go_upto_region 18 with fail
  go_quiet (fail)
  revert nq; intro n1
  have HW2 := Lib.hid (HW1.out.later (below_drewN (Below.refl _ _) n1))
  go_wp2_with fail
  exact do_fin HW2.out vr0 (HFS.out _ HW2.out.below) (HFP.out _ HW2.out.below) HNL.out (.inl rfl) (.inl rfl) rfl rfl rfl rfl
set_option maxHeartbeats 8000000 in
theorem pdo_ins_locked (s : Value) (S : List Im) (a : Option Addr) (len cap : Nat) (P : List Pd) (kind : Nat) (t : Tn) (key : ByteArray) (time : Nat) (aw : Option Addr) (nw cw : Nat) (ws : List Wq) (w : World)
    (hS : StV w s S) (hlS : S.length ≤ 1000) (hz : IsPds w a len cap P) (hnl : a = none → cap = 0) (hw : IsWqs w aw nw cw ws) (ht : time < 18446744073709551616) (hk : (kind : Int) % 6 = 5) (hnw : 0 < nw) (hlk : lockedP (ws.getD 0 wq0).key P = true) :
    Calls Try.prog 17 #[.agg #[s, .slice a len cap], .agg (opCells kind t key time aw nw cw)] w (DoRes w s (.slice a len cap) S P vr0 0) := by
  have HSL := Lib.hid (fun i hi => sts_small hS i hi)
  obtain ⟨aS, cS, rfl, hS1, hS2⟩ := hS
  obtain ⟨tn, tl, ts⟩ := t
  have HNL := Lib.hid hnl
  clear hnl
  have HAT := Lib.hid (fun W (hb : Below w.heap.size w W) => pat_any (.slice aS S.length cS) a len cap P ⟨tn, tl, ts⟩ W (hz.below hb))
  have HLK := Lib.hid (fun W (hb : Below w.heap.size w W) k => plocked_any (.slice aS S.length cS) a len cap P k W (hz.below hb))
  have HFS := Lib.hid (show ∀ W, Below w.heap.size w W → StV W (.slice aS S.length cS) S from fun W hb => ⟨aS, cS, rfl, hS1.below hb, hS2⟩)
  have HFP := Lib.hid (show ∀ W, Below w.heap.size w W → IsPds W a len cap P from fun W hb => hz.below hb)
  have HFW := Lib.hid (show ∀ W, Below w.heap.size w W → IsWqs W aw nw cw ws from fun W hb => hw.below hb)
  unfold Tn.cells at HAT
  have HW00 := Lib.hid (DoW.start w (.slice aS S.length cS) (.slice a len cap) (opCells kind ⟨tn, tl, ts⟩ key time aw nw cw))
  unfold opCells at HW00 ⊢
  obtain ⟨A, hA⟩ : ∃ A, A = atP ⟨tn, tl, ts⟩ P := ⟨_, rfl⟩
  rw [← hA] at HAT
  clear hS1 hS2 hz ht hA hw
  go_enter Try.func17, Try.ntmps17
  go_upto_region 1 with fail
  obtain ⟨W0, hW0⟩ : ∃ W0, W0 = (((w.alloc (.cells #[.slice aS S.length cS, .slice a len cap] 34)).alloc (.cells #[.int .u8 (kind : Int), .int .i64 tn, .int .i64 tl, .int .i64 ts, .string key, .int .u64 (time : Int), .slice aw nw cw] 40)).alloc (.cells #[.slice none 0 0, .slice none 0 0] 34)).alloc (.cells #[.int .u64 0, .bool false, .string ⟨#[]⟩] 42) := ⟨_, rfl⟩
  obtain ⟨R3, hR3⟩ : ∃ R3, R3 = w.heap.size + 1 + 1 + 1 := ⟨_, rfl⟩
  obtain ⟨R2, hR2⟩ : ∃ R2, R2 = w.heap.size + 1 + 1 := ⟨_, rfl⟩
  obtain ⟨H1, hH1⟩ : ∃ H1, H1 = w.heap.size + 1 := ⟨_, rfl⟩
  obtain ⟨H0, hH0⟩ : ∃ H0, H0 = w.heap.size := ⟨_, rfl⟩
  have HW0 : Hid (DoW w H0 H1 R2 R3 (.slice aS S.length cS) (.slice a len cap) #[.int .u8 (kind : Int), .int .i64 tn, .int .i64 tl, .int .i64 ts, .string key, .int .u64 (time : Int), .slice aw nw cw] W0) := by
    rw [hH0, hH1, hR2, hR3, hW0]; exact HW00
  rw [← hW0, ← hR3, ← hR2, ← hH1, ← hH0]
  clear hW0 hR3 hR2 hH1 hH0 HW00
  obtain ⟨p0, p1, o0, o1, o2, o3, o4, o5, o6, f2, f3, f0, c20, c21, c30, c31, c32⟩ := HW0.out.cells
  obtain ⟨ne02, ne03, ne12, ne13, ne23, ne20, ne30, ne21, ne31, ne32⟩ := HW0.out.ne
  go_upto_region 2 with (go_at_call 37; (with_reducible refine (HAT.out _ HW0.out.below).mono ?_); rintro e w1 ⟨rfl, hb1⟩; have HW1 := Lib.hid (HW0.out.later hb1); clear hb1)
  clear p0 p1 o0 o1 o2 o3 o4 o5 o6 f2 f3 f0 c20 c21 c30 c31 c32 HW0 HAT
  obtain ⟨p0, p1, o0, o1, o2, o3, o4, o5, o6, f2, f3, f0, c20, c21, c30, c31, c32⟩ := HW1.out.cells
  have e1 : decide ((nw : Int) < 1) = false := by rw [decide_eq_false_iff_not]; omega
  have e2 : decide (nw < 1) = false := by rw [decide_eq_false_iff_not]; omega
  have e3 : ¬ (nw : Int) < 1 := by omega
  have e4 : (0 : Int) < (nw : Int) := by omega
  obtain ⟨b, off, rfl, hbl, hz1, hz2, j0, j1, j2⟩ := (HFW.out _ HW1.out.below).2.2.2 0 hnw
  rw [Nat.zero_mul, Nat.add_zero] at j0 j1 j2
  obtain ⟨⟨k0, g0, v0⟩, hzz⟩ : ∃ z, z = ws.getD 0 wq0 := ⟨_, rfl⟩
  rw [← hzz] at j0 j1 j2 hz1 hz2 hlk
  simp only at j0 j1 j2 hz1 hz2 hlk
  have HZ1 := Lib.hid hz1
  have HZ2 := Lib.hid hz2
  have HBL := Lib.hid hbl
  clear hz1 hz2 hbl hzz
  obtain ⟨LB, hLB⟩ : ∃ LB, LB = lockedP k0 P := ⟨_, rfl⟩
  rw [← hLB] at hlk
  subst hlk
  have HLK2 := Lib.hid (fun W (hb : Below w.heap.size w W) => HLK.out W hb k0)
  rw [← hLB] at HLK2
  clear hLB HLK
  go_upto_region 18 with fail
  go_region_held3 (fun w' => w'.cell? ⟨H0, 0, none⟩ = some (.slice aS S.length cS) ∧ w'.cell? ⟨H0, 1, none⟩ = some (.slice a len cap) ∧ w'.cell? ⟨H1, 5, none⟩ = some (.int .u64 (time : Int)) ∧ w'.cell? ⟨H1, 6, none⟩ = some (.slice (some ⟨b, off, none⟩) nw cw) ∧ w'.cell? ⟨b, off, none⟩ = some (.string k0) ∧ w'.cell? ⟨b, off + 2, none⟩ = some (.string v0)) (first | go_keep | (go_split_ands; refine ⟨?_, ?_, ?_, ?_, ?_, ?_⟩ <;> exact keep_cell hb2 (by assumption))) (((go_at_call 14; (with_reducible refine (HLK2.out _ HW1.out.drew.below).mono ?_); rintro e w2 ⟨rfl, hb2⟩; have HW2 := Lib.hid (HW1.out.drew.later hb2))))
  all_goals
    clear p0 p1 o0 o1 o2 o3 o4 o5 o6 f2 f3 f0 c20 c21 c30 c31 c32
    obtain ⟨p0, p1, o0, o1, o2, o3, o4, o5, o6, f2, f3, f0, c20, c21, c30, c31, c32⟩ := HW2.out.cells
    go_wp2_with fail
    exact do_fin HW2.out vr0 (HFS.out _ HW2.out.below) (HFP.out _ HW2.out.below) HNL.out (.inl rfl) (.inl rfl) rfl rfl rfl rfl
end Go.Proofs.Ythcomfcbdlobpaa
