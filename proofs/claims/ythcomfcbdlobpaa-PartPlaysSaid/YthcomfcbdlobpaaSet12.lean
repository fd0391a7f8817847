/-
  Joined: PrtDoG, PrtDoH.
-/
import Derived.Test.YthcomfcbdlobpaaSet11
namespace Go.Proofs.Ythcomfcbdlobpaa
open Go.RowKit
set_option linter.unusedVariables false
set_option linter.unnecessarySimpa false
set_option linter.unusedSimpArgs false
set_option maxRecDepth 100000

set_option maxHeartbeats 8000000 in
theorem pdo_none (s : Value) (S : List Im) (a : Option Addr) (len cap : Nat) (P : List Pd) (kind : Nat) (t : Tn) (key : ByteArray) (time : Nat) (aw : Option Addr) (nw cw : Nat) (ws : List Wq) (w : World)
    (hS : StV w s S) (hlS : S.length ≤ 1000) (hz : IsPds w a len cap P) (hnl : a = none → cap = 0) (hw : IsWqs w aw nw cw ws) (ht : time < 18446744073709551616) (k6 : Nat) (hk : (kind : Int) % 6 = k6) (hk6 : k6 = 3 ∨ k6 = 4) (hno : ¬ atN t P < P.length) :
    Calls Try.prog 17 #[.agg #[s, .slice a len cap], .agg (opCells kind t key time aw nw cw)] w (DoRes w s (.slice a len cap) S P vr0 9) := by
  have HSL := Lib.hid (fun i hi => sts_small hS i hi)
  obtain ⟨aS, cS, rfl, hS1, hS2⟩ := hS
  obtain ⟨tn, tl, ts⟩ := t
  have HNL := Lib.hid hnl
  clear hnl
  have HAT := Lib.hid (fun W (hb : Below w.heap.size w W) => pat_any (.slice aS S.length cS) a len cap P ⟨tn, tl, ts⟩ W (hz.below hb))
  have HFS := Lib.hid (show ∀ W, Below w.heap.size w W → StV W (.slice aS S.length cS) S from fun W hb => ⟨aS, cS, rfl, hS1.below hb, hS2⟩)
  have HFP := Lib.hid (show ∀ W, Below w.heap.size w W → IsPds W a len cap P from fun W hb => hz.below hb)
  have HFW := Lib.hid (show ∀ W, Below w.heap.size w W → IsWqs W aw nw cw ws from fun W hb => hw.below hb)
  unfold Tn.cells at HAT
  have HW00 := Lib.hid (DoW.start w (.slice aS S.length cS) (.slice a len cap) (opCells kind ⟨tn, tl, ts⟩ key time aw nw cw))
  unfold opCells at HW00 ⊢
  obtain ⟨A, hA⟩ : ∃ A, A = atP ⟨tn, tl, ts⟩ P := ⟨_, rfl⟩
  have hA2 : A = -1 := by rw [hA]; unfold atP; rw [if_neg hno]
  rw [← hA] at HAT
  clear hno
  rw [hA2] at HAT hA
  clear hA2
  clear hS1 hS2 hz ht hA hw
  go_enter Try.func17, Try.ntmps17
  go_upto_region 1 with fail
  obtain ⟨W0, hW0⟩ : ∃ W0, W0 = (((w.alloc (.cells #[.slice aS S.length cS, .slice a len cap] 34)).alloc (.cells #[.int .u8 (kind : Int), .int .i64 tn, .int .i64 tl, .int .i64 ts, .string key, .int .u64 (time : Int), .slice aw nw cw] 40)).alloc (.cells #[.slice none 0 0, .slice none 0 0] 34)).alloc (.cells #[.int .u64 0, .bool false, .string ⟨#[]⟩] 42) := ⟨_, rfl⟩
  obtain ⟨R3, hR3⟩ : ∃ R3, R3 = w.heap.size + 1 + 1 + 1 := ⟨_, rfl⟩
  obtain ⟨R2, hR2⟩ : ∃ R2, R2 = w.heap.size + 1 + 1 := ⟨_, rfl⟩
  obtain ⟨H1, hH1⟩ : ∃ H1, H1 = w.heap.size + 1 := ⟨_, rfl⟩
  obtain ⟨H0, hH0⟩ : ∃ H0, H0 = w.heap.size := ⟨_, rfl⟩
  have HW0 : Hid (DoW w H0 H1 R2 R3 (.slice aS S.length cS) (.slice a len cap) #[.int .u8 (kind : Int), .int .i64 tn, .int .i64 tl, .int .i64 ts, .string key, .int .u64 (time : Int), .slice aw nw cw] W0) := by
    rw [hH0, hH1, hR2, hR3, hW0]; exact HW00
  rw [← hW0, ← hR3, ← hR2, ← hH1, ← hH0]
  clear hW0 hR3 hR2 hH1 hH0 HW00
  obtain ⟨p0, p1, o0, o1, o2, o3, o4, o5, o6, f2, f3, f0, c20, c21, c30, c31, c32⟩ := HW0.out.cells
  obtain ⟨ne02, ne03, ne12, ne13, ne23, ne20, ne30, ne21, ne31, ne32⟩ := HW0.out.ne
  go_upto_region 2 with (go_at_call 37; (with_reducible refine (HAT.out _ HW0.out.below).mono ?_); rintro e w1 ⟨rfl, hb1⟩; have HW1 := Lib.hid (HW0.out.later hb1); clear hb1)
  clear p0 p1 o0 o1 o2 o3 o4 o5 o6 f2 f3 f0 c20 c21 c30 c31 c32 HW0 HAT
  obtain ⟨p0, p1, o0, o1, o2, o3, o4, o5, o6, f2, f3, f0, c20, c21, c30, c31, c32⟩ := HW1.out.cells
  rcases hk6 with rfl | rfl
  all_goals
    go_wp2_with fail
    exact do_fin HW1.out vr0 (HFS.out _ HW1.out.below) (HFP.out _ HW1.out.below) HNL.out (.inl rfl) (.inl rfl) rfl rfl rfl rfl
set_option maxHeartbeats 8000000 in
theorem pdo_abort (s : Value) (S : List Im) (a : Option Addr) (len cap : Nat) (P : List Pd) (kind : Nat) (t : Tn) (key : ByteArray) (time : Nat) (aw : Option Addr) (nw cw : Nat) (ws : List Wq) (w : World)
    (hS : StV w s S) (hlS : S.length ≤ 1000) (hz : IsPds w a len cap P) (hnl : a = none → cap = 0) (hw : IsWqs w aw nw cw ws) (ht : time < 18446744073709551616) (hk : (kind : Int) % 6 = 4) (i : Nat) (hi : atN t P = i) (hil : i < P.length) (hlP : len ≤ 1000) :
    Calls Try.prog 17 #[.agg #[s, .slice a len cap], .agg (opCells kind t key time aw nw cw)] w (DoRes w s (.slice a len cap) S (P.take i ++ P.drop (i + 1)) vr0 0) := by
  have HSL := Lib.hid (fun i hi => sts_small hS i hi)
  obtain ⟨aS, cS, rfl, hS1, hS2⟩ := hS
  obtain ⟨tn, tl, ts⟩ := t
  have HNL := Lib.hid hnl
  clear hnl
  have HAT := Lib.hid (fun W (hb : Below w.heap.size w W) => pat_any (.slice aS S.length cS) a len cap P ⟨tn, tl, ts⟩ W (hz.below hb))
  have hilen : i < len := by rw [← hz.1]; exact hil
  have HWO := Lib.hid (fun W (hb : Below w.heap.size w W) => pwithout_any (.slice aS S.length cS) a len cap P i W (hz.below hb) hlP hilen)
  have HFS := Lib.hid (show ∀ W, Below w.heap.size w W → StV W (.slice aS S.length cS) S from fun W hb => ⟨aS, cS, rfl, hS1.below hb, hS2⟩)
  have HFP := Lib.hid (show ∀ W, Below w.heap.size w W → IsPds W a len cap P from fun W hb => hz.below hb)
  have HFW := Lib.hid (show ∀ W, Below w.heap.size w W → IsWqs W aw nw cw ws from fun W hb => hw.below hb)
  unfold Tn.cells at HAT
  have HW00 := Lib.hid (DoW.start w (.slice aS S.length cS) (.slice a len cap) (opCells kind ⟨tn, tl, ts⟩ key time aw nw cw))
  unfold opCells at HW00 ⊢
  obtain ⟨A, hA⟩ : ∃ A, A = atP ⟨tn, tl, ts⟩ P := ⟨_, rfl⟩
  have hA2 : A = (i : Int) := by rw [hA]; unfold atP; rw [hi, if_pos hil]
  rw [← hA] at HAT
  rw [hA2] at HAT hA
  clear hA2 hi hil hlP hilen
  clear hS1 hS2 hz ht hA hw
  go_enter Try.func17, Try.ntmps17
  go_upto_region 1 with fail
  obtain ⟨W0, hW0⟩ : ∃ W0, W0 = (((w.alloc (.cells #[.slice aS S.length cS, .slice a len cap] 34)).alloc (.cells #[.int .u8 (kind : Int), .int .i64 tn, .int .i64 tl, .int .i64 ts, .string key, .int .u64 (time : Int), .slice aw nw cw] 40)).alloc (.cells #[.slice none 0 0, .slice none 0 0] 34)).alloc (.cells #[.int .u64 0, .bool false, .string ⟨#[]⟩] 42) := ⟨_, rfl⟩
  obtain ⟨R3, hR3⟩ : ∃ R3, R3 = w.heap.size + 1 + 1 + 1 := ⟨_, rfl⟩
  obtain ⟨R2, hR2⟩ : ∃ R2, R2 = w.heap.size + 1 + 1 := ⟨_, rfl⟩
  obtain ⟨H1, hH1⟩ : ∃ H1, H1 = w.heap.size + 1 := ⟨_, rfl⟩
  obtain ⟨H0, hH0⟩ : ∃ H0, H0 = w.heap.size := ⟨_, rfl⟩
  have HW0 : Hid (DoW w H0 H1 R2 R3 (.slice aS S.length cS) (.slice a len cap) #[.int .u8 (kind : Int), .int .i64 tn, .int .i64 tl, .int .i64 ts, .string key, .int .u64 (time : Int), .slice aw nw cw] W0) := by
    rw [hH0, hH1, hR2, hR3, hW0]; exact HW00
  rw [← hW0, ← hR3, ← hR2, ← hH1, ← hH0]
  clear hW0 hR3 hR2 hH1 hH0 HW00
  obtain ⟨p0, p1, o0, o1, o2, o3, o4, o5, o6, f2, f3, f0, c20, c21, c30, c31, c32⟩ := HW0.out.cells
  obtain ⟨ne02, ne03, ne12, ne13, ne23, ne20, ne30, ne21, ne31, ne32⟩ := HW0.out.ne
  go_upto_region 2 with (go_at_call 37; (with_reducible refine (HAT.out _ HW0.out.below).mono ?_); rintro e w1 ⟨rfl, hb1⟩; have HW1 := Lib.hid (HW0.out.later hb1); clear hb1)
  clear p0 p1 o0 o1 o2 o3 o4 o5 o6 f2 f3 f0 c20 c21 c30 c31 c32 HW0 HAT
  obtain ⟨p0, p1, o0, o1, o2, o3, o4, o5, o6, f2, f3, f0, c20, c21, c30, c31, c32⟩ := HW1.out.cells
  go_upto_region 25 with fail
  go_region_held3 (fun w' => w'.cell? ⟨H0, 0, none⟩ = some (.slice aS S.length cS) ∧ w'.cell? ⟨H0, 1, none⟩ = some (.slice a len cap)) (first | go_keep | (go_split_ands; refine ⟨?_, ?_⟩ <;> exact keep_cell hb2 (by assumption))) (((go_at_call 41; (with_reducible refine (HWO.out _ HW1.out.drew.below).mono ?_); rintro e w2 ⟨a2, k2, rfl, hp2, hb2, hn2, hg2⟩; have HG2 := Lib.hid hg2; clear hg2; have HW2 := Lib.hid (HW1.out.drew.later hb2); have HP2 := Lib.hid hp2; have HN2 := Lib.hid hn2; obtain ⟨-, -, -, -, -, -, -, -, -, g2, g3, g0, c20, c21, c30, c31, c32⟩ := HW2.out.cells; clear hp2 hn2)))
  all_goals
    go_wp2_with fail
    exact do_fin HW2.out vr0 (HFS.out _ HW2.out.below) HP2.out HN2.out (.inl rfl) (.inr (HG2.out.imp id (fun ⟨g, e, h⟩ => ⟨g, e, Nat.le_trans HW1.out.below.size h⟩))) rfl rfl rfl rfl
end Go.Proofs.Ythcomfcbdlobpaa

namespace Go.Proofs.Ythcomfcbdlobpaa
open Go.RowKit
set_option linter.unusedVariables false
set_option linter.unnecessarySimpa false
set_option linter.unusedSimpArgs false
set_option maxRecDepth 100000

/-- Some writes installed at a time. -/
def insAll (S : List Im) (time : Nat) (ws : List Wq) : List Im := ws.foldl (fun s m => (insM s ⟨m.key, ⟨time, m.gone, m.val⟩⟩).1) S
theorem insAll_snoc (S : List Im) (time : Nat) (ws : List Wq) (m : Wq) : insAll S time (ws ++ [m]) = (insM (insAll S time ws) ⟨m.key, ⟨time, m.gone, m.val⟩⟩).1 := by unfold insAll; rw [List.foldl_append]; rfl
theorem insM_len (L : List Im) (m : Im) : (insM L m).1.length ≤ L.length + 1 := by
  unfold insM
  repeat' split
  all_goals simp
theorem insAll_len (time : Nat) : ∀ (ws : List Wq) (S : List Im), (insAll S time ws).length ≤ S.length + ws.length
  | [], S => by simp [insAll]
  | m :: ws, S => by
    have h1 := insAll_len time ws (insM S ⟨m.key, ⟨time, m.gone, m.val⟩⟩).1
    have h2 := insM_len S ⟨m.key, ⟨time, m.gone, m.val⟩⟩
    have e : insAll S time (m :: ws) = insAll (insM S ⟨m.key, ⟨time, m.gone, m.val⟩⟩).1 time ws := rfl
    rw [e]
    simp only [List.length_cons]
    omega
theorem takeW_succ (L : List Wq) {i : Nat} (h : i < L.length) : L.take (i + 1) = L.take i ++ [L.getD i wq0] := by rw [List.take_add_one, List.getD, List.getElem?_eq_getElem h]; rfl
/-- The boxes, and that of the store that grows. -/
structure CoW (w : World) (H0 H1 R2 R3 : Nat) (s sl : Value) (oc : Array Value) (g : Nat) (S : List Im) (wx : World) : Prop where
  dow : DoW w H0 H1 R2 R3 s sl oc wx
  lt : R3 < g
  box : ∃ a k, wx.heap[g]? = some (.cells #[.slice a S.length k] 31 (0, 0)) ∧ StV wx (.slice a S.length k) S ∧ NewS w s (.slice a S.length k)
theorem CoW.next {w wx w4 : World} {H0 H1 R2 R3 g : Nat} {s sl : Value} {oc : Array Value} {S S' : List Im} (h : CoW w H0 H1 R2 R3 s sl oc g S wx) (hb : Below wx.heap.size wx w4) {a : Option Addr} {k : Nat} (hs : StV w4 (.slice a S'.length k) S') (hn : NewS w s (.slice a S'.length k)) :
    CoW w H0 H1 R2 R3 s sl oc g S' (w4.setCell ⟨g, 0, none⟩ (.slice a S'.length k)) := by
  obtain ⟨a0, k0, hg, _, _⟩ := h.box
  have hg4 : w4.heap[g]? = some (.cells #[.slice a0 S.length k0] 31 (0, 0)) := (hb.block g (Array.getElem?_eq_some_iff.1 hg).1).trans hg
  have h4 := h.dow.later hb
  have ho := h.dow.old
  have hlt := h.lt
  have ne : ∀ k, k ≤ R3 → k ≠ g := fun k hk => by omega
  refine ⟨⟨h4.below.setCell (by show w.heap.size ≤ g; omega) _, ho, ?_, ?_, ?_, ?_⟩, hlt, a, k, ?_, hs.frn (FrnSame.set (j := 0) (.inr (.inr ⟨_, _, _, _, _, hg4⟩)) _), hn⟩
  · rw [Below.heap_setCell _ _ _ _ (ne _ (by omega))]; exact h4.r0
  · rw [Below.heap_setCell _ _ _ _ (ne _ (by omega))]; exact h4.r1
  · rw [Below.heap_setCell _ _ _ _ (ne _ (by omega))]; exact h4.r2
  · rw [Below.heap_setCell _ _ _ _ (ne _ (by omega))]; exact h4.r3
  · rw [heap_setCell_same _ _ 0 _ _ _ hg4]; rfl

set_option maxHeartbeats 8000000 in
theorem pdo_commit_early (s : Value) (S : List Im) (a : Option Addr) (len cap : Nat) (P : List Pd) (kind : Nat) (t : Tn) (key : ByteArray) (time : Nat) (aw : Option Addr) (nw cw : Nat) (ws : List Wq) (w : World)
    (hS : StV w s S) (hlS : S.length ≤ 1000) (hz : IsPds w a len cap P) (hnl : a = none → cap = 0) (hw : IsWqs w aw nw cw ws) (ht : time < 18446744073709551616) (hk : (kind : Int) % 6 = 3) (i : Nat) (hi : atN t P = i) (hil : i < P.length) (p : Pd) (hp : P.getD i pd0 = p) (hte : time ≤ p.start) :
    Calls Try.prog 17 #[.agg #[s, .slice a len cap], .agg (opCells kind t key time aw nw cw)] w (DoRes w s (.slice a len cap) S P vr0 1) := by
  have HSL := Lib.hid (fun i hi => sts_small hS i hi)
  obtain ⟨aS, cS, rfl, hS1, hS2⟩ := hS
  obtain ⟨tn, tl, ts⟩ := t
  have HNL := Lib.hid hnl
  clear hnl
  have HAT := Lib.hid (fun W (hb : Below w.heap.size w W) => pat_any (.slice aS S.length cS) a len cap P ⟨tn, tl, ts⟩ W (hz.below hb))
  have hilen : i < len := by rw [← hz.1]; exact hil
  have HFS := Lib.hid (show ∀ W, Below w.heap.size w W → StV W (.slice aS S.length cS) S from fun W hb => ⟨aS, cS, rfl, hS1.below hb, hS2⟩)
  have HFP := Lib.hid (show ∀ W, Below w.heap.size w W → IsPds W a len cap P from fun W hb => hz.below hb)
  have HFW := Lib.hid (show ∀ W, Below w.heap.size w W → IsWqs W aw nw cw ws from fun W hb => hw.below hb)
  unfold Tn.cells at HAT
  have HW00 := Lib.hid (DoW.start w (.slice aS S.length cS) (.slice a len cap) (opCells kind ⟨tn, tl, ts⟩ key time aw nw cw))
  unfold opCells at HW00 ⊢
  obtain ⟨A, hA⟩ : ∃ A, A = atP ⟨tn, tl, ts⟩ P := ⟨_, rfl⟩
  have hA2 : A = (i : Int) := by rw [hA]; unfold atP; rw [hi, if_pos hil]
  rw [← hA] at HAT
  rw [hA2] at HAT hA
  have HP := Lib.hid hp
  clear hA2 hi hil hp
  clear hS1 hS2 hz ht hA hw
  go_enter Try.func17, Try.ntmps17
  go_upto_region 1 with fail
  obtain ⟨W0, hW0⟩ : ∃ W0, W0 = (((w.alloc (.cells #[.slice aS S.length cS, .slice a len cap] 34)).alloc (.cells #[.int .u8 (kind : Int), .int .i64 tn, .int .i64 tl, .int .i64 ts, .string key, .int .u64 (time : Int), .slice aw nw cw] 40)).alloc (.cells #[.slice none 0 0, .slice none 0 0] 34)).alloc (.cells #[.int .u64 0, .bool false, .string ⟨#[]⟩] 42) := ⟨_, rfl⟩
  obtain ⟨R3, hR3⟩ : ∃ R3, R3 = w.heap.size + 1 + 1 + 1 := ⟨_, rfl⟩
  obtain ⟨R2, hR2⟩ : ∃ R2, R2 = w.heap.size + 1 + 1 := ⟨_, rfl⟩
  obtain ⟨H1, hH1⟩ : ∃ H1, H1 = w.heap.size + 1 := ⟨_, rfl⟩
  obtain ⟨H0, hH0⟩ : ∃ H0, H0 = w.heap.size := ⟨_, rfl⟩
  have HW0 : Hid (DoW w H0 H1 R2 R3 (.slice aS S.length cS) (.slice a len cap) #[.int .u8 (kind : Int), .int .i64 tn, .int .i64 tl, .int .i64 ts, .string key, .int .u64 (time : Int), .slice aw nw cw] W0) := by
    rw [hH0, hH1, hR2, hR3, hW0]; exact HW00
  rw [← hW0, ← hR3, ← hR2, ← hH1, ← hH0]
  clear hW0 hR3 hR2 hH1 hH0 HW00
  obtain ⟨p0, p1, o0, o1, o2, o3, o4, o5, o6, f2, f3, f0, c20, c21, c30, c31, c32⟩ := HW0.out.cells
  obtain ⟨ne02, ne03, ne12, ne13, ne23, ne20, ne30, ne21, ne31, ne32⟩ := HW0.out.ne
  go_upto_region 2 with (go_at_call 37; (with_reducible refine (HAT.out _ HW0.out.below).mono ?_); rintro e w1 ⟨rfl, hb1⟩; have HW1 := Lib.hid (HW0.out.later hb1); clear hb1)
  clear p0 p1 o0 o1 o2 o3 o4 o5 o6 f2 f3 f0 c20 c21 c30 c31 c32 HW0 HAT
  obtain ⟨p0, p1, o0, o1, o2, o3, o4, o5, o6, f2, f3, f0, c20, c21, c30, c31, c32⟩ := HW1.out.cells
  have hiz : (i : Int) < (len : Int) := by omega
  obtain ⟨b, off, rfl, hbl, hst, hws, k0, k1, k2, k3, k4⟩ := (HFP.out _ HW1.out.below).2.2.2 i hilen
  rw [HP.out] at hst hws k3 k4
  have HST := Lib.hid hst
  have HBL := Lib.hid hbl
  clear hst hbl k0 k1 k2
  have c1 : (time : Int) ≤ (p.start : Int) := by omega
  have c2 : decide ((time : Int) ≤ (p.start : Int)) = true := by simpa using hte
  have c3 : decide (time ≤ p.start) = true := by simpa using hte
  clear hte
  go_upto_region 26 with fail
  go_quiet (fail)
  revert nq; intro n1
  have HW2 := Lib.hid (HW1.out.later (below_drewN (Below.refl _ _) n1))
  go_wp2_with fail
  exact do_fin HW2.out vr0 (HFS.out _ HW2.out.below) (HFP.out _ HW2.out.below) HNL.out (.inl rfl) (.inl rfl) rfl rfl rfl rfl
set_option maxHeartbeats 8000000 in
theorem pdo_commit (s : Value) (S : List Im) (a : Option Addr) (len cap : Nat) (P : List Pd) (kind : Nat) (t : Tn) (key : ByteArray) (time : Nat) (aw : Option Addr) (nw cw : Nat) (ws : List Wq) (w : World)
    (hS : StV w s S) (hlS : S.length ≤ 1000) (hz : IsPds w a len cap P) (hnl : a = none → cap = 0) (hw : IsWqs w aw nw cw ws) (ht : time < 18446744073709551616) (hk : (kind : Int) % 6 = 3) (i : Nat) (hi : atN t P = i) (hil : i < P.length) (p : Pd) (hp : P.getD i pd0 = p) (hte : ¬ time ≤ p.start) (hlP : len ≤ 1000) (hlA : S.length + p.w.length ≤ 1000) :
    Calls Try.prog 17 #[.agg #[s, .slice a len cap], .agg (opCells kind t key time aw nw cw)] w (DoRes w s (.slice a len cap) (insAll S time p.w) (P.take i ++ P.drop (i + 1)) vr0 0) := by
  obtain ⟨pt, ps, pa, pn, pc, pw⟩ := p
  simp only at hte hlA ⊢
  have HSL := Lib.hid (fun i hi => sts_small hS i hi)
  obtain ⟨aS, cS, rfl, hS1, hS2⟩ := hS
  obtain ⟨tn, tl, ts⟩ := t
  have HNL := Lib.hid hnl
  clear hnl
  have HAT := Lib.hid (fun W (hb : Below w.heap.size w W) => pat_any (.slice aS S.length cS) a len cap P ⟨tn, tl, ts⟩ W (hz.below hb))
  have hilen : i < len := by rw [← hz.1]; exact hil
  have HWO := Lib.hid (fun W (hb : Below w.heap.size w W) => pwithout_any (.slice aS S.length cS) a len cap P i W (hz.below hb) hlP hilen)
  have HLA := Lib.hid hlA
  have HTM := Lib.hid ht
  have HFS := Lib.hid (show ∀ W, Below w.heap.size w W → StV W (.slice aS S.length cS) S from fun W hb => ⟨aS, cS, rfl, hS1.below hb, hS2⟩)
  have HFP := Lib.hid (show ∀ W, Below w.heap.size w W → IsPds W a len cap P from fun W hb => hz.below hb)
  have HFW := Lib.hid (show ∀ W, Below w.heap.size w W → IsWqs W aw nw cw ws from fun W hb => hw.below hb)
  unfold Tn.cells at HAT
  have HW00 := Lib.hid (DoW.start w (.slice aS S.length cS) (.slice a len cap) (opCells kind ⟨tn, tl, ts⟩ key time aw nw cw))
  unfold opCells at HW00 ⊢
  obtain ⟨A, hA⟩ : ∃ A, A = atP ⟨tn, tl, ts⟩ P := ⟨_, rfl⟩
  have hA2 : A = (i : Int) := by rw [hA]; unfold atP; rw [hi, if_pos hil]
  rw [← hA] at HAT
  rw [hA2] at HAT hA
  have HP := Lib.hid hp
  clear hA2 hi hil hp hlP hlA
  clear hS1 hS2 hz ht hA hw
  go_enter Try.func17, Try.ntmps17
  go_upto_region 1 with fail
  obtain ⟨W0, hW0⟩ : ∃ W0, W0 = (((w.alloc (.cells #[.slice aS S.length cS, .slice a len cap] 34)).alloc (.cells #[.int .u8 (kind : Int), .int .i64 tn, .int .i64 tl, .int .i64 ts, .string key, .int .u64 (time : Int), .slice aw nw cw] 40)).alloc (.cells #[.slice none 0 0, .slice none 0 0] 34)).alloc (.cells #[.int .u64 0, .bool false, .string ⟨#[]⟩] 42) := ⟨_, rfl⟩
  obtain ⟨R3, hR3⟩ : ∃ R3, R3 = w.heap.size + 1 + 1 + 1 := ⟨_, rfl⟩
  obtain ⟨R2, hR2⟩ : ∃ R2, R2 = w.heap.size + 1 + 1 := ⟨_, rfl⟩
  obtain ⟨H1, hH1⟩ : ∃ H1, H1 = w.heap.size + 1 := ⟨_, rfl⟩
  obtain ⟨H0, hH0⟩ : ∃ H0, H0 = w.heap.size := ⟨_, rfl⟩
  have HW0 : Hid (DoW w H0 H1 R2 R3 (.slice aS S.length cS) (.slice a len cap) #[.int .u8 (kind : Int), .int .i64 tn, .int .i64 tl, .int .i64 ts, .string key, .int .u64 (time : Int), .slice aw nw cw] W0) := by
    rw [hH0, hH1, hR2, hR3, hW0]; exact HW00
  rw [← hW0, ← hR3, ← hR2, ← hH1, ← hH0]
  clear hW0 hR3 hR2 hH1 hH0 HW00
  obtain ⟨p0, p1, o0, o1, o2, o3, o4, o5, o6, f2, f3, f0, c20, c21, c30, c31, c32⟩ := HW0.out.cells
  obtain ⟨ne02, ne03, ne12, ne13, ne23, ne20, ne30, ne21, ne31, ne32⟩ := HW0.out.ne
  go_upto_region 2 with (go_at_call 37; (with_reducible refine (HAT.out _ HW0.out.below).mono ?_); rintro e w1 ⟨rfl, hb1⟩; have HW1 := Lib.hid (HW0.out.later hb1); clear hb1)
  clear p0 p1 o0 o1 o2 o3 o4 o5 o6 f2 f3 f0 c20 c21 c30 c31 c32 HW0 HAT
  obtain ⟨p0, p1, o0, o1, o2, o3, o4, o5, o6, f2, f3, f0, c20, c21, c30, c31, c32⟩ := HW1.out.cells
  have hiz : (i : Int) < (len : Int) := by omega
  obtain ⟨b, off, rfl, hbl, hst, hws, k0, k1, k2, k3, k4⟩ := (HFP.out _ HW1.out.below).2.2.2 i hilen
  rw [HP.out] at hst hws k3 k4
  have HST := Lib.hid hst
  have HBL := Lib.hid hbl
  clear hst hbl k0 k1 k2
  simp only at k3 k4 hws
  have c1 : ¬ (time : Int) ≤ (ps : Int) := by omega
  have c2 : decide ((time : Int) ≤ (ps : Int)) = false := by simpa using hte
  have c3 : decide (time ≤ ps) = false := by simpa using hte
  clear hte
  go_upto_region 26 with fail
  go_quiet (fail)
  revert nq; intro n1
  have HW2 := Lib.hid (HW1.out.later (below_drewN (Below.refl _ _) n1))
  obtain ⟨w2, hw2⟩ : ∃ w2, w2 = w1.drewN n1 := ⟨_, rfl⟩
  rw [← hw2] at HW2 ⊢
  clear hw2 p0 p1 o0 o1 o2 o3 o4 o5 o6 f2 f3 f0 c20 c21 c30 c31 c32 HW1 k3 k4
  obtain ⟨p0, p1, o0, o1, o2, o3, o4, o5, o6, f2, f3, f0, c20, c21, c30, c31, c32⟩ := HW2.out.cells
  have HPQ := Lib.hid (show ∀ W, Below w.heap.size w W → IsWqs W pa pn pc pw ∧ W.cell? ⟨b, off + i * 5 + 3, none⟩ = some (.int .u64 (ps : Int)) ∧ W.cell? ⟨b, off + i * 5 + 4, none⟩ = some (.slice pa pn pc) from fun W hb => by
    obtain ⟨b', off', hbb, hbl, _, h1, _, _, _, k3, k4⟩ := (HFP.out _ hb).2.2.2 i hilen
    rw [HP.out] at k3 k4 h1
    simp only [Option.some.injEq, Addr.mk.injEq, and_true] at hbb k3 k4 h1
    obtain ⟨rfl, rfl⟩ := hbb
    exact ⟨h1, k3, k4⟩)
  have HLW := Lib.hid hws.1
  clear c1 c2 c3 hws HBL
  go_upto_region 29 with fail
  have hbx := heap_alloc_new w2 (.cells #[.slice aS S.length cS] 31)
  have hbw : Below w2.heap.size w2 (w2.alloc (.cells #[.slice aS S.length cS] 31)) := (Below.refl w2.heap.size w2).alloc (Nat.le_refl _) _
  have hlt2 : R3 < w2.heap.size := (Array.getElem?_eq_some_iff.1 HW2.out.r3).1
  have HC0 : Hid (CoW w H0 H1 R2 R3 (.slice aS S.length cS) (.slice (some ⟨b, off, none⟩) len cap) #[.int .u8 (kind : Int), .int .i64 tn, .int .i64 tl, .int .i64 ts, .string key, .int .u64 (time : Int), .slice aw nw cw] w2.heap.size S (w2.alloc (.cells #[.slice aS S.length cS] 31))) :=
    Lib.hid ⟨HW2.out.later hbw, hlt2, aS, cS, hbx, HFS.out _ (HW2.out.later hbw).below, .inl rfl⟩
  obtain ⟨w3, hw3⟩ : ∃ w3, w3 = w2.alloc (.cells #[.slice aS S.length cS] 31) := ⟨_, rfl⟩
  obtain ⟨g13, hg13⟩ : ∃ g13, g13 = w2.heap.size := ⟨_, rfl⟩
  rw [← hw3, ← hg13] at HC0
  rw [← hw3, ← hg13]
  clear hw3 hg13 hbx hbw hlt2 HW2 p0 p1 o0 o1 o2 o3 o4 o5 o6 f2 f3 f0 c20 c21 c30 c31 c32
  go_wp2_with fail
  go_loopg [14] pn (fun q s14 wx => ∃ (k : Nat), k + q = pn ∧ s14 = .int .i64 k ∧ Hid (CoW w H0 H1 R2 R3 (.slice aS S.length cS) (.slice (some ⟨b, off, none⟩) len cap) #[.int .u8 (kind : Int), .int .i64 tn, .int .i64 tl, .int .i64 ts, .string key, .int .u64 (time : Int), .slice aw nw cw] g13 (insAll S time (pw.take k)) wx))
  case atStart => exact ⟨0, by omega, rfl, HC0⟩
  case round =>
    obtain ⟨k, hkq, rfl, HC⟩ := hrel
    clear HC0
    obtain ⟨a5, k5, hbx, hst, hns⟩ := HC.out.box
    have HNS := Lib.hid hns
    have HSt := Lib.hid hst
    obtain ⟨p0, p1, o0, o1, o2, o3, o4, o5, o6, f2, f3, f0, c20, c21, c30, c31, c32⟩ := HC.out.dow.cells
    obtain ⟨-, -, k4⟩ := HPQ.out _ HC.out.dow.below
    have b0 : wr.cell? ⟨g13, 0, none⟩ = some (.slice a5 (insAll S time (pw.take k)).length k5) := by rw [cell_of_row _ _ _ _ _ _ hbx]; rfl
    have HBX := Lib.hid hbx
    have hlt13 := HC.out.lt
    have hold := HC.out.dow.old
    have n1 : g13 ≠ R2 := by omega
    have n2 : R2 ≠ g13 := by omega
    have n3 : g13 ≠ R3 := by omega
    have n4 : R3 ≠ g13 := by omega
    clear hst hbx hlt13 hold hns
    cases gk with
    | zero =>
      obtain rfl : k = pn := by omega
      obtain ⟨L, hL⟩ : ∃ L, L = insAll S time (pw.take k) := ⟨_, rfl⟩
      rw [← hL] at b0 HSt HNS
      have HLE : Hid (L = insAll S time pw) := Lib.hid (by rw [hL, List.take_of_length_le (Nat.le_of_eq HLW.out)])
      clear hL
      go_upto_region 35 with fail
      go_region_held3 (fun w' => w'.cell? ⟨g13, 0, none⟩ = some (.slice a5 L.length k5) ∧ w'.cell? ⟨H0, 0, none⟩ = some (.slice aS S.length cS) ∧ w'.cell? ⟨H0, 1, none⟩ = some (.slice (some ⟨b, off, none⟩) len cap)) (first | go_keep | (go_split_ands; refine ⟨?_, ?_, ?_⟩ <;> exact keep_cell hb5 (by assumption))) (((go_at_call 41; (with_reducible refine (HWO.out _ HC.out.dow.drew.below).mono ?_); rintro e w5 ⟨a2, k2, rfl, hp2, hb5, hn2, hg2⟩; have HG2 := Lib.hid hg2; clear hg2; have HW5 := Lib.hid (HC.out.dow.drew.later hb5); have HP2 := Lib.hid hp2; have HN2 := Lib.hid hn2; have HS5 := Lib.hid (HSt.out.below (((Below.refl _ _).drew).trans hb5)); obtain ⟨-, -, -, -, -, -, -, -, -, g2, g3, g0, c20, c21, c30, c31, c32⟩ := HW5.out.cells; clear hp2 hn2)))
      all_goals
        go_wp2_with fail
        exact do_fin HW5.out vr0 (by rw [← HLE.out]; exact HS5.out) HP2.out HN2.out HNS.out (.inr (HG2.out.imp id (fun ⟨g, e, h⟩ => ⟨g, e, Nat.le_trans HC.out.dow.below.size h⟩))) rfl rfl rfl rfl
    | succ q =>
      obtain ⟨L, hL⟩ : ∃ L, L = insAll S time (pw.take k) := ⟨_, rfl⟩
      have hkl : k < pw.length := by rw [HLW.out]; omega
      have HLN : Hid (∀ m : Wq, m = pw.getD k wq0 → insAll S time (pw.take (k + 1)) = (insM L ⟨m.key, ⟨time, m.gone, m.val⟩⟩).1) := Lib.hid (fun m hm => by rw [takeW_succ pw hkl, insAll_snoc, ← hL, hm])
      have HLL : Hid (L.length ≤ 1000) := Lib.hid (by
        have h1 := insAll_len time (pw.take k) S
        have h2 := HLA.out
        rw [List.length_take] at h1
        rw [hL]
        omega)
      rw [← hL] at b0 HSt HBX HNS
      clear hL
      have hkn : k < pn := by omega
      have hpn : pn ≤ 1000 := by have h1 := HLA.out; have h2 := HLW.out; omega
      have hkz : (k : Int) < (pn : Int) := by omega
      obtain ⟨b2, off2, rfl, hbl2, hz1, hz2, j0, j1, j2⟩ := (HPQ.out _ HC.out.dow.below).1.2.2.2 k hkn
      obtain ⟨z, hzz⟩ : ∃ z, z = pw.getD k wq0 := ⟨_, rfl⟩
      rw [← hzz] at j0 j1 j2 hz1 hz2
      have HLN2 := Lib.hid (HLN.out z hzz)
      obtain ⟨zk, zg, zv⟩ := z
      simp only at j0 j1 j2 hz1 hz2
      have HIN := Lib.hid (fun W (hb : Below wr.heap.size wr W) => minstall_any (.slice a5 L.length k5) L ⟨zk, ⟨time, zg, zv⟩⟩ W (HSt.out.below hb) HLL.out ⟨hz1, hz2, HTM.out⟩ (sts_small HSt.out))
      obtain ⟨I, hI⟩ : ∃ I, I = insM L ⟨zk, ⟨time, zg, zv⟩⟩ := ⟨_, rfl⟩
      rw [← hI] at HIN HLN2
      obtain ⟨S2, c2⟩ := I
      simp only at HIN HLN2
      unfold InsOut at HIN
      clear hI hzz hz1 hz2 hbl2 HLN HLL hkl
      go_upto_region 33 with fail
      have hbw : Below wr.heap.size wr (wr.alloc (.cells #[.string zk, .bool zg, .string zv] 51)) := (Below.refl wr.heap.size wr).alloc (Nat.le_refl _) _
      have hrow := heap_alloc_new wr (.cells #[.string zk, .bool zg, .string zv] 51)
      have HD6 := Lib.hid (HC.out.dow.later hbw)
      have hb06 := (hbw.cell (p := ⟨g13, 0, none⟩) (World.block_lt_of_cell? wr ⟨g13, 0, none⟩ b0)).trans b0
      obtain ⟨w6, hw6⟩ : ∃ w6, w6 = wr.alloc (.cells #[.string zk, .bool zg, .string zv] 51) := ⟨_, rfl⟩
      obtain ⟨g15, hg15⟩ : ∃ g15, g15 = wr.heap.size := ⟨_, rfl⟩
      rw [← hg15] at hrow
      rw [← hw6] at hbw hrow HD6 hb06
      rw [← hw6, ← hg15]
      have HBW := Lib.hid hbw
      clear hw6 hg15 hbw j0 j1 j2 k4 b0 p0 p1 o0 o1 o2 o3 o4 o5 o6 f2 f3 f0 c20 c21 c30 c31 c32
      obtain ⟨p0, p1, o0, o1, o2, o3, o4, o5, o6, f2, f3, f0, c20, c21, c30, c31, c32⟩ := HD6.out.cells
      have z0 : w6.cell? ⟨g15, 0, none⟩ = some (.string zk) := by rw [cell_of_row _ _ _ _ _ _ hrow]; rfl
      have z1 : w6.cell? ⟨g15, 1, none⟩ = some (.bool zg) := by rw [cell_of_row _ _ _ _ _ _ hrow]; rfl
      have z2 : w6.cell? ⟨g15, 2, none⟩ = some (.string zv) := by rw [cell_of_row _ _ _ _ _ _ hrow]; rfl
      clear hrow
      go_upto_region 34 with (go_at_call 40; (with_reducible refine (HIN.out _ HBW.out).mono ?_); rintro e w7 ⟨s', rfl, ⟨a3, k3, rfl, hi3, hn3⟩, hb7, hnw⟩; have HNW : Hid (NewS w (.slice aS S.length cS) (.slice a3 S2.length k3)) := Lib.hid (hnw.elim (fun e => by rw [e]; exact HNS.out) (fun ⟨h, n, c, e, hh⟩ => .inr ⟨h, n, c, e, Nat.le_trans (Nat.le_trans HC.out.dow.below.size HBW.out.size) hh⟩)); clear hnw; have HS7 : Hid (StV w7 (.slice a3 S2.length k3) S2) := Lib.hid ⟨a3, k3, rfl, hi3, hn3⟩; have HB7 := Lib.hid hb7; clear hi3 hn3 hb7)
      have hb8 : Below w7.heap.size w7 (w7.alloc (.cells #[.slice a3 S2.length k3] 31)) := (Below.refl w7.heap.size w7).alloc (Nat.le_refl _) _
      have hrow8 := heap_alloc_new w7 (.cells #[.slice a3 S2.length k3] 31)
      have HS8 := Lib.hid (HS7.out.below hb8)
      have HBB := Lib.hid (HBW.out.trans ((HB7.out.trans (hb8.mono HB7.out.size)).mono HBW.out.size))
      obtain ⟨w8, hw8⟩ : ∃ w8, w8 = w7.alloc (.cells #[.slice a3 S2.length k3] 31) := ⟨_, rfl⟩
      obtain ⟨g16, hg16⟩ : ∃ g16, g16 = w7.heap.size := ⟨_, rfl⟩
      rw [← hg16] at hrow8
      rw [← hw8] at hrow8 HS8 HBB
      rw [← hw8, ← hg16]
      have y0 : w8.cell? ⟨g16, 0, none⟩ = some (.slice a3 S2.length k3) := by rw [cell_of_row _ _ _ _ _ _ hrow8]; rfl
      have hx8 := (HBB.out.block g13 (Array.getElem?_eq_some_iff.1 HBX.out).1).trans HBX.out
      have y1 : w8.cell? ⟨g13, 0, none⟩ = some (.slice a5 L.length k5) := by rw [cell_of_row _ _ _ _ _ _ hx8]; rfl
      have y2 : ∀ j, w8.frozen? ⟨g13, j, none⟩ = false := fun j => frozen_of_row _ _ _ _ _ hx8
      clear hw8 hg16 hb8 hrow8 hx8 z0 z1 z2 hb06 p0 p1 o0 o1 o2 o3 o4 o5 o6 f2 f3 f0 c20 c21 c30 c31 c32
      go_wp2_with fail
      go_roundg q
      case measure => omega
      case rel =>
        exact ⟨k + 1, by omega, by go_num, Lib.hid (by have := HC.out.next HBB.out HS8.out HNW.out; rw [HLN2.out]; exact this)⟩
end Go.Proofs.Ythcomfcbdlobpaa
