/-
  Joined: BlkMath, BlkRef.
-/
import Derived.Test.YtplobffkelmokaaChnBytes
import Derived.Deep.LoopGhost
import Derived.BigQuiet
import Derived.Test.YtplobffkelmokaaSet04
namespace Go.Proofs.Ytplobffkelmokaa
open Go.RowKit
set_option linter.unusedVariables false
set_option linter.unnecessarySimpa false
set_option linter.unusedSimpArgs false
set_option maxRecDepth 100000

structure En where
  key : ByteArray
  ch : List Vr
def en0 : En := ⟨⟨#[]⟩, []⟩
/-- Entries that a slice has. -/
def EntAt (W : World) (b off : Nat) (e : En) : Prop :=
  b < W.heap.size ∧ e.key.size ≤ maxLen ∧ W.cell? ⟨b, off, none⟩ = some (.string e.key) ∧ ∃ ca cl cc, W.cell? ⟨b, off + 1, none⟩ = some (.slice ca cl cc) ∧ IsVers W ca cl cc e.ch
def EntsAt (W : World) (a : Option Addr) (len : Nat) (es : List En) : Prop :=
  es.length = len ∧ ∀ i, i < len → ∃ b off, a = some ⟨b, off, none⟩ ∧ EntAt W b (off + i * 2) (es.getD i en0)
def IsEnts (W : World) (a : Option Addr) (len cap : Nat) (es : List En) : Prop := EntsAt W a len es ∧ len ≤ maxLen ∧ len ≤ cap
theorem EntAt.below {W W' : World} {b off : Nat} {e : En} (h : EntAt W b off e) (hb : Below W.heap.size W W') : EntAt W' b off e := by
  obtain ⟨h1, h2, h3, ca, cl, cc, h4, h5⟩ := h
  refine ⟨Nat.lt_of_lt_of_le h1 hb.size, h2, (hb.cell (p := ⟨b, off, none⟩) h1).trans h3, ca, cl, cc, (hb.cell (p := ⟨b, off + 1, none⟩) h1).trans h4, ?_⟩
  refine ⟨⟨h5.1.1, fun i hi => ?_⟩, h5.2⟩
  obtain ⟨b', off', ha, hlt, k1, k2, k3, k4, k5⟩ := h5.1.2 i hi
  exact ⟨b', off', ha, Nat.lt_of_lt_of_le hlt hb.size, k1, k2, (hb.cell (p := ⟨b', off' + i * 3, none⟩) hlt).trans k3, (hb.cell (p := ⟨b', off' + i * 3 + 1, none⟩) hlt).trans k4, (hb.cell (p := ⟨b', off' + i * 3 + 2, none⟩) hlt).trans k5⟩
theorem IsEnts.below {W W' : World} {a : Option Addr} {len cap : Nat} {es : List En} (h : IsEnts W a len cap es) (hb : Below W.heap.size W W') : IsEnts W' a len cap es :=
  ⟨⟨h.1.1, fun i hi => by obtain ⟨b, off, ha, he⟩ := h.1.2 i hi; exact ⟨b, off, ha, he.below hb⟩⟩, h.2⟩

def fewOne (e : En) : Prop := e.key.size ≤ 100 ∧ FewVers e.ch 10
def FewEnts (es : List En) (n : Nat) : Prop := (∀ i, i < es.length → i < 100 → fewOne (es.getD i en0)) ∧ es.length ≤ n
open Classical in
noncomputable def fewB (es : List En) (n : Nat) : Bool := decide (FewEnts es n)
theorem fewB_true {es : List En} {n : Nat} : fewB es n = true ↔ FewEnts es n := by unfold fewB; simp

set_option maxHeartbeats 2000000 in
theorem bfew_any (a : Option Addr) (len cap n : Nat) (es : List En) (w : World) (hz : IsEnts w a len cap es) (hn : n < 90) :
    Calls Try.prog 7 #[.slice a len cap, .int .i64 (n : Int)] w fun e w' => e = .returned (.bool (fewB es n)) ∧ w' = w := by
  have HZ := Lib.hid hz
  have hlm := hz.2.1
  unfold maxLen at hlm
  have hel := Lib.hid hz.1.1
  clear hz
  go_enter Try.func7, Try.ntmps7
  go_wp2_with fail
  go_loopg [5] (min len 100) (fun g s5 wx => ∃ i : Nat, i + g = min len 100 ∧ s5 = .int .i64 i ∧ w = wx ∧ Hid (∀ j, j < i → fewOne (es.getD j en0)))
  case atStart => exact ⟨0, by omega, rfl, rfl, Lib.hid (fun j hj => by omega)⟩
  case round =>
    obtain ⟨i, hig, rfl, rfl, HA⟩ := hrel
    cases gk with
    | zero =>
      have hfin : Hid (fewB es n = decide (len ≤ n)) := Lib.hid (by
        have h1 : ∀ j, j < es.length → j < 100 → fewOne (es.getD j en0) := fun j hj h => HA.out j (by rw [hel.out] at hj; omega)
        by_cases h : len ≤ n
        · rw [fewB_true.2 ⟨h1, by rw [hel.out]; exact h⟩]; simp [h]
        · have : ¬ FewEnts es n := fun h2 => h (by rw [← hel.out]; exact h2.2)
          rw [show fewB es n = false by rw [← Bool.not_eq_true, fewB_true]; exact this]; simp [h])
      have hcs : (i = len) ∨ (i < len ∧ i = 100) := by omega
      clear hig HA
      rcases hcs with rfl | ⟨h5, rfl⟩
      · go_wp2_with fail
        go_ret
        exact ⟨by rw [hfin.out]; simp, rfl⟩
      · have h6 : (100 : Int) < (len : Int) := by omega
        go_wp2_with fail
        go_ret
        exact ⟨by rw [hfin.out]; simp, rfl⟩
    | succ g =>
      have hil : i < len := by omega
      have hiz : (i : Int) < (len : Int) := by omega
      have hi3 : (i : Int) < 100 := by omega
      obtain ⟨b, off, rfl, hbl, hm, k0, ca, cl, cc, k1, hv⟩ := HZ.out.1.2 i hil
      have HO := Lib.hid (show fewOne (es.getD i en0) → (∀ j, j < i + 1 → fewOne (es.getD j en0)) from fun h j hj => by
        by_cases hji : j < i
        · exact HA.out j hji
        · obtain rfl : j = i := by omega
          exact h)
      have HNo := Lib.hid (show ¬ fewOne (es.getD i en0) → fewB es n = false from fun h => by
        rw [← Bool.not_eq_true, fewB_true]
        exact fun h2 => h (h2.1 i (by rw [hel.out]; exact hil) (by omega)))
      obtain ⟨e, he⟩ : ∃ e, e = es.getD i en0 := ⟨_, rfl⟩
      rw [← he] at k0 hv hm HO HNo
      obtain ⟨K, hK⟩ : ∃ K, K = e.key := ⟨_, rfl⟩
      rw [← hK] at k0 hm
      unfold maxLen at hm
      clear he
      by_cases h1 : K.size ≤ 100
      · have hb2 : ¬ (100 : Int) < (K.size : Int) := by omega
        have hb3 : decide (100 < K.size) = false := by rw [decide_eq_false_iff_not]; omega
        by_cases h2 : FewVers e.ch 10
        · have HV := Lib.hid (vfew_yes ca cl cc 10 e.ch w hv (by omega) h2)
          have HO2 := Lib.hid (HO.out ⟨by rw [← hK]; exact h1, h2⟩)
          clear h1 h2 hK hbl HO HNo HA
          go_wp2_with (go_at_call 20; refine HV.out.mono ?_; rintro e w1 ⟨rfl, rfl⟩)
          go_roundg g
          case measure => omega
          case rel => exact ⟨i + 1, by omega, by go_num, rfl, HO2⟩
        · have HV := Lib.hid (vfew_no ca cl cc 10 e.ch w hv (by omega) h2)
          have HN := Lib.hid (HNo.out (fun h => h2 h.2))
          clear h1 h2 hK hbl HO HNo HA
          go_wp2_with (go_at_call 20; refine HV.out.mono ?_; rintro e w1 ⟨rfl, rfl⟩)
          go_ret
          exact ⟨by rw [HN.out]; rfl, rfl⟩
      · have hb2 : (100 : Int) < (K.size : Int) := by omega
        have hb3 : decide (100 < K.size) = true := by rw [decide_eq_true_iff]; omega
        have HN := Lib.hid (HNo.out (fun h => h1 (by rw [hK]; exact h.1)))
        clear h1 hK hbl HO HNo HA
        go_wp2_with fail
        go_ret
        exact ⟨by rw [HN.out]; rfl, rfl⟩
end Go.Proofs.Ytplobffkelmokaa

namespace Go.Proofs.Ytplobffkelmokaa
open Go.RowKit
set_option linter.unusedVariables false
set_option linter.unnecessarySimpa false
set_option linter.unusedSimpArgs false
set_option maxRecDepth 100000

theorem likes_cell {w : World} {p : Addr} {v : Value} (hb : p.block < w.heap.size) (h : w.cell? p = some v) : ∀ x : Like w.heap.size w, x.val.cell? p = some v := fun x => (x.below.cell hb).trans h
theorem vers_bel {w w' : World} {a : Option Addr} {len cap : Nat} {zs : List Vr} (h : IsVers w a len cap zs) (hb : Below w.heap.size w w') : IsVers w' a len cap zs := by
  refine ⟨⟨h.1.1, fun i hi => ?_⟩, h.2⟩
  obtain ⟨b, off, ha, hlt, h1, h2, h3, h4, h5⟩ := h.1.2 i hi
  exact ⟨b, off, ha, Nat.lt_of_lt_of_le hlt hb.size, h1, h2, (hb.cell (p := ⟨b, off + i * 3, none⟩) hlt).trans h3, (hb.cell (p := ⟨b, off + i * 3 + 1, none⟩) hlt).trans h4, (hb.cell (p := ⟨b, off + i * 3 + 2, none⟩) hlt).trans h5⟩
theorem drewN_below (w : World) (n : Nat) : Below w.heap.size w (w.drewN n) := ⟨rfl, rfl, rfl, Nat.le_refl _, fun _ _ => rfl⟩

set_option maxHeartbeats 2000000 in
theorem bsame_yes (a1 a2 : Option Addr) (len c1 c2 : Nat) (es : List En) (w : World) (h1 : IsEnts w a1 len c1 es) (h2 : IsEnts w a2 len c2 es) :
    Calls Try.prog 15 #[.slice a1 len c1, .slice a2 len c2] w fun e w' => e = .returned (.bool true) ∧ Below w.heap.size w w' := by
  have H1 := Lib.hid h1
  have H2 := Lib.hid h2
  have hlm := h1.2.1
  unfold maxLen at hlm
  clear h1 h2
  go_enter Try.func15, Try.ntmps15
  go_wp2_with fail
  go_loopg [5] len (fun g s5 wx => ∃ i : Nat, i + g = len ∧ s5 = .int .i64 i ∧ Hid (Below w.heap.size w wx))
  case atStart => exact ⟨0, by omega, rfl, Lib.hid (Below.refl _ _)⟩
  case round =>
    obtain ⟨i, hig, rfl, HB⟩ := hrel
    cases gk with
    | zero =>
      obtain rfl : len = i := by omega
      go_wp2_with fail
      go_ret
      exact ⟨rfl, HB.out⟩
    | succ g =>
      have hil : i < len := by omega
      have hiz : (i : Int) < (len : Int) := by omega
      obtain ⟨b, off, rfl, hbl, hm1, k0, ca, cl, cc, k1, hv⟩ := (H1.out.below HB.out).1.2 i hil
      obtain ⟨b', off', rfl, hbl', hm2, j0, ca', cl', cc', j1, hv'⟩ := (H2.out.below HB.out).1.2 i hil
      obtain ⟨e, he⟩ : ∃ e, e = es.getD i en0 := ⟨_, rfl⟩
      rw [← he] at k0 hv j0 hv'
      obtain ⟨K, hK⟩ : ∃ K, K = e.key := ⟨_, rfl⟩
      rw [← hK] at k0 j0
      have hl1 : cl = e.ch.length := hv.1.1.symm
      have hl2 : cl' = e.ch.length := hv'.1.1.symm
      obtain ⟨n, hn⟩ : ∃ n, n = e.ch.length := ⟨_, rfl⟩
      rw [← hn] at hl1 hl2
      subst hl1 hl2
      have HV := Lib.hid (fun x : Like wr.heap.size wr => (vsame_yes ca ca' cl' cc cc' e.ch x.val (vers_bel hv x.below) (vers_bel hv' x.below)).mono (R' := fun e w' => e = .returned (.bool true) ∧ Below x.val.heap.size x.val w') (by
        rintro e w' ⟨rfl, m, rfl⟩
        exact ⟨rfl, drewN_below _ m⟩))
      have q0 := likes_cell hbl k0
      have q1 := likes_cell (p := ⟨b, off + i * 2 + 1, none⟩) hbl k1
      have q2 := likes_cell hbl' j0
      have q3 := likes_cell (p := ⟨b', off' + i * 2 + 1, none⟩) hbl' j1
      have hkk : (K.toList == K.toList) = true := by simp
      clear he hn hK hv hv' k0 k1 j0 j1 hm1 hm2 hbl hbl'
      go_upto_region 6 with fail
      refine region_likes (by kernel_rfl) (by kernel_rfl) ?_
      repeat (first
        | (go_big_quiet_step (first
            | (go_at_call 35; exact calls_likes (Like.size _) (HV.out _)))))
      refine wpQuiet_nil ?_
      intro x
      have HB2 := Lib.hid (HB.out.trans (x.below.mono HB.out.size))
      clear q0 q1 q2 q3
      go_wp2_with fail
      go_roundg g
      case measure => omega
      case rel => exact ⟨i + 1, by omega, by go_num, HB2⟩
end Go.Proofs.Ytplobffkelmokaa
