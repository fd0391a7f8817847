/-
  Joined: CrdDo, CrdSame, CrdEnds.
-/
import Derived.Test.YtdldplhfpianhaaSet10
import Derived.Test.YtdldplhfpianhaaSet15
import Derived.Test.YtdldplhfpianhaaSet16
import Derived.Test.YtdldplhfpianhaaSet05
import Derived.BigQuiet
import Derived.Deep.LoopGhost
import Derived.Test.YtdldplhfpianhaaSet08
import Derived.Deep.CutBlock
import Derived.Deep.DeepCutAuto
namespace Go.Proofs.Ytdldplhfpianhaa
open Go.RowKit
set_option linter.unusedVariables false
set_option linter.unnecessarySimpa false
set_option linter.unusedSimpArgs false
set_option maxRecDepth 100000

theorem cdo_any (p : Pg) (n : Nat) (x : Rn) (da : Option Addr) (dc : Nat) (va : Option Addr) (vc : Nat) (o : Cq) (w : World) (hi : DoIn w p n x da dc va vc) (ho : o.ok) :
    Calls Try.prog 11 #[.agg (runQ p n x da dc va vc), .agg o.cells] w (CdoRes w p n da va (tellR ⟨p.R, p.W, n⟩ x o)) := by
  have h5 : o.kind % 5 = 0 ∨ o.kind % 5 = 1 ∨ o.kind % 5 = 2 ∨ o.kind % 5 = 3 ∨ o.kind % 5 = 4 := by omega
  rcases h5 with h | h | h | h | h
  · by_cases hc : x.stage = 1 ∧ 0 < o.time
    · exact cdo_start_yes p n x da dc va vc o w hi ho h hc
    · exact cdo_start_no p n x da dc va vc o w hi ho h hc
  · by_cases hs : x.stage = 2
    · cases hc : sameK (p.R.getD x.read.length ⟨#[]⟩) o.x.key with
      | true => exact cdo_took_yes p n x da dc va vc o w hi ho h ⟨hs, hc⟩
      | false => exact cdo_took_key p n x da dc va vc o w hi ho h ⟨hs, hc⟩
    · exact cdo_took_stage p n x da dc va vc o w hi ho h hs
  · by_cases hs : x.stage = 3
    · exact cdo_vote_yes p n x da dc va vc o w hi ho h hs
    · exact cdo_vote_stage p n x da dc va vc o w hi ho h hs
  · by_cases hc : x.stage = 4 ∧ x.start < o.time
    · exact cdo_commit_yes p n x da dc va vc o w hi ho h hc
    · exact cdo_commit_no p n x da dc va vc o w hi ho h hc
  · by_cases hc : x.stage < 5
    · exact cdo_abort_yes p n x da dc va vc o w hi ho h hc
    · exact cdo_abort_no p n x da dc va vc o w hi ho h hc
end Go.Proofs.Ytdldplhfpianhaa

namespace Go.Proofs.Ytdldplhfpianhaa
open Go.RowKit
set_option linter.unusedVariables false
set_option linter.unnecessarySimpa false
set_option linter.unusedSimpArgs false
set_option maxRecDepth 100000

set_option maxHeartbeats 2000000 in
theorem wsame_yes (a1 a2 : Option Addr) (len c1 c2 : Nat) (L : List Wq) (w : World) (h1 : IsWqs w a1 len c1 L) (h2 : IsWqs w a2 len c2 L) :
    Calls Try.prog 19 #[.slice a1 len c1, .slice a2 len c2] w fun e w' => e = .returned (.bool true) ∧ Below w.heap.size w w' := by
  have H1 := Lib.hid h1
  have H2 := Lib.hid h2
  have hlm := h1.2.1
  unfold maxLen at hlm
  clear h1 h2
  go_enter Try.func19, Try.ntmps19
  go_wp2_with fail
  go_loopg [5] len (fun g s5 wx => ∃ i n : Nat, i + g = len ∧ s5 = .int .i64 i ∧ wx = w.drewN n)
  case atStart => exact ⟨0, 0, by omega, rfl, rfl⟩
  case round =>
    obtain ⟨i, n, hig, rfl, rfl⟩ := hrel
    cases gk with
    | zero =>
      obtain rfl : len = i := by omega
      go_wp2_with fail
      go_ret
      exact ⟨rfl, crd_drewN (Below.refl _ _)⟩
    | succ g =>
      have hil : i < len := by omega
      have hiz : (i : Int) < (len : Int) := by omega
      obtain ⟨b, off, rfl, hbl, _, _, k0, k1, k2⟩ := H1.out.2.2.2 i hil
      obtain ⟨b', off', rfl, hbl', _, _, j0, j1, j2⟩ := H2.out.2.2.2 i hil
      obtain ⟨z, hzz⟩ : ∃ z, z = L.getD i wq0 := ⟨_, rfl⟩
      rw [← hzz] at k0 k1 k2 j0 j1 j2
      obtain ⟨zk, zg, zv⟩ := z
      simp only at k0 k1 k2 j0 j1 j2
      clear hzz hbl hbl'
      go_wp2_with fail
      go_quiet (fail)
      go_wp2_with fail
      go_roundg g
      case measure => omega
      case rel => exact ⟨i + 1, n + nq, by omega, by go_num, rfl⟩
end Go.Proofs.Ytdldplhfpianhaa

namespace Go.Proofs.Ytdldplhfpianhaa
open Go.RowKit Go.Shelf
set_option linter.unusedVariables false
set_option linter.unnecessarySimpa false
set_option linter.unusedSimpArgs false
set_option maxRecDepth 100000

def cq0 : Cq := ⟨0, 0, rd0, 0, false⟩
def CqAt (W : World) (b off : Nat) (o : Cq) : Prop :=
  b < W.heap.size ∧ o.ok ∧ W.cell? ⟨b, off, none⟩ = some (.int .u8 (o.kind : Int)) ∧ W.cell? ⟨b, off + 1, none⟩ = some (.int .u64 (o.time : Int)) ∧ W.cell? ⟨b, off + 2, none⟩ = some (.string o.x.key) ∧ W.cell? ⟨b, off + 3, none⟩ = some (.bool o.x.found) ∧ W.cell? ⟨b, off + 4, none⟩ = some (.int .u64 (o.x.v.time : Int)) ∧
    W.cell? ⟨b, off + 5, none⟩ = some (.bool o.x.v.gone) ∧ W.cell? ⟨b, off + 6, none⟩ = some (.string o.x.v.val) ∧ W.cell? ⟨b, off + 7, none⟩ = some (.int .i64 o.node) ∧ W.cell? ⟨b, off + 8, none⟩ = some (.bool o.good)
def IsCqs (W : World) (a : Option Addr) (len cap : Nat) (L : List Cq) : Prop := L.length = len ∧ len ≤ maxLen ∧ len ≤ cap ∧ ∀ i, i < len → ∃ b off, a = some ⟨b, off, none⟩ ∧ CqAt W b (off + i * 9) (L.getD i cq0)
theorem CqAt.below {W W' : World} {b off : Nat} {o : Cq} (h : CqAt W b off o) (hb : Below W.heap.size W W') : CqAt W' b off o := by
  obtain ⟨h1, h2, k0, k1, k2, k3, k4, k5, k6, k7, k8⟩ := h
  exact ⟨Nat.lt_of_lt_of_le h1 hb.size, h2, (hb.cell (p := ⟨b, off, none⟩) h1).trans k0, (hb.cell (p := ⟨b, off + 1, none⟩) h1).trans k1, (hb.cell (p := ⟨b, off + 2, none⟩) h1).trans k2, (hb.cell (p := ⟨b, off + 3, none⟩) h1).trans k3, (hb.cell (p := ⟨b, off + 4, none⟩) h1).trans k4,
    (hb.cell (p := ⟨b, off + 5, none⟩) h1).trans k5, (hb.cell (p := ⟨b, off + 6, none⟩) h1).trans k6, (hb.cell (p := ⟨b, off + 7, none⟩) h1).trans k7, (hb.cell (p := ⟨b, off + 8, none⟩) h1).trans k8⟩
theorem IsCqs.below {W W' : World} {a : Option Addr} {len cap : Nat} {L : List Cq} (h : IsCqs W a len cap L) (hb : Below W.heap.size W W') : IsCqs W' a len cap L :=
  ⟨h.1, h.2.1, h.2.2.1, fun i hi => by obtain ⟨b, off, ha, he⟩ := h.2.2.2 i hi; exact ⟨b, off, ha, he.below hb⟩⟩

/-! What a call does to a run's stage. -/
structure StepC (p : Pn) (x y : Rn) (good : Bool) : Prop where
  lo : x.stage ≤ y.stage
  hi : y.stage ≤ 6
  over : 5 ≤ x.stage → y.stage = x.stage
  five : y.stage = 5 → x.stage ≠ 5 → 0 < p.W.length → x.stage = 4 ∧ y.start < y.commit
  four : y.stage = 4 → x.stage ≠ 4 → x.stage = 3 ∧ good = true
theorem StepC.refl (p : Pn) (x : Rn) (good : Bool) (h : x.stage ≤ 6) : StepC p x x good := ⟨Nat.le_refl _, h, fun _ => rfl, fun h1 h2 => absurd h1 h2, fun h1 h2 => absurd h1 h2⟩
theorem waits_stage {p : Pn} {x : Rn} {f : Nat → Bool} (h : (waitsP p x).any f = true) : x.stage = 3 := by
  unfold waitsP at h
  split at h
  · assumption
  · simp at h
theorem goOn_cases (p : Pn) (x : Rn) : goOn p x = x ∨ (goOn p x = ⟨5, x.start, x.start, x.read, x.voted⟩ ∧ p.W.length = 0) ∨ (goOn p x = ⟨3, x.start, x.commit, x.read, x.voted⟩ ∧ p.W.length ≠ 0) := by
  unfold goOn
  split
  · split
    · rename_i h; exact .inr (.inl ⟨rfl, h⟩)
    · rename_i h; exact .inr (.inr ⟨rfl, h⟩)
  · exact .inl rfl
theorem step_goOn {p : Pn} {x z : Rn} {good : Bool} (h1 : x.stage ≤ 2) (hz : z.stage = 2) : StepC p x (goOn p z) good := by
  rcases goOn_cases p z with e | ⟨e, h⟩ | ⟨e, h⟩
  · rw [e]
    exact ⟨by omega, by omega, (fun h => by omega), (fun h => by omega), (fun h => by omega)⟩
  · rw [e]
    exact ⟨by show x.stage ≤ 5; omega, by show 5 ≤ 6; omega, (fun h => by omega), (fun _ _ h0 => by omega), (fun h => by cases h)⟩
  · rw [e]
    exact ⟨by show x.stage ≤ 3; omega, by show 3 ≤ 6; omega, (fun h => by omega), (fun h => by cases h), (fun h => by cases h)⟩
theorem step_tell (p : Pn) (x : Rn) (o : Cq) (h6 : x.stage ≤ 6) : StepC p x (tellR p x o) o.good := by
  unfold tellR
  split
  · unfold startR
    split
    · rename_i h
      exact step_goOn (by omega) rfl
    · exact StepC.refl _ _ _ h6
  · split
    · unfold tookR
      split
      · rename_i h
        exact step_goOn (by omega) (by exact h.1)
      · exact StepC.refl _ _ _ h6
    · split
      · unfold voteR
        split
        · rename_i h
          have h3 := waits_stage h
          refine ⟨?_, ?_, (fun h => by omega), fun h1 => ?_, fun h1 _ => ⟨h3, ?_⟩⟩
          · show x.stage ≤ (if o.good = false then 6 else if (waitsP p x).length = 1 then 4 else x.stage)
            repeat' split
            all_goals omega
          · show (if o.good = false then 6 else if (waitsP p x).length = 1 then 4 else x.stage) ≤ 6
            repeat' split
            all_goals omega
          · have h1 : (if o.good = false then 6 else if (waitsP p x).length = 1 then 4 else x.stage) = 5 := h1
            repeat' split at h1
            all_goals omega
          · have h1 : (if o.good = false then 6 else if (waitsP p x).length = 1 then 4 else x.stage) = 4 := h1
            cases hg : o.good with
            | true => rfl
            | false => rw [hg] at h1; simp at h1
        · exact StepC.refl _ _ _ h6
      · split
        · unfold commitR
          split
          · rename_i h
            exact ⟨by show x.stage ≤ 5; omega, by show 5 ≤ 6; omega, (fun h => by omega), fun _ _ _ => ⟨h.1, h.2⟩, (fun h => by cases h)⟩
          · exact StepC.refl _ _ _ h6
        · unfold abortR
          split
          · exact ⟨by show x.stage ≤ 6; omega, Nat.le_refl _, (fun h => by omega), (fun h => by cases h), (fun h => by cases h)⟩
          · exact StepC.refl _ _ _ h6

/-! The law. -/
/-- The law's state: the run beside what the law made. -/
def ES (C : CrdC) (w2 : World) (r : Addr) (R : List ByteArray) (Ws : List Wq) (x : Rn) (W : World) : Prop := CSt C w2 w2.heap.size (fun _ => False) r ⟨R, Ws, 3⟩ ⟨0, 0, 0⟩ x W
section
variable {C : CrdC} {w2 W : World} {r : Addr} {R : List ByteArray} {Ws : List Wq} {x : Rn}
theorem ES.stage (h : ES C w2 r R Ws x W) (S : Int) (hS : (x.stage : Int) = S) : Calls Try.prog 14 #[.pointer (some r)] W fun e w' => e = .returned (.int .i64 S) ∧ Hid (ES C w2 r R Ws x w') ∧ Below W.heap.size W w' :=
  (CSt.stageC h).mono fun e w' ⟨h1, h2, h3⟩ => ⟨by rw [h1, hS], Lib.hid h2, h3⟩
theorem ES.waits (h : ES C w2 r R Ws x W) (n : Nat) (hn : (waitsP ⟨R, Ws, 3⟩ x).length = n) : Calls Try.prog 16 #[.pointer (some r)] W fun e w' => ∃ a c, e = .returned (.slice a n c) ∧ Hid (ES C w2 r R Ws x w') ∧ Below W.heap.size W w' :=
  (CSt.waitsC h).mono fun e w' ⟨a, c, h1, _, h2, h3⟩ => ⟨a, c, by rw [h1, hn], Lib.hid h2, h3⟩
theorem ES.times (h : ES C w2 r R Ws x W) (A B : Int) (hA : (x.start : Int) = A) (hB : (x.commit : Int) = B) : Calls Try.prog 12 #[.pointer (some r)] W fun e w' => e = .returned (.tuple #[.int .u64 A, .int .u64 B]) ∧ Hid (ES C w2 r R Ws x w') ∧ Below W.heap.size W w' :=
  (CSt.timesC h).mono fun e w' ⟨h1, h2, h3⟩ => ⟨by rw [h1, hA, hB], Lib.hid h2, h3⟩
theorem ES.tell (h : ES C w2 r R Ws x W) (o : Cq) (ho : o.ok) (z : Rn) (hz : tellR ⟨R, Ws, 3⟩ x o = z) : Calls Try.prog 10 #[.pointer (some r), .agg o.cells] W fun e w' => e = .returned (.tuple #[]) ∧ Hid (ES C w2 r R Ws z w') :=
  (tell_any h o ho).mono fun e w' ⟨h1, h2, _⟩ => ⟨h1, Lib.hid (by rw [← hz]; exact h2)⟩
end
set_option maxHeartbeats 4000000 in
theorem coordEnds_no (C : CrdC) (p : Pg) (a : Option Addr) (len cap : Nat) (w : World) (hp : PgOk w p) (h : fewC p = false ∨ (fewC p = true ∧ 60 < len)) :
    Calls Try.prog 4 #[.agg p.cells, .slice a len cap] w fun e w' => e = .returned (.bool true) ∧ Below w.heap.size w w' := by
  have haw := Lib.hid (cawake_any C)
  have HW0 := Lib.hid (CrdW.start w p.cells 25)
  have HF := Lib.hid (fun W (hb : Below w.heap.size w W) => cfew_any p W (hp.below hb))
  obtain ⟨F, hF⟩ : ∃ F, F = fewC p := ⟨_, rfl⟩
  rw [← hF] at HF h
  clear hF hp
  obtain ⟨ra, rn, rc, R, wa, wn, wc, Ws⟩ := p
  unfold Pg.cells at *
  simp only at *
  rcases h with rfl | ⟨rfl, h⟩
  · go_enter Try.func4, Try.ntmps4
    go_upto_region 2 with (first
      | (go_at_call 5; (with_reducible refine (haw.out _).mono ?_); rintro e w1 ⟨rfl, hb1⟩; have HW1 := Lib.hid (HW0.out.later hb1); clear hb1; have c0 : w1.cell? ⟨w.heap.size, 0, none⟩ = some (.slice ra rn rc) := (by rw [HW1.out.c0]; rfl); have c1 : w1.cell? ⟨w.heap.size, 1, none⟩ = some (.slice wa wn wc) := (by rw [HW1.out.c0]; rfl))
      | (go_at_call 6; (with_reducible refine (HF.out _ HW1.out.below).mono ?_); rintro e w2 ⟨rfl, hb2⟩; have HB2 := Lib.hid (HW1.out.below.trans (hb2.mono HW1.out.below.size)); clear hb2))
    go_wp2_with (go_at_call 5; (with_reducible refine (haw.out _).mono ?_); rintro e w3 ⟨rfl, hb3⟩; have HB3 := Lib.hid (HB2.out.trans (hb3.mono HB2.out.size)); clear hb3)
    go_ret
    exact ⟨rfl, HB3.out⟩
  · have hl1 : (60 : Int) < (len : Int) := by omega
    have hl2 : decide ((60 : Int) < (len : Int)) = true := decide_eq_true hl1
    have hl3 : decide (60 < len) = true := decide_eq_true h
    go_enter Try.func4, Try.ntmps4
    go_upto_region 2 with (first
      | (go_at_call 5; (with_reducible refine (haw.out _).mono ?_); rintro e w1 ⟨rfl, hb1⟩; have HW1 := Lib.hid (HW0.out.later hb1); clear hb1; have c0 : w1.cell? ⟨w.heap.size, 0, none⟩ = some (.slice ra rn rc) := (by rw [HW1.out.c0]; rfl); have c1 : w1.cell? ⟨w.heap.size, 1, none⟩ = some (.slice wa wn wc) := (by rw [HW1.out.c0]; rfl))
      | (go_at_call 6; (with_reducible refine (HF.out _ HW1.out.below).mono ?_); rintro e w2 ⟨rfl, hb2⟩; have HB2 := Lib.hid (HW1.out.below.trans (hb2.mono HW1.out.below.size)); clear hb2))
    go_wp2_with (go_at_call 5; (with_reducible refine (haw.out _).mono ?_); rintro e w3 ⟨rfl, hb3⟩; have HB3 := Lib.hid (HB2.out.trans (hb3.mono HB2.out.size)); clear hb3)
    go_ret
    exact ⟨rfl, HB3.out⟩
set_option maxHeartbeats 8000000 in
theorem coordEnds_yes (C : CrdC) (p : Pg) (a : Option Addr) (len cap : Nat) (L : List Cq) (w : World) (hp : PgOk w p) (hz : IsCqs w a len cap L) (hf : fewC p = true) (hl : len ≤ 60) :
    Calls Try.prog 4 #[.agg p.cells, .slice a len cap] w fun e w' => e = .returned (.bool true) ∧ Below w.heap.size w w' := by
  have haw := Lib.hid (cawake_any C)
  have HW0 := Lib.hid (CrdW.start w p.cells 25)
  have HF := Lib.hid (fun W (hb : Below w.heap.size w W) => cfew_any p W (hp.below hb))
  rw [hf] at HF
  have hfw := fewC_true.1 hf
  have hrn : p.rn ≤ 1000 := by rw [← hp.1.1]; have := hfw.2.2.1; omega
  have hwn : p.wn ≤ 1000 := by rw [← hp.2.1]; have := hfw.2.2.2; omega
  have HM := Lib.hid (fun W (hb : Below w.heap.size w W) => made_any C ⟨0, 0, 0⟩ p 3 W ⟨by decide, by decide, by decide⟩ (hp.below hb) hrn hwn (by decide) (by decide))
  have HWN := Lib.hid (show p.W.length = p.wn from hp.2.1)
  obtain ⟨m, hm⟩ : ∃ m, m = mayC p := ⟨_, rfl⟩
  unfold MadeOut at HM
  rw [← hm] at HM
  have HZ := Lib.hid hz
  clear hfw hf hp hm hz hrn hwn
  obtain ⟨ra, rn, rc, R, wa, wn, kw, Ws⟩ := p
  unfold Pg.cells Tn.cells at *
  simp only at *
  have hl1 : ¬ (60 : Int) < (len : Int) := by omega
  have hl2 : decide ((60 : Int) < (len : Int)) = false := decide_eq_false hl1
  have hl3 : decide (60 < len) = false := decide_eq_false (by omega)
  go_enter Try.func4, Try.ntmps4
  go_upto_region 3 with (first
    | (go_at_call 5; (with_reducible refine (haw.out _).mono ?_); rintro e w1 ⟨rfl, hb1⟩; have HW1 := Lib.hid (HW0.out.later hb1); clear hb1; have c0 : w1.cell? ⟨w.heap.size, 0, none⟩ = some (.slice ra rn rc) := (by rw [HW1.out.c0]; rfl); have c1 : w1.cell? ⟨w.heap.size, 1, none⟩ = some (.slice wa wn kw) := (by rw [HW1.out.c0]; rfl))
    | (go_at_call 6; (with_reducible refine (HF.out _ HW1.out.below).mono ?_); rintro e w2 ⟨rfl, hb2⟩; have HW2 := Lib.hid (HW1.out.later hb2); clear hb2 c0 c1; have c0 : w2.cell? ⟨w.heap.size, 0, none⟩ = some (.slice ra rn rc) := (by rw [HW2.out.c0]; rfl); have c1 : w2.cell? ⟨w.heap.size, 1, none⟩ = some (.slice wa wn kw) := (by rw [HW2.out.c0]; rfl)))
  have HM2 := Lib.hid (HM.out w2 HW2.out.below)
  clear HF haw HM HW1 HW0 hl1 hl2 hl3
  by_cases hm : m = 0
  · subst hm
    have HM3 : Hid (Calls Try.prog 7 #[.agg #[.int .i64 0, .int .i64 0, .int .i64 0], .agg #[.slice ra rn rc, .slice wa wn kw], .int .i64 3] w2 fun e w' => ∃ r, e = .returned (.tuple #[.pointer (some r), .int .i64 0]) ∧ Hid (ES C w2 r R Ws rn0 w')) := Lib.hid (HM2.out.mono fun e w' h => by
      rcases h with ⟨_, r, h1, h2⟩ | ⟨h1, _⟩
      · exact ⟨r, h1, Lib.hid h2⟩
      · exact absurd rfl h1)
    clear HM2
    go_upto_region 6 with (go_at_call 7; (with_reducible refine HM3.out.mono ?_); rintro e w3 ⟨r, rfl, HS3⟩)
    clear HM3 c0 c1
    go_wp2_with fail
    go_loopg [7, 8] len (fun g s7 s8 wx => ∃ (i y : Nat) (x : Rn), i + g = len ∧ s7 = .int .i64 (y : Int) ∧ s8 = .int .i64 (i : Int) ∧ y ≤ i ∧ Hid (x.stage = 4 → 0 < y) ∧ Hid (x.stage ≤ 6) ∧ Hid (ES C w2 r R Ws x wx))
    case atStart => exact ⟨0, 0, rn0, by omega, rfl, rfl, by omega, Lib.hid (by decide), Lib.hid (by decide), HS3⟩
    case round =>
      obtain ⟨i, y, x, hig, rfl, rfl, hyi, H4, H6, HS⟩ := hrel
      clear HS3
      cases gk with
      | zero =>
        obtain rfl : i = len := by omega
        go_wp2_with fail
        go_ret
        exact ⟨rfl, (HW2.out.later (CSt.below HS.out)).below⟩
      | succ g =>
        have hil : i < len := by omega
        have hiz : (i : Int) < (len : Int) := by omega
        have HBA := Lib.hid (fun W (h : ES C w2 r R Ws x W) => (HW2.out.later (CSt.below h)).below)
        obtain ⟨b, off, rfl, hbl, hok, _⟩ := (HZ.out.below HW2.out.below).2.2.2 i hil
        obtain ⟨o, ho⟩ : ∃ o, o = L.getD i cq0 := ⟨_, rfl⟩
        rw [← ho] at hok
        have HOK := Lib.hid hok
        have HCQ := Lib.hid (show ∀ W, Below w.heap.size w W → CqAt W b (off + i * 9) o from fun W hb => by
          obtain ⟨b1, off1, h1, h2⟩ := (HZ.out.below hb).2.2.2 i hil
          cases h1
          rw [ho]; exact h2)
        clear hok hbl ho
        have HIN : Hid (b < w.heap.size) := Lib.hid (by
          obtain ⟨b1, off1, h1, h2, _⟩ := HZ.out.2.2.2 i hil
          cases h1
          exact h2)
        obtain ⟨z, hzz⟩ : ∃ z, z = tellR ⟨R, Ws, 3⟩ x o := ⟨_, rfl⟩
        have HST : Hid (StepC ⟨R, Ws, 3⟩ x z o.good) := Lib.hid (by rw [hzz]; exact step_tell _ x o H6.out)
        have HZZ := Lib.hid hzz
        clear hzz
        obtain ⟨S, hS⟩ : ∃ S : Int, S = (x.stage : Int) := ⟨_, rfl⟩
        obtain ⟨n1, hn1⟩ : ∃ n, n = (waitsP ⟨R, Ws, 3⟩ x).length := ⟨_, rfl⟩
        have HSX := Lib.hid hS
        have HN1 := Lib.hid hn1
        clear hS hn1
        go_upto_region 12 with (first
          | (go_at_call 14; (with_reducible refine (HS.out.stage S HSX.out.symm).mono ?_); rintro e w4 ⟨rfl, HS4, _⟩)
          | (go_at_call 16; (with_reducible refine (HS4.out.waits n1 HN1.out.symm).mono ?_); rintro e w5 ⟨a5, c5, rfl, HS5, _⟩))
        clear HS HS4 HN1
        obtain ⟨_, _, k0, k1, k2, k3, k4, k5, k6, k7, k8⟩ := HCQ.out _ (HBA.out _ HS5.out)
        have HT := Lib.hid (HS5.out.tell o HOK.out z HZZ.out.symm)
        unfold Cq.cells at HT
        go_upto_region 13 with (go_at_call 10; (with_reducible refine HT.out.mono ?_); rintro e w6 ⟨rfl, HS6⟩)
        clear HT HS5 k0 k1 k2 k3 k4 k5 k6 k7 k8 HZZ HBA
        have HBZ := Lib.hid (fun W (h : ES C w2 r R Ws z W) => (HW2.out.later (CSt.below h)))
        obtain ⟨N, hN⟩ : ∃ N : Int, N = (z.stage : Int) := ⟨_, rfl⟩
        obtain ⟨n2, hn2⟩ : ∃ n, n = (waitsP ⟨R, Ws, 3⟩ z).length := ⟨_, rfl⟩
        have HNX := Lib.hid hN
        have HN2 := Lib.hid hn2
        clear hN hn2
        go_upto_region 14 with (go_at_call 14; (with_reducible refine (HS6.out.stage N HNX.out.symm).mono ?_); rintro e w7 ⟨rfl, HS7, _⟩)
        clear HS6
        have f2 : decide (N < S) = false := decide_eq_false (by have := HST.out.lo; have := HSX.out; have := HNX.out; omega)
        have f2b : ¬ N < S := of_decide_eq_false f2
        go_cut [65] (fun s65 wx => s65 = .bool false ∧ Hid (ES C w2 r R Ws z wx))
        case first =>
          by_cases h5 : (5 : Int) ≤ S
          · have e5 : N = S := by have := HST.out.over (by have := HSX.out; omega); rw [HSX.out, HNX.out, this]
            subst e5
            have f1 : decide ((5 : Int) ≤ N) = true := decide_eq_true h5
            clear h5
            go_wp2_with fail
            go_meet
            case rel => exact ⟨rfl, HS7⟩
          · have f1 : decide ((5 : Int) ≤ S) = false := decide_eq_false h5
            go_wp2_with fail
            go_meet
            case rel => exact ⟨rfl, HS7⟩
        case rest =>
          obtain ⟨rfl, HS8⟩ := hcut
          clear HS7 f2 f2b
          go_upto_region 16 with fail
          obtain ⟨_, _, k0, k1, k2, k3, k4, k5, k6, k7, k8⟩ := HCQ.out _ (HBZ.out _ HS8.out).below
          clear k0 k1 k2 k3 k4 k5 k6 k7
          obtain ⟨gd, hgd⟩ : ∃ gd, gd = o.good := ⟨_, rfl⟩
          rw [← hgd] at k8
          have HGD := Lib.hid hgd
          clear hgd
          go_cut [85] (fun s85 wx => ∃ G : Bool, s85 = .bool G ∧ Hid (z.stage = 4 → G = true ∨ 0 < y) ∧ Hid (ES C w2 r R Ws z wx))
          case first =>
            by_cases h3 : S = 3
            · subst h3
              by_cases h4 : N = 4
              · subst h4
                have hg : gd = true := by rw [HGD.out]; exact (HST.out.four (by have := HNX.out; omega) (by have := HSX.out; omega)).2
                subst hg
                go_wp2_with fail
                go_meet
                case rel => exact ⟨true, rfl, Lib.hid (fun _ => .inl rfl), HS8⟩
              · have f1 : (N == 4) = false := by rw [beq_eq_false_iff_ne]; exact h4
                have HN4 := Lib.hid h4
                clear h4
                have HW := Lib.hid (HS8.out.waits n2 HN2.out.symm)
                by_cases hn : n2 < n1
                · have g1 : (n2 : Int) < (n1 : Int) := by omega
                  have g2 : decide ((n2 : Int) < (n1 : Int)) = true := decide_eq_true g1
                  have g3 : decide (n2 < n1) = true := decide_eq_true hn
                  clear hn
                  go_wp2_with (go_at_call 16; (with_reducible refine HW.out.mono ?_); rintro e w9 ⟨a9, c9, rfl, HS9, _⟩; clear k8; obtain ⟨_, _, j0, j1, j2, j3, j4, j5, j6, j7, k8⟩ := HCQ.out _ (HBZ.out _ HS9.out).below; clear j0 j1 j2 j3 j4 j5 j6 j7; rw [← HGD.out] at k8)
                  go_meet
                  case rel => exact ⟨gd, rfl, Lib.hid (fun h => absurd (by rw [HNX.out, h]; rfl) HN4.out), HS9⟩
                · have g1 : ¬ (n2 : Int) < (n1 : Int) := by omega
                  have g2 : decide ((n2 : Int) < (n1 : Int)) = false := decide_eq_false g1
                  have g3 : decide (n2 < n1) = false := decide_eq_false hn
                  clear hn
                  go_wp2_with (go_at_call 16; (with_reducible refine HW.out.mono ?_); rintro e w9 ⟨a9, c9, rfl, HS9, _⟩)
                  go_meet
                  case rel => exact ⟨false, rfl, Lib.hid (fun h => absurd (by rw [HNX.out, h]; rfl) HN4.out), HS9⟩
            · have f1 : (S == 3) = false := by rw [beq_eq_false_iff_ne]; exact h3
              have HS3' := Lib.hid h3
              clear h3
              go_wp2_with fail
              go_meet
              case rel =>
                refine ⟨false, rfl, Lib.hid (fun h => .inr ?_), HS8⟩
                by_cases hx : x.stage = 4
                · exact H4.out hx
                · exact absurd (by rw [HSX.out, (HST.out.four h hx).1]; rfl) HS3'.out
          case rest =>
            obtain ⟨G, rfl, HG, HS9⟩ := hcut
            clear HS8 k8 HN2 HCQ HGD
            obtain ⟨A, hA⟩ : ∃ A : Int, A = (z.start : Int) := ⟨_, rfl⟩
            obtain ⟨B, hB⟩ : ∃ B : Int, B = (z.commit : Int) := ⟨_, rfl⟩
            have HT := Lib.hid (HS9.out.times A B hA.symm hB.symm)
            have HAX := Lib.hid hA
            have HBX := Lib.hid hB
            have HWI := Lib.hid (show Ws.length = wn from HWN.out)
            have hy60 : y < 1000 := by omega
            have h06 : Hid (z.stage ≤ 6) := Lib.hid HST.out.hi
            clear hA hB
            cases G with
            | true =>
              have hys : ((y : Int) + 1 == 0) = false := by rw [beq_eq_false_iff_ne]; omega
              have hR : (N == 5) = false ∨ (N = 5 ∧ S = 5) ∨ (N = 5 ∧ (S == 5) = false ∧ ¬ S = 5 ∧ ¬ (0 : Int) < (wn : Int) ∧ decide (0 < wn) = false) ∨ (N = 5 ∧ S = 4 ∧ (0 : Int) < (wn : Int) ∧ ¬ B ≤ A ∧ decide (0 < wn) = true) := by
                by_cases hN5 : N = 5
                · by_cases hS5 : S = 5
                  · exact .inr (.inl ⟨hN5, hS5⟩)
                  · by_cases hw0 : wn = 0
                    · exact .inr (.inr (.inl ⟨hN5, by rw [beq_eq_false_iff_ne]; exact hS5, hS5, by omega, decide_eq_false (by omega)⟩))
                    · obtain ⟨q1, q2⟩ := HST.out.five (by have := HNX.out; omega) (by have := HSX.out; omega) (by show 0 < Ws.length; rw [HWI.out]; omega)
                      exact .inr (.inr (.inr ⟨hN5, by rw [HSX.out, q1]; rfl, by omega, by rw [HAX.out, HBX.out]; omega, decide_eq_true (by omega)⟩))
                · exact .inl (by rw [beq_eq_false_iff_ne]; exact hN5)
              rcases hR with f1 | ⟨rfl, rfl⟩ | ⟨rfl, f2, f2b, f3, f4⟩ | ⟨rfl, rfl, f2, f3, f4⟩
              all_goals
                go_wp2_with (go_at_call 12; (with_reducible refine HT.out.mono ?_); rintro e w10 ⟨rfl, HS10, _⟩; have c1 : w10.cell? ⟨w.heap.size, 1, none⟩ = some (.slice wa wn kw) := (by rw [(HBZ.out _ HS10.out).c0]; rfl))
                go_roundg g
                case measure => omega
                case rel => exact ⟨i + 1, y + 1, z, by omega, by go_num, by go_num, by omega, Lib.hid (fun _ => by omega), h06, HS10⟩
            | false =>
              have hR : (N == 5) = false ∨ (N = 5 ∧ S = 5) ∨ (N = 5 ∧ (S == 5) = false ∧ ¬ S = 5 ∧ ¬ (0 : Int) < (wn : Int) ∧ decide (0 < wn) = false) ∨ (N = 5 ∧ S = 4 ∧ (0 : Int) < (wn : Int) ∧ ¬ B ≤ A ∧ decide (0 < wn) = true ∧ ((y : Int) == 0) = false) := by
                by_cases hN5 : N = 5
                · by_cases hS5 : S = 5
                  · exact .inr (.inl ⟨hN5, hS5⟩)
                  · by_cases hw0 : wn = 0
                    · exact .inr (.inr (.inl ⟨hN5, by rw [beq_eq_false_iff_ne]; exact hS5, hS5, by omega, decide_eq_false (by omega)⟩))
                    · obtain ⟨q1, q2⟩ := HST.out.five (by have := HNX.out; omega) (by have := HSX.out; omega) (by show 0 < Ws.length; rw [HWI.out]; omega)
                      have hy4 := H4.out q1
                      exact .inr (.inr (.inr ⟨hN5, by rw [HSX.out, q1]; rfl, by omega, by rw [HAX.out, HBX.out]; omega, decide_eq_true (by omega), by rw [beq_eq_false_iff_ne]; omega⟩))
                · exact .inl (by rw [beq_eq_false_iff_ne]; exact hN5)
              have HGF : Hid (z.stage = 4 → 0 < y) := Lib.hid (fun h => (HG.out h).elim (fun h => by cases h) id)
              rcases hR with f1 | ⟨rfl, rfl⟩ | ⟨rfl, f2, f2b, f3, f4⟩ | ⟨rfl, rfl, f2, f3, f4, f5⟩
              all_goals
                go_wp2_with (go_at_call 12; (with_reducible refine HT.out.mono ?_); rintro e w10 ⟨rfl, HS10, _⟩; have c1 : w10.cell? ⟨w.heap.size, 1, none⟩ = some (.slice wa wn kw) := (by rw [(HBZ.out _ HS10.out).c0]; rfl))
                go_roundg g
                case measure => omega
                case rel => exact ⟨i + 1, y, z, by omega, rfl, by go_num, by omega, HGF, h06, HS10⟩
  · have f1 : (m == 0) = false := by rw [beq_eq_false_iff_ne]; exact hm
    have HM3 : Hid (Calls Try.prog 7 #[.agg #[.int .i64 0, .int .i64 0, .int .i64 0], .agg #[.slice ra rn rc, .slice wa wn kw], .int .i64 3] w2 fun e w' => e = .returned (.tuple #[.pointer none, .int .i64 m]) ∧ Below w2.heap.size w2 w') := Lib.hid (HM2.out.mono fun e w' h => by
      rcases h with ⟨h1, _⟩ | ⟨_, h1, h2⟩
      · exact absurd h1 hm
      · exact ⟨h1, h2⟩)
    clear HM2 hm
    go_wp2_with (go_at_call 7; (with_reducible refine HM3.out.mono ?_); rintro e w3 ⟨rfl, hb3⟩; have HW3 := Lib.hid (HW2.out.later hb3); clear hb3)
    go_ret
    exact ⟨rfl, HW3.out.below⟩
end Go.Proofs.Ytdldplhfpianhaa
