/-
  Joined: CrdPlaysR, CrdEq, CrdPlaysQ.
-/
import Derived.Test.YtdldplhfpianhaaSet18
import Derived.Test.YtdldplhfpianhaaSet05
import Derived.Laws.StructEq
import Derived.ChangeKeysEq
import Derived.BigQuiet
namespace Go.Proofs.Ytdldplhfpianhaa
open Go.RowKit
set_option linter.unusedVariables false
set_option linter.unnecessarySimpa false
set_option linter.unusedSimpArgs false
set_option maxRecDepth 100000

/-- What the slots of the comparison hold. -/
def psiG (A g11 dn : Nat) (r b1 : Addr) (ra : Option Addr) (rn rc : Nat) (da : Option Addr) (dc : Nat) (b2 : Addr) (K : ByteArray) (st : Int) (sa co : Nat) (ok : Bool) (cs : Array Value) (l : List Nat) : Nat → Value → World → Prop := fun tm v w =>
  match tm with
  | 3 => v = .pointer (some ⟨A, 0, none⟩) | 9 => v = .pointer (some r) | 11 => v = .pointer (some ⟨g11, 0, none⟩) | 14 => v = .int .u64 (sa : Int) | 15 => v = .int .u64 (co : Int) | 16 => ok = true → v = .string K | 17 => v = .bool ok
  | 111 => v = .pointer (some r) | 112 => v = .int .i64 st | 113 => v = .pointer (some ⟨g11, 3, none⟩) | 114 => v = .int .i64 st | 115 => v = .bool false | 116 => v = .bool false
  | 117 => v = .int .u64 (sa : Int) | 118 => v = .pointer (some ⟨g11, 4, none⟩) | 119 => v = .int .u64 (sa : Int) | 120 => v = .bool false | 121 => v = .bool false | 122 => v = .bool false
  | 123 => v = .int .u64 (co : Int) | 124 => v = .pointer (some ⟨g11, 5, none⟩) | 125 => v = .int .u64 (co : Int) | 126 => v = .bool false | 127 => v = .bool false | 128 => v = .bool false
  | 129 => v = .bool ok | 130 => v = .pointer (some ⟨g11, 3, none⟩) | 131 => v = .int .i64 st | 132 => v = .bool ok | 133 => v = .bool false | 134 => v = .bool false | 135 => v = .bool false
  | 136 => v = .bool ok | 137 => v = .bool ok
  | 138 => ok = true → v = .string K | 139 => ok = true → v = .pointer (some ⟨A, 0, none⟩) | 140 => ok = true → v = .slice ra rn rc | 141 => ok = true → v = .pointer (some ⟨g11, 6, none⟩) | 142 => ok = true → v = .slice da dn dc | 143 => ok = true → v = .int .i64 (dn : Int)
  | 144 => ok = true → v = .pointer (some b2) | 145 => ok = true → v = .string K | 146 => ok = true → v = .bool false
  | 147 => v = .bool false | 148 => v = .bool false | 149 => v = .bool false
  | 150 => v = .pointer (some r) | 151 => ∃ a c, v = .slice a l.length c ∧ IsNs w a l.length l | 152 => v = .agg cs | 153 => ∃ a c, v = .slice a l.length c ∧ IsNs w a l.length l | 154 => v = .bool true | 155 => v = .bool false
  | 156 => v = .bool false | 157 => v = .bool false | 158 => v = .pointer (some r) | 159 => ∃ a c, v = .slice a dn c | 160 => v = .int .i64 (dn : Int) | 161 => v = .pointer (some ⟨g11, 6, none⟩) | 162 => v = .slice da dn dc | 163 => v = .int .i64 (dn : Int)
  | 164 => v = .bool false | 165 => v = .bool false
  | _ => True
theorem psiG_stable (A g11 dn : Nat) (r b1 : Addr) (ra : Option Addr) (rn rc : Nat) (da : Option Addr) (dc : Nat) (b2 : Addr) (K : ByteArray) (st : Int) (sa co : Nat) (ok : Bool) (cs : Array Value) (l : List Nat) : ∀ tm v w w', psiG A g11 dn r b1 ra rn rc da dc b2 K st sa co ok cs l tm v w → Below w.heap.size w w' → psiG A g11 dn r b1 ra rn rc da dc b2 K st sa co ok cs l tm v w' := by
  intro tm v w w' h hb
  by_cases h1 : tm = 151
  · subst h1
    obtain ⟨a, c, hv, hw⟩ := h
    exact ⟨a, c, hv, hw.below hb⟩
  · by_cases h2 : tm = 153
    · subst h2
      obtain ⟨a, c, hv, hw⟩ := h
      exact ⟨a, c, hv, hw.below hb⟩
    · unfold psiG at h ⊢
      split at h <;> first | exact h | exact absurd rfl h1 | exact absurd rfl h2 | trivial
/-- The operations of a region. -/
noncomputable def opsOfC (id : Nat) : Code → Option (List Oper)
  | .region i ops _ => if i = id then some ops.toList else none
  | .seq a b => match opsOfC id a with
    | some l => some l
    | none => opsOfC id b
  | .cond _ a b => match opsOfC id a with
    | some l => some l
    | none => opsOfC id b
  | .block _ b => opsOfC id b
  | .loop b => opsOfC id b
  | _ => none
noncomputable def coordOps : List Oper := (opsOfC 21 (Try.f3.body.getD .skip)).getD []
theorem coordOps_len : coordOps.length = 55 := by kernel_rfl
/-- What the comparison's world holds and its calls answer. -/
structure PlayG (w0 : World) (A g11 dn : Nat) (r : Addr) (ra : Option Addr) (rn rc : Nat) (da : Option Addr) (dc : Nat) (b2 : Addr) (K : ByteArray) (st : Int) (sa co : Nat) (ok : Bool) (wa : Option Addr) (wn wc n : Nat) (va : Option Addr) (vn vc : Nat) (l : List Nat) : Prop where
  box : ∀ W, Below w0.heap.size w0 W → W.cell? ⟨g11, 0, none⟩ = some (.slice ra rn rc) ∧ W.cell? ⟨g11, 1, none⟩ = some (.slice wa wn wc) ∧ W.cell? ⟨g11, 2, none⟩ = some (.int .i64 (n : Int)) ∧ W.cell? ⟨g11, 3, none⟩ = some (.int .i64 st) ∧ W.cell? ⟨g11, 4, none⟩ = some (.int .u64 (sa : Int)) ∧ W.cell? ⟨g11, 5, none⟩ = some (.int .u64 (co : Int)) ∧ W.cell? ⟨g11, 6, none⟩ = some (.slice da dn dc) ∧ W.cell? ⟨g11, 7, none⟩ = some (.slice va vn vc)
  prog : ∀ W, Below w0.heap.size w0 W → W.cell? ⟨A, 0, none⟩ = some (.slice ra rn rc)
  key : ok = true → dn < rn ∧ ∃ b off, ra = some ⟨b, off, none⟩ ∧ b2 = ⟨b, off + dn, none⟩ ∧ ∀ W, Below w0.heap.size w0 W → W.cell? ⟨b, off + dn, none⟩ = some (.string K)
  stage : ∀ W, Below w0.heap.size w0 W → Calls Try.prog 14 #[.pointer (some r)] W fun e w' => e = .returned (.int .i64 st) ∧ Below W.heap.size W w'
  waitsP : ∀ W, Below w0.heap.size w0 W → Calls Try.prog 16 #[.pointer (some r)] W fun e w' => ∃ a c, e = .returned (.slice a l.length c) ∧ IsNs w' a l.length l ∧ Below W.heap.size W w'
  waits : ∀ W, Below w0.heap.size w0 W → Calls Try.prog 17 #[.agg #[.slice ra rn rc, .slice wa wn wc, .int .i64 (n : Int), .int .i64 st, .int .u64 (sa : Int), .int .u64 (co : Int), .slice da dn dc, .slice va vn vc]] W fun e w' => ∃ a c, e = .returned (.slice a l.length c) ∧ IsNs w' a l.length l ∧ Below W.heap.size W w'
  reads : ∀ W, Below w0.heap.size w0 W → Calls Try.prog 18 #[.pointer (some r)] W fun e w' => ∃ a c, e = .returned (.slice a dn c) ∧ Below W.heap.size W w'
  two : (st == 2) = ok
theorem cwaits_P (p : Pg) (n : Nat) (y : Rn) (da : Option Addr) (dc : Nat) (va : Option Addr) (vc : Nat) (W : World) (h : DoIn W p n y da dc va vc) :
    Calls Try.prog 17 #[.agg (runQ p n y da dc va vc)] W fun e w' => ∃ a c, e = .returned (.slice a (waitsP ⟨p.R, p.W, n⟩ y).length c) ∧ IsNs w' a (waitsP ⟨p.R, p.W, n⟩ y).length (waitsP ⟨p.R, p.W, n⟩ y) ∧ Below W.heap.size W w' := by
  unfold runQ
  by_cases h3 : y.stage = 3
  · rw [waitsP_is (p := ⟨p.R, p.W, n⟩) h3]
    exact (cwaits_st p.ra p.rn p.rc p.wa p.wn p.wc n (y.stage : Int) (by omega) y.start y.commit da y.read.length dc va y.voted.length vc p.W y.voted W h.pg.2 h.wn h.nodes.2 h.ns).mono fun e w' ⟨a, c, h1, h2, h3, _⟩ => ⟨a, c, h1, h2, h3⟩
  · have e : waitsP ⟨p.R, p.W, n⟩ y = [] := by unfold waitsP; rw [if_neg h3]
    rw [e]
    exact (cwaits_no p.ra p.rn p.rc p.wa p.wn p.wc n (y.stage : Int) y.start y.commit da y.read.length dc va y.voted.length vc W (by omega) h.nodes.1).mono fun e w' ⟨h1, h2⟩ => ⟨none, 0, h1, ⟨rfl, by decide, fun i hi => absurd hi (Nat.not_lt_zero i)⟩, h2⟩
theorem CPl.playG {C : CrdC} {w w3 w0 : World} {g : Nat} {r : Addr} {p : Pg} {n : Nat} {t : Tn} {y : Rn} {da : Option Addr} {dc : Nat} {va : Option Addr} {vc : Nat} (h : CPl C w3 noX g r p n t y y da dc va vc w0) (hA : CrdW w p.cells 25 w3) :
    ∃ b2 K, (y.stage = 2 → K = p.R.getD y.read.length ⟨#[]⟩) ∧ PlayG w0 w.heap.size g y.read.length r p.ra p.rn p.rc da dc b2 K (y.stage : Int) y.start y.commit (decide (y.stage = 2)) p.wa p.wn p.wc n va y.voted.length vc (waitsP ⟨p.R, p.W, n⟩ y) := by
  have hbase : ∀ W, Below w0.heap.size w0 W → Below w3.heap.size w3 W := fun W hb => (h.later hb).base
  have hprog : ∀ W, Below w0.heap.size w0 W → W.cell? ⟨w.heap.size, 0, none⟩ = some (.slice p.ra p.rn p.rc) := fun W hb => by
    rw [(hA.later (hbase W hb)).c0]; rfl
  have hst : ∀ W, Below w0.heap.size w0 W → Calls Try.prog 14 #[.pointer (some r)] W fun e w' => e = .returned (.int .i64 (y.stage : Int)) ∧ Below W.heap.size W w' := fun W hb =>
    (CSt.stageC (h.later hb).st).mono fun e w' ⟨h1, _, h3⟩ => ⟨h1, h3⟩
  have hwp : ∀ W, Below w0.heap.size w0 W → Calls Try.prog 16 #[.pointer (some r)] W fun e w' => ∃ a c, e = .returned (.slice a (waitsP ⟨p.R, p.W, n⟩ y).length c) ∧ IsNs w' a (waitsP ⟨p.R, p.W, n⟩ y).length (waitsP ⟨p.R, p.W, n⟩ y) ∧ Below W.heap.size W w' := fun W hb =>
    (CSt.waitsC (h.later hb).st).mono fun e w' ⟨a, c, h1, h2, _, h3⟩ => ⟨a, c, h1, h2, h3⟩
  have hrd : ∀ W, Below w0.heap.size w0 W → Calls Try.prog 18 #[.pointer (some r)] W fun e w' => ∃ a c, e = .returned (.slice a y.read.length c) ∧ Below W.heap.size W w' := fun W hb => by
    obtain ⟨O, hat, _⟩ := (h.later hb).st
    exact (C.reads hat).mono fun e w' ⟨a, c, h1, _, h3⟩ => ⟨a, c, h1, h3⟩
  have hwr := fun W hb => cwaits_P p n y da dc va vc W (h.later (w' := W) hb).doc
  have hcs := fun W hb => (h.later (w' := W) hb).cells
  by_cases h2 : y.stage = 2
  · have hlt := h.doc.ok.left h2
    have hrl : p.R.length = p.rn := h.pg.1.1
    have hlt2 : y.read.length < p.rn := by rw [← hrl]; exact hlt
    obtain ⟨b, off, ha, hbl, _, j0⟩ := h.pg.1.2.2 y.read.length hlt2
    exact ⟨⟨b, off + y.read.length, none⟩, p.R.getD y.read.length ⟨#[]⟩, fun _ => rfl, fun W hb => ⟨(hcs W hb).1, (hcs W hb).2.1, (hcs W hb).2.2.1, (hcs W hb).2.2.2.1, (hcs W hb).2.2.2.2.1, (hcs W hb).2.2.2.2.2.1, (hcs W hb).2.2.2.2.2.2.1, (hcs W hb).2.2.2.2.2.2.2.1⟩, hprog,
      fun _ => ⟨hlt2, b, off, ha, rfl, fun W hb => ((hbase W hb).cell (p := ⟨b, off + y.read.length, none⟩) hbl).trans j0⟩, hst, hwp, hwr, hrd, by rw [decide_eq_true h2, beq_iff_eq]; omega⟩
  · exact ⟨⟨0, 0, none⟩, ⟨#[]⟩, fun e => absurd e h2, fun W hb => ⟨(hcs W hb).1, (hcs W hb).2.1, (hcs W hb).2.2.1, (hcs W hb).2.2.2.1, (hcs W hb).2.2.2.2.1, (hcs W hb).2.2.2.2.2.1, (hcs W hb).2.2.2.2.2.2.1, (hcs W hb).2.2.2.2.2.2.2.1⟩, hprog,
      (fun e => by rw [decide_eq_false h2] at e; cases e), hst, hwp, hwr, hrd, by rw [decide_eq_false h2, beq_eq_false_iff_ne]; omega⟩
set_option maxHeartbeats 4000000 in
theorem coord_steps {w0 : World} {A g11 dn : Nat} {r b1 : Addr} {ra : Option Addr} {rn rc : Nat} {da : Option Addr} {dc : Nat} {b2 : Addr} {K : ByteArray} {st : Int} {sa co : Nat} (ok : Bool) {wa : Option Addr} {wn wc n : Nat} {va : Option Addr} {vn vc : Nat} {l : List Nat}
    (F : Hid (PlayG w0 A g11 dn r ra rn rc da dc b2 K st sa co ok wa wn wc n va vn vc l)) :
    AllStepsK Try.prog w0 (psiG A g11 dn r b1 ra rn rc da dc b2 K st sa co ok #[.slice ra rn rc, .slice wa wn wc, .int .i64 (n : Int), .int .i64 st, .int .u64 (sa : Int), .int .u64 (co : Int), .slice da dn dc, .slice va vn vc] l) (if ok then [] else [27, 28, 29, 30, 31, 32, 33, 34, 35]) 0 coordOps := by
  have htw := F.out.two
  cases ok with
  | true =>
    obtain ⟨hlt, b, off, rfl, rfl, hk⟩ := F.out.key rfl
    have HK := Lib.hid hk
    have hlz : (dn : Int) < (rn : Int) := by omega
    clear hk
    repeat' (first | exact AllStepsK.nil | refine AllStepsK.cons ?_ ?_)
    all_goals
      intro hsk
      first
      | (intro a' w' K' Q hB hP hK
         obtain ⟨⟨a1, c1, h1, hw1⟩, ⟨a2, c2, h2, hw2⟩, hP⟩ := hP
         conv at h1 => whnf
         conv at h2 => whnf
         have HSM := Lib.hid (nsame_yes a1 a2 l.length c1 c2 l w' hw1 hw2)
         clear hw1 hw2
         try go_simp
         go_at_call 15; refine HSM.out.mono ?_; rintro e w2 ⟨rfl, hb⟩; refine hK _ _ hb ?_; intro d hd; cases hd; rfl)
      | (intro a' w' K' Q hB hP hK
         obtain ⟨⟨a1, c1, h1⟩, hP⟩ := hP
         conv at h1 => whnf
         go_simp
         refine hK _ _ (Below.refl _ _) ?_; intro d hd; cases hd; rfl)
      | (intro a' w' K' Q hB hP hK
         repeat (obtain ⟨h, hP⟩ := hP; (conv at h => whnf); (try replace h := h rfl))
         have HB := Lib.hid hB
         obtain ⟨k0, k1, k2, k3, k4, k5, k6, k7⟩ := F.out.box w' hB
         have e0 := F.out.prog w' hB
         have j0 := HK.out w' hB
         clear hB
         try go_simp
         first
          | (refine hK _ _ (Below.refl _ _) ?_; intro d hd; cases hd; first | rfl | exact (fun _ => rfl) | exact (fun _ => h) | exact h | trivial)
          | (go_at_call 14; refine (F.out.stage _ HB.out).mono ?_; rintro e w'' ⟨rfl, hb⟩; refine hK _ _ hb ?_; intro d hd; cases hd; rfl)
          | (go_at_call 16; refine (F.out.waitsP _ HB.out).mono ?_; rintro e w'' ⟨a, c, rfl, hw, hb⟩; refine hK _ _ hb ?_; intro d hd; cases hd; exact ⟨a, c, rfl, hw⟩)
          | (go_at_call 17; refine (F.out.waits _ HB.out).mono ?_; rintro e w'' ⟨a, c, rfl, hw, hb⟩; refine hK _ _ hb ?_; intro d hd; cases hd; exact ⟨a, c, rfl, hw⟩)
          | (go_at_call 18; refine (F.out.reads _ HB.out).mono ?_; rintro e w'' ⟨a, c, rfl, hb⟩; refine hK _ _ hb ?_; intro d hd; cases hd; exact ⟨a, c, rfl⟩)
          | (obtain ⟨a1, c1, h1⟩ := h; subst h1; go_simp; refine hK _ _ (Below.refl _ _) ?_; intro d hd; cases hd; rfl)
          | (trace_state; fail))
  | false =>
    repeat' (first | exact AllStepsK.nil | refine AllStepsK.cons ?_ ?_)
    all_goals
      intro hsk
      first
      | (exfalso; revert hsk; decide)
      | (intro a' w' K' Q hB hP hK
         obtain ⟨⟨a1, c1, h1, hw1⟩, ⟨a2, c2, h2, hw2⟩, hP⟩ := hP
         conv at h1 => whnf
         conv at h2 => whnf
         have HSM := Lib.hid (nsame_yes a1 a2 l.length c1 c2 l w' hw1 hw2)
         clear hw1 hw2
         try go_simp
         go_at_call 15; refine HSM.out.mono ?_; rintro e w2 ⟨rfl, hb⟩; refine hK _ _ hb ?_; intro d hd; cases hd; rfl)
      | (intro a' w' K' Q hB hP hK
         obtain ⟨⟨a1, c1, h1⟩, hP⟩ := hP
         conv at h1 => whnf
         go_simp
         refine hK _ _ (Below.refl _ _) ?_; intro d hd; cases hd; rfl)
      | (intro a' w' K' Q hB hP hK
         repeat (obtain ⟨h, hP⟩ := hP; (conv at h => whnf); (try replace h := h rfl))
         have HB := Lib.hid hB
         obtain ⟨k0, k1, k2, k3, k4, k5, k6, k7⟩ := F.out.box w' hB
         have e0 := F.out.prog w' hB
         clear hB
         try go_simp
         first
          | (refine hK _ _ (Below.refl _ _) ?_; intro d hd; cases hd; first | rfl | exact (fun _ => rfl) | exact (fun _ => h) | exact h | trivial)
          | (go_at_call 14; refine (F.out.stage _ HB.out).mono ?_; rintro e w'' ⟨rfl, hb⟩; refine hK _ _ hb ?_; intro d hd; cases hd; rfl)
          | (go_at_call 16; refine (F.out.waitsP _ HB.out).mono ?_; rintro e w'' ⟨a, c, rfl, hw, hb⟩; refine hK _ _ hb ?_; intro d hd; cases hd; exact ⟨a, c, rfl, hw⟩)
          | (go_at_call 17; refine (F.out.waits _ HB.out).mono ?_; rintro e w'' ⟨a, c, rfl, hw, hb⟩; refine hK _ _ hb ?_; intro d hd; cases hd; exact ⟨a, c, rfl, hw⟩)
          | (go_at_call 18; refine (F.out.reads _ HB.out).mono ?_; rintro e w'' ⟨a, c, rfl, hb⟩; refine hK _ _ hb ?_; intro d hd; cases hd; exact ⟨a, c, rfl⟩)
          | (obtain ⟨a1, c1, h1⟩ := h; subst h1; go_simp; refine hK _ _ (Below.refl _ _) ?_; intro d hd; cases hd; rfl)
          | (trace_state; fail))
end Go.Proofs.Ytdldplhfpianhaa

namespace Go.Proofs.Ytdldplhfpianhaa
open Go.RowKit
set_option linter.unusedVariables false
set_option linter.unnecessarySimpa false
set_option linter.unusedSimpArgs false
set_option maxRecDepth 100000

theorem ctn_eq (x : Tn) (w : World) : (binOp .eql 30 (.agg x.cells) (.agg x.cells)).run Try.prog w = .ok (.bool true) w := by
  have h : (Op.equal 30 (.agg x.cells) (.agg x.cells)).run Try.prog w = .ok true w := by
    have h := run_equalIn_struct (P := Try.prog) w 9999 30 x.cells x.cells (by kernel_rfl) (by kernel_rfl)
    obtain ⟨a, b, c⟩ := x
    refine h.trans ?_
    unfold Program.fieldsOf
    rw [Try.underlying30]
    have hp : Try.prog.plainKey 3 = true := by kernel_rfl
    have hi : ∀ (x y : Int) W, (Op.equalIn 9999 3 (.int .i64 x) (.int .i64 y)).run Try.prog W = .ok (x == y) W := fun x y W => run_equalIn_int W 9998 3 .i64 .i64 x y Try.underlying3
    have h0 : ∀ (x y z : Int) W, (part 3 #[.int .i64 x, .int .i64 y, .int .i64 z] 0).run Try.prog W = .ok (.int .i64 x) W := fun x y z W => run_part_plain (P := Try.prog) W hp rfl
    have h1 : ∀ (x y z : Int) W, (part 3 #[.int .i64 x, .int .i64 y, .int .i64 z] 1).run Try.prog W = .ok (.int .i64 y) W := fun x y z W => run_part_plain (P := Try.prog) W hp rfl
    have h2 : ∀ (x y z : Int) W, (part 3 #[.int .i64 x, .int .i64 y, .int .i64 z] 2).run Try.prog W = .ok (.int .i64 z) W := fun x y z W => run_part_plain (P := Try.prog) W hp rfl
    simp [Op.eqFields, Tn.cells, h0, h1, h2, hi, Result.andThen]
  show (do pure (Value.bool (← Op.equal _ _ _)) : Sem Value).run Try.prog w = _
  simp [Sem.run_bind, h, Result.andThen]
theorem ver_equal (d : Nat) (v : Vr) (w : World) : (Op.equalIn (d + 2) 43 (.agg #[.int .u64 (v.time : Int), .bool v.gone, .string v.val]) (.agg #[.int .u64 (v.time : Int), .bool v.gone, .string v.val])).run Try.prog w = .ok true w := by
  refine (run_equalIn_struct (P := Try.prog) w (d + 1) 43 _ _ (by kernel_rfl) (by kernel_rfl)).trans ?_
  unfold Program.fieldsOf
  rw [Try.underlying43]
  have p1 : Try.prog.plainKey 36 = true := by kernel_rfl
  have p2 : Try.prog.plainKey 4 = true := by kernel_rfl
  have p3 : Try.prog.plainKey 9 = true := by kernel_rfl
  have e1 : ∀ (x y : Int) W, (Op.equalIn (d + 1) 36 (.int .u64 x) (.int .u64 y)).run Try.prog W = .ok (x == y) W := fun x y W => run_equalIn_int W d 36 .u64 .u64 x y Try.underlying36
  have e2 : ∀ (x y : Bool) W, (Op.equalIn (d + 1) 4 (.bool x) (.bool y)).run Try.prog W = .ok (x == y) W := fun x y W => run_equalIn_bool W d 4 x y Try.underlying4
  have e3 : ∀ (x y : ByteArray) W, (Op.equalIn (d + 1) 9 (.string x) (.string y)).run Try.prog W = .ok (x.toList == y.toList) W := fun x y W => run_equalIn_string W d 9 x y Try.underlying9
  have h0 : ∀ (x : Int) (y : Bool) (z : ByteArray) W, (part 36 #[.int .u64 x, .bool y, .string z] 0).run Try.prog W = .ok (.int .u64 x) W := fun x y z W => run_part_plain (P := Try.prog) W p1 rfl
  have h1 : ∀ (x : Int) (y : Bool) (z : ByteArray) W, (part 4 #[.int .u64 x, .bool y, .string z] 1).run Try.prog W = .ok (.bool y) W := fun x y z W => run_part_plain (P := Try.prog) W p2 rfl
  have h2 : ∀ (x : Int) (y : Bool) (z : ByteArray) W, (part 9 #[.int .u64 x, .bool y, .string z] 2).run Try.prog W = .ok (.string z) W := fun x y z W => run_part_plain (P := Try.prog) W p3 rfl
  simp [Op.eqFields, h0, h1, h2, e1, e2, e3, Result.andThen]
theorem rd_neq (x : Rd) (w : World) : (binOp .neq 45 (.agg #[.string x.key, .bool x.found, .int .u64 (x.v.time : Int), .bool x.v.gone, .string x.v.val]) (.agg #[.string x.key, .bool x.found, .int .u64 (x.v.time : Int), .bool x.v.gone, .string x.v.val])).run Try.prog w = .ok (.bool false) w := by
  have h : (Op.equal 45 (.agg #[.string x.key, .bool x.found, .int .u64 (x.v.time : Int), .bool x.v.gone, .string x.v.val]) (.agg #[.string x.key, .bool x.found, .int .u64 (x.v.time : Int), .bool x.v.gone, .string x.v.val])).run Try.prog w = .ok true w := by
    refine (run_equalIn_struct (P := Try.prog) w 9999 45 _ _ (by kernel_rfl) (by kernel_rfl)).trans ?_
    unfold Program.fieldsOf
    rw [Try.underlying45]
    have p2 : Try.prog.plainKey 4 = true := by kernel_rfl
    have p3 : Try.prog.plainKey 9 = true := by kernel_rfl
    have e2 : ∀ (x y : Bool) W, (Op.equalIn 9999 4 (.bool x) (.bool y)).run Try.prog W = .ok (x == y) W := fun x y W => run_equalIn_bool W 9998 4 x y Try.underlying4
    have e3 : ∀ (x y : ByteArray) W, (Op.equalIn 9999 9 (.string x) (.string y)).run Try.prog W = .ok (x.toList == y.toList) W := fun x y W => run_equalIn_string W 9998 9 x y Try.underlying9
    have e4 := ver_equal 9997 x.v
    have h0 : ∀ (a : ByteArray) (b : Bool) (c : Int) (d : Bool) (e : ByteArray) W, (part 9 #[.string a, .bool b, .int .u64 c, .bool d, .string e] 0).run Try.prog W = .ok (.string a) W := fun a b c d e W => run_part_plain (P := Try.prog) W p3 rfl
    have h1 : ∀ (a : ByteArray) (b : Bool) (c : Int) (d : Bool) (e : ByteArray) W, (part 4 #[.string a, .bool b, .int .u64 c, .bool d, .string e] 1).run Try.prog W = .ok (.bool b) W := fun a b c d e W => run_part_plain (P := Try.prog) W p2 rfl
    have hvs : (Try.prog.info? 43).map (·.size) = some 3 := by kernel_rfl
    have h2 : ∀ (a : ByteArray) (b : Bool) (c : Int) (d : Bool) (e : ByteArray) W, (part 43 #[.string a, .bool b, .int .u64 c, .bool d, .string e] 2).run Try.prog W = .ok (.agg #[.int .u64 c, .bool d, .string e]) W := fun a b c d e W => by
      cases hq : Try.prog.info? 43 with
      | none => rw [hq] at hvs; simp at hvs
      | some i =>
        rw [hq] at hvs
        have hs : i.size = 3 := by simpa using hvs
        simp [part, isAgg, run_underlying Try.underlying43, sizeOf, typeInfo, hq, hs, Result.andThen]
    simp [Op.eqFields, h0, h1, h2, e2, e3, e4, Result.andThen]
  show (do pure (Value.bool (!(← Op.equal _ _ _))) : Sem Value).run Try.prog w = _
  simp [Sem.run_bind, h, Result.andThen]
end Go.Proofs.Ytdldplhfpianhaa

namespace Go.Proofs.Ytdldplhfpianhaa
open Go.RowKit
set_option linter.unusedVariables false
set_option linter.unnecessarySimpa false
set_option linter.unusedSimpArgs false
set_option maxRecDepth 100000

def psiQ (g11 : Nat) (r : Addr) (q : Int) (cs : Array Value) (l : List Wq) : Nat → Value → World → Prop := fun tm v w =>
  match tm with
  | 9 => v = .pointer (some r) | 11 => v = .pointer (some ⟨g11, 0, none⟩) | 20 => v = .int .i64 q
  | 189 => v = .pointer (some r) | 190 => v = .int .i64 q | 191 => ∃ a c, v = .slice a l.length c ∧ IsWqs w a l.length c l | 192 => v = .agg cs | 193 => v = .int .i64 q
  | 194 => ∃ a c, v = .slice a l.length c ∧ IsWqs w a l.length c l | 195 => v = .bool true | 196 => v = .bool false
  | _ => True
theorem psiQ_stable (g11 : Nat) (r : Addr) (q : Int) (cs : Array Value) (l : List Wq) : ∀ tm v w w', psiQ g11 r q cs l tm v w → Below w.heap.size w w' → psiQ g11 r q cs l tm v w' := by
  intro tm v w w' h hb
  by_cases h1 : tm = 191
  · subst h1
    obtain ⟨a, c, hv, hw⟩ := h
    exact ⟨a, c, hv, hw.below hb⟩
  · by_cases h2 : tm = 194
    · subst h2
      obtain ⟨a, c, hv, hw⟩ := h
      exact ⟨a, c, hv, hw.below hb⟩
    · unfold psiQ at h ⊢
      split at h <;> first | exact h | exact absurd rfl h1 | exact absurd rfl h2 | trivial
noncomputable def partOps : List Oper := (opsOfC 32 (Try.f3.body.getD .skip)).getD []
noncomputable def txnOps : List Oper := (opsOfC 34 (Try.f3.body.getD .skip)).getD []
theorem partOps_len : partOps.length = 8 := by kernel_rfl
theorem txnOps_len : txnOps.length = 5 := by kernel_rfl
set_option maxHeartbeats 4000000 in
theorem part_steps {w0 : World} {g11 : Nat} {r : Addr} {q : Int} {a0 a1 a2 a3 a4 a5 a6 a7 : Value} {l : List Wq}
    (B : Hid (∀ W, Below w0.heap.size w0 W → W.cell? ⟨g11, 0, none⟩ = some a0 ∧ W.cell? ⟨g11, 1, none⟩ = some a1 ∧ W.cell? ⟨g11, 2, none⟩ = some a2 ∧ W.cell? ⟨g11, 3, none⟩ = some a3 ∧ W.cell? ⟨g11, 4, none⟩ = some a4 ∧ W.cell? ⟨g11, 5, none⟩ = some a5 ∧ W.cell? ⟨g11, 6, none⟩ = some a6 ∧ W.cell? ⟨g11, 7, none⟩ = some a7))
    (F : Hid (∀ W, Below w0.heap.size w0 W → Calls Try.prog 20 #[.pointer (some r), .int .i64 q] W fun e w' => ∃ a c, e = .returned (.slice a l.length c) ∧ IsWqs w' a l.length c l ∧ Below W.heap.size W w'))
    (G : Hid (∀ W, Below w0.heap.size w0 W → Calls Try.prog 21 #[.agg #[a0, a1, a2, a3, a4, a5, a6, a7], .int .i64 q] W fun e w' => ∃ a c, e = .returned (.slice a l.length c) ∧ IsWqs w' a l.length c l ∧ Below W.heap.size W w')) :
    AllStepsK Try.prog w0 (psiQ g11 r q #[a0, a1, a2, a3, a4, a5, a6, a7] l) [] 0 partOps := by
  repeat' (first | exact AllStepsK.nil | refine AllStepsK.cons ?_ ?_)
  all_goals
    intro hsk
    first
    | (intro a' w' K' Q hB hP hK
       obtain ⟨⟨a1, c1, h1, hw1⟩, ⟨a2, c2, h2, hw2⟩, hP⟩ := hP
       conv at h1 => whnf
       conv at h2 => whnf
       have HSM := Lib.hid (wsame_yes a1 a2 l.length c1 c2 l w' hw1 hw2)
       clear hw1 hw2
       try go_simp
       go_at_call 19; refine HSM.out.mono ?_; rintro e w2 ⟨rfl, hb⟩; refine hK _ _ hb ?_; intro d hd; cases hd; rfl)
    | (intro a' w' K' Q hB hP hK
       repeat (obtain ⟨h, hP⟩ := hP; conv at h => whnf)
       have HB := Lib.hid hB
       obtain ⟨k0, k1, k2, k3, k4, k5, k6, k7⟩ := B.out w' hB
       clear hB
       try go_simp
       first
        | (refine hK _ _ (Below.refl _ _) ?_; intro d hd; cases hd; first | rfl | exact h | trivial)
        | (go_at_call 20; refine (F.out _ HB.out).mono ?_; rintro e w'' ⟨a, c, rfl, hw, hb⟩; refine hK _ _ hb ?_; intro d hd; cases hd; exact ⟨a, c, rfl, hw⟩)
        | (go_at_call 21; refine (G.out _ HB.out).mono ?_; rintro e w'' ⟨a, c, rfl, hw, hb⟩; refine hK _ _ hb ?_; intro d hd; cases hd; exact ⟨a, c, rfl, hw⟩)
        | (trace_state; fail))
def psiX (g8 : Nat) (r : Addr) : Nat → Value → World → Prop := fun tm v w =>
  match tm with
  | 8 => v = .pointer (some ⟨g8, 0, none⟩) | 9 => v = .pointer (some r) | 197 => v = .pointer (some r) | 198 => v = .agg #[.int .i64 1, .int .i64 2, .int .i64 3] | 199 => v = .agg #[.int .i64 1, .int .i64 2, .int .i64 3] | 200 => v = .bool true | 6 => v = .bool true
  | _ => True
theorem psiX_stable (g8 : Nat) (r : Addr) : ∀ tm v w w', psiX g8 r tm v w → Below w.heap.size w w' → psiX g8 r tm v w' := by
  intro tm v w w' h hb
  unfold psiX at h ⊢
  split at h <;> first | exact h | trivial
set_option maxHeartbeats 4000000 in
theorem txn_steps {w0 : World} {g8 : Nat} {r : Addr} (B : Hid (∀ W, Below w0.heap.size w0 W → W.cell? ⟨g8, 0, none⟩ = some (.int .i64 1) ∧ W.cell? ⟨g8, 1, none⟩ = some (.int .i64 2) ∧ W.cell? ⟨g8, 2, none⟩ = some (.int .i64 3)))
    (F : Hid (∀ W, Below w0.heap.size w0 W → Calls Try.prog 22 #[.pointer (some r)] W fun e w' => e = .returned (.agg #[.int .i64 1, .int .i64 2, .int .i64 3]) ∧ Below W.heap.size W w')) :
    AllStepsK Try.prog w0 (psiX g8 r) [] 0 txnOps := by
  have HEQ := fun W => ctn_eq ⟨1, 2, 3⟩ W
  unfold Tn.cells at HEQ
  simp only at HEQ
  repeat' (first | exact AllStepsK.nil | refine AllStepsK.cons ?_ ?_)
  all_goals
    intro hsk
    first
    | (intro a' w' K' Q hB hP hK
       repeat (obtain ⟨h, hP⟩ := hP; conv at h => whnf)
       have HB := Lib.hid hB
       obtain ⟨k0, k1, k2⟩ := B.out w' hB
       clear hB
       try go_simp
       first
        | (refine hK _ _ (Below.refl _ _) ?_; intro d hd; cases hd; first | rfl | exact h | trivial)
        | (go_at_call 22; refine (F.out _ HB.out).mono ?_; rintro e w'' ⟨rfl, hb⟩; refine hK _ _ hb ?_; intro d hd; cases hd; rfl)
        | (trace_state; fail))
end Go.Proofs.Ytdldplhfpianhaa
