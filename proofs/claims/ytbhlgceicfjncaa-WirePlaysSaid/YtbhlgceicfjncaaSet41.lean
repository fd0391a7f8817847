/-
  Joined: MsgProject, MsgProjectB, MsgTmMath, MsgTmA.
-/
import Derived.Test.YtbhlgceicfjncaaSet40
import Derived.Test.YtbhlgceicfjncaaSet22
import Derived.Test.YtbhlgceicfjncaaSet23
import Derived.Deep.MidRow
namespace Go.Proofs.Ytbhlgceicfjncaa
open Go.RowKit
set_option linter.unusedVariables false
set_option linter.unnecessarySimpa false
set_option linter.unusedSimpArgs false
set_option maxRecDepth 100000

/-! ### What is projected, field by field -/
def prjS (m : Mg) (last : Nat) (p : Mg) (f : F3) : Mg := if f.tag ≤ last then putT p m f.tag else p
def prj (m : Mg) (last : Nat) (p : Mg) (l : List F3) : Mg := l.foldl (prjS m last) p
theorem prj_take {m : Mg} {last : Nat} {p : Mg} {l : List F3} {i : Nat} {f : F3} (h : l[i]? = some f) : prj m last p (l.take (i + 1)) = prjS m last (prj m last p (l.take i)) f := by
  unfold prj
  rw [List.take_add_one, h, List.foldl_append]
  rfl
theorem prj_step {m : Mg} (hn : nums31 m = true) {last k : Nat} (hk : k < 12) (hl : k + 1 ≤ last) : (if (f3 m (k + 1)).is = true then prjS m last (upto m k) (f3 m (k + 1)) else upto m k) = upto m (k + 1) := by
  have hT : (f3 m (k + 1)).is = isT m (k + 1) := rfl
  rw [hT]
  cases h : isT m (k + 1) with
  | true =>
    simp only [if_true]
    show (if k + 1 ≤ last then putT (upto m k) m (k + 1) else upto m k) = _
    rw [if_pos hl, upto_put hk]
  | false =>
    simp only [Bool.false_eq_true, if_false]
    have hfld : fld m (k + 1) = none := by rw [fld_is (by omega) (by omega), h]; rfl
    exact (upto_none hn hk hfld).symm
theorem prj_over {m : Mg} {last t : Nat} {p : Mg} (hl : last < t) : (if (f3 m t).is = true then prjS m last p (f3 m t) else p) = p := by
  have : prjS m last p (f3 m t) = p := if_neg (by show ¬ t ≤ last; omega)
  rw [this]
  split <;> rfl
theorem prj_all {m : Mg} (hn : nums31 m = true) {last : Nat} (hl : last = 9 ∨ last = 10 ∨ last = 12) : prj m last { mg0 with kind := m.kind } (fldsL m) = upto m last := by
  have h0 : ({ mg0 with kind := m.kind } : Mg) = upto m 0 := rfl
  unfold prj fldsL
  rw [List.foldl_filter, h0]
  unfold all12
  simp only [List.foldl_cons, List.foldl_nil]
  rcases hl with rfl | rfl | rfl
  · rw [prj_step hn (k := 0) (by omega) (by omega), prj_step hn (k := 1) (by omega) (by omega), prj_step hn (k := 2) (by omega) (by omega), prj_step hn (k := 3) (by omega) (by omega), prj_step hn (k := 4) (by omega) (by omega), prj_step hn (k := 5) (by omega) (by omega),
      prj_step hn (k := 6) (by omega) (by omega), prj_step hn (k := 7) (by omega) (by omega), prj_step hn (k := 8) (by omega) (by omega), prj_over (by omega), prj_over (by omega), prj_over (by omega)]
  · rw [prj_step hn (k := 0) (by omega) (by omega), prj_step hn (k := 1) (by omega) (by omega), prj_step hn (k := 2) (by omega) (by omega), prj_step hn (k := 3) (by omega) (by omega), prj_step hn (k := 4) (by omega) (by omega), prj_step hn (k := 5) (by omega) (by omega),
      prj_step hn (k := 6) (by omega) (by omega), prj_step hn (k := 7) (by omega) (by omega), prj_step hn (k := 8) (by omega) (by omega), prj_step hn (k := 9) (by omega) (by omega), prj_over (by omega), prj_over (by omega)]
  · rw [prj_step hn (k := 0) (by omega) (by omega), prj_step hn (k := 1) (by omega) (by omega), prj_step hn (k := 2) (by omega) (by omega), prj_step hn (k := 3) (by omega) (by omega), prj_step hn (k := 4) (by omega) (by omega), prj_step hn (k := 5) (by omega) (by omega),
      prj_step hn (k := 6) (by omega) (by omega), prj_step hn (k := 7) (by omega) (by omega), prj_step hn (k := 8) (by omega) (by omega), prj_step hn (k := 9) (by omega) (by omega), prj_step hn (k := 10) (by omega) (by omega), prj_step hn (k := 11) (by omega) (by omega)]
/-- A function by its tag. -/
theorem fn_of {t : Nat} (h1 : 1 ≤ t) (h2 : t ≤ 12) : ∃ f, (t, f) ∈ fnsL := by
  have : t = 1 ∨ t = 2 ∨ t = 3 ∨ t = 4 ∨ t = 5 ∨ t = 6 ∨ t = 7 ∨ t = 8 ∨ t = 9 ∨ t = 10 ∨ t = 11 ∨ t = 12 := by omega
  unfold fnsL
  rcases this with rfl | rfl | rfl | rfl | rfl | rfl | rfl | rfl | rfl | rfl | rfl | rfl <;> exact ⟨_, by simp; rfl⟩
theorem FnMap.grown {w w' : World} {b G : Nat} {l : List (Nat × Nat)} (h : FnMap w b l) (hg : w.grownBy w' (some G)) (hne : b ≠ G) : FnMap w' b l :=
  h.same (hg.block b h.lt (fun e => hne (by injection e)))

end Go.Proofs.Ytbhlgceicfjncaa

namespace Go.Proofs.Ytbhlgceicfjncaa
open Go.RowKit
set_option linter.unusedVariables false
set_option linter.unnecessarySimpa false
set_option linter.unusedSimpArgs false
set_option maxRecDepth 100000

/-- What the slots of the region hold in which a field is read. -/
def psiP (G P b t f : Nat) (X : ByteArray) (lo : Nat) : Nat → Value → World → Prop
  | 7 => fun v _ => v = .pointer (some ⟨G, 0, none⟩)
  | 8 => fun v _ => v = .map (some b)
  | 10 => fun v _ => v = .pointer (some ⟨P, 0, none⟩)
  | 33 => fun v _ => v = .map (some b)
  | 34 => fun v _ => v = .pointer (some ⟨P, 0, none⟩)
  | 35 => fun v _ => v = .int .u64 (t : Int)
  | 36 => fun v _ => v = .func (.func f) #[] #[]
  | 37 => fun v _ => v = .pointer (some ⟨P, 2, none⟩)
  | 38 => fun v _ => v = .string X
  | 39 => fun v w => ∃ c, v = .pointer (some ⟨c, 0, none⟩) ∧ lo ≤ c ∧ CurAt w c X false
  | _ => fun _ _ => True
theorem psiP_stable (G P b t f : Nat) (X : ByteArray) (lo : Nat) (s : Nat) (v : Value) (w w' : World) (h : psiP G P b t f X lo s v w) (hb : Below w.heap.size w w') : psiP G P b t f X lo s v w' := by
  unfold psiP at *
  split at h
  all_goals first
    | exact h
    | (obtain ⟨c, h1, h2, h3⟩ := h; exact ⟨c, h1, h2, h3.kept hb h3.lt⟩)

end Go.Proofs.Ytbhlgceicfjncaa

namespace Go.Proofs.Ytbhlgceicfjncaa
open Go.RowKit
set_option linter.unusedVariables false
set_option linter.unnecessarySimpa false
set_option linter.unusedSimpArgs false
set_option maxRecDepth 100000

theorem bad_keep {m : Mg} {r : ByteArray × Bool} {j t : Nat} (h : badT m j) (hj : j < t) : badT (rdF m r t).2.1 j := by
  have hj' : j = 0 ∨ j = 1 ∨ j = 2 ∨ j = 3 ∨ j = 9 := by
    unfold badT at h
    split at h
    · exact .inl rfl
    · exact .inr (.inl rfl)
    · exact .inr (.inr (.inl rfl))
    · exact .inr (.inr (.inr (.inl rfl)))
    · exact .inr (.inr (.inr (.inr rfl)))
    · exact h.elim
  match t with
  | 0 => exact h
  | 1 => rcases hj' with rfl | rfl | rfl | rfl | rfl <;> first | omega | exact h
  | 2 => rcases hj' with rfl | rfl | rfl | rfl | rfl <;> first | omega | exact h
  | 3 => rcases hj' with rfl | rfl | rfl | rfl | rfl <;> first | omega | exact h
  | 4 => rcases hj' with rfl | rfl | rfl | rfl | rfl <;> first | omega | exact h
  | 5 => rcases hj' with rfl | rfl | rfl | rfl | rfl <;> first | omega | exact h
  | 6 => rcases hj' with rfl | rfl | rfl | rfl | rfl <;> first | omega | exact h
  | 7 => rcases hj' with rfl | rfl | rfl | rfl | rfl <;> first | omega | exact h
  | 8 => rcases hj' with rfl | rfl | rfl | rfl | rfl <;> first | omega | exact h
  | 9 => rcases hj' with rfl | rfl | rfl | rfl | rfl <;> first | omega | exact h
  | 10 => rcases hj' with rfl | rfl | rfl | rfl | rfl <;> first | omega | exact h
  | 11 => rcases hj' with rfl | rfl | rfl | rfl | rfl <;> first | omega | exact h
  | 12 => rcases hj' with rfl | rfl | rfl | rfl | rfl <;> first | omega | exact h
  | k + 13 => exact h

/-- Where the program stands, against what the document makes of all bytes. -/
def TmSt (last : Nat) (X : Option Dst) (prev : Nat) (m : Mg) (left : Nat) (crit : Bool) (l : List UInt8) (bad : Bool) : Prop :=
  (bad = true ∧ X = none) ∨ (bad = false ∧ (X = dAll last ⟨prev, m, left, crit⟩ l ∨ (X = none ∧ ∃ j, j ≤ prev ∧ badT m j)))
section
variable {last : Nat} {X : Option Dst} {prev : Nat} {m : Mg} {left : Nat} {crit : Bool} {l t rest : List UInt8} {h : Nat}
theorem TmSt.none_ (hs : TmSt last X prev m left crit l false) (h0 : ¬ l = []) (h1 : oneS l = none) : X = none := by
  rcases hs with ⟨h, _⟩ | ⟨_, h | h⟩
  · cases h
  · rw [h]; exact dAll_none h0 h1
  · exact h.1
theorem TmSt.bad_ (hs : TmSt last X prev m left crit l true) : X = none := by
  rcases hs with ⟨_, h⟩ | ⟨h, _⟩
  · exact h
  · cases h
theorem TmSt.low (hs : TmSt last X prev m left crit l false) (h1 : oneS l = some (h, t, rest)) (hp : h / 2 ≤ prev) : X = none := by
  rcases hs with ⟨h, _⟩ | ⟨_, h | h⟩
  · cases h
  · rw [h]; exact dAll_bad h1 (by unfold dstep; exact if_pos hp)
  · exact h.1
theorem TmSt.skip (hs : TmSt last X prev m left crit l false) (h1 : oneS l = some (h, t, rest)) (hp : prev < h / 2) (hl : last < h / 2) : TmSt last X (h / 2) m (left + 1) (crit || h % 2 == 1) rest false := by
  refine .inr ⟨rfl, ?_⟩
  rcases hs with ⟨h, _⟩ | ⟨_, h | ⟨h2, j, hj, hb⟩⟩
  · cases h
  · left
    rw [h]
    exact dAll_step h1 (by unfold dstep; rw [if_neg (by show ¬ _ ≤ prev; omega), if_pos hl])
  · exact .inr ⟨h2, j, by omega, hb⟩
theorem TmSt.wrong (hs : TmSt last X prev m left crit l false) (h1 : oneS l = some (h, t, rest)) (hp : prev < h / 2) (hl : h / 2 ≤ last) (hc : ¬ h = headT (h / 2)) : X = none := by
  rcases hs with ⟨h, _⟩ | ⟨_, h | h⟩
  · cases h
  · rw [h]; exact dAll_bad h1 (by unfold dstep; rw [if_neg (by show ¬ _ ≤ prev; omega), if_neg (by omega), if_pos hc])
  · exact h.1
theorem dstep_set {m' : Mg} (hp : prev < h / 2) (hl : h / 2 ≤ last) (hc : h = headT (h / 2)) (hm : setF m (h / 2) t = some m') : dstep last ⟨prev, m, left, crit⟩ h t = some ⟨h / 2, m', left, crit⟩ := by
  unfold dstep
  rw [if_neg (by show ¬ _ ≤ prev; omega), if_neg (by omega), if_neg (by intro hn; exact hn hc)]
  show (match setF m (h / 2) t with | none => none | some m' => (some ⟨h / 2, m', left, crit⟩ : Option Dst)) = _
  rw [hm]
theorem dstep_unset (hp : prev < h / 2) (hl : h / 2 ≤ last) (hc : h = headT (h / 2)) (hm : setF m (h / 2) t = none) : dstep last ⟨prev, m, left, crit⟩ h t = none := by
  unfold dstep
  rw [if_neg (by show ¬ _ ≤ prev; omega), if_neg (by omega), if_neg (by intro hn; exact hn hc)]
  show (match setF m (h / 2) t with | none => none | some m' => (some ⟨h / 2, m', left, crit⟩ : Option Dst)) = _
  rw [hm]
theorem TmSt.no (hlast : last ≤ 12) (hs : TmSt last X prev m left crit l false) (h1 : oneS l = some (h, t, rest)) (hp : prev < h / 2) (hl : h / 2 ≤ last) (hc : h = headT (h / 2)) (hok : okR (rdF m (ar t, false) (h / 2)) = false) : X = none := by
  have hrel := rel_all m t (t := h / 2) (by omega) (by omega)
  rcases hs with ⟨h, _⟩ | ⟨_, h | h⟩
  · cases h
  · rw [h]
    cases hm : setF m (_ / 2) t with
    | none => exact dAll_bad h1 (dstep_unset hp hl hc hm)
    | some m' => rw [hm] at hrel; have := hrel.1; rw [hok] at this; cases this
  · exact h.1
theorem TmSt.yes (hlast : last ≤ 12) (hs : TmSt last X prev m left crit l false) (h1 : oneS l = some (h, t, rest)) (hp : prev < h / 2) (hl : h / 2 ≤ last) (hc : h = headT (h / 2)) (hok : okR (rdF m (ar t, false) (h / 2)) = true) :
    TmSt last X (h / 2) (rdF m (ar t, false) (h / 2)).2.1 left crit rest false := by
  have hrel := rel_all m t (t := h / 2) (by omega) (by omega)
  refine .inr ⟨rfl, ?_⟩
  rcases hs with ⟨h, _⟩ | ⟨_, h | ⟨h2, j, hj, hb⟩⟩
  · cases h
  · cases hm : setF m (_ / 2) t with
    | none =>
      rw [hm] at hrel
      right
      refine ⟨by rw [h]; exact dAll_bad h1 (dstep_unset hp hl hc hm), _, Nat.le_refl _, ?_⟩
      rcases hrel with hrel | hrel
      · rw [hok] at hrel; cases hrel
      · exact hrel
    | some m' =>
      rw [hm] at hrel
      left
      rw [h, dAll_step h1 (dstep_set hp hl hc hm), hrel.2]
  · exact .inr ⟨h2, j, by omega, bad_keep hb (by omega)⟩
theorem TmSt.over (hs : TmSt last X prev m left crit [] false) : X = some ⟨prev, m, left, crit⟩ ∨ (X = none ∧ rightBM m = false) := by
  rcases hs with ⟨h, _⟩ | ⟨_, h | ⟨h2, j, hj, hb⟩⟩
  · cases h
  · left; rw [h]; exact dAll_nil _ _
  · exact .inr ⟨h2, bad_right hb⟩
end
/-- What the cursor tells of a field off the head. -/
theorem one_none {l : List UInt8} (h : oneS l = none) : (txT (nxtM (ar l, false))).2 = true := by
  unfold oneS at h
  cases h1 : tk l with
  | none => rw [nxt_none h1, txT_bad]
  | some p =>
    obtain ⟨n, k⟩ := p
    rw [h1] at h
    simp only at h
    cases h2 : txtS (l.drop k) with
    | none => rw [nxt_some h1, (tx_none h2).1]
    | some p => obtain ⟨t, r⟩ := p; rw [h2] at h; cases h
theorem one_some {l t r : List UInt8} {hd : Nat} (h : oneS l = some (hd, t, r)) : (cUint (ar l) false).1 = hd ∧ tx (nxtM (ar l, false)) = ar t ∧ txT (nxtM (ar l, false)) = (ar r, false) := by
  unfold oneS at h
  cases h1 : tk l with
  | none => rw [h1] at h; cases h
  | some p =>
    obtain ⟨n, k⟩ := p
    rw [h1] at h
    simp only at h
    cases h2 : txtS (l.drop k) with
    | none => rw [h2] at h; cases h
    | some p =>
      obtain ⟨t', r'⟩ := p
      rw [h2] at h
      injection h with h
      injection h with e1 h
      injection h with e2 e3
      subst e1 e2 e3
      rw [nxt_some h1]
      exact ⟨u_some h1, (tx_some h2).2, (tx_some h2).1⟩
theorem head_is {h : Nat} : h = headT (h / 2) ↔ (h % 2 == 1) = decide (h / 2 = 12) := by
  unfold headT
  by_cases h12 : h / 2 = 12
  · rw [if_pos h12, decide_eq_true h12, beq_iff_eq]; omega
  · rw [if_neg h12, decide_eq_false h12, beq_eq_false_iff_ne]; omega

/-! ### What is read is not more than it may be -/
theorem cInt_fits (s : ByteArray) (b : Bool) : -9223372036854775808 ≤ ((cInt s b : Nat) : Int) ∧ ((cInt s b : Nat) : Int) ≤ 9223372036854775807 := by
  have := cInt_le s b; omega
theorem rdF_fits {m : Mg} (h : m.fits) (r : ByteArray × Bool) (t : Nat) : (rdF m r t).2.1.fits := by
  match t with
  | 0 => exact h
  | 1 => exact ⟨h.kind, cInt_fits _ _, h.to_, h.node, h.life, h.seq, h.a, h.b, h.time, h.hint, h.must⟩
  | 2 => exact ⟨h.kind, h.frm, cInt_fits _ _, h.node, h.life, h.seq, h.a, h.b, h.time, h.hint, h.must⟩
  | 3 => exact ⟨h.kind, h.frm, h.to_, cInt_fits _ _, cInt_fits _ _, cInt_fits _ _, h.a, h.b, h.time, h.hint, h.must⟩
  | 4 => exact ⟨h.kind, h.frm, h.to_, h.node, h.life, h.seq, cUint_lt _ _, h.b, h.time, h.hint, h.must⟩
  | 5 => exact ⟨h.kind, h.frm, h.to_, h.node, h.life, h.seq, h.a, cUint_lt _ _, h.time, h.hint, h.must⟩
  | 6 => exact ⟨h.kind, h.frm, h.to_, h.node, h.life, h.seq, h.a, h.b, h.time, h.hint, h.must⟩
  | 7 => exact ⟨h.kind, h.frm, h.to_, h.node, h.life, h.seq, h.a, h.b, h.time, h.hint, h.must⟩
  | 8 => exact ⟨h.kind, h.frm, h.to_, h.node, h.life, h.seq, h.a, h.b, cUint_lt _ _, h.hint, h.must⟩
  | 9 => exact ⟨h.kind, h.frm, h.to_, h.node, h.life, h.seq, h.a, h.b, h.time, h.hint, h.must⟩
  | 10 => exact ⟨h.kind, h.frm, h.to_, h.node, h.life, h.seq, h.a, h.b, h.time, h.hint, h.must⟩
  | 11 => exact ⟨h.kind, h.frm, h.to_, h.node, h.life, h.seq, h.a, h.b, h.time, cUint_lt _ _, h.must⟩
  | 12 => exact ⟨h.kind, h.frm, h.to_, h.node, h.life, h.seq, h.a, h.b, h.time, h.hint, cUint_lt _ _⟩
  | k + 13 => exact h
theorem cWA_few {B : Nat} : ∀ (n : Nat) (acc : List Wr) (r : ByteArray × Bool), r.1.size ≤ B → (∀ w ∈ acc, w.key.size ≤ B ∧ w.val.size ≤ B) → (cWA acc n r).2.1.length ≤ acc.length + n ∧ ∀ w ∈ (cWA acc n r).2.1, w.key.size ≤ B ∧ w.val.size ≤ B
  | 0, acc, r, hr, h => ⟨Nat.le_refl _, h⟩
  | n + 1, acc, r, hr, h => by
    unfold cWA
    split
    · exact ⟨Nat.zero_le _, fun w hw => by cases hw⟩
    · have b1 := bytT_size r
      have b2 := txT_size (bytT r)
      have b3 := txT_size (txT (bytT r))
      have t1 : (tx (bytT r)).size ≤ (bytT r).1.size := (cText_size _ _).1
      have t2 : (tx (txT (bytT r))).size ≤ (txT (bytT r)).1.size := (cText_size _ _).1
      have ih := cWA_few (B := B) n (acc ++ [⟨tx (bytT r), goneB (byt r), tx (txT (bytT r))⟩]) (txT (txT (bytT r))) (by omega) (fun w hw => by
        rcases List.mem_append.1 hw with hw | hw
        · exact h w hw
        · rw [List.mem_singleton] at hw
          subst hw
          exact ⟨by show (tx (bytT r)).size ≤ B; omega, by show (tx (txT (bytT r))).size ≤ B; omega⟩)
      refine ⟨?_, ih.2⟩
      have := ih.1
      rw [List.length_append] at this
      simp only [List.length_cons, List.length_nil] at this
      omega
theorem rdF_few {m : Mg} (h : m.few) (r : ByteArray × Bool) (hr : r.1.size ≤ 5000) (t : Nat) : (rdF m r t).2.1.few := by
  have hrs := rst_size r
  match t with
  | 0 => exact h
  | 1 => exact ⟨h.key, h.note, h.val, h.ws, h.all⟩
  | 2 => exact ⟨h.key, h.note, h.val, h.ws, h.all⟩
  | 3 => exact ⟨h.key, h.note, h.val, h.ws, h.all⟩
  | 4 => exact ⟨h.key, h.note, h.val, h.ws, h.all⟩
  | 5 => exact ⟨h.key, h.note, h.val, h.ws, h.all⟩
  | 6 => exact ⟨by show (rst r).size ≤ 5000; omega, h.note, h.val, h.ws, h.all⟩
  | 7 => exact ⟨h.key, h.note, h.val, h.ws, h.all⟩
  | 8 =>
    have h1 := rst_size (bytT (nxtM r))
    have h2 := bytT_size (nxtM r)
    have h3 := nxt_size r
    exact ⟨h.key, h.note, by show (rst (bytT (nxtM r))).size ≤ 12000; omega, h.ws, h.all⟩
  | 9 =>
    have h3 := nxt_size r
    have hw := cWA_few (B := 5000) (cnt r) [] (nxtM r) (by omega) (fun w hw => by cases hw)
    have hc : cnt r ≤ 9 := Nat.min_le_right _ _
    exact ⟨h.key, h.note, h.val, by show (cWA [] (cnt r) (nxtM r)).2.1.length ≤ 20; have := hw.1; simp at this; omega, hw.2⟩
  | 10 => exact ⟨h.key, by show (rst r).size ≤ 5000; omega, h.val, h.ws, h.all⟩
  | 11 => exact ⟨h.key, h.note, h.val, h.ws, h.all⟩
  | 12 => exact ⟨h.key, h.note, h.val, h.ws, h.all⟩
  | k + 13 => exact h

/-- What the document makes of bytes, but for the kind that is none. -/
def preB (last : Nat) (b : List UInt8) : Option Dst := match tk b with
  | none => none
  | some (kind, k) => if kind ≤ 9 then dAll last (dst0 kind) (b.drop k) else none
end Go.Proofs.Ytbhlgceicfjncaa

namespace Go.Proofs.Ytbhlgceicfjncaa
open Go.RowKit
set_option linter.unusedVariables false
set_option linter.unnecessarySimpa false
set_option linter.unusedSimpArgs false
set_option maxRecDepth 100000

theorem taken_size : (Try.prog.info? 96).map (·.size) = some 19 := by kernel_rfl
def zeroTaken : Array Value := #[.int .i64 0, .int .i64 0, .int .i64 0, .int .i64 0, .int .i64 0, .int .i64 0, .int .u64 0, .int .u64 0, .string ⟨#[]⟩, .bool false, .int .u64 0, .bool false, .string ⟨#[]⟩, .slice none 0 0, .string ⟨#[]⟩, .int .u64 0, .int .u64 0, .int .i64 0, .bool false]
theorem zeroTaken_one : zeroTaken.all (·.oneCell') = true := by simp [zeroTaken, Value.oneCell']
/-- What stands behind the message. -/
abbrev tkE (left : Nat) (crit : Bool) : Array Value × TypeId := (#[.int .i64 left, .bool crit], 96)
theorem tk_ret {w : World} {g : Nat} {cs : Array Value} {fn : Func} {p u : Tmp} {tmps : Array Value} {v : Value} (h : w.heap[g]? = some (.cells cs 96 (0, 0))) (hcs : cs.size = 19)
    (hf : fn.results = #[.cell p 96, .tmp u]) (hp : tmps.getD p undef = .pointer (some ⟨g, 0, none⟩)) (hv : tmps.getD u undef = v) :
    (results fn tmps).run Try.prog w = .ok (.tuple #[.agg cs, v]) w :=
  results_row_tmp hf tmps w g _ _ _ _ v hp h Try.underlying96 rfl (by rw [hcs]; exact taken_size) hv

/-! ### The block that is put together -/
section
variable {E : Array Value × TypeId} {G c : Nat} {m : Mg} {sl : Value} {w w1 w2 : World} {left : Nat} {crit : Bool}
theorem Kept2.refl (G c : Nat) (w : World) : Kept2 G c w w := ⟨rfl, rfl, rfl, Nat.le_refl _, fun _ _ _ _ => rfl⟩
theorem Kept2.trans (h1 : Kept2 G c w w1) (h2 : Kept2 G c w1 w2) : Kept2 G c w w2 :=
  ⟨h2.os.trans h1.os, h2.tape.trans h1.tape, h2.output.trans h1.output, Nat.le_trans h1.size h2.size, fun k hk hG hc => (h2.block k (Nat.lt_of_lt_of_le hk h1.size) hG hc).trans (h1.block k hk hG hc)⟩
theorem Kept2.of_G (h : w.grownBy w1 (some G)) : Kept2 G c w w1 := ⟨h.os, h.tape, h.output, h.size, fun k hk hG _ => h.block k hk (fun e => hG (by injection e))⟩
theorem Kept2.below (h : Kept2 G c w1 w2) (hb : Below w.heap.size w w1) (hG : w.heap.size ≤ G) (hc : w.heap.size ≤ c) : Below w.heap.size w w2 :=
  ⟨h.os.trans hb.os, h.tape.trans hb.tape, h.output.trans hb.output, Nat.le_trans hb.size h.size, fun k hk => (h.block k (Nat.lt_of_lt_of_le hk hb.size) (by omega) (by omega)).trans (hb.block k hk)⟩
theorem Kept2.row (h : Kept2 G c w w1) {k : Nat} {o : Obj} (hk : w.heap[k]? = some o) (hG : k ≠ G) (hc : k ≠ c) : w1.heap[k]? = some o := (h.block k (Array.getElem?_eq_some_iff.1 hk).1 hG hc).trans hk
theorem MsgAt.grown (h : MsgAt E G m sl w) (hg : w.grownBy w1 (some c)) (hne : G ≠ c) (hc : sl.ownBlock ≠ some c) : MsgAt E G m sl w1 :=
  ⟨grown_row hg h.row hne, h.ws.stay hg.size fun k e hlt => hg.block k hlt (fun q => hc (by rw [e]; exact q)), h.far, fun k e => Nat.lt_of_lt_of_le (h.bnd k e) hg.size⟩
theorem ext17 {C : Array Value} (hC : C.size = 17) (a b v : Value) : (C ++ #[a, b]).setIfInBounds 17 v = C ++ #[v, b] := by
  apply Array.toList_inj.1
  rw [Array.toList_setIfInBounds, Array.toList_append, Array.toList_append, List.set_append_right _ _ (by rw [Array.length_toList, hC]; exact Nat.le_refl _), Array.length_toList, hC]
  rfl
theorem ext18 {C : Array Value} (hC : C.size = 17) (a b v : Value) : (C ++ #[a, b]).setIfInBounds 18 v = C ++ #[a, v] := by
  apply Array.toList_inj.1
  rw [Array.toList_setIfInBounds, Array.toList_append, Array.toList_append, List.set_append_right _ _ (by rw [Array.length_toList, hC]; decide), Array.length_toList, hC]
  rfl
theorem ext_at {C : Array Value} (hC : C.size = 17) (a b : Value) : (C ++ #[a, b])[17]? = some a ∧ (C ++ #[a, b])[18]? = some b := by
  constructor
  · rw [Array.getElem?_append_right (by omega), hC]; rfl
  · rw [Array.getElem?_append_right (by omega), hC]; rfl
theorem MsgAt.c17 (h : MsgAt (tkE left crit) G m sl w) : w.cell? ⟨G, 17, none⟩ = some (.int .i64 left) := by
  have := h.row
  unfold rowE at this
  simp only [World.cell?, this]
  exact (ext_at (C := m.cells sl) rfl _ _).1
theorem MsgAt.c18 (h : MsgAt (tkE left crit) G m sl w) : w.cell? ⟨G, 18, none⟩ = some (.bool crit) := by
  have := h.row
  unfold rowE at this
  simp only [World.cell?, this]
  exact (ext_at (C := m.cells sl) rfl _ _).2
theorem MsgAt.free (h : MsgAt E G m sl w) (k : Nat) : w.frozen? ⟨G, k, none⟩ = false := free_row h.row
theorem MsgAt.stay1 (h : MsgAt E G m sl w) {E' : Array Value × TypeId} {k : Nat} {v : Value} (hrow : (w.setCell ⟨G, k, none⟩ v).heap[G]? = some (rowE E' m sl)) : MsgAt E' G m sl (w.setCell ⟨G, k, none⟩ v) := by
  have hz : (w.setCell ⟨G, k, none⟩ v).heap.size = w.heap.size := by simp [World.setCell]
  refine ⟨hrow, h.ws.stay (by rw [hz]; exact Nat.le_refl _) (fun j e _ => Below.heap_setCell w _ v j (fun q => h.far (by rw [e, q]))), h.far, fun j e => by rw [hz]; exact h.bnd j e⟩
theorem MsgAt.put17 (h : MsgAt (tkE left crit) G m sl w) (n : Nat) : MsgAt (tkE n crit) G m sl (w.setCell ⟨G, 17, none⟩ (.int .i64 (n : Int))) := by
  refine h.stay1 ?_
  rw [heap_set h.row, ext17 rfl]
  rfl
theorem MsgAt.put18 (h : MsgAt (tkE left crit) G m sl w) (b : Bool) : MsgAt (tkE left b) G m sl (w.setCell ⟨G, 18, none⟩ (.bool b)) := by
  refine h.stay1 ?_
  rw [heap_set h.row, ext18 rfl]
  rfl
theorem kept_set {k : Nat} {v : Value} : Kept2 G c w (w.setCell ⟨G, k, none⟩ v) := (Kept2.refl G c w).set
end

/-! ### A field off the cursor; where the program begins -/
theorem one_cases (l : List UInt8) (bad : Bool) : ((txT (nxtM (ar l, bad))).2 = true ∧ (bad = true ∨ oneS l = none)) ∨
    (bad = false ∧ ∃ h t r, oneS l = some (h, t, r) ∧ (cUint (ar l) bad).1 = h ∧ tx (nxtM (ar l, bad)) = ar t ∧ txT (nxtM (ar l, bad)) = (ar r, false) ∧ r.length < l.length ∧ t.length ≤ l.length ∧ h < 18446744073709551616) := by
  cases bad with
  | true => exact .inl ⟨by rw [nxt_bad, txT_bad], .inl rfl⟩
  | false =>
    cases h : oneS l with
    | none => exact .inl ⟨one_none h, .inr rfl⟩
    | some p =>
      obtain ⟨hd, t, r⟩ := p
      have h1 := one_some h
      have h2 := oneS_some h
      refine .inr ⟨rfl, hd, t, r, rfl, h1.1, h1.2.1, h1.2.2, h2.2.2.2, ?_, h2.2.1⟩
      have := congrArg List.length h2.1
      simp only [List.length_append] at this
      omega
theorem tm_init (last : Nat) (b : List UInt8) : ∃ l bad, nxtM (ar b, false) = (ar l, bad) ∧ l.length ≤ b.length ∧ TmSt last (preB last b) 0 { mg0 with kind := ((cInt (ar b) false : Nat) : Int) } 0 false l bad := by
  unfold preB
  cases h : tk b with
  | none => exact ⟨b, true, nxt_none h, Nat.le_refl _, .inl ⟨rfl, rfl⟩⟩
  | some p =>
    obtain ⟨n, k⟩ := p
    refine ⟨b.drop k, false, nxt_some h, by rw [List.length_drop]; omega, .inr ⟨rfl, ?_⟩⟩
    simp only
    have e : cInt (ar b) false = min n 2147483648 := i_some h
    rw [e]
    by_cases h9 : n ≤ 9
    · left
      rw [if_pos h9, show min n 2147483648 = n by omega]
      rfl
    · right
      refine ⟨if_neg h9, 0, Nat.le_refl _, ?_⟩
      show kindOK _ = false
      unfold kindOK
      exact decide_eq_false (by show ¬ (1 ≤ ((min n 2147483648 : Nat) : Int) ∧ ((min n 2147483648 : Nat) : Int) ≤ 9); omega)

/-! ### Worlds in which block R alone turns, to D -/
structure OneTo (R : Nat) (o : Obj) (w w' : World) : Prop where
  os : w'.os = w.os
  tape : w'.tape = w.tape
  output : w'.output = w.output
  size : w'.heap.size = w.heap.size
  block : ∀ k, k ≠ R → w'.heap[k]? = w.heap[k]?
  at_ : w'.heap[R]? = w.heap[R]? ∨ w'.heap[R]? = some o
section
variable {R : Nat} {o : Obj} {w w1 w2 : World}
theorem OneTo.refl : OneTo R o w w := ⟨rfl, rfl, rfl, rfl, fun _ _ => rfl, .inl rfl⟩
theorem OneTo.drew : OneTo R o w w.drew := ⟨rfl, rfl, rfl, rfl, fun _ _ => rfl, .inl rfl⟩
theorem OneTo.trans (h1 : OneTo R o w w1) (h2 : OneTo R o w1 w2) : OneTo R o w w2 :=
  ⟨h2.os.trans h1.os, h2.tape.trans h1.tape, h2.output.trans h1.output, h2.size.trans h1.size, fun k hk => (h2.block k hk).trans (h1.block k hk), by
    rcases h2.at_ with h | h
    · rw [h]; exact h1.at_
    · exact .inr h⟩
theorem OneTo.done (h : OneTo R o w w1) (hr : w.heap[R]? = some o) : w1.heap[R]? = some o := by
  rcases h.at_ with h | h
  · rw [h, hr]
  · exact h
theorem OneTo.below {w0 : World} (h : OneTo R o w w1) (hb : Below w0.heap.size w0 w) (hR : w0.heap.size ≤ R) : Below w0.heap.size w0 w1 :=
  ⟨h.os.trans hb.os, h.tape.trans hb.tape, h.output.trans hb.output, by rw [h.size]; exact hb.size, fun k hk => (h.block k (by omega)).trans (hb.block k hk)⟩
theorem OneTo.setRow {cs old : Array Value} {t : TypeId} (h : w.heap[R]? = some (.cells old t (0, 0))) : OneTo R (.cells cs t (0, 0)) w (w.setRow R cs) :=
  ⟨rfl, rfl, rfl, by simp, fun k hk => setRow_other _ _ _ _ hk, .inr (setRow_heap _ _ _ _ _ _ h)⟩
end
end Go.Proofs.Ytbhlgceicfjncaa
