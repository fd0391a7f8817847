/-
  Plain mathematics: the program's way through a message's bytes, against the document's.
-/
import Derived.Test.YtkcbbcabfbkclaaMsgRel
namespace Go.Proofs.Ytkcbbcabfbkclaa
open Go.RowKit
set_option linter.unusedVariables false
set_option linter.unnecessarySimpa false
set_option linter.unusedSimpArgs false
set_option maxRecDepth 100000

theorem bad_keep {m : Mg} {r : ByteArray × Bool} {j t : Nat} (h : badT m j) (hj : j < t) : badT (rdF m r t).2.1 j := by
  have hj' : j = 0 ∨ j = 1 ∨ j = 2 ∨ j = 3 ∨ j = 9 := by
    unfold badT at h
    split at h
    · exact .inl rfl
    · exact .inr (.inl rfl)
    · exact .inr (.inr (.inl rfl))
    · exact .inr (.inr (.inr (.inl rfl)))
    · exact .inr (.inr (.inr (.inr rfl)))
    · exact h.elim
  match t with
  | 0 => exact h
  | 1 => rcases hj' with rfl | rfl | rfl | rfl | rfl <;> first | omega | exact h
  | 2 => rcases hj' with rfl | rfl | rfl | rfl | rfl <;> first | omega | exact h
  | 3 => rcases hj' with rfl | rfl | rfl | rfl | rfl <;> first | omega | exact h
  | 4 => rcases hj' with rfl | rfl | rfl | rfl | rfl <;> first | omega | exact h
  | 5 => rcases hj' with rfl | rfl | rfl | rfl | rfl <;> first | omega | exact h
  | 6 => rcases hj' with rfl | rfl | rfl | rfl | rfl <;> first | omega | exact h
  | 7 => rcases hj' with rfl | rfl | rfl | rfl | rfl <;> first | omega | exact h
  | 8 => rcases hj' with rfl | rfl | rfl | rfl | rfl <;> first | omega | exact h
  | 9 => rcases hj' with rfl | rfl | rfl | rfl | rfl <;> first | omega | exact h
  | 10 => rcases hj' with rfl | rfl | rfl | rfl | rfl <;> first | omega | exact h
  | 11 => rcases hj' with rfl | rfl | rfl | rfl | rfl <;> first | omega | exact h
  | 12 => rcases hj' with rfl | rfl | rfl | rfl | rfl <;> first | omega | exact h
  | k + 13 => exact h

/-- Where the program stands, against what the document makes of all bytes. -/
def TmSt (last : Nat) (X : Option Dst) (prev : Nat) (m : Mg) (left : Nat) (crit : Bool) (l : List UInt8) (bad : Bool) : Prop :=
  (bad = true ∧ X = none) ∨ (bad = false ∧ (X = dAll last ⟨prev, m, left, crit⟩ l ∨ (X = none ∧ ∃ j, j ≤ prev ∧ badT m j)))
section
variable {last : Nat} {X : Option Dst} {prev : Nat} {m : Mg} {left : Nat} {crit : Bool} {l t rest : List UInt8} {h : Nat}
theorem TmSt.none_ (hs : TmSt last X prev m left crit l false) (h0 : ¬ l = []) (h1 : oneS l = none) : X = none := by
  rcases hs with ⟨h, _⟩ | ⟨_, h | h⟩
  · cases h
  · rw [h]; exact dAll_none h0 h1
  · exact h.1
theorem TmSt.bad_ (hs : TmSt last X prev m left crit l true) : X = none := by
  rcases hs with ⟨_, h⟩ | ⟨h, _⟩
  · exact h
  · cases h
theorem TmSt.low (hs : TmSt last X prev m left crit l false) (h1 : oneS l = some (h, t, rest)) (hp : h / 2 ≤ prev) : X = none := by
  rcases hs with ⟨h, _⟩ | ⟨_, h | h⟩
  · cases h
  · rw [h]; exact dAll_bad h1 (by unfold dstep; exact if_pos hp)
  · exact h.1
theorem TmSt.skip (hs : TmSt last X prev m left crit l false) (h1 : oneS l = some (h, t, rest)) (hp : prev < h / 2) (hl : last < h / 2) : TmSt last X (h / 2) m (left + 1) (crit || h % 2 == 1) rest false := by
  refine .inr ⟨rfl, ?_⟩
  rcases hs with ⟨h, _⟩ | ⟨_, h | ⟨h2, j, hj, hb⟩⟩
  · cases h
  · left
    rw [h]
    exact dAll_step h1 (by unfold dstep; rw [if_neg (by show ¬ _ ≤ prev; omega), if_pos hl])
  · exact .inr ⟨h2, j, by omega, hb⟩
theorem TmSt.wrong (hs : TmSt last X prev m left crit l false) (h1 : oneS l = some (h, t, rest)) (hp : prev < h / 2) (hl : h / 2 ≤ last) (hc : ¬ h = headT (h / 2)) : X = none := by
  rcases hs with ⟨h, _⟩ | ⟨_, h | h⟩
  · cases h
  · rw [h]; exact dAll_bad h1 (by unfold dstep; rw [if_neg (by show ¬ _ ≤ prev; omega), if_neg (by omega), if_pos hc])
  · exact h.1
theorem dstep_set {m' : Mg} (hp : prev < h / 2) (hl : h / 2 ≤ last) (hc : h = headT (h / 2)) (hm : setF m (h / 2) t = some m') : dstep last ⟨prev, m, left, crit⟩ h t = some ⟨h / 2, m', left, crit⟩ := by
  unfold dstep
  rw [if_neg (by show ¬ _ ≤ prev; omega), if_neg (by omega), if_neg (by intro hn; exact hn hc)]
  show (match setF m (h / 2) t with | none => none | some m' => (some ⟨h / 2, m', left, crit⟩ : Option Dst)) = _
  rw [hm]
theorem dstep_unset (hp : prev < h / 2) (hl : h / 2 ≤ last) (hc : h = headT (h / 2)) (hm : setF m (h / 2) t = none) : dstep last ⟨prev, m, left, crit⟩ h t = none := by
  unfold dstep
  rw [if_neg (by show ¬ _ ≤ prev; omega), if_neg (by omega), if_neg (by intro hn; exact hn hc)]
  show (match setF m (h / 2) t with | none => none | some m' => (some ⟨h / 2, m', left, crit⟩ : Option Dst)) = _
  rw [hm]
theorem TmSt.no (hlast : last ≤ 12) (hs : TmSt last X prev m left crit l false) (h1 : oneS l = some (h, t, rest)) (hp : prev < h / 2) (hl : h / 2 ≤ last) (hc : h = headT (h / 2)) (hok : okR (rdF m (ar t, false) (h / 2)) = false) : X = none := by
  have hrel := rel_all m t (t := h / 2) (by omega) (by omega)
  rcases hs with ⟨h, _⟩ | ⟨_, h | h⟩
  · cases h
  · rw [h]
    cases hm : setF m (_ / 2) t with
    | none => exact dAll_bad h1 (dstep_unset hp hl hc hm)
    | some m' => rw [hm] at hrel; have := hrel.1; rw [hok] at this; cases this
  · exact h.1
theorem TmSt.yes (hlast : last ≤ 12) (hs : TmSt last X prev m left crit l false) (h1 : oneS l = some (h, t, rest)) (hp : prev < h / 2) (hl : h / 2 ≤ last) (hc : h = headT (h / 2)) (hok : okR (rdF m (ar t, false) (h / 2)) = true) :
    TmSt last X (h / 2) (rdF m (ar t, false) (h / 2)).2.1 left crit rest false := by
  have hrel := rel_all m t (t := h / 2) (by omega) (by omega)
  refine .inr ⟨rfl, ?_⟩
  rcases hs with ⟨h, _⟩ | ⟨_, h | ⟨h2, j, hj, hb⟩⟩
  · cases h
  · cases hm : setF m (_ / 2) t with
    | none =>
      rw [hm] at hrel
      right
      refine ⟨by rw [h]; exact dAll_bad h1 (dstep_unset hp hl hc hm), _, Nat.le_refl _, ?_⟩
      rcases hrel with hrel | hrel
      · rw [hok] at hrel; cases hrel
      · exact hrel
    | some m' =>
      rw [hm] at hrel
      left
      rw [h, dAll_step h1 (dstep_set hp hl hc hm), hrel.2]
  · exact .inr ⟨h2, j, by omega, bad_keep hb (by omega)⟩
theorem TmSt.over (hs : TmSt last X prev m left crit [] false) : X = some ⟨prev, m, left, crit⟩ ∨ (X = none ∧ rightB m = false) := by
  rcases hs with ⟨h, _⟩ | ⟨_, h | ⟨h2, j, hj, hb⟩⟩
  · cases h
  · left; rw [h]; exact dAll_nil _ _
  · exact .inr ⟨h2, bad_right hb⟩
end
/-- What the cursor tells of a field off the head. -/
theorem one_none {l : List UInt8} (h : oneS l = none) : (txT (nxt (ar l, false))).2 = true := by
  unfold oneS at h
  cases h1 : tk l with
  | none => rw [nxt_none h1, txT_bad]
  | some p =>
    obtain ⟨n, k⟩ := p
    rw [h1] at h
    simp only at h
    cases h2 : txtS (l.drop k) with
    | none => rw [nxt_some h1, (tx_none h2).1]
    | some p => obtain ⟨t, r⟩ := p; rw [h2] at h; cases h
theorem one_some {l t r : List UInt8} {hd : Nat} (h : oneS l = some (hd, t, r)) : (cUint (ar l) false).1 = hd ∧ tx (nxt (ar l, false)) = ar t ∧ txT (nxt (ar l, false)) = (ar r, false) := by
  unfold oneS at h
  cases h1 : tk l with
  | none => rw [h1] at h; cases h
  | some p =>
    obtain ⟨n, k⟩ := p
    rw [h1] at h
    simp only at h
    cases h2 : txtS (l.drop k) with
    | none => rw [h2] at h; cases h
    | some p =>
      obtain ⟨t', r'⟩ := p
      rw [h2] at h
      injection h with h
      injection h with e1 h
      injection h with e2 e3
      subst e1 e2 e3
      rw [nxt_some h1]
      exact ⟨u_some h1, (tx_some h2).2, (tx_some h2).1⟩
theorem head_is {h : Nat} : h = headT (h / 2) ↔ (h % 2 == 1) = decide (h / 2 = 12) := by
  unfold headT
  by_cases h12 : h / 2 = 12
  · rw [if_pos h12, decide_eq_true h12, beq_iff_eq]; omega
  · rw [if_neg h12, decide_eq_false h12, beq_eq_false_iff_ne]; omega

/-! ### What is read is not more than it may be -/
theorem cInt_fits (s : ByteArray) (b : Bool) : -9223372036854775808 ≤ ((cInt s b : Nat) : Int) ∧ ((cInt s b : Nat) : Int) ≤ 9223372036854775807 := by
  have := cInt_le s b; omega
theorem rdF_fits {m : Mg} (h : m.fits) (r : ByteArray × Bool) (t : Nat) : (rdF m r t).2.1.fits := by
  match t with
  | 0 => exact h
  | 1 => exact ⟨h.kind, cInt_fits _ _, h.to_, h.node, h.life, h.seq, h.a, h.b, h.time, h.hint, h.must⟩
  | 2 => exact ⟨h.kind, h.frm, cInt_fits _ _, h.node, h.life, h.seq, h.a, h.b, h.time, h.hint, h.must⟩
  | 3 => exact ⟨h.kind, h.frm, h.to_, cInt_fits _ _, cInt_fits _ _, cInt_fits _ _, h.a, h.b, h.time, h.hint, h.must⟩
  | 4 => exact ⟨h.kind, h.frm, h.to_, h.node, h.life, h.seq, cUint_lt _ _, h.b, h.time, h.hint, h.must⟩
  | 5 => exact ⟨h.kind, h.frm, h.to_, h.node, h.life, h.seq, h.a, cUint_lt _ _, h.time, h.hint, h.must⟩
  | 6 => exact ⟨h.kind, h.frm, h.to_, h.node, h.life, h.seq, h.a, h.b, h.time, h.hint, h.must⟩
  | 7 => exact ⟨h.kind, h.frm, h.to_, h.node, h.life, h.seq, h.a, h.b, h.time, h.hint, h.must⟩
  | 8 => exact ⟨h.kind, h.frm, h.to_, h.node, h.life, h.seq, h.a, h.b, cUint_lt _ _, h.hint, h.must⟩
  | 9 => exact ⟨h.kind, h.frm, h.to_, h.node, h.life, h.seq, h.a, h.b, h.time, h.hint, h.must⟩
  | 10 => exact ⟨h.kind, h.frm, h.to_, h.node, h.life, h.seq, h.a, h.b, h.time, h.hint, h.must⟩
  | 11 => exact ⟨h.kind, h.frm, h.to_, h.node, h.life, h.seq, h.a, h.b, h.time, cUint_lt _ _, h.must⟩
  | 12 => exact ⟨h.kind, h.frm, h.to_, h.node, h.life, h.seq, h.a, h.b, h.time, h.hint, cUint_lt _ _⟩
  | k + 13 => exact h
theorem cWA_few {B : Nat} : ∀ (n : Nat) (acc : List Wr) (r : ByteArray × Bool), r.1.size ≤ B → (∀ w ∈ acc, w.key.size ≤ B ∧ w.val.size ≤ B) → (cWA acc n r).2.1.length ≤ acc.length + n ∧ ∀ w ∈ (cWA acc n r).2.1, w.key.size ≤ B ∧ w.val.size ≤ B
  | 0, acc, r, hr, h => ⟨Nat.le_refl _, h⟩
  | n + 1, acc, r, hr, h => by
    unfold cWA
    split
    · exact ⟨Nat.zero_le _, fun w hw => by cases hw⟩
    · have b1 := bytT_size r
      have b2 := txT_size (bytT r)
      have b3 := txT_size (txT (bytT r))
      have t1 : (tx (bytT r)).size ≤ (bytT r).1.size := (cText_size _ _).1
      have t2 : (tx (txT (bytT r))).size ≤ (txT (bytT r)).1.size := (cText_size _ _).1
      have ih := cWA_few (B := B) n (acc ++ [⟨tx (bytT r), goneB (byt r), tx (txT (bytT r))⟩]) (txT (txT (bytT r))) (by omega) (fun w hw => by
        rcases List.mem_append.1 hw with hw | hw
        · exact h w hw
        · rw [List.mem_singleton] at hw
          subst hw
          exact ⟨by show (tx (bytT r)).size ≤ B; omega, by show (tx (txT (bytT r))).size ≤ B; omega⟩)
      refine ⟨?_, ih.2⟩
      have := ih.1
      rw [List.length_append] at this
      simp only [List.length_cons, List.length_nil] at this
      omega
theorem rdF_few {m : Mg} (h : m.few) (r : ByteArray × Bool) (hr : r.1.size ≤ 5000) (t : Nat) : (rdF m r t).2.1.few := by
  have hrs := rst_size r
  match t with
  | 0 => exact h
  | 1 => exact ⟨h.key, h.note, h.val, h.ws, h.all⟩
  | 2 => exact ⟨h.key, h.note, h.val, h.ws, h.all⟩
  | 3 => exact ⟨h.key, h.note, h.val, h.ws, h.all⟩
  | 4 => exact ⟨h.key, h.note, h.val, h.ws, h.all⟩
  | 5 => exact ⟨h.key, h.note, h.val, h.ws, h.all⟩
  | 6 => exact ⟨by show (rst r).size ≤ 5000; omega, h.note, h.val, h.ws, h.all⟩
  | 7 => exact ⟨h.key, h.note, h.val, h.ws, h.all⟩
  | 8 =>
    have h1 := rst_size (bytT (nxt r))
    have h2 := bytT_size (nxt r)
    have h3 := nxt_size r
    exact ⟨h.key, h.note, by show (rst (bytT (nxt r))).size ≤ 12000; omega, h.ws, h.all⟩
  | 9 =>
    have h3 := nxt_size r
    have hw := cWA_few (B := 5000) (cnt r) [] (nxt r) (by omega) (fun w hw => by cases hw)
    have hc : cnt r ≤ 9 := Nat.min_le_right _ _
    exact ⟨h.key, h.note, h.val, by show (cWA [] (cnt r) (nxt r)).2.1.length ≤ 20; have := hw.1; simp at this; omega, hw.2⟩
  | 10 => exact ⟨h.key, by show (rst r).size ≤ 5000; omega, h.val, h.ws, h.all⟩
  | 11 => exact ⟨h.key, h.note, h.val, h.ws, h.all⟩
  | 12 => exact ⟨h.key, h.note, h.val, h.ws, h.all⟩
  | k + 13 => exact h

/-- What the document makes of bytes, but for the kind that is none. -/
def preB (last : Nat) (b : List UInt8) : Option Dst := match tk b with
  | none => none
  | some (kind, k) => if kind ≤ 9 then dAll last (dst0 kind) (b.drop k) else none
end Go.Proofs.Ytkcbbcabfbkclaa
