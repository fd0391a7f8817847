/-
  Joined: MsgIsTaken, MsgRel, MsgEncodes.
-/
import Derived.Test.YtbhlgceicfjncaaSet39
import Derived.Shelf.Abstract
import Derived.Test.YtbhlgceicfjncaaSet16
namespace Go.Proofs.Ytbhlgceicfjncaa
open Go.RowKit
set_option linter.unusedVariables false
set_option linter.unnecessarySimpa false
set_option linter.unusedSimpArgs false
set_option maxRecDepth 100000

/-- What a field's text makes of a message: whether it is so, the message. -/
def okR (R : Bool × Mg × (ByteArray × Bool)) : Bool := R.1 && (!R.2.2.2 && R.2.2.1.size == 0)
def TkOut (E : Array Value × TypeId) (G : Nat) (ok : Bool) (m' : Mg) (sl : Value) (w : World) (e : Ending) (w' : World) : Prop :=
  ∃ sl', e = .returned (.bool ok) ∧ w'.heap[G]? = some (rowE E m' sl') ∧ WsAt w' sl' m'.ws ∧ w.grownBy w' (some G) ∧ (sl' = sl ∨ (∀ k, sl'.ownBlock = some k → w.heap.size ≤ k) ∧ SlFit sl') ∧ ∀ k, sl'.ownBlock = some k → k < w'.heap.size
/-- A reader's contract. -/
def RdOK (E : Array Value × TypeId) (G : Nat) (m : Mg) (sl : Value) (f t : Nat) : Prop :=
  ∀ (c : Nat) (r : ByteArray × Bool) (w : World), RdIn E G c m sl r w → Calls Try.prog f #[.pointer (some ⟨G, 0, none⟩), .pointer (some ⟨c, 0, none⟩)] w (RdOut E G c (rdF m r t) sl w)
theorem rd_all (E : Array Value × TypeId) (G : Nat) (m : Mg) (sl : Value) : ∀ p ∈ fnsL, RdOK E G m sl p.2 p.1 := by
  intro p hp
  unfold fnsL at hp
  simp only [List.mem_cons, List.not_mem_nil, or_false] at hp
  rcases hp with rfl | rfl | rfl | rfl | rfl | rfl | rfl | rfl | rfl | rfl | rfl | rfl
  · exact fun c r w h => rd_1 E G c m sl r w h
  · exact fun c r w h => rd_2 E G c m sl r w h
  · exact fun c r w h => rd_3 E G c m sl r w h
  · exact fun c r w h => rd_4 E G c m sl r w h
  · exact fun c r w h => rd_5 E G c m sl r w h
  · exact fun c r w h => rd_6 E G c m sl r w h
  · exact fun c r w h => rd_7 E G c m sl r w h
  · exact fun c r w h => rd_8 E G c m sl r w h
  · exact fun c r w h => rd_9 E G c m sl r w h
  · exact fun c r w h => rd_10 E G c m sl r w h
  · exact fun c r w h => rd_11 E G c m sl r w h
  · exact fun c r w h => rd_12 E G c m sl r w h

/-- A function that a value names is entered. -/
def EntersF (f : Nat) : Prop := ∀ (args : Array Value) (w : World), (callFunc f args).run Try.prog w = .ok (.enter f args) w
theorem fns_enter : ∀ p ∈ fnsL, EntersF p.2 := by
  intro p hp
  unfold fnsL at hp
  simp only [List.mem_cons, List.not_mem_nil, or_false] at hp
  rcases hp with rfl | rfl | rfl | rfl | rfl | rfl | rfl | rfl | rfl | rfl | rfl | rfl
  · exact Go.Proofs.enters_of Try.func79 (by kernel_rfl) rfl
  · exact Go.Proofs.enters_of Try.func80 (by kernel_rfl) rfl
  · exact Go.Proofs.enters_of Try.func81 (by kernel_rfl) rfl
  · exact Go.Proofs.enters_of Try.func83 (by kernel_rfl) rfl
  · exact Go.Proofs.enters_of Try.func84 (by kernel_rfl) rfl
  · exact Go.Proofs.enters_of Try.func85 (by kernel_rfl) rfl
  · exact Go.Proofs.enters_of Try.func87 (by kernel_rfl) rfl
  · exact Go.Proofs.enters_of Try.func88 (by kernel_rfl) rfl
  · exact Go.Proofs.enters_of Try.func90 (by kernel_rfl) rfl
  · exact Go.Proofs.enters_of Try.func92 (by kernel_rfl) rfl
  · exact Go.Proofs.enters_of Try.func93 (by kernel_rfl) rfl
  · exact Go.Proofs.enters_of Try.func94 (by kernel_rfl) rfl

/-- Where a message that is being put together stands. -/
structure MsgAt (E : Array Value × TypeId) (G : Nat) (m : Mg) (sl : Value) (w : World) : Prop where
  row : w.heap[G]? = some (rowE E m sl)
  ws : WsAt w sl m.ws
  far : sl.ownBlock ≠ some G
  bnd : ∀ k, sl.ownBlock = some k → k < w.heap.size
section
variable {E : Array Value × TypeId} {G : Nat} {m : Mg} {sl : Value} {w : World}
theorem MsgAt.lt (h : MsgAt E G m sl w) : G < w.heap.size := (Array.getElem?_eq_some_iff.1 h.row).1
theorem MsgAt.below {w1 : World} (h : MsgAt E G m sl w) (hb : Below w.heap.size w w1) : MsgAt E G m sl w1 :=
  ⟨(hb.block G h.lt).trans h.row, h.ws.below hb, h.far, fun k e => Nat.lt_of_lt_of_le (h.bnd k e) hb.size⟩
theorem MsgAt.rdIn {w1 : World} {c : Nat} {r : ByteArray × Bool} (h : MsgAt E G m sl w) (hb : Below w.heap.size w w1) (hc : CurAt w1 c r.1 r.2) (hce : w.heap.size ≤ c) (hs : r.1.size ≤ 1000000) : RdIn E G c m sl r w1 :=
  have h1 := h.below hb
  ⟨h1.row, h1.ws, hc, by have := h.lt; omega, h.far, fun e => by have := h.bnd c e; omega, h1.bnd, hs⟩
theorem RdOut.tk {w1 w' : World} {c : Nat} {R : Bool × Mg × (ByteArray × Bool)} {e : Ending} (hb : Below w.heap.size w w1) (hce : w.heap.size ≤ c) (h : RdOut E G c R sl w1 e w') (ok : Bool) : TkOut E G ok R.2.1 sl w (.returned (.bool ok)) w' := by
  obtain ⟨sl', h1, h2, h3, h4, h5, h6, h7⟩ := h
  refine ⟨sl', rfl, h2, h3, ⟨h5.os.trans hb.os, h5.tape.trans hb.tape, h5.output.trans hb.output, Nat.le_trans hb.size h5.size, fun k hk hkG => ?_⟩, ?_, h7⟩
  · rw [h5.block k (Nat.lt_of_lt_of_le hk hb.size) (fun q => hkG (by rw [q])) (by omega)]
    exact hb.block k hk
  · rcases h6 with h6 | h6
    · exact .inl h6
    · exact .inr ⟨fun k e => Nat.le_trans hb.size (h6.1 k e), h6.2⟩
theorem TkOut.msgAt {ok : Bool} {m' : Mg} {w' : World} {e : Ending} (hfar : MsgAt E G m sl w) (h : TkOut E G ok m' sl w e w') : ∃ sl', e = .returned (.bool ok) ∧ MsgAt E G m' sl' w' ∧ w.grownBy w' (some G) ∧ (sl' = sl ∨ (∀ k, sl'.ownBlock = some k → w.heap.size ≤ k) ∧ SlFit sl') := by
  obtain ⟨sl', h1, h2, h3, h4, h5, h6⟩ := h
  refine ⟨sl', h1, ⟨h2, h3, ?_, h6⟩, h4, h5⟩
  rcases h5 with rfl | h5
  · exact hfar.far
  · intro e
    have := h5.1 G e
    have := hfar.lt
    omega
end

theorem rstT_size (r : ByteArray × Bool) : (rstT r).1.size ≤ r.1.size := (cBytes_size r.1 r.2 r.1.size).2
theorem cWA_size : ∀ (n : Nat) (acc : List Wr) (r : ByteArray × Bool), (cWA acc n r).2.2.1.size ≤ r.1.size
  | 0, acc, r => Nat.le_refl _
  | n + 1, acc, r => by
    unfold cWA
    split
    · exact bytT_size r
    · have h1 := cWA_size n (acc ++ [⟨tx (bytT r), goneB (byt r), tx (txT (bytT r))⟩]) (txT (txT (bytT r)))
      have h2 := txT_size (txT (bytT r))
      have h3 := txT_size (bytT r)
      have h4 := bytT_size r
      omega
theorem rdF_size (m : Mg) (r : ByteArray × Bool) (t : Nat) : (rdF m r t).2.2.1.size ≤ r.1.size := by
  have n1 := nxt_size r
  match t with
  | 0 => exact Nat.le_refl _
  | 1 => exact n1
  | 2 => exact n1
  | 3 => exact Nat.le_trans (nxt_size _) (Nat.le_trans (nxt_size _) n1)
  | 4 => exact n1
  | 5 => exact n1
  | 6 => exact rstT_size r
  | 7 => exact Nat.le_refl _
  | 8 => exact Nat.le_trans (rstT_size _) (Nat.le_trans (bytT_size _) n1)
  | 9 => exact Nat.le_trans (cWA_size _ _ _) n1
  | 10 => exact rstT_size r
  | 11 => exact n1
  | 12 => exact n1
  | k + 13 => exact Nat.le_refl _

set_option maxHeartbeats 2000000 in
theorem isTaken_any (E : Array Value × TypeId) (f t G : Nat) (m : Mg) (sl : Value) (s : ByteArray) (hs : s.size ≤ 1000000) (hrd : RdOK E G m sl f t) (hen : EntersF f) (w : World) (h : MsgAt E G m sl w) :
    Calls Try.prog 67 #[.func (.func f) #[] #[], .pointer (some ⟨G, 0, none⟩), .string s] w (TkOut E G (okR (rdF m (s, false) t)) (rdF m (s, false) t).2.1 sl w) := by
  have hen' : ∀ (args : Array Value) (w : World), (callFunc f args).run Try.prog w = .ok (.enter f args) w := hen
  have HN := Lib.hid (new_any s w)
  obtain ⟨c, hc⟩ : ∃ c, c = w.heap.size := ⟨_, rfl⟩
  have HR := Lib.hid (fun (W : World) (hb : Below w.heap.size w W) (hcu : CurAt W c s false) => hrd c (s, false) W (h.rdIn hb hcu (Nat.le_of_eq hc.symm) hs))
  have hz : (rdF m (s, false) t).2.2.1.size ≤ maxLen := Nat.le_trans (rdF_size m (s, false) t) (by show s.size ≤ _; unfold maxLen; omega)
  obtain ⟨R, hR⟩ : ∃ R, R = rdF m (s, false) t := ⟨_, rfl⟩
  rw [← hR] at HR hz ⊢
  have HF := Lib.hid (fun (W W' : World) (e : Ending) (ok : Bool) (hb : Below w.heap.size w W) (h : RdOut E G c R sl W e W') => h.tk hb (Nat.le_of_eq hc.symm) ok)
  rw [← hc] at HR HF HN
  clear hrd hR
  obtain ⟨ok, m', s', b'⟩ := R
  have HD := Lib.hid (fun (W : World) (hcu : CurAt W c s' b') => done_any c s' b' W hz hcu)
  cases ok with
  | false =>
    have HF' : Hid (∀ (W W' : World) (e : Ending), Below c w W → RdOut E G c (false, m', s', b') sl W e W' → TkOut E G (okR (false, m', s', b')) m' sl w (.returned (.bool false)) W') := Lib.hid (fun W W' e hb ho => HF.out W W' e false hb ho)
    clear h hc hs hz HF HD
    go_enter Try.func67, Try.ntmps67
    go_wp2_with (go_at_call 58; refine HN.out.mono ?_; rintro e w1 ⟨rfl, hcu, hb1⟩; have HRW := Lib.hid (HR.out w1 hb1 hcu); have HB1 := Lib.hid hb1; clear hcu hb1)
    refine HRW.out.mono ?_
    intro e w2 ho
    have HO := Lib.hid (HF'.out w1 w2 e HB1.out ho)
    obtain ⟨sl', rfl, _⟩ := ho
    go_wp2_with fail
    go_ret
    exact HO.out
  | true =>
    have HF' : Hid (∀ (W W' : World) (e : Ending), Below c w W → RdOut E G c (true, m', s', b') sl W e W' → TkOut E G (okR (true, m', s', b')) m' sl w (.returned (.bool (!b' && s'.size == 0))) W' ∧ CurAt W' c s' b') := Lib.hid (fun W W' e hb ho => ⟨HF.out W W' e _ hb ho, by obtain ⟨_, _, _, _, h4, _⟩ := ho; exact h4⟩)
    obtain ⟨D, hD⟩ : ∃ D, D = (!b' && s'.size == 0) := ⟨_, rfl⟩
    rw [← hD] at HF' HD
    clear h hc hs hz HF hD
    go_enter Try.func67, Try.ntmps67
    go_wp2_with (go_at_call 58; refine HN.out.mono ?_; rintro e w1 ⟨rfl, hcu, hb1⟩; have HRW := Lib.hid (HR.out w1 hb1 hcu); have HB1 := Lib.hid hb1; clear hcu hb1)
    refine HRW.out.mono ?_
    intro e w2 ho
    have HO := HF'.out w1 w2 e HB1.out ho
    have HO1 := Lib.hid HO.1
    have HDW := Lib.hid (HD.out w2 HO.2)
    obtain ⟨sl', rfl, _⟩ := ho
    clear HO
    go_wp2_with (go_at_call 97; refine HDW.out.mono ?_; rintro e w3 ⟨rfl, rfl⟩)
    go_ret
    exact HO1.out
end Go.Proofs.Ytbhlgceicfjncaa

namespace Go.Proofs.Ytbhlgceicfjncaa
open Go.RowKit
set_option linter.unusedVariables false
set_option linter.unnecessarySimpa false
set_option linter.unusedSimpArgs false
set_option maxRecDepth 100000

abbrev ar (l : List UInt8) : ByteArray := ⟨l.toArray⟩
theorem nxt_bad (s : ByteArray) : nxtM (s, true) = (s, true) := by simp [nxtM, cUint]
theorem bytT_bad (s : ByteArray) : bytT (s, true) = (s, true) := by simp [bytT, cBytes]
theorem byt_bad (s : ByteArray) : byt (s, true) = ByteArray.empty := by simp [byt, cBytes]
theorem rstT_bad (s : ByteArray) : rstT (s, true) = (s, true) := by simp [rstT, cBytes]
theorem txT_bad (s : ByteArray) : txT (s, true) = (s, true) := by simp [txT, cText]
theorem nxt_none {l : List UInt8} (h : tk l = none) : nxtM (ar l, false) = (ar l, true) := by unfold nxtM; rw [show (ar l, false).1 = ar l from rfl, uN_none h]
theorem nxt_some {l : List UInt8} {n k : Nat} (h : tk l = some (n, k)) : nxtM (ar l, false) = (ar (l.drop k), false) := by unfold nxtM; rw [show (ar l, false).1 = ar l from rfl, uN_some h]
theorem u_none {l : List UInt8} (h : tk l = none) : (cUint (ar l, false).1 (ar l, false).2).1 = 0 := by rw [show (ar l, false).1 = ar l from rfl, uN_none h]
theorem u_some {l : List UInt8} {n k : Nat} (h : tk l = some (n, k)) : (cUint (ar l, false).1 (ar l, false).2).1 = n := by rw [show (ar l, false).1 = ar l from rfl, uN_some h]
theorem i_none {l : List UInt8} (h : tk l = none) : cInt (ar l, false).1 (ar l, false).2 = 0 := by unfold cInt; rw [u_none h]; rfl
theorem i_some {l : List UInt8} {n k : Nat} (h : tk l = some (n, k)) : cInt (ar l, false).1 (ar l, false).2 = min n 2147483648 := by unfold cInt; rw [u_some h]
theorem rst_all (l : List UInt8) : rst (ar l, false) = ar l ∧ rstT (ar l, false) = (ar [], false) := by
  unfold rst rstT
  rw [show ((ar l, false) : ByteArray × Bool).1.size = l.length from arr_size l, show ((ar l, false) : ByteArray × Bool).1 = ar l from rfl, cB_full (Nat.le_refl l.length), List.take_length, List.drop_length]
  exact ⟨rfl, rfl⟩
theorem size_eq0 (l : List UInt8) : ((ar l).size == 0) = l.isEmpty := by
  rw [arr_size, Bool.eq_iff_iff, beq_iff_eq, List.isEmpty_iff, List.length_eq_zero_iff]
theorem drop_emp {l : List UInt8} {k : Nat} (hk : k ≤ l.length) : (l.drop k).isEmpty = decide (k = l.length) := by
  rw [Bool.eq_iff_iff, List.isEmpty_iff, decide_eq_true_eq, List.drop_eq_nil_iff]; omega

/-- A field that is told, but is more than it may be. -/
def badT (m : Mg) : Nat → Prop
  | 0 => kindOK m = false
  | 1 => in31 m.frm = false
  | 2 => in31 m.to_ = false
  | 3 => in31 m.node = false ∨ in31 m.life = false ∨ in31 m.seq = false
  | 9 => 8 < m.ws.length
  | _ => False
theorem bad_right {m : Mg} {t : Nat} (h : badT m t) : rightBM m = false := by
  cases hr : rightBM m with
  | false => rfl
  | true =>
    have hp := right_partsM hr
    have h1 := hp.1
    unfold nums31 at h1
    simp only [Bool.and_eq_true] at h1
    obtain ⟨⟨⟨⟨a1, a2⟩, a3⟩, a4⟩, a5⟩ := h1
    unfold badT at h
    split at h
    · rw [hp.2.1] at h; cases h
    · rw [a1] at h; cases h
    · rw [a2] at h; cases h
    · rcases h with h | h | h
      · rw [a3] at h; cases h
      · rw [a4] at h; cases h
      · rw [a5] at h; cases h
    · have := hp.2.2.2.1; omega
    · exact h.elim
/-- The program's reading stands to the document's. -/
def Rel (x : Option Mg) (R : Bool × Mg × (ByteArray × Bool)) (t : Nat) : Prop := match x with
  | some m' => okR R = true ∧ R.2.1 = m'
  | none => okR R = false ∨ badT R.2.1 t

theorem okR_of {b : Bool} {m : Mg} {l : List UInt8} : okR (b, m, (ar l, false)) = (b && l.isEmpty) := by
  unfold okR
  rw [show ((b, m, (ar l, false)) : Bool × Mg × (ByteArray × Bool)).2.2.1 = ar l from rfl, size_eq0]
  rfl
theorem okR_bad {b : Bool} {m : Mg} {s : ByteArray} : okR (b, m, (s, true)) = false := by unfold okR; simp

theorem num_rel {l : List UInt8} {lim : Nat} {m : Mg} {f : Nat → Mg} {t : Nat} (hl : lim < 18446744073709551616) (cap : Nat → Nat) (hc : ∀ n, n ≤ lim → cap n = n) (hc0 : ∀ n, cap n = 0 ↔ n = 0) (hbad : ∀ n, lim < n → n < 18446744073709551616 → badT (f (cap n)) t)
    (R : Bool × Mg × (ByteArray × Bool)) (hR : R = (((cap (cUint (ar l, false).1 (ar l, false).2).1 : Nat) : Int) != 0, f (cap (cUint (ar l, false).1 (ar l, false).2).1), nxtM (ar l, false))) :
    Rel ((numS l lim).map f) R t := by
  subst hR
  unfold numS
  cases h : tk l with
  | none =>
    rw [nxt_none h]
    exact .inl okR_bad
  | some p =>
    obtain ⟨n, k⟩ := p
    have hk := tk_some h
    rw [nxt_some h, u_some h]
    simp only
    by_cases h1 : k = l.length ∧ n ≠ 0 ∧ n ≤ lim
    · rw [if_pos h1]
      refine ⟨?_, by show f (cap n) = f n; rw [hc n h1.2.2]⟩
      rw [okR_of, drop_emp hk.2.2.1, decide_eq_true h1.1, Bool.and_true, bne_iff_ne]
      have : cap n ≠ 0 := fun e => h1.2.1 ((hc0 n).1 e)
      omega
    · rw [if_neg h1]
      show okR _ = false ∨ badT _ t
      by_cases hkl : k = l.length
      · by_cases hn : n = 0
        · left
          rw [okR_of, (hc0 n).2 hn]
          rfl
        · right
          exact hbad n (by omega) hk.2.1
      · left
        rw [okR_of, drop_emp hk.2.2.1, decide_eq_false hkl, Bool.and_false]
theorem min_out {n : Nat} (h : 2147483647 < n) : in31 ((min n 2147483648 : Nat) : Int) = false := by
  unfold in31
  exact decide_eq_false (by omega)
theorem rel_1 (m : Mg) (l : List UInt8) : Rel (setF m 1 l) (rdF m (ar l, false) 1) 1 :=
  num_rel (t := 1) (f := fun n => { m with frm := (n : Int) }) (m := m) (by omega) (fun n => min n 2147483648) (fun n h => by omega) (fun n => by omega) (fun n h _ => min_out h) _ rfl
theorem rel_2 (m : Mg) (l : List UInt8) : Rel (setF m 2 l) (rdF m (ar l, false) 2) 2 :=
  num_rel (t := 2) (f := fun n => { m with to_ := (n : Int) }) (m := m) (by omega) (fun n => min n 2147483648) (fun n h => by omega) (fun n => by omega) (fun n h _ => min_out h) _ rfl
theorem rel_4 (m : Mg) (l : List UInt8) : Rel (setF m 4 l) (rdF m (ar l, false) 4) 4 :=
  num_rel (t := 4) (f := fun n => { m with a := n }) (m := m) (by omega) (fun n => n) (fun n h => rfl) (fun n => Iff.rfl) (fun n h h2 => by omega) _ rfl
theorem rel_5 (m : Mg) (l : List UInt8) : Rel (setF m 5 l) (rdF m (ar l, false) 5) 5 :=
  num_rel (t := 5) (f := fun n => { m with b := n }) (m := m) (by omega) (fun n => n) (fun n h => rfl) (fun n => Iff.rfl) (fun n h h2 => by omega) _ rfl
theorem rel_11 (m : Mg) (l : List UInt8) : Rel (setF m 11 l) (rdF m (ar l, false) 11) 11 :=
  num_rel (t := 11) (f := fun n => { m with hint := n }) (m := m) (by omega) (fun n => n) (fun n h => rfl) (fun n => Iff.rfl) (fun n h h2 => by omega) _ rfl
theorem rel_12 (m : Mg) (l : List UInt8) : Rel (setF m 12 l) (rdF m (ar l, false) 12) 12 :=
  num_rel (t := 12) (f := fun n => { m with must := n }) (m := m) (by omega) (fun n => n) (fun n h => rfl) (fun n => Iff.rfl) (fun n h h2 => by omega) _ rfl
theorem tl_emp (l : List UInt8) : (ar l).toList.isEmpty = l.isEmpty := by rw [toList_empty, ← size_eq0]; rfl
theorem rel_6 (m : Mg) (l : List UInt8) : Rel (setF m 6 l) (rdF m (ar l, false) 6) 6 := by
  have e : rdF m (ar l, false) 6 = (!(rst (ar l, false)).toList.isEmpty, { m with key := rst (ar l, false) }, rstT (ar l, false)) := rfl
  rw [e, (rst_all l).1, (rst_all l).2, tl_emp]
  show Rel (if l = [] then none else some { m with key := ⟨l.toArray⟩ }) _ 6
  by_cases h : l = []
  · rw [if_pos h]; left; rw [okR_of, h]; rfl
  · rw [if_neg h]; refine ⟨?_, rfl⟩; rw [okR_of]; simp [h]
theorem rel_10 (m : Mg) (l : List UInt8) : Rel (setF m 10 l) (rdF m (ar l, false) 10) 10 := by
  have e : rdF m (ar l, false) 10 = (!(rst (ar l, false)).toList.isEmpty, { m with note := rst (ar l, false) }, rstT (ar l, false)) := rfl
  rw [e, (rst_all l).1, (rst_all l).2, tl_emp]
  show Rel (if l = [] then none else some { m with note := ⟨l.toArray⟩ }) _ 10
  by_cases h : l = []
  · rw [if_pos h]; left; rw [okR_of, h]; rfl
  · rw [if_neg h]; refine ⟨?_, rfl⟩; rw [okR_of]; simp [h]
theorem rel_7 (m : Mg) (l : List UInt8) : Rel (setF m 7 l) (rdF m (ar l, false) 7) 7 := by
  have e : rdF m (ar l, false) 7 = (true, { m with found := true }, (ar l, false)) := rfl
  rw [e]
  show Rel (if l = [] then some { m with found := true } else none) _ 7
  by_cases h : l = []
  · rw [if_pos h]; refine ⟨?_, rfl⟩; rw [okR_of, h]; rfl
  · rw [if_neg h]; left; rw [okR_of]; simp [h]
theorem rel_3 (m : Mg) (l : List UInt8) : Rel (setF m 3 l) (rdF m (ar l, false) 3) 3 := by
  show Rel (set3 m l) _ 3
  have e : rdF m (ar l, false) 3 = (!(((cInt (ar l, false).1 (ar l, false).2 : Nat) : Int) == 0 && ((cInt (nxtM (ar l, false)).1 (nxtM (ar l, false)).2 : Nat) : Int) == 0 && ((cInt (nxtM (nxtM (ar l, false))).1 (nxtM (nxtM (ar l, false))).2 : Nat) : Int) == 0),
      { m with node := ((cInt (ar l, false).1 (ar l, false).2 : Nat) : Int), life := ((cInt (nxtM (ar l, false)).1 (nxtM (ar l, false)).2 : Nat) : Int), seq := ((cInt (nxtM (nxtM (ar l, false))).1 (nxtM (nxtM (ar l, false))).2 : Nat) : Int) }, nxtM (nxtM (nxtM (ar l, false)))) := rfl
  rw [e]
  unfold set3
  cases h1 : tk l with
  | none => rw [nxt_none h1, nxt_bad, nxt_bad]; exact .inl okR_bad
  | some p =>
    obtain ⟨x, k1⟩ := p
    rw [nxt_some h1, i_some h1]
    simp only
    cases h2 : tk (l.drop k1) with
    | none => rw [nxt_none h2, nxt_bad]; exact .inl okR_bad
    | some p =>
      obtain ⟨y, k2⟩ := p
      have e2 : cInt (ar (l.drop k1)) false = min y 2147483648 := i_some h2
      rw [nxt_some h2, e2]
      simp only
      cases h3 : tk ((l.drop k1).drop k2) with
      | none => rw [nxt_none h3]; exact .inl okR_bad
      | some p =>
        obtain ⟨z, k3⟩ := p
        have hk3 := tk_some h3
        have e3 : cInt (ar ((l.drop k1).drop k2)) false = min z 2147483648 := i_some h3
        rw [nxt_some h3, e3]
        simp only
        by_cases hc : k3 = ((l.drop k1).drop k2).length ∧ ¬ (x = 0 ∧ y = 0 ∧ z = 0) ∧ x ≤ 2147483647 ∧ y ≤ 2147483647 ∧ z ≤ 2147483647
        · rw [if_pos hc]
          obtain ⟨c1, c2, c3, c4, c5⟩ := hc
          have m1 : min x 2147483648 = x := by omega
          have m2 : min y 2147483648 = y := by omega
          have m3 : min z 2147483648 = z := by omega
          rw [m1, m2, m3]
          refine ⟨?_, rfl⟩
          rw [okR_of, drop_emp hk3.2.2.1, decide_eq_true c1, Bool.and_true]
          by_cases hx : x = 0 <;> by_cases hy : y = 0 <;> by_cases hz : z = 0 <;> simp_all
        · rw [if_neg hc]
          show okR _ = false ∨ badT _ 3
          by_cases hk : k3 = ((l.drop k1).drop k2).length
          · by_cases h0 : x = 0 ∧ y = 0 ∧ z = 0
            · left
              obtain ⟨rfl, rfl, rfl⟩ := h0
              rw [okR_of]; rfl
            · right
              by_cases hx : 2147483647 < x
              · exact .inl (min_out hx)
              · by_cases hy : 2147483647 < y
                · exact .inr (.inl (min_out hy))
                · exact .inr (.inr (min_out (by omega)))
          · left
            rw [okR_of, drop_emp hk3.2.2.1, decide_eq_false hk, Bool.and_false]

theorem byt_nil : byt (ar [], false) = ByteArray.empty ∧ bytT (ar [], false) = (ar [], true) := by
  have h : cBytes (ar []) false 1 = (ByteArray.empty, ar [], true) := cB_short (l := []) (k := 1) (by decide)
  unfold byt bytT
  rw [show ((ar [], false) : ByteArray × Bool).1 = ar [] from rfl, h]
  exact ⟨rfl, rfl⟩
theorem byt_cons (g : UInt8) (v : List UInt8) : byt (ar (g :: v), false) = ar [g] ∧ bytT (ar (g :: v), false) = (ar v, false) := by
  have h : cBytes (ar (g :: v)) false 1 = (ar [g], ar v, false) := cB_full (l := g :: v) (k := 1) (by simp)
  unfold byt bytT
  rw [show ((ar (g :: v), false) : ByteArray × Bool).1 = ar (g :: v) from rfl, h]
  exact ⟨rfl, rfl⟩
theorem gone_empty : goneK ByteArray.empty = false := by decide
theorem gone_one (g : UInt8) : goneB (ar [g]) = (g == 1) ∧ goneK (ar [g]) = (g == 1 || g == 0) := by
  have e : ∀ x : UInt8, (([g] : List UInt8) == [x]) = (g == x) := fun x => by
    rw [Bool.eq_iff_iff, beq_iff_eq, beq_iff_eq]
    simp
  unfold goneB goneK
  rw [show (ar [g]).data.toList = [g] from rfl, e, e]
  exact ⟨rfl, rfl⟩

theorem rel_8 (m : Mg) (l : List UInt8) : Rel (setF m 8 l) (rdF m (ar l, false) 8) 8 := by
  show Rel (set8 m l) _ 8
  have e : rdF m (ar l, false) 8 = (goneK (byt (nxtM (ar l, false))) && !((cUint (ar l, false).1 (ar l, false).2).1 == 0 && !goneB (byt (nxtM (ar l, false))) && (rst (bytT (nxtM (ar l, false)))).size == 0),
    { m with time := (cUint (ar l, false).1 (ar l, false).2).1, gone := goneB (byt (nxtM (ar l, false))), val := rst (bytT (nxtM (ar l, false))) }, rstT (bytT (nxtM (ar l, false)))) := rfl
  rw [e]
  unfold set8
  cases h1 : tk l with
  | none => rw [nxt_none h1, bytT_bad, rstT_bad]; exact .inl okR_bad
  | some p =>
    obtain ⟨n, k⟩ := p
    rw [nxt_some h1, u_some h1]
    simp only
    cases h2 : l.drop k with
    | nil =>
      rw [(byt_nil).1, gone_empty]
      left
      unfold okR
      rfl
    | cons g v =>
      rw [(byt_cons g v).1, (byt_cons g v).2, (rst_all v).1, (rst_all v).2, (gone_one g).1, (gone_one g).2, size_eq0]
      simp only
      by_cases hc : (g = 0 ∨ g = 1) ∧ ¬ (n = 0 ∧ g = 0 ∧ v = [])
      · rw [if_pos hc]
        refine ⟨?_, rfl⟩
        rw [okR_of]
        obtain ⟨h3, h4⟩ := hc
        rcases h3 with rfl | rfl
        · by_cases hn : n = 0 <;> by_cases hv : v = [] <;> simp_all
        · simp
      · rw [if_neg hc]
        left
        rw [okR_of]
        by_cases h0 : g = 0
        · subst h0
          have : n = 0 ∧ v = [] := by
            by_cases hn : n = 0
            · by_cases hv : v = []
              · exact ⟨hn, hv⟩
              · exact absurd ⟨.inl rfl, fun h => hv h.2.2⟩ hc
            · exact absurd ⟨.inl rfl, fun h => hn h.1⟩ hc
          obtain ⟨rfl, rfl⟩ := this
          rfl
        · by_cases h1 : g = 1
          · subst h1
            exact absurd ⟨.inr rfl, fun h => by cases h.2.1⟩ hc
          · simp [h0, h1]

/-! ### Writes -/
theorem tx_none {l : List UInt8} (h : txtS l = none) : txT (ar l, false) = (ar l, true) ∧ tx (ar l, false) = ByteArray.empty := by
  unfold txtS at h
  unfold tx txT
  rw [show ((ar l, false) : ByteArray × Bool).1 = ar l from rfl]
  cases h1 : tk l with
  | none => rw [cT_none h1]; exact ⟨rfl, rfl⟩
  | some p =>
    obtain ⟨n, k⟩ := p
    rw [h1] at h
    simp only at h
    split at h
    · cases h
    · rename_i hn
      rw [cT_short h1 (by omega)]; exact ⟨rfl, rfl⟩
theorem tx_some {l t r : List UInt8} (h : txtS l = some (t, r)) : txT (ar l, false) = (ar r, false) ∧ tx (ar l, false) = ar t := by
  unfold txtS at h
  unfold tx txT
  rw [show ((ar l, false) : ByteArray × Bool).1 = ar l from rfl]
  cases h1 : tk l with
  | none => rw [h1] at h; cases h
  | some p =>
    obtain ⟨n, k⟩ := p
    rw [h1] at h
    simp only at h
    split at h
    · rename_i hn
      injection h with h
      injection h with e1 e2
      rw [cT_full h1 hn, e1, e2]; exact ⟨rfl, rfl⟩
    · cases h
theorem cWA_bad (n : Nat) (acc : List Wr) (s : ByteArray) : (cWA acc n (s, true)).1 = false ∨ (cWA acc n (s, true)).2.2.2 = true := by
  cases n with
  | zero => exact .inr rfl
  | succ n =>
    unfold cWA
    rw [byt_bad, if_pos gone_empty]
    exact .inl rfl
theorem cWA_len : ∀ (n : Nat) (acc : List Wr) (r : ByteArray × Bool), (cWA acc n r).1 = true → (cWA acc n r).2.1.length = acc.length + n
  | 0, acc, r, _ => rfl
  | n + 1, acc, r, h => by
    unfold cWA at h ⊢
    split
    · rename_i hk; rw [if_pos hk] at h; cases h
    · rename_i hk
      rw [if_neg hk] at h
      rw [cWA_len n _ _ h, List.length_append]
      simp
      omega
theorem cWA_rel : ∀ (n : Nat) (acc : List Wr) (l : List UInt8), match wsS n l with
    | some (ws, r) => cWA acc n (ar l, false) = (true, acc ++ ws, (ar r, false))
    | none => (cWA acc n (ar l, false)).1 = false ∨ (cWA acc n (ar l, false)).2.2.2 = true
  | 0, acc, l => by
    show cWA acc 0 (ar l, false) = (true, acc ++ [], (ar l, false))
    rw [List.append_nil]; rfl
  | n + 1, acc, l => by
    cases l with
    | nil =>
      show (cWA acc (n + 1) (ar [], false)).1 = false ∨ _
      unfold cWA
      rw [byt_nil.1, if_pos gone_empty]
      exact .inl rfl
    | cons g r =>
      rw [wsS]
      unfold cWA
      rw [(byt_cons g r).1, (byt_cons g r).2, (gone_one g).1, (gone_one g).2]
      by_cases hg : g = 0 ∨ g = 1
      · rw [if_neg (by intro h; exact h hg)]
        have hk : ¬ (g == 1 || g == 0) = false := by rcases hg with rfl | rfl <;> decide
        rw [if_neg hk]
        cases h1 : txtS r with
        | none =>
          rw [(tx_none h1).1, txT_bad]
          exact cWA_bad _ _ _
        | some p =>
          obtain ⟨k, r1⟩ := p
          rw [(tx_some h1).1, (tx_some h1).2]
          simp only
          cases h2 : txtS r1 with
          | none =>
            rw [(tx_none h2).1]
            exact cWA_bad _ _ _
          | some p =>
            obtain ⟨v, r2⟩ := p
            rw [(tx_some h2).1, (tx_some h2).2]
            simp only
            have ih := cWA_rel n (acc ++ [⟨ar k, g == 1, ar v⟩]) r2
            cases h3 : wsS n r2 with
            | none => rw [h3] at ih; exact ih
            | some p =>
              obtain ⟨ws, r3⟩ := p
              rw [h3] at ih
              simp only at ih ⊢
              rw [ih, List.append_assoc]
              rfl
      · rw [if_pos hg]
        have hk : (g == 1 || g == 0) = false := by
          rw [Bool.or_eq_false_iff, beq_eq_false_iff_ne, beq_eq_false_iff_ne]
          exact ⟨fun e => hg (.inr e), fun e => hg (.inl e)⟩
        rw [if_pos hk]
        exact .inl rfl
theorem okR_first {b : Bool} {m : Mg} {r : ByteArray × Bool} (h : b = false ∨ r.2 = true) : okR (b, m, r) = false := by
  unfold okR
  rcases h with h | h
  · rw [h]; rfl
  · show (b && (!r.2 && _)) = false
    rw [h]; simp
theorem rel_9 (m : Mg) (l : List UInt8) : Rel (setF m 9 l) (rdF m (ar l, false) 9) 9 := by
  show Rel (set9 m l) _ 9
  have e : rdF m (ar l, false) 9 = ((cWA [] (cnt (ar l, false)) (nxtM (ar l, false))).1 && decide (0 < (cWA [] (cnt (ar l, false)) (nxtM (ar l, false))).2.1.length),
    { m with ws := (cWA [] (cnt (ar l, false)) (nxtM (ar l, false))).2.1 }, (cWA [] (cnt (ar l, false)) (nxtM (ar l, false))).2.2) := rfl
  rw [e]
  unfold set9 cnt
  cases h1 : tk l with
  | none =>
    rw [nxt_none h1, u_none h1]
    left
    apply okR_first
    right
    rfl
  | some p =>
    obtain ⟨n, k⟩ := p
    rw [nxt_some h1, u_some h1]
    simp only
    have hrel := cWA_rel (min n 9) [] (l.drop k)
    by_cases h0 : n = 0
    · rw [if_pos (.inl h0)]
      subst h0
      left
      apply okR_first
      left
      rfl
    · by_cases h8 : 8 < n
      · rw [if_pos (.inr h8)]
        show okR _ = false ∨ 8 < _
        cases hok : (cWA [] (min n 9) (ar (l.drop k), false)).1 with
        | false => left; exact okR_first (.inl rfl)
        | true =>
          right
          have := cWA_len _ _ _ hok
          show 8 < (cWA [] (min n 9) (ar (l.drop k), false)).2.1.length
          rw [this]
          simp
          omega
      · rw [if_neg (by rintro (h | h); exact h0 h; exact h8 h)]
        have hm : min n 9 = n := by omega
        rw [hm] at hrel ⊢
        cases h2 : wsS n (l.drop k) with
        | none =>
          rw [h2] at hrel
          simp only at hrel ⊢
          left
          apply okR_first
          rcases hrel with h | h
          · left; rw [h]; rfl
          · right; exact h
        | some p =>
          obtain ⟨ws, r⟩ := p
          rw [h2] at hrel
          simp only at hrel ⊢
          rw [hrel]
          simp only [List.nil_append]
          have hwl := (wsS_some n (l.drop k) h2).1
          by_cases hr : r = []
          · rw [if_pos hr]
            refine ⟨?_, rfl⟩
            rw [okR_of, decide_eq_true (by omega), hr]
            rfl
          · rw [if_neg hr]
            left
            rw [okR_of]
            simp [hr]
theorem rel_all (m : Mg) (l : List UInt8) {t : Nat} (h1 : 1 ≤ t) (h2 : t ≤ 12) : Rel (setF m t l) (rdF m (ar l, false) t) t := by
  have : t = 1 ∨ t = 2 ∨ t = 3 ∨ t = 4 ∨ t = 5 ∨ t = 6 ∨ t = 7 ∨ t = 8 ∨ t = 9 ∨ t = 10 ∨ t = 11 ∨ t = 12 := by omega
  rcases this with rfl | rfl | rfl | rfl | rfl | rfl | rfl | rfl | rfl | rfl | rfl | rfl
  · exact rel_1 m l
  · exact rel_2 m l
  · exact rel_3 m l
  · exact rel_4 m l
  · exact rel_5 m l
  · exact rel_6 m l
  · exact rel_7 m l
  · exact rel_8 m l
  · exact rel_9 m l
  · exact rel_10 m l
  · exact rel_11 m l
  · exact rel_12 m l
/-- A field of a right message is read as it was. -/
theorem rd_put {p m : Mg} (hn : nums31 m = true) (hf : m.fits) (hw : m.few) (h8 : m.ws.length ≤ 8) {t : Nat} (h1 : 1 ≤ t) (h12 : t ≤ 12) (hT : isT m t = true) : (rdF p (ar (txt m t), false) t).2.1 = putT p m t := by
  have hfld : fld m t = some (txt m t) := by rw [fld_is h1 h12, hT]; rfl
  have hset := set_fld (m0 := p) hn hf hw h8 h1 h12 hfld
  have hr := rel_all p (txt m t) h1 h12
  rw [hset] at hr
  exact hr.2
end Go.Proofs.Ytbhlgceicfjncaa

namespace Go.Proofs.Ytbhlgceicfjncaa
open Go.RowKit
set_option linter.unusedVariables false
set_option linter.unnecessarySimpa false
set_option linter.unusedSimpArgs false
set_option maxRecDepth 100000

theorem enc_snd (v : Int) (m : Mg) : (encB v m).2 = (projB v m).2 := by
  unfold encB
  split
  · rename_i h; exact h.symm
  · rfl
theorem right_sane {m : Mg} (h : rightBM m = true) (hf : m.fits) : m.sane := ⟨by have := kind_of h; omega, (right_partsM h).1, hf, right_few h⟩
theorem cut_fits {v : Int} {m : Mg} (hf : m.fits) : (cut v m).fits := ⟨hf.kind, hf.frm, hf.to_, hf.node, hf.life, hf.seq, hf.a, hf.b, hf.time, by show (if v < 3 then 0 else m.hint) < _; split; omega; exact hf.hint, hf.must⟩
theorem cut_few {v : Int} {m : Mg} (hf : m.few) : (cut v m).few := ⟨hf.key, by show (if v < 2 then ByteArray.empty else m.note).size ≤ _; split; exact Nat.zero_le _; exact hf.note, hf.val, hf.ws, hf.all⟩
theorem proj_sane {v : Int} {m : Mg} (hf : m.fits) (hw : m.few) : (projB v m).1.sane := by
  unfold projB
  split
  · exact mg0_sane
  · rename_i h
    split
    · exact mg0_sane
    · have hr : rightBM m = true := by cases hr : rightBM m; exact absurd (.inr hr) h; rfl
      have := right_sane hr hf
      exact ⟨this.kind, this.nums, cut_fits hf, cut_few hw⟩
theorem cells_ok {m : Mg} {W : World} {sl : Value} (h : WsAt W sl m.ws) : (m.cells sl).all (·.oneCell') = true := by
  obtain ⟨a, len, cap, rfl, _, _⟩ := h
  simp [Mg.cells, Value.oneCell']
theorem cells_size (m : Mg) (sl : Value) : (Try.prog.info? 38).map (·.size) = some (m.cells sl).size := msg_size
def zeroMsg : Array Value := #[.int .i64 0, .int .i64 0, .int .i64 0, .int .i64 0, .int .i64 0, .int .i64 0, .int .u64 0, .int .u64 0, .string ⟨#[]⟩, .bool false, .int .u64 0, .bool false, .string ⟨#[]⟩, .slice none 0 0, .string ⟨#[]⟩, .int .u64 0, .int .u64 0]

/-- A message that came in. -/
structure MsgIn (m : Mg) : Prop where
  fits : m.fits
  key : m.key.size ≤ 140737488355328
  note : m.note.size ≤ 140737488355328
  val : m.val.size ≤ 140737488355328
  len : m.ws.length ≤ 140737488355328
  all : ∀ i, i < m.ws.length → (m.ws.getD i wr0).key.size ≤ maxLen ∧ (m.ws.getD i wr0).val.size ≤ maxLen
def AllTrue (w : World) (e : Ending) (w' : World) : Prop := e = .returned (.bool true) ∧ Below w.heap.size w w'

theorem few_yes {m : Mg} (hm : MsgIn m) (sl : Value) (h : FewP m) (w : World) (hws : WsAt w sl m.ws) : Calls Try.prog 8 #[.agg (m.cells sl)] w fun e w' => e = .returned (.bool true) ∧ Below w.heap.size w w' :=
  refFew_yes m sl hm.key hm.note hm.val hm.len hm.all h w hws
theorem few_no {m : Mg} (hm : MsgIn m) (sl : Value) (h : ¬ FewP m) (w : World) (hws : WsAt w sl m.ws) : Calls Try.prog 8 #[.agg (m.cells sl)] w fun e w' => e = .returned (.bool false) ∧ Below w.heap.size w w' :=
  refFew_no m sl hm.key hm.note hm.val hm.len hm.all h w hws

end Go.Proofs.Ytbhlgceicfjncaa
