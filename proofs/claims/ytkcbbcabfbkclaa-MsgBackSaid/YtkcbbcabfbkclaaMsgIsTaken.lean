/-
  The walk of the program's isTaken, at whichever reader.
-/
import Derived.Test.YtkcbbcabfbkclaaMsgRd
import Derived.Shelf.Abstract
namespace Go.Proofs.Ytkcbbcabfbkclaa
open Go.RowKit
set_option linter.unusedVariables false
set_option linter.unnecessarySimpa false
set_option linter.unusedSimpArgs false
set_option maxRecDepth 100000

/-- What a field's text makes of a message: whether it is so, the message. -/
def okR (R : Bool × Mg × (ByteArray × Bool)) : Bool := R.1 && (!R.2.2.2 && R.2.2.1.size == 0)
def TkOut (E : Array Value × TypeId) (G : Nat) (ok : Bool) (m' : Mg) (sl : Value) (w : World) (e : Ending) (w' : World) : Prop :=
  ∃ sl', e = .returned (.bool ok) ∧ w'.heap[G]? = some (rowE E m' sl') ∧ WsAt w' sl' m'.ws ∧ w.grownBy w' (some G) ∧ (sl' = sl ∨ ∀ k, sl'.ownBlock = some k → w.heap.size ≤ k) ∧ ∀ k, sl'.ownBlock = some k → k < w'.heap.size
/-- A reader's contract. -/
def RdOK (E : Array Value × TypeId) (G : Nat) (m : Mg) (sl : Value) (f t : Nat) : Prop :=
  ∀ (c : Nat) (r : ByteArray × Bool) (w : World), RdIn E G c m sl r w → Calls Try.prog f #[.pointer (some ⟨G, 0, none⟩), .pointer (some ⟨c, 0, none⟩)] w (RdOut E G c (rdF m r t) sl w)
theorem rd_all (E : Array Value × TypeId) (G : Nat) (m : Mg) (sl : Value) : ∀ p ∈ fnsL, RdOK E G m sl p.2 p.1 := by
  intro p hp
  unfold fnsL at hp
  simp only [List.mem_cons, List.not_mem_nil, or_false] at hp
  rcases hp with rfl | rfl | rfl | rfl | rfl | rfl | rfl | rfl | rfl | rfl | rfl | rfl
  · exact fun c r w h => rd_1 E G c m sl r w h
  · exact fun c r w h => rd_2 E G c m sl r w h
  · exact fun c r w h => rd_3 E G c m sl r w h
  · exact fun c r w h => rd_4 E G c m sl r w h
  · exact fun c r w h => rd_5 E G c m sl r w h
  · exact fun c r w h => rd_6 E G c m sl r w h
  · exact fun c r w h => rd_7 E G c m sl r w h
  · exact fun c r w h => rd_8 E G c m sl r w h
  · exact fun c r w h => rd_9 E G c m sl r w h
  · exact fun c r w h => rd_10 E G c m sl r w h
  · exact fun c r w h => rd_11 E G c m sl r w h
  · exact fun c r w h => rd_12 E G c m sl r w h

/-- A function that a value names is entered. -/
def EntersF (f : Nat) : Prop := ∀ (args : Array Value) (w : World), (callFunc f args).run Try.prog w = .ok (.enter f args) w
theorem fns_enter : ∀ p ∈ fnsL, EntersF p.2 := by
  intro p hp
  unfold fnsL at hp
  simp only [List.mem_cons, List.not_mem_nil, or_false] at hp
  rcases hp with rfl | rfl | rfl | rfl | rfl | rfl | rfl | rfl | rfl | rfl | rfl | rfl
  · exact Go.Proofs.enters_of Try.func36 (by kernel_rfl) rfl
  · exact Go.Proofs.enters_of Try.func38 (by kernel_rfl) rfl
  · exact Go.Proofs.enters_of Try.func39 (by kernel_rfl) rfl
  · exact Go.Proofs.enters_of Try.func41 (by kernel_rfl) rfl
  · exact Go.Proofs.enters_of Try.func43 (by kernel_rfl) rfl
  · exact Go.Proofs.enters_of Try.func44 (by kernel_rfl) rfl
  · exact Go.Proofs.enters_of Try.func46 (by kernel_rfl) rfl
  · exact Go.Proofs.enters_of Try.func47 (by kernel_rfl) rfl
  · exact Go.Proofs.enters_of Try.func49 (by kernel_rfl) rfl
  · exact Go.Proofs.enters_of Try.func51 (by kernel_rfl) rfl
  · exact Go.Proofs.enters_of Try.func52 (by kernel_rfl) rfl
  · exact Go.Proofs.enters_of Try.func53 (by kernel_rfl) rfl

/-- Where a message that is being put together stands. -/
structure MsgAt (E : Array Value × TypeId) (G : Nat) (m : Mg) (sl : Value) (w : World) : Prop where
  row : w.heap[G]? = some (rowE E m sl)
  ws : WsAt w sl m.ws
  far : sl.ownBlock ≠ some G
  bnd : ∀ k, sl.ownBlock = some k → k < w.heap.size
section
variable {E : Array Value × TypeId} {G : Nat} {m : Mg} {sl : Value} {w : World}
theorem MsgAt.lt (h : MsgAt E G m sl w) : G < w.heap.size := (Array.getElem?_eq_some_iff.1 h.row).1
theorem MsgAt.below {w1 : World} (h : MsgAt E G m sl w) (hb : Below w.heap.size w w1) : MsgAt E G m sl w1 :=
  ⟨(hb.block G h.lt).trans h.row, h.ws.below hb, h.far, fun k e => Nat.lt_of_lt_of_le (h.bnd k e) hb.size⟩
theorem MsgAt.rdIn {w1 : World} {c : Nat} {r : ByteArray × Bool} (h : MsgAt E G m sl w) (hb : Below w.heap.size w w1) (hc : CurAt w1 c r.1 r.2) (hce : w.heap.size ≤ c) (hs : r.1.size ≤ 1000000) : RdIn E G c m sl r w1 :=
  have h1 := h.below hb
  ⟨h1.row, h1.ws, hc, by have := h.lt; omega, h.far, fun e => by have := h.bnd c e; omega, h1.bnd, hs⟩
theorem RdOut.tk {w1 w' : World} {c : Nat} {R : Bool × Mg × (ByteArray × Bool)} {e : Ending} (hb : Below w.heap.size w w1) (hce : w.heap.size ≤ c) (h : RdOut E G c R sl w1 e w') (ok : Bool) : TkOut E G ok R.2.1 sl w (.returned (.bool ok)) w' := by
  obtain ⟨sl', h1, h2, h3, h4, h5, h6, h7⟩ := h
  refine ⟨sl', rfl, h2, h3, ⟨h5.os.trans hb.os, h5.tape.trans hb.tape, h5.output.trans hb.output, Nat.le_trans hb.size h5.size, fun k hk hkG => ?_⟩, ?_, h7⟩
  · rw [h5.block k (Nat.lt_of_lt_of_le hk hb.size) (fun q => hkG (by rw [q])) (by omega)]
    exact hb.block k hk
  · rcases h6 with h6 | h6
    · exact .inl h6
    · exact .inr fun k e => Nat.le_trans hb.size (h6 k e)
theorem TkOut.msgAt {ok : Bool} {m' : Mg} {w' : World} {e : Ending} (hfar : MsgAt E G m sl w) (h : TkOut E G ok m' sl w e w') : ∃ sl', e = .returned (.bool ok) ∧ MsgAt E G m' sl' w' ∧ w.grownBy w' (some G) ∧ (sl' = sl ∨ ∀ k, sl'.ownBlock = some k → w.heap.size ≤ k) := by
  obtain ⟨sl', h1, h2, h3, h4, h5, h6⟩ := h
  refine ⟨sl', h1, ⟨h2, h3, ?_, h6⟩, h4, h5⟩
  rcases h5 with rfl | h5
  · exact hfar.far
  · intro e
    have := h5 G e
    have := hfar.lt
    omega
end

theorem rstT_size (r : ByteArray × Bool) : (rstT r).1.size ≤ r.1.size := (cBytes_size r.1 r.2 r.1.size).2
theorem cWA_size : ∀ (n : Nat) (acc : List Wr) (r : ByteArray × Bool), (cWA acc n r).2.2.1.size ≤ r.1.size
  | 0, acc, r => Nat.le_refl _
  | n + 1, acc, r => by
    unfold cWA
    split
    · exact bytT_size r
    · have h1 := cWA_size n (acc ++ [⟨tx (bytT r), goneB (byt r), tx (txT (bytT r))⟩]) (txT (txT (bytT r)))
      have h2 := txT_size (txT (bytT r))
      have h3 := txT_size (bytT r)
      have h4 := bytT_size r
      omega
theorem rdF_size (m : Mg) (r : ByteArray × Bool) (t : Nat) : (rdF m r t).2.2.1.size ≤ r.1.size := by
  have n1 := nxt_size r
  match t with
  | 0 => exact Nat.le_refl _
  | 1 => exact n1
  | 2 => exact n1
  | 3 => exact Nat.le_trans (nxt_size _) (Nat.le_trans (nxt_size _) n1)
  | 4 => exact n1
  | 5 => exact n1
  | 6 => exact rstT_size r
  | 7 => exact Nat.le_refl _
  | 8 => exact Nat.le_trans (rstT_size _) (Nat.le_trans (bytT_size _) n1)
  | 9 => exact Nat.le_trans (cWA_size _ _ _) n1
  | 10 => exact rstT_size r
  | 11 => exact n1
  | 12 => exact n1
  | k + 13 => exact Nat.le_refl _

set_option maxHeartbeats 2000000 in
theorem isTaken_any (E : Array Value × TypeId) (f t G : Nat) (m : Mg) (sl : Value) (s : ByteArray) (hs : s.size ≤ 1000000) (hrd : RdOK E G m sl f t) (hen : EntersF f) (w : World) (h : MsgAt E G m sl w) :
    Calls Try.prog 64 #[.func (.func f) #[] #[], .pointer (some ⟨G, 0, none⟩), .string s] w (TkOut E G (okR (rdF m (s, false) t)) (rdF m (s, false) t).2.1 sl w) := by
  have hen' : ∀ (args : Array Value) (w : World), (callFunc f args).run Try.prog w = .ok (.enter f args) w := hen
  have HN := Lib.hid (new_any s w)
  obtain ⟨c, hc⟩ : ∃ c, c = w.heap.size := ⟨_, rfl⟩
  have HR := Lib.hid (fun (W : World) (hb : Below w.heap.size w W) (hcu : CurAt W c s false) => hrd c (s, false) W (h.rdIn hb hcu (Nat.le_of_eq hc.symm) hs))
  have hz : (rdF m (s, false) t).2.2.1.size ≤ maxLen := Nat.le_trans (rdF_size m (s, false) t) (by show s.size ≤ _; unfold maxLen; omega)
  obtain ⟨R, hR⟩ : ∃ R, R = rdF m (s, false) t := ⟨_, rfl⟩
  rw [← hR] at HR hz ⊢
  have HF := Lib.hid (fun (W W' : World) (e : Ending) (ok : Bool) (hb : Below w.heap.size w W) (h : RdOut E G c R sl W e W') => h.tk hb (Nat.le_of_eq hc.symm) ok)
  rw [← hc] at HR HF HN
  clear hrd hR
  obtain ⟨ok, m', s', b'⟩ := R
  have HD := Lib.hid (fun (W : World) (hcu : CurAt W c s' b') => done_any c s' b' W hz hcu)
  cases ok with
  | false =>
    have HF' : Hid (∀ (W W' : World) (e : Ending), Below c w W → RdOut E G c (false, m', s', b') sl W e W' → TkOut E G (okR (false, m', s', b')) m' sl w (.returned (.bool false)) W') := Lib.hid (fun W W' e hb ho => HF.out W W' e false hb ho)
    clear h hc hs hz HF HD
    go_enter Try.func64, Try.ntmps64
    go_wp2_with (go_at_call 24; refine HN.out.mono ?_; rintro e w1 ⟨rfl, hcu, hb1⟩; have HRW := Lib.hid (HR.out w1 hb1 hcu); have HB1 := Lib.hid hb1; clear hcu hb1)
    refine HRW.out.mono ?_
    intro e w2 ho
    have HO := Lib.hid (HF'.out w1 w2 e HB1.out ho)
    obtain ⟨sl', rfl, _⟩ := ho
    go_wp2_with fail
    go_ret
    exact HO.out
  | true =>
    have HF' : Hid (∀ (W W' : World) (e : Ending), Below c w W → RdOut E G c (true, m', s', b') sl W e W' → TkOut E G (okR (true, m', s', b')) m' sl w (.returned (.bool (!b' && s'.size == 0))) W' ∧ CurAt W' c s' b') := Lib.hid (fun W W' e hb ho => ⟨HF.out W W' e _ hb ho, by obtain ⟨_, _, _, _, h4, _⟩ := ho; exact h4⟩)
    obtain ⟨D, hD⟩ : ∃ D, D = (!b' && s'.size == 0) := ⟨_, rfl⟩
    rw [← hD] at HF' HD
    clear h hc hs hz HF hD
    go_enter Try.func64, Try.ntmps64
    go_wp2_with (go_at_call 24; refine HN.out.mono ?_; rintro e w1 ⟨rfl, hcu, hb1⟩; have HRW := Lib.hid (HR.out w1 hb1 hcu); have HB1 := Lib.hid hb1; clear hcu hb1)
    refine HRW.out.mono ?_
    intro e w2 ho
    have HO := HF'.out w1 w2 e HB1.out ho
    have HO1 := Lib.hid HO.1
    have HDW := Lib.hid (HD.out w2 HO.2)
    obtain ⟨sl', rfl, _⟩ := ho
    clear HO
    go_wp2_with (go_at_call 76; refine HDW.out.mono ?_; rintro e w3 ⟨rfl, rfl⟩)
    go_ret
    exact HO1.out
end Go.Proofs.Ytkcbbcabfbkclaa
