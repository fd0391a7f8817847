/-
  Joined: MsgTake, MsgTakeB.
-/
import Derived.Test.YtkcbbcabfbkclaaSet13
import Derived.Laws.Tables
namespace Go.Proofs.Ytkcbbcabfbkclaa
open Go.RowKit
set_option linter.unusedVariables false
set_option linter.unnecessarySimpa false
set_option linter.unusedSimpArgs false
set_option maxRecDepth 100000
set_option linter.unusedSectionVars false

theorem clone_any (s : ByteArray) (w : World) (h : s.size ≤ 281474976710656) : Calls Try.prog 70 #[.string s] w fun e w' => e = .returned (.string s) ∧ Below w.heap.size w w' := by
  have H := Lib.hid (Try.stringslite_Clone s w h)
  go_enter Try.func70, Try.ntmps70
  go_wp2_with (go_at_call 78; refine H.out.mono ?_; rintro e w1 ⟨rfl, hb1⟩)
  go_ret
  exact ⟨rfl, hb1⟩

/-! ### What is left is never more -/
theorem ex_size (s : ByteArray) (i j : Nat) : (s.extract i j).size ≤ s.size := by
  rw [ByteArray.size_extract]; omega
theorem cUint_size (s : ByteArray) (bad : Bool) : (cUint s bad).2.1.size ≤ s.size := by
  unfold cUint
  split
  · exact Nat.le_refl _
  · split
    · exact Nat.le_refl _
    · exact ex_size _ _ _
theorem cBytes_size (s : ByteArray) (bad : Bool) (n : Int) : (cBytes s bad n).1.size ≤ s.size ∧ (cBytes s bad n).2.1.size ≤ s.size := by
  unfold cBytes
  split
  · exact ⟨Nat.zero_le _, Nat.le_refl _⟩
  · exact ⟨ex_size _ _ _, ex_size _ _ _⟩
theorem cText_size (s : ByteArray) (bad : Bool) : (cText s bad).1.size ≤ s.size ∧ (cText s bad).2.1.size ≤ s.size := by
  unfold cText
  split
  · exact ⟨Nat.zero_le _, Nat.le_refl _⟩
  · exact ⟨Nat.le_trans (ex_size _ _ _) (ex_size _ _ _), Nat.le_trans (ex_size _ _ _) (ex_size _ _ _)⟩
theorem cUint_lt (s : ByteArray) (bad : Bool) : (cUint s bad).1 < 18446744073709551616 := by
  unfold cUint
  split
  · omega
  · split
    · omega
    · show tkN s.data.toList < _
      unfold tkN
      cases h : tk s.data.toList with
      | none => simp
      | some p => exact (tk_some (n := p.1) (k := p.2) h).2.1

/-- A cursor, and what a call leaves of it. -/
def CurTo (g : Nat) (r : ByteArray × Bool) (w w' : World) : Prop := CurAt w' g r.1 r.2 ∧ w.grownBy w' (some g)
def cInt (s : ByteArray) (bad : Bool) : Nat := min (cUint s bad).1 2147483648
theorem cInt_le (s : ByteArray) (bad : Bool) : cInt s bad ≤ 2147483648 := Nat.min_le_right _ _

section
variable (g : Nat) (s : ByteArray) (bad : Bool) (hs : s.size ≤ 1000000) (w : World) (h : CurAt w g s bad)
include hs h
theorem maxOK : s.size ≤ maxLen := by unfold maxLen; omega

set_option maxHeartbeats 1000000 in
theorem takeInt_any : Calls Try.prog 37 #[.pointer (some ⟨g, 0, none⟩)] w fun e w' => e = .returned (.int .i64 (cInt s bad : Nat)) ∧ CurTo g (cUint s bad).2 w w' := by
  have HU := Lib.hid (cur_uint g s bad w (maxOK g s bad hs w h) h)
  obtain ⟨n, hn⟩ : ∃ n, n = (cUint s bad).1 := ⟨_, rfl⟩
  have hlt := cUint_lt s bad
  have hfin : cInt s bad = min n 2147483648 := by rw [hn]; rfl
  rw [← hn] at hlt HU
  rw [hfin]
  clear hfin hn hs h
  have hN := Lib.hid hlt
  have hr := Lib.hid (show min (n : Int) 2147483648 = ((min n 2147483648 : Nat) : Int) by omega)
  have e1 : IntKind.i64.wrap (min (n : Int) 2147483648) = min (n : Int) 2147483648 := by simp [IntKind.wrap, IntKind.bits, IntKind.signed]; omega
  go_enter Try.func37, Try.ntmps37
  go_wp2_with (go_at_call 42; refine HU.out.mono ?_; rintro e w1 ⟨rfl, hc1, hg1⟩)
  all_goals
    go_ret
    exact ⟨ret_int (by omega), hc1, hg1⟩

set_option maxHeartbeats 1000000 in
theorem takeRest_any : Calls Try.prog 45 #[.pointer (some ⟨g, 0, none⟩)] w fun e w' => e = .returned (.string (cBytes s bad s.size).1) ∧ CurTo g (cBytes s bad s.size).2 w w' := by
  have HL := Lib.hid (left_any g s bad w (maxOK g s bad hs w h) h)
  have HB := Lib.hid (cur_bytes g s bad s.size w (maxOK g s bad hs w h) h)
  have hz := cBytes_size s bad s.size
  obtain ⟨R, hR⟩ : ∃ R, R = cBytes s bad s.size := ⟨_, rfl⟩
  rw [← hR] at HB hz ⊢
  obtain ⟨x, y, z⟩ := R
  simp only at HB hz ⊢
  have HC := Lib.hid (fun W => clone_any x W (by omega))
  clear hR hz hs h
  go_enter Try.func45, Try.ntmps45
  go_wp2_with (first
    | (go_at_call 61; refine HL.out.mono ?_; rintro e w1 ⟨rfl, rfl⟩)
    | (go_at_call 71; refine HB.out.mono ?_; rintro e w1 ⟨rfl, hc1, hg1⟩)
    | (go_at_call 70; refine (HC.out _).mono ?_; rintro e w2 ⟨rfl, hb2⟩))
  go_ret
  exact ⟨rfl, hc1.kept hb2 hc1.lt, grownBy_trans hg1 (grown_of_below hb2)⟩

set_option maxHeartbeats 1000000 in
theorem takeText_any : Calls Try.prog 73 #[.pointer (some ⟨g, 0, none⟩)] w fun e w' => e = .returned (.string (cText s bad).1) ∧ CurTo g (cText s bad).2 w w' := by
  have HB := Lib.hid (cur_text g s bad w (maxOK g s bad hs w h) h)
  have hz := cText_size s bad
  obtain ⟨R, hR⟩ : ∃ R, R = cText s bad := ⟨_, rfl⟩
  rw [← hR] at HB hz ⊢
  obtain ⟨x, y, z⟩ := R
  simp only at HB hz ⊢
  have HC := Lib.hid (fun W => clone_any x W (by omega))
  clear hR hz hs h
  go_enter Try.func73, Try.ntmps73
  go_wp2_with (first
    | (go_at_call 62; refine HB.out.mono ?_; rintro e w1 ⟨rfl, hc1, hg1⟩)
    | (go_at_call 70; refine (HC.out _).mono ?_; rintro e w2 ⟨rfl, hb2⟩))
  go_ret
  exact ⟨rfl, hc1.kept hb2 hc1.lt, grownBy_trans hg1 (grown_of_below hb2)⟩
end

/-- Whether something is gone, and whether that is told. -/
def goneB (b : ByteArray) : Bool := b.data.toList == [1]
def goneK (b : ByteArray) : Bool := b.data.toList == [1] || b.data.toList == [0]

set_option maxHeartbeats 1000000 in
theorem takeGone_any (g : Nat) (s : ByteArray) (bad : Bool) (hs : s.size ≤ 1000000) (w : World) (h : CurAt w g s bad) :
    Calls Try.prog 72 #[.pointer (some ⟨g, 0, none⟩)] w fun e w' => e = .returned (.tuple #[.bool (goneB (cBytes s bad 1).1), .bool (goneK (cBytes s bad 1).1)]) ∧ CurTo g (cBytes s bad 1).2 w w' := by
  have HB := Lib.hid (cur_bytes g s bad 1 w (maxOK g s bad hs w h) h)
  obtain ⟨R, hR⟩ : ∃ R, R = cBytes s bad 1 := ⟨_, rfl⟩
  rw [← hR] at HB ⊢
  obtain ⟨x, y, z⟩ := R
  simp only at HB ⊢
  have htl : x.toList = x.data.toList := Lib.toList_data x
  clear hR hs h
  by_cases h1 : x.data.toList = [1]
  · have e1 : (x.toList == [1]) = true := by rw [htl, h1]; rfl
    have hr := Lib.hid (show goneB x = true ∧ goneK x = true by unfold goneB goneK; rw [h1]; exact ⟨rfl, rfl⟩)
    clear h1 htl
    go_enter Try.func72, Try.ntmps72
    go_wp2_with (go_at_call 71; refine HB.out.mono ?_; rintro e w1 ⟨rfl, hc1, hg1⟩)
    go_ret2
    rw [hr.out.1, hr.out.2]
    exact ⟨rfl, hc1, hg1⟩
  · have e1 : (x.toList == [1]) = false := by rw [htl, beq_eq_false_iff_ne]; exact h1
    by_cases h0 : x.data.toList = [0]
    · have e2 : (x.toList == [0]) = true := by rw [htl, h0]; rfl
      have hr := Lib.hid (show goneB x = false ∧ goneK x = true by unfold goneB goneK; rw [h0]; exact ⟨rfl, rfl⟩)
      clear h1 h0 htl
      go_enter Try.func72, Try.ntmps72
      go_wp2_with (go_at_call 71; refine HB.out.mono ?_; rintro e w1 ⟨rfl, hc1, hg1⟩)
      go_ret2
      rw [hr.out.1, hr.out.2]
      exact ⟨rfl, hc1, hg1⟩
    · have e2 : (x.toList == [0]) = false := by rw [htl, beq_eq_false_iff_ne]; exact h0
      have hr := Lib.hid (show goneB x = false ∧ goneK x = false by
        unfold goneB goneK
        rw [beq_eq_false_iff_ne.2 h1, beq_eq_false_iff_ne.2 h0]; exact ⟨rfl, rfl⟩)
      clear h1 h0 htl
      go_enter Try.func72, Try.ntmps72
      go_wp2_with (go_at_call 71; refine HB.out.mono ?_; rintro e w1 ⟨rfl, hc1, hg1⟩)
      go_ret2
      rw [hr.out.1, hr.out.2]
      exact ⟨rfl, hc1, hg1⟩
end Go.Proofs.Ytkcbbcabfbkclaa

namespace Go.Proofs.Ytkcbbcabfbkclaa
open Go.RowKit
set_option linter.unusedVariables false
set_option linter.unnecessarySimpa false
set_option linter.unusedSimpArgs false
set_option maxRecDepth 100000
set_option linter.unusedSectionVars false

theorem txn_size : (Try.prog.info? 23).map (·.size) = some 3 := by kernel_rfl
theorem ver_size : (Try.prog.info? 26).map (·.size) = some 3 := by kernel_rfl
/-- What is left of a cursor behind a number. -/
def nxt (r : ByteArray × Bool) : ByteArray × Bool := (cUint r.1 r.2).2
theorem nxt_size (r : ByteArray × Bool) : (nxt r).1.size ≤ r.1.size := cUint_size r.1 r.2
theorem grown_row {w w' : World} {g P : Nat} {o : Obj} (hg : w.grownBy w' (some g)) (h : w.heap[P]? = some o) (hne : P ≠ g) : w'.heap[P]? = some o := by
  rw [hg.block P (Array.getElem?_eq_some_iff.1 h).1 (fun e => hne (by injection e))]; exact h
theorem grown_setRow {w : World} {g : Nat} {cs : Array Value} : w.grownBy (w.setRow g cs) (some g) := ⟨rfl, rfl, rfl, by simp, fun k _ hk => setRow_other w g k _ (fun e => hk (by rw [e]))⟩
/-- Changed: block g, and nothing else that was there ahead of w. -/
theorem grown_over {w w1 w2 : World} {g P : Nat} (h : w.grownBy w1 (some g)) (hg : w1.grownBy w2 (some P)) (hP : w.heap.size ≤ P) : w.grownBy w2 (some g) :=
  ⟨hg.os.trans h.os, hg.tape.trans h.tape, hg.output.trans h.output, Nat.le_trans h.size hg.size, fun k hk hkg => (hg.block k (Nat.lt_of_lt_of_le hk h.size) (fun e => by injection e with e; omega)).trans (h.block k hk hkg)⟩

set_option maxHeartbeats 2000000 in
theorem takeTxn_any (g : Nat) (r : ByteArray × Bool) (hs : r.1.size ≤ 1000000) (w : World) (h : CurAt w g r.1 r.2) :
    Calls Try.prog 40 #[.pointer (some ⟨g, 0, none⟩)] w fun e w' => e = .returned (.agg #[.int .i64 (cInt r.1 r.2 : Nat), .int .i64 (cInt (nxt r).1 (nxt r).2 : Nat), .int .i64 (cInt (nxt (nxt r)).1 (nxt (nxt r)).2 : Nat)]) ∧ CurTo g (nxt (nxt (nxt r))) w w' := by
  have hs1 := nxt_size r
  have hs2 := nxt_size (nxt r)
  have H1 := Lib.hid (fun W (hc : CurAt W g r.1 r.2) => takeInt_any g r.1 r.2 hs W hc)
  have H2 := Lib.hid (fun W (hc : CurAt W g (nxt r).1 (nxt r).2) => takeInt_any g (nxt r).1 (nxt r).2 (by omega) W hc)
  have H3 := Lib.hid (fun W (hc : CurAt W g (nxt (nxt r)).1 (nxt (nxt r)).2) => takeInt_any g (nxt (nxt r)).1 (nxt (nxt r)).2 (by omega) W hc)
  have hgl := h.lt
  obtain ⟨W1, hW1⟩ : ∃ W1, W1 = w.alloc (.cells #[.int .i64 0, .int .i64 0, .int .i64 0] 23) := ⟨_, rfl⟩
  obtain ⟨P, hP⟩ : ∃ P, P = w.heap.size := ⟨_, rfl⟩
  have hb1 : Below w.heap.size w W1 := by rw [hW1]; exact (Below.refl _ _).alloc (Nat.le_refl _) _
  have ROW1 := Lib.hid (show W1.heap[P]? = some (.cells #[.int .i64 0, .int .i64 0, .int .i64 0] 23 (0, 0)) by rw [hW1, hP]; exact heap_alloc_new w _)
  have HC1 := Lib.hid (H1.out W1 (h.kept hb1 hgl))
  have G1 := Lib.hid (grown_of_below (g := g) hb1)
  have hne := Lib.hid (show P ≠ g by omega)
  have hPz := Lib.hid (show w.heap.size ≤ P by omega)
  obtain ⟨a, ha⟩ : ∃ a, a = cInt r.1 r.2 := ⟨_, rfl⟩
  obtain ⟨b, hb⟩ : ∃ b, b = cInt (nxt r).1 (nxt r).2 := ⟨_, rfl⟩
  obtain ⟨c, hc⟩ : ∃ c, c = cInt (nxt (nxt r)).1 (nxt (nxt r)).2 := ⟨_, rfl⟩
  rw [← ha] at HC1 ⊢
  rw [← hb] at H2 ⊢
  rw [← hc] at H3 ⊢
  clear H1 hs hs1 hs2 h ha hb hc hb1
  go_enter Try.func40, Try.ntmps40
  go_upto_region 1 with fail
  rw [← hW1, ← hP]
  clear hW1 hP
  go_upto_region 2 with (go_at_call 37; refine HC1.out.mono ?_; rintro e w2 ⟨rfl, hc2, hg2⟩)
  have HC2 := Lib.hid (H2.out _ hc2)
  have ROW2 := Lib.hid (grown_row hg2 ROW1.out hne.out)
  have G2 := Lib.hid (grownBy_trans G1.out hg2)
  clear hc2 hg2 HC1 H2 ROW1 G1
  go_upto_region 3 with (go_at_call 37; refine HC2.out.mono ?_; rintro e w3 ⟨rfl, hc3, hg3⟩)
  have HC3 := Lib.hid (H3.out _ hc3)
  have ROW3 := Lib.hid (grown_row hg3 ROW2.out hne.out)
  have G3 := Lib.hid (grownBy_trans G2.out hg3)
  clear hc3 hg3 HC2 H3 ROW2 G2
  go_upto_region 4 with (go_at_call 37; refine HC3.out.mono ?_; rintro e w4 ⟨rfl, hc4, hg4⟩)
  have ROW4 := Lib.hid (grown_row hg4 ROW3.out hne.out)
  have G4 := Lib.hid (grownBy_trans G3.out hg4)
  have C4 := Lib.hid hc4
  clear hc4 hg4 HC3 ROW3 G3
  go_wp2_with (refine wpList_store_row rfl 23 _ _ rfl P #[.int .i64 a, .int .i64 b, .int .i64 c] rfl rfl 23 #[.int .i64 0, .int .i64 0, .int .i64 0] ROW4.out txn_size rfl (by simp [Value.oneCell']) ?_)
  refine bodyPost_ret (results_cell_row rfl _ _ P 23 #[.int .i64 a, .int .i64 b, .int .i64 c] (0, 0) _ rfl (setRow_heap _ _ _ _ _ _ ROW4.out) Try.underlying23 rfl txn_size) rfl ⟨rfl, ?_, grown_over G4.out grown_setRow hPz.out⟩
  have := C4.out
  unfold CurAt at this ⊢
  rw [setRow_other _ _ _ _ (Ne.symm hne.out)]
  exact this

def byt (r : ByteArray × Bool) : ByteArray := (cBytes r.1 r.2 1).1
def bytT (r : ByteArray × Bool) : ByteArray × Bool := (cBytes r.1 r.2 1).2
def rst (r : ByteArray × Bool) : ByteArray := (cBytes r.1 r.2 r.1.size).1
def rstT (r : ByteArray × Bool) : ByteArray × Bool := (cBytes r.1 r.2 r.1.size).2
theorem bytT_size (r : ByteArray × Bool) : (bytT r).1.size ≤ r.1.size := (cBytes_size r.1 r.2 1).2
theorem rst_size (r : ByteArray × Bool) : (rst r).size ≤ r.1.size := (cBytes_size r.1 r.2 r.1.size).1

set_option maxHeartbeats 2000000 in
theorem takeVersion_any (g : Nat) (r : ByteArray × Bool) (hs : r.1.size ≤ 1000000) (w : World) (h : CurAt w g r.1 r.2) :
    Calls Try.prog 48 #[.pointer (some ⟨g, 0, none⟩)] w fun e w' =>
      e = .returned (.tuple #[.agg #[.int .u64 ((cUint r.1 r.2).1 : Nat), .bool (goneB (byt (nxt r))), .string (rst (bytT (nxt r)))], .bool (goneK (byt (nxt r)))]) ∧ CurTo g (rstT (bytT (nxt r))) w w' := by
  have hs1 := nxt_size r
  have hs2 := bytT_size (nxt r)
  have hmx : r.1.size ≤ maxLen := by unfold maxLen; omega
  have H1 := Lib.hid (fun W (hc : CurAt W g r.1 r.2) => cur_uint g r.1 r.2 W hmx hc)
  have H2 := Lib.hid (fun W (hc : CurAt W g (nxt r).1 (nxt r).2) => takeGone_any g (nxt r).1 (nxt r).2 (by omega) W hc)
  have H3 := Lib.hid (fun W (hc : CurAt W g (bytT (nxt r)).1 (bytT (nxt r)).2) => takeRest_any g (bytT (nxt r)).1 (bytT (nxt r)).2 (by omega) W hc)
  have hgl := h.lt
  obtain ⟨W1, hW1⟩ : ∃ W1, W1 = w.alloc (.cells #[.int .u64 0, .bool false, .string ⟨#[]⟩] 26) := ⟨_, rfl⟩
  obtain ⟨P, hP⟩ : ∃ P, P = w.heap.size := ⟨_, rfl⟩
  have hb1 : Below w.heap.size w W1 := by rw [hW1]; exact (Below.refl _ _).alloc (Nat.le_refl _) _
  have ROW1 := Lib.hid (show W1.heap[P]? = some (.cells #[.int .u64 0, .bool false, .string ⟨#[]⟩] 26 (0, 0)) by rw [hW1, hP]; exact heap_alloc_new w _)
  have HC1 := Lib.hid (H1.out W1 (h.kept hb1 hgl))
  have G1 := Lib.hid (grown_of_below (g := g) hb1)
  have hne := Lib.hid (show P ≠ g by omega)
  have hPz := Lib.hid (show w.heap.size ≤ P by omega)
  obtain ⟨n, hn⟩ : ∃ n, n = (cUint r.1 r.2).1 := ⟨_, rfl⟩
  obtain ⟨y, hy⟩ : ∃ y, y = byt (nxt r) := ⟨_, rfl⟩
  obtain ⟨v, hv⟩ : ∃ v, v = rst (bytT (nxt r)) := ⟨_, rfl⟩
  have H2' : Hid (∀ W, CurAt W g (nxt r).1 (nxt r).2 → Calls Try.prog 72 #[.pointer (some ⟨g, 0, none⟩)] W fun e w' => e = .returned (.tuple #[.bool (goneB y), .bool (goneK y)]) ∧ CurTo g (bytT (nxt r)) W w') := Lib.hid (fun W hc => by rw [hy]; exact H2.out W hc)
  have H3' : Hid (∀ W, CurAt W g (bytT (nxt r)).1 (bytT (nxt r)).2 → Calls Try.prog 45 #[.pointer (some ⟨g, 0, none⟩)] W fun e w' => e = .returned (.string v) ∧ CurTo g (rstT (bytT (nxt r))) W w') := Lib.hid (fun W hc => by rw [hv]; exact H3.out W hc)
  have HC1' : Hid (Calls Try.prog 42 #[.pointer (some ⟨g, 0, none⟩)] W1 fun e w' => e = .returned (.int .u64 (n : Nat)) ∧ CurTo g (nxt r) W1 w') := Lib.hid (by rw [hn]; exact HC1.out)
  rw [← hn, ← hy, ← hv]
  clear H1 H2 H3 HC1 hs hs1 hs2 h hn hy hv hb1 hmx
  obtain ⟨gb, hgb⟩ : ∃ gb, gb = goneB y := ⟨_, rfl⟩
  obtain ⟨gk, hgk⟩ : ∃ gk, gk = goneK y := ⟨_, rfl⟩
  rw [← hgb, ← hgk] at H2' ⊢
  clear hgb hgk
  go_enter Try.func48, Try.ntmps48
  go_upto_region 1 with fail
  rw [← hW1, ← hP]
  clear hW1 hP
  go_upto_region 2 with (go_at_call 42; refine HC1'.out.mono ?_; rintro e w2 ⟨rfl, hc2, hg2⟩)
  have HC2 := Lib.hid (H2'.out _ hc2)
  have ROW2 := Lib.hid (grown_row hg2 ROW1.out hne.out)
  have G2 := Lib.hid (grownBy_trans G1.out hg2)
  clear hc2 hg2 HC1' H2' ROW1 G1
  go_upto_region 3 with (go_at_call 72; refine HC2.out.mono ?_; rintro e w3 ⟨rfl, hc3, hg3⟩)
  have HC3 := Lib.hid (H3'.out _ hc3)
  have ROW3 := Lib.hid (grown_row hg3 ROW2.out hne.out)
  have G3 := Lib.hid (grownBy_trans G2.out hg3)
  clear hc3 hg3 HC2 H3' ROW2 G2
  go_wp2_with (first
    | (go_at_call 45; refine HC3.out.mono ?_; rintro e w4 ⟨rfl, hc4, hg4⟩; have ROW4 := Lib.hid (grown_row hg4 ROW3.out hne.out); have G4 := Lib.hid (grownBy_trans G3.out hg4); have C4 := Lib.hid hc4; clear hc4 hg4 HC3 ROW3 G3)
    | (refine wpList_store_row rfl 26 _ _ rfl P #[.int .u64 n, .bool gb, .string v] rfl rfl 26 #[.int .u64 0, .bool false, .string ⟨#[]⟩] ROW4.out ver_size rfl (by simp [Value.oneCell']) ?_))
  refine bodyPost_ret (results_row_tmp rfl _ _ P 26 #[.int .u64 n, .bool gb, .string v] (0, 0) _ _ rfl (setRow_heap _ _ _ _ _ _ ROW4.out) Try.underlying26 rfl ver_size rfl) rfl ⟨rfl, ?_, grown_over G4.out grown_setRow hPz.out⟩
  have := C4.out
  unfold CurAt at this ⊢
  rw [setRow_other _ _ _ _ (Ne.symm hne.out)]
  exact this
end Go.Proofs.Ytkcbbcabfbkclaa
