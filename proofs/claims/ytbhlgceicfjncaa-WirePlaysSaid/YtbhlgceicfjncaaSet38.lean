/-
  Joined: MsgTake, MsgTakeB, MsgTakeW.
-/
import Derived.Test.YtbhlgceicfjncaaSet37
import Derived.Test.YtbhlgceicfjncaaShelf
import Derived.Laws.Tables
namespace Go.Proofs.Ytbhlgceicfjncaa
open Go.RowKit
set_option linter.unusedVariables false
set_option linter.unnecessarySimpa false
set_option linter.unusedSimpArgs false
set_option maxRecDepth 100000
set_option linter.unusedSectionVars false

theorem clone_anyM (s : ByteArray) (w : World) (h : s.size ≤ 281474976710656) : Calls Try.prog 101 #[.string s] w fun e w' => e = .returned (.string s) ∧ Below w.heap.size w w' := by
  have H := Lib.hid (Try.stringslite_Clone s w h)
  go_enter Try.func101, Try.ntmps101
  go_wp2_with (go_at_call 104; refine H.out.mono ?_; rintro e w1 ⟨rfl, hb1⟩)
  go_ret
  exact ⟨rfl, hb1⟩

/-! ### What is left is never more -/
theorem ex_size (s : ByteArray) (i j : Nat) : (s.extract i j).size ≤ s.size := by
  rw [ByteArray.size_extract]; omega
theorem cUint_sizeM (s : ByteArray) (bad : Bool) : (cUint s bad).2.1.size ≤ s.size := by
  unfold cUint
  split
  · exact Nat.le_refl _
  · split
    · exact Nat.le_refl _
    · exact ex_size _ _ _
theorem cBytes_size (s : ByteArray) (bad : Bool) (n : Int) : (cBytes s bad n).1.size ≤ s.size ∧ (cBytes s bad n).2.1.size ≤ s.size := by
  unfold cBytes
  split
  · exact ⟨Nat.zero_le _, Nat.le_refl _⟩
  · exact ⟨ex_size _ _ _, ex_size _ _ _⟩
theorem cText_size (s : ByteArray) (bad : Bool) : (cText s bad).1.size ≤ s.size ∧ (cText s bad).2.1.size ≤ s.size := by
  unfold cText
  split
  · exact ⟨Nat.zero_le _, Nat.le_refl _⟩
  · exact ⟨Nat.le_trans (ex_size _ _ _) (ex_size _ _ _), Nat.le_trans (ex_size _ _ _) (ex_size _ _ _)⟩
theorem cUint_lt (s : ByteArray) (bad : Bool) : (cUint s bad).1 < 18446744073709551616 := by
  unfold cUint
  split
  · omega
  · split
    · omega
    · show tkN s.data.toList < _
      unfold tkN
      cases h : tk s.data.toList with
      | none => simp
      | some p => exact (tk_some (n := p.1) (k := p.2) h).2.1

/-- A cursor, and what a call leaves of it. -/
def CurTo (g : Nat) (r : ByteArray × Bool) (w w' : World) : Prop := CurAt w' g r.1 r.2 ∧ w.grownBy w' (some g)
def cInt (s : ByteArray) (bad : Bool) : Nat := min (cUint s bad).1 2147483648
theorem cInt_le (s : ByteArray) (bad : Bool) : cInt s bad ≤ 2147483648 := Nat.min_le_right _ _

section
variable (g : Nat) (s : ByteArray) (bad : Bool) (hs : s.size ≤ 1000000) (w : World) (h : CurAt w g s bad)
include hs h
theorem maxOK : s.size ≤ maxLen := by unfold maxLen; omega

set_option maxHeartbeats 1000000 in
theorem takeInt_any : Calls Try.prog 61 #[.pointer (some ⟨g, 0, none⟩)] w fun e w' => e = .returned (.int .i64 (cInt s bad : Nat)) ∧ CurTo g (cUint s bad).2 w w' := by
  have HU := Lib.hid (cur_uint g s bad w (maxOK g s bad hs w h) h)
  obtain ⟨n, hn⟩ : ∃ n, n = (cUint s bad).1 := ⟨_, rfl⟩
  have hlt := cUint_lt s bad
  have hfin : cInt s bad = min n 2147483648 := by rw [hn]; rfl
  rw [← hn] at hlt HU
  rw [hfin]
  clear hfin hn hs h
  have hN := Lib.hid hlt
  have hr := Lib.hid (show min (n : Int) 2147483648 = ((min n 2147483648 : Nat) : Int) by omega)
  have e1 : IntKind.i64.wrap (min (n : Int) 2147483648) = min (n : Int) 2147483648 := by simp [IntKind.wrap, IntKind.bits, IntKind.signed]; omega
  go_enter Try.func61, Try.ntmps61
  go_wp2_with (go_at_call 64; refine HU.out.mono ?_; rintro e w1 ⟨rfl, hc1, hg1⟩)
  all_goals
    go_ret
    exact ⟨ret_int (by omega), hc1, hg1⟩

set_option maxHeartbeats 1000000 in
theorem takeRest_any : Calls Try.prog 86 #[.pointer (some ⟨g, 0, none⟩)] w fun e w' => e = .returned (.string (cBytes s bad s.size).1) ∧ CurTo g (cBytes s bad s.size).2 w w' := by
  have HL := Lib.hid (left_any g s bad w (maxOK g s bad hs w h) h)
  have HB := Lib.hid (cur_bytes g s bad s.size w (maxOK g s bad hs w h) h)
  have hz := cBytes_size s bad s.size
  obtain ⟨R, hR⟩ : ∃ R, R = cBytes s bad s.size := ⟨_, rfl⟩
  rw [← hR] at HB hz ⊢
  obtain ⟨x, y, z⟩ := R
  simp only at HB hz ⊢
  have HC := Lib.hid (fun W => clone_anyM x W (by omega))
  clear hR hz hs h
  go_enter Try.func86, Try.ntmps86
  go_wp2_with (first
    | (go_at_call 63; refine HL.out.mono ?_; rintro e w1 ⟨rfl, rfl⟩)
    | (go_at_call 78; refine HB.out.mono ?_; rintro e w1 ⟨rfl, hc1, hg1⟩)
    | (go_at_call 101; refine (HC.out _).mono ?_; rintro e w2 ⟨rfl, hb2⟩))
  go_ret
  exact ⟨rfl, hc1.kept hb2 hc1.lt, grownBy_trans hg1 (grown_of_belowM hb2)⟩

set_option maxHeartbeats 1000000 in
theorem takeText_any : Calls Try.prog 103 #[.pointer (some ⟨g, 0, none⟩)] w fun e w' => e = .returned (.string (cText s bad).1) ∧ CurTo g (cText s bad).2 w w' := by
  have HB := Lib.hid (cur_text g s bad w (maxOK g s bad hs w h) h)
  have hz := cText_size s bad
  obtain ⟨R, hR⟩ : ∃ R, R = cText s bad := ⟨_, rfl⟩
  rw [← hR] at HB hz ⊢
  obtain ⟨x, y, z⟩ := R
  simp only at HB hz ⊢
  have HC := Lib.hid (fun W => clone_anyM x W (by omega))
  clear hR hz hs h
  go_enter Try.func103, Try.ntmps103
  go_wp2_with (first
    | (go_at_call 65; refine HB.out.mono ?_; rintro e w1 ⟨rfl, hc1, hg1⟩)
    | (go_at_call 101; refine (HC.out _).mono ?_; rintro e w2 ⟨rfl, hb2⟩))
  go_ret
  exact ⟨rfl, hc1.kept hb2 hc1.lt, grownBy_trans hg1 (grown_of_belowM hb2)⟩
end

/-- Whether something is gone, and whether that is told. -/
def goneB (b : ByteArray) : Bool := b.data.toList == [1]
def goneK (b : ByteArray) : Bool := b.data.toList == [1] || b.data.toList == [0]

set_option maxHeartbeats 1000000 in
theorem takeGone_any (g : Nat) (s : ByteArray) (bad : Bool) (hs : s.size ≤ 1000000) (w : World) (h : CurAt w g s bad) :
    Calls Try.prog 102 #[.pointer (some ⟨g, 0, none⟩)] w fun e w' => e = .returned (.tuple #[.bool (goneB (cBytes s bad 1).1), .bool (goneK (cBytes s bad 1).1)]) ∧ CurTo g (cBytes s bad 1).2 w w' := by
  have HB := Lib.hid (cur_bytes g s bad 1 w (maxOK g s bad hs w h) h)
  obtain ⟨R, hR⟩ : ∃ R, R = cBytes s bad 1 := ⟨_, rfl⟩
  rw [← hR] at HB ⊢
  obtain ⟨x, y, z⟩ := R
  simp only at HB ⊢
  have htl : x.toList = x.data.toList := Lib.toList_data x
  clear hR hs h
  by_cases h1 : x.data.toList = [1]
  · have e1 : (x.toList == [1]) = true := by rw [htl, h1]; rfl
    have hr := Lib.hid (show goneB x = true ∧ goneK x = true by unfold goneB goneK; rw [h1]; exact ⟨rfl, rfl⟩)
    clear h1 htl
    go_enter Try.func102, Try.ntmps102
    go_wp2_with (go_at_call 78; refine HB.out.mono ?_; rintro e w1 ⟨rfl, hc1, hg1⟩)
    go_ret2
    rw [hr.out.1, hr.out.2]
    exact ⟨rfl, hc1, hg1⟩
  · have e1 : (x.toList == [1]) = false := by rw [htl, beq_eq_false_iff_ne]; exact h1
    by_cases h0 : x.data.toList = [0]
    · have e2 : (x.toList == [0]) = true := by rw [htl, h0]; rfl
      have hr := Lib.hid (show goneB x = false ∧ goneK x = true by unfold goneB goneK; rw [h0]; exact ⟨rfl, rfl⟩)
      clear h1 h0 htl
      go_enter Try.func102, Try.ntmps102
      go_wp2_with (go_at_call 78; refine HB.out.mono ?_; rintro e w1 ⟨rfl, hc1, hg1⟩)
      go_ret2
      rw [hr.out.1, hr.out.2]
      exact ⟨rfl, hc1, hg1⟩
    · have e2 : (x.toList == [0]) = false := by rw [htl, beq_eq_false_iff_ne]; exact h0
      have hr := Lib.hid (show goneB x = false ∧ goneK x = false by
        unfold goneB goneK
        rw [beq_eq_false_iff_ne.2 h1, beq_eq_false_iff_ne.2 h0]; exact ⟨rfl, rfl⟩)
      clear h1 h0 htl
      go_enter Try.func102, Try.ntmps102
      go_wp2_with (go_at_call 78; refine HB.out.mono ?_; rintro e w1 ⟨rfl, hc1, hg1⟩)
      go_ret2
      rw [hr.out.1, hr.out.2]
      exact ⟨rfl, hc1, hg1⟩
end Go.Proofs.Ytbhlgceicfjncaa

namespace Go.Proofs.Ytbhlgceicfjncaa
open Go.RowKit
set_option linter.unusedVariables false
set_option linter.unnecessarySimpa false
set_option linter.unusedSimpArgs false
set_option maxRecDepth 100000
set_option linter.unusedSectionVars false

theorem txn_size : (Try.prog.info? 32).map (·.size) = some 3 := by kernel_rfl
theorem ver_size : (Try.prog.info? 35).map (·.size) = some 3 := by kernel_rfl
/-- What is left of a cursor behind a number. -/
def nxtM (r : ByteArray × Bool) : ByteArray × Bool := (cUint r.1 r.2).2
theorem nxt_size (r : ByteArray × Bool) : (nxtM r).1.size ≤ r.1.size := cUint_sizeM r.1 r.2
theorem grown_row {w w' : World} {g P : Nat} {o : Obj} (hg : w.grownBy w' (some g)) (h : w.heap[P]? = some o) (hne : P ≠ g) : w'.heap[P]? = some o := by
  rw [hg.block P (Array.getElem?_eq_some_iff.1 h).1 (fun e => hne (by injection e))]; exact h
theorem grown_setRowM {w : World} {g : Nat} {cs : Array Value} : w.grownBy (w.setRow g cs) (some g) := ⟨rfl, rfl, rfl, by simp, fun k _ hk => setRow_other w g k _ (fun e => hk (by rw [e]))⟩
/-- Changed: block g, and nothing else that was there ahead of w. -/
theorem grown_overM {w w1 w2 : World} {g P : Nat} (h : w.grownBy w1 (some g)) (hg : w1.grownBy w2 (some P)) (hP : w.heap.size ≤ P) : w.grownBy w2 (some g) :=
  ⟨hg.os.trans h.os, hg.tape.trans h.tape, hg.output.trans h.output, Nat.le_trans h.size hg.size, fun k hk hkg => (hg.block k (Nat.lt_of_lt_of_le hk h.size) (fun e => by injection e with e; omega)).trans (h.block k hk hkg)⟩

set_option maxHeartbeats 2000000 in
theorem takeTxn_any (g : Nat) (r : ByteArray × Bool) (hs : r.1.size ≤ 1000000) (w : World) (h : CurAt w g r.1 r.2) :
    Calls Try.prog 82 #[.pointer (some ⟨g, 0, none⟩)] w fun e w' => e = .returned (.agg #[.int .i64 (cInt r.1 r.2 : Nat), .int .i64 (cInt (nxtM r).1 (nxtM r).2 : Nat), .int .i64 (cInt (nxtM (nxtM r)).1 (nxtM (nxtM r)).2 : Nat)]) ∧ CurTo g (nxtM (nxtM (nxtM r))) w w' := by
  have hs1 := nxt_size r
  have hs2 := nxt_size (nxtM r)
  have H1 := Lib.hid (fun W (hc : CurAt W g r.1 r.2) => takeInt_any g r.1 r.2 hs W hc)
  have H2 := Lib.hid (fun W (hc : CurAt W g (nxtM r).1 (nxtM r).2) => takeInt_any g (nxtM r).1 (nxtM r).2 (by omega) W hc)
  have H3 := Lib.hid (fun W (hc : CurAt W g (nxtM (nxtM r)).1 (nxtM (nxtM r)).2) => takeInt_any g (nxtM (nxtM r)).1 (nxtM (nxtM r)).2 (by omega) W hc)
  have hgl := h.lt
  obtain ⟨W1, hW1⟩ : ∃ W1, W1 = w.alloc (.cells #[.int .i64 0, .int .i64 0, .int .i64 0] 32) := ⟨_, rfl⟩
  obtain ⟨P, hP⟩ : ∃ P, P = w.heap.size := ⟨_, rfl⟩
  have hb1 : Below w.heap.size w W1 := by rw [hW1]; exact (Below.refl _ _).alloc (Nat.le_refl _) _
  have ROW1 := Lib.hid (show W1.heap[P]? = some (.cells #[.int .i64 0, .int .i64 0, .int .i64 0] 32 (0, 0)) by rw [hW1, hP]; exact heap_alloc_new w _)
  have HC1 := Lib.hid (H1.out W1 (h.kept hb1 hgl))
  have G1 := Lib.hid (grown_of_belowM (g := g) hb1)
  have hne := Lib.hid (show P ≠ g by omega)
  have hPz := Lib.hid (show w.heap.size ≤ P by omega)
  obtain ⟨a, ha⟩ : ∃ a, a = cInt r.1 r.2 := ⟨_, rfl⟩
  obtain ⟨b, hb⟩ : ∃ b, b = cInt (nxtM r).1 (nxtM r).2 := ⟨_, rfl⟩
  obtain ⟨c, hc⟩ : ∃ c, c = cInt (nxtM (nxtM r)).1 (nxtM (nxtM r)).2 := ⟨_, rfl⟩
  rw [← ha] at HC1 ⊢
  rw [← hb] at H2 ⊢
  rw [← hc] at H3 ⊢
  clear H1 hs hs1 hs2 h ha hb hc hb1
  go_enter Try.func82, Try.ntmps82
  go_upto_region 1 with fail
  rw [← hW1, ← hP]
  clear hW1 hP
  go_upto_region 2 with (go_at_call 61; refine HC1.out.mono ?_; rintro e w2 ⟨rfl, hc2, hg2⟩)
  have HC2 := Lib.hid (H2.out _ hc2)
  have ROW2 := Lib.hid (grown_row hg2 ROW1.out hne.out)
  have G2 := Lib.hid (grownBy_trans G1.out hg2)
  clear hc2 hg2 HC1 H2 ROW1 G1
  go_upto_region 3 with (go_at_call 61; refine HC2.out.mono ?_; rintro e w3 ⟨rfl, hc3, hg3⟩)
  have HC3 := Lib.hid (H3.out _ hc3)
  have ROW3 := Lib.hid (grown_row hg3 ROW2.out hne.out)
  have G3 := Lib.hid (grownBy_trans G2.out hg3)
  clear hc3 hg3 HC2 H3 ROW2 G2
  go_upto_region 4 with (go_at_call 61; refine HC3.out.mono ?_; rintro e w4 ⟨rfl, hc4, hg4⟩)
  have ROW4 := Lib.hid (grown_row hg4 ROW3.out hne.out)
  have G4 := Lib.hid (grownBy_trans G3.out hg4)
  have C4 := Lib.hid hc4
  clear hc4 hg4 HC3 ROW3 G3
  go_wp2_with (refine wpList_store_row rfl 32 _ _ rfl P #[.int .i64 a, .int .i64 b, .int .i64 c] rfl rfl 32 #[.int .i64 0, .int .i64 0, .int .i64 0] ROW4.out txn_size rfl (by simp [Value.oneCell']) ?_)
  refine bodyPost_ret (results_cell_row rfl _ _ P 32 #[.int .i64 a, .int .i64 b, .int .i64 c] (0, 0) _ rfl (setRow_heap _ _ _ _ _ _ ROW4.out) Try.underlying32 rfl txn_size) rfl ⟨rfl, ?_, grown_overM G4.out grown_setRowM hPz.out⟩
  have := C4.out
  unfold CurAt at this ⊢
  rw [setRow_other _ _ _ _ (Ne.symm hne.out)]
  exact this

def byt (r : ByteArray × Bool) : ByteArray := (cBytes r.1 r.2 1).1
def bytT (r : ByteArray × Bool) : ByteArray × Bool := (cBytes r.1 r.2 1).2
def rst (r : ByteArray × Bool) : ByteArray := (cBytes r.1 r.2 r.1.size).1
def rstT (r : ByteArray × Bool) : ByteArray × Bool := (cBytes r.1 r.2 r.1.size).2
theorem bytT_size (r : ByteArray × Bool) : (bytT r).1.size ≤ r.1.size := (cBytes_size r.1 r.2 1).2
theorem rst_size (r : ByteArray × Bool) : (rst r).size ≤ r.1.size := (cBytes_size r.1 r.2 r.1.size).1

set_option maxHeartbeats 2000000 in
theorem takeVersion_any (g : Nat) (r : ByteArray × Bool) (hs : r.1.size ≤ 1000000) (w : World) (h : CurAt w g r.1 r.2) :
    Calls Try.prog 89 #[.pointer (some ⟨g, 0, none⟩)] w fun e w' =>
      e = .returned (.tuple #[.agg #[.int .u64 ((cUint r.1 r.2).1 : Nat), .bool (goneB (byt (nxtM r))), .string (rst (bytT (nxtM r)))], .bool (goneK (byt (nxtM r)))]) ∧ CurTo g (rstT (bytT (nxtM r))) w w' := by
  have hs1 := nxt_size r
  have hs2 := bytT_size (nxtM r)
  have hmx : r.1.size ≤ maxLen := by unfold maxLen; omega
  have H1 := Lib.hid (fun W (hc : CurAt W g r.1 r.2) => cur_uint g r.1 r.2 W hmx hc)
  have H2 := Lib.hid (fun W (hc : CurAt W g (nxtM r).1 (nxtM r).2) => takeGone_any g (nxtM r).1 (nxtM r).2 (by omega) W hc)
  have H3 := Lib.hid (fun W (hc : CurAt W g (bytT (nxtM r)).1 (bytT (nxtM r)).2) => takeRest_any g (bytT (nxtM r)).1 (bytT (nxtM r)).2 (by omega) W hc)
  have hgl := h.lt
  obtain ⟨W1, hW1⟩ : ∃ W1, W1 = w.alloc (.cells #[.int .u64 0, .bool false, .string ⟨#[]⟩] 35) := ⟨_, rfl⟩
  obtain ⟨P, hP⟩ : ∃ P, P = w.heap.size := ⟨_, rfl⟩
  have hb1 : Below w.heap.size w W1 := by rw [hW1]; exact (Below.refl _ _).alloc (Nat.le_refl _) _
  have ROW1 := Lib.hid (show W1.heap[P]? = some (.cells #[.int .u64 0, .bool false, .string ⟨#[]⟩] 35 (0, 0)) by rw [hW1, hP]; exact heap_alloc_new w _)
  have HC1 := Lib.hid (H1.out W1 (h.kept hb1 hgl))
  have G1 := Lib.hid (grown_of_belowM (g := g) hb1)
  have hne := Lib.hid (show P ≠ g by omega)
  have hPz := Lib.hid (show w.heap.size ≤ P by omega)
  obtain ⟨n, hn⟩ : ∃ n, n = (cUint r.1 r.2).1 := ⟨_, rfl⟩
  obtain ⟨y, hy⟩ : ∃ y, y = byt (nxtM r) := ⟨_, rfl⟩
  obtain ⟨v, hv⟩ : ∃ v, v = rst (bytT (nxtM r)) := ⟨_, rfl⟩
  have H2' : Hid (∀ W, CurAt W g (nxtM r).1 (nxtM r).2 → Calls Try.prog 102 #[.pointer (some ⟨g, 0, none⟩)] W fun e w' => e = .returned (.tuple #[.bool (goneB y), .bool (goneK y)]) ∧ CurTo g (bytT (nxtM r)) W w') := Lib.hid (fun W hc => by rw [hy]; exact H2.out W hc)
  have H3' : Hid (∀ W, CurAt W g (bytT (nxtM r)).1 (bytT (nxtM r)).2 → Calls Try.prog 86 #[.pointer (some ⟨g, 0, none⟩)] W fun e w' => e = .returned (.string v) ∧ CurTo g (rstT (bytT (nxtM r))) W w') := Lib.hid (fun W hc => by rw [hv]; exact H3.out W hc)
  have HC1' : Hid (Calls Try.prog 64 #[.pointer (some ⟨g, 0, none⟩)] W1 fun e w' => e = .returned (.int .u64 (n : Nat)) ∧ CurTo g (nxtM r) W1 w') := Lib.hid (by rw [hn]; exact HC1.out)
  rw [← hn, ← hy, ← hv]
  clear H1 H2 H3 HC1 hs hs1 hs2 h hn hy hv hb1 hmx
  obtain ⟨gb, hgb⟩ : ∃ gb, gb = goneB y := ⟨_, rfl⟩
  obtain ⟨gk, hgk⟩ : ∃ gk, gk = goneK y := ⟨_, rfl⟩
  rw [← hgb, ← hgk] at H2' ⊢
  clear hgb hgk
  go_enter Try.func89, Try.ntmps89
  go_upto_region 1 with fail
  rw [← hW1, ← hP]
  clear hW1 hP
  go_upto_region 2 with (go_at_call 64; refine HC1'.out.mono ?_; rintro e w2 ⟨rfl, hc2, hg2⟩)
  have HC2 := Lib.hid (H2'.out _ hc2)
  have ROW2 := Lib.hid (grown_row hg2 ROW1.out hne.out)
  have G2 := Lib.hid (grownBy_trans G1.out hg2)
  clear hc2 hg2 HC1' H2' ROW1 G1
  go_upto_region 3 with (go_at_call 102; refine HC2.out.mono ?_; rintro e w3 ⟨rfl, hc3, hg3⟩)
  have HC3 := Lib.hid (H3'.out _ hc3)
  have ROW3 := Lib.hid (grown_row hg3 ROW2.out hne.out)
  have G3 := Lib.hid (grownBy_trans G2.out hg3)
  clear hc3 hg3 HC2 H3' ROW2 G2
  go_wp2_with (first
    | (go_at_call 86; refine HC3.out.mono ?_; rintro e w4 ⟨rfl, hc4, hg4⟩; have ROW4 := Lib.hid (grown_row hg4 ROW3.out hne.out); have G4 := Lib.hid (grownBy_trans G3.out hg4); have C4 := Lib.hid hc4; clear hc4 hg4 HC3 ROW3 G3)
    | (refine wpList_store_row rfl 35 _ _ rfl P #[.int .u64 n, .bool gb, .string v] rfl rfl 35 #[.int .u64 0, .bool false, .string ⟨#[]⟩] ROW4.out ver_size rfl (by simp [Value.oneCell']) ?_))
  refine bodyPost_ret (results_row_tmp rfl _ _ P 35 #[.int .u64 n, .bool gb, .string v] (0, 0) _ _ rfl (setRow_heap _ _ _ _ _ _ ROW4.out) Try.underlying35 rfl ver_size rfl) rfl ⟨rfl, ?_, grown_overM G4.out grown_setRowM hPz.out⟩
  have := C4.out
  unfold CurAt at this ⊢
  rw [setRow_other _ _ _ _ (Ne.symm hne.out)]
  exact this
end Go.Proofs.Ytbhlgceicfjncaa

namespace Go.Proofs.Ytbhlgceicfjncaa
open Go.RowKit
set_option linter.unusedVariables false
set_option linter.unnecessarySimpa false
set_option linter.unusedSimpArgs false
set_option maxRecDepth 100000
set_option linter.unusedSectionVars false

theorem writeInfo : (Try.prog.info? 64).map (fun i => (i.zero, i.size, i.bytes)) = some (some (.agg #[.string ⟨#[]⟩, .bool false, .string ⟨#[]⟩]), 3, 40) := by kernel_rfl
def tx (r : ByteArray × Bool) : ByteArray := (cText r.1 r.2).1
def txT (r : ByteArray × Bool) : ByteArray × Bool := (cText r.1 r.2).2
theorem txT_size (r : ByteArray × Bool) : (txT r).1.size ≤ r.1.size := (cText_size r.1 r.2).2
/-- Writes off a cursor: whether all are there, which, what is left. -/
def cWA : List Wr → Nat → ByteArray × Bool → Bool × List Wr × (ByteArray × Bool)
  | acc, 0, r => (true, acc, r)
  | acc, n + 1, r => if goneK (byt r) = false then (false, [], bytT r) else cWA (acc ++ [⟨tx (bytT r), goneB (byt r), tx (txT (bytT r))⟩]) n (txT (txT (bytT r)))
def cnt (r : ByteArray × Bool) : Nat := min (cUint r.1 r.2).1 9
def cWr (r : ByteArray × Bool) : Bool × List Wr × (ByteArray × Bool) := cWA [] (cnt r) (nxtM r)
def wCells (l : List Wr) : List Value := l.flatMap fun z => [.string z.key, .bool z.gone, .string z.val]
theorem wCells_len (l : List Wr) : (wCells l).length = l.length * 3 := by
  induction l with
  | nil => rfl
  | cons x l ih =>
    have e : wCells (x :: l) = [.string x.key, .bool x.gone, .string x.val] ++ wCells l := rfl
    have e3 : ([.string x.key, .bool x.gone, .string x.val] : List Value).length = 3 := rfl
    rw [e, List.length_append, ih, e3, List.length_cons]; omega
theorem wCells_snoc (l : List Wr) (z : Wr) : wCells l ++ [.string z.key, .bool z.gone, .string z.val] = wCells (l ++ [z]) := by
  unfold wCells
  rw [List.flatMap_append]
  simp
theorem wCells_at : ∀ (l : List Wr) (j k : Nat), k < 3 → (wCells l)[j * 3 + k]? = (l[j]?).bind fun z => ([.string z.key, .bool z.gone, .string z.val] : List Value)[k]?
  | [], j, k, hk => by simp [wCells]
  | x :: l, 0, k, hk => by
    unfold wCells
    rw [List.flatMap_cons, List.getElem?_append_left (by show 0 * 3 + k < 3; omega)]
    simp
  | x :: l, j + 1, k, hk => by
    have ih := wCells_at l j k hk
    unfold wCells at *
    rw [List.flatMap_cons, List.getElem?_append_right (by show 3 ≤ _; omega)]
    rw [show (j + 1) * 3 + k - ([.string x.key, .bool x.gone, .string x.val] : List Value).length = j * 3 + k by show (j + 1) * 3 + k - 3 = _; omega]
    rw [ih]
    simp
theorem wsAt_own {w : World} {B e : Nat} {v : Value} {l : List Wr} (h : w.ownsRow B e 3 v l.length (wCells l)) : WsAt w v l := by
  rcases h.2 with ⟨rfl, h0⟩ | ⟨g, cap, cur, rfl, hB, hg, h1, h2, h3, h4⟩
  · exact ⟨none, 0, 0, rfl, h0, fun i hi => by omega⟩
  · refine ⟨_, l.length, cap, rfl, rfl, fun i hi => ⟨g, 0, rfl, (Array.getElem?_eq_some_iff.1 hg).1, ?_⟩⟩
    have hz : l[i]? = some l[i] := List.getElem?_eq_getElem hi
    have hd : l.getD i wr0 = l[i] := by simp [List.getD, hz]
    rw [hd]
    have at_ : ∀ k, k < 3 → ∀ u, ([.string l[i].key, .bool l[i].gone, .string l[i].val] : List Value)[k]? = some u → w.cell? ⟨g, 0 + i * 3 + k, none⟩ = some u := fun k hk u hu => by
      have hc := wCells_at l i k hk
      rw [hz] at hc
      simp only [Option.bind_some] at hc
      rw [hu, ← h4, List.getElem?_take] at hc
      split at hc
      · simp only [World.cell?, hg]
        rw [Nat.zero_add]
        simpa using hc
      · cases hc
    exact ⟨at_ 0 (by omega) _ rfl, at_ 1 (by omega) _ rfl, at_ 2 (by omega) _ rfl⟩
theorem three_new (w : World) (a b c : Value) (t : TypeId) : ∀ j u, ([a, b, c] : List Value)[j]? = some u → (w.alloc (.cells #[a, b, c] t)).cell? ((⟨w.heap.size, 0, none⟩ : Addr).add j) = some u := fun j u hu => by
  have hr := heap_alloc_new w (.cells #[a, b, c] t)
  have hadd : (⟨w.heap.size, 0, none⟩ : Addr).add j = ⟨w.heap.size, j, none⟩ := by unfold Addr.add; split <;> simp_all
  rw [hadd]
  simp only [World.cell?, hr]
  simpa using hu

/-- Changed: block g, a block made since, and nothing else that was there ahead of w. -/
theorem grown_fresh {w w1 w2 : World} {g : Nat} {b : Option Nat} (h : w.grownBy w1 (some g)) (hg : w1.grownBy w2 b) (hb : ∀ k, b = some k → w.heap.size ≤ k) : w.grownBy w2 (some g) :=
  ⟨hg.os.trans h.os, hg.tape.trans h.tape, hg.output.trans h.output, Nat.le_trans h.size hg.size, fun k hk hkg => (hg.block k (Nat.lt_of_lt_of_le hk h.size) (fun e => by have := hb k e.symm; omega)).trans (h.block k hk hkg)⟩

/-- A slice's places are no more than its room. -/
def SlFit (v : Value) : Prop := ∀ a n c, v = .slice a n c → n ≤ c
theorem slFit_nil : SlFit (.slice none 0 0) := fun a n c h => by cases h; exact Nat.le_refl _
theorem own_fit {w : World} {B e s n : Nat} {v : Value} {xs : List Value} (h : w.ownsRow B e s v n xs) : SlFit v := by
  rcases h.2 with ⟨rfl, _⟩ | ⟨g, cap, cur, rfl, _, _, h1, _⟩
  · exact slFit_nil
  · intro a n c h; cases h; exact h1
/-- What takeWrites answers. -/
def TwOut (g : Nat) (R : Bool × List Wr × (ByteArray × Bool)) (w : World) (e : Ending) (w' : World) : Prop :=
  ∃ sl, e = .returned (.tuple #[sl, .bool R.1]) ∧ WsAt w' sl R.2.1 ∧ CurTo g R.2.2 w w' ∧ (∀ k, sl.ownBlock = some k → w.heap.size ≤ k ∧ k < w'.heap.size) ∧ SlFit sl

set_option maxHeartbeats 8000000 in
theorem takeWrites_any (g : Nat) (r : ByteArray × Bool) (hs : r.1.size ≤ 1000000) (w : World) (h : CurAt w g r.1 r.2) :
    Calls Try.prog 91 #[.pointer (some ⟨g, 0, none⟩)] w (TwOut g (cWr r) w) := by
  obtain ⟨iw, hi, hz0, hz1, hz2⟩ := info_parts writeInfo
  have hs1 := nxt_size r
  have hmx : r.1.size ≤ maxLen := by unfold maxLen; omega
  have HU := Lib.hid (cur_uint g r.1 r.2 w hmx h)
  have hgl := h.lt
  have hlt := cUint_lt r.1 r.2
  obtain ⟨u, hu⟩ : ∃ u, u = (cUint r.1 r.2).1 := ⟨_, rfl⟩
  obtain ⟨n, hn⟩ : ∃ n, n = cnt r := ⟨_, rfl⟩
  have hnu : n = min u 9 := by rw [hn, hu]; rfl
  obtain ⟨F, hF⟩ : ∃ F, F = cWr r := ⟨_, rfl⟩
  have HF := Lib.hid (show F = cWA [] n (nxtM r) by rw [hF, hn]; rfl)
  have HU' : Hid (Calls Try.prog 64 #[.pointer (some ⟨g, 0, none⟩)] w fun e w' => e = .returned (.int .u64 (u : Nat)) ∧ CurTo g (nxtM r) w w') := Lib.hid (by rw [hu]; exact HU.out)
  rw [← hF]
  have hsz : (nxtM r).1.size ≤ 1000000 := by omega
  obtain ⟨r0, hr0⟩ : ∃ r0, r0 = nxtM r := ⟨_, rfl⟩
  rw [← hr0] at HF HU' hsz
  have hmin : min (u : Int) 9 = (n : Int) := by omega
  have hn9 : n ≤ 9 := by omega
  clear HU hu hn hnu hF hs hs1 hmx hlt hr0 h
  go_enter Try.func91, Try.ntmps91
  go_wp2_with (go_at_call 64; refine HU'.out.mono ?_; rintro e w1 ⟨rfl, hc1, hg1⟩)
  have C1 := Lib.hid hc1
  have G1 := Lib.hid hg1
  clear hc1 hg1 HU'
  go_loopg [4, 5, 6, 7, 8, 12] n (fun q s4 s5 s6 s7 s8 s12 wx => ∃ (i : Nat) (acc : List Wr) (r1 : ByteArray × Bool), i + q = n ∧ s12 = .int .u64 i ∧ Hid (F = cWA acc q r1) ∧ acc.length = i ∧ r1.1.size ≤ 1000000 ∧
    Hid (wx.ownsRow w.heap.size 64 3 s4 acc.length (wCells acc)) ∧ Hid (CurAt wx g r1.1 r1.2) ∧ Hid (w.grownBy wx (some g)))
  case atStart => exact ⟨0, [], r0, by omega, rfl, HF, rfl, hsz, Lib.hid (World.ownsRow_nil _ _ _ _), C1, G1⟩
  case round =>
    obtain ⟨i, acc, r1, hiq, rfl, HFx, hal, hsz1, HR, HC, HG⟩ := hrel
    clear hmin HF C1 G1 hsz
    cases gk with
    | zero =>
      obtain rfl : i = n := by omega
      have hiz : ¬ (i : Int) < (i : Int) := by omega
      have hfin := Lib.hid (show TwOut g F w (.returned (.tuple #[u4, .bool true])) wr by
        rw [HFx.out]
        exact ⟨_, rfl, wsAt_own HR.out, ⟨HC.out, HG.out⟩, fun k hk => HR.out.lt k hk, own_fit HR.out⟩)
      go_wp2_with fail
      go_ret2
      exact hfin.out
    | succ q =>
      have hiz : (i : Int) < (n : Int) := by omega
      have hg2 := takeGone_any g r1.1 r1.2 hsz1 wr HC.out
      have hb1 := bytT_size r1
      have hb2 := txT_size (bytT r1)
      have hb3 := txT_size (txT (bytT r1))
      have ht2 := fun (W : World) (hc : CurAt W g (bytT r1).1 (bytT r1).2) => takeText_any g (bytT r1).1 (bytT r1).2 (by omega) W hc
      have ht3 := fun (W : World) (hc : CurAt W g (txT (bytT r1)).1 (txT (bytT r1)).2) => takeText_any g (txT (bytT r1)).1 (txT (bytT r1)).2 (by omega) W hc
      have hFs : F = if goneK (byt r1) = false then (false, [], bytT r1) else cWA (acc ++ [⟨tx (bytT r1), goneB (byt r1), tx (txT (bytT r1))⟩]) q (txT (txT (bytT r1))) := HFx.out
      obtain ⟨gb, egb⟩ : ∃ gb, gb = goneB (byt r1) := ⟨_, rfl⟩
      obtain ⟨gk, egk⟩ : ∃ gk, gk = goneK (byt r1) := ⟨_, rfl⟩
      obtain ⟨kx, ekx⟩ : ∃ kx, kx = tx (bytT r1) := ⟨_, rfl⟩
      obtain ⟨vx, evx⟩ : ∃ vx, vx = tx (txT (bytT r1)) := ⟨_, rfl⟩
      have HGN : Hid (Calls Try.prog 102 #[.pointer (some ⟨g, 0, none⟩)] wr fun e w' => e = .returned (.tuple #[.bool gb, .bool gk]) ∧ CurTo g (bytT r1) wr w') := Lib.hid (by rw [egb, egk]; exact hg2)
      have HT2 : Hid (∀ W, CurAt W g (bytT r1).1 (bytT r1).2 → Calls Try.prog 103 #[.pointer (some ⟨g, 0, none⟩)] W fun e w' => e = .returned (.string kx) ∧ CurTo g (txT (bytT r1)) W w') := Lib.hid (fun W hc => by rw [ekx]; exact ht2 W hc)
      have HT3 : Hid (∀ W, CurAt W g (txT (bytT r1)).1 (txT (bytT r1)).2 → Calls Try.prog 103 #[.pointer (some ⟨g, 0, none⟩)] W fun e w' => e = .returned (.string vx) ∧ CurTo g (txT (txT (bytT r1))) W w') := Lib.hid (fun W hc => by rw [evx]; exact ht3 W hc)
      rw [← egb, ← egk, ← ekx, ← evx] at hFs
      have hszn : (txT (txT (bytT r1))).1.size ≤ 1000000 := by omega
      have hacc : acc.length ≤ 9 := by omega
      clear hg2 ht2 ht3 egb egk ekx evx hb1 hb2 hb3 HFx
      cases gk with
      | false =>
        rw [if_pos rfl] at hFs
        have HFf := Lib.hid hFs
        clear hFs HT2 HT3 HC
        go_wp2_with (go_at_call 102; refine HGN.out.mono ?_; rintro e w2 ⟨rfl, hc2, hg2⟩)
        go_ret2
        rw [HFf.out]
        exact ⟨.slice none 0 0, rfl, WsAt.nil _, ⟨hc2, grownBy_trans HG.out hg2⟩, (fun k hk => by simp [Value.ownBlock] at hk), slFit_nil⟩
      | true =>
        rw [if_neg (by decide)] at hFs
        have HFf := Lib.hid hFs
        clear hFs HC
        go_upto_region 7 with (go_at_call 102; refine HGN.out.mono ?_; rintro e w2 ⟨rfl, hc2, hg2⟩)
        have HT2' := Lib.hid (HT2.out w2 hc2)
        have R2 := Lib.hid (HR.out.kept hg2 (by cases hv : u4.ownBlock with | none => exact .inl rfl | some k => exact .inr (fun e => by injection e with e; have := (HR.out.lt k hv).1; omega)))
        have G2 := Lib.hid (grownBy_trans HG.out hg2)
        clear hc2 hg2 HT2 HR HG HGN
        go_upto_region 8 with (go_at_call 103; refine HT2'.out.mono ?_; rintro e w3 ⟨rfl, hc3, hg3⟩)
        have HT3' := Lib.hid (HT3.out w3 hc3)
        have R3 := Lib.hid (R2.out.kept hg3 (by cases hv : u4.ownBlock with | none => exact .inl rfl | some k => exact .inr (fun e => by injection e with e; have := (R2.out.lt k hv).1; omega)))
        have G3 := Lib.hid (grownBy_trans G2.out hg3)
        clear hc3 hg3 HT3 R2 G2 HT2'
        go_upto_region 9 with (go_at_call 103; refine HT3'.out.mono ?_; rintro e w4 ⟨rfl, hc4, hg4⟩)
        have C4 := Lib.hid hc4
        have R4 := Lib.hid (R3.out.kept hg4 (by cases hv : u4.ownBlock with | none => exact .inl rfl | some k => exact .inr (fun e => by injection e with e; have := (R3.out.lt k hv).1; omega)))
        have G4 := Lib.hid (grownBy_trans G3.out hg4)
        have hs4 := G4.out.size
        have hnew := Lib.hid (three_new w4 (.string kx) (.bool gb) (.string vx) 64)
        clear hc4 hg4 R3 G3 HT3'
        go_wp2_with (at_builtin; refine wpList_append_own _ rfl _ _ 36 rfl w.heap.size 64 iw (.agg #[.string ⟨#[]⟩, .bool false, .string ⟨#[]⟩]) 3 40 Try.underlying36 hi hz0 hz1 hz2 rfl (by decide) _ _ _ rfl (R4.out.alloc _) ⟨w4.heap.size, 0, none⟩ 1 1 [.string kx, .bool gb, .string vx] rfl rfl hnew.out (by simp [Value.oneCell']) (by unfold maxLen; omega) (by omega) (by simp; omega) ?_)
        intro v5 w5 hown5 hg5 _
        have G5 := Lib.hid (grown_fresh (grownBy_trans G4.out (grown_of_belowM (g := g) ((Below.refl _ _).alloc (Nat.le_refl _) _))) hg5 (fun k hk => (R4.out.lt k hk).1))
        have R5 : Hid (w5.ownsRow w.heap.size 64 3 v5 (acc ++ [(⟨kx, gb, vx⟩ : Wr)]).length (wCells (acc ++ [(⟨kx, gb, vx⟩ : Wr)]))) := Lib.hid (by rw [← wCells_snoc, List.length_append, hal]; exact hown5)
        have C5 := Lib.hid (show CurAt w5 g (txT (txT (bytT r1))).1 (txT (txT (bytT r1))).2 from by
          have h1 := C4.out
          have h2 := h1.lt
          unfold CurAt at h1 ⊢
          rw [hg5.block g (by simp; omega) (fun e => by have := (R4.out.lt g e.symm).1; omega), Below.heap_alloc _ _ _ h2]
          exact h1)
        have hl2 : (acc ++ [(⟨kx, gb, vx⟩ : Wr)]).length = i + 1 := by rw [List.length_append, hal]; rfl
        clear hown5 hg5 R4 G4 C4 hnew
        go_wp2_with fail
        go_roundg q
        case measure => omega
        case rel => exact ⟨i + 1, _, _, by omega, by simp, HFf, hl2, hszn, R5, C5, G5⟩
end Go.Proofs.Ytbhlgceicfjncaa
