/-
  The program's takeVersion.
-/
import Derived.Test.YtplobffkelmokaaChnPTake
import Derived.Deep.DeepCutAuto
namespace Go.Proofs.Ytplobffkelmokaa
open Go.RowKit
set_option linter.unusedVariables false
set_option linter.unnecessarySimpa false
set_option linter.unusedSimpArgs false
set_option maxRecDepth 100000

theorem grown_setRow {w : World} {g : Nat} {cs : Array Value} : w.grownBy (w.setRow g cs) (some g) := ⟨rfl, rfl, rfl, by simp, fun k _ hk => setRow_other w g k _ (fun e => hk (by rw [e]))⟩
/-- Changed: block g, and nothing else that was there ahead of w. -/
theorem grown_over {w w1 w2 : World} {g P : Nat} (h : w.grownBy w1 (some g)) (hg : w1.grownBy w2 (some P)) (hP : w.heap.size ≤ P) : w.grownBy w2 (some g) :=
  ⟨hg.os.trans h.os, hg.tape.trans h.tape, hg.output.trans h.output, Nat.le_trans h.size hg.size, fun k hk hkg => (hg.block k (Nat.lt_of_lt_of_le hk h.size) (fun e => by injection e with e; omega)).trans (h.block k hk hkg)⟩

theorem drew_cur {w : World} {g : Nat} {X : ByteArray} {b : Bool} (h : CurAt w g X b) : CurAt w.drew g X b := h
theorem drew_grown {w w' : World} {r : Option Nat} (h : w.drew.grownBy w' r) : w.grownBy w' r := ⟨h.os, h.tape, h.output, h.size, h.block⟩
def sumT (t s : Nat) : Nat := (t + s) % 18446744073709551616
/-- What the calls of a cursor tell of a version's head. -/
structure VerHead (t : Nat) (base l : List UInt8) (s : Nat) (one X1 X2 : ByteArray) (b1 b2 : Bool) : Prop where
  f1 : cUint ⟨l.toArray⟩ false = (s, X1, b1)
  f2 : cBytes X1 b1 1 = (one, X2, b2)
  slt : s < 18446744073709551616
  s1 : X1.size ≤ l.length
  s2 : X2.size ≤ l.length
  low : sumT t s ≤ t → tkVer t base l = none
  gone : t < sumT t s → one.data.toList = [1] → b2 = false ∧ tkVer t base l = some (⟨sumT t s, true, ⟨#[]⟩⟩, X2.data.toList)
  there : t < sumT t s → one.data.toList = [0] → b2 = false ∧ tkVer t base l = (match tkVal base X2.data.toList with | none => none | some (v, r') => some (⟨sumT t s, false, ⟨v.toArray⟩⟩, r'))
  no : t < sumT t s → one.data.toList ≠ [1] → one.data.toList ≠ [0] → tkVer t base l = none
theorem cB_len (s : ByteArray) (b : Bool) (n : Int) : (cBytes s b n).2.1.size ≤ s.size := by
  unfold cBytes
  split
  · exact Nat.le_refl _
  · simp only [ByteArray.size_extract]; omega
theorem verHead_of (t : Nat) (base l : List UInt8) (ht : t < 18446744073709551616) : ∃ s one X1 X2 b1 b2, VerHead t base l s one X1 X2 b1 b2 := by
  rcases f1 : cUint ⟨l.toArray⟩ false with ⟨s, X1, b1⟩
  rcases f2 : cBytes X1 b1 1 with ⟨one, X2, b2⟩
  have g1 := cU_len ⟨l.toArray⟩ false
  have g2 := cB_len X1 b1 1
  rw [f1, arr_size l] at g1
  rw [f2] at g2
  simp only at g1 g2
  suffices H : (sumT t s ≤ t → tkVer t base l = none) ∧ (t < sumT t s → one.data.toList = [1] → b2 = false ∧ tkVer t base l = some (⟨sumT t s, true, ⟨#[]⟩⟩, X2.data.toList)) ∧
      (t < sumT t s → one.data.toList = [0] → b2 = false ∧ tkVer t base l = (match tkVal base X2.data.toList with | none => none | some (v, r') => some (⟨sumT t s, false, ⟨v.toArray⟩⟩, r'))) ∧
      (t < sumT t s → one.data.toList ≠ [1] → one.data.toList ≠ [0] → tkVer t base l = none) from
    ⟨s, one, X1, X2, b1, b2, ⟨f1, f2, g1.2, g1.1, by omega, H.1, H.2.1, H.2.2.1, H.2.2.2⟩⟩
  cases h1 : tk l with
  | none =>
    rw [uN_none h1] at f1
    cases f1
    have e : sumT t 0 = t := by unfold sumT; rw [Nat.add_zero, Nat.mod_eq_of_lt ht]
    rw [e]
    exact ⟨fun _ => by unfold tkVer; rw [h1], fun h => absurd h (Nat.lt_irrefl _), fun h => absurd h (Nat.lt_irrefl _), fun h => absurd h (Nat.lt_irrefl _)⟩
  | some p =>
    obtain ⟨s', k⟩ := p
    rw [uN_some h1] at f1
    cases f1
    unfold tkVer
    rw [h1]
    simp only
    cases hd : l.drop k with
    | nil =>
      have f3 := cB_short (l := l.drop k) (k := 1) (by rw [hd]; decide)
      rw [show ((1 : Nat) : Int) = 1 from rfl, f2] at f3
      cases f3
      exact ⟨fun _ => rfl, fun _ h => (by cases h), fun _ h => (by cases h), fun _ _ _ => rfl⟩
    | cons x r =>
      have f3 := cB_full (l := l.drop k) (k := 1) (by rw [hd]; simp)
      rw [show ((1 : Nat) : Int) = 1 from rfl, f2, hd] at f3
      cases f3
      simp only [List.take_succ_cons, List.take_zero, List.drop_succ_cons, List.drop_zero]
      refine ⟨fun h => if_pos h, fun h hx => ?_, fun h hx => ?_, fun h n1 n0 => ?_⟩
      · injection hx with hx
        exact ⟨by first | trivial | rfl, by rw [if_neg (by unfold sumT at h; omega), if_pos hx]; rfl⟩
      · injection hx with hx
        exact ⟨by first | trivial | rfl, by rw [if_neg (by unfold sumT at h; omega), if_neg (by rw [hx]; decide), if_pos hx]; rfl⟩
      · rw [if_neg (by unfold sumT at h; omega), if_neg (fun e => n1 (by rw [e])), if_neg (fun e => n0 (by rw [e]))]
/-- What is told of a version. -/
def VerOut (g : Nat) (x : Option (Vr × List UInt8)) (w : World) (e : Ending) (w' : World) : Prop :=
  (∃ z : Vr, e = .returned (.tuple #[.agg z.cells, .bool false]) ∧ x = none ∧ w.grownBy w' (some g)) ∨
  ∃ (v : Vr) (r : List UInt8), e = .returned (.tuple #[.agg v.cells, .bool true]) ∧ x = some (v, r) ∧ CurL w' g r false ∧ w.grownBy w' (some g)
theorem cur_setRow {w : World} {g P : Nat} {cs : Array Value} {X : ByteArray} {b : Bool} (h : CurAt w g X b) (hP : g < P) : CurAt (w.setRow P cs) g X b := by
  unfold CurAt at *
  rw [setRow_other w P g cs (by omega)]
  exact h
theorem ver_no {g P : Nat} {x : Option (Vr × List UInt8)} {w w' : World} (z : Vr) (hx : x = none) (hg : w.grownBy w' (some g)) (hP : w.heap.size ≤ P) : VerOut g x w (.returned (.tuple #[.agg z.cells, .bool false])) (w'.setRow P z.cells) :=
  .inl ⟨z, rfl, hx, grown_over hg grown_setRow hP⟩
theorem ver_yes {g P : Nat} {x : Option (Vr × List UInt8)} {w w' : World} (v : Vr) {r : List UInt8} (hx : x = some (v, r)) (hc : CurL w' g r false) (hg : w.grownBy w' (some g)) (hP : w.heap.size ≤ P) (hgP : g < P) : VerOut g x w (.returned (.tuple #[.agg v.cells, .bool true])) (w'.setRow P v.cells) :=
  .inr ⟨v, r, rfl, hx, cur_setRow hc hgP, grown_over hg grown_setRow hP⟩
theorem vr_one (v : Vr) : v.cells.all (·.oneCell') = true := by simp [Vr.cells, Value.oneCell']
theorem vr_size (v : Vr) : (Try.prog.info? 78).map (·.size) = some v.cells.size := verSize
theorem ver_ret {w : World} {g : Nat} {cs : Array Value} {tmps : Array Value} {ok : Bool} (h : w.heap[g]? = some (.cells cs 78 (0, 0))) (hcs : (Try.prog.info? 78).map (·.size) = some cs.size)
    (hp : tmps.getD 4 undef = .pointer (some ⟨g, 0, none⟩)) (hv : tmps.getD 5 undef = .bool ok) : (results Try.f81 tmps).run Try.prog w = .ok (.tuple #[.agg cs, .bool ok]) w :=
  results_row_tmpV rfl tmps w g 78 cs (0, 0) _ _ hp h Try.underlying78 rfl hcs hv

set_option maxHeartbeats 4000000 in
theorem takeVersion_any (g t : Nat) (base : ByteArray) (l : List UInt8) (w : World) (ht : t < 18446744073709551616) (hb : base.size ≤ 60000) (hl : l.length ≤ 20000000) (hc : CurL w g l false) :
    Calls Try.prog 81 #[.pointer (some ⟨g, 0, none⟩), .agg (plc t base)] w (VerOut g (tkVer t base.data.toList l) w) := by
  obtain ⟨s, one, X1, X2, b1, b2, H⟩ := verHead_of t base.data.toList l ht
  have hgl := CurL.lt hc
  obtain ⟨P, hP⟩ : ∃ P, P = w.heap.size := ⟨_, rfl⟩
  obtain ⟨w1, hw1⟩ : ∃ w1, w1 = (w.alloc (.cells #[.int .u64 (t : Int), .string base] 94)).alloc (.cells #[.int .u64 0, .bool false, .string ⟨#[]⟩] 78) := ⟨_, rfl⟩
  have r0 : w1.heap[P]? = some (.cells #[.int .u64 (t : Int), .string base] 94 (0, 0)) := by rw [hw1, hP]; exact heap_alloc2_old _ _ _
  have r1 : w1.heap[P + 1]? = some (.cells #[.int .u64 0, .bool false, .string ⟨#[]⟩] 78 (0, 0)) := by rw [hw1, hP]; exact heap_alloc2_new _ _ _
  have hbel : Below w.heap.size w w1 := by rw [hw1]; exact ((Below.refl _ _).alloc (Nat.le_refl _) _).alloc (by simp) _
  have hgP : g < P := by rw [hP]; exact hgl
  have hc1 : CurL w1 g l false := CurAt.kept hc hbel hgl
  have R0 := Lib.hid (fun W (h : w1.grownBy W (some g)) => (h.block P (Array.getElem?_eq_some_iff.1 r0).1 (fun e => by injection e with e; omega)).trans r0)
  have R1 := Lib.hid (fun W (h : w1.grownBy W (some g)) => (h.block (P + 1) (Array.getElem?_eq_some_iff.1 r1).1 (fun e => by injection e with e; omega)).trans r1)
  have G1 := Lib.hid (grown_of_below (r := some g) hbel)
  have HPw := Lib.hid (show w.heap.size ≤ P + 1 by omega)
  have hk1 := Lib.hid (fun W hW => cur_uint g ⟨l.toArray⟩ false W (by rw [arr_size]; unfold maxLen; omega) hW)
  have HC1 := Lib.hid (show CurAt w1 g ⟨l.toArray⟩ false from hc1)
  have hk2 := Lib.hid (fun W hW => cur_bytes g X1 b1 1 W (by have := H.s1; unfold maxLen; omega) hW)
  rw [H.f1] at hk1
  rw [H.f2] at hk2
  have hs := H.slt
  have hlow := Lib.hid H.low
  have hgone := Lib.hid H.gone
  have hthere := Lib.hid H.there
  have hno := Lib.hid H.no
  have hX2 := H.s2
  obtain ⟨x, hx⟩ : ∃ x, x = tkVer t base.data.toList l := ⟨_, rfl⟩
  rw [← hx] at hlow hgone hthere hno ⊢
  obtain ⟨T, hT⟩ : ∃ T, T = sumT t s := ⟨_, rfl⟩
  have hTz : ((t : Int) + (s : Int)) % 18446744073709551616 = (T : Int) := by rw [hT]; unfold sumT; omega
  have hTw : IntKind.u64.wrap ((t : Int) + (s : Int)) = (T : Int) := by rw [IntKind.wrap_u64]; exact hTz
  have hT2 : T < 18446744073709551616 := by rw [hT]; unfold sumT; omega
  rw [← hT] at hlow hgone hthere hno
  obtain ⟨d0, d1⟩ := cells2 r0
  unfold plc
  clear H hx hc hT hgl r0 r1 hbel hc1
  go_enter Try.func81, Try.ntmps81
  go_upto_region 1 with fail
  rw [← hw1, ← hP]
  clear hw1 hP
  go_cut [6] (fun s6 wc => s6 = .int .u64 (T : Int) ∧ Hid (CurAt wc g X1 b1) ∧ Hid (w1.grownBy wc (some g)))
  case first =>
    go_region_with (go_at_call 49; (with_reducible refine (hk1.out _ (drew_cur HC1.out)).mono ?_); rintro e w2 ⟨rfl, hc2, hg2⟩; have hd0 := (cells2 (R0.out _ (drew_grown hg2))).1)
    all_goals
      go_wp2_with fail
      go_meet
      case rel => exact ⟨by first | rfl | (rw [hTw]), Lib.hid hc2, Lib.hid (drew_grown hg2)⟩
  case rest =>
    obtain ⟨rfl, hc2, hg2⟩ := hcut
    clear hk1 HC1 hTw hTz d0 d1
    go_upto_region 3 with (go_at_call 70; (with_reducible refine (hk2.out _ hc2.out).mono ?_); rintro e w3 ⟨rfl, hc3, hg3⟩)
    have HC3 := Lib.hid hc3
    have hg4 := grownBy_trans hg2.out hg3
    have RR := Lib.hid (R1.out _ hg4)
    have HG := Lib.hid (grownBy_trans G1.out hg4)
    obtain ⟨c0, c1⟩ := cells2 (R0.out _ hg4)
    have HGw := Lib.hid hg4
    have hone0 : one.toList = one.data.toList := Lib.toList_data one
    clear hc2 hg2 hc3 hg3 hg4 hk2 R0 R1 G1
    by_cases hlt : t < T
    · have hz : ¬ (T : Int) ≤ (t : Int) := by omega
      by_cases e1 : one.data.toList = [1]
      · have t1 : (one.toList == [1]) = true := by rw [hone0, e1]; rfl
        obtain ⟨rfl, hx⟩ := hgone.out hlt e1
        have HX := Lib.hid hx
        clear hno hthere hgone hlow hx e1 hlt hone0
        go_wp2_with (refine wpList_store_row rfl 78 _ _ rfl (P + 1) (Vr.cells ⟨T, true, ⟨#[]⟩⟩) rfl rfl 78 #[.int .u64 0, .bool false, .string ⟨#[]⟩] RR.out (vr_size _) rfl (vr_one _) ?_)
        exact bodyPost_ret (ver_ret (setRow_heap _ _ _ _ _ _ RR.out) (vr_size _) rfl rfl) rfl (ver_yes _ HX.out (cur_list HC3.out) HG.out HPw.out (by omega))
      · by_cases e0 : one.data.toList = [0]
        · have t1 : (one.toList == [1]) = false := by rw [hone0, e0]; rfl
          have t0 : (one.toList == [0]) = true := by rw [hone0, e0]; rfl
          obtain ⟨rfl, hx⟩ := hthere.out hlt e0
          have HTV := Lib.hid (takeValue_any g base X2.data.toList w3 hb (by rw [c_size]; omega) (cur_list HC3.out))
          have HX := Lib.hid hx
          obtain ⟨y, hy⟩ : ∃ y, y = tkVal base.data.toList X2.data.toList := ⟨_, rfl⟩
          rw [← hy] at HTV HX
          clear hno hthere hgone hlow hx e1 e0 hlt hone0 hy
          have HVO := Lib.hid (show ∀ e w', ValOut g y w3 e w' → ∃ (s : ByteArray) (ok : Bool), e = .returned (.tuple #[.string s, .bool ok]) ∧ Hid (w3.grownBy w' (some g)) ∧ Hid (w'.heap[P + 1]? = some (.cells #[.int .u64 0, .bool false, .string ⟨#[]⟩] 78 (0, 0))) ∧ Hid ((ok = false ∧ x = none) ∨ (ok = true ∧ ∃ r, x = some (⟨T, false, s⟩, r) ∧ CurL w' g r false)) from fun e w' h => by
            have key : ∀ w', w3.grownBy w' (some g) → w'.heap[P + 1]? = some (.cells #[.int .u64 0, .bool false, .string ⟨#[]⟩] 78 (0, 0)) := fun w' hg => (hg.block (P + 1) (Array.getElem?_eq_some_iff.1 RR.out).1 (fun e => by injection e with e; omega)).trans RR.out
            rcases h with ⟨s, rfl, hy, hg⟩ | ⟨v, r, rfl, hy, hcu, hg⟩
            · exact ⟨s, false, rfl, Lib.hid hg, Lib.hid (key _ hg), Lib.hid (.inl ⟨rfl, by rw [HX.out, hy]⟩)⟩
            · exact ⟨⟨v.toArray⟩, true, rfl, Lib.hid hg, Lib.hid (key _ hg), Lib.hid (.inr ⟨rfl, r, by rw [HX.out, hy], hcu⟩)⟩)
          go_upto_region 10 with (go_at_call 84; (with_reducible refine HTV.out.mono ?_); intro e w4 h4; obtain ⟨sv, ok, rfl, hg4, hr4, hc4⟩ := HVO.out e w4 h4; clear h4)
          clear HTV HVO c0 c1
          go_wp2_with (refine wpList_store_row rfl 78 _ _ rfl (P + 1) (Vr.cells ⟨T, false, sv⟩) rfl rfl 78 #[.int .u64 0, .bool false, .string ⟨#[]⟩] hr4.out (vr_size _) rfl (vr_one _) ?_)
          rcases hc4.out with ⟨rfl, hx⟩ | ⟨rfl, r, hx, hcu⟩
          · exact bodyPost_ret (ver_ret (setRow_heap _ _ _ _ _ _ hr4.out) (vr_size _) rfl rfl) rfl (ver_no _ hx (grownBy_trans HG.out hg4.out) HPw.out)
          · exact bodyPost_ret (ver_ret (setRow_heap _ _ _ _ _ _ hr4.out) (vr_size _) rfl rfl) rfl (ver_yes _ hx hcu (grownBy_trans HG.out hg4.out) HPw.out (by omega))
        · have t1 : (one.toList == [1]) = false := by rw [hone0, beq_eq_false_iff_ne]; exact e1
          have t0 : (one.toList == [0]) = false := by rw [hone0, beq_eq_false_iff_ne]; exact e0
          have HX := Lib.hid (hno.out hlt e1 e0)
          clear hno hthere hgone hlow e1 e0 hlt hone0
          go_wp2_with (refine wpList_store_row rfl 78 _ _ rfl (P + 1) (Vr.cells vr0) rfl rfl 78 #[.int .u64 0, .bool false, .string ⟨#[]⟩] RR.out (vr_size _) rfl (vr_one _) ?_)
          exact bodyPost_ret (ver_ret (setRow_heap _ _ _ _ _ _ RR.out) (vr_size _) rfl rfl) rfl (ver_no vr0 HX.out HG.out HPw.out)
    · have hz : (T : Int) ≤ (t : Int) := by omega
      have HX := Lib.hid (hlow.out (by omega))
      clear hno hthere hgone hlow hlt hone0
      go_wp2_with (refine wpList_store_row rfl 78 _ _ rfl (P + 1) (Vr.cells vr0) rfl rfl 78 #[.int .u64 0, .bool false, .string ⟨#[]⟩] RR.out (vr_size _) rfl (vr_one _) ?_)
      exact bodyPost_ret (ver_ret (setRow_heap _ _ _ _ _ _ RR.out) (vr_size _) rfl rfl) rfl (ver_no vr0 HX.out HG.out HPw.out)
end Go.Proofs.Ytplobffkelmokaa
