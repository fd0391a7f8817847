/-
  Joined: LzTake, LzLong, LzPack, MvcContractsB.
-/
import Derived.Test.YtdcefhhmddjodaaSet25
import Derived.Test.YtdcefhhmddjodaaShelf
import Derived.Test.YtdcefhhmddjodaaSet24
import Derived.Test.YtdcefhhmddjodaaSet16
import Derived.Test.YtdcefhhmddjodaaSet22
import Derived.Test.YtdcefhhmddjodaaSet12
namespace Go.Proofs.Ytdcefhhmddjodaa
open Go.RowKit
set_option linter.unusedVariables false
set_option linter.unnecessarySimpa false
set_option linter.unusedSimpArgs false
set_option maxRecDepth 100000
set_option linter.unusedSectionVars false

/-- A part, in the run of the steps. -/
theorem uRun_part {f n t : Nat} {o l : List UInt8} (ht : t % 2 = 0) (h : t = 0 ∨ o.length < n) (ho : o.length ≤ n) (hf : l.length + 1 ≤ f) :
    match partR n o l with
    | none => uRun f n t o l = none
    | some (o', r) => ∃ f' t', uRun f n t o l = uRun f' n t' o' r ∧ t' ≠ 0 ∧ (o'.length < n → t' % 2 = 0) ∧ r.length + 1 ≤ f' ∧ r.length < l.length ∧ o'.length ≤ n := by
  obtain ⟨f1, rfl⟩ : ∃ f1, f = f1 + 1 := ⟨f - 1, by omega⟩
  have e0 : (t % 2 == 1) = false := by rw [beq_eq_false_iff_ne]; omega
  unfold partR
  cases h1 : uStep n false o l with
  | none => exact uRun_none h (by rw [e0]; exact h1)
  | some p =>
    obtain ⟨o1, r1⟩ := p
    have hl1 := uStep_less h1 ho
    have hrun := uRun_some (f := f1) h (by rw [e0]; exact h1)
    by_cases hE : o1.length = n
    · simp only [if_pos hE]
      exact ⟨f1, t + 1, hrun, by omega, fun h => by omega, by omega, hl1.1, hl1.2⟩
    · simp only [if_neg hE]
      obtain ⟨f2, rfl⟩ : ∃ f2, f1 = f2 + 1 := ⟨f1 - 1, by omega⟩
      have e1 : ((t + 1) % 2 == 1) = true := by rw [beq_iff_eq]; omega
      cases h2 : uStep n true o1 r1 with
      | none => rw [hrun]; exact uRun_none (.inr (by omega)) (by rw [e1]; exact h2)
      | some p =>
        obtain ⟨o2, r2⟩ := p
        have hl2 := uStep_less h2 hl1.2
        exact ⟨f2, t + 2, by rw [hrun]; exact uRun_some (.inr (by omega)) (by rw [e1]; exact h2), by omega, fun _ => by omega, by omega, by omega, hl2.2⟩

/-- What is told of packed bytes' inside: none, or bytes and what is left. -/
def Told (g : Nat) (B : Nat) (x : Option (List UInt8)) (fin : List UInt8 → List UInt8 → Option (List UInt8)) (w : World) (e : Ending) (w' : World) : Prop :=
  (∃ s, e = .returned (.tuple #[.string s, .bool false]) ∧ x = none ∧ Kept B g w w') ∨
  ∃ o r, e = .returned (.tuple #[.string ⟨o.toArray⟩, .bool true]) ∧ x = fin o r ∧ r.length ≤ 100000 ∧ Hid (CurL w' g r false) ∧ Kept B g w w'
def fin (o r : List UInt8) : Option (List UInt8) := if r = [] then some o else none
theorem Told.no {g B : Nat} {x : Option (List UInt8)} {w w' : World} (s : ByteArray) (hx : x = none) (hk : Kept B g w w') : Told g B x fin w (.returned (.tuple #[.string s, .bool false])) w' := .inl ⟨s, rfl, hx, hk⟩
theorem Told.yes {g B : Nat} {x : Option (List UInt8)} {w w' : World} {o r : List UInt8} (hx : x = fin o r) (hr : r.length ≤ 100000) (hc : CurL w' g r false) (hk : Kept B g w w') : Told g B x fin w (.returned (.tuple #[.string ⟨o.toArray⟩, .bool true])) w' := .inr ⟨o, r, rfl, hx, hr, Lib.hid hc, hk⟩

theorem Told.form {g B : Nat} {x : Option (List UInt8)} {w w' : World} {e : Ending} (h : Told g B x fin w e w') : ∃ s b, e = .returned (.tuple #[.string s, .bool b]) ∧ Hid (Told g B x fin w (.returned (.tuple #[.string s, .bool b])) w') := by
  rcases h with ⟨s, rfl, hx, hk⟩ | ⟨o, r, rfl, hx, hr, hc, hk⟩
  · exact ⟨s, false, rfl, Lib.hid (.inl ⟨s, rfl, hx, hk⟩)⟩
  · exact ⟨_, true, rfl, Lib.hid (.inr ⟨o, r, rfl, hx, hr, hc, hk⟩)⟩
theorem Told.split {g B : Nat} {x : Option (List UInt8)} {w w' : World} {s : ByteArray} {b : Bool} (h : Told g B x fin w (.returned (.tuple #[.string s, .bool b])) w') :
    (b = false ∧ x = none ∧ Kept B g w w') ∨ ∃ o r, b = true ∧ s = ⟨o.toArray⟩ ∧ x = fin o r ∧ r.length ≤ 100000 ∧ CurL w' g r false ∧ Kept B g w w' := by
  rcases h with ⟨s, he, hx, hk⟩ | ⟨o, r, he, hx, hr, hc, hk⟩
  · injection he with he
    injection he with he
    have e2 := congrArg Array.toList he
    simp at e2
    exact .inl ⟨e2.2, hx, hk⟩
  · injection he with he
    injection he with he
    have e2 := congrArg Array.toList he
    simp at e2
    exact .inr ⟨o, r, e2.2, e2.1, hx, hr, hc.out, hk⟩
theorem Told.into {g B : Nat} {x y : Option (List UInt8)} {w0 w w' : World} {e : Ending} (hy : y = x) (hk0 : Kept B g w0 w) (h : Told g B x fin w e w') : Told g B y fin w0 e w' := by
  rcases h with ⟨s, rfl, hx, hk⟩ | ⟨o, r, rfl, hx, hr, hc, hk⟩
  · exact .inl ⟨s, rfl, hy.trans hx, hk0.trans hk⟩
  · exact .inr ⟨o, r, rfl, hy.trans hx, hr, hc, hk0.trans hk⟩

/-- Where the loop stands: nothing more, or what is there, and what is left. -/
def LoopSt (B g n : Nat) (F : Option (List UInt8)) (q : Nat) (w : World) (s6 s7 : Value) (wx : World) : Prop :=
  (s7 = .bool false ∧ s6 = .slice none 0 0 ∧ F = none ∧ Kept B g w wx) ∨
  ∃ o r f t, s7 = .bool true ∧ wx.ownsRow B 5 1 s6 o.length (Lib.byteCells o) ∧ CurL wx g r false ∧ F = uRun f n t o r ∧ t ≠ 0 ∧ (o.length < n → t % 2 = 0) ∧ r.length + 1 ≤ f ∧ r.length + 1 ≤ q ∧ r.length ≤ 100000 ∧ o.length ≤ n ∧ Kept B g w wx
theorem LoopSt.of_part {B g n q f t : Nat} {o l : List UInt8} {F : Option (List UInt8)} {w0 w w' : World} {e : Ending} (hF : F = uRun f n t o l) (ht : t % 2 = 0) (h : t = 0 ∨ o.length < n) (ho : o.length ≤ n) (hf : l.length + 1 ≤ f) (hq : l.length ≤ q) (hl : l.length ≤ 100000)
    (hk : Kept B g w0 w) (hp : PartOut B g n o l w e w') : ∃ v b, e = .returned (.tuple #[v, b]) ∧ LoopSt B g n F q w0 v b w' := by
  have hu := uRun_part ht h ho hf
  rcases hp with ⟨rfl, hx, hk2⟩ | ⟨v', o', r, rfl, hx, hv, hc, hk2⟩
  · rw [hx] at hu
    exact ⟨_, _, rfl, .inl ⟨rfl, rfl, hF.trans hu, hk.trans hk2⟩⟩
  · rw [hx] at hu
    obtain ⟨f', t', h1, h2, h3, h4, h5, h6⟩ := hu
    exact ⟨_, _, rfl, .inr ⟨o', r, f', t', rfl, hv.out, hc.out, hF.trans h1, h2, h3, h4, by omega, by omega, h6, hk.trans hk2⟩⟩

theorem clone_any (s : ByteArray) (w : World) (h : s.size ≤ 281474976710656) : Calls Try.prog 36 #[.string s] w fun e w' => e = .returned (.string s) ∧ Below w.heap.size w w' := by
  have H := Lib.hid (Try.stringslite_Clone s w h)
  go_enter Try.func36, Try.ntmps36
  go_wp2_with (go_at_call 53; refine H.out.mono ?_; rintro e w1 ⟨rfl, hb1⟩)
  go_ret
  exact ⟨rfl, hb1⟩

/-- What stands behind the number of bytes. -/
def inside (n : Nat) : List UInt8 → Option (List UInt8)
  | [] => none
  | how :: rest => if how = 0 ∧ rest.length = n then some rest else if ¬ how = 1 then none else uRun (rest.length + 1) n 0 [] rest
theorem inside_zero {n : Nat} {rest : List UInt8} (h : n ≤ rest.length) : inside n (0 :: rest) = fin (rest.take n) (rest.drop n) := by
  show (if (0 : UInt8) = 0 ∧ rest.length = n then some rest else if ¬ (0 : UInt8) = 1 then none else uRun (rest.length + 1) n 0 [] rest) = if rest.drop n = [] then some (rest.take n) else none
  by_cases h2 : rest.length = n
  · rw [if_pos ⟨rfl, h2⟩, if_pos (List.drop_of_length_le (by omega)), List.take_of_length_le (by omega)]
  · rw [if_neg (fun h3 => h2 h3.2), if_pos (by decide), if_neg (by intro e; have := congrArg List.length e; simp at this; omega)]
theorem inside_short {n : Nat} {rest : List UInt8} (h : rest.length < n) : inside n (0 :: rest) = none := by
  show (if (0 : UInt8) = 0 ∧ rest.length = n then some rest else if ¬ (0 : UInt8) = 1 then none else uRun (rest.length + 1) n 0 [] rest) = none
  rw [if_neg (fun h3 => by omega), if_pos (by decide)]
theorem inside_one {n : Nat} {rest : List UInt8} : inside n (1 :: rest) = uRun (rest.length + 1) n 0 [] rest := by
  show (if (1 : UInt8) = 0 ∧ rest.length = n then some rest else if ¬ (1 : UInt8) = 1 then none else uRun (rest.length + 1) n 0 [] rest) = _
  rw [if_neg (fun h3 => absurd h3.1 (by decide)), if_neg (by decide)]
theorem inside_other {n : Nat} {how : UInt8} {rest : List UInt8} (h0 : ¬ how = 0) (h1 : ¬ how = 1) : inside n (how :: rest) = none := by
  show (if how = 0 ∧ rest.length = n then some rest else if ¬ how = 1 then none else uRun (rest.length + 1) n 0 [] rest) = none
  rw [if_neg (fun h3 => h0 h3.1), if_pos h1]
theorem one_byte_ne {a b : UInt8} (h : ¬ a = b) : ((⟨#[a]⟩ : ByteArray).toList == [b]) = false := by
  rw [beq_eq_false_iff_ne, Lib.toList_data]
  intro e
  injection e with e
  exact h e

section
variable (B g n : Nat) (l : List UInt8) (hn : n ≤ 60000) (hl : l.length ≤ 100000) (w : World) (hg : g < B) (hB : B ≤ w.heap.size) (hc : CurL w g l false)
include hn hl hg hB hc

set_option maxHeartbeats 4000000 in
theorem takeParts_any : Calls Try.prog 77 #[.pointer (some ⟨g, 0, none⟩), .int .i64 n] w (Told g B (uRun (l.length + 1) n 0 [] l) fin w) := by
  obtain ⟨F, hF⟩ : ∃ F, F = uRun (l.length + 1) n 0 [] l := ⟨_, rfl⟩
  rw [← hF]
  have HS := Lib.hid (fun e w' (hp : PartOut B g n [] l w e w') => LoopSt.of_part (q := l.length) hF rfl (.inl rfl) (Nat.zero_le _) (Nat.le_refl _) (Nat.le_refl _) hl (Kept.refl B g w) hp)
  have HP := Lib.hid (takePart_any B g n (.slice none 0 0) [] l hn (Nat.zero_le _) hl w hg hB hc (World.ownsRow_nil _ _ _ _))
  have HT := Lib.hid (fun v o r h1 h2 W h3 h4 h5 => takePart_any B g n v o r hn h1 h2 W hg h3 h4 h5)
  clear hF hc
  go_enter Try.func77, Try.ntmps77
  go_upto_region 2 with (go_at_call 93; refine HP.out.mono ?_; intro e w1 hp; obtain ⟨v, b, rfl, hst⟩ := HS.out e w1 hp; clear hp)
  have HL := Lib.hid hst
  clear hst HP HS
  go_loopg [6, 7] l.length (fun q s6 s7 wx => Hid (LoopSt B g n F q w s6 s7 wx))
  case atStart => exact HL
  case round =>
    have hrel := hrel.out
    rcases hrel with ⟨rfl, rfl, hx, hk⟩ | ⟨o, r, f, t, rfl, hv, hcr, hx, ht, ht2, hf, hq, hr, ho, hk⟩
    · have hcv := convert_row (l := []) (World.ownsRow_nil wr B 5 1)
      go_wp2_with fail
      go_ret2
      exact Told.no _ hx hk
    · have hB2 : B ≤ wr.heap.size := Nat.le_trans hB hk.size
      obtain ⟨a6, cap6, rfl⟩ := own_form hv
      by_cases hlt : o.length < n
      · have hltz : (o.length : Int) < (n : Int) := by omega
        obtain ⟨q, rfl⟩ : ∃ q, gk = q + 1 := ⟨gk - 1, by omega⟩
        have HP := Lib.hid (HT.out (.slice a6 o.length cap6) o r ho hr wr hB2 hcr hv)
        have HS := Lib.hid (fun e w' (hp : PartOut B g n o r wr e w') => LoopSt.of_part (q := q) hx (ht2 hlt) (.inr hlt) ho hf (by omega) hr hk hp)
        clear hx ht ht2 hf hq hr ho hk hv hcr hB2
        go_wp2_with (go_at_call 93; refine HP.out.mono ?_; intro e w1 hp; obtain ⟨v, b, rfl, hst⟩ := HS.out e w1 hp; clear hp)
        have HL := Lib.hid hst
        clear hst HP HS
        go_roundg q
        case measure => omega
        case rel => exact HL
      · have hltz : ¬ (o.length : Int) < (n : Int) := by omega
        have hcv := convert_row hv
        obtain ⟨f', rfl⟩ : ∃ f', f = f' + 1 := ⟨f - 1, by omega⟩
        have HX := Lib.hid (hx.trans (uRun_end (by rintro (h | h); exact ht h; exact hlt h)))
        have HR := Lib.hid hr
        have HC := Lib.hid hcr
        clear hx ht ht2 hf hq hr ho hcr hB2 hv hlt
        go_wp2_with fail
        go_ret2
        exact Told.yes HX.out HR.out HC.out hk

set_option maxHeartbeats 4000000 in
theorem takeBytes_any : Calls Try.prog 58 #[.pointer (some ⟨g, 0, none⟩), .int .i64 n] w (Told g B (inside n l) fin w) := by
  have hl0 : (⟨l.toArray⟩ : ByteArray).size ≤ maxLen := by rw [arr_size]; unfold maxLen; omega
  have hby := cur_bytes g ⟨l.toArray⟩ false ((1 : Nat) : Int) w hl0 hc
  cases l with
  | nil =>
    rw [cB_short (by decide)] at hby
    have HBY := Lib.hid hby
    clear hby hl0 hc
    go_enter Try.func58, Try.ntmps58
    go_wp2_with (go_at_call 76; refine HBY.out.mono ?_; rintro e w1 ⟨rfl, hc1, hg1⟩)
    go_ret2
    exact Told.no _ rfl (Kept.of_grown hg1 hB)
  | cons how rest =>
    rw [cB_full (by simp)] at hby
    have hrl : rest.length ≤ 100000 := by rw [List.length_cons] at hl; omega
    simp only [List.take_succ_cons, List.take_zero, List.drop_succ_cons, List.drop_zero] at hby
    have HBY := Lib.hid hby
    clear hby hl0 hc hl
    by_cases h0 : how = 0
    · subst h0
      by_cases hfit : n ≤ rest.length
      · have hb2 := Lib.hid (fun (W : World) (h : CurAt W g ⟨rest.toArray⟩ false) => cur_bytes g ⟨rest.toArray⟩ false (n : Int) W (by rw [arr_size]; unfold maxLen; omega) h)
        rw [cB_full hfit] at hb2
        have hcl := Lib.hid (fun (W : World) => clone_any ⟨(rest.take n).toArray⟩ W (by rw [arr_size, List.length_take]; omega))
        have HX := Lib.hid (inside_zero hfit)
        have HRL := Lib.hid (show (rest.drop n).length ≤ 100000 by rw [List.length_drop]; omega)
        clear hrl hfit
        go_enter Try.func58, Try.ntmps58
        go_upto_region 3 with (go_at_call 76; refine HBY.out.mono ?_; rintro e w1 ⟨rfl, hc1, hg1⟩)
        have HB2 := Lib.hid (hb2.out w1 hc1)
        have K1 := Lib.hid (Kept.of_grown (B := B) hg1 hB)
        have hB1 : B ≤ w1.heap.size := Nat.le_trans hB hg1.size
        clear hc1 hg1 hb2 HBY
        go_upto_region 4 with (go_at_call 76; refine HB2.out.mono ?_; rintro e w2 ⟨rfl, hc2, hg2⟩)
        have K2 := Lib.hid (K1.out.trans (Kept.of_grown hg2 hB1))
        have hB2 : B ≤ w2.heap.size := Nat.le_trans hB1 hg2.size
        have C2 := Lib.hid hc2
        clear hc2 hg2 K1 HB2
        go_wp2_with (first
          | (go_at_call 36; refine (hcl.out _).mono ?_; rintro e w3 ⟨rfl, hb3⟩; have hc3 := CurAt.kept C2.out hb3 (Nat.lt_of_lt_of_le hg hB2))
          | (go_at_call 57; refine (bad_any g _ false _ hc3).mono ?_; rintro e w4 ⟨rfl, rfl⟩))
        go_ret2
        exact Told.yes HX.out HRL.out hc3 (K2.out.trans (Kept.of_below (hb3.mono hB2)))
      · have hb2 := Lib.hid (fun (W : World) (h : CurAt W g ⟨rest.toArray⟩ false) => cur_bytes g ⟨rest.toArray⟩ false (n : Int) W (by rw [arr_size]; unfold maxLen; omega) h)
        rw [cB_short (by omega)] at hb2
        have hcl := Lib.hid (fun (W : World) => clone_any ByteArray.empty W (by decide))
        have HX := Lib.hid (inside_short (n := n) (rest := rest) (by omega))
        clear hrl hfit
        go_enter Try.func58, Try.ntmps58
        go_upto_region 3 with (go_at_call 76; refine HBY.out.mono ?_; rintro e w1 ⟨rfl, hc1, hg1⟩)
        have HB2 := Lib.hid (hb2.out w1 hc1)
        have K1 := Lib.hid (Kept.of_grown (B := B) hg1 hB)
        have hB1 : B ≤ w1.heap.size := Nat.le_trans hB hg1.size
        clear hc1 hg1 hb2 HBY
        go_upto_region 4 with (go_at_call 76; refine HB2.out.mono ?_; rintro e w2 ⟨rfl, hc2, hg2⟩)
        have K2 := Lib.hid (K1.out.trans (Kept.of_grown hg2 hB1))
        have hB2 : B ≤ w2.heap.size := Nat.le_trans hB1 hg2.size
        have C2 := Lib.hid hc2
        clear hc2 hg2 K1 HB2
        go_wp2_with (first
          | (go_at_call 36; refine (hcl.out _).mono ?_; rintro e w3 ⟨rfl, hb3⟩; have hc3 := CurAt.kept C2.out hb3 (Nat.lt_of_lt_of_le hg hB2))
          | (go_at_call 57; refine (bad_any g _ true _ hc3).mono ?_; rintro e w4 ⟨rfl, rfl⟩))
        go_ret2
        exact Told.no _ HX.out (K2.out.trans (Kept.of_below (hb3.mono hB2)))
    · by_cases h1 : how = 1
      · subst h1
        have HX := Lib.hid (inside_one (n := n) (rest := rest))
        have hp := Lib.hid (fun (W : World) h2 h3 => takeParts_any B g n rest hn hrl W hg h2 h3)
        clear hrl h0
        go_enter Try.func58, Try.ntmps58
        go_upto_region 6 with (go_at_call 76; refine HBY.out.mono ?_; rintro e w1 ⟨rfl, hc1, hg1⟩)
        have HP := Lib.hid (hp.out w1 (Nat.le_trans hB hg1.size) hc1)
        have K1 := Lib.hid (Kept.of_grown (B := B) hg1 hB)
        clear hc1 hg1 hp HBY
        go_wp2_with (go_at_call 77; refine HP.out.mono ?_; intro e w2 hp2; obtain ⟨s, b, rfl, hst⟩ := hp2.form; clear hp2)
        go_ret2
        exact Told.into HX.out K1.out hst.out
      · have HX := Lib.hid (inside_other (n := n) (rest := rest) h0 h1)
        obtain ⟨H, hH⟩ : ∃ H : ByteArray, H = ⟨#[how]⟩ := ⟨_, rfl⟩
        have hne0 : (H.toList == [0]) = false := by rw [hH]; exact one_byte_ne h0
        have hne1 : (H.toList == [1]) = false := by rw [hH]; exact one_byte_ne h1
        have HB3 := Lib.hid (show Calls Try.prog 76 #[.pointer (some ⟨g, 0, none⟩), .int .i64 1] w fun e w' => e = .returned (.string H) ∧ CurAt w' g ⟨rest.toArray⟩ false ∧ w.grownBy w' (some g) by rw [hH]; exact HBY.out)
        clear hrl h0 h1 hH HBY
        go_enter Try.func58, Try.ntmps58
        go_wp2_with (go_at_call 76; refine HB3.out.mono ?_; rintro e w1 ⟨rfl, hc1, hg1⟩)
        go_ret2
        exact Told.no _ HX.out (Kept.of_grown hg1 hB)
end

/-- What packed bytes mean, by what stands behind the number. -/
theorem unp_inside {s : List UInt8} {n k : Nat} (h : tk s = some (n, k)) (hn : ¬ 60000 < n) : unp s = match inside n (s.drop k) with
    | none => ([], 2)
    | some o => (o, 0) := by
  unfold unp
  rw [h]
  simp only
  rw [if_neg hn]
  unfold inside
  cases s.drop k with
  | nil => rfl
  | cons how rest =>
    simp only
    split
    · rfl
    · split
      · rfl
      · cases uRun (rest.length + 1) n 0 [] rest <;> rfl

set_option maxHeartbeats 4000000 in
theorem unpackOK : UnpackOK := fun s w hs => by
  have hn := Lib.hid (fun (W : World) => new_any s W)
  have hss : s = ⟨s.data.toList.toArray⟩ := by simp
  have hmx : s.size ≤ maxLen := by unfold maxLen; omega
  have hu := fun (W : World) (h : CurAt W w.heap.size s false) => cur_uint w.heap.size s false W hmx h
  have hll : s.data.toList.length = s.size := list_size s
  cases hk : tk s.data.toList with
  | none =>
    have e0 := uN_none hk
    rw [← hss] at e0
    rw [e0] at hu
    rw [unp_none hk]
    have HU := Lib.hid hu
    clear hu e0 hk hss hmx
    go_enter Try.func39, Try.ntmps39
    go_wp2_with (first
      | (go_at_call 41; refine (hn.out _).mono ?_; rintro e w1 ⟨rfl, hc1, hb1⟩)
      | (go_at_call 56; refine (HU.out _ hc1).mono ?_; rintro e w2 ⟨rfl, hc2, hg2⟩)
      | (go_at_call 57; refine (bad_any _ _ true _ hc2).mono ?_; rintro e w3 ⟨rfl, rfl⟩))
    go_ret2
    exact ⟨rfl, below_grown hb1 hg2 (Nat.le_refl _)⟩
  | some p =>
    obtain ⟨n, k⟩ := p
    have e0 := uN_some hk
    rw [← hss] at e0
    rw [e0] at hu
    have HU := Lib.hid hu
    have hn64 := (tk_some hk).2.1
    by_cases hbig : 60000 < n
    · rw [unp_long hk hbig]
      clear hu e0 hk hss hmx
      go_enter Try.func39, Try.ntmps39
      go_wp2_with (first
        | (go_at_call 41; refine (hn.out _).mono ?_; rintro e w1 ⟨rfl, hc1, hb1⟩)
        | (go_at_call 56; refine (HU.out _ hc1).mono ?_; rintro e w2 ⟨rfl, hc2, hg2⟩)
        | (go_at_call 57; refine (bad_any _ _ false _ hc2).mono ?_; rintro e w3 ⟨rfl, rfl⟩))
      go_ret2
      exact ⟨rfl, below_grown hb1 hg2 (Nat.le_refl _)⟩
    · have HI := Lib.hid (unp_inside hk hbig)
      obtain ⟨r, hr⟩ : ∃ r, r = s.data.toList.drop k := ⟨_, rfl⟩
      have hrl : r.length ≤ 100000 := by rw [hr, List.length_drop]; omega
      rw [← hr] at HI HU
      have HT := Lib.hid (fun (W : World) (hB : w.heap.size + 1 ≤ W.heap.size) (hc : CurL W w.heap.size r false) => takeBytes_any (w.heap.size + 1) w.heap.size n r (by omega) hrl W (Nat.lt_succ_self _) hB hc)
      have hwn : IntKind.i64.wrap (n : Int) = (n : Int) := by simp [IntKind.wrap, IntKind.bits, IntKind.signed]; omega
      clear hu e0 hk hss hmx hr hrl hll
      go_enter Try.func39, Try.ntmps39
      go_upto_region 7 with (first
        | (go_at_call 41; refine (hn.out _).mono ?_; rintro e w1 ⟨rfl, hc1, hb1⟩)
        | (go_at_call 56; refine (HU.out _ hc1).mono ?_; rintro e w2 ⟨rfl, hc2, hg2⟩)
        | (go_at_call 57; refine (bad_any _ _ false _ hc2).mono ?_; rintro e w3 ⟨rfl, rfl⟩))
      have HT2 := Lib.hid (HT.out w2 (Nat.succ_le_of_lt hc2.lt) hc2)
      have B2 := Lib.hid (below_grown hb1 hg2 (Nat.le_refl _))
      clear HT HU hc1 hb1 hc2 hg2
      go_upto_region 8 with (go_at_call 58; refine HT2.out.mono ?_; intro e w4 hp; obtain ⟨x, b, rfl, hst⟩ := hp.form; clear hp)
      rcases hst.out.split with ⟨rfl, hx, hk⟩ | ⟨o, r', rfl, rfl, hx, hr', hc4, hk⟩
      · have HX := Lib.hid hx
        have HK := Lib.hid hk
        clear hst hx hk
        go_wp2_with fail
        go_ret2
        rw [HI.out, HX.out]
        exact ⟨rfl, B2.out.trans (HK.out.below rfl)⟩
      · have HX := Lib.hid hx
        have HK := Lib.hid hk
        have hdn := done_any w.heap.size ⟨r'.toArray⟩ false w4 (by rw [arr_size]; unfold maxLen; omega) hc4
        by_cases hr0 : r' = []
        · subst hr0
          rw [show (!false && (⟨([] : List UInt8).toArray⟩ : ByteArray).size == 0) = true from rfl] at hdn
          have HD := Lib.hid hdn
          clear hst hx hk hdn hc4 hr'
          go_wp2_with (go_at_call 59; refine HD.out.mono ?_; rintro e w5 ⟨rfl, rfl⟩)
          go_ret2
          rw [HI.out, HX.out]
          exact ⟨rfl, B2.out.trans (HK.out.below rfl)⟩
        · rw [show (!false && (⟨r'.toArray⟩ : ByteArray).size == 0) = false by rw [arr_size]; simp; exact hr0] at hdn
          have HD := Lib.hid hdn
          have HX2 := Lib.hid (show fin o r' = none from if_neg hr0)
          clear hst hx hk hdn hc4 hr' hr0
          go_wp2_with (go_at_call 59; refine HD.out.mono ?_; rintro e w5 ⟨rfl, rfl⟩)
          go_ret2
          rw [HI.out, HX.out, HX2.out]
          exact ⟨rfl, B2.out.trans (HK.out.below rfl)⟩
end Go.Proofs.Ytdcefhhmddjodaa

namespace Go.Proofs.Ytdcefhhmddjodaa
open Go.RowKit
set_option linter.unnecessarySimpa false
set_option linter.unusedVariables false
set_option linter.unusedSimpArgs false
set_option maxRecDepth 100000

def filled (k i : Nat) (c : UInt8) : List UInt8 := cellsF k fun j => if j < i then c else 0
theorem filled_len (k i : Nat) (c : UInt8) : (filled k i c).length = k := cellsF_length _ _

end Go.Proofs.Ytdcefhhmddjodaa

namespace Go.Proofs.Ytdcefhhmddjodaa
open Go.RowKit
set_option linter.unusedVariables false
set_option linter.unnecessarySimpa false
set_option linter.unusedSimpArgs false
set_option maxRecDepth 100000

set_option maxHeartbeats 1000000 in
theorem packLong : PackLong := fun b w h1 h2 => by
  have hz : (60000 : Int) < (b.size : Int) := by omega
  go_enter Try.func46, Try.ntmps46
  go_wp2_with fail
  go_ret2
  exact ⟨rfl, Below.refl _ _⟩

theorem packed_in (b : ByteArray) (P : List UInt8) : (((⟨(ub b.size).toArray⟩ : ByteArray) ++ ⟨#[1]⟩) ++ ⟨P.toArray⟩).data.toList = ub b.size ++ 1 :: P := by simp
theorem packed_as (b : ByteArray) : (((⟨(ub b.size).toArray⟩ : ByteArray) ++ ⟨#[0]⟩) ++ b).data.toList = ub b.size ++ 0 :: b.data.toList := by simp

/-- What Pack makes of bytes. -/
noncomputable def packF (b : ByteArray) : ByteArray := if (partsF b).length < b.size then ⟨(ub b.size ++ 1 :: partsF b).toArray⟩ else ⟨(ub b.size ++ 0 :: b.data.toList).toArray⟩
set_option maxHeartbeats 4000000 in
theorem pack_is (b : ByteArray) (w : World) (hb : b.size ≤ 60000) : Calls Try.prog 46 #[.string b] w fun e w' => e = .returned (.tuple #[.string (packF b), .int .i64 0]) ∧ unp (packF b).data.toList = (b.data.toList, 0) ∧ (packF b).size ≤ b.size + 4 ∧ Below w.heap.size w w' := by
  have hz : ¬ (60000 : Int) < (b.size : Int) := by omega
  have hu := Lib.hid (fun W => uint_any b.size (by omega) W)
  have hp := Lib.hid (fun W => partsOf_any b hb W)
  have hul : (⟨(ub b.size).toArray⟩ : ByteArray).size ≤ 3 := by rw [arr_size]; exact ub_len 2 b.size (by omega)
  have HIN := Lib.hid (packed_in b)
  have HAS := Lib.hid (packed_as b)
  have hwb : IntKind.u64.wrap (b.size : Int) = (b.size : Int) := by simp [IntKind.wrap, IntKind.bits, IntKind.signed]; omega
  obtain ⟨U, hU⟩ : ∃ U : ByteArray, U = ⟨(ub b.size).toArray⟩ := ⟨_, rfl⟩
  rw [← hU] at hu hul HIN HAS
  clear hU
  go_enter Try.func46, Try.ntmps46
  go_upto_region 5 with (first
    | (go_at_call 62; refine (hu.out _).mono ?_; rintro e w1 ⟨rfl, hb1⟩)
    | (go_at_call 65; refine (hp.out _).mono ?_; rintro e w2 ⟨P, rfl, hg, hb2⟩))
  have HB := Lib.hid (hb1.trans (hb2.mono hb1.size))
  have hPs : (⟨P.toArray⟩ : ByteArray).size = P.length := arr_size P
  have HPK := Lib.hid (show packF b = if (⟨P.toArray⟩ : ByteArray).size < b.size then (U ++ ⟨#[1]⟩) ++ ⟨P.toArray⟩ else (U ++ ⟨#[0]⟩) ++ b by
    unfold packF
    rw [partsF_is hg.out.2.2, hPs]
    by_cases h : P.length < b.size
    · rw [if_pos h, if_pos h]; apply ba_ext; rw [HIN.out P]
    · rw [if_neg h, if_neg h]; apply ba_ext; rw [HAS.out])
  have hPl := hg.out.1
  obtain ⟨Q, hQ⟩ : ∃ Q : ByteArray, Q = ⟨P.toArray⟩ := ⟨_, rfl⟩
  have HIN2 := Lib.hid (HIN.out P)
  rw [← hQ] at hPs HIN2 HPK
  rw [← hQ]
  have HPS := Lib.hid hPs
  have hQ6 : Q.size ≤ 600000 := by omega
  clear hPs hPl hQ hb1 hb2 hp hu HIN
  by_cases hsh : Q.size < b.size
  · have hsz : (Q.size : Int) < (b.size : Int) := by omega
    have ha1 : U.size + 1 ≤ 9223372036854775807 := by omega
    have ha2 : (U ++ (⟨#[1]⟩ : ByteArray)).size + Q.size ≤ 9223372036854775807 := by rw [ByteArray.size_append]; show U.size + 1 + Q.size ≤ _; omega
    go_wp2_with fail
    go_ret2
    rw [HPK.out, if_pos hsh]
    refine ⟨rfl, ?_, ?_, HB.out⟩
    · rw [HIN2.out]; exact hg.out.2.1 (by omega)
    · rw [ByteArray.size_append, ByteArray.size_append]; show U.size + 1 + Q.size ≤ _; omega
  · have hsz : ¬ (Q.size : Int) < (b.size : Int) := by omega
    have ha1 : U.size + 1 ≤ 9223372036854775807 := by omega
    have ha2 : (U ++ (⟨#[0]⟩ : ByteArray)).size + b.size ≤ 9223372036854775807 := by rw [ByteArray.size_append]; show U.size + 1 + b.size ≤ _; omega
    go_wp2_with fail
    go_ret2
    rw [HPK.out, if_neg hsh]
    refine ⟨rfl, ?_, ?_, HB.out⟩
    · rw [HAS.out, Lib.size_eq]; exact unp_stored (by rw [← Lib.size_eq]; exact hb)
    · rw [ByteArray.size_append, ByteArray.size_append]; show U.size + 1 + b.size ≤ _; omega

theorem packOK : PackOK := fun b w hb => (pack_is b w hb).mono fun e w' ⟨h1, h2, h3, h4⟩ => ⟨packF b, h1, h2, h3, h4⟩
/-- What Pack makes is packed bytes of them. -/
theorem packF_ok (w : World) (b : ByteArray) (hb : b.size ≤ 60000) : unp (packF b).data.toList = (b.data.toList, 0) ∧ (packF b).size ≤ b.size + 4 := by
  obtain ⟨e, w', fr, ⟨_, h2, h3, _⟩, _⟩ := pack_is b w hb []
  exact ⟨h2, h3⟩

end Go.Proofs.Ytdcefhhmddjodaa

namespace Go.Proofs.Ytdcefhhmddjodaa
open Go.RowKit
set_option linter.unusedVariables false
set_option linter.unnecessarySimpa false
set_option linter.unusedSimpArgs false
set_option maxRecDepth 100000

/-- The image of a store: what Encode answers of its keys and chains. -/
noncomputable def imgS (L : List Im) : ByteArray := blkS (packF (insideS (entsM L)))
structure MvcD extends MvcC where
  image : ∀ {w r L O}, At w r L O → rightE (entsM L) = true → SmallE (entsM L) → (entsM L).length ≤ 1000 → (insideB (entsM L)).length ≤ 60000 →
    Calls Try.prog 23 #[.pointer (some r), .agg tab] w fun e w' => e = .returned (.tuple #[.string (imgS L), .int .i64 0]) ∧ Below w.heap.size w w'
  load : ∀ (w : World) (p : ByteArray) (es : List En), p.size ≤ 90000 → unp p.data.toList = (insideB es, 0) → rightE es = true → OkE es → shortKV es →
    Calls Try.prog 25 #[.agg tab, .string (blkS p)] w fun e w' => ∃ r O, e = .returned (.tuple #[.pointer (some r), .int .i64 0]) ∧ At w' r (flatE es) O ∧ Moves (fun _ => False) O w w'
  loadLong : ∀ (w : World) (p : ByteArray) (es : List En), p.size ≤ 90000 → unp p.data.toList = (insideB es, 0) → rightE es = true → OkE es → ¬ shortKV es →
    Calls Try.prog 25 #[.agg tab, .string (blkS p)] w fun e w' => e = .returned (.tuple #[.pointer none, .int .i64 2]) ∧ Below w.heap.size w w'
section
variable {S : MvcD} {w0 w w' : World} {B : Nat} {far : Nat → Prop} {r : Addr} {L : List Im}
theorem MSt.image (h : MSt S.toMvcC w0 B far r L w) (h1 : rightE (entsM L) = true) (h2 : SmallE (entsM L)) (h3 : (entsM L).length ≤ 1000) (h4 : (insideB (entsM L)).length ≤ 60000) :
    Calls Try.prog 23 #[.pointer (some r), .agg tab] w fun e w' => e = .returned (.tuple #[.string (imgS L), .int .i64 0]) ∧ MSt S.toMvcC w0 B far r L w' ∧ Below w.heap.size w w' := by
  obtain ⟨O, hat, _⟩ := id h
  exact (S.image hat h1 h2 h3 h4).mono fun e w' ⟨he, hb⟩ => ⟨he, h.later hb, hb⟩
theorem mst_load (S : MvcD) {w0 w : World} {B : Nat} {far : Nat → Prop} (hb : Below B w0 w) (hB : B ≤ w.heap.size) (hf : ∀ k, far k → k < w.heap.size) (p : ByteArray) (es : List En) (h1 : p.size ≤ 90000) (h2 : unp p.data.toList = (insideB es, 0)) (h3 : rightE es = true) (h4 : OkE es) (h5 : shortKV es) :
    Calls Try.prog 25 #[.agg tab, .string (blkS p)] w fun e w' => ∃ r, e = .returned (.tuple #[.pointer (some r), .int .i64 0]) ∧ MSt S.toMvcC w0 B far r (flatE es) w' ∧ Below w.heap.size w w' :=
  (S.load w p es h1 h2 h3 h4 h5).mono fun e w' ⟨r, O, he, h1, h2⟩ =>
    ⟨r, he, (MSt.step (S := S.toMvcC) (far := far) (O := fun _ => False) (fun k hk => hk.elim) hb hB hf h1 h2).1, ⟨h2.os, h2.tape, h2.output, h2.size, fun k hk => h2.block k hk (fun h => h)⟩⟩
end
end Go.Proofs.Ytdcefhhmddjodaa
