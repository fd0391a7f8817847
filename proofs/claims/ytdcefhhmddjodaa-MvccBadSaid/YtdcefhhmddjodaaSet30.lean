/-
  Joined: BlkPEnts, MvcPSt.
-/
import Derived.Test.YtdcefhhmddjodaaSet29
import Derived.Test.YtdcefhhmddjodaaSet07
import Derived.Test.YtdcefhhmddjodaaSet22
import Derived.OwnWalk
import Derived.Laws.OwnMore
import Derived.Test.YtdcefhhmddjodaaSet20
import Derived.Test.YtdcefhhmddjodaaSet26
namespace Go.Proofs.Ytdcefhhmddjodaa
open Go.RowKit
set_option linter.unusedVariables false
set_option linter.unnecessarySimpa false
set_option linter.unusedSimpArgs false
set_option maxRecDepth 100000

/-- Chains that are rows of the call's own, each in a block of its own. -/
def EOwn (W : World) (B : Nat) (l : List EP) : Prop := (∀ x ∈ l, W.ownsRow B 35 3 (.slice x.a x.n x.c) x.n (versC x.e.ch)) ∧ l.Pairwise (fun x y => ∀ p q : Addr, x.a = some p → y.a = some q → p.block ≠ q.block)
/-- Entries, all of them in new memory of the call's own. -/
def EntOwn (W : World) (B : Nat) (a : Option Addr) (n c : Nat) (es : List En) : Prop := ∃ l : List EP, accE l = es ∧ l.length = n ∧ W.ownsRow B 73 2 (.slice a n c) n (entC l) ∧ EPs W (.slice a n c) l ∧ EOwn W B l
theorem slice_block {a : Option Addr} {n c : Nat} {k : Nat} (h : (Value.slice a n c).ownBlock = some k) : ∃ p : Addr, a = some p ∧ p.block = k := by
  cases a with
  | none => cases h
  | some p => exact ⟨p, rfl, by injection h⟩
theorem eown_keep {W W' : World} {B : Nat} {l : List EP} (h : EOwn W B l) (hk : ∀ x ∈ l, W.ownsRow B 35 3 (.slice x.a x.n x.c) x.n (versC x.e.ch) → W'.ownsRow B 35 3 (.slice x.a x.n x.c) x.n (versC x.e.ch)) : EOwn W' B l := ⟨fun x hx => hk x hx (h.1 x hx), h.2⟩
/-- What takeEntries tells. -/
def InsEnd (g : Nat) (F : InsO) (w : World) (e : Ending) (w' : World) : Prop := w.grownBy w' (some g) ∧ match F with
  | .form => e = .returned (.tuple #[.slice none 0 0, .int .i64 2])
  | .long => e = .returned (.tuple #[.slice none 0 0, .int .i64 3])
  | .all es => ∃ a c, e = .returned (.tuple #[.slice a es.length c, .int .i64 0]) ∧ IsEnts w' a es.length c es ∧ EntOwn w' w.heap.size a es.length c es
theorem ins_form {g : Nat} {F : InsO} {w w' : World} (h : F = .form) (hg : w.grownBy w' (some g)) : InsEnd g F w (.returned (.tuple #[.slice none 0 0, .int .i64 2])) w' := by rw [h]; exact ⟨hg, rfl⟩
theorem ins_long {g : Nat} {F : InsO} {w w' : World} (h : F = .long) (hg : w.grownBy w' (some g)) : InsEnd g F w (.returned (.tuple #[.slice none 0 0, .int .i64 3])) w' := by rw [h]; exact ⟨hg, rfl⟩
theorem ins_all {g : Nat} {F : InsO} {es : List En} {w w' : World} {a : Option Addr} {n c : Nat} (h : F = .all es) (hn : es.length = n) (hv : IsEnts w' a n c es) (ho : EntOwn w' w.heap.size a n c es) (hg : w.grownBy w' (some g)) : InsEnd g F w (.returned (.tuple #[.slice a n c, .int .i64 0])) w' := by
  rw [h]; subst hn; exact ⟨hg, a, c, rfl, hv, ho⟩
theorem entR_none {m : Nat} {es : List En} {lg : Bool} {l : List UInt8} (h : tkEnt es l = none) : finE (entR (m + 1) es lg l) = .form := by rw [entR, h]; rfl
theorem entR_some {m : Nat} {es : List En} {lg lg' : Bool} {l r : List UInt8} {e : En} (h : tkEnt es l = some (e, lg', r)) : finE (entR (m + 1) es lg l) = finE (entR m (es ++ [e]) (lg || lg') r) := by rw [entR, h]

theorem eown_lower {W : World} {B m : Nat} {l : List EP} (h : EOwn W B l) (hm : m ≤ B) : EOwn W m l := ⟨fun x hx => own_lower (h.1 x hx) hm, h.2⟩
/-- What the loop keeps. -/
structure EntSt (w : World) (g P n : Nat) (F : InsO) (i m : Nat) (acc : List EP) (lg : Bool) (L : ByteArray) (bd : Bool) (a : Option Addr) (c : Nat) (W : World) : Prop where
  len : acc.length = i
  own : W.ownsRow P 73 2 (.slice a i c) i (entC acc)
  eps : EPs W (.slice a i c) acc
  ech : EOwn W P acc
  cur : CurAt W g L bd
  grown : w.grownBy W (some g)
  size : P ≤ W.heap.size
  out : (bd = true ∧ m = 0 ∧ F = .form) ∨ (bd = false ∧ F = finE (entR m (accE acc) lg L.data.toList))
theorem eps_grown {W W' : World} {g : Nat} {s : ByteArray} {bd : Bool} {v : Value} {l : List EP} (h : EPs W v l) (hc : CurAt W g s bd) (hg : W.grownBy W' (some g)) : EPs W' v l := fun x hx => ⟨(h x hx).1, vers_cur (h x hx).2.1 hc hg, fun p hp => ⟨((h x hx).2.2 p hp).1, Nat.lt_of_lt_of_le ((h x hx).2.2 p hp).2 hg.size⟩⟩

theorem grown_overO {w w1 w2 : World} {g : Nat} {r : Option Nat} (h : w.grownBy w1 (some g)) (hg : w1.grownBy w2 r) (hr : ∀ k, r = some k → w.heap.size ≤ k) : w.grownBy w2 (some g) :=
  ⟨hg.os.trans h.os, hg.tape.trans h.tape, hg.output.trans h.output, Nat.le_trans h.size hg.size, fun k hk hkg => (hg.block k (Nat.lt_of_lt_of_le hk h.size) (fun e => by have := hr k e.symm; omega)).trans (h.block k hk hkg)⟩
/-- One entry more. -/
theorem entSt_next {w wr w4 W w9 : World} {g P n i m : Nat} {F : InsO} {acc : List EP} {lg lg' : Bool} {L R : ByteArray} {a a4 a9 : Option Addr} {c m4 c4 c9 : Nat} {s : ByteArray} {ch : List Vr}
    (hS : EntSt w g P n F i (m + 1) acc lg L false a c wr) (hgP : g < P) (hPW : w.heap.size ≤ P) (hg4 : wr.grownBy w4 (some g)) (hb : Below w4.heap.size w4 W) (hv : IsVers w4 a4 m4 c4 ch) (ho4 : w4.ownsRow wr.heap.size 35 3 (.slice a4 m4 c4) m4 (versC ch))
    (hcur : CurAt w4 g R false) (hs : s.size ≤ 60000) (hF : F = finE (entR m (accE acc ++ [⟨s, ch⟩]) (lg || lg') R.data.toList))
    (hg9 : W.grownBy w9 (Value.slice a i c).ownBlock) (hk9 : ∀ k, (Value.slice a9 (i + 1) c9).ownBlock = some k → (Value.slice a i c).ownBlock = some k ∨ W.heap.size ≤ k)
    (hown9 : w9.ownsRow P 73 2 (.slice a9 (i + 1) c9) (i + 1) (entC acc ++ [.string s, .slice a4 m4 c4])) :
    EntSt w g P n F (i + 1) m (acc ++ [⟨⟨s, ch⟩, a4, m4, c4⟩]) (lg || lg') R false a9 c9 w9 := by
  have hlt := hS.own.lt
  have hf := own_new ho4 (Nat.le_refl _)
  have hsz1 := hg4.size
  have hsz2 := hb.size
  have hsz3 := hg9.size
  refine ⟨by rw [List.length_append, hS.len]; rfl, by rw [entC_snoc]; exact hown9, ?_, ⟨?_, ?_⟩, ?_, ?_, ?_, .inr ⟨rfl, by rw [accE_snoc]; exact hF⟩⟩
  · intro x hx
    rcases List.mem_append.1 hx with hx | hx
    · obtain ⟨k1, k2, k3⟩ := hS.eps x hx
      refine ⟨k1, vers_grownK (vers_bel (vers_cur k2 hS.cur hg4) hb) hg9 (fun p hp => (k3 p hp).1), fun p hp => ⟨fun e => ?_, by have := (k3 p hp).2; omega⟩⟩
      rcases hk9 _ e with h | h
      · exact (k3 p hp).1 h
      · have := (k3 p hp).2; omega
    · rw [List.mem_singleton.1 hx]
      refine ⟨hs, vers_grownK (vers_bel hv hb) hg9 (fun p hp e => ?_), fun p hp => ⟨fun e => ?_, by have := (hf p hp).2; omega⟩⟩
      · have h1 := (hlt _ e).2
        have h2 := (hf p hp).1
        omega
      · rcases hk9 _ e with h | h
        · have h1 := (hlt _ h).2
          have h2 := (hf p hp).1
          omega
        · have := (hf p hp).2; omega
  · intro x hx
    rcases List.mem_append.1 hx with hx | hx
    · refine (own_belowP (own_grown (hS.ech.1 x hx) hg4 hgP) hb).kept hg9 ?_
      cases hq : (Value.slice x.a x.n x.c).ownBlock with
      | none => exact .inl rfl
      | some k =>
        obtain ⟨p, hp, rfl⟩ := slice_block hq
        exact .inr (fun e => ((hS.eps x hx).2.2 p hp).1 e.symm)
    · rw [List.mem_singleton.1 hx]
      refine own_lower ((own_belowP ho4 hb).kept hg9 ?_) hS.size
      cases hq : (Value.slice a4 m4 c4).ownBlock with
      | none => exact .inl rfl
      | some k =>
        obtain ⟨p, hp, rfl⟩ := slice_block hq
        refine .inr (fun e => ?_)
        have h1 := (hlt _ e.symm).2
        have h2 := (hf p hp).1
        omega
  · refine List.pairwise_append.2 ⟨hS.ech.2, List.pairwise_singleton _ _, fun x hx y hy p q hp hq => ?_⟩
    rw [List.mem_singleton.1 hy] at hq
    have h1 := ((hS.eps x hx).2.2 p hp).2
    have h2 := (hf q hq).1
    omega
  · have hc2 := CurAt.kept hcur hb (CurAt.lt hcur)
    refine (hg9.block g (CurAt.lt hc2) (fun e => ?_)).trans hc2
    have := (hlt g e.symm).1
    omega
  · refine grown_overO (grownBy_trans (grownBy_trans hS.grown hg4) (grown_of_below hb)) hg9 (fun k hk => ?_)
    have := (hlt k hk).1
    omega
  · have := hS.size; omega

set_option maxHeartbeats 8000000 in
theorem takeEntries_any (g : Nat) (l : List UInt8) (w : World) (hl : l.length ≤ 60000) (hc : CurL w g l false) :
    Calls Try.prog 40 #[.pointer (some ⟨g, 0, none⟩)] w (InsEnd g (insD l) w) := by
  obtain ⟨F, hF⟩ : ∃ F, F = insD l := ⟨_, rfl⟩
  rw [← hF]
  obtain ⟨n, X, bad, hU⟩ : ∃ n X bad, cUint ⟨l.toArray⟩ false = (n, X, bad) := ⟨_, _, _, rfl⟩
  have hk := Lib.hid (cur_uint g ⟨l.toArray⟩ false w (by rw [arr_size]; unfold maxLen; omega) hc)
  rw [hU] at hk
  have hcu := cU_len ⟨l.toArray⟩ false
  rw [hU, arr_size l] at hcu
  simp only at hcu
  obtain ⟨hXs, hn64⟩ := hcu
  have hst : (bad = true ∧ n = 0 ∧ F = .form) ∨ (bad = false ∧ F = finE (entR n [] false X.data.toList)) := by
    cases h : tk l with
    | none =>
      rw [uN_none h] at hU
      cases hU
      exact .inl ⟨rfl, rfl, by rw [hF]; unfold insD; rw [h]⟩
    | some p =>
      obtain ⟨m, k⟩ := p
      rw [uN_some h] at hU
      cases hU
      exact .inr ⟨rfl, by rw [hF]; unfold insD; rw [h]⟩
  have hgl := CurL.lt hc
  clear hF hU hc
  have HST := Lib.hid hst
  clear hst
  go_enter Try.func40, Try.ntmps40
  go_upto_region 4 with (go_at_call 56; (with_reducible refine hk.out.mono ?_); rintro e w2 ⟨rfl, hc2, hg2⟩)
  obtain ⟨P, hP⟩ : ∃ P, P = w2.heap.size := ⟨_, rfl⟩
  have hgP : g < P := by have := hg2.size; omega
  have ST := Lib.hid (show EntSt w g P n F 0 n [] false X bad none 0 w2 from ⟨rfl, World.ownsRow_nil _ _ _ _, fun x hx => (by cases hx), ⟨fun x hx => (by cases hx), List.Pairwise.nil⟩, hc2, hg2, by omega, HST.out⟩)
  have HPW := Lib.hid (show w.heap.size ≤ P by rw [hP]; exact hg2.size)
  have hX6 : X.size ≤ 60000 := by omega
  obtain ⟨inf, hj, hy0, hy1, hy2⟩ := info_parts entInfoP
  clear hk hc2 hg2 hP hXs HST hgl
  go_wp2_with fail
  go_loopg [5, 6, 12] X.size (fun q s5 s6 s12 wx => ∃ (i m : Nat) (acc : List EP) (lg : Bool) (L : ByteArray) (bd : Bool) (a : Option Addr) (c : Nat), i + m = n ∧ s5 = .slice a i c ∧ s6 = .bool lg ∧ s12 = .int .u64 (i : Int) ∧
    L.size ≤ q ∧ i + L.size ≤ 60000 ∧ (lastS (accE acc)).size + L.size ≤ 60000 ∧ Hid (EntSt w g P n F i m acc lg L bd a c wx))
  case atStart => exact ⟨0, n, [], false, X, bad, none, 0, by omega, rfl, rfl, rfl, Nat.le_refl _, by omega, by show 0 + X.size ≤ 60000; omega, ST⟩
  case round =>
    obtain ⟨i, m, acc, lg, L, bd, a, c, him, rfl, rfl, rfl, hLq, hiL, hlast, hS⟩ := hrel
    have HE := Lib.hid (entC_ents hS.out.own hS.out.len (by omega) hS.out.eps)
    cases m with
    | zero =>
      obtain rfl : i = n := by omega
      have HD := Lib.hid (done_any g L bd wr (by unfold maxLen; omega) hS.out.cur)
      have HG := Lib.hid hS.out.grown
      have HOW := Lib.hid (show EntOwn wr w.heap.size a i c (accE acc) from ⟨acc, rfl, hS.out.len, own_lower hS.out.own HPW.out, hS.out.eps, eown_lower hS.out.ech HPW.out⟩)
      by_cases hfin : bd = false ∧ L.size = 0
      · obtain ⟨rfl, hL0⟩ := hfin
        have hx : F = if lg then .long else .all (accE acc) := by
          rcases hS.out.out with h | h
          · cases h.1
          · have e : L.data.toList = [] := by have := c_size L; rw [hL0] at this; exact List.eq_nil_of_length_eq_zero this
            rw [h.2, entR, e]; rfl
        have hd : (!false && L.size == 0) = true := by rw [hL0]; rfl
        rw [hd] at HD
        have hlen := Lib.hid (show (accE acc).length = i by unfold accE; rw [List.length_map]; exact hS.out.len)
        clear hd hL0 hS
        cases lg with
        | true =>
          have HX := Lib.hid (show F = .long from hx)
          clear hx
          go_wp2_with (go_at_call 59; (with_reducible refine HD.out.mono ?_); rintro e w4 ⟨rfl, rfl⟩)
          go_ret2
          exact ins_long HX.out HG.out
        | false =>
          have HX := Lib.hid (show F = .all (accE acc) from hx)
          clear hx
          go_wp2_with (go_at_call 59; (with_reducible refine HD.out.mono ?_); rintro e w4 ⟨rfl, rfl⟩)
          go_ret2
          exact ins_all HX.out hlen.out HE.out HOW.out HG.out
      · have HX := Lib.hid (show F = .form by
          rcases hS.out.out with h | h
          · exact h.2.2
          · have hne : ¬ L.size = 0 := fun e => hfin ⟨h.1, e⟩
            rw [h.2, entR]
            cases hll : L.data.toList with
            | nil => exfalso; have := c_size L; rw [hll] at this; exact hne this.symm
            | cons x r => rfl)
        have hd : (!bd && L.size == 0) = false := by
          cases bd with
          | true => rfl
          | false => simpa using hfin
        rw [hd] at HD
        clear hd hfin hS
        go_wp2_with (go_at_call 59; (with_reducible refine HD.out.mono ?_); rintro e w4 ⟨rfl, rfl⟩)
        go_ret2
        exact ins_form HX.out HG.out
    | succ m =>
      have hout2 : bd = false ∧ F = finE (entR (m + 1) (accE acc) lg L.data.toList) := by
        rcases hS.out.out with h | h
        · exact absurd h.2.1 (by omega)
        · exact h
      obtain ⟨rfl, hF⟩ := hout2
      have hin : i < n := by omega
      have hinz : (i : Int) < (n : Int) := by omega
      have HTE := Lib.hid (takeEntry_any g a i c (accE acc) L.data.toList wr HE.out (by omega) (by rw [c_size]; omega) (cur_list hS.out.cur))
      rw [c_size] at HTE
      have HVO := Lib.hid (show ∀ e w', EntOut g L.size (tkEnt (accE acc) L.data.toList) wr e w' → ∃ (s : ByteArray) (a4 : Option Addr) (m4 c4 : Nat) (k4 : Int), e = .returned (.tuple #[.agg #[.string s, .slice a4 m4 c4], .int .i64 k4]) ∧ Hid (wr.grownBy w' (some g)) ∧
          ((k4 = 2 ∧ Hid (F = .form)) ∨ ∃ (ch : List Vr) (lg' : Bool) (R : ByteArray), (k4 == 2) = false ∧ (k4 == 3) = lg' ∧ R.size < L.size ∧ s.size + R.size ≤ 60000 ∧ Hid (F = finE (entR m (accE acc ++ [⟨s, ch⟩]) (lg || lg') R.data.toList)) ∧ Hid (CurAt w' g R false) ∧ Hid (IsVers w' a4 m4 c4 ch) ∧ Hid (w'.ownsRow wr.heap.size 35 3 (.slice a4 m4 c4) m4 (versC ch))) from fun e w' h => by
        obtain ⟨s, a4, m4, c4, k4, rfl, hg, h⟩ := h
        refine ⟨s, a4, m4, c4, k4, rfl, Lib.hid hg, ?_⟩
        rcases h with ⟨rfl, hx⟩ | ⟨ch, lg', R, hk, hx, hcu, hRs, hv, hf⟩
        · exact .inl ⟨rfl, Lib.hid (hF.trans (entR_none hx))⟩
        · obtain ⟨b1, b2, _⟩ := tkEnt_len hx
          rw [c_size, c_size] at b1 b2
          refine .inr ⟨ch, lg', R, ?_, ?_, by omega, by simp only at b1; omega, Lib.hid (hF.trans (entR_some hx)), Lib.hid hcu, Lib.hid hv, Lib.hid hf⟩
          · rcases hk with ⟨_, rfl⟩ | ⟨_, rfl⟩ <;> rfl
          · rcases hk with ⟨rfl, rfl⟩ | ⟨rfl, rfl⟩ <;> rfl)
      clear hF
      go_upto_region 7 with (go_at_call 60; (with_reducible refine HTE.out.mono ?_); intro e w4 h4; obtain ⟨s, a4, m4, c4, k4, rfl, hg4, hor⟩ := HVO.out e w4 h4; clear h4)
      have hb5 := ((Below.refl w4.heap.size w4).alloc (Nat.le_refl _) (.cells #[.string s, .slice a4 m4 c4] 73))
      have hg5 := grownBy_trans hg4.out (grown_of_below (r := some g) hb5)
      have hr5 := heap_alloc_new w4 (.cells #[.string s, .slice a4 m4 c4] 73)
      have hs5 : (w4.alloc (.cells #[.string s, .slice a4 m4 c4] 73)).heap.size = w4.heap.size + 1 := by simp
      obtain ⟨v, hv⟩ : ∃ v, v = w4.heap.size := ⟨_, rfl⟩
      obtain ⟨w5, hw5⟩ : ∃ w5, w5 = w4.alloc (.cells #[.string s, .slice a4 m4 c4] 73) := ⟨_, rfl⟩
      rw [← hw5] at hb5 hg5 hr5 hs5 ⊢
      rw [← hv] at hr5 hs5 ⊢
      have HG5 := Lib.hid (grownBy_trans hS.out.grown hg5)
      have HR5 := Lib.hid hr5
      have HB5 := Lib.hid hb5
      have HGr5 := Lib.hid hg5
      have HV := Lib.hid hv
      have HS5 := Lib.hid hs5
      have HVR := Lib.hid (show wr.heap.size ≤ v by rw [hv]; exact hg4.out.size)
      clear hw5 hb5 hg5 hr5 hs5 hv HTE HVO
      rcases hor with ⟨rfl, HX⟩ | ⟨ch, lg', R, hk2, hk3, hRL, hsR, HX, HC, HVs, HFr⟩
      · clear hS
        go_wp2_with fail
        go_ret2
        exact ins_form HX.out HG5.out
      · go_upto_region 9 with fail
        go_cut [6] (fun s6 wc => s6 = .bool (lg || lg') ∧ wc = w5)
        case first =>
          cases lg with
          | true =>
            go_wp2_with fail
            go_meet
            case rel => exact ⟨rfl, rfl⟩
          | false =>
            go_wp2_with fail
            go_meet
            case rel => exact ⟨by simp, rfl⟩
        case rest =>
          obtain ⟨rfl, rfl⟩ := hcut
          obtain ⟨c0, c1⟩ := cells2 HR5.out
          have hc3 := Lib.hid (show ∀ (W : World), ∀ j u, [Value.string s, .slice a4 m4 c4][j]? = some u → (W.alloc (.cells #[.string s, .slice a4 m4 c4] 73)).cell? ((⟨W.heap.size, 0, none⟩ : Addr).add j) = some u from fun W j u h => by
            have hadd : (⟨W.heap.size, 0, none⟩ : Addr).add j = ⟨W.heap.size, j, none⟩ := by unfold Addr.add; split <;> simp_all
            rw [hadd, cell_of_row _ _ _ _ _ _ (heap_alloc_new W _)]
            simpa using h)
          have HO5 := own_grown hS.out.own HGr5.out hgP
          have q1 := Lib.hid (HO5.alloc (.cells #[.string s, .slice a4 m4 c4] 73))
          have q3 := Lib.hid (show ∀ u ∈ [Value.string s, .slice a4 m4 c4], u.oneCell' = true by simp [Value.oneCell'])
          have q4 := Lib.hid (show (i + 1) * 40 ≤ 140737488355328 by omega)
          have q5 := Lib.hid (show i + 1 ≤ maxLen by unfold maxLen; omega)
          have q6 := Lib.hid (show P ≤ (wc.alloc (.cells #[.string s, .slice a4 m4 c4] 73)).heap.size by simp; have := HS5.out; have := HVR.out; have := hS.out.size; omega)
          have q8 := Lib.hid (HB5.out.trans (((Below.refl wc.heap.size wc).alloc (Nat.le_refl _) (.cells #[.string s, .slice a4 m4 c4] 73)).mono HB5.out.size))
          have hs6 : s.size ≤ 60000 := by omega
          have hNX := Lib.hid (fun (w9 : World) (a9 : Option Addr) (c9 : Nat) => entSt_next (W := wc.alloc (.cells #[.string s, .slice a4 m4 c4] 73)) (w9 := w9) (a9 := a9) (c9 := c9) (lg' := lg') hS.out hgP HPW.out hg4.out q8.out HVs.out HFr.out HC.out hs6 HX.out)
          clear HO5 hS HVs HFr HC HX HE HS5 HVR HG5 HGr5 HB5 hk2 hk3 q8
          go_upto_region 11 with (at_builtin; refine wpList_append_own2 rfl _ _ 59 rfl P 73 inf (.agg #[.string ⟨#[]⟩, .slice none 0 0]) 2 40 Try.underlying59 hj hy0 hy1 hy2 rfl (by decide) (.slice a i c) i (entC acc) rfl q1.out ⟨wc.heap.size, 0, none⟩ 1 1 [.string s, .slice a4 m4 c4] rfl rfl (hc3.out wc) q3.out q5.out q4.out q6.out ?_; intro v9 w9 hown9 hg9 hk9; obtain ⟨g9, c9, rfl, _, _⟩ := own_slice hown9 (Nat.succ_pos i); have HN := Lib.hid (hNX.out w9 _ c9 hg9 hk9 hown9); clear hown9 hg9 hk9)
          clear hNX q1 q3 q4 q5 q6 hc3
          go_wp2_with fail
          go_roundg R.size
          case measure => omega
          case rel => exact ⟨i + 1, m, _, _, R, false, _, c9, by omega, rfl, rfl, by go_num, Nat.le_refl _, by omega, by rw [accE_snoc, lastS_snoc]; exact hsR, HN⟩
end Go.Proofs.Ytdcefhhmddjodaa

namespace Go.Proofs.Ytdcefhhmddjodaa
open Go.RowKit
set_option linter.unusedVariables false
set_option linter.unnecessarySimpa false
set_option linter.unusedSimpArgs false
set_option maxRecDepth 100000

theorem own_same {w w' : World} {B e size n : Nat} {v : Value} {xs : List Value} (h : w.ownsRow B e size v n xs) (hk : ∀ k, v.ownBlock = some k → w'.heap[k]? = w.heap[k]?) : w'.ownsRow B e size v n xs := by
  refine ⟨h.1, ?_⟩
  rcases h.2 with hn | ⟨g, cap, cur, rfl, hb, hgg, rest⟩
  · exact .inl hn
  · exact .inr ⟨g, cap, cur, rfl, hb, (hk g rfl).trans hgg, rest⟩
/-- An entry's chain: a row of its own, away from the row v of the entries and from the block b. -/
structure EPo (w : World) (b : Nat) (v : Value) (x : EP) : Prop where
  len : x.e.ch.length = x.n
  row : w.ownsRow 0 35 3 (.slice x.a x.n x.c) x.n (versC x.e.ch)
  far : ∀ p : Addr, x.a = some p → v.ownBlock ≠ some p.block ∧ p.block ≠ b
def Apart (x y : EP) : Prop := ∀ p q : Addr, x.a = some p → y.a = some q → p.block ≠ q.block
/-- The store at b, of the entries l. -/
structure StM (w : World) (r : Addr) (b : Nat) (a : Option Addr) (n c : Nat) (l : List EP) : Prop where
  ptr : r = ⟨b, 0, none⟩
  box : w.heap[b]? = some (.cells #[.slice a n c] 78 (0, 0))
  row : w.ownsRow 0 73 2 (.slice a n c) n (entC l)
  len : l.length = n
  big : n ≤ 100000
  each : ∀ x ∈ l, EPo w b (.slice a n c) x
  apart : l.Pairwise Apart
  nb : (Value.slice a n c).ownBlock ≠ some b
def stO (b : Nat) (a : Option Addr) (n c : Nat) (l : List EP) : Nat → Prop := fun k => k = b ∨ (Value.slice a n c).ownBlock = some k ∨ ∃ x ∈ l, ∃ p : Addr, x.a = some p ∧ p.block = k
/-- The store at r has the versions L. -/
def StAt (w : World) (r : Addr) (L : List Im) (O : Nat → Prop) : Prop := ∃ b a n c l, StM w r b a n c l ∧ accE l = entsM L ∧ GoodL L ∧ O = stO b a n c l
section
variable {w w' : World} {r : Addr} {b n c : Nat} {a : Option Addr} {l : List EP} {L : List Im} {O : Nat → Prop}
theorem StM.lt (h : StM w r b a n c l) : ∀ k, stO b a n c l k → k < w.heap.size := by
  rintro k (rfl | hk | ⟨x, hx, p, hp, rfl⟩)
  · exact (Array.getElem?_eq_some_iff.1 h.box).1
  · exact (h.row.lt k hk).2
  · refine ((h.each x hx).row.lt p.block ?_).2
    rw [hp]; rfl
theorem StM.stay (h : StM w r b a n c l) (hk : ∀ k, stO b a n c l k → w'.heap[k]? = w.heap[k]?) : StM w' r b a n c l :=
  ⟨h.ptr, (hk b (.inl rfl)).trans h.box, own_same h.row fun k e => hk k (.inr (.inl e)), h.len, h.big,
    fun x hx => ⟨(h.each x hx).len, own_same (h.each x hx).row fun k e => by obtain ⟨p, hp, rfl⟩ := slice_block e; exact hk _ (.inr (.inr ⟨x, hx, p, hp, rfl⟩)), (h.each x hx).far⟩, h.apart, h.nb⟩
theorem StM.below (h : StM w r b a n c l) (hb : Below w.heap.size w w') : StM w' r b a n c l := h.stay fun k hk => hb.block k (h.lt k hk)
theorem acc_mem {x : EP} (h : x ∈ l) (ha : accE l = entsM L) : x.e ∈ entsM L := by rw [← ha]; exact List.mem_map.2 ⟨x, h, rfl⟩
theorem StM.vers (h : StM w r b a n c l) (ha : accE l = entsM L) (hg : GoodL L) {x : EP} (hx : x ∈ l) : IsVers w x.a x.n x.c x.e.ch := by
  obtain ⟨h1, h2⟩ := ents_mem (acc_mem hx ha)
  have hc := chain_good hg x.e.key
  have hm := hg.many x.e.key
  rw [← h2] at hc hm
  have hl := (h.each x hx).len
  exact versC_vers (h.each x hx).row hl (by omega) (fun v hv => (hc v hv).2) (fun v hv => by have := (hc v hv).1; omega)
theorem StM.eps (h : StM w r b a n c l) (ha : accE l = entsM L) (hg : GoodL L) : EPs w (.slice a n c) l := fun x hx => by
  obtain ⟨h1, h2⟩ := ents_mem (acc_mem hx ha)
  refine ⟨by have := keys_good hg _ h1; omega, h.vers ha hg hx, fun p hp => ⟨((h.each x hx).far p hp).1, ((h.each x hx).row.lt p.block (by rw [hp]; rfl)).2⟩⟩
theorem StM.ents (h : StM w r b a n c l) (ha : accE l = entsM L) (hg : GoodL L) : IsEnts w a n c (entsM L) := by
  rw [← ha]
  exact entC_ents h.row h.len h.big (h.eps ha hg)
theorem StM.cell (h : StM w r b a n c l) : w.cell? ⟨b, 0, none⟩ = some (.slice a n c) := by rw [cell_of_row _ _ _ _ _ _ h.box]; rfl
theorem StM.frozen (h : StM w r b a n c l) (j : Nat) : w.frozen? ⟨b, j, none⟩ = false := frozen_of_row _ _ _ _ _ h.box
theorem acc_len (ha : accE l = entsM L) : (entsM L).length = l.length := by rw [← ha]; unfold accE; rw [List.length_map]
theorem acc_get (ha : accE l = entsM L) {i : Nat} (hi : i < l.length) : (entsM L).getD i en0 = (l[i]).e := by
  rw [← ha]
  unfold accE
  rw [List.getD, List.getElem?_map, List.getElem?_eq_getElem hi]
  rfl
/-- Where an entry lies. -/
theorem StM.at_ (h : StM w r b a n c l) {i : Nat} (hi : i < l.length) : ∃ g, a = some ⟨g, 0, none⟩ ∧ g < w.heap.size ∧ w.cell? ⟨g, i * 2, none⟩ = some (.string (l[i]).e.key) ∧ w.cell? ⟨g, i * 2 + 1, none⟩ = some (.slice (l[i]).a (l[i]).n (l[i]).c) ∧ (∀ j, w.frozen? ⟨g, j, none⟩ = false) := by
  have hn := h.len
  obtain ⟨g, cap, e, hg, hgl⟩ := own_slice h.row (by omega)
  injection e with e1 e2 e3
  subst e1 e3
  obtain ⟨h0, h1⟩ := entC_at l i _ (List.getElem?_eq_getElem hi)
  refine ⟨g, rfl, hgl, by rw [h.row.cellAt (i * 2) (by omega)]; exact h0, by rw [h.row.cellAt (i * 2 + 1) (by omega)]; exact h1, fun j => ?_⟩
  rcases h.row.2 with ⟨h', _⟩ | ⟨g', cap', cur, h', _, hg', _⟩
  · cases h'
  · cases h'
    exact frozen_of_row _ _ _ _ _ hg'
end
theorem StAt.lt {w : World} {r : Addr} {L : List Im} {O : Nat → Prop} (h : StAt w r L O) : ∀ k, O k → k < w.heap.size := by
  obtain ⟨b, a, n, c, l, h1, _, _, rfl⟩ := h
  exact h1.lt
theorem StAt.stay {w w' : World} {r : Addr} {L : List Im} {O : Nat → Prop} (h : StAt w r L O) (hk : ∀ k, O k → w'.heap[k]? = w.heap[k]?) : StAt w' r L O := by
  obtain ⟨b, a, n, c, l, h1, h2, h3, rfl⟩ := h
  exact ⟨b, a, n, c, l, h1.stay hk, h2, h3, rfl⟩
end Go.Proofs.Ytdcefhhmddjodaa
