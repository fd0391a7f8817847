/-
  The program's takeEntries.
-/
import Derived.Test.YtplobffkelmokaaBlkPEnt
import Derived.Test.YtplobffkelmokaaSet11
import Derived.OwnWalk
import Derived.Laws.OwnMore
namespace Go.Proofs.Ytplobffkelmokaa
open Go.RowKit
set_option linter.unusedVariables false
set_option linter.unnecessarySimpa false
set_option linter.unusedSimpArgs false
set_option maxRecDepth 100000

theorem wpList_append_own2 {P : Program} {ops : Array Oper} {rest : List Oper} {o : Oper} {a : Act} {w : World} {Q : Exit → Act → World → Prop} (hgd : o.guard = none) (s x : Operand) (t : TypeId)
    (ho : o.op = .call { callee := .builtin .append, args := #[s, x], argTypes := #[t, t] })
    (base : Nat) (e : TypeId) (i : TypeInfo) (z : Value) (size bytes : Nat) (ht : P.underlying t = some (.slice e)) (hi : P.info? e = some i) (hz : i.zero = some z)
    (hsize : i.size = size) (hby : i.bytes = bytes) (hzs : z.cells.size = size) (hsz : 0 < size)
    (v : Value) (n : Nat) (xs : List Value) (hs : a.eval s = v) (hown : w.ownsRow base e size v n xs)
    (ad : Addr) (m c : Nat) (news : List Value) (hx : a.eval x = .slice (some ad) m c) (hl : news.length = m * size) (hnews : ∀ j u, news[j]? = some u → w.cell? (ad.add j) = some u) (h1 : ∀ u ∈ news, u.oneCell' = true)
    (h63 : n + m ≤ maxLen) (hbytes : (n + m) * bytes ≤ 140737488355328) (hbase : base ≤ w.heap.size)
    (h : ∀ v' w', w'.ownsRow base e size v' (n + m) (xs ++ news) → w.grownBy w' v.ownBlock → (∀ k, v'.ownBlock = some k → v.ownBlock = some k ∨ w.heap.size ≤ k) → wpList P ops Q rest (a.put o.dst v') w') :
    wpList P ops Q (o :: rest) a w := by
  refine wpList_plain hgd fun K hK => ?_
  obtain ⟨v', w', hr, h2, h3, h4⟩ := run_append_own2 (P := P) w base t o.type e i z size bytes ht hi hz hsize hby hzs hsz v n xs hown ad m c news hl hnews h1 h63 hbytes hbase
  unfold Oper.wp execOp
  simp only [ho, resolve, invoke, builtin, Sem.run_bind, Sem.run_pure, Result.andThen_ok, List.map_toArray, List.map_cons, List.map_nil, hs, hx, hr]
  exact hK _ _ (h v' w' h2 h3 h4)

/-- An entry that was taken, and its chain's slice. -/
structure EP where
  e : En
  a : Option Addr
  n : Nat
  c : Nat
def entC (l : List EP) : List Value := l.flatMap fun x => [.string x.e.key, .slice x.a x.n x.c]
theorem entC_len : ∀ l : List EP, (entC l).length = l.length * 2
  | [] => rfl
  | v :: l => by
    have := entC_len l
    unfold entC at this ⊢
    rw [List.flatMap_cons, List.length_append, this, List.length_cons]
    simp; omega
theorem entC_snoc (l : List EP) (v : EP) : entC (l ++ [v]) = entC l ++ [.string v.e.key, .slice v.a v.n v.c] := by simp [entC]
theorem entC_at : ∀ (l : List EP) (i : Nat) (x : EP), l[i]? = some x → (entC l)[i * 2]? = some (.string x.e.key) ∧ (entC l)[i * 2 + 1]? = some (.slice x.a x.n x.c)
  | [], i, x, h => by simp at h
  | v :: l, 0, x, h => by
    have : v = x := by simpa using h
    subst this
    exact ⟨rfl, rfl⟩
  | v :: l, i + 1, x, h => by
    have := entC_at l i x (by simpa using h)
    have e : entC (v :: l) = [.string v.e.key, .slice v.a v.n v.c] ++ entC l := by simp [entC]
    rw [e, show (i + 1) * 2 = 2 + i * 2 by omega, show 2 + i * 2 + 1 = 2 + (i * 2 + 1) by omega]
    refine ⟨?_, ?_⟩
    · rw [List.getElem?_append_right (by simp)]; simpa using this.1
    · rw [List.getElem?_append_right (by simp)]; simpa using this.2
def accE (l : List EP) : List En := l.map (·.e)
theorem accE_snoc (l : List EP) (x : EP) : accE (l ++ [x]) = accE l ++ [x.e] := by simp [accE]
/-- Entries that were taken, with chains that no row's block holds. -/
def EPs (W : World) (v : Value) (l : List EP) : Prop := ∀ x ∈ l, x.e.key.size ≤ 60000 ∧ IsVers W x.a x.n x.c x.e.ch ∧ ∀ p : Addr, x.a = some p → v.ownBlock ≠ some p.block ∧ p.block < W.heap.size
theorem entC_ents {w : World} {B n c : Nat} {a : Option Addr} {l : List EP} (h : w.ownsRow B 48 2 (.slice a n c) n (entC l)) (hn : l.length = n) (hl : n ≤ 100000) (hv : EPs w (.slice a n c) l) : IsEnts w a n c (accE l) := by
  have hcap : n ≤ c := by
    rcases h.2 with ⟨h1, h2⟩ | ⟨g, cap, cur, h1, _, _, h2, _⟩
    · omega
    · injection h1 with _ _ h1; omega
  refine ⟨⟨by unfold accE; rw [List.length_map, hn], fun i hi => ?_⟩, by unfold maxLen; omega, hcap⟩
  obtain ⟨g, cap, e, hg, hgl⟩ := own_slice h (by omega)
  injection e with e1 e2 e3
  subst e1 e3
  have hil : i < l.length := by omega
  have hx : l[i]? = some l[i] := List.getElem?_eq_getElem hil
  obtain ⟨h0, h1⟩ := entC_at l i _ hx
  obtain ⟨k1, k2, _⟩ := hv _ (List.getElem_mem hil)
  have he : (accE l).getD i en0 = (l[i]).e := by unfold accE; rw [List.getD, List.getElem?_map, hx]; rfl
  rw [he]
  refine ⟨g, 0, rfl, hgl, by unfold maxLen; omega, ?_, l[i].a, l[i].n, l[i].c, ?_, k2⟩
  · rw [Nat.zero_add, h.cellAt (i * 2) (by omega)]; exact h0
  · rw [Nat.zero_add, h.cellAt (i * 2 + 1) (by omega)]; exact h1
theorem vers_grownK {w w' : World} {r : Option Nat} {a : Option Addr} {len cap : Nat} {zs : List Vr} (h : IsVers w a len cap zs) (hg : w.grownBy w' r) (hr : ∀ p : Addr, a = some p → r ≠ some p.block) : IsVers w' a len cap zs := by
  refine ⟨⟨h.1.1, fun i hi => ?_⟩, h.2⟩
  obtain ⟨b, off, ha, hlt, h1, h2, h3, h4, h5⟩ := h.1.2 i hi
  have hb : w'.heap[b]? = w.heap[b]? := hg.block b hlt (fun e => hr _ ha e.symm)
  have key : ∀ k, w'.cell? ⟨b, k, none⟩ = w.cell? ⟨b, k, none⟩ := fun k => by unfold World.cell?; rw [hb]
  exact ⟨b, off, ha, Nat.lt_of_lt_of_le hlt hg.size, h1, h2, (key _).trans h3, (key _).trans h4, (key _).trans h5⟩
theorem entInfoP : (Try.prog.info? 48).map (fun i => (i.zero, i.size, i.bytes)) = some (some (.agg #[.string ⟨#[]⟩, .slice none 0 0]), 2, 40) := by kernel_rfl

/-- What takeEntries tells. -/
def InsEnd (g : Nat) (F : InsO) (w : World) (e : Ending) (w' : World) : Prop := w.grownBy w' (some g) ∧ match F with
  | .form => e = .returned (.tuple #[.slice none 0 0, .int .i64 2])
  | .long => e = .returned (.tuple #[.slice none 0 0, .int .i64 3])
  | .all es => ∃ a c, e = .returned (.tuple #[.slice a es.length c, .int .i64 0]) ∧ IsEnts w' a es.length c es
theorem ins_form {g : Nat} {F : InsO} {w w' : World} (h : F = .form) (hg : w.grownBy w' (some g)) : InsEnd g F w (.returned (.tuple #[.slice none 0 0, .int .i64 2])) w' := by rw [h]; exact ⟨hg, rfl⟩
theorem ins_long {g : Nat} {F : InsO} {w w' : World} (h : F = .long) (hg : w.grownBy w' (some g)) : InsEnd g F w (.returned (.tuple #[.slice none 0 0, .int .i64 3])) w' := by rw [h]; exact ⟨hg, rfl⟩
theorem ins_all {g : Nat} {F : InsO} {es : List En} {w w' : World} {a : Option Addr} {n c : Nat} (h : F = .all es) (hn : es.length = n) (hv : IsEnts w' a n c es) (hg : w.grownBy w' (some g)) : InsEnd g F w (.returned (.tuple #[.slice a n c, .int .i64 0])) w' := by
  rw [h]; subst hn; exact ⟨hg, a, c, rfl, hv⟩
theorem entR_none {m : Nat} {es : List En} {lg : Bool} {l : List UInt8} (h : tkEnt es l = none) : finE (entR (m + 1) es lg l) = .form := by rw [entR, h]; rfl
theorem entR_some {m : Nat} {es : List En} {lg lg' : Bool} {l r : List UInt8} {e : En} (h : tkEnt es l = some (e, lg', r)) : finE (entR (m + 1) es lg l) = finE (entR m (es ++ [e]) (lg || lg') r) := by rw [entR, h]

/-- What the loop keeps. -/
structure EntSt (w : World) (g P n : Nat) (F : InsO) (i m : Nat) (acc : List EP) (lg : Bool) (L : ByteArray) (bd : Bool) (a : Option Addr) (c : Nat) (W : World) : Prop where
  len : acc.length = i
  own : W.ownsRow P 48 2 (.slice a i c) i (entC acc)
  eps : EPs W (.slice a i c) acc
  cur : CurAt W g L bd
  grown : w.grownBy W (some g)
  size : P ≤ W.heap.size
  out : (bd = true ∧ m = 0 ∧ F = .form) ∨ (bd = false ∧ F = finE (entR m (accE acc) lg L.data.toList))
theorem eps_grown {W W' : World} {g : Nat} {s : ByteArray} {bd : Bool} {v : Value} {l : List EP} (h : EPs W v l) (hc : CurAt W g s bd) (hg : W.grownBy W' (some g)) : EPs W' v l := fun x hx => ⟨(h x hx).1, vers_cur (h x hx).2.1 hc hg, fun p hp => ⟨((h x hx).2.2 p hp).1, Nat.lt_of_lt_of_le ((h x hx).2.2 p hp).2 hg.size⟩⟩
theorem eps_below {W W' : World} {v : Value} {l : List EP} (h : EPs W v l) (hb : Below W.heap.size W W') : EPs W' v l := fun x hx => ⟨(h x hx).1, vers_bel (h x hx).2.1 hb, fun p hp => ⟨((h x hx).2.2 p hp).1, Nat.lt_of_lt_of_le ((h x hx).2.2 p hp).2 hb.size⟩⟩

theorem grown_overO {w w1 w2 : World} {g : Nat} {r : Option Nat} (h : w.grownBy w1 (some g)) (hg : w1.grownBy w2 r) (hr : ∀ k, r = some k → w.heap.size ≤ k) : w.grownBy w2 (some g) :=
  ⟨hg.os.trans h.os, hg.tape.trans h.tape, hg.output.trans h.output, Nat.le_trans h.size hg.size, fun k hk hkg => (hg.block k (Nat.lt_of_lt_of_le hk h.size) (fun e => by have := hr k e.symm; omega)).trans (h.block k hk hkg)⟩
/-- One entry more. -/
theorem entSt_next {w wr w4 W w9 : World} {g P n i m : Nat} {F : InsO} {acc : List EP} {lg lg' : Bool} {L R : ByteArray} {a a4 a9 : Option Addr} {c m4 c4 c9 : Nat} {s : ByteArray} {ch : List Vr}
    (hS : EntSt w g P n F i (m + 1) acc lg L false a c wr) (hgP : g < P) (hPW : w.heap.size ≤ P) (hg4 : wr.grownBy w4 (some g)) (hb : Below w4.heap.size w4 W) (hv : IsVers w4 a4 m4 c4 ch) (hf : ∀ p : Addr, a4 = some p → wr.heap.size ≤ p.block ∧ p.block < w4.heap.size)
    (hcur : CurAt w4 g R false) (hs : s.size ≤ 60000) (hF : F = finE (entR m (accE acc ++ [⟨s, ch⟩]) (lg || lg') R.data.toList))
    (hg9 : W.grownBy w9 (Value.slice a i c).ownBlock) (hk9 : ∀ k, (Value.slice a9 (i + 1) c9).ownBlock = some k → (Value.slice a i c).ownBlock = some k ∨ W.heap.size ≤ k)
    (hown9 : w9.ownsRow P 48 2 (.slice a9 (i + 1) c9) (i + 1) (entC acc ++ [.string s, .slice a4 m4 c4])) :
    EntSt w g P n F (i + 1) m (acc ++ [⟨⟨s, ch⟩, a4, m4, c4⟩]) (lg || lg') R false a9 c9 w9 := by
  have hlt := hS.own.lt
  have hsz1 := hg4.size
  have hsz2 := hb.size
  have hsz3 := hg9.size
  refine ⟨by rw [List.length_append, hS.len]; rfl, by rw [entC_snoc]; exact hown9, ?_, ?_, ?_, ?_, .inr ⟨rfl, by rw [accE_snoc]; exact hF⟩⟩
  · intro x hx
    rcases List.mem_append.1 hx with hx | hx
    · obtain ⟨k1, k2, k3⟩ := hS.eps x hx
      refine ⟨k1, vers_grownK (vers_bel (vers_cur k2 hS.cur hg4) hb) hg9 (fun p hp => (k3 p hp).1), fun p hp => ⟨fun e => ?_, by have := (k3 p hp).2; omega⟩⟩
      rcases hk9 _ e with h | h
      · exact (k3 p hp).1 h
      · have := (k3 p hp).2; omega
    · rw [List.mem_singleton.1 hx]
      refine ⟨hs, vers_grownK (vers_bel hv hb) hg9 (fun p hp e => ?_), fun p hp => ⟨fun e => ?_, by have := (hf p hp).2; omega⟩⟩
      · have h1 := (hlt _ e).2
        have h2 := (hf p hp).1
        omega
      · rcases hk9 _ e with h | h
        · have h1 := (hlt _ h).2
          have h2 := (hf p hp).1
          omega
        · have := (hf p hp).2; omega
  · have hc2 := CurAt.kept hcur hb (CurAt.lt hcur)
    refine (hg9.block g (CurAt.lt hc2) (fun e => ?_)).trans hc2
    have := (hlt g e.symm).1
    omega
  · refine grown_overO (grownBy_trans (grownBy_trans hS.grown hg4) (grown_of_below hb)) hg9 (fun k hk => ?_)
    have := (hlt k hk).1
    omega
  · have := hS.size; omega

set_option maxHeartbeats 8000000 in
theorem takeEntries_any (g : Nat) (l : List UInt8) (w : World) (hl : l.length ≤ 60000) (hc : CurL w g l false) :
    Calls Try.prog 32 #[.pointer (some ⟨g, 0, none⟩)] w (InsEnd g (insD l) w) := by
  obtain ⟨F, hF⟩ : ∃ F, F = insD l := ⟨_, rfl⟩
  rw [← hF]
  obtain ⟨n, X, bad, hU⟩ : ∃ n X bad, cUint ⟨l.toArray⟩ false = (n, X, bad) := ⟨_, _, _, rfl⟩
  have hk := Lib.hid (cur_uint g ⟨l.toArray⟩ false w (by rw [arr_size]; unfold maxLen; omega) hc)
  rw [hU] at hk
  have hcu := cU_len ⟨l.toArray⟩ false
  rw [hU, arr_size l] at hcu
  simp only at hcu
  obtain ⟨hXs, hn64⟩ := hcu
  have hst : (bad = true ∧ n = 0 ∧ F = .form) ∨ (bad = false ∧ F = finE (entR n [] false X.data.toList)) := by
    cases h : tk l with
    | none =>
      rw [uN_none h] at hU
      cases hU
      exact .inl ⟨rfl, rfl, by rw [hF]; unfold insD; rw [h]⟩
    | some p =>
      obtain ⟨m, k⟩ := p
      rw [uN_some h] at hU
      cases hU
      exact .inr ⟨rfl, by rw [hF]; unfold insD; rw [h]⟩
  have hgl := CurL.lt hc
  clear hF hU hc
  have HST := Lib.hid hst
  clear hst
  go_enter Try.func32, Try.ntmps32
  go_upto_region 4 with (go_at_call 49; (with_reducible refine hk.out.mono ?_); rintro e w2 ⟨rfl, hc2, hg2⟩)
  obtain ⟨P, hP⟩ : ∃ P, P = w2.heap.size := ⟨_, rfl⟩
  have hgP : g < P := by have := hg2.size; omega
  have ST := Lib.hid (show EntSt w g P n F 0 n [] false X bad none 0 w2 from ⟨rfl, World.ownsRow_nil _ _ _ _, fun x hx => (by cases hx), hc2, hg2, by omega, HST.out⟩)
  have HPW := Lib.hid (show w.heap.size ≤ P by rw [hP]; exact hg2.size)
  have hX6 : X.size ≤ 60000 := by omega
  obtain ⟨inf, hj, hy0, hy1, hy2⟩ := info_parts entInfoP
  clear hk hc2 hg2 hP hXs HST hgl
  go_wp2_with fail
  go_loopg [5, 6, 12] X.size (fun q s5 s6 s12 wx => ∃ (i m : Nat) (acc : List EP) (lg : Bool) (L : ByteArray) (bd : Bool) (a : Option Addr) (c : Nat), i + m = n ∧ s5 = .slice a i c ∧ s6 = .bool lg ∧ s12 = .int .u64 (i : Int) ∧
    L.size ≤ q ∧ i + L.size ≤ 60000 ∧ (lastS (accE acc)).size + L.size ≤ 60000 ∧ Hid (EntSt w g P n F i m acc lg L bd a c wx))
  case atStart => exact ⟨0, n, [], false, X, bad, none, 0, by omega, rfl, rfl, rfl, Nat.le_refl _, by omega, by show 0 + X.size ≤ 60000; omega, ST⟩
  case round =>
    obtain ⟨i, m, acc, lg, L, bd, a, c, him, rfl, rfl, rfl, hLq, hiL, hlast, hS⟩ := hrel
    have HE := Lib.hid (entC_ents hS.out.own hS.out.len (by omega) hS.out.eps)
    cases m with
    | zero =>
      obtain rfl : i = n := by omega
      have HD := Lib.hid (done_any g L bd wr (by unfold maxLen; omega) hS.out.cur)
      have HG := Lib.hid hS.out.grown
      by_cases hfin : bd = false ∧ L.size = 0
      · obtain ⟨rfl, hL0⟩ := hfin
        have hx : F = if lg then .long else .all (accE acc) := by
          rcases hS.out.out with h | h
          · cases h.1
          · have e : L.data.toList = [] := by have := c_size L; rw [hL0] at this; exact List.eq_nil_of_length_eq_zero this
            rw [h.2, entR, e]; rfl
        have hd : (!false && L.size == 0) = true := by rw [hL0]; rfl
        rw [hd] at HD
        have hlen := Lib.hid (show (accE acc).length = i by unfold accE; rw [List.length_map]; exact hS.out.len)
        clear hd hL0 hS
        cases lg with
        | true =>
          have HX := Lib.hid (show F = .long from hx)
          clear hx
          go_wp2_with (go_at_call 52; (with_reducible refine HD.out.mono ?_); rintro e w4 ⟨rfl, rfl⟩)
          go_ret2
          exact ins_long HX.out HG.out
        | false =>
          have HX := Lib.hid (show F = .all (accE acc) from hx)
          clear hx
          go_wp2_with (go_at_call 52; (with_reducible refine HD.out.mono ?_); rintro e w4 ⟨rfl, rfl⟩)
          go_ret2
          exact ins_all HX.out hlen.out HE.out HG.out
      · have HX := Lib.hid (show F = .form by
          rcases hS.out.out with h | h
          · exact h.2.2
          · have hne : ¬ L.size = 0 := fun e => hfin ⟨h.1, e⟩
            rw [h.2, entR]
            cases hll : L.data.toList with
            | nil => exfalso; have := c_size L; rw [hll] at this; exact hne this.symm
            | cons x r => rfl)
        have hd : (!bd && L.size == 0) = false := by
          cases bd with
          | true => rfl
          | false => simpa using hfin
        rw [hd] at HD
        clear hd hfin hS
        go_wp2_with (go_at_call 52; (with_reducible refine HD.out.mono ?_); rintro e w4 ⟨rfl, rfl⟩)
        go_ret2
        exact ins_form HX.out HG.out
    | succ m =>
      have hout2 : bd = false ∧ F = finE (entR (m + 1) (accE acc) lg L.data.toList) := by
        rcases hS.out.out with h | h
        · exact absurd h.2.1 (by omega)
        · exact h
      obtain ⟨rfl, hF⟩ := hout2
      have hin : i < n := by omega
      have hinz : (i : Int) < (n : Int) := by omega
      have HTE := Lib.hid (takeEntry_any g a i c (accE acc) L.data.toList wr HE.out (by omega) (by rw [c_size]; omega) (cur_list hS.out.cur))
      rw [c_size] at HTE
      have HVO := Lib.hid (show ∀ e w', EntOut g L.size (tkEnt (accE acc) L.data.toList) wr e w' → ∃ (s : ByteArray) (a4 : Option Addr) (m4 c4 : Nat) (k4 : Int), e = .returned (.tuple #[.agg #[.string s, .slice a4 m4 c4], .int .i64 k4]) ∧ Hid (wr.grownBy w' (some g)) ∧
          ((k4 = 2 ∧ Hid (F = .form)) ∨ ∃ (ch : List Vr) (lg' : Bool) (R : ByteArray), (k4 == 2) = false ∧ (k4 == 3) = lg' ∧ R.size < L.size ∧ s.size + R.size ≤ 60000 ∧ Hid (F = finE (entR m (accE acc ++ [⟨s, ch⟩]) (lg || lg') R.data.toList)) ∧ Hid (CurAt w' g R false) ∧ Hid (IsVers w' a4 m4 c4 ch) ∧ Hid (∀ p : Addr, a4 = some p → wr.heap.size ≤ p.block ∧ p.block < w'.heap.size)) from fun e w' h => by
        obtain ⟨s, a4, m4, c4, k4, rfl, hg, h⟩ := h
        refine ⟨s, a4, m4, c4, k4, rfl, Lib.hid hg, ?_⟩
        rcases h with ⟨rfl, hx⟩ | ⟨ch, lg', R, hk, hx, hcu, hRs, hv, hf⟩
        · exact .inl ⟨rfl, Lib.hid (hF.trans (entR_none hx))⟩
        · obtain ⟨b1, b2, _⟩ := tkEnt_len hx
          rw [c_size, c_size] at b1 b2
          refine .inr ⟨ch, lg', R, ?_, ?_, by omega, by simp only at b1; omega, Lib.hid (hF.trans (entR_some hx)), Lib.hid hcu, Lib.hid hv, Lib.hid hf⟩
          · rcases hk with ⟨_, rfl⟩ | ⟨_, rfl⟩ <;> rfl
          · rcases hk with ⟨rfl, rfl⟩ | ⟨rfl, rfl⟩ <;> rfl)
      clear hF
      go_upto_region 7 with (go_at_call 53; (with_reducible refine HTE.out.mono ?_); intro e w4 h4; obtain ⟨s, a4, m4, c4, k4, rfl, hg4, hor⟩ := HVO.out e w4 h4; clear h4)
      have hb5 := ((Below.refl w4.heap.size w4).alloc (Nat.le_refl _) (.cells #[.string s, .slice a4 m4 c4] 48))
      have hg5 := grownBy_trans hg4.out (grown_of_below (r := some g) hb5)
      have hr5 := heap_alloc_new w4 (.cells #[.string s, .slice a4 m4 c4] 48)
      have hs5 : (w4.alloc (.cells #[.string s, .slice a4 m4 c4] 48)).heap.size = w4.heap.size + 1 := by simp
      obtain ⟨v, hv⟩ : ∃ v, v = w4.heap.size := ⟨_, rfl⟩
      obtain ⟨w5, hw5⟩ : ∃ w5, w5 = w4.alloc (.cells #[.string s, .slice a4 m4 c4] 48) := ⟨_, rfl⟩
      rw [← hw5] at hb5 hg5 hr5 hs5 ⊢
      rw [← hv] at hr5 hs5 ⊢
      have HG5 := Lib.hid (grownBy_trans hS.out.grown hg5)
      have HR5 := Lib.hid hr5
      have HB5 := Lib.hid hb5
      have HGr5 := Lib.hid hg5
      have HV := Lib.hid hv
      have HS5 := Lib.hid hs5
      have HVR := Lib.hid (show wr.heap.size ≤ v by rw [hv]; exact hg4.out.size)
      clear hw5 hb5 hg5 hr5 hs5 hv HTE HVO
      rcases hor with ⟨rfl, HX⟩ | ⟨ch, lg', R, hk2, hk3, hRL, hsR, HX, HC, HVs, HFr⟩
      · clear hS
        go_wp2_with fail
        go_ret2
        exact ins_form HX.out HG5.out
      · go_upto_region 9 with fail
        go_cut [6] (fun s6 wc => s6 = .bool (lg || lg') ∧ wc = w5)
        case first =>
          cases lg with
          | true =>
            go_wp2_with fail
            go_meet
            case rel => exact ⟨rfl, rfl⟩
          | false =>
            go_wp2_with fail
            go_meet
            case rel => exact ⟨by simp, rfl⟩
        case rest =>
          obtain ⟨rfl, rfl⟩ := hcut
          obtain ⟨c0, c1⟩ := cells2 HR5.out
          have hc3 := Lib.hid (show ∀ (W : World), ∀ j u, [Value.string s, .slice a4 m4 c4][j]? = some u → (W.alloc (.cells #[.string s, .slice a4 m4 c4] 48)).cell? ((⟨W.heap.size, 0, none⟩ : Addr).add j) = some u from fun W j u h => by
            have hadd : (⟨W.heap.size, 0, none⟩ : Addr).add j = ⟨W.heap.size, j, none⟩ := by unfold Addr.add; split <;> simp_all
            rw [hadd, cell_of_row _ _ _ _ _ _ (heap_alloc_new W _)]
            simpa using h)
          have HO5 := own_grown hS.out.own HGr5.out hgP
          have q1 := Lib.hid (HO5.alloc (.cells #[.string s, .slice a4 m4 c4] 48))
          have q3 := Lib.hid (show ∀ u ∈ [Value.string s, .slice a4 m4 c4], u.oneCell' = true by simp [Value.oneCell'])
          have q4 := Lib.hid (show (i + 1) * 40 ≤ 140737488355328 by omega)
          have q5 := Lib.hid (show i + 1 ≤ maxLen by unfold maxLen; omega)
          have q6 := Lib.hid (show P ≤ (wc.alloc (.cells #[.string s, .slice a4 m4 c4] 48)).heap.size by simp; have := HS5.out; have := HVR.out; have := hS.out.size; omega)
          have q8 := Lib.hid (HB5.out.trans (((Below.refl wc.heap.size wc).alloc (Nat.le_refl _) (.cells #[.string s, .slice a4 m4 c4] 48)).mono HB5.out.size))
          have hs6 : s.size ≤ 60000 := by omega
          have hNX := Lib.hid (fun (w9 : World) (a9 : Option Addr) (c9 : Nat) => entSt_next (W := wc.alloc (.cells #[.string s, .slice a4 m4 c4] 48)) (w9 := w9) (a9 := a9) (c9 := c9) (lg' := lg') hS.out hgP HPW.out hg4.out q8.out HVs.out HFr.out HC.out hs6 HX.out)
          clear HO5 hS HVs HFr HC HX HE HS5 HVR HG5 HGr5 HB5 hk2 hk3 q8
          go_upto_region 11 with (at_builtin; refine wpList_append_own2 rfl _ _ 22 rfl P 48 inf (.agg #[.string ⟨#[]⟩, .slice none 0 0]) 2 40 Try.underlying22 hj hy0 hy1 hy2 rfl (by decide) (.slice a i c) i (entC acc) rfl q1.out ⟨wc.heap.size, 0, none⟩ 1 1 [.string s, .slice a4 m4 c4] rfl rfl (hc3.out wc) q3.out q5.out q4.out q6.out ?_; intro v9 w9 hown9 hg9 hk9; obtain ⟨g9, c9, rfl, _, _⟩ := own_slice hown9 (Nat.succ_pos i); have HN := Lib.hid (hNX.out w9 _ c9 hg9 hk9 hown9); clear hown9 hg9 hk9)
          clear hNX q1 q3 q4 q5 q6 hc3
          go_wp2_with fail
          go_roundg R.size
          case measure => omega
          case rel => exact ⟨i + 1, m, _, _, R, false, _, c9, by omega, rfl, rfl, by go_num, Nat.le_refl _, by omega, by rw [accE_snoc, lastS_snoc]; exact hsR, HN⟩
end Go.Proofs.Ytplobffkelmokaa
