/-
  Joined: PrtPRel, PrtPCom.
-/
import Derived.Test.YthcomfcbdlobpaaSet42
import Derived.StillTailTactics
namespace Go.Proofs.Ythcomfcbdlobpaa
open Go.RowKit Go.Maps Go.Shelf
set_option linter.unusedVariables false
set_option linter.unnecessarySimpa false
set_option linter.unusedSimpArgs false
set_option maxRecDepth 100000

/-- In the midst of a release: the first i keys of x are free. -/
structure RlSt (M : MvcC) (w : World) (O0 : Nat → Prop) (r rs : Addr) (b m k : Nat) (S : List Im) (P : List Pd) (OS R : Nat → Prop) (t : Tn) (ws : List Wq) (a : Option Addr) (n c A i : Nat) (W : World) : Prop where
  st : PtL M w O0 r rs b m k S P (keysP P).length (fun y => lockedP y P && !hasK y (ws.take i)) OS R W
  row : RowAt W R a n c ws
  bt : W.heap[A]? = some (.cells t.cells 36 (0, 0))
  am : A ≠ k ∧ A ≠ m
section
variable {M : MvcC} {w W W2 : World} {O0 : Nat → Prop} {r rs : Addr} {b m k : Nat} {S : List Im} {P : List Pd} {OS R : Nat → Prop} {t : Tn} {ws : List Wq} {a : Option Addr} {n c A i : Nat}
theorem RlSt.later (h : RlSt M w O0 r rs b m k S P OS R t ws a n c A i W) (hb : Below W.heap.size W W2) : RlSt M w O0 r rs b m k S P OS R t ws a n c A i W2 :=
  ⟨h.st.later hb, h.row.same hb.size (fun j hj => hb.block j (h.st.rlt j hj)) (fun _ h => h), (hb.block _ (Array.getElem?_eq_some_iff.1 h.bt).1).trans h.bt, h.am⟩
theorem RlSt.put (h : RlSt M w O0 r rs b m k S P OS R t ws a n c A i W) (hi : i < ws.length) {D : DataW Value} (hD : W.ownsMap Try.prog 9 (unitElem (H := Value)) k (keysP P).length D ∧ (∀ l, has D l = true → ∃ x, l = litS x) ∧ ∀ x, has D (litS x) = (lockedP x P && !hasK x (ws.take i)))
    (hw' : W2.ownsMap Try.prog 9 (unitElem (H := Value)) k (keysP P).length (D.del (litS (ws.getD i wq0).key))) (hg : W.grownBy W2 (some k)) (hk : (ws.getD i wq0).key.size ≤ maxLen) : RlSt M w O0 r rs b m k S P OS R t ws a n c A (i + 1) W2 := by
  have hL := MapL.sub h.st.mapL _ hk D hD hw'
  have hs : ∀ j, j < W.heap.size → j ≠ k → W2.heap[j]? = W.heap[j]? := fun j hj hn => hg.block j hj (fun e => by injection e with e; exact hn e)
  refine ⟨h.st.putL hg ?_, h.row.same hg.size (fun j hj => hs j (h.st.rlt j hj) (fun e => (h.st.om k (.inr rfl)).2.1 (by rw [← e]; exact hj))) (fun _ h => h), (hs A (Array.getElem?_eq_some_iff.1 h.bt).1 h.am.1).trans h.bt, h.am⟩
  obtain ⟨D', d1, d2, d3⟩ := hL
  refine ⟨D', d1, d2, fun x => (d3 x).trans ?_⟩
  unfold hasK
  show (lockedP x P && !(ws.take i).any (fun m => sameK m.key x) && !sameK (ws.getD i wq0).key x) = (lockedP x P && !(ws.take (i + 1)).any (fun m => sameK m.key x))
  rw [takeQ_any _ wq0 _ _ hi, Bool.not_or, Bool.and_assoc]
/-- The transaction is struck. -/
theorem RlSt.strike (h : RlSt M w O0 r rs b m k S P OS R t ws a n c A i W) (hi : ws.length ≤ i) (hg : GoodP P) (ht : t.ok) (hp : atN t P < P.length) (hws : ws = (P.getD (atN t P) pd0).w) {D : DataW Value}
    (hD : W.ownsMap Try.prog 36 RW m P.length D ∧ (∀ l, has D l = true → ∃ p ∈ P, p.t.ok ∧ litT p.t = l) ∧ ∀ p ∈ P, HeldAt W R D p)
    (hw' : W2.ownsMap Try.prog 36 RW m P.length (D.del (litT t))) (hgr : W.grownBy W2 (some m)) : ∃ mp' ml' OS' R', PtM M W2 r rs b mp' ml' S (outP P (atN t P)) OS' R' ∧ Moves O0 (ptO b mp' ml' OS' R') w W2 := by
  obtain ⟨d1, d2, d3⟩ := hD
  have hs : ∀ j, j < W.heap.size → j ≠ m → W2.heap[j]? = W.heap[j]? := fun j hj hn => hgr.block j hj (fun e => by injection e with e; exact hn e)
  have hRs : ∀ j, R j → W2.heap[j]? = W.heap[j]? := fun j hj => hs j (h.st.rlt j hj) (fun e => (h.st.om m (.inl rfl)).2.1 (by rw [← e]; exact hj))
  have hmem := mem_out hg hp
  rw [atN_get hp] at hmem
  have hh : ∀ l, has (D.del (litT t)) l = true → ∃ p ∈ outP P (atN t P), p.t.ok ∧ litT p.t = l := fun l hl => by
    by_cases e : l = litT t
    · rw [e, has_del_same] at hl; cases hl
    · rw [has_del_other e] at hl
      obtain ⟨p, h1, h2, h3⟩ := d2 l hl
      exact ⟨p, (hmem p).2 ⟨h1, fun e2 => e (by rw [← h3, e2])⟩, h2, h3⟩
  have hP2 : MapP W2 R m (outP P (atN t P)) := by
    have h1 := map_tight hw' tk_law ((outP P (atN t P)).map fun p => litT p.t) (fun l hl => by
      obtain ⟨p, q1, _, q2⟩ := hh l hl
      exact List.mem_map.2 ⟨p, q1, q2⟩)
    rw [List.length_map] at h1
    refine ⟨_, h1, hh, fun p hp' => ?_⟩
    obtain ⟨q1, q2⟩ := (hmem p).1 hp'
    obtain ⟨a', n', c', q3, q4⟩ := d3 p q1
    refine ⟨a', n', c', fun z => ?_, q4.same hgr.size hRs (fun _ h => h)⟩
    rw [atKey_del_other (fun e => q2 (litT_inj (hg.ok p q1).1 ht e))]
    exact q3 z
  refine ⟨some m, some k, OS, R, (h.st.putP hgr hP2 (fun _ h => h) (fun j hj => .inl hj)).toM (hg.out _) (fun x => ?_), (h.st.putP hgr hP2 (fun _ h => h) (fun j hj => .inl hj)).mv⟩
  rw [List.take_of_length_le hi, Bool.eq_iff_iff, locked_out hg hp, hws]
  simp
end
theorem work_writes (st : Nat) (a : Option Addr) (n c : Nat) (W : World) : (Instr.field 81 (.agg #[.int .u64 (st : Int), .slice a n c]) 1).run Try.prog W = .ok (.slice a n c) W := by
  unfold Instr.field
  simp [run_underlying Try.underlying81, Result.andThen, asAgg, part, Try.isAgg38]
section
variable {M : MvcC} {w : World} {r rs : Addr} {b : Nat} {mp ml : Option Nat} {S : List Im} {P : List Pd} {OS R : Nat → Prop}
set_option maxHeartbeats 4000000 in
theorem grelease_any (h : PtM M w r rs b mp ml S P OS R) (t : Tn) (ht : t.ok) (hp : atN t P < P.length) :
    Calls Try.prog 34 #[.pointer (some r), .agg t.cells] w fun e w' => e = .returned (.tuple #[]) ∧ PtOut M w r rs b mp ml S (outP P (atN t P)) OS R w' := by
  have hmk : ∃ m k, mp = some m ∧ ml = some k := by
    rcases h.maps with ⟨_, _, e3⟩ | ⟨m, k, e1, e2, _⟩
    · rw [e3] at hp; simp at hp
    · exact ⟨m, k, e1, e2⟩
  obtain ⟨m, k, rfl, rfl⟩ := hmk
  have hb0 := (Below.refl w.heap.size w).alloc (Nat.le_refl _) (.cells t.cells 36)
  have hr0 := heap_alloc_new w (.cells t.cells 36)
  obtain ⟨w1, hw1⟩ : ∃ w1, w1 = w.alloc (.cells t.cells 36) := ⟨_, rfl⟩
  rw [← hw1] at hb0 hr0
  have h1 := h.below hb0
  obtain ⟨c0, c1, c2, fr⟩ := h1.cells
  obtain ⟨st, a, n, c, hst, _, hlk⟩ := look_prep h1.maps t ht
  obtain ⟨hst1, hrow⟩ := hst hp
  obtain ⟨ws, hws⟩ : ∃ ws, ws = (P.getD (atN t P) pd0).w := ⟨_, rfl⟩
  rw [← hws] at hrow
  obtain ⟨A, hA⟩ : ∃ A, A = w.heap.size := ⟨_, rfl⟩
  rw [← hA] at hr0
  obtain ⟨q0, q1, q2⟩ := cells3 hr0
  have hptr := h.ptr
  subst hptr
  have hm1 := h.maps.lt m (.inl rfl)
  have hk1 := h.maps.lt k (.inr rfl)
  have HST := Lib.hid (show RlSt M w (ptO b (some m) (some k) OS R) ⟨b, 0, none⟩ rs b m k S P OS R t ws a n c A 0 w1 from by
    have h2 := h1.toL (O0 := ptO b (some m) (some k) OS R) (Moves.of_below hb0)
    refine ⟨⟨h2.ptr, h2.box, h2.store, h2.mapP, ?_, h2.apart, h2.rlt, h2.ob, h2.om, h2.orr, h2.mv⟩, hrow, hr0, by omega⟩
    obtain ⟨D, d1, d2, d3⟩ := h2.mapL
    exact ⟨D, d1, d2, fun x => (d3 x).trans (by simp [hasK])⟩)
  have hwl : ws.length = n := hrow.1.1
  have hw8 : ws.length ≤ 8 := by rw [hws]; exact (h.good.ok _ (getD_mem hp pd0)).2.2.1
  have hn8 : n ≤ 8 := by omega
  have HWS := Lib.hid hws
  have HWL := Lib.hid hwl
  have HG := Lib.hid h.good
  have HT := Lib.hid ht
  have HP := Lib.hid hp
  have hl1 := (hlk w1.drew (Below.refl w1.heap.size w1).drew).2
  have hA1 : A < w1.heap.size := (Array.getElem?_eq_some_iff.1 hr0).1
  unfold workV Tn.cells at hl1
  clear h h1 hb0 hr0 hst hst1 hlk hws hrow hm1 hk1 hwl hw8
  unfold Tn.cells at *
  go_enter Try.func34, Try.ntmps34
  go_upto_region 1 with fail
  rw [← hw1, ← hA]
  clear hw1 hA
  have hfw := work_writes st a n c w1.drew
  go_cut [12, 13, 14] (fun s12 s13 s14 wx => s12 = .slice a n c ∧ s13 = .int .i64 n ∧ s14 = .int .i64 0 ∧ wx = w1.drew)
  case first =>
    go_region
    all_goals
      go_wp2_with fail
      go_meet
      case rel => exact ⟨rfl, rfl, rfl, rfl⟩
  case rest =>
    obtain ⟨rfl, rfl, rfl, rfl⟩ := hcut
    have HS1 := Lib.hid (HST.out.later (Below.refl w1.heap.size w1).drew)
    clear c0 c1 c2 fr q0 q1 q2 hl1 HST hfw
    go_wp2_with fail
    go_loopg [5, 14] n (fun gg _ s14 wr => ∃ i : Nat, i + gg = n ∧ s14 = .int .i64 i ∧ Hid (RlSt M w (ptO b (some m) (some k) OS R) ⟨b, 0, none⟩ rs b m k S P OS R t ws a n c A i wr))
    case atStart => exact ⟨0, by omega, rfl, HS1⟩
    case round =>
      obtain ⟨i, hig, rfl, HL⟩ := hrel
      by_cases hlt : i < n
      · obtain ⟨q, rfl⟩ : ∃ q, gk = q + 1 := ⟨gk - 1, by omega⟩
        have hltz : (i : Int) < (n : Int) := by omega
        obtain ⟨b', off', rfl, hbl, hk1, hk2, q0, q1, q2⟩ := HL.out.row.1.2.2.2 i hlt
        have hiw : i < ws.length := by have := HWL.out; omega
        obtain ⟨K, G, V, hK⟩ : ∃ K G V, ws.getD i wq0 = ⟨K, G, V⟩ := ⟨_, _, _, rfl⟩
        obtain ⟨w3, hw3⟩ : ∃ w3, w3 = wr.alloc (.cells #[.string K, .bool G, .string V] 51) := ⟨_, rfl⟩
        have hb3 : Below wr.heap.size wr w3 := by rw [hw3]; exact (Below.refl _ _).alloc (Nat.le_refl _) _
        have hr3 : w3.heap[wr.heap.size]? = some (.cells #[.string K, .bool G, .string V] 51 (0, 0)) := by rw [hw3]; exact heap_alloc_new wr _
        have HL3 := Lib.hid (HL.out.later hb3)
        have HL4 := Lib.hid (HL3.out.later (Below.refl w3.heap.size w3).drew)
        obtain ⟨D, d1, d2, d3⟩ := HL4.out.st.mapL
        have hkey := litS_key hk1
        have HPUT := Lib.hid (fun W2 hw' hg => HL4.out.put hiw ⟨d1, d2, d3⟩ (W2 := W2) hw' hg hk1)
        rw [hK] at q0 q1 q2 hkey HPUT
        simp only at q0 q1 q2 hkey HPUT
        obtain ⟨c0, c1, c2, fr⟩ := HL3.out.st.cells
        obtain ⟨x0, x1, x2⟩ := cells3 hr3
        obtain ⟨X, hX⟩ : ∃ X, X = wr.heap.size := ⟨_, rfl⟩
        rw [← hX] at x0 x1 x2
        have HD1 := Lib.hid d1
        have HKY := Lib.hid hkey
        clear hk1 hk2 hK hb3 hr3 hiw d1 d2 d3 hkey
        go_upto_region 4 with fail
        rw [← hw3, ← hX]
        clear hw3 hX
        go_still_tail 6, (by kernel_rfl)
        change wpList _ _ _ _ _ w3.drew
        refine wpList_delete_own _ rfl _ _ 66 9 rfl 98 sk_law Try.underlying66 _ k (keysP P).length D rfl HD1.out _ _ rfl HKY.out ?_
        intro w4 hown4 hturn4
        have HN := Lib.hid (HPUT.out w4 hown4 hturn4.grown)
        clear hown4 hturn4
        go_wp2_with fail
        go_roundg q
        case measure => omega
        case rel => exact ⟨i + 1, by omega, by go_num, HN⟩
      · have hltz : ¬ (i : Int) < (n : Int) := by omega
        have hin : i = n := by omega
        subst hin
        have HL4 := Lib.hid (HL.out.later (Below.refl wr.heap.size wr).drew)
        obtain ⟨D, d1, d2, d3⟩ := HL4.out.st.mapP
        have HPUT := Lib.hid (fun W2 hw' hg => HL4.out.strike (by have := HWL.out; omega) HG.out HT.out HP.out HWS.out ⟨d1, d2, d3⟩ (W2 := W2) hw' hg)
        obtain ⟨c0, c1, c2, fr⟩ := HL.out.st.cells
        obtain ⟨x0, x1, x2⟩ := cells3 HL.out.bt
        have HD1 := Lib.hid d1
        have HKY := Lib.hid (litT_key HT.out)
        clear d1 d2 d3
        go_upto_region 6 with fail
        go_still_tail 5, (by kernel_rfl)
        change wpList _ _ _ _ _ wr.drew
        refine wpList_delete_own _ rfl _ _ 65 36 rfl 81 tk_law Try.underlying65 _ m P.length D rfl HD1.out _ _ rfl HKY.out ?_
        intro w4 hown4 hturn4
        have HN := Lib.hid (HPUT.out w4 hown4 hturn4.grown)
        clear hown4 hturn4
        go_wp2_with fail
        go_end0
        exact ⟨rfl, HN.out⟩
set_option maxHeartbeats 4000000 in
theorem gabort_any (h : PtM M w r rs b mp ml S P OS R) (t : Tn) (ht : t.ok) :
    Calls Try.prog 13 #[.pointer (some r), .agg t.cells] w fun e w' => e = .returned (.int .i64 ((aboR P t).2 : Int)) ∧ PtOut M w r rs b mp ml S (aboR P t).1 OS R w' := by
  have hb0 := (Below.refl w.heap.size w).alloc (Nat.le_refl _) (.cells t.cells 36)
  have hr0 := heap_alloc_new w (.cells t.cells 36)
  obtain ⟨w1, hw1⟩ : ∃ w1, w1 = w.alloc (.cells t.cells 36) := ⟨_, rfl⟩
  rw [← hw1] at hb0 hr0
  obtain ⟨A, hA⟩ : ∃ A, A = w.heap.size := ⟨_, rfl⟩
  rw [← hA] at hr0
  have hAl : A < w1.heap.size := (Array.getElem?_eq_some_iff.1 hr0).1
  have HT := Lib.hid (fun W (hb : Below w1.heap.size w1 W) => cells3 ((hb.block A hAl).trans hr0))
  have HPR := Lib.hid (gprep_any (h.below hb0) t ht)
  have HB0 := Lib.hid hb0
  unfold aboR
  by_cases hp : atN t P < P.length
  · have HRE := Lib.hid (fun W (hb : Below w1.heap.size w1 W) => (grelease_any (h.below (hb0.trans (hb.mono hb0.size))) t ht hp).mono fun e w' ⟨he, mp', ml', OS', R', q1, q2⟩ => (show e = Ending.returned (.tuple #[]) ∧ PtOut M w r rs b mp ml S (outP P (atN t P)) OS R w' from ⟨he, mp', ml', OS', R', q1, (Moves.of_below (hb0.trans (hb.mono hb0.size))).trans q2⟩))
    rw [decide_eq_true hp] at HPR
    rw [if_pos hp]
    clear h hb0 hr0 hp ht
    unfold Tn.cells at *
    obtain ⟨c0, c1, c2⟩ := HT.out w1 (Below.refl _ _)
    go_enter Try.func13, Try.ntmps13
    go_upto_region 1 with fail
    rw [← hw1, ← hA]
    clear hw1 hA
    go_wp2_with (first
      | (go_at_call 19; (with_reducible refine HPR.out.mono ?_); rintro e w2 ⟨rfl, hb2⟩; have HR2 := Lib.hid (HRE.out _ hb2); obtain ⟨d0, d1, d2⟩ := HT.out _ hb2; clear hb2)
      | (go_at_call 34; (with_reducible refine HR2.out.mono ?_); rintro e w3 ⟨rfl, ho3⟩; have HO3 := Lib.hid ho3; clear ho3))
    go_ret
    exact ⟨rfl, HO3.out⟩
  · have HOUT := Lib.hid (fun W (hb : Below w1.heap.size w1 W) => h.out (hb0.trans (hb.mono hb0.size)))
    rw [decide_eq_false hp] at HPR
    rw [if_neg hp]
    clear h hb0 hr0 hp ht
    unfold Tn.cells at *
    obtain ⟨c0, c1, c2⟩ := HT.out w1 (Below.refl _ _)
    go_enter Try.func13, Try.ntmps13
    go_upto_region 1 with fail
    rw [← hw1, ← hA]
    clear hw1 hA
    go_wp2_with (go_at_call 19; (with_reducible refine HPR.out.mono ?_); rintro e w2 ⟨rfl, hb2⟩; have HB2 := Lib.hid hb2; clear hb2)
    go_ret
    exact ⟨rfl, HOUT.out _ HB2.out⟩
end
end Go.Proofs.Ythcomfcbdlobpaa

namespace Go.Proofs.Ythcomfcbdlobpaa
open Go.RowKit Go.Maps Go.Shelf
set_option linter.unusedVariables false
set_option linter.unnecessarySimpa false
set_option linter.unusedSimpArgs false
set_option maxRecDepth 100000

/-- The store is written. -/
theorem PtM.ins {M : MvcC} {w w' : World} {r rs : Addr} {b : Nat} {mp ml : Option Nat} {S S' : List Im} {P : List Pd} {OS OS' R : Nat → Prop} (h : PtM M w r rs b mp ml S P OS R) (h2 : M.At w' rs S' OS') (hm : Moves OS OS' w w') :
    PtM M w' r rs b mp ml S' P OS' R ∧ Moves (ptO b mp ml OS R) (ptO b mp ml OS' R) w w' := by
  have hno : ∀ j, j < w.heap.size → ¬ OS j → ¬ OS' j := fun j hj hn hx => (hm.own j hx).elim hn (fun e => by omega)
  refine ⟨⟨h.ptr, (hm.block b h.blt h.ob).trans h.box, h2, h.maps.same hm.size (fun j hj => hm.block j (h.maps.lt j hj) (h.om j hj).1) (fun j hj => hm.block j (h.rlt j hj) (h.orr j hj).1) (fun _ h => h), h.good, fun j hj => Nat.lt_of_lt_of_le (h.rlt j hj) hm.size, hno b h.blt h.ob,
    fun j hj => ⟨hno j (h.maps.lt j hj) (h.om j hj).1, (h.om j hj).2⟩, fun j hj => ⟨hno j (h.rlt j hj) (h.orr j hj).1, (h.orr j hj).2⟩⟩, hm.os, hm.tape, hm.output, hm.size, fun j hj hn => hm.block j hj (fun hx => hn (.inr (.inr (.inl hx)))), fun j hj => ?_⟩
  rcases hj with e | e | e | e
  · exact .inl (.inl e)
  · exact .inl (.inr (.inl e))
  · exact (hm.own j e).elim (fun h => .inl (.inr (.inr (.inl h)))) .inr
  · exact .inl (.inr (.inr (.inr e)))
/-- In the midst of a commit: the first i writes are installed. -/
structure CmSt (M : MvcC) (w : World) (O0 : Nat → Prop) (r rs : Addr) (b : Nat) (mp ml : Option Nat) (S : List Im) (P : List Pd) (R : Nat → Prop) (t : Tn) (ws : List Wq) (a : Option Addr) (n c A : Nat) (W : World) : Prop where
  ex : ∃ OS, PtM M W r rs b mp ml S P OS R ∧ Moves O0 (ptO b mp ml OS R) w W ∧ ¬ ptO b mp ml OS R A
  row : RowAt W R a n c ws
  bt : W.heap[A]? = some (.cells t.cells 36 (0, 0))
section
variable {M : MvcC} {w W W2 : World} {O0 : Nat → Prop} {r rs : Addr} {b : Nat} {mp ml : Option Nat} {S : List Im} {P : List Pd} {R : Nat → Prop} {t : Tn} {ws : List Wq} {a : Option Addr} {n c A : Nat}
theorem CmSt.later (h : CmSt M w O0 r rs b mp ml S P R t ws a n c A W) (hb : Below W.heap.size W W2) : CmSt M w O0 r rs b mp ml S P R t ws a n c A W2 := by
  obtain ⟨OS, h1, h2, h3⟩ := h.ex
  exact ⟨⟨OS, h1.below hb, h2.trans (Moves.of_below hb), h3⟩, h.row.same hb.size (fun j hj => hb.block j (h1.rlt j hj)) (fun _ h => h), (hb.block _ (Array.getElem?_eq_some_iff.1 h.bt).1).trans h.bt⟩
theorem CmSt.store (h : CmSt M w O0 r rs b mp ml S P R t ws a n c A W) : Calls Try.prog 15 #[.pointer (some r)] W fun e w' => e = .returned (.pointer (some rs)) ∧ W = w' := by
  obtain ⟨OS, h1, _⟩ := h.ex
  exact gstore_any h1
theorem CmSt.install (h : CmSt M w O0 r rs b mp ml S P R t ws a n c A W) (m : Im) (hl : S.length ≤ 1000) (k1 : m.key.size ≤ maxLen) (k2 : m.v.val.size ≤ maxLen) (k3 : m.v.time < 18446744073709551616) :
    Calls Try.prog 16 #[.pointer (some rs), .string m.key, .agg #[.int .u64 (m.v.time : Int), .bool m.v.gone, .string m.v.val]] W fun e w' => e = .returned (.int .i64 ((insM S m).2 : Int)) ∧ CmSt M w O0 r rs b mp ml (insM S m).1 P R t ws a n c A w' := by
  obtain ⟨OS, h1, h2, h3⟩ := h.ex
  refine (M.install h1.store m hl k1 k2 k3).mono fun e w' ⟨O', he, q1, q2⟩ => ⟨he, ?_⟩
  obtain ⟨g1, g2⟩ := h1.ins q1 q2
  have hAl : A < W.heap.size := (Array.getElem?_eq_some_iff.1 h.bt).1
  refine ⟨⟨O', g1, h2.trans g2, fun hx => (g2.own A hx).elim h3 (fun e => by omega)⟩, h.row.same q2.size (fun j hj => q2.block j (h1.rlt j hj) (h1.orr j hj).1) (fun _ h => h), (q2.block A hAl (fun hx => h3 (.inr (.inr (.inl hx))))).trans h.bt⟩
theorem CmSt.release (h : CmSt M w O0 r rs b mp ml S P R t ws a n c A W) (ht : t.ok) (hp : atN t P < P.length) :
    Calls Try.prog 34 #[.pointer (some r), .agg t.cells] W fun e w' => e = .returned (.tuple #[]) ∧ ∃ mp' ml' OS' R', PtM M w' r rs b mp' ml' S (outP P (atN t P)) OS' R' ∧ Moves O0 (ptO b mp' ml' OS' R') w w' := by
  obtain ⟨OS, h1, h2, h3⟩ := h.ex
  exact (grelease_any h1 t ht hp).mono fun e w' ⟨he, mp', ml', OS', R', q1, q2⟩ => ⟨he, mp', ml', OS', R', q1, h2.trans q2⟩
end
section
variable {M : MvcC} {w : World} {r rs : Addr} {b : Nat} {mp ml : Option Nat} {S : List Im} {P : List Pd} {OS R : Nat → Prop}
set_option maxHeartbeats 8000000 in
theorem gcommit_any (h : PtM M w r rs b mp ml S P OS R) (t : Tn) (time : Nat) (ht : t.ok) (htm : time < 18446744073709551616) (hS : S.length ≤ 900) :
    Calls Try.prog 12 #[.pointer (some r), .agg t.cells, .int .u64 (time : Int)] w fun e w' => e = .returned (.int .i64 ((comR S P t time).2 : Int)) ∧ PtOut M w r rs b mp ml (comR S P t time).1.1 (comR S P t time).1.2 OS R w' := by
  have hb0 := (Below.refl w.heap.size w).alloc (Nat.le_refl _) (.cells t.cells 36)
  have hr0 := heap_alloc_new w (.cells t.cells 36)
  obtain ⟨w1, hw1⟩ : ∃ w1, w1 = w.alloc (.cells t.cells 36) := ⟨_, rfl⟩
  rw [← hw1] at hb0 hr0
  have h1 := h.below hb0
  obtain ⟨c0, c1, c2, fr⟩ := h1.cells
  obtain ⟨st, a, n, c, hst, _, hlk⟩ := look_prep h1.maps t ht
  obtain ⟨B, hB⟩ : ∃ B, B = decide (atN t P < P.length) := ⟨_, rfl⟩
  rw [← hB] at hlk
  obtain ⟨A, hA⟩ : ∃ A, A = w.heap.size := ⟨_, rfl⟩
  rw [← hA] at hr0
  obtain ⟨q0, q1, q2⟩ := cells3 hr0
  have hgl : A < w1.heap.size := (Array.getElem?_eq_some_iff.1 hr0).1
  have hbl := h1.blt
  have hptr := h.ptr
  subst hptr
  have hl1 := (hlk w1.drew (Below.refl w1.heap.size w1).drew).1
  have hl2 := (hlk (w1.alloc (.cells #[.int .u64 0, .slice none 0 0] 81)).drew (((Below.refl w1.heap.size w1).alloc (Nat.le_refl _) _).drew)).1
  have hbz := (Below.refl w1.heap.size w1).alloc (Nat.le_refl _) (.cells #[.int .u64 0, .slice none 0 0] 81)
  have e0 := (hbz.cell (p := ⟨A, 0, none⟩) hgl).trans q0
  have e1 := (hbz.cell (p := ⟨A, 1, none⟩) hgl).trans q1
  have e2 := (hbz.cell (p := ⟨A, 2, none⟩) hgl).trans q2
  have e3 := (hbz.cell (p := ⟨b, 1, none⟩) hbl).trans c1
  obtain ⟨w2, hw2⟩ : ∃ w2, w2 = (w1.alloc (.cells #[.int .u64 (st : Int), .slice a n c] 81)).drew := ⟨_, rfl⟩
  have hb2 : Below w1.heap.size w1 w2 := by rw [hw2]; exact ((Below.refl _ _).alloc (Nat.le_refl _) _).drew
  have hr2 : w2.heap[w1.heap.size]? = some (.cells #[.int .u64 (st : Int), .slice a n c] 81 (0, 0)) := by rw [hw2]; exact heap_alloc_new w1 _
  obtain ⟨X, hX⟩ : ∃ X, X = w1.heap.size := ⟨_, rfl⟩
  rw [← hX] at hr2
  have HR2 := Lib.hid (cells2 hr2)
  have HOUT := Lib.hid (fun W (hb : Below w2.heap.size w2 W) => h.out (hb0.trans ((hb2.trans (hb.mono hb2.size)).mono hb0.size)))
  have hA0 : ¬ ptO b mp ml OS R A := fun hx => by have := h.lt A hx; omega
  have HCM : Hid (∀ W, Below w2.heap.size w2 W → atN t P < P.length → CmSt M w (ptO b mp ml OS R) ⟨b, 0, none⟩ rs b mp ml S P R t (P.getD (atN t P) pd0).w a n c A W) := Lib.hid (fun W hb hp => by
    have hbw := hb2.trans (hb.mono hb2.size)
    have hrow := (hst hp).2
    refine ⟨⟨OS, h1.below hbw, Moves.of_below (hb0.trans (hbw.mono hb0.size)), hA0⟩, hrow.same hbw.size (fun j hj => hbw.block j (h1.rlt j hj)) (fun _ h => h), (hbw.block A hgl).trans hr0⟩)
  have HG := Lib.hid h.good
  have HT := Lib.hid ht
  have HST := Lib.hid hst
  have HB := Lib.hid hB
  obtain ⟨N, hN⟩ : ∃ N, N = comR S P t time := ⟨_, rfl⟩
  rw [← hN]
  have HN := Lib.hid hN
  unfold comR at HN
  clear hN
  unfold workV at hl1 hl2
  clear h h1 hb0 hst hlk hB hbz hb2 hr2 hA0 hr0
  unfold Tn.cells at *
  go_enter Try.func12, Try.ntmps12
  go_upto_region 1 with fail
  rw [← hw1, ← hA]
  clear hw1 hA
  go_cut [7, 8] (fun s7 s8 wx => s7 = .pointer (some ⟨X, 0, none⟩) ∧ s8 = .bool B ∧ wx = w2)
  case first =>
    go_region
    all_goals
      go_wp2_with fail
      go_meet
      case rel => exact ⟨by rw [hX], rfl, hw2.symm⟩
  case rest =>
    obtain ⟨rfl, rfl, rfl⟩ := hcut
    clear c0 c1 c2 fr q0 q1 q2 hl1 hl2 e0 e1 e2 e3 hX hgl hbl hw2
    obtain ⟨y0, y1⟩ := HR2.out
    by_cases hp : atN t P < P.length
    · obtain rfl : B = true := by rw [HB.out]; exact decide_eq_true hp
      rw [if_pos hp] at HN
      have hse := (HST.out hp).1
      by_cases hts : time ≤ st
      · rw [if_pos (by rw [← hse]; exact hts)] at HN
        obtain rfl : N = _ := HN.out
        clear HN
        have hz : (time : Int) ≤ (st : Int) := by omega
        have hz2 : decide ((time : Int) ≤ (st : Int)) = true := decide_eq_true hz
        have hz3 : decide (time ≤ st) = true := decide_eq_true hts
        clear hse hts
        go_wp2_with fail
        go_ret
        exact ⟨rfl, HOUT.out _ (Below.refl _ _)⟩
      · rw [if_neg (by rw [← hse]; exact hts)] at HN
        obtain rfl : N = _ := HN.out
        clear HN
        have hz2 : decide ((time : Int) ≤ (st : Int)) = false := by rw [decide_eq_false_iff_not]; omega
        have hz3 : decide (time ≤ st) = false := decide_eq_false hts
        obtain ⟨ws, hws⟩ : ∃ ws, ws = (P.getD (atN t P) pd0).w := ⟨_, rfl⟩
        have HC0 := Lib.hid (HCM.out wc (Below.refl _ _) hp)
        rw [← hws] at HC0
        have hw8 : ws.length ≤ 8 := by rw [hws]; exact (HG.out.ok _ (getD_mem hp pd0)).2.2.1
        have hwl := HC0.out.row.1.1
        have HSM := Lib.hid (show ∀ m ∈ ws, m.key.size ≤ maxLen ∧ m.val.size ≤ maxLen from fun m hm => by rw [hws] at hm; have := (HG.out.ok _ (getD_mem hp pd0)).2.2.2 m hm; unfold maxLen; omega)
        have hn8 : n ≤ 8 := by omega
        have HWL := Lib.hid hwl
        have HP := Lib.hid hp
        have HWS := Lib.hid hws
        clear hse hts hws hwl hw8 HST HCM HOUT HG hp
        go_wp2_with fail
        go_loopg [10, 29] n (fun gg _ s29 wr => ∃ i : Nat, i + gg = n ∧ s29 = .int .i64 i ∧ Hid (CmSt M w (ptO b mp ml OS R) ⟨b, 0, none⟩ rs b mp ml (insAll S time (ws.take i)) P R t ws a n c A wr))
        case atStart => exact ⟨0, by omega, rfl, HC0⟩
        case round =>
          obtain ⟨i, hig, rfl, HL⟩ := hrel
          clear HC0 HR2 y0 y1
          by_cases hlt : i < n
          · obtain ⟨q, rfl⟩ : ∃ q, gk = q + 1 := ⟨gk - 1, by omega⟩
            have hltz : (i : Int) < (n : Int) := by omega
            obtain ⟨b', off', rfl, hbl, hk1, hk2, q0, q1, q2⟩ := HL.out.row.1.2.2.2 i hlt
            have hiw : i < ws.length := by have := HWL.out; omega
            obtain ⟨K, G, V, hK⟩ : ∃ K G V, ws.getD i wq0 = ⟨K, G, V⟩ := ⟨_, _, _, rfl⟩
            have hnx : insAll S time (ws.take (i + 1)) = (insM (insAll S time (ws.take i)) ⟨K, ⟨time, G, V⟩⟩).1 := by rw [takeW_succ ws hiw, insAll_snoc, hK]
            have hl1 : (insAll S time (ws.take i)).length ≤ 1000 := by
              have h1 := insAll_len time (ws.take i) S
              rw [List.length_take] at h1
              omega
            rw [hK] at hk1 hk2 q0 q1 q2
            simp only at hk1 hk2 q0 q1 q2
            obtain ⟨w3, hw3⟩ : ∃ w3, w3 = wr.alloc (.cells #[.string K, .bool G, .string V] 51) := ⟨_, rfl⟩
            have hb3 : Below wr.heap.size wr w3 := by rw [hw3]; exact (Below.refl _ _).alloc (Nat.le_refl _) _
            have hr3 : w3.heap[wr.heap.size]? = some (.cells #[.string K, .bool G, .string V] 51 (0, 0)) := by rw [hw3]; exact heap_alloc_new wr _
            have HL3 := HL.out.later (hb3.trans ((Below.refl w3.heap.size w3).drew.mono hb3.size))
            have HSTO := Lib.hid (HL3.store.mono fun e w' hh => (show e = Ending.returned (.pointer (some rs)) ∧ w' = w3.drew from ⟨hh.1, hh.2.symm⟩))
            have HINS := Lib.hid (HL3.install ⟨K, ⟨time, G, V⟩⟩ hl1 hk1 hk2 htm)
            obtain ⟨x0, x1, x2⟩ := cells3 hr3
            obtain ⟨X2, hX⟩ : ∃ X2, X2 = wr.heap.size := ⟨_, rfl⟩
            rw [← hX] at x0 x1 x2
            have HNX := Lib.hid hnx
            clear hk1 hk2 hK hb3 hr3 HL3 hiw hnx hl1
            go_upto_region 9 with fail
            rw [← hw3, ← hX]
            clear hw3 hX
            refine wp_region_still_tail 10 (by kernel_rfl) (by kernel_rfl) ?_
            simp only [List.take_succ_cons, List.take_zero, List.drop_succ_cons, List.drop_zero]
            still_step
            still_call HSTO.out
            repeat still_step
            try refine wpStill_nil ?_
            change wpList _ _ _ _ _ w3.drew
            go_wp2_with (go_at_call 16; (with_reducible refine HINS.out.mono ?_); rintro e w5 ⟨rfl, hs5⟩; have HS5 := Lib.hid hs5; clear hs5)
            have HS6 := HS5
            rw [← HNX.out] at HS6
            go_roundg q
            case measure => omega
            case rel => exact ⟨i + 1, by omega, by go_num, HS6⟩
          · have hltz : ¬ (i : Int) < (n : Int) := by omega
            have hin : i = n := by omega
            subst hin
            have HRE := Lib.hid (HL.out.release HT.out HP.out)
            unfold Tn.cells at HRE
            rw [List.take_of_length_le (by have := HWL.out; omega)] at HRE
            obtain ⟨x0, x1, x2⟩ := cells3 HL.out.bt
            go_wp2_with (go_at_call 34; (with_reducible refine HRE.out.mono ?_); rintro e w4 ⟨rfl, ho4⟩; have HO4 := Lib.hid ho4; clear ho4)
            go_ret
            refine ⟨rfl, ?_⟩
            have hfin := HO4.out
            rw [HWS.out] at hfin
            exact hfin
    · obtain rfl : B = false := by rw [HB.out]; exact decide_eq_false hp
      rw [if_neg hp] at HN
      obtain rfl : N = _ := HN.out
      clear HN
      go_wp2_with fail
      go_ret
      exact ⟨rfl, HOUT.out _ (Below.refl _ _)⟩
end
end Go.Proofs.Ythcomfcbdlobpaa
