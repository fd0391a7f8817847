/-
  Joined: PrtPHold, PrtPPrep.
-/
import Derived.Test.YthcomfcbdlobpaaSet27
import Derived.Test.YthcomfcbdlobpaaSet41
namespace Go.Proofs.Ythcomfcbdlobpaa
open Go.RowKit Go.Maps Go.Shelf
set_option linter.unusedVariables false
set_option linter.unnecessarySimpa false
set_option linter.unusedSimpArgs false
set_option maxRecDepth 100000

theorem keysP_len {P : List Pd} (h : ∀ p ∈ P, p.w.length ≤ 8) : (keysP P).length ≤ 8 * P.length := by
  induction P with
  | nil => simp [keysP]
  | cons p l ih =>
    have h1 := ih (fun q hq => h q (List.mem_cons_of_mem _ hq))
    have h2 := h p (by simp)
    unfold keysP at h1 ⊢
    rw [List.flatMap_cons, List.length_append, List.length_map, List.length_cons]
    omega
theorem MapP.add {w : World} {R : Nat → Prop} {m : Nat} {P : List Pd} (h : MapP w R m P) (p : Pd) (hp : p.t.ok) (hok : ∀ q ∈ P, q.t.ok) (hn : ¬ atN p.t P < P.length) (hl : P.length < maxLen) (hRm : ∀ j, R j → j ≠ m ∧ j < w.heap.size) (g n c : Nat) (hg : g ≠ m) (hgl : g < w.heap.size) (hrow : IsWqs w (some ⟨g, 0, none⟩) n c p.w) {Q : World → Prop}
    (hQ : ∀ w', MapP w' (fun j => R j ∨ j = g) m (P ++ [p]) → w.grownBy w' (some m) → Q w') :
    ∃ w', (Instr.mapUpdate 65 (.map (some m)) (.agg p.t.cells) (.agg #[.int .u64 (p.start : Int), .slice (some ⟨g, 0, none⟩) n c])).run Try.prog w = .ok () w' ∧ Q w' := by
  obtain ⟨D, h1, h2, h3⟩ := h
  obtain ⟨w', hrun, hown, hgr⟩ := World.ownsMap.update h1 tk_law Try.underlying65 hl (litT_key hp) (val := .agg #[.int .u64 (p.start : Int), .slice (some ⟨g, 0, none⟩) n c]) (d := .held (workV p.start (some ⟨g, 0, none⟩) n c)) (ps := []) rfl
  have hk : ∀ j, j < w.heap.size → j ≠ m → w'.heap[j]? = w.heap[j]? := fun j hj hne => hgr.block j hj (fun e => by injection e with e; exact hne e)
  obtain ⟨es, e1, _⟩ := World.ownsMap.canon h1 tk_law
  have hne : ∀ q ∈ P, litT q.t ≠ litT p.t := fun q hq e => atN_not hn q hq (litT_inj (hok q hq) hp e)
  refine ⟨w', hrun, hQ w' ⟨_, by simpa using hown, fun l hl => ?_, fun q hq => ?_⟩ hgr⟩
  · by_cases e : l = litT p.t
    · exact ⟨p, by simp, hp, e.symm⟩
    · rw [has_put_other e] at hl
      obtain ⟨q, hq, q1, q2⟩ := h2 l hl
      exact ⟨q, by simp [hq], q1, q2⟩
  · rcases List.mem_append.1 hq with hq | hq
    · obtain ⟨a, n', c', q1, q2⟩ := h3 q hq
      refine ⟨a, n', c', fun z => ?_, (q2.same hgr.size (fun j hj => hk j (hRm j hj).2 (hRm j hj).1) (fun j hj => .inl hj))⟩
      rw [atKey_put_other (hne q hq)]
      exact q1 z
    · rw [List.mem_singleton.1 hq]
      refine ⟨some ⟨g, 0, none⟩, n, c, fun z => ?_, hrow.sameB hgr.size (fun a ha => ?_), fun a ha => ?_⟩
      · exact atKey_put_same ⟨es, e1⟩ (tk_law.key (litT_key hp)) _ _
      · cases ha; exact hk g hgl hg
      · cases ha; exact .inr rfl
/-- Ahead of the first map's being written. -/
structure HoSt (M : MvcC) (w : World) (O0 : Nat → Prop) (r rs : Addr) (b : Nat) (S : List Im) (P : List Pd) (OS R : Nat → Prop) (p : Pd) (g n c A : Nat) (m k : Nat) (W : World) : Prop where
  st : PtL M w O0 r rs b m k S P (keysP P).length (fun x => lockedP x P) OS R W
  row : IsWqs W (some ⟨g, 0, none⟩) n c p.w
  gl : g < W.heap.size
  far : ¬ ptO b (some m) (some k) OS R g
  bt : W.heap[A]? = some (.cells p.t.cells 36 (0, 0))
  bw : W.heap[A + 1]? = some (.cells #[.int .u64 (p.start : Int), .slice (some ⟨g, 0, none⟩) n c] 81 (0, 0))
  aw : A + 1 ≠ m ∧ A ≠ m
section
variable {M : MvcC} {w W W2 : World} {O0 : Nat → Prop} {r rs : Addr} {b m k : Nat} {S : List Im} {P : List Pd} {OS R : Nat → Prop} {p : Pd} {g n c A : Nat}
theorem HoSt.later (h : HoSt M w O0 r rs b S P OS R p g n c A m k W) (hb : Below W.heap.size W W2) : HoSt M w O0 r rs b S P OS R p g n c A m k W2 :=
  ⟨h.st.later hb, h.row.below hb, Nat.lt_of_lt_of_le h.gl hb.size, h.far, (hb.block _ (Array.getElem?_eq_some_iff.1 h.bt).1).trans h.bt, (hb.block _ (Array.getElem?_eq_some_iff.1 h.bw).1).trans h.bw, h.aw⟩
/-- Behind it. -/
structure HoLp (M : MvcC) (w : World) (O0 : Nat → Prop) (r rs : Addr) (b : Nat) (S : List Im) (P : List Pd) (OS R : Nat → Prop) (p : Pd) (g n c : Nat) (m k i : Nat) (W : World) : Prop where
  st : PtL M w O0 r rs b m k S (P ++ [p]) ((keysP P).length + i) (fun x => lockedP x P || hasK x (p.w.take i)) OS (fun j => R j ∨ j = g) W
  row : IsWqs W (some ⟨g, 0, none⟩) n c p.w
theorem HoLp.later {i : Nat} (h : HoLp M w O0 r rs b S P OS R p g n c m k i W) (hb : Below W.heap.size W W2) : HoLp M w O0 r rs b S P OS R p g n c m k i W2 := ⟨h.st.later hb, h.row.below hb⟩
theorem HoSt.put (h : HoSt M w O0 r rs b S P OS R p g n c A m k W) (hp : p.t.ok) (hok : ∀ q ∈ P, q.t.ok) (hn : ¬ atN p.t P < P.length) (hl : P.length < maxLen) (hO : O0 g) :
    ∃ w', (Instr.mapUpdate 65 (.map (some m)) (.agg p.t.cells) (.agg #[.int .u64 (p.start : Int), .slice (some ⟨g, 0, none⟩) n c])).run Try.prog W = .ok () w' ∧
      HoLp M w O0 r rs b S P OS R p g n c m k 0 w' ∧ w'.heap[A + 1]? = some (.cells #[.int .u64 (p.start : Int), .slice (some ⟨g, 0, none⟩) n c] 81 (0, 0)) := by
  have hgm : g ≠ m := fun e => h.far (.inr (.inl (.inl (by rw [e]))))
  refine h.st.mapP.add p hp hok hn hl (fun j hj => ⟨fun e => (h.st.om m (.inl rfl)).2.1 (by rw [← e]; exact hj), h.st.rlt j hj⟩) g n c hgm h.gl h.row (fun w' hm hg => ⟨⟨?_, ?_⟩, ?_⟩)
  · have h2 := h.st.putP hg hm (fun j hj => .inl hj) (fun j hj => by
      rcases hj with hj | rfl
      · exact .inl hj
      · exact .inr ⟨h.gl, h.far, .inl hO⟩)
    refine ⟨h2.ptr, h2.box, h2.store, h2.mapP, ?_, h2.apart, h2.rlt, h2.ob, h2.om, h2.orr, h2.mv⟩
    obtain ⟨D, d1, d2, d3⟩ := h2.mapL
    exact ⟨D, d1, d2, fun x => (d3 x).trans (by simp [hasK])⟩
  · exact h.row.sameB hg.size (fun a ha => by cases ha; exact hg.block g h.gl (fun e => by injection e with e; exact hgm e))
  · exact (hg.block (A + 1) (Array.getElem?_eq_some_iff.1 h.bw).1 (fun e => by injection e with e; exact h.aw.1 e)).trans h.bw
theorem HoLp.put {i : Nat} (h : HoLp M w O0 r rs b S P OS R p g n c m k i W) (hi : i < p.w.length) (hl : (keysP P).length + i < maxLen) (hk : (p.w.getD i wq0).key.size ≤ maxLen) (hgk : g ≠ k) :
    ∃ w', (Instr.mapUpdate 66 (.map (some k)) (.string (p.w.getD i wq0).key) (.agg #[])).run Try.prog W = .ok () w' ∧ HoLp M w O0 r rs b S P OS R p g n c m k (i + 1) w' := by
  refine h.st.mapL.add hl _ hk (fun w' hm hg => ⟨?_, ?_⟩)
  · have h2 := h.st.putL hg hm
    refine ⟨h2.ptr, h2.box, h2.store, h2.mapP, ?_, h2.apart, h2.rlt, h2.ob, h2.om, h2.orr, h2.mv⟩
    obtain ⟨D, d1, d2, d3⟩ := h2.mapL
    refine ⟨D, d1, d2, fun x => (d3 x).trans ?_⟩
    unfold hasK
    show (lockedP x P || (p.w.take i).any (fun m => sameK m.key x) || sameK (p.w.getD i wq0).key x) = (lockedP x P || (p.w.take (i + 1)).any (fun m => sameK m.key x))
    rw [takeQ_any _ wq0 _ _ hi, Bool.or_assoc]
  · exact h.row.sameB hg.size (fun a ha => by
      cases ha
      obtain ⟨b', off', e, q, _⟩ := h.row.2.2.2 0 (by have := h.row.1; omega)
      cases e
      exact hg.block g q (fun e => by injection e with e; exact hgk e))
end
/-- What hold leaves. -/
def HoldOut (M : MvcC) (w : World) (O0 : Nat → Prop) (r rs : Addr) (b : Nat) (S : List Im) (P : List Pd) (OS : Nat → Prop) (W : World) : Prop :=
  ∃ mp ml R, PtM M W r rs b mp ml S P OS R ∧ Moves O0 (ptO b mp ml OS R) w W

set_option maxHeartbeats 4000000 in
theorem ghold_rest {M : MvcC} {w wr : World} {O0 : Nat → Prop} {r rs : Addr} {b m k : Nat} {S : List Im} {P : List Pd} {OS R : Nat → Prop} {p : Pd} {g n c : Nat}
    (hg : GoodP (P ++ [p])) (h : HoLp M w O0 r rs b S P OS R p g n c m k n wr) (hl : p.w.length = n) : HoldOut M w O0 r rs b S (P ++ [p]) OS wr := by
  refine ⟨some m, some k, _, h.st.toM hg (fun x => ?_), h.st.mv⟩
  rw [locked_app, List.take_of_length_le (by omega)]

theorem map_eq (mp : Option Nat) (w : World) : (binOp .eql 65 (.map mp) (.map none)).run Try.prog w = .ok (.bool mp.isNone) w := by
  have h : (Op.equal 65 (.map mp) (.map none)).run Try.prog w = .ok mp.isNone w := by
    unfold Op.equal Op.maxDepth
    rw [Op.equalIn]
    cases mp <;> simp [run_underlying Try.underlying65] <;> rfl
  simp [binOp, h, Result.andThen]
/-- Where two maps were made. -/
structure HoNew (w1 : World) (b : Nat) (rs : Addr) (W : World) : Prop where
  os : W.os = w1.os
  tape : W.tape = w1.tape
  output : W.output = w1.output
  size : W.heap.size = w1.heap.size + 2
  same : ∀ j, j < w1.heap.size → j ≠ b → W.heap[j]? = w1.heap[j]?
  box : W.heap[b]? = some (.cells #[.pointer (some rs), .map (some w1.heap.size), .map (some (w1.heap.size + 1))] 68 (0, 0))
  m1 : W.heap[w1.heap.size]? = some (.map #[] 0)
  m2 : W.heap[w1.heap.size + 1]? = some (.map #[] 0)
set_option maxHeartbeats 4000000 in
theorem ghold_any {M : MvcC} {w : World} {r rs : Addr} {b : Nat} {mp ml : Option Nat} {S : List Im} {P : List Pd} {OS R : Nat → Prop} (h : PtM M w r rs b mp ml S P OS R) (p : Pd) (hp : p.t.ok) (hgood : GoodP (P ++ [p])) (hn : ¬ atN p.t P < P.length)
    (g n c : Nat) (hrow : IsWqs w (some ⟨g, 0, none⟩) n c p.w) (hgl : g < w.heap.size) (hg : ¬ ptO b mp ml OS R g) (hP : P.length ≤ 1000) :
    Calls Try.prog 32 #[.pointer (some r), .agg p.t.cells, .agg #[.int .u64 (p.start : Int), .slice (some ⟨g, 0, none⟩) n c]] w fun e w' => e = .returned (.tuple #[]) ∧
      HoldOut M w (fun j => ptO b mp ml OS R j ∨ j = g) r rs b S (P ++ [p]) OS w' := by
  have hb0 := ((Below.refl w.heap.size w).alloc (Nat.le_refl _) (.cells p.t.cells 36)).alloc (by simp) (.cells #[.int .u64 (p.start : Int), .slice (some ⟨g, 0, none⟩) n c] 81)
  have hA0 := heap_alloc_new w (.cells p.t.cells 36)
  obtain ⟨u1, hu1⟩ : ∃ u1, u1 = w.alloc (.cells p.t.cells 36) := ⟨_, rfl⟩
  rw [← hu1] at hb0 hA0
  have hs1 : u1.heap.size = w.heap.size + 1 := by rw [hu1]; simp
  have hB0 := heap_alloc_new u1 (.cells #[.int .u64 (p.start : Int), .slice (some ⟨g, 0, none⟩) n c] 81)
  have hA1 := (Below.heap_alloc u1 (.cells #[.int .u64 (p.start : Int), .slice (some ⟨g, 0, none⟩) n c] 81) _ (by omega)).trans hA0
  obtain ⟨w1, hw1⟩ : ∃ w1, w1 = u1.alloc (.cells #[.int .u64 (p.start : Int), .slice (some ⟨g, 0, none⟩) n c] 81) := ⟨_, rfl⟩
  rw [← hw1] at hb0 hB0 hA1
  rw [hs1] at hB0
  obtain ⟨A, hA⟩ : ∃ A, A = w.heap.size := ⟨_, rfl⟩
  rw [← hA] at hA1 hB0 hs1
  have hAl : A + 1 < w1.heap.size := (Array.getElem?_eq_some_iff.1 hB0).1
  have h1 := h.below hb0
  obtain ⟨c0, c1, c2, fr⟩ := h1.cells
  have hbl := h1.blt
  have hptr := h.ptr
  have HT := Lib.hid (cells3 hA1)
  obtain ⟨O0, hO0⟩ : ∃ O0, O0 = (fun j => ptO b mp ml OS R j ∨ j = g) := ⟨_, rfl⟩
  rw [← hO0]
  have HOg := Lib.hid (show O0 g by rw [hO0]; exact .inr rfl)
  have hl8 : (keysP P).length ≤ 8 * P.length := keysP_len (fun q hq => (h.good.ok q hq).2.2.1)
  have hpl : p.w.length ≤ 8 := (hgood.ok p (by simp)).2.2.1
  have hnl := hrow.1
  have HBN := Lib.hid (And.intro hP (And.intro hl8 (And.intro hpl hnl)))
  have HOK := Lib.hid (fun q hq => (h.good.ok q hq).1)
  have HGD := Lib.hid hgood
  have HNP := Lib.hid hn
  have HPO := Lib.hid hp
  subst hptr
  have hcase : (mp = none ∧ ml = none ∧ P = []) ∨ ∃ m k, mp = some m ∧ ml = some k := by
    rcases h.maps with h' | ⟨m, k, e1, e2, _⟩
    · exact .inl h'
    · exact .inr ⟨m, k, e1, e2⟩
  have hr1 := hrow.below hb0
  have HST1 : Hid (∀ m k, mp = some m → ml = some k → HoSt M w O0 ⟨b, 0, none⟩ rs b S P OS R p g n c A m k w1) := Lib.hid (fun m k e1 e2 => by
    subst e1 e2
    have hml := h.maps.lt m (.inl rfl)
    refine ⟨h1.toL ⟨hb0.os, hb0.tape, hb0.output, hb0.size, fun j hj _ => hb0.block j hj, fun j hj => .inl (by rw [hO0]; exact .inl hj)⟩, hr1, by have := hb0.size; omega, hg, hA1, hB0, by omega⟩)
  have HST0 : Hid (∀ W, mp = none → ml = none → P = [] → HoNew w1 b rs W → HoSt M w O0 ⟨b, 0, none⟩ rs b S P OS R p g n c A w1.heap.size (w1.heap.size + 1) W) := Lib.hid (fun W e1 e2 e3 hN => by
    subst e1 e2 e3
    have hk : ∀ j, j < w1.heap.size → j ≠ b → W.heap[j]? = w1.heap[j]? := hN.same
    have hgb : g ≠ b := fun e => hg (.inl e)
    have hsz := hN.size
    have hRb : ∀ j, R j → W.heap[j]? = w1.heap[j]? := fun j hj => hk j (h1.rlt j hj) (fun e => (h1.orr j hj).2 e)
    have hw01 := hb0.size
    refine ⟨⟨rfl, hN.box, M.stay h1.store fun j hj => hk j (M.lt h1.store j hj) (fun e => h1.ob (by rw [← e]; exact hj)), ⟨.map [], own_map_same (World.ownsMap_made w1 _ _ _) (hN.m1.trans (heap_alloc_new w1 _).symm), fun l hl => (by simp [has_eq] at hl), fun p hp => (by cases hp)⟩, ⟨.map [], ?_, fun l hl => (by simp [has_eq] at hl), fun x => rfl⟩, by omega, fun j hj => by have := h1.rlt j hj; omega, h1.ob, fun j hj => ?_, h1.orr, ?_⟩,
      hr1.sameB (by omega) (fun a ha => by cases ha; exact hk g (by omega) hgb), by omega, fun hx => ?_, (hk A (by omega) (by have := h.blt; omega)).trans hA1, (hk (A + 1) hAl (by have := h.blt; omega)).trans hB0, by omega⟩
    · have := World.ownsMap_made (w1.alloc (.map #[] 0)) Try.prog 9 (unitElem (H := Value))
      rw [show (w1.alloc (.map #[] 0)).heap.size = w1.heap.size + 1 by simp] at this
      refine own_map_same this ?_
      rw [hN.m2]
      have h2 := heap_alloc_new (w1.alloc (.map #[] 0)) (.map #[] 0)
      rw [show (w1.alloc (.map #[] 0)).heap.size = w1.heap.size + 1 by simp] at h2
      exact h2.symm
    · have hj2 : w1.heap.size ≤ j := by
        rcases hj with e | e <;> cases e <;> omega
      exact ⟨fun hx => by have := M.lt h1.store j hx; omega, fun hx => by have := h1.rlt j hx; omega, by omega⟩
    · refine ⟨hN.os.trans hb0.os, hN.tape.trans hb0.tape, hN.output.trans hb0.output, by omega, fun j hj hn => ?_, fun j hj => ?_⟩
      · exact (hk j (by omega) (fun e => hn (by rw [hO0]; exact .inl (.inl e)))).trans (hb0.block j hj)
      · rcases hj with e | (e | e) | e | e
        · exact .inl (by rw [hO0]; exact .inl (.inl e))
        · cases e; exact .inr (by omega)
        · cases e; exact .inr (by omega)
        · exact .inl (by rw [hO0]; exact .inl (.inr (.inr (.inl e))))
        · exact .inl (by rw [hO0]; exact .inl (.inr (.inr (.inr e))))
    · rcases hx with e | (e | e) | e | e
      · exact hgb e
      · cases e; omega
      · cases e; omega
      · exact hg (.inr (.inr (.inl e)))
      · exact hg (.inr (.inr (.inr e))))
  have hbA : b < A := by have := h.blt; omega
  have HGL := Lib.hid hgl
  have HBX := Lib.hid h1.box
  clear hp hgood hn hrow hgl hg hP hO0 hl8 hpl hnl h h1 hr1 hb0 hA0 hB0 hA1
  go_enter Try.func32, Try.ntmps32
  go_upto_region 1 with fail
  rw [← hA, ← hu1, ← hw1]
  clear hA hu1 hw1 hs1
  have hmm := @run_makeMap Try.prog
  obtain ⟨q, hq⟩ : ∃ q, q = mp.isNone := ⟨_, rfl⟩
  have hqe := map_eq mp w1
  rw [← hq] at hqe
  have HQ := Lib.hid hq
  clear hq
  go_upto_if 12 with fail
  clear hqe
  go_cut [] (fun wx => ∃ m k, Hid (HoSt M w O0 ⟨b, 0, none⟩ rs b S P OS R p g n c A m k wx))
  case first =>
    rcases hcase with ⟨rfl, rfl, e3⟩ | ⟨m, k, rfl, rfl⟩
    · have HE := Lib.hid e3
      obtain rfl : q = true := HQ.out
      clear e3
      go_wp2_with fail
      go_meet
      case rel =>
        refine ⟨_, _, Lib.hid (HST0.out _ trivial trivial HE.out ?_)⟩
        have k1 := heap_setCell_same _ b 1 _ _ (.map (some w1.heap.size)) HBX.out
        have k2 := heap_setCell_same _ b 2 _ _ (.map (some (w1.heap.size + 1))) k1
        have s1 : ((w1.setCell ⟨b, 1, none⟩ (.map (some w1.heap.size))).setCell ⟨b, 2, none⟩ (.map (some (w1.heap.size + 1)))).heap.size = w1.heap.size := by simp [World.setCell]
        have kk : ∀ j, j ≠ b → ((w1.setCell ⟨b, 1, none⟩ (.map (some w1.heap.size))).setCell ⟨b, 2, none⟩ (.map (some (w1.heap.size + 1)))).heap[j]? = w1.heap[j]? := fun j hj => (Below.heap_setCell _ _ _ _ hj).trans (Below.heap_setCell _ _ _ _ hj)
        obtain ⟨W0, hW0⟩ : ∃ W0, W0 = (w1.setCell ⟨b, 1, none⟩ (.map (some w1.heap.size))).setCell ⟨b, 2, none⟩ (.map (some (w1.heap.size + 1))) := ⟨_, rfl⟩
        rw [← hW0] at k2 s1 kk ⊢
        have e1 : W0.os = w1.os := by rw [hW0]; rfl
        have e2 : W0.tape = w1.tape := by rw [hW0]; rfl
        have e3 : W0.output = w1.output := by rw [hW0]; rfl
        have n1 := heap_alloc_new W0 (.map #[] 0)
        have n2 := heap_alloc_new (W0.alloc (.map #[] 0)) (.map #[] 0)
        have s2 : (W0.alloc (.map #[] 0)).heap.size = w1.heap.size + 1 := by simp [s1]
        rw [s1] at n1
        rw [s2] at n2
        refine ⟨e1, e2, e3, by simp [s1], fun j hj hne => ?_, ?_, ?_, n2⟩
        · exact ((Below.heap_alloc _ _ j (by omega)).trans (Below.heap_alloc _ _ j (by omega))).trans (kk j hne)
        · exact ((Below.heap_alloc _ _ b (by omega)).trans (Below.heap_alloc _ _ b (by omega))).trans k2
        · exact (Below.heap_alloc _ _ _ (by omega)).trans n1
    · obtain rfl : q = false := HQ.out
      go_wp2_with fail
      go_meet
      case rel => exact ⟨m, k, Lib.hid (HST1.out m k rfl rfl)⟩
  case rest =>
    obtain ⟨m, k, HS⟩ := hcut
    clear c0 c1 c2 fr HT HST0 HST1 HBX hmm HQ hcase hbA hbl hAl
    obtain ⟨c0, c1, c2, fr⟩ := HS.out.st.cells
    obtain ⟨t0, t1, t2⟩ := cells3 HS.out.bt
    obtain ⟨y0, y1⟩ := cells2 HS.out.bw
    have HSD := Lib.hid (HS.out.later ((Below.refl _ _).drew))
    obtain ⟨w2, hrun, hlp, hbw⟩ := HSD.out.put HPO.out HOK.out HNP.out (by have := HBN.out; unfold maxLen; omega) HOg.out
    have HLP := Lib.hid hlp
    have HBW := Lib.hid hbw
    unfold Tn.cells at hrun
    clear hlp hbw
    go_upto_region 4 with fail
    go_cut [] (fun wx => Hid (HoLp M w O0 ⟨b, 0, none⟩ rs b S P OS R p g n c m k 0 wx) ∧ Hid (wx.heap[A + 1]? = some (.cells #[.int .u64 (p.start : Int), .slice (some ⟨g, 0, none⟩) n c] 81 (0, 0))))
    case first =>
      go_region
      all_goals
        go_wp2_with fail
        go_meet
        case rel => exact ⟨HLP, HBW⟩
    case rest =>
      obtain ⟨HL0, HW0⟩ := hcut
      clear c0 c1 c2 fr t0 t1 t2 y0 y1 HSD hrun HLP HBW
      obtain ⟨y0, y1⟩ := cells2 HW0.out
      have HGK := Lib.hid (show g ≠ k from fun e => HS.out.far (.inr (.inl (.inr (by rw [e])))))
      have hn8 : n ≤ 8 := by have := HBN.out; omega
      go_wp2_with fail
      go_loopg [7, 30] n (fun gg _ s30 wr => ∃ i : Nat, i + gg = n ∧ s30 = .int .i64 i ∧ Hid (HoLp M w O0 ⟨b, 0, none⟩ rs b S P OS R p g n c m k i wr))
      case atStart => exact ⟨0, by omega, rfl, HL0⟩
      case round =>
        obtain ⟨i, hig, rfl, HL⟩ := hrel
        clear y0 y1
        by_cases hlt : i < n
        · obtain ⟨q, rfl⟩ : ∃ q, gk = q + 1 := ⟨gk - 1, by omega⟩
          have hltz : (i : Int) < (n : Int) := by omega
          obtain ⟨b', off', e, hbl, hk1, hk2, q0, q1, q2⟩ := HL.out.row.2.2.2 i hlt
          cases e
          rw [Nat.zero_add] at q0 q1 q2
          have hiw : i < p.w.length := by have := HBN.out; omega
          have hkl : (keysP P).length + i < maxLen := by have := HBN.out; unfold maxLen; omega
          obtain ⟨K, G, V, hK⟩ : ∃ K G V, p.w.getD i wq0 = ⟨K, G, V⟩ := ⟨_, _, _, rfl⟩
          obtain ⟨w3, hw3⟩ : ∃ w3, w3 = wr.alloc (.cells #[.string K, .bool G, .string V] 51) := ⟨_, rfl⟩
          have hb3 : Below wr.heap.size wr w3 := by rw [hw3]; exact (Below.refl _ _).alloc (Nat.le_refl _) _
          have hr3 : w3.heap[wr.heap.size]? = some (.cells #[.string K, .bool G, .string V] 51 (0, 0)) := by rw [hw3]; exact heap_alloc_new wr _
          have HL3 := HL.out.later hb3
          obtain ⟨w4, hrun, hlp⟩ := (HL3.later ((Below.refl _ _).drew)).put hiw hkl hk1 HGK.out
          rw [hK] at q0 q1 q2 hrun
          simp only at q0 q1 q2 hrun
          obtain ⟨c0, c1, c2, fr⟩ := HL3.st.cells
          obtain ⟨x0, x1, x2⟩ := cells3 hr3
          obtain ⟨X, hX⟩ : ∃ X, X = wr.heap.size := ⟨_, rfl⟩
          rw [← hX] at x0 x1 x2
          have HLP := Lib.hid hlp
          clear hk1 hk2 hK hb3 hr3 HL3 hlp hiw hkl
          go_upto_region 8 with fail
          rw [← hw3, ← hX]
          clear hw3 hX
          go_region
          all_goals
            go_wp2_with fail
            go_roundg q
            case measure => omega
            case rel => exact ⟨i + 1, by omega, by go_num, HLP⟩
        · have hltz : ¬ (i : Int) < (n : Int) := by omega
          have hin : i = n := by omega
          subst hin
          have HF := Lib.hid (ghold_rest HGD.out HL.out (by have := HBN.out; omega))
          go_wp2_with fail
          go_end0
          exact ⟨rfl, HF.out⟩
end Go.Proofs.Ythcomfcbdlobpaa

namespace Go.Proofs.Ythcomfcbdlobpaa
open Go.RowKit Go.Maps Go.Shelf
set_option linter.unusedVariables false
set_option linter.unnecessarySimpa false
set_option linter.unusedSimpArgs false
set_option maxRecDepth 100000

theorem moves_g {w w4 w' : World} {O O' : Nat → Prop} {g : Nat} (hb : Below w.heap.size w w4) (hg : w.heap.size ≤ g) (h : Moves (fun j => O j ∨ j = g) O' w4 w') : Moves O O' w w' := by
  refine ⟨h.os.trans hb.os, h.tape.trans hb.tape, h.output.trans hb.output, Nat.le_trans hb.size h.size, fun k hk hn => ?_, fun k hk => ?_⟩
  · exact (h.block k (Nat.lt_of_lt_of_le hk hb.size) (fun e => e.elim hn (fun e => by omega))).trans (hb.block k hk)
  · rcases h.own k hk with (h1 | rfl) | h1
    · exact .inl h1
    · exact .inr hg
    · exact .inr (Nat.le_trans hb.size h1)
/-- What a writing call leaves. -/
def PtOut (M : MvcC) (w : World) (r rs : Addr) (b : Nat) (mp ml : Option Nat) (S' : List Im) (P' : List Pd) (OS R : Nat → Prop) (W : World) : Prop :=
  ∃ mp' ml' OS' R', PtM M W r rs b mp' ml' S' P' OS' R' ∧ Moves (ptO b mp ml OS R) (ptO b mp' ml' OS' R') w W
section
variable {M : MvcC} {w : World} {r rs : Addr} {b : Nat} {mp ml : Option Nat} {S : List Im} {P : List Pd} {OS R : Nat → Prop}
theorem PtM.out (h : PtM M w r rs b mp ml S P OS R) {W : World} (hb : Below w.heap.size w W) : PtOut M w r rs b mp ml S P OS R W :=
  ⟨mp, ml, OS, R, h.below hb, Moves.of_below hb⟩
set_option maxHeartbeats 4000000 in
theorem gprepare_any (h : PtM M w r rs b mp ml S P OS R) (p : Pd) (hp : p.t.ok) (hw : IsWqs w p.a p.n p.c p.w) (hs : p.start < 18446744073709551616) (hn : p.n ≤ 1000) (hP : P.length ≤ 1000) :
    Calls Try.prog 11 #[.pointer (some r), .agg p.t.cells, .int .u64 (p.start : Int), .slice p.a p.n p.c] w fun e w' => e = .returned (.int .i64 (mayN S P p.t p.start p.w : Int)) ∧ PtOut M w r rs b mp ml S (prepP S P p) OS R w' := by
  have hb0 := (Below.refl w.heap.size w).alloc (Nat.le_refl _) (.cells p.t.cells 36)
  have hr0 := heap_alloc_new w (.cells p.t.cells 36)
  obtain ⟨w1, hw1⟩ : ∃ w1, w1 = w.alloc (.cells p.t.cells 36) := ⟨_, rfl⟩
  rw [← hw1] at hb0 hr0
  obtain ⟨A, hA⟩ : ∃ A, A = w.heap.size := ⟨_, rfl⟩
  rw [← hA] at hr0
  have hAl : A < w1.heap.size := (Array.getElem?_eq_some_iff.1 hr0).1
  have HT := Lib.hid (fun W (hb : Below w1.heap.size w1 W) => cells3 ((hb.block A hAl).trans hr0))
  have HMA := Lib.hid (gmay_any (h.below hb0) p.t hp p.start p.a p.n p.c p.w (hw.below hb0) hn)
  have HPR := Lib.hid (fun W (hb : Below w1.heap.size w1 W) => gprep_any ((h.below hb0).below hb) p.t hp)
  have HOUT := Lib.hid (fun W (hb : Below w1.heap.size w1 W) => h.out (hb0.trans (hb.mono hb0.size)))
  have HYES : Hid (mayN S P p.t p.start p.w = 0 → ¬ atN p.t P < P.length → ∀ W, Below w1.heap.size w1 W →
      (Calls Try.prog 33 #[.slice p.a p.n p.c] W fun e W2 => ∃ g, e = .returned (.slice (some ⟨g, 0, none⟩) p.n p.n) ∧ Below w1.heap.size w1 W2 ∧ Hid (∀ W3, Below W2.heap.size W2 W3 →
        Calls Try.prog 32 #[.pointer (some r), .agg p.t.cells, .agg #[.int .u64 (p.start : Int), .slice (some ⟨g, 0, none⟩) p.n p.n]] W3 fun e w' => e = .returned (.tuple #[]) ∧ PtOut M w r rs b mp ml S (P ++ [p]) OS R w'))) :=
    Lib.hid (fun h0 hnp W hb => by
      obtain ⟨hok, _, _⟩ := may_zero h0 hnp
      have hbw := hb0.trans (hb.mono hb0.size)
      refine (gcloned_any p.a p.n p.c p.w W (hw.below hbw) hn (fun m hm => by obtain ⟨k1, k2, _⟩ := hok m hm; omega)).mono fun e W2 ⟨g, he, hg, hq, hb2⟩ => ⟨g, he, hb.trans (hb2.mono hb.size), Lib.hid (fun W3 hb3 => ?_)⟩
      have hb4 : Below w.heap.size w W3 := (hbw.trans (hb2.mono hbw.size)).trans (hb3.mono (Nat.le_trans hbw.size hb2.size))
      have h4 := h.below hb4
      have hgw : w.heap.size ≤ g := Nat.le_trans hbw.size hg
      have hno : ¬ ptO b mp ml OS R g := fun hx => by have := h.lt g hx; omega
      have hne : 0 < p.n := by
        have h1 := hw.1
        rcases Nat.eq_zero_or_pos p.n with e0 | e0
        · exfalso
          have hr : rightQ p.w = false := rightQ_len (.inl (by omega))
          rw [may_is, if_neg hnp, if_pos hr] at h0
          cases h0
        · exact e0
      have hgl : g < W3.heap.size := by
        obtain ⟨b', off', e, q, _⟩ := (hq.below hb3).2.2.2 0 hne
        cases e
        exact q
      exact (ghold_any h4 p hp (h.good.app p h0 hnp hp hs) hnp g p.n p.n (hq.below hb3) hgl hno hP).mono fun e w' ⟨he, mp', ml', R', q1, q2⟩ => ⟨he, mp', ml', OS, R', q1, moves_g hb4 hgw q2⟩)
  unfold prepP
  obtain ⟨N, hN⟩ : ∃ N, N = mayN S P p.t p.start p.w := ⟨_, rfl⟩
  rw [← hN] at HMA HYES ⊢
  have hNN : N = 0 ∨ ((N : Int) == 0) = false := by
    by_cases e : N = 0
    · exact .inl e
    · exact .inr (by rw [beq_eq_false_iff_ne]; omega)
  have HB0 := Lib.hid hb0
  clear h hw hb0 hr0 hs hP hN
  unfold Tn.cells at *
  rcases hNN with rfl | hNz
  · by_cases hpr : atN p.t P < P.length
    · rw [decide_eq_true hpr] at HPR
      have HE := Lib.hid (show (if 0 = 0 ∧ ¬ atN p.t P < P.length then P ++ [p] else P) = P from if_neg (fun e => e.2 hpr))
      rw [HE.out]
      clear hpr HYES
      go_enter Try.func11, Try.ntmps11
      go_upto_region 1 with fail
      rw [← hw1, ← hA]
      clear hw1 hA
      obtain ⟨c0, c1, c2⟩ := HT.out w1 (Below.refl _ _)
      go_wp2_with (first
        | (go_at_call 10; (with_reducible refine HMA.out.mono ?_); rintro e w2 ⟨rfl, hb2⟩; have HB2 := Lib.hid hb2; have HP2 := Lib.hid (HPR.out _ hb2); obtain ⟨d0, d1, d2⟩ := HT.out _ hb2; clear hb2)
        | (go_at_call 19; (with_reducible refine HP2.out.mono ?_); rintro e w3 ⟨rfl, hb3⟩; have HB3 := Lib.hid (HB2.out.trans (hb3.mono HB2.out.size)); clear hb3))
      go_ret
      exact ⟨rfl, HOUT.out _ HB3.out⟩
    · rw [decide_eq_false hpr] at HPR
      have HE := Lib.hid (show (if 0 = 0 ∧ ¬ atN p.t P < P.length then P ++ [p] else P) = P ++ [p] from if_pos ⟨rfl, hpr⟩)
      rw [HE.out]
      have HY := Lib.hid (HYES.out rfl hpr)
      clear hpr HYES
      go_enter Try.func11, Try.ntmps11
      go_upto_region 1 with fail
      rw [← hw1, ← hA]
      clear hw1 hA
      obtain ⟨c0, c1, c2⟩ := HT.out w1 (Below.refl _ _)
      go_upto_region 5 with (first
        | (go_at_call 10; (with_reducible refine HMA.out.mono ?_); rintro e w2 ⟨rfl, hb2⟩; have HB2 := Lib.hid hb2; have HP2 := Lib.hid (HPR.out _ hb2); obtain ⟨d0, d1, d2⟩ := HT.out _ hb2; clear hb2)
        | (go_at_call 19; (with_reducible refine HP2.out.mono ?_); rintro e w3 ⟨rfl, hb3⟩; have HB3 := Lib.hid (HB2.out.trans (hb3.mono HB2.out.size)); clear hb3))
      clear c0 c1 c2 d0 d1 d2
      obtain ⟨c0, c1, c2⟩ := HT.out _ HB3.out
      have HYD := Lib.hid (HY.out w3.drew (HB3.out.trans ((Below.refl _ _).drew.mono HB3.out.size)))
      go_region_with (first
        | (go_at_call 33; (with_reducible refine HYD.out.mono ?_); rintro e w4 ⟨g, rfl, hb4, hh4⟩; have HB4 := Lib.hid hb4; have HH4 := Lib.hid (hh4.out _ (Below.refl _ _)); obtain ⟨d0, d1, d2⟩ := HT.out _ hb4; clear hb4 hh4)
        | (go_at_call 32; (with_reducible refine HH4.out.mono ?_); rintro e w5 ⟨rfl, ho5⟩; have HO5 := Lib.hid ho5; clear ho5))
      all_goals
        go_wp2_with fail
        go_ret
        exact ⟨rfl, HO5.out⟩
  · have hN0 : N ≠ 0 := fun e => by rw [e] at hNz; simp at hNz
    have HE := Lib.hid (show (if N = 0 ∧ ¬ atN p.t P < P.length then P ++ [p] else P) = P from if_neg (fun e => hN0 e.1))
    rw [HE.out]
    clear hN0 HYES HPR
    go_enter Try.func11, Try.ntmps11
    go_upto_region 1 with fail
    rw [← hw1, ← hA]
    clear hw1 hA
    obtain ⟨c0, c1, c2⟩ := HT.out w1 (Below.refl _ _)
    go_wp2_with (go_at_call 10; (with_reducible refine HMA.out.mono ?_); rintro e w2 ⟨rfl, hb2⟩; have HB2 := Lib.hid hb2; clear hb2)
    go_ret
    exact ⟨rfl, HOUT.out _ HB2.out⟩
end
end Go.Proofs.Ythcomfcbdlobpaa
