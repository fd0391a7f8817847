/-
  The program's net beside a law's own memory: boxes X, the document's list; 'awake'.
-/
import Derived.Test.YtbhlgceicfjncaaSet44
import Derived.Test.YtbhlgceicfjncaaSet46
import Derived.Test.YtbhlgceicfjncaaSet47
import Derived.Test.YtbhlgceicfjncaaSet27
namespace Go.Proofs.Ytbhlgceicfjncaa
open Go.RowKit
set_option linter.unusedVariables false
set_option linter.unnecessarySimpa false
set_option linter.unusedSimpArgs false
set_option maxRecDepth 100000

structure WPl (w : World) (X : Nat → Obj → Prop) (g : Nat) (J : List Wj) (D : List Dj) (dv : Value) (W : World) : Prop where
  net : ∃ v, NetV W g v J ∧ ∀ k, netO g v k → w.heap.size ≤ k ∧ (¬ ∃ o, X k o) ∧ ¬ docO dv D k
  ext : ∀ k o, X k o → W.heap[k]? = some o ∧ w.heap.size ≤ k
  doc : DocW w W D dv
  docB : ∀ k, docO dv D k → w.heap.size ≤ k ∧ ¬ ∃ o, X k o
  below : Below w.heap.size w W
theorem docO_nil : ∀ k, ¬ docO (.slice none 0 0) [] k := fun k h => by
  rcases h with h | ⟨d, hd, _⟩
  · cases h
  · simp at hd
theorem DocW.none (w W : World) : DocW w W [] (.slice none 0 0) := ⟨World.ownsRow_nil _ _ _ _, fun d hd => by simp at hd, fun d hd => by simp at hd⟩
section
variable {w W W' : World} {X X' : Nat → Obj → Prop} {g : Nat} {J J' : List Wj} {D D' : List Dj} {dv dv' : Value}
theorem WPl.xl (h : WPl w X g J D dv W) {k : Nat} {o : Obj} (hx : X k o) : k < W.heap.size := (Array.getElem?_eq_some_iff.1 (h.ext k o hx).1).1
theorem WPl.step (h : WPl w X g J D dv W) {v v' : Value} (hn : NetV W g v J) (ho : ∀ k, netO g v k → w.heap.size ≤ k ∧ (¬ ∃ o, X k o) ∧ ¬ docO dv D k) (hn' : NetV W' g v' J') (hm : Moves (netO g v) (netO g v') W W') : WPl w X g J' D dv W' := by
  have hb : Below w.heap.size w W' := h.below.trans (hm.below (fun k hk => (ho k hk).1) h.below.size)
  refine ⟨⟨v', hn', fun k hk => ?_⟩, fun k o hx => ⟨(hm.block k (h.xl hx) (fun hO => (ho k hO).2.1 ⟨o, hx⟩)).trans (h.ext k o hx).1, (h.ext k o hx).2⟩, h.doc.stay fun k hk => hm.block k (h.doc.lt k hk) (fun hO => (ho k hO).2.2 hk), h.docB, hb⟩
  rcases hm.own k hk with h1 | h1
  · exact ho k h1
  · refine ⟨Nat.le_trans h.below.size h1, fun ⟨o, hx⟩ => ?_, fun hd => ?_⟩
    · have := h.xl hx; omega
    · have := h.doc.lt k hd; omega
theorem WPl.later (h : WPl w X g J D dv W) (hb : Below W.heap.size W W') : WPl w X g J D dv W' := by
  obtain ⟨v, hn, ho⟩ := h.net
  exact h.step hn ho (hn.below hb) (Moves.of_below hb)
theorem WPl.add (h : WPl w X g J D dv W) (o : Obj) : WPl w (fun k q => X k q ∨ (k = W.heap.size ∧ q = o)) g J D dv (W.alloc o) := by
  have hl := h.later ((Below.refl W.heap.size W).alloc (Nat.le_refl _) o)
  obtain ⟨v, hn, ho⟩ := h.net
  have hb := (Below.refl W.heap.size W).alloc (Nat.le_refl _) o
  refine ⟨⟨v, hn.below hb, fun k hk => ⟨(ho k hk).1, ?_, (ho k hk).2.2⟩⟩, fun k q hq => ?_, hl.doc, fun k hk => ⟨(h.docB k hk).1, ?_⟩, hl.below⟩
  · rintro ⟨q, hq | ⟨e, _⟩⟩
    · exact (ho k hk).2.1 ⟨q, hq⟩
    · have := hn.olt k hk; omega
  · rcases hq with hq | ⟨rfl, rfl⟩
    · exact hl.ext k q hq
    · exact ⟨heap_alloc_new W _, h.below.size⟩
  · rintro ⟨q, hq | ⟨e, _⟩⟩
    · exact (h.docB k hk).2 ⟨q, hq⟩
    · have := h.doc.lt k hk; omega
theorem WPl.sub (h : WPl w X g J D dv W) (hX : ∀ k o, X' k o → X k o) : WPl w X' g J D dv W := by
  obtain ⟨v, hn, ho⟩ := h.net
  exact ⟨⟨v, hn, fun k hk => ⟨(ho k hk).1, fun ⟨o, hx⟩ => (ho k hk).2.1 ⟨o, hX k o hx⟩, (ho k hk).2.2⟩⟩, fun k o hx => h.ext k o (hX k o hx), h.doc, fun k hk => ⟨(h.docB k hk).1, fun ⟨o, hx⟩ => (h.docB k hk).2 ⟨o, hX k o hx⟩⟩, h.below⟩
/-- A box is written whole. -/
theorem WPl.row (h : WPl w X g J D dv W) {k : Nat} {cs : Array Value} {t : TypeId} (hx : X k (.cells cs t (0, 0))) (ds : Array Value) :
    WPl w (fun q o => (X q o ∧ q ≠ k) ∨ (q = k ∧ o = .cells ds t (0, 0))) g J D dv (W.setRow k ds) := by
  obtain ⟨v, hn, ho⟩ := h.net
  have hs : ∀ q, q ≠ k → (W.setRow k ds).heap[q]? = W.heap[q]? := fun q hq => setRow_other W k q ds hq
  have hnk : ∀ q, netO g v q → q ≠ k := fun q hq e => (ho q hq).2.1 ⟨_, e ▸ hx⟩
  have hdk : ∀ q, docO dv D q → q ≠ k := fun q hq e => (h.docB q hq).2 ⟨_, e ▸ hx⟩
  refine ⟨⟨v, hn.stay fun q hq => hs q (hnk q hq), fun q hq => ⟨(ho q hq).1, ?_, (ho q hq).2.2⟩⟩, fun q o hq => ?_, h.doc.stay fun q hq => hs q (hdk q hq), fun q hq => ⟨(h.docB q hq).1, ?_⟩, below_setRow h.below (h.ext k _ hx).2 ds⟩
  · rintro ⟨o, ⟨h1, _⟩ | ⟨e, _⟩⟩
    · exact (ho q hq).2.1 ⟨o, h1⟩
    · exact hnk q hq e
  · rcases hq with ⟨h1, h2⟩ | ⟨rfl, rfl⟩
    · exact ⟨(hs q h2).trans (h.ext q o h1).1, (h.ext q o h1).2⟩
    · exact ⟨setRow_heap W q cs ds t (0, 0) (h.ext q _ hx).1, (h.ext q _ hx).2⟩
  · rintro ⟨o, ⟨h1, _⟩ | ⟨e, _⟩⟩
    · exact (h.docB q hq).2 ⟨o, h1⟩
    · exact hdk q hq e
/-- The document's list is another one. -/
theorem WPl.take (h : WPl w X g J D dv W) (hb : Below W.heap.size W W') (hd : DocW w W' D' dv') (hn' : ∀ k, docO dv' D' k → docO dv D k ∨ W.heap.size ≤ k) : WPl w X g J D' dv' W' := by
  have hl := h.later hb
  obtain ⟨v, hn, ho⟩ := h.net
  refine ⟨⟨v, hn.below hb, fun k hk => ⟨(ho k hk).1, (ho k hk).2.1, fun hx => (hn' k hx).elim (ho k hk).2.2 (fun e => by have := hn.olt k hk; omega)⟩⟩, hl.ext, hd, fun k hk => ?_, hl.below⟩
  rcases hn' k hk with h1 | h1
  · exact h.docB k h1
  · exact ⟨Nat.le_trans h.below.size h1, fun ⟨o, hx⟩ => by have := h.xl hx; omega⟩
theorem WPl.start {g : Nat} (hb : Below w.heap.size w W) (hn : NetV W g (.slice none 0 0) []) (hg : w.heap.size ≤ g) : WPl w (fun _ _ => False) g [] [] (.slice none 0 0) W :=
  ⟨⟨_, hn, fun k hk => by
    rcases hk with rfl | hk
    · exact ⟨hg, fun ⟨_, h⟩ => h, docO_nil _⟩
    · cases hk⟩, fun k o h => h.elim, DocW.none w W, fun k hk => absurd hk (docO_nil k), hb⟩
/-! The calls. -/
theorem wpl_put (h : WPl w X g J D dv W) (hl : J.length ≤ 1000) (m : Mg) (sl : Value) (hf : m.fits) (hw : m.few) (hws : WsAt W sl m.ws) (a b : Int) (ha : I64 a) (hb : I64 b) :
    Calls Try.prog 9 #[.pointer (some ⟨g, 0, none⟩), .agg (m.cells sl), .int .i64 a, .int .i64 b] W fun e W' => e = .returned (.int .i64 (projB (negB a b) m).2) ∧ WPl w X g (putJ J m sl a b) D dv W' := by
  obtain ⟨v, hn, ho⟩ := h.net
  unfold putJ
  by_cases hp : (projB (negB a b) m).2 = 0
  · rw [if_pos hp, hp]
    exact (net_put_yes hn hl m sl hf hw hws a b ha hb hp encOK negOK).mono fun e W' ⟨v', he, hn', hm⟩ => ⟨he, h.step hn ho hn' hm⟩
  · rw [if_neg hp]
    exact (net_put_no hn m sl hf hw hws a b ha hb hp encOK negOK).mono fun e W' ⟨he, hb⟩ => ⟨he, h.later hb⟩
theorem wpl_drop (h : WPl w X g J D dv W) (hl : J.length ≤ 1000) (i : Int) : Calls Try.prog 11 #[.pointer (some ⟨g, 0, none⟩), .int .i64 i] W fun e W' => e = .returned (.tuple #[]) ∧ WPl w X g (cutJ J i) D dv W' := by
  obtain ⟨v, hn, ho⟩ := h.net
  exact (net_drop hn hl i).mono fun e W' ⟨v', he, hn', hm⟩ => ⟨he, h.step hn ho hn' hm⟩
theorem wpl_twice (h : WPl w X g J D dv W) (hl : J.length ≤ 1000) (i : Int) : Calls Try.prog 12 #[.pointer (some ⟨g, 0, none⟩), .int .i64 i] W fun e W' => e = .returned (.tuple #[]) ∧ WPl w X g (twiceJ J i) D dv W' := by
  obtain ⟨v, hn, ho⟩ := h.net
  exact (net_twice hn hl i).mono fun e W' ⟨v', he, hn', hm⟩ => ⟨he, h.step hn ho hn' hm⟩
theorem wpl_flip (h : WPl w X g J D dv W) (hJ : AllOk J) (i bit : Int) (hbit : bit ≤ 9223372036854775807) : Calls Try.prog 13 #[.pointer (some ⟨g, 0, none⟩), .int .i64 i, .int .i64 bit] W fun e W' => e = .returned (.tuple #[]) ∧ WPl w X g (flipJ J i bit) D dv W' := by
  obtain ⟨v, hn, ho⟩ := h.net
  unfold flipJ
  by_cases hc : hasW J i = false ∨ bit < 0
  · rw [if_neg (fun e => hc.elim (fun e2 => by rw [e.1] at e2; cases e2) (fun e2 => by have := e.2.1; omega))]
    exact (net_flip_no hn i bit hc).mono fun e W' ⟨he, hw⟩ => ⟨he, hw ▸ h⟩
  · have hh : hasW J i = true := by cases e : hasW J i with
      | true => rfl
      | false => exact absurd (.inl e) hc
    have h0 : 0 ≤ bit := by omega
    have hi := hasW_iff.1 hh
    obtain ⟨j, rfl⟩ : ∃ j : Nat, i = (j : Int) := ⟨i.toNat, by omega⟩
    obtain ⟨bn, rfl⟩ : ∃ bn : Nat, bit = (bn : Int) := ⟨bit.toNat, by omega⟩
    rw [show (j : Int).toNat = j from Int.toNat_natCast j]
    have hj : j < J.length := by omega
    have hx := hJ.at_ hj
    have hmod : ((bn : Int) % ((J.getD j wj0).bits : Int)) = ((bn % (J.getD j wj0).bits : Nat) : Int) := by omega
    have hoth : (J.getD j wj0).other (bn : Int) = false ↔ ¬ ((J.getD j wj0).on = true ∧ (J.getD j wj0).k ≠ bn % (J.getD j wj0).bits) := by
      unfold Wj.other
      rw [hmod]
      generalize bn % (J.getD j wj0).bits = q
      generalize (J.getD j wj0).k = kk
      cases (J.getD j wj0).on with
      | false => simp
      | true => simp; omega
    by_cases hq : (J.getD j wj0).on = true ∧ (J.getD j wj0).k ≠ bn % (J.getD j wj0).bits
    · rw [if_neg (fun e => hoth.1 e.2.2 hq)]
      exact (net_flip_other hn j bn hj hx hbit hq).mono fun e W' ⟨he, hw⟩ => ⟨he, hw ▸ h⟩
    · rw [if_pos ⟨hh, h0, hoth.2 hq⟩, hmod, Int.toNat_natCast]
      exact (net_flip_yes hn j bn hj hx hbit hq).mono fun e W' ⟨he, hn', hm⟩ => ⟨he, h.step hn ho hn' hm⟩
theorem wpl_take (h : WPl w X g J D dv W) (hJ : AllOk J) (hl : J.length ≤ 1000) (i ver : Int) (hv : I64 ver) : Calls Try.prog 10 #[.pointer (some ⟨g, 0, none⟩), .int .i64 i, .int .i64 ver] W fun e W' => ∃ sl, e = .returned (.tuple #[.agg ((takeM J i ver).1.cells sl), .bool (takeM J i ver).2]) ∧ WsAt W' sl (takeM J i ver).1.ws ∧ WPl w X g (cutJ J i) D dv W' := by
  obtain ⟨v, hn, ho⟩ := h.net
  cases hc : hasW J i with
  | false =>
    have e1 : takeM J i ver = (mg0, false) := by unfold takeM; rw [if_neg (fun e => by rw [hc] at e; cases e.1)]
    have e2 : cutJ J i = J := by unfold cutJ; rw [hc]; rfl
    rw [e1, e2]
    exact (net_take_none hn i ver hc).mono fun e W' ⟨v', sl, he, hw, hn', hm⟩ => ⟨sl, he, hw, h.step hn ho hn' hm⟩
  | true =>
    have hi := hasW_iff.1 hc
    obtain ⟨j, rfl⟩ : ∃ j : Nat, i = (j : Int) := ⟨i.toNat, by omega⟩
    exact (net_take_some hn hl j ver hv (by omega) (hJ.at_ (by omega))).mono fun e W' ⟨v', sl, he, hw, hn', hm⟩ => ⟨sl, he, hw, h.step hn ho hn' hm⟩
theorem wpl_len (h : WPl w X g J D dv W) : Calls Try.prog 16 #[.pointer (some ⟨g, 0, none⟩)] W fun e W' => e = .returned (.int .i64 (J.length : Int)) ∧ W = W' := by
  obtain ⟨v, hn, ho⟩ := h.net
  exact net_len hn
theorem wpl_to (h : WPl w X g J D dv W) (i : Int) : Calls Try.prog 17 #[.pointer (some ⟨g, 0, none⟩), .int .i64 i] W fun e W' => e = .returned (.int .i64 (toJ J i)) ∧ W = W' := by
  obtain ⟨v, hn, ho⟩ := h.net
  exact net_to hn i
theorem wpl_ver (h : WPl w X g J D dv W) (i : Int) : Calls Try.prog 18 #[.pointer (some ⟨g, 0, none⟩), .int .i64 i] W fun e W' => e = .returned (.int .i64 (verJ J i)) ∧ W = W' := by
  obtain ⟨v, hn, ho⟩ := h.net
  exact net_ver hn i
end
def mgW : Mg := { mg0 with kind := 1, to_ := 3 }
theorem mgW_proj : (projB (negB 1 2) mgW).2 = 0 := by decide +kernel
theorem mgW_fits : mgW.fits := by constructor <;> simp [mgW, mg0]
theorem mgW_few : mgW.few := by constructor <;> simp [mgW, mg0]
set_option maxHeartbeats 2000000 in
theorem wawake_any (w : World) : Calls Try.prog 5 #[] w fun e w' => e = .returned (.bool true) ∧ Below w.heap.size w w' := by
  have HM := Lib.hid (fun W => make_any W)
  have HN := Lib.hid (fun W => net_new W)
  have HP := Lib.hid (fun W g (h : WPl w (fun _ _ => False) g [] [] (.slice none 0 0) W) => wpl_put h (by decide) mgW (.slice none 0 0) mgW_fits mgW_few (WsAt.nil W) 1 2 ⟨by decide, by decide⟩ ⟨by decide, by decide⟩)
  rw [mgW_proj] at HP
  have hj : putJ [] mgW (.slice none 0 0) 1 2 = [⟨mgW, .slice none 0 0, negB 1 2, false, 0⟩] := by unfold putJ; rw [if_pos mgW_proj]; rfl
  rw [hj] at HP
  have HT := Lib.hid (fun W g (h : WPl w (fun _ _ => False) g [⟨mgW, .slice none 0 0, negB 1 2, false, 0⟩] [] (.slice none 0 0) W) => wpl_to h 0)
  rw [show toJ [⟨mgW, .slice none 0 0, negB 1 2, false, 0⟩] 0 = 3 from by decide +kernel] at HT
  clear hj
  generalize ([⟨mgW, .slice none 0 0, negB 1 2, false, 0⟩] : List Wj) = J1 at HP HT
  have HP2 : Hid (∀ W g, WPl w (fun _ _ => False) g [] [] (.slice none 0 0) W → Calls Try.prog 9 #[.pointer (some ⟨g, 0, none⟩), .agg #[.int .i64 1, .int .i64 0, .int .i64 3, .int .i64 0, .int .i64 0, .int .i64 0, .int .u64 0, .int .u64 0, .string ⟨#[]⟩, .bool false, .int .u64 0, .bool false, .string ⟨#[]⟩, .slice none 0 0, .string ⟨#[]⟩, .int .u64 0, .int .u64 0], .int .i64 1, .int .i64 2] W fun e W' => e = .returned (.int .i64 0) ∧ WPl w (fun _ _ => False) g J1 [] (.slice none 0 0) W') := Lib.hid (fun W g h => HP.out W g h)
  clear HP
  go_enter Try.func5, Try.ntmps5
  go_wp2_with (first
    | (go_at_call 7; (with_reducible refine (HM.out _).mono ?_); rintro e w1 ⟨rfl, hb1⟩; have HB1 := Lib.hid hb1; clear hb1)
    | (go_at_call 6; (with_reducible refine (HN.out _).mono ?_); rintro e w2 ⟨rfl, hn2, hb2⟩; have HS2 := Lib.hid (WPl.start (HB1.out.trans (hb2.mono HB1.out.size)) hn2 (Nat.le_succ_of_le HB1.out.size)); clear hn2 hb2)
    | (go_at_call 9; (with_reducible refine (HP2.out _ _ HS2.out).mono ?_); rintro e w3 ⟨rfl, hs3⟩; have HS3 := Lib.hid hs3; clear hs3)
    | (go_at_call 17; (with_reducible refine (HT.out _ _ HS3.out).mono ?_); rintro e w4 ⟨rfl, rfl⟩))
  go_ret
  exact ⟨rfl, HS3.out.below⟩
end Go.Proofs.Ytbhlgceicfjncaa
