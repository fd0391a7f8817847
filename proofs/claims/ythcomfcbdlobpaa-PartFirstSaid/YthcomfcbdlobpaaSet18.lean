/-
  Joined: PrtContracts, PrtAwake.
-/
import Derived.Test.YthcomfcbdlobpaaSet17
import Derived.Deep.LoopGhost
import Derived.BigQuiet
namespace Go.Proofs.Ythcomfcbdlobpaa
open Go.RowKit
set_option linter.unusedVariables false
set_option linter.unnecessarySimpa false
set_option linter.unusedSimpArgs false
set_option maxRecDepth 100000

/-- Transactions that a slice has. -/
def TnAt (W : World) (b off : Nat) (t : Tn) : Prop := b < W.heap.size ∧ W.cell? ⟨b, off, none⟩ = some (.int .i64 t.node) ∧ W.cell? ⟨b, off + 1, none⟩ = some (.int .i64 t.life) ∧ W.cell? ⟨b, off + 2, none⟩ = some (.int .i64 t.seq)
def tn0 : Tn := ⟨0, 0, 0⟩
def IsTns (W : World) (a : Option Addr) (len : Nat) (L : List Tn) : Prop := L.length = len ∧ len ≤ maxLen ∧ ∀ i, i < len → ∃ b off, a = some ⟨b, off, none⟩ ∧ TnAt W b (off + i * 3) (L.getD i tn0)
theorem TnAt.below {W W' : World} {b off : Nat} {t : Tn} (h : TnAt W b off t) (hb : Below W.heap.size W W') : TnAt W' b off t := by
  obtain ⟨h1, k0, k1, k2⟩ := h
  exact ⟨Nat.lt_of_lt_of_le h1 hb.size, (hb.cell (p := ⟨b, off, none⟩) h1).trans k0, (hb.cell (p := ⟨b, off + 1, none⟩) h1).trans k1, (hb.cell (p := ⟨b, off + 2, none⟩) h1).trans k2⟩
theorem IsTns.below {W W' : World} {a : Option Addr} {len : Nat} {L : List Tn} (h : IsTns W a len L) (hb : Below W.heap.size W W') : IsTns W' a len L :=
  ⟨h.1, h.2.1, fun i hi => by obtain ⟨b, off, ha, he⟩ := h.2.2 i hi; exact ⟨b, off, ha, he.below hb⟩⟩
/-- One is ahead of another one. -/
def ltT (a b : Tn) : Bool := if a.node ≠ b.node then decide (a.node < b.node) else if a.life ≠ b.life then decide (a.life < b.life) else decide (a.seq < b.seq)
def SortedT (L : List Tn) : Prop := ∀ i, i + 1 < L.length → ltT (L.getD i tn0) (L.getD (i + 1) tn0) = true

/-- A participant of the program's: 'At w r rs S P O': in w, the one at r has the store at rs, with the versions S, as they came, and P is prepared (of which the words of slices do not count); O is what it owns, the store among it. -/
structure PrtC where
  M : MvcC
  At : World → Addr → Addr → List Im → List Pd → (Nat → Prop) → Prop
  lt : ∀ {w r rs S P O}, At w r rs S P O → ∀ k, O k → k < w.heap.size
  stay : ∀ {w w' r rs S P O}, At w r rs S P O → (∀ k, O k → w'.heap[k]? = w.heap[k]?) → At w' r rs S P O
  new : ∀ {w rs L O}, M.At w rs L O → Calls Try.prog 7 #[.pointer (some rs)] w fun e w' => ∃ r O', e = .returned (.pointer (some r)) ∧ At w' r rs L [] O' ∧ Moves O O' w w'
  read : ∀ {w r rs S P O}, At w r rs S P O → ∀ (key : ByteArray) (t : Nat), key.size ≤ maxLen → t < 18446744073709551616 →
    Calls Try.prog 9 #[.pointer (some r), .string key, .int .u64 (t : Int)] w fun e w' => e = .returned (.tuple #[.agg #[.int .u64 ((readV S P key t).time : Int), .bool (readV S P key t).gone, .string (readV S P key t).val], .int .i64 (readE S P key t : Int)]) ∧ Below w.heap.size w w'
  may : ∀ {w r rs S P O}, At w r rs S P O → ∀ (t : Tn) (start : Nat) (a : Option Addr) (n c : Nat) (ws : List Wq), t.ok → IsWqs w a n c ws → start < 18446744073709551616 → n ≤ 1000 → S.length ≤ 1000 →
    Calls Try.prog 10 #[.pointer (some r), .agg t.cells, .int .u64 (start : Int), .slice a n c] w fun e w' => e = .returned (.int .i64 (mayN S P t start ws : Int)) ∧ Below w.heap.size w w'
  prepare : ∀ {w r rs S P O}, At w r rs S P O → ∀ p : Pd, p.t.ok → IsWqs w p.a p.n p.c p.w → p.start < 18446744073709551616 → p.n ≤ 1000 → S.length ≤ 1000 → P.length ≤ 1000 →
    Calls Try.prog 11 #[.pointer (some r), .agg p.t.cells, .int .u64 (p.start : Int), .slice p.a p.n p.c] w fun e w' => ∃ O', e = .returned (.int .i64 (mayN S P p.t p.start p.w : Int)) ∧ At w' r rs S (prepP S P p) O' ∧ Moves O O' w w'
  prepared : ∀ {w r rs S P O}, At w r rs S P O → ∀ t : Tn, t.ok → Calls Try.prog 19 #[.pointer (some r), .agg t.cells] w fun e w' => e = .returned (.bool (decide (atN t P < P.length))) ∧ Below w.heap.size w w'
  commit : ∀ {w r rs S P O}, At w r rs S P O → ∀ (t : Tn) (time : Nat), t.ok → time < 18446744073709551616 → S.length ≤ 900 → P.length ≤ 1000 → (∀ p ∈ P, p.w.length ≤ 8) →
    Calls Try.prog 12 #[.pointer (some r), .agg t.cells, .int .u64 (time : Int)] w fun e w' => ∃ O', e = .returned (.int .i64 ((comR S P t time).2 : Int)) ∧ At w' r rs (comR S P t time).1.1 (comR S P t time).1.2 O' ∧ Moves O O' w w'
  abort : ∀ {w r rs S P O}, At w r rs S P O → ∀ t : Tn, t.ok → P.length ≤ 1000 → Calls Try.prog 13 #[.pointer (some r), .agg t.cells] w fun e w' => ∃ O', e = .returned (.int .i64 ((aboR P t).2 : Int)) ∧ At w' r rs S (aboR P t).1 O' ∧ Moves O O' w w'
  all : ∀ {w r rs S P O}, At w r rs S P O → P.length ≤ 1000 → Calls Try.prog 18 #[.pointer (some r)] w fun e w' => ∃ (a : Option Addr) (c : Nat) (L : List Tn), e = .returned (.slice a P.length c) ∧ IsTns w' a P.length L ∧ SortedT L ∧ (∀ i, i < P.length → atN (L.getD i tn0) P < P.length ∧ (L.getD i tn0).ok) ∧ Below w.heap.size w w'
  store : ∀ {w r rs S P O}, At w r rs S P O → Calls Try.prog 15 #[.pointer (some r)] w fun e w' => e = .returned (.pointer (some rs)) ∧ Below w.heap.size w w'
  install : ∀ {w r rs S P O}, At w r rs S P O → ∀ m : Im, S.length ≤ 1000 → m.key.size ≤ maxLen → m.v.val.size ≤ maxLen → m.v.time < 18446744073709551616 →
    Calls Try.prog 16 #[.pointer (some rs), .string m.key, .agg #[.int .u64 (m.v.time : Int), .bool m.v.gone, .string m.v.val]] w fun e w' => ∃ O', e = .returned (.int .i64 ((insM S m).2 : Int)) ∧ At w' r rs (insM S m).1 P O' ∧ Moves O O' w w'

/-- A participant beside a call's own memory: below B the world is as w0; what is far is none of what it owns. -/
def PSt (C : PrtC) (w0 : World) (B : Nat) (far : Nat → Prop) (r rs : Addr) (S : List Im) (P : List Pd) (w : World) : Prop :=
  ∃ O, C.At w r rs S P O ∧ (∀ k, O k → B ≤ k ∧ ¬ far k) ∧ Below B w0 w ∧ B ≤ w.heap.size ∧ (∀ k, far k → k < w.heap.size)
section
variable {C : PrtC} {w0 w w' : World} {B : Nat} {far : Nat → Prop} {r rs : Addr} {S S' : List Im} {P P' : List Pd}
theorem PSt.below (h : PSt C w0 B far r rs S P w) : Below B w0 w := by obtain ⟨O, _, _, hb, _⟩ := h; exact hb
theorem PSt.size (h : PSt C w0 B far r rs S P w) : B ≤ w.heap.size := by obtain ⟨_, _, _, _, h, _⟩ := h; exact h
theorem PSt.far_lt (h : PSt C w0 B far r rs S P w) : ∀ k, far k → k < w.heap.size := by obtain ⟨_, _, _, _, _, hf⟩ := h; exact hf
theorem PSt.step {O O' : Nat → Prop} (hO : ∀ k, O k → B ≤ k ∧ ¬ far k) (hb : Below B w0 w) (hB : B ≤ w.heap.size) (hf : ∀ k, far k → k < w.heap.size) (h : C.At w' r rs S' P' O') (hm : Moves O O' w w') : PSt C w0 B far r rs S' P' w' ∧ FarSame far w w' :=
  ⟨⟨O', h, fun k hk => (hm.own k hk).elim (hO k) (fun h2 => ⟨Nat.le_trans hB h2, fun hx => by have := hf k hx; omega⟩), hb.trans (hm.below (fun k hk => (hO k hk).1) hB), Nat.le_trans hB hm.size, fun k hk => Nat.lt_of_lt_of_le (hf k hk) hm.size⟩,
    hm.size, fun k hk => hm.block k (hf k hk) (fun hx => (hO k hx).2 hk)⟩
theorem PSt.later (h : PSt C w0 B far r rs S P w) (hb : Below w.heap.size w w') : PSt C w0 B far r rs S P w' ∧ FarSame far w w' := by
  obtain ⟨O, hat, hO, hb0, hB, hf⟩ := h
  exact PSt.step hO hb0 hB hf (C.stay hat fun k hk => hb.block k (C.lt hat k hk)) (Moves.of_below hb)
/-- Blocks that are new may be far, too; and fewer may be. -/
theorem PSt.more (h : PSt C w0 B far r rs S P w) (hb : Below w.heap.size w w') {far' : Nat → Prop} (hf' : ∀ k, far' k → k < w'.heap.size ∧ (far k ∨ w.heap.size ≤ k)) : PSt C w0 B far' r rs S P w' := by
  obtain ⟨O, hat, hO, hb0, hB, hf⟩ := h
  refine ⟨O, C.stay hat fun k hk => hb.block k (C.lt hat k hk), fun k hk => ⟨(hO k hk).1, fun hx => ?_⟩, hb0.trans (hb.mono hB), Nat.le_trans hB hb.size, fun k hk => (hf' k hk).1⟩
  rcases (hf' k hx).2 with h2 | h2
  · exact (hO k hk).2 h2
  · have := C.lt hat k hk
    omega
/-- A far block is written. -/
theorem PSt.put (h : PSt C w0 B far r rs S P w) {g : Nat} (hg : far g) (hB : B ≤ g) (i : Nat) (v : Value) : PSt C w0 B far r rs S P (w.setCell ⟨g, i, none⟩ v) := by
  obtain ⟨O, hat, hO, hb, hBw, hf⟩ := h
  exact ⟨O, C.stay hat fun k hk => Below.heap_setCell _ _ _ _ (fun e => (hO k hk).2 (by rw [e]; exact hg)), hO, hb.setCell hB _, by simpa [World.setCell] using hBw, fun k hk => by have := hf k hk; simpa [World.setCell] using this⟩
theorem PSt.read (h : PSt C w0 B far r rs S P w) (key : ByteArray) (t : Nat) (h1 : key.size ≤ maxLen) (h2 : t < 18446744073709551616) :
    Calls Try.prog 9 #[.pointer (some r), .string key, .int .u64 (t : Int)] w fun e w' => e = .returned (.tuple #[.agg #[.int .u64 ((readV S P key t).time : Int), .bool (readV S P key t).gone, .string (readV S P key t).val], .int .i64 (readE S P key t : Int)]) ∧ PSt C w0 B far r rs S P w' ∧ FarSame far w w' := by
  obtain ⟨O, hat, _⟩ := id h
  exact (C.read hat key t h1 h2).mono fun e w' ⟨he, hb⟩ => ⟨he, h.later hb⟩
theorem PSt.may (h : PSt C w0 B far r rs S P w) (t : Tn) (start : Nat) (a : Option Addr) (n c : Nat) (ws : List Wq) (h0 : t.ok) (h1 : IsWqs w a n c ws) (h2 : start < 18446744073709551616) (h3 : n ≤ 1000) (h4 : S.length ≤ 1000) :
    Calls Try.prog 10 #[.pointer (some r), .agg t.cells, .int .u64 (start : Int), .slice a n c] w fun e w' => e = .returned (.int .i64 (mayN S P t start ws : Int)) ∧ PSt C w0 B far r rs S P w' ∧ FarSame far w w' := by
  obtain ⟨O, hat, _⟩ := id h
  exact (C.may hat t start a n c ws h0 h1 h2 h3 h4).mono fun e w' ⟨he, hb⟩ => ⟨he, h.later hb⟩
theorem PSt.prepare (h : PSt C w0 B far r rs S P w) (p : Pd) (h0 : p.t.ok) (h1 : IsWqs w p.a p.n p.c p.w) (h2 : p.start < 18446744073709551616) (h3 : p.n ≤ 1000) (h4 : S.length ≤ 1000) (h5 : P.length ≤ 1000) :
    Calls Try.prog 11 #[.pointer (some r), .agg p.t.cells, .int .u64 (p.start : Int), .slice p.a p.n p.c] w fun e w' => e = .returned (.int .i64 (mayN S P p.t p.start p.w : Int)) ∧ PSt C w0 B far r rs S (prepP S P p) w' ∧ FarSame far w w' := by
  obtain ⟨O, hat, hO, hb, hB, hf⟩ := h
  exact (C.prepare hat p h0 h1 h2 h3 h4 h5).mono fun e w' ⟨O', he, h1, h2⟩ => ⟨he, PSt.step hO hb hB hf h1 h2⟩
theorem PSt.prepared (h : PSt C w0 B far r rs S P w) (t : Tn) (h0 : t.ok) :
    Calls Try.prog 19 #[.pointer (some r), .agg t.cells] w fun e w' => e = .returned (.bool (decide (atN t P < P.length))) ∧ PSt C w0 B far r rs S P w' ∧ Below w.heap.size w w' := by
  obtain ⟨O, hat, _⟩ := id h
  exact (C.prepared hat t h0).mono fun e w' ⟨he, hb⟩ => ⟨he, (h.later hb).1, hb⟩
theorem PSt.commit (h : PSt C w0 B far r rs S P w) (t : Tn) (time : Nat) (h0 : t.ok) (h1 : time < 18446744073709551616) (h2 : S.length ≤ 900) (h3 : P.length ≤ 1000) (h4 : ∀ p ∈ P, p.w.length ≤ 8) :
    Calls Try.prog 12 #[.pointer (some r), .agg t.cells, .int .u64 (time : Int)] w fun e w' => e = .returned (.int .i64 ((comR S P t time).2 : Int)) ∧ PSt C w0 B far r rs (comR S P t time).1.1 (comR S P t time).1.2 w' ∧ FarSame far w w' := by
  obtain ⟨O, hat, hO, hb, hB, hf⟩ := h
  exact (C.commit hat t time h0 h1 h2 h3 h4).mono fun e w' ⟨O', he, h1, h2⟩ => ⟨he, PSt.step hO hb hB hf h1 h2⟩
theorem PSt.abort (h : PSt C w0 B far r rs S P w) (t : Tn) (h0 : t.ok) (h1 : P.length ≤ 1000) :
    Calls Try.prog 13 #[.pointer (some r), .agg t.cells] w fun e w' => e = .returned (.int .i64 ((aboR P t).2 : Int)) ∧ PSt C w0 B far r rs S (aboR P t).1 w' ∧ FarSame far w w' := by
  obtain ⟨O, hat, hO, hb, hB, hf⟩ := h
  exact (C.abort hat t h0 h1).mono fun e w' ⟨O', he, h1, h2⟩ => ⟨he, PSt.step hO hb hB hf h1 h2⟩
theorem PSt.all (h : PSt C w0 B far r rs S P w) (h1 : P.length ≤ 1000) :
    Calls Try.prog 18 #[.pointer (some r)] w fun e w' => ∃ (a : Option Addr) (c : Nat) (L : List Tn), e = .returned (.slice a P.length c) ∧ IsTns w' a P.length L ∧ SortedT L ∧ (∀ i, i < P.length → atN (L.getD i tn0) P < P.length ∧ (L.getD i tn0).ok) ∧ PSt C w0 B far r rs S P w' ∧ Below w.heap.size w w' := by
  obtain ⟨O, hat, _⟩ := id h
  exact (C.all hat h1).mono fun e w' ⟨a, c, L, he, h2, h3, h4, hb⟩ => ⟨a, c, L, he, h2, h3, h4, (h.later hb).1, hb⟩
theorem PSt.store (h : PSt C w0 B far r rs S P w) :
    Calls Try.prog 15 #[.pointer (some r)] w fun e w' => e = .returned (.pointer (some rs)) ∧ PSt C w0 B far r rs S P w' ∧ Below w.heap.size w w' := by
  obtain ⟨O, hat, _⟩ := id h
  exact (C.store hat).mono fun e w' ⟨he, hb⟩ => ⟨he, (h.later hb).1, hb⟩
theorem PSt.install (h : PSt C w0 B far r rs S P w) (m : Im) (h1 : S.length ≤ 1000) (h2 : m.key.size ≤ maxLen) (h3 : m.v.val.size ≤ maxLen) (h4 : m.v.time < 18446744073709551616) :
    Calls Try.prog 16 #[.pointer (some rs), .string m.key, .agg #[.int .u64 (m.v.time : Int), .bool m.v.gone, .string m.v.val]] w fun e w' => e = .returned (.int .i64 ((insM S m).2 : Int)) ∧ PSt C w0 B far r rs (insM S m).1 P w' ∧ FarSame far w w' := by
  obtain ⟨O, hat, hO, hb, hB, hf⟩ := h
  exact (C.install hat m h1 h2 h3 h4).mono fun e w' ⟨O', he, h1, h2⟩ => ⟨he, PSt.step hO hb hB hf h1 h2⟩
/-- A new one over a store. -/
theorem pst_new (C : PrtC) {w0 w : World} {B : Nat} {far : Nat → Prop} {rs : Addr} {L : List Im} (h : MSt C.M w0 B far rs L w) :
    Calls Try.prog 7 #[.pointer (some rs)] w fun e w' => ∃ r, e = .returned (.pointer (some r)) ∧ PSt C w0 B far r rs L [] w' ∧ FarSame far w w' := by
  obtain ⟨O, hat, hO, hb, hB, hf⟩ := h
  exact (C.new hat).mono fun e w' ⟨r, O', he, h1, h2⟩ => ⟨r, he, PSt.step hO hb hB hf h1 h2⟩
end
end Go.Proofs.Ythcomfcbdlobpaa

namespace Go.Proofs.Ythcomfcbdlobpaa
open Go.RowKit
set_option linter.unusedVariables false
set_option linter.unnecessarySimpa false
set_option linter.unusedSimpArgs false
set_option maxRecDepth 100000

def awT : Tn := ⟨0, 0, 1⟩
theorem awT_ok : awT.ok := ⟨by decide, by decide, by decide⟩
def awW : List Wq := [⟨⟨#[107]⟩, false, ⟨#[]⟩⟩]
theorem aw_may : mayN [] [] awT 3 awW = 0 := by
  unfold mayN
  have h1 : (List.range awW.length).any (badB awW) = false := by decide
  have h2 : awW.any longQ = false := by decide
  have h3 : awW.any (fun m => lockedP m.key []) = false := by decide
  have h4 : awW.any (lateQ [] 3) = false := by decide
  have h5 : awW.any (fullQ []) = false := by decide
  have h6 : ¬ (awW.length < 1 ∨ 8 < awW.length) := by decide
  unfold mayP
  rw [if_neg (by simp), if_neg (by rw [h1]; simp), if_neg h6, if_neg (by rw [h2]; simp), if_neg (by rw [h3]; simp), if_neg (by rw [h4]; simp), if_neg (by rw [h5]; simp)]
  rfl
theorem aw_prep (a : Option Addr) (n c : Nat) : prepP [] [] ⟨awT, 3, a, n, c, awW⟩ = [⟨awT, 3, a, n, c, awW⟩] := by
  unfold prepP
  rw [if_pos ⟨aw_may, by simp⟩]
  rfl
theorem aw_at (p : Pd) (h : p.t = awT) : decide (atN awT [p] < [p].length) = true := by
  unfold atN
  simp [h]
theorem aw_ws {W : World} {g : Nat} (hg : W.heap[g]? = some (.cells #[.string ⟨#[107]⟩, .bool false, .string ⟨#[]⟩] 51 (0, 0))) : IsWqs W (some ⟨g, 0, none⟩) 1 1 awW := by
  refine ⟨rfl, by unfold maxLen; omega, by omega, fun i hi => ⟨g, 0, rfl, ?_⟩⟩
  obtain rfl : i = 0 := by omega
  refine ⟨(Array.getElem?_eq_some_iff.1 hg).1, by show (1 : Nat) ≤ maxLen; unfold maxLen; omega, by show (0 : Nat) ≤ maxLen; omega, ?_, ?_, ?_⟩
  · rw [cell_of_row _ _ _ _ _ _ hg]; rfl
  · rw [cell_of_row _ _ _ _ _ _ hg]; rfl
  · rw [cell_of_row _ _ _ _ _ _ hg]; rfl
set_option maxHeartbeats 1000000 in
theorem pawake_any (C : PrtC) (w : World) : Calls Try.prog 5 #[] w fun e w' => e = .returned (.bool true) ∧ Below w.heap.size w w' := by
  have hm := Lib.hid (mst_new C.M (Below.refl w.heap.size w) (Nat.le_refl _) (far := fun _ => False) (fun k hk => hk.elim))
  have hn := Lib.hid (fun rs W (h : MSt C.M w w.heap.size (fun _ => False) rs [] W) => pst_new C h)
  have hp := Lib.hid (fun r rs W (g : Nat) (h : PSt C w w.heap.size (fun _ => False) r rs [] [] W) (hg : W.heap[g]? = some (.cells #[.string ⟨#[107]⟩, .bool false, .string ⟨#[]⟩] 51 (0, 0))) =>
    h.prepare ⟨awT, 3, some ⟨g, 0, none⟩, 1, 1, awW⟩ awT_ok (aw_ws hg) (show 3 < 18446744073709551616 by decide) (show 1 ≤ 1000 by decide) (by decide) (by decide))
  go_enter Try.func5, Try.ntmps5
  go_upto_region 2 with (first
    | (go_at_call 8; refine hm.out.mono ?_; rintro e w1 ⟨rs, rfl, hs, _⟩; have HS1 := Lib.hid (hn.out _ _ hs); clear hs)
    | (go_at_call 7; refine HS1.out.mono ?_; rintro e w2 ⟨r, rfl, hs2, _⟩; have HS2 := Lib.hid hs2; clear hs2))
  have HS3 := Lib.hid ((HS2.out.later ((Below.refl _ _).alloc (Nat.le_refl _) (.cells #[.string ⟨#[107]⟩, .bool false, .string ⟨#[]⟩] 51))).1)
  have HP := Lib.hid (hp.out _ _ _ w2.heap.size HS3.out (heap_alloc_new w2 _))
  simp only [aw_may, aw_prep] at HP
  unfold awT Tn.cells at HP
  simp only at HP
  rw [show ((3 : Nat) : Int) = 3 from rfl, show ((0 : Nat) : Int) = 0 from rfl] at HP
  have hq2 := Lib.hid (fun W (p : Pd) (hpt : p.t = awT) (h : PSt C w w.heap.size (fun _ => False) r rs [] [p] W) => (show Calls Try.prog 19 #[.pointer (some r), .agg #[.int .i64 0, .int .i64 0, .int .i64 1]] W fun e w' => e = .returned (.bool true) ∧ PSt C w w.heap.size (fun _ => False) r rs [] [p] w' ∧ Below W.heap.size W w' from by
    have := h.prepared awT awT_ok
    rw [aw_at p hpt] at this
    exact this))
  go_wp2_with (first
    | (go_at_call 11; (with_reducible refine HP.out.mono ?_); rintro e w4 ⟨rfl, hs4, _⟩; have HS4 := Lib.hid (hq2.out _ _ rfl hs4); have HB4 := Lib.hid hs4.below; clear hs4)
    | (go_at_call 19; (with_reducible refine HS4.out.mono ?_); rintro e w5 ⟨rfl, hs5, _⟩; have HB5 := Lib.hid hs5.below; clear hs5))
  go_ret
  exact ⟨rfl, HB5.out⟩
set_option maxHeartbeats 1000000 in
theorem pless_any (x y : Tn) (w : World) : Calls Try.prog 20 #[.agg x.cells, .agg y.cells] w fun e w' => e = .returned (.bool (ltT x y)) ∧ Below w.heap.size w w' := by
  obtain ⟨a, b, c⟩ := x
  obtain ⟨a', b', c'⟩ := y
  unfold Tn.cells
  have HW := Lib.hid (TwoW.start w #[.int .i64 a, .int .i64 b, .int .i64 c] #[.int .i64 a', .int .i64 b', .int .i64 c'] 36 36)
  by_cases e1 : a = a'
  · subst e1
    by_cases e2 : b = b'
    · subst e2
      have e : ltT ⟨a, b, c⟩ ⟨a, b, c'⟩ = decide (c < c') := by simp [ltT]
      rw [e]
      clear e
      go_enter Try.func20, Try.ntmps20
      go_wp2_with fail
      go_ret
      exact ⟨rfl, HW.out.below⟩
    · have e : ltT ⟨a, b, c⟩ ⟨a, b', c'⟩ = decide (b < b') := by simp [ltT, e2]
      rw [e]
      have c2 : (b != b') = true := by rw [bne_iff_ne]; exact e2
      clear e
      go_enter Try.func20, Try.ntmps20
      go_wp2_with fail
      go_ret
      exact ⟨rfl, HW.out.below⟩
  · have e : ltT ⟨a, b, c⟩ ⟨a', b', c'⟩ = decide (a < a') := by simp [ltT, e1]
    rw [e]
    have c1 : (a != a') = true := by rw [bne_iff_ne]; exact e1
    clear e
    go_enter Try.func20, Try.ntmps20
    go_wp2_with fail
    go_ret
    exact ⟨rfl, HW.out.below⟩
end Go.Proofs.Ythcomfcbdlobpaa
