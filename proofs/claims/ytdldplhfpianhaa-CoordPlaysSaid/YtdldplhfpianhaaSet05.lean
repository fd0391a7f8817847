/-
  A run as mathematics; what is asked of the program's runs.
-/
import Derived.Test.YtdldplhfpianhaaSet03
import Derived.Test.YtdldplhfpianhaaSet04
namespace Go.Proofs.Ytdldplhfpianhaa
open Go.RowKit
set_option linter.unusedVariables false
set_option linter.unnecessarySimpa false
set_option linter.unusedSimpArgs false
set_option maxRecDepth 100000

/-- What was read. -/
structure Rd where
  key : ByteArray
  found : Bool
  v : Vr
def rd0 : Rd := ⟨⟨#[]⟩, false, vr0⟩
def Rd.cells (x : Rd) : List Value := [.string x.key, .bool x.found, .int .u64 (x.v.time : Int), .bool x.v.gone, .string x.v.val]
def Rd.ok (x : Rd) : Prop := x.key.size ≤ 140737488355328 ∧ x.v.val.size ≤ 140737488355328 ∧ x.v.time < 18446744073709551616
def RdAt (W : World) (b off : Nat) (x : Rd) : Prop := b < W.heap.size ∧ x.ok ∧ W.cell? ⟨b, off, none⟩ = some (.string x.key) ∧ W.cell? ⟨b, off + 1, none⟩ = some (.bool x.found) ∧ W.cell? ⟨b, off + 2, none⟩ = some (.int .u64 (x.v.time : Int)) ∧ W.cell? ⟨b, off + 2 + 1, none⟩ = some (.bool x.v.gone) ∧ W.cell? ⟨b, off + 2 + 2, none⟩ = some (.string x.v.val)
def IsRds (W : World) (a : Option Addr) (len cap : Nat) (L : List Rd) : Prop := L.length = len ∧ len ≤ 1000 ∧ len ≤ cap ∧ ∀ i, i < len → ∃ b off, a = some ⟨b, off, none⟩ ∧ RdAt W b (off + i * 5) (L.getD i rd0)
theorem RdAt.below {W W' : World} {b off : Nat} {x : Rd} (h : RdAt W b off x) (hb : Below W.heap.size W W') : RdAt W' b off x := by
  obtain ⟨h1, h2, k0, k1, k2, k3, k4⟩ := h
  exact ⟨Nat.lt_of_lt_of_le h1 hb.size, h2, (hb.cell (p := ⟨b, off, none⟩) h1).trans k0, (hb.cell (p := ⟨b, off + 1, none⟩) h1).trans k1, (hb.cell (p := ⟨b, off + 2, none⟩) h1).trans k2, (hb.cell (p := ⟨b, off + 2 + 1, none⟩) h1).trans k3, (hb.cell (p := ⟨b, off + 2 + 2, none⟩) h1).trans k4⟩
theorem IsRds.below {W W' : World} {a : Option Addr} {len cap : Nat} {L : List Rd} (h : IsRds W a len cap L) (hb : Below W.heap.size W W') : IsRds W' a len cap L :=
  ⟨h.1, h.2.1, h.2.2.1, fun i hi => by obtain ⟨b, off, ha, he⟩ := h.2.2.2 i hi; exact ⟨b, off, ha, he.below hb⟩⟩
/-- A run, but for its program. -/
structure Rn where
  stage : Nat
  start : Nat
  commit : Nat
  read : List Rd
  voted : List Nat
def rn0 : Rn := ⟨1, 0, 0, [], []⟩
/-- A program without the words of its slices; how many nodes. -/
structure Pn where
  R : List ByteArray
  W : List Wq
  n : Nat
def waitsP (p : Pn) (x : Rn) : List Nat := if x.stage = 3 then (List.range p.n).filter (fun k => !((partC p.n (k : Int) p.W).isEmpty || x.voted.contains k)) else []
def goOn (p : Pn) (x : Rn) : Rn := if x.read.length = p.R.length then (if p.W.length = 0 then ⟨5, x.start, x.start, x.read, x.voted⟩ else ⟨3, x.start, x.commit, x.read, x.voted⟩) else x
/-- A call. -/
structure Cq where
  kind : Nat
  time : Nat
  x : Rd
  node : Int
  good : Bool
def startR (p : Pn) (x : Rn) (time : Nat) : Rn := if x.stage = 1 ∧ 0 < time then goOn p ⟨2, time, x.commit, x.read, x.voted⟩ else x
def tookR (p : Pn) (x : Rn) (d : Rd) : Rn := if x.stage = 2 ∧ sameK (p.R.getD x.read.length ⟨#[]⟩) d.key = true then goOn p ⟨x.stage, x.start, x.commit, x.read ++ [d], x.voted⟩ else x
def voteR (p : Pn) (x : Rn) (node : Int) (yes : Bool) : Rn :=
  if (waitsP p x).any (fun k => (k : Int) == node) = true then ⟨if yes = false then 6 else if (waitsP p x).length = 1 then 4 else x.stage, x.start, x.commit, x.read, x.voted ++ [node.toNat]⟩ else x
def commitR (x : Rn) (time : Nat) : Rn := if x.stage = 4 ∧ x.start < time then ⟨5, x.start, time, x.read, x.voted⟩ else x
def abortR (x : Rn) : Rn := if x.stage < 5 then ⟨6, x.start, x.commit, x.read, x.voted⟩ else x
def tellR (p : Pn) (x : Rn) (o : Cq) : Rn :=
  if o.kind % 5 = 0 then startR p x o.time else if o.kind % 5 = 1 then tookR p x o.x else if o.kind % 5 = 2 then voteR p x o.node o.good else if o.kind % 5 = 3 then commitR x o.time else abortR x
/-- What is so of every run. -/
structure RnOk (p : Pn) (x : Rn) : Prop where
  stage : 1 ≤ x.stage ∧ x.stage ≤ 6
  start : x.start < 18446744073709551616
  commit : x.commit < 18446744073709551616
  left : x.stage = 2 → x.read.length < p.R.length
  most : x.read.length ≤ p.R.length
  voted : x.voted.Nodup ∧ ∀ k ∈ x.voted, k < p.n
  ok : ∀ d ∈ x.read, d.ok

/-- Runs of the program's: 'At w r p t x O': in w, the one at r is a run x of the program p, of number t; O is what it owns. -/
structure CrdC where
  At : World → Addr → Pn → Tn → Rn → (Nat → Prop) → Prop
  lt : ∀ {w r p t x O}, At w r p t x O → ∀ k, O k → k < w.heap.size
  stay : ∀ {w w' r p t x O}, At w r p t x O → (∀ k, O k → w'.heap[k]? = w.heap[k]?) → At w' r p t x O
  newYes : ∀ (w : World) (t : Tn) (p : Pg) (n g : Nat), t.ok → PgOk w p → p.rn ≤ 1000 → p.wn ≤ 1000 → 1 ≤ n → n ≤ 5 → (∀ args w, (callFunc g args).run Try.prog w = .ok (.enter g args) w) → (∀ key W, Calls Try.prog g #[.string key] W fun e w' => e = .returned (.int .i64 ((ownN key n : Nat) : Int)) ∧ W = w') → mayC p = 0 →
    Calls Try.prog 23 #[.agg t.cells, .agg p.cells, .func (.func g) #[] #[]] w fun e w' => ∃ r O, e = .returned (.tuple #[.pointer (some r), .int .i64 0]) ∧ At w' r ⟨p.R, p.W, n⟩ t rn0 O ∧ Moves (fun _ => False) O w w'
  newNo : ∀ (w : World) (t : Tn) (p : Pg) (n g : Nat), t.ok → PgOk w p → p.rn ≤ 1000 → p.wn ≤ 1000 → 1 ≤ n → n ≤ 5 → (∀ args w, (callFunc g args).run Try.prog w = .ok (.enter g args) w) → (∀ key W, Calls Try.prog g #[.string key] W fun e w' => e = .returned (.int .i64 ((ownN key n : Nat) : Int)) ∧ W = w') → mayC p ≠ 0 →
    Calls Try.prog 23 #[.agg t.cells, .agg p.cells, .func (.func g) #[] #[]] w fun e w' => e = .returned (.tuple #[.pointer none, .int .i64 (mayC p)]) ∧ Below w.heap.size w w'
  stage : ∀ {w r p t x O}, At w r p t x O → Calls Try.prog 14 #[.pointer (some r)] w fun e w' => e = .returned (.int .i64 (x.stage : Int)) ∧ Below w.heap.size w w'
  times : ∀ {w r p t x O}, At w r p t x O → Calls Try.prog 12 #[.pointer (some r)] w fun e w' => e = .returned (.tuple #[.int .u64 (x.start : Int), .int .u64 (x.commit : Int)]) ∧ Below w.heap.size w w'
  next : ∀ {w r p t x O}, At w r p t x O → Calls Try.prog 13 #[.pointer (some r)] w fun e w' => e = .returned (.tuple (if x.stage = 2 then #[.string (p.R.getD x.read.length ⟨#[]⟩), .bool true] else #[.string ⟨#[]⟩, .bool false])) ∧ Below w.heap.size w w'
  waits : ∀ {w r p t x O}, At w r p t x O → Calls Try.prog 16 #[.pointer (some r)] w fun e w' => ∃ a c, e = .returned (.slice a (waitsP p x).length c) ∧ IsNs w' a (waitsP p x).length (waitsP p x) ∧ Below w.heap.size w w'
  part : ∀ {w r p t x O}, At w r p t x O → ∀ node : Int, (Lit.int .i64 node).wf = true → Calls Try.prog 20 #[.pointer (some r), .int .i64 node] w fun e w' => ∃ a n c, e = .returned (.slice a n c) ∧ IsWqs w' a n c (partC p.n node p.W) ∧ Below w.heap.size w w'
  reads : ∀ {w r p t x O}, At w r p t x O → Calls Try.prog 18 #[.pointer (some r)] w fun e w' => ∃ a c, e = .returned (.slice a x.read.length c) ∧ IsRds w' a x.read.length c x.read ∧ Below w.heap.size w w'
  txn : ∀ {w r p t x O}, At w r p t x O → Calls Try.prog 22 #[.pointer (some r)] w fun e w' => e = .returned (.agg t.cells) ∧ Below w.heap.size w w'
  start : ∀ {w r p t x O}, At w r p t x O → ∀ time : Nat, time < 18446744073709551616 → Calls Try.prog 29 #[.pointer (some r), .int .u64 (time : Int)] w fun e w' => ∃ O', e = .returned (.tuple #[]) ∧ At w' r p t (startR p x time) O' ∧ Moves O O' w w'
  took : ∀ {w r p t x O}, At w r p t x O → ∀ d : Rd, d.ok → Calls Try.prog 30 #[.pointer (some r), .agg d.cells.toArray] w fun e w' => ∃ O', e = .returned (.tuple #[]) ∧ At w' r p t (tookR p x d) O' ∧ Moves O O' w w'
  vote : ∀ {w r p t x O}, At w r p t x O → ∀ (node : Int) (yes : Bool), (Lit.int .i64 node).wf = true → Calls Try.prog 31 #[.pointer (some r), .int .i64 node, .bool yes] w fun e w' => ∃ O', e = .returned (.tuple #[]) ∧ At w' r p t (voteR p x node yes) O' ∧ Moves O O' w w'
  commit : ∀ {w r p t x O}, At w r p t x O → ∀ time : Nat, time < 18446744073709551616 → Calls Try.prog 32 #[.pointer (some r), .int .u64 (time : Int)] w fun e w' => ∃ O', e = .returned (.tuple #[]) ∧ At w' r p t (commitR x time) O' ∧ Moves O O' w w'
  abort : ∀ {w r p t x O}, At w r p t x O → Calls Try.prog 33 #[.pointer (some r)] w fun e w' => ∃ O', e = .returned (.tuple #[]) ∧ At w' r p t (abortR x) O' ∧ Moves O O' w w'

/-- A run beside a call's own memory: below B the world is as w0; what is far is none of what it owns. -/
def CSt (C : CrdC) (w0 : World) (B : Nat) (far : Nat → Prop) (r : Addr) (p : Pn) (t : Tn) (x : Rn) (w : World) : Prop :=
  ∃ O, C.At w r p t x O ∧ (∀ k, O k → B ≤ k ∧ ¬ far k) ∧ Below B w0 w ∧ B ≤ w.heap.size ∧ (∀ k, far k → k < w.heap.size)
def FarSame2 (far : Nat → Prop) (w w' : World) : Prop := w.heap.size ≤ w'.heap.size ∧ ∀ k, far k → w'.heap[k]? = w.heap[k]?
section
variable {C : CrdC} {w0 w w' : World} {B : Nat} {far : Nat → Prop} {r : Addr} {p : Pn} {t : Tn} {x x' : Rn}
theorem CSt.below (h : CSt C w0 B far r p t x w) : Below B w0 w := by obtain ⟨O, _, _, hb, _⟩ := h; exact hb
theorem CSt.size (h : CSt C w0 B far r p t x w) : B ≤ w.heap.size := by obtain ⟨_, _, _, _, h, _⟩ := h; exact h
theorem CSt.far_lt (h : CSt C w0 B far r p t x w) : ∀ k, far k → k < w.heap.size := by obtain ⟨_, _, _, _, _, hf⟩ := h; exact hf
theorem CSt.step {O O' : Nat → Prop} (hO : ∀ k, O k → B ≤ k ∧ ¬ far k) (hb : Below B w0 w) (hB : B ≤ w.heap.size) (hf : ∀ k, far k → k < w.heap.size) (h : C.At w' r p t x' O') (hm : Moves O O' w w') : CSt C w0 B far r p t x' w' ∧ FarSame2 far w w' :=
  ⟨⟨O', h, fun k hk => (hm.own k hk).elim (hO k) (fun h2 => ⟨Nat.le_trans hB h2, fun hx => by have := hf k hx; omega⟩), hb.trans (hm.below (fun k hk => (hO k hk).1) hB), Nat.le_trans hB hm.size, fun k hk => Nat.lt_of_lt_of_le (hf k hk) hm.size⟩,
    hm.size, fun k hk => hm.block k (hf k hk) (fun hx => (hO k hx).2 hk)⟩
theorem CSt.later (h : CSt C w0 B far r p t x w) (hb : Below w.heap.size w w') : CSt C w0 B far r p t x w' ∧ FarSame2 far w w' := by
  obtain ⟨O, hat, hO, hb0, hB, hf⟩ := h
  exact CSt.step hO hb0 hB hf (C.stay hat fun k hk => hb.block k (C.lt hat k hk)) (Moves.of_below hb)
/-- Blocks that are new may be far, too; and fewer may be. -/
theorem CSt.more (h : CSt C w0 B far r p t x w) (hb : Below w.heap.size w w') {far' : Nat → Prop} (hf' : ∀ k, far' k → k < w'.heap.size ∧ (far k ∨ w.heap.size ≤ k)) : CSt C w0 B far' r p t x w' := by
  obtain ⟨O, hat, hO, hb0, hB, hf⟩ := h
  refine ⟨O, C.stay hat fun k hk => hb.block k (C.lt hat k hk), fun k hk => ⟨(hO k hk).1, fun hx => ?_⟩, hb0.trans (hb.mono hB), Nat.le_trans hB hb.size, fun k hk => (hf' k hk).1⟩
  rcases (hf' k hx).2 with h2 | h2
  · exact (hO k hk).2 h2
  · have := C.lt hat k hk
    omega
/-- A far block is written. -/
theorem CSt.put (h : CSt C w0 B far r p t x w) {g : Nat} (hg : far g) (hB : B ≤ g) (i : Nat) (v : Value) : CSt C w0 B far r p t x (w.setCell ⟨g, i, none⟩ v) := by
  obtain ⟨O, hat, hO, hb, hBw, hf⟩ := h
  exact ⟨O, C.stay hat fun k hk => Below.heap_setCell _ _ _ _ (fun e => (hO k hk).2 (by rw [e]; exact hg)), hO, hb.setCell hB _, by simpa [World.setCell] using hBw, fun k hk => by have := hf k hk; simpa [World.setCell] using this⟩
theorem CSt.stageC (h : CSt C w0 B far r p t x w) : Calls Try.prog 14 #[.pointer (some r)] w fun e w' => e = .returned (.int .i64 (x.stage : Int)) ∧ CSt C w0 B far r p t x w' ∧ Below w.heap.size w w' := by
  obtain ⟨O, hat, _⟩ := id h
  exact (C.stage hat).mono fun e w' ⟨he, hb⟩ => ⟨he, (h.later hb).1, hb⟩
theorem CSt.timesC (h : CSt C w0 B far r p t x w) : Calls Try.prog 12 #[.pointer (some r)] w fun e w' => e = .returned (.tuple #[.int .u64 (x.start : Int), .int .u64 (x.commit : Int)]) ∧ CSt C w0 B far r p t x w' ∧ Below w.heap.size w w' := by
  obtain ⟨O, hat, _⟩ := id h
  exact (C.times hat).mono fun e w' ⟨he, hb⟩ => ⟨he, (h.later hb).1, hb⟩
theorem CSt.waitsC (h : CSt C w0 B far r p t x w) : Calls Try.prog 16 #[.pointer (some r)] w fun e w' => ∃ a c, e = .returned (.slice a (waitsP p x).length c) ∧ IsNs w' a (waitsP p x).length (waitsP p x) ∧ CSt C w0 B far r p t x w' ∧ Below w.heap.size w w' := by
  obtain ⟨O, hat, _⟩ := id h
  exact (C.waits hat).mono fun e w' ⟨a, c, he, hn, hb⟩ => ⟨a, c, he, hn, (h.later hb).1, hb⟩
theorem CSt.startC (h : CSt C w0 B far r p t x w) (time : Nat) (ht : time < 18446744073709551616) : Calls Try.prog 29 #[.pointer (some r), .int .u64 (time : Int)] w fun e w' => e = .returned (.tuple #[]) ∧ CSt C w0 B far r p t (startR p x time) w' ∧ FarSame2 far w w' := by
  obtain ⟨O, hat, hO, hb, hB, hf⟩ := h
  exact (C.start hat time ht).mono fun e w' ⟨O', he, h1, h2⟩ => ⟨he, CSt.step hO hb hB hf h1 h2⟩
theorem CSt.tookC (h : CSt C w0 B far r p t x w) (d : Rd) (hd : d.ok) : Calls Try.prog 30 #[.pointer (some r), .agg d.cells.toArray] w fun e w' => e = .returned (.tuple #[]) ∧ CSt C w0 B far r p t (tookR p x d) w' ∧ FarSame2 far w w' := by
  obtain ⟨O, hat, hO, hb, hB, hf⟩ := h
  exact (C.took hat d hd).mono fun e w' ⟨O', he, h1, h2⟩ => ⟨he, CSt.step hO hb hB hf h1 h2⟩
theorem CSt.voteC (h : CSt C w0 B far r p t x w) (node : Int) (yes : Bool) (hn : (Lit.int .i64 node).wf = true) : Calls Try.prog 31 #[.pointer (some r), .int .i64 node, .bool yes] w fun e w' => e = .returned (.tuple #[]) ∧ CSt C w0 B far r p t (voteR p x node yes) w' ∧ FarSame2 far w w' := by
  obtain ⟨O, hat, hO, hb, hB, hf⟩ := h
  exact (C.vote hat node yes hn).mono fun e w' ⟨O', he, h1, h2⟩ => ⟨he, CSt.step hO hb hB hf h1 h2⟩
theorem CSt.commitC (h : CSt C w0 B far r p t x w) (time : Nat) (ht : time < 18446744073709551616) : Calls Try.prog 32 #[.pointer (some r), .int .u64 (time : Int)] w fun e w' => e = .returned (.tuple #[]) ∧ CSt C w0 B far r p t (commitR x time) w' ∧ FarSame2 far w w' := by
  obtain ⟨O, hat, hO, hb, hB, hf⟩ := h
  exact (C.commit hat time ht).mono fun e w' ⟨O', he, h1, h2⟩ => ⟨he, CSt.step hO hb hB hf h1 h2⟩
theorem CSt.abortC (h : CSt C w0 B far r p t x w) : Calls Try.prog 33 #[.pointer (some r)] w fun e w' => e = .returned (.tuple #[]) ∧ CSt C w0 B far r p t (abortR x) w' ∧ FarSame2 far w w' := by
  obtain ⟨O, hat, hO, hb, hB, hf⟩ := h
  exact (C.abort hat).mono fun e w' ⟨O', he, h1, h2⟩ => ⟨he, CSt.step hO hb hB hf h1 h2⟩
end
end Go.Proofs.Ytdldplhfpianhaa
