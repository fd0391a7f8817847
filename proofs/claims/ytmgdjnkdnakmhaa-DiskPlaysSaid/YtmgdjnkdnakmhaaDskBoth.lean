/-
  The program's disk and the document's, beside one another; a step of both.
-/
import Derived.Test.YtmgdjnkdnakmhaaDskAns
import Derived.Test.YtmgdjnkdnakmhaaDskTears
namespace Go.Proofs.Ytmgdjnkdnakmhaa
open Go.RowKit
set_option linter.unusedVariables false
set_option linter.unnecessarySimpa false
set_option linter.unusedSimpArgs false
set_option maxRecDepth 100000

structure BothIn (S : Dsk) (w0 : World) (B : Nat) (r1 r2 : Addr) (D1 D2 : DK) (O1 O2 : Nat → Prop) (w : World) : Prop where
  prog : S.At w r1 D1 O1
  ref : RefD w r2 D2 O2
  from1 : ∀ k, O1 k → B ≤ k
  from2 : ∀ k, O2 k → B ≤ k
  apart : ∀ k, O1 k → ¬ O2 k
  below : Below B w0 w
  size : B ≤ w.heap.size
def Both (S : Dsk) (w0 : World) (B : Nat) (r1 r2 : Addr) (D1 D2 : DK) (w : World) : Prop := ∃ O1 O2, BothIn S w0 B r1 r2 D1 D2 O1 O2 w
/-- .. and a call in a variable. -/
def BothO (S : Dsk) (w0 : World) (B : Nat) (r1 r2 : Addr) (D1 D2 : DK) (q : Nat) (cs : Array Value) (w : World) : Prop :=
  ∃ O1 O2, BothIn S w0 B r1 r2 D1 D2 O1 O2 w ∧ w.heap[q]? = some (.cells cs 32 (0, 0)) ∧ ¬ O1 q ∧ ¬ O2 q
section
variable {S : Dsk} {w0 w w' : World} {B q : Nat} {r1 r2 : Addr} {D1 D2 D' : DK} {O1 O2 O' : Nat → Prop} {cs : Array Value}
theorem BothIn.stay (h : BothIn S w0 B r1 r2 D1 D2 O1 O2 w) (hb : Below w.heap.size w w') : BothIn S w0 B r1 r2 D1 D2 O1 O2 w' :=
  ⟨S.stay h.prog (fun k hk => hb.block k (S.lt h.prog k hk)), h.ref.stay (fun k hk => hb.block k (h.ref.lt k hk)), h.from1, h.from2, h.apart, h.below.trans (hb.mono h.size), Nat.le_trans h.size hb.size⟩
theorem Both.stay (h : Both S w0 B r1 r2 D1 D2 w) (hb : Below w.heap.size w w') : Both S w0 B r1 r2 D1 D2 w' := by
  obtain ⟨O1, O2, h⟩ := h
  exact ⟨O1, O2, h.stay hb⟩
theorem Both.below (h : Both S w0 B r1 r2 D1 D2 w) : Below B w0 w := by obtain ⟨O1, O2, h⟩ := h; exact h.below
theorem Both.alloc (h : Both S w0 B r1 r2 D1 D2 w) (cs : Array Value) : BothO S w0 B r1 r2 D1 D2 w.heap.size cs (w.alloc (.cells cs 32)) := by
  obtain ⟨O1, O2, h⟩ := h
  exact ⟨O1, O2, h.stay ((Below.refl _ _).alloc (Nat.le_refl _) _), heap_alloc_last w _, fun hk => by have := S.lt h.prog _ hk; omega, fun hk => by have := h.ref.lt _ hk; omega⟩
theorem BothO.both (h : BothO S w0 B r1 r2 D1 D2 q cs w) : Both S w0 B r1 r2 D1 D2 w := by obtain ⟨O1, O2, h, _⟩ := h; exact ⟨O1, O2, h⟩
theorem BothO.row (h : BothO S w0 B r1 r2 D1 D2 q cs w) : w.heap[q]? = some (.cells cs 32 (0, 0)) := by obtain ⟨O1, O2, _, h, _⟩ := h; exact h
theorem BothO.stay (h : BothO S w0 B r1 r2 D1 D2 q cs w) (hb : Below w.heap.size w w') : BothO S w0 B r1 r2 D1 D2 q cs w' := by
  obtain ⟨O1, O2, h, hq, h1, h2⟩ := h
  exact ⟨O1, O2, h.stay hb, (hb.block q (row_lt hq)).trans hq, h1, h2⟩
theorem BothIn.prog1 (h : BothIn S w0 B r1 r2 D1 D2 O1 O2 w) (hat : S.At w' r1 D' O') (hm : Moves O1 O' w w') : BothIn S w0 B r1 r2 D' D2 O' O2 w' :=
  ⟨hat, h.ref.stay (fun k hk => hm.block k (h.ref.lt k hk) (fun e => h.apart k e hk)), hm.from h.from1 h.size, h.from2, fun k hk hk2 => (hm.own k hk).elim (fun e => h.apart k e hk2) (fun e => by have := h.ref.lt k hk2; omega),
    h.below.trans (hm.below h.from1 h.size), Nat.le_trans h.size hm.size⟩
theorem BothIn.ref1 (h : BothIn S w0 B r1 r2 D1 D2 O1 O2 w) (hat : RefD w' r2 D' O') (hm : Moves O2 O' w w') : BothIn S w0 B r1 r2 D1 D' O1 O' w' :=
  ⟨S.stay h.prog (fun k hk => hm.block k (S.lt h.prog k hk) (fun e => h.apart k hk e)), hat, h.from1, hm.from h.from2 h.size, fun k hk hk2 => (hm.own k hk2).elim (fun e => h.apart k hk e) (fun e => by have := S.lt h.prog k hk; omega),
    h.below.trans (hm.below h.from2 h.size), Nat.le_trans h.size hm.size⟩
theorem BothO.progStep {f : FuncId} {args : Array Value} {E : Ending} (h : BothO S w0 B r1 r2 D1 D2 q cs w)
    (hc : ∀ O1, S.At w r1 D1 O1 → (∀ k, O1 k → B ≤ k) → Calls Try.prog f args w fun e w' => ∃ O', e = E ∧ S.At w' r1 D' O' ∧ Moves O1 O' w w') : Calls Try.prog f args w fun e w' => e = E ∧ BothO S w0 B r1 r2 D' D2 q cs w' := by
  obtain ⟨O1, O2, h, hq, h1, h2⟩ := h
  exact (hc O1 h.prog h.from1).mono fun e w' ⟨O', he, hat, hm⟩ => ⟨he, O', O2, h.prog1 hat hm, (hm.block q (row_lt hq) h1).trans hq, fun hk => (hm.own q hk).elim h1 (fun e => by have := row_lt hq; omega), h2⟩
theorem BothO.refStep {f : FuncId} {args : Array Value} {E : Ending} (h : BothO S w0 B r1 r2 D1 D2 q cs w)
    (hc : ∀ O2, RefD w r2 D2 O2 → (∀ k, O2 k → B ≤ k) → Calls Try.prog f args w fun e w' => ∃ O', e = E ∧ RefD w' r2 D' O' ∧ Moves O2 O' w w') : Calls Try.prog f args w fun e w' => e = E ∧ BothO S w0 B r1 r2 D1 D' q cs w' := by
  obtain ⟨O1, O2, h, hq, h1, h2⟩ := h
  exact (hc O2 h.ref h.from2).mono fun e w' ⟨O', he, hat, hm⟩ => ⟨he, O1, O', h.ref1 hat hm, (hm.block q (row_lt hq) h2).trans hq, h1, fun hk => (hm.own q hk).elim h2 (fun e => by have := row_lt hq; omega)⟩
theorem Both.progStep {f : FuncId} {args : Array Value} {E : Ending} (h : Both S w0 B r1 r2 D1 D2 w)
    (hc : ∀ O1, S.At w r1 D1 O1 → (∀ k, O1 k → B ≤ k) → Calls Try.prog f args w fun e w' => ∃ O', e = E ∧ S.At w' r1 D' O' ∧ Moves O1 O' w w') : Calls Try.prog f args w fun e w' => e = E ∧ Both S w0 B r1 r2 D' D2 w' := by
  obtain ⟨O1, O2, h⟩ := h
  exact (hc O1 h.prog h.from1).mono fun e w' ⟨O', he, hat, hm⟩ => ⟨he, O', O2, h.prog1 hat hm⟩
end

/-! The program's calls, by what is answered. -/
section
variable (S : Dsk) {w : World} {r : Addr} {D : DK} {O : Nat → Prop}
theorem prog_same {E : Ending} {f : FuncId} {args : Array Value} (h : S.At w r D O) (hc : Calls Try.prog f args w fun e w' => e = E ∧ Below w.heap.size w w') : Calls Try.prog f args w fun e w' => ∃ O', e = E ∧ S.At w' r D O' ∧ Moves O O' w w' :=
  hc.mono fun e w' ⟨he, hb⟩ => ⟨O, he, S.stay h (fun k hk => hb.block k (S.lt h k hk)), Moves.of_below hb⟩
theorem prog_write (h : S.At w r D O) (z : Opz) (hk : z.o.kind % 5 = 0) (hw : D.waits.length < 1000000) :
    Calls Try.prog 10 #[.pointer (some r), .int .i64 z.o.i, .string z.o.b] w fun e w' => ∃ O', e = .returned (.int .i64 (ansD D z).1.2) ∧ S.At w' r (ansD D z).2 O' ∧ Moves O O' w w' := by
  by_cases h1 : z.o.kind % 5 < 3 ∧ D.fuse = 0
  · have e : ansD D z = (([], 6), D) := by unfold ansD; rw [if_pos h1]
    rw [e]
    exact prog_same S h (S.writeLost h _ _ h1.2)
  have hf : D.fuse ≠ 0 := fun e => h1 ⟨by omega, e⟩
  by_cases h2 : badAt D z
  · have e : ansD D z = (([], 1), D) := by unfold ansD; rw [if_neg h1, if_pos h2]
    rw [e]
    exact prog_same S h (S.writeNone h _ _ hf (by obtain ⟨_, h3 | h3 | h3⟩ := h2; exact .inl h3; exact .inr (.inl h3); exact .inr (.inr h3.2)))
  have e : ansD D z = (([], 0), D.wrote z.o.i.toNat z.o.b.data.toList) := by unfold ansD; rw [if_neg h1, if_neg h2, if_pos hk]
  rw [e]
  have hi1 : ¬ z.o.i < 0 := fun h => h2 ⟨by omega, .inl h⟩
  have hi2 : ¬ (D.seen.length : Int) ≤ z.o.i := fun h => h2 ⟨by omega, .inr (.inl h)⟩
  have hi3 : z.o.b.size = 64 := Decidable.byContradiction fun h => h2 ⟨by omega, .inr (.inr ⟨hk, h⟩)⟩
  have := S.write h z.o.i.toNat z.o.b hf (by omega) hi3 hw
  rw [show ((z.o.i.toNat : Nat) : Int) = z.o.i by omega] at this
  exact this
theorem prog_read (h : S.At w r D O) (z : Opz) (hk : z.o.kind % 5 = 1) :
    Calls Try.prog 11 #[.pointer (some r), .int .i64 z.o.i] w fun e w' => ∃ O', e = .returned (.tuple #[.string ⟨(ansD D z).1.1.toArray⟩, .int .i64 (ansD D z).1.2]) ∧ S.At w' r (ansD D z).2 O' ∧ Moves O O' w w' := by
  by_cases h1 : z.o.kind % 5 < 3 ∧ D.fuse = 0
  · have e : ansD D z = (([], 6), D) := by unfold ansD; rw [if_pos h1]
    rw [e]
    exact prog_same S h (S.readLost h _ h1.2)
  have hf : D.fuse ≠ 0 := fun e => h1 ⟨by omega, e⟩
  by_cases h2 : badAt D z
  · have e : ansD D z = (([], 1), D) := by unfold ansD; rw [if_neg h1, if_pos h2]
    rw [e]
    exact prog_same S h (S.readNone h _ hf (by obtain ⟨_, h3 | h3 | h3⟩ := h2; exact .inl h3; exact .inr h3; omega))
  have e : ansD D z = ((D.seen.getD z.o.i.toNat [], 0), D) := by unfold ansD; rw [if_neg h1, if_neg h2, if_neg (by omega), if_pos hk]
  rw [e]
  have hi1 : ¬ z.o.i < 0 := fun h => h2 ⟨by omega, .inl h⟩
  have hi2 : ¬ (D.seen.length : Int) ≤ z.o.i := fun h => h2 ⟨by omega, .inr (.inl h)⟩
  have := S.read h z.o.i.toNat hf (by omega)
  rw [show ((z.o.i.toNat : Nat) : Int) = z.o.i by omega] at this
  exact prog_same S h this
theorem prog_sync (h : S.At w r D O) (z : Opz) (hk : z.o.kind % 5 = 2) :
    Calls Try.prog 12 #[.pointer (some r)] w fun e w' => ∃ O', e = .returned (.int .i64 (ansD D z).1.2) ∧ S.At w' r (ansD D z).2 O' ∧ Moves O O' w w' := by
  by_cases h1 : z.o.kind % 5 < 3 ∧ D.fuse = 0
  · have e : ansD D z = (([], 6), D) := by unfold ansD; rw [if_pos h1]
    rw [e]
    exact prog_same S h (S.syncLost h h1.2)
  have hf : D.fuse ≠ 0 := fun e => h1 ⟨by omega, e⟩
  have e : ansD D z = (([], 0), D.synced) := by unfold ansD; rw [if_neg h1, if_neg (fun h => by have := h.1; omega), if_neg (by omega), if_neg (by omega), if_pos hk]
  rw [e]
  exact S.sync h hf
theorem prog_fuse (h : S.At w r D O) (z : Opz) (hk : z.o.kind % 5 = 3) (hn : -9223372036854775808 ≤ z.o.n ∧ z.o.n ≤ 9223372036854775807) :
    Calls Try.prog 13 #[.pointer (some r), .int .i64 z.o.n] w fun e w' => ∃ O', e = .returned (.tuple #[]) ∧ S.At w' r (ansD D z).2 O' ∧ Moves O O' w w' := by
  have e : ansD D z = (([], 0), D.lit z.o.n) := by unfold ansD; rw [if_neg (fun h => by have := h.1; omega), if_neg (fun h => by have := h.1; omega), if_neg (by omega), if_neg (by omega), if_neg (by omega), if_pos hk]
  rw [e]
  exact S.fuse h _ hn.1 hn.2
theorem prog_crash (h : S.At w r D O) (z : Opz) (hk : z.o.kind % 5 = 4) (hfa : BytesAt w z.o.fa z.o.fl z.fates) (hfl : z.o.fl ≤ 1000000) (hfar : 0 < z.o.fl → ∀ b off s, z.o.fa = some ⟨b, off, s⟩ → ¬ O b) :
    Calls Try.prog 14 #[.pointer (some r), .slice z.o.fa z.o.fl z.o.fc] w fun e w' => ∃ O', e = .returned (.tuple #[]) ∧ S.At w' r (ansD D z).2 O' ∧ Moves O O' w w' := by
  have e : ansD D z = (([], 0), D.crashed z.fates) := by unfold ansD; rw [if_neg (fun h => by have := h.1; omega), if_neg (fun h => by have := h.1; omega), if_neg (by omega), if_neg (by omega), if_neg (by omega), if_neg (by omega)]
  rw [e]
  exact S.crash h _ _ _ _ hfa hfl hfar
theorem ans_34 (D : DK) (z : Opz) (hk : 3 ≤ z.o.kind % 5) : (ansD D z).1 = ([], 0) := by
  unfold ansD
  rw [if_neg (fun h => by have := h.1; omega), if_neg (fun h => by have := h.1; omega), if_neg (by omega), if_neg (by omega), if_neg (by omega)]
  split <;> rfl
theorem ans_02 (D : DK) (z : Opz) (hk : z.o.kind % 5 ≠ 1) : (ansD D z).1.1 = [] := by
  unfold ansD
  repeat (first | rfl | (split; rfl) | (rw [if_neg hk]))
theorem ans_waits (D : DK) (z : Opz) : (ansD D z).2.waits.length ≤ D.waits.length + 1 := by
  unfold ansD
  repeat' split
  all_goals simp [DK.wrote, DK.synced, DK.lit, DK.crashed]
end
theorem BytesAt.below {w w' : World} {a : Option Addr} {len : Nat} {l : List UInt8} (h : BytesAt w a len l) (hb : Below w.heap.size w w') : BytesAt w' a len l := by
  refine ⟨h.1, fun h2 => ?_⟩
  obtain ⟨b2, off2, e2, hbl2, hcf⟩ := h.2 h2
  exact ⟨b2, off2, e2, Nat.lt_of_lt_of_le hbl2 hb.size, fun i hi => by rw [hb.cell (p := ⟨b2, off2 + i, none⟩) hbl2]; exact hcf i hi⟩

/-- A step of both, each call as a contract of its own, the disks and the answers behind names. -/
structure PlaySteps (S : Dsk) (w0 : World) (B : Nat) (r1 r2 : Addr) (D D' : DK) (q : Nat) (z : Opz) (cs : Array Value) (X : ByteArray) (E : Int) : Prop where
  wr : z.o.kind % 5 = 0 → ∀ W, BothO S w0 B r1 r2 D D q cs W → Calls Try.prog 10 #[.pointer (some r1), .int .i64 z.o.i, .string z.o.b] W fun e W' => e = .returned (.int .i64 E) ∧ BothO S w0 B r1 r2 D' D q cs W'
  rd : z.o.kind % 5 = 1 → ∀ W, BothO S w0 B r1 r2 D D q cs W → Calls Try.prog 11 #[.pointer (some r1), .int .i64 z.o.i] W fun e W' => e = .returned (.tuple #[.string X, .int .i64 E]) ∧ BothO S w0 B r1 r2 D' D q cs W'
  sy : z.o.kind % 5 = 2 → ∀ W, BothO S w0 B r1 r2 D D q cs W → Calls Try.prog 12 #[.pointer (some r1)] W fun e W' => e = .returned (.int .i64 E) ∧ BothO S w0 B r1 r2 D' D q cs W'
  fu : z.o.kind % 5 = 3 → ∀ W, BothO S w0 B r1 r2 D D q cs W → Calls Try.prog 13 #[.pointer (some r1), .int .i64 z.o.n] W fun e W' => e = .returned (.tuple #[]) ∧ BothO S w0 B r1 r2 D' D q cs W'
  cr : z.o.kind % 5 = 4 → ∀ W, BothO S w0 B r1 r2 D D q cs W → Calls Try.prog 14 #[.pointer (some r1), .slice z.o.fa z.o.fl z.o.fc] W fun e W' => e = .returned (.tuple #[]) ∧ BothO S w0 B r1 r2 D' D q cs W'
  rf : ∀ W, BothO S w0 B r1 r2 D' D q cs W → Calls Try.prog 15 #[.pointer (some r2), .agg cs] W fun e W' => e = .returned (.tuple #[.string X, .int .i64 E]) ∧ BothO S w0 B r1 r2 D' D' q cs W'
  x : z.o.kind % 5 ≠ 1 → X = ⟨#[]⟩
  e : 3 ≤ z.o.kind % 5 → E = 0

theorem play_steps (S : Dsk) (w w0 : World) (B : Nat) (r1 r2 : Addr) (D : DK) (q : Nat) (z : Opz) (hw0 : Below w.heap.size w w0) (hB : w.heap.size ≤ B) (hn : -9223372036854775808 ≤ z.o.n ∧ z.o.n ≤ 9223372036854775807)
    (hfa : BytesAt w z.o.fa z.o.fl z.fates) (hfl : z.o.fl ≤ 1000000) (hmany : D.waits.length < 1000000) :
    ∃ D' X E, D'.waits.length ≤ D.waits.length + 1 ∧ PlaySteps S w0 B r1 r2 D D' q z z.o.cells X E := by
  have hbw : ∀ {D1 D2 W}, BothO S w0 B r1 r2 D1 D2 q z.o.cells W → BytesAt W z.o.fa z.o.fl z.fates := fun h => hfa.below (hw0.trans (h.both.below.mono hB))
  have hfar : ∀ {O : Nat → Prop}, (∀ k, O k → B ≤ k) → 0 < z.o.fl → ∀ b off s, z.o.fa = some ⟨b, off, s⟩ → ¬ O b := by
    intro O hO h0 b off s e hb
    obtain ⟨b2, off2, e2, hbl2, _⟩ := hfa.2 h0
    rw [e] at e2
    injection e2 with e2
    injection e2 with e3
    have := hO b hb
    omega
  refine ⟨(ansD D z).2, ⟨(ansD D z).1.1.toArray⟩, (ansD D z).1.2, ans_waits D z, ?_, ?_, ?_, ?_, ?_, ?_, ?_, ?_⟩
  · exact fun hk W h => h.progStep fun O hat hO => prog_write S hat z hk hmany
  · exact fun hk W h => h.progStep fun O hat hO => prog_read S hat z hk
  · exact fun hk W h => h.progStep fun O hat hO => prog_sync S hat z hk
  · exact fun hk W h => h.progStep fun O hat hO => prog_fuse S hat z hk hn
  · exact fun hk W h => h.progStep fun O hat hO => prog_crash S hat z hk (hbw h) hfl (hfar hO)
  · exact fun W h => h.refStep fun O hat hO => refDo_any W r2 D O hat z hn.2 (hbw h) (hfar hO) hmany hfl
  · exact fun hk => by rw [ans_02 D z hk]
  · exact fun hk => by rw [ans_34 D z hk]

theorem Both.facts {S : Dsk} {w0 W : World} {B g2 : Nat} {r1 : Addr} {D : DK} (h : Both S w0 B r1 ⟨g2, 0, none⟩ D D W) :
    (∀ W', Below W.heap.size W W' → Calls Try.prog 16 #[.pointer (some r1)] W' fun e w' => e = .returned (.int .i64 D.waits.length) ∧ Below W'.heap.size W' w') ∧
    (∃ aa ca, ∀ W', Below W.heap.size W W' → W'.cell? ⟨g2, 2, none⟩ = some (.slice aa D.waits.length ca)) := by
  obtain ⟨O1, O2, h⟩ := h
  refine ⟨fun W' hb => S.waits (S.stay h.prog (fun k hk => hb.block k (S.lt h.prog k hk))), ?_⟩
  obtain ⟨_, g, N, gs, gn, va, vb, hr, hat, hO⟩ := h.ref
  injection hr with hr
  subst hr
  obtain ⟨aa, ca, hva⟩ := own_form hat.at_
  refine ⟨aa, ca, fun W' hb => ?_⟩
  rw [hb.cell (p := ⟨g2, 2, none⟩) (row_lt hat.cell), hat.cells.2.2.1, hva]

/-- What stands in the end: the crashed disk against the document's sure bytes. -/
structure Ends (S : Dsk) (r1 : Addr) (g2 gs L N : Nat) (l : List (List UInt8)) (W : World) : Prop where
  sectors : Calls Try.prog 17 #[.pointer (some r1)] W fun e w' => e = .returned (.int .i64 L) ∧ Below W.heap.size W w'
  read : ∀ i : Nat, i < L → Calls Try.prog 11 #[.pointer (some r1), .int .i64 i] W fun e w' => e = .returned (.tuple #[.string ⟨(l.getD i []).toArray⟩, .int .i64 0]) ∧ Below W.heap.size W w'
  cell : W.cell? ⟨g2, 0, none⟩ = some (.slice (some ⟨gs, 0, none⟩) N N)
  conv : ∀ i : Nat, i < L → ∀ c : Nat, (convert 30 9 (.slice (some ⟨gs, 64 * i, none⟩) 64 c)).run Try.prog W = .ok (.string ⟨(l.getD i []).toArray⟩) W
theorem Both.ends {S : Dsk} {w0 W : World} {B g2 : Nat} {r1 : Addr} {D : DK} (h : Both S w0 B r1 ⟨g2, 0, none⟩ (D.crashed []) D W) :
    ∃ gs N, N = 64 * D.sure.length ∧ D.sure.length ≤ 4096 ∧ ∀ W', Below W.heap.size W W' → Ends S r1 g2 gs D.sure.length N D.sure W' := by
  obtain ⟨O1, O2, h⟩ := h
  obtain ⟨hok, g, N, gs, gn, va, vb, hr, hat, hO⟩ := h.ref
  injection hr with hr
  subst hr
  have hse : (D.crashed []).seen = D.sure := by show torn D.sure D.waits [] = D.sure; cases D.waits <;> rfl
  refine ⟨gs, N, by rw [hat.size, hok.len], by rw [hok.len]; exact hok.small, fun W' hb => ?_⟩
  have hat1 := S.stay h.prog (fun k hk => hb.block k (S.lt h.prog k hk))
  refine ⟨?_, ?_, ?_, ?_⟩
  · have := S.sectors hat1
    rw [hse] at this
    exact this
  · intro i hi
    have := S.read hat1 i (by show (-1 : Int) ≠ 0; decide) (by rw [hse]; exact hi)
    rw [hse] at this
    exact this
  · rw [hb.cell (p := ⟨g2, 0, none⟩) (row_lt hat.cell), hat.cells.1]
  · intro i hi c
    have hfl := flat_length D.sure hok.sure
    have := convert_part W' gs D.sure.flatten i c ((hb.block gs (row_lt hat.sure)).trans hat.sure) (by omega)
    rw [flat_get D.sure i hok.sure hi] at this
    exact this
theorem Both.crashNil {S : Dsk} {w0 W : World} {B g2 : Nat} {r1 : Addr} {D : DK} (h : Both S w0 B r1 ⟨g2, 0, none⟩ D D W) :
    Calls Try.prog 14 #[.pointer (some r1), .slice none 0 0] W fun e W' => e = .returned (.tuple #[]) ∧ Both S w0 B r1 ⟨g2, 0, none⟩ (D.crashed []) D W' :=
  h.progStep fun O hat hO => S.crash hat none 0 0 [] ⟨rfl, fun h => absurd h (by omega)⟩ (by omega) (fun h => absurd h (by omega))
end Go.Proofs.Ytmgdjnkdnakmhaa
