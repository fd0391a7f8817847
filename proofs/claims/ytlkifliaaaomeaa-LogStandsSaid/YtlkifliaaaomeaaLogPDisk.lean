/-
  The program's disk beside a strings.Builder of the call's own: what each call leaves of both.
-/
import Derived.Test.YtlkifliaaaomeaaDskProgram
import Derived.Test.YtlkifliaaaomeaaShelf
import Derived.Test.YtlkifliaaaomeaaLogPMath
import Derived.Lib.OthersKept
namespace Go.Proofs.Ytlkifliaaaomeaa
open Go.RowKit
set_option linter.unusedVariables false
set_option linter.unnecessarySimpa false
set_option linter.unusedSimpArgs false
set_option maxRecDepth 100000

/-- What a disk owns are no bytes, and no builder. -/
theorem pat_kind {w : World} {d : Addr} {D : DK} {O : Nat → Prop} (h : PAt w d D O) : ∀ k, O k → ∃ cs t, w.heap[k]? = some (.cells cs t (0, 0)) ∧ t ≠ 5 ∧ t ≠ 81 := by
  obtain ⟨hok, g, gs, vb, P, rfl, hp, hO⟩ := h
  intro k hk
  rcases (hO k).1 hk with rfl | rfl | e
  · exact ⟨_, _, hp.mem.cell, by decide, by decide⟩
  · exact ⟨_, _, hp.mem.rows, by decide, by decide⟩
  · obtain ⟨cs, hr⟩ := pOwn_row hp.mem.wait e
    exact ⟨cs, _, hr, by decide, by decide⟩
/-- A builder stays, where its blocks do. -/
theorem builder_stays {w w' : World} {B b : Nat} {bs : List Value} (h : Lib.IsBuilderF 81 5 B b bs w)
    (hk : ∀ (k : Nat) (cs : Array Value) (t : TypeId) (fz : Nat × Nat), w.heap[k]? = some (Obj.cells cs t fz) → (t = 5 ∨ t = 81) → w'.heap[k]? = w.heap[k]?) : Lib.IsBuilderF 81 5 B b bs w' := by
  have key : ∀ p, Lib.BuilderAtF 81 5 B b p bs w → Lib.BuilderAtF 81 5 B b p bs w' := by
    rintro p ⟨hB, v, hb, hown, hne⟩
    refine ⟨hB, v, (hk b _ _ _ hb (.inr rfl)).trans hb, ⟨hown.1, ?_⟩, hne⟩
    rcases hown.2 with h2 | ⟨g, cap, cur, fz, rfl, hb0, hg, rest⟩
    · exact .inl h2
    · exact .inr ⟨g, cap, cur, fz, rfl, hb0, (hk g _ _ _ hg (.inl rfl)).trans hg, rest⟩
  exact h.elim (fun x => .inl (key _ x)) (fun x => .inr (key _ x))
theorem builder_kind {w : World} {B b : Nat} {bs : List Value} (h : Lib.IsBuilderF 81 5 B b bs w) : ∃ cs, w.heap[b]? = some (.cells cs 81 (0, 0)) := by
  rcases h with ⟨_, v, hb, _⟩ | ⟨_, v, hb, _⟩
  · exact ⟨_, hb⟩
  · exact ⟨_, hb⟩
theorem builder_lt {w : World} {B b : Nat} {bs : List Value} (h : Lib.IsBuilderF 81 5 B b bs w) : b < w.heap.size := by
  obtain ⟨cs, hb⟩ := builder_kind h
  exact (Array.getElem?_eq_some_iff.1 hb).1

/-- A disk, and a builder at b, made behind the world w0. -/
structure BD (w0 : World) (b : Nat) (d : Addr) (D : DK) (O0 : Nat → Prop) (l : List UInt8) (w : World) : Prop where
  base : w0.heap.size ≤ b
  disk : ∃ O, PAt w d D O ∧ Moves O0 O w0 w
  build : Lib.IsBuilderF 81 5 b b (Lib.byteCells l) w
section
variable {w0 w w' : World} {b : Nat} {d : Addr} {D D' : DK} {O0 : Nat → Prop} {l l' : List UInt8}
theorem BD.new {O : Nat → Prop} (h : PAt w d D O) (hm : Moves O0 O w0 w) : BD w0 w.heap.size d D O0 [] (w.alloc (.cells #[.pointer none, .slice none 0 0] 81)) := by
  have ha : Below w.heap.size w (w.alloc (.cells #[.pointer none, .slice none 0 0] 81)) := (Below.refl _ _).alloc (Nat.le_refl _) _
  exact ⟨hm.size, ⟨O, h.stay (fun k hk => ha.block k (h.lt k hk)), hm.belowP ha⟩, Lib.IsBuilderF.of (Lib.fresh_isBuilder _ _ _)⟩
theorem BD.size (h : BD w0 b d D O0 l w) : b < w.heap.size := builder_lt h.build
/-- What stands ahead stays, but for the disk's. -/
theorem BD.block (h : BD w0 b d D O0 l w) {k : Nat} (hk : k < w0.heap.size) (hn : ¬ O0 k) : w.heap[k]? = w0.heap[k]? := by
  obtain ⟨O, _, hm⟩ := h.disk
  exact hm.block k hk hn
theorem BD.wrote (h : BD w0 b d D O0 l w) (hb : Lib.IsBuilderF 81 5 b b (Lib.byteCells l') w') (hbel : Below b w w') (ho : Lib.OthersKept 5 (some b) w w') : BD w0 b d D O0 l' w' := by
  obtain ⟨O, hd, hm⟩ := h.disk
  obtain ⟨cs, hc⟩ := builder_kind h.build
  refine ⟨h.base, ⟨O, hd.stay (fun k hk => ?_), ⟨hbel.os.trans hm.os, hbel.tape.trans hm.tape, hbel.output.trans hm.output, Nat.le_trans hm.size hbel.size, fun k hk hn => (hbel.block k (Nat.lt_of_lt_of_le hk h.base)).trans (hm.block k hk hn), hm.own⟩⟩, hb⟩
  obtain ⟨cs', t, hk', h1, h2⟩ := pat_kind hd k hk
  rw [hk']
  refine ho k _ hk' (fun e => ?_) (fun c fz e => ?_)
  · injection e with e
    subst e
    rw [hc] at hk'
    injection hk' with e
    injection e with _ e
    exact h2 e.symm
  · injection e with _ e
    exact h1 e
theorem BD.string (h : BD w0 b d D O0 l w) : Calls Try.prog 43 #[.pointer (some ⟨b, 0, none⟩)] w fun e w' => e = .returned (.string ⟨l.toArray⟩) ∧ BD w0 b d D O0 l w' :=
  (Try.Builder_String_any_k b b l w h.build (Nat.le_of_lt h.size)).mono fun e w' ⟨he, h1, h2, h3⟩ => ⟨he, h.wrote h1 h2 h3⟩
theorem BD.len (h : BD w0 b d D O0 l w) : Calls Try.prog 42 #[.pointer (some ⟨b, 0, none⟩)] w fun e w' => e = .returned (.int .i64 l.length) ∧ w = w' :=
  (Try.Builder_Len_f b b _ w h.build).mono fun e w' ⟨he, h1⟩ => ⟨by rw [he]; simp [Lib.byteCells], h1.symm⟩
theorem BD.byte (h : BD w0 b d D O0 l w) (hl : l.length ≤ 1000000) : Calls Try.prog 44 #[.pointer (some ⟨b, 0, none⟩), .int .u8 0] w fun e w' => e = .returned .nilIface ∧ BD w0 b d D O0 (l ++ [0]) w' :=
  (Try.Builder_WriteByte_k b b _ 0 w h.build (by simp [Lib.byteCells]; omega) (Nat.le_of_lt h.size)).mono fun e w' ⟨he, h1, h2, h3⟩ => ⟨he, h.wrote (.inr (by simpa [Lib.byteCells] using h1)) h2 h3⟩
theorem BD.text (h : BD w0 b d D O0 l w) (s : ByteArray) (hl : l.length + s.size ≤ 1000000) : Calls Try.prog 41 #[.pointer (some ⟨b, 0, none⟩), .string s] w fun e w' => e = .returned (.tuple #[.int .i64 s.size, .nilIface]) ∧ BD w0 b d D O0 (l ++ s.data.toList) w' :=
  (Try.Builder_WriteString_k b b _ s w h.build (by simp [Lib.byteCells]; omega) (Nat.le_of_lt h.size)).mono fun e w' ⟨he, h1, h2, h3⟩ => ⟨he, h.wrote (.inr (by
    have e1 : Lib.byteCells (l ++ s.data.toList) = Lib.byteCells l ++ Lib.strCells s := by simp [Lib.byteCells, Lib.strCells, Lib.toList_data]
    rw [e1]; exact h1)) h2 h3⟩
theorem BD.stay (h : BD w0 b d D O0 l w) (hb : Below w.heap.size w w') : BD w0 b d D O0 l w' := by
  obtain ⟨O, hd, hm⟩ := h.disk
  exact ⟨h.base, ⟨O, hd.stay (fun k hk => hb.block k (hd.lt k hk)), hm.belowP hb⟩, builder_stays h.build (fun k cs t fz hk _ => hb.block k (Array.getElem?_eq_some_iff.1 hk).1)⟩
theorem BD.sectors (h : BD w0 b d D O0 l w) : Calls Try.prog 18 #[.pointer (some d)] w fun e w' => e = .returned (.int .i64 D.seen.length) ∧ BD w0 b d D O0 l w' := by
  obtain ⟨O, hd, hm⟩ := h.disk
  exact (dsk.sectors (w := w) hd).mono fun e w' ⟨he, h1⟩ => ⟨he, h.stay h1⟩
theorem BD.read (h : BD w0 b d D O0 l w) (i : Nat) (h0 : D.fuse ≠ 0) (hi : i < D.seen.length) : Calls Try.prog 32 #[.pointer (some d), .int .i64 i] w fun e w' => e = .returned (.tuple #[.string ⟨(D.seen.getD i []).toArray⟩, .int .i64 0]) ∧ BD w0 b d D O0 l w' := by
  obtain ⟨O, hd, hm⟩ := h.disk
  exact (dsk.read (w := w) hd i h0 hi).mono fun e w' ⟨he, h1⟩ => ⟨he, h.stay h1⟩
theorem BD.write (h : BD w0 b d D O0 l w) (i : Nat) (s : ByteArray) (h0 : D.fuse ≠ 0) (hi : i < D.seen.length) (hs : s.size = 64) (hw : D.waits.length < 1000000) :
    Calls Try.prog 19 #[.pointer (some d), .int .i64 i, .string s] w fun e w' => e = .returned (.int .i64 0) ∧ BD w0 b d (D.wrote i s.data.toList) O0 l w' := by
  obtain ⟨O, hd, hm⟩ := h.disk
  refine (dsk.write (w := w) hd i s h0 hi hs hw).mono fun e w' ⟨O', he, h1, h2⟩ => ⟨he, h.base, ⟨O', h1, hm.trans h2⟩, builder_stays h.build (fun k cs t fz hk ht => h2.block k (Array.getElem?_eq_some_iff.1 hk).1 (fun hO => ?_))⟩
  obtain ⟨cs', t', hk', n1, n2⟩ := pat_kind hd k hO
  rw [hk] at hk'
  injection hk' with e
  injection e with _ e
  rcases ht with ht | ht
  · exact n1 (e ▸ ht)
  · exact n2 (e ▸ ht)
theorem BD.good (h : BD w0 b d D O0 l w) : D.ok := by obtain ⟨O, hd, hm⟩ := h.disk; exact dsk.good (w := w) hd
end
end Go.Proofs.Ytlkifliaaaomeaa
