/-
  What is asked of the program's disk; a sector of one byte; layer 7's 'awake'.
-/
import Derived.Test.YtlkifliaaaomeaaDskMath
import Derived.Test.YtlkifliaaaomeaaBuildOne
import Derived.ProofKit
import Derived.OpenShut
import Derived.Deep.DeepCutAuto
import Derived.Deep.CutBlock
namespace Go.Proofs.Ytlkifliaaaomeaa
open Go.RowKit
set_option linter.unusedVariables false
set_option linter.unnecessarySimpa false
set_option linter.unusedSimpArgs false
set_option maxRecDepth 100000

/-- A disk of the program's: 'At w r D O': in w, the one at r is D; O is what it owns. -/
structure Dsk where
  At : World → Addr → DK → (Nat → Prop) → Prop
  lt : ∀ {w r D O}, At w r D O → ∀ k, O k → k < w.heap.size
  good : ∀ {w r D O}, At w r D O → D.ok
  stay : ∀ {w w' r D O}, At w r D O → (∀ k, O k → w'.heap[k]? = w.heap[k]?) → At w' r D O
  new : ∀ (n : Int) (w : World), -2147483648 ≤ n → n ≤ 2147483647 →
    Calls Try.prog 7 #[.int .i64 n] w fun e w' => ∃ r O, e = .returned (.pointer (some r)) ∧ At w' r (DK.new (clampD n)) O ∧ Moves (fun _ => False) O w w'
  sectors : ∀ {w r D O}, At w r D O → Calls Try.prog 18 #[.pointer (some r)] w fun e w' => e = .returned (.int .i64 D.seen.length) ∧ Below w.heap.size w w'
  waits : ∀ {w r D O}, At w r D O → Calls Try.prog 20 #[.pointer (some r)] w fun e w' => e = .returned (.int .i64 D.waits.length) ∧ Below w.heap.size w w'
  readLost : ∀ {w r D O}, At w r D O → ∀ i : Int, D.fuse = 0 →
    Calls Try.prog 32 #[.pointer (some r), .int .i64 i] w fun e w' => e = .returned (.tuple #[.string ⟨#[]⟩, .int .i64 6]) ∧ Below w.heap.size w w'
  readNone : ∀ {w r D O}, At w r D O → ∀ i : Int, D.fuse ≠ 0 → (i < 0 ∨ D.seen.length ≤ i) →
    Calls Try.prog 32 #[.pointer (some r), .int .i64 i] w fun e w' => e = .returned (.tuple #[.string ⟨#[]⟩, .int .i64 1]) ∧ Below w.heap.size w w'
  read : ∀ {w r D O}, At w r D O → ∀ i : Nat, D.fuse ≠ 0 → i < D.seen.length →
    Calls Try.prog 32 #[.pointer (some r), .int .i64 i] w fun e w' => e = .returned (.tuple #[.string ⟨(D.seen.getD i []).toArray⟩, .int .i64 0]) ∧ Below w.heap.size w w'
  writeLost : ∀ {w r D O}, At w r D O → ∀ (i : Int) (b : ByteArray), D.fuse = 0 →
    Calls Try.prog 19 #[.pointer (some r), .int .i64 i, .string b] w fun e w' => e = .returned (.int .i64 6) ∧ Below w.heap.size w w'
  writeNone : ∀ {w r D O}, At w r D O → ∀ (i : Int) (b : ByteArray), D.fuse ≠ 0 → (i < 0 ∨ D.seen.length ≤ i ∨ b.size ≠ 64) →
    Calls Try.prog 19 #[.pointer (some r), .int .i64 i, .string b] w fun e w' => e = .returned (.int .i64 1) ∧ Below w.heap.size w w'
  write : ∀ {w r D O}, At w r D O → ∀ (i : Nat) (b : ByteArray), D.fuse ≠ 0 → i < D.seen.length → b.size = 64 → D.waits.length < 1000000 →
    Calls Try.prog 19 #[.pointer (some r), .int .i64 i, .string b] w fun e w' => ∃ O', e = .returned (.int .i64 0) ∧ At w' r (D.wrote i b.data.toList) O' ∧ Moves O O' w w'
  syncLost : ∀ {w r D O}, At w r D O → D.fuse = 0 →
    Calls Try.prog 25 #[.pointer (some r)] w fun e w' => e = .returned (.int .i64 6) ∧ Below w.heap.size w w'
  sync : ∀ {w r D O}, At w r D O → D.fuse ≠ 0 →
    Calls Try.prog 25 #[.pointer (some r)] w fun e w' => ∃ O', e = .returned (.int .i64 0) ∧ At w' r D.synced O' ∧ Moves O O' w w'

/-- A disk beside a call's own memory: what it owns lies from B on; below B the world is as w0. -/
def St (S : Dsk) (w0 : World) (B : Nat) (r : Addr) (D : DK) (w : World) : Prop := ∃ O, S.At w r D O ∧ (∀ k, O k → B ≤ k) ∧ Below B w0 w ∧ B ≤ w.heap.size
section
variable {S : Dsk} {w0 w w' : World} {B : Nat} {r : Addr} {D : DK}
theorem St.step {O O' : Nat → Prop} {D' : DK} (hO : ∀ k, O k → B ≤ k) (hb : Below B w0 w) (hB : B ≤ w.heap.size) (h : S.At w' r D' O') (hm : Moves O O' w w') : St S w0 B r D' w' :=
  ⟨O', h, hm.from hO hB, hb.trans (hm.below hO hB), Nat.le_trans hB hm.size⟩
theorem St.below (h : St S w0 B r D w) : Below B w0 w := by obtain ⟨O, _, _, hb, _⟩ := h; exact hb
theorem St.good (h : St S w0 B r D w) : D.ok := by obtain ⟨O, hat, _, _, _⟩ := h; exact S.good hat
theorem St.stay (h : St S w0 B r D w) (hb : Below w.heap.size w w') : St S w0 B r D w' := by
  obtain ⟨O, hat, hO, hb0, hB⟩ := h
  exact ⟨O, S.stay hat (fun k hk => hb.block k (S.lt hat k hk)), hO, hb0.trans (hb.mono hB), Nat.le_trans hB hb.size⟩
theorem St.sectors (h : St S w0 B r D w) : Calls Try.prog 18 #[.pointer (some r)] w fun e w' => e = .returned (.int .i64 D.seen.length) ∧ St S w0 B r D w' := by
  obtain ⟨O, hat, hO, hb, hB⟩ := h
  exact (S.sectors hat).mono fun e w' ⟨he, h1⟩ => ⟨he, St.stay ⟨O, hat, hO, hb, hB⟩ h1⟩
theorem St.waits (h : St S w0 B r D w) : Calls Try.prog 20 #[.pointer (some r)] w fun e w' => e = .returned (.int .i64 D.waits.length) ∧ St S w0 B r D w' := by
  obtain ⟨O, hat, hO, hb, hB⟩ := h
  exact (S.waits hat).mono fun e w' ⟨he, h1⟩ => ⟨he, St.stay ⟨O, hat, hO, hb, hB⟩ h1⟩
theorem St.readLost (h : St S w0 B r D w) (i : Int) (h0 : D.fuse = 0) : Calls Try.prog 32 #[.pointer (some r), .int .i64 i] w fun e w' => e = .returned (.tuple #[.string ⟨#[]⟩, .int .i64 6]) ∧ St S w0 B r D w' := by
  obtain ⟨O, hat, hO, hb, hB⟩ := h
  exact (S.readLost hat i h0).mono fun e w' ⟨he, h1⟩ => ⟨he, St.stay ⟨O, hat, hO, hb, hB⟩ h1⟩
theorem St.read (h : St S w0 B r D w) (i : Nat) (h0 : D.fuse ≠ 0) (hi : i < D.seen.length) : Calls Try.prog 32 #[.pointer (some r), .int .i64 i] w fun e w' =>
    e = .returned (.tuple #[.string ⟨(D.seen.getD i []).toArray⟩, .int .i64 0]) ∧ St S w0 B r D w' := by
  obtain ⟨O, hat, hO, hb, hB⟩ := h
  exact (S.read hat i h0 hi).mono fun e w' ⟨he, h1⟩ => ⟨he, St.stay ⟨O, hat, hO, hb, hB⟩ h1⟩
theorem St.writeLost (h : St S w0 B r D w) (i : Int) (b : ByteArray) (h0 : D.fuse = 0) : Calls Try.prog 19 #[.pointer (some r), .int .i64 i, .string b] w fun e w' => e = .returned (.int .i64 6) ∧ St S w0 B r D w' := by
  obtain ⟨O, hat, hO, hb, hB⟩ := h
  exact (S.writeLost hat i b h0).mono fun e w' ⟨he, h1⟩ => ⟨he, St.stay ⟨O, hat, hO, hb, hB⟩ h1⟩
theorem St.write (h : St S w0 B r D w) (i : Nat) (b : ByteArray) (h0 : D.fuse ≠ 0) (hi : i < D.seen.length) (hb64 : b.size = 64) (hw : D.waits.length < 1000000) :
    Calls Try.prog 19 #[.pointer (some r), .int .i64 i, .string b] w fun e w' => e = .returned (.int .i64 0) ∧ St S w0 B r (D.wrote i b.data.toList) w' := by
  obtain ⟨O, hat, hO, hb, hB⟩ := h
  exact (S.write hat i b h0 hi hb64 hw).mono fun e w' ⟨O', he, h1, h2⟩ => ⟨he, St.step hO hb hB h1 h2⟩
theorem St.syncLost (h : St S w0 B r D w) (h0 : D.fuse = 0) : Calls Try.prog 25 #[.pointer (some r)] w fun e w' => e = .returned (.int .i64 6) ∧ St S w0 B r D w' := by
  obtain ⟨O, hat, hO, hb, hB⟩ := h
  exact (S.syncLost hat h0).mono fun e w' ⟨he, h1⟩ => ⟨he, St.stay ⟨O, hat, hO, hb, hB⟩ h1⟩
theorem St.sync (h : St S w0 B r D w) (h0 : D.fuse ≠ 0) : Calls Try.prog 25 #[.pointer (some r)] w fun e w' => e = .returned (.int .i64 0) ∧ St S w0 B r D.synced w' := by
  obtain ⟨O, hat, hO, hb, hB⟩ := h
  exact (S.sync hat h0).mono fun e w' ⟨O', he, h1, h2⟩ => ⟨he, St.step hO hb hB h1 h2⟩
end
theorem st_new (S : Dsk) (n : Int) (w : World) (h1 : -2147483648 ≤ n) (h2 : n ≤ 2147483647) :
    Calls Try.prog 7 #[.int .i64 n] w fun e w' => ∃ r, e = .returned (.pointer (some r)) ∧ St S w w.heap.size r (DK.new (clampD n)) w' :=
  (S.new n w h1 h2).mono fun e w' ⟨r, O, he, h, hm⟩ => ⟨r, he, St.step (fun k hk => hk.elim) (Below.refl _ _) (Nat.le_refl _) h hm⟩

theorem fullB_cells (c : UInt8) (k : Nat) (hk : k < 64) : (Lib.byteCells (cellsF 64 fun j => if j < k then c else 0)).set k (.int .u8 (c.toNat : Int)) = Lib.byteCells (cellsF 64 fun j => if j < k + 1 then c else 0) :=
  cellsF_next (size := 64) (P := fun j => j < k) (P' := fun j => j < k + 1) (p := k) (g := fun _ => c) (fun j _ => by omega)
theorem fullB_all (c : UInt8) : (cellsF 64 fun j => if j < 64 then c else 0) = fullB c := by
  unfold fullB
  apply List.ext_getElem
  · simp [cellsF]
  · intro j h1 h2
    have : j < 64 := by simpa [cellsF] using h1
    rw [List.getElem_replicate]
    simp [cellsF, this]

end Go.Proofs.Ytlkifliaaaomeaa
