/-
  What is asked of the program's disk; a sector of one byte; layer 7's 'awake'.
-/
import Derived.Test.YtmgdjnkdnakmhaaDskMath
import Derived.Test.YtmgdjnkdnakmhaaBuildOne
import Derived.ProofKit
import Derived.OpenShut
import Derived.Deep.DeepCutAuto
import Derived.Deep.CutBlock
namespace Go.Proofs.Ytmgdjnkdnakmhaa
open Go.RowKit
set_option linter.unusedVariables false
set_option linter.unnecessarySimpa false
set_option linter.unusedSimpArgs false
set_option maxRecDepth 100000

/-- A disk of the program's: 'At w r D O': in w, the one at r is D; O is what it owns. -/
structure Dsk where
  At : World → Addr → DK → (Nat → Prop) → Prop
  lt : ∀ {w r D O}, At w r D O → ∀ k, O k → k < w.heap.size
  good : ∀ {w r D O}, At w r D O → D.ok
  stay : ∀ {w w' r D O}, At w r D O → (∀ k, O k → w'.heap[k]? = w.heap[k]?) → At w' r D O
  new : ∀ (n : Int) (w : World), -2147483648 ≤ n → n ≤ 2147483647 →
    Calls Try.prog 8 #[.int .i64 n] w fun e w' => ∃ r O, e = .returned (.pointer (some r)) ∧ At w' r (DK.new (clampD n)) O ∧ Moves (fun _ => False) O w w'
  sectors : ∀ {w r D O}, At w r D O → Calls Try.prog 17 #[.pointer (some r)] w fun e w' => e = .returned (.int .i64 D.seen.length) ∧ Below w.heap.size w w'
  waits : ∀ {w r D O}, At w r D O → Calls Try.prog 16 #[.pointer (some r)] w fun e w' => e = .returned (.int .i64 D.waits.length) ∧ Below w.heap.size w w'
  readLost : ∀ {w r D O}, At w r D O → ∀ i : Int, D.fuse = 0 →
    Calls Try.prog 11 #[.pointer (some r), .int .i64 i] w fun e w' => e = .returned (.tuple #[.string ⟨#[]⟩, .int .i64 6]) ∧ Below w.heap.size w w'
  readNone : ∀ {w r D O}, At w r D O → ∀ i : Int, D.fuse ≠ 0 → (i < 0 ∨ D.seen.length ≤ i) →
    Calls Try.prog 11 #[.pointer (some r), .int .i64 i] w fun e w' => e = .returned (.tuple #[.string ⟨#[]⟩, .int .i64 1]) ∧ Below w.heap.size w w'
  read : ∀ {w r D O}, At w r D O → ∀ i : Nat, D.fuse ≠ 0 → i < D.seen.length →
    Calls Try.prog 11 #[.pointer (some r), .int .i64 i] w fun e w' => e = .returned (.tuple #[.string ⟨(D.seen.getD i []).toArray⟩, .int .i64 0]) ∧ Below w.heap.size w w'
  writeLost : ∀ {w r D O}, At w r D O → ∀ (i : Int) (b : ByteArray), D.fuse = 0 →
    Calls Try.prog 10 #[.pointer (some r), .int .i64 i, .string b] w fun e w' => e = .returned (.int .i64 6) ∧ Below w.heap.size w w'
  writeNone : ∀ {w r D O}, At w r D O → ∀ (i : Int) (b : ByteArray), D.fuse ≠ 0 → (i < 0 ∨ D.seen.length ≤ i ∨ b.size ≠ 64) →
    Calls Try.prog 10 #[.pointer (some r), .int .i64 i, .string b] w fun e w' => e = .returned (.int .i64 1) ∧ Below w.heap.size w w'
  write : ∀ {w r D O}, At w r D O → ∀ (i : Nat) (b : ByteArray), D.fuse ≠ 0 → i < D.seen.length → b.size = 64 → D.waits.length < 1000000 →
    Calls Try.prog 10 #[.pointer (some r), .int .i64 i, .string b] w fun e w' => ∃ O', e = .returned (.int .i64 0) ∧ At w' r (D.wrote i b.data.toList) O' ∧ Moves O O' w w'
  syncLost : ∀ {w r D O}, At w r D O → D.fuse = 0 →
    Calls Try.prog 12 #[.pointer (some r)] w fun e w' => e = .returned (.int .i64 6) ∧ Below w.heap.size w w'
  sync : ∀ {w r D O}, At w r D O → D.fuse ≠ 0 →
    Calls Try.prog 12 #[.pointer (some r)] w fun e w' => ∃ O', e = .returned (.int .i64 0) ∧ At w' r D.synced O' ∧ Moves O O' w w'
  fuse : ∀ {w r D O}, At w r D O → ∀ n : Int, -9223372036854775808 ≤ n → n ≤ 9223372036854775807 →
    Calls Try.prog 13 #[.pointer (some r), .int .i64 n] w fun e w' => ∃ O', e = .returned (.tuple #[]) ∧ At w' r (D.lit n) O' ∧ Moves O O' w w'
  crash : ∀ {w r D O}, At w r D O → ∀ (a : Option Addr) (len cap : Nat) (l : List UInt8), BytesAt w a len l → len ≤ 1000000 → (0 < len → ∀ b off s, a = some ⟨b, off, s⟩ → ¬ O b) →
    Calls Try.prog 14 #[.pointer (some r), .slice a len cap] w fun e w' => ∃ O', e = .returned (.tuple #[]) ∧ At w' r (D.crashed l) O' ∧ Moves O O' w w'

/-- A disk beside a call's own memory: what it owns lies from B on; below B the world is as w0. -/
def St (S : Dsk) (w0 : World) (B : Nat) (r : Addr) (D : DK) (w : World) : Prop := ∃ O, S.At w r D O ∧ (∀ k, O k → B ≤ k) ∧ Below B w0 w ∧ B ≤ w.heap.size
section
variable {S : Dsk} {w0 w w' : World} {B : Nat} {r : Addr} {D : DK}
theorem St.step {O O' : Nat → Prop} {D' : DK} (hO : ∀ k, O k → B ≤ k) (hb : Below B w0 w) (hB : B ≤ w.heap.size) (h : S.At w' r D' O') (hm : Moves O O' w w') : St S w0 B r D' w' :=
  ⟨O', h, hm.from hO hB, hb.trans (hm.below hO hB), Nat.le_trans hB hm.size⟩
theorem St.below (h : St S w0 B r D w) : Below B w0 w := by obtain ⟨O, _, _, hb, _⟩ := h; exact hb
theorem St.good (h : St S w0 B r D w) : D.ok := by obtain ⟨O, hat, _, _, _⟩ := h; exact S.good hat
theorem St.stay (h : St S w0 B r D w) (hb : Below w.heap.size w w') : St S w0 B r D w' := by
  obtain ⟨O, hat, hO, hb0, hB⟩ := h
  exact ⟨O, S.stay hat (fun k hk => hb.block k (S.lt hat k hk)), hO, hb0.trans (hb.mono hB), Nat.le_trans hB hb.size⟩
theorem St.sectors (h : St S w0 B r D w) : Calls Try.prog 17 #[.pointer (some r)] w fun e w' => e = .returned (.int .i64 D.seen.length) ∧ St S w0 B r D w' := by
  obtain ⟨O, hat, hO, hb, hB⟩ := h
  exact (S.sectors hat).mono fun e w' ⟨he, h1⟩ => ⟨he, St.stay ⟨O, hat, hO, hb, hB⟩ h1⟩
theorem St.waits (h : St S w0 B r D w) : Calls Try.prog 16 #[.pointer (some r)] w fun e w' => e = .returned (.int .i64 D.waits.length) ∧ St S w0 B r D w' := by
  obtain ⟨O, hat, hO, hb, hB⟩ := h
  exact (S.waits hat).mono fun e w' ⟨he, h1⟩ => ⟨he, St.stay ⟨O, hat, hO, hb, hB⟩ h1⟩
theorem St.readLost (h : St S w0 B r D w) (i : Int) (h0 : D.fuse = 0) : Calls Try.prog 11 #[.pointer (some r), .int .i64 i] w fun e w' => e = .returned (.tuple #[.string ⟨#[]⟩, .int .i64 6]) ∧ St S w0 B r D w' := by
  obtain ⟨O, hat, hO, hb, hB⟩ := h
  exact (S.readLost hat i h0).mono fun e w' ⟨he, h1⟩ => ⟨he, St.stay ⟨O, hat, hO, hb, hB⟩ h1⟩
theorem St.read (h : St S w0 B r D w) (i : Nat) (h0 : D.fuse ≠ 0) (hi : i < D.seen.length) : Calls Try.prog 11 #[.pointer (some r), .int .i64 i] w fun e w' =>
    e = .returned (.tuple #[.string ⟨(D.seen.getD i []).toArray⟩, .int .i64 0]) ∧ St S w0 B r D w' := by
  obtain ⟨O, hat, hO, hb, hB⟩ := h
  exact (S.read hat i h0 hi).mono fun e w' ⟨he, h1⟩ => ⟨he, St.stay ⟨O, hat, hO, hb, hB⟩ h1⟩
theorem St.writeLost (h : St S w0 B r D w) (i : Int) (b : ByteArray) (h0 : D.fuse = 0) : Calls Try.prog 10 #[.pointer (some r), .int .i64 i, .string b] w fun e w' => e = .returned (.int .i64 6) ∧ St S w0 B r D w' := by
  obtain ⟨O, hat, hO, hb, hB⟩ := h
  exact (S.writeLost hat i b h0).mono fun e w' ⟨he, h1⟩ => ⟨he, St.stay ⟨O, hat, hO, hb, hB⟩ h1⟩
theorem St.write (h : St S w0 B r D w) (i : Nat) (b : ByteArray) (h0 : D.fuse ≠ 0) (hi : i < D.seen.length) (hb64 : b.size = 64) (hw : D.waits.length < 1000000) :
    Calls Try.prog 10 #[.pointer (some r), .int .i64 i, .string b] w fun e w' => e = .returned (.int .i64 0) ∧ St S w0 B r (D.wrote i b.data.toList) w' := by
  obtain ⟨O, hat, hO, hb, hB⟩ := h
  exact (S.write hat i b h0 hi hb64 hw).mono fun e w' ⟨O', he, h1, h2⟩ => ⟨he, St.step hO hb hB h1 h2⟩
theorem St.syncLost (h : St S w0 B r D w) (h0 : D.fuse = 0) : Calls Try.prog 12 #[.pointer (some r)] w fun e w' => e = .returned (.int .i64 6) ∧ St S w0 B r D w' := by
  obtain ⟨O, hat, hO, hb, hB⟩ := h
  exact (S.syncLost hat h0).mono fun e w' ⟨he, h1⟩ => ⟨he, St.stay ⟨O, hat, hO, hb, hB⟩ h1⟩
theorem St.sync (h : St S w0 B r D w) (h0 : D.fuse ≠ 0) : Calls Try.prog 12 #[.pointer (some r)] w fun e w' => e = .returned (.int .i64 0) ∧ St S w0 B r D.synced w' := by
  obtain ⟨O, hat, hO, hb, hB⟩ := h
  exact (S.sync hat h0).mono fun e w' ⟨O', he, h1, h2⟩ => ⟨he, St.step hO hb hB h1 h2⟩
theorem St.fuse (h : St S w0 B r D w) (n : Int) (h1 : -9223372036854775808 ≤ n) (h2 : n ≤ 9223372036854775807) : Calls Try.prog 13 #[.pointer (some r), .int .i64 n] w fun e w' => e = .returned (.tuple #[]) ∧ St S w0 B r (D.lit n) w' := by
  obtain ⟨O, hat, hO, hb, hB⟩ := h
  exact (S.fuse hat n h1 h2).mono fun e w' ⟨O', he, h1, h2⟩ => ⟨he, St.step hO hb hB h1 h2⟩
/-- .. at a new slice, made behind the disk. -/
theorem St.crash (h : St S w0 B r D w) (hb1 : Below w.heap.size w w') (a : Option Addr) (len cap : Nat) (l : List UInt8) (hl : BytesAt w' a len l) (hn : len ≤ 1000000) (hfar : ∀ b off s, a = some ⟨b, off, s⟩ → w.heap.size ≤ b ∨ b < B) :
    Calls Try.prog 14 #[.pointer (some r), .slice a len cap] w' fun e w' => e = .returned (.tuple #[]) ∧ St S w0 B r (D.crashed l) w' := by
  have h' := h.stay hb1
  obtain ⟨O, hat, hO, hb, hB⟩ := h
  have hat' := S.stay hat (fun k hk => hb1.block k (S.lt hat k hk))
  exact (S.crash hat' a len cap l hl hn (fun _ b off s e hb => by have := S.lt hat b hb; have := hO b hb; rcases hfar b off s e with h | h <;> omega)).mono fun e w'' ⟨O', he, h1, h2⟩ =>
    ⟨he, St.step hO (hb.trans (hb1.mono hB)) (Nat.le_trans hB hb1.size) h1 h2⟩
end
theorem st_new (S : Dsk) (n : Int) (w : World) (h1 : -2147483648 ≤ n) (h2 : n ≤ 2147483647) :
    Calls Try.prog 8 #[.int .i64 n] w fun e w' => ∃ r, e = .returned (.pointer (some r)) ∧ St S w w.heap.size r (DK.new (clampD n)) w' :=
  (S.new n w h1 h2).mono fun e w' ⟨r, O, he, h, hm⟩ => ⟨r, he, St.step (fun k hk => hk.elim) (Below.refl _ _) (Nat.le_refl _) h hm⟩

theorem fullB_cells (c : UInt8) (k : Nat) (hk : k < 64) : (Lib.byteCells (cellsF 64 fun j => if j < k then c else 0)).set k (.int .u8 (c.toNat : Int)) = Lib.byteCells (cellsF 64 fun j => if j < k + 1 then c else 0) :=
  cellsF_next (size := 64) (P := fun j => j < k) (P' := fun j => j < k + 1) (p := k) (g := fun _ => c) (fun j _ => by omega)
theorem fullB_all (c : UInt8) : (cellsF 64 fun j => if j < 64 then c else 0) = fullB c := by
  unfold fullB
  apply List.ext_getElem
  · simp [cellsF]
  · intro j h1 h2
    have : j < 64 := by simpa [cellsF] using h1
    rw [List.getElem_replicate]
    simp [cellsF, this]

set_option maxRecDepth 100000 in
set_option maxHeartbeats 800000 in
theorem full_any (c : UInt8) (w : World) : Calls Try.prog 18 #[.int .u8 (c.toNat : Int)] w fun e w' => e = .returned (.string ⟨(fullB c).toArray⟩) ∧ Below w.heap.size w w' := by
  obtain ⟨i0, hi, hz0, hz1, hz2⟩ := info_parts u8info
  have hcl := UInt8.toNat_lt c
  go_enter Try.func18, Try.ntmps18
  go_wp2_with (at_make; refine wpList_make_full _ rfl _ _ 30 rfl w.heap.size 5 i0 (.int .u8 0) 1 Try.underlying30 hi hz0 hz1 _ _ _ _ 64 rfl rfl rfl rfl ?c1 ?c2 ?c3 ?c4)
  case c1 => rw [hz2]; omega
  case c2 => simp [maxLen]
  case c3 => exact Nat.le_refl _
  case c4 =>
    intro w1 hown1 hg1
    rw [zeros_cellsF] at hown1
    have hb1 : Below w.heap.size w w1 := (Below.refl _ _).grown hg1 (Nat.le_refl _) (by simp)
    clear hg1
    go_wp2_with fail
    go_loopw [4] (fun t wr => ∃ (k : Nat), k ≤ 64 ∧ t = .int .i64 k ∧ wr.ownsRow w.heap.size 5 1 (.slice (some ⟨w.heap.size, 0, none⟩) 64 64) 64 (Lib.byteCells (cellsF 64 fun j => if j < k then c else 0)) ∧ Below w.heap.size w wr) (fun t _ => 64 - (intOf t).toNat)
    case atStart => exact ⟨0, Nat.zero_le _, rfl, by simpa using hown1, hb1⟩
    case round =>
      obtain ⟨k, hk, rfl, hown, hb⟩ := hrel
      by_cases hlt : k < 64
      · have hfz := hown.frozenAt k
        have hcl2 := hown.cellAt k (by omega)
        have hgl : (Lib.byteCells (cellsF 64 fun j => if j < k then c else 0))[k]? = some (.int .u8 0) := by simp [Lib.byteCells, cellsF, hlt]
        rw [hgl] at hcl2
        clear hgl
        have hst := Lib.hid (hown.stored k (.int .u8 (c.toNat : Int))).1
        have hnx := Lib.hid (fullB_cells c k hlt)
        go_wp2_with fail
        refine ⟨⟨k + 1, by omega, by go_num, ?_, hb.setCell (Nat.le_refl _) _⟩, by simp [intOf]; omega⟩
        rw [← hnx.out]
        exact hst.out
      · obtain rfl : k = 64 := by omega
        have hcv := convert_own (P := Try.prog) (src := 30) (dst := 9) hown (by simp) Try.underlying30 Try.underlying5 Try.underlying9
        rw [fullB_all] at hcv
        go_wp2_with fail
        go_ret
        exact ⟨rfl, hb⟩
end Go.Proofs.Ytmgdjnkdnakmhaa
