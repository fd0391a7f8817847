/-
  What is asked of a store, in memory.
-/
import Derived.Test.YtdcefhhmddjodaaSet07
namespace Go.Proofs.Ytdcefhhmddjodaa
open Go.RowKit
set_option linter.unusedVariables false
set_option linter.unnecessarySimpa false
set_option linter.unusedSimpArgs false
set_option maxRecDepth 100000

def ask0 : Ask := ⟨⟨#[]⟩, 0, ⟨#[]⟩, ⟨#[]⟩, 0⟩
def AskAt (W : World) (b off : Nat) (q : Ask) : Prop := b < W.heap.size ∧ q.time < 18446744073709551616 ∧ W.cell? ⟨b, off, none⟩ = some (.string q.key) ∧ W.cell? ⟨b, off + 1, none⟩ = some (.int .u64 (q.time : Int)) ∧ W.cell? ⟨b, off + 2, none⟩ = some (.string q.lo) ∧ W.cell? ⟨b, off + 3, none⟩ = some (.string q.hi) ∧ W.cell? ⟨b, off + 4, none⟩ = some (.int .i64 q.most)
def IsAsks (W : World) (a : Option Addr) (len _cap : Nat) (L : List Ask) : Prop := L.length = len ∧ len ≤ maxLen ∧ ∀ i, i < len → ∃ b off, a = some ⟨b, off, none⟩ ∧ AskAt W b (off + i * 5) (L.getD i ask0)
theorem AskAt.below {W W' : World} {b off : Nat} {q : Ask} (h : AskAt W b off q) (hb : Below W.heap.size W W') : AskAt W' b off q := by
  obtain ⟨h1, h2, k0, k1, k2, k3, k4⟩ := h
  exact ⟨Nat.lt_of_lt_of_le h1 hb.size, h2, (hb.cell (p := ⟨b, off, none⟩) h1).trans k0, (hb.cell (p := ⟨b, off + 1, none⟩) h1).trans k1, (hb.cell (p := ⟨b, off + 2, none⟩) h1).trans k2, (hb.cell (p := ⟨b, off + 3, none⟩) h1).trans k3, (hb.cell (p := ⟨b, off + 4, none⟩) h1).trans k4⟩
theorem IsAsks.below {W W' : World} {a : Option Addr} {len cap : Nat} {L : List Ask} (h : IsAsks W a len cap L) (hb : Below W.heap.size W W') : IsAsks W' a len cap L :=
  ⟨h.1, h.2.1, fun i hi => by obtain ⟨b, off, ha, he⟩ := h.2.2 i hi; exact ⟨b, off, ha, he.below hb⟩⟩
end Go.Proofs.Ytdcefhhmddjodaa
