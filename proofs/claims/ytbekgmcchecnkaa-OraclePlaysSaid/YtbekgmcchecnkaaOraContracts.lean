/-
  What is asked of the program's oracle; an oracle as two numbers: the last time, the limit; layer 12's 'awake'.
-/
import Derived.Test.YtbekgmcchecnkaaDskMath
import Derived.ProofKit
import Derived.OpenShut
import Derived.Deep.DeepCutAuto
import Derived.Deep.CutBlock
namespace Go.Proofs.Ytbekgmcchecnkaa
open Go.RowKit
set_option linter.unusedVariables false
set_option linter.unnecessarySimpa false
set_option linter.unusedSimpArgs false
set_option maxRecDepth 100000

def oMax : Nat := 18446744073709551615
def oNextV (a b : Nat) : Nat := if a = b then 0 else a + 1
def oNextA (a b : Nat) : Nat := if a = b then a else a + 1
def oNextR (a b : Nat) : Bool := decide (a ≠ b)
def oWantV (a b : Nat) : Nat := if a = b ∧ b < oMax then min (b + 100) oMax else 0
def oWantR (a b : Nat) : Bool := decide (a = b ∧ b < oMax)

/-- An oracle of the program's: 'At w r a b O': in w, the one at r has the last time a, the limit b; O is what it owns. -/
structure OraC where
  At : World → Addr → Nat → Nat → (Nat → Prop) → Prop
  lt : ∀ {w r a b O}, At w r a b O → ∀ k, O k → k < w.heap.size
  good : ∀ {w r a b O}, At w r a b O → a ≤ b ∧ b ≤ oMax
  stay : ∀ {w w' r a b O}, At w r a b O → (∀ k, O k → w'.heap[k]? = w.heap[k]?) → At w' r a b O
  new : ∀ (n : Nat) (w : World), n ≤ oMax → Calls Try.prog 6 #[.int .u64 n] w fun e w' => ∃ r O, e = .returned (.pointer (some r)) ∧ At w' r n n O ∧ Moves (fun _ => False) O w w'
  next : ∀ {w r a b O}, At w r a b O → Calls Try.prog 7 #[.pointer (some r)] w fun e w' => ∃ O', e = .returned (.tuple #[.int .u64 (oNextV a b), .bool (oNextR a b)]) ∧ At w' r (oNextA a b) b O' ∧ Moves O O' w w'
  want : ∀ {w r a b O}, At w r a b O → Calls Try.prog 8 #[.pointer (some r)] w fun e w' => ∃ O', e = .returned (.tuple #[.int .u64 (oWantV a b), .bool (oWantR a b)]) ∧ At w' r a b O' ∧ Moves O O' w w'
  noted : ∀ {w r a b O}, At w r a b O → ∀ n : Nat, n ≤ oMax → Calls Try.prog 9 #[.pointer (some r), .int .u64 n] w fun e w' => ∃ O', e = .returned (.tuple #[]) ∧ At w' r a (max b n) O' ∧ Moves O O' w w'
  last : ∀ {w r a b O}, At w r a b O → Calls Try.prog 11 #[.pointer (some r)] w fun e w' => e = .returned (.int .u64 a) ∧ Below w.heap.size w w'

/-- An oracle beside a call's own memory: what it owns lies from B on, and none of it is 'far'; below B the world is as w0. -/
def OSt (S : OraC) (w0 : World) (B : Nat) (far : Nat → Prop) (r : Addr) (a b : Nat) (w : World) : Prop :=
  ∃ O, S.At w r a b O ∧ (∀ k, O k → B ≤ k ∧ ¬ far k) ∧ Below B w0 w ∧ B ≤ w.heap.size ∧ (∀ k, far k → k < w.heap.size)
/-- What stays of the far blocks. -/
def FarSame (far : Nat → Prop) (w w' : World) : Prop := w.heap.size ≤ w'.heap.size ∧ ∀ k, far k → w'.heap[k]? = w.heap[k]?
section
variable {S : OraC} {w0 w w' : World} {B : Nat} {far : Nat → Prop} {r : Addr} {a b a' b' : Nat}
theorem OSt.below (h : OSt S w0 B far r a b w) : Below B w0 w := by obtain ⟨O, _, _, hb, _⟩ := h; exact hb
theorem OSt.good (h : OSt S w0 B far r a b w) : a ≤ b ∧ b ≤ oMax := by obtain ⟨O, h, _⟩ := h; exact S.good h
theorem OSt.step {O O' : Nat → Prop} (hO : ∀ k, O k → B ≤ k ∧ ¬ far k) (hb : Below B w0 w) (hB : B ≤ w.heap.size) (hf : ∀ k, far k → k < w.heap.size) (h : S.At w' r a' b' O') (hm : Moves O O' w w') : OSt S w0 B far r a' b' w' ∧ FarSame far w w' :=
  ⟨⟨O', h, fun k hk => (hm.own k hk).elim (hO k) (fun h2 => ⟨Nat.le_trans hB h2, fun hx => by have := hf k hx; omega⟩), hb.trans (hm.below (fun k hk => (hO k hk).1) hB), Nat.le_trans hB hm.size, fun k hk => Nat.lt_of_lt_of_le (hf k hk) hm.size⟩,
    hm.size, fun k hk => hm.block k (hf k hk) (fun hx => (hO k hx).2 hk)⟩
theorem OSt.next (h : OSt S w0 B far r a b w) : Calls Try.prog 7 #[.pointer (some r)] w fun e w' => e = .returned (.tuple #[.int .u64 (oNextV a b), .bool (oNextR a b)]) ∧ OSt S w0 B far r (oNextA a b) b w' ∧ FarSame far w w' := by
  obtain ⟨O, hat, hO, hb, hB, hf⟩ := h
  exact (S.next hat).mono fun e w' ⟨O', he, h1, h2⟩ => ⟨he, OSt.step hO hb hB hf h1 h2⟩
theorem OSt.want (h : OSt S w0 B far r a b w) : Calls Try.prog 8 #[.pointer (some r)] w fun e w' => e = .returned (.tuple #[.int .u64 (oWantV a b), .bool (oWantR a b)]) ∧ OSt S w0 B far r a b w' ∧ FarSame far w w' := by
  obtain ⟨O, hat, hO, hb, hB, hf⟩ := h
  exact (S.want hat).mono fun e w' ⟨O', he, h1, h2⟩ => ⟨he, OSt.step hO hb hB hf h1 h2⟩
theorem OSt.noted (h : OSt S w0 B far r a b w) (n : Nat) (hn : n ≤ oMax) : Calls Try.prog 9 #[.pointer (some r), .int .u64 n] w fun e w' => e = .returned (.tuple #[]) ∧ OSt S w0 B far r a (max b n) w' ∧ FarSame far w w' := by
  obtain ⟨O, hat, hO, hb, hB, hf⟩ := h
  exact (S.noted hat n hn).mono fun e w' ⟨O', he, h1, h2⟩ => ⟨he, OSt.step hO hb hB hf h1 h2⟩
theorem OSt.last (h : OSt S w0 B far r a b w) : Calls Try.prog 11 #[.pointer (some r)] w fun e w' => e = .returned (.int .u64 a) ∧ OSt S w0 B far r a b w' ∧ FarSame far w w' := by
  obtain ⟨O, hat, hO, hb, hB, hf⟩ := h
  refine (S.last hat).mono fun e w' ⟨he, h1⟩ => ⟨he, OSt.step hO hb hB hf (S.stay hat fun k hk => h1.block k (S.lt hat k hk)) (Moves.of_below h1)⟩
/-- A new one, beside what is far. -/
theorem ost_new (S : OraC) {w0 w : World} {B : Nat} {far : Nat → Prop} (hb : Below B w0 w) (hB : B ≤ w.heap.size) (hf : ∀ k, far k → k < w.heap.size) (n : Nat) (hn : n ≤ oMax) :
    Calls Try.prog 6 #[.int .u64 n] w fun e w' => ∃ r, e = .returned (.pointer (some r)) ∧ OSt S w0 B far r n n w' ∧ FarSame far w w' :=
  (S.new n w hn).mono fun e w' ⟨r, O, he, h1, h2⟩ => ⟨r, he, OSt.step (O := fun _ => False) (fun k hk => hk.elim) hb hB hf h1 h2⟩
end

set_option maxHeartbeats 1000000 in
theorem oawake_any (S : OraC) (w : World) : Calls Try.prog 5 #[] w fun e w' => e = .returned (.bool true) ∧ Below w.heap.size w w' := by
  have hn := Lib.hid (ost_new S (Below.refl w.heap.size w) (Nat.le_refl _) (far := fun _ => False) (fun k hk => hk.elim) 7 (by unfold oMax; omega))
  go_enter Try.func5, Try.ntmps5
  go_wp2_with (first
    | (go_at_call 6; refine hn.out.mono ?_; rintro e w1 ⟨r, rfl, hs, _⟩; have HS := Lib.hid hs.want; clear hs)
    | (go_at_call 8; refine HS.out.mono ?_; rintro e w2 ⟨rfl, hs2, _⟩; have HB := Lib.hid hs2.below; clear hs2))
  go_ret
  exact ⟨rfl, HB.out⟩
end Go.Proofs.Ytbekgmcchecnkaa
