/-
  Joined: MvcContracts, MvcKeys.
-/
import Derived.Test.YtdcefhhmddjodaaSet01
import Derived.Test.YtdcefhhmddjodaaSet05
import Derived.Sort.Walk0
namespace Go.Proofs.Ytdcefhhmddjodaa
open Go.RowKit
set_option linter.unusedVariables false
set_option linter.unnecessarySimpa false
set_option linter.unusedSimpArgs false
set_option maxRecDepth 100000

def ltK (a b : ByteArray) : Bool := Op.bytesLess a.toList b.toList
/-- Where a key stands among keys that rise. -/
def posK (k : ByteArray) : List ByteArray → Nat
  | [] => 0
  | x :: l => if ltK x k then posK k l + 1 else 0
def keyStep (l : List ByteArray) (k : ByteArray) : List ByteArray := if decide (posK k l < l.length) && sameK (l.getD (posK k l) ⟨#[]⟩) k then l else l.take (posK k l) ++ [k] ++ l.drop (posK k l)
def keysM (L : List Im) : List ByteArray := L.foldl (fun l m => keyStep l m.key) []
theorem keysM_snoc (L : List Im) (m : Im) : keysM (L ++ [m]) = keyStep (keysM L) m.key := by unfold keysM; rw [List.foldl_append]; rfl
/-- What a key is told with. -/
def scanOne (L : List Im) (lo hi : ByteArray) (t : Nat) (k : ByteArray) : Option Wt :=
  if (!ltK k lo && (hi.toList.isEmpty || ltK k hi)) && ((bestOf k t L).2 && !(bestOf k t L).1.gone) then some (k, (bestOf k t L).1.val) else none
def scanM (L : List Im) (lo hi : ByteArray) (t : Nat) (most : Int) : List Wt := ((keysM L).filterMap (scanOne L lo hi t)).take most.toNat

/-- What comes later changes nothing at earlier times. -/
theorem best_later (L : List Im) (m : Im) (k : ByteArray) (t : Nat) (h : t < m.v.time) : bestOf k t (L ++ [m]) = bestOf k t L := by
  rw [bestOf_snoc]
  unfold bestStep
  rw [show decide (m.v.time ≤ t) = false by simpa using h, Bool.false_and, Bool.and_false]
  rfl
theorem best_none (L : List Im) (k : ByteArray) (t : Nat) (h : ∀ m ∈ L, sameK m.key k = false) : bestOf k t L = (vr0, false) := by
  unfold bestOf
  suffices ∀ r, L.foldl (bestStep k t) r = r from this _
  induction L with
  | nil => intro r; rfl
  | cons x L ih =>
    intro r
    rw [List.foldl_cons, show bestStep k t r x = r by unfold bestStep; rw [h x (by simp), Bool.false_and]; rfl]
    exact ih (fun m hm => h m (by simp [hm])) r
theorem ins_cases (L : List Im) (m : Im) : (insM L m).1 = L ∨ (insM L m).1 = L ++ [m] := by
  unfold insM
  repeat' split
  all_goals first | exact .inl rfl | exact .inr rfl
theorem sameK_eq {a b : ByteArray} (h : sameK a b = true) : a.toList = b.toList := by unfold sameK at h; simpa using h
theorem sameK_of {a b : ByteArray} (h : a.toList = b.toList) : sameK a b = true := by unfold sameK; simpa using h
theorem mem_keyStep {l : List ByteArray} {k x : ByteArray} (h : x ∈ l) : x ∈ keyStep l k := by
  unfold keyStep
  split
  · exact h
  · rw [← List.take_append_drop (posK k l) l, List.mem_append] at h
    simp only [List.mem_append]
    rcases h with h | h
    · exact .inl (.inl h)
    · exact .inr h
theorem key_there {l : List ByteArray} {k : ByteArray} : ∃ x ∈ keyStep l k, sameK x k = true := by
  unfold keyStep
  split
  · rename_i h
    rw [Bool.and_eq_true, decide_eq_true_eq] at h
    exact ⟨_, by rw [List.getD, List.getElem?_eq_getElem h.1]; exact List.getElem_mem h.1, h.2⟩
  · exact ⟨k, by simp, sameK_of rfl⟩
theorem scan_later (L : List Im) (m : Im) (lo hi : ByteArray) (t : Nat) (most : Int) (h : t < m.v.time) (hnew : (keyStep (keysM L) m.key = keysM L) ∨ bestOf m.key t L = (vr0, false)) : scanM (L ++ [m]) lo hi t most = scanM L lo hi t most := by
  have hf : scanOne (L ++ [m]) lo hi t = scanOne L lo hi t := by funext k; unfold scanOne; rw [best_later L m k t h]
  unfold scanM
  rw [hf, keysM_snoc]
  congr 1
  rcases hnew with e | e
  · rw [e]
  · unfold keyStep
    split
    · rfl
    · have hn : scanOne L lo hi t m.key = none := by unfold scanOne; rw [e]; simp
      rw [List.filterMap_append, List.filterMap_append, List.filterMap_cons_none hn, List.filterMap_nil, List.append_nil, ← List.filterMap_append, List.take_append_drop]

/-- A store of the program's: 'At w r L O': in w, the one at r has the versions L, as they came; O is what it owns. -/
structure MvcC where
  At : World → Addr → List Im → (Nat → Prop) → Prop
  lt : ∀ {w r L O}, At w r L O → ∀ k, O k → k < w.heap.size
  stay : ∀ {w w' r L O}, At w r L O → (∀ k, O k → w'.heap[k]? = w.heap[k]?) → At w' r L O
  new : ∀ (w : World), Calls Try.prog 9 #[] w fun e w' => ∃ r O, e = .returned (.pointer (some r)) ∧ At w' r [] O ∧ Moves (fun _ => False) O w w'
  install : ∀ {w r L O}, At w r L O → ∀ m : Im, L.length ≤ 1000 → m.key.size ≤ maxLen → m.v.val.size ≤ maxLen → m.v.time < 18446744073709551616 →
    Calls Try.prog 11 #[.pointer (some r), .string m.key, .agg #[.int .u64 (m.v.time : Int), .bool m.v.gone, .string m.v.val]] w fun e w' => ∃ O', e = .returned (.int .i64 ((insM L m).2 : Int)) ∧ At w' r (insM L m).1 O' ∧ Moves O O' w w'
  at_ : ∀ {w r L O}, At w r L O → ∀ (key : ByteArray) (t : Nat), key.size ≤ maxLen → t < 18446744073709551616 →
    Calls Try.prog 12 #[.pointer (some r), .string key, .int .u64 (t : Int)] w fun e w' => e = .returned (.tuple #[.agg (bestOf key t L).1.cells, .bool (bestOf key t L).2]) ∧ Below w.heap.size w w'
  last : ∀ {w r L O}, At w r L O → ∀ (key : ByteArray), key.size ≤ maxLen → Calls Try.prog 16 #[.pointer (some r), .string key] w fun e w' => e = .returned (.int .u64 ((lastOf key L).1 : Int)) ∧ Below w.heap.size w w'
  room : ∀ {w r L O}, At w r L O → ∀ (key : ByteArray), key.size ≤ maxLen → Calls Try.prog 15 #[.pointer (some r), .string key] w fun e w' => e = .returned (.bool (decide ((lastOf key L).2 < 200))) ∧ Below w.heap.size w w'
  scan : ∀ {w r L O}, At w r L O → ∀ (lo hi : ByteArray) (t : Nat) (most : Int), L.length ≤ 1000 → lo.size ≤ maxLen → hi.size ≤ maxLen → t < 18446744073709551616 →
    Calls Try.prog 18 #[.pointer (some r), .string lo, .string hi, .int .u64 (t : Int), .int .i64 most] w fun e w' => ∃ a n c, e = .returned (.slice a n c) ∧ IsWts w' a n c (scanM L lo hi t most) ∧ Below w.heap.size w w' ∧ (0 < n → ∀ b off, a = some ⟨b, off, none⟩ → ¬ O b)
  keys : ∀ {w r L O}, At w r L O → L.length ≤ 1000 → Calls Try.prog 20 #[.pointer (some r)] w fun e w' => ∃ a n c, e = .returned (.slice a n c) ∧ IsKs w' a n c (keysM L) ∧ Below w.heap.size w w'

/-- A store beside a call's own memory: below B the world is as w0. -/
def MSt (S : MvcC) (w0 : World) (B : Nat) (far : Nat → Prop) (r : Addr) (L : List Im) (w : World) : Prop :=
  ∃ O, S.At w r L O ∧ (∀ k, O k → B ≤ k ∧ ¬ far k) ∧ Below B w0 w ∧ B ≤ w.heap.size ∧ (∀ k, far k → k < w.heap.size)
def FarSame (far : Nat → Prop) (w w' : World) : Prop := w.heap.size ≤ w'.heap.size ∧ ∀ k, far k → w'.heap[k]? = w.heap[k]?
section
variable {S : MvcC} {w0 w w' : World} {B : Nat} {far : Nat → Prop} {r : Addr} {L L' : List Im}
theorem MSt.below (h : MSt S w0 B far r L w) : Below B w0 w := by obtain ⟨O, _, _, hb, _⟩ := h; exact hb
theorem MSt.step {O O' : Nat → Prop} (hO : ∀ k, O k → B ≤ k ∧ ¬ far k) (hb : Below B w0 w) (hB : B ≤ w.heap.size) (hf : ∀ k, far k → k < w.heap.size) (h : S.At w' r L' O') (hm : Moves O O' w w') : MSt S w0 B far r L' w' ∧ FarSame far w w' :=
  ⟨⟨O', h, fun k hk => (hm.own k hk).elim (hO k) (fun h2 => ⟨Nat.le_trans hB h2, fun hx => by have := hf k hx; omega⟩), hb.trans (hm.below (fun k hk => (hO k hk).1) hB), Nat.le_trans hB hm.size, fun k hk => Nat.lt_of_lt_of_le (hf k hk) hm.size⟩,
    hm.size, fun k hk => hm.block k (hf k hk) (fun hx => (hO k hx).2 hk)⟩
theorem MSt.later (h : MSt S w0 B far r L w) (hb : Below w.heap.size w w') : MSt S w0 B far r L w' := by
  obtain ⟨O, hat, hO, hb0, hB, hf⟩ := h
  exact (MSt.step hO hb0 hB hf (S.stay hat fun k hk => hb.block k (S.lt hat k hk)) (Moves.of_below hb)).1
theorem MSt.install (h : MSt S w0 B far r L w) (m : Im) (hl : L.length ≤ 1000) (h1 : m.key.size ≤ maxLen) (h2 : m.v.val.size ≤ maxLen) (h3 : m.v.time < 18446744073709551616) :
    Calls Try.prog 11 #[.pointer (some r), .string m.key, .agg #[.int .u64 (m.v.time : Int), .bool m.v.gone, .string m.v.val]] w fun e w' => e = .returned (.int .i64 ((insM L m).2 : Int)) ∧ MSt S w0 B far r (insM L m).1 w' ∧ FarSame far w w' := by
  obtain ⟨O, hat, hO, hb, hB, hf⟩ := h
  exact (S.install hat m hl h1 h2 h3).mono fun e w' ⟨O', he, h1, h2⟩ => ⟨he, MSt.step hO hb hB hf h1 h2⟩
theorem MSt.at_ (h : MSt S w0 B far r L w) (key : ByteArray) (t : Nat) (h1 : key.size ≤ maxLen) (h2 : t < 18446744073709551616) :
    Calls Try.prog 12 #[.pointer (some r), .string key, .int .u64 (t : Int)] w fun e w' => e = .returned (.tuple #[.agg (bestOf key t L).1.cells, .bool (bestOf key t L).2]) ∧ MSt S w0 B far r L w' ∧ Below w.heap.size w w' := by
  obtain ⟨O, hat, _⟩ := id h
  exact (S.at_ hat key t h1 h2).mono fun e w' ⟨he, hb⟩ => ⟨he, h.later hb, hb⟩
theorem MSt.last (h : MSt S w0 B far r L w) (key : ByteArray) (h1 : key.size ≤ maxLen) :
    Calls Try.prog 16 #[.pointer (some r), .string key] w fun e w' => e = .returned (.int .u64 ((lastOf key L).1 : Int)) ∧ MSt S w0 B far r L w' ∧ Below w.heap.size w w' := by
  obtain ⟨O, hat, _⟩ := id h
  exact (S.last hat key h1).mono fun e w' ⟨he, hb⟩ => ⟨he, h.later hb, hb⟩
theorem MSt.room (h : MSt S w0 B far r L w) (key : ByteArray) (h1 : key.size ≤ maxLen) :
    Calls Try.prog 15 #[.pointer (some r), .string key] w fun e w' => e = .returned (.bool (decide ((lastOf key L).2 < 200))) ∧ MSt S w0 B far r L w' ∧ Below w.heap.size w w' := by
  obtain ⟨O, hat, _⟩ := id h
  exact (S.room hat key h1).mono fun e w' ⟨he, hb⟩ => ⟨he, h.later hb, hb⟩
theorem MSt.scan (h : MSt S w0 B far r L w) (lo hi : ByteArray) (t : Nat) (most : Int) (hl : L.length ≤ 1000) (h1 : lo.size ≤ maxLen) (h2 : hi.size ≤ maxLen) (h3 : t < 18446744073709551616) :
    Calls Try.prog 18 #[.pointer (some r), .string lo, .string hi, .int .u64 (t : Int), .int .i64 most] w fun e w' => ∃ a n c, e = .returned (.slice a n c) ∧ IsWts w' a n c (scanM L lo hi t most) ∧ MSt S w0 B (fun k => far k ∨ (0 < n ∧ ∃ off, a = some ⟨k, off, none⟩)) r L w' ∧ Below w.heap.size w w' := by
  obtain ⟨O, hat, hO, hb0, hB, hf⟩ := h
  refine (S.scan hat lo hi t most hl h1 h2 h3).mono fun e w' ⟨a, n, c, he, hw, hb, hn⟩ => ⟨a, n, c, he, hw, ?_, hb⟩
  refine ⟨O, S.stay hat fun k hk => hb.block k (S.lt hat k hk), fun k hk => ⟨(hO k hk).1, ?_⟩, hb0.trans (hb.mono hB), Nat.le_trans hB hb.size, ?_⟩
  · rintro (h | ⟨h0, off, e⟩)
    · exact (hO k hk).2 h
    · exact hn h0 k off e hk
  · rintro k (h | ⟨h0, off, e⟩)
    · exact Nat.lt_of_lt_of_le (hf k h) hb.size
    · obtain ⟨b, o2, e2, h3, _⟩ := hw.2.2 0 h0
      rw [e] at e2
      simp only [Option.some.injEq, Addr.mk.injEq] at e2
      omega
/-- A block that is new is far, too. -/
theorem MSt.more (h : MSt S w0 B far r L w) (hb : Below w.heap.size w w') (g : Nat) (h1 : w.heap.size ≤ g) (h2 : g < w'.heap.size) : MSt S w0 B (fun k => far k ∨ k = g) r L w' := by
  obtain ⟨O, hat, hO, hb0, hB, hf⟩ := h
  refine ⟨O, S.stay hat fun k hk => hb.block k (S.lt hat k hk), fun k hk => ⟨(hO k hk).1, ?_⟩, hb0.trans (hb.mono hB), Nat.le_trans hB hb.size, ?_⟩
  · rintro (h | rfl)
    · exact (hO k hk).2 h
    · have := S.lt hat k hk
      omega
  · rintro k (h | rfl)
    · exact Nat.lt_of_lt_of_le (hf k h) hb.size
    · exact h2
theorem mst_new (S : MvcC) {w0 w : World} {B : Nat} {far : Nat → Prop} (hb : Below B w0 w) (hB : B ≤ w.heap.size) (hf : ∀ k, far k → k < w.heap.size) :
    Calls Try.prog 9 #[] w fun e w' => ∃ r, e = .returned (.pointer (some r)) ∧ MSt S w0 B far r [] w' ∧ FarSame far w w' :=
  (S.new w).mono fun e w' ⟨r, O, he, h1, h2⟩ => ⟨r, he, MSt.step (O := fun _ => False) (fun k hk => hk.elim) hb hB hf h1 h2⟩
end

def awIm : Im := ⟨⟨#[107]⟩, ⟨5, false, ⟨#[]⟩⟩⟩
theorem aw_ins : insM [] awIm = ([awIm], 0) := by
  unfold insM badIm awIm lastOf
  simp
  decide
theorem aw_last : lastOf awIm.key [awIm] = (5, 1) := by
  unfold lastOf
  simp [lastOf, sameK, awIm]
set_option maxHeartbeats 1000000 in
theorem mawake_any (S : MvcC) (w : World) : Calls Try.prog 7 #[] w fun e w' => e = .returned (.bool true) ∧ Below w.heap.size w w' := by
  have hn := Lib.hid (mst_new S (Below.refl w.heap.size w) (Nat.le_refl _) (far := fun _ => False) (fun k hk => hk.elim))
  have hi := Lib.hid (fun r W (h : MSt S w w.heap.size (fun _ => False) r [] W) => h.install awIm (by simp) (by decide) (by decide) (by decide))
  rw [aw_ins] at hi
  have hl := Lib.hid (fun r W (h : MSt S w w.heap.size (fun _ => False) r [awIm] W) => h.last awIm.key (by decide))
  rw [aw_last] at hl
  go_enter Try.func7, Try.ntmps7
  go_wp2_with (first
    | (go_at_call 9; refine hn.out.mono ?_; rintro e w1 ⟨r, rfl, hs, _⟩; have HS := Lib.hid (hi.out _ _ hs); clear hs)
    | (go_at_call 11; refine HS.out.mono ?_; rintro e w2 ⟨rfl, hs2, _⟩; have HS2 := Lib.hid (hl.out _ _ hs2); clear hs2)
    | (go_at_call 16; refine HS2.out.mono ?_; rintro e w3 ⟨rfl, hs3, _⟩; have HB := Lib.hid hs3.below; clear hs3))
  go_ret
  exact ⟨rfl, HB.out⟩
end Go.Proofs.Ytdcefhhmddjodaa

namespace Go.Proofs.Ytdcefhhmddjodaa
open Go.RowKit
set_option maxRecDepth 100000
set_option linter.unusedVariables false
set_option linter.unnecessarySimpa false
set_option linter.unusedSimpArgs false

theorem ltK_eq (a b : ByteArray) : ltK a b = decide (a.toList < b.toList) := by unfold ltK; exact bytesLess_eq _ _
theorem ltK_trans {a b c : ByteArray} (h1 : ltK a b = true) (h2 : ltK b c = true) : ltK a c = true := by
  rw [ltK_eq, decide_eq_true_eq] at *
  exact List.lt_trans h1 h2
theorem ltK_irr (a : ByteArray) : ltK a a = false := by
  rw [ltK_eq, decide_eq_false_iff_not]
  exact List.lt_irrefl _
theorem ltK_total {a b : ByteArray} (h1 : ltK a b = false) (h2 : sameK a b = false) : ltK b a = true := by
  rw [ltK_eq] at *
  rw [decide_eq_false_iff_not] at h1
  rw [decide_eq_true_eq]
  refine Classical.byContradiction fun h => ?_
  have : a.toList = b.toList := List.le_antisymm (List.not_lt.1 h) (List.not_lt.1 h1)
  rw [sameK_of this] at h2
  cases h2
theorem ltK_same {a b c : ByteArray} (h : sameK b c = true) : ltK a b = ltK a c := by unfold ltK; rw [sameK_eq h]
def Rise (l : List ByteArray) : Prop := l.Pairwise fun a b => ltK a b = true
theorem posK_there {k : ByteArray} : ∀ {l : List ByteArray}, Rise l → (∃ x ∈ l, sameK x k = true) → (decide (posK k l < l.length) && sameK (l.getD (posK k l) ⟨#[]⟩) k) = true
  | [], _, ⟨x, hx, _⟩ => by simp at hx
  | y :: l, hr, ⟨x, hx, hs⟩ => by
    have hr' := List.pairwise_cons.1 hr
    unfold posK
    by_cases hy : ltK y k = true
    · rw [if_pos hy]
      have hxl : x ∈ l := by
        rcases List.mem_cons.1 hx with rfl | h
        · rw [← ltK_same hs, ltK_irr] at hy
          cases hy
        · exact h
      have := posK_there hr'.2 ⟨x, hxl, hs⟩
      simp only [Bool.and_eq_true, decide_eq_true_eq] at this ⊢
      exact ⟨by simp; exact this.1, by simpa using this.2⟩
    · rw [if_neg hy]
      rcases List.mem_cons.1 hx with rfl | h
      · simpa using hs
      · have := hr'.1 x h
        rw [ltK_same hs] at this
        exact absurd this hy
theorem rise_ins {k : ByteArray} : ∀ {l : List ByteArray}, Rise l → (decide (posK k l < l.length) && sameK (l.getD (posK k l) ⟨#[]⟩) k) = false → Rise (l.take (posK k l) ++ [k] ++ l.drop (posK k l))
  | [], _, _ => by simp [Rise]
  | y :: l, hr, hn => by
    have hr' := List.pairwise_cons.1 hr
    unfold posK at hn ⊢
    by_cases hy : ltK y k = true
    · rw [if_pos hy] at hn ⊢
      have ih := rise_ins (k := k) hr'.2 (by simpa using hn)
      show Rise (y :: (l.take (posK k l) ++ [k] ++ l.drop (posK k l)))
      refine List.pairwise_cons.2 ⟨fun z hz => ?_, ih⟩
      simp only [List.mem_append, List.mem_cons, List.not_mem_nil, or_false] at hz
      rcases hz with (h | rfl) | h
      · exact hr'.1 z (List.mem_of_mem_take h)
      · exact hy
      · exact hr'.1 z (List.mem_of_mem_drop h)
    · rw [if_neg hy] at hn ⊢
      have hk : ltK k y = true := ltK_total (by simpa using hy) (by simpa using hn)
      show Rise (k :: y :: l)
      refine List.pairwise_cons.2 ⟨fun z hz => ?_, hr⟩
      rcases List.mem_cons.1 hz with rfl | h
      · exact hk
      · exact ltK_trans hk (hr'.1 z h)
theorem rise_step {l : List ByteArray} (k : ByteArray) (h : Rise l) : Rise (keyStep l k) := by
  unfold keyStep
  split
  · exact h
  · rename_i hn
    exact rise_ins h (by simpa using hn)
theorem keys_rise (L : List Im) : Rise (keysM L) := by
  unfold keysM
  suffices ∀ l, Rise l → Rise (L.foldl (fun l m => keyStep l m.key) l) from this [] List.Pairwise.nil
  induction L with
  | nil => exact fun l h => h
  | cons m L ih => exact fun l h => ih _ (rise_step m.key h)
theorem keys_have (L : List Im) (m : Im) (h : m ∈ L) : ∃ x ∈ keysM L, sameK x m.key = true := by
  unfold keysM
  suffices ∀ l, ((∃ x ∈ l, sameK x m.key = true) ∨ m ∈ L) → ∃ x ∈ L.foldl (fun l m => keyStep l m.key) l, sameK x m.key = true from this [] (.inr h)
  clear h
  induction L with
  | nil => intro l h; rcases h with h | h; exact h; simp at h
  | cons y L ih =>
    intro l h
    refine ih _ ?_
    rcases h with ⟨x, hx, hs⟩ | h
    · exact .inl ⟨x, mem_keyStep hx, hs⟩
    · rcases List.mem_cons.1 h with rfl | h
      · exact .inl key_there
      · exact .inr h
theorem sameK_symm {a b : ByteArray} (h : sameK a b = true) : sameK b a = true := sameK_of (sameK_eq h).symm
theorem sameK_trans {a b c : ByteArray} (h : sameK a b = true) (g : sameK b c = true) : sameK a c = true := sameK_of ((sameK_eq h).trans (sameK_eq g))
/-- P11.3, as mathematics. -/
theorem past_scan (L : List Im) (m : Im) (lo hi : ByteArray) (t : Nat) (most : Int) (h : t < m.v.time) : scanM (insM L m).1 lo hi t most = scanM L lo hi t most := by
  rcases ins_cases L m with e | e
  · rw [e]
  · rw [e]
    refine scan_later L m lo hi t most h ?_
    by_cases hx : ∃ x ∈ L, sameK x.key m.key = true
    · obtain ⟨x, hx, hs⟩ := hx
      obtain ⟨y, hy, hys⟩ := keys_have L x hx
      left
      unfold keyStep
      rw [if_pos (posK_there (keys_rise L) ⟨y, hy, sameK_trans hys hs⟩)]
    · exact .inr (best_none L m.key t (fun x hxL => by
        rw [← Bool.not_eq_true]
        exact fun hs => hx ⟨x, hxL, hs⟩))
theorem past_best (L : List Im) (m : Im) (k : ByteArray) (t : Nat) (h : t < m.v.time) : bestOf k t (insM L m).1 = bestOf k t L := by
  rcases ins_cases L m with e | e
  · rw [e]
  · rw [e]; exact best_later L m k t h
end Go.Proofs.Ytdcefhhmddjodaa
