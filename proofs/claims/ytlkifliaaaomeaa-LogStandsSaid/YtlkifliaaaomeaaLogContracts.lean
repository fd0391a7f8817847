/-
  What is asked of the program's log, over its disk; the statements' 'bytes' and 'awake'.
-/
import Derived.Test.YtlkifliaaaomeaaLogFew
import Derived.Test.YtlkifliaaaomeaaDskContracts
import Derived.Test.YtlkifliaaaomeaaCrcMake
namespace Go.Proofs.Ytlkifliaaaomeaa
open Go.RowKit
set_option linter.unusedVariables false
set_option linter.unnecessarySimpa false
set_option linter.unusedSimpArgs false
set_option maxRecDepth 100000

/-- A disk has these bytes, and noughts behind. -/
structure Holds (D : DK) (all : List UInt8) : Prop where
  bytes : D.seen.flatten = all ++ List.replicate (64 * D.seen.length - all.length) 0
  le : all.length ≤ 64 * D.seen.length
/-- A disk without a fuse, none of whose writes waits overmuch. -/
structure Calm (D : DK) (n : Nat) : Prop where
  fuse : D.fuse = -1
  waits : D.waits.length ≤ n

/-- A log of the program's: 'At w r d N all over O': in w, the log at r of the disk at d, of N sectors, has these bytes; O is what it owns itself. -/
structure LogC (S : Dsk) where
  At : World → Addr → Addr → Nat → List UInt8 → Bool → (Nat → Prop) → Prop
  lt : ∀ {w r d N all ov O}, At w r d N all ov O → ∀ k, O k → k < w.heap.size
  stay : ∀ {w w' r d N all ov O}, At w r d N all ov O → (∀ k, O k → w'.heap[k]? = w.heap[k]?) → At w' r d N all ov O
  endd : ∀ {w r d N all ov O}, At w r d N all ov O → all.length ≤ 300000 → Calls Try.prog 10 #[.pointer (some r)] w fun e w' => e = .returned (.int .i64 all.length) ∧ Below w.heap.size w w'
  over : ∀ {w r d N all ov O}, At w r d N all ov O → Calls Try.prog 15 #[.pointer (some r)] w fun e w' => e = .returned (.bool ov) ∧ Below w.heap.size w w'
  told : ∀ (b : ByteArray) (w : World), b.size ≤ 300000 → Calls Try.prog 17 #[.agg tab, .string b] w (StandsOut w b.data.toList)
  open_ : ∀ {w d D O}, S.At w d D O → Calm D 100000 → D.seen.length ≤ 100 →
    Calls Try.prog 9 #[.agg tab, .pointer (some d)] w fun e w' => ∃ r v D' O' Ol, e = .returned (.tuple #[.pointer (some r), v, .int .i64 0]) ∧
      w'.ownsRow w.heap.size 9 1 v (stands D.seen.flatten).length (strCells (stands D.seen.flatten)) ∧
      S.At w' d D' O' ∧ Holds D' (D.seen.flatten.take (endOf (stands D.seen.flatten))) ∧ D'.seen.length = D.seen.length ∧ Calm D' 0 ∧
      At w' r d D.seen.length (D.seen.flatten.take (endOf (stands D.seen.flatten))) false Ol ∧ Moves O (fun k => O' k ∨ Ol k) w w' ∧ ∀ k, Ol k → ¬ O' k ∧ w.heap.size ≤ k
  appendLong : ∀ {w r d N all O}, At w r d N all false O → ∀ p : ByteArray, (p.size < 1 ∨ 4000 < p.size) → p.size ≤ 100000 →
    Calls Try.prog 11 #[.pointer (some r), .string p] w fun e w' => e = .returned (.int .i64 3) ∧ Below w.heap.size w w'
  appendFull : ∀ {w r d D O all Ol}, S.At w d D O → At w r d D.seen.length all false Ol → D.seen.length ≤ 100 → ∀ p : ByteArray, 1 ≤ p.size → p.size ≤ 4000 → all.length ≤ 64 * D.seen.length → 64 * D.seen.length < all.length + (p.size + 6) →
    Calls Try.prog 11 #[.pointer (some r), .string p] w fun e w' => e = .returned (.int .i64 5) ∧ Below w.heap.size w w'
  append : ∀ {w r d D O all Ol}, S.At w d D O → At w r d D.seen.length all false Ol → (∀ k, Ol k → ¬ O k) → Holds D all → Calm D 100000 → D.seen.length ≤ 100 → ∀ p : ByteArray, 1 ≤ p.size → p.size ≤ 4000 → all.length + (p.size + 6) ≤ 64 * D.seen.length →
    Calls Try.prog 11 #[.pointer (some r), .string p] w fun e w' => ∃ D' O' Ol', e = .returned (.int .i64 0) ∧
      S.At w' d D' O' ∧ Holds D' (all ++ recB p.data.toList) ∧ D'.seen.length = D.seen.length ∧ Calm D' (D.waits.length + 100) ∧
      At w' r d D.seen.length (all ++ recB p.data.toList) false Ol' ∧ Moves (fun k => O k ∨ Ol k) (fun k => O' k ∨ Ol' k) w w' ∧ ∀ k, Ol' k → ¬ O' k

/-- A disk beside a call's own memory: what it owns lies from B on; below B the world is as w0; 'far' are blocks that it doesn't own. -/
def DSt (S : Dsk) (w0 : World) (B : Nat) (d : Addr) (D : DK) (far : Nat → Prop) (w : World) : Prop :=
  ∃ O, S.At w d D O ∧ (∀ k, O k → B ≤ k) ∧ (∀ k, far k → ¬ O k) ∧ Below B w0 w ∧ B ≤ w.heap.size
/-- A log and its disk. -/
def LSt (S : Dsk) (L : LogC S) (w0 : World) (B : Nat) (d r : Addr) (D : DK) (all : List UInt8) (far : Nat → Prop) (w : World) : Prop :=
  ∃ O Ol, S.At w d D O ∧ L.At w r d D.seen.length all false Ol ∧ (∀ k, Ol k → ¬ O k) ∧ (∀ k, O k ∨ Ol k → B ≤ k) ∧ (∀ k, far k → ¬ O k ∧ ¬ Ol k) ∧ Below B w0 w ∧ B ≤ w.heap.size
section
variable {S : Dsk} {L : LogC S} {w0 w w' : World} {B : Nat} {d r : Addr} {D : DK} {all : List UInt8} {far far' : Nat → Prop}
theorem DSt.of_st (h : St S w0 B d D w) : DSt S w0 B d D (fun _ => False) w := by
  obtain ⟨O, h1, h2, h3, h4⟩ := h
  exact ⟨O, h1, h2, fun _ h => h.elim, h3, h4⟩
theorem DSt.below (h : DSt S w0 B d D far w) : Below B w0 w := by obtain ⟨O, _, _, _, hb, _⟩ := h; exact hb
theorem DSt.size (h : DSt S w0 B d D far w) : B ≤ w.heap.size := by obtain ⟨O, _, _, _, _, hb⟩ := h; exact hb
theorem DSt.stay (h : DSt S w0 B d D far w) (hb : Below w.heap.size w w') (hn : ∀ k, far' k → far k ∨ w.heap.size ≤ k) : DSt S w0 B d D far' w' := by
  obtain ⟨O, hd, hB, hf, hb0, hs⟩ := h
  exact ⟨O, S.stay hd (fun k hk => hb.block k (S.lt hd k hk)), hB, fun k hk => (hn k hk).elim (hf k) (fun h1 h2 => by have := S.lt hd k h2; omega), hb0.trans (hb.mono hs), Nat.le_trans hs hb.size⟩
/-- A write into a block that it doesn't own. -/
theorem DSt.setRow (h : DSt S w0 B d D far w) {g : Nat} (hg : far g) (hB : B ≤ g) (cs : Array Value) : DSt S w0 B d D far (w.setRow g cs) := by
  obtain ⟨O, hd, hBO, hf, hb0, hs⟩ := h
  exact ⟨O, S.stay hd (fun k hk => setRow_other w g k _ (fun e => hf g hg (e ▸ hk))), hBO, hf, below_setRow hb0 hB _, by simpa using hs⟩
theorem LSt.below (h : LSt S L w0 B d r D all far w) : Below B w0 w := by obtain ⟨O, Ol, _, _, _, _, _, hb, _⟩ := h; exact hb
theorem LSt.size (h : LSt S L w0 B d r D all far w) : B ≤ w.heap.size := by obtain ⟨O, Ol, _, _, _, _, _, _, hb⟩ := h; exact hb
theorem LSt.disk (h : LSt S L w0 B d r D all far w) : ∃ O, S.At w d D O := by obtain ⟨O, Ol, hd, _⟩ := h; exact ⟨O, hd⟩
theorem LSt.stay (h : LSt S L w0 B d r D all far w) (hb : Below w.heap.size w w') : LSt S L w0 B d r D all far w' := by
  obtain ⟨O, Ol, hd, hl, hdis, hB, hf, hb0, hs⟩ := h
  exact ⟨O, Ol, S.stay hd (fun k hk => hb.block k (S.lt hd k hk)), L.stay hl (fun k hk => hb.block k (L.lt hl k hk)), hdis, hB, hf, hb0.trans (hb.mono hs), Nat.le_trans hs hb.size⟩
/-- .. where a row grew that they don't own, or a new one was made. -/
theorem LSt.grown (h : LSt S L w0 B d r D all far w) {row : Option Nat} (hg : w.grownBy w' row) (hr : ∀ k, row = some k → far k ∧ B ≤ k) (hn : ∀ k, far' k → far k ∨ w.heap.size ≤ k) : LSt S L w0 B d r D all far' w' := by
  obtain ⟨O, Ol, hd, hl, hdis, hBo, hf, hb0, hs⟩ := h
  refine ⟨O, Ol, S.stay hd (fun k hk => hg.block k (S.lt hd k hk) (fun e => (hf k (hr k e.symm).1).1 hk)), L.stay hl (fun k hk => hg.block k (L.lt hl k hk) (fun e => (hf k (hr k e.symm).1).2 hk)), hdis, hBo, fun k hk => ?_, hb0.grown hg hs (fun k hk => (hr k hk).2), Nat.le_trans hs hg.size⟩
  rcases hn k hk with h1 | h1
  · exact hf k h1
  · exact ⟨fun h2 => by have := S.lt hd k h2; omega, fun h2 => by have := L.lt hl k h2; omega⟩
theorem LSt.less (h : LSt S L w0 B d r D all far w) (hf : ∀ k, far' k → far k) : LSt S L w0 B d r D all far' w := by
  obtain ⟨O, Ol, hd, hl, hdis, hBo, hfar, hb0, hs⟩ := h
  exact ⟨O, Ol, hd, hl, hdis, hBo, fun k hk => hfar k (hf k hk), hb0, hs⟩
theorem LSt.endd (h : LSt S L w0 B d r D all far w) (ha : all.length ≤ 300000) : Calls Try.prog 10 #[.pointer (some r)] w fun e w' => e = .returned (.int .i64 all.length) ∧ Below w.heap.size w w' := by
  obtain ⟨O, Ol, hd, hl, _⟩ := h
  exact L.endd hl ha
theorem LSt.over (h : LSt S L w0 B d r D all far w) : Calls Try.prog 15 #[.pointer (some r)] w fun e w' => e = .returned (.bool false) ∧ Below w.heap.size w w' := by
  obtain ⟨O, Ol, hd, hl, _⟩ := h
  exact L.over hl
theorem LSt.appendLong (h : LSt S L w0 B d r D all far w) (p : ByteArray) (hp : p.size < 1 ∨ 4000 < p.size) (hm : p.size ≤ 100000) :
    Calls Try.prog 11 #[.pointer (some r), .string p] w fun e w' => e = .returned (.int .i64 3) ∧ Below w.heap.size w w' := by
  obtain ⟨O, Ol, hd, hl, _⟩ := h
  exact L.appendLong hl p hp hm
theorem LSt.appendFull (h : LSt S L w0 B d r D all far w) (hN : D.seen.length ≤ 100) (p : ByteArray) (h1 : 1 ≤ p.size) (h2 : p.size ≤ 4000) (ha : all.length ≤ 64 * D.seen.length) (hf : 64 * D.seen.length < all.length + (p.size + 6)) :
    Calls Try.prog 11 #[.pointer (some r), .string p] w fun e w' => e = .returned (.int .i64 5) ∧ Below w.heap.size w w' := by
  obtain ⟨O, Ol, hd, hl, _⟩ := h
  exact L.appendFull hd hl hN p h1 h2 ha hf
theorem LSt.append (h : LSt S L w0 B d r D all far w) (hh : Holds D all) (hc : Calm D 100000) (hN : D.seen.length ≤ 100) (p : ByteArray) (h1 : 1 ≤ p.size) (h2 : p.size ≤ 4000) (ha : all.length + (p.size + 6) ≤ 64 * D.seen.length) :
    Calls Try.prog 11 #[.pointer (some r), .string p] w fun e w' => e = .returned (.int .i64 0) ∧ ∃ D', LSt S L w0 B d r D' (all ++ recB p.data.toList) (fun k => far k ∧ k < w.heap.size) w' ∧ Holds D' (all ++ recB p.data.toList) ∧ D'.seen.length = D.seen.length ∧ Calm D' (D.waits.length + 100) ∧
      (∀ k, far k → k < w.heap.size → w'.heap[k]? = w.heap[k]?) := by
  obtain ⟨O, Ol, hd, hl, hdis, hB, hf, hb0, hs⟩ := h
  refine (L.append hd hl hdis hh hc hN p h1 h2 ha).mono fun e w' ⟨D', O', Ol', he, hd', hh', hn', hc', hl', hm, hdis'⟩ => ⟨he, D', ⟨O', Ol', hd', by rw [hn']; exact hl', hdis', hm.from hB hs, fun k hk => ?_, hb0.trans (hm.below hB hs), Nat.le_trans hs hm.size⟩, hh', hn', hc', fun k hk hlt => hm.block k hlt (fun h => h.elim (hf k hk).1 (hf k hk).2)⟩
  have key : O' k ∨ Ol' k → False := fun h => (hm.own k h).elim (fun h => h.elim (hf k hk.1).1 (hf k hk.1).2) (fun h => by have := hk.2; omega)
  exact ⟨fun h => key (.inl h), fun h => key (.inr h)⟩

/-- Opened. -/
theorem lst_open (L : LogC S) (h : DSt S w0 B d D far w) (hc : Calm D 100000) (hN : D.seen.length ≤ 100) :
    Calls Try.prog 9 #[.agg tab, .pointer (some d)] w fun e w' => ∃ r v, e = .returned (.tuple #[.pointer (some r), v, .int .i64 0]) ∧
      w'.ownsRow w.heap.size 9 1 v (stands D.seen.flatten).length (strCells (stands D.seen.flatten)) ∧
      (∃ D', LSt S L w0 B d r D' (D.seen.flatten.take (endOf (stands D.seen.flatten))) (fun k => far k ∧ k < w.heap.size) w' ∧ Holds D' (D.seen.flatten.take (endOf (stands D.seen.flatten))) ∧ D'.seen.length = D.seen.length ∧ Calm D' 0) ∧
      (∀ k, far k → k < w.heap.size → w'.heap[k]? = w.heap[k]?) := by
  obtain ⟨O, hd, hO, hf, hb, hB⟩ := h
  refine (L.open_ hd hc hN).mono fun e w' ⟨r, v, D', O', Ol, he, hv, hd', hh, hn, hc', hl, hm, hol⟩ => ⟨r, v, he, hv, ⟨D', ⟨O', Ol, hd', by rw [hn]; exact hl, fun k hk => (hol k hk).1, hm.from hO hB, fun k hk => ?_, hb.trans (hm.below hO hB), Nat.le_trans hB hm.size⟩, hh, hn, hc'⟩, fun k hk hlt => hm.block k hlt (hf k hk)⟩
  have key : O' k ∨ Ol k → False := fun h => (hm.own k h).elim (hf k hk.1) (fun h => by have := hk.2; omega)
  exact ⟨fun h => key (.inl h), fun h => key (.inr h)⟩

/-- Opened again, beside a log of the same disk: what that one owns stays. -/
theorem lst_again (L : LogC S) {r0 : Addr} (h : LSt S L w0 B d r0 D all far w) (hc : Calm D 100000) (hN : D.seen.length ≤ 100) :
    Calls Try.prog 9 #[.agg tab, .pointer (some d)] w fun e w' => ∃ r v, e = .returned (.tuple #[.pointer (some r), v, .int .i64 0]) ∧
      w'.ownsRow w.heap.size 9 1 v (stands D.seen.flatten).length (strCells (stands D.seen.flatten)) ∧
      (∃ D', LSt S L w0 B d r D' (D.seen.flatten.take (endOf (stands D.seen.flatten))) (fun k => far k ∧ k < w.heap.size) w' ∧ Holds D' (D.seen.flatten.take (endOf (stands D.seen.flatten))) ∧ D'.seen.length = D.seen.length ∧ Calm D' 0) ∧
      (∀ k, far k → k < w.heap.size → w'.heap[k]? = w.heap[k]?) ∧ (∃ Ol, L.At w' r0 d D.seen.length all false Ol) := by
  obtain ⟨O, Ol0, hd, hl0, hdis, hO, hf, hb, hB⟩ := h
  refine (L.open_ hd hc hN).mono fun e w' ⟨r, v, D', O', Ol, he, hv, hd', hh, hn, hc', hl, hm, hol⟩ => ⟨r, v, he, hv, ⟨D', ⟨O', Ol, hd', by rw [hn]; exact hl, fun k hk => (hol k hk).1, hm.from (fun k hk => hO k (.inl hk)) hB, fun k hk => ?_, hb.trans (hm.below (fun k hk => hO k (.inl hk)) hB), Nat.le_trans hB hm.size⟩, hh, hn, hc'⟩,
    fun k hk hlt => hm.block k hlt (hf k hk).1, ⟨Ol0, L.stay hl0 (fun k hk => hm.block k (L.lt hl0 k hk) (hdis k hk))⟩⟩
  have key : O' k ∨ Ol k → False := fun h => (hm.own k h).elim (hf k hk.1).1 (fun h => by have := hk.2; omega)
  exact ⟨fun h => key (.inl h), fun h => key (.inr h)⟩
end

/-! The statements' 'bytes'. -/
theorem flat_take_succ (l : List (List UInt8)) {i : Nat} (h : i < l.length) : (l.take (i + 1)).flatten = (l.take i).flatten ++ l.getD i [] := by
  rw [List.take_add_one, List.getElem?_eq_getElem h, List.flatten_append, List.getD, List.getElem?_eq_getElem h]; simp
theorem flat_length64 : ∀ (l : List (List UInt8)), (∀ s ∈ l, s.length = 64) → l.flatten.length = 64 * l.length
  | [], _ => rfl
  | s :: l, h => by rw [List.flatten_cons, List.length_append, h s (by simp), flat_length64 l (fun t ht => h t (by simp [ht])), List.length_cons]; omega
theorem ba_append_list (a b : List UInt8) : (⟨a.toArray⟩ : ByteArray) ++ ⟨b.toArray⟩ = ⟨(a ++ b).toArray⟩ := by
  apply l_ba_ext
  simp [ByteArray.data_append]

set_option maxHeartbeats 1000000 in
theorem bytes_any {S : Dsk} {w : World} {d : Addr} {D : DK} {O : Nat → Prop} (h : S.At w d D O) (hf : D.fuse = -1) (hN : D.seen.length ≤ 100) :
    Calls Try.prog 13 #[.pointer (some d)] w fun e w' => e = .returned (.string ⟨D.seen.flatten.toArray⟩) ∧ Below w.heap.size w w' := by
  have H := Lib.hid h
  have hf0 := Lib.hid (show D.fuse ≠ 0 by rw [hf]; decide)
  have h64 := Lib.hid (S.good h).seen
  obtain ⟨N, hNN⟩ : ∃ N, N = D.seen.length := ⟨_, rfl⟩
  have HS := Lib.hid (fun w' (hb : Below w.heap.size w w') => S.sectors (S.stay H.out (fun k hk => hb.block k (S.lt H.out k hk))))
  have HR := Lib.hid (fun w' (hb : Below w.heap.size w w') (i : Nat) hi => S.read (S.stay H.out (fun k hk => hb.block k (S.lt H.out k hk))) i hf0.out hi)
  rw [← hNN] at HS HR hN
  have HNN := Lib.hid hNN
  clear h hf hNN
  go_enter Try.func13, Try.ntmps13
  go_wp2_with fail
  go_loopg [3, 4] N (fun g s3 s4 wx => ∃ i : Nat, i + g = N ∧ s3 = .string ⟨(D.seen.take i).flatten.toArray⟩ ∧ s4 = .int .i64 i ∧ Hid (Below w.heap.size w wx))
  case atStart => exact ⟨0, by omega, rfl, rfl, Lib.hid (Below.refl _ _)⟩
  case round =>
    obtain ⟨i, hig, rfl, rfl, hb⟩ := hrel
    cases gk with
    | zero =>
      obtain rfl : i = N := by omega
      have hall := Lib.hid (show D.seen.take i = D.seen by rw [HNN.out]; exact List.take_length)
      rw [hall.out]
      go_wp2_with (go_at_call 18; refine (HS.out _ hb.out).mono ?_; rintro e w1 ⟨rfl, hb1⟩; have hb1 := Lib.hid (hb.out.trans (hb1.mono hb.out.size)))
      go_ret
      exact ⟨rfl, hb1.out⟩
    | succ g =>
      have hil : i < N := by omega
      have hiz : (i : Int) < (N : Int) := by omega
      have hnx := Lib.hid (flat_take_succ D.seen (i := i) (by rw [← HNN.out]; exact hil))
      have hcat := Lib.hid (ba_append_list (D.seen.take i).flatten (D.seen.getD i []))
      rw [← hnx.out] at hcat
      have hsz : ((D.seen.take i).flatten).length ≤ 6400 := by
        rw [flat_length64 (D.seen.take i) (fun s hs => h64.out s (List.mem_of_mem_take hs)), List.length_take]; omega
      have hs2 : (D.seen.getD i []).length ≤ 64 := by
        rw [List.getD, List.getElem?_eq_getElem (by rw [← HNN.out]; exact hil)]
        exact Nat.le_of_eq (h64.out _ (List.getElem_mem _))
      obtain ⟨X, hX⟩ : ∃ X : ByteArray, X = ⟨(D.seen.take i).flatten.toArray⟩ := ⟨_, rfl⟩
      obtain ⟨Y, hY⟩ : ∃ Y : ByteArray, Y = ⟨(D.seen.getD i []).toArray⟩ := ⟨_, rfl⟩
      have HRi := Lib.hid (fun w' hb => HR.out w' hb i hil)
      rw [← hY] at HRi hcat
      rw [← hX] at hcat ⊢
      have hXs : X.size ≤ 6400 := by rw [hX]; exact hsz
      have hYs : Y.size ≤ 64 := by rw [hY]; exact hs2
      have hXY : X.size + Y.size ≤ 9223372036854775807 := by omega
      clear hX hY hsz hs2
      go_wp2_with (first
        | (go_at_call 18; refine (HS.out _ hb.out).mono ?_; rintro e w1 ⟨rfl, hb1⟩; have hb1 := Lib.hid (hb.out.trans (hb1.mono hb.out.size)))
        | (go_at_call 32; refine (HRi.out _ hb1.out).mono ?_; rintro e w2 ⟨rfl, hb2⟩; have hb2 := Lib.hid (hb1.out.trans (hb2.mono hb1.out.size))))
      go_roundg g
      case measure => omega
      case rel => exact ⟨i + 1, by omega, congrArg Value.string hcat.out, by go_num, hb2⟩
end Go.Proofs.Ytlkifliaaaomeaa
