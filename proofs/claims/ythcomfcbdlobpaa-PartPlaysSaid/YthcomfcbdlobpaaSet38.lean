/-
  Joined: BlkPEnts, MvcPSt, MvcPSmall.
-/
import Derived.Test.YthcomfcbdlobpaaSet37
import Derived.Test.YthcomfcbdlobpaaSet29
import Derived.Test.YthcomfcbdlobpaaSet35
import Derived.OwnWalk
import Derived.Laws.OwnMore
import Derived.Laws.ResultCell
namespace Go.Proofs.Ythcomfcbdlobpaa
open Go.RowKit
set_option linter.unusedVariables false
set_option linter.unnecessarySimpa false
set_option linter.unusedSimpArgs false
set_option maxRecDepth 100000

/-- Chains that are rows of the call's own, each in a block of its own. -/
def EOwn (W : World) (B : Nat) (l : List EP) : Prop := (∀ x ∈ l, W.ownsRow B 42 3 (.slice x.a x.n x.c) x.n (versC x.e.ch)) ∧ l.Pairwise (fun x y => ∀ p q : Addr, x.a = some p → y.a = some q → p.block ≠ q.block)
/-- Entries, all of them in new memory of the call's own. -/
def EntOwn (W : World) (B : Nat) (a : Option Addr) (n c : Nat) (es : List En) : Prop := ∃ l : List EP, accE l = es ∧ l.length = n ∧ W.ownsRow B 109 2 (.slice a n c) n (entC l) ∧ EPs W (.slice a n c) l ∧ EOwn W B l
theorem slice_block {a : Option Addr} {n c : Nat} {k : Nat} (h : (Value.slice a n c).ownBlock = some k) : ∃ p : Addr, a = some p ∧ p.block = k := by
  cases a with
  | none => cases h
  | some p => exact ⟨p, rfl, by injection h⟩
theorem eown_keep {W W' : World} {B : Nat} {l : List EP} (h : EOwn W B l) (hk : ∀ x ∈ l, W.ownsRow B 42 3 (.slice x.a x.n x.c) x.n (versC x.e.ch) → W'.ownsRow B 42 3 (.slice x.a x.n x.c) x.n (versC x.e.ch)) : EOwn W' B l := ⟨fun x hx => hk x hx (h.1 x hx), h.2⟩
/-- What takeEntries tells. -/
def InsEnd (g : Nat) (F : InsO) (w : World) (e : Ending) (w' : World) : Prop := w.grownBy w' (some g) ∧ match F with
  | .form => e = .returned (.tuple #[.slice none 0 0, .int .i64 2])
  | .long => e = .returned (.tuple #[.slice none 0 0, .int .i64 3])
  | .all es => ∃ a c, e = .returned (.tuple #[.slice a es.length c, .int .i64 0]) ∧ IsEnts w' a es.length c es ∧ EntOwn w' w.heap.size a es.length c es
theorem ins_form {g : Nat} {F : InsO} {w w' : World} (h : F = .form) (hg : w.grownBy w' (some g)) : InsEnd g F w (.returned (.tuple #[.slice none 0 0, .int .i64 2])) w' := by rw [h]; exact ⟨hg, rfl⟩
theorem ins_long {g : Nat} {F : InsO} {w w' : World} (h : F = .long) (hg : w.grownBy w' (some g)) : InsEnd g F w (.returned (.tuple #[.slice none 0 0, .int .i64 3])) w' := by rw [h]; exact ⟨hg, rfl⟩
theorem ins_all {g : Nat} {F : InsO} {es : List En} {w w' : World} {a : Option Addr} {n c : Nat} (h : F = .all es) (hn : es.length = n) (hv : IsEnts w' a n c es) (ho : EntOwn w' w.heap.size a n c es) (hg : w.grownBy w' (some g)) : InsEnd g F w (.returned (.tuple #[.slice a n c, .int .i64 0])) w' := by
  rw [h]; subst hn; exact ⟨hg, a, c, rfl, hv, ho⟩
theorem entR_none {m : Nat} {es : List En} {lg : Bool} {l : List UInt8} (h : tkEnt es l = none) : finE (entR (m + 1) es lg l) = .form := by rw [entR, h]; rfl
theorem entR_some {m : Nat} {es : List En} {lg lg' : Bool} {l r : List UInt8} {e : En} (h : tkEnt es l = some (e, lg', r)) : finE (entR (m + 1) es lg l) = finE (entR m (es ++ [e]) (lg || lg') r) := by rw [entR, h]

theorem eown_lower {W : World} {B m : Nat} {l : List EP} (h : EOwn W B l) (hm : m ≤ B) : EOwn W m l := ⟨fun x hx => own_lower (h.1 x hx) hm, h.2⟩
theorem grown_overO {w w1 w2 : World} {g : Nat} {r : Option Nat} (h : w.grownBy w1 (some g)) (hg : w1.grownBy w2 r) (hr : ∀ k, r = some k → w.heap.size ≤ k) : w.grownBy w2 (some g) :=
  ⟨hg.os.trans h.os, hg.tape.trans h.tape, hg.output.trans h.output, Nat.le_trans h.size hg.size, fun k hk hkg => (hg.block k (Nat.lt_of_lt_of_le hk h.size) (fun e => by have := hr k e.symm; omega)).trans (h.block k hk hkg)⟩
end Go.Proofs.Ythcomfcbdlobpaa

namespace Go.Proofs.Ythcomfcbdlobpaa
open Go.RowKit
set_option linter.unusedVariables false
set_option linter.unnecessarySimpa false
set_option linter.unusedSimpArgs false
set_option maxRecDepth 100000

theorem own_same {w w' : World} {B e size n : Nat} {v : Value} {xs : List Value} (h : w.ownsRow B e size v n xs) (hk : ∀ k, v.ownBlock = some k → w'.heap[k]? = w.heap[k]?) : w'.ownsRow B e size v n xs := by
  refine ⟨h.1, ?_⟩
  rcases h.2 with hn | ⟨g, cap, cur, rfl, hb, hgg, rest⟩
  · exact .inl hn
  · exact .inr ⟨g, cap, cur, rfl, hb, (hk g rfl).trans hgg, rest⟩
/-- An entry's chain: a row of its own, away from the row v of the entries and from the block b. -/
structure EPo (w : World) (b : Nat) (v : Value) (x : EP) : Prop where
  len : x.e.ch.length = x.n
  row : w.ownsRow 0 42 3 (.slice x.a x.n x.c) x.n (versC x.e.ch)
  far : ∀ p : Addr, x.a = some p → v.ownBlock ≠ some p.block ∧ p.block ≠ b
def Apart (x y : EP) : Prop := ∀ p q : Addr, x.a = some p → y.a = some q → p.block ≠ q.block
/-- The store at b, of the entries l. -/
structure StM (w : World) (r : Addr) (b : Nat) (a : Option Addr) (n c : Nat) (l : List EP) : Prop where
  ptr : r = ⟨b, 0, none⟩
  box : w.heap[b]? = some (.cells #[.slice a n c] 71 (0, 0))
  row : w.ownsRow 0 109 2 (.slice a n c) n (entC l)
  len : l.length = n
  big : n ≤ 100000
  each : ∀ x ∈ l, EPo w b (.slice a n c) x
  apart : l.Pairwise Apart
  nb : (Value.slice a n c).ownBlock ≠ some b
def stO (b : Nat) (a : Option Addr) (n c : Nat) (l : List EP) : Nat → Prop := fun k => k = b ∨ (Value.slice a n c).ownBlock = some k ∨ ∃ x ∈ l, ∃ p : Addr, x.a = some p ∧ p.block = k
/-- The store at r has the versions L. -/
def StAt (w : World) (r : Addr) (L : List Im) (O : Nat → Prop) : Prop := ∃ b a n c l, StM w r b a n c l ∧ accE l = entsM L ∧ GoodL L ∧ O = stO b a n c l
section
variable {w w' : World} {r : Addr} {b n c : Nat} {a : Option Addr} {l : List EP} {L : List Im} {O : Nat → Prop}
theorem StM.lt (h : StM w r b a n c l) : ∀ k, stO b a n c l k → k < w.heap.size := by
  rintro k (rfl | hk | ⟨x, hx, p, hp, rfl⟩)
  · exact (Array.getElem?_eq_some_iff.1 h.box).1
  · exact (h.row.lt k hk).2
  · refine ((h.each x hx).row.lt p.block ?_).2
    rw [hp]; rfl
theorem StM.stay (h : StM w r b a n c l) (hk : ∀ k, stO b a n c l k → w'.heap[k]? = w.heap[k]?) : StM w' r b a n c l :=
  ⟨h.ptr, (hk b (.inl rfl)).trans h.box, own_same h.row fun k e => hk k (.inr (.inl e)), h.len, h.big,
    fun x hx => ⟨(h.each x hx).len, own_same (h.each x hx).row fun k e => by obtain ⟨p, hp, rfl⟩ := slice_block e; exact hk _ (.inr (.inr ⟨x, hx, p, hp, rfl⟩)), (h.each x hx).far⟩, h.apart, h.nb⟩
theorem StM.below (h : StM w r b a n c l) (hb : Below w.heap.size w w') : StM w' r b a n c l := h.stay fun k hk => hb.block k (h.lt k hk)
theorem acc_mem {x : EP} (h : x ∈ l) (ha : accE l = entsM L) : x.e ∈ entsM L := by rw [← ha]; exact List.mem_map.2 ⟨x, h, rfl⟩
theorem StM.vers (h : StM w r b a n c l) (ha : accE l = entsM L) (hg : GoodL L) {x : EP} (hx : x ∈ l) : IsVers w x.a x.n x.c x.e.ch := by
  obtain ⟨h1, h2⟩ := ents_mem (acc_mem hx ha)
  have hc := chain_good hg x.e.key
  have hm := hg.many x.e.key
  rw [← h2] at hc hm
  have hl := (h.each x hx).len
  exact versC_vers (h.each x hx).row hl (by omega) (fun v hv => (hc v hv).2) (fun v hv => by have := (hc v hv).1; omega)
theorem StM.eps (h : StM w r b a n c l) (ha : accE l = entsM L) (hg : GoodL L) : EPs w (.slice a n c) l := fun x hx => by
  obtain ⟨h1, h2⟩ := ents_mem (acc_mem hx ha)
  refine ⟨by have := keys_good hg _ h1; omega, h.vers ha hg hx, fun p hp => ⟨((h.each x hx).far p hp).1, ((h.each x hx).row.lt p.block (by rw [hp]; rfl)).2⟩⟩
theorem StM.ents (h : StM w r b a n c l) (ha : accE l = entsM L) (hg : GoodL L) : IsEnts w a n c (entsM L) := by
  rw [← ha]
  exact entC_ents h.row h.len h.big (h.eps ha hg)
theorem StM.cell (h : StM w r b a n c l) : w.cell? ⟨b, 0, none⟩ = some (.slice a n c) := by rw [cell_of_row _ _ _ _ _ _ h.box]; rfl
theorem StM.frozen (h : StM w r b a n c l) (j : Nat) : w.frozen? ⟨b, j, none⟩ = false := frozen_of_row _ _ _ _ _ h.box
theorem acc_len (ha : accE l = entsM L) : (entsM L).length = l.length := by rw [← ha]; unfold accE; rw [List.length_map]
theorem acc_get (ha : accE l = entsM L) {i : Nat} (hi : i < l.length) : (entsM L).getD i en0 = (l[i]).e := by
  rw [← ha]
  unfold accE
  rw [List.getD, List.getElem?_map, List.getElem?_eq_getElem hi]
  rfl
/-- Where an entry lies. -/
theorem StM.at_ (h : StM w r b a n c l) {i : Nat} (hi : i < l.length) : ∃ g, a = some ⟨g, 0, none⟩ ∧ g < w.heap.size ∧ w.cell? ⟨g, i * 2, none⟩ = some (.string (l[i]).e.key) ∧ w.cell? ⟨g, i * 2 + 1, none⟩ = some (.slice (l[i]).a (l[i]).n (l[i]).c) ∧ (∀ j, w.frozen? ⟨g, j, none⟩ = false) := by
  have hn := h.len
  obtain ⟨g, cap, e, hg, hgl⟩ := own_slice h.row (by omega)
  injection e with e1 e2 e3
  subst e1 e3
  obtain ⟨h0, h1⟩ := entC_at l i _ (List.getElem?_eq_getElem hi)
  refine ⟨g, rfl, hgl, by rw [h.row.cellAt (i * 2) (by omega)]; exact h0, by rw [h.row.cellAt (i * 2 + 1) (by omega)]; exact h1, fun j => ?_⟩
  rcases h.row.2 with ⟨h', _⟩ | ⟨g', cap', cur, h', _, hg', _⟩
  · cases h'
  · cases h'
    exact frozen_of_row _ _ _ _ _ hg'
end
theorem StAt.lt {w : World} {r : Addr} {L : List Im} {O : Nat → Prop} (h : StAt w r L O) : ∀ k, O k → k < w.heap.size := by
  obtain ⟨b, a, n, c, l, h1, _, _, rfl⟩ := h
  exact h1.lt
theorem StAt.stay {w w' : World} {r : Addr} {L : List Im} {O : Nat → Prop} (h : StAt w r L O) (hk : ∀ k, O k → w'.heap[k]? = w.heap[k]?) : StAt w' r L O := by
  obtain ⟨b, a, n, c, l, h1, h2, h3, rfl⟩ := h
  exact ⟨b, a, n, c, l, h1.stay hk, h2, h3, rfl⟩
end Go.Proofs.Ythcomfcbdlobpaa

namespace Go.Proofs.Ythcomfcbdlobpaa
open Go.RowKit
set_option linter.unusedVariables false
set_option linter.unnecessarySimpa false
set_option linter.unusedSimpArgs false
set_option maxRecDepth 100000

set_option maxHeartbeats 1000000 in
theorem snew_any (w : World) : Calls Try.prog 8 #[] w fun e w' => ∃ r O, e = .returned (.pointer (some r)) ∧ StAt w' r [] O ∧ Moves (fun _ => False) O w w' := by
  have hb := (Below.refl w.heap.size w).alloc (Nat.le_refl _) (.cells #[.slice none 0 0] 71)
  have hr := heap_alloc_new w (.cells #[.slice none 0 0] 71)
  have HS := Lib.hid (show StM (w.alloc (.cells #[.slice none 0 0] 71)) ⟨w.heap.size, 0, none⟩ w.heap.size none 0 0 [] from
    ⟨rfl, hr, World.ownsRow_nil _ _ _ _, rfl, by omega, fun x hx => (by cases hx), List.Pairwise.nil, by simp [Value.ownBlock]⟩)
  have HB := Lib.hid hb
  clear hb hr
  go_enter Try.func8, Try.ntmps8
  go_wp2_with fail
  go_ret
  refine ⟨_, stO w.heap.size none 0 0 [], rfl, ⟨_, _, _, _, _, HS.out, rfl, good_nil, rfl⟩, ⟨HB.out.os, HB.out.tape, HB.out.output, HB.out.size, fun k hk _ => HB.out.block k hk, ?_⟩⟩
  rintro k (rfl | hk | ⟨x, hx, _⟩)
  · exact .inr (Nat.le_refl _)
  · cases hk
  · cases hx

set_option maxHeartbeats 1000000 in
theorem tooLong_any (key val : ByteArray) (t : Int) (gone : Bool) (w : World) (h1 : key.size ≤ maxLen) (h2 : val.size ≤ maxLen) :
    Calls Try.prog 35 #[.string key, .agg #[.int .u64 t, .bool gone, .string val]] w fun e w' => e = .returned (.bool (decide (100 < key.size) || decide (500 < val.size))) ∧ Below w.heap.size w w' := by
  have HB := Lib.hid ((Below.refl w.heap.size w).alloc (Nat.le_refl _) (.cells #[.int .u64 t, .bool gone, .string val] 42))
  unfold maxLen at h1 h2
  obtain ⟨x, hx⟩ : ∃ x, x = decide (100 < key.size) := ⟨_, rfl⟩
  obtain ⟨y, hy⟩ : ∃ y, y = decide (500 < val.size) := ⟨_, rfl⟩
  have hxz : decide ((100 : Int) < (key.size : Int)) = x := by rw [hx, decide_eq_decide]; omega
  have hyz : decide ((500 : Int) < (val.size : Int)) = y := by rw [hy, decide_eq_decide]; omega
  rw [← hx, ← hy]
  have hx2 := hx.symm
  have hy2 := hy.symm
  clear hx hy
  cases x with
  | true =>
    go_enter Try.func35, Try.ntmps35
    go_wp2_with fail
    go_ret
    exact ⟨rfl, HB.out⟩
  | false =>
    go_enter Try.func35, Try.ntmps35
    go_wp2_with fail
    go_ret
    exact ⟨rfl, HB.out⟩

set_option maxHeartbeats 2000000 in
theorem chainOf_any {w : World} {r : Addr} {b n c : Nat} {a : Option Addr} {l : List EP} {L : List Im} (h : StM w r b a n c l) (ha : accE l = entsM L) (hg : GoodL L) (key : ByteArray) (hk : key.size ≤ maxLen) :
    Calls Try.prog 46 #[.pointer (some r), .string key] w fun e w' => ∃ a' n' c', e = .returned (.slice a' n' c') ∧ IsVers w' a' n' c' (chainOf key L) ∧ Below w.heap.size w w' := by
  have HF := Lib.hid (find_any a n c (entsM L) key w (h.ents ha hg) (by have := h.big; omega) (ents_right hg))
  have hp := h.ptr
  subst hp
  have k0 := h.cell
  have HS := Lib.hid h
  cases hok : fOk (entsM L) key with
  | false =>
    have HC := Lib.hid (find_no hok).2
    rw [hok] at HF
    obtain ⟨i, hi⟩ : ∃ i, i = fAt (entsM L) key := ⟨_, rfl⟩
    rw [← hi] at HF
    clear hi h hok
    go_enter Try.func46, Try.ntmps46
    go_wp2_with (go_at_call 50; (with_reducible refine HF.out.mono ?_); rintro e w1 ⟨rfl, hb1⟩; have HB1 := Lib.hid hb1; clear hb1)
    go_ret
    exact ⟨none, 0, 0, rfl, by rw [HC.out]; exact none_vers _, HB1.out⟩
  | true =>
    obtain ⟨h1, h2⟩ := find_yes hok
    rw [hok] at HF
    obtain ⟨i, hi⟩ : ∃ i, i = fAt (entsM L) key := ⟨_, rfl⟩
    rw [← hi] at HF h1 h2
    rw [acc_len ha] at h1
    rw [acc_get ha h1] at h2
    have hil : i < n := by rw [← h.len]; exact h1
    have hiz : (i : Int) < (n : Int) := by omega
    have HSt := Lib.hid (fun W (hb : Below w.heap.size w W) => And.intro (h.below hb).cell ((h.below hb).at_ h1))
    have HV := Lib.hid (fun W (hb : Below w.heap.size w W) => (h.below hb).vers ha hg (List.getElem_mem h1))
    have HE := Lib.hid (show (l[i]).e.ch = chainOf key L by rw [h2])
    obtain ⟨z, hz⟩ : ∃ z, z = l[i] := ⟨_, rfl⟩
    rw [← hz] at HSt HV HE
    clear hi h hok h2 hz
    go_enter Try.func46, Try.ntmps46
    go_upto_region 2 with (go_at_call 50; (with_reducible refine HF.out.mono ?_); rintro e w1 ⟨rfl, hb1⟩; have HB1 := Lib.hid hb1; clear hb1)
    obtain ⟨d0, g, rfl, hgl, d1, d2, d3⟩ := HSt.out _ HB1.out
    have HVE := Lib.hid (HV.out _ HB1.out)
    clear HSt HV k0 d1 d3
    go_wp2_with fail
    go_ret
    exact ⟨_, _, _, rfl, by rw [← HE.out]; exact HVE.out, HB1.out⟩
theorem chain_right {L : List Im} (hg : GoodL L) (k : ByteArray) : rightB (chainOf k L) = true := by
  unfold rightB
  rw [hg.rise k, Bool.true_and, decide_eq_true_eq]
  exact hg.many k

set_option maxHeartbeats 2000000 in
theorem slast_any {w : World} {r : Addr} {L : List Im} {O : Nat → Prop} (h : StAt w r L O) (key : ByteArray) (hk : key.size ≤ maxLen) :
    Calls Try.prog 25 #[.pointer (some r), .string key] w fun e w' => e = .returned (.int .u64 ((lastOf key L).1 : Int)) ∧ Below w.heap.size w w' := by
  obtain ⟨b, a, n, c, l, h, ha, hg, _⟩ := h
  have HC := Lib.hid (chainOf_any h ha hg key hk)
  have hm := hg.many key
  have hl := Lib.hid (last_end hg key)
  obtain ⟨zs, hzs⟩ : ∃ zs, zs = chainOf key L := ⟨_, rfl⟩
  rw [← hzs] at HC hm hl
  have HVO := Lib.hid (show ∀ (e : Ending) (w' : World), (∃ a' n' c', e = .returned (.slice a' n' c') ∧ IsVers w' a' n' c' zs ∧ Below w.heap.size w w') → ∃ a' c' z, e = .returned (.slice a' zs.length c') ∧ Hid (Below w.heap.size w w') ∧ z = zs.length ∧
      (z = 0 ∨ (0 < z ∧ ∃ g off, a' = some ⟨g, off, none⟩ ∧ w'.cell? ⟨g, off + (z - 1) * 3, none⟩ = some (.int .u64 ((zs.getD (z - 1) vr0).time : Int)))) from fun e w' h => by
    obtain ⟨a', n', c', rfl, hv, hb⟩ := h
    have hn := hv.1.1
    subst hn
    refine ⟨a', c', _, rfl, Lib.hid hb, rfl, ?_⟩
    rcases Nat.eq_zero_or_pos zs.length with h0 | h0
    · exact .inl h0
    · obtain ⟨g, off, e, _, _, _, k0, _, _⟩ := hv.1.2 (zs.length - 1) (by omega)
      exact .inr ⟨h0, g, off, e, k0⟩)
  clear h ha hg hzs
  go_enter Try.func25, Try.ntmps25
  go_upto_region 2 with (go_at_call 46; (with_reducible refine HC.out.mono ?_); intro e w1 h1; obtain ⟨a', c', z, rfl, HB1, hz, hor⟩ := HVO.out e w1 h1; clear h1)
  rcases hor with h0 | ⟨h0, g, off, rfl, k0⟩
  · have hzs : zs = [] := List.eq_nil_of_length_eq_zero (by omega)
    subst hzs
    clear HC HVO hm h0 hz
    go_wp2_with fail
    go_ret
    exact ⟨by rw [hl.out]; rfl, HB1.out⟩
  · have hne : zs ≠ [] := fun e => by rw [e] at hz; simp at hz; omega
    have HT := Lib.hid (endT_last zs 0 hne)
    rw [← hz] at HT hm ⊢
    obtain ⟨T, hT⟩ : ∃ T, T = (zs.getD (z - 1) vr0).time := ⟨_, rfl⟩
    rw [← hT] at HT k0
    have z1 : ((z : Int) == 0) = false := by rw [beq_eq_false_iff_ne]; omega
    have z2 : (z : Int) - 1 = ((z - 1 : Nat) : Int) := by omega
    have z3 : IntKind.i64.wrap ((z : Int) - 1) = ((z - 1 : Nat) : Int) := by rw [z2]; exact IntWalk.i64_in _ (by omega)
    have z4 : ((z - 1 : Nat) : Int) < (z : Int) := by omega
    have z5 : z - 1 < z := by omega
    have z6 : (0 : Int) ≤ ((z - 1 : Nat) : Int) := by omega
    obtain ⟨u, hu⟩ : ∃ u, u = z - 1 := ⟨_, rfl⟩
    rw [← hu] at z2 z3 z4 z5 z6 k0
    clear HC HVO hm h0 hz hne hT hu z2
    go_wp2_with fail
    go_ret
    exact ⟨by rw [hl.out, HT.out]; rfl, HB1.out⟩

set_option maxHeartbeats 2000000 in
theorem sroom_any {w : World} {r : Addr} {L : List Im} {O : Nat → Prop} (h : StAt w r L O) (key : ByteArray) (hk : key.size ≤ maxLen) :
    Calls Try.prog 27 #[.pointer (some r), .string key] w fun e w' => e = .returned (.bool (decide ((lastOf key L).2 < 200))) ∧ Below w.heap.size w w' := by
  obtain ⟨b, a, n, c, l, h, ha, hg, _⟩ := h
  have HC := Lib.hid (chainOf_any h ha hg key hk)
  have hm := hg.many key
  have hl := Lib.hid (lastOf_chain key L).1
  obtain ⟨zs, hzs⟩ : ∃ zs, zs = chainOf key L := ⟨_, rfl⟩
  rw [← hzs] at HC hm hl
  have HVO := Lib.hid (show ∀ (e : Ending) (w' : World), (∃ a' n' c', e = .returned (.slice a' n' c') ∧ IsVers w' a' n' c' zs ∧ Below w.heap.size w w') → ∃ a' c' z, e = .returned (.slice a' z c') ∧ Hid (Below w.heap.size w w') ∧ z = zs.length from fun e w' h => by
    obtain ⟨a', n', c', rfl, hv, hb⟩ := h
    exact ⟨a', c', n', rfl, Lib.hid hb, hv.1.1.symm⟩)
  clear h ha hg hzs
  go_enter Try.func27, Try.ntmps27
  go_wp2_with (go_at_call 46; (with_reducible refine HC.out.mono ?_); intro e w1 h1; obtain ⟨a', c', z, rfl, HB1, hz⟩ := HVO.out e w1 h1; clear h1)
  go_ret
  have hzd : decide ((z : Int) < 200) = decide (z < 200) := by rw [decide_eq_decide]; omega
  exact ⟨by rw [hl.out, ← hz, ← hzd]; rfl, HB1.out⟩

theorem below_setRow {B P : Nat} {w w' : World} {cs : Array Value} (h : Below B w w') (hP : B ≤ P) : Below B w (w'.setRow P cs) :=
  ⟨h.os, h.tape, h.output, by simpa using h.size, fun k hk => (setRow_other w' P k cs (by omega)).trans (h.block k hk)⟩
theorem sat_ret {w : World} {g : Nat} {cs : Array Value} {tmps : Array Value} {ok : Bool} (h : w.heap[g]? = some (.cells cs 42 (0, 0))) (hcs : (Try.prog.info? 42).map (·.size) = some cs.size)
    (hp : tmps.getD 6 undef = .pointer (some ⟨g, 0, none⟩)) (hv : tmps.getD 7 undef = .bool ok) : (results Try.f23 tmps).run Try.prog w = .ok (.tuple #[.agg cs, .bool ok]) w :=
  results_row_tmpM rfl tmps w g 42 cs (0, 0) _ _ hp h Try.underlying42 rfl hcs hv

set_option maxHeartbeats 2000000 in
theorem sat_any {w : World} {r : Addr} {L : List Im} {O : Nat → Prop} (h : StAt w r L O) (key : ByteArray) (t : Nat) (hk : key.size ≤ maxLen) (ht : t < 18446744073709551616) :
    Calls Try.prog 23 #[.pointer (some r), .string key, .int .u64 (t : Int)] w fun e w' => e = .returned (.tuple #[.agg (bestOf key t L).1.cells, .bool (bestOf key t L).2]) ∧ Below w.heap.size w w' := by
  obtain ⟨b, a, n, c, l, h, ha, hg, _⟩ := h
  have hb0 := (Below.refl w.heap.size w).alloc (Nat.le_refl _) (.cells #[.int .u64 0, .bool false, .string ⟨#[]⟩] 42)
  have hr0 := heap_alloc_new w (.cells #[.int .u64 0, .bool false, .string ⟨#[]⟩] 42)
  obtain ⟨w1, hw1⟩ : ∃ w1, w1 = w.alloc (.cells #[.int .u64 0, .bool false, .string ⟨#[]⟩] 42) := ⟨_, rfl⟩
  rw [← hw1] at hb0 hr0
  have HC := Lib.hid (chainOf_any (h.below hb0) ha hg key hk)
  have hr := chain_right hg key
  have hv := fun v hv => (chain_good hg key v hv).1
  have hbest := best_at hg key t
  obtain ⟨zs, hzs⟩ : ∃ zs, zs = chainOf key L := ⟨_, rfl⟩
  rw [← hzs] at HC hr hv hbest
  have HA := Lib.hid (fun a' n' c' W (hz : IsVers W a' n' c' zs) => at_any a' n' c' zs t W hz hr (fun v h2 => by have := hv v h2; omega) ht)
  have hout : atOut (atV zs t) = .tuple #[.agg (bestOf key t L).1.cells, .bool (bestOf key t L).2] := by
    rw [hbest]
    cases atV zs t <;> rfl
  rw [hout] at HA
  obtain ⟨⟨⟨vt, vg, vv⟩, ok⟩, hV⟩ : ∃ V, V = bestOf key t L := ⟨_, rfl⟩
  rw [← hV] at HA ⊢
  unfold Vr.cells at HA ⊢
  have HB0 := Lib.hid hb0
  have hg1 : w.heap.size < w1.heap.size := by rw [hw1]; simp
  obtain ⟨P, hP⟩ : ∃ P, P = w.heap.size := ⟨_, rfl⟩
  rw [← hP] at hr0 hg1
  have HR0 := Lib.hid (fun W (hb : Below w1.heap.size w1 W) => (hb.block P hg1).trans hr0)
  have HPw := Lib.hid (Nat.le_of_eq hP.symm)
  clear h ha hg hr hv hbest hout hV hzs hb0 hr0 hg1
  go_enter Try.func23, Try.ntmps23
  go_upto_region 1 with fail
  rw [← hw1, ← hP]
  clear hw1 hP
  go_wp2_with (first
    | (go_at_call 46; (with_reducible refine HC.out.mono ?_); rintro e w2 ⟨a', n', c', rfl, hv2, hb2⟩; have HV2 := Lib.hid hv2; have HB2 := Lib.hid hb2; clear hv2 hb2)
    | (go_at_call 45; (with_reducible refine (HA.out _ _ _ _ HV2.out).mono ?_); rintro e w3 ⟨rfl, hb3⟩; have HB3 := Lib.hid (HB2.out.trans (hb3.mono HB2.out.size)); have RR := Lib.hid (HR0.out _ HB3.out); clear hb3)
    | (refine wpList_store_row rfl 42 _ _ rfl P #[.int .u64 (vt : Int), .bool vg, .string vv] rfl rfl 42 #[.int .u64 0, .bool false, .string ⟨#[]⟩] RR.out verSizeM rfl (by simp [Value.oneCell']) ?_))
  refine bodyPost_ret (sat_ret (setRow_heap _ _ _ _ _ _ RR.out) verSizeM rfl rfl) rfl ⟨rfl, ?_⟩
  exact below_setRow (HB0.out.trans (HB3.out.mono HB0.out.size)) HPw.out
end Go.Proofs.Ythcomfcbdlobpaa
