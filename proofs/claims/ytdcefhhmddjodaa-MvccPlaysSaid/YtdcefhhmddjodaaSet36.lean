/-
  Joined: BlkProgram, MvcPLoad, MvcProgram.
-/
import Derived.Test.YtdcefhhmddjodaaSet35
import Derived.Test.YtdcefhhmddjodaaSet19
import Derived.Test.YtdcefhhmddjodaaSet30
import Derived.Test.YtdcefhhmddjodaaSet32
import Derived.BigQuiet
import Derived.Test.YtdcefhhmddjodaaSet34
import Derived.Test.YtdcefhhmddjodaaSet26
namespace Go.Proofs.Ytdcefhhmddjodaa
open Go.RowKit
set_option linter.unusedVariables false
set_option linter.unnecessarySimpa false
set_option linter.unusedSimpArgs false
set_option maxRecDepth 100000

/-- The pieces of a block's bytes. -/
theorem blk_head (p : ByteArray) (s : List UInt8) : (⟨(p.data.toList ++ s).toArray⟩ : ByteArray).extract 0 p.size = p := c_ba_ext (by rw [ext_list, List.drop_zero, Nat.sub_zero]; show (p.data.toList ++ s).take p.size = _; rw [← c_size, List.take_left])
theorem blk_tail (p : ByteArray) (s : List UInt8) : (⟨(p.data.toList ++ s).toArray⟩ : ByteArray).extract p.size (⟨(p.data.toList ++ s).toArray⟩ : ByteArray).size = ⟨s.toArray⟩ := c_ba_ext (by
  rw [ext_list]
  show ((p.data.toList ++ s).drop p.size).take _ = s
  rw [← c_size p, List.drop_left, List.take_of_length_le]
  rw [← c_size, List.length_append, c_size]
  show s.length ≤ p.data.toList.length + s.length - p.size
  rw [c_size]; omega)

set_option maxHeartbeats 4000000 in
theorem bdecode_short (b : ByteArray) (w : World) (hb : b.size < 4) :
    Calls Try.prog 24 #[.agg tab, .string b] w fun e w' => e = .returned (.tuple #[.slice none 0 0, .int .i64 2]) ∧ Below w.heap.size w w' := by
  have hb0 := (Below.refl w.heap.size w).alloc (Nat.le_refl _) (.cells tab 55)
  obtain ⟨w1, hw1⟩ : ∃ w1, w1 = w.alloc (.cells tab 55) := ⟨_, rfl⟩
  rw [← hw1] at hb0
  have HB0 := Lib.hid hb0
  have z1 : (b.size : Int) - 4 < 0 := by omega
  have z2 : decide ((b.size : Int) - 4 < 0) = true := by simpa using z1
  have z3 : IntKind.i64.wrap ((b.size : Int) - 4) = (b.size : Int) - 4 := IntWalk.i64_in _ (by omega)
  clear hb0 hb
  go_enter Try.func24, Try.ntmps24
  go_upto_region 1 with fail
  rw [← hw1]
  clear hw1
  go_upto_region 2 with fail
  refine region_likes (by kernel_rfl) (by kernel_rfl) ?_
  repeat (go_big_quiet_step (fail))
  refine wpQuiet_nil ?_
  intro x
  have hbx := Lib.hid (HB0.out.trans (x.below.mono HB0.out.size))
  go_wp2_with fail
  go_ret2
  exact ⟨rfl, hbx.out⟩

set_option maxHeartbeats 4000000 in
theorem bdecode_sum (p : ByteArray) (s : List UInt8) (w : World) (hp : p.size ≤ 90000) (hs : s.length = 4) (hne : s ≠ sumS p) :
    Calls Try.prog 24 #[.agg tab, .string ⟨(p.data.toList ++ s).toArray⟩] w fun e w' => e = .returned (.tuple #[.slice none 0 0, .int .i64 2]) ∧ Below w.heap.size w w' := by
  have hb0 := (Below.refl w.heap.size w).alloc (Nat.le_refl _) (.cells tab 55)
  have hr0 := heap_alloc_new w (.cells tab 55)
  obtain ⟨w1, hw1⟩ : ∃ w1, w1 = w.alloc (.cells tab 55) := ⟨_, rfl⟩
  rw [← hw1] at hb0 hr0
  have HB0 := Lib.hid hb0
  have HR0 := Lib.hid hr0
  have his := Lib.hid tableSize
  have k1 := blk_head p s
  have k2 := blk_tail p s
  have hB : (⟨(p.data.toList ++ s).toArray⟩ : ByteArray).size = p.size + 4 := by rw [arr_size, List.length_append, c_size, hs]
  obtain ⟨B, hBB⟩ : ∃ B : ByteArray, B = ⟨(p.data.toList ++ s).toArray⟩ := ⟨_, rfl⟩
  obtain ⟨S, hS⟩ : ∃ S : ByteArray, S = ⟨s.toArray⟩ := ⟨_, rfl⟩
  obtain ⟨Q, hQ⟩ : ∃ Q : ByteArray, Q = ⟨(sumS p).toArray⟩ := ⟨_, rfl⟩
  have HSm := Lib.hid (fun W => sumOf_any p (by omega) W)
  rw [← hBB] at k1 k2 hB ⊢
  rw [← hS] at k2
  rw [← hQ] at HSm
  have t1 : (S.toList == Q.toList) = false := by rw [Lib.toList_data, Lib.toList_data, hS, hQ, beq_eq_false_iff_ne]; exact hne
  have t2 : (S.toList != Q.toList) = true := by unfold bne; rw [t1]; rfl
  have z0 : (B.size : Int) - 4 = (p.size : Int) := by omega
  have z1 : ¬ (p.size : Int) < 0 := by omega
  have z2 : decide ((p.size : Int) < 0) = false := by simpa using z1
  have z4 : (0 : Int) ≤ (p.size : Int) := by omega
  have z5 : (p.size : Int) ≤ (B.size : Int) := by omega
  have z6 : p.size ≤ B.size := by omega
  clear hb0 hr0 hBB hS hQ hne hs hB
  go_enter Try.func24, Try.ntmps24
  go_upto_region 1 with fail
  rw [← hw1]
  clear hw1
  go_upto_region 2 with fail
  refine region_likes (by kernel_rfl) (by kernel_rfl) ?_
  repeat (first
    | (go_big_quiet_want; refine quiet_row 55 _ rfl w.heap.size rfl 55 tab (0, 0) _ (likes_row HR0.out) Try.underlying55 rfl his.out ?_; go_simp; go_big_quiet_on)
    | (go_big_quiet_step ((go_at_call 38; with_reducible exact calls_likes (Like.size _) (HSm.out _)))))
  refine wpQuiet_nil ?_
  intro x
  have hbx := Lib.hid (HB0.out.trans (x.below.mono HB0.out.size))
  go_wp2_with fail
  go_ret2
  exact ⟨rfl, hbx.out⟩

/-- What Decode tells of an inside. -/
def InsTold (F : InsO) (B : Nat) (e : Ending) (w' : World) : Prop := match F with
  | .form => e = .returned (.tuple #[.slice none 0 0, .int .i64 2])
  | .long => e = .returned (.tuple #[.slice none 0 0, .int .i64 3])
  | .all es => ∃ a c, e = .returned (.tuple #[.slice a es.length c, .int .i64 0]) ∧ IsEnts w' a es.length c es ∧ EntOwn w' B a es.length c es
theorem ins_form2 {g : Nat} {F : InsO} {w w' : World} {e : Ending} (h : InsEnd g F w e w') : ∃ (a : Option Addr) (n c : Nat) (k : Int), e = .returned (.tuple #[.slice a n c, .int .i64 k]) ∧ InsTold F w.heap.size (.returned (.tuple #[.slice a n c, .int .i64 k])) w' ∧ w.grownBy w' (some g) := by
  obtain ⟨hg, h⟩ := h
  cases F with
  | form => cases h; exact ⟨_, _, _, _, rfl, rfl, hg⟩
  | long => cases h; exact ⟨_, _, _, _, rfl, rfl, hg⟩
  | all es =>
    obtain ⟨a, c, rfl, hi, ho⟩ := h
    exact ⟨_, _, _, _, rfl, ⟨a, c, rfl, hi, ho⟩, hg⟩
theorem told_lower {F : InsO} {B m : Nat} {e : Ending} {w' : World} (h : InsTold F B e w') (hm : m ≤ B) : InsTold F m e w' := by
  cases F with
  | form => exact h
  | long => exact h
  | all es =>
    obtain ⟨a, c, he, hi, l, h1, h2, h3, h4, h5⟩ := h
    exact ⟨a, c, he, hi, l, h1, h2, own_lower h3 hm, h4, eown_lower h5 hm⟩

set_option maxHeartbeats 4000000 in
theorem bdecode_ok (p : ByteArray) (l : List UInt8) (w : World) (hp : p.size ≤ 90000) (hu : unp p.data.toList = (l, 0)) :
    Calls Try.prog 24 #[.agg tab, .string (blkS p)] w fun e w' => InsTold (insD l) w.heap.size e w' ∧ Below w.heap.size w w' := by
  have hl := unp_size hu
  have hb0 := (Below.refl w.heap.size w).alloc (Nat.le_refl _) (.cells tab 55)
  have hr0 := heap_alloc_new w (.cells tab 55)
  obtain ⟨w1, hw1⟩ : ∃ w1, w1 = w.alloc (.cells tab 55) := ⟨_, rfl⟩
  rw [← hw1] at hb0 hr0
  have HB0 := Lib.hid hb0
  have HR0 := Lib.hid hr0
  have his := Lib.hid tableSize
  have hs : (sumS p).length = 4 := by unfold sumS fx; exact cellsF_length _ _
  have k1 := blk_head p (sumS p)
  have k2 := blk_tail p (sumS p)
  have hB : (⟨(p.data.toList ++ sumS p).toArray⟩ : ByteArray).size = p.size + 4 := by rw [arr_size, List.length_append, c_size, hs]
  unfold blkS
  obtain ⟨B, hBB⟩ : ∃ B : ByteArray, B = ⟨(p.data.toList ++ sumS p).toArray⟩ := ⟨_, rfl⟩
  obtain ⟨Q, hQ⟩ : ∃ Q : ByteArray, Q = ⟨(sumS p).toArray⟩ := ⟨_, rfl⟩
  have HSm := Lib.hid (fun W => sumOf_any p (by omega) W)
  rw [← hBB] at k1 k2 hB ⊢
  rw [← hQ] at HSm k2
  have HU := Lib.hid (show ∀ W, Calls Try.prog 39 #[.string p] W fun e w' => e = .returned (.tuple #[.string ⟨l.toArray⟩, .int .i64 0]) ∧ Below W.heap.size W w' from fun W => by
    have := unpackOK p W (by omega)
    rw [hu] at this
    exact this)
  have HN := Lib.hid (fun W => new_any ⟨l.toArray⟩ W)
  have HT := Lib.hid (fun g W (hc : CurAt W g ⟨l.toArray⟩ false) => takeEntries_any g l W hl hc)
  obtain ⟨F, hF⟩ : ∃ F, F = insD l := ⟨_, rfl⟩
  obtain ⟨I, hI⟩ : ∃ I : ByteArray, I = ⟨l.toArray⟩ := ⟨_, rfl⟩
  rw [← hF] at HT ⊢
  rw [← hI] at HU HN HT
  have t1 : (Q.toList == Q.toList) = true := by simp
  have t2 : (Q.toList != Q.toList) = false := by simp
  have z0 : (B.size : Int) - 4 = (p.size : Int) := by omega
  have z1 : ¬ (p.size : Int) < 0 := by omega
  have z2 : decide ((p.size : Int) < 0) = false := by simpa using z1
  have z4 : (0 : Int) ≤ (p.size : Int) := by omega
  have z5 : (p.size : Int) ≤ (B.size : Int) := by omega
  have z6 : p.size ≤ B.size := by omega
  clear hb0 hr0 hBB hQ hs hF hI hu hl hB
  go_enter Try.func24, Try.ntmps24
  go_upto_region 1 with fail
  rw [← hw1]
  clear hw1
  go_upto_region 2 with fail
  refine region_likes (by kernel_rfl) (by kernel_rfl) ?_
  repeat (first
    | (go_big_quiet_want; refine quiet_row 55 _ rfl w.heap.size rfl 55 tab (0, 0) _ (likes_row HR0.out) Try.underlying55 rfl his.out ?_; go_simp; go_big_quiet_on)
    | (go_big_quiet_step ((go_at_call 38; with_reducible exact calls_likes (Like.size _) (HSm.out _)))))
  refine wpQuiet_nil ?_
  intro x
  have hbx := Lib.hid (HB0.out.trans (x.below.mono HB0.out.size))
  go_wp2_with (first
    | (go_at_call 39; (with_reducible refine (HU.out _).mono ?_); rintro e w2 ⟨rfl, hb2⟩; have HB2 := Lib.hid (hbx.out.trans (hb2.mono hbx.out.size)); clear hb2)
    | (go_at_call 41; (with_reducible refine (HN.out _).mono ?_); rintro e w3 ⟨rfl, hc3, hb3⟩; have HC3 := Lib.hid hc3; have HB3 := Lib.hid hb3; clear hc3 hb3)
    | (go_at_call 40; (with_reducible refine (HT.out _ _ HC3.out).mono ?_); intro e w4 h4; obtain ⟨a, n, c, k, rfl, htold, hg4⟩ := ins_form2 h4; have HTo := Lib.hid htold; have HG4 := Lib.hid hg4; clear h4 htold hg4))
  go_ret2
  refine ⟨told_lower HTo.out (Nat.le_trans HB2.out.size HB3.out.size), ?_⟩
  have := below_grown HB3.out HG4.out (Nat.le_refl _)
  exact HB2.out.trans (this.mono HB2.out.size)

theorem blkC : BlkC where
  insNone w := by
    refine (inside_any none 0 0 [] w (none_ents w) (by decide) (fun e he => by cases he)).mono fun e w' h => ?_
    rcases h.1 with h1 | h1
    · rw [insideS_none] at h1; exact ⟨h1.2, h.2⟩
    · exact absurd h1.1 (by decide)
  encYes a len cap es w hz hl hr hs hi := (bencode_yes a len cap es w hz (by omega) hs hr hi).mono fun e w' ⟨h1, h2, h3, h4⟩ => ⟨packF (insideS es), by omega, h2, h1, h4⟩
  encNo a len cap es w hz hl hr hs := bencode_no a len cap es w hz (by omega) hs hr
  decYes p es w hp hu hr ho := by
    refine (bdecode_ok p _ w hp hu).mono fun e w' h => ?_
    rw [insD_ins hr ho (unp_size hu)] at h
    obtain ⟨⟨a, c, h1, h2, _⟩, h3⟩ := h
    exact ⟨a, c, h1, h2, h3⟩
  decNo p l w hp hu hno := by
    refine (bdecode_ok p l w hp hu).mono fun e w' h => ?_
    cases hF : insD l with
    | form => rw [hF] at h; exact ⟨none, 0, 2, .inl rfl, h.1, h.2⟩
    | long => rw [hF] at h; exact ⟨none, 0, 3, .inr rfl, h.1, h.2⟩
    | all es => exact absurd ⟨es, insD_all hF⟩ hno
  decSum p s w hp hs hne := (bdecode_sum p s w hp hs hne).mono fun e w' h => ⟨none, 0, h.1, h.2⟩
  decShort b w hb := (bdecode_short b w hb).mono fun e w' h => ⟨none, 0, h.1, h.2⟩
  find a len cap es key w hz hl hr hs hk := find_any a len cap es key w hz (by omega) hr
end Go.Proofs.Ytdcefhhmddjodaa

namespace Go.Proofs.Ytdcefhhmddjodaa
open Go.RowKit
set_option linter.unusedVariables false
set_option linter.unnecessarySimpa false
set_option linter.unusedSimpArgs false
set_option maxRecDepth 100000

set_option maxHeartbeats 4000000 in
theorem simage_any {w : World} {r : Addr} {L : List Im} {O : Nat → Prop} (h : StAt w r L O) (h1 : rightE (entsM L) = true) (h2 : SmallE (entsM L)) (h3 : (entsM L).length ≤ 1000) (h4 : (insideB (entsM L)).length ≤ 60000) :
    Calls Try.prog 23 #[.pointer (some r), .agg tab] w fun e w' => e = .returned (.tuple #[.string (imgS L), .int .i64 0]) ∧ Below w.heap.size w w' := by
  obtain ⟨b, a, n, c, l, hS, ha, hg, _⟩ := h
  have hb0 := (Below.refl w.heap.size w).alloc (Nat.le_refl _) (.cells tab 55)
  have hr0 := heap_alloc_new w (.cells tab 55)
  obtain ⟨w1, hw1⟩ : ∃ w1, w1 = w.alloc (.cells tab 55) := ⟨_, rfl⟩
  rw [← hw1] at hb0 hr0
  have hp := hS.ptr
  subst hp
  have hS1 := hS.below hb0
  have hnl : n = (entsM L).length := by rw [acc_len ha, hS.len]
  have HC := Lib.hid (show ∀ x : Like w1.heap.size w1, Calls Try.prog 30 #[.agg tab, .slice a n c] x.val fun e w' => e = .returned (.tuple #[.string (imgS L), .int .i64 0]) ∧ Below x.val.heap.size x.val w' from fun x =>
    (bencode_yes a n c (entsM L) x.val ((hS1.below x.below).ents ha hg) (by omega) h2 h1 h4).mono fun e w' ⟨q1, q2, q3, q4⟩ => ⟨q1, q4⟩)
  have k0 : ∀ x : Like w1.heap.size w1, x.val.cell? ⟨b, 0, none⟩ = some (.slice a n c) := fun x => (hS1.below x.below).cell
  have HB0 := Lib.hid hb0
  have HR0 := Lib.hid hr0
  have his := Lib.hid tableSize
  obtain ⟨im, him⟩ : ∃ im, im = imgS L := ⟨_, rfl⟩
  rw [← him] at HC ⊢
  clear hS hS1 ha hg hnl h1 h2 h3 h4 hb0 hr0 him
  go_enter Try.func23, Try.ntmps23
  go_upto_region 1 with fail
  rw [← hw1]
  clear hw1
  refine region_likes (by kernel_rfl) (by kernel_rfl) ?_
  repeat (first
    | (go_big_quiet_want; refine quiet_row 55 _ rfl w.heap.size rfl 55 tab (0, 0) _ (likes_row HR0.out) Try.underlying55 rfl his.out ?_; go_simp; go_big_quiet_on)
    | (go_big_quiet_step ((go_at_call 30; with_reducible exact calls_likes (Like.size _) (HC.out _)))))
  refine wpQuiet_nil ?_
  intro x
  have hbx := Lib.hid (HB0.out.trans (x.below.mono HB0.out.size))
  go_wp2_with fail
  go_ret2
  exact ⟨rfl, hbx.out⟩
theorem entsB_many : ∀ (es : List En) (p : List UInt8), es.length ≤ (entsB p es).length
  | [], _ => Nat.zero_le _
  | e :: es, p => by
    have h1 := entsB_many es e.key.data.toList
    have h2 := ub_pos (pre p e.key.data.toList)
    rw [entsB, List.length_append, List.length_cons]
    unfold entB
    rw [List.length_append, List.length_append]
    omega
theorem insideB_many (es : List En) : es.length ≤ (insideB es).length := by
  have := entsB_many es []
  unfold insideB
  rw [List.length_append]
  omega
def shortE (e : En) : Prop := e.key.size ≤ 100 ∧ ∀ v ∈ e.ch, v.val.size ≤ 500
theorem short_all {es : List En} {n : Nat} (hn : es.length = n) (h : ∀ j, j < n → shortE (es.getD j en0)) : shortKV es := fun e he => by
  obtain ⟨i, hi, rfl⟩ := List.mem_iff_getElem.1 he
  have := h i (by omega)
  rwa [List.getD, List.getElem?_eq_getElem hi] at this
theorem short_not {es : List En} {n j : Nat} (hn : es.length = n) (hj : j < n) (h : ¬ shortE (es.getD j en0)) : ¬ shortKV es := fun hs => h (by
  rw [List.getD, List.getElem?_eq_getElem (by omega)]
  exact hs _ (List.getElem_mem _))
/-- A store of entries that are the call's own. -/
theorem load_store {w W : World} {B n c : Nat} {a : Option Addr} {es : List En} (hw : Below w.heap.size w W) (hB : w.heap.size ≤ B) (ho : EntOwn W B a n c es) (hn : n ≤ 100000) (hr : rightE es = true) (hok : OkE es) (hs : shortKV es) :
    ∃ O, StAt (W.alloc (.cells #[.slice a n c] 78)) ⟨W.heap.size, 0, none⟩ (flatE es) O ∧ Moves (fun _ => False) O w (W.alloc (.cells #[.slice a n c] 78)) := by
  obtain ⟨l, h1, h2, h3, h4, h5⟩ := ho
  have hb : Below W.heap.size W (W.alloc (.cells #[.slice a n c] 78)) := (Below.refl _ _).alloc (Nat.le_refl _) _
  have hww := hw.trans (hb.mono hw.size)
  refine ⟨stO W.heap.size a n c l, ⟨W.heap.size, a, n, c, l, ⟨rfl, heap_alloc_new W _, (own_lower h3 (Nat.zero_le _)).alloc _, h2, hn, fun x hx => ⟨?_, (own_lower (h5.1 x hx) (Nat.zero_le _)).alloc _, fun p hp => ⟨((h4 x hx).2.2 p hp).1, ?_⟩⟩, h5.2, ?_⟩, by rw [ents_all hr]; exact h1, good_flat hr hok hs, rfl⟩, ⟨hww.os, hww.tape, hww.output, hww.size, fun k hk _ => hww.block k hk, ?_⟩⟩
  · exact (h4 x hx).2.1.1.1
  · have := ((h4 x hx).2.2 p hp).2
    omega
  · intro e
    have := (h3.lt _ e).2
    omega
  · rintro k (rfl | hk | ⟨x, hx, p, hp, rfl⟩)
    · exact .inr hw.size
    · exact .inr (Nat.le_trans hB (h3.lt k hk).1)
    · exact .inr (Nat.le_trans hB ((h5.1 x hx).lt p.block (by rw [hp]; rfl)).1)
/-- What Load tells. -/
def LoadTo (w : World) (es : List En) (e : Ending) (w' : World) : Prop := (shortKV es ∧ ∃ r O, e = .returned (.tuple #[.pointer (some r), .int .i64 0]) ∧ StAt w' r (flatE es) O ∧ Moves (fun _ => False) O w w') ∨ (¬ shortKV es ∧ e = .returned (.tuple #[.pointer none, .int .i64 2]) ∧ Below w.heap.size w w')

set_option maxHeartbeats 8000000 in
theorem sload_any (w : World) (p : ByteArray) (es : List En) (hp : p.size ≤ 90000) (hu : unp p.data.toList = (insideB es, 0)) (hr : rightE es = true) (ho : OkE es) :
    Calls Try.prog 25 #[.agg tab, .string (blkS p)] w (LoadTo w es) := by
  have hb0 := (Below.refl w.heap.size w).alloc (Nat.le_refl _) (.cells tab 55)
  have hr0 := heap_alloc_new w (.cells tab 55)
  obtain ⟨w1, hw1⟩ : ∃ w1, w1 = w.alloc (.cells tab 55) := ⟨_, rfl⟩
  rw [← hw1] at hb0 hr0
  have hD := bdecode_ok p _ w1 hp hu
  rw [insD_ins hr ho (unp_size hu)] at hD
  have hn6 : es.length ≤ 60000 := Nat.le_trans (insideB_many es) (unp_size hu)
  obtain ⟨n, hn⟩ : ∃ n, n = es.length := ⟨_, rfl⟩
  have HD := Lib.hid hD
  have HB0 := Lib.hid hb0
  have HR0 := Lib.hid hr0
  have his := Lib.hid tableSize
  have HV := Lib.hid (show ∀ (e : Ending) (w' : World), (InsTold (.all es) w1.heap.size e w' ∧ Below w1.heap.size w1 w') → ∃ a c, e = .returned (.tuple #[.slice a n c, .int .i64 0]) ∧ Hid (IsEnts w' a n c es) ∧ Hid (∀ W, Below w'.heap.size w' W → EntOwn W w1.heap.size a n c es) ∧ Hid (Below w.heap.size w w') from fun e w' ⟨h1, h2⟩ => by
    obtain ⟨a, c, rfl, h3, l, k1, k2, k3, k4, k5⟩ := h1
    rw [hn]
    exact ⟨a, c, rfl, Lib.hid h3, Lib.hid fun W hb => ⟨l, k1, k2, own_belowP k3 hb, eps_below k4 hb, eown_keep k5 fun x hx hh => own_belowP hh hb⟩, Lib.hid (hb0.trans (h2.mono hb0.size))⟩)
  have HST := Lib.hid (fun W a c (hw : Below w.heap.size w W) (ho' : EntOwn W w1.heap.size a n c es) hs => load_store hw hb0.size ho' (by omega) hr ho hs)
  have HPOS := Lib.hid (show ∀ i, i < n → 0 < (es.getD i en0).ch.length from fun i hi => (right_mem hr _ (by rw [List.getD, List.getElem?_eq_getElem (by omega)]; exact List.getElem_mem _)).1)
  have HSA := Lib.hid (fun h => short_all (es := es) (n := n) hn.symm h)
  have HSN := Lib.hid (fun j h1 h2 => short_not (es := es) (n := n) (j := j) hn.symm h1 h2)
  rw [← hn] at hn6
  clear hb0 hr0 hD hp hu hr ho hn
  go_enter Try.func25, Try.ntmps25
  go_upto_region 1 with fail
  rw [← hw1]
  clear hw1
  go_upto_region 4 with (first
    | (refine wpList_load_row rfl 55 _ rfl w.heap.size rfl 55 tab (0, 0) _ HR0.out Try.underlying55 rfl his.out ?_; dsimp only [Act.put])
    | (go_at_call 24; (with_reducible refine HD.out.mono ?_); intro e w2 h2; obtain ⟨a, c, rfl, HE, HOW, HB2⟩ := HV.out e w2 h2; clear h2))
  clear HD HV HR0 his
  go_wp2_with fail
  go_loopg [23] n (fun q s23 wx => ∃ i : Nat, i + q = n ∧ s23 = .int .i64 i ∧ Hid (∀ j, j < i → shortE (es.getD j en0)) ∧ Hid (Below w2.heap.size w2 wx))
  case atStart => exact ⟨0, by omega, rfl, Lib.hid (fun j h => absurd h (by omega)), Lib.hid (Below.refl _ _)⟩
  case round =>
    obtain ⟨i, hiq, rfl, HSH, HB⟩ := hrel
    cases gk with
    | zero =>
      obtain rfl : i = n := by omega
      have hs := HSA.out HSH.out
      have hb := HB2.out.trans (HB.out.mono HB2.out.size)
      obtain ⟨O, k1, k2⟩ := HST.out wr a c hb (HOW.out wr HB.out) hs
      have HEnd := Lib.hid (show LoadTo w es (.returned (.tuple #[.pointer (some ⟨wr.heap.size, 0, none⟩), .int .i64 0])) (wr.alloc (.cells #[.slice a i c] 78)) from .inl ⟨hs, _, O, rfl, k1, k2⟩)
      clear hs hb k1 k2 HST HSA HSN HSH HOW HE
      go_wp2_with fail
      go_ret2
      exact HEnd.out
    | succ q =>
      have hin : i < n := by omega
      have hinz : (i : Int) < (n : Int) := by omega
      obtain ⟨g, off, rfl, hgl, hkm, k0, ca, zn, cc, k1, hv⟩ := (HE.out.below HB.out).1.2 i hin
      have hnl : zn ≤ maxLen := hv.2
      unfold maxLen at hnl
      obtain ⟨z, hz⟩ : ∃ z, z = es.getD i en0 := ⟨_, rfl⟩
      have HZ := Lib.hid hz
      have hpos := HPOS.out i hin
      rw [← hz] at hkm k0 hv hpos
      obtain ⟨K, zs⟩ := z
      simp only at hkm k0 hv hpos
      have hzl : zs.length = zn := hv.1.1
      rw [hzl] at hpos
      have HZL := Lib.hid hzl
      have HNO := Lib.hid (show ¬ shortE ⟨K, zs⟩ → ¬ shortKV es from fun h => HSN.out i hin (by rw [← HZ.out]; exact h))
      have HYES := Lib.hid (show shortE ⟨K, zs⟩ → ∀ j, j < i + 1 → shortE (es.getD j en0) from fun h j hj => by
        by_cases hji : j < i
        · exact HSH.out j hji
        · obtain rfl : j = i := by omega
          rw [← HZ.out]; exact h)
      have hb5 := (Below.refl wr.heap.size wr).alloc (Nat.le_refl _) (.cells #[.string K, .slice ca zn cc] 73)
      have hr5 := heap_alloc_new wr (.cells #[.string K, .slice ca zn cc] 73)
      obtain ⟨E, hEE⟩ : ∃ E, E = wr.heap.size := ⟨_, rfl⟩
      rw [← hEE] at hr5
      obtain ⟨W5, hW5⟩ : ∃ W5, W5 = wr.alloc (.cells #[.string K, .slice ca zn cc] 73) := ⟨_, rfl⟩
      rw [← hW5] at hb5 hr5
      have hEl := (Array.getElem?_eq_some_iff.1 hr5).1
      have HC5 := Lib.hid (fun W (hb : Below W5.heap.size W5 W) => cells2 ((hb.block E hEl).trans hr5))
      have HV5 := Lib.hid (fun W (hb : Below W5.heap.size W5 W) => vers_bel hv (hb5.trans (hb.mono hb5.size)))
      have HB5 := Lib.hid (fun W (hb : Below W5.heap.size W5 W) => HB.out.trans ((hb5.trans (hb.mono hb5.size)).mono HB.out.size))
      have HKM := Lib.hid hkm
      clear hz hv hr5 hb5 hkm HZ HSH HSA HSN HE HPOS hzl
      go_upto_region 7 with fail
      rw [← hW5, ← hEE]
      clear hW5 k0 k1 hEE
      obtain ⟨e0, e1⟩ := HC5.out W5 (Below.refl _ _)
      go_wp2_with fail
      go_loopg [30] zn (fun q2 s30 wx => ∃ k : Nat, k + q2 = zn ∧ s30 = .int .i64 k ∧ Hid (∀ j, j < k → K.size ≤ 100 ∧ (zs.getD j vr0).val.size ≤ 500) ∧ Hid (Below W5.heap.size W5 wx))
      case atStart => exact ⟨0, by omega, rfl, Lib.hid (fun j h => absurd h (by omega)), Lib.hid (Below.refl _ _)⟩
      case round =>
        obtain ⟨k, hkq, rfl, HS2, HIB⟩ := hrel
        cases gk with
        | zero =>
          obtain rfl : k = zn := by omega
          have HSH2 := Lib.hid (HYES.out ⟨(HS2.out 0 hpos).1, fun v hv => by
            obtain ⟨j, hj, rfl⟩ := List.mem_iff_getElem.1 hv
            have := (HS2.out j (by rw [← HZL.out]; exact hj)).2
            rwa [List.getD, List.getElem?_eq_getElem hj] at this⟩)
          have HBN := Lib.hid (HB5.out wr HIB.out)
          clear HS2 HNO HYES HC5 HV5 HB5 HIB e0 e1 hpos
          go_wp2_with fail
          go_roundg q
          case measure => omega
          case rel => exact ⟨i + 1, by omega, by go_num, HSH2, HBN⟩
        | succ q2 =>
          have hkz : k < zn := by omega
          have hkzz : (k : Int) < (zn : Int) := by omega
          obtain ⟨b', off', rfl, hbl, ht64, hvm, d0, d1, d2⟩ := (HV5.out wr HIB.out).1.2 k hkz
          obtain ⟨⟨vt, vg, vv⟩, hvv⟩ : ∃ v, v = zs.getD k vr0 := ⟨_, rfl⟩
          have HVV := Lib.hid hvv
          rw [← hvv] at hvm d0 d1 d2
          simp only at hvm d0 d1 d2
          have HTL := Lib.hid (fun W => tooLong_any K vv (vt : Int) vg W HKM.out hvm)
          have hNo : (decide (100 < K.size) || decide (500 < vv.size)) = true → ¬ shortKV es := fun h => HNO.out fun hs => by
            have h1 := hs.1
            have h2 := hs.2 (zs.getD k vr0) (by rw [List.getD, List.getElem?_eq_getElem (by rw [HZL.out]; exact hkz)]; exact List.getElem_mem _)
            rw [← HVV.out] at h2
            simp only at h1 h2
            simp only [Bool.or_eq_true, decide_eq_true_eq] at h
            omega
          have hYes : (decide (100 < K.size) || decide (500 < vv.size)) = false → ∀ j, j < k + 1 → K.size ≤ 100 ∧ (zs.getD j vr0).val.size ≤ 500 := fun h j hj => by
            simp only [Bool.or_eq_false_iff, decide_eq_false_iff_not] at h
            by_cases hjk : j < k
            · exact HS2.out j hjk
            · obtain rfl : j = k := by omega
              rw [← HVV.out]
              simp only
              omega
          obtain ⟨tl, htl⟩ : ∃ tl, tl = (decide (100 < K.size) || decide (500 < vv.size)) := ⟨_, rfl⟩
          rw [← htl] at hNo hYes HTL
          have HN := Lib.hid hNo
          have HY := Lib.hid hYes
          have hb9 := (Below.refl wr.heap.size wr).alloc (Nat.le_refl _) (.cells #[.int .u64 (vt : Int), .bool vg, .string vv] 35)
          have hr9 := heap_alloc_new wr (.cells #[.int .u64 (vt : Int), .bool vg, .string vv] 35)
          obtain ⟨F, hFF⟩ : ∃ F, F = wr.heap.size := ⟨_, rfl⟩
          rw [← hFF] at hr9
          obtain ⟨W9, hW9⟩ : ∃ W9, W9 = wr.alloc (.cells #[.int .u64 (vt : Int), .bool vg, .string vv] 35) := ⟨_, rfl⟩
          rw [← hW9] at hb9 hr9
          have HB9 := Lib.hid (HIB.out.trans (hb9.mono HIB.out.size))
          have HR9 := Lib.hid hr9
          clear hvv hNo hYes htl hb9 hr9 HS2 HNO HVV e0 e1 hvm ht64
          go_upto_region 10 with fail
          rw [← hW9, ← hFF]
          clear hW9 d0 d1 d2 hFF
          obtain ⟨v0, v1, v2⟩ := cells3 HR9.out
          obtain ⟨e0, e1⟩ := HC5.out W9 HB9.out
          cases tl with
          | true =>
            clear HY
            go_wp2_with (go_at_call 31; (with_reducible refine (HTL.out _).mono ?_); rintro e w8 ⟨rfl, hb8⟩; have HB8 := Lib.hid (HB9.out.trans (hb8.mono HB9.out.size)); clear hb8)
            go_ret2
            exact .inr ⟨HN.out (by trivial), rfl, HB2.out.trans ((HB5.out _ HB8.out).mono HB2.out.size)⟩
          | false =>
            have HY2 := Lib.hid (HY.out rfl)
            clear HY HN
            go_wp2_with (go_at_call 31; (with_reducible refine (HTL.out _).mono ?_); rintro e w8 ⟨rfl, hb8⟩; have HB8 := Lib.hid (HB9.out.trans (hb8.mono HB9.out.size)); clear hb8)
            go_roundg q2
            case measure => omega
            case rel => exact ⟨k + 1, by omega, by go_num, HY2, HB8⟩
end Go.Proofs.Ytdcefhhmddjodaa

namespace Go.Proofs.Ytdcefhhmddjodaa
open Go.RowKit
set_option linter.unusedVariables false
set_option linter.unnecessarySimpa false
set_option linter.unusedSimpArgs false
set_option maxRecDepth 100000

noncomputable def mvc : MvcC where
  At := StAt
  lt h := h.lt
  stay h hk := h.stay hk
  new := snew_any
  install h m h1 h2 h3 h4 := (sinstall_any h m h1 h2 h3 h4).mono fun e w' ⟨O', q1, q2, q3⟩ => ⟨O', q1, q2, q3⟩
  at_ h key t h1 h2 := sat_any h key t h1 h2
  last h key h1 := slast_any h key h1
  room h key h1 := sroom_any h key h1
  scan h lo hi t most h1 h2 h3 h4 := (sscan_any h lo hi t most h1 h2 h3 h4).mono fun e w' ⟨a, n, c, q1, q2, q3, q4⟩ => ⟨a, n, c, q1, q2, q3, fun h0 b off e hO => by
    have := q4 h0 b off e
    have := h.lt b hO
    omega⟩
  keys h h1 := skeys_any h h1
noncomputable def mvcD : MvcD where
  toMvcC := mvc
  image h h1 h2 h3 h4 := simage_any h h1 h2 h3 h4
  load w p es h1 h2 h3 h4 h5 := (sload_any w p es h1 h2 h3 h4).mono fun e w' h => by
    rcases h with ⟨_, r, O, q1, q2, q3⟩ | ⟨q, _⟩
    · exact ⟨r, O, q1, q2, q3⟩
    · exact absurd h5 q
  loadLong w p es h1 h2 h3 h4 h5 := (sload_any w p es h1 h2 h3 h4).mono fun e w' h => by
    rcases h with ⟨q, _⟩ | ⟨_, q1, q2⟩
    · exact absurd q h5
    · exact ⟨q1, q2⟩
end Go.Proofs.Ytdcefhhmddjodaa
