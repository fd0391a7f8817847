/-
  The program's Decode of blocks; the program's blocks do what is asked of them.
-/
import Derived.Test.YtplobffkelmokaaBlkPIns
import Derived.Test.YtplobffkelmokaaBlkPFind
import Derived.Test.YtplobffkelmokaaBlkPEnts
namespace Go.Proofs.Ytplobffkelmokaa
open Go.RowKit
set_option linter.unusedVariables false
set_option linter.unnecessarySimpa false
set_option linter.unusedSimpArgs false
set_option maxRecDepth 100000

/-- The pieces of a block's bytes. -/
theorem blk_head (p : ByteArray) (s : List UInt8) : (⟨(p.data.toList ++ s).toArray⟩ : ByteArray).extract 0 p.size = p := c_ba_ext (by rw [ext_list, List.drop_zero, Nat.sub_zero]; show (p.data.toList ++ s).take p.size = _; rw [← c_size, List.take_left])
theorem blk_tail (p : ByteArray) (s : List UInt8) : (⟨(p.data.toList ++ s).toArray⟩ : ByteArray).extract p.size (⟨(p.data.toList ++ s).toArray⟩ : ByteArray).size = ⟨s.toArray⟩ := c_ba_ext (by
  rw [ext_list]
  show ((p.data.toList ++ s).drop p.size).take _ = s
  rw [← c_size p, List.drop_left, List.take_of_length_le]
  rw [← c_size, List.length_append, c_size]
  show s.length ≤ p.data.toList.length + s.length - p.size
  rw [c_size]; omega)

set_option maxHeartbeats 4000000 in
theorem bdecode_short (b : ByteArray) (w : World) (hb : b.size < 4) :
    Calls Try.prog 13 #[.agg tab, .string b] w fun e w' => e = .returned (.tuple #[.slice none 0 0, .int .i64 2]) ∧ Below w.heap.size w w' := by
  have hb0 := (Below.refl w.heap.size w).alloc (Nat.le_refl _) (.cells tab 27)
  obtain ⟨w1, hw1⟩ : ∃ w1, w1 = w.alloc (.cells tab 27) := ⟨_, rfl⟩
  rw [← hw1] at hb0
  have HB0 := Lib.hid hb0
  have z1 : (b.size : Int) - 4 < 0 := by omega
  have z2 : decide ((b.size : Int) - 4 < 0) = true := by simpa using z1
  have z3 : IntKind.i64.wrap ((b.size : Int) - 4) = (b.size : Int) - 4 := IntWalk.i64_in _ (by omega)
  clear hb0 hb
  go_enter Try.func13, Try.ntmps13
  go_upto_region 1 with fail
  rw [← hw1]
  clear hw1
  go_upto_region 2 with fail
  refine region_likes (by kernel_rfl) (by kernel_rfl) ?_
  repeat (go_big_quiet_step (fail))
  refine wpQuiet_nil ?_
  intro x
  have hbx := Lib.hid (HB0.out.trans (x.below.mono HB0.out.size))
  go_wp2_with fail
  go_ret2
  exact ⟨rfl, hbx.out⟩

set_option maxHeartbeats 4000000 in
theorem bdecode_sum (p : ByteArray) (s : List UInt8) (w : World) (hp : p.size ≤ 90000) (hs : s.length = 4) (hne : s ≠ sumS p) :
    Calls Try.prog 13 #[.agg tab, .string ⟨(p.data.toList ++ s).toArray⟩] w fun e w' => e = .returned (.tuple #[.slice none 0 0, .int .i64 2]) ∧ Below w.heap.size w w' := by
  have hb0 := (Below.refl w.heap.size w).alloc (Nat.le_refl _) (.cells tab 27)
  have hr0 := heap_alloc_new w (.cells tab 27)
  obtain ⟨w1, hw1⟩ : ∃ w1, w1 = w.alloc (.cells tab 27) := ⟨_, rfl⟩
  rw [← hw1] at hb0 hr0
  have HB0 := Lib.hid hb0
  have HR0 := Lib.hid hr0
  have his := Lib.hid tableSize
  have k1 := blk_head p s
  have k2 := blk_tail p s
  have hB : (⟨(p.data.toList ++ s).toArray⟩ : ByteArray).size = p.size + 4 := by rw [arr_size, List.length_append, c_size, hs]
  obtain ⟨B, hBB⟩ : ∃ B : ByteArray, B = ⟨(p.data.toList ++ s).toArray⟩ := ⟨_, rfl⟩
  obtain ⟨S, hS⟩ : ∃ S : ByteArray, S = ⟨s.toArray⟩ := ⟨_, rfl⟩
  obtain ⟨Q, hQ⟩ : ∃ Q : ByteArray, Q = ⟨(sumS p).toArray⟩ := ⟨_, rfl⟩
  have HSm := Lib.hid (fun W => sumOf_any p (by omega) W)
  rw [← hBB] at k1 k2 hB ⊢
  rw [← hS] at k2
  rw [← hQ] at HSm
  have t1 : (S.toList == Q.toList) = false := by rw [Lib.toList_data, Lib.toList_data, hS, hQ, beq_eq_false_iff_ne]; exact hne
  have t2 : (S.toList != Q.toList) = true := by unfold bne; rw [t1]; rfl
  have z0 : (B.size : Int) - 4 = (p.size : Int) := by omega
  have z1 : ¬ (p.size : Int) < 0 := by omega
  have z2 : decide ((p.size : Int) < 0) = false := by simpa using z1
  have z4 : (0 : Int) ≤ (p.size : Int) := by omega
  have z5 : (p.size : Int) ≤ (B.size : Int) := by omega
  have z6 : p.size ≤ B.size := by omega
  clear hb0 hr0 hBB hS hQ hne hs hB
  go_enter Try.func13, Try.ntmps13
  go_upto_region 1 with fail
  rw [← hw1]
  clear hw1
  go_upto_region 2 with fail
  refine region_likes (by kernel_rfl) (by kernel_rfl) ?_
  repeat (first
    | (go_big_quiet_want; refine quiet_row 27 _ rfl w.heap.size rfl 27 tab (0, 0) _ (likes_row HR0.out) Try.underlying27 rfl his.out ?_; go_simp; go_big_quiet_on)
    | (go_big_quiet_step ((go_at_call 27; with_reducible exact calls_likes (Like.size _) (HSm.out _)))))
  refine wpQuiet_nil ?_
  intro x
  have hbx := Lib.hid (HB0.out.trans (x.below.mono HB0.out.size))
  go_wp2_with fail
  go_ret2
  exact ⟨rfl, hbx.out⟩

/-- What Decode tells of an inside. -/
def InsTold (F : InsO) (e : Ending) (w' : World) : Prop := match F with
  | .form => e = .returned (.tuple #[.slice none 0 0, .int .i64 2])
  | .long => e = .returned (.tuple #[.slice none 0 0, .int .i64 3])
  | .all es => ∃ a c, e = .returned (.tuple #[.slice a es.length c, .int .i64 0]) ∧ IsEnts w' a es.length c es
theorem ins_form2 {g : Nat} {F : InsO} {w w' : World} {e : Ending} (h : InsEnd g F w e w') : ∃ (a : Option Addr) (n c : Nat) (k : Int), e = .returned (.tuple #[.slice a n c, .int .i64 k]) ∧ InsTold F (.returned (.tuple #[.slice a n c, .int .i64 k])) w' ∧ w.grownBy w' (some g) := by
  obtain ⟨hg, h⟩ := h
  cases F with
  | form => cases h; exact ⟨_, _, _, _, rfl, rfl, hg⟩
  | long => cases h; exact ⟨_, _, _, _, rfl, rfl, hg⟩
  | all es =>
    obtain ⟨a, c, rfl, hi⟩ := h
    exact ⟨_, _, _, _, rfl, ⟨a, c, rfl, hi⟩, hg⟩

set_option maxHeartbeats 4000000 in
theorem bdecode_ok (p : ByteArray) (l : List UInt8) (w : World) (hp : p.size ≤ 90000) (hu : unp p.data.toList = (l, 0)) :
    Calls Try.prog 13 #[.agg tab, .string (blkS p)] w fun e w' => InsTold (insD l) e w' ∧ Below w.heap.size w w' := by
  have hl := unp_size hu
  have hb0 := (Below.refl w.heap.size w).alloc (Nat.le_refl _) (.cells tab 27)
  have hr0 := heap_alloc_new w (.cells tab 27)
  obtain ⟨w1, hw1⟩ : ∃ w1, w1 = w.alloc (.cells tab 27) := ⟨_, rfl⟩
  rw [← hw1] at hb0 hr0
  have HB0 := Lib.hid hb0
  have HR0 := Lib.hid hr0
  have his := Lib.hid tableSize
  have hs : (sumS p).length = 4 := by unfold sumS fx; exact cellsF_length _ _
  have k1 := blk_head p (sumS p)
  have k2 := blk_tail p (sumS p)
  have hB : (⟨(p.data.toList ++ sumS p).toArray⟩ : ByteArray).size = p.size + 4 := by rw [arr_size, List.length_append, c_size, hs]
  unfold blkS
  obtain ⟨B, hBB⟩ : ∃ B : ByteArray, B = ⟨(p.data.toList ++ sumS p).toArray⟩ := ⟨_, rfl⟩
  obtain ⟨Q, hQ⟩ : ∃ Q : ByteArray, Q = ⟨(sumS p).toArray⟩ := ⟨_, rfl⟩
  have HSm := Lib.hid (fun W => sumOf_any p (by omega) W)
  rw [← hBB] at k1 k2 hB ⊢
  rw [← hQ] at HSm k2
  have HU := Lib.hid (show ∀ W, Calls Try.prog 31 #[.string p] W fun e w' => e = .returned (.tuple #[.string ⟨l.toArray⟩, .int .i64 0]) ∧ Below W.heap.size W w' from fun W => by
    have := unpackOK p W (by omega)
    rw [hu] at this
    exact this)
  have HN := Lib.hid (fun W => new_any ⟨l.toArray⟩ W)
  have HT := Lib.hid (fun g W (hc : CurAt W g ⟨l.toArray⟩ false) => takeEntries_any g l W hl hc)
  obtain ⟨F, hF⟩ : ∃ F, F = insD l := ⟨_, rfl⟩
  obtain ⟨I, hI⟩ : ∃ I : ByteArray, I = ⟨l.toArray⟩ := ⟨_, rfl⟩
  rw [← hF] at HT ⊢
  rw [← hI] at HU HN HT
  have t1 : (Q.toList == Q.toList) = true := by simp
  have t2 : (Q.toList != Q.toList) = false := by simp
  have z0 : (B.size : Int) - 4 = (p.size : Int) := by omega
  have z1 : ¬ (p.size : Int) < 0 := by omega
  have z2 : decide ((p.size : Int) < 0) = false := by simpa using z1
  have z4 : (0 : Int) ≤ (p.size : Int) := by omega
  have z5 : (p.size : Int) ≤ (B.size : Int) := by omega
  have z6 : p.size ≤ B.size := by omega
  clear hb0 hr0 hBB hQ hs hF hI hu hl hB
  go_enter Try.func13, Try.ntmps13
  go_upto_region 1 with fail
  rw [← hw1]
  clear hw1
  go_upto_region 2 with fail
  refine region_likes (by kernel_rfl) (by kernel_rfl) ?_
  repeat (first
    | (go_big_quiet_want; refine quiet_row 27 _ rfl w.heap.size rfl 27 tab (0, 0) _ (likes_row HR0.out) Try.underlying27 rfl his.out ?_; go_simp; go_big_quiet_on)
    | (go_big_quiet_step ((go_at_call 27; with_reducible exact calls_likes (Like.size _) (HSm.out _)))))
  refine wpQuiet_nil ?_
  intro x
  have hbx := Lib.hid (HB0.out.trans (x.below.mono HB0.out.size))
  go_wp2_with (first
    | (go_at_call 31; (with_reducible refine (HU.out _).mono ?_); rintro e w2 ⟨rfl, hb2⟩; have HB2 := Lib.hid (hbx.out.trans (hb2.mono hbx.out.size)); clear hb2)
    | (go_at_call 33; (with_reducible refine (HN.out _).mono ?_); rintro e w3 ⟨rfl, hc3, hb3⟩; have HC3 := Lib.hid hc3; have HB3 := Lib.hid hb3; clear hc3 hb3)
    | (go_at_call 32; (with_reducible refine (HT.out _ _ HC3.out).mono ?_); intro e w4 h4; obtain ⟨a, n, c, k, rfl, htold, hg4⟩ := ins_form2 h4; have HTo := Lib.hid htold; have HG4 := Lib.hid hg4; clear h4 htold hg4))
  go_ret2
  refine ⟨HTo.out, ?_⟩
  have := below_grown HB3.out HG4.out (Nat.le_refl _)
  exact HB2.out.trans (this.mono HB2.out.size)

theorem blkC : BlkC where
  insNone w := by
    refine (inside_any none 0 0 [] w (none_ents w) (by decide) (fun e he => by cases he)).mono fun e w' h => ?_
    rcases h.1 with h1 | h1
    · rw [insideS_none] at h1; exact ⟨h1.2, h.2⟩
    · exact absurd h1.1 (by decide)
  insYes a len cap es w hz hl hr hs := by
    refine (inside_any a len cap es w hz (by omega) hs).mono fun e w' h => ?_
    rcases h.1 with h1 | h1
    · exact ⟨h1.2, h.2⟩
    · rw [hr] at h1; cases h1.1
  insNo a len cap es w hz hl hr hs := by
    refine (inside_any a len cap es w hz (by omega) hs).mono fun e w' h => ?_
    rcases h.1 with h1 | h1
    · rw [hr] at h1; cases h1.1
    · exact ⟨h1.2, h.2⟩
  encYes a len cap es w hz hl hr hs hi := (bencode_yes a len cap es w hz (by omega) hs hr hi).mono fun e w' ⟨p, h1, h2, h3, h4⟩ => ⟨p, by omega, h2, h3, h4⟩
  encNo a len cap es w hz hl hr hs := bencode_no a len cap es w hz (by omega) hs hr
  decYes p es w hp hu hr ho := by
    refine (bdecode_ok p _ w hp hu).mono fun e w' h => ?_
    rw [insD_ins hr ho (unp_size hu)] at h
    obtain ⟨⟨a, c, h1, h2⟩, h3⟩ := h
    exact ⟨a, c, h1, h2, h3⟩
  decNo p l w hp hu hno := by
    refine (bdecode_ok p l w hp hu).mono fun e w' h => ?_
    cases hF : insD l with
    | form => rw [hF] at h; exact ⟨none, 0, 2, .inl rfl, h.1, h.2⟩
    | long => rw [hF] at h; exact ⟨none, 0, 3, .inr rfl, h.1, h.2⟩
    | all es => exact absurd ⟨es, insD_all hF⟩ hno
  decSum p s w hp hs hne := (bdecode_sum p s w hp hs hne).mono fun e w' h => ⟨none, 0, h.1, h.2⟩
  decShort b w hb := (bdecode_short b w hb).mono fun e w' h => ⟨none, 0, h.1, h.2⟩
  find a len cap es key w hz hl hr hs hk := find_any a len cap es key w hz (by omega) hr
end Go.Proofs.Ytplobffkelmokaa
