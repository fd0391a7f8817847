/-
  BlockBack from what is asked of the program's blocks.
-/
import Derived.Test.YtplobffkelmokaaSet09
namespace Go.Proofs.Ytplobffkelmokaa
open Go.RowKit
set_option linter.unusedVariables false
set_option linter.unnecessarySimpa false
set_option linter.unusedSimpArgs false
set_option maxRecDepth 100000

theorem ext_ba (l1 l2 : List UInt8) : (⟨(l1 ++ l2).toArray⟩ : ByteArray).extract 0 l1.length = ⟨l1.toArray⟩ ∧ (⟨(l1 ++ l2).toArray⟩ : ByteArray).extract l1.length (l1.length + l2.length) = ⟨l2.toArray⟩ := by
  refine ⟨c_ba_ext ?_, c_ba_ext ?_⟩
  · rw [ext_list]; simp
  · rw [ext_list]; simp
theorem ba_list (p : ByteArray) : (⟨p.data.toList.toArray⟩ : ByteArray) = p := by simp
theorem blkS_parts (p : ByteArray) : (blkS p).size = p.size + 4 ∧ (blkS p).extract 0 p.size = p ∧ (blkS p).extract p.size (p.size + 4) = ⟨(sumS p).toArray⟩ := by
  have h4 : (sumS p).length = 4 := by unfold sumS; rw [fx, cellsF_length]
  have hp := c_size p
  have h := ext_ba p.data.toList (sumS p)
  rw [h4, hp, ba_list] at h
  refine ⟨?_, h.1, h.2⟩
  show (p.data.toList ++ sumS p).toArray.size = _
  rw [List.size_toArray, List.length_append, h4, hp]
theorem tabRow_one : tab.all (·.oneCell') = true := tab_one

set_option maxHeartbeats 2000000 in
theorem back_few (C : BlkC) (a : Option Addr) (len cap : Nat) (es : List En) (w : World) (hz : IsEnts w a len cap es) (h : ¬ FewEnts es 10) :
    Calls Try.prog 3 #[.slice a len cap] w fun e w' => e = .returned (.bool true) ∧ Below w.heap.size w w' := by
  have haw := Lib.hid (bawake_any C)
  have HF := Lib.hid (fun w1 (hb : Below w.heap.size w w1) => bfew_any a len cap 10 es w1 (hz.below hb) (by omega))
  rw [show fewB es 10 = false by rw [← Bool.not_eq_true, fewB_true]; exact h] at HF
  clear h hz
  go_enter Try.func3, Try.ntmps3
  go_upto_region 2 with (first
    | (go_at_call 6; refine (haw.out _).mono ?_; rintro e w1 ⟨rfl, hb1⟩; have HB1 := Lib.hid hb1)
    | (go_at_call 7; refine (HF.out _ HB1.out).mono ?_; rintro e w2 ⟨rfl, rfl⟩))
  go_wp2_with (go_at_call 6; refine (haw.out _).mono ?_; rintro e w3 ⟨rfl, hb3⟩; have HB3 := Lib.hid hb3)
  go_ret
  exact ⟨rfl, HB1.out.trans (HB3.out.mono HB1.out.size)⟩

set_option maxHeartbeats 4000000 in
theorem back_wrong (C : BlkC) (a : Option Addr) (len cap : Nat) (es : List En) (w : World) (hz : IsEnts w a len cap es) (hf : FewEnts es 10) (hr : rightE es = false) :
    Calls Try.prog 3 #[.slice a len cap] w fun e w' => e = .returned (.bool true) ∧ Below w.heap.size w w' := by
  have haw := Lib.hid (bawake_any C)
  have hmk := Lib.hid make_any
  have HF := Lib.hid (fun w1 (hb : Below w.heap.size w w1) => bfew_any a len cap 10 es w1 (hz.below hb) (by omega))
  rw [fewB_true.2 hf] at HF
  have HR := Lib.hid (fun w1 (hb : Below w.heap.size w w1) => bright_any a len cap es w1 (hz.below hb))
  rw [hr] at HR
  have hfo := fewOut hz hf
  have hl10 : len ≤ 10 := by rw [← hz.1.1]; exact hfo.len
  have HI := Lib.hid (fun w1 (hb : Below w.heap.size w w1) => C.insNo a len cap es w1 (hz.below hb) hl10 hr hfo.small)
  have HE := Lib.hid (fun w1 (hb : Below w.heap.size w w1) => C.encNo a len cap es w1 (hz.below hb) (by omega) hr hfo.small)
  clear hf hr hz hfo
  go_enter Try.func3, Try.ntmps3
  go_upto_region 4 with (first
    | (go_at_call 6; refine (haw.out _).mono ?_; rintro e w1 ⟨rfl, hb1⟩; have HB1 := Lib.hid hb1)
    | (go_at_call 7; refine (HF.out _ HB1.out).mono ?_; rintro e w2 ⟨rfl, rfl⟩)
    | (go_at_call 8; refine (hmk.out _).mono ?_; rintro e w3 ⟨rfl, hb3⟩; have HB3 := Lib.hid (HB1.out.trans (hb3.mono HB1.out.size)))
    | (refine wpList_store_row rfl 27 _ _ rfl w3.heap.size tab rfl rfl 27 (Array.replicate 256 (.int .u32 0)) (heap_alloc_last w3 _) tableSize zeroTable_size tab_one ?_; rw [World.setRow_alloc_new]; dsimp only [Act.put]))
  obtain ⟨w4, hw4⟩ : ∃ w4, w4 = w3.alloc (.cells tab 27) := ⟨_, rfl⟩
  obtain ⟨g, hg⟩ : ∃ g, g = w3.heap.size := ⟨_, rfl⟩
  have HB4 := Lib.hid (show Below w.heap.size w w4 by rw [hw4]; exact HB3.out.alloc HB3.out.size _)
  have HT4 := Lib.hid (show w4.heap[g]? = some (.cells tab 27 (0, 0)) by rw [hw4, hg]; exact heap_alloc_new w3 _)
  rw [← hw4, ← hg]
  clear hw4 hg
  have hg4 := (Array.getElem?_eq_some_iff.1 HT4.out).1
  go_wp2_with (first
    | (go_at_call 9; refine (HI.out _ HB4.out).mono ?_; rintro e w5 ⟨rfl, hb5⟩; have HB5 := Lib.hid (HB4.out.trans (hb5.mono HB4.out.size)); have HT5 := Lib.hid ((hb5.block g hg4).trans HT4.out))
    | (refine wpList_load_row rfl 27 _ rfl g rfl 27 tab (0, 0) _ HT5.out Try.underlying27 rfl tableSize ?_; dsimp only [Act.put])
    | (go_at_call 10; refine (HE.out _ HB5.out).mono ?_; rintro e w6 ⟨rfl, hb6⟩; have HB6 := Lib.hid (HB5.out.trans (hb6.mono HB5.out.size)))
    | (go_at_call 11; refine (HR.out _ HB6.out).mono ?_; rintro e w7 ⟨rfl, hb7⟩; have HB7 := Lib.hid (HB6.out.trans (hb7.mono HB6.out.size))))
  go_ret
  exact ⟨rfl, HB7.out⟩

set_option maxHeartbeats 8000000 in
theorem back_right (C : BlkC) (a : Option Addr) (len cap : Nat) (es : List En) (w : World) (hz : IsEnts w a len cap es) (hf : FewEnts es 10) (hr : rightE es = true) :
    Calls Try.prog 3 #[.slice a len cap] w fun e w' => e = .returned (.bool true) ∧ Below w.heap.size w w' := by
  have haw := Lib.hid (bawake_any C)
  have hmk := Lib.hid make_any
  have HF := Lib.hid (fun w1 (hb : Below w.heap.size w w1) => bfew_any a len cap 10 es w1 (hz.below hb) (by omega))
  rw [fewB_true.2 hf] at HF
  have HR := Lib.hid (fun w1 (hb : Below w.heap.size w w1) => bright_any a len cap es w1 (hz.below hb))
  rw [hr] at HR
  have hfo := fewOut hz hf
  have hl10 : len ≤ 10 := by rw [← hz.1.1]; exact hfo.len
  have HI := Lib.hid (fun w1 (hb : Below w.heap.size w w1) => C.insYes a len cap es w1 (hz.below hb) hl10 hr hfo.small)
  have HIn := Lib.hid (fun w1 (hb : Below w.heap.size w w1) => binside_any a len cap es w1 (hz.below hb) hr (by omega) hfo.small)
  have HEx := Lib.hid (fun w1 (hb : Below w.heap.size w w1) => C.encYes a len cap es w1 (hz.below hb) (by omega) hr hfo.small hfo.ins)
  have HDc := Lib.hid (fun (p : ByteArray) (hp : p.size ≤ 90000) (hu : unp p.data.toList = (insideB es, 0)) w1 => C.decYes p es w1 hp hu hr hfo.ok)
  have HSm := Lib.hid (fun w1 a1 c1 (h1 : IsEnts w1 a1 es.length c1 es) (hb : Below w.heap.size w w1) => bsame_yes a1 a len c1 cap es w1 (by rw [← hz.1.1]; exact h1) (hz.below hb))
  have hel := hz.1.1
  rw [hel] at HDc HSm
  obtain ⟨I, hI⟩ : ∃ I, I = insideS es := ⟨_, rfl⟩
  have HIL := Lib.hid (show I.data.toList = insideB es by rw [hI]; rfl)
  have hI2 : (⟨(insideB es).toArray⟩ : ByteArray) = I := by rw [hI]; rfl
  rw [← hI] at HI
  rw [hI2] at HIn
  clear hf hr hfo hI hI2 hel
  go_enter Try.func3, Try.ntmps3
  go_upto_region 4 with (first
    | (go_at_call 6; refine (haw.out _).mono ?_; rintro e w1 ⟨rfl, hb1⟩; have HB1 := Lib.hid hb1)
    | (go_at_call 7; refine (HF.out _ HB1.out).mono ?_; rintro e w2 ⟨rfl, rfl⟩)
    | (go_at_call 8; refine (hmk.out _).mono ?_; rintro e w3 ⟨rfl, hb3⟩; have HB3 := Lib.hid (HB1.out.trans (hb3.mono HB1.out.size)))
    | (refine wpList_store_row rfl 27 _ _ rfl w3.heap.size tab rfl rfl 27 (Array.replicate 256 (.int .u32 0)) (heap_alloc_last w3 _) tableSize zeroTable_size tab_one ?_; rw [World.setRow_alloc_new]; dsimp only [Act.put]))
  obtain ⟨w4, hw4⟩ : ∃ w4, w4 = w3.alloc (.cells tab 27) := ⟨_, rfl⟩
  obtain ⟨g, hg⟩ : ∃ g, g = w3.heap.size := ⟨_, rfl⟩
  have HB4 := Lib.hid (show Below w.heap.size w w4 by rw [hw4]; exact HB3.out.alloc HB3.out.size _)
  have HT4 := Lib.hid (show w4.heap[g]? = some (.cells tab 27 (0, 0)) by rw [hw4, hg]; exact heap_alloc_new w3 _)
  rw [← hw4, ← hg]
  clear hw4 hg
  have hg4 := (Array.getElem?_eq_some_iff.1 HT4.out).1
  go_upto_region 5 with (go_at_call 9; refine (HI.out _ HB4.out).mono ?_; rintro e w5 ⟨rfl, hb5⟩; have HB5 := Lib.hid (HB4.out.trans (hb5.mono HB4.out.size)); have HT5 := Lib.hid ((hb5.block g hg4).trans HT4.out); have hg5 := (Array.getElem?_eq_some_iff.1 HT5.out).1)
  go_upto_region 6 with (first
    | (refine wpList_load_row rfl 27 _ rfl g rfl 27 tab (0, 0) _ HT5.out Try.underlying27 rfl tableSize ?_; dsimp only [Act.put])
    | (go_at_call 10; (with_reducible refine (HEx.out w5 HB5.out).mono ?_); rintro e w6 ⟨p, hp, hu, rfl, hb6⟩; have HB6 := Lib.hid (HB5.out.trans (hb6.mono HB5.out.size)); have HT6 := Lib.hid ((hb6.block g hg5).trans HT5.out); have hg6 := (Array.getElem?_eq_some_iff.1 HT6.out).1))
  obtain ⟨q1, q2, q3⟩ := blkS_parts p
  have HD := Lib.hid (fun w1 => HDc.out p hp hu w1)
  have HUn := Lib.hid (refUnpack_any p (by omega))
  rw [hu] at HUn
  have HSu := Lib.hid (refsum_any p (by omega))
  have hslt := sumB_lt p.data.toList
  have HFx := Lib.hid (fun w1 => refFixed_any (sumB p.data.toList) 4 true w1 (by omega) (by omega) (by omega))
  have hI3 : (⟨(insideB es).toArray⟩ : ByteArray) = I := c_ba_ext (by rw [HIL.out])
  rw [hI3] at HUn
  obtain ⟨Bk, hBk⟩ : ∃ Bk, Bk = blkS p := ⟨_, rfl⟩
  obtain ⟨N, hN⟩ : ∃ N, N = p.size := ⟨_, rfl⟩
  obtain ⟨S4, hS4⟩ : ∃ S4 : ByteArray, S4 = ⟨(sumS p).toArray⟩ := ⟨_, rfl⟩
  obtain ⟨sm, hsm⟩ : ∃ sm, sm = sumB p.data.toList := ⟨_, rfl⟩
  have hS5 : (⟨(fx (sumB p.data.toList) 4 true).toArray⟩ : ByteArray) = S4 := by rw [hS4]; rfl
  rw [hS5] at HFx
  rw [← hBk] at HD q1 q2 q3 ⊢
  rw [← hN] at q1 q2 q3 hp
  rw [← hS4] at q3
  rw [← hsm] at HSu HFx hslt
  have hmod : (sm : Int) % 18446744073709551616 = (sm : Int) := by omega
  have hNw : IntKind.i64.wrap ((Bk.size : Int) - 4) = (N : Int) := by rw [IntWalk.i64_in _ (by omega)]; omega
  have hb4 : ¬ (Bk.size : Int) < 4 := by omega
  have hb4d : decide (Bk.size < 4) = false := by simp; omega
  have hNz : (N : Int) ≤ (Bk.size : Int) := by omega
  have hN0 : (0 : Int) ≤ (N : Int) := by omega
  have q4 : Bk.extract N Bk.size = S4 := by rw [q1]; exact q3
  have hII : (I.toList == I.toList) = true := by simp
  have hSS : (S4.toList == S4.toList) = true := by simp
  have HQ1 := Lib.hid q1
  clear hu hBk hN hS4 hsm hI3 hS5 q3 HEx HDc HIL hp q1
  go_upto_region 12 with (first
    | (refine wpList_load_row rfl 27 _ rfl g rfl 27 tab (0, 0) _ HT8.out Try.underlying27 rfl tableSize ?_; dsimp only [Act.put])
    | (go_at_call 11; refine (HR.out _ HB6.out).mono ?_; rintro e w7 ⟨rfl, hb7⟩; have HB7 := Lib.hid (HB6.out.trans (hb7.mono HB6.out.size)); have HT7 := Lib.hid ((hb7.block g hg6).trans HT6.out); have hg7 := (Array.getElem?_eq_some_iff.1 HT7.out).1)
    | (go_at_call 12; refine (HIn.out _ HB7.out).mono ?_; rintro e w8 ⟨rfl, hb8⟩; have HB8 := Lib.hid (HB7.out.trans (hb8.mono HB7.out.size)); have HT8 := Lib.hid ((hb8.block g hg7).trans HT7.out))
    | (go_at_call 13; refine (HD.out _).mono ?_; rintro e w9 ⟨a9, c9, rfl, he9, hb9⟩; have HB9 := Lib.hid (HB8.out.trans (hb9.mono HB8.out.size)); have HE9 := Lib.hid he9; clear he9)
    | (go_at_call 14; refine (HUn.out _).mono ?_; rintro e w10 ⟨rfl, hb10⟩; have HB10 := Lib.hid (HB9.out.trans (hb10.mono HB9.out.size)); have HE10 := Lib.hid (HE9.out.below hb10)))
  have HC := Lib.hid (fun x : Like w10.heap.size w10 => HSm.out x.val a9 c9 (HE10.out.below x.below) (HB10.out.trans (x.below.mono HB10.out.size)))
  clear HE10 HE9 HD HUn HIn HI HR HF HSm haw hmk
  refine region_likes (by kernel_rfl) (by kernel_rfl) ?_
  repeat (first
    | (go_big_quiet_step (first
        | (go_at_call 15; exact calls_likes (Like.size _) (HC.out _))
        | (go_at_call 17; exact calls_likes_same (HSu.out _))
        | (go_at_call 16; exact calls_likes (Like.size _) (HFx.out _)))))
  refine wpQuiet_nil ?_
  intro x
  have hbx := Lib.hid (HB10.out.trans (x.below.mono HB10.out.size))
  go_wp2_with fail
  go_ret
  exact ⟨rfl, hbx.out⟩
theorem blockBack_of (C : BlkC) (a : Option Addr) (len cap : Nat) (es : List En) (w : World) (hz : IsEnts w a len cap es) :
    Calls Try.prog 3 #[.slice a len cap] w fun e w' => e = .returned (.bool true) ∧ Below w.heap.size w w' := by
  by_cases hf : FewEnts es 10
  · cases hr : rightE es with
    | true => exact back_right C a len cap es w hz hf hr
    | false => exact back_wrong C a len cap es w hz hf hr
  · exact back_few C a len cap es w hz hf
end Go.Proofs.Ytplobffkelmokaa
