/-
  The walk of the statement CrcBit: true.
-/
import Derived.Test.YtgnojihleenejaaCrcAwake
import Derived.OpenShut
import Derived.Deep.DeepCutAuto
import Derived.Deep.CutBlock
import Derived.Laws.IdiomStrings
import Derived.StillTailTactics
namespace Go.Proofs.Ytgnojihleenejaa
open Go.RowKit

/-- A byte with one bit turned is another one. -/
theorem bent_byte (x : UInt8) (r : Nat) (hr : r < 8) : ∃ y : UInt8, x ≠ y ∧ bits BinOp.xor IntKind.u8 (x.toNat : Int) (IntKind.u8.wrap (2 ^ r)) = (y.toNat : Int) := by
  have hp : (2 : Nat) ^ r < 256 := Nat.pow_lt_pow_right (a := 2) (by decide) (show r < 8 from hr)
  have e : IntKind.u8.wrap ((2 : Int) ^ r) = ((2 ^ r : Nat) : Int) := by
    rw [IntKind.wrap_u8', show ((2 : Int) ^ r) = ((2 ^ r : Nat) : Int) by rw [Int.natCast_pow]; rfl]
    generalize 2 ^ r = c at hp
    omega
  have hx := UInt8.toNat_lt x
  have hl : x.toNat ^^^ 2 ^ r < 256 := Nat.xor_lt_two_pow (n := 8) hx hp
  refine ⟨UInt8.ofNat (x.toNat ^^^ 2 ^ r), fun h => ?_, ?_⟩
  · have h1 : x.toNat = x.toNat ^^^ 2 ^ r := by
      have := congrArg UInt8.toNat h
      rw [UInt8.toNat_ofNat', Nat.mod_eq_of_lt hl] at this
      exact this
    have h2 : x.toNat ^^^ x.toNat = x.toNat ^^^ (x.toNat ^^^ 2 ^ r) := by rw [← h1]
    rw [Nat.xor_self, ← Nat.xor_assoc, Nat.xor_self, Nat.zero_xor] at h2
    have := Nat.pow_pos (n := r) (show 0 < 2 by decide)
    omega
  · rw [e, u8_xor_nat _ _ hx hp, UInt8.toNat_ofNat', Nat.mod_eq_of_lt hl]

set_option maxRecDepth 100000 in
set_option maxHeartbeats 4000000 in
theorem crcBit_walk (b : ByteArray) (_ : b.size ≤ maxLen) (a1 : Int) (w1 : (Lit.int .u16 a1).wf = true) (w : World) :
    Calls Try.prog 5 #[.string b, .int .u16 a1] w fun e w' => e = .returned (.bool true) ∧ Below w.heap.size w w' := by
  have hz := (zero_of_info (P := Try.prog) tableInfo).1
  have haw := Lib.hid crcAwake_any
  have hmk := Lib.hid make_any
  have hbd := bounds_u16 w1
  obtain ⟨n, rfl⟩ : ∃ n : Nat, a1 = n := ⟨a1.toNat, by omega⟩
  have hn : n < 65536 := by omega
  clear hbd w1
  by_cases hlen : 2000 < b.size
  · have hd : (2000 : Int) < (b.size : Int) := by omega
    go_enter Try.func5, Try.ntmps5
    go_upto_region 2 with (go_at_call 6; refine (haw.out _).mono ?_; rintro e w1 ⟨rfl, hb1⟩)
    go_wp2_with (go_at_call 6; refine (haw.out _).mono ?_; rintro e w2 ⟨rfl, hb2⟩)
    go_ret
    exact ⟨rfl, hb1.trans (hb2.mono hb1.size)⟩
  by_cases hzero : b.size = 0
  · have hd : ¬ (2000 : Int) < (b.size : Int) := by omega
    have he : ((b.size : Int) == 0) = true := by rw [hzero]; rfl
    go_enter Try.func5, Try.ntmps5
    go_upto_region 2 with (go_at_call 6; refine (haw.out _).mono ?_; rintro e w1 ⟨rfl, hb1⟩)
    go_wp2_with (go_at_call 6; refine (haw.out _).mono ?_; rintro e w2 ⟨rfl, hb2⟩)
    go_ret
    exact ⟨rfl, hb1.trans (hb2.mono hb1.size)⟩
  · have hd : ¬ (2000 : Int) < (b.size : Int) := by omega
    have he : ((b.size : Int) == 0) = false := by rw [beq_eq_false_iff_ne]; omega
    have hcv := fun (w : World) => run_bytes_of_string (P := Try.prog) w 9 37 5 b Try.underlying9 Try.underlying37 Try.underlying5
    obtain ⟨k, hk⟩ : ∃ k, k = n % (8 * b.size) := ⟨_, rfl⟩
    have hkl : k < 8 * b.size := by rw [hk]; exact Nat.mod_lt n (by omega)
    have hkz : (n : Int) % (8 * (b.size : Int)) = (k : Int) := by rw [hk]; rfl
    clear hk
    obtain ⟨q, hq⟩ : ∃ q, q = k / 8 := ⟨_, rfl⟩
    obtain ⟨r, hr⟩ : ∃ r, r = k % 8 := ⟨_, rfl⟩
    have hql : q < b.size := by omega
    have hqz : (k : Int) / 8 = (q : Int) := by omega
    have hrz : (k : Int) % 8 = (r : Int) := by omega
    have hrt : (k : Int).tmod 8 = (r : Int) := by rw [hr]; rfl
    have hqi : (q : Int) < (b.size : Int) := by omega
    have hrl : r < 8 := by omega
    have hk0 : (0 : Int) ≤ (k : Int) := by omega
    have hwq : IntKind.i64.wrap (q : Int) = (q : Int) := by simp [IntKind.wrap, IntKind.bits, IntKind.signed]; omega
    have hwr : IntKind.i64.wrap (r : Int) = (r : Int) := by simp [IntKind.wrap, IntKind.bits, IntKind.signed]; omega
    have hr0 : (0 : Int) ≤ (r : Int) := by omega
    clear hq hr
    obtain ⟨x, hx⟩ : ∃ x : UInt8, b[q]'hql = x := ⟨_, rfl⟩
    have hxl := Lib.hid (show b.data.toList[q]? = some x by rw [← hx]; exact Lib.data_getElem? b q hql)
    clear hx
    go_enter Try.func5, Try.ntmps5
    go_upto_region 3 with (go_at_call 6; refine (haw.out _).mono ?_; rintro e w1 ⟨rfl, hb1⟩)
    go_upto_region 5 with fail
    obtain ⟨cp, hcp⟩ : ∃ cp, cp = grownCap w1 b.size 0 5 := ⟨_, rfl⟩
    rw [← hcp]
    have hB : Below w.heap.size w (w1.alloc (Obj.cells (bytesRow b cp) 5 ((bytesRow b cp).size, (bytesRow b cp).size + 1))).drew := (hb1.alloc hb1.size _).drew
    have hcells : ∀ j y, b.data.toList[j]? = some y → (w1.alloc (Obj.cells (bytesRow b cp) 5 ((bytesRow b cp).size, (bytesRow b cp).size + 1))).drew.cell? ⟨w1.heap.size, j, none⟩ = some (.int .u8 (y.toNat : Int)) := fun j y hj => by
      have hjl : j < b.size := by rw [Lib.size_eq]; exact (List.getElem?_eq_some_iff.1 hj).1
      show (w1.alloc _).cell? _ = _
      rw [World.cell?_alloc_mark]
      unfold bytesRow
      rw [Array.getElem?_append_left (by rw [Array.size_map]; exact hjl), Array.getElem?_map]
      have : b.data[j]? = some y := by simpa using hj
      rw [this]; rfl
    have hfroz : ∀ j, j < b.size → (w1.alloc (Obj.cells (bytesRow b cp) 5 ((bytesRow b cp).size, (bytesRow b cp).size + 1))).drew.frozen? ⟨w1.heap.size, j, none⟩ = false := fun j hj => by
      show (w1.alloc _).frozen? _ = _
      rw [World.frozen?_alloc_mark]
      have h2 : j < (bytesRow b cp).size := by
        unfold bytesRow
        rw [Array.size_append, Array.size_map]
        exact Nat.lt_of_lt_of_le hj (Nat.le_add_right _ _)
      rw [decide_eq_false (by omega), Bool.false_and]
    have hgl : w1.heap.size < (w1.alloc (Obj.cells (bytesRow b cp) 5 ((bytesRow b cp).size, (bytesRow b cp).size + 1))).drew.heap.size := by
      show _ < (w1.alloc _).heap.size
      simp
    have hgg := hb1.size
    obtain ⟨g, hg⟩ : ∃ g, g = w1.heap.size := ⟨_, rfl⟩
    rw [← hg] at hcells hfroz hgl hgg
    rw [← hg]
    obtain ⟨w2, hw2⟩ : ∃ w2, w2 = (w1.alloc (Obj.cells (bytesRow b cp) 5 ((bytesRow b cp).size, (bytesRow b cp).size + 1))).drew := ⟨_, rfl⟩
    rw [← hw2] at hB hcells hfroz hgl
    rw [← hw2]
    clear hw2 hg hcp hb1 w1 hcv
    have hx0 := hcells q x hxl.out
    have hf0 := hfroz q hql
    have HB := Lib.hid hB
    have HC := Lib.hid hcells
    have HF := Lib.hid hfroz
    clear hB hcells hfroz
    simp only [hkz]
    obtain ⟨y, hxy, hyb⟩ := bent_byte x r hrl
    have HXY := Lib.hid hxy
    clear hxy
    go_still_tail 10, (by kernel_rfl)
    change wpList _ _ _ _ _ w2.drew
    go_upto_region 6 with fail
    have hsplit : b.data.toList = b.data.toList.take q ++ x :: b.data.toList.drop (q + 1) := by
      have hq := hxl.out
      have hql' := (List.getElem?_eq_some_iff.1 hq).1
      have hqe := (List.getElem?_eq_some_iff.1 hq).2
      rw [← hqe, List.getElem_cons_drop, List.take_append_drop]
    have hB3 : Below w.heap.size w (w2.setCell ⟨g, q, none⟩ (.int .u8 (y.toNat : Int))).drew := (HB.out.setCell hgg _).drew
    have hcells3 : ∀ j (hj : j < (b.data.toList.take q ++ y :: b.data.toList.drop (q + 1)).length), (w2.setCell ⟨g, q, none⟩ (.int .u8 (y.toNat : Int))).drew.cell? ⟨g, j, none⟩ = some (.int .u8 ((b.data.toList.take q ++ y :: b.data.toList.drop (q + 1))[j].toNat : Int)) := fun j hj => by
      show (w2.setCell _ _).cell? _ = _
      have hlen2 : (b.data.toList.take q).length = q := by rw [List.length_take, ← Lib.size_eq]; omega
      by_cases hjq : j = q
      · subst hjq
        rw [World.cell?_setCell_same' _ _ _ (by rw [hx0]; rfl)]
        simp [List.getElem_append_right (show (b.data.toList.take j).length ≤ j by omega), hlen2]
      · rw [World.cell?_setCell_other _ _ _ _ (by intro h; apply hjq; injection h with _ h2 _; exact h2.symm)]
        refine HC.out j _ ?_
        have h1 : (b.data.toList.take q ++ x :: b.data.toList.drop (q + 1))[j]? = (b.data.toList.take q ++ y :: b.data.toList.drop (q + 1))[j]? := by
          rw [List.getElem?_append, List.getElem?_append, hlen2]
          by_cases hlt : j < q
          · rw [if_pos hlt, if_pos hlt]
          · rw [if_neg hlt, if_neg hlt]
            obtain ⟨d, hd⟩ : ∃ d, j - q = d + 1 := ⟨j - q - 1, by omega⟩
            rw [hd, List.getElem?_cons_succ, List.getElem?_cons_succ]
        rw [← hsplit] at h1
        rw [h1, List.getElem?_eq_getElem hj]
    have hlen3 : (b.data.toList.take q ++ y :: b.data.toList.drop (q + 1)).length = b.size := by
      rw [Lib.size_eq]
      conv => rhs; rw [hsplit]
      rw [List.length_append, List.length_append, List.length_cons, List.length_cons]
    have hne3 := sumB_bent (b.data.toList.take q) (b.data.toList.drop (q + 1)) HXY.out
    rw [← hsplit] at hne3
    have hcells4 : ∀ j z, (b.data.toList.take q ++ y :: b.data.toList.drop (q + 1))[j]? = some z → (w2.setCell ⟨g, q, none⟩ (.int .u8 (y.toNat : Int))).drew.cell? ⟨g, j, none⟩ = some (.int .u8 (z.toNat : Int)) := fun j z hj => by
      obtain ⟨h1, h2⟩ := List.getElem?_eq_some_iff.1 hj
      rw [hcells3 j h1, h2]
    clear hcells3
    obtain ⟨l2, hl2⟩ : ∃ l2, l2 = b.data.toList.take q ++ y :: b.data.toList.drop (q + 1) := ⟨_, rfl⟩
    rw [← hl2] at hlen3 hne3
    simp only [← hl2] at hcells4
    have hg3 : g < (w2.setCell ⟨g, q, none⟩ (.int .u8 (y.toNat : Int))).drew.heap.size := by
      show g < (w2.setCell _ _).heap.size
      rw [World.setCell]; simpa using hgl
    obtain ⟨w3, hw3⟩ : ∃ w3, w3 = (w2.setCell ⟨g, q, none⟩ (.int .u8 (y.toNat : Int))).drew := ⟨_, rfl⟩
    rw [← hw3] at hB3 hg3
    simp only [← hw3] at hcells4
    rw [← hw3]
    clear hw3 hl2 hx0 hf0 HB HC HF hsplit hyb
    have H3 := Lib.hid hcells4
    have hsum1 := sum_any b (by omega)
    have hsum2 := sum_any ⟨l2.toArray⟩ (by show l2.toArray.size < _; rw [List.size_toArray]; omega)
    rw [show (⟨l2.toArray⟩ : ByteArray).data.toList = l2 from rfl] at hsum2
    obtain ⟨s1, hs1⟩ : ∃ s1, s1 = sumB b.data.toList := ⟨_, rfl⟩
    obtain ⟨s2, hs2⟩ : ∃ s2, s2 = sumB l2 := ⟨_, rfl⟩
    rw [← hs1] at hsum1 hne3
    rw [← hs2] at hsum2 hne3
    have hnz := Lib.hid (show ((s1 : Int) != (s2 : Int)) = true by rw [bne_iff_ne]; omega)
    have S1 := Lib.hid hsum1
    have S2 := Lib.hid hsum2
    have L3 := Lib.hid hlen3
    have B3 := Lib.hid hB3
    clear hs1 hs2 hcells4 hsum1 hsum2 hlen3 hB3 hwq hwr hrt hrz hqz hkz he
    go_upto_region 7 with (first
      | (go_at_call 7; refine (hmk.out _).mono ?_; rintro e w4 ⟨rfl, hb4⟩)
      | (refine wpList_store_row rfl 25 _ _ rfl w4.heap.size tab rfl rfl 25 (Array.replicate 256 (.int .u32 0)) (heap_alloc_last w4 _) tableSize zeroTable_size tab_one ?_; rw [World.setRow_alloc_new]; dsimp only [Act.put]))
    have hrow := Lib.hid (heap_alloc_last w4 (.cells tab 25))
    have hback : ∀ x : Like (w4.alloc (.cells tab 25)).heap.size (w4.alloc (.cells tab 25)), (convert 37 9 (.slice (some ⟨g, 0, none⟩) b.size cp)).run Try.prog x.val = .ok (.string ⟨l2.toArray⟩) x.val := fun x => by
      have h4 := hb4.size
      rw [← L3.out]
      refine run_convert_bytes_back x.val 37 9 5 _ cp l2 Try.underlying37 Try.underlying5 Try.underlying9 fun j hj => ?_
      have hadd : (⟨g, 0, none⟩ : Addr).add j = ⟨g, j, none⟩ := by unfold Addr.add; split <;> simp_all
      rw [hadd, x.below.cell (by simp; omega), World.cell?_alloc_lt _ _ _ (by simp; omega), hb4.cell (by simpa using hg3)]
      exact H3.out j _ (List.getElem?_eq_getElem hj)
    refine region_likes (by kernel_rfl) (by kernel_rfl) ?_
    repeat (first
      | (go_big_quiet_want; refine quiet_row 25 _ rfl w4.heap.size rfl 25 tab (0, 0) _ (likes_row hrow.out) Try.underlying25 rfl tableSize ?_; go_simp; go_big_quiet_on)
      | (go_big_quiet_step (first
          | (go_at_call 8; with_reducible exact calls_likes (Like.size _) (S1.out _))
          | (go_at_call 8; with_reducible exact calls_likes (Like.size _) (S2.out _)))))
    refine wpQuiet_nil ?_
    intro x
    have hx := Lib.hid (show Below w.heap.size w x.val from ((B3.out.trans (hb4.mono B3.out.size)).alloc (Nat.le_trans B3.out.size hb4.size) _).trans (x.below.mono (by have := B3.out.size; have := hb4.size; simp; omega)))
    go_wp2_with fail
    go_ret
    exact ⟨congrArg (fun b => Ending.returned (.bool b)) hnz.out, hx.out⟩
end Go.Proofs.Ytgnojihleenejaa
