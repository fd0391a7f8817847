/-
  The program's readAll, clearBehind.
-/
import Derived.Test.YtlkifliaaaomeaaLogPDisk
import Derived.Test.YtlkifliaaaomeaaLogPSmall
import Derived.Deep.LoopGhost
import Derived.Deep.DeepCutAuto
import Derived.Deep.CutBlock
namespace Go.Proofs.Ytlkifliaaaomeaa
open Go.RowKit
set_option linter.unusedVariables false
set_option linter.unnecessarySimpa false
set_option linter.unusedSimpArgs false
set_option maxRecDepth 100000

set_option maxHeartbeats 2000000 in
theorem lp_readAll {w : World} {d : Addr} {D : DK} {O : Nat → Prop} (h : PAt w d D O) (h0 : D.fuse ≠ 0) (hN : D.seen.length ≤ 4096) :
    Calls Try.prog 23 #[.pointer (some d)] w fun e w' => ∃ O', e = .returned (.tuple #[.string ⟨D.seen.flatten.toArray⟩, .int .i64 0]) ∧ PAt w' d D O' ∧ Moves O O' w w' := by
  have h64 := Lib.hid h.1.seen
  have HN := Lib.hid (BD.new h (Moves.same O w))
  obtain ⟨N, hNN⟩ : ∃ N, N = D.seen.length := ⟨_, rfl⟩
  rw [← hNN] at hN
  have HNN := Lib.hid hNN
  have H0 := Lib.hid h0
  clear h h0 hNN
  obtain ⟨B, hB⟩ : ∃ B, B = w.heap.size := ⟨_, rfl⟩
  rw [← hB] at HN
  go_enter Try.func23, Try.ntmps23
  go_upto_region 2 with fail
  rw [← hB]
  obtain ⟨w1, hw1⟩ : ∃ w1, w1 = w.alloc (.cells #[.pointer none, .slice none 0 0] 81) := ⟨_, rfl⟩
  rw [← hw1] at HN
  rw [← hw1]
  clear hw1 hB
  have hzz : D.seen.length = N := HNN.out.symm
  go_wp2_with (go_at_call 18; refine (BD.sectors HN.out).mono ?_; rintro e w2 ⟨rfl, h2⟩; have H2 := Lib.hid h2; clear h2; rw [hzz])
  clear hzz HN
  go_loopg [10] N (fun g s10 wx => ∃ i : Nat, i + g = N ∧ s10 = .int .i64 i ∧ Hid (BD w B d D O (D.seen.take i).flatten wx))
  case atStart => exact ⟨0, by omega, rfl, by simpa using H2⟩
  case round =>
    obtain ⟨i, hig, rfl, hb⟩ := hrel
    cases gk with
    | zero =>
      obtain rfl : i = N := by omega
      have hall := Lib.hid (show D.seen.take i = D.seen by rw [HNN.out]; exact List.take_length)
      have HS := Lib.hid (show ∀ W, W = wr → Calls Try.prog 43 #[.pointer (some ⟨B, 0, none⟩)] W fun e w' => e = .returned (.string ⟨D.seen.flatten.toArray⟩) ∧ BD w B d D O D.seen.flatten w' by
        rintro W rfl
        have := hb.out
        rw [hall.out] at this
        exact this.string)
      obtain ⟨F, hF⟩ : ∃ F : ByteArray, F = ⟨D.seen.flatten.toArray⟩ := ⟨_, rfl⟩
      rw [← hF] at HS
      have HF := Lib.hid hF
      clear hF
      go_wp2_with (go_at_call 43; refine (HS.out _ rfl).mono ?_; rintro e w3 ⟨rfl, h3⟩; have H3 := Lib.hid h3)
      go_ret2
      obtain ⟨O', hd, hm⟩ := H3.out.disk
      exact ⟨O', by rw [HF.out]; rfl, hd, hm⟩
    | succ g =>
      have hil : i < N := by omega
      have hiz : (i : Int) < (N : Int) := by omega
      have hnx := Lib.hid (flat_take_succ D.seen (i := i) (by rw [← HNN.out]; exact hil))
      have hsz : ((D.seen.take i).flatten).length ≤ 262144 := by
        rw [flat_length64 (D.seen.take i) (fun s hs => h64.out s (List.mem_of_mem_take hs)), List.length_take]; omega
      have hs2 : (D.seen.getD i []).length ≤ 64 := by
        rw [List.getD, List.getElem?_eq_getElem (by rw [← HNN.out]; exact hil)]
        exact Nat.le_of_eq (h64.out _ (List.getElem_mem _))
      obtain ⟨Y, hY⟩ : ∃ Y : ByteArray, Y = ⟨(D.seen.getD i []).toArray⟩ := ⟨_, rfl⟩
      have hYs : Y.size ≤ 64 := by rw [hY, ba_of]; exact hs2
      have hYl : Y.data.toList = D.seen.getD i [] := by rw [hY]
      have HRi := Lib.hid (BD.read hb.out i H0.out (by rw [← HNN.out]; exact hil))
      rw [← hY] at HRi
      have HT := Lib.hid (fun W (hW : BD w B d D O (D.seen.take i).flatten W) => hW.text Y (by omega))
      rw [hYl, ← hnx.out] at HT
      clear hY hYl hs2 hsz
      go_wp2_with (first
        | (go_at_call 32; refine HRi.out.mono ?_; rintro e w3 ⟨rfl, h3⟩; have H3 := Lib.hid h3; clear h3)
        | (go_at_call 41; refine (HT.out _ H3.out).mono ?_; rintro e w4 ⟨rfl, h4⟩; have H4 := Lib.hid h4; clear h4))
      go_roundg g
      case measure => omega
      case rel => exact ⟨i + 1, by omega, by go_num, H4⟩

set_option maxHeartbeats 4000000 in
theorem lp_clear {w : World} {d : Addr} {D : DK} {O : Nat → Prop} (h : PAt w d D O) (hf : D.fuse = -1) (hN : D.seen.length ≤ 4096) (hw : D.waits.length ≤ 900000) (b : ByteArray) (hb : b.data.toList = D.seen.flatten) (k : Nat) (hk : k ≤ b.size) :
    Calls Try.prog 24 #[.pointer (some d), .string b, .int .i64 k] w fun e w' => ∃ D' O', e = .returned (.int .i64 0) ∧ PAt w' d D' O' ∧ Moves O O' w w' ∧
      D'.seen.flatten = D.seen.flatten.take k ++ List.replicate (b.size - k) 0 ∧ D'.seen.length = D.seen.length ∧ D'.fuse = -1 ∧ D'.waits.length ≤ D.waits.length + 4096 := by
  have h64 := Lib.hid h.1.seen
  have HN := Lib.hid (BD.new h (Moves.same O w))
  obtain ⟨N, hNN⟩ : ∃ N, N = D.seen.length := ⟨_, rfl⟩
  have hbs : b.size = 64 * N := by rw [Lib.size_eq, hb, flat_length64 _ h.1.seen, hNN]
  rw [← hNN] at hN
  have HNN := Lib.hid hNN
  have HF := Lib.hid hf
  obtain ⟨F, hF⟩ : ∃ F, F = D.seen.flatten.take k ++ List.replicate (b.size - k) (0 : UInt8) := ⟨_, rfl⟩
  have hFl : F.length = 64 * N := by rw [hF, List.length_append, List.length_take, List.length_replicate, ← hb, ← Lib.size_eq]; omega
  have HF2 := Lib.hid hF
  have HFl := Lib.hid hFl
  obtain ⟨C, hC⟩ : ∃ C, C = pieces F N := ⟨_, rfl⟩
  have HCl := Lib.hid (show C.length = N by rw [hC, pieces_length])
  have HCf := Lib.hid (show C.flatten = F by rw [hC]; exact pieces_flat N F hFl)
  have HCat := Lib.hid (show ∀ i, i < N → C.getD i [] = (F.drop (i * 64)).take 64 by rw [hC]; exact fun i hi => pieces_at N F i hi)
  have HBat := Lib.hid (show ∀ i, i < N → (b.data.toList.drop (i * 64)).take 64 = D.seen.getD i [] by rw [hb]; exact fun i hi => flat_at D.seen i h64.out (by rw [← HNN.out]; exact hi))
  have HW := Lib.hid hw
  have HBL := Lib.hid hb
  clear h hf hNN hF hFl hC hw hb
  obtain ⟨B, hB⟩ : ∃ B, B = w.heap.size := ⟨_, rfl⟩
  rw [← hB] at HN
  have kz : (k : Int) ≤ (b.size : Int) := by omega
  have k0 : (0 : Int) ≤ (k : Int) := by omega
  have hbz : (b.size : Int) = 64 * (N : Int) := by omega
  have hbq : (b.size : Int).tdiv 64 = (N : Int) := by rw [hbz]; exact Int.mul_tdiv_cancel_left _ (by decide)
  have hbm : b.size ≤ 262144 := by omega
  have hxl : (b.extract 0 k).size = k := by rw [ByteArray.size_extract]; omega
  obtain ⟨X, hX⟩ : ∃ X, X = b.extract 0 k := ⟨_, rfl⟩
  have hXl := Lib.hid (show X.data.toList = D.seen.flatten.take k by rw [hX, Lib.extract_data, HBL.out, List.drop_zero, Nat.sub_zero])
  rw [← hX] at hxl
  have HX := hX.symm
  clear hX
  have HT := Lib.hid (fun W (hW : BD w B d D O [] W) => hW.text X (by simp; omega))
  rw [hXl.out, List.nil_append] at HT
  go_enter Try.func24, Try.ntmps24
  go_upto_region 2 with fail
  rw [← hB]
  obtain ⟨w1, hw1⟩ : ∃ w1, w1 = w.alloc (.cells #[.pointer none, .slice none 0 0] 81) := ⟨_, rfl⟩
  rw [← hw1] at HN
  rw [← hw1]
  clear hw1 hB
  go_wp2_with (go_at_call 41; refine (HT.out _ HN.out).mono ?_; rintro e w2 ⟨rfl, h2⟩; have H2 := Lib.hid h2; clear h2)
  clear HN HT HX hXl hxl
  have HBZ := Lib.hid hbz
  have HBQ := Lib.hid hbq
  have HBS := Lib.hid hbs
  clear hbz hbq hbs
  have hz0 : (0 : UInt8).toNat = 0 := rfl
  go_loopg [15] (b.size - k) (fun g s15 wx => ∃ j : Nat, j + g = b.size - k ∧ Hid (BD w B d D O (D.seen.flatten.take k ++ List.replicate j 0) wx))
  case atStart => exact ⟨0, by omega, by simpa using H2⟩
  case round =>
    obtain ⟨j, hjg, hb⟩ := hrel
    have hlen := Lib.hid (show (D.seen.flatten.take k ++ List.replicate j (0 : UInt8)).length = k + j by
      rw [List.length_append, List.length_take, List.length_replicate, ← HBL.out, ← Lib.size_eq]; omega)
    cases gk with
    | zero =>
      obtain rfl : j = b.size - k := by omega
      have HB2 := Lib.hid (show BD w B d D O F wr by rw [HF2.out]; exact hb.out)
      have HFL := HFl.out
      have HFb := Lib.hid (show F.length = b.size by rw [HFl.out, HBS.out])
      have HLen := Lib.hid (show Calls Try.prog 42 #[.pointer (some ⟨B, 0, none⟩)] wr fun e w' => e = .returned (.int .i64 b.size) ∧ wr = w' by
        have := HB2.out.len
        rw [HFb.out] at this
        exact this)
      clear hb hlen HFL
      have HBQ2 := HBQ.out
      go_wp2_with (go_at_call 42; refine HLen.out.mono ?_; rintro e w3 ⟨rfl, rfl⟩)
      clear HLen HBQ2 H2
      have HS0 := Lib.hid (show BD w B d D O F wr from HB2.out)
      obtain ⟨F2, hF2⟩ : ∃ F2 : ByteArray, F2 = ⟨F.toArray⟩ := ⟨_, rfl⟩
      have HF3 := Lib.hid (show F2.data.toList = F by rw [hF2])
      have hF2s : F2.size = b.size := by rw [hF2, ba_of, HFb.out]
      have HStr := Lib.hid (fun W E (h : BD w B d E O F W) => h.string)
      rw [← hF2] at HStr
      clear hF2
      go_loopg [23] N (fun g s23 wx => ∃ (i : Nat) (E : DK), i + g = N ∧ s23 = .int .i64 i ∧ Hid (BD w B d E O F wx) ∧ Hid (E.seen = part D.seen C 0 i ∧ E.fuse = -1 ∧ E.waits.length ≤ D.waits.length + i))
      case atStart => exact ⟨0, D, by omega, rfl, HS0, Lib.hid ⟨(part_zero _ _ _).symm, HF.out, Nat.le_refl _⟩⟩
      case round =>
        obtain ⟨i, E, hig, rfl, hE, hEE⟩ := hrel
        cases gk with
        | zero =>
          obtain rfl : i = N := by omega
          have HFin := Lib.hid (show ∃ D' O', PAt wr d D' O' ∧ Moves O O' w wr ∧ D'.seen.flatten = D.seen.flatten.take k ++ List.replicate (b.size - k) 0 ∧ D'.seen.length = D.seen.length ∧ D'.fuse = -1 ∧ D'.waits.length ≤ D.waits.length + 4096 by
            obtain ⟨O', h1, h2⟩ := hE.out.disk
            obtain ⟨e1, e2, e3⟩ := hEE.out
            have hCl := HCl.out
            have hnn := HNN.out
            refine ⟨E, O', h1, h2, ?_, ?_, e2, by omega⟩
            · rw [e1, ← hCl, part_flat h64.out (by omega), HCf.out, List.drop_eq_nil_of_le (by rw [flat_length64 _ h64.out]; omega), List.append_nil, Nat.mul_zero, List.take_zero, List.nil_append]
              exact HF2.out
            · rw [e1, part_length (by omega) (by omega)])
          go_wp2_with fail
          go_ret
          obtain ⟨D', O', h1, h2, h3⟩ := HFin.out
          exact ⟨D', O', rfl, h1, h2, h3⟩
        | succ g =>
          have hil : i < N := by omega
          have hiz : (i : Int) < (N : Int) := by omega
          have hbs := HBS.out
          have hi6 : (i + 1) * 64 ≤ b.size := by omega
          obtain ⟨x, hx⟩ : ∃ x, x = F2.extract (i * 64) ((i + 1) * 64) := ⟨_, rfl⟩
          obtain ⟨y, hy⟩ : ∃ y, y = b.extract (i * 64) ((i + 1) * 64) := ⟨_, rfl⟩
          have hxs : x.size = 64 := by rw [hx, ByteArray.size_extract]; omega
          have hxl : x.data.toList = C.getD i [] := by rw [hx, Lib.extract_data, HF3.out, HCat.out i hil, show (i + 1) * 64 - i * 64 = 64 by omega]
          have hyl : y.data.toList = D.seen.getD i [] := by rw [hy, Lib.extract_data, ← HBat.out i hil, show (i + 1) * 64 - i * 64 = 64 by omega]
          have HSx := Lib.hid (lp_sectorOf F2 i (by omega) (by omega))
          have HSy := Lib.hid (lp_sectorOf b i (by omega) hi6)
          rw [← hx] at HSx
          rw [← hy] at HSy
          have hp1 : 0 + i < D.seen.length := by rw [← HNN.out]; omega
          have hp2 : i < C.length := by rw [HCl.out]; exact hil
          have ePl := part_length (s := D.seen) (C := C) (f := 0) (i := i) (by omega) (by omega)
          by_cases he : C.getD i [] = D.seen.getD i []
          · have hbool : (x.toList == y.toList) = true := by
              rw [beq_iff_eq, Lib.toList_data, Lib.toList_data, hxl, hyl]; exact he
            have HNx := Lib.hid (show E.seen = part D.seen C 0 (i + 1) ∧ E.fuse = -1 ∧ E.waits.length ≤ D.waits.length + (i + 1) by
              obtain ⟨e1, e2, e3⟩ := hEE.out
              exact ⟨by rw [e1, part_same hp1 hp2 (by rw [Nat.zero_add]; exact he)], e2, by omega⟩)
            clear he hx hy hxl hyl hp1 hp2 ePl hbs hi6
            go_wp2_with (first
              | (go_at_call 43; refine (HStr.out _ _ hE.out).mono ?_; rintro e w4 ⟨rfl, h4⟩; have H4 := Lib.hid h4; clear h4)
              | (go_at_call 45; (with_reducible refine (HSx.out _).mono ?_); rintro e w5 ⟨rfl, rfl⟩)
              | (go_at_call 45; (with_reducible refine (HSy.out _).mono ?_); rintro e w6 ⟨rfl, rfl⟩))
            go_roundg g
            case measure => omega
            case rel => exact ⟨i + 1, E, by omega, by go_num, H4, HNx⟩
          · have hbool : (x.toList == y.toList) = false := by
              rw [beq_eq_false_iff_ne, Lib.toList_data, Lib.toList_data, hxl, hyl]; exact he
            have HNx := Lib.hid (show (E.wrote i x.data.toList).seen = part D.seen C 0 (i + 1) ∧ (E.wrote i x.data.toList).fuse = -1 ∧ (E.wrote i x.data.toList).waits.length ≤ D.waits.length + (i + 1) by
              obtain ⟨e1, e2, e3⟩ := hEE.out
              refine ⟨?_, ?_, ?_⟩
              · show E.seen.set i x.data.toList = _
                have := part_step (s := D.seen) (C := C) (f := 0) (i := i) hp1 hp2
                rw [Nat.zero_add] at this
                rw [e1, hxl, this]
              · show (if 0 < E.fuse then E.fuse - 1 else E.fuse) = -1
                rw [e2]; rfl
              · show (E.waits ++ [_]).length ≤ _
                rw [List.length_append]; simp; omega)
            have HWr := Lib.hid (fun W (h : BD w B d E O F W) => h.write i x (by rw [hEE.out.2.1]; decide) (by rw [hEE.out.1, ePl, ← HNN.out]; exact hil) hxs (by have := hEE.out.2.2; have := HW.out; omega))
            clear he hx hy hxl hyl hp1 hp2 ePl hbs hi6
            go_wp2_with (first
              | (go_at_call 43; refine (HStr.out _ _ hE.out).mono ?_; rintro e w4 ⟨rfl, h4⟩; have H4 := Lib.hid h4; clear h4)
              | (go_at_call 45; (with_reducible refine (HSx.out _).mono ?_); rintro e w5 ⟨rfl, rfl⟩)
              | (go_at_call 45; (with_reducible refine (HSy.out _).mono ?_); rintro e w6 ⟨rfl, rfl⟩)
              | (go_at_call 19; refine (HWr.out _ H4.out).mono ?_; rintro e w7 ⟨rfl, h7⟩; have H7 := Lib.hid h7; clear h7))
            go_roundg g
            case measure => omega
            case rel => exact ⟨i + 1, _, by omega, by go_num, H7, HNx⟩
    | succ g =>
      have HLen := Lib.hid (show Calls Try.prog 42 #[.pointer (some ⟨B, 0, none⟩)] wr fun e w' => e = .returned (.int .i64 ((k + j : Nat) : Int)) ∧ wr = w' by
        have := hb.out.len
        rw [hlen.out] at this
        exact this)
      have HW1 := Lib.hid (hb.out.byte (by rw [hlen.out]; omega))
      have hlt : (k : Int) + (j : Int) < (b.size : Int) := by omega
      have hltn : k + j < b.size := by omega
      clear hlen
      go_wp2_with (first
        | (go_at_call 42; refine HLen.out.mono ?_; rintro e w3 ⟨rfl, rfl⟩)
        | (go_at_call 44; refine HW1.out.mono ?_; rintro e w4 ⟨rfl, h4⟩; have H4 := Lib.hid h4; clear h4))
      go_roundg g
      case measure => omega
      case rel => exact ⟨j + 1, by omega, by have := H4.out; rw [List.append_assoc] at this; rw [List.replicate_succ']; exact Lib.hid this⟩
end Go.Proofs.Ytlkifliaaaomeaa
