/-
  The program's write: the sectors that bytes at the end touch.
-/
import Derived.Test.YtlkifliaaaomeaaLogPLog
namespace Go.Proofs.Ytlkifliaaaomeaa
open Go.RowKit
set_option linter.unusedVariables false
set_option linter.unnecessarySimpa false
set_option linter.unusedSimpArgs false
set_option maxRecDepth 100000

/-- What is written, in whole sectors. -/
def wholeB (old r : List UInt8) (n m : Nat) : List UInt8 := (old.take (n % 64) ++ r) ++ List.replicate (64 * m - (n % 64 + r.length)) 0

set_option maxHeartbeats 4000000 in
theorem lp_write {w : World} {g n : Nat} {d : Addr} {D : DK} {O : Nat → Prop} (hl : LpAt w g d n true) (h : PAt w d D O) (hg : ¬ O g) (hf : D.fuse = -1) (hN : D.seen.length ≤ 4096) (hw : D.waits.length ≤ 900000) (r : ByteArray) (hr1 : 1 ≤ r.size) (hr : n + r.size ≤ 64 * D.seen.length) :
    Calls Try.prog 27 #[.pointer (some ⟨g, 0, none⟩), .string r] w fun e w' => ∃ D' O', e = .returned (.int .i64 0) ∧ PAt w' d D' O' ∧ Moves O O' w w' ∧
      D'.seen.flatten = D.seen.flatten.take (64 * (n / 64)) ++ (wholeB (D.seen.getD (n / 64) []) r.data.toList n ((n % 64 + r.size + 63) / 64) ++ D.seen.flatten.drop (64 * (n / 64 + (n % 64 + r.size + 63) / 64))) ∧
      D'.seen.length = D.seen.length ∧ D'.fuse = -1 ∧ D'.waits.length ≤ D.waits.length + (n % 64 + r.size + 63) / 64 := by
  have h64 := Lib.hid h.1.seen
  obtain ⟨fs, hfs⟩ : ∃ fs, fs = n / 64 := ⟨_, rfl⟩
  obtain ⟨q, hq⟩ : ∃ q, q = n % 64 := ⟨_, rfl⟩
  obtain ⟨m, hm⟩ : ∃ m, m = (n % 64 + r.size + 63) / 64 := ⟨_, rfl⟩
  obtain ⟨L, hL⟩ : ∃ L, L = q + r.size := ⟨_, rfl⟩
  have hnq : n = 64 * fs + q := by omega
  have hq64 : q < 64 := by omega
  have hLm : L ≤ 64 * m := by omega
  have hLm2 : 64 * m < L + 64 := by omega
  have hfm : fs + m ≤ D.seen.length := by omega
  have hm1 : 1 ≤ m := by omega
  have hfsN : fs < D.seen.length := by omega
  obtain ⟨old, hold⟩ : ∃ old, old = D.seen.getD fs [] := ⟨_, rfl⟩
  have holdl : old.length = 64 := by
    rw [hold, List.getD, List.getElem?_eq_getElem hfsN]
    exact h.1.seen _ (List.getElem_mem _)
  obtain ⟨Sx, hSx⟩ : ∃ Sx, Sx = old.take q ++ r.data.toList := ⟨_, rfl⟩
  have hSl : Sx.length = L := by rw [hSx, List.length_append, List.length_take, ← Lib.size_eq]; omega
  obtain ⟨F, hF⟩ : ∃ F, F = wholeB old r.data.toList n m := ⟨_, rfl⟩
  have hF2 : F = Sx ++ List.replicate (64 * m - L) 0 := by rw [hF, hSx]; unfold wholeB; rw [← hq, ← Lib.size_eq, ← hL]
  have hFl : F.length = 64 * m := by rw [hF2, List.length_append, List.length_replicate, hSl]; omega
  obtain ⟨C, hC⟩ : ∃ C, C = pieces F m := ⟨_, rfl⟩
  have HCl := Lib.hid (show C.length = m by rw [hC, pieces_length])
  have HCf := Lib.hid (show C.flatten = F by rw [hC]; exact pieces_flat m F hFl)
  have HCat := Lib.hid (show ∀ i, i < m → C.getD i [] = (F.drop (i * 64)).take 64 by rw [hC]; exact fun i hi => pieces_at m F i hi)
  have hfin := Lib.hid (show ∀ E : DK, E.seen = part D.seen C fs m → E.seen.flatten = D.seen.flatten.take (64 * (n / 64)) ++ (wholeB (D.seen.getD (n / 64) []) r.data.toList n ((n % 64 + r.size + 63) / 64) ++ D.seen.flatten.drop (64 * (n / 64 + (n % 64 + r.size + 63) / 64))) ∧ E.seen.length = D.seen.length by
    intro E hE
    rw [hE]
    refine ⟨?_, part_length hfm (by rw [HCl.out]; exact Nat.le_refl _)⟩
    have := part_flat (s := D.seen) (C := C) (f := fs) h64.out (by rw [HCl.out]; exact hfm)
    rw [HCl.out, HCf.out, hF] at this
    rw [this, ← hfs, ← hm, ← hold])
  have hmx := Lib.hid (show m = (n % 64 + r.size + 63) / 64 from hm)
  have HF2 := Lib.hid hF2
  have HSl := Lib.hid hSl
  have HFl := Lib.hid hFl
  have HfmN := Lib.hid hfm
  have Hf := Lib.hid hf
  have HW := Lib.hid hw
  obtain ⟨N, hNN⟩ : ∃ N, N = D.seen.length := ⟨_, rfl⟩
  rw [← hNN] at hN hfm hfsN hr
  have HNN := Lib.hid hNN
  have HP := Lib.hid h
  have HLg := Lib.hid hl
  have Hg := Lib.hid hg
  have hgl := hl.lt
  have HR := Lib.hid (dsk.read (w := w) h fs (by rw [hf]; decide) (by rw [← hNN]; exact hfsN))
  rw [← hold] at HR
  obtain ⟨ob, hob⟩ : ∃ ob : ByteArray, ob = ⟨old.toArray⟩ := ⟨_, rfl⟩
  have hobs : ob.size = 64 := by rw [hob, ba_of, holdl]
  have hobl : ob.data.toList = old := by rw [hob]
  rw [← hob] at HR
  obtain ⟨X, hX⟩ : ∃ X, X = ob.extract 0 q := ⟨_, rfl⟩
  have hXs : X.size = q := by rw [hX, ByteArray.size_extract]; omega
  have hXl : X.data.toList = old.take q := by rw [hX, Lib.extract_data, hobl, List.drop_zero, Nat.sub_zero]
  have HX := Lib.hid hX.symm
  have hrm : r.size ≤ 262144 := by omega
  have HT1 := Lib.hid (fun W B (hW : BD w B d D O [] W) => hW.text X (by simp; omega))
  rw [hXl, List.nil_append] at HT1
  have HT2 := Lib.hid (fun W B (hW : BD w B d D O (old.take q) W) => hW.text r (by rw [List.length_take]; omega))
  rw [← hSx] at HT2
  have hqd : (n : Int).tdiv 64 = (fs : Int) := by rw [Int.tdiv_eq_ediv_of_nonneg (by omega)]; omega
  have hqm : (n : Int).tmod 64 = (q : Int) := by rw [Int.tmod_eq_emod_of_nonneg (by omega)]; omega
  have hqz : (q : Int) < 64 := by omega
  have hqz2 : (q : Int) ≤ (64 : Int) := by omega
  have hobz : (ob.size : Int) = 64 := by omega
  have c1 := hl.cn
  have c2 := hl.cd
  have hLm3 : L ≤ 64 * m ∧ 64 * m < L + 64 ∧ m ≤ 4096 := by omega
  have HNQ := Lib.hid hnq
  clear hl h hg hf hw hfs hm hq hnq hL hSx hSl hF hF2 hFl hC hold holdl hob hobl hobs hX hXl hNN hLm hLm2
  go_enter Try.func27, Try.ntmps27
  go_upto_region 5 with (go_at_call 32; refine HR.out.mono ?_; rintro e w1 ⟨rfl, hb1⟩; have HB1 := Lib.hid hb1; clear hb1)
  have HL1 := Lib.hid (HLg.out.stay (HB1.out.block g hgl))
  have HP1 := Lib.hid (HP.out.stay (fun k hk => HB1.out.block k (HP.out.lt k hk)))
  have HBD := Lib.hid (BD.new HP1.out (Moves.of_below HB1.out))
  obtain ⟨B, hB⟩ : ∃ B, B = w1.heap.size := ⟨_, rfl⟩
  have HBs := Lib.hid hB
  rw [← hB] at HBD
  clear hB
  go_upto_region 6 with fail
  rw [← HBs.out]
  obtain ⟨w2, hw2⟩ : ∃ w2, w2 = w1.alloc (.cells #[.pointer none, .slice none 0 0] 81) := ⟨_, rfl⟩
  have hBl : w.heap.size ≤ B := by rw [HBs.out]; exact HB1.out.size
  rw [← hw2] at HBD
  rw [← hw2]
  clear hw2 HBs HB1 HL1 HP1 HR c1 c2
  have HLW := Lib.hid (fun W E l (hW : BD w B d E O l W) => HLg.out.stay (hW.block hgl Hg.out))
  have c3 := (HLW.out _ _ _ HBD.out).cn
  go_upto_block 0 with (first
    | (go_at_call 41; rw [HX.out]; (with_reducible refine (HT1.out _ _ HBD.out).mono ?_); rintro e w3 ⟨rfl, h3⟩; have H3 := Lib.hid h3; clear h3)
    | (go_at_call 41; (with_reducible refine (HT2.out _ _ H3.out).mono ?_); rintro e w4 ⟨rfl, h4⟩; have H4 := Lib.hid h4; clear h4))
  clear HT1 HT2 HBD HX c3 hqd hqm hqz hqz2 hobz
  have HL3 := Lib.hid hLm3
  have hmz : m ≤ 4096 := hLm3.2.2
  obtain ⟨z, hz⟩ : ∃ z, z = 64 * m - L := ⟨_, rfl⟩
  have hz64 : z < 64 ∧ L + z = 64 * m := by omega
  have HZ := Lib.hid hz64
  rw [← hz] at HF2
  clear hz hLm3 hz64
  go_wp2_with fail
  go_loopg [38] z (fun g2 s38 wx => ∃ j : Nat, j + g2 = z ∧ Hid (BD w B d D O (Sx ++ List.replicate j 0) wx))
  case atStart => exact ⟨0, by omega, by simpa using H4⟩
  case round =>
    obtain ⟨j, hjg, hb⟩ := hrel
    obtain ⟨M, hM⟩ : ∃ M, M = L + j := ⟨_, rfl⟩
    have HLen := Lib.hid (show Calls Try.prog 42 #[.pointer (some ⟨B, 0, none⟩)] wr fun e w' => e = .returned (.int .i64 (M : Nat)) ∧ wr = w' by
      have := hb.out.len
      rw [List.length_append, List.length_replicate, HSl.out, ← hM] at this
      exact this)
    cases gk with
    | zero =>
      obtain rfl : j = z := by omega
      have hM64 : M = 64 * m := by have := HZ.out; omega
      have e1 : (M : Int).tmod 64 = 0 := by rw [Int.tmod_eq_emod_of_nonneg (by omega)]; omega
      have e2 : (M : Int).tdiv 64 = (m : Int) := by rw [Int.tdiv_eq_ediv_of_nonneg (by omega)]; omega
      have HB2 := Lib.hid (show BD w B d D O F wr by rw [HF2.out]; exact hb.out)
      have HM := Lib.hid hM
      clear hb hM hM64 H4
      go_upto_region 10 with (go_at_call 42; refine HLen.out.mono ?_; rintro e w5 ⟨rfl, rfl⟩)
      go_wp2_with (go_at_call 42; refine HLen.out.mono ?_; rintro e w6 ⟨rfl, rfl⟩)
      clear e1 e2 HLen
      obtain ⟨F2, hF2⟩ : ∃ F2 : ByteArray, F2 = ⟨F.toArray⟩ := ⟨_, rfl⟩
      have HF3 := Lib.hid (show F2.data.toList = F by rw [hF2])
      have HF3s := Lib.hid (show F2.size = 64 * m by rw [hF2, ba_of, HFl.out])
      have HStr := Lib.hid (fun W E (h : BD w B d E O F W) => h.string)
      rw [← hF2] at HStr
      clear hF2
      go_loopg [44] m (fun g2 s44 wx => ∃ (i : Nat) (E : DK), i + g2 = m ∧ s44 = .int .i64 i ∧ Hid (BD w B d E O F wx) ∧ Hid (E.seen = part D.seen C fs i ∧ E.fuse = -1 ∧ E.waits.length ≤ D.waits.length + i))
      case atStart => exact ⟨0, D, by omega, rfl, HB2, Lib.hid ⟨(part_zero _ _ _).symm, Hf.out, Nat.le_refl _⟩⟩
      case round =>
        obtain ⟨i, E, hig, rfl, hE, hEE⟩ := hrel
        cases gk with
        | zero =>
          obtain rfl : i = m := by omega
          go_wp2_with fail
          go_ret
          obtain ⟨O', h1, h2⟩ := hE.out.disk
          obtain ⟨q1, q2, q3⟩ := hEE.out
          obtain ⟨q4, q5⟩ := hfin.out E q1
          exact ⟨E, O', rfl, h1, h2, q4, q5, q2, by rw [← hmx.out]; exact q3⟩
        | succ g2 =>
          have hil : i < m := by omega
          have hiz : (i : Int) < (m : Int) := by omega
          have hF2s := HF3s.out
          obtain ⟨x, hx⟩ : ∃ x, x = F2.extract (i * 64) ((i + 1) * 64) := ⟨_, rfl⟩
          have hxs : x.size = 64 := by rw [hx, ByteArray.size_extract]; omega
          have hxl : x.data.toList = C.getD i [] := by rw [hx, Lib.extract_data, HF3.out, HCat.out i hil, show (i + 1) * 64 - i * 64 = 64 by omega]
          have HSx := Lib.hid (lp_sectorOf F2 i (by omega) (by omega))
          rw [← hx] at HSx
          have hp1 : fs + i < D.seen.length := by have := HfmN.out; omega
          have hp2 : i < C.length := by rw [HCl.out]; exact hil
          have ePl := part_length (s := D.seen) (C := C) (f := fs) (i := i) (by omega) (by omega)
          have HNx := Lib.hid (show (E.wrote (fs + i) x.data.toList).seen = part D.seen C fs (i + 1) ∧ (E.wrote (fs + i) x.data.toList).fuse = -1 ∧ (E.wrote (fs + i) x.data.toList).waits.length ≤ D.waits.length + (i + 1) by
            obtain ⟨e1, e2, e3⟩ := hEE.out
            refine ⟨?_, ?_, ?_⟩
            · show E.seen.set (fs + i) x.data.toList = _
              rw [e1, hxl, part_step hp1 hp2]
            · show (if 0 < E.fuse then E.fuse - 1 else E.fuse) = -1
              rw [e2]; rfl
            · show (E.waits ++ [_]).length ≤ _
              rw [List.length_append]; simp; omega)
          have HWr := Lib.hid (fun W (h : BD w B d E O F W) => h.write (fs + i) x (by rw [hEE.out.2.1]; decide) (by rw [hEE.out.1, ePl]; exact hp1) hxs (by have := hEE.out.2.2; have := HW.out; omega))
          have hcast : (((fs + i : Nat) : Nat) : Int) = (fs : Int) + (i : Int) := by omega
          rw [hcast] at HWr
          have hfz : (fs : Int) < 4097 := by have := HfmN.out; omega
          have hii : (i : Int) < 4097 := by omega
          have hadd : IntKind.i64.wrap ((fs : Int) + (i : Int)) = (fs : Int) + (i : Int) := IntWalk.i64_in _ (by omega)
          clear hx hxl hp1 hp2 ePl hF2s hcast
          go_upto_region 13 with fail
          have cA := (HLW.out _ _ _ hE.out).cd
          have hEd := Lib.hid (show BD w B d E O F wr.drew from hE.out.stay (Below.refl _ _).drew)
          go_cut [10] (fun s10 wc => s10 = .int .i64 0 ∧ Hid (BD w B d (E.wrote (fs + i) x.data.toList) O F wc))
          case first =>
            go_region_with (first
              | (go_at_call 43; refine (HStr.out _ _ hEd.out).mono ?_; rintro e w7 ⟨rfl, h7⟩; have H7 := Lib.hid h7; have cB := (HLW.out _ _ _ h7).cd; clear h7)
              | (go_at_call 45; (with_reducible refine (HSx.out _).mono ?_); rintro e w8 ⟨rfl, rfl⟩)
              | (go_at_call 19; refine (HWr.out _ H7.out).mono ?_; rintro e w9 ⟨rfl, h9⟩; have H9 := Lib.hid h9; clear h9))
            all_goals
              go_wp2_with fail
              go_meet
              case rel => exact ⟨rfl, H9⟩
          case rest =>
            obtain ⟨rfl, HC9⟩ := hcut
            go_wp2_with fail
            go_roundg g2
            case measure => omega
            case rel => exact ⟨i + 1, _, by omega, by go_num, HC9, HNx⟩
    | succ g2 =>
      have hlt : M < 64 * m := by have := HZ.out; omega
      obtain ⟨x, hx⟩ : ∃ x, x = M % 64 := ⟨_, rfl⟩
      have hx0 : x ≠ 0 := by have := HZ.out; omega
      have e1 : (M : Int).tmod 64 = (x : Int) := by rw [Int.tmod_eq_emod_of_nonneg (by omega)]; omega
      have e2 : ((x : Int) != 0) = true := by rw [bne_iff_ne]; omega
      have e3 : ((x : Int) == 0) = false := by rw [beq_eq_false_iff_ne]; omega
      have HW1 := Lib.hid (hb.out.byte (by rw [List.length_append, List.length_replicate, HSl.out]; omega))
      have HMj := Lib.hid hM
      clear hM hx hlt H4
      go_wp2_with (first
        | (go_at_call 42; refine HLen.out.mono ?_; rintro e w3 ⟨rfl, rfl⟩)
        | (go_at_call 44; refine HW1.out.mono ?_; rintro e w4 ⟨rfl, h4⟩; have H4 := Lib.hid h4; clear h4))
      go_roundg g2
      case measure => omega
      case rel => exact ⟨j + 1, by omega, by have := H4.out; rw [List.append_assoc] at this; rw [List.replicate_succ']; exact Lib.hid this⟩
end Go.Proofs.Ytlkifliaaaomeaa
