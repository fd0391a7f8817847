/-
  DiskPlays, from what is asked of the program's disk.
-/
import Derived.Test.YtmgdjnkdnakmhaaDskBoth
import Derived.Laws.Rows
import Derived.Laws.Tables
namespace Go.Proofs.Ytmgdjnkdnakmhaa
open Go.RowKit
set_option linter.unusedVariables false
set_option linter.unnecessarySimpa false
set_option linter.unusedSimpArgs false
set_option maxRecDepth 100000

theorem flat_zero (m : Nat) : (List.replicate m (fullB 0)).flatten = List.replicate (64 * m) 0 := by
  induction m with
  | zero => rfl
  | succ m ih => rw [List.replicate_succ, List.flatten_cons, ih, fullB, List.replicate_append_replicate]; congr 1; omega
theorem both_new (S : Dsk) {w1 w2 w3 : World} {r1 : Addr} {m : Nat} {O1 : Nat → Prop} {e : Ending} (hm : m ≤ 4096) (h1 : S.At w2 r1 (DK.new m) O1) (hmv : Moves (fun _ => False) O1 w1 w2) (h2 : NewOut w2 m e w3) :
    ∃ g2, e = .returned (.pointer (some ⟨g2, 0, none⟩)) ∧ Both S w1 w1.heap.size r1 ⟨g2, 0, none⟩ (DK.new m) (DK.new m) w3 := by
  obtain ⟨g, gs, gn, he, hp, hg1, hg2, hg3, hb⟩ := h2
  have hat := RefP.whole (D := DK.new m) (N := 64 * m) (by simpa [DK.new, flat_zero] using hp) (by simp [DK.new])
  have hf1 : ∀ k, O1 k → w1.heap.size ≤ k := fun k hk => (hmv.own k hk).elim (fun h => h.elim) id
  have hO2 : ∀ k, refOwn g gs gn (.slice none 0 0) (.slice none 0 0) k → w2.heap.size ≤ k := by
    rintro k (rfl | rfl | rfl | hk | hk)
    · exact hg1
    · exact hg2
    · exact hg3
    · simp [Value.ownBlock] at hk
    · simp [Value.ownBlock] at hk
  refine ⟨g, he, O1, refOwn g gs gn (.slice none 0 0) (.slice none 0 0), ?_⟩
  exact ⟨S.stay h1 (fun k hk => hb.block k (S.lt h1 k hk)), ⟨DK.new_ok hm, g, _, gs, gn, _, _, rfl, hat, fun _ => Iff.rfl⟩, hf1, fun k hk => Nat.le_trans hmv.size (hO2 k hk),
    fun k hk hk2 => by have := S.lt h1 k hk; have := hO2 k hk2; omega, (hmv.below (B := w1.heap.size) (fun k h => h.elim) (Nat.le_refl _)).trans (hb.mono hmv.size), Nat.le_trans hmv.size hb.size⟩

theorem OpAt.below {w w' : World} {b k : Nat} {z : Opz} (h1 : OpAt w b k z) (hb : Below w.heap.size w w') (hbl : b < w.heap.size) : OpAt w' b k z := by
  have hc : ∀ j, w'.cell? ⟨b, j, none⟩ = w.cell? ⟨b, j, none⟩ := fun j => hb.cell (p := ⟨b, j, none⟩) hbl
  refine ⟨h1.kind, h1.i, h1.n, h1.fl, h1.sz, by rw [hc]; exact h1.c0, by rw [hc]; exact h1.c1, by rw [hc]; exact h1.c2, by rw [hc]; exact h1.c3, by rw [hc]; exact h1.c4, h1.fates.1, fun h2 => ?_⟩
  obtain ⟨b2, off2, e2, hbl2, hcf⟩ := h1.fates.2 h2
  exact ⟨b2, off2, e2, Nat.lt_of_lt_of_le hbl2 hb.size, fun i hi => by rw [hb.cell (p := ⟨b2, off2 + i, none⟩) hbl2]; exact hcf i hi⟩
theorem IsOps.below {w w' : World} {a : Option Addr} {len cap : Nat} {zs : List Opz} (hz : IsOps w a len cap zs) (hb : Below w.heap.size w w') : IsOps w' a len cap zs := by
  refine ⟨hz.1, hz.2.1, fun h => ?_⟩
  obtain ⟨b, off, e, hbl, hop⟩ := hz.2.2 h
  exact ⟨b, off, e, Nat.lt_of_lt_of_le hbl hb.size, fun i hi => (hop i hi).below hb hbl⟩
theorem opSize : (Try.prog.info? 32).map (·.size) = some 5 := by kernel_rfl

set_option maxHeartbeats 4000000 in
theorem diskPlays_no (S : Dsk) (a0 : Int) (h0 : (Lit.int .i8 a0).wf = true) (a : Option Addr) (len cap : Nat) (zs : List Opz) (w : World) (hz : IsOps w a len cap zs) (hf : ¬ FewOps zs 120 ∨ 30 < a0) :
    Calls Try.prog 3 #[.int .i8 a0, .slice a len cap] w fun e w' => e = .returned (.bool true) ∧ Below w.heap.size w w' := by
  have haw := Lib.hid (dskAwake_any S)
  have hbz := fun w' (hb : Below w.heap.size w w') => hz.below hb
  by_cases hfw : FewOps zs 120
  · have h30 : 30 < a0 := hf.resolve_left (fun h => h hfw)
    have hy := Lib.hid (fun w' hb => few_yes a len cap 120 zs w' (hbz w' hb) (by omega) hfw)
    clear hbz hz hf hfw h0
    go_enter Try.func3, Try.ntmps3
    go_upto_region 2 with (first
      | (go_at_call 6; refine (haw.out _).mono ?_; rintro e w1 ⟨rfl, hb1⟩)
      | (go_at_call 7; refine (hy.out _ hb1).mono ?_; rintro e w2 ⟨rfl, rfl⟩))
    go_wp2_with (go_at_call 6; refine (haw.out _).mono ?_; rintro e w3 ⟨rfl, hb3⟩)
    go_ret
    exact ⟨rfl, hb1.trans (hb3.mono hb1.size)⟩
  · have hy := Lib.hid (fun w' hb => few_no a len cap 120 zs w' (hbz w' hb) (by omega) hfw)
    clear hbz hz hf hfw h0
    go_enter Try.func3, Try.ntmps3
    go_upto_region 2 with (first
      | (go_at_call 6; refine (haw.out _).mono ?_; rintro e w1 ⟨rfl, hb1⟩)
      | (go_at_call 7; refine (hy.out _ hb1).mono ?_; rintro e w2 ⟨rfl, rfl⟩))
    go_wp2_with (go_at_call 6; refine (haw.out _).mono ?_; rintro e w3 ⟨rfl, hb3⟩)
    go_ret
    exact ⟨rfl, hb1.trans (hb3.mono hb1.size)⟩

set_option maxHeartbeats 4000000 in
theorem diskPlays_yes (S : Dsk) (a0 : Int) (h0 : (Lit.int .i8 a0).wf = true) (a : Option Addr) (len cap : Nat) (zs : List Opz) (w : World) (hz : IsOps w a len cap zs) (hf : FewOps zs 120) (h30 : ¬ 30 < a0) :
    Calls Try.prog 3 #[.int .i8 a0, .slice a len cap] w fun e w' => e = .returned (.bool true) ∧ Below w.heap.size w w' := by
  have hbd := bounds_i8 h0
  obtain ⟨hbd1, hbd2⟩ := hbd
  have haw := Lib.hid (dskAwake_any S)
  have hlen : len ≤ 120 := by rw [← hz.1]; exact hf.2
  have hy := Lib.hid (fun w' hb => few_yes a len cap 120 zs w' (hz.below hb) (by omega) hf)
  have hnw := Lib.hid (fun w => S.new a0 w (by omega) (by omega))
  have hrn := Lib.hid (fun w => refNew_any a0 (by omega) (by omega) w)
  have HZ := Lib.hid hz
  have HF := Lib.hid hf
  clear hz hf h0
  go_enter Try.func3, Try.ntmps3
  go_upto_region 4 with (first
    | (go_at_call 6; refine (haw.out _).mono ?_; rintro e w1 ⟨rfl, hb1⟩)
    | (go_at_call 7; refine (hy.out _ hb1).mono ?_; rintro e w2 ⟨rfl, rfl⟩)
    | (go_at_call 8; refine (hnw.out _).mono ?_; rintro e w3 ⟨r1, O1, rfl, hat, hmv⟩)
    | (go_at_call 9; refine (hrn.out _).mono ?_; rintro e w4 hno; obtain ⟨g2, rfl, hbo⟩ := both_new S (clampD_le a0) hat hmv hno))
  have HB0 := Lib.hid hbo
  have HW1 := Lib.hid hb1
  obtain ⟨B, hB⟩ : ∃ B, B = w2.heap.size := ⟨_, rfl⟩
  rw [← hB] at HB0
  have hBw := Lib.hid (show w.heap.size ≤ B by rw [hB]; exact hb1.size)
  have HB := Lib.hid hB
  clear hbo hat hmv hno hb1 hB hnw hrn hy haw
  go_wp2_with fail
  go_loopg [7] len (fun g s7 wx => ∃ (i : Nat) (D : DK), i + g = len ∧ s7 = .int .i64 i ∧ Hid (D.waits.length ≤ i) ∧ Hid (Both S w2 B r1 ⟨g2, 0, none⟩ D D wx))
  case atStart => exact ⟨0, DK.new (clampD a0), by omega, rfl, Lib.hid (Nat.le_refl _), HB0⟩
  case round =>
    obtain ⟨i, D, hig, rfl, hwt, hbo⟩ := hrel
    have hbx := hbo.out.below
    have HX := Lib.hid (show Below w.heap.size w wr from HW1.out.trans (hbx.mono hBw.out))
    cases gk with
    | zero =>
      obtain rfl : len = i := by omega
      have hcn := Lib.hid hbo.out.crashNil
      go_upto_region 26 with (go_at_call 14; (with_reducible refine (hcn.out).mono ?_); rintro e wc ⟨rfl, hbc⟩)
      obtain ⟨gs, N, hN, hL, hends⟩ := hbc.ends
      have HE := Lib.hid hends
      have HWC := Lib.hid (show Below w.heap.size w wc from HW1.out.trans (hbc.below.mono hBw.out))
      obtain ⟨L, hLL⟩ : ∃ L, L = D.sure.length := ⟨_, rfl⟩
      rw [← hLL] at hN hL HE
      have hNz : (N : Int) = 64 * (L : Int) := by omega
      have HNZ := Lib.hid hNz
      have HN := Lib.hid hN
      clear hends hLL hN hbc hcn hbo hbx hwt HX hig hNz
      have hk64 := Lib.hid (show IntKind.i64.wrap (64 * (L : Int)) = (N : Int) by rw [← HNZ.out]; exact IntWalk.i64_in _ (by have := HN.out; omega))
      go_wp2_with fail
      go_loopg [15] L (fun g s15 wx => ∃ i : Nat, i + g = L ∧ s15 = .int .i64 i ∧ Hid (Below wc.heap.size wc wx))
      case atStart => exact ⟨0, by omega, rfl, Lib.hid (Below.refl _ _)⟩
      case round =>
        obtain ⟨i, hig, rfl, hbx⟩ := hrel
        have E1 := Lib.hid (HE.out _ hbx.out)
        have hs1 := Lib.hid E1.out.sectors
        cases gk with
        | zero =>
          obtain rfl : L = i := by omega
          go_upto_region 32 with (go_at_call 17; refine (hs1.out).mono ?_; rintro e wk ⟨rfl, hbk⟩)
          have HBK := Lib.hid (hbx.out.trans (hbk.mono hbx.out.size))
          have hcell := fun x : Like wk.heap.size wk => (HE.out x.val (HBK.out.trans (x.below.mono HBK.out.size))).cell
          have HSE := Lib.hid (fun x : Like wk.heap.size wk => (HE.out x.val (HBK.out.trans (x.below.mono HBK.out.size))).sectors)
          have hkk := hk64.out
          clear hbk
          refine region_likes (by kernel_rfl) (by kernel_rfl) ?_
          repeat (go_big_quiet_step ((go_at_call 17; exact calls_likes (Like.size _) (HSE.out _))))
          refine wpQuiet_nil ?_
          intro x
          have HF := Lib.hid (HWC.out.trans ((HBK.out.trans (x.below.mono HBK.out.size)).mono HWC.out.size))
          go_wp2_with fail
          go_ret
          exact ⟨rfl, HF.out⟩
        | succ g =>
          have hil : i < L := by omega
          have hiz : (i : Int) < (L : Int) := by omega
          obtain ⟨X, hX⟩ : ∃ X : ByteArray, X = ⟨(D.sure.getD i []).toArray⟩ := ⟨_, rfl⟩
          have hrd := Lib.hid (fun W' (hb : Below wc.heap.size wc W') => (HE.out _ hb).read i hil)
          have hcv := Lib.hid (fun W' (hb : Below wc.heap.size wc W') => (HE.out _ hb).conv i hil)
          have hce := Lib.hid (fun W' (hb : Below wc.heap.size wc W') => (HE.out _ hb).cell)
          rw [← hX] at hrd hcv
          clear hX
          have hN1 : 64 * i + 64 ≤ N := by have := HN.out; omega
          have hN2 : N ≤ 300000 := by have := HN.out; omega
          go_upto_region 29 with (go_at_call 17; refine (hs1.out).mono ?_; rintro e wk ⟨rfl, hbk⟩)
          have HBK := Lib.hid (hbx.out.trans (hbk.mono hbx.out.size))
          clear hbk
          go_upto_region 30 with (go_at_call 11; refine (hrd.out _ HBK.out).mono ?_; rintro e wl ⟨rfl, hbl2⟩)
          have HBL := Lib.hid (HBK.out.trans (hbl2.mono HBK.out.size))
          have hce2 := hce.out _ HBL.out
          have hcv2 := hcv.out _ HBL.out
          clear hbl2
          go_wp2_with fail
          go_roundg g
          case measure => omega
          case rel => exact ⟨i + 1, by omega, by go_num, HBL⟩
    | succ g =>
      have hil : i < len := by omega
      have hiz : (i : Int) < (len : Int) := by omega
      obtain ⟨b, off, rfl, hbl, hop⟩ := HZ.out.2.2 (by omega)
      have hqw := hop i hil
      have hq := hqw.below HX.out hbl
      have hsm := HF.out.1 i (by rw [HZ.out.1]; exact hil) (by omega)
      obtain ⟨z, hzz⟩ : ∃ z, z = zs.getD i opz0 := ⟨_, rfl⟩
      rw [← hzz] at hq hsm hqw
      have c0 := hq.c0
      have c1 := hq.c1
      have c2 := hq.c2
      have c3 := hq.c3
      have c4 := hq.c4
      have hkb := hq.kind
      obtain ⟨D', X, E, hdw, hps⟩ := play_steps S w w2 B r1 ⟨g2, 0, none⟩ D wr.heap.size z HW1.out hBw.out hq.n hqw.fates (by have := hsm.2; omega) (by have := hwt.out; omega)
      have HDW := Lib.hid hdw
      obtain ⟨W1, hW⟩ : ∃ W1, W1 = wr.alloc (.cells #[.int .u8 (z.o.kind : Int), .int .i64 z.o.i, .int .i64 z.o.n, .string z.o.b, .slice z.o.fa z.o.fl z.o.fc] 32) := ⟨_, rfl⟩
      have hbo1 : BothO S w2 B r1 ⟨g2, 0, none⟩ D D wr.heap.size z.o.cells W1 := by rw [hW]; exact hbo.out.alloc z.o.cells
      have o0 : W1.cell? ⟨wr.heap.size, 0, none⟩ = some (.int .u8 (z.o.kind : Int)) := by rw [hW]; go_simp
      have o1 : W1.cell? ⟨wr.heap.size, 1, none⟩ = some (.int .i64 z.o.i) := by rw [hW]; go_simp
      have o2 : W1.cell? ⟨wr.heap.size, 2, none⟩ = some (.int .i64 z.o.n) := by rw [hW]; go_simp
      have o3 : W1.cell? ⟨wr.heap.size, 3, none⟩ = some (.string z.o.b) := by rw [hW]; go_simp
      have o4 : W1.cell? ⟨wr.heap.size, 4, none⟩ = some (.slice z.o.fa z.o.fl z.o.fc) := by rw [hW]; go_simp
      obtain ⟨cs, hcs⟩ : ∃ cs, cs = z.o.cells := ⟨_, rfl⟩
      have hcz := Lib.hid (show (Try.prog.info? 32).map (·.size) = some cs.size by rw [hcs]; exact opSize)
      rw [← hcs] at hps hbo1
      clear hcs hop hq hqw hsm hzz hbx hbl hdw
      go_upto_region 9 with fail
      rw [← hW]
      clear hW c0 c1 c2 c3 c4
      obtain ⟨q, hqq⟩ : ∃ q, q = wr.heap.size := ⟨_, rfl⟩
      rw [← hqq] at hps hbo1 o0 o1 o2 o3 o4 ⊢
      clear hqq
      by_cases k0 : z.o.kind % 5 = 0
      · have hk5 := k0
        obtain rfl : X = ⟨#[]⟩ := hps.x (by omega)
        have HPR := Lib.hid (hps.wr hk5)
        have HRF := Lib.hid hps.rf
        have hkz : (z.o.kind : Int) % 5 = 0 := by omega
        clear hps hk5 k0
        go_upto_region 23 with (first
          | (go_at_call 10; (with_reducible refine (HPR.out _ (by assumption)).mono ?_); rintro e wp ⟨rfl, hbp⟩)
          | (go_at_call 11; (with_reducible refine (HPR.out _ (by assumption)).mono ?_); rintro e wp ⟨rfl, hbp⟩)
          | (go_at_call 12; (with_reducible refine (HPR.out _ (by assumption)).mono ?_); rintro e wp ⟨rfl, hbp⟩)
          | (go_at_call 13; (with_reducible refine (HPR.out _ (by assumption)).mono ?_); rintro e wp ⟨rfl, hbp⟩)
          | (go_at_call 14; (with_reducible refine (HPR.out _ (by assumption)).mono ?_); rintro e wp ⟨rfl, hbp⟩)
          | (refine wpList_load_row rfl 32 _ rfl q rfl 32 cs (0, 0) _ (BothO.row hbp) Try.underlying32 rfl hcz.out ?_; dsimp only [Act.put])
          | (go_at_call 15; (with_reducible refine (HRF.out _ (by assumption)).mono ?_); rintro e wq ⟨rfl, hbq⟩))
        have hbf := hbq.both
        obtain ⟨hwc, aa, ca, hct⟩ := hbf.facts
        have HWC := Lib.hid hwc
        have HBF := Lib.hid hbf
        have hct := fun x : Like wq.heap.size wq => hct x.val x.below
        obtain ⟨m, hm⟩ : ∃ m, m = D'.waits.length := ⟨_, rfl⟩
        rw [← hm] at HWC hct
        clear hm hwc hbf hbq hbp HPR HRF
        refine region_likes (by kernel_rfl) (by kernel_rfl) ?_
        repeat (go_big_quiet_step ((go_at_call 16; exact calls_likes (Like.size _) (HWC.out _ (Like.below _)))))
        refine wpQuiet_nil ?_
        intro x
        have HBX := Lib.hid (HBF.out.stay x.below)
        go_wp2_with fail
        go_roundg g
        case measure => omega
        case rel => exact ⟨i + 1, D', by omega, by go_num, Lib.hid (by have := hwt.out; have := HDW.out; omega), HBX⟩
      by_cases k1 : z.o.kind % 5 = 1
      · have hk5 := k1
        have HPR := Lib.hid (hps.rd hk5)
        have HRF := Lib.hid hps.rf
        have hkz : (z.o.kind : Int) % 5 = 1 := by omega
        clear hps hk5 k0 k1
        go_upto_region 23 with (first
          | (go_at_call 10; (with_reducible refine (HPR.out _ (by assumption)).mono ?_); rintro e wp ⟨rfl, hbp⟩)
          | (go_at_call 11; (with_reducible refine (HPR.out _ (by assumption)).mono ?_); rintro e wp ⟨rfl, hbp⟩)
          | (go_at_call 12; (with_reducible refine (HPR.out _ (by assumption)).mono ?_); rintro e wp ⟨rfl, hbp⟩)
          | (go_at_call 13; (with_reducible refine (HPR.out _ (by assumption)).mono ?_); rintro e wp ⟨rfl, hbp⟩)
          | (go_at_call 14; (with_reducible refine (HPR.out _ (by assumption)).mono ?_); rintro e wp ⟨rfl, hbp⟩)
          | (refine wpList_load_row rfl 32 _ rfl q rfl 32 cs (0, 0) _ (BothO.row hbp) Try.underlying32 rfl hcz.out ?_; dsimp only [Act.put])
          | (go_at_call 15; (with_reducible refine (HRF.out _ (by assumption)).mono ?_); rintro e wq ⟨rfl, hbq⟩))
        have hbf := hbq.both
        obtain ⟨hwc, aa, ca, hct⟩ := hbf.facts
        have HWC := Lib.hid hwc
        have HBF := Lib.hid hbf
        have hct := fun x : Like wq.heap.size wq => hct x.val x.below
        obtain ⟨m, hm⟩ : ∃ m, m = D'.waits.length := ⟨_, rfl⟩
        rw [← hm] at HWC hct
        clear hm hwc hbf hbq hbp HPR HRF
        refine region_likes (by kernel_rfl) (by kernel_rfl) ?_
        repeat (go_big_quiet_step ((go_at_call 16; exact calls_likes (Like.size _) (HWC.out _ (Like.below _)))))
        refine wpQuiet_nil ?_
        intro x
        have HBX := Lib.hid (HBF.out.stay x.below)
        go_wp2_with fail
        go_roundg g
        case measure => omega
        case rel => exact ⟨i + 1, D', by omega, by go_num, Lib.hid (by have := hwt.out; have := HDW.out; omega), HBX⟩
      by_cases k2 : z.o.kind % 5 = 2
      · have hk5 := k2
        obtain rfl : X = ⟨#[]⟩ := hps.x (by omega)
        have HPR := Lib.hid (hps.sy hk5)
        have HRF := Lib.hid hps.rf
        have hkz : (z.o.kind : Int) % 5 = 2 := by omega
        clear hps hk5 k0 k1 k2
        go_upto_region 23 with (first
          | (go_at_call 10; (with_reducible refine (HPR.out _ (by assumption)).mono ?_); rintro e wp ⟨rfl, hbp⟩)
          | (go_at_call 11; (with_reducible refine (HPR.out _ (by assumption)).mono ?_); rintro e wp ⟨rfl, hbp⟩)
          | (go_at_call 12; (with_reducible refine (HPR.out _ (by assumption)).mono ?_); rintro e wp ⟨rfl, hbp⟩)
          | (go_at_call 13; (with_reducible refine (HPR.out _ (by assumption)).mono ?_); rintro e wp ⟨rfl, hbp⟩)
          | (go_at_call 14; (with_reducible refine (HPR.out _ (by assumption)).mono ?_); rintro e wp ⟨rfl, hbp⟩)
          | (refine wpList_load_row rfl 32 _ rfl q rfl 32 cs (0, 0) _ (BothO.row hbp) Try.underlying32 rfl hcz.out ?_; dsimp only [Act.put])
          | (go_at_call 15; (with_reducible refine (HRF.out _ (by assumption)).mono ?_); rintro e wq ⟨rfl, hbq⟩))
        have hbf := hbq.both
        obtain ⟨hwc, aa, ca, hct⟩ := hbf.facts
        have HWC := Lib.hid hwc
        have HBF := Lib.hid hbf
        have hct := fun x : Like wq.heap.size wq => hct x.val x.below
        obtain ⟨m, hm⟩ : ∃ m, m = D'.waits.length := ⟨_, rfl⟩
        rw [← hm] at HWC hct
        clear hm hwc hbf hbq hbp HPR HRF
        refine region_likes (by kernel_rfl) (by kernel_rfl) ?_
        repeat (go_big_quiet_step ((go_at_call 16; exact calls_likes (Like.size _) (HWC.out _ (Like.below _)))))
        refine wpQuiet_nil ?_
        intro x
        have HBX := Lib.hid (HBF.out.stay x.below)
        go_wp2_with fail
        go_roundg g
        case measure => omega
        case rel => exact ⟨i + 1, D', by omega, by go_num, Lib.hid (by have := hwt.out; have := HDW.out; omega), HBX⟩
      by_cases k3 : z.o.kind % 5 = 3
      · have hk5 := k3
        obtain rfl : X = ⟨#[]⟩ := hps.x (by omega)
        obtain rfl : E = 0 := hps.e (by omega)
        have HPR := Lib.hid (hps.fu hk5)
        have HRF := Lib.hid hps.rf
        have hkz : (z.o.kind : Int) % 5 = 3 := by omega
        clear hps hk5 k0 k1 k2 k3
        go_upto_region 23 with (first
          | (go_at_call 10; (with_reducible refine (HPR.out _ (by assumption)).mono ?_); rintro e wp ⟨rfl, hbp⟩)
          | (go_at_call 11; (with_reducible refine (HPR.out _ (by assumption)).mono ?_); rintro e wp ⟨rfl, hbp⟩)
          | (go_at_call 12; (with_reducible refine (HPR.out _ (by assumption)).mono ?_); rintro e wp ⟨rfl, hbp⟩)
          | (go_at_call 13; (with_reducible refine (HPR.out _ (by assumption)).mono ?_); rintro e wp ⟨rfl, hbp⟩)
          | (go_at_call 14; (with_reducible refine (HPR.out _ (by assumption)).mono ?_); rintro e wp ⟨rfl, hbp⟩)
          | (refine wpList_load_row rfl 32 _ rfl q rfl 32 cs (0, 0) _ (BothO.row hbp) Try.underlying32 rfl hcz.out ?_; dsimp only [Act.put])
          | (go_at_call 15; (with_reducible refine (HRF.out _ (by assumption)).mono ?_); rintro e wq ⟨rfl, hbq⟩))
        have hbf := hbq.both
        obtain ⟨hwc, aa, ca, hct⟩ := hbf.facts
        have HWC := Lib.hid hwc
        have HBF := Lib.hid hbf
        have hct := fun x : Like wq.heap.size wq => hct x.val x.below
        obtain ⟨m, hm⟩ : ∃ m, m = D'.waits.length := ⟨_, rfl⟩
        rw [← hm] at HWC hct
        clear hm hwc hbf hbq hbp HPR HRF
        refine region_likes (by kernel_rfl) (by kernel_rfl) ?_
        repeat (go_big_quiet_step ((go_at_call 16; exact calls_likes (Like.size _) (HWC.out _ (Like.below _)))))
        refine wpQuiet_nil ?_
        intro x
        have HBX := Lib.hid (HBF.out.stay x.below)
        go_wp2_with fail
        go_roundg g
        case measure => omega
        case rel => exact ⟨i + 1, D', by omega, by go_num, Lib.hid (by have := hwt.out; have := HDW.out; omega), HBX⟩
      · have hk5 : z.o.kind % 5 = 4 := by omega
        obtain rfl : X = ⟨#[]⟩ := hps.x (by omega)
        obtain rfl : E = 0 := hps.e (by omega)
        have HPR := Lib.hid (hps.cr hk5)
        have HRF := Lib.hid hps.rf
        have hkz : (z.o.kind : Int) % 5 = 4 := by omega
        clear hps hk5 k0 k1 k2 k3
        go_upto_region 23 with (first
          | (go_at_call 10; (with_reducible refine (HPR.out _ (by assumption)).mono ?_); rintro e wp ⟨rfl, hbp⟩)
          | (go_at_call 11; (with_reducible refine (HPR.out _ (by assumption)).mono ?_); rintro e wp ⟨rfl, hbp⟩)
          | (go_at_call 12; (with_reducible refine (HPR.out _ (by assumption)).mono ?_); rintro e wp ⟨rfl, hbp⟩)
          | (go_at_call 13; (with_reducible refine (HPR.out _ (by assumption)).mono ?_); rintro e wp ⟨rfl, hbp⟩)
          | (go_at_call 14; (with_reducible refine (HPR.out _ (by assumption)).mono ?_); rintro e wp ⟨rfl, hbp⟩)
          | (refine wpList_load_row rfl 32 _ rfl q rfl 32 cs (0, 0) _ (BothO.row hbp) Try.underlying32 rfl hcz.out ?_; dsimp only [Act.put])
          | (go_at_call 15; (with_reducible refine (HRF.out _ (by assumption)).mono ?_); rintro e wq ⟨rfl, hbq⟩))
        have hbf := hbq.both
        obtain ⟨hwc, aa, ca, hct⟩ := hbf.facts
        have HWC := Lib.hid hwc
        have HBF := Lib.hid hbf
        have hct := fun x : Like wq.heap.size wq => hct x.val x.below
        obtain ⟨m, hm⟩ : ∃ m, m = D'.waits.length := ⟨_, rfl⟩
        rw [← hm] at HWC hct
        clear hm hwc hbf hbq hbp HPR HRF
        refine region_likes (by kernel_rfl) (by kernel_rfl) ?_
        repeat (go_big_quiet_step ((go_at_call 16; exact calls_likes (Like.size _) (HWC.out _ (Like.below _)))))
        refine wpQuiet_nil ?_
        intro x
        have HBX := Lib.hid (HBF.out.stay x.below)
        go_wp2_with fail
        go_roundg g
        case measure => omega
        case rel => exact ⟨i + 1, D', by omega, by go_num, Lib.hid (by have := hwt.out; have := HDW.out; omega), HBX⟩

theorem diskPlays_of (S : Dsk) (a0 : Int) (h0 : (Lit.int .i8 a0).wf = true) (a : Option Addr) (len cap : Nat) (zs : List Opz) (w : World) (hz : IsOps w a len cap zs) :
    Calls Try.prog 3 #[.int .i8 a0, .slice a len cap] w fun e w' => e = .returned (.bool true) ∧ Below w.heap.size w w' := by
  by_cases hf : FewOps zs 120
  · by_cases h30 : 30 < a0
    · exact diskPlays_no S a0 h0 a len cap zs w hz (.inr h30)
    · exact diskPlays_yes S a0 h0 a len cap zs w hz hf h30
  · exact diskPlays_no S a0 h0 a len cap zs w hz (.inl hf)
end Go.Proofs.Ytmgdjnkdnakmhaa
