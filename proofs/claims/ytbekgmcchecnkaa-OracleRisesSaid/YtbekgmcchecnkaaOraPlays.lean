/-
  OraclePlays from what is asked of the program's oracle.
-/
import Derived.Test.YtbekgmcchecnkaaOraRef
import Derived.Test.YtbekgmcchecnkaaOpenOra
import Derived.Deep.RegionWith
import Derived.BigRegion
import Derived.Deep.LoopGhost
namespace Go.Proofs.Ytbekgmcchecnkaa
open Go.RowKit
set_option linter.unusedVariables false
set_option linter.unnecessarySimpa false
set_option linter.unusedSimpArgs false
set_option maxRecDepth 100000

theorem OSt.size {S : OraC} {w0 w : World} {B : Nat} {far : Nat → Prop} {r : Addr} {a b : Nat} (h : OSt S w0 B far r a b w) : B ≤ w.heap.size := by obtain ⟨_, _, _, _, h, _⟩ := h; exact h
theorem OSt.lastB {S : OraC} {w0 w : World} {B : Nat} {far : Nat → Prop} {r : Addr} {a b : Nat} (h : OSt S w0 B far r a b w) : Calls Try.prog 11 #[.pointer (some r)] w fun e w' => e = .returned (.int .u64 a) ∧ Below w.heap.size w w' := by
  obtain ⟨O, hat, _⟩ := h
  exact S.last hat
theorem OSt.more {S : OraC} {w0 w : World} {B : Nat} {r : Addr} {a b : Nat} (h : OSt S w0 B (fun _ => False) r a b w) (o : Obj) : OSt S w0 B (fun k => k = w.heap.size) r a b (w.alloc o) := by
  obtain ⟨O, hat, hO, hb, hB, hf⟩ := h
  refine ⟨O, S.stay hat fun k hk => Below.heap_alloc _ _ _ (S.lt hat k hk), fun k hk => ⟨(hO k hk).1, fun e => by have := S.lt hat k hk; omega⟩, hb.alloc hB _, by simp; omega, fun k hk => by simp; omega⟩
theorem OSt.bel {S : OraC} {w0 w w' : World} {B : Nat} {far : Nat → Prop} {r : Addr} {a b : Nat} (h : OSt S w0 B far r a b w) (hb : Below w.heap.size w w') : OSt S w0 B far r a b w' ∧ FarSame far w w' := by
  obtain ⟨O, hat, hO, hb0, hB, hf⟩ := h
  exact OSt.step hO hb0 hB hf (S.stay hat fun k hk => hb.block k (S.lt hat k hk)) (Moves.of_below hb)
/-- A far block is written. -/
theorem OSt.put {S : OraC} {w0 w : World} {B g : Nat} {r : Addr} {a b : Nat} (h : OSt S w0 B (fun k => k = g) r a b w) (hg : B ≤ g) (i : Nat) (v : Value) : OSt S w0 B (fun k => k = g) r a b (w.setCell ⟨g, i, none⟩ v) := by
  obtain ⟨O, hat, hO, hb, hB, hf⟩ := h
  exact ⟨O, S.stay hat fun k hk => Below.heap_setCell _ _ _ _ (fun e => (hO k hk).2 e), hO, hb.setCell hg _, by simpa [World.setCell] using hB, fun k hk => by have := hf k hk; simpa [World.setCell] using this⟩
def oraRow (w : World) (g a b : Nat) : Prop := w.heap[g]? = some (.cells (oraC a b) 28 (0, 0))
theorem oraRow.far {w w' : World} {g a b : Nat} (h : oraRow w g a b) (hf : FarSame (fun k => k = g) w w') : oraRow w' g a b := (hf.2 g rfl).trans h
theorem oraRow.cells {w : World} {g a b : Nat} (h : oraRow w g a b) : w.cell? ⟨g, 0, none⟩ = some (.int .u64 a) ∧ w.cell? ⟨g, 1, none⟩ = some (.int .u64 b) ∧ ∀ j, w.frozen? ⟨g, j, none⟩ = false := by
  refine ⟨?_, ?_, fun j => frozen_of_row _ _ _ _ _ h⟩
  · rw [cell_of_row _ _ _ _ _ _ h]; rfl
  · rw [cell_of_row _ _ _ _ _ _ h]; rfl

/-- A block made ahead of a call. -/
theorem zero_kept {w w' : World} {u v : Value} {t : TypeId} (h : Below (w.alloc (.cells #[u, v] t)).drew.heap.size (w.alloc (.cells #[u, v] t)).drew w') :
    w'.cell? ⟨w.heap.size, 0, none⟩ = some u ∧ w'.cell? ⟨w.heap.size, 1, none⟩ = some v ∧ ∀ j, w'.frozen? ⟨w.heap.size, j, none⟩ = false := by
  have h0 : w'.heap[w.heap.size]? = some (.cells #[u, v] t (0, 0)) := by
    have := h.block w.heap.size (by simp)
    rw [this]
    exact heap_alloc_new w _
  refine ⟨?_, ?_, fun j => frozen_of_row _ _ _ _ _ h0⟩
  · rw [cell_of_row _ _ _ _ _ _ h0]; rfl
  · rw [cell_of_row _ _ _ _ _ _ h0]; rfl

/-- What stands behind the document's Do, whichever order was drawn. -/
def DoneAt (S : OraC) (w1 : World) (g p X Y : Nat) (r2 : Addr) (x y : Nat) (wd : World) : Prop := p ≠ g ∧ oraRow wd p X Y ∧ OSt S w1 w1.heap.size (fun k => k = g) r2 X Y wd ∧ oraRow wd g x y
theorem undrew {B : Nat} {w w' : World} (h : Below B w.drew w') : Below B w w' := ⟨h.os, h.tape, h.output, h.size, h.block⟩
theorem doneA {S : OraC} {w1 wc w6 : World} {g X Y x y : Nat} {r2 : Addr} (h : Below wc.drew.heap.size wc.drew w6) (HS : OSt S w1 w1.heap.size (fun k => k = g) r2 X Y wc) (HR : oraRow wc g x y) :
    DoneAt S w1 g w6.heap.size X Y r2 x y (w6.alloc (.cells #[.int .u64 (X : Int), .int .u64 (Y : Int)] 28)) := by
  have hb : Below wc.heap.size wc (w6.alloc (.cells #[.int .u64 (X : Int), .int .u64 (Y : Int)] 28)) := (undrew h).alloc h.size _
  have hg : g < wc.heap.size := (Array.getElem?_eq_some_iff.1 HR).1
  refine ⟨fun e => ?_, heap_alloc_new w6 _, (HS.bel hb).1, HR.far (HS.bel hb).2⟩
  have : wc.heap.size ≤ w6.heap.size := h.size
  omega
theorem doneB {S : OraC} {w1 wc w6 : World} {g X Y x y : Nat} {u v : Value} {r2 : Addr} (h : Below (wc.alloc (.cells #[u, v] 28)).drew.heap.size (wc.alloc (.cells #[u, v] 28)).drew w6) (HS : OSt S w1 w1.heap.size (fun k => k = g) r2 X Y wc) (HR : oraRow wc g x y) :
    DoneAt S w1 g wc.heap.size X Y r2 x y ((w6.setCell ⟨wc.heap.size, 0, none⟩ (.int .u64 (X : Int))).setCell ⟨wc.heap.size, 1, none⟩ (.int .u64 (Y : Int))) := by
  have h1 := undrew h
  have h0 : Below wc.heap.size wc w6 := ((Below.refl _ _).alloc (Nat.le_refl _) _).trans (h1.mono (by simp))
  have hb : Below wc.heap.size wc ((w6.setCell ⟨wc.heap.size, 0, none⟩ (.int .u64 (X : Int))).setCell ⟨wc.heap.size, 1, none⟩ (.int .u64 (Y : Int))) := (h0.setCell (Nat.le_refl _) _).setCell (Nat.le_refl _) _
  have hg : g < wc.heap.size := (Array.getElem?_eq_some_iff.1 HR).1
  refine ⟨fun e => by omega, ?_, (HS.bel hb).1, HR.far (HS.bel hb).2⟩
  have hp : w6.heap[wc.heap.size]? = some (.cells #[u, v] 28 (0, 0)) := by
    rw [h.block wc.heap.size (by simp)]
    exact heap_alloc_new wc _
  unfold oraRow
  rw [heap_setCell_same _ _ 1 _ _ _ (heap_setCell_same _ _ 0 _ _ _ hp)]
  rfl

set_option maxHeartbeats 8000000 in
theorem oraPlays_yes (S : OraC) (L : Nat) (hL : L ≤ oMax) (a : Option Addr) (len cap : Nat) (zs : List Oz) (w : World) (hz : IsOra w a len cap zs) (hlen : len ≤ 300) :
    Calls Try.prog 3 #[.int .u64 L, .slice a len cap] w fun e w' => e = .returned (.bool true) ∧ Below w.heap.size w w' := by
  have haw := Lib.hid (oawake_any S)
  have HZ := Lib.hid hz
  have hl2 : decide ((300 : Int) < (len : Int)) = false := by simp; omega
  have hl3 : decide (300 < len) = false := by simp; omega
  clear hz
  go_enter Try.func3, Try.ntmps3
  go_upto_region 3 with (go_at_call 5; refine (haw.out _).mono ?_; rintro e w1 ⟨rfl, hb1⟩; have HB1 := Lib.hid hb1; clear hb1)
  have hn := Lib.hid (ost_new S (Below.refl w1.heap.size w1) (Nat.le_refl _) (far := fun _ => False) (fun k hk => hk.elim) L hL)
  go_upto_region 4 with (go_at_call 6; refine hn.out.mono ?_; rintro e w2 ⟨r, rfl, hs, _⟩; have HS2 := Lib.hid hs; clear hs)
  go_upto_region 5 with fail
  have HS3 := Lib.hid (HS2.out.more (.cells #[.int .u64 (L : Int), .int .u64 (L : Int)] 28))
  have HR3 := Lib.hid (show oraRow (w2.alloc (.cells #[.int .u64 (L : Int), .int .u64 (L : Int)] 28)) w2.heap.size L L from heap_alloc_new w2 _)
  have hgB := HS2.out
  obtain ⟨_, _, _, _, hgB, _⟩ := hgB
  obtain ⟨w3, hw3⟩ : ∃ w3, w3 = w2.alloc (.cells #[.int .u64 (L : Int), .int .u64 (L : Int)] 28) := ⟨_, rfl⟩
  obtain ⟨g, hg⟩ : ∃ g, g = w2.heap.size := ⟨_, rfl⟩
  rw [← hw3, ← hg] at HS3 HR3
  rw [← hg] at hgB
  rw [← hw3, ← hg]
  clear hw3 hg HS2 hn haw
  go_loopg [5, 7] len (fun q s5 s7 wx => ∃ (i x y : Nat) (r : Addr), i + q = len ∧ s5 = .pointer (some r) ∧ s7 = .int .i64 i ∧ Hid (OSt S w1 w1.heap.size (fun k => k = g) r x y wx) ∧ Hid (oraRow wx g x y))
  case atStart => exact ⟨0, L, L, r, by omega, rfl, rfl, HS3, HR3⟩
  case round =>
    obtain ⟨i, x, y, r', hiq, rfl, rfl, HS, HR⟩ := hrel
    clear HS3 HR3
    have hgd := HS.out.good
    by_cases hlt : i < len
    · obtain ⟨q, rfl⟩ : ∃ q, gk = q + 1 := ⟨gk - 1, by omega⟩
      have hiz : (i : Int) < (len : Int) := by omega
      obtain ⟨b, off, rfl, hbl, hk256, hn64, k0, k1⟩ := HZ.out.1.2 i hlt
      have hbw := Lib.hid (HB1.out.trans (HS.out.below.mono HB1.out.size))
      rw [← hbw.out.cell (p := ⟨b, off + i * 2, none⟩) hbl] at k0
      rw [← hbw.out.cell (p := ⟨b, off + i * 2 + 1, none⟩) hbl] at k1
      obtain ⟨kd, hkd⟩ : ∃ kd, kd = (zs.getD i oz0).kind := ⟨_, rfl⟩
      obtain ⟨n, hn⟩ : ∃ n, n = (zs.getD i oz0).n := ⟨_, rfl⟩
      rw [← hkd] at k0 hk256
      rw [← hn] at k1 hn64
      clear hkd hn
      obtain ⟨m, hm⟩ : ∃ m, m = kd % 4 := ⟨_, rfl⟩
      have hmz : (kd : Int) % 4 = (m : Int) := by omega
      have hm4 : m = 0 ∨ m = 1 ∨ m = 2 ∨ m = 3 := by omega
      obtain ⟨z, hzz⟩ : ∃ z : Int, z = (kd : Int) % 4 := ⟨_, rfl⟩
      have HZM := Lib.hid (show z = (m : Int) by rw [hzz, hmz])
      have HM := Lib.hid hm
      clear hm hmz
      have hye := Lib.hid hgd
      have hfr := Lib.hid (show ∀ k, k = g → k < wr.heap.size from fun k hk => by rw [hk]; exact (Array.getElem?_eq_some_iff.1 HR.out).1)
      go_upto_block 2 with fail
      rw [← hzz]
      clear hzz
      go_cut [5, 8, 9] (fun s5 s8 s9 wc => ∃ r2, s5 = .pointer (some r2) ∧ s8 = .int .u64 (oV m x y) ∧ s9 = .bool (oR m x y) ∧ Hid (OSt S w1 w1.heap.size (fun k => k = g) r2 (oA m x y) (oB m x y n) wc) ∧ Hid (oraRow wc g x y))
      case first =>
        obtain ⟨c0, c1, cf⟩ := HR.out.cells
        rcases hm4 with rfl | rfl | rfl | rfl
        · have hC := Lib.hid HS.out.next
          have t0 : (z == 0) = true := by rw [HZM.out]; decide
          have t1 : (z == 1) = false := by rw [HZM.out]; decide
          have t2 : (z == 2) = false := by rw [HZM.out]; decide
          clear HM HZM
          go_wp2_with (go_at_call 7; refine hC.out.mono ?_; rintro e w5 ⟨rfl, hs5, hf5⟩; have HS5 := Lib.hid hs5; have HR5 := Lib.hid (HR.out.far hf5); clear hs5 hf5)
          go_meet
          case rel => exact ⟨r', rfl, rfl, rfl, HS5, HR5⟩
        · have hC := Lib.hid HS.out.want
          have t0 : (z == 0) = false := by rw [HZM.out]; decide
          have t1 : (z == 1) = true := by rw [HZM.out]; decide
          have t2 : (z == 2) = false := by rw [HZM.out]; decide
          clear HM HZM
          go_wp2_with (go_at_call 8; refine hC.out.mono ?_; rintro e w5 ⟨rfl, hs5, hf5⟩; have HS5 := Lib.hid hs5; have HR5 := Lib.hid (HR.out.far hf5); clear hs5 hf5)
          go_meet
          case rel => exact ⟨r', rfl, rfl, rfl, HS5, HR5⟩
        · have hC := Lib.hid (HS.out.noted n (by unfold oMax; omega))
          have t0 : (z == 0) = false := by rw [HZM.out]; decide
          have t1 : (z == 1) = false := by rw [HZM.out]; decide
          have t2 : (z == 2) = true := by rw [HZM.out]; decide
          clear HM HZM
          go_wp2_with (go_at_call 9; refine hC.out.mono ?_; rintro e w5 ⟨rfl, hs5, hf5⟩; have HS5 := Lib.hid hs5; have HR5 := Lib.hid (HR.out.far hf5); clear hs5 hf5)
          go_meet
          case rel => exact ⟨r', rfl, rfl, rfl, HS5, HR5⟩
        · have hC := Lib.hid (ost_new S HS.out.below HS.out.size hfr.out y hye.out.2)
          have t0 : (z == 0) = false := by rw [HZM.out]; decide
          have t1 : (z == 1) = false := by rw [HZM.out]; decide
          have t2 : (z == 2) = false := by rw [HZM.out]; decide
          clear HM HZM
          go_wp2_with (go_at_call 6; refine hC.out.mono ?_; rintro e w5 ⟨r5, rfl, hs5, hf5⟩; have HS5 := Lib.hid hs5; have HR5 := Lib.hid (HR.out.far hf5); clear hs5 hf5)
          go_meet
          case rel => exact ⟨r5, rfl, rfl, rfl, HS5, HR5⟩
      case rest =>
        obtain ⟨r2, rfl, rfl, rfl, HS5, HR5⟩ := hcut
        clear HS HR
        have hbw5 := Lib.hid (HB1.out.trans (HS5.out.below.mono HB1.out.size))
        have j0 : wc.cell? ⟨b, off + i * 2, none⟩ = some (.int .u8 (kd : Int)) := by rw [hbw5.out.cell (p := ⟨b, off + i * 2, none⟩) hbl]; rw [hbw.out.cell (p := ⟨b, off + i * 2, none⟩) hbl] at k0; exact k0
        have j1 : wc.cell? ⟨b, off + i * 2 + 1, none⟩ = some (.int .u64 (n : Int)) := by rw [hbw5.out.cell (p := ⟨b, off + i * 2 + 1, none⟩) hbl]; rw [hbw.out.cell (p := ⟨b, off + i * 2 + 1, none⟩) hbl] at k1; exact k1
        obtain ⟨c0, c1, cf⟩ := HR5.out.cells
        have HD := Lib.hid (do_any x y n kd hye.out.1 hye.out.2)
        rw [← HM.out] at HD
        unfold DoOut oraV at HD
        clear k0 k1
        obtain ⟨X, hX⟩ : ∃ X, X = oA m x y := ⟨_, rfl⟩
        obtain ⟨Y, hY⟩ : ∃ Y, Y = oB m x y n := ⟨_, rfl⟩
        obtain ⟨V, hV⟩ : ∃ V, V = oV m x y := ⟨_, rfl⟩
        obtain ⟨R, hR⟩ : ∃ R, R = oR m x y := ⟨_, rfl⟩
        rw [← hX, ← hY] at HS5
        rw [← hX, ← hY, ← hV, ← hR] at HD
        rw [← hV, ← hR]
        clear hX hY hV hR HM HZM
        go_upto_region 20 with fail
        have hbc : b < wc.heap.size := Nat.lt_of_lt_of_le hbl hbw5.out.size
        have hgw : g < wc.heap.size := (Array.getElem?_eq_some_iff.1 HR5.out).1
        go_cut [14, 15, 16] (fun s14 s15 s16 wd => ∃ p : Nat, s14 = .pointer (some ⟨p, 0, none⟩) ∧ s15 = .int .u64 V ∧ s16 = .bool R ∧ Hid (DoneAt S w1 g p X Y r2 x y wd))
        case first =>
          go_region_with (go_at_call 10; refine (HD.out _).mono ?_; rintro e w6 ⟨rfl, hb6⟩; have HB6 := Lib.hid hb6; try have hq := zero_kept hb6)
          all_goals
            go_wp2_with fail
            go_meet
            case rel => first | exact ⟨_, rfl, rfl, rfl, Lib.hid (doneA HB6.out HS5.out HR5.out)⟩ | exact ⟨_, rfl, rfl, rfl, Lib.hid (doneB HB6.out HS5.out HR5.out)⟩
        case rest =>
          obtain ⟨p, rfl, rfl, rfl, HDn⟩ := hcut
          obtain ⟨hpg, hp, hs, hg⟩ := HDn.out
          obtain ⟨p0, p1, pf⟩ := hp.cells
          obtain ⟨g0, g1, gf⟩ := hg.cells
          have HS7 := Lib.hid ((hs.put hgB 0 (.int .u64 (X : Int))).put hgB 1 (.int .u64 (Y : Int)))
          have HR7 := Lib.hid (show oraRow ((wc.setCell ⟨g, 0, none⟩ (.int .u64 (X : Int))).setCell ⟨g, 1, none⟩ (.int .u64 (Y : Int))) g X Y by
            unfold oraRow
            rw [heap_setCell_same _ _ 1 _ _ _ (heap_setCell_same _ _ 0 _ _ _ hg)]
            rfl)
          clear HS5 HR5 HD HDn c0 c1 cf j0 j1 hp hs hg hgw hbc hbw5
          go_upto_region 22 with fail
          obtain ⟨w7, hw7⟩ : ∃ w7, w7 = (wc.setCell ⟨g, 0, none⟩ (.int .u64 (X : Int))).setCell ⟨g, 1, none⟩ (.int .u64 (Y : Int)) := ⟨_, rfl⟩
          rw [← hw7] at HS7 HR7
          rw [← hw7]
          clear hw7 p0 p1 pf g0 g1 gf
          obtain ⟨c0, c1, cf⟩ := HR7.out.cells
          have HL := Lib.hid (show ∀ x : Like w7.heap.size w7, Calls Try.prog 11 #[.pointer (some r2)] x.val fun e w' => e = .returned (.int .u64 (X : Int)) ∧ Below x.val.heap.size x.val w' from fun x => (HS7.out.bel x.below).1.lastB)
          have hck : ∀ x : Like w7.heap.size w7, x.val.cell? ⟨g, 0, none⟩ = some (.int .u64 (X : Int)) := fun x => by
            have : oraRow x.val g X Y := (x.below.block g (Array.getElem?_eq_some_iff.1 HR7.out).1).trans HR7.out
            exact this.cells.1
          have hvv : ((V : Int) != (V : Int)) = false := by simp
          have hxx : ((X : Int) != (X : Int)) = false := by simp
          have hrr : (R != R) = false := by simp
          clear cf c0 c1
          refine region_likes (by kernel_rfl) (by kernel_rfl) ?_
          repeat (first
            | (go_big_quiet_step (first
                | (go_at_call 11; exact calls_likes (Like.size _) (HL.out _)))))
          refine wpQuiet_nil ?_
          intro x1
          have HS9 := Lib.hid (HS7.out.bel x1.below).1
          have HR9 := Lib.hid (show oraRow x1.val g X Y from (x1.below.block g (Array.getElem?_eq_some_iff.1 HR7.out).1).trans HR7.out)
          clear hck HL HS7 HR7
          go_wp2_with fail
          go_roundg q
          case measure => omega
          case rel => exact ⟨i + 1, X, Y, r2, by omega, rfl, by first | rfl | go_num, HS9, HR9⟩
    · obtain rfl : i = len := by omega
      obtain rfl : gk = 0 := by omega
      have hiz : ¬ (i : Int) < (i : Int) := by omega
      have hb := Lib.hid (HB1.out.trans (HS.out.below.mono HB1.out.size))
      go_wp2_with fail
      go_ret
      exact ⟨rfl, hb.out⟩
end Go.Proofs.Ytbekgmcchecnkaa
