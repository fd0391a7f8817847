/-
  What is asked of the program's splitter; FrameBack from that.
-/
import Derived.Test.YtaabpjnjglnjoaaFrmContracts
import Derived.Test.YtaabpjnjglnjoaaOpenStrs
namespace Go.Proofs.Ytaabpjnjglnjoaa
open Go.RowKit
set_option linter.unusedVariables false
set_option linter.unnecessarySimpa false
set_option linter.unusedSimpArgs false
set_option maxRecDepth 100000

/-- A splitter that isn't broken and that nothing waits in but whole frames: 'At B w r ps': in w, its memory from block B on, the payloads ps wait to be told, of which none was told; 'AtT': of which some may have been told. -/
structure Spl where
  At : Nat → World → Addr → List ByteArray → Prop
  new : ∀ w, Calls Try.prog 9 #[.agg tab] w fun e w' => ∃ r, e = .returned (.pointer (some r)) ∧ At w.heap.size w' r [] ∧ Below w.heap.size w w'
  stay : ∀ {B w w' r ps}, At B w r ps → Below w.heap.size w w' → At B w' r ps
  feed : ∀ {B w r ps p}, At B w r ps → good p = true → ps.length ≤ 8 → B ≤ w.heap.size →
    Calls Try.prog 10 #[.pointer (some r), .string (frmS p)] w fun e w' => e = .returned (.tuple #[]) ∧ At B w' r (ps ++ [p]) ∧ Below B w w'
  feed0 : ∀ {B w r ps}, At B w r ps → B ≤ w.heap.size →
    Calls Try.prog 10 #[.pointer (some r), .string ⟨#[]⟩] w fun e w' => e = .returned (.tuple #[]) ∧ At B w' r ps ∧ Below B w w'
  AtT : Nat → World → Addr → List ByteArray → Prop
  tell : ∀ {B w r ps}, At B w r ps → AtT B w r ps
  next : ∀ {B w r p ps}, AtT B w r (p :: ps) → B ≤ w.heap.size →
    Calls Try.prog 11 #[.pointer (some r)] w fun e w' => e = .returned (.tuple #[.string p, .bool true]) ∧ AtT B w' r ps ∧ Below B w w'
  next0 : ∀ {B w r}, AtT B w r [] → B ≤ w.heap.size →
    Calls Try.prog 11 #[.pointer (some r)] w fun e w' => e = .returned (.tuple #[.string ⟨#[]⟩, .bool false]) ∧ AtT B w' r [] ∧ Below B w w'
  broken : ∀ {B w r ps}, AtT B w r ps → B ≤ w.heap.size →
    Calls Try.prog 12 #[.pointer (some r)] w fun e w' => e = .returned (.bool false) ∧ AtT B w' r ps ∧ Below B w w'
  waiting : ∀ {B w r ps}, AtT B w r ps → B ≤ w.heap.size →
    Calls Try.prog 13 #[.pointer (some r)] w fun e w' => e = .returned (.int .i64 0) ∧ AtT B w' r ps ∧ Below B w w'

theorem below_le {B : Nat} {w w' : World} (h : Below B w w') : w.heap.size ≤ w'.heap.size := h.size

set_option maxHeartbeats 4000000 in
theorem frameBack_of (hM : MakeOK) (hL : MakeLong) (S : Spl) (a : Option Addr) (len cap : Nat) (zs : List ByteArray) (w : World) (hz : IsStrs w a len cap zs) :
    Calls Try.prog 4 #[.slice a len cap] w fun e w' => e = .returned (.bool true) ∧ Below w.heap.size w w' := by
  have haw := Lib.hid (frmAwake_any hM)
  have hmk := Lib.hid make_any
  have hzt := (zero_of_info (P := Try.prog) tableInfo).1
  have hlm := hz.2.1
  unfold maxLen at hlm
  by_cases hlen : 8 < len
  · have hd : (8 : Int) < (len : Int) := by omega
    clear hM hL hlen hz
    go_enter Try.func4, Try.ntmps4
    go_upto_region 2 with (go_at_call 5; refine (haw.out _).mono ?_; rintro e w1 ⟨rfl, hb1⟩)
    go_wp2_with (go_at_call 5; refine (haw.out _).mono ?_; rintro e w2 ⟨rfl, hb2⟩)
    go_ret
    exact ⟨rfl, hb1.trans (hb2.mono hb1.size)⟩
  · have hd : ¬ (8 : Int) < (len : Int) := by omega
    have hl8 : len ≤ 8 := by omega
    have HZ := Lib.hid hz
    have HM := Lib.hid hM
    have HL := Lib.hid hL
    clear hM hL hz hlen hlm
    go_enter Try.func4, Try.ntmps4
    go_upto_region 5 with (first
      | (go_at_call 5; refine (haw.out _).mono ?_; rintro e w1 ⟨rfl, hb1⟩)
      | (go_at_call 7; refine (hmk.out _).mono ?_; rintro e w2 ⟨rfl, hb2⟩)
      | (refine wpList_store_row rfl 28 _ _ rfl w2.heap.size tab rfl rfl 28 (Array.replicate 256 (.int .u32 0)) (heap_alloc_last w2 _) tableSize zeroTable_size tab_one ?_; rw [World.setRow_alloc_new]; dsimp only [Act.put])
      | (refine wpList_load_row rfl 28 _ rfl w2.heap.size rfl 28 tab (0, 0) _ (heap_alloc_last w2 _) Try.underlying28 rfl tableSize ?_; dsimp only [Act.put])
      | (go_at_call 9; refine (S.new _).mono ?_; rintro e w3 ⟨r, rfl, hat, hb3⟩))
    have H3 := Lib.hid (show Below w.heap.size w w3 from ((hb1.trans (hb2.mono hb1.size)).alloc (Nat.le_trans hb1.size hb2.size) _).trans (hb3.mono (by have := hb1.size; have := hb2.size; simp; omega)))
    have hrow := Lib.hid (show w3.heap[w2.heap.size]? = some (.cells tab 28 (0, 0)) by rw [hb3.block _ (by simp)]; exact heap_alloc_last w2 _)
    obtain ⟨B, hB⟩ : ∃ B, B = (w2.alloc (.cells tab 28)).heap.size := ⟨_, rfl⟩
    obtain ⟨g0, hg0⟩ : ∃ g0, g0 = w2.heap.size := ⟨_, rfl⟩
    have hB3 := Lib.hid (show B ≤ w3.heap.size by rw [hB]; exact hb3.size)
    have hgB := Lib.hid (show g0 < B ∧ w.heap.size ≤ B by rw [hB, hg0]; have := hb1.size; have := hb2.size; simp; omega)
    rw [← hB] at hat
    rw [← hg0] at hrow ⊢
    have HA := Lib.hid hat
    clear hat hb1 hb2 hb3 hB hg0
    go_wp2_with fail
    go_loopg [5, 6] len (fun g s5 s6 wx => ∃ i : Nat, i + g = len ∧ s5 = .int .i64 (goods (zs.take i)).length ∧ s6 = .int .i64 i ∧ Hid (S.At B wx r (goods (zs.take i))) ∧ Hid (Below B w3 wx))
    case atStart => exact ⟨0, by omega, rfl, rfl, HA, Lib.hid (Below.refl _ _)⟩
    case round =>
      obtain ⟨i, hig, rfl, rfl, hat, hbx⟩ := hrel
      cases gk with
      | zero =>
        obtain rfl : len = i := by omega
        have hall : zs.take len = zs := by rw [← HZ.out.1]; exact List.take_length
        rw [hall] at hat
        obtain ⟨n, hn⟩ : ∃ n, n = (goods (zs.take len)).length := ⟨_, rfl⟩
        rw [← hn]
        rw [hall] at hn
        have HN := Lib.hid hn
        have H5 := Lib.hid hbx.out
        obtain ⟨w5, rfl⟩ : ∃ w5, w5 = wr := ⟨_, rfl⟩
        clear hall hn hig hbx HA
        have hd0 := Lib.hid (show zs.drop 0 = zs from List.drop_zero)
        go_wp2_with fail
        go_loopg [5, 9] len (fun g s5 s9 wx => ∃ i n : Nat, i + g = len ∧ n ≤ 8 ∧ s5 = .int .i64 n ∧ Hid (n = (goods (zs.drop i)).length) ∧ s9 = .int .i64 i ∧ Hid (S.AtT B wx r (goods (zs.drop i))) ∧ Hid (Below B w3 wx))
        case atStart => exact ⟨0, n, by omega, by rw [HN.out]; have := goods_le zs; rw [HZ.out.1] at this; omega, rfl, Lib.hid (by rw [hd0.out]; exact HN.out), rfl, Lib.hid (by rw [hd0.out]; exact S.tell hat.out), H5⟩
        case round =>
          obtain ⟨i, m, hig, hm8, rfl, HMN, rfl, hat, hbx⟩ := hrel
          cases gk with
          | zero =>
            obtain rfl : len = i := by omega
            have hnil : goods (zs.drop len) = [] := by rw [← HZ.out.1, List.drop_length]; rfl
            have hm0 : m = 0 := by rw [HMN.out, hnil]; rfl
            subst hm0
            rw [hnil] at hat
            have HW := Lib.hid (H3.out.trans (hbx.out.mono hgB.out.2))
            have hBx := Lib.hid (show B ≤ wr.heap.size from Nat.le_trans hB3.out hbx.out.size)
            clear hnil HMN hbx hig hm8
            go_upto_region 24 with (go_at_call 11; refine (S.next0 hat.out hBx.out).mono ?_; rintro e w6 ⟨rfl, hat6, hb6⟩)
            have hat6 := Lib.hid hat6
            have HW6 := Lib.hid (HW.out.trans (hb6.mono hgB.out.2))
            have hB6 := Lib.hid (Nat.le_trans hBx.out hb6.size)
            clear hb6
            go_wp2_with (first
              | (go_at_call 12; refine (S.broken hat6.out hB6.out).mono ?_; rintro e w7 ⟨rfl, hat7, hb7⟩; have hat7 := Lib.hid hat7; have hB7 := Lib.hid (Nat.le_trans hB6.out hb7.size))
              | (go_at_call 13; refine (S.waiting hat7.out hB7.out).mono ?_; rintro e w8 ⟨rfl, hat8, hb8⟩))
            go_ret
            exact ⟨rfl, (HW6.out.trans (hb7.mono hgB.out.2)).trans (hb8.mono hgB.out.2)⟩
          | succ g =>
            have hil : i < len := by omega
            have hiz : (i : Int) < (len : Int) := by omega
            obtain ⟨b, off, rfl, hbl, hcells⟩ := HZ.out.2.2.2 (by omega)
            have hci := hcells i hil
            obtain ⟨s, hs⟩ : ∃ s, s = zs.getD i ByteArray.empty := ⟨_, rfl⟩
            have hts := Lib.hid (show zs.drop i = s :: zs.drop (i + 1) by rw [hs]; exact drop_consD zs ByteArray.empty (by rw [HZ.out.1]; exact hil))
            rw [← hs] at hci
            have HW := Lib.hid (H3.out.trans (hbx.out.mono hgB.out.2))
            have hc := HW.out.cell (p := ⟨b, off + i, none⟩) hbl
            rw [hci] at hc
            have hBx := Lib.hid (show B ≤ wr.heap.size from Nat.le_trans hB3.out hbx.out.size)
            have hbx' := Lib.hid (show b < w3.heap.size from Nat.lt_of_lt_of_le hbl H3.out.size)
            have hbB := Lib.hid (show b < B from Nat.lt_of_lt_of_le hbl hgB.out.2)
            clear hci hcells hbl hs
            by_cases hgood : good s = true
            · have hgi := (good_iff s).1 hgood
              have h1 : ¬ (s.size : Int) < 1 := by omega
              have h2 : ¬ (4000 : Int) < (s.size : Int) := by omega
              have hgt := Lib.hid (show goods (zs.drop i) = s :: goods (zs.drop (i + 1)) by rw [hts.out, goods_cons_yes hgood])
              obtain ⟨k, rfl⟩ : ∃ k, m = k + 1 := ⟨(goods (zs.drop (i + 1))).length, by rw [HMN.out, hgt.out]; rfl⟩
              have hgl := Lib.hid (show k = (goods (zs.drop (i + 1))).length by have := HMN.out; rw [hgt.out] at this; simpa using this)
              have hat' := Lib.hid (show S.AtT B wr r (s :: goods (zs.drop (i + 1))) by rw [← hgt.out]; exact hat.out)
              clear hgi hgood HMN hat
              go_upto_region 20 with (go_at_call 11; refine (S.next hat'.out hBx.out).mono ?_; rintro e w6 ⟨rfl, hat6, hb6⟩)
              have hat6 := Lib.hid hat6
              have hc6 := hb6.cell (p := ⟨b, off + i, none⟩) hbB.out
              rw [hc] at hc6
              have HB6 := Lib.hid (hbx.out.trans hb6)
              clear hb6 hc
              go_wp2_with fail
              go_roundg g
              case measure => omega
              case rel => exact ⟨i + 1, k, by omega, by omega, by first | rfl | go_num | simp, hgl, by go_num, hat6, HB6⟩
            · have hgood : good s = false := by simpa using hgood
              have hgi := (good_no s).1 hgood
              have hgt := Lib.hid (show goods (zs.drop i) = goods (zs.drop (i + 1)) by rw [hts.out, goods_cons_no hgood])
              rw [hgt.out] at hat HMN
              have hcase : (s.size : Int) < 1 ∨ (¬ (s.size : Int) < 1 ∧ (4000 : Int) < (s.size : Int)) := by omega
              clear hgi hgood hgt
              rcases hcase with h1 | ⟨h1, h2⟩
              all_goals
                go_wp2_with fail
                go_roundg g
                case measure => omega
                case rel => exact ⟨i + 1, m, by omega, hm8, rfl, HMN, by go_num, hat, hbx⟩
      | succ g =>
        have hil : i < len := by omega
        have hiz : (i : Int) < (len : Int) := by omega
        obtain ⟨b, off, rfl, hbl, hcells⟩ := HZ.out.2.2.2 (by omega)
        have hci := hcells i hil
        obtain ⟨s, hs⟩ : ∃ s, s = zs.getD i ByteArray.empty := ⟨_, rfl⟩
        have hsm : s.size ≤ 9223372036854775807 := by
          have := HZ.out.2.2.1 s (by rw [hs, List.getD, List.getElem?_eq_getElem (by rw [HZ.out.1]; exact hil)]; exact List.getElem_mem _)
          unfold maxLen at this; exact this
        have hts := Lib.hid (show zs.take (i + 1) = zs.take i ++ [s] by rw [hs]; exact take_snocD zs ByteArray.empty (by rw [HZ.out.1]; exact hil))
        rw [← hs] at hci
        have HW := Lib.hid (H3.out.trans (hbx.out.mono hgB.out.2))
        have hc := HW.out.cell (p := ⟨b, off + i, none⟩) hbl
        rw [hci] at hc
        have hxr := Lib.hid (show wr.heap[g0]? = some (.cells tab 28 (0, 0)) by rw [hbx.out.block g0 hgB.out.1]; exact hrow.out)
        have hBx := Lib.hid (show B ≤ wr.heap.size from Nat.le_trans hB3.out hbx.out.size)
        have hbx' := Lib.hid (show b < wr.heap.size from Nat.lt_of_lt_of_le hbl HW.out.size)
        have hnl := goods_le (zs.take i)
        have htl : (zs.take i).length ≤ i := List.length_take_le _ _
        have hcount : (goods (zs.take i)).length ≤ i := by omega
        clear hnl htl hci hcells hbl hs
        by_cases hbig : 5000 < s.size
        · have hbz : (5000 : Int) < (s.size : Int) := by omega
          clear hbig
          go_wp2_with fail
          go_ret
          exact ⟨rfl, HW.out⟩
        · have hbz : ¬ (5000 : Int) < (s.size : Int) := by omega
          have hck := Lib.hid (fun (x : Like wr.heap.size wr) => (x.below.cell (p := ⟨b, off + i, none⟩) hbx'.out).trans hc)
          obtain ⟨n, hn⟩ : ∃ n, n = (goods (zs.take i)).length := ⟨_, rfl⟩
          rw [← hn] at hcount ⊢
          have HN := Lib.hid hn
          clear hn
          by_cases hgood : good s = true
          · have hgi := (good_iff s).1 hgood
            have hm := Lib.hid (fun w => HM.out s w hgi.1 hgi.2)
            have hgt := Lib.hid (show goods (zs.take (i + 1)) = goods (zs.take i) ++ [s] by rw [hts.out, goods_snoc_yes hgood])
            have hgl := Lib.hid (show n + 1 = (goods (zs.take (i + 1))).length by rw [hgt.out, HN.out]; simp)
            have hGS := Lib.hid hgood
            clear hgi hbig hgood
            go_upto_region 11 with fail
            clear hc
            have hck := hck.out
            refine region_likes (by kernel_rfl) (by kernel_rfl) ?_
            repeat (first
              | (go_big_quiet_want; refine quiet_row 28 _ rfl g0 rfl 28 tab (0, 0) _ (likes_row hxr.out) Try.underlying28 rfl tableSize ?_; go_simp; go_big_quiet_on)
              | (go_big_quiet_step (first
                  | (go_at_call 6; exact calls_likes (Like.size _) (hm.out _)))))
            refine wpQuiet_nil ?_
            intro x
            clear hck
            have hatx := Lib.hid (S.stay hat.out x.below)
            have HWx := Lib.hid (hbx.out.trans (x.below.mono hBx.out))
            have hBy := Lib.hid (Nat.le_trans hBx.out x.below.size)
            go_wp2_with (go_at_call 10; refine (S.feed hatx.out hGS.out (by rw [← HN.out]; omega) hBy.out).mono ?_; rintro e w5 ⟨rfl, hat5, hb5⟩)
            have hat5 := Lib.hid hat5
            have hb5 := Lib.hid hb5
            go_roundg g
            case measure => omega
            case rel => exact ⟨i + 1, by omega, by rw [← hgl.out]; go_num, by go_num, by rw [hgt.out]; exact hat5, Lib.hid (HWx.out.trans hb5.out)⟩
          · have hgood : good s = false := by simpa using hgood
            have hgi := (good_no s).1 hgood
            have hm := Lib.hid (fun w => HL.out s w hgi (by omega))
            have hgt := Lib.hid (show goods (zs.take (i + 1)) = goods (zs.take i) by rw [hts.out, goods_snoc_no hgood])
            have hgl := Lib.hid (show n = (goods (zs.take (i + 1))).length by rw [hgt.out, HN.out])
            clear hgi hbig hgood
            go_upto_region 11 with fail
            clear hc
            have hck := hck.out
            refine region_likes (by kernel_rfl) (by kernel_rfl) ?_
            repeat (first
              | (go_big_quiet_want; refine quiet_row 28 _ rfl g0 rfl 28 tab (0, 0) _ (likes_row hxr.out) Try.underlying28 rfl tableSize ?_; go_simp; go_big_quiet_on)
              | (go_big_quiet_step (first
                  | (go_at_call 6; exact calls_likes (Like.size _) (hm.out _)))))
            refine wpQuiet_nil ?_
            intro x
            clear hck
            have hatx := Lib.hid (S.stay hat.out x.below)
            have HWx := Lib.hid (hbx.out.trans (x.below.mono hBx.out))
            have hBy := Lib.hid (Nat.le_trans hBx.out x.below.size)
            go_wp2_with (go_at_call 10; refine (S.feed0 hatx.out hBy.out).mono ?_; rintro e w5 ⟨rfl, hat5, hb5⟩)
            have hat5 := Lib.hid hat5
            have hb5 := Lib.hid hb5
            go_roundg g
            case measure => omega
            case rel => exact ⟨i + 1, by omega, by rw [← hgl.out], by go_num, by rw [hgt.out]; exact hat5, Lib.hid (HWx.out.trans hb5.out)⟩
end Go.Proofs.Ytaabpjnjglnjoaa
