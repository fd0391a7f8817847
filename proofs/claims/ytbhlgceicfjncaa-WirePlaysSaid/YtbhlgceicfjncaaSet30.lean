/-
  The program's splitter at a frame whose sum is another one: it is broken, and tells nothing (made of XFrmSplC to XFrmSplE by a script).
-/
import Derived.Test.YtbhlgceicfjncaaSet29
import Derived.Test.YtbhlgceicfjncaaSet19
namespace Go.Proofs.Ytbhlgceicfjncaa
open Go.RowKit
set_option linter.unusedVariables false
set_option linter.unnecessarySimpa false
set_option linter.unusedSimpArgs false
set_option maxRecDepth 100000

theorem sRow_setb (p q : Value) (b b' : Bool) : (sRow p q b).setIfInBounds 258 (.bool b') = sRow p q b' := by
  unfold sRow; rw [Array.setIfInBounds_append_right (by rw [tab_size]; omega), tab_size]; rfl
theorem SpAt.setb {w : World} {g : Nat} {p q : Value} {b : Bool} (h : SpAt w g p q b) (b' : Bool) : SpAt (w.setCell ⟨g, 258, none⟩ (.bool b')) g p q b' := by
  unfold SpAt at *; rw [heap_setCell_same w g 258 _ _ _ h, sRow_setb]
def FinBad (B : Nat) (w : World) (g : Nat) (v : Value) (w' : World) : Prop := SpAt w' g (.slice none 0 0) v true ∧ Below B w w'
set_option maxHeartbeats 2000000 in
theorem payloadOf_bad (p F : ByteArray) (S : Nat) (hp1 : 1 ≤ p.size) (hp2 : p.size ≤ 4000) (hs : S < 4294967296) (hne : S ≠ sumB p.data.toList) (hx1 : F.data.toList = fx p.size 4 true ++ (fx S 4 true ++ p.data.toList)) (w : World) :
    Calls Try.prog 60 #[.agg tab, .string F] w fun e w' => e = .returned (.tuple #[.string ⟨#[]⟩, .bool false]) ∧ Below w.heap.size w w' := by
  have HY := Lib.hid (isLength_yes p.size hp1 hp2)
  have H3 := Lib.hid (sum_any p (by omega))
  have hsz : F.size = p.size + 8 := by rw [← list_sizeB, hx1, List.length_append, List.length_append, fx_length, fx_length, list_sizeB]; omega
  have hq := sumB_lt p.data.toList
  obtain ⟨Z, hZ⟩ : ∃ Z, Z = sumB p.data.toList := ⟨_, rfl⟩
  rw [← hZ] at H3 hq hne
  clear hZ
  have hzq : (Z : Int) < 4294967296 := by omega
  have hnz : ((S : Int) != (Z : Int)) = true := by rw [bne_iff_ne]; omega
  have hk1 := Lib.hid (fun (g : Nat) (w : World) => k_fixed4 (n := p.size) (by omega) hx1 (by rw [hsz]; unfold maxLen; omega) g w)
  have hk2 := Lib.hid (fun (g : Nat) (w : World) => k_fixed4 (X := ⟨(fx S 4 true ++ p.data.toList).toArray⟩) (n := S) (R := p.data.toList) (by omega) (by simp) (by show (fx S 4 true ++ p.data.toList).toArray.size ≤ _; rw [List.size_toArray, List.length_append, fx_length, list_sizeB]; unfold maxLen; omega) g w)
  have hk3 := Lib.hid (fun (g : Nat) (w : World) => k_bytes (X := ⟨p.data.toList.toArray⟩) (p := p) (by cases p; simp) (by show p.data.toList.toArray.size ≤ _; rw [List.size_toArray, list_sizeB]; unfold maxLen; omega) g w)
  have hk4 := Lib.hid (fun (g : Nat) (w : World) (h : CurAtB w g ⟨p.data.toList.toArray⟩ false) => by have := left_anyB g _ _ w (by show p.data.toList.toArray.size ≤ _; rw [List.size_toArray, list_sizeB]; unfold maxLen; omega) h; rwa [show (⟨p.data.toList.toArray⟩ : ByteArray).size = p.size by show p.data.toList.toArray.size = _; rw [List.size_toArray, list_sizeB]] at this)
  have hz : (S : Int) < 4294967296 := by omega
  have hzm : (S : Int) % 4294967296 = S := by omega
  have hrow := Lib.hid (heap_alloc_last w (.cells tab 28))
  clear hx1 hsz hp1 hs hne hq
  have hb0 := Lib.hid ((Below.refl w.heap.size w).alloc (Nat.le_refl _) (.cells tab 28))
  go_enter Try.func60, Try.ntmps60
  go_upto_region 5 with (first
    | (go_at_call 58; refine (new_anyB _ _).mono ?_; rintro e w1 ⟨rfl, hc1, hb1⟩; have hc1 := Lib.hid (show CurAtB w1 (w.heap.size + 1) F false by simpa using hc1); have hb1 := Lib.hid hb1; have hr1 := Lib.hid ((hb1.out.block w.heap.size (by simp)).trans hrow.out); have hs1 := hc1.out.lt)
    | (go_at_call 59; (with_reducible refine (hk1.out _ _ hc1.out).mono ?_); rintro e w2 ⟨rfl, hc2, hg2⟩; have hc2 := Lib.hid hc2; have hg2 := Lib.hid hg2)
    | (go_at_call 59; (with_reducible refine (hk2.out _ _ hc2.out).mono ?_); rintro e w3 ⟨rfl, hc3, hg3⟩; have hc3 := Lib.hid hc3; have hg3 := Lib.hid hg3)
    | (go_at_call 63; refine (hk4.out _ _ hc3.out).mono ?_; rintro e w4 ⟨rfl, rfl⟩)
    | (go_at_call 78; refine (hk3.out _ _ hc3.out).mono ?_; rintro e w5 ⟨rfl, _, hg5⟩; have hg5 := Lib.hid (grownByB_trans (grownByB_trans hg2.out hg3.out) hg5); have hr5 := Lib.hid ((hg5.out.block w.heap.size (by omega) (by simp)).trans hr1.out))
    | (go_at_call 36; refine (HY.out _).mono ?_; rintro e w6 ⟨rfl, rfl⟩)
    | (refine wpList_load_rowG rfl 28 _ rfl w.heap.size rfl 28 tab (0, 0) _ hr5.out Try.underlying28 rfl tableSize ?_; dsimp only [Act.put])
    | (go_at_call 37; refine (H3.out _).mono ?_; rintro e w7 ⟨rfl, hb7⟩))
  clear hk1 hk2 hk3 hk4
  go_wp2_with (first
    | (go_at_call 36; refine (HY.out _).mono ?_; rintro e w6 ⟨rfl, rfl⟩)
    | (refine wpList_load_rowG rfl 28 _ rfl w.heap.size rfl 28 tab (0, 0) _ hr5.out Try.underlying28 rfl tableSize ?_; dsimp only [Act.put])
    | (go_at_call 37; refine (H3.out _).mono ?_; rintro e w7 ⟨rfl, hb7⟩))
  go_ret2
  have k1 : Below w.heap.size w w5 := below_grownB (hb0.out.trans (hb1.out.mono (by simp))) hg5.out (by simp)
  exact ⟨rfl, k1.trans (hb7.mono k1.size)⟩
set_option maxHeartbeats 4000000 in
theorem judge_bad {w : World} {B g h n cap : Nat} {v : Value} {F : ByteArray} {S : Nat} {p : ByteArray} (hB : B ≤ g) (hs : SpAt w g (.slice (some ⟨h, 0, none⟩) n cap) v false)
    (ho : w.ownsRow B 5 1 (.slice (some ⟨h, 0, none⟩) n cap) n (Lib.byteCells F.data.toList))
    (hp1 : 1 ≤ p.size) (hp2 : p.size ≤ 4000) (hs2 : S < 4294967296) (hne : S ≠ sumB p.data.toList) (hx1 : F.data.toList = fx p.size 4 true ++ (fx S 4 true ++ p.data.toList)) :
    Calls Try.prog 40 #[.pointer (some ⟨g, 0, none⟩)] w fun e w' => e = .returned (.tuple #[]) ∧
      SpAt w' g (.slice none 0 0) v true ∧ Below B w w' := by
  have hpo := Lib.hid (payloadOf_bad p F S hp1 hp2 hs2 hne hx1)
  have HS := Lib.hid hs
  have hg := hs.lt
  have hBw := Lib.hid (show B ≤ w.heap.size by omega)
  have hcvx := Lib.hid (fun (x : Like w.heap.size w) => convert_row (own_belowS ho x.below))
  have hckx := Lib.hid (fun (x : Like w.heap.size w) => (hs.kept x.below).cp)
  have htab := Lib.hid (show ∀ w', (∃ x : Like w.heap.size w, w' = x.val) → w'.rangeAt g 0 tab.toList from fun w' ⟨x, hx⟩ => by rw [hx]; exact (hs.kept x.below).table)
  rw [show (⟨F.data.toList.toArray⟩ : ByteArray) = F by cases F; simp] at hcvx
  clear ho hs hp1 hp2 hne hx1 hs2
  go_enter Try.func40, Try.ntmps40
  go_wp2_with fail
  have hcvx := hcvx.out
  have hckx := hckx.out
  refine region_likes (by kernel_rfl) (by kernel_rfl) ?_
  repeat (first
    | (go_big_quiet_want; refine quiet_mid 28 _ rfl g 0 rfl tab.toList _ htab.out Try.underlying28 rfl tabSizeL ?_; go_simp; go_big_quiet_on)
    | (go_big_quiet_step (first
        | (go_at_call 60; exact calls_likes (Like.size _) (hpo.out _)))))
  refine wpQuiet_nil ?_
  intro x
  have HS1 := Lib.hid (HS.out.kept x.below)
  have HB1 := Lib.hid (show Below B w x.val from x.below.mono hBw.out)
  obtain ⟨w1, hw1⟩ : ∃ w1, w1 = x.val := ⟨_, rfl⟩
  rw [← hw1] at HS1 HB1 ⊢
  clear hw1 hcvx hckx htab HS
  have c1 := HS1.out.cp
  have f1 := HS1.out.fz 256
  have c2 := HS1.out.cb
  have f2 := HS1.out.fz 258
  have hg1 := HS1.out.lt
  go_wp2_with fail
  refine bodyPost_noneR rfl rfl ?_
  refine ⟨rfl, ?_, ?_⟩
  · exact (HS1.out.setp (.slice none 0 0)).setb true
  · exact (HB1.out.setCell (p := ⟨g, 256, none⟩) hB (.slice none 0 0)).setCell (p := ⟨g, 258, none⟩) hB (.bool true)
set_option maxHeartbeats 8000000 in
theorem feed_bad {w : World} {B g : Nat} {v : Value} {F p : ByteArray} {S N : Nat} {L : List Value} (hB : B ≤ g) (hs : SpAt w g (.slice none 0 0) v false) (hw : w.ownsRow B 9 1 v N L)
    (hp1 : 1 ≤ p.size) (hp2 : p.size ≤ 4000) (hs2 : S < 4294967296) (hne : S ≠ sumB p.data.toList) (hx1 : F.data.toList = fx p.size 4 true ++ (fx S 4 true ++ p.data.toList)) :
    Calls Try.prog 25 #[.pointer (some ⟨g, 0, none⟩), .string F] w fun e w' => e = .returned (.tuple #[]) ∧ FinBad B w g v w' := by
  have hsz : F.size = p.size + 8 := by rw [← list_sizeB, hx1, List.length_append, List.length_append, fx_length, fx_length, list_sizeB]; omega
  have HX1 := Lib.hid hx1
  have hfl := fx_length p.size 4 true
  have hext := extract_listF hx1
  rw [hfl] at hext
  obtain ⟨he1, he2⟩ := hext
  have HS := Lib.hid hs
  have HW := Lib.hid hw
  have hg := hs.lt
  obtain ⟨R, hR⟩ : ∃ R, R = F.extract 4 F.size := ⟨_, rfl⟩
  have hRl : R.data.toList = fx S 4 true ++ p.data.toList := by rw [hR, he2]
  have hRs : R.size = p.size + 4 := by rw [← list_sizeB, hRl, List.length_append, fx_length, list_sizeB]; omega
  have hXl : F.data.toList = fx p.size 4 true ++ R.data.toList := by rw [hRl, hx1]
  have HJ := Lib.hid (fun (w1 : World) (h n cap : Nat) (v : Value) hs1 ho1 => judge_bad (w := w1) (B := B) (h := h) (n := n) (cap := cap) (v := v) (F := F) (S := S) (p := p) hB hs1 ho1 hp1 hp2 hs2 hne hx1)
  rw [hXl] at HJ
  obtain ⟨l4, hl4⟩ : ∃ l4, l4 = fx p.size 4 true := ⟨_, rfl⟩
  have HL4 := Lib.hid hl4
  rw [← hl4] at he1 HJ hfl
  have HE1 := Lib.hid he1
  have HRS := Lib.hid hRs
  have hF4z : (4 : Int) ≤ (F.size : Int) := by omega
  have hF0z : (0 : Int) < (F.size : Int) := by omega
  have hFm : F.size ≤ 4008 := by omega
  have hR0z : (0 : Int) < (R.size : Int) := by omega
  have hRm : R.size ≤ 4004 := by omega
  have hmid : (8 : Int) + (p.size : Int) - ((4 : Nat) : Int) = (R.size : Int) := by omega
  have hend : (8 : Int) + (p.size : Int) - ((l4.length + R.data.toList.length : Nat) : Int) = 0 := by rw [list_sizeB]; omega
  have HMID := Lib.hid hmid
  have HFL := Lib.hid hfl
  have HEND := Lib.hid hend
  have HR := Lib.hid hR
  have hF4 : 4 ≤ F.size := by omega
  clear hs hw hx1 he1 he2 hRl hXl hl4 hRs hR hmid hend hsz hfl hne hs2
  go_enter Try.func25, Try.ntmps25
  go_wp2_with fail
  go_loopg [1, 4] 2 (fun gk s1 s4 wx => (gk = 2 ∧ s1 = .string F ∧ wx = w) ∨ (gk = 1 ∧ s1 = .string R ∧ Hid (Mid B w g v N L l4 wx)) ∨ (gk = 0 ∧ s1 = .string ⟨#[]⟩ ∧ Hid (FinBad B w g v wx)))
  case atStart => exact .inl ⟨rfl, rfl, rfl⟩
  case round =>
    rcases hrel with ⟨rfl, rfl, rfl⟩ | ⟨rfl, rfl, hm⟩ | ⟨rfl, rfl, hf⟩
    · have c0 := HS.out.cp
      have cb := HS.out.cb
      have f0 := HS.out.fz 256
      have HM := Lib.hid (missing_short HS.out (by decide))
      go_upto_region 2 with (go_at_call 39; refine HM.out.mono ?_; rintro e w1 ⟨rfl, rfl⟩)
      obtain ⟨i0, hi, hz0, hz1, hz2⟩ := u8infoF
      have hd : Below wr.heap.size wr wr.drew := (Below.refl _ _).drew
      have HSd := Lib.hid (HS.out.kept hd)
      have HWd := Lib.hid (own_belowS HW.out hd)
      have HN0 := Lib.hid (World.ownsRow_nil wr.drew B 5 1)
      have HBd := Lib.hid (show B ≤ wr.drew.heap.size from Nat.le_trans hB (Nat.le_of_lt hg))
      have HDB := Lib.hid (show Below B wr wr.drew from (Below.refl _ _).drew)
      have hs4 : (F.extract 0 4).size = 4 := by rw [HE1.out]; show l4.toArray.size = 4; rw [List.size_toArray, HFL.out]
      have hsm : (F.extract 0 4).size ≤ 4 := by omega
      have HX4 := Lib.hid (show l4 = [] ++ (F.extract 0 4).data.toList by rw [HE1.out]; simp)
      clear hd HM
      go_cut [] (fun wc => Hid (Mid B wr g v N L l4 wc))
      case first =>
        go_region_law (refine step_append_str rfl (.tmp 24) (.tmp 27) 91 9 rfl B 5 i0 Try.underlying91 Try.underlying9 hi hz0 hz1 hz2 (.slice none 0 0) 0 [] (by simp [Act.eval, Act.put]) HN0.out (F.extract 0 4) (by simp [Act.eval, Act.put]) (by unfold maxLen; omega) (by omega) HBd.out ?_; intro v3 w3 hown3 hg3; have hown3 := own_str (l0 := []) hown3 HX4.out rfl; obtain ⟨gv, cv, rfl⟩ := own_sliceF hown3 (by rw [HFL.out]; decide); obtain ⟨hs3, hm3⟩ := mid_append (w := wr) HSd.out HWd.out HDB.out hB HN0.out hown3 hg3 (by rw [HFL.out]; decide); have HM3 := Lib.hid hm3; have c3 := hs3.cp; have f3 := hs3.fz 256; clear hown3 hg3 hs3 hm3)
        all_goals
          go_wp2_with fail
          go_meet
          case rel => exact HM3
      case rest =>
        obtain ⟨h3, cap3, hs3, ho3, hw3, hb3⟩ := hcut.out
        have HM3 := Lib.hid (missing_at (L := p.size) hs3 ho3 (by rw [HFL.out]; exact Nat.le_refl _) (by rw [← HL4.out, ← HFL.out]; exact List.take_length) hp1 hp2 (by rw [HFL.out]; decide))
        rw [HFL.out, HMID.out] at HM3
        have HS3 := Lib.hid hs3
        have HO3 := Lib.hid ho3
        have HW3 := Lib.hid hw3
        have HB3 := Lib.hid hb3
        have hrc := Lib.hid HR.out.symm
        clear hs3 ho3 hw3 hb3
        go_wp2_with (go_at_call 39; refine HM3.out.mono ?_; rintro e w5 ⟨rfl, hb5⟩; have hb5 := Lib.hid hb5)
        go_roundg 1
        case measure => omega
        case rel => exact .inr (.inl ⟨rfl, by rw [← HR.out], Lib.hid ⟨h3, cap3, HS3.out.kept hb5.out, own_belowS HO3.out hb5.out, own_belowS HW3.out hb5.out, HB3.out.trans (hb5.out.mono (Nat.le_trans hB (Nat.le_of_lt HS3.out.lt)))⟩⟩)
    · obtain ⟨h1, cap1, hs1, ho1, hw1, hb1⟩ := hm.out
      have cb := hs1.cb
      have HM3 := Lib.hid (missing_at (L := p.size) hs1 ho1 (by rw [HFL.out]; exact Nat.le_refl _) (by rw [← HL4.out, ← HFL.out]; exact List.take_length) hp1 hp2 (by rw [HFL.out]; decide))
      rw [HFL.out, HMID.out] at HM3
      have HS1 := Lib.hid hs1
      have HO1 := Lib.hid ho1
      have HW1 := Lib.hid hw1
      have HB1 := Lib.hid hb1
      have hg1 := hs1.lt
      clear hs1 ho1 hw1 hb1 hm
      go_upto_region 2 with (go_at_call 39; refine HM3.out.mono ?_; rintro e w5 ⟨rfl, hb5⟩; have hb5 := Lib.hid hb5)
      have HS5 := Lib.hid (HS1.out.kept hb5.out)
      have HO5 := Lib.hid (own_belowS HO1.out hb5.out)
      have HW5 := Lib.hid (own_belowS HW1.out hb5.out)
      have HB5 := Lib.hid (HB1.out.trans (hb5.out.mono (Nat.le_trans hB (Nat.le_of_lt hg1))))
      obtain ⟨i0, hi, hz0, hz1, hz2⟩ := u8infoF
      have hd : Below w5.heap.size w5 w5.drew := (Below.refl _ _).drew
      have HSd := Lib.hid (HS5.out.kept hd)
      have HOd := Lib.hid (own_belowS HO5.out hd)
      have HWd := Lib.hid (own_belowS HW5.out hd)
      have HBd := Lib.hid (show B ≤ w5.drew.heap.size from Nat.le_trans hB (Nat.le_of_lt HS5.out.lt))
      have HDB := Lib.hid (show Below B w w5.drew from HB5.out.drew)
      have hRR := Lib.hid (show R.extract 0 R.size = R from by simp)
      have hRx : (R.extract 0 R.size).size ≤ 4004 := by rw [hRR.out]; exact hRm
      have HXR := Lib.hid (show l4 ++ R.data.toList = l4 ++ (R.extract 0 R.size).data.toList by rw [hRR.out])
      have hl44 : l4.length ≤ 4 := by rw [HFL.out]; exact Nat.le_refl _
      have HPOS := Lib.hid (show 0 < (l4 ++ R.data.toList).length by rw [List.length_append, HFL.out]; omega)
      have HLEN := Lib.hid (show (l4 ++ R.data.toList).length = l4.length + R.size by rw [List.length_append, list_sizeB])
      have c0 := HS5.out.cp
      clear hd HM3 hb5 HS1 HO1 HW1 HB1
      go_cut [] (fun wc => Hid (Mid B w g v N L (l4 ++ R.data.toList) wc))
      case first =>
        go_region_law (refine step_append_str rfl (.tmp 24) (.tmp 27) 91 9 rfl B 5 i0 Try.underlying91 Try.underlying9 hi hz0 hz1 hz2 (.slice (some ⟨h1, 0, none⟩) l4.length cap1) l4.length (Lib.byteCells l4) (by simp [Act.eval, Act.put]) HOd.out (R.extract 0 R.size) (by simp [Act.eval, Act.put]) (by unfold maxLen; omega) (by omega) HBd.out ?_; intro v3 w3 hown3 hg3; have hown3 := own_str (l0 := l4) hown3 HXR.out rfl; obtain ⟨gv, cv, rfl⟩ := own_sliceF hown3 HPOS.out; obtain ⟨hs3, hm3⟩ := mid_append (w := w) HSd.out HWd.out HDB.out hB HOd.out hown3 hg3 HPOS.out; have HM3 := Lib.hid hm3; have c3 := hs3.cp; have f3 := hs3.fz 256; clear hown3 hg3 hs3 hm3)
        all_goals
          go_wp2_with fail
          go_meet
          case rel => first | exact HM3 | (rw [HLEN.out] at HM3; exact HM3)
      case rest =>
        obtain ⟨h3, cap3, hs3, ho3, hw3, hb3⟩ := hcut.out
        have hn8 : (l4 ++ R.data.toList).length = p.size + 8 := by rw [List.length_append, HFL.out, list_sizeB, HRS.out]; omega
        have HM3 := Lib.hid (missing_at (L := p.size) hs3 ho3 (by omega) (by rw [← HL4.out, List.take_append_of_le_length (by rw [HFL.out]; exact Nat.le_refl _), ← HFL.out]; exact List.take_length) hp1 hp2 (by omega))
        have hz : (8 : Int) + (p.size : Int) - ((l4 ++ R.data.toList).length : Int) = 0 := by rw [List.length_append]; exact HEND.out
        rw [hz] at HM3
        have HS3 := Lib.hid hs3
        have HO3 := Lib.hid ho3
        have HW3 := Lib.hid hw3
        have HB3 := Lib.hid hb3
        clear hs3 ho3 hw3 hb3 hz hn8 hcut c0 cb
        go_wp2_with (first
          | (go_at_call 39; refine HM3.out.mono ?_; rintro e w6 ⟨rfl, hb6⟩; have hb6 := Lib.hid hb6)
          | (go_at_call 40; refine (HJ.out _ _ _ _ _ (HS3.out.kept hb6.out) (own_belowS HO3.out hb6.out)).mono ?_; rintro e w7 ⟨rfl, hs7, hb7⟩; have hs7 := Lib.hid hs7; have hb7 := Lib.hid hb7))
        go_roundg 0
        case measure => omega
        case rel => exact .inr (.inr ⟨rfl, by first | rfl | simp, Lib.hid ⟨hs7.out, (HB3.out.trans (hb6.out.mono (Nat.le_trans hB (Nat.le_of_lt HS3.out.lt)))).trans hb7.out⟩⟩)
    · have cb := hf.out.1.cb
      go_wp2_with fail
      refine bodyPost_none rfl rfl ?_
      exact ⟨rfl, hf.out⟩
end Go.Proofs.Ytbhlgceicfjncaa
