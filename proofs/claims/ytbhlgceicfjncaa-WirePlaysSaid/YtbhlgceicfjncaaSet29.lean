/-
  Joined: FrmSplE, OpenStrs, FrmBack, FrmProgram.
-/
import Derived.Test.YtbhlgceicfjncaaSet20
import Derived.Deep.RegionLaw
import Derived.Test.YtbhlgceicfjncaaRows
import Derived.ProofKit
import Derived.OpenShut
import Derived.SliceStrings
import Derived.Deep.Strs
import Derived.Test.YtbhlgceicfjncaaSet10
namespace Go.Proofs.Ytbhlgceicfjncaa
open Go.RowKit
set_option linter.unusedVariables false
set_option linter.unnecessarySimpa false
set_option linter.unusedSimpArgs false
set_option maxRecDepth 100000

/-- A splitter that has come to the end of a frame's length. -/
def Mid (B : Nat) (w : World) (g : Nat) (v : Value) (N : Nat) (L : List Value) (l : List UInt8) (w' : World) : Prop :=
  ∃ h cap, SpAt w' g (.slice (some ⟨h, 0, none⟩) l.length cap) v false ∧ w'.ownsRow B 5 1 (.slice (some ⟨h, 0, none⟩) l.length cap) l.length (Lib.byteCells l) ∧ w'.ownsRow B 9 1 v N L ∧ Below B w w'
/-- .. and that has told what came. -/
def Fin (B : Nat) (w : World) (g : Nat) (N : Nat) (L : List Value) (w' : World) : Prop :=
  ∃ v', SpAt w' g (.slice none 0 0) v' false ∧ w'.ownsRow B 9 1 v' N L ∧ Below B w w'

theorem own_str {w : World} {B n : Nat} {v : Value} {l0 l : List UInt8} {s : ByteArray} (h : w.ownsRow B 5 1 v (n + s.size) (Lib.byteCells l0 ++ Lib.strCells s)) (hl : l = l0 ++ s.data.toList) (hn : n = l0.length) : w.ownsRow B 5 1 v l.length (Lib.byteCells l) := by
  rw [hl, List.length_append, ← hn, list_sizeB, show Lib.byteCells (l0 ++ s.data.toList) = Lib.byteCells l0 ++ Lib.strCells s by simp [Lib.byteCells, Lib.strCells]]
  exact h
/-- What an append to the field leaves. -/
theorem mid_append {B : Nat} {w w1 w3 : World} {g N : Nat} {p0 v v3 : Value} {L : List Value} {n : Nat} {xs : List Value} {l : List UInt8} (hs : SpAt w1 g p0 v false) (hv : w1.ownsRow B 9 1 v N L) (hb : Below B w w1) (hB : B ≤ g)
    (hp : w1.ownsRow B 5 1 p0 n xs) (h3 : w3.ownsRow B 5 1 v3 l.length (Lib.byteCells l)) (hg : w1.grownBy w3 p0.ownBlock) (hl : 0 < l.length) :
    SpAt w3 g p0 v false ∧ Mid B w g v N L l (w3.setCell ⟨g, 256, none⟩ v3) := by
  have hs3 : SpAt w3 g p0 v false := (hg.block g hs.lt (fun e => own_ne_row hp hs (by decide) e.symm)).trans hs
  have hv3 : w3.ownsRow B 9 1 v N L := own_grownS hv hg (own_ne_own hv hp (by decide))
  obtain ⟨h, cap, rfl⟩ := own_sliceF h3 hl
  refine ⟨hs3, h, cap, hs3.setp _, own_grownS h3 (grownByB_setCell w3 g 256 _) (.inr (own_ne_row h3 hs3 (by decide))), own_grownS hv3 (grownByB_setCell w3 g 256 _) (.inr (own_ne_row hv3 hs3 (by decide))), ?_⟩
  exact (hb.grown hg (Nat.le_trans hB (Nat.le_of_lt hs.lt)) (fun k hk => (hp.lt k hk).1)).setCell hB _

theorem u8infoF : ∃ i, Try.prog.info? 5 = some i ∧ i.zero = some (.int .u8 0) ∧ i.size = 1 ∧ i.bytes = 1 := info_partsF u8info

set_option maxHeartbeats 8000000 in
theorem feed_ok {w : World} {B g : Nat} {v : Value} {p : ByteArray} {ps : List ByteArray} (hB : B ≤ g) (hs : SpAt w g (.slice none 0 0) v false) (hw : w.ownsRow B 9 1 v ps.length (ps.map Value.string))
    (hp1 : 1 ≤ p.size) (hp2 : p.size ≤ 4000) (hps : ps.length ≤ 8) :
    Calls Try.prog 25 #[.pointer (some ⟨g, 0, none⟩), .string (frmS p)] w fun e w' => e = .returned (.tuple #[]) ∧ Fin B w g (ps.length + 1) ((ps ++ [p]).map Value.string) w' := by
  have hsz := frmS_size p
  have hx1 : (frmS p).data.toList = fx p.size 4 true ++ (fx (sumB p.data.toList) 4 true ++ p.data.toList) := by
    show (frmB p.data.toList) = _
    unfold frmB
    rw [← Lib.size_eq, List.append_assoc]
  have hfl := fx_length p.size 4 true
  have hext := extract_listF hx1
  rw [hfl] at hext
  obtain ⟨he1, he2⟩ := hext
  have HS := Lib.hid hs
  have HW := Lib.hid hw
  have hg := hs.lt
  obtain ⟨R, hR⟩ : ∃ R, R = (frmS p).extract 4 (frmS p).size := ⟨_, rfl⟩
  have hRl : R.data.toList = fx (sumB p.data.toList) 4 true ++ p.data.toList := by rw [hR, he2]
  have hRs : R.size = p.size + 4 := by rw [← list_sizeB, hRl, List.length_append, fx_length, list_sizeB]; omega
  obtain ⟨F, hF⟩ : ∃ F, F = frmS p := ⟨_, rfl⟩
  have hXl : (frmB p.data.toList) = fx p.size 4 true ++ R.data.toList := by rw [hRl, ← hx1]; rfl
  rw [← hF] at hsz he1 hR ⊢
  have HJ := Lib.hid (fun (w1 : World) (h n cap : Nat) (v : Value) hs1 ho1 hw1 => judge_ok (w := w1) (B := B) (h := h) (n := n) (cap := cap) (v := v) (ps := ps) (p := p) hB hs1 ho1 hw1 hp1 hp2 hps)
  obtain ⟨N, hN⟩ : ∃ N, N = ps.length := ⟨_, rfl⟩
  obtain ⟨L, hL⟩ : ∃ L, L = ps.map Value.string := ⟨_, rfl⟩
  rw [← hN, ← hL] at HW HJ
  rw [← hN]
  rw [hXl] at HJ
  obtain ⟨L2, hL2⟩ : ∃ L2, L2 = (ps ++ [p]).map Value.string := ⟨_, rfl⟩
  rw [← hL2] at HJ ⊢
  obtain ⟨l4, hl4⟩ : ∃ l4, l4 = fx p.size 4 true := ⟨_, rfl⟩
  have HL4 := Lib.hid hl4
  rw [← hl4] at he1 HJ hfl
  have HE1 := Lib.hid he1
  have HRS := Lib.hid hRs
  have hF4z : (4 : Int) ≤ (F.size : Int) := by omega
  have hF0z : (0 : Int) < (F.size : Int) := by omega
  have hFm : F.size ≤ 4008 := by omega
  have hR0z : (0 : Int) < (R.size : Int) := by omega
  have hRm : R.size ≤ 4004 := by omega
  have hmid : (8 : Int) + (p.size : Int) - ((4 : Nat) : Int) = (R.size : Int) := by omega
  have hend : (8 : Int) + (p.size : Int) - ((l4.length + R.data.toList.length : Nat) : Int) = 0 := by rw [list_sizeB]; omega
  have HMID := Lib.hid hmid
  have HFL := Lib.hid hfl
  have HEND := Lib.hid hend
  have HR := Lib.hid hR
  have hF4 : 4 ≤ F.size := by omega
  clear hs hw hx1 he1 he2 hRl hF hXl hL2 hL hN hl4 hRs hps hR hmid hend hsz hfl
  go_enter Try.func25, Try.ntmps25
  go_wp2_with fail
  go_loopg [1, 4] 2 (fun gk s1 s4 wx => (gk = 2 ∧ s1 = .string F ∧ wx = w) ∨ (gk = 1 ∧ s1 = .string R ∧ Hid (Mid B w g v N L l4 wx)) ∨ (gk = 0 ∧ s1 = .string ⟨#[]⟩ ∧ Hid (Fin B w g (N + 1) L2 wx)))
  case atStart => exact .inl ⟨rfl, rfl, rfl⟩
  case round =>
    rcases hrel with ⟨rfl, rfl, rfl⟩ | ⟨rfl, rfl, hm⟩ | ⟨rfl, rfl, hf⟩
    · have c0 := HS.out.cp
      have cb := HS.out.cb
      have f0 := HS.out.fz 256
      have HM := Lib.hid (missing_short HS.out (by decide))
      go_upto_region 2 with (go_at_call 39; refine HM.out.mono ?_; rintro e w1 ⟨rfl, rfl⟩)
      obtain ⟨i0, hi, hz0, hz1, hz2⟩ := u8infoF
      have hd : Below wr.heap.size wr wr.drew := (Below.refl _ _).drew
      have HSd := Lib.hid (HS.out.kept hd)
      have HWd := Lib.hid (own_belowS HW.out hd)
      have HN0 := Lib.hid (World.ownsRow_nil wr.drew B 5 1)
      have HBd := Lib.hid (show B ≤ wr.drew.heap.size from Nat.le_trans hB (Nat.le_of_lt hg))
      have HDB := Lib.hid (show Below B wr wr.drew from (Below.refl _ _).drew)
      have hs4 : (F.extract 0 4).size = 4 := by rw [HE1.out]; show l4.toArray.size = 4; rw [List.size_toArray, HFL.out]
      have hsm : (F.extract 0 4).size ≤ 4 := by omega
      have HX4 := Lib.hid (show l4 = [] ++ (F.extract 0 4).data.toList by rw [HE1.out]; simp)
      clear hd HM
      go_cut [] (fun wc => Hid (Mid B wr g v N L l4 wc))
      case first =>
        go_region_law (refine step_append_str rfl (.tmp 24) (.tmp 27) 91 9 rfl B 5 i0 Try.underlying91 Try.underlying9 hi hz0 hz1 hz2 (.slice none 0 0) 0 [] (by simp [Act.eval, Act.put]) HN0.out (F.extract 0 4) (by simp [Act.eval, Act.put]) (by unfold maxLen; omega) (by omega) HBd.out ?_; intro v3 w3 hown3 hg3; have hown3 := own_str (l0 := []) hown3 HX4.out rfl; obtain ⟨gv, cv, rfl⟩ := own_sliceF hown3 (by rw [HFL.out]; decide); obtain ⟨hs3, hm3⟩ := mid_append (w := wr) HSd.out HWd.out HDB.out hB HN0.out hown3 hg3 (by rw [HFL.out]; decide); have HM3 := Lib.hid hm3; have c3 := hs3.cp; have f3 := hs3.fz 256; clear hown3 hg3 hs3 hm3)
        all_goals
          go_wp2_with fail
          go_meet
          case rel => exact HM3
      case rest =>
        obtain ⟨h3, cap3, hs3, ho3, hw3, hb3⟩ := hcut.out
        have HM3 := Lib.hid (missing_at (L := p.size) hs3 ho3 (by rw [HFL.out]; exact Nat.le_refl _) (by rw [← HL4.out, ← HFL.out]; exact List.take_length) hp1 hp2 (by rw [HFL.out]; decide))
        rw [HFL.out, HMID.out] at HM3
        have HS3 := Lib.hid hs3
        have HO3 := Lib.hid ho3
        have HW3 := Lib.hid hw3
        have HB3 := Lib.hid hb3
        have hrc := Lib.hid HR.out.symm
        clear hs3 ho3 hw3 hb3
        go_wp2_with (go_at_call 39; refine HM3.out.mono ?_; rintro e w5 ⟨rfl, hb5⟩; have hb5 := Lib.hid hb5)
        go_roundg 1
        case measure => omega
        case rel => exact .inr (.inl ⟨rfl, by rw [← HR.out], Lib.hid ⟨h3, cap3, HS3.out.kept hb5.out, own_belowS HO3.out hb5.out, own_belowS HW3.out hb5.out, HB3.out.trans (hb5.out.mono (Nat.le_trans hB (Nat.le_of_lt HS3.out.lt)))⟩⟩)
    · obtain ⟨h1, cap1, hs1, ho1, hw1, hb1⟩ := hm.out
      have cb := hs1.cb
      have HM3 := Lib.hid (missing_at (L := p.size) hs1 ho1 (by rw [HFL.out]; exact Nat.le_refl _) (by rw [← HL4.out, ← HFL.out]; exact List.take_length) hp1 hp2 (by rw [HFL.out]; decide))
      rw [HFL.out, HMID.out] at HM3
      have HS1 := Lib.hid hs1
      have HO1 := Lib.hid ho1
      have HW1 := Lib.hid hw1
      have HB1 := Lib.hid hb1
      have hg1 := hs1.lt
      clear hs1 ho1 hw1 hb1 hm
      go_upto_region 2 with (go_at_call 39; refine HM3.out.mono ?_; rintro e w5 ⟨rfl, hb5⟩; have hb5 := Lib.hid hb5)
      have HS5 := Lib.hid (HS1.out.kept hb5.out)
      have HO5 := Lib.hid (own_belowS HO1.out hb5.out)
      have HW5 := Lib.hid (own_belowS HW1.out hb5.out)
      have HB5 := Lib.hid (HB1.out.trans (hb5.out.mono (Nat.le_trans hB (Nat.le_of_lt hg1))))
      obtain ⟨i0, hi, hz0, hz1, hz2⟩ := u8infoF
      have hd : Below w5.heap.size w5 w5.drew := (Below.refl _ _).drew
      have HSd := Lib.hid (HS5.out.kept hd)
      have HOd := Lib.hid (own_belowS HO5.out hd)
      have HWd := Lib.hid (own_belowS HW5.out hd)
      have HBd := Lib.hid (show B ≤ w5.drew.heap.size from Nat.le_trans hB (Nat.le_of_lt HS5.out.lt))
      have HDB := Lib.hid (show Below B w w5.drew from HB5.out.drew)
      have hRR := Lib.hid (show R.extract 0 R.size = R from by simp)
      have hRx : (R.extract 0 R.size).size ≤ 4004 := by rw [hRR.out]; exact hRm
      have HXR := Lib.hid (show l4 ++ R.data.toList = l4 ++ (R.extract 0 R.size).data.toList by rw [hRR.out])
      have hl44 : l4.length ≤ 4 := by rw [HFL.out]; exact Nat.le_refl _
      have HPOS := Lib.hid (show 0 < (l4 ++ R.data.toList).length by rw [List.length_append, HFL.out]; omega)
      have HLEN := Lib.hid (show (l4 ++ R.data.toList).length = l4.length + R.size by rw [List.length_append, list_sizeB])
      have c0 := HS5.out.cp
      clear hd HM3 hb5 HS1 HO1 HW1 HB1
      go_cut [] (fun wc => Hid (Mid B w g v N L (l4 ++ R.data.toList) wc))
      case first =>
        go_region_law (refine step_append_str rfl (.tmp 24) (.tmp 27) 91 9 rfl B 5 i0 Try.underlying91 Try.underlying9 hi hz0 hz1 hz2 (.slice (some ⟨h1, 0, none⟩) l4.length cap1) l4.length (Lib.byteCells l4) (by simp [Act.eval, Act.put]) HOd.out (R.extract 0 R.size) (by simp [Act.eval, Act.put]) (by unfold maxLen; omega) (by omega) HBd.out ?_; intro v3 w3 hown3 hg3; have hown3 := own_str (l0 := l4) hown3 HXR.out rfl; obtain ⟨gv, cv, rfl⟩ := own_sliceF hown3 HPOS.out; obtain ⟨hs3, hm3⟩ := mid_append (w := w) HSd.out HWd.out HDB.out hB HOd.out hown3 hg3 HPOS.out; have HM3 := Lib.hid hm3; have c3 := hs3.cp; have f3 := hs3.fz 256; clear hown3 hg3 hs3 hm3)
        all_goals
          go_wp2_with fail
          go_meet
          case rel => first | exact HM3 | (rw [HLEN.out] at HM3; exact HM3)
      case rest =>
        obtain ⟨h3, cap3, hs3, ho3, hw3, hb3⟩ := hcut.out
        have hn8 : (l4 ++ R.data.toList).length = p.size + 8 := by rw [List.length_append, HFL.out, list_sizeB, HRS.out]; omega
        have HM3 := Lib.hid (missing_at (L := p.size) hs3 ho3 (by omega) (by rw [← HL4.out, List.take_append_of_le_length (by rw [HFL.out]; exact Nat.le_refl _), ← HFL.out]; exact List.take_length) hp1 hp2 (by omega))
        have hz : (8 : Int) + (p.size : Int) - ((l4 ++ R.data.toList).length : Int) = 0 := by rw [List.length_append]; exact HEND.out
        rw [hz] at HM3
        have HS3 := Lib.hid hs3
        have HO3 := Lib.hid ho3
        have HW3 := Lib.hid hw3
        have HB3 := Lib.hid hb3
        clear hs3 ho3 hw3 hb3 hz hn8 hcut c0 cb
        go_wp2_with (first
          | (go_at_call 39; refine HM3.out.mono ?_; rintro e w6 ⟨rfl, hb6⟩; have hb6 := Lib.hid hb6)
          | (go_at_call 40; refine (HJ.out _ _ _ _ _ (HS3.out.kept hb6.out) (own_belowS HO3.out hb6.out) (own_belowS HW3.out hb6.out)).mono ?_; rintro e w7 ⟨rfl, ⟨v7, hs7, hw7⟩, hb7⟩; have hs7 := Lib.hid hs7; have hw7 := Lib.hid hw7; have hb7 := Lib.hid hb7))
        go_roundg 0
        case measure => omega
        case rel => exact .inr (.inr ⟨rfl, by first | rfl | simp, Lib.hid ⟨v7, hs7.out, hw7.out, (HB3.out.trans (hb6.out.mono (Nat.le_trans hB (Nat.le_of_lt HS3.out.lt)))).trans hb7.out⟩⟩)
    · obtain ⟨v', hs', _, _⟩ := hf.out
      have cb := hs'.cb
      clear hs'
      go_wp2_with fail
      refine bodyPost_none rfl rfl ?_
      exact ⟨rfl, hf.out⟩
end Go.Proofs.Ytbhlgceicfjncaa

namespace Go.Proofs.Ytbhlgceicfjncaa
open Go.RowKit Go.ChangeShapes Go.WideShapes Go.Deep
set_option linter.unusedVariables false
set_option linter.unnecessarySimpa false
set_option linter.unusedSimpArgs false
set_option maxRecDepth 100000

/-- What a slice of strings is that came in. -/
def IsStrs (W : World) (a : Option Addr) (len _cap : Nat) (zs : List ByteArray) : Prop :=
  zs.length = len ∧ len ≤ maxLen ∧ (∀ s ∈ zs, s.size ≤ maxLen) ∧ (0 < len → ∃ b off, a = some ⟨b, off, none⟩ ∧ b < W.heap.size ∧ ∀ i, i < len → W.cell? ⟨b, off + i, none⟩ = some (.string (zs.getD i ByteArray.empty)))

theorem strs_cells : Try.prog.cellsOf 9 = 1 := by kernel_rfl

theorem open_IsStrs {H : Type} {enc : TypeId × Value → H} {W : World} {a : Option Addr} {len cap : Nat} {d : DataW H} {p : List MemPlace}
    (h : DataW.Trod enc Try.prog W 0 (fun _ => true) true 92 (.slice a len cap) d p) : ∃ zs, IsStrs W a len cap zs := by
  obtain ⟨fuel, hf⟩ := h
  rcases open_strings Try.underlying92 Try.underlying9 strs_cells hf with ⟨hcs, _⟩ | ⟨a', len', cap', ss, hcs, _, hl, hm, hz, _, hcell, hsz⟩
  · simp [Value.cells] at hcs
    obtain ⟨rfl, rfl, rfl⟩ := hcs
    exact ⟨[], rfl, Nat.zero_le _, fun s hs => absurd hs (by simp), fun h => absurd h (by simp)⟩
  · simp [Value.cells] at hcs
    obtain ⟨rfl, rfl, rfl⟩ := hcs
    simp only [if_true] at hz
    refine ⟨ss.take len, by rw [List.length_take]; omega, by omega, fun s hs => hsz s (List.mem_of_mem_take hs), fun h0 => ?_⟩
    obtain ⟨b, off, spot⟩ := a'
    have q0 := hcell 0 (by omega)
    have hspot : spot = none := by simpa [Addr.add] using World.cell?_spot q0
    subst hspot
    refine ⟨b, off, rfl, World.block_lt_of_cell? W _ (by simpa [Addr.add_lit] using q0), fun i hi => ?_⟩
    have := hcell i (by omega)
    rw [Addr.add_lit] at this
    rw [this]
    simp only [List.getD, List.getElem?_take, hi, if_true]
end Go.Proofs.Ytbhlgceicfjncaa

namespace Go.Proofs.Ytbhlgceicfjncaa
open Go.RowKit
set_option linter.unusedVariables false
set_option linter.unnecessarySimpa false
set_option linter.unusedSimpArgs false
set_option maxRecDepth 100000

theorem below_le {B : Nat} {w w' : World} (h : Below B w w') : w.heap.size ≤ w'.heap.size := h.size

end Go.Proofs.Ytbhlgceicfjncaa

namespace Go.Proofs.Ytbhlgceicfjncaa
open Go.RowKit
set_option linter.unusedVariables false
set_option linter.unnecessarySimpa false
set_option linter.unusedSimpArgs false
set_option maxRecDepth 100000

/-- None was told. -/
def AtF (B : Nat) (w : World) (r : Addr) (ps : List ByteArray) : Prop :=
  ∃ g v, r = ⟨g, 0, none⟩ ∧ B ≤ g ∧ SpAt w g (.slice none 0 0) v false ∧ w.ownsRow B 9 1 v ps.length (ps.map Value.string)
/-- Some may have been told. -/
def AtS (B : Nat) (w : World) (r : Addr) (ps : List ByteArray) : Prop :=
  ∃ g a c, r = ⟨g, 0, none⟩ ∧ B ≤ g ∧ SpAt w g (.slice none 0 0) (.slice a ps.length c) false ∧ Told B w a c ps ∧ c ≤ maxLen

theorem at_tell {B : Nat} {w : World} {r : Addr} {ps : List ByteArray} (h : AtF B w r ps) : AtS B w r ps := by
  obtain ⟨g, v, rfl, hB, hs, ho⟩ := h
  have hl : (ps.map Value.string).length = ps.length := List.length_map _
  rcases ho.2 with ⟨rfl, h0⟩ | ⟨k, cap, cur, rfl, hb, hk, hnc, hcm, hcs, htake⟩
  · refine ⟨g, none, 0, rfl, hB, ?_, fun hne => absurd (List.length_eq_zero_iff.1 h0) hne, by decide⟩
    rw [h0]; exact hs
  · refine ⟨g, _, cap, rfl, hB, hs, fun _ => ⟨k, 0, cur, rfl, hb, hk, hnc, by omega, fun j p hp => ?_⟩, hcm⟩
    have : (ps.map Value.string)[j]? = some (.string p) := by rw [List.getElem?_map, hp]; rfl
    rw [← htake, List.getElem?_take] at this
    split at this
    · rw [Nat.zero_add]; simpa using this
    · cases this

set_option maxHeartbeats 1000000 in
theorem feed_none {w : World} {g : Nat} {p q : Value} {b : Bool} (hs : SpAt w g p q b) :
    Calls Try.prog 25 #[.pointer (some ⟨g, 0, none⟩), .string ⟨#[]⟩] w fun e w' => e = .returned (.tuple #[]) ∧ w = w' := by
  have cb := hs.cb
  clear hs
  go_enter Try.func25, Try.ntmps25
  go_wp2_with fail
  go_loopg [1, 4] 0 (fun gk s1 s4 wx => s1 = .string ⟨#[]⟩ ∧ wx = w)
  case atStart => exact ⟨rfl, rfl⟩
  case round =>
    obtain ⟨rfl, rfl⟩ := hrel
    go_wp2_with fail
    refine bodyPost_none rfl rfl ?_
    exact ⟨rfl, rfl⟩

end Go.Proofs.Ytbhlgceicfjncaa
