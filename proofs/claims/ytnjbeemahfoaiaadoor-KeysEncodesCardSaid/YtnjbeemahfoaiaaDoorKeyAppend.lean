/-
  The walk of the program's appendItem: an item's bytes, behind others.
-/
import Derived.Test.YtnjbeemahfoaiaaDoorKeyTurn
import Derived.Test.YtnjbeemahfoaiaaDoorReplace
import Derived.Test.YtnjbeemahfoaiaaDoorKeyTold
import Derived.Test.YtnjbeemahfoaiaaDoorFixedB
namespace Go.Proofs.YtnjbeemahfoaiaaDoor
open Go.RowKit
set_option linter.unusedVariables false
set_option linter.unusedSimpArgs false
set_option linter.unnecessarySimpa false
set_option maxRecDepth 100000

/-- What stands behind an item's first byte. -/
def tailV : KV → List UInt8
  | .int n => fx (up63 n) 8 true
  | .uint n => fx n 8 true
  | .text s => escT s.data.toList
  | _ => []
theorem encV_tail (v : KV) : encV v = UInt8.ofNat (tFirst v) :: tailV v := by
  cases v with
  | bool b => cases b <;> rfl
  | _ => rfl

/-- A told item in a cell of its own. -/
def BoxAt (W : World) (p : Nat) (d : Bool) (f n : Nat) (s : ByteArray) : Prop := W.heap[p]? = some (.cells #[.bool d, .int .u8 f, .int .u64 n, .string s] 49 (0, 0))
section
variable {W W' : World} {p : Nat} {d : Bool} {f n : Nat} {s : ByteArray}
theorem BoxAt.lt (h : BoxAt W p d f n s) : p < W.heap.size := (Array.getElem?_eq_some_iff.1 h).1
theorem BoxAt.cells (h : BoxAt W p d f n s) : W.cell? ⟨p, 0, none⟩ = some (.bool d) ∧ W.cell? ⟨p, 1, none⟩ = some (.int .u8 f) ∧ W.cell? ⟨p, 2, none⟩ = some (.int .u64 n) ∧ W.cell? ⟨p, 3, none⟩ = some (.string s) := by
  unfold BoxAt at h
  simp [World.cell?, h]
theorem BoxAt.alloc (h : BoxAt W p d f n s) (o : Obj) : BoxAt (W.alloc o) p d f n s := row_kept h o
theorem BoxAt.below (h : BoxAt W p d f n s) {B : Nat} (hb : Below B W W') (hp : p < B) : BoxAt W' p d f n s := (hb.block p hp).trans h
theorem BoxAt.grown (h : BoxAt W p d f n s) {B m : Nat} {v : Value} {xs : List Value} (ho : W.ownsRow B 5 1 v m xs) (hg : W.grownBy W' v.ownBlock) : BoxAt W' p d f n s := by
  refine (hg.block p h.lt ?_).trans h
  rcases ho.2 with ⟨rfl, _⟩ | ⟨g, cap, cur, rfl, _, h2, _⟩
  · simp [Value.ownBlock]
  · simp only [Value.ownBlock, ne_eq, Option.some.injEq]
    rintro rfl
    unfold BoxAt at h
    rw [h] at h2
    simp only [Option.some.injEq, Obj.cells.injEq] at h2
    exact absurd h2.2.1 (by decide)
/-- Where the row's block is, the box isn't. -/
theorem BoxAt.ne (h : BoxAt W p d f n s) {B m g cap : Nat} {xs : List Value} (ho : W.ownsRow B 5 1 (.slice (some ⟨g, 0, none⟩) m cap) m xs) : ¬ g = p := by
  rcases ho.2 with ⟨h0, _⟩ | ⟨g', cap', cur, h0, _, h2, _⟩
  · cases h0
  · simp only [Value.slice.injEq, Option.some.injEq, Addr.mk.injEq] at h0
    rintro rfl
    obtain ⟨⟨rfl, _⟩, _⟩ := h0
    unfold BoxAt at h
    rw [h] at h2
    simp only [Option.some.injEq, Obj.cells.injEq] at h2
    exact absurd h2.2.1 (by decide)
end

theorem own_cap {W : World} {B e n g cap : Nat} {xs : List Value} (h : W.ownsRow B e 1 (.slice (some ⟨g, 0, none⟩) n cap) n xs) : n ≤ cap := by
  rcases h.2 with ⟨h0, _⟩ | ⟨g', cap', cur, h0, _, _, h2, _⟩
  · cases h0
  · simp only [Value.slice.injEq] at h0
    obtain ⟨_, _, rfl⟩ := h0
    exact h2

/-- What stands behind a first byte. -/
def Tail (f n : Nat) (s : ByteArray) (t : List UInt8) : Prop :=
  (f ≠ 48 ∧ f ≠ 64 ∧ f ≠ 80 ∧ t = []) ∨ ((f = 48 ∨ f = 64) ∧ t = fx n 8 true) ∨ (f = 80 ∧ t = escT s.data.toList)

set_option maxHeartbeats 8000000 in
theorem appendItem_of (B : Nat) (v : Value) (l : List UInt8) (d : Bool) (f n : Nat) (s : ByteArray) (t : List UInt8) (hf : f < 256) (hn : n < 18446744073709551616) (hT : Tail f n s t) (L : Nat) (hL : l.length = L) (hlen : L ≤ 10000000) (hts : t.length ≤ 3000000) (ht : s.size ≤ 1048576) (w : World) (hB : B ≤ w.heap.size) (ho : w.ownsRow B 5 1 v L (Lib.byteCells l)) :
    Calls Tryd.prog 18 #[v, .agg #[.bool d, .int .u8 f, .int .u64 n, .string s]] w fun e w' => ∃ v', e = .returned v' ∧ Hid (w'.ownsRow B 5 1 v' (L + (1 + t.length)) (Lib.byteCells (l ++ if d then (UInt8.ofNat f :: t).map flip8 else UInt8.ofNat f :: t))) ∧ Hid (Below B w w') := by
  obtain ⟨i0, hi, hz0, hz1, hz2⟩ := info_parts u8info
  have HO := Lib.hid ho
  have HL := Lib.hid hL
  have HT := Lib.hid hT
  obtain ⟨a, cap, rfl⟩ := own_form ho
  clear ho hL hT
  go_enter Tryd.func18, Tryd.ntmps18
  go_upto_region 2 with fail
  have hB1 := (Below.refl B w).alloc hB (.cells #[.bool d, .int .u8 f, .int .u64 n, .string s] 49)
  have hO1 := own_below HO.out ((Below.refl w.heap.size w).alloc (Nat.le_refl _) (.cells #[.bool d, .int .u8 f, .int .u64 n, .string s] 49))
  have hX1 : BoxAt (w.alloc (.cells #[.bool d, .int .u8 f, .int .u64 n, .string s] 49)) w.heap.size d f n s := heap_alloc_new w _
  generalize hW : w.alloc (.cells #[.bool d, .int .u8 f, .int .u64 n, .string s] 49) = w1 at hB1 hO1 hX1 ⊢
  obtain ⟨p, hp⟩ : ∃ p, p = w.heap.size := ⟨_, rfl⟩
  rw [← hp] at hX1
  rw [← hp]
  have hBp : B ≤ p := by omega
  have hp1 := hX1.lt
  obtain ⟨c0, c1, c2, c3⟩ := hX1.cells
  have HB1 := Lib.hid hB1
  have HO1 := Lib.hid hO1
  have HX1 := Lib.hid hX1
  clear hB1 hO1 hX1 hW HO hB hp
  have hone := Lib.hid (cell_one_new w1 (.int .u8 f) 5)
  go_upto_block 0 with (at_builtin; refine wpList_append_own _ rfl _ _ 42 rfl B 5 i0 (.int .u8 0) 1 1 Tryd.underlying42 hi hz0 hz1 hz2 rfl (by decide) _ _ _ rfl ((HO1.out).alloc _) ⟨w1.heap.size, 0, none⟩ 1 1 [.int .u8 f] rfl rfl (hone.out) (by simp [Value.oneCell']) (by unfold maxLen; omega) (by omega) (by simp; omega) ?_)
  intro v2 w2 hown2 hg2 _
  have hrow : Lib.byteCells l ++ [.int .u8 f] = Lib.byteCells (l ++ [UInt8.ofNat f]) := by
    rw [← cells_snoc, show ((UInt8.ofNat f).toNat : Int) = (f : Int) by rw [UInt8.toNat_ofNat']; omega]
  rw [hrow] at hown2
  have hX2 := (HX1.out.alloc (.cells #[.int .u8 f] 5)).grown ((HO1.out).alloc _) hg2
  have hB2 := (HB1.out.alloc (by omega) (.cells #[.int .u8 f] 5)).grown hg2 (by simp; omega) (fun k hk => ((HO1.out).lt k hk).1)
  have H2 := Lib.hid hown2
  have B2 := Lib.hid hB2
  obtain ⟨c0, c1, c2, c3⟩ := hX2.cells
  have X2 := Lib.hid hX2
  have hp2 := hX2.lt
  clear hown2 hg2 hrow hX2 hB2 hone HB1 HO1 HX1 hp1
  go_upto_block 0 with fail
  go_cut [0] (fun s0 wc => Hid (wc.ownsRow B 5 1 s0 (L + (1 + t.length)) (Lib.byteCells (l ++ UInt8.ofNat f :: t))) ∧ Hid (BoxAt wc p d f n s) ∧ Hid (Below B w wc))
  case first =>
    rcases HT.out with ⟨h1, h2, h3, h4⟩ | ⟨h1, h4⟩ | ⟨h1, h4⟩
    · have e1 : ((f : Int) == 48) = false := by rw [beq_eq_false_iff_ne]; omega
      have e2 : ((f : Int) == 64) = false := by rw [beq_eq_false_iff_ne]; omega
      have e3 : ((f : Int) == 80) = false := by rw [beq_eq_false_iff_ne]; omega
      have H4 := Lib.hid h4
      clear h1 h2 h3 h4
      go_wp2_with fail
      go_meet
      case rel => exact ⟨Lib.hid (by rw [H4.out]; exact H2.out), X2, B2⟩
    · have H4 := Lib.hid h4
      have hfx := Lib.hid (fixed_any n 8 true w2 (by decide) (by decide))
      have hsz8 := Lib.hid (size_fx n)
      rcases h1 with h1 | h1
      · have e1 : ((f : Int) == 48) = true := by rw [beq_iff_eq]; omega
        clear h1 h4
        go_wp2_with (first
          | (go_at_call 31; refine (hfx.out).mono ?_; rintro e w3 ⟨rfl, hb3⟩)
          | (at_builtin; refine Lib.wpList_append_own_string _ rfl _ _ 42 9 rfl B 5 i0 Tryd.underlying42 Tryd.underlying9 hi hz0 hz1 hz2 _ (L + 1) (Lib.byteCells (l ++ [UInt8.ofNat f])) rfl (own_below H2.out hb3) ⟨(fx n 8 true).toArray⟩ rfl (by rw [hsz8.out]; unfold maxLen; omega) (by rw [hsz8.out]; omega) (Nat.le_trans (show B ≤ w2.heap.size by omega) hb3.size) ?_))
        intro v4 w4 hown4 hg4 _
        have hX4 := (X2.out.below hb3 hp2).grown (own_below H2.out hb3) hg4
        have hB4 := (B2.out.trans (hb3.mono (show B ≤ w2.heap.size by omega))).grown hg4 (Nat.le_trans (show B ≤ w2.heap.size by omega) hb3.size) (fun k hk => ((own_below H2.out hb3).lt k hk).1)
        have H5 := Lib.hid hown4
        have X5 := Lib.hid hX4
        have B5 := Lib.hid hB4
        clear hown4 hg4 hb3 hX4 hB4
        go_wp2_with fail
        go_meet
        case rel => exact ⟨Lib.hid (by rw [H4.out]; have := H5.out; rw [fx_len] at this ⊢; simpa [Lib.byteCells, Lib.strCells, Nat.add_assoc] using this), X5, B5⟩
      · have e1 : ((f : Int) == 48) = false := by rw [beq_eq_false_iff_ne]; omega
        have e2 : ((f : Int) == 64) = true := by rw [beq_iff_eq]; omega
        clear h1 h4
        go_wp2_with (first
          | (go_at_call 31; refine (hfx.out).mono ?_; rintro e w3 ⟨rfl, hb3⟩)
          | (at_builtin; refine Lib.wpList_append_own_string _ rfl _ _ 42 9 rfl B 5 i0 Tryd.underlying42 Tryd.underlying9 hi hz0 hz1 hz2 _ (L + 1) (Lib.byteCells (l ++ [UInt8.ofNat f])) rfl (own_below H2.out hb3) ⟨(fx n 8 true).toArray⟩ rfl (by rw [hsz8.out]; unfold maxLen; omega) (by rw [hsz8.out]; omega) (Nat.le_trans (show B ≤ w2.heap.size by omega) hb3.size) ?_))
        intro v4 w4 hown4 hg4 _
        have hX4 := (X2.out.below hb3 hp2).grown (own_below H2.out hb3) hg4
        have hB4 := (B2.out.trans (hb3.mono (show B ≤ w2.heap.size by omega))).grown hg4 (Nat.le_trans (show B ≤ w2.heap.size by omega) hb3.size) (fun k hk => ((own_below H2.out hb3).lt k hk).1)
        have H5 := Lib.hid hown4
        have X5 := Lib.hid hX4
        have B5 := Lib.hid hB4
        clear hown4 hg4 hb3 hX4 hB4
        go_wp2_with fail
        go_meet
        case rel => exact ⟨Lib.hid (by rw [H4.out]; have := H5.out; rw [fx_len] at this ⊢; simpa [Lib.byteCells, Lib.strCells, Nat.add_assoc] using this), X5, B5⟩
    · have e1 : ((f : Int) == 48) = false := by rw [beq_eq_false_iff_ne]; omega
      have e2 : ((f : Int) == 64) = false := by rw [beq_eq_false_iff_ne]; omega
      have e3 : ((f : Int) == 80) = true := by rw [beq_iff_eq]; omega
      have H4 := Lib.hid h4
      have hre := Lib.hid (replace_esc s (by omega) w2)
      obtain ⟨E, hE⟩ : ∃ E, E = esc s.data.toList := ⟨_, rfl⟩
      rw [← hE] at hre
      have hEl : E.length ≤ 3000000 := by
        have := congrArg List.length h4
        rw [show escT s.data.toList = E ++ [0, 0] by rw [hE]; rfl, List.length_append] at this
        simp at this
        omega
      have hE4 := Lib.hid (show t = E ++ [0, 0] by rw [h4, hE]; rfl)
      have hszE := Lib.hid (show (⟨E.toArray⟩ : ByteArray).size = E.length from List.size_toArray)
      clear h1 h4 hE H4
      go_upto_region 9 with (first
        | (go_at_call 32; refine (hre.out).mono ?_; rintro e w3 ⟨rfl, hb3⟩)
        | (at_builtin; refine Lib.wpList_append_own_string _ rfl _ _ 42 9 rfl B 5 i0 Tryd.underlying42 Tryd.underlying9 hi hz0 hz1 hz2 _ (L + 1) (Lib.byteCells (l ++ [UInt8.ofNat f])) rfl (own_below H2.out hb3) ⟨E.toArray⟩ rfl (by rw [hszE.out]; unfold maxLen; omega) (by rw [hszE.out]; omega) (Nat.le_trans (show B ≤ w2.heap.size by omega) hb3.size) ?_))
      intro v4 w4 hown4 hg4 _
      have hX4 := (X2.out.below hb3 hp2).grown (own_below H2.out hb3) hg4
      have hB4 := (B2.out.trans (hb3.mono (show B ≤ w2.heap.size by omega))).grown hg4 (Nat.le_trans (show B ≤ w2.heap.size by omega) hb3.size) (fun k hk => ((own_below H2.out hb3).lt k hk).1)
      have hs4 : B ≤ w4.heap.size := by have := hX4.lt; omega
      have H5 : Hid (w4.ownsRow B 5 1 v4 (L + 1 + E.length) (Lib.byteCells (l ++ [UInt8.ofNat f] ++ E))) := Lib.hid (by simpa [Lib.byteCells, Lib.strCells, Nat.add_assoc] using hown4)
      have X5 := Lib.hid hX4
      have B5 := Lib.hid hB4
      clear hown4 hg4 hb3 hX4 hB4
      go_wp2_with (at_builtin; refine Lib.wpList_append_own_string _ rfl _ _ 42 9 rfl B 5 i0 Tryd.underlying42 Tryd.underlying9 hi hz0 hz1 hz2 _ (L + 1 + E.length) (Lib.byteCells (l ++ [UInt8.ofNat f] ++ E)) rfl H5.out ⟨#[0, 0]⟩ rfl (by show L + 1 + E.length + 2 ≤ _; unfold maxLen; omega) (by show L + 1 + E.length + 2 ≤ _; omega) hs4 ?_)
      intro v6 w6 hown6 hg6 _
      have X6 := Lib.hid (X5.out.grown H5.out hg6)
      have B6 := Lib.hid (B5.out.grown hg6 hs4 (fun k hk => (H5.out.lt k hk).1))
      have H6 := Lib.hid hown6
      clear hown6 hg6
      go_wp2_with fail
      go_meet
      case rel => exact ⟨Lib.hid (by rw [hE4.out]; have := H6.out; simpa [Lib.byteCells, Lib.strCells, Nat.add_assoc, Nat.add_comm, Nat.add_left_comm] using this), X6, B6⟩
  case rest =>
    obtain ⟨H3, X3, B3⟩ := hcut
    obtain ⟨g, cap3, rfl, hg1, hg2⟩ := own_slice H3.out (by omega)
    obtain ⟨d0, d1, d2, d3⟩ := X3.out.cells
    clear c0 c1 c2 c3 d1 d2 d3 H2 X2 B2
    cases d
    · go_wp2_with fail
      go_ret
      exact ⟨_, rfl, H3, B3⟩
    · have hcap := own_cap H3.out
      have hne : ¬ cap3 = L := by omega
      have hne' : ¬ L = cap3 := by omega
      have ht2 := Lib.hid (turn_any B g cap3 (cap3 - L) l (UInt8.ofNat f :: t) L (1 + t.length) HL.out (by rw [List.length_cons]; omega) (by omega) (by omega) hg1 wc H3.out)
      clear hcap
      go_wp2_with (go_at_call 33; refine (ht2.out).mono ?_; rintro e w5 ⟨rfl, h5, b5⟩)
      go_ret
      exact ⟨_, rfl, Lib.hid h5, Lib.hid (B3.out.trans b5)⟩

theorem tail_of (k : KV) : Tail (tFirst k) (tNum k) (tText k) (tailV k) := by
  cases k with
  | nil => exact .inl ⟨by decide, by decide, by decide, rfl⟩
  | bool b => cases b <;> exact .inl ⟨by decide, by decide, by decide, rfl⟩
  | int n => exact .inr (.inl ⟨.inl rfl, rfl⟩)
  | uint n => exact .inr (.inl ⟨.inr rfl, rfl⟩)
  | text s => exact .inr (.inr ⟨rfl, rfl⟩)
theorem tFirst_byte (k : KV) : tFirst k < 256 := by
  cases k with
  | bool b => cases b <;> simp [tFirst]
  | _ => simp [tFirst]
theorem tNum_ok {k : KV} (h : k.ok) : tNum k < 18446744073709551616 := by
  cases k with
  | int n => exact up63_lt n h
  | uint n => exact h
  | _ => simp [tNum]
theorem tail_len (k : KV) (h : (tText k).size ≤ 1048576) : (tailV k).length ≤ 3000000 := by
  cases k with
  | text s =>
    have := esc_len s.data.toList
    rw [← Lib.size_eq] at this
    simp only [tText] at h
    simp [tailV, escT]; omega
  | _ => simp [tailV, fx_len]
theorem encI_tail (k : KV) (d : Bool) : encI (k, d) = if d then (UInt8.ofNat (tFirst k) :: tailV k).map flip8 else UInt8.ofNat (tFirst k) :: tailV k := by
  unfold encI
  simp only
  rw [encV_tail]
theorem encI_length (k : KV) (d : Bool) : (encI (k, d)).length = 1 + (tailV k).length := by
  rw [encI_tail]
  cases d <;> simp <;> omega

/-- An item's bytes, put behind others. -/
theorem appendItem_any (B : Nat) (v : Value) (l : List UInt8) (x : KV × Bool) (hx : x.1.ok) (hlen : l.length ≤ 10000000) (ht : (tText x.1).size ≤ 1048576) (w : World) (hB : B ≤ w.heap.size) (ho : w.ownsRow B 5 1 v l.length (Lib.byteCells l)) :
    Calls Tryd.prog 18 #[v, .agg (told x)] w fun e w' => ∃ v', e = .returned v' ∧ Hid (w'.ownsRow B 5 1 v' (l ++ encI x).length (Lib.byteCells (l ++ encI x))) ∧ Hid (Below B w w') := by
  obtain ⟨k, d⟩ := x
  have h := appendItem_of B v l d (tFirst k) (tNum k) (tText k) (tailV k) (tFirst_byte k) (tNum_ok hx) (tail_of k) l.length rfl hlen (tail_len k ht) ht w hB ho
  rw [List.length_append, encI_length, encI_tail]
  exact h
end Go.Proofs.YtnjbeemahfoaiaaDoor
