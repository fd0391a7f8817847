/-
  The walk of the program's takeItem.
-/
import Derived.Test.YtnjbeemahfoaiaaDoorKeyTake
import Derived.Test.YtnjbeemahfoaiaaDoorKeyAppend
import Derived.Deep.RegionWith
namespace Go.Proofs.YtnjbeemahfoaiaaDoor
open Go.RowKit
set_option linter.unusedVariables false
set_option linter.unusedSimpArgs false
set_option linter.unnecessarySimpa false
set_option maxRecDepth 100000

theorem bit7 (b : UInt8) : bits BinOp.and IntKind.u8 (b.toNat : Int) 128 = if 128 ≤ b.toNat then 128 else 0 := by
  have key : ∀ x : Fin 256, bits BinOp.and IntKind.u8 ((x.val : Nat) : Int) 128 = if 128 ≤ x.val then 128 else 0 := by decide +kernel
  exact key ⟨b.toNat, UInt8.toNat_lt b⟩

theorem BoxAt.grownBy {W W' : World} {p g : Nat} {d : Bool} {f n : Nat} {s : ByteArray} (h : BoxAt W p d f n s) (hg : W.grownBy W' (some g)) (hne : p ≠ g) : BoxAt W' p d f n s :=
  (hg.block p h.lt (fun e => hne (Option.some.inj e))).trans h
theorem CurL.grownAlloc {W W' : World} {g : Nat} {l : List UInt8} {bad : Bool} (h : CurL W g l bad) (hb : Below W.heap.size W W') : CurL W' g l bad := (hb.block g (CurAt.lt h)).trans h

section
variable {W : World} {p q g i : Nat} {d d' : Bool} {f f' n n' : Nat} {s s' : ByteArray} {v : Value}
theorem BoxAt.set0 (h : BoxAt W p d f n s) : BoxAt (W.setCell ⟨p, 0, none⟩ (.bool d')) p d' f n s := by unfold BoxAt at *; rw [heap_setCell_same W p 0 _ _ _ h]; rfl
theorem BoxAt.set1 (h : BoxAt W p d f n s) : BoxAt (W.setCell ⟨p, 1, none⟩ (.int .u8 f')) p d f' n s := by unfold BoxAt at *; rw [heap_setCell_same W p 1 _ _ _ h]; rfl
theorem BoxAt.set2 (h : BoxAt W p d f n s) : BoxAt (W.setCell ⟨p, 2, none⟩ (.int .u64 n')) p d f n' s := by unfold BoxAt at *; rw [heap_setCell_same W p 2 _ _ _ h]; rfl
theorem BoxAt.set3 (h : BoxAt W p d f n s) : BoxAt (W.setCell ⟨p, 3, none⟩ (.string s')) p d f n s' := by unfold BoxAt at *; rw [heap_setCell_same W p 3 _ _ _ h]; rfl
theorem BoxAt.setOther (h : BoxAt W p d f n s) (hne : p ≠ q) : BoxAt (W.setCell ⟨q, i, none⟩ v) p d f n s := by unfold BoxAt at *; rw [heap_setCell_other W ⟨q, i, none⟩ p v hne]; exact h
theorem CurL.setOther {l : List UInt8} {bad : Bool} (h : CurL W g l bad) (hne : g ≠ q) : CurL (W.setCell ⟨q, i, none⟩ v) g l bad := by unfold CurL CurAt at *; rw [heap_setCell_other W ⟨q, i, none⟩ g v hne]; exact h
theorem grown_set {w : World} (h : w.grownBy W (some g)) (hq : w.heap.size ≤ q) : w.grownBy (W.setCell ⟨q, i, none⟩ v) (some g) :=
  ⟨h.os, h.tape, h.output, by simpa [World.setCell] using h.size, fun k hk hr => by rw [heap_setCell_other W ⟨q, i, none⟩ k v (by show k ≠ q; omega)]; exact h.block k hk hr⟩
theorem box_frozen (h : BoxAt W p d f n s) (j : Nat) : W.frozen? ⟨p, j, none⟩ = false := by unfold BoxAt at h; simp [World.frozen?, h]
end

theorem grown_drew {w W : World} {g : Nat} (h : w.grownBy W (some g)) : w.grownBy W.drew (some g) := ⟨h.os, h.tape, h.output, h.size, h.block⟩
/-- What is told ahead of takeItem's end. -/
def Ready (t : Option ((KV × Bool) × List UInt8)) (d : Bool) (f n : Nat) (s : ByteArray) (m : List UInt8) (bad : Bool) : Prop :=
  (bad = false ∧ ∃ v, t = some ((v, d), m) ∧ f = tFirst v ∧ n = tNum v ∧ s = tText v) ∨ (bad = true ∧ t = none)

/-- What takeItem tells. -/
def ItemOut (l : List UInt8) (g : Nat) (e : Ending) (w' : World) : Prop :=
  match tkI l with
  | some p => e = .returned (.tuple #[.agg (told p.1), .bool true]) ∧ CurL w' g p.2 false
  | none => ∃ (d : Bool) (f n : Int) (s : ByteArray), e = .returned (.tuple #[.agg #[.bool d, .int .u8 f, .int .u64 n, .string s], .bool false])
theorem ItemOut.some' {l r : List UInt8} {g : Nat} {e : Ending} {w' : World} {x : KV × Bool} (h : tkI l = some (x, r)) (he : e = .returned (.tuple #[.agg (told x), .bool true])) (hc : CurL w' g r false) : ItemOut l g e w' := by
  unfold ItemOut; rw [h]; exact ⟨he, hc⟩
theorem ItemOut.none' {l : List UInt8} {g : Nat} {e : Ending} {w' : World} {d : Bool} {f n : Int} {s : ByteArray} (h : tkI l = none) (he : e = .returned (.tuple #[.agg #[.bool d, .int .u8 f, .int .u64 n, .string s], .bool false])) : ItemOut l g e w' := by
  unfold ItemOut; rw [h]; exact ⟨d, f, n, s, he⟩

set_option maxHeartbeats 8000000 in
theorem takeItem_any (g : Nat) (b : UInt8) (l : List UInt8) (hl : l.length ≤ 99999) (w : World) (hg : g < w.heap.size) (h : CurL w g (b :: l) false) :
    Calls Tryd.prog 21 #[.pointer (some ⟨g, 0, none⟩)] w fun e w' => ItemOut (b :: l) g e w' ∧ Hid (w.grownBy w' (some g)) := by
  have H := Lib.hid (fun (W : World) (hb : Below w.heap.size w W) => takeByte_cons g b l false (by omega) W (h.grownAlloc hb))
  have hb := UInt8.toNat_lt b
  clear h
  go_enter Tryd.func21, Tryd.ntmps21
  have B1 := Lib.hid (fun o => (Below.refl w.heap.size w).alloc (Nat.le_refl _) o)
  go_upto_region 2 with (go_at_call 34; refine (H.out _ (B1.out _)).mono ?_; rintro e w1 ⟨rfl, hc1, hg1⟩)
  have hp : w.heap.size ≠ g := by omega
  have hR1 : BoxAt w1 w.heap.size false 0 0 ByteArray.empty := BoxAt.grownBy (heap_alloc_new w _) hg1 hp
  have hz1 := hR1.lt
  have hR := hR1.alloc (.cells #[.bool false, .int .u8 ((fl false b).toNat : Int), .int .u64 0, .string ByteArray.empty] 49)
  have hX : BoxAt (w1.alloc (.cells #[.bool false, .int .u8 ((fl false b).toNat : Int), .int .u64 0, .string ByteArray.empty] 49)) w1.heap.size false (fl false b).toNat 0 ByteArray.empty := heap_alloc_new w1 _
  have hC := hc1.alloc (.cells #[.bool false, .int .u8 ((fl false b).toNat : Int), .int .u64 0, .string ByteArray.empty] 49)
  have hG : w.grownBy (w1.alloc (.cells #[.bool false, .int .u8 ((fl false b).toNat : Int), .int .u64 0, .string ByteArray.empty] 49)) (some g) :=
    grown_alloc (grownBy_trans (grown_alloc (grownBy_refl _ _) _) hg1) _
  generalize hW2 : w1.alloc (.cells #[.bool false, .int .u8 ((fl false b).toNat : Int), .int .u64 0, .string ByteArray.empty] 49) = w2 at hR hX hC hG
  have hW3 : w1.alloc (.cells #[.bool false, .int .u8 ((fl false b).toNat : Int), .int .u64 0, .string { data := #[] }] 49) = w2 := hW2
  simp only [hW3]
  obtain ⟨q, hq⟩ : ∃ q, q = w1.heap.size := ⟨_, rfl⟩
  rw [← hq] at hX hz1
  simp only [← hq]
  have hf0 : (fl false b).toNat = b.toNat := rfl
  rw [hf0] at hX
  have HR := Lib.hid hR
  have HX := Lib.hid hX
  have HC := Lib.hid hC
  have HG := Lib.hid hG
  obtain ⟨d, hd⟩ : ∃ d, d = decide (128 ≤ b.toNat) := ⟨_, rfl⟩
  obtain ⟨f, hf⟩ : ∃ f, f = (fl d b).toNat := ⟨_, rfl⟩
  have hfl : f < 256 := by rw [hf]; exact flt_lt d b
  have HT : Hid (tkI (b :: l) = (tkF f d l).map fun p => ((p.1, d), p.2)) := Lib.hid (by rw [tkI, ← hd, ← hf])
  have hgq : g ≠ q := by omega
  have hpq : w.heap.size ≠ q := by omega
  have hqp : w.heap.size ≤ q := by omega
  obtain ⟨c0, c1, c2, c3⟩ := hX.cells
  have hbit := bit7 b
  have hxor := xor_flip b
  have HD := Lib.hid hd
  have HF := Lib.hid hf
  have hd2 : (128 ≤ b.toNat) ↔ d = true := by rw [hd]; simp
  have hd2 := Lib.hid hd2
  have r0 := box_frozen hX 0
  have r1 := box_frozen hX 1
  obtain ⟨nb, hnb⟩ : ∃ nb, nb = b.toNat := ⟨_, rfl⟩
  have hbn := Lib.hid hnb
  clear hc1 hg1 hR1 hR hX hC hG hW2 hW3 hq hf0 hd hf B1 H c2 c3 hnb
  go_upto_if 13 with fail
  go_cut [16] (fun s16 wc => Hid (BoxAt wc w.heap.size false 0 0 ByteArray.empty) ∧ Hid (BoxAt wc q d f 0 ByteArray.empty) ∧ Hid (CurL wc g l false) ∧ Hid (w.grownBy wc (some g)))
  case first =>
    cases d
    · have e1 : (bits BinOp.and IntKind.u8 (b.toNat : Int) 128 != 0) = false := by rw [hbit, if_neg (by rw [hd2.out]; decide)]; rfl
      have e2 : (0 : Int) = 0 := rfl
      rw [if_neg (by rw [hd2.out]; decide)] at hbit
      have HX2 : Hid (BoxAt w2 q false f 0 ByteArray.empty) := Lib.hid (by rw [HF.out]; exact HX.out)
      clear e1 e2
      go_wp2_with fail
      go_meet
      case rel => exact ⟨HR, HX2, HC, HG⟩
    · rw [if_pos (by rw [hd2.out])] at hbit
      have HX2 := Lib.hid ((HX.out.set0 (d' := true)).set1 (f' := f))
      have HR2 := Lib.hid ((HR.out.setOther (q := q) (i := 0) (v := .bool true) hpq).setOther (q := q) (i := 1) (v := .int .u8 f) hpq)
      have HC2 := Lib.hid ((HC.out.setOther (q := q) (i := 0) (v := .bool true) hgq).setOther (q := q) (i := 1) (v := .int .u8 f) hgq)
      have HG2 := Lib.hid (grown_set (grown_set HG.out (i := 0) (v := .bool true) hqp) (i := 1) (v := .int .u8 f) hqp)
      rw [HF.out] at HX2 HR2 HC2 HG2
      go_wp2_with fail
      go_meet
      case rel => exact ⟨HR2, by rw [HF.out]; exact HX2, HC2, HG2⟩
  case rest =>
    obtain ⟨RW, XW, CW, GW⟩ := hcut
    have hgp : g ≠ w.heap.size := by omega
    obtain ⟨c0, c1, c2, c3⟩ := XW.out.cells
    clear HR HX HC HG hbit hxor r0 r1 HF hd2
    have hqg : q ≠ g := fun e => hgq e.symm
    go_upto_block 0 with fail
    go_cut [22] (fun s22 wx => ∃ (n : Nat) (s : ByteArray) (m : List UInt8) (bad : Bool), Hid (BoxAt wx q d f n s) ∧ Hid (BoxAt wx w.heap.size false 0 0 ByteArray.empty) ∧ Hid (CurL wx g m bad) ∧ Hid (w.grownBy wx (some g)) ∧ Hid (Ready (tkI (b :: l)) d f n s m bad))
    case first =>
      by_cases hk : f = 16
      · have hT := Lib.hid (show Ready (tkI (b :: l)) d f 0 ByteArray.empty l false from .inl ⟨rfl, .nil, by rw [HT.out]; unfold tkF; rw [if_pos hk]; rfl, by rw [hk]; rfl, rfl, rfl⟩)
        have e16 : ((f : Int) == 16) = true := by rw [beq_iff_eq]; omega
        clear hk HT
        go_wp2_with fail
        go_meet
        case rel => exact ⟨0, ByteArray.empty, l, false, XW, RW, CW, GW, hT⟩
      by_cases hk : f = 32
      · have hT := Lib.hid (show Ready (tkI (b :: l)) d f 0 ByteArray.empty l false from .inl ⟨rfl, .bool false, by rw [HT.out]; unfold tkF; rw [if_neg (by omega), if_pos hk]; rfl, by rw [hk]; rfl, rfl, rfl⟩)
        have e16 : ((f : Int) == 16) = false := by rw [beq_eq_false_iff_ne]; omega
        have e32 : ((f : Int) == 32) = true := by rw [beq_iff_eq]; omega
        clear hk HT
        go_wp2_with fail
        go_meet
        case rel => exact ⟨0, ByteArray.empty, l, false, XW, RW, CW, GW, hT⟩
      by_cases hk : f = 33
      · have hT := Lib.hid (show Ready (tkI (b :: l)) d f 0 ByteArray.empty l false from .inl ⟨rfl, .bool true, by rw [HT.out]; unfold tkF; rw [if_neg (by omega), if_neg (by omega), if_pos hk]; rfl, by rw [hk]; rfl, rfl, rfl⟩)
        have e16 : ((f : Int) == 16) = false := by rw [beq_eq_false_iff_ne]; omega
        have e32 : ((f : Int) == 32) = false := by rw [beq_eq_false_iff_ne]; omega
        have e33 : ((f : Int) == 33) = true := by rw [beq_iff_eq]; omega
        clear hk HT
        go_wp2_with fail
        go_meet
        case rel => exact ⟨0, ByteArray.empty, l, false, XW, RW, CW, GW, hT⟩
      by_cases hk : f = 48
      · rcases Nat.lt_or_ge l.length 8 with hlen | hlen
        · have hT := Lib.hid (show tkI (b :: l) = none by rw [HT.out]; unfold tkF; rw [if_neg (by omega), if_neg (by omega), if_neg (by omega), if_pos hk, if_pos hlen]; rfl)
          have hnum := Lib.hid (takeNumber_short g l d hlen wc CW.out)
          have e16 : ((f : Int) == 16) = false := by rw [beq_eq_false_iff_ne]; omega
          have e32 : ((f : Int) == 32) = false := by rw [beq_eq_false_iff_ne]; omega
          have e33 : ((f : Int) == 33) = false := by rw [beq_eq_false_iff_ne]; omega
          have e48 : ((f : Int) == 48) = true := by rw [beq_iff_eq]; omega
          clear hk HT hlen
          go_wp2_with fail
          refine hnum.out.mono ?_
          rintro e w5 ⟨⟨n5, rfl⟩, hc5, hg5⟩
          have hX5 := XW.out.grownBy hg5 hqg
          obtain ⟨x0, x1, x2, x3⟩ := hX5.cells
          have y2 := box_frozen hX5 2
          have X5 := Lib.hid (hX5.set2 (n' := n5))
          have R5 := Lib.hid (BoxAt.setOther (q := q) (i := 2) (v := .int .u64 n5) (RW.out.grownBy hg5 (fun e => hgp e.symm)) hpq)
          have C5 := Lib.hid (CurL.setOther (q := q) (i := 2) (v := .int .u64 n5) hc5 hgq)
          have G5 := Lib.hid (grown_set (q := q) (i := 2) (v := .int .u64 n5) (grownBy_trans GW.out hg5) hqp)
          clear hX5 hc5 hg5 c0 c1 c2 c3 hnum
          go_wp2_with fail
          go_meet
          case rel => exact ⟨n5, ByteArray.empty, l, true, X5, R5, C5, G5, Lib.hid (.inr ⟨rfl, hT.out⟩)⟩
        · have hT := Lib.hid (show Ready (tkI (b :: l)) d f (valB ((l.take 8).map (fl d)) true) ByteArray.empty (l.drop 8) false from .inl ⟨rfl, .int (dn63 (valB ((l.take 8).map (fl d)) true)), by rw [HT.out]; unfold tkF; rw [if_neg (by omega), if_neg (by omega), if_neg (by omega), if_pos hk, if_neg (by omega)]; rfl, by rw [hk]; rfl, (up_dn (valB_lt (by rw [List.length_map, List.length_take]; omega))).symm, rfl⟩)
          have hnum := Lib.hid (takeNumber_full g l d (by omega) hlen wc CW.out)
          have e16 : ((f : Int) == 16) = false := by rw [beq_eq_false_iff_ne]; omega
          have e32 : ((f : Int) == 32) = false := by rw [beq_eq_false_iff_ne]; omega
          have e33 : ((f : Int) == 33) = false := by rw [beq_eq_false_iff_ne]; omega
          have e48 : ((f : Int) == 48) = true := by rw [beq_iff_eq]; omega
          obtain ⟨n5, hn5⟩ : ∃ n5, n5 = valB ((l.take 8).map (fl d)) true := ⟨_, rfl⟩
          rw [← hn5] at hT hnum
          clear hk HT hlen hn5
          go_wp2_with fail
          refine hnum.out.mono ?_
          rintro e w5 ⟨rfl, hc5, hg5⟩
          have hX5 := XW.out.grownBy hg5 hqg
          obtain ⟨x0, x1, x2, x3⟩ := hX5.cells
          have y2 := box_frozen hX5 2
          have X5 := Lib.hid (hX5.set2 (n' := n5))
          have R5 := Lib.hid (BoxAt.setOther (q := q) (i := 2) (v := .int .u64 n5) (RW.out.grownBy hg5 (fun e => hgp e.symm)) hpq)
          have C5 := Lib.hid (CurL.setOther (q := q) (i := 2) (v := .int .u64 n5) hc5 hgq)
          have G5 := Lib.hid (grown_set (q := q) (i := 2) (v := .int .u64 n5) (grownBy_trans GW.out hg5) hqp)
          clear hX5 hc5 hg5 c0 c1 c2 c3 hnum
          go_wp2_with fail
          go_meet
          case rel => exact ⟨n5, ByteArray.empty, l.drop 8, false, X5, R5, C5, G5, hT⟩
      by_cases hk : f = 64
      · rcases Nat.lt_or_ge l.length 8 with hlen | hlen
        · have hT := Lib.hid (show tkI (b :: l) = none by rw [HT.out]; unfold tkF; rw [if_neg (by omega), if_neg (by omega), if_neg (by omega), if_neg (by omega), if_pos hk, if_pos hlen]; rfl)
          have hnum := Lib.hid (takeNumber_short g l d hlen wc CW.out)
          have e16 : ((f : Int) == 16) = false := by rw [beq_eq_false_iff_ne]; omega
          have e32 : ((f : Int) == 32) = false := by rw [beq_eq_false_iff_ne]; omega
          have e33 : ((f : Int) == 33) = false := by rw [beq_eq_false_iff_ne]; omega
          have e48 : ((f : Int) == 48) = false := by rw [beq_eq_false_iff_ne]; omega
          have e64 : ((f : Int) == 64) = true := by rw [beq_iff_eq]; omega
          clear hk HT hlen
          go_wp2_with fail
          refine hnum.out.mono ?_
          rintro e w5 ⟨⟨n5, rfl⟩, hc5, hg5⟩
          have hX5 := XW.out.grownBy hg5 hqg
          obtain ⟨x0, x1, x2, x3⟩ := hX5.cells
          have y2 := box_frozen hX5 2
          have X5 := Lib.hid (hX5.set2 (n' := n5))
          have R5 := Lib.hid (BoxAt.setOther (q := q) (i := 2) (v := .int .u64 n5) (RW.out.grownBy hg5 (fun e => hgp e.symm)) hpq)
          have C5 := Lib.hid (CurL.setOther (q := q) (i := 2) (v := .int .u64 n5) hc5 hgq)
          have G5 := Lib.hid (grown_set (q := q) (i := 2) (v := .int .u64 n5) (grownBy_trans GW.out hg5) hqp)
          clear hX5 hc5 hg5 c0 c1 c2 c3 hnum
          go_wp2_with fail
          go_meet
          case rel => exact ⟨n5, ByteArray.empty, l, true, X5, R5, C5, G5, Lib.hid (.inr ⟨rfl, hT.out⟩)⟩
        · have hT := Lib.hid (show Ready (tkI (b :: l)) d f (valB ((l.take 8).map (fl d)) true) ByteArray.empty (l.drop 8) false from .inl ⟨rfl, .uint (valB ((l.take 8).map (fl d)) true), by rw [HT.out]; unfold tkF; rw [if_neg (by omega), if_neg (by omega), if_neg (by omega), if_neg (by omega), if_pos hk, if_neg (by omega)]; rfl, by rw [hk]; rfl, rfl, rfl⟩)
          have hnum := Lib.hid (takeNumber_full g l d (by omega) hlen wc CW.out)
          have e16 : ((f : Int) == 16) = false := by rw [beq_eq_false_iff_ne]; omega
          have e32 : ((f : Int) == 32) = false := by rw [beq_eq_false_iff_ne]; omega
          have e33 : ((f : Int) == 33) = false := by rw [beq_eq_false_iff_ne]; omega
          have e48 : ((f : Int) == 48) = false := by rw [beq_eq_false_iff_ne]; omega
          have e64 : ((f : Int) == 64) = true := by rw [beq_iff_eq]; omega
          obtain ⟨n5, hn5⟩ : ∃ n5, n5 = valB ((l.take 8).map (fl d)) true := ⟨_, rfl⟩
          rw [← hn5] at hT hnum
          clear hk HT hlen hn5
          go_wp2_with fail
          refine hnum.out.mono ?_
          rintro e w5 ⟨rfl, hc5, hg5⟩
          have hX5 := XW.out.grownBy hg5 hqg
          obtain ⟨x0, x1, x2, x3⟩ := hX5.cells
          have y2 := box_frozen hX5 2
          have X5 := Lib.hid (hX5.set2 (n' := n5))
          have R5 := Lib.hid (BoxAt.setOther (q := q) (i := 2) (v := .int .u64 n5) (RW.out.grownBy hg5 (fun e => hgp e.symm)) hpq)
          have C5 := Lib.hid (CurL.setOther (q := q) (i := 2) (v := .int .u64 n5) hc5 hgq)
          have G5 := Lib.hid (grown_set (q := q) (i := 2) (v := .int .u64 n5) (grownBy_trans GW.out hg5) hqp)
          clear hX5 hc5 hg5 c0 c1 c2 c3 hnum
          go_wp2_with fail
          go_meet
          case rel => exact ⟨n5, ByteArray.empty, l.drop 8, false, X5, R5, C5, G5, hT⟩
      by_cases hk : f = 80
      · have hgw : g < wc.heap.size := by have := GW.out.size; omega
        have htx := Lib.hid (takeText_any g l d (by omega) wc hgw CW.out)
        have e16 : ((f : Int) == 16) = false := by rw [beq_eq_false_iff_ne]; omega
        have e32 : ((f : Int) == 32) = false := by rw [beq_eq_false_iff_ne]; omega
        have e33 : ((f : Int) == 33) = false := by rw [beq_eq_false_iff_ne]; omega
        have e48 : ((f : Int) == 48) = false := by rw [beq_eq_false_iff_ne]; omega
        have e64 : ((f : Int) == 64) = false := by rw [beq_eq_false_iff_ne]; omega
        have e80 : ((f : Int) == 80) = true := by rw [beq_iff_eq]; omega
        cases ht : tx (l.map (fl d)) with
        | none =>
          have hT := Lib.hid (show tkI (b :: l) = none by rw [HT.out]; unfold tkF; rw [if_neg (by omega), if_neg (by omega), if_neg (by omega), if_neg (by omega), if_neg (by omega), if_pos hk, ht]; rfl)
          clear hk HT hgw
          go_wp2_with fail
          refine htx.out.mono ?_
          rintro e w5 ⟨ho, hg5⟩
          unfold TextOut at ho
          rw [ht] at ho
          obtain rfl := ho
          have hR5 := RW.out.grownBy hg5.out (fun e => hgp e.symm)
          obtain ⟨p0, p1, p2, p3⟩ := hR5.cells
          have q0 := box_frozen hR5 0
          have q1 := box_frozen hR5 1
          have q2 := box_frozen hR5 2
          have q3 := box_frozen hR5 3
          have R5 := Lib.hid hR5
          have G5 := Lib.hid (grownBy_trans GW.out hg5.out)
          clear hR5 hg5 ht c0 c1 c2 c3 htx
          go_wp2_with fail
          exact bodyPost_ret (row_ret (row_filled R5.out) rfl rfl rfl) rfl ⟨.none' hT.out rfl, Lib.hid (grown_set (grown_set (grown_set (grown_set G5.out (Nat.le_refl _)) (Nat.le_refl _)) (Nat.le_refl _)) (Nat.le_refl _))⟩
        | some p =>
          have hT := Lib.hid (show Ready (tkI (b :: l)) d f 0 ⟨p.1.toArray⟩ (p.2.map (fl d)) false from .inl ⟨rfl, .text ⟨p.1.toArray⟩, by rw [HT.out]; unfold tkF; rw [if_neg (by omega), if_neg (by omega), if_neg (by omega), if_neg (by omega), if_neg (by omega), if_pos hk, ht]; rfl, by rw [hk]; rfl, rfl, rfl⟩)
          clear hk HT hgw
          go_wp2_with fail
          refine htx.out.mono ?_
          rintro e w5 ⟨ho, hg5⟩
          unfold TextOut at ho
          rw [ht] at ho
          obtain ⟨rfl, hc5⟩ := ho
          obtain ⟨t5, ht5⟩ : ∃ t5 : ByteArray, t5 = ⟨p.1.toArray⟩ := ⟨_, rfl⟩
          rw [← ht5] at hT
          rw [← ht5]
          have hX5 := XW.out.grownBy hg5.out hqg
          obtain ⟨x0, x1, x2, x3⟩ := hX5.cells
          have y3 := box_frozen hX5 3
          have X5 := Lib.hid (hX5.set3 (s' := t5))
          have R5 := Lib.hid (BoxAt.setOther (q := q) (i := 3) (v := .string t5) (RW.out.grownBy hg5.out (fun e => hgp e.symm)) hpq)
          have C5 := Lib.hid (CurL.setOther (q := q) (i := 3) (v := .string t5) hc5 hgq)
          have G5 := Lib.hid (grown_set (q := q) (i := 3) (v := .string t5) (grownBy_trans GW.out hg5.out) hqp)
          clear hX5 hc5 hg5 c0 c1 c2 c3 htx ht ht5
          go_wp2_with fail
          go_meet
          case rel => exact ⟨0, t5, p.2.map (fl d), false, X5, R5, C5, G5, hT⟩
      · have hT := Lib.hid (show tkI (b :: l) = none by rw [HT.out]; unfold tkF; rw [if_neg (by omega), if_neg (by omega), if_neg (by omega), if_neg (by omega), if_neg (by omega), if_neg (by omega)]; rfl)
        have e16 : ((f : Int) == 16) = false := by rw [beq_eq_false_iff_ne]; omega
        have e32 : ((f : Int) == 32) = false := by rw [beq_eq_false_iff_ne]; omega
        have e33 : ((f : Int) == 33) = false := by rw [beq_eq_false_iff_ne]; omega
        have e48 : ((f : Int) == 48) = false := by rw [beq_eq_false_iff_ne]; omega
        have e64 : ((f : Int) == 64) = false := by rw [beq_eq_false_iff_ne]; omega
        have e80 : ((f : Int) == 80) = false := by rw [beq_eq_false_iff_ne]; omega
        obtain ⟨p0, p1, p2, p3⟩ := RW.out.cells
        have q0 := box_frozen RW.out 0
        have q1 := box_frozen RW.out 1
        have q2 := box_frozen RW.out 2
        have q3 := box_frozen RW.out 3
        clear HT c0 c1 c2 c3
        go_wp2_with fail
        exact bodyPost_ret (row_ret (row_filled RW.out) rfl rfl rfl) rfl ⟨.none' hT.out rfl, Lib.hid (grown_set (grown_set (grown_set (grown_set GW.out (Nat.le_refl _)) (Nat.le_refl _)) (Nat.le_refl _)) (Nat.le_refl _))⟩
    case rest =>
      obtain ⟨n, s, m, bad, XV, RV, CV, GV, hR⟩ := hcut
      obtain ⟨c0, c1, c2, c3⟩ := XV.out.cells
      obtain ⟨p0, p1, p2, p3⟩ := RV.out.cells
      have q0 := box_frozen RV.out 0
      have q1 := box_frozen RV.out 1
      have q2 := box_frozen RV.out 2
      have q3 := box_frozen RV.out 3
      have CD : Hid (CurL wc g m bad) := Lib.hid CV.out
      have F9 := Lib.hid (row_filled (d' := d) (a' := f) (n' := n) (s' := s) RV.out)
      have G9 := Lib.hid (grown_set (i := 3) (v := .string s) (grown_set (i := 2) (v := .int .u64 n) (grown_set (i := 1) (v := .int .u8 f) (grown_set (i := 0) (v := .bool d) GV.out (Nat.le_refl _)) (Nat.le_refl _)) (Nat.le_refl _)) (Nat.le_refl _))
      have C9 := Lib.hid (CurL.setOther (i := 3) (v := .string s) (CurL.setOther (i := 2) (v := .int .u64 n) (CurL.setOther (i := 1) (v := .int .u8 f) (CurL.setOther (i := 0) (v := .bool d) CV.out hgp) hgp) hgp) hgp)
      obtain ⟨w9, hw9⟩ : ∃ w9, w9 = (((wc.setCell ⟨w.heap.size, 0, none⟩ (.bool d)).setCell ⟨w.heap.size, 1, none⟩ (.int .u8 f)).setCell ⟨w.heap.size, 2, none⟩ (.int .u64 n)).setCell ⟨w.heap.size, 3, none⟩ (.string s) := ⟨_, rfl⟩
      rw [← hw9] at F9 G9 C9
      have HW9 := Lib.hid hw9
      clear XW RW CW GW XV RV CV GV HT hw9
      go_upto_region 17 with fail
      go_region_with (go_at_call 37; refine (bad_any g ⟨m.toArray⟩ bad _ (by first | exact CD.out | exact CurL.setOther (CurL.setOther (CurL.setOther (CurL.setOther CD.out hgp) hgp) hgp) hgp)).mono ?_; rintro e w5 ⟨rfl, rfl⟩)
      all_goals (simp only [Exit.then]; go_simp)
      all_goals go_wp2_with fail
      all_goals
        rw [← HW9.out]
        have F10 : Hid (w9.drew.heap[w.heap.size]? = some (.cells #[.bool d, .int .u8 f, .int .u64 n, .string s] 49 (0, 0))) := Lib.hid F9.out
        have G10 := Lib.hid (grown_drew G9.out)
        have C10 : Hid (CurL w9.drew g m bad) := Lib.hid C9.out
        clear F9 G9 C9 HW9 CD c0 c1 c2 c3 p0 p1 p2 p3 q0 q1 q2 q3
        rcases hR.out with ⟨rfl, v, hv, rfl, rfl, rfl⟩ | ⟨rfl, hv⟩
        · exact bodyPost_ret (row_ret F10.out rfl rfl rfl) rfl ⟨.some' hv rfl C10.out, G10⟩
        · exact bodyPost_ret (row_ret F10.out rfl rfl rfl) rfl ⟨.none' hv rfl, G10⟩
end Go.Proofs.YtnjbeemahfoaiaaDoor
