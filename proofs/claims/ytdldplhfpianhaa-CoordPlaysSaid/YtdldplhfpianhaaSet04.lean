/-
  Joined: CrdMay, DskMath.
-/
import Derived.Test.YtdldplhfpianhaaSet03
import Derived.WalkSmall
import Derived.BigQuiet
import Derived.Test.YtdldplhfpianhaaSet02
import Derived.Below
namespace Go.Proofs.Ytdldplhfpianhaa
open Go.RowKit
set_option linter.unusedVariables false
set_option linter.unnecessarySimpa false
set_option linter.unusedSimpArgs false
set_option maxRecDepth 100000

def longC (m : Wq) : Bool := decide (100 < m.key.size) || decide (500 < m.val.size)
def longK (k : ByteArray) : Bool := decide (100 < k.size)
def dupC (ws : List Wq) (i k : Nat) : Bool := (ws.getD k wq0).key.toList == (ws.getD i wq0).key.toList
def badC (ws : List Wq) (i : Nat) : Bool := (List.range i).any (dupC ws i) || ((ws.getD i wq0).gone && !(ws.getD i wq0).val.toList.isEmpty)
/-- Why a program can't run. -/
def mayC (p : Pg) : Int :=
  if (List.range p.W.length).any (badC p.W) then 1
  else if 8 < p.R.length ∨ 8 < p.W.length then 1
  else if p.W.any longC || p.R.any longK then 3
  else 0
theorem crd_take_any {α : Type} (f : α → Bool) (d : α) (l : List α) (i : Nat) (h : i < l.length) : (l.take (i + 1)).any f = ((l.take i).any f || f (l.getD i d)) := by
  rw [List.take_add_one, List.getElem?_eq_getElem h, List.any_append, List.getD, List.getElem?_eq_getElem h]
  simp
theorem crd_range_any (f : Nat → Bool) (n : Nat) : ((List.range n).any f = true) ↔ ∃ i, i < n ∧ f i = true := by
  rw [List.any_eq_true]
  constructor
  · rintro ⟨i, h, k⟩; exact ⟨i, List.mem_range.1 h, k⟩
  · rintro ⟨i, h, k⟩; exact ⟨i, List.mem_range.2 h, k⟩
theorem mayC_bad {p : Pg} {i : Nat} (hi : i < p.W.length) (hb : badC p.W i = true) : mayC p = 1 := by
  unfold mayC
  rw [if_pos ((crd_range_any _ _).2 ⟨i, hi, hb⟩)]
theorem badC_dup {ws : List Wq} {i k : Nat} (hk : k < i) (h : dupC ws i k = true) : badC ws i = true := by
  unfold badC
  rw [(crd_range_any _ _).2 ⟨k, hk, h⟩, Bool.true_or]
theorem badC_is {ws : List Wq} {i : Nat} (h : ∀ k, k < i → dupC ws i k = false) : badC ws i = ((ws.getD i wq0).gone && !(ws.getD i wq0).val.toList.isEmpty) := by
  unfold badC
  have : (List.range i).any (dupC ws i) = false := by
    rw [Bool.eq_false_iff]
    intro e
    obtain ⟨k, hk, e⟩ := (crd_range_any _ _).1 e
    rw [h k hk] at e
    cases e
  rw [this, Bool.false_or]
theorem mayC_fin {p : Pg} {LB : Bool} (hb : ∀ j, j < p.W.length → badC p.W j = false) (hl : LB = (p.W.any longC || p.R.any longK)) :
    mayC p = if 8 < p.R.length ∨ 8 < p.W.length then 1 else if LB = true then 3 else 0 := by
  have hn : ¬ (List.range p.W.length).any (badC p.W) = true := fun e => by
    obtain ⟨k, hk, e⟩ := (crd_range_any _ _).1 e
    rw [hb k hk] at e
    cases e
  unfold mayC
  rw [if_neg hn, hl]
/-- The box, and that of the write that is looked at. -/
structure CrdM (w : World) (b0 : Array Value) (t0 : TypeId) (g : Nat) (z : Wq) (wx : World) : Prop where
  one : CrdW w b0 t0 wx
  row : wx.heap[g]? = some (.cells #[.string z.key, .bool z.gone, .string z.val] 64 (0, 0))
theorem CrdM.later {w wx w' : World} {b0 : Array Value} {t0 : TypeId} {g : Nat} {z : Wq} (h : CrdM w b0 t0 g z wx) (hb : Below wx.heap.size wx w') : CrdM w b0 t0 g z w' :=
  ⟨h.one.later hb, (hb.block _ (Array.getElem?_eq_some_iff.1 h.row).1).trans h.row⟩
theorem CrdM.c {w wx : World} {b0 : Array Value} {t0 : TypeId} {g : Nat} {z : Wq} (h : CrdM w b0 t0 g z wx) : wx.cell? ⟨g, 0, none⟩ = some (.string z.key) ∧ wx.cell? ⟨g, 1, none⟩ = some (.bool z.gone) ∧ wx.cell? ⟨g, 2, none⟩ = some (.string z.val) :=
  ⟨by rw [cell_of_row _ _ _ _ _ _ h.row]; rfl, by rw [cell_of_row _ _ _ _ _ _ h.row]; rfl, by rw [cell_of_row _ _ _ _ _ _ h.row]; rfl⟩
theorem crd_drewN {B n : Nat} {w w' : World} (h : Below B w w') : Below B w (w'.drewN n) := ⟨h.os, h.tape, h.output, h.size, h.block⟩

set_option maxHeartbeats 8000000 in
theorem cmay_any (p : Pg) (w : World) (hp : PgOk w p) :
    Calls Try.prog 8 #[.agg p.cells] w fun e w' => e = .returned (.int .i64 (mayC p)) ∧ Below w.heap.size w w' := by
  obtain ⟨pc, hpc⟩ : ∃ pc, pc = mayC p := ⟨_, rfl⟩
  have HPC := Lib.hid hpc
  have HBB := Lib.hid (show ∀ i, i < p.W.length → badC p.W i = true → pc = 1 from fun i hi hb => by rw [hpc]; exact mayC_bad hi hb)
  have HFF := Lib.hid (show ∀ LB : Bool, (∀ j, j < p.W.length → badC p.W j = false) → LB = (p.W.any longC || p.R.any longK) → pc = if 8 < p.R.length ∨ 8 < p.W.length then 1 else if LB = true then 3 else 0 from fun LB h1 h2 => by rw [hpc]; exact mayC_fin h1 h2)
  rw [← hpc]
  clear hpc HPC
  obtain ⟨ra, rn, rc, R, wa, wn, wc, Ws⟩ := p
  simp only at HBB HFF
  have HR := Lib.hid hp.1
  have HQ := Lib.hid hp.2
  have her := Lib.hid (show R.length = rn from hp.1.1)
  have heq := Lib.hid (show Ws.length = wn from hp.2.1)
  have hlr : rn ≤ maxLen := hp.1.2.1
  have hlq : wn ≤ maxLen := hp.2.2.1
  unfold maxLen at hlr hlq
  clear hp
  unfold Pg.cells
  have HW0 := Lib.hid (CrdW.start w #[.slice ra rn rc, .slice wa wn wc] 25)
  go_enter Try.func8, Try.ntmps8
  go_wp2_with fail
  go_loopg [3, 4] wn (fun g s3 s4 wx => ∃ (i : Nat) (LB : Bool), i + g = wn ∧ s3 = .bool LB ∧ s4 = .int .i64 i ∧ Hid (∀ j, j < i → badC Ws j = false) ∧ Hid (LB = (Ws.take i).any longC) ∧ Hid (CrdW w #[.slice ra rn rc, .slice wa wn wc] 25 wx))
  case atStart => exact ⟨0, false, by omega, rfl, rfl, Lib.hid (fun j hj => by omega), Lib.hid rfl, HW0⟩
  case round =>
    obtain ⟨i, LB, hig, rfl, rfl, HL, HI, HW⟩ := hrel
    clear HW0
    cases gk with
    | zero =>
      obtain rfl : wn = i := by omega
      have HAll := Lib.hid (show ∀ j, j < Ws.length → badC Ws j = false from fun j hj => HL.out j (by rw [← heq.out]; exact hj))
      have HI2 := Lib.hid (show LB = (Ws.any longC || (R.take 0).any longK) by
        have e : Ws.take wn = Ws := List.take_of_length_le (Nat.le_of_eq heq.out)
        rw [HI.out, e]; simp)
      have c0 : wr.cell? ⟨w.heap.size, 0, none⟩ = some (.slice ra rn rc) := by rw [HW.out.c0]; rfl
      have c1 : wr.cell? ⟨w.heap.size, 1, none⟩ = some (.slice wa wn wc) := by rw [HW.out.c0]; rfl
      clear HL HI hig
      go_wp2_with fail
      go_loopg [3, 7] rn (fun g s3 s7 wx => ∃ (i : Nat) (LB : Bool), i + g = rn ∧ s3 = .bool LB ∧ s7 = .int .i64 i ∧ Hid (LB = (Ws.any longC || (R.take i).any longK)) ∧ wx = wr)
      case atStart => exact ⟨0, LB, by omega, rfl, rfl, HI2, rfl⟩
      case round =>
        obtain ⟨k, L2, hkg, rfl, rfl, HJ, rfl⟩ := hrel
        clear HI2
        cases gk with
        | zero =>
          obtain rfl : rn = k := by omega
          have HFin := Lib.hid (HFF.out L2 HAll.out (by
            have e : R.take rn = R := List.take_of_length_le (Nat.le_of_eq her.out)
            have h := HJ.out
            rw [e] at h
            exact h))
          have hE1 := her.out
          have hE2 := heq.out
          have HF2 : Hid (pc = if 8 < rn ∨ 8 < wn then 1 else if L2 = true then 3 else 0) := Lib.hid (by rw [HFin.out, hE1, hE2])
          clear hE1 hE2 HFin HJ hkg HAll
          have hzc : ((8 : Int) < (rn : Int)) ∨ (¬ (8 : Int) < (rn : Int) ∧ (8 : Int) < (wn : Int)) ∨ (¬ (8 : Int) < (rn : Int) ∧ ¬ (8 : Int) < (wn : Int)) := by omega
          rcases hzc with z1 | ⟨z1, z2⟩ | ⟨z1, z2⟩
          · have HG := Lib.hid (show pc = 1 by rw [HF2.out, if_pos (.inl (by omega))])
            clear HF2
            go_wp2_with fail
            go_ret
            exact ⟨by rw [HG.out]; rfl, HW.out.below⟩
          · have HG := Lib.hid (show pc = 1 by rw [HF2.out, if_pos (.inr (by omega))])
            clear HF2
            go_wp2_with fail
            go_ret
            exact ⟨by rw [HG.out]; rfl, HW.out.below⟩
          · have HG := Lib.hid (show pc = if L2 = true then 3 else 0 by rw [HF2.out, if_neg (by omega)])
            clear HF2
            cases L2 with
            | true =>
              go_wp2_with fail
              go_ret
              exact ⟨by rw [HG.out]; rfl, HW.out.below⟩
            | false =>
              go_wp2_with fail
              go_ret
              exact ⟨by rw [HG.out]; rfl, HW.out.below⟩
        | succ g =>
          have hkl : k < rn := by omega
          have hkz : (k : Int) < (rn : Int) := by omega
          obtain ⟨b, off, rfl, hbl, hv1, j0⟩ := (HR.out.below HW.out.below).2.2 k hkl
          obtain ⟨K, hK⟩ : ∃ K, K = R.getD k ⟨#[]⟩ := ⟨_, rfl⟩
          rw [← hK] at j0 hv1
          unfold maxLen at hv1
          obtain ⟨LQ, hLQ⟩ : ∃ LQ, LQ = decide ((100 : Int) < (K.size : Int)) := ⟨_, rfl⟩
          have HJ2 := Lib.hid (show (L2 || LQ) = (Ws.any longC || (R.take (k + 1)).any longK) by
            have e : longK K = LQ := by
              rw [hLQ]
              unfold longK
              exact decide_eq_decide.2 (by omega)
            rw [crd_take_any longK ⟨#[]⟩ R k (by rw [her.out]; exact hkl), ← hK, e, HJ.out, Bool.or_assoc])
          clear hK hbl HJ
          cases L2 with
          | true =>
            clear hLQ
            go_wp2_with fail
            go_roundg g
            case measure => omega
            case rel => exact ⟨k + 1, true, by omega, rfl, by go_num, HJ2, rfl⟩
          | false =>
            cases LQ with
            | true =>
              replace hLQ := hLQ.symm
              go_wp2_with fail
              go_roundg g
              case measure => omega
              case rel => exact ⟨k + 1, true, by omega, rfl, by go_num, HJ2, rfl⟩
            | false =>
              replace hLQ := hLQ.symm
              go_wp2_with fail
              go_roundg g
              case measure => omega
              case rel => exact ⟨k + 1, false, by omega, rfl, by go_num, HJ2, rfl⟩
    | succ g =>
      have hil : i < wn := by omega
      have hiz : (i : Int) < (wn : Int) := by omega
      have c1 : wr.cell? ⟨w.heap.size, 1, none⟩ = some (.slice wa wn wc) := by rw [HW.out.c0]; rfl
      obtain ⟨b, off, rfl, hbl, hz1, hz2, j0, j1, j2⟩ := (HQ.out.below HW.out.below).2.2.2 i hil
      obtain ⟨z, hzz⟩ : ∃ z, z = Ws.getD i wq0 := ⟨_, rfl⟩
      have HZZ := Lib.hid hzz
      rw [← hzz] at j0 j1 j2
      clear hzz hbl hz1 hz2
      go_upto_region 6 with fail
      have hrow := heap_alloc_new wr (.cells #[.string z.key, .bool z.gone, .string z.val] 64)
      have htw := HW.out.later ((Below.refl wr.heap.size wr).alloc (Nat.le_refl _) (.cells #[.string z.key, .bool z.gone, .string z.val] 64))
      obtain ⟨g10, hg10⟩ : ∃ g10, g10 = wr.heap.size := ⟨_, rfl⟩
      rw [← hg10] at hrow ⊢
      obtain ⟨w7, hw7⟩ : ∃ w7, w7 = wr.alloc (.cells #[.string z.key, .bool z.gone, .string z.val] 64) := ⟨_, rfl⟩
      rw [← hw7] at hrow htw ⊢
      have HM := Lib.hid (CrdM.mk (g := g10) (z := z) htw hrow)
      clear hg10 hw7 hrow htw HW j0 j1 j2 c1
      go_wp2_with fail
      go_loopg [6] i (fun g2 s6 wx => ∃ (k : Nat), k + g2 = i ∧ s6 = .int .i64 k ∧ Hid (∀ j, j < k → dupC Ws i j = false) ∧
        Hid (CrdM w #[.slice ra rn rc, .slice (some ⟨b, off, none⟩) wn wc] 25 g10 z wx))
      case atStart => exact ⟨0, by omega, rfl, Lib.hid (fun j hj => by omega), HM⟩
      case round =>
        obtain ⟨k, hkg, rfl, HD, HM2⟩ := hrel
        clear HM
        obtain ⟨c0, c1, c2⟩ := HM2.out.c
        cases gk with
        | succ g3 =>
          have o6 : wr.cell? ⟨w.heap.size, 1, none⟩ = some (.slice (some ⟨b, off, none⟩) wn wc) := by rw [HM2.out.one.c0]; rfl
          have hki : k < i := by omega
          have hkz : (k : Int) < (i : Int) := by omega
          have hkn : (k : Int) < (wn : Int) := by omega
          obtain ⟨b2, off2, e2, _, _, _, j0, _⟩ := (HQ.out.below HM2.out.one.below).2.2.2 k (by omega)
          simp only [Option.some.injEq, Addr.mk.injEq, and_true] at e2
          obtain ⟨rfl, rfl⟩ := e2
          obtain ⟨K, hK⟩ : ∃ K, K = (Ws.getD k wq0).key := ⟨_, rfl⟩
          rw [← hK] at j0
          obtain ⟨B, hB⟩ : ∃ B, (K.toList == z.key.toList) = B := ⟨_, rfl⟩
          have HDup := Lib.hid (show dupC Ws i k = B by unfold dupC; rw [← hK, ← HZZ.out]; exact hB)
          clear hK c1 c2
          cases B with
          | true =>
            have HBad := Lib.hid (HBB.out i (by rw [heq.out]; exact hil) (badC_dup hki HDup.out))
            go_wp2_with fail
            go_quiet (fail)
            go_wp2_with fail
            go_ret
            exact ⟨by rw [HBad.out]; rfl, (crd_drewN HM2.out.one.below)⟩
          | false =>
            go_wp2_with fail
            go_quiet (fail)
            go_wp2_with fail
            go_roundg g3
            case measure => omega
            case rel => exact ⟨k + 1, by omega, by go_num, Lib.hid (fun j hj => by
              rcases Nat.lt_succ_iff_lt_or_eq.1 hj with h | rfl
              · exact HD.out j h
              · exact HDup.out), Lib.hid (HM2.out.later (crd_drewN (Below.refl _ _)))⟩
        | zero =>
          obtain rfl : k = i := by omega
          have hbd := badC_is HD.out
          rw [← HZZ.out] at hbd
          obtain ⟨K, hK⟩ : ∃ K, K = z.key := ⟨_, rfl⟩
          obtain ⟨G, hG⟩ : ∃ G, G = z.gone := ⟨_, rfl⟩
          obtain ⟨V, hV⟩ : ∃ V, V = z.val := ⟨_, rfl⟩
          obtain ⟨E, hE⟩ : ∃ E, V.toList.isEmpty = E := ⟨_, rfl⟩
          rw [← hK] at c0
          rw [← hG] at c1
          rw [← hV] at c2
          rw [← hG, ← hV, hE] at hbd
          have HBd := Lib.hid hbd
          have HK := Lib.hid hK
          have HV := Lib.hid hV
          obtain ⟨LQ, hLQ⟩ : ∃ LQ, LQ = longC z := ⟨_, rfl⟩
          have HI2 := Lib.hid (show (LB || LQ) = (Ws.take (k + 1)).any longC by rw [crd_take_any longC wq0 Ws k (by rw [heq.out]; exact hil), ← HZZ.out, ← hLQ, HI.out])
          have hlq2 : LQ = (decide (100 < K.size) || decide (500 < V.size)) := by rw [hLQ, hK, hV]; rfl
          have HLQ := Lib.hid hlq2
          have HL2 := Lib.hid (show badC Ws k = false → ∀ j, j < k + 1 → badC Ws j = false from fun h j hj => by
            rcases Nat.lt_succ_iff_lt_or_eq.1 hj with h2 | rfl
            · exact HL.out j h2
            · exact h)
          clear hbd hK hG hV hLQ hlq2 HI HL
          go_upto_region 11 with fail
          go_cut [40] (fun s40 wd => s40 = .bool (G && !E) ∧ Hid (CrdM w #[.slice ra rn rc, .slice (some ⟨b, off, none⟩) wn wc] 25 g10 z wd))
          case first =>
            cases G <;> cases E <;>
            · go_wp2_with fail
              go_meet
              case rel => exact ⟨rfl, HM2⟩
          case rest =>
            obtain ⟨rfl, HM3⟩ := hcut
            clear HM2 c0 c1 c2
            obtain ⟨D, hD⟩ : ∃ D, D = (G && !E) := ⟨_, rfl⟩
            rw [← hD]
            rw [← hD] at HBd
            clear hD hE
            cases D with
            | true =>
              have HBad := Lib.hid (HBB.out k (by rw [heq.out]; exact hil) HBd.out)
              go_wp2_with fail
              go_ret
              exact ⟨by rw [HBad.out]; rfl, HM3.out.one.below⟩
            | false =>
              go_upto_region 13 with fail
              have HL3 := Lib.hid (HL2.out HBd.out)
              obtain ⟨c0, _, c2⟩ := HM3.out.c
              rw [← HK.out] at c0
              rw [← HV.out] at c2
              cases LB with
              | true =>
                go_wp2_with fail
                go_roundg g
                case measure => omega
                case rel => exact ⟨k + 1, true, by omega, rfl, by go_num, HL3, HI2, Lib.hid HM3.out.one⟩
              | false =>
                have hcs : (decide ((100 : Int) < (K.size : Int)) = true ∧ LQ = true) ∨ (decide ((100 : Int) < (K.size : Int)) = false ∧ decide ((500 : Int) < (V.size : Int)) = true ∧ LQ = true) ∨ (decide ((100 : Int) < (K.size : Int)) = false ∧ decide ((500 : Int) < (V.size : Int)) = false ∧ LQ = false) := by
                  rw [HLQ.out]
                  by_cases h1 : 100 < K.size
                  · exact .inl ⟨decide_eq_true (by omega), by simp [h1]⟩
                  · by_cases h2 : 500 < V.size
                    · exact .inr (.inl ⟨decide_eq_false (by omega), decide_eq_true (by omega), by simp [h2]⟩)
                    · exact .inr (.inr ⟨decide_eq_false (by omega), decide_eq_false (by omega), by simp [h1, h2]⟩)
                rcases hcs with ⟨e1, rfl⟩ | ⟨e1, e2, rfl⟩ | ⟨e1, e2, rfl⟩
                all_goals
                  go_wp2_with fail
                  go_roundg g
                  case measure => omega
                  case rel => exact ⟨k + 1, _, by omega, rfl, by go_num, HL3, HI2, Lib.hid HM3.out.one⟩
end Go.Proofs.Ytdldplhfpianhaa

namespace Go.Proofs.Ytdldplhfpianhaa
open Go.RowKit
set_option linter.unusedVariables false
set_option linter.unnecessarySimpa false
set_option linter.unusedSimpArgs false
set_option maxRecDepth 100000

structure DK where
  sure : List (List UInt8)
  seen : List (List UInt8)
  waits : List (Nat × List UInt8)
  fuse : Int

def fullB (c : UInt8) : List UInt8 := List.replicate 64 c
theorem fullB_length (c : UInt8) : (fullB c).length = 64 := by simp [fullB]
def clampD (n : Int) : Nat := if n < 0 then 0 else if 4096 < n then 4096 else n.toNat
def DK.new (n : Nat) : DK := ⟨List.replicate n (fullB 0), List.replicate n (fullB 0), [], -1⟩
def DK.wrote (D : DK) (i : Nat) (b : List UInt8) : DK := ⟨D.sure, D.seen.set i b, D.waits ++ [(i, b)], if 0 < D.fuse then D.fuse - 1 else D.fuse⟩
def DK.synced (D : DK) : DK := ⟨D.seen, D.seen, [], D.fuse⟩
def DK.lit (D : DK) (n : Int) : DK := ⟨D.sure, D.seen, D.waits, if D.fuse = 0 then 0 else max n (-1)⟩
def tear (f : UInt8) : Nat := if f = 255 then 64 else f.toNat % 64
def tornOne (s : List (List UInt8)) (x : Nat × List UInt8) (f : UInt8) : List (List UInt8) := s.set x.1 (x.2.take (tear f) ++ (s.getD x.1 []).drop (tear f))
def torn : List (List UInt8) → List (Nat × List UInt8) → List UInt8 → List (List UInt8)
  | s, x :: l, f :: fs => torn (tornOne s x f) l fs
  | s, _, _ => s
def DK.crashed (D : DK) (fates : List UInt8) : DK := ⟨torn D.sure D.waits fates, torn D.sure D.waits fates, [], -1⟩
structure DK.ok (D : DK) : Prop where
  len : D.sure.length = D.seen.length
  sure : ∀ s ∈ D.sure, s.length = 64
  seen : ∀ s ∈ D.seen, s.length = 64
  waits : ∀ x ∈ D.waits, x.1 < D.seen.length ∧ x.2.length = 64
  fuse : -1 ≤ D.fuse ∧ D.fuse ≤ 9223372036854775807
  small : D.seen.length ≤ 4096

theorem tornOne_length (s : List (List UInt8)) (x : Nat × List UInt8) (f : UInt8) : (tornOne s x f).length = s.length := by simp [tornOne]
theorem tear_le (f : UInt8) : tear f ≤ 64 := by unfold tear; split <;> omega
theorem tornOne_64 {s : List (List UInt8)} {x : Nat × List UInt8} {f : UInt8} (hs : ∀ t ∈ s, t.length = 64) (hx : x.1 < s.length) (h64 : x.2.length = 64) : ∀ t ∈ tornOne s x f, t.length = 64 := by
  intro t ht
  unfold tornOne at ht
  rcases List.mem_or_eq_of_mem_set ht with h | h
  · exact hs t h
  · have h1 : (s.getD x.1 []).length = 64 := by
      rw [List.getD, List.getElem?_eq_getElem hx]; exact hs _ (List.getElem_mem _)
    have := tear_le f
    rw [h, List.length_append, List.length_take, List.length_drop, h64, h1]
    omega
theorem torn_length : ∀ (s : List (List UInt8)) (l : List (Nat × List UInt8)) (fs : List UInt8), (torn s l fs).length = s.length
  | s, [], _ => by cases ‹List UInt8› <;> rfl
  | s, _ :: _, [] => rfl
  | s, x :: l, f :: fs => by rw [torn, torn_length, tornOne_length]
theorem torn_64 : ∀ (s : List (List UInt8)) (l : List (Nat × List UInt8)) (fs : List UInt8), (∀ t ∈ s, t.length = 64) → (∀ x ∈ l, x.1 < s.length ∧ x.2.length = 64) → ∀ t ∈ torn s l fs, t.length = 64
  | s, [], fs, h, _ => by cases fs <;> exact h
  | s, _ :: _, [], h, _ => h
  | s, x :: l, f :: fs, h, hx => by
    rw [torn]
    have h0 := hx x (by simp)
    exact torn_64 _ l fs (tornOne_64 h h0.1 h0.2) (fun y hy => by rw [tornOne_length]; exact hx y (by simp [hy]))

theorem DK.new_ok {n : Nat} (h : n ≤ 4096) : (DK.new n).ok :=
  ⟨rfl, fun s hs => by rw [List.eq_of_mem_replicate hs]; exact fullB_length 0, fun s hs => by rw [List.eq_of_mem_replicate hs]; exact fullB_length 0, fun x hx => absurd hx (by simp [DK.new]), by simp [DK.new], by simpa [DK.new] using h⟩
theorem DK.wrote_ok {D : DK} (h : D.ok) {i : Nat} {b : List UInt8} (hi : i < D.seen.length) (hb : b.length = 64) : (D.wrote i b).ok :=
  ⟨by simp [DK.wrote, h.len], h.sure, fun s hs => (List.mem_or_eq_of_mem_set hs).elim (h.seen s) (fun e => by rw [e, hb]),
    fun x hx => by
      simp only [DK.wrote, List.mem_append, List.mem_singleton, List.length_set] at hx ⊢
      rcases hx with hx | rfl
      · exact h.waits x hx
      · exact ⟨hi, hb⟩,
    by have := h.fuse; show -1 ≤ (if 0 < D.fuse then D.fuse - 1 else D.fuse) ∧ (if 0 < D.fuse then D.fuse - 1 else D.fuse) ≤ 9223372036854775807; split <;> omega, by simpa [DK.wrote] using h.small⟩
theorem DK.synced_ok {D : DK} (h : D.ok) : D.synced.ok := ⟨rfl, h.seen, h.seen, fun x hx => absurd hx (by simp [DK.synced]), h.fuse, h.small⟩
theorem DK.lit_ok {D : DK} (h : D.ok) (n : Int) (hn : n ≤ 9223372036854775807) : (D.lit n).ok :=
  ⟨h.len, h.sure, h.seen, h.waits, by show -1 ≤ (if D.fuse = 0 then 0 else max n (-1)) ∧ (if D.fuse = 0 then 0 else max n (-1)) ≤ 9223372036854775807; split <;> omega, h.small⟩
theorem DK.crashed_ok {D : DK} (h : D.ok) (fs : List UInt8) : (D.crashed fs).ok :=
  ⟨rfl, torn_64 _ _ _ h.sure (fun x hx => by rw [h.len]; exact h.waits x hx), torn_64 _ _ _ h.sure (fun x hx => by rw [h.len]; exact h.waits x hx), fun x hx => absurd hx (by simp [DK.crashed]), by simp [DK.crashed],
    by show (torn _ _ _).length ≤ 4096; rw [torn_length, h.len]; exact h.small⟩

/-- w' is as w, but for what O owned of it; what O' owns is of O, or new. -/
structure Moves (O O' : Nat → Prop) (w w' : World) : Prop where
  os : w'.os = w.os
  tape : w'.tape = w.tape
  output : w'.output = w.output
  size : w.heap.size ≤ w'.heap.size
  block : ∀ k, k < w.heap.size → ¬ O k → w'.heap[k]? = w.heap[k]?
  own : ∀ k, O' k → O k ∨ w.heap.size ≤ k
section
variable {O O' O'' : Nat → Prop} {w w' w'' : World} {B : Nat}
theorem Moves.same (O : Nat → Prop) (w : World) : Moves O O w w := ⟨rfl, rfl, rfl, Nat.le_refl _, fun _ _ _ => rfl, fun _ h => .inl h⟩
theorem Moves.of_below (h : Below w.heap.size w w') : Moves O O w w' := ⟨h.os, h.tape, h.output, h.size, fun k hk _ => h.block k hk, fun _ h => .inl h⟩
theorem Moves.trans (h : Moves O O' w w') (k : Moves O' O'' w' w'') : Moves O O'' w w'' :=
  ⟨k.os.trans h.os, k.tape.trans h.tape, k.output.trans h.output, Nat.le_trans h.size k.size,
    fun i hi hO => (k.block i (Nat.lt_of_lt_of_le hi h.size) (fun hO' => (h.own i hO').elim hO (fun h2 => by omega))).trans (h.block i hi hO),
    fun i hi => (k.own i hi).elim (fun h2 => h.own i h2) (fun h2 => .inr (Nat.le_trans h.size h2))⟩
theorem Moves.below (h : Moves O O' w w') (hO : ∀ k, O k → B ≤ k) (hB : B ≤ w.heap.size) : Below B w w' :=
  ⟨h.os, h.tape, h.output, h.size, fun k hk => h.block k (by omega) (fun hk' => by have := hO k hk'; omega)⟩
theorem Moves.from (h : Moves O O' w w') (hO : ∀ k, O k → B ≤ k) (hB : B ≤ w.heap.size) : ∀ k, O' k → B ≤ k :=
  fun k hk => (h.own k hk).elim (hO k) (fun h2 => Nat.le_trans hB h2)
end
/-- Bytes that a slice has. -/
def BytesAt (w : World) (a : Option Addr) (len : Nat) (l : List UInt8) : Prop :=
  l.length = len ∧ (0 < len → ∃ b off, a = some ⟨b, off, none⟩ ∧ b < w.heap.size ∧ ∀ i, i < len → w.cell? ⟨b, off + i, none⟩ = some (.int .u8 ((l.getD i 0).toNat : Int)))
end Go.Proofs.Ytdldplhfpianhaa
