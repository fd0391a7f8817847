/-
  The document's May.
-/
import Derived.Test.YthcomfcbdlobpaaSet02
import Derived.WalkSmall
namespace Go.Proofs.Ythcomfcbdlobpaa
open Go.RowKit
set_option linter.unusedVariables false
set_option linter.unnecessarySimpa false
set_option linter.unusedSimpArgs false
set_option maxRecDepth 100000

def longQ (m : Wq) : Bool := decide (100 < m.key.size) || decide (500 < m.val.size)
def lateQ (S : List Im) (time : Nat) (m : Wq) : Bool := decide (time < (lastOf m.key S).1)
def fullQ (S : List Im) (m : Wq) : Bool := decide (200 ≤ (lastOf m.key S).2)
def dupB (ws : List Wq) (i k : Nat) : Bool := sameK (ws.getD k wq0).key (ws.getD i wq0).key
def badB (ws : List Wq) (i : Nat) : Bool := (List.range i).any (dupB ws i) || ((ws.getD i wq0).gone && !(ws.getD i wq0).val.toList.isEmpty)
def mayP (S : List Im) (P : List Pd) (t : Tn) (time : Nat) (ws : List Wq) : Int :=
  if atN t P < P.length then 0
  else if (List.range ws.length).any (badB ws) then 1
  else if ws.length < 1 ∨ 8 < ws.length then 1
  else if ws.any longQ then 3
  else if ws.any (fun m => lockedP m.key P) then 7
  else if ws.any (lateQ S time) then 8
  else if ws.any (fullQ S) then 11
  else 0
theorem takeQ_any {α : Type} (f : α → Bool) (d : α) (l : List α) (i : Nat) (h : i < l.length) : (l.take (i + 1)).any f = ((l.take i).any f || f (l.getD i d)) := by
  rw [List.take_add_one, List.getElem?_eq_getElem h, List.any_append, List.getD, List.getElem?_eq_getElem h]
  simp
theorem range_any (f : Nat → Bool) (n : Nat) : ((List.range n).any f = true) ↔ ∃ i, i < n ∧ f i = true := by
  rw [List.any_eq_true]
  constructor
  · rintro ⟨i, h, k⟩; exact ⟨i, List.mem_range.1 h, k⟩
  · rintro ⟨i, h, k⟩; exact ⟨i, List.mem_range.2 h, k⟩
theorem mayP_bad {S : List Im} {P : List Pd} {t : Tn} {time : Nat} {ws : List Wq} {i : Nat} (h : ¬ atN t P < P.length) (hi : i < ws.length) (hb : badB ws i = true) : mayP S P t time ws = 1 := by
  unfold mayP
  rw [if_neg h, if_pos ((range_any _ _).2 ⟨i, hi, hb⟩)]
theorem badB_dup {ws : List Wq} {i k : Nat} (hk : k < i) (h : dupB ws i k = true) : badB ws i = true := by
  unfold badB
  rw [(range_any _ _).2 ⟨k, hk, h⟩, Bool.true_or]
theorem badB_is {ws : List Wq} {i : Nat} (h : ∀ k, k < i → dupB ws i k = false) : badB ws i = ((ws.getD i wq0).gone && !(ws.getD i wq0).val.toList.isEmpty) := by
  unfold badB
  have : (List.range i).any (dupB ws i) = false := by
    rw [Bool.eq_false_iff]
    intro e
    obtain ⟨k, hk, e⟩ := (range_any _ _).1 e
    rw [h k hk] at e
    cases e
  rw [this, Bool.false_or]
/-- A call, as a value: its kind, its transaction, its key, its time, its writes. -/
def opCells (kind : Nat) (t : Tn) (key : ByteArray) (time : Nat) (a : Option Addr) (n c : Nat) : Array Value :=
  #[.int .u8 (kind : Int), .int .i64 t.node, .int .i64 t.life, .int .i64 t.seq, .string key, .int .u64 (time : Int), .slice a n c]
theorem TwoW.later {w wx w' : World} {b0 b1 : Array Value} {t0 t1 : TypeId} (h : TwoW w b0 b1 t0 t1 wx) (hb : Below wx.heap.size wx w') : TwoW w b0 b1 t0 t1 w' :=
  ⟨h.below.trans (hb.mono h.below.size), (hb.block _ (Array.getElem?_eq_some_iff.1 h.r0).1).trans h.r0, (hb.block _ (Array.getElem?_eq_some_iff.1 h.r1).1).trans h.r1⟩
theorem TwoW.c0 {w wx : World} {b0 b1 : Array Value} {t0 t1 : TypeId} (h : TwoW w b0 b1 t0 t1 wx) (j : Nat) : wx.cell? ⟨w.heap.size, j, none⟩ = b0[j]? := cell_of_row _ _ _ _ _ _ h.r0
theorem TwoW.c1 {w wx : World} {b0 b1 : Array Value} {t0 t1 : TypeId} (h : TwoW w b0 b1 t0 t1 wx) (j : Nat) : wx.cell? ⟨w.heap.size + 1, j, none⟩ = b1[j]? := cell_of_row _ _ _ _ _ _ h.r1

/-- The flags behind some writes. -/
structure AnyI (S : List Im) (P : List Pd) (time : Nat) (ws : List Wq) (i : Nat) (LB BB TB FB : Bool) : Prop where
  l : LB = (ws.take i).any longQ
  b : BB = (ws.take i).any (fun m => lockedP m.key P)
  t : TB = (ws.take i).any (lateQ S time)
  f : FB = (ws.take i).any (fullQ S)
theorem AnyI.next {S : List Im} {P : List Pd} {time : Nat} {ws : List Wq} {i : Nat} {LB BB TB FB : Bool} (h : AnyI S P time ws i LB BB TB FB) (hi : i < ws.length) {z : Wq} (hz : z = ws.getD i wq0) :
    AnyI S P time ws (i + 1) (LB || longQ z) (BB || lockedP z.key P) (TB || lateQ S time z) (FB || fullQ S z) := by
  subst hz
  exact ⟨by rw [takeQ_any _ wq0 _ _ hi, h.l], by rw [takeQ_any _ wq0 _ _ hi, h.b], by rw [takeQ_any _ wq0 _ _ hi, h.t], by rw [takeQ_any _ wq0 _ _ hi, h.f]⟩
theorem AnyI.fin {S : List Im} {P : List Pd} {t : Tn} {time : Nat} {ws : List Wq} {i : Nat} {LB BB TB FB : Bool} (h : AnyI S P time ws i LB BB TB FB) (hi : ws.length = i) (ha : ¬ atN t P < P.length) (hb : ∀ j, j < i → badB ws j = false) :
    mayP S P t time ws = if i < 1 ∨ 8 < i then 1 else if LB = true then 3 else if BB = true then 7 else if TB = true then 8 else if FB = true then 11 else 0 := by
  have e : ws.take i = ws := List.take_of_length_le (Nat.le_of_eq hi)
  have hn : ¬ (List.range ws.length).any (badB ws) = true := fun e => by
    obtain ⟨k, hk, e⟩ := (range_any _ _).1 e
    rw [hb k (by omega)] at e
    cases e
  unfold mayP
  rw [if_neg ha, if_neg hn, hi, h.l, h.b, h.t, h.f, e]
/-- The boxes, and that of the write that is looked at. -/
structure MayW (w : World) (b0 b1 : Array Value) (t0 t1 : TypeId) (g : Nat) (z : Wq) (wx : World) : Prop where
  two : TwoW w b0 b1 t0 t1 wx
  row : wx.heap[g]? = some (.cells #[.string z.key, .bool z.gone, .string z.val] 51 (0, 0))
theorem MayW.later {w wx w' : World} {b0 b1 : Array Value} {t0 t1 : TypeId} {g : Nat} {z : Wq} (h : MayW w b0 b1 t0 t1 g z wx) (hb : Below wx.heap.size wx w') : MayW w b0 b1 t0 t1 g z w' :=
  ⟨h.two.later hb, (hb.block _ (Array.getElem?_eq_some_iff.1 h.row).1).trans h.row⟩
theorem MayW.c {w wx : World} {b0 b1 : Array Value} {t0 t1 : TypeId} {g : Nat} {z : Wq} (h : MayW w b0 b1 t0 t1 g z wx) : wx.cell? ⟨g, 0, none⟩ = some (.string z.key) ∧ wx.cell? ⟨g, 1, none⟩ = some (.bool z.gone) ∧ wx.cell? ⟨g, 2, none⟩ = some (.string z.val) :=
  ⟨by rw [cell_of_row _ _ _ _ _ _ h.row]; rfl, by rw [cell_of_row _ _ _ _ _ _ h.row]; rfl, by rw [cell_of_row _ _ _ _ _ _ h.row]; rfl⟩
set_option maxHeartbeats 8000000 in
theorem pmay_any (aS : Option Addr) (lS cS : Nat) (S : List Im) (a : Option Addr) (len cap : Nat) (P : List Pd) (kind : Nat) (t : Tn) (key : ByteArray) (time : Nat) (aw : Option Addr) (nw cw : Nat) (ws : List Wq) (w : World)
    (hS : IsItms w aS lS cS S) (hlS : lS ≤ 100000) (hz : IsPds w a len cap P) (hw : IsWqs w aw nw cw ws) (ht : time < 18446744073709551616) :
    Calls Try.prog 39 #[.agg #[.slice aS lS cS, .slice a len cap], .agg (opCells kind t key time aw nw cw)] w fun e w' => e = .returned (.int .i64 (mayP S P t time ws)) ∧ Below w.heap.size w w' := by
  have HAT := Lib.hid (fun W (hb : Below w.heap.size w W) => pat_any (.slice aS lS cS) a len cap P t W (hz.below hb))
  have HLK := Lib.hid (fun W (hb : Below w.heap.size w W) k => plocked_any (.slice aS lS cS) a len cap P k W (hz.below hb))
  have HLA := Lib.hid (fun W (hb : Below w.heap.size w W) k => mlast_any aS lS cS S k W (hS.below hb) hlS)
  have HWS := Lib.hid hw
  have hel := Lib.hid hw.1
  have hlm := hw.2.1
  unfold maxLen at hlm
  have HT := Lib.hid ht
  clear hz hS hw ht hlS
  obtain ⟨tn, tl, ts⟩ := t
  have HW0 := Lib.hid (TwoW.start w #[.slice aS lS cS, .slice a len cap] (opCells kind ⟨tn, tl, ts⟩ key time aw nw cw) 34 40)
  have hlenP := Lib.hid (atN_le ⟨tn, tl, ts⟩ P)
  obtain ⟨A, hA⟩ : ∃ A, A = atP ⟨tn, tl, ts⟩ P := ⟨_, rfl⟩
  rw [← hA] at HAT
  unfold Tn.cells at HAT
  unfold opCells at HW0 ⊢
  have p0 := HW0.out.c0 0
  have p1 := HW0.out.c0 1
  have o1 := HW0.out.c1 1
  have o2 := HW0.out.c1 2
  have o3 := HW0.out.c1 3
  simp only [List.getElem?_toArray, List.getElem?_cons_zero, List.getElem?_cons_succ] at p0 p1 o1 o2 o3
  have hcs : (atN ⟨tn, tl, ts⟩ P < P.length ∧ ∃ i : Nat, A = (i : Int)) ∨ (¬ atN ⟨tn, tl, ts⟩ P < P.length ∧ A = -1) := by
    rw [hA]
    unfold atP
    by_cases h : atN ⟨tn, tl, ts⟩ P < P.length
    · exact .inl ⟨h, _, if_pos h⟩
    · exact .inr ⟨h, if_neg h⟩
  clear hA
  rcases hcs with ⟨hpr, ia, rfl⟩ | ⟨hpr, rfl⟩
  · have hfin : mayP S P ⟨tn, tl, ts⟩ time ws = 0 := by unfold mayP; rw [if_pos hpr]
    have HFin := Lib.hid hfin
    clear hfin hpr
    go_enter Try.func39, Try.ntmps39
    go_wp2_with (go_at_call 37; (with_reducible refine (HAT.out _ HW0.out.below).mono ?_); rintro e w1 ⟨rfl, hb1⟩; have HW1 := Lib.hid (HW0.out.later hb1); clear hb1)
    go_ret
    exact ⟨by rw [HFin.out]; rfl, HW1.out.below⟩
  · have HPR := Lib.hid hpr
    clear hpr
    go_enter Try.func39, Try.ntmps39
    go_upto_region 5 with (go_at_call 37; (with_reducible refine (HAT.out _ HW0.out.below).mono ?_); rintro e w1 ⟨rfl, hb1⟩; have HW1 := Lib.hid (HW0.out.later hb1); clear hb1)
    clear HW0 p0 p1 o1 o2 o3 HAT
    go_loopg [5, 6, 7, 8, 9] nw (fun g s5 s6 s7 s8 s9 wx => ∃ (i : Nat) (LB BB TB FB : Bool), i + g = nw ∧ s5 = .bool LB ∧ s6 = .bool BB ∧ s7 = .bool TB ∧ s8 = .bool FB ∧ s9 = .int .i64 i ∧ Hid (∀ j, j < i → badB ws j = false) ∧ Hid (AnyI S P time ws i LB BB TB FB) ∧
      Hid (TwoW w #[.slice aS lS cS, .slice a len cap] #[.int .u8 (kind : Int), .int .i64 tn, .int .i64 tl, .int .i64 ts, .string key, .int .u64 (time : Int), .slice aw nw cw] 34 40 wx))
    case atStart => exact ⟨0, false, false, false, false, by omega, rfl, rfl, rfl, rfl, rfl, Lib.hid (fun j hj => by omega), Lib.hid ⟨rfl, rfl, rfl, rfl⟩, HW1⟩
    case round =>
      obtain ⟨i, LB, BB, TB, FB, hig, rfl, rfl, rfl, rfl, rfl, HL, HI, HW⟩ := hrel
      clear HW1
      have o6 := HW.out.c1 6
      simp only [List.getElem?_toArray, List.getElem?_cons_zero, List.getElem?_cons_succ] at o6
      cases gk with
      | zero =>
        obtain rfl : i = nw := by omega
        have hfin := HI.out.fin (t := ⟨tn, tl, ts⟩) hel.out HPR.out HL.out
        have HFin := Lib.hid hfin
        clear hfin
        have hzc : (i < 1 ∧ (i : Int) < 1) ∨ (¬ i < 1 ∧ ¬ (i : Int) < 1 ∧ 8 < i ∧ (8 : Int) < (i : Int)) ∨ (¬ i < 1 ∧ ¬ (i : Int) < 1 ∧ ¬ 8 < i ∧ ¬ (8 : Int) < (i : Int)) := by omega
        rcases hzc with ⟨z1, z2⟩ | ⟨z1, z2, z3, z4⟩ | ⟨z1, z2, z3, z4⟩
        · have HZ1 := Lib.hid z1
          clear z1
          go_wp2_with fail
          go_ret
          exact ⟨by rw [HFin.out, if_pos (.inl HZ1.out)]; rfl, HW.out.below⟩
        · have HZ1 := Lib.hid z3
          clear z1 z3
          go_wp2_with fail
          go_ret
          exact ⟨by rw [HFin.out, if_pos (.inr HZ1.out)]; rfl, HW.out.below⟩
        · have HZ1 := Lib.hid (show ¬ (i < 1 ∨ 8 < i) by omega)
          clear z1 z3
          cases LB with
          | true =>
            go_wp2_with fail
            go_ret
            exact ⟨by rw [HFin.out, if_neg HZ1.out]; rfl, HW.out.below⟩
          | false =>
            cases BB with
            | true =>
              go_wp2_with fail
              go_ret
              exact ⟨by rw [HFin.out, if_neg HZ1.out]; rfl, HW.out.below⟩
            | false =>
              cases TB with
              | true =>
                go_wp2_with fail
                go_ret
                exact ⟨by rw [HFin.out, if_neg HZ1.out]; rfl, HW.out.below⟩
              | false =>
                cases FB with
                | true =>
                  go_wp2_with fail
                  go_ret
                  exact ⟨by rw [HFin.out, if_neg HZ1.out]; rfl, HW.out.below⟩
                | false =>
                  go_wp2_with fail
                  go_ret
                  exact ⟨by rw [HFin.out, if_neg HZ1.out]; rfl, HW.out.below⟩
      | succ g =>
        have hil : i < nw := by omega
        have hiz : (i : Int) < (nw : Int) := by omega
        obtain ⟨b, off, rfl, hbl, hz1, hz2, j0, j1, j2⟩ := (HWS.out.below HW.out.below).2.2.2 i hil
        obtain ⟨z, hzz⟩ : ∃ z, z = ws.getD i wq0 := ⟨_, rfl⟩
        have HZZ := Lib.hid hzz
        rw [← hzz] at j0 j1 j2
        clear hzz hbl hz1 hz2
        go_upto_region 8 with fail
        have hrow := heap_alloc_new wr (.cells #[.string z.key, .bool z.gone, .string z.val] 51)
        have htw := HW.out.later ((Below.refl wr.heap.size wr).alloc (Nat.le_refl _) (.cells #[.string z.key, .bool z.gone, .string z.val] 51))
        obtain ⟨g10, hg10⟩ : ∃ g10, g10 = wr.heap.size := ⟨_, rfl⟩
        rw [← hg10] at hrow ⊢
        obtain ⟨w7, hw7⟩ : ∃ w7, w7 = wr.alloc (.cells #[.string z.key, .bool z.gone, .string z.val] 51) := ⟨_, rfl⟩
        rw [← hw7] at hrow htw ⊢
        have HM := Lib.hid (MayW.mk (g := g10) (z := z) htw hrow)
        clear hg10 hw7 hrow htw HW j0 j1 j2 o6
        go_wp2_with fail
        go_loopg [11] i (fun g2 s11 wx => ∃ (k : Nat), k + g2 = i ∧ s11 = .int .i64 k ∧ Hid (∀ j, j < k → dupB ws i j = false) ∧
          Hid (MayW w #[.slice aS lS cS, .slice a len cap] #[.int .u8 (kind : Int), .int .i64 tn, .int .i64 tl, .int .i64 ts, .string key, .int .u64 (time : Int), .slice (some ⟨b, off, none⟩) nw cw] 34 40 g10 z wx))
        case atStart => exact ⟨0, by omega, rfl, Lib.hid (fun j hj => by omega), HM⟩
        case round =>
          obtain ⟨k, hkg, rfl, HD, HM2⟩ := hrel
          clear HM
          obtain ⟨c0, c1, c2⟩ := HM2.out.c
          cases gk with
          | succ g3 =>
            have o6 := HM2.out.two.c1 6
            simp only [List.getElem?_toArray, List.getElem?_cons_zero, List.getElem?_cons_succ] at o6
            have hki : k < i := by omega
            have hkz : (k : Int) < (i : Int) := by omega
            have hkn : (k : Int) < (nw : Int) := by omega
            obtain ⟨b2, off2, e2, _, _, _, j0, _⟩ := (HWS.out.below HM2.out.two.below).2.2.2 k (by omega)
            simp only [Option.some.injEq, Addr.mk.injEq, and_true] at e2
            obtain ⟨rfl, rfl⟩ := e2
            obtain ⟨K, hK⟩ : ∃ K, K = (ws.getD k wq0).key := ⟨_, rfl⟩
            rw [← hK] at j0
            obtain ⟨B, hB⟩ : ∃ B, (K.toList == z.key.toList) = B := ⟨_, rfl⟩
            have HDup := Lib.hid (show dupB ws i k = B by unfold dupB; rw [← hK, ← HZZ.out]; exact hB)
            clear hK c1 c2
            cases B with
            | true =>
              have HBad := Lib.hid (mayP_bad (S := S) (time := time) HPR.out (by rw [hel.out]; exact hil) (badB_dup hki HDup.out))
              go_wp2_with fail
              go_quiet (fail)
              go_wp2_with fail
              go_ret
              exact ⟨by rw [HBad.out]; rfl, (below_drewN HM2.out.two.below nq)⟩
            | false =>
              go_wp2_with fail
              go_quiet (fail)
              go_wp2_with fail
              go_roundg g3
              case measure => omega
              case rel => exact ⟨k + 1, by omega, by go_num, Lib.hid (fun j hj => by
                rcases Nat.lt_succ_iff_lt_or_eq.1 hj with h | rfl
                · exact HD.out j h
                · exact HDup.out), Lib.hid (HM2.out.later (below_drewN (Below.refl _ _) nq))⟩
          | zero =>
            obtain rfl : k = i := by omega
            have hbd := badB_is HD.out
            rw [← HZZ.out] at hbd
            obtain ⟨K, hK⟩ : ∃ K, K = z.key := ⟨_, rfl⟩
            obtain ⟨G, hG⟩ : ∃ G, G = z.gone := ⟨_, rfl⟩
            obtain ⟨V, hV⟩ : ∃ V, V = z.val := ⟨_, rfl⟩
            obtain ⟨E, hE⟩ : ∃ E, V.toList.isEmpty = E := ⟨_, rfl⟩
            rw [← hK] at c0
            rw [← hG] at c1
            rw [← hV] at c2
            rw [← hG, ← hV, hE] at hbd
            have HBd := Lib.hid hbd
            have HK := Lib.hid hK
            have HV := Lib.hid hV
            obtain ⟨LQ, hLQ⟩ : ∃ LQ, LQ = longQ z := ⟨_, rfl⟩
            obtain ⟨BQ, hBQ⟩ : ∃ BQ, BQ = lockedP z.key P := ⟨_, rfl⟩
            obtain ⟨TQ, hTQ⟩ : ∃ TQ, TQ = lateQ S time z := ⟨_, rfl⟩
            obtain ⟨FQ, hFQ⟩ : ∃ FQ, FQ = fullQ S z := ⟨_, rfl⟩
            have HIN := HI.out.next (by rw [hel.out]; exact hil) HZZ.out
            rw [← hLQ, ← hBQ, ← hTQ, ← hFQ] at HIN
            have HI2 := Lib.hid HIN
            have HL1 := Lib.hid (fun W (hb : Below w.heap.size w W) => HLA.out W hb K)
            have HK1 := Lib.hid (fun W (hb : Below w.heap.size w W) => HLK.out W hb K)
            rw [hK, ← hBQ, ← hK] at HK1
            have hlq : LQ = (decide (100 < K.size) || decide (500 < V.size)) := by rw [hLQ, hK, hV]; rfl
            have htq : TQ = decide (time < (lastOf K S).1) := by rw [hTQ, hK]; rfl
            have hfq : FQ = decide (200 ≤ (lastOf K S).2) := by rw [hFQ, hK]; rfl
            obtain ⟨⟨T0, N0⟩, hTN⟩ : ∃ x, x = lastOf K S := ⟨_, rfl⟩
            rw [← hTN] at HL1 htq hfq
            simp only at HL1 htq hfq
            have HLQ := Lib.hid hlq
            have HTQ := Lib.hid htq
            have HFQ := Lib.hid hfq
            clear hbd hK hG hV hLQ hBQ hTQ hFQ HIN hlq htq hfq hTN HLA HLK HI
            go_upto_region 13 with fail
            go_cut [51] (fun s51 wd => s51 = .bool (G && !E) ∧ Hid (MayW w #[.slice aS lS cS, .slice a len cap] #[.int .u8 (kind : Int), .int .i64 tn, .int .i64 tl, .int .i64 ts, .string key, .int .u64 (time : Int), .slice (some ⟨b, off, none⟩) nw cw] 34 40 g10 z wd))
            case first =>
              cases G <;> cases E <;>
              · go_wp2_with fail
                go_meet
                case rel => exact ⟨rfl, HM2⟩
            case rest =>
              obtain ⟨rfl, HM3⟩ := hcut
              clear HM2 c0 c1 c2
              obtain ⟨D, hD⟩ : ∃ D, D = (G && !E) := ⟨_, rfl⟩
              rw [← hD]
              rw [← hD] at HBd
              clear hD hE
              cases D with
              | true =>
                have HBad := Lib.hid (mayP_bad (S := S) (time := time) HPR.out (by rw [hel.out]; exact hil) HBd.out)
                go_wp2_with fail
                go_ret
                exact ⟨by rw [HBad.out]; rfl, HM3.out.two.below⟩
              | false =>
                have p0 := HM3.out.two.c0 0
                simp only [List.getElem?_toArray, List.getElem?_cons_zero, List.getElem?_cons_succ] at p0
                have c0 := HM3.out.c.1
                rw [← HK.out] at c0
                go_upto_region 16 with (go_at_call 52; (with_reducible refine (HL1.out _ HM3.out.two.below).mono ?_); rintro e w9 ⟨rfl, hb9⟩; have HM4 := Lib.hid (HM3.out.later hb9); clear hb9)
                clear p0 c0 HM3 HL1
                go_cut [5] (fun s5 wd => s5 = .bool (LB || LQ) ∧ Hid (MayW w #[.slice aS lS cS, .slice a len cap] #[.int .u8 (kind : Int), .int .i64 tn, .int .i64 tl, .int .i64 ts, .string key, .int .u64 (time : Int), .slice (some ⟨b, off, none⟩) nw cw] 34 40 g10 z wd))
                case first =>
                  obtain ⟨c0, _, c2⟩ := HM4.out.c
                  rw [← HK.out] at c0
                  rw [← HV.out] at c2
                  cases LB with
                  | true =>
                    go_wp2_with fail
                    go_meet
                    case rel => exact ⟨rfl, HM4⟩
                  | false =>
                    have hcs : (decide ((100 : Int) < (K.size : Int)) = true ∧ LQ = true) ∨ (decide ((100 : Int) < (K.size : Int)) = false ∧ decide ((500 : Int) < (V.size : Int)) = true ∧ LQ = true) ∨ (decide ((100 : Int) < (K.size : Int)) = false ∧ decide ((500 : Int) < (V.size : Int)) = false ∧ LQ = false) := by
                      rw [HLQ.out]
                      by_cases h1 : 100 < K.size
                      · exact .inl ⟨decide_eq_true (by omega), by simp [h1]⟩
                      · by_cases h2 : 500 < V.size
                        · exact .inr (.inl ⟨decide_eq_false (by omega), decide_eq_true (by omega), by simp [h2]⟩)
                        · exact .inr (.inr ⟨decide_eq_false (by omega), decide_eq_false (by omega), by simp [h1, h2]⟩)
                    rcases hcs with ⟨e1, rfl⟩ | ⟨e1, e2, rfl⟩ | ⟨e1, e2, rfl⟩
                    all_goals
                      go_wp2_with fail
                      go_meet
                      case rel => exact ⟨rfl, HM4⟩
                case rest =>
                  obtain ⟨rfl, HM5⟩ := hcut
                  clear HM4
                  go_upto_region 17 with fail
                  go_cut [6] (fun s6 wd => s6 = .bool (BB || BQ) ∧ Hid (MayW w #[.slice aS lS cS, .slice a len cap] #[.int .u8 (kind : Int), .int .i64 tn, .int .i64 tl, .int .i64 ts, .string key, .int .u64 (time : Int), .slice (some ⟨b, off, none⟩) nw cw] 34 40 g10 z wd))
                  case first =>
                    have p0 := HM5.out.two.c0 0
                    have p1 := HM5.out.two.c0 1
                    simp only [List.getElem?_toArray, List.getElem?_cons_zero, List.getElem?_cons_succ] at p0 p1
                    have c0 := HM5.out.c.1
                    rw [← HK.out] at c0
                    cases BB with
                    | true =>
                      go_wp2_with fail
                      go_meet
                      case rel => exact ⟨rfl, HM5⟩
                    | false =>
                      go_wp2_with (go_at_call 14; (with_reducible refine (HK1.out _ HM5.out.two.below).mono ?_); rintro e w10 ⟨rfl, hb10⟩; have HM6 := Lib.hid (HM5.out.later hb10); clear hb10)
                      go_meet
                      case rel => exact ⟨rfl, HM6⟩
                  case rest =>
                    obtain ⟨rfl, HM6⟩ := hcut
                    clear HM5 HK1
                    go_upto_region 18 with fail
                    go_cut [7] (fun s7 wd => s7 = .bool (TB || TQ) ∧ Hid (MayW w #[.slice aS lS cS, .slice a len cap] #[.int .u8 (kind : Int), .int .i64 tn, .int .i64 tl, .int .i64 ts, .string key, .int .u64 (time : Int), .slice (some ⟨b, off, none⟩) nw cw] 34 40 g10 z wd))
                    case first =>
                      have o5 := HM6.out.two.c1 5
                      simp only [List.getElem?_toArray, List.getElem?_cons_zero, List.getElem?_cons_succ] at o5
                      cases TB with
                      | true =>
                        go_wp2_with fail
                        go_meet
                        case rel => exact ⟨rfl, HM6⟩
                      | false =>
                        have hq : decide (time < T0) = TQ := by rw [HTQ.out]
                        cases TQ <;>
                        · go_wp2_with fail
                          go_meet
                          case rel => first | exact ⟨rfl, HM6⟩ | exact ⟨by rw [hq]; rfl, HM6⟩
                    case rest =>
                      obtain ⟨rfl, HM7⟩ := hcut
                      clear HM6
                      have hq : decide ((200 : Int) ≤ (N0 : Int)) = FQ := by rw [HFQ.out]; congr 1; apply propext; omega
                      have hq2 : decide (200 ≤ N0) = FQ := by rw [HFQ.out]
                      cases FB <;> cases FQ <;>
                      · go_wp2_with fail
                        go_roundg g
                        case measure => omega
                        case rel => exact ⟨k + 1, _, _, _, _, by omega, rfl, rfl, rfl, by first | rfl | (rw [hq]; rfl) | (rw [hq2]; rfl), by go_num, Lib.hid (fun j hj => by
                          rcases Nat.lt_succ_iff_lt_or_eq.1 hj with h | rfl
                          · exact HL.out j h
                          · exact HBd.out), HI2, Lib.hid HM7.out.two⟩
end Go.Proofs.Ythcomfcbdlobpaa
