/-
  The document's Do: Vote.
-/
import Derived.Test.YtdldplhfpianhaaSet14
import Derived.Deep.LoopGhost
namespace Go.Proofs.Ytdldplhfpianhaa
open Go.RowKit
set_option linter.unusedVariables false
set_option linter.unnecessarySimpa false
set_option linter.unusedSimpArgs false
set_option maxRecDepth 100000

theorem NRow.setC {B g i : Nat} {t : Bool} {M : List Nat} {v u : Value} {w : World} (h : NRow B t M v w) (hg : g < B) : NRow B t M v (w.setCell ⟨g, i, none⟩ u) := by
  obtain ⟨g2, cap, cur, h1, h2, h3, h4⟩ := h
  exact ⟨g2, cap, cur, h1, h2, (Below.heap_setCell _ _ _ _ (by show g2 ≠ g; omega)).trans h3, h4⟩
theorem IsNs.setR {W : World} {a : Option Addr} {h len : Nat} {L : List Nat} {cs : Array Value} (hz : IsNs W a len L) (hg : ∀ b off, a = some ⟨b, off, none⟩ → b ≠ h) : IsNs (W.setRow h cs) a len L :=
  ⟨hz.1, hz.2.1, fun i hi => by
    obtain ⟨b, off, ha, h1, h2, k0⟩ := hz.2.2 i hi
    exact ⟨b, off, ha, by simpa using h1, h2, (cell_setRow_other W h cs _ (hg b off ha)).trans k0⟩⟩
theorem cell_of_block {W W' : World} {b o : Nat} (h : W'.heap[b]? = W.heap[b]?) : W'.cell? ⟨b, o, none⟩ = W.cell? ⟨b, o, none⟩ := by
  unfold World.cell?
  simp only [h]
theorem IsNs.setC {W : World} {a : Option Addr} {h i len : Nat} {L : List Nat} {v : Value} (hz : IsNs W a len L) (hg : ∀ b off, a = some ⟨b, off, none⟩ → b ≠ h) : IsNs (W.setCell ⟨h, i, none⟩ v) a len L :=
  ⟨hz.1, hz.2.1, fun j hj => by
    obtain ⟨b, off, ha, h1, h2, k0⟩ := hz.2.2 j hj
    refine ⟨b, off, ha, by simpa [World.setCell] using h1, h2, ?_⟩
    rw [cell_of_block (Below.heap_setCell _ _ _ _ (hg b off ha))]
    exact k0⟩
/-- What slots hold while one more has voted. -/
def psiV (B H H1 : Nat) (slv : Value) (V : List Nat) (k : Nat) : Nat → Value → World → Prop
  | 2 => fun v _ => v = .pointer (some ⟨H, 0, none⟩)
  | 3 => fun v _ => v = .pointer (some ⟨H1, 0, none⟩)
  | 73 => fun v w => NRow B true [] v w
  | 74 => fun v _ => v = .pointer (some ⟨H, 7, none⟩)
  | 75 => fun v _ => v = slv
  | 76 => fun v w => NRow B (V.length == 0) V v w
  | 77 => fun v _ => v = .pointer (some ⟨H1, 7, none⟩)
  | 78 => fun v _ => v = .int .i64 (k : Int)
  | 79 => fun v w => NRow B true [k] v w
  | 80 => fun v w => NRow B false (V ++ [k]) v w
  | 81 => fun v _ => v = .pointer (some ⟨H, 7, none⟩)
  | _ => fun _ _ => True
theorem psiV_stable (B H H1 : Nat) (slv : Value) (V : List Nat) (k : Nat) : ∀ t v w w', psiV B H H1 slv V k t v w → NKeep B V k w w' → psiV B H H1 slv V k t v w' := by
  intro t v w w' hp hk
  unfold psiV at *
  split at hp <;> first
    | exact hp
    | exact hk.k0 _ hp
    | exact hk.k1 _ hp
    | exact hk.k2 _ hp
    | exact hk.k3 _ hp
/-- While those are gone through who are waited for. -/
def VoSt (w : World) (H1 H Z : Nat) (oc b z : Array Value) (b' : Nat → Nat → Array Value) (l V : List Nat) (node : Int) (j : Nat) (wx : World) : Prop :=
  ((∀ k, k < j → ((l.getD k 0 : Nat) : Int) ≠ node) ∧ CrR w (OpX H1 oc) H Z b z wx) ∨
  (∃ k, k < j ∧ ((l.getD k 0 : Nat) : Int) = node ∧ ∃ g cp, g ≠ H ∧ g ≠ Z ∧ w.heap.size ≤ g ∧ CrR w (OpX H1 oc) H Z (b' g cp) z wx ∧ IsNs wx (some ⟨g, 0, none⟩) (V.length + 1) (V ++ [node.toNat]))
theorem waitsN_apart {n : Nat} {Ws : List Wq} {V : List Nat} {i k : Nat} (hi : i < (waitsN n Ws V n).length) (hk : k < i) : (waitsN n Ws V n).getD k 0 ≠ (waitsN n Ws V n).getD i 0 := by
  have hnd : (waitsN n Ws V n).Pairwise (fun x y => x < y) := by
    unfold waitsN
    exact List.Pairwise.filter _ List.pairwise_lt_range
  have := List.pairwise_iff_getElem.1 hnd k i (by omega) hi hk
  rw [List.getD, List.getD, List.getElem?_eq_getElem hi, List.getElem?_eq_getElem (show k < _ by omega)]
  simp only [Option.getD_some]
  omega
theorem waitsP_is {p : Pn} {x : Rn} (h : x.stage = 3) : waitsP p x = waitsN p.n p.W x.voted p.n := by
  unfold waitsP waitsN
  rw [if_pos h]

set_option maxHeartbeats 8000000 in
theorem cdo_vote_stage (p : Pg) (n : Nat) (x : Rn) (da : Option Addr) (dc : Nat) (va : Option Addr) (vc : Nat) (o : Cq) (w : World) (hi : DoIn w p n x da dc va vc) (ho : o.ok) (hk : o.kind % 5 = 2) (hc : ¬ x.stage = 3) :
    Calls Try.prog 11 #[.agg (runQ p n x da dc va vc), .agg o.cells] w (CdoRes w p n da va (tellR ⟨p.R, p.W, n⟩ x o)) := by
  have HY : tellR ⟨p.R, p.W, n⟩ x o = x := by
    unfold tellR
    rw [if_neg (by omega), if_neg (by omega), if_pos (by omega)]
    unfold voteR waitsP
    rw [if_neg hc]
    rfl
  have HRO := Lib.hid (hi.ok.tellR o ho)
  obtain ⟨y, hy⟩ : ∃ y, y = tellR ⟨p.R, p.W, n⟩ x o := ⟨_, rfl⟩
  rw [← hy] at HRO ⊢
  have HYY := Lib.hid (hy.trans HY)
  clear hy HY
  have HI := Lib.hid hi
  have HO := Lib.hid ho
  have HW00 := Lib.hid (CrR.start3 w (runQ p n x da dc va vc) o.cells)
  obtain ⟨ra, rn, rc, R, wa, wn, kw, Ws⟩ := p
  obtain ⟨st, sa, co, L, V⟩ := x
  obtain ⟨kind, time, ⟨xk, xf, ⟨vt, vg, vv⟩⟩, node, good⟩ := o
  unfold runQ zeroRun runCells Cq.cells at HW00
  unfold runQ runCells Cq.cells
  simp only at HW00 hk HRO HYY ⊢
  simp only at hc
  have HWT := Lib.hid (fun W => cwaits_no ra rn rc wa wn kw n (st : Int) sa co da L.length dc va V.length vc W (by omega) HI.out.nodes.1)
  unfold runCells at HWT
  clear hc
  have hz : (kind : Int) % 5 = 2 := by omega
  obtain ⟨dn, hdn⟩ : ∃ dn, dn = L.length := ⟨_, rfl⟩
  obtain ⟨vn, hvn⟩ : ∃ vn, vn = V.length := ⟨_, rfl⟩
  rw [← hdn, ← hvn] at HW00 HWT ⊢
  have HDN := Lib.hid hdn
  have HVN := Lib.hid hvn
  clear hdn hvn hi ho hk
  go_enter Try.func11, Try.ntmps11
  go_upto_region 1 with fail
  obtain ⟨W0, hW0⟩ : ∃ W0, W0 = ((w.alloc (.cells #[.slice ra rn rc, .slice wa wn kw, .int .i64 (n : Int), .int .i64 (st : Int), .int .u64 (sa : Int), .int .u64 (co : Int), .slice da dn dc, .slice va vn vc] 40)).alloc (.cells #[.int .u8 (kind : Int), .int .u64 (time : Int), .string xk, .bool xf, .int .u64 (vt : Int), .bool vg, .string vv, .int .i64 node, .bool good] 47)).alloc (.cells #[.slice none 0 0, .slice none 0 0, .int .i64 0, .int .i64 0, .int .u64 0, .int .u64 0, .slice none 0 0, .slice none 0 0] 40) := ⟨_, rfl⟩
  obtain ⟨Z, hZ⟩ : ∃ Z, Z = w.heap.size + 1 + 1 := ⟨_, rfl⟩
  obtain ⟨H1, hH1⟩ : ∃ H1, H1 = w.heap.size + 1 := ⟨_, rfl⟩
  obtain ⟨H, hH⟩ : ∃ H, H = w.heap.size := ⟨_, rfl⟩
  have HW0 : Hid (CrR w (OpX H1 #[.int .u8 (kind : Int), .int .u64 (time : Int), .string xk, .bool xf, .int .u64 (vt : Int), .bool vg, .string vv, .int .i64 node, .bool good]) H Z #[.slice ra rn rc, .slice wa wn kw, .int .i64 (n : Int), .int .i64 (st : Int), .int .u64 (sa : Int), .int .u64 (co : Int), .slice da dn dc, .slice va vn vc] #[.slice none 0 0, .slice none 0 0, .int .i64 0, .int .i64 0, .int .u64 0, .int .u64 0, .slice none 0 0, .slice none 0 0] W0) := by
    rw [hH, hH1, hZ, hW0]; exact HW00
  rw [← hW0, ← hZ, ← hH1, ← hH]
  clear hW0 hZ hH1 hH HW00
  obtain ⟨c0, c1, c2, c3, c4, c5, c6, c7, f0⟩ := HW0.out.cells
  obtain ⟨o0, o1, o2, o3, o4, o5, o6, o7, o8⟩ := HW0.out.opc
  obtain ⟨ne1, ne2⟩ := HW0.out.nes
  go_upto_region 13 with (go_at_call 17; (with_reducible refine (HWT.out _).mono ?_); rintro e w1 ⟨rfl, hb1⟩; have HW1 := Lib.hid (HW0.out.later hb1); clear hb1)
  clear c0 c1 c2 c3 c4 c5 c6 c7 f0 o0 o1 o2 o3 o4 o5 o6 o7 o8
  obtain ⟨c0, c1, c2, c3, c4, c5, c6, c7, f0⟩ := HW1.out.cells
  obtain ⟨o0, o1, o2, o3, o4, o5, o6, o7, o8⟩ := HW1.out.opc
  clear HW0 HWT
  go_wp2_with fail
  go_loopg [6] 0 (fun g s6 wx => s6 = .int .i64 0 ∧ wx = w1)
  case atStart => exact ⟨rfl, rfl⟩
  case round =>
    obtain ⟨rfl, rfl⟩ := hrel
    go_wp2_with (refine wpList_store_row rfl 40 _ _ rfl Z #[.slice ra rn rc, .slice wa wn kw, .int .i64 (n : Int), .int .i64 (st : Int), .int .u64 (sa : Int), .int .u64 (co : Int), .slice da dn dc, .slice va vn vc] rfl rfl 40 _ HW1.out.r runSize rfl (by simp [Value.oneCell']) ?_)
    refine crun_ret (fn := Try.f11) (p := 4) rfl (HW1.out.res _) (by rfl) (by rfl) (by rfl) ?_
    exact ⟨da, dc, va, vc, (by rw [HYY.out, HDN.out, HVN.out]; rfl), (HI.out.below (HW1.out.res _).below).chg HRO.out (by rw [HYY.out]) (by rw [HYY.out]), (HW1.out.res _).below, .inl rfl, .inl rfl⟩
set_option maxHeartbeats 8000000 in
theorem cdo_vote_yes (p : Pg) (n : Nat) (x : Rn) (da : Option Addr) (dc : Nat) (va : Option Addr) (vc : Nat) (o : Cq) (w : World) (hi : DoIn w p n x da dc va vc) (ho : o.ok) (hk : o.kind % 5 = 2) (hc : x.stage = 3) :
    Calls Try.prog 11 #[.agg (runQ p n x da dc va vc), .agg o.cells] w (CdoRes w p n da va (tellR ⟨p.R, p.W, n⟩ x o)) := by
  have HY : tellR ⟨p.R, p.W, n⟩ x o = voteR ⟨p.R, p.W, n⟩ x o.node o.good := by
    unfold tellR
    rw [if_neg (by omega), if_neg (by omega), if_pos (by omega)]
  have HRO := Lib.hid (hi.ok.tellR o ho)
  obtain ⟨y, hy⟩ : ∃ y, y = tellR ⟨p.R, p.W, n⟩ x o := ⟨_, rfl⟩
  rw [← hy] at HRO ⊢
  have HYY := Lib.hid (hy.trans HY)
  clear hy HY
  have HI := Lib.hid hi
  have HO := Lib.hid ho
  have HW00 := Lib.hid (CrR.start3 w (runQ p n x da dc va vc) o.cells)
  obtain ⟨ra, rn, rc, R, wa, wn, kw, Ws⟩ := p
  obtain ⟨st, sa, co, L, V⟩ := x
  obtain ⟨kind, time, ⟨xk, xf, ⟨vt, vg, vv⟩⟩, node, good⟩ := o
  unfold runQ zeroRun runCells Cq.cells at HW00
  unfold runQ runCells Cq.cells
  simp only at HW00 hk HRO HYY ⊢
  simp only at hc
  have HWT := Lib.hid (fun W (hb : Below w.heap.size w W) => cwaits_st ra rn rc wa wn kw n (st : Int) (by omega) sa co da L.length dc va V.length vc Ws V W (HI.out.pg.2.below hb) HI.out.wn HI.out.nodes.2 (HI.out.ns.below hb))
  have HWP := Lib.hid (waitsP_is (p := ⟨R, Ws, n⟩) (x := ⟨st, sa, co, L, V⟩) hc)
  simp only at HWP
  have HAP := Lib.hid (fun i k (hi : i < (waitsN n Ws V n).length) (hk : k < i) => waitsN_apart hi hk)
  have HVM := Lib.hid (waitsN_lt n Ws V n)
  obtain ⟨l, hl⟩ : ∃ l, l = waitsN n Ws V n := ⟨_, rfl⟩
  rw [← hl] at HWT HWP HAP HVM
  unfold runCells at HWT
  have HN5 := Lib.hid (show n ≤ 5 from HI.out.nodes.2)
  clear hc hl
  have hz : (kind : Int) % 5 = 2 := by omega
  obtain ⟨dn, hdn⟩ : ∃ dn, dn = L.length := ⟨_, rfl⟩
  obtain ⟨vn, hvn⟩ : ∃ vn, vn = V.length := ⟨_, rfl⟩
  rw [← hdn, ← hvn] at HW00 HWT ⊢
  have HDN := Lib.hid hdn
  have HVN := Lib.hid hvn
  clear hdn hvn hi ho hk
  go_enter Try.func11, Try.ntmps11
  go_upto_region 1 with fail
  obtain ⟨W0, hW0⟩ : ∃ W0, W0 = ((w.alloc (.cells #[.slice ra rn rc, .slice wa wn kw, .int .i64 (n : Int), .int .i64 (st : Int), .int .u64 (sa : Int), .int .u64 (co : Int), .slice da dn dc, .slice va vn vc] 40)).alloc (.cells #[.int .u8 (kind : Int), .int .u64 (time : Int), .string xk, .bool xf, .int .u64 (vt : Int), .bool vg, .string vv, .int .i64 node, .bool good] 47)).alloc (.cells #[.slice none 0 0, .slice none 0 0, .int .i64 0, .int .i64 0, .int .u64 0, .int .u64 0, .slice none 0 0, .slice none 0 0] 40) := ⟨_, rfl⟩
  obtain ⟨Z, hZ⟩ : ∃ Z, Z = w.heap.size + 1 + 1 := ⟨_, rfl⟩
  obtain ⟨H1, hH1⟩ : ∃ H1, H1 = w.heap.size + 1 := ⟨_, rfl⟩
  obtain ⟨H, hH⟩ : ∃ H, H = w.heap.size := ⟨_, rfl⟩
  have HW0 : Hid (CrR w (OpX H1 #[.int .u8 (kind : Int), .int .u64 (time : Int), .string xk, .bool xf, .int .u64 (vt : Int), .bool vg, .string vv, .int .i64 node, .bool good]) H Z #[.slice ra rn rc, .slice wa wn kw, .int .i64 (n : Int), .int .i64 (st : Int), .int .u64 (sa : Int), .int .u64 (co : Int), .slice da dn dc, .slice va vn vc] #[.slice none 0 0, .slice none 0 0, .int .i64 0, .int .i64 0, .int .u64 0, .int .u64 0, .slice none 0 0, .slice none 0 0] W0) := by
    rw [hH, hH1, hZ, hW0]; exact HW00
  rw [← hW0, ← hZ, ← hH1, ← hH]
  clear hW0 hZ hH1 hH HW00
  obtain ⟨c0, c1, c2, c3, c4, c5, c6, c7, f0⟩ := HW0.out.cells
  obtain ⟨o0, o1, o2, o3, o4, o5, o6, o7, o8⟩ := HW0.out.opc
  obtain ⟨ne1, ne2⟩ := HW0.out.nes
  obtain ⟨ln, hln⟩ : ∃ ln, ln = l.length := ⟨_, rfl⟩
  have HLN := Lib.hid hln
  simp only [← hln] at HWT
  obtain ⟨s2, hs2⟩ : ∃ s2, s2 = (if good = false then 6 else if l.length = 1 then 4 else st) := ⟨_, rfl⟩
  rw [← hln] at hs2
  have HS2 := Lib.hid hs2
  clear hln hs2
  go_upto_region 13 with (go_at_call 17; (with_reducible refine (HWT.out _ HW0.out.below).mono ?_); rintro e w1 ⟨al, cl, rfl, hns, hb1, hfr⟩; have HW1 := Lib.hid (HW0.out.later hb1); have HNS := Lib.hid hns; have HFR := Lib.hid (show ∀ b off, al = some ⟨b, off, none⟩ → b ≠ H ∧ b ≠ Z from fun b off e => by have h1 := hfr b off e; have h2 := (Array.getElem?_eq_some_iff.1 HW0.out.h).1; have h3 := (Array.getElem?_eq_some_iff.1 HW0.out.r).1; omega); clear hb1 hns hfr)
  clear c0 c1 c2 c3 c4 c5 c6 c7 f0 o0 o1 o2 o3 o4 o5 o6 o7 o8 HW0 HWT
  go_wp2_with fail
  go_loopg [6] ln (fun g s6 wx => ∃ j : Nat, j + g = ln ∧ s6 = .int .i64 (j : Int) ∧ Hid (VoSt w H1 H Z #[.int .u8 (kind : Int), .int .u64 (time : Int), .string xk, .bool xf, .int .u64 (vt : Int), .bool vg, .string vv, .int .i64 node, .bool good] #[.slice ra rn rc, .slice wa wn kw, .int .i64 (n : Int), .int .i64 (st : Int), .int .u64 (sa : Int), .int .u64 (co : Int), .slice da dn dc, .slice va vn vc] #[.slice none 0 0, .slice none 0 0, .int .i64 0, .int .i64 0, .int .u64 0, .int .u64 0, .slice none 0 0, .slice none 0 0] (fun g cp => #[.slice ra rn rc, .slice wa wn kw, .int .i64 (n : Int), .int .i64 (s2 : Int), .int .u64 (sa : Int), .int .u64 (co : Int), .slice da dn dc, .slice (some ⟨g, 0, none⟩) (vn + 1) cp]) l V node j wx) ∧ Hid (IsNs wx al ln l))
  case atStart => exact ⟨0, by omega, rfl, Lib.hid (.inl ⟨fun k hk => absurd hk (Nat.not_lt_zero k), HW1.out⟩), HNS⟩
  case round =>
    obtain ⟨j, hjg, rfl, HS, HNL⟩ := hrel
    clear HNS
    cases gk with
    | zero =>
      obtain rfl : ln = j := by omega
      rcases HS.out with ⟨hno, hw⟩ | ⟨k, hk, hkn, g, cp, hgH, hgZ, hgW, hw, hnv⟩
      · have HW2 := Lib.hid hw
        have HNO := Lib.hid (show (waitsP ⟨R, Ws, n⟩ ⟨st, sa, co, L, V⟩).any (fun k => (k : Int) == node) = false by
          rw [HWP.out, Bool.eq_false_iff]
          intro h
          obtain ⟨q, hq, e⟩ := List.any_eq_true.1 h
          obtain ⟨i, hi, e2⟩ := List.mem_iff_getElem.1 hq
          have := hno i (by rw [HLN.out]; exact hi)
          rw [List.getD, List.getElem?_eq_getElem hi] at this
          simp only [Option.getD_some] at this
          rw [e2] at this
          exact this (by simpa using e))
        clear hno hw HS HW1
        obtain ⟨c0, c1, c2, c3, c4, c5, c6, c7, f0⟩ := HW2.out.cells
        obtain ⟨o0, o1, o2, o3, o4, o5, o6, o7, o8⟩ := HW2.out.opc
        go_wp2_with (refine wpList_store_row rfl 40 _ _ rfl Z #[.slice ra rn rc, .slice wa wn kw, .int .i64 (n : Int), .int .i64 (st : Int), .int .u64 (sa : Int), .int .u64 (co : Int), .slice da dn dc, .slice va vn vc] rfl rfl 40 _ HW2.out.r runSize rfl (by simp [Value.oneCell']) ?_)
        refine crun_ret (fn := Try.f11) (p := 4) rfl (HW2.out.res _) (by rfl) (by rfl) (by rfl) ?_
        have hY : y = ⟨st, sa, co, L, V⟩ := by rw [HYY.out]; unfold voteR; rw [if_neg (by rw [HNO.out]; decide)]
        exact ⟨da, dc, va, vc, (by rw [hY, HDN.out, HVN.out]; rfl), (HI.out.below (HW2.out.res _).below).chg HRO.out (by rw [hY]) (by rw [hY]), (HW2.out.res _).below, .inl rfl, .inl rfl⟩
      · have HW2 := Lib.hid hw
        have HNO := Lib.hid (show (waitsP ⟨R, Ws, n⟩ ⟨st, sa, co, L, V⟩).any (fun k => (k : Int) == node) = true by
          rw [HWP.out, List.any_eq_true]
          have hkl : k < l.length := by rw [← HLN.out]; exact hk
          refine ⟨l.getD k 0, ?_, by simpa using hkn⟩
          rw [List.getD, List.getElem?_eq_getElem hkl]
          exact List.getElem_mem hkl)
        have HGZ := Lib.hid hgZ
        have HGW := Lib.hid hgW
        have HNV := Lib.hid hnv
        clear hkn hw HS HW1 hk hgZ hgH hgW hnv
        obtain ⟨c0, c1, c2, c3, c4, c5, c6, c7, f0⟩ := HW2.out.cells
        obtain ⟨o0, o1, o2, o3, o4, o5, o6, o7, o8⟩ := HW2.out.opc
        go_wp2_with (refine wpList_store_row rfl 40 _ _ rfl Z #[.slice ra rn rc, .slice wa wn kw, .int .i64 (n : Int), .int .i64 (s2 : Int), .int .u64 (sa : Int), .int .u64 (co : Int), .slice da dn dc, .slice (some ⟨g, 0, none⟩) (vn + 1) cp] rfl rfl 40 _ HW2.out.r runSize rfl (by simp [Value.oneCell']) ?_)
        refine crun_ret (fn := Try.f11) (p := 4) rfl (HW2.out.res _) (by rfl) (by rfl) (by rfl) ?_
        have hY : y = ⟨s2, sa, co, L, V ++ [node.toNat]⟩ := by rw [HYY.out]; unfold voteR; rw [if_pos HNO.out, HWP.out, HS2.out, HLN.out]
        have hb := (HW2.out.res #[.slice ra rn rc, .slice wa wn kw, .int .i64 (n : Int), .int .i64 (s2 : Int), .int .u64 (sa : Int), .int .u64 (co : Int), .slice da dn dc, .slice (some ⟨g, 0, none⟩) (vn + 1) cp]).below
        exact ⟨da, dc, some ⟨g, 0, none⟩, cp, (by rw [hY, HDN.out, HVN.out]; unfold runQ; simp only [List.length_append, List.length_cons, List.length_nil]; rfl), ⟨HI.out.pg.below hb, (by rw [hY]; exact HI.out.rds.below hb), HI.out.rnil, (by rw [hY]; show IsNs _ _ (V ++ [_]).length _; rw [List.length_append]; exact HNV.out.setR (fun b off e => by cases e; exact HGZ.out)), (fun e => by cases e), (fun b off e => Nat.lt_of_lt_of_le (HI.out.rlt b off e) hb.size), (fun b off e => by cases e; obtain ⟨b2, off2, e2, h2, _⟩ := HNV.out.2.2 0 (by omega); cases e2; simpa using h2), HRO.out, HI.out.nodes, HI.out.rn, HI.out.wn⟩, hb, .inl rfl, .inr ⟨g, rfl, HGW.out⟩⟩
    | succ g2 =>
      have hjl : j < ln := by omega
      have hjz : (j : Int) < (ln : Int) := by omega
      have hl1000 : ln ≤ 1000 := HNL.out.2.1
      obtain ⟨b1, off1, rfl, hbl1, hq1, k0⟩ := HNL.out.2.2 j hjl
      obtain ⟨q, hq⟩ : ∃ q, q = l.getD j 0 := ⟨_, rfl⟩
      rw [← hq] at hq1 k0
      have HQ := Lib.hid hq
      have HQN := Lib.hid (show q < 5 by
        have hjl2 : j < l.length := by rw [← HLN.out]; exact hjl
        have : q ∈ l := by rw [hq, List.getD, List.getElem?_eq_getElem hjl2]; exact List.getElem_mem hjl2
        have := HVM.out q this
        have := HN5.out
        omega)
      clear hq hbl1 hq1
      rcases HS.out with ⟨hno, hw⟩ | ⟨k, hk, hkn, g, cp, hgH, hgZ, hgW, hw, hnv⟩
      · have HW2 := Lib.hid hw
        have HNO := Lib.hid hno
        clear hno hw HS HW1
        obtain ⟨c0, c1, c2, c3, c4, c5, c6, c7, f0⟩ := HW2.out.cells
        obtain ⟨o0, o1, o2, o3, o4, o5, o6, o7, o8⟩ := HW2.out.opc
        by_cases hx : (q : Int) = node
        · subst hx
          go_wp2_with fail
          go_quiet (fail)
          go_upto_region 17 with fail
          have HW3 := Lib.hid (HW2.out.drewN nq)
          have HNL3 := Lib.hid (HNL.out.below (crd_drewN (n := nq) (Below.refl wr.heap.size wr)))
          obtain ⟨W3, hW3⟩ : ∃ W3, W3 = wr.drewN nq := ⟨_, rfl⟩
          rw [← hW3] at HW3 HNL3
          rw [← hW3]
          clear c0 c1 c2 c3 c4 c5 c6 c7 f0 o0 o1 o2 o3 o4 o5 o6 o7 o8 hW3 k0 HW2
          obtain ⟨B, hB⟩ : ∃ B, B = W3.heap.size := ⟨_, rfl⟩
          have hHB : H < B := by rw [hB]; exact (Array.getElem?_eq_some_iff.1 HW3.out.h).1
          have hH1B : H1 < B := by rw [hB]; exact (Array.getElem?_eq_some_iff.1 (HW3.out.ext H1 _ ⟨rfl, rfl⟩).2.2).1
          have HB := Lib.hid hB
          have HR0 := Lib.hid HW3.out.h
          have HR1 := Lib.hid (HW3.out.ext H1 _ ⟨rfl, rfl⟩).2.2
          have HRS := Lib.hid (show ∀ W, Below w.heap.size w W → IsNs W va vn V from fun W hb => by rw [HVN.out]; exact HI.out.ns.below hb)
          have HLL := Lib.hid (show V.length ≤ 5 from Nat.le_trans HI.out.ok.few HN5.out)
          clear hB
          refine wp_region_tail [2, 3] [80, 81] (NKeep B V q) (psiV B H H1 (.slice va vn vc) V q) (fun _ _ => True) 113 9 none (.store 38 (.tmp 81) (.tmp 80)) (by kernel_rfl) (by kernel_rfl) (by kernel_rfl) (by kernel_rfl) rfl (by kernel_rfl) (by kernel_rfl)
            (NKeep.of (by rw [HB.out]; exact Nat.le_refl _) ((Below.refl _ _).drew)) (fun _ _ _ => NKeep.trans) (psiV_stable _ _ _ _ _ _) (fun _ _ _ _ _ => trivial) ?_ ?_ [73, 74, 75, 76, 77, 78, 79, 80, 81] (by kernel_rfl) ?_
          · intro t ht w' _
            simp only [List.mem_cons, List.not_mem_nil, or_false] at ht
            rcases ht with rfl | rfl <;> rfl
          · repeat' (first | exact AllStepsL.nil | refine AllStepsL.cons ?_ ?_)
            all_goals
              intro hik
              first
                | (exfalso; revert hik; decide)
                | (intro a' w' K' Q' hRl hP hK'
                   have hB1 : B ≤ w'.heap.size := by rw [HB.out]; exact hRl.size
                   have box0 := (hRl.block H hHB).trans HR0.out
                   have box1 := (hRl.block H1 hH1B).trans HR1.out
                   have c7' : w'.cell? ⟨H, 7, none⟩ = some (.slice va vn vc) := by rw [cell_of_row _ _ _ _ _ _ box0]; rfl
                   have d7' : w'.cell? ⟨H1, 7, none⟩ = some (.int .i64 (q : Int)) := by rw [cell_of_row _ _ _ _ _ _ box1]; rfl
                   clear box0 box1
                   first
                     | (refine nwp_bs0 rfl ?_
                        refine hK' _ _ (NKeep.of hB1 ((Below.refl _ _).alloc (Nat.le_refl _) _)) trivial ?_
                        intro d hd; cases hd
                        exact nrow_empty w' hB1)
                     | (obtain ⟨h53, _⟩ := hP
                        refine nwp_bs1 _ q rfl (by simp only [Act.eval, Array.getD_eq_getD_getElem?]; exact h53) ?_
                        refine hK' _ _ (NKeep.of hB1 ((Below.refl _ _).alloc (Nat.le_refl _) _)) trivial ?_
                        intro d hd; cases hd
                        exact nrow_one w' _ hB1)
                     | (obtain ⟨h47, h49, _⟩ := hP
                        obtain ⟨v', w3, hr, hb2, hrow⟩ := napp_first (B := B) w' _ va vn vc V h47 (HRS.out _ ((HW3.out.below).trans ((NKeep.below (by rw [HB.out]; exact Nat.le_refl _) hRl).mono (by rw [HB.out]; exact HW3.out.below.size)))) (by have := HLL.out; have := HVN.out; omega) (fun _ => HI.out.vnil) hB1
                        refine nwp_app _ _ rfl rfl _ _ v' w3 (by simp only [Act.eval, Array.getD_eq_getD_getElem?]) (by simp only [Act.eval, Array.getD_eq_getD_getElem?]; exact h49) hr ?_
                        refine hK' _ _ (NKeep.of hB1 hb2) trivial ?_
                        intro d hd; cases hd
                        exact hrow)
                     | (obtain ⟨h50, h54, _⟩ := hP
                        obtain ⟨v', w3, hr, hk2, hrow⟩ := napp_second (B := B) w' _ _ V q h50 h54 (by have := HLL.out; omega) hB1
                        refine nwp_app _ _ rfl rfl _ _ v' w3 (by simp only [Act.eval, Array.getD_eq_getD_getElem?]) (by simp only [Act.eval, Array.getD_eq_getD_getElem?]) hr ?_
                        refine hK' _ _ hk2 trivial ?_
                        intro d hd; cases hd
                        exact hrow)
                     | (repeat (obtain ⟨h, hP⟩ := hP; conv at h => whnf)
                        go_simp
                        refine hK' _ _ NKeep.refl trivial ?_
                        intro d hd; cases hd; first | rfl | exact h))
          · intro f w3 hRl hf hT ok hd ho
            have hb33 : Below W3.heap.size W3 w3 := by rw [← HB.out]; exact NKeep.below (by rw [HB.out]; exact Nat.le_refl _) hRl
            have HW4 := HW3.out.later (w' := w3) hb33
            have h53 : f 81 = .pointer (some ⟨H, 7, none⟩) := hf 81 (by simp)
            have hrow : NRow B false (V ++ [q]) (f 80) w3 := hf 80 (by simp)
            obtain ⟨g, cp, cur, h52, hr1, hr2⟩ := id hrow
            have hm : (V ++ [q]).length = vn + 1 := by rw [List.length_append, HVN.out]; rfl
            rw [h52, hm] at hrow
            rw [hm] at h52
            have HGH := Lib.hid (show g ≠ H by omega)
            have HGW := Lib.hid (show w.heap.size ≤ g by have := HW3.out.below.size; have := HB.out; omega)
            have HGZ := Lib.hid (show g ≠ Z from fun e => by have := (Array.getElem?_eq_some_iff.1 HW3.out.r).1; have := HB.out; omega)
            simp only [putAll, List.foldl_cons, List.foldl_nil, h52, h53]
            dsimp only [Act.put]
            simp only [List.setIfInBounds_toArray]
            simp only [List.set_cons_succ, List.set_cons_zero]
            refine wp_store1C 38 _ _ ho ⟨H, 7, none⟩ (.slice (some ⟨g, 0, none⟩) (vn + 1) cp) _ rfl rfl rfl HW4.cells.2.2.2.2.2.2.2.1 (HW4.cells.2.2.2.2.2.2.2.2 7) (by kernel_rfl) ?_
            rw [hd]
            have HW5 := Lib.hid (HW4.put 7 (.slice (some ⟨g, 0, none⟩) (vn + 1) cp))
            have HNV5 := Lib.hid (show IsNs (w3.setCell ⟨H, 7, none⟩ (.slice (some ⟨g, 0, none⟩) (vn + 1) cp)) (some ⟨g, 0, none⟩) (V.length + 1) (V ++ [q]) by
              have h1 := (hrow.setC (i := 7) (u := .slice (some ⟨g, 0, none⟩) (vn + 1) cp) hHB).own
              obtain ⟨a2, c2, e, hz, _⟩ := ns_own h1 (by rw [hm, HVN.out]; have := HLL.out; omega) (fun k hk => by
                rcases List.mem_append.1 hk with hk | hk
                · have h2 := HI.out.ok.voted.2 k hk
                  have h2 : k < n := h2
                  have := HN5.out
                  omega
                · rw [List.mem_singleton.1 hk]; have := HQN.out; omega)
              injection e with e1 e2 e3
              subst e1
              rw [hm] at hz
              rw [← HVN.out]
              exact hz)
            have HNL5 := Lib.hid ((HNL3.out.below hb33).setC (h := H) (i := 7) (v := .slice (some ⟨g, 0, none⟩) (vn + 1) cp) (fun b off e => (HFR.out b off e).1))
            obtain ⟨W5, hW5⟩ : ∃ W5, W5 = w3.setCell ⟨H, 7, none⟩ (.slice (some ⟨g, 0, none⟩) (vn + 1) cp) := ⟨_, rfl⟩
            rw [← hW5] at HW5 HNV5 HNL5
            rw [← hW5]
            clear hrow hr1 hr2 h52 h53 hf hT hRl hW5 HW4 hd ho hb33 hm HW3 HNL3 HRS HR0 HR1 hHB hH1B
            obtain ⟨c0, c1, c2, c3, c4, c5, c6, c7, f0⟩ := HW5.out.cells
            obtain ⟨o0, o1, o2, o3, o4, o5, o6, o7, o8⟩ := HW5.out.opc
            have HQ2 := Lib.hid (show ((l.getD j 0 : Nat) : Int) = (q : Int) by rw [← HQ.out])
            cases good with
            | false =>
              have e6 : s2 = 6 := by rw [HS2.out, if_pos rfl]
              have HE6 := Lib.hid e6
              clear e6
              go_wp2_with fail
              go_roundg g2
              case measure => omega
              case rel => exact ⟨j + 1, by omega, by go_num, Lib.hid (.inr ⟨j, by omega, HQ2.out, g, cp, HGH.out, HGZ.out, HGW.out, by have := HW5.out.put 3 (.int .i64 6); rw [HE6.out]; exact this, HNV5.out.setC (fun b off e => by cases e; exact HGH.out)⟩), Lib.hid (HNL5.out.setC (fun b off e => (HFR.out b off e).1))⟩
            | true =>
              by_cases h1 : ln = 1
              · have e6 : s2 = 4 := by rw [HS2.out, if_neg (by decide), if_pos h1]
                have HE6 := Lib.hid e6
                have f1 : ((ln : Int) == 1) = true := by rw [beq_iff_eq]; omega
                have HH1 := Lib.hid h1
                clear e6 h1
                go_wp2_with fail
                go_roundg g2
                case measure => omega
                case rel => exact ⟨j + 1, by omega, by go_num, Lib.hid (.inr ⟨j, by omega, HQ2.out, g, cp, HGH.out, HGZ.out, HGW.out, by have := HW5.out.put 3 (.int .i64 4); rw [HE6.out]; exact this, HNV5.out.setC (fun b off e => by cases e; exact HGH.out)⟩), Lib.hid (HNL5.out.setC (fun b off e => (HFR.out b off e).1))⟩
              · have e6 : s2 = st := by rw [HS2.out, if_neg (by decide), if_neg h1]
                have HE6 := Lib.hid e6
                have f1 : ((ln : Int) == 1) = false := by rw [beq_eq_false_iff_ne]; omega
                clear e6 h1
                go_wp2_with fail
                go_roundg g2
                case measure => omega
                case rel => exact ⟨j + 1, by omega, by go_num, Lib.hid (.inr ⟨j, by omega, HQ2.out, g, cp, HGH.out, HGZ.out, HGW.out, by rw [HE6.out]; exact HW5.out, HNV5.out⟩), HNL5⟩
        · have e1 : ((q : Int) == node) = false := by rw [beq_eq_false_iff_ne]; exact hx
          have HX := Lib.hid hx
          clear hx
          go_wp2_with fail
          go_quiet (fail)
          go_wp2_with fail
          go_roundg g2
          case measure => omega
          case rel => exact ⟨j + 1, by omega, by go_num, Lib.hid (.inl ⟨fun k hk => by
            rcases Nat.lt_succ_iff_lt_or_eq.1 hk with h | rfl
            · exact HNO.out k h
            · rw [← HQ.out]; exact HX.out, HW2.out.drewN nq⟩), Lib.hid (HNL.out.below (crd_drewN (Below.refl _ _)))⟩
      · have HW2 := Lib.hid hw
        have hx : (q : Int) ≠ node := fun e => by
          have := HAP.out j k (by rw [← HLN.out]; exact hjl) hk
          rw [← HQ.out] at this
          omega
        have HOLD := Lib.hid (And.intro hk (And.intro hkn (And.intro hgH (And.intro hgZ hgW))))
        have HNV := Lib.hid hnv
        have e1 : ((q : Int) == node) = false := by rw [beq_eq_false_iff_ne]; exact hx
        clear hx hkn hw HS HW1 hk hgZ hgH hgW hnv
        obtain ⟨c0, c1, c2, c3, c4, c5, c6, c7, f0⟩ := HW2.out.cells
        obtain ⟨o0, o1, o2, o3, o4, o5, o6, o7, o8⟩ := HW2.out.opc
        go_wp2_with fail
        go_quiet (fail)
        go_wp2_with fail
        go_roundg g2
        case measure => omega
        case rel => exact ⟨j + 1, by omega, by go_num, Lib.hid (.inr ⟨k, by have := HOLD.out.1; omega, HOLD.out.2.1, g, cp, HOLD.out.2.2.1, HOLD.out.2.2.2.1, HOLD.out.2.2.2.2, HW2.out.drewN nq, HNV.out.below (crd_drewN (Below.refl _ _))⟩), Lib.hid (HNL.out.below (crd_drewN (Below.refl _ _)))⟩
end Go.Proofs.Ytdldplhfpianhaa
