/-
  Joined: CrdWaits, CrdRead.
-/
import Derived.Test.YtdldplhfpianhaaSet03
import Derived.Test.YtdldplhfpianhaaSet05
import Derived.BigQuiet
import Derived.Laws.Rows
namespace Go.Proofs.Ytdldplhfpianhaa
open Go.RowKit
set_option linter.unusedVariables false
set_option linter.unnecessarySimpa false
set_option linter.unusedSimpArgs false
set_option maxRecDepth 100000

def nsCells (L : List Nat) : List Value := L.map fun (k : Nat) => Value.int .i64 (k : Int)
theorem nsCells_app (L M : List Nat) : nsCells (L ++ M) = nsCells L ++ nsCells M := by unfold nsCells; rw [List.map_append]
theorem nsCells_one (L : List Nat) : ∀ u ∈ nsCells L, u.oneCell' = true := by
  intro u h
  unfold nsCells at h
  obtain ⟨k, _, rfl⟩ := List.mem_map.1 h
  rfl
theorem nsCells_at {L : List Nat} {i : Nat} (h : i < L.length) : (nsCells L)[i]? = some (.int .i64 ((L.getD i 0 : Nat) : Int)) := by
  unfold nsCells
  rw [List.getElem?_map, List.getElem?_eq_getElem h, List.getD, List.getElem?_eq_getElem h]
  rfl
theorem nsInfo : (Try.prog.info? 3).map (fun i => (i.zero, i.size, i.bytes)) = some (some (.int .i64 0), 1, 8) := by kernel_rfl
theorem nsI : ∃ i, Try.prog.info? 3 = some i ∧ i.zero = some (.int .i64 0) ∧ i.size = 1 ∧ i.bytes = 8 := by
  have h := nsInfo
  cases hq : Try.prog.info? 3 with
  | none => rw [hq] at h; simp at h
  | some i =>
    rw [hq] at h
    simp only [Option.map_some, Option.some.injEq, Prod.mk.injEq] at h
    exact ⟨i, rfl, h.1, h.2.1, h.2.2⟩
/-- A row of its own is a list of numbers. -/
theorem ns_own {w : World} {B : Nat} {v : Value} {L : List Nat} (h : w.ownsRow B 3 1 v L.length (nsCells L)) (hl : L.length ≤ 1000) (hk : ∀ k ∈ L, k < 1000) : ∃ a c, v = .slice a L.length c ∧ IsNs w a L.length L ∧ ∀ b off, a = some ⟨b, off, none⟩ → B ≤ b := by
  by_cases h0 : L.length = 0
  · have e : L = [] := List.eq_nil_of_length_eq_zero h0
    subst e
    rcases h.2 with ⟨h1, _⟩ | ⟨g, cap, cur, h1, hB, _⟩
    · exact ⟨none, 0, h1, ⟨rfl, by decide, fun i hi => absurd hi (Nat.not_lt_zero i)⟩, fun b off e => by cases e⟩
    · exact ⟨_, _, h1, ⟨rfl, by decide, fun i hi => absurd hi (Nat.not_lt_zero i)⟩, fun b off e => by cases e; exact hB⟩
  · obtain ⟨g, cap, e, hg, hgl⟩ := own_slice h (by omega)
    subst e
    refine ⟨_, _, rfl, ⟨rfl, hl, fun i hi => ⟨g, 0, rfl, hgl, hk _ ?_, ?_⟩⟩, fun b off e => by cases e; exact hg⟩
    · rw [List.getD, List.getElem?_eq_getElem hi]; exact List.getElem_mem hi
    · have := (h.cellAt i (by omega)).trans (nsCells_at hi)
      rw [Nat.zero_add]
      exact this
def waitsN (n : Nat) (Ws : List Wq) (V : List Nat) (m : Nat) : List Nat := (List.range m).filter (fun k => !((partC n (k : Int) Ws).isEmpty || V.contains k))
theorem waitsN_next (n : Nat) (Ws : List Wq) (V : List Nat) (m : Nat) : waitsN n Ws V (m + 1) = if ((partC n (m : Int) Ws).isEmpty || V.contains m) = true then waitsN n Ws V m else waitsN n Ws V m ++ [m] := by
  unfold waitsN
  rw [List.range_succ, List.filter_append]
  obtain ⟨b, h⟩ : ∃ b, ((partC n (m : Int) Ws).isEmpty || V.contains m) = b := ⟨_, rfl⟩
  simp only [List.filter_cons, List.filter_nil, h]
  cases b with
  | true => simp
  | false => simp
theorem waitsN_len (n : Nat) (Ws : List Wq) (V : List Nat) (m : Nat) : (waitsN n Ws V m).length ≤ m := by
  unfold waitsN
  have := List.length_filter_le (fun (k : Nat) => !((partC n (k : Int) Ws).isEmpty || V.contains k)) (List.range m)
  rw [List.length_range] at this
  exact this
theorem waitsN_lt (n : Nat) (Ws : List Wq) (V : List Nat) (m : Nat) : ∀ k ∈ waitsN n Ws V m, k < m := fun k h => by
  unfold waitsN at h
  exact List.mem_range.1 (List.mem_filter.1 h).1
theorem contains_next {V : List Nat} {i k : Nat} (h : i < V.length) : (V.take (i + 1)).contains k = ((V.take i).contains k || (V.getD i 0 == k)) := by
  rw [List.take_add_one, List.getElem?_eq_getElem h, List.getD, List.getElem?_eq_getElem h, Bool.eq_iff_iff, Bool.or_eq_true, List.contains_iff_mem, List.contains_iff_mem, List.mem_append, beq_iff_eq]
  simp only [Option.toList_some, Option.getD_some, List.mem_singleton]
  exact ⟨fun h => h.elim .inl (fun h => .inr h.symm), fun h => h.elim .inl (fun h => .inr h.symm)⟩
/-- A run of the document's as one value. -/
def runV (ra : Option Addr) (rn rc : Nat) (wa : Option Addr) (wn wc : Nat) (n : Nat) (x : Rn) (da : Option Addr) (dc : Nat) (va : Option Addr) (vc : Nat) : Array Value :=
  runCells ra rn rc wa wn wc n (x.stage : Int) x.start x.commit da x.read.length dc va x.voted.length vc
set_option maxHeartbeats 4000000 in
theorem cwaits_no (ra : Option Addr) (rn rc : Nat) (wa : Option Addr) (wn wc : Nat) (nodes : Nat) (st : Int) (sa co : Nat) (da : Option Addr) (dn dc : Nat) (va : Option Addr) (vn vc : Nat) (w : World) (hst : st ≠ 3) (hn : 1 ≤ nodes) :
    Calls Try.prog 17 #[.agg (runCells ra rn rc wa wn wc nodes st sa co da dn dc va vn vc)] w fun e w' => e = .returned (.slice none 0 0) ∧ Below w.heap.size w w' := by
  have HW0 := Lib.hid (CrdW.start w (runCells ra rn rc wa wn wc nodes st sa co da dn dc va vn vc) 40)
  have f1 : (st == 3) = false := by rw [beq_eq_false_iff_ne]; exact hst
  have f2 : (0 : Int) < (nodes : Int) := by omega
  have f3 : decide (0 < nodes) = true := decide_eq_true (by omega)
  unfold runCells at HW0 ⊢
  go_enter Try.func17, Try.ntmps17
  go_wp2_with fail
  go_loopg [3, 4] 0 (fun g s3 s4 wx => s3 = .slice none 0 0 ∧ s4 = .int .i64 0 ∧ Hid (CrdW w #[.slice ra rn rc, .slice wa wn wc, .int .i64 (nodes : Int), .int .i64 st, .int .u64 (sa : Int), .int .u64 (co : Int), .slice da dn dc, .slice va vn vc] 40 wx))
  case atStart => exact ⟨rfl, rfl, HW0⟩
  case round =>
    obtain ⟨rfl, rfl, HW⟩ := hrel
    clear HW0
    have c2 : wr.cell? ⟨w.heap.size, 2, none⟩ = some (.int .i64 (nodes : Int)) := by rw [HW.out.c0]; rfl
    have c3 : wr.cell? ⟨w.heap.size, 3, none⟩ = some (.int .i64 st) := by rw [HW.out.c0]; rfl
    go_wp2_with fail
    go_ret
    exact ⟨rfl, HW.out.below⟩
set_option maxHeartbeats 8000000 in
theorem cwaits_yes (ra : Option Addr) (rn rc : Nat) (wa : Option Addr) (wn wc : Nat) (nodes : Nat) (sa co : Nat) (da : Option Addr) (dn dc : Nat) (va : Option Addr) (vn vc : Nat) (Ws : List Wq) (V : List Nat) (w : World)
    (hq : IsWqs w wa wn wc Ws) (hwn : wn ≤ 1000) (hn : nodes ≤ 5) (hv : IsNs w va vn V) :
    Calls Try.prog 17 #[.agg (runCells ra rn rc wa wn wc nodes 3 sa co da dn dc va vn vc)] w fun e w' => ∃ a c, e = .returned (.slice a (waitsN nodes Ws V nodes).length c) ∧ IsNs w' a (waitsN nodes Ws V nodes).length (waitsN nodes Ws V nodes) ∧ Below w.heap.size w w' ∧ (∀ b off, a = some ⟨b, off, none⟩ → w.heap.size ≤ b) := by
  have HQ := Lib.hid hq
  have HV := Lib.hid hv
  have hvl : vn ≤ 1000 := hv.2.1
  have hev := Lib.hid hv.1
  clear hq hv
  have HP := Lib.hid (fun W (hb : Below w.heap.size w W) (k : Int) => cpart_any ra rn rc wa wn wc nodes 3 sa co da dn dc va vn vc Ws k W (HQ.out.below hb) hwn (by omega))
  have HW0 := Lib.hid (CrdW.start w (runCells ra rn rc wa wn wc nodes 3 sa co da dn dc va vn vc) 40)
  unfold runCells at HW0 HP ⊢
  obtain ⟨inf, hj, hy0, hy1, hy2⟩ := nsI
  go_enter Try.func17, Try.ntmps17
  go_wp2_with fail
  go_loopg [3, 4] nodes (fun g s3 s4 wx => ∃ (i : Nat) (L : List Nat) (v : Value), i + g = nodes ∧ s3 = v ∧ s4 = .int .i64 (i : Int) ∧ Hid (L = waitsN nodes Ws V i) ∧ Hid (wx.ownsRow (w.heap.size + 1) 3 1 v L.length (nsCells L)) ∧
    Hid (CrdW w #[.slice ra rn rc, .slice wa wn wc, .int .i64 (nodes : Int), .int .i64 3, .int .u64 (sa : Int), .int .u64 (co : Int), .slice da dn dc, .slice va vn vc] 40 wx))
  case atStart => exact ⟨0, [], _, by omega, rfl, rfl, Lib.hid rfl, Lib.hid ⟨rfl, .inl ⟨rfl, rfl⟩⟩, HW0⟩
  case round =>
    obtain ⟨i, L, v, hig, rfl, rfl, HL, HO, HW⟩ := hrel
    clear HW0
    have HN : Hid (L.length ≤ i) := Lib.hid (by rw [HL.out]; exact waitsN_len _ _ _ _)
    have c2 : wr.cell? ⟨w.heap.size, 2, none⟩ = some (.int .i64 (nodes : Int)) := by rw [HW.out.c0]; rfl
    have c3 : wr.cell? ⟨w.heap.size, 3, none⟩ = some (.int .i64 3) := by rw [HW.out.c0]; rfl
    cases gk with
    | zero =>
      obtain rfl : nodes = i := by omega
      obtain ⟨a, c, hv, hz, hfr⟩ := ns_own HO.out (by have := HN.out; omega) (fun k hk => by rw [HL.out] at hk; have := waitsN_lt _ _ _ _ k hk; omega)
      subst hv
      have HZ := Lib.hid hz
      have HFR := Lib.hid hfr
      clear hz hfr
      go_wp2_with fail
      go_ret
      exact ⟨a, c, by rw [HL.out]; rfl, by rw [← HL.out]; exact HZ.out, HW.out.below, fun b off e => Nat.le_trans (Nat.le_succ _) (HFR.out b off e)⟩
    | succ g =>
      have hil : i < nodes := by omega
      have hiz : (i : Int) < (nodes : Int) := by omega
      have c0 : wr.cell? ⟨w.heap.size, 0, none⟩ = some (.slice ra rn rc) := by rw [HW.out.c0]; rfl
      have c1 : wr.cell? ⟨w.heap.size, 1, none⟩ = some (.slice wa wn wc) := by rw [HW.out.c0]; rfl
      have c4 : wr.cell? ⟨w.heap.size, 4, none⟩ = some (.int .u64 (sa : Int)) := by rw [HW.out.c0]; rfl
      have c5 : wr.cell? ⟨w.heap.size, 5, none⟩ = some (.int .u64 (co : Int)) := by rw [HW.out.c0]; rfl
      have c6 : wr.cell? ⟨w.heap.size, 6, none⟩ = some (.slice da dn dc) := by rw [HW.out.c0]; rfl
      have c7 : wr.cell? ⟨w.heap.size, 7, none⟩ = some (.slice va vn vc) := by rw [HW.out.c0]; rfl
      have HPI := Lib.hid (HP.out wr HW.out.below (i : Int))
      have hnx := waitsN_next nodes Ws V i
      rw [← HL.out] at hnx
      obtain ⟨pl, hpl⟩ : ∃ pl, pl = partC nodes (i : Int) Ws := ⟨_, rfl⟩
      rw [← hpl] at HPI hnx
      have HNX := Lib.hid hnx
      clear hpl hnx
      go_upto_region 6 with (go_at_call 21; (with_reducible refine HPI.out.mono ?_); rintro e w1 ⟨a1, n1, k1, rfl, hz1, hb1⟩; have HW1 := Lib.hid (HW.out.later hb1); have HO1 := Lib.hid (own_below HO.out hb1); have HE1 := Lib.hid hz1.1; clear hz1 hb1; obtain ⟨E, hE⟩ : ∃ E, ((n1 : Int) == 0) = E := ⟨_, rfl⟩)
      have HEE : Hid (E = pl.isEmpty) := Lib.hid (by
        rw [← hE, ← HE1.out]
        cases pl <;> simp <;> omega)
      clear c0 c1 c2 c3 c4 c5 c6 c7 HPI HE1 HW HO
      have d2 : w1.cell? ⟨w.heap.size, 2, none⟩ = some (.int .i64 (nodes : Int)) := by rw [HW1.out.c0]; rfl
      have d7 : w1.cell? ⟨w.heap.size, 7, none⟩ = some (.slice va vn vc) := by rw [HW1.out.c0]; rfl
      go_wp2_with fail
      go_loopg [5, 6] vn (fun g s5 s6 wx => ∃ (k : Nat) (VB : Bool), k + g = vn ∧ s5 = .bool VB ∧ s6 = .int .i64 (k : Int) ∧ Hid (VB = (pl.isEmpty || (V.take k).contains i)) ∧ wx = w1)
      case atStart => exact ⟨0, E, by omega, rfl, rfl, Lib.hid (by rw [HEE.out]; simp), rfl⟩
      case round =>
        obtain ⟨k, VB, hkg, rfl, rfl, HB, rfl⟩ := hrel
        cases gk with
        | zero =>
          obtain rfl : vn = k := by omega
          have HB2 : Hid (VB = (pl.isEmpty || V.contains i)) := Lib.hid (by rw [HB.out, List.take_of_length_le (Nat.le_of_eq hev.out)])
          have HNX2 := HNX
          rw [← HB2.out] at HNX2
          clear HB HB2 HNX
          cases VB with
          | true =>
            rw [if_pos rfl] at HNX2
            go_wp2_with fail
            go_roundg g
            case measure => omega
            case rel => exact ⟨i + 1, L, _, by omega, rfl, by go_num, Lib.hid HNX2.out.symm, HO1, HW1⟩
          | false =>
            rw [if_neg (by decide)] at HNX2
            have q1 := Lib.hid (show (nsCells [i]).length = 1 * 1 from rfl)
            have q3 := Lib.hid (nsCells_one [i])
            have q4 := Lib.hid (show L.length + 1 ≤ maxLen by have := HN.out; unfold maxLen; omega)
            have q5 := Lib.hid (show (L.length + 1) * 8 ≤ 140737488355328 by have := HN.out; omega)
            have hs1 := (Array.getElem?_eq_some_iff.1 HW1.out.r0).1
            have hb8 : Below wr.heap.size wr (wr.alloc (.cells #[.int .i64 (i : Int)] 3)) := (Below.refl _ _).alloc (Nat.le_refl _) _
            have HO8 : Hid ((wr.alloc (.cells #[.int .i64 (i : Int)] 3)).ownsRow (w.heap.size + 1) 3 1 u3 L.length (nsCells L)) := Lib.hid (HO1.out.alloc _)
            have HW8 := Lib.hid (HW1.out.later hb8)
            have q2 := Lib.hid (show ∀ j u, (nsCells [i])[j]? = some u → (wr.alloc (.cells #[.int .i64 (i : Int)] 3)).cell? ((⟨wr.heap.size, 0, none⟩ : Addr).add j) = some u from fun j u h => by
              rw [Addr.add_lit, Nat.zero_add, cell_of_row _ _ _ _ _ _ (heap_alloc_new wr _)]
              simpa [nsCells] using h)
            have q6 := Lib.hid (show w.heap.size + 1 ≤ (wr.alloc (.cells #[.int .i64 (i : Int)] 3)).heap.size from Nat.le_trans hs1 hb8.size)
            clear hb8 hs1
            go_wp2_with (at_builtin; refine wpList_append_own _ rfl _ _ 38 rfl (w.heap.size + 1) 3 inf (.int .i64 0) 1 8 Try.underlying38 hj hy0 hy1 hy2 rfl (by decide) u3 L.length (nsCells L) rfl HO8.out ⟨wr.heap.size, 0, none⟩ 1 1 (nsCells [i]) rfl q1.out q2.out q3.out q4.out q5.out q6.out ?_; intro v9 w9 hown9 hg9 hn9)
            have hb9 : Below w.heap.size (wr.alloc (.cells #[.int .i64 (i : Int)] 3)) w9 := ⟨hg9.os, hg9.tape, hg9.output, hg9.size, fun k hk => hg9.block k (by have := q6.out; omega) (fun e => by have := (HO8.out.lt k e.symm).1; omega)⟩
            have HW9 : Hid (CrdW w #[.slice ra rn rc, .slice wa wn wc, .int .i64 (nodes : Int), .int .i64 3, .int .u64 (sa : Int), .int .u64 (co : Int), .slice da dn dc, .slice va vn vc] 40 w9) :=
              Lib.hid ⟨HW8.out.below.trans hb9, (hg9.block w.heap.size (by have := q6.out; omega) (fun e => by have := (HO8.out.lt _ e.symm).1; omega)).trans HW8.out.r0⟩
            have HO9 : Hid (w9.ownsRow (w.heap.size + 1) 3 1 v9 (L ++ [i]).length (nsCells (L ++ [i]))) := Lib.hid (by rw [nsCells_app, List.length_append]; exact hown9)
            clear hown9 hg9 hn9 hb9
            go_roundg g
            case measure => omega
            case rel => exact ⟨i + 1, _, _, by omega, rfl, by go_num, Lib.hid HNX2.out.symm, HO9, HW9⟩
        | succ g2 =>
          have hkl : k < vn := by omega
          have hkz : (k : Int) < (vn : Int) := by omega
          obtain ⟨b, off, rfl, hbl, hv1, j0⟩ := (HV.out.below HW1.out.below).2.2 k hkl
          have hcn := contains_next (V := V) (i := k) (k := i) (by rw [hev.out]; exact hkl)
          obtain ⟨q, hq⟩ : ∃ q, q = V.getD k 0 := ⟨_, rfl⟩
          rw [← hq] at j0 hcn
          obtain ⟨Z, hZ⟩ : ∃ Z, Z = (q == i) := ⟨_, rfl⟩
          have z1 : ((q : Int) == (i : Int)) = Z := by rw [hZ, Bool.eq_iff_iff, beq_iff_eq, beq_iff_eq]; omega
          rw [← hZ] at hcn
          have HCN : Hid ((pl.isEmpty || (V.take (k + 1)).contains i) = (VB || Z)) := Lib.hid (by rw [hcn, HB.out, Bool.or_assoc])
          clear hq hcn hbl hv1 hZ
          cases VB with
          | true =>
            go_wp2_with fail
            go_roundg g2
            case measure => omega
            case rel => exact ⟨k + 1, true, by omega, rfl, by go_num, Lib.hid (by rw [HCN.out]; rfl), rfl⟩
          | false =>
            go_wp2_with fail
            go_roundg g2
            case measure => omega
            case rel => exact ⟨k + 1, Z, by omega, rfl, by go_num, Lib.hid (by rw [HCN.out]; rfl), rfl⟩
theorem cwaits_st (ra : Option Addr) (rn rc : Nat) (wa : Option Addr) (wn wc : Nat) (nodes : Nat) (st : Int) (hst : st = 3) (sa co : Nat) (da : Option Addr) (dn dc : Nat) (va : Option Addr) (vn vc : Nat) (Ws : List Wq) (V : List Nat) (w : World)
    (hq : IsWqs w wa wn wc Ws) (hwn : wn ≤ 1000) (hn : nodes ≤ 5) (hv : IsNs w va vn V) :
    Calls Try.prog 17 #[.agg (runCells ra rn rc wa wn wc nodes st sa co da dn dc va vn vc)] w fun e w' => ∃ a c, e = .returned (.slice a (waitsN nodes Ws V nodes).length c) ∧ IsNs w' a (waitsN nodes Ws V nodes).length (waitsN nodes Ws V nodes) ∧ Below w.heap.size w w' ∧ (∀ b off, a = some ⟨b, off, none⟩ → w.heap.size ≤ b) := by
  subst hst
  exact cwaits_yes ra rn rc wa wn wc nodes sa co da dn dc va vn vc Ws V w hq hwn hn hv
end Go.Proofs.Ytdldplhfpianhaa

namespace Go.Proofs.Ytdldplhfpianhaa
open Go.RowKit
set_option linter.unusedVariables false
set_option linter.unnecessarySimpa false
set_option linter.unusedSimpArgs false
set_option maxRecDepth 100000

/-- A run's box and a result's; blocks that stay. -/
structure CrR (w : World) (X : Nat → Obj → Prop) (H R : Nat) (b z : Array Value) (wx : World) : Prop where
  below : Below w.heap.size w wx
  old : w.heap.size ≤ H ∧ w.heap.size ≤ R
  ne : H ≠ R
  h : wx.heap[H]? = some (.cells b 40 (0, 0))
  r : wx.heap[R]? = some (.cells z 40 (0, 0))
  ext : ∀ g q, X g q → g ≠ H ∧ g ≠ R ∧ wx.heap[g]? = some q
section
variable {w wx w' : World} {X : Nat → Obj → Prop} {H R : Nat} {b z : Array Value}
theorem CrR.later (h : CrR w X H R b z wx) (hb : Below wx.heap.size wx w') : CrR w X H R b z w' :=
  ⟨h.below.trans (hb.mono h.below.size), h.old, h.ne, (hb.block _ (Array.getElem?_eq_some_iff.1 h.h).1).trans h.h, (hb.block _ (Array.getElem?_eq_some_iff.1 h.r).1).trans h.r, fun g q hx => ⟨(h.ext g q hx).1, (h.ext g q hx).2.1, (hb.block _ (Array.getElem?_eq_some_iff.1 (h.ext g q hx).2.2).1).trans (h.ext g q hx).2.2⟩⟩
theorem CrR.drew (h : CrR w X H R b z wx) : CrR w X H R b z wx.drew := h.later (Below.refl _ _).drew
theorem CrR.put (h : CrR w X H R b z wx) (i : Nat) (v : Value) : CrR w X H R (b.setIfInBounds i v) z (wx.setCell ⟨H, i, none⟩ v) :=
  ⟨h.below.setCell h.old.1 _, h.old, h.ne, heap_setCell_same _ _ _ _ _ _ h.h, (Below.heap_setCell _ _ _ _ (Ne.symm h.ne)).trans h.r, fun g q hx => ⟨(h.ext g q hx).1, (h.ext g q hx).2.1, (Below.heap_setCell _ _ _ _ (h.ext g q hx).1).trans (h.ext g q hx).2.2⟩⟩
theorem CrR.row (h : CrR w X H R b z wx) (c : Array Value) : CrR w X H R c z (wx.setRow H c) :=
  ⟨⟨h.below.os, h.below.tape, h.below.output, by simpa using h.below.size, fun k hk => (setRow_other wx H k c (by have := h.old.1; omega)).trans (h.below.block k hk)⟩, h.old, h.ne, setRow_heap _ _ _ _ _ _ h.h, (setRow_other _ _ _ _ (Ne.symm h.ne)).trans h.r, fun g q hx => ⟨(h.ext g q hx).1, (h.ext g q hx).2.1, (setRow_other _ _ _ _ (h.ext g q hx).1).trans (h.ext g q hx).2.2⟩⟩
theorem CrR.res (h : CrR w X H R b z wx) (c : Array Value) : CrR w X H R b c (wx.setRow R c) :=
  ⟨⟨h.below.os, h.below.tape, h.below.output, by simpa using h.below.size, fun k hk => (setRow_other wx R k c (by have := h.old.2; omega)).trans (h.below.block k hk)⟩, h.old, h.ne, (setRow_other _ _ _ _ h.ne).trans h.h, setRow_heap _ _ _ _ _ _ h.r, fun g q hx => ⟨(h.ext g q hx).1, (h.ext g q hx).2.1, (setRow_other _ _ _ _ (h.ext g q hx).2.1).trans (h.ext g q hx).2.2⟩⟩
theorem CrR.cells {b0 b1 b2 b3 b4 b5 b6 b7 : Value} (h : CrR w X H R #[b0, b1, b2, b3, b4, b5, b6, b7] z wx) :
    wx.cell? ⟨H, 0, none⟩ = some b0 ∧ wx.cell? ⟨H, 1, none⟩ = some b1 ∧ wx.cell? ⟨H, 2, none⟩ = some b2 ∧ wx.cell? ⟨H, 3, none⟩ = some b3 ∧ wx.cell? ⟨H, 4, none⟩ = some b4 ∧ wx.cell? ⟨H, 5, none⟩ = some b5 ∧ wx.cell? ⟨H, 6, none⟩ = some b6 ∧ wx.cell? ⟨H, 7, none⟩ = some b7 ∧ (∀ j, wx.frozen? ⟨H, j, none⟩ = false) := by
  refine ⟨?_, ?_, ?_, ?_, ?_, ?_, ?_, ?_, fun j => frozen_of_row _ _ _ _ _ h.h⟩ <;> (rw [cell_of_row _ _ _ _ _ _ h.h]; rfl)
end
def zeroRun : Array Value := runCells none 0 0 none 0 0 0 0 0 0 none 0 0 none 0 0
theorem CrR.start (w : World) (b : Array Value) : CrR w (fun _ _ => False) w.heap.size (w.heap.size + 1) b zeroRun ((w.alloc (.cells b 40)).alloc (.cells zeroRun 40)) :=
  ⟨((Below.refl w.heap.size w).alloc (Nat.le_refl _) _).alloc (by simp) _, by omega, by omega, (Below.heap_alloc _ _ _ (by simp)).trans (heap_alloc_new _ _), by simpa using heap_alloc_new (w.alloc (.cells b 40)) (.cells zeroRun 40), fun _ _ h => h.elim⟩
/-- What a method answers that makes a run of a run. -/
theorem crun_ret {fn : Func} {p : Nat} (hf : fn.results = #[.cell p 40]) {w wx : World} {X : Nat → Obj → Prop} {H R : Nat} {b c : Array Value} (h : CrR w X H R b c wx) (hc : c.size = 8) {a : Act} (hd : a.defers = []) (hp : a.tmps.getD p undef = .pointer (some ⟨R, 0, none⟩)) {Q : Ending → World → Prop} (hq : Q (.returned (.agg c)) wx) :
    bodyPost Try.prog fn Q .ret a wx :=
  bodyPost_ret (results_cell_row hf _ _ R 40 c (0, 0) _ hp h.r Try.underlying40 rfl (by rw [hc]; exact runSize)) hd hq
set_option maxHeartbeats 4000000 in
theorem cread_any (ra : Option Addr) (rn rc : Nat) (wa : Option Addr) (wn wc nodes st sa co : Nat) (da : Option Addr) (dn dc : Nat) (va : Option Addr) (vn vc : Nat) (w : World) :
    Calls Try.prog 34 #[.agg (runCells ra rn rc wa wn wc nodes (st : Int) sa co da dn dc va vn vc)] w fun e w' => e = .returned (.agg (runCells ra rn rc wa wn wc nodes ((if dn = rn then if wn = 0 then 5 else 3 else st : Nat) : Int) sa (if dn = rn ∧ wn = 0 then sa else co) da dn dc va vn vc)) ∧ Below w.heap.size w w' := by
  have HW00 := Lib.hid (CrR.start w (runCells ra rn rc wa wn wc nodes (st : Int) sa co da dn dc va vn vc))
  unfold zeroRun runCells at HW00
  unfold runCells
  go_enter Try.func34, Try.ntmps34
  go_upto_region 1 with fail
  obtain ⟨W0, hW0⟩ : ∃ W0, W0 = (w.alloc (.cells #[.slice ra rn rc, .slice wa wn wc, .int .i64 (nodes : Int), .int .i64 (st : Int), .int .u64 (sa : Int), .int .u64 (co : Int), .slice da dn dc, .slice va vn vc] 40)).alloc (.cells #[.slice none 0 0, .slice none 0 0, .int .i64 0, .int .i64 0, .int .u64 0, .int .u64 0, .slice none 0 0, .slice none 0 0] 40) := ⟨_, rfl⟩
  obtain ⟨R, hR⟩ : ∃ R, R = w.heap.size + 1 := ⟨_, rfl⟩
  obtain ⟨H, hH⟩ : ∃ H, H = w.heap.size := ⟨_, rfl⟩
  have HW0 : Hid (CrR w (fun _ _ => False) H R #[.slice ra rn rc, .slice wa wn wc, .int .i64 (nodes : Int), .int .i64 (st : Int), .int .u64 (sa : Int), .int .u64 (co : Int), .slice da dn dc, .slice va vn vc] #[.slice none 0 0, .slice none 0 0, .int .i64 0, .int .i64 0, .int .u64 0, .int .u64 0, .slice none 0 0, .slice none 0 0] W0) := by
    rw [hH, hR, hW0]; exact HW00
  rw [← hW0, ← hR, ← hH]
  clear hW0 hR hH HW00
  obtain ⟨c0, c1, c2, c3, c4, c5, c6, c7, f0⟩ := HW0.out.cells
  by_cases h1 : dn = rn
  · subst h1
    by_cases h2 : wn = 0
    · subst h2
      go_upto_region 3 with fail
      have HW1 := Lib.hid (HW0.out.put 3 (.int .i64 3))
      obtain ⟨W1, hW1⟩ : ∃ W1, W1 = W0.setCell ⟨H, 3, none⟩ (.int .i64 3) := ⟨_, rfl⟩
      rw [← hW1] at HW1
      rw [← hW1]
      clear c0 c1 c2 c3 c4 c5 c6 c7 f0 hW1 HW0
      obtain ⟨c0, c1, c2, c3, c4, c5, c6, c7, f0⟩ := HW1.out.cells
      go_upto_region 5 with fail
      have HW2 := Lib.hid (HW1.out.put 3 (.int .i64 5))
      obtain ⟨W2, hW2⟩ : ∃ W2, W2 = W1.setCell ⟨H, 3, none⟩ (.int .i64 5) := ⟨_, rfl⟩
      rw [← hW2] at HW2
      rw [← hW2]
      clear c0 c1 c2 c3 c4 c5 c6 c7 f0 hW2 HW1
      obtain ⟨c0, c1, c2, c3, c4, c5, c6, c7, f0⟩ := HW2.out.cells
      go_upto_region 6 with fail
      have HW3 := Lib.hid (HW2.out.put 5 (.int .u64 (sa : Int)))
      obtain ⟨W3, hW3⟩ : ∃ W3, W3 = W2.setCell ⟨H, 5, none⟩ (.int .u64 (sa : Int)) := ⟨_, rfl⟩
      rw [← hW3] at HW3
      rw [← hW3]
      clear c0 c1 c2 c3 c4 c5 c6 c7 f0 hW3 HW2
      obtain ⟨c0, c1, c2, c3, c4, c5, c6, c7, f0⟩ := HW3.out.cells
      go_wp2_with (refine wpList_store_row rfl 40 _ _ rfl R #[.slice ra dn rc, .slice wa 0 wc, .int .i64 (nodes : Int), .int .i64 5, .int .u64 (sa : Int), .int .u64 (sa : Int), .slice da dn dc, .slice va vn vc] rfl rfl 40 _ HW3.out.r runSize rfl (by simp [Value.oneCell']) ?_)
      refine crun_ret (fn := Try.f34) (p := 2) rfl (HW3.out.res _) (by rfl) (by rfl) (by rfl) ?_
      exact ⟨by simp, (HW3.out.res _).below⟩
    · have f1 : ((wn : Int) == 0) = false := by rw [beq_eq_false_iff_ne]; omega
      have HN := Lib.hid h2
      clear h2
      go_upto_region 3 with fail
      have HW1 := Lib.hid (HW0.out.put 3 (.int .i64 3))
      obtain ⟨W1, hW1⟩ : ∃ W1, W1 = W0.setCell ⟨H, 3, none⟩ (.int .i64 3) := ⟨_, rfl⟩
      rw [← hW1] at HW1
      rw [← hW1]
      clear c0 c1 c2 c3 c4 c5 c6 c7 f0 hW1 HW0
      obtain ⟨c0, c1, c2, c3, c4, c5, c6, c7, f0⟩ := HW1.out.cells
      go_wp2_with (refine wpList_store_row rfl 40 _ _ rfl R #[.slice ra dn rc, .slice wa wn wc, .int .i64 (nodes : Int), .int .i64 3, .int .u64 (sa : Int), .int .u64 (co : Int), .slice da dn dc, .slice va vn vc] rfl rfl 40 _ HW1.out.r runSize rfl (by simp [Value.oneCell']) ?_)
      refine crun_ret (fn := Try.f34) (p := 2) rfl (HW1.out.res _) (by rfl) (by rfl) (by rfl) ?_
      exact ⟨rfl, (HW1.out.res _).below⟩
  · have f1 : ((dn : Int) == (rn : Int)) = false := by rw [beq_eq_false_iff_ne]; omega
    have HN := Lib.hid h1
    clear h1
    go_wp2_with (refine wpList_store_row rfl 40 _ _ rfl R #[.slice ra rn rc, .slice wa wn wc, .int .i64 (nodes : Int), .int .i64 (st : Int), .int .u64 (sa : Int), .int .u64 (co : Int), .slice da dn dc, .slice va vn vc] rfl rfl 40 _ HW0.out.r runSize rfl (by simp [Value.oneCell']) ?_)
    refine crun_ret (fn := Try.f34) (p := 2) rfl (HW0.out.res _) (by rfl) (by rfl) (by rfl) ?_
    exact ⟨rfl, (HW0.out.res _).below⟩
end Go.Proofs.Ytdldplhfpianhaa
