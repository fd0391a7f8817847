/-
  The walk of slices.DeleteFunc over the program's fields.
-/
import Derived.Test.YtkcbbcabfbkclaaMsgDelete
import Derived.Laws.IdiomCopy
namespace Go.Proofs.Ytkcbbcabfbkclaa
open Go.RowKit
set_option linter.unusedVariables false
set_option linter.unnecessarySimpa false
set_option linter.unusedSimpArgs false
set_option maxRecDepth 100000

/-- 'clear(s)', s a slice of n > 0 elements, of however many cells each. -/
theorem run_clear_wide {P : Program} (w : World) (t e ty : TypeId) (z : Value) (ht : P.underlying t = some (.slice e)) (hv : ∀ w, (zeroValue e).run P w = .ok z w) (b o n c : Nat) (hn : 0 < n) (h1 : ∀ v ∈ z.cells.toList, v.oneCell' = true) (hz : 0 < z.cells.size)
    (hc : ∀ j, j < n * z.cells.size → (w.cell? ⟨b, o + j, none⟩).isSome = true) (hf : ∀ j, j < n * z.cells.size → w.frozen? ⟨b, o + j, none⟩ = false) :
    (Builtin.clear_ #[t] ty #[.slice (some ⟨b, o, none⟩) n c]).run P w = .ok (.tuple #[]) (w.setCells b o (Builtin.zeroCells z.cells n).toList) := by
  have hlen : (Builtin.zeroCells z.cells n).toList.length = n * z.cells.size := by simp [Builtin.zeroCells]
  have hone : ∀ v ∈ (Builtin.zeroCells z.cells n).toList, v.oneCell' = true := fun v hv => by
    simp only [Builtin.zeroCells, Array.toList_map, List.mem_map] at hv
    obtain ⟨i, _, rfl⟩ := hv
    have hlt : i % z.cells.size < z.cells.size := Nat.mod_lt _ hz
    rw [getElem!_pos z.cells _ hlt]
    exact h1 _ (by simp)
  have hst := run_storeCells_cells (P := P) b o (Builtin.zeroCells z.cells n).toList 0 w (by rw [hlen]; simpa using hc) (by rw [hlen]; simpa using hf) hone
  simp only [Nat.add_zero] at hst
  obtain ⟨m, rfl⟩ : ∃ m, n = m + 1 := ⟨n - 1, by omega⟩
  simp [Builtin.clear_, run_underlying ht, hv, hst]

theorem grown_setCells (g : Nat) : ∀ (vs : List Value) (o : Nat) (w : World), w.grownBy (w.setCells g o vs) (some g)
  | [], o, w => grownBy_refl _ _
  | v :: r, o, w => grownBy_trans (grown_set (g := g) (k := o) (v := v)) (grown_setCells g r (o + 1) _)

/-- How far the striking has come. -/
structure Struck (l : List F3) (i j : Nat) (dk : List F3) : Prop where
  len : dk.length = l.length
  lt : i < j
  le : j ≤ l.length
  head : dk.take i = (l.take j).filter (·.is)
  tail : ∀ t, j ≤ t → dk[t]? = l[t]?
theorem Struck.start {l : List F3} {k : Nat} (h : ∀ j, j < k → ∀ f, l[j]? = some f → f.is = true) {f : F3} (hf : l[k]? = some f) (hz : f.is = false) : Struck l k (k + 1) l := by
  have hlt : k < l.length := (List.getElem?_eq_some_iff.1 hf).1
  refine ⟨rfl, by omega, by omega, ?_, fun t _ => rfl⟩
  rw [List.take_add_one, hf, List.filter_append]
  have e : (l.take k).filter (·.is) = l.take k := by
    rw [List.filter_eq_self]
    intro x hx
    obtain ⟨j, hj, e⟩ := List.getElem_of_mem hx
    rw [List.length_take] at hj
    rw [List.getElem_take] at e
    exact h j (by omega) x (by rw [List.getElem?_eq_getElem (by omega), e])
  rw [e]
  simp [hz]
theorem Struck.skip {l : List F3} {i j : Nat} {dk : List F3} (h : Struck l i j dk) {f : F3} (hf : l[j]? = some f) (hz : f.is = false) : Struck l i (j + 1) dk := by
  have hlt : j < l.length := (List.getElem?_eq_some_iff.1 hf).1
  refine ⟨h.len, by have := h.lt; omega, by omega, ?_, fun t ht => h.tail t (by omega)⟩
  rw [List.take_add_one, hf, List.filter_append, h.head]
  simp [hz]
theorem Struck.keep {l : List F3} {i j : Nat} {dk : List F3} (h : Struck l i j dk) {f : F3} (hf : l[j]? = some f) (hz : f.is = true) : Struck l (i + 1) (j + 1) (dk.set i f) := by
  have hlt : j < l.length := (List.getElem?_eq_some_iff.1 hf).1
  have hij := h.lt
  have hid : i < dk.length := by rw [h.len]; omega
  refine ⟨by rw [List.length_set]; exact h.len, by omega, by omega, ?_, fun t ht => ?_⟩
  · rw [List.take_add_one (l := l), hf, List.filter_append, ← h.head, List.take_add_one, List.take_set_of_le (Nat.le_refl _), List.getElem?_set_self hid]
    simp [hz]
  · rw [List.getElem?_set_ne (by omega)]
    exact h.tail t (by omega)
theorem fidx_split (l : List F3) : (fidx l = -1 ∧ ∀ f ∈ l, f.is = true) ∨ ∃ (k : Nat) (f : F3), fidx l = (k : Int) ∧ (∀ j, j < k → ∀ f, l[j]? = some f → f.is = true) ∧ l[k]? = some f ∧ f.is = false := by
  induction l with
  | nil => exact .inl ⟨rfl, fun f hf => by cases hf⟩
  | cons x l ih =>
    cases hx : x.is with
    | false => exact .inr ⟨0, x, by unfold fidx; rw [hx]; rfl, fun j hj => by omega, rfl, hx⟩
    | true =>
      rcases ih with ⟨e, h⟩ | ⟨k, f, e, h, hf, hz⟩
      · exact .inl ⟨by unfold fidx; rw [hx, e]; rfl, fun f hf => by rcases List.mem_cons.1 hf with rfl | hf; exact hx; exact h f hf⟩
      · refine .inr ⟨k + 1, f, by unfold fidx; rw [hx, e, if_pos rfl, if_neg (by omega)]; omega, fun j hj g hg => ?_, by simpa using hf, hz⟩
        cases j with
        | zero => simp at hg; subst hg; exact hx
        | succ j => exact h j (by omega) g (by simpa using hg)

/-- What is answered: a slice of what isn't zero. -/
def DelOut (l : List F3) (g : Nat) (w : World) (e : Ending) (w' : World) : Prop := ∃ v, e = .returned v ∧ FldsAt w' v (l.filter (·.is)) ∧ w.grownBy w' (some g) ∧ ∀ k, v.ownBlock = some k → k = g
theorem fldsAt_of {w : World} {g len cap : Nat} {l k : List F3} (hk : k.length = len) (hlt : g < w.heap.size) (h : ∀ i f, k[i]? = some f → w.cell? ⟨g, i * 3, none⟩ = some (.int .u64 f.tag) ∧ w.cell? ⟨g, i * 3 + 1, none⟩ = some (.bool f.is) ∧ w.cell? ⟨g, i * 3 + 2, none⟩ = some (.string ⟨f.text.toArray⟩)) (e : l = k) :
    FldsAt w (.slice (some ⟨g, 0, none⟩) len cap) l := by
  subst e
  refine ⟨_, len, cap, rfl, hk, fun i hi => ⟨g, 0, rfl, hlt, ?_⟩⟩
  have hi' : i < l.length := by omega
  have := h i l[i] (List.getElem?_eq_getElem hi')
  rw [show l.getD i default = l[i] by simp [List.getD, List.getElem?_eq_getElem hi'], Nat.zero_add]
  exact this

theorem zero_field (w : World) : (zeroValue 64).run Try.prog w = .ok (.agg #[.int .u64 0, .bool false, .string ⟨#[]⟩]) w := by kernel_rfl

set_option maxHeartbeats 8000000 in
theorem deleteFunc_any (l : List F3) (g : Nat) (hl : l.length ≤ 1000) (h0 : 0 < l.length) (w : World) (h : RowAt w g l) :
    Calls Try.prog 57 #[.slice (some ⟨g, 0, none⟩) l.length l.length, (.func (.func 58) #[] #[])] w (DelOut l g w) := by
  have HI := Lib.hid (indexFunc_any l g l.length hl w h)
  have HR := Lib.hid h
  obtain ⟨len, hlen⟩ : ∃ len, len = l.length := ⟨_, rfl⟩
  have HL := Lib.hid hlen
  rw [← hlen] at hl h0 HI
  rw [← hlen]
  clear hlen h
  rcases fidx_split l with ⟨e, hall⟩ | ⟨k, f, e, hj, hf, hz⟩
  · rw [e] at HI
    have HF := Lib.hid (show l.filter (·.is) = l by rw [List.filter_eq_self]; exact hall)
    clear e hall
    go_enter Try.func57, Try.ntmps57
    go_wp2_with (go_at_call 75; refine HI.out.mono ?_; rintro e w1 ⟨rfl, hb1⟩)
    go_ret
    have hr1 := HR.out.below hb1
    exact ⟨_, rfl, fldsAt_of HL.out.symm hr1.lt (fun i f hf => hr1.at hf) HF.out, grown_of_below hb1, fun k hk => by injection hk with hk; exact hk.symm⟩
  · rw [e] at HI
    have hkl : k < len := by rw [HL.out]; exact (List.getElem?_eq_some_iff.1 hf).1
    have hne : ((k : Int) == -1) = false := by rw [beq_eq_false_iff_ne]; omega
    have HS := Lib.hid (Struck.start hj hf hz)
    clear e hj hf hz
    go_enter Try.func57, Try.ntmps57
    go_wp2_with (go_at_call 75; refine HI.out.mono ?_; rintro e w1 ⟨rfl, hb1⟩)
    have R1 := Lib.hid (HR.out.below hb1)
    have G1 := Lib.hid (grown_of_below (g := g) hb1)
    clear hb1 HI HR
    go_loopg [5, 6, 7] len (fun q s5 s6 s7 wx => ∃ (i j : Nat) (dk : List F3), j ≤ len ∧ len ≤ j + q ∧ i < j ∧ s5 = .int .i64 i ∧ s6 = .int .i64 j ∧ Hid (Struck l i j dk) ∧ Hid (RowAt wx g dk) ∧ Hid (w.grownBy wx (some g)))
    case atStart => exact ⟨k, k + 1, l, by omega, by omega, by omega, rfl, by go_num, HS, R1, G1⟩
    case round =>
      obtain ⟨i, j, dk, hjl, hjq, hij, rfl, rfl, HT, HW, HG⟩ := hrel
      by_cases hlt : j < len
      · obtain ⟨q, rfl⟩ : ∃ q, gk = q + 1 := ⟨gk - 1, by omega⟩
        have hjz : (j : Int) < (len : Int) := by omega
        have hiz : (i : Int) < (len : Int) := by omega
        obtain ⟨f, hf⟩ : ∃ f, l[j]? = some f := ⟨_, List.getElem?_eq_getElem (by rw [← HL.out]; exact hlt)⟩
        obtain ⟨c0, c1, c2⟩ := HW.out.at (show dk[j]? = some f by rw [HT.out.tail j (Nat.le_refl _)]; exact hf)
        have HF := Lib.hid hf
        have HN := isNot_any f
        obtain ⟨t, b, s⟩ := f
        simp only at c0 c1 c2 HN
        obtain ⟨S, hS⟩ : ∃ S : ByteArray, S = ⟨s.toArray⟩ := ⟨_, rfl⟩
        rw [← hS] at c2 HN
        have HSS := Lib.hid hS
        obtain ⟨P7, hP7⟩ : ∃ P7, P7 = wr.heap.size := ⟨_, rfl⟩
        obtain ⟨W7, hW7⟩ : ∃ W7, W7 = wr.alloc (.cells #[.int .u64 t, .bool b, .string S] 64) := ⟨_, rfl⟩
        have hrow : W7.heap[P7]? = some (.cells #[.int .u64 t, .bool b, .string S] 64 (0, 0)) := by rw [hW7, hP7]; exact heap_alloc_new wr _
        have hb7 : Below wr.heap.size wr W7 := by rw [hW7]; exact (Below.refl _ _).alloc (Nat.le_refl _) _
        have hg7 : g < P7 := by rw [hP7]; exact HW.out.lt
        have hz7 : P7 < W7.heap.size := (Array.getElem?_eq_some_iff.1 hrow).1
        have RW := Lib.hid (HW.out.below hb7)
        have GW := Lib.hid (grownBy_trans HG.out (grown_of_below hb7))
        have ROW := Lib.hid hrow
        clear hf hS hrow hb7
        go_upto_region 8 with fail
        rw [← hW7, ← hP7]
        have d0 : W7.cell? ⟨P7, 0, none⟩ = some (.int .u64 t) := by simp [World.cell?, ROW.out]
        have d1 : W7.cell? ⟨P7, 1, none⟩ = some (.bool b) := by simp [World.cell?, ROW.out]
        have d2 : W7.cell? ⟨P7, 2, none⟩ = some (.string S) := by simp [World.cell?, ROW.out]
        clear hW7 hP7 c0 c1 c2 HW HG
        cases b with
        | true =>
          rw [show (!true) = false from rfl] at HN
          have HN := Lib.hid HN
          go_upto_region 9 with (go_at_call 58; refine (HN.out _).mono ?_; rintro e w8 ⟨rfl, hb8⟩)
          have hr8 := (hb8.block P7 hz7).trans ROW.out
          have R8 := Lib.hid (RW.out.below hb8)
          have G8 := Lib.hid (grownBy_trans GW.out (grown_of_below (g := g) hb8))
          have e0 : w8.cell? ⟨P7, 0, none⟩ = some (.int .u64 t) := by simp [World.cell?, hr8]
          have e1 : w8.cell? ⟨P7, 1, none⟩ = some (.bool true) := by simp [World.cell?, hr8]
          have e2 : w8.cell? ⟨P7, 2, none⟩ = some (.string S) := by simp [World.cell?, hr8]
          have hidk : i < dk.length := by rw [HT.out.len, ← HL.out]; omega
          obtain ⟨x, hx⟩ : ∃ x, dk[i]? = some x := ⟨_, List.getElem?_eq_getElem hidk⟩
          obtain ⟨k0, k1, k2⟩ := R8.out.at hx
          have f0 := R8.out.free (i * 3)
          have f1 := R8.out.free (i * 3 + 1)
          have f2 := R8.out.free (i * 3 + 2)
          have HT2 := Lib.hid (HT.out.keep HF.out rfl)
          have R9 := Lib.hid (R8.out.set hidk ⟨t, true, s⟩)
          simp only [← HSS.out] at R9
          clear d0 d1 d2 hb8 hr8 hx hidk ROW RW GW
          go_wp2_with fail
          go_roundg q
          case measure => omega
          case rel => exact ⟨i + 1, j + 1, _, by omega, by omega, by omega, by simp, by simp, HT2, R9, Lib.hid (grownBy_trans G8.out grown_three)⟩
        | false =>
          rw [show (!false) = true from rfl] at HN
          have HN := Lib.hid HN
          go_upto_region 9 with (go_at_call 58; refine (HN.out _).mono ?_; rintro e w8 ⟨rfl, hb8⟩)
          have R8 := Lib.hid (RW.out.below hb8)
          have G8 := Lib.hid (grownBy_trans GW.out (grown_of_below (g := g) hb8))
          have HT2 := Lib.hid (HT.out.skip HF.out rfl)
          clear d0 d1 d2 hb8 ROW RW GW
          go_wp2_with fail
          go_roundg q
          case measure => omega
          case rel => exact ⟨i, j + 1, dk, by omega, by omega, by omega, rfl, by simp, HT2, R8, G8⟩
      · obtain rfl : j = len := by omega
        have hjz : ¬ (j : Int) < (j : Int) := by omega
        have hiz : (i : Int) < (j : Int) := by omega
        have hiz2 : (i : Int) ≤ (j : Int) := by omega
        have hdl : dk.length = j := by rw [HT.out.len, ← HL.out]
        have hsome : ∀ k, k < (j - i) * 3 → (wr.cell? ⟨g, i * 3 + k, none⟩).isSome = true := fun k hk => by
          have hr := HW.out
          unfold RowAt at hr
          have hs := rowF_size dk
          rw [hdl] at hs
          simp only [World.cell?, hr]
          rw [Array.getElem?_eq_getElem (by rw [hs]; omega)]
          rfl
        obtain ⟨VS, hVS⟩ : ∃ VS, VS = (Builtin.zeroCells #[.int .u64 0, .bool false, .string ⟨#[]⟩] (j - i)).toList := ⟨_, rfl⟩
        have hcl : ∀ ty, (Builtin.clear_ #[61] ty #[.slice (some ⟨g, i * 3, none⟩) (j - i) (j - i)]).run Try.prog wr = .ok (.tuple #[]) (wr.setCells g (i * 3) VS) := fun ty => by
          rw [hVS]
          exact run_clear_wide wr _ _ ty _ Try.underlying61 zero_field g (i * 3) (j - i) (j - i) (by omega) (by simp [Value.cells, Value.oneCell']) (by simp [Value.cells]) hsome (fun k _ => HW.out.free _)
        have hfin := Lib.hid (show dk.take i = l.filter (·.is) by rw [HT.out.head, List.take_of_length_le (by rw [← HL.out]; exact Nat.le_refl _)])
        have hli : (dk.take i).length = i := by rw [List.length_take]; omega
        have hout := Lib.hid (show DelOut l g w (.returned (.slice (some ⟨g, 0, none⟩) i j)) (wr.setCells g (i * 3) VS) from by
          refine ⟨_, rfl, fldsAt_of (k := dk.take i) hli (Nat.lt_of_lt_of_le HW.out.lt (grown_setCells g VS (i * 3) wr).size) (fun t f hf => ?_) hfin.out.symm, grownBy_trans HG.out (grown_setCells g VS (i * 3) wr), fun k hk => by injection hk with hk; exact hk.symm⟩
          rw [List.getElem?_take] at hf
          split at hf
          · rename_i hti
            rw [World.cell?_setCells_out g VS _ _ _ (fun _ _ => by left; show t * 3 < i * 3; omega), World.cell?_setCells_out g VS _ _ _ (fun _ _ => by left; show t * 3 + 1 < i * 3; omega), World.cell?_setCells_out g VS _ _ _ (fun _ _ => by left; show t * 3 + 2 < i * 3; omega)]
            exact HW.out.at hf
          · cases hf)
        clear hsome hVS hdl hli hfin HT HW HG
        go_wp2_with fail
        go_ret
        exact hout.out
end Go.Proofs.Ytkcbbcabfbkclaa
