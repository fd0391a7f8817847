/-
  Joined: MsgDeleteB, MsgFieldsOf.
-/
import Derived.Test.YtbhlgceicfjncaaSet33
import Derived.Laws.IdiomCopy
import Derived.Test.YtbhlgceicfjncaaSet22
namespace Go.Proofs.Ytbhlgceicfjncaa
open Go.RowKit
set_option linter.unusedVariables false
set_option linter.unnecessarySimpa false
set_option linter.unusedSimpArgs false
set_option maxRecDepth 100000

/-- 'clear(s)', s a slice of n > 0 elements, of however many cells each. -/
theorem run_clear_wide {P : Program} (w : World) (t e ty : TypeId) (z : Value) (ht : P.underlying t = some (.slice e)) (hv : ∀ w, (zeroValue e).run P w = .ok z w) (b o n c : Nat) (hn : 0 < n) (h1 : ∀ v ∈ z.cells.toList, v.oneCell' = true) (hz : 0 < z.cells.size)
    (hc : ∀ j, j < n * z.cells.size → (w.cell? ⟨b, o + j, none⟩).isSome = true) (hf : ∀ j, j < n * z.cells.size → w.frozen? ⟨b, o + j, none⟩ = false) :
    (Builtin.clear_ #[t] ty #[.slice (some ⟨b, o, none⟩) n c]).run P w = .ok (.tuple #[]) (w.setCells b o (Builtin.zeroCells z.cells n).toList) := by
  have hlen : (Builtin.zeroCells z.cells n).toList.length = n * z.cells.size := by simp [Builtin.zeroCells]
  have hone : ∀ v ∈ (Builtin.zeroCells z.cells n).toList, v.oneCell' = true := fun v hv => by
    simp only [Builtin.zeroCells, Array.toList_map, List.mem_map] at hv
    obtain ⟨i, _, rfl⟩ := hv
    have hlt : i % z.cells.size < z.cells.size := Nat.mod_lt _ hz
    rw [getElem!_pos z.cells _ hlt]
    exact h1 _ (by simp)
  have hst := run_storeCells_cells (P := P) b o (Builtin.zeroCells z.cells n).toList 0 w (by rw [hlen]; simpa using hc) (by rw [hlen]; simpa using hf) hone
  simp only [Nat.add_zero] at hst
  obtain ⟨m, rfl⟩ : ∃ m, n = m + 1 := ⟨n - 1, by omega⟩
  simp [Builtin.clear_, run_underlying ht, hv, hst]

theorem grown_setCells (g : Nat) : ∀ (vs : List Value) (o : Nat) (w : World), w.grownBy (w.setCells g o vs) (some g)
  | [], o, w => grownBy_refl _ _
  | v :: r, o, w => grownBy_trans (grown_set (g := g) (k := o) (v := v)) (grown_setCells g r (o + 1) _)

/-- How far the striking has come. -/
structure Struck (l : List F3) (i j : Nat) (dk : List F3) : Prop where
  len : dk.length = l.length
  lt : i < j
  le : j ≤ l.length
  head : dk.take i = (l.take j).filter (·.is)
  tail : ∀ t, j ≤ t → dk[t]? = l[t]?
theorem Struck.start {l : List F3} {k : Nat} (h : ∀ j, j < k → ∀ f, l[j]? = some f → f.is = true) {f : F3} (hf : l[k]? = some f) (hz : f.is = false) : Struck l k (k + 1) l := by
  have hlt : k < l.length := (List.getElem?_eq_some_iff.1 hf).1
  refine ⟨rfl, by omega, by omega, ?_, fun t _ => rfl⟩
  rw [List.take_add_one, hf, List.filter_append]
  have e : (l.take k).filter (·.is) = l.take k := by
    rw [List.filter_eq_self]
    intro x hx
    obtain ⟨j, hj, e⟩ := List.getElem_of_mem hx
    rw [List.length_take] at hj
    rw [List.getElem_take] at e
    exact h j (by omega) x (by rw [List.getElem?_eq_getElem (by omega), e])
  rw [e]
  simp [hz]
theorem Struck.skip {l : List F3} {i j : Nat} {dk : List F3} (h : Struck l i j dk) {f : F3} (hf : l[j]? = some f) (hz : f.is = false) : Struck l i (j + 1) dk := by
  have hlt : j < l.length := (List.getElem?_eq_some_iff.1 hf).1
  refine ⟨h.len, by have := h.lt; omega, by omega, ?_, fun t ht => h.tail t (by omega)⟩
  rw [List.take_add_one, hf, List.filter_append, h.head]
  simp [hz]
theorem Struck.keep {l : List F3} {i j : Nat} {dk : List F3} (h : Struck l i j dk) {f : F3} (hf : l[j]? = some f) (hz : f.is = true) : Struck l (i + 1) (j + 1) (dk.set i f) := by
  have hlt : j < l.length := (List.getElem?_eq_some_iff.1 hf).1
  have hij := h.lt
  have hid : i < dk.length := by rw [h.len]; omega
  refine ⟨by rw [List.length_set]; exact h.len, by omega, by omega, ?_, fun t ht => ?_⟩
  · rw [List.take_add_one (l := l), hf, List.filter_append, ← h.head, List.take_add_one, List.take_set_of_le (Nat.le_refl _), List.getElem?_set_self hid]
    simp [hz]
  · rw [List.getElem?_set_ne (by omega)]
    exact h.tail t (by omega)
theorem fidx_split (l : List F3) : (fidx l = -1 ∧ ∀ f ∈ l, f.is = true) ∨ ∃ (k : Nat) (f : F3), fidx l = (k : Int) ∧ (∀ j, j < k → ∀ f, l[j]? = some f → f.is = true) ∧ l[k]? = some f ∧ f.is = false := by
  induction l with
  | nil => exact .inl ⟨rfl, fun f hf => by cases hf⟩
  | cons x l ih =>
    cases hx : x.is with
    | false => exact .inr ⟨0, x, by unfold fidx; rw [hx]; rfl, fun j hj => by omega, rfl, hx⟩
    | true =>
      rcases ih with ⟨e, h⟩ | ⟨k, f, e, h, hf, hz⟩
      · exact .inl ⟨by unfold fidx; rw [hx, e]; rfl, fun f hf => by rcases List.mem_cons.1 hf with rfl | hf; exact hx; exact h f hf⟩
      · refine .inr ⟨k + 1, f, by unfold fidx; rw [hx, e, if_pos rfl, if_neg (by omega)]; omega, fun j hj g hg => ?_, by simpa using hf, hz⟩
        cases j with
        | zero => simp at hg; subst hg; exact hx
        | succ j => exact h j (by omega) g (by simpa using hg)

/-- What is answered: a slice of what isn't zero. -/
def DelOut (l : List F3) (g : Nat) (w : World) (e : Ending) (w' : World) : Prop := ∃ v, e = .returned v ∧ FldsAt w' v (l.filter (·.is)) ∧ w.grownBy w' (some g) ∧ ∀ k, v.ownBlock = some k → k = g
theorem fldsAt_of {w : World} {g len cap : Nat} {l k : List F3} (hk : k.length = len) (hlt : g < w.heap.size) (h : ∀ i f, k[i]? = some f → w.cell? ⟨g, i * 3, none⟩ = some (.int .u64 f.tag) ∧ w.cell? ⟨g, i * 3 + 1, none⟩ = some (.bool f.is) ∧ w.cell? ⟨g, i * 3 + 2, none⟩ = some (.string ⟨f.text.toArray⟩)) (e : l = k) :
    FldsAt w (.slice (some ⟨g, 0, none⟩) len cap) l := by
  subst e
  refine ⟨_, len, cap, rfl, hk, fun i hi => ⟨g, 0, rfl, hlt, ?_⟩⟩
  have hi' : i < l.length := by omega
  have := h i l[i] (List.getElem?_eq_getElem hi')
  rw [show l.getD i default = l[i] by simp [List.getD, List.getElem?_eq_getElem hi'], Nat.zero_add]
  exact this

theorem zero_field (w : World) : (zeroValue 106).run Try.prog w = .ok (.agg #[.int .u64 0, .bool false, .string ⟨#[]⟩]) w := by kernel_rfl

set_option maxHeartbeats 8000000 in
theorem deleteFunc_any (l : List F3) (g : Nat) (hl : l.length ≤ 1000) (h0 : 0 < l.length) (w : World) (h : RowAtM w g l) :
    Calls Try.prog 75 #[.slice (some ⟨g, 0, none⟩) l.length l.length, (.func (.func 76) #[] #[])] w (DelOut l g w) := by
  have HI := Lib.hid (indexFunc_any l g l.length hl w h)
  have HR := Lib.hid h
  obtain ⟨len, hlen⟩ : ∃ len, len = l.length := ⟨_, rfl⟩
  have HL := Lib.hid hlen
  rw [← hlen] at hl h0 HI
  rw [← hlen]
  clear hlen h
  rcases fidx_split l with ⟨e, hall⟩ | ⟨k, f, e, hj, hf, hz⟩
  · rw [e] at HI
    have HF := Lib.hid (show l.filter (·.is) = l by rw [List.filter_eq_self]; exact hall)
    clear e hall
    go_enter Try.func75, Try.ntmps75
    go_wp2_with (go_at_call 100; refine HI.out.mono ?_; rintro e w1 ⟨rfl, hb1⟩)
    go_ret
    have hr1 := HR.out.below hb1
    exact ⟨_, rfl, fldsAt_of HL.out.symm hr1.lt (fun i f hf => hr1.at hf) HF.out, grown_of_belowM hb1, fun k hk => by injection hk with hk; exact hk.symm⟩
  · rw [e] at HI
    have hkl : k < len := by rw [HL.out]; exact (List.getElem?_eq_some_iff.1 hf).1
    have hne : ((k : Int) == -1) = false := by rw [beq_eq_false_iff_ne]; omega
    have HS := Lib.hid (Struck.start hj hf hz)
    clear e hj hf hz
    go_enter Try.func75, Try.ntmps75
    go_wp2_with (go_at_call 100; refine HI.out.mono ?_; rintro e w1 ⟨rfl, hb1⟩)
    have R1 := Lib.hid (HR.out.below hb1)
    have G1 := Lib.hid (grown_of_belowM (g := g) hb1)
    clear hb1 HI HR
    go_loopg [5, 6, 7] len (fun q s5 s6 s7 wx => ∃ (i j : Nat) (dk : List F3), j ≤ len ∧ len ≤ j + q ∧ i < j ∧ s5 = .int .i64 i ∧ s6 = .int .i64 j ∧ Hid (Struck l i j dk) ∧ Hid (RowAtM wx g dk) ∧ Hid (w.grownBy wx (some g)))
    case atStart => exact ⟨k, k + 1, l, by omega, by omega, by omega, rfl, by go_num, HS, R1, G1⟩
    case round =>
      obtain ⟨i, j, dk, hjl, hjq, hij, rfl, rfl, HT, HW, HG⟩ := hrel
      by_cases hlt : j < len
      · obtain ⟨q, rfl⟩ : ∃ q, gk = q + 1 := ⟨gk - 1, by omega⟩
        have hjz : (j : Int) < (len : Int) := by omega
        have hiz : (i : Int) < (len : Int) := by omega
        obtain ⟨f, hf⟩ : ∃ f, l[j]? = some f := ⟨_, List.getElem?_eq_getElem (by rw [← HL.out]; exact hlt)⟩
        obtain ⟨c0, c1, c2⟩ := HW.out.at (show dk[j]? = some f by rw [HT.out.tail j (Nat.le_refl _)]; exact hf)
        have HF := Lib.hid hf
        have HN := isNot_any f
        obtain ⟨t, b, s⟩ := f
        simp only at c0 c1 c2 HN
        obtain ⟨S, hS⟩ : ∃ S : ByteArray, S = ⟨s.toArray⟩ := ⟨_, rfl⟩
        rw [← hS] at c2 HN
        have HSS := Lib.hid hS
        obtain ⟨P7, hP7⟩ : ∃ P7, P7 = wr.heap.size := ⟨_, rfl⟩
        obtain ⟨W7, hW7⟩ : ∃ W7, W7 = wr.alloc (.cells #[.int .u64 t, .bool b, .string S] 106) := ⟨_, rfl⟩
        have hrow : W7.heap[P7]? = some (.cells #[.int .u64 t, .bool b, .string S] 106 (0, 0)) := by rw [hW7, hP7]; exact heap_alloc_new wr _
        have hb7 : Below wr.heap.size wr W7 := by rw [hW7]; exact (Below.refl _ _).alloc (Nat.le_refl _) _
        have hg7 : g < P7 := by rw [hP7]; exact HW.out.lt
        have hz7 : P7 < W7.heap.size := (Array.getElem?_eq_some_iff.1 hrow).1
        have RW := Lib.hid (HW.out.below hb7)
        have GW := Lib.hid (grownBy_trans HG.out (grown_of_belowM hb7))
        have ROW := Lib.hid hrow
        clear hf hS hrow hb7
        go_upto_region 8 with fail
        rw [← hW7, ← hP7]
        have d0 : W7.cell? ⟨P7, 0, none⟩ = some (.int .u64 t) := by simp [World.cell?, ROW.out]
        have d1 : W7.cell? ⟨P7, 1, none⟩ = some (.bool b) := by simp [World.cell?, ROW.out]
        have d2 : W7.cell? ⟨P7, 2, none⟩ = some (.string S) := by simp [World.cell?, ROW.out]
        clear hW7 hP7 c0 c1 c2 HW HG
        cases b with
        | true =>
          rw [show (!true) = false from rfl] at HN
          have HN := Lib.hid HN
          go_upto_region 9 with (go_at_call 76; refine (HN.out _).mono ?_; rintro e w8 ⟨rfl, hb8⟩)
          have hr8 := (hb8.block P7 hz7).trans ROW.out
          have R8 := Lib.hid (RW.out.below hb8)
          have G8 := Lib.hid (grownBy_trans GW.out (grown_of_belowM (g := g) hb8))
          have e0 : w8.cell? ⟨P7, 0, none⟩ = some (.int .u64 t) := by simp [World.cell?, hr8]
          have e1 : w8.cell? ⟨P7, 1, none⟩ = some (.bool true) := by simp [World.cell?, hr8]
          have e2 : w8.cell? ⟨P7, 2, none⟩ = some (.string S) := by simp [World.cell?, hr8]
          have hidk : i < dk.length := by rw [HT.out.len, ← HL.out]; omega
          obtain ⟨x, hx⟩ : ∃ x, dk[i]? = some x := ⟨_, List.getElem?_eq_getElem hidk⟩
          obtain ⟨k0, k1, k2⟩ := R8.out.at hx
          have f0 := R8.out.free (i * 3)
          have f1 := R8.out.free (i * 3 + 1)
          have f2 := R8.out.free (i * 3 + 2)
          have HT2 := Lib.hid (HT.out.keep HF.out rfl)
          have R9 := Lib.hid (R8.out.set hidk ⟨t, true, s⟩)
          simp only [← HSS.out] at R9
          clear d0 d1 d2 hb8 hr8 hx hidk ROW RW GW
          go_wp2_with fail
          go_roundg q
          case measure => omega
          case rel => exact ⟨i + 1, j + 1, _, by omega, by omega, by omega, by simp, by simp, HT2, R9, Lib.hid (grownBy_trans G8.out grown_three)⟩
        | false =>
          rw [show (!false) = true from rfl] at HN
          have HN := Lib.hid HN
          go_upto_region 9 with (go_at_call 76; refine (HN.out _).mono ?_; rintro e w8 ⟨rfl, hb8⟩)
          have R8 := Lib.hid (RW.out.below hb8)
          have G8 := Lib.hid (grownBy_trans GW.out (grown_of_belowM (g := g) hb8))
          have HT2 := Lib.hid (HT.out.skip HF.out rfl)
          clear d0 d1 d2 hb8 ROW RW GW
          go_wp2_with fail
          go_roundg q
          case measure => omega
          case rel => exact ⟨i, j + 1, dk, by omega, by omega, by omega, rfl, by simp, HT2, R8, G8⟩
      · obtain rfl : j = len := by omega
        have hjz : ¬ (j : Int) < (j : Int) := by omega
        have hiz : (i : Int) < (j : Int) := by omega
        have hiz2 : (i : Int) ≤ (j : Int) := by omega
        have hdl : dk.length = j := by rw [HT.out.len, ← HL.out]
        have hsome : ∀ k, k < (j - i) * 3 → (wr.cell? ⟨g, i * 3 + k, none⟩).isSome = true := fun k hk => by
          have hr := HW.out
          unfold RowAtM at hr
          have hs := rowF_size dk
          rw [hdl] at hs
          simp only [World.cell?, hr]
          rw [Array.getElem?_eq_getElem (by rw [hs]; omega)]
          rfl
        obtain ⟨VS, hVS⟩ : ∃ VS, VS = (Builtin.zeroCells #[.int .u64 0, .bool false, .string ⟨#[]⟩] (j - i)).toList := ⟨_, rfl⟩
        have hcl : ∀ ty, (Builtin.clear_ #[103] ty #[.slice (some ⟨g, i * 3, none⟩) (j - i) (j - i)]).run Try.prog wr = .ok (.tuple #[]) (wr.setCells g (i * 3) VS) := fun ty => by
          rw [hVS]
          exact run_clear_wide wr _ _ ty _ Try.underlying103 zero_field g (i * 3) (j - i) (j - i) (by omega) (by simp [Value.cells, Value.oneCell']) (by simp [Value.cells]) hsome (fun k _ => HW.out.free _)
        have hfin := Lib.hid (show dk.take i = l.filter (·.is) by rw [HT.out.head, List.take_of_length_le (by rw [← HL.out]; exact Nat.le_refl _)])
        have hli : (dk.take i).length = i := by rw [List.length_take]; omega
        have hout := Lib.hid (show DelOut l g w (.returned (.slice (some ⟨g, 0, none⟩) i j)) (wr.setCells g (i * 3) VS) from by
          refine ⟨_, rfl, fldsAt_of (k := dk.take i) hli (Nat.lt_of_lt_of_le HW.out.lt (grown_setCells g VS (i * 3) wr).size) (fun t f hf => ?_) hfin.out.symm, grownBy_trans HG.out (grown_setCells g VS (i * 3) wr), fun k hk => by injection hk with hk; exact hk.symm⟩
          rw [List.getElem?_take] at hf
          split at hf
          · rename_i hti
            rw [World.cell?_setCells_out g VS _ _ _ (fun _ _ => by left; show t * 3 < i * 3; omega), World.cell?_setCells_out g VS _ _ _ (fun _ _ => by left; show t * 3 + 1 < i * 3; omega), World.cell?_setCells_out g VS _ _ _ (fun _ _ => by left; show t * 3 + 2 < i * 3; omega)]
            exact HW.out.at hf
          · cases hf)
        clear hsome hVS hdl hli hfin HT HW HG
        go_wp2_with fail
        go_ret
        exact hout.out
end Go.Proofs.Ytbhlgceicfjncaa

namespace Go.Proofs.Ytbhlgceicfjncaa
open Go.RowKit
set_option linter.unusedVariables false
set_option linter.unnecessarySimpa false
set_option linter.unusedSimpArgs false
set_option maxRecDepth 100000

/-! ### Whether a field isn't zero, as the program tells it -/
theorem isT_num {n : Int} (h : 0 ≤ n) : (n != 0) = (numF n.toNat).isSome := by
  rw [numF_is, Bool.eq_iff_iff, bne_iff_ne, decide_eq_true_eq]
  omega
theorem isT_nat (n : Nat) : ((n : Int) != 0) = (numF n).isSome := by
  rw [numF_is, Bool.eq_iff_iff, bne_iff_ne, decide_eq_true_eq]
  omega
theorem toList_empty (s : ByteArray) : s.toList.isEmpty = decide (s.size = 0) := by
  rw [Bool.eq_iff_iff, List.isEmpty_iff, decide_eq_true_eq, Lib.toList_data, Lib.size_eq, List.length_eq_zero_iff]
theorem isT_3 (m : Mg) : (!(m.node == 0 && m.life == 0 && m.seq == 0)) = isT m 3 := by
  unfold isT
  rw [fld_3]
  unfold txnZero
  cases m.node == 0 && m.life == 0 && m.seq == 0 <;> rfl
theorem isT_6 (m : Mg) : (!m.key.toList.isEmpty) = isT m 6 := by
  unfold isT
  rw [fld_6, toList_empty]
  by_cases h : m.key.size = 0 <;> simp [h]
theorem isT_7 (m : Mg) : m.found = isT m 7 := by
  unfold isT
  rw [fld_7]
  cases m.found <;> rfl
theorem isT_8 (m : Mg) : (!verZeroM m) = isT m 8 := by
  unfold isT
  rw [fld_8]
  cases verZeroM m <;> rfl
theorem isT_9 (m : Mg) : decide (0 < m.ws.length) = isT m 9 := by
  unfold isT
  rw [fld_9]
  by_cases h : m.ws.length = 0
  · rw [if_pos h, h]; rfl
  · rw [if_neg h, decide_eq_true (by omega)]; rfl
theorem isT_10 (m : Mg) : (!m.note.toList.isEmpty) = isT m 10 := by
  unfold isT
  rw [fld_10, toList_empty]
  by_cases h : m.note.size = 0 <;> simp [h]
theorem txn_if (a b c : Int) (w : World) : (if a = 0 then (if b = 0 then (if c = 0 then Result.ok (Next.value (Value.bool false)) w else Result.ok (Next.value (Value.bool true)) w) else Result.ok (Next.value (Value.bool true)) w) else Result.ok (Next.value (Value.bool true)) w)
    = Result.ok (Next.value (Value.bool (!(a == 0 && b == 0 && c == 0)))) w := by
  by_cases h1 : a = 0 <;> by_cases h2 : b = 0 <;> by_cases h3 : c = 0 <;> simp [h1, h2, h3]
theorem ver_if (m : Mg) (w : World) : (if m.time = 0 then (if m.gone = true then Result.ok (Next.value (Value.bool true)) w else (if m.val.toList = [] then Result.ok (Next.value (Value.bool false)) w else Result.ok (Next.value (Value.bool true)) w)) else Result.ok (Next.value (Value.bool true)) w)
    = Result.ok (Next.value (Value.bool (!verZeroM m))) w := by
  have he : m.val.toList = [] ↔ m.val.size = 0 := by rw [Lib.toList_data, Lib.size_eq, List.length_eq_zero_iff]
  unfold verZeroM
  by_cases h1 : m.time = 0 <;> by_cases h2 : m.gone = true <;> by_cases h3 : m.val.size = 0 <;> simp [h1, h2, h3, he]

/-! ### New slices of numbers -/
theorem ints_new (w : World) (ns : List Nat) (c : Nat) (cs : Array Value) (hc : cs = (ns.map fun (n : Nat) => Value.int .i64 (n : Int)).toArray) : IntsAt (w.alloc (.cells cs 3)) (.slice (some ⟨w.heap.size, 0, none⟩) ns.length c) ns := by
  refine ⟨w.heap.size, c, rfl, by simp, fun i hi => ?_⟩
  have hr := heap_alloc_new w (.cells cs 3)
  simp only [World.cell?, hr]
  rw [hc]
  simp [List.getD, List.getElem?_eq_getElem hi]
theorem ints_one {n : Int} (h : 0 ≤ n) (w : World) : IntsAt (w.alloc (.cells #[.int .i64 n] 3)) (.slice (some ⟨w.heap.size, 0, none⟩) 1 1) [n.toNat] :=
  ints_new w [n.toNat] 1 _ (by simp [Int.toNat_of_nonneg h])
theorem ints_three {a b c : Int} (h1 : 0 ≤ a) (h2 : 0 ≤ b) (h3 : 0 ≤ c) (w : World) : IntsAt (w.alloc (.cells #[.int .i64 a, .int .i64 b, .int .i64 c] 3)) (.slice (some ⟨w.heap.size, 0, none⟩) 3 3) [a.toNat, b.toNat, c.toNat] :=
  ints_new w [a.toNat, b.toNat, c.toNat] 3 _ (by simp [Int.toNat_of_nonneg h1, Int.toNat_of_nonneg h2, Int.toNat_of_nonneg h3])
theorem numbers_one (n : Nat) (hn : n ≤ 2147483647) (v : Value) (w : World) (hv : IntsAt w v [n]) : Calls Try.prog 72 #[v] w fun e w' => e = .returned (.string ⟨(ub n).toArray⟩) ∧ Below w.heap.size w w' := by
  have := numbers_any [n] (by simpa using hn) (by simp) v w hv
  simpa using this
theorem numbers_three (a b c : Nat) (h1 : a ≤ 2147483647) (h2 : b ≤ 2147483647) (h3 : c ≤ 2147483647) (v : Value) (w : World) (hv : IntsAt w v [a, b, c]) :
    Calls Try.prog 72 #[v] w fun e w' => e = .returned (.string ⟨(ub a ++ ub b ++ ub c).toArray⟩) ∧ Below w.heap.size w w' := by
  have := numbers_any [a, b, c] (by simpa using ⟨h1, h2, h3⟩) (by simp) v w hv
  simpa [List.append_assoc] using this

/-- What each slot holds. -/
def psi (m : Mg) (sl : Value) (G B : Nat) : Nat → Value → World → Prop
  | 1 => fun v _ => v = .pointer (some ⟨G, 0, none⟩)
  | 4 => fun v _ => v = .pointer (some ⟨G, 1, none⟩)
  | 5 => fun v _ => v = .int .i64 m.frm
  | 6 => fun v _ => v = .bool (isT m 1)
  | 7 => fun v _ => v = .pointer (some ⟨G, 1, none⟩)
  | 8 => fun v _ => v = .int .i64 m.frm
  | 9 => fun v w => IntsAt w v [m.frm.toNat]
  | 10 => fun v _ => v = .string ⟨(txt m 1).toArray⟩
  | 11 => fun v _ => v = .agg #[.int .u64 1, .bool (isT m 1), .string ⟨(txt m 1).toArray⟩]
  | 12 => fun v _ => v = .pointer (some ⟨G, 2, none⟩)
  | 13 => fun v _ => v = .int .i64 m.to_
  | 14 => fun v _ => v = .bool (isT m 2)
  | 15 => fun v _ => v = .pointer (some ⟨G, 2, none⟩)
  | 16 => fun v _ => v = .int .i64 m.to_
  | 17 => fun v w => IntsAt w v [m.to_.toNat]
  | 18 => fun v _ => v = .string ⟨(txt m 2).toArray⟩
  | 19 => fun v _ => v = .agg #[.int .u64 2, .bool (isT m 2), .string ⟨(txt m 2).toArray⟩]
  | 20 => fun v _ => v = .pointer (some ⟨G, 3, none⟩)
  | 21 => fun v _ => v = .agg #[.int .i64 m.node, .int .i64 m.life, .int .i64 m.seq]
  | 22 => fun v _ => v = .agg #[.int .i64 0, .int .i64 0, .int .i64 0]
  | 23 => fun v _ => v = .bool (isT m 3)
  | 24 => fun v _ => v = .pointer (some ⟨G, 3, none⟩)
  | 25 => fun v _ => v = .pointer (some ⟨G, 3, none⟩)
  | 26 => fun v _ => v = .int .i64 m.node
  | 27 => fun v _ => v = .pointer (some ⟨G, 3, none⟩)
  | 28 => fun v _ => v = .pointer (some ⟨G, 4, none⟩)
  | 29 => fun v _ => v = .int .i64 m.life
  | 30 => fun v _ => v = .pointer (some ⟨G, 3, none⟩)
  | 31 => fun v _ => v = .pointer (some ⟨G, 5, none⟩)
  | 32 => fun v _ => v = .int .i64 m.seq
  | 33 => fun v w => IntsAt w v [m.node.toNat, m.life.toNat, m.seq.toNat]
  | 34 => fun v _ => v = .string ⟨(txt m 3).toArray⟩
  | 35 => fun v _ => v = .agg #[.int .u64 3, .bool (isT m 3), .string ⟨(txt m 3).toArray⟩]
  | 36 => fun v _ => v = .pointer (some ⟨G, 6, none⟩)
  | 37 => fun v _ => v = .int .u64 m.a
  | 38 => fun v _ => v = .bool (isT m 4)
  | 39 => fun v _ => v = .pointer (some ⟨G, 6, none⟩)
  | 40 => fun v _ => v = .int .u64 m.a
  | 41 => fun v _ => v = .string ⟨(txt m 4).toArray⟩
  | 42 => fun v _ => v = .agg #[.int .u64 4, .bool (isT m 4), .string ⟨(txt m 4).toArray⟩]
  | 43 => fun v _ => v = .pointer (some ⟨G, 7, none⟩)
  | 44 => fun v _ => v = .int .u64 m.b
  | 45 => fun v _ => v = .bool (isT m 5)
  | 46 => fun v _ => v = .pointer (some ⟨G, 7, none⟩)
  | 47 => fun v _ => v = .int .u64 m.b
  | 48 => fun v _ => v = .string ⟨(txt m 5).toArray⟩
  | 49 => fun v _ => v = .agg #[.int .u64 5, .bool (isT m 5), .string ⟨(txt m 5).toArray⟩]
  | 50 => fun v _ => v = .pointer (some ⟨G, 8, none⟩)
  | 51 => fun v _ => v = .string m.key
  | 52 => fun v _ => v = .bool (isT m 6)
  | 53 => fun v _ => v = .pointer (some ⟨G, 8, none⟩)
  | 54 => fun v _ => v = .string m.key
  | 55 => fun v _ => v = .agg #[.int .u64 6, .bool (isT m 6), .string ⟨(txt m 6).toArray⟩]
  | 56 => fun v _ => v = .pointer (some ⟨G, 9, none⟩)
  | 57 => fun v _ => v = .bool m.found
  | 58 => fun v _ => v = .agg #[.int .u64 7, .bool (isT m 7), .string ⟨(txt m 7).toArray⟩]
  | 59 => fun v _ => v = .pointer (some ⟨G, 10, none⟩)
  | 60 => fun v _ => v = .agg #[.int .u64 m.time, .bool m.gone, .string m.val]
  | 61 => fun v _ => v = .agg #[.int .u64 0, .bool false, .string ⟨#[]⟩]
  | 62 => fun v _ => v = .bool (isT m 8)
  | 63 => fun v _ => v = .pointer (some ⟨G, 10, none⟩)
  | 64 => fun v _ => v = .agg #[.int .u64 m.time, .bool m.gone, .string m.val]
  | 65 => fun v _ => v = .string ⟨(txt m 8).toArray⟩
  | 66 => fun v _ => v = .agg #[.int .u64 8, .bool (isT m 8), .string ⟨(txt m 8).toArray⟩]
  | 67 => fun v _ => v = .pointer (some ⟨G, 13, none⟩)
  | 68 => fun v _ => v = sl
  | 69 => fun v _ => v = .int .i64 (m.ws.length : Nat)
  | 70 => fun v _ => v = .bool (isT m 9)
  | 71 => fun v _ => v = .pointer (some ⟨G, 13, none⟩)
  | 72 => fun v _ => v = sl
  | 73 => fun v _ => v = .string ⟨(txt m 9).toArray⟩
  | 74 => fun v _ => v = .agg #[.int .u64 9, .bool (isT m 9), .string ⟨(txt m 9).toArray⟩]
  | 75 => fun v _ => v = .pointer (some ⟨G, 14, none⟩)
  | 76 => fun v _ => v = .string m.note
  | 77 => fun v _ => v = .bool (isT m 10)
  | 78 => fun v _ => v = .pointer (some ⟨G, 14, none⟩)
  | 79 => fun v _ => v = .string m.note
  | 80 => fun v _ => v = .agg #[.int .u64 10, .bool (isT m 10), .string ⟨(txt m 10).toArray⟩]
  | 81 => fun v _ => v = .pointer (some ⟨G, 15, none⟩)
  | 82 => fun v _ => v = .int .u64 m.hint
  | 83 => fun v _ => v = .bool (isT m 11)
  | 84 => fun v _ => v = .pointer (some ⟨G, 15, none⟩)
  | 85 => fun v _ => v = .int .u64 m.hint
  | 86 => fun v _ => v = .string ⟨(txt m 11).toArray⟩
  | 87 => fun v _ => v = .agg #[.int .u64 11, .bool (isT m 11), .string ⟨(txt m 11).toArray⟩]
  | 88 => fun v _ => v = .pointer (some ⟨G, 16, none⟩)
  | 89 => fun v _ => v = .int .u64 m.must
  | 90 => fun v _ => v = .bool (isT m 12)
  | 91 => fun v _ => v = .pointer (some ⟨G, 16, none⟩)
  | 92 => fun v _ => v = .int .u64 m.must
  | 93 => fun v _ => v = .string ⟨(txt m 12).toArray⟩
  | 94 => fun v _ => v = .agg #[.int .u64 12, .bool (isT m 12), .string ⟨(txt m 12).toArray⟩]
  | 95 => fun v w => ∃ g, B ≤ g ∧ v = .slice (some ⟨g, 0, none⟩) 12 12 ∧ RowAtM w g (all12 m)
  | 3 => fun v w => ∃ g, B ≤ g ∧ v = .slice (some ⟨g, 0, none⟩) 12 12 ∧ RowAtM w g (all12 m)
  | _ => fun _ _ => True

theorem psi_stable (m : Mg) (sl : Value) (G B : Nat) (t : Nat) (v : Value) (w w' : World) (h : psi m sl G B t v w) (hb : Below w.heap.size w w') : psi m sl G B t v w' := by
  unfold psi at *
  split at h
  all_goals first
    | exact h
    | exact IntsAt.below h hb
    | (obtain ⟨g, h1, h2, h3⟩ := h; exact ⟨g, h1, h2, h3.below hb⟩)

set_option maxHeartbeats 8000000 in
theorem fieldsOf_any (m : Mg) (sl : Value) (hn : nums31 m = true) (hf : m.fits) (hw : m.few) (w : World) (hws : WsAt w sl m.ws) :
    Calls Try.prog 47 #[.agg (m.cells sl)] w (FldsOut m w) := by
  unfold nums31 in31 at hn
  simp only [Bool.and_eq_true, decide_eq_true_eq] at hn
  obtain ⟨⟨⟨⟨n1, n2⟩, n3⟩, n4⟩, n5⟩ := hn
  obtain ⟨p, len, cap, rfl, hlen, hcells⟩ := hws
  have HWS := Lib.hid (show WsAt w (.slice p len cap) m.ws from ⟨p, len, cap, rfl, hlen, hcells⟩)
  have HLEN := Lib.hid hlen
  obtain ⟨M, hM⟩ : ∃ M, M = m := ⟨_, rfl⟩
  have t3 := isT_3 m
  have t6 := isT_6 m
  have t7 := isT_7 m
  have t8 := isT_8 m
  have v8 := ver_if m
  have t9 := isT_9 m
  have t10 := isT_10 m
  have hfit := hf
  have hfew := hw
  obtain ⟨kind, frm, to_, node, life, seq, a, b, key, found, time, gone, val, ws, note, hint, must⟩ := m
  simp only at n1 n2 n3 n4 n5 t3 t6 t7 t8 v8 t9 t10 HWS HLEN
  have T1 := Lib.hid (isT_num n1.1)
  have T2 := Lib.hid (isT_num n2.1)
  have T3 := Lib.hid t3
  have T4 := Lib.hid (isT_nat a)
  have T5 := Lib.hid (isT_nat b)
  have T6 := Lib.hid t6
  have T7 := Lib.hid t7
  have T8 := Lib.hid t8
  have V8 := Lib.hid v8
  have T9 := Lib.hid t9
  have T10 := Lib.hid t10
  have T11 := Lib.hid (isT_nat hint)
  have T12 := Lib.hid (isT_nat must)
  have B1 := Lib.hid n1
  have B2 := Lib.hid n2
  have B3 := Lib.hid n3
  have B4 := Lib.hid n4
  have B5 := Lib.hid n5
  have UA := Lib.hid (uint_any a hfit.a)
  have UB := Lib.hid (uint_any b hfit.b)
  have UH := Lib.hid (uint_any hint hfit.hint)
  have UM := Lib.hid (uint_any must hfit.must)
  have UV := Lib.hid (version_any time gone val hfit.time hfew.val)
  have UW := Lib.hid (fun W => writes_any ws (.slice p len cap) hfew.ws hfew.all W)
  clear n1 n2 n3 n4 n5 t3 t6 t7 t8 v8 t9 t10 hf hw hlen hcells hfit hfew hM M
  show Calls _ _ #[.agg #[.int .i64 kind, .int .i64 frm, .int .i64 to_, .int .i64 node, .int .i64 life, .int .i64 seq, .int .u64 a, .int .u64 b, .string key, .bool found, .int .u64 time, .bool gone, .string val, .slice p len cap, .string note, .int .u64 hint, .int .u64 must]] w _
  go_enter Try.func47, Try.ntmps47
  go_upto_region 1 with fail
  obtain ⟨W1, hW1⟩ : ∃ W1, W1 = (w.alloc (.cells #[.int .i64 kind, .int .i64 frm, .int .i64 to_, .int .i64 node, .int .i64 life, .int .i64 seq, .int .u64 a, .int .u64 b, .string key, .bool found, .int .u64 time, .bool gone, .string val, .slice p len cap, .string note, .int .u64 hint, .int .u64 must] 38)) := ⟨_, rfl⟩
  obtain ⟨G, hG⟩ : ∃ G, G = w.heap.size := ⟨_, rfl⟩
  have hrow : W1.heap[G]? = some (.cells #[.int .i64 kind, .int .i64 frm, .int .i64 to_, .int .i64 node, .int .i64 life, .int .i64 seq, .int .u64 a, .int .u64 b, .string key, .bool found, .int .u64 time, .bool gone, .string val, .slice p len cap, .string note, .int .u64 hint, .int .u64 must] 38 (0, 0)) := by rw [hW1, hG]; exact heap_alloc_new w _
  have HB1 := Lib.hid (show Below w.heap.size w W1 by rw [hW1]; exact (Below.refl _ _).alloc (Nat.le_refl _) _)
  rw [← hW1, ← hG]
  have HC := Lib.hid (fun w' (hb : Below W1.heap.size W1 w') => row17 ((hb.block G (Array.getElem?_eq_some_iff.1 hrow).1).trans hrow))
  have HWS1 := Lib.hid (fun w' (hb : Below W1.heap.size W1 w') => HWS.out.below (HB1.out.trans (hb.mono HB1.out.size)))
  clear hrow hW1 hG HWS
  go_cut [3] (fun s3 w' => Hid (∃ g, w.heap.size ≤ g ∧ s3 = .slice (some ⟨g, 0, none⟩) 12 12 ∧ RowAtM w' g (all12 ⟨kind, frm, to_, node, life, seq, a, b, key, found, time, gone, val, ws, note, hint, must⟩)) ∧ Hid (Below w.heap.size w w'))
  case rest =>
    obtain ⟨hs3, hbc⟩ := hcut
    obtain ⟨g, hg, rfl, hr⟩ := hs3.out
    have HD := Lib.hid (deleteFunc_any (all12 ⟨kind, frm, to_, node, life, seq, a, b, key, found, time, gone, val, ws, note, hint, must⟩) g (by show 12 ≤ 1000; omega) (by show 0 < 12; omega) wc hr)
    have HG := Lib.hid hg
    clear hs3 hr hg HC HWS1 HB1
    go_wp2_with (go_at_call 75; refine HD.out.mono ?_; rintro e w2 ⟨v, rfl, hf2, hg2, hv2⟩)
    go_ret
    exact ⟨_, rfl, hf2, hbc.out.grown hg2 hbc.out.size (fun j hj => by injection hj with hj; have := HG.out; omega), fun k hk => by rw [hv2 k hk]; exact HG.out⟩
  case first =>
    refine wp_region_flow [0, 1, 2, 96, 97] [3] (psi ⟨kind, frm, to_, node, life, seq, a, b, key, found, time, gone, val, ws, note, hint, must⟩ (.slice p len cap) G w.heap.size) 98 (by kernel_rfl) (by kernel_rfl) rfl (by kernel_rfl) (by kernel_rfl) (psi_stable _ _ _ _) ?_ ?_ ?_
    · intro t ht w' _
      simp only [List.mem_cons, List.not_mem_nil, or_false] at ht
      rcases ht with rfl | rfl | rfl | rfl | rfl <;> first | exact trivial | rfl
    · repeat' (first | exact AllSteps.nil | refine AllSteps.cons ?_ ?_)
      all_goals
        intro a' w' K Q hB hP hK
        repeat (obtain ⟨h, hP⟩ := hP; conv at h => whnf)
        have hc := HC.out _ hB
        have hW := HWS1.out _ hB
        have hBz := Nat.le_trans HB1.out.size hB.size
        have HW := Lib.hid hW
        have HZ := Lib.hid hBz
        clear HC HWS1 HB1 hW hBz
        try go_simp
        first
          | (refine hK _ _ (Below.refl _ _) ?_; intro d hd; cases hd; first | rfl | exact h | exact congrArg (fun n : Nat => Value.int .i64 (n : Int)) HLEN.out.symm | exact congrArg Value.bool T1.out | exact congrArg Value.bool T2.out | exact congrArg Value.bool T4.out | exact congrArg Value.bool T5.out | exact congrArg Value.bool T6.out | exact congrArg Value.bool T9.out | exact congrArg Value.bool T10.out | exact congrArg Value.bool T11.out | exact congrArg Value.bool T12.out | exact congrArg (fun z => Value.agg #[.int .u64 7, .bool z, .string ⟨#[]⟩]) T7.out)
          | (refine hK _ _ ((Below.refl _ _).alloc (Nat.le_refl _) _) ?_; intro d hd; cases hd; first | exact ints_one B1.out.1 _ | exact ints_one B2.out.1 _ | exact ints_three B3.out.1 B4.out.1 B5.out.1 _ | exact ⟨_, HZ.out, rfl, heap_alloc_new _ _⟩)
          | (go_at_call 50; (with_reducible refine (UA.out _).mono ?_); rintro e w'' ⟨rfl, hb⟩; refine hK _ _ hb ?_; intro d hd; cases hd; rfl)
          | (go_at_call 50; (with_reducible refine (UB.out _).mono ?_); rintro e w'' ⟨rfl, hb⟩; refine hK _ _ hb ?_; intro d hd; cases hd; rfl)
          | (go_at_call 50; (with_reducible refine (UH.out _).mono ?_); rintro e w'' ⟨rfl, hb⟩; refine hK _ _ hb ?_; intro d hd; cases hd; rfl)
          | (go_at_call 50; (with_reducible refine (UM.out _).mono ?_); rintro e w'' ⟨rfl, hb⟩; refine hK _ _ hb ?_; intro d hd; cases hd; rfl)
          | (go_at_call 73; (with_reducible refine (UV.out _).mono ?_); rintro e w'' ⟨rfl, hb⟩; refine hK _ _ hb ?_; intro d hd; cases hd; rfl)
          | (go_at_call 74; (with_reducible refine (UW.out _ HW.out).mono ?_); rintro e w'' ⟨rfl, hb⟩; refine hK _ _ hb ?_; intro d hd; cases hd; rfl)
          | (go_at_call 72; refine (numbers_one frm.toNat (by have := B1.out; omega) _ _ h).mono ?_; rintro e w'' ⟨rfl, hb⟩; refine hK _ _ hb ?_; intro d hd; cases hd; rfl)
          | (go_at_call 72; refine (numbers_one to_.toNat (by have := B2.out; omega) _ _ h).mono ?_; rintro e w'' ⟨rfl, hb⟩; refine hK _ _ hb ?_; intro d hd; cases hd; rfl)
          | (go_at_call 72; refine (numbers_three node.toNat life.toNat seq.toNat (by have := B3.out; omega) (by have := B4.out; omega) (by have := B5.out; omega) _ _ h).mono ?_; rintro e w'' ⟨rfl, hb⟩; refine hK _ _ hb ?_; intro d hd; cases hd; rfl)
          | (rw [txn_if]; refine hK _ _ (Below.refl _ _) ?_; intro d hd; cases hd; exact congrArg Value.bool T3.out)
          | (rw [V8.out]; refine hK _ _ (Below.refl _ _) ?_; intro d hd; cases hd; exact congrArg Value.bool T8.out)
    · intro a' w' hb hsz hdf hold hnew
      have h0 : a'.tmps.getD 0 undef = _ := hold 0 (by simp)
      have h1 : a'.tmps.getD 1 undef = _ := hold 1 (by simp)
      have h2 : a'.tmps.getD 2 undef = _ := hold 2 (by simp)
      have h96 : a'.tmps.getD 96 undef = _ := hold 96 (by simp)
      have h97 : a'.tmps.getD 97 undef = _ := hold 97 (by simp)
      obtain ⟨g, hg, h3, hr⟩ := hnew 3 (by simp)
      have ha := act_eta a' hsz
      simp only [List.range, List.range.loop, List.map, h0, h1, h2, h3, h96, h97, hdf] at ha
      rw [ha]
      clear ha h0 h1 h2 h3 h96 h97 hold hnew
      go_wp2_with fail
      go_meet
      case rel => exact ⟨Lib.hid ⟨g, hg, rfl, hr⟩, Lib.hid (HB1.out.trans (hb.mono HB1.out.size))⟩
end Go.Proofs.Ytbhlgceicfjncaa
