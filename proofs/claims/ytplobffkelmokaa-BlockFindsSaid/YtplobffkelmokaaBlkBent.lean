/-
  BlockBent from what is asked of the program's blocks.
-/
import Derived.Test.YtplobffkelmokaaSet10
import Derived.Test.YtplobffkelmokaaSet11
import Derived.Deep.RegionWith
import Derived.BigRegion
import Derived.Test.YtplobffkelmokaaRegion
namespace Go.Proofs.Ytplobffkelmokaa
open Go.RowKit
set_option linter.unusedVariables false
set_option linter.unnecessarySimpa false
set_option linter.unusedSimpArgs false
set_option maxRecDepth 100000

theorem byteCells_setB (l : List UInt8) (q : Nat) (u : UInt8) : (Lib.byteCells l).set q (.int .u8 (u.toNat : Int)) = Lib.byteCells (l.set q u) := by simp [Lib.byteCells, List.map_set]

/-- What Decode tells of a bent inside. -/
def BentCase (l2 : List UInt8) (y : Nat) (DX : Value → World → Prop) (DK : Value → Prop) : Prop :=
  (∃ es2, rightE es2 = true ∧ OkE es2 ∧ insideB es2 = l2 ∧ (∀ s w, DX s w → ∃ a2 c2, s = .slice a2 es2.length c2 ∧ IsEnts w a2 es2.length c2 es2) ∧ ∀ kv, DK kv → kv = .int .i64 0) ∨
  ((∀ s w, DX s w → ∃ a2 c2, s = .slice a2 0 c2) ∧ (∀ kv, DK kv → ∃ k, kv = .int .i64 k ∧ (k = 2 ∨ k = 3)) ∧ y ≠ 0)
theorem bent_dec (C : BlkC) {l2 : List UInt8} {y : Nat} {es : List En} {Pk S4 : ByteArray} (hu : unp Pk.data.toList = (l2, 0)) (hP : Pk.size ≤ 90000) (hS : S4 = ⟨(sumS Pk).toArray⟩) (hr : rightE es = true) (ho : OkE es) (h0 : y = 0 → l2 = insideB es) :
    ∃ DX DK, (∀ v w w', DX v w → Below w.heap.size w w' → DX v w') ∧ (∀ w, Calls Try.prog 13 #[.agg tab, .string (Pk ++ S4)] w fun e w' => ∃ s kv, e = .returned (.tuple #[s, kv]) ∧ DX s w' ∧ DK kv ∧ Below w.heap.size w w') ∧ BentCase l2 y DX DK := by
  have e : Pk ++ S4 = blkS Pk := c_ba_ext (by rw [hS]; simp [ByteArray.data_append, blkS])
  rw [e]
  by_cases hex : ∃ es2, rightE es2 = true ∧ OkE es2 ∧ insideB es2 = l2
  · obtain ⟨es2, h1, h2, h3⟩ := hex
    refine ⟨fun s w => ∃ a2 c2, s = .slice a2 es2.length c2 ∧ IsEnts w a2 es2.length c2 es2, fun kv => kv = .int .i64 0, ?_, fun w => ?_, .inl ⟨es2, h1, h2, h3, fun s w h => h, fun kv h => h⟩⟩
    · rintro v w w' ⟨a2, c2, rfl, hi⟩ hb
      exact ⟨a2, c2, rfl, hi.below hb⟩
    · refine (C.decYes Pk es2 w hP (by rw [hu, h3]) h1 h2).mono ?_
      rintro e w' ⟨a2, c2, rfl, hi, hb⟩
      exact ⟨_, _, rfl, ⟨a2, c2, rfl, hi⟩, rfl, hb⟩
  · refine ⟨fun s w => ∃ a2 c2, s = .slice a2 0 c2, fun kv => ∃ k, kv = .int .i64 k ∧ (k = 2 ∨ k = 3), fun v w w' h _ => h, fun w => ?_, .inr ⟨fun s w h => h, fun kv h => h, fun h => hex ⟨es, hr, ho, (h0 h).symm⟩⟩⟩
    refine (C.decNo Pk l2 w hP hu hex).mono ?_
    rintro e w' ⟨a2, c2, k, hk, rfl, hb⟩
    exact ⟨_, _, rfl, ⟨a2, c2, rfl⟩, ⟨k, rfl, hk⟩, hb⟩
theorem undrewB {B : Nat} {w w' : World} (h : Below B w.drew w') : Below B w w' := ⟨h.os, h.tape, h.output, h.size, h.block⟩
theorem tab_load {W : World} {g : Nat} (h : W.heap[g]? = some (.cells tab 27 (0, 0))) : (Instr.loadAt 27 (.pointer (some ⟨g, 0, none⟩))).run Try.prog W = .ok (.agg tab) W := by
  simp only [Instr.loadAt, Instr.sureAddr, Sem.run_bind, Sem.run_pure, Result.andThen_ok, run_loadVar_row W g 27 27 tab (0, 0) _ h Try.underlying27 rfl tableSize]

theorem tab_loadVar {W : World} {g : Nat} (h : W.heap[g]? = some (.cells tab 27 (0, 0))) : (loadVar 27 ⟨g, 0, none⟩).run Try.prog W = .ok (.agg tab) W :=
  run_loadVar_row W g 27 27 tab (0, 0) _ h Try.underlying27 rfl tableSize

/-- What the slots of a region hold that sums bytes up and decodes them. -/
def psi7 (g sm : Nat) (Pk S4 : ByteArray) (DX : Value → World → Prop) (DK : Value → Prop) : Nat → Value → World → Prop
  | 7 => fun v _ => v = .pointer (some ⟨g, 0, none⟩)
  | 9 => fun v _ => v = .string Pk
  | 53 => fun v _ => v = .agg tab
  | 54 => fun v _ => v = .string Pk
  | 55 => fun v _ => v = .string Pk
  | 56 => fun v _ => v = .int .u32 sm
  | 57 => fun v _ => v = .int .u64 sm
  | 58 => fun v _ => v = .string S4
  | 59 => fun v _ => v = .string (Pk ++ S4)
  | 60 => fun v w => ∃ s k, v = .tuple #[s, k] ∧ DX s w ∧ DK k
  | 52 => fun v w => ∃ s k, v = .tuple #[s, k] ∧ DX s w ∧ DK k
  | 61 => fun v w => DX v w
  | 62 => fun v _ => DK v
  | 10 => fun v w => DX v w
  | 11 => fun v _ => DK v
  | _ => fun _ _ => True
def psi13 (g sm : Nat) (Pk T4 : ByteArray) (DX : Value → World → Prop) (DK : Value → Prop) : Nat → Value → World → Prop
  | 7 => fun v _ => v = .pointer (some ⟨g, 0, none⟩)
  | 9 => fun v _ => v = .string Pk
  | 83 => fun v _ => v = .agg tab
  | 84 => fun v _ => v = .string Pk
  | 85 => fun v _ => v = .string Pk
  | 86 => fun v _ => v = .int .u32 sm
  | 87 => fun v _ => v = .int .u64 sm
  | 88 => fun v _ => v = .int .u64 ((sm + 1 : Nat) : Int)
  | 89 => fun v _ => v = .string T4
  | 90 => fun v _ => v = .string (Pk ++ T4)
  | 91 => fun v w => ∃ s k, v = .tuple #[s, k] ∧ DX s w ∧ DK k
  | 82 => fun v w => ∃ s k, v = .tuple #[s, k] ∧ DX s w ∧ DK k
  | 92 => fun v w => DX v w
  | 93 => fun v _ => DK v
  | 12 => fun v w => DX v w
  | 13 => fun v _ => DK v
  | _ => fun _ _ => True
theorem psi7_stable (g sm : Nat) (Pk S4 : ByteArray) (DX : Value → World → Prop) (DK : Value → Prop) (h : ∀ v w w', DX v w → Below w.heap.size w w' → DX v w') : ∀ t v w w', psi7 g sm Pk S4 DX DK t v w → Below w.heap.size w w' → psi7 g sm Pk S4 DX DK t v w' := by
  intro t v w w' hp hb
  unfold psi7 at *
  split at hp <;> first
    | exact hp
    | exact h _ _ _ hp hb
    | (obtain ⟨s, k, h1, h2, h3⟩ := hp; exact ⟨s, k, h1, h _ _ _ h2 hb, h3⟩)
theorem psi13_stable (g sm : Nat) (Pk S4 : ByteArray) (DX : Value → World → Prop) (DK : Value → Prop) (h : ∀ v w w', DX v w → Below w.heap.size w w' → DX v w') : ∀ t v w w', psi13 g sm Pk S4 DX DK t v w → Below w.heap.size w w' → psi13 g sm Pk S4 DX DK t v w' := by
  intro t v w w' hp hb
  unfold psi13 at *
  split at hp <;> first
    | exact hp
    | exact h _ _ _ hp hb
    | (obtain ⟨s, k, h1, h2, h3⟩ := hp; exact ⟨s, k, h1, h _ _ _ h2 hb, h3⟩)

set_option maxHeartbeats 2000000 in
theorem bent_no (C : BlkC) (a : Option Addr) (len cap : Nat) (es : List En) (at_ by_ : Int) (w : World) (hz : IsEnts w a len cap es) (h : ¬ FewEnts es 10 ∨ rightE es = false) :
    Calls Try.prog 4 #[.slice a len cap, .int .u16 at_, .int .u8 by_] w fun e w' => e = .returned (.bool true) ∧ Below w.heap.size w w' := by
  have haw := Lib.hid (bawake_any C)
  have HF := Lib.hid (fun w1 (hb : Below w.heap.size w w1) => bfew_any a len cap 10 es w1 (hz.below hb) (by omega))
  have HR := Lib.hid (fun w1 (hb : Below w.heap.size w w1) => bright_any a len cap es w1 (hz.below hb))
  obtain ⟨F, hF⟩ : ∃ F, F = fewB es 10 := ⟨_, rfl⟩
  obtain ⟨R, hR⟩ : ∃ R, R = rightE es := ⟨_, rfl⟩
  rw [← hF] at HF
  rw [← hR] at HR
  have hcs : F = false ∨ (F = true ∧ R = false) := by
    cases F with
    | false => exact .inl rfl
    | true =>
      refine .inr ⟨rfl, ?_⟩
      rcases h with h | h
      · exact absurd (fewB_true.1 hF.symm) h
      · rw [h] at hR; exact hR
  clear hF hR h hz
  rcases hcs with rfl | ⟨rfl, rfl⟩
  · go_enter Try.func4, Try.ntmps4
    go_upto_region 2 with (first
      | (go_at_call 6; refine (haw.out _).mono ?_; rintro e w1 ⟨rfl, hb1⟩; have HB1 := Lib.hid hb1)
      | (go_at_call 7; refine (HF.out _ HB1.out).mono ?_; rintro e w2 ⟨rfl, rfl⟩))
    go_wp2_with (go_at_call 6; refine (haw.out _).mono ?_; rintro e w3 ⟨rfl, hb3⟩; have HB3 := Lib.hid hb3)
    go_ret
    exact ⟨rfl, HB1.out.trans (HB3.out.mono HB1.out.size)⟩
  · go_enter Try.func4, Try.ntmps4
    go_upto_region 2 with (first
      | (go_at_call 6; refine (haw.out _).mono ?_; rintro e w1 ⟨rfl, hb1⟩; have HB1 := Lib.hid hb1)
      | (go_at_call 7; refine (HF.out _ HB1.out).mono ?_; rintro e w2 ⟨rfl, rfl⟩)
      | (go_at_call 11; refine (HR.out _ HB1.out).mono ?_; rintro e w4 ⟨rfl, hb4⟩; have HB4 := Lib.hid (HB1.out.trans (hb4.mono HB1.out.size))))
    go_wp2_with (go_at_call 6; refine (haw.out _).mono ?_; rintro e w3 ⟨rfl, hb3⟩; have HB3 := Lib.hid hb3)
    go_ret
    exact ⟨rfl, HB4.out.trans (HB3.out.mono HB4.out.size)⟩

set_option maxHeartbeats 8000000 in
theorem bent_yes (C : BlkC) (a : Option Addr) (len cap : Nat) (es : List En) (x y : Nat) (hx : x < 65536) (hy : y < 256) (w : World) (hz : IsEnts w a len cap es) (hf : FewEnts es 10) (hr : rightE es = true) :
    Calls Try.prog 4 #[.slice a len cap, .int .u16 x, .int .u8 y] w fun e w' => e = .returned (.bool true) ∧ Below w.heap.size w w' := by
  have haw := Lib.hid (bawake_any C)
  have hmk := Lib.hid make_any
  have HF := Lib.hid (fun w1 (hb : Below w.heap.size w w1) => bfew_any a len cap 10 es w1 (hz.below hb) (by omega))
  rw [fewB_true.2 hf] at HF
  have HR := Lib.hid (fun w1 (hb : Below w.heap.size w w1) => bright_any a len cap es w1 (hz.below hb))
  rw [hr] at HR
  have hfo := fewOut hz hf
  have hl10 : len ≤ 10 := by rw [← hz.1.1]; exact hfo.len
  have HIn := Lib.hid (fun w1 (hb : Below w.heap.size w w1) => binside_any a len cap es w1 (hz.below hb) hr (by omega) hfo.small)
  have hins := hfo.ins
  obtain ⟨l, hl⟩ : ∃ l, l = insideB es := ⟨_, rfl⟩
  have hl1 : 1 ≤ l.length := by rw [hl]; unfold insideB; have u : ∀ n, 1 ≤ (ub n).length := fun n => by unfold ub; split <;> simp
                                have := u es.length; rw [List.length_append]; omega
  obtain ⟨I, hI⟩ : ∃ I : ByteArray, I = ⟨(insideB es).toArray⟩ := ⟨_, rfl⟩
  have hIl : I.data.toList = l := by rw [hI, hl]
  obtain ⟨m, hm⟩ : ∃ m, m = l.length := ⟨_, rfl⟩
  have hIs : I.size = m := by rw [← c_size, hIl, hm]
  rw [← hI] at HIn
  rw [← hl] at hins
  have HL := Lib.hid hl
  have HOk := Lib.hid hfo.ok
  have HRt := Lib.hid hr
  have HIl := Lib.hid hIl
  have HM := Lib.hid hm
  have hm1 : 1 ≤ m := by omega
  have hm6 : m ≤ 60000 := by omega
  clear hf hr hfo hI hl hz hm hIl hl1 hins
  go_enter Try.func4, Try.ntmps4
  go_upto_region 4 with (first
    | (go_at_call 6; refine (haw.out _).mono ?_; rintro e w1 ⟨rfl, hb1⟩; have HB1 := Lib.hid hb1)
    | (go_at_call 7; refine (HF.out _ HB1.out).mono ?_; rintro e w2 ⟨rfl, rfl⟩)
    | (go_at_call 11; refine (HR.out _ HB1.out).mono ?_; rintro e wR ⟨rfl, hbR⟩; have HBR := Lib.hid (HB1.out.trans (hbR.mono HB1.out.size)))
    | (go_at_call 8; refine (hmk.out _).mono ?_; rintro e w3 ⟨rfl, hb3⟩; have HB3 := Lib.hid (HBR.out.trans (hb3.mono HBR.out.size)))
    | (refine wpList_store_row rfl 27 _ _ rfl w3.heap.size tab rfl rfl 27 (Array.replicate 256 (.int .u32 0)) (heap_alloc_last w3 _) tableSize zeroTable_size tab_one ?_; rw [World.setRow_alloc_new]; dsimp only [Act.put]))
  obtain ⟨w4, hw4⟩ : ∃ w4, w4 = w3.alloc (.cells tab 27) := ⟨_, rfl⟩
  obtain ⟨g, hg⟩ : ∃ g, g = w3.heap.size := ⟨_, rfl⟩
  have HB4 := Lib.hid (show Below w.heap.size w w4 by rw [hw4]; exact HB3.out.alloc HB3.out.size _)
  have HT4 := Lib.hid (show w4.heap[g]? = some (.cells tab 27 (0, 0)) by rw [hw4, hg]; exact heap_alloc_new w3 _)
  rw [← hw4, ← hg]
  clear hw4 hg
  have hg4 := (Array.getElem?_eq_some_iff.1 HT4.out).1
  go_upto_region 5 with (first
    | (go_at_call 12; refine (HIn.out _ HB4.out).mono ?_; rintro e w5 ⟨rfl, hb5⟩; have HB5 := Lib.hid (HB4.out.trans (hb5.mono HB4.out.size)); have HT5 := Lib.hid ((hb5.block g hg4).trans HT4.out); have hg5 := (Array.getElem?_eq_some_iff.1 HT5.out).1)
    | (refine wpList_bytes_of rfl _ 9 43 5 rfl Try.underlying9 Try.underlying43 Try.underlying5 I rfl (by omega) w5.heap.size (Nat.le_refl _) ?_; intro v6 w6 hown6 hb6; obtain ⟨g6, c6, rfl, hg6, hg6l, hnc⟩ := hown6.slice (by omega); have HO6 := Lib.hid hown6; have HB6 := Lib.hid hb6; clear hown6 hb6))
  have HO : Hid (OwnsM w6 w5.heap.size 5 (.slice (some ⟨g6, 0, none⟩) m c6) m (Lib.byteCells l)) := Lib.hid (by
    have := HO6.out
    rw [hIs] at this
    rw [show Lib.byteCells l = Lib.strCells I by rw [← HIl.out]; simp [Lib.byteCells, Lib.strCells]]
    exact this)
  have HB7 := Lib.hid (HB5.out.trans (HB6.out.mono HB5.out.size))
  have HT6 := Lib.hid ((HB6.out.block g hg5).trans HT5.out)
  have hgg : g ≠ g6 := by omega
  clear HO6 HT4 HB4 HB3 HBR HB1 hb1 hb5 hbR hb3 hIs HIn HF
  obtain ⟨q, hq⟩ : ∃ q, q = x % m := ⟨_, rfl⟩
  have hql : q < m := by rw [hq]; exact Nat.mod_lt _ (by omega)
  have hqL : q < l.length := by rw [← HM.out]; exact hql
  have hz : (0 : Int) < (m : Int) := by omega
  have hzn : 0 < m := by omega
  have hz2 : ((m : Int) == 0) = false := by rw [beq_eq_false_iff_ne]; omega
  have hqz : (x : Int) % (m : Int) = (q : Int) := by rw [hq]; rfl
  have hqt : (x : Int).tmod (m : Int) = (q : Int) := by rw [hq]; rfl
  have hqi : (q : Int) < (m : Int) := by omega
  have hq0 : (0 : Int) ≤ (q : Int) := by omega
  have hwx : IntKind.i64.wrap (x : Int) = (x : Int) := IntWalk.i64_in _ (by omega)
  have hwq : IntKind.i64.wrap (q : Int) = (q : Int) := IntWalk.i64_in _ (by omega)
  obtain ⟨u, hu, hu0⟩ := bend_byte (l[q]'hqL) y hy
  have hcq := HO.out.cellAt hql
  rw [show (Lib.byteCells l)[q]? = some (.int .u8 ((l[q]'hqL).toNat : Int)) by simp [Lib.byteCells, List.getElem?_eq_getElem hqL]] at hcq
  have hfq := HO.out.frozenAt hql
  have HU := Lib.hid (show OwnsM (w6.setCell ⟨g6, q, none⟩ (.int .u8 (u.toNat : Int))) w5.heap.size 5 (.slice (some ⟨g6, 0, none⟩) m c6) m (Lib.byteCells (l.set q u)) by
    have := HO.out.stored q (.int .u8 (u.toNat : Int)); rwa [byteCells_setB] at this)
  have hg65 : w.heap.size ≤ g6 := Nat.le_trans HB5.out.size hg6
  have HX := Lib.hid (show Below w.heap.size w (w6.setCell ⟨g6, q, none⟩ (.int .u8 (u.toNat : Int))) from HB7.out.setCell hg65 _)
  have HT7 := Lib.hid (show (w6.setCell ⟨g6, q, none⟩ (.int .u8 (u.toNat : Int))).heap[g]? = some (.cells tab 27 (0, 0)) by rw [Below.heap_setCell _ _ _ _ hgg]; exact HT6.out)
  obtain ⟨k, hk⟩ : ∃ k, k = (l[q]'hqL).toNat := ⟨_, rfl⟩
  rw [← hk] at hcq hu
  have HS0 := Lib.hid (show y = 0 → l.set q u = l from fun h => by rw [hu0 h]; exact List.set_getElem_self hqL)
  have HLs := Lib.hid (show (l.set q u).length = m by rw [List.length_set, HM.out])
  clear hk hq hu0
  go_upto_region 6 with fail
  obtain ⟨l2, hl2⟩ : ∃ l2, l2 = l.set q u := ⟨_, rfl⟩
  obtain ⟨w7, hw7⟩ : ∃ w7, w7 = w6.setCell ⟨g6, q, none⟩ (.int .u8 (u.toNat : Int)) := ⟨_, rfl⟩
  rw [← hw7] at HU HX HT7
  rw [← hl2] at HU HS0 HLs
  rw [← hw7]
  clear hw7 hl2 hcq hfq hu HO HB7 HT6 hz hz2 hqz hqt hqi hq0 hwx hwq hql hqL hzn HB6
  have HU1 := Lib.hid (refUint_any m (by omega))
  obtain ⟨L2, hL2⟩ : ∃ L2 : ByteArray, L2 = ⟨l2.toArray⟩ := ⟨_, rfl⟩
  have hcv := fun xw : Like w7.heap.size w7 => convert_rowM (HU.out.below xw.below)
  rw [← hL2] at hcv
  have hL2s : L2.size = m := by rw [hL2]; show l2.toArray.size = m; rw [List.size_toArray]; exact HLs.out
  obtain ⟨U1, hU1⟩ : ∃ U1 : ByteArray, U1 = ⟨(ub m).toArray⟩ := ⟨_, rfl⟩
  have u1 : U1.size ≤ 10 := by rw [hU1]; show (ub m).toArray.size ≤ _; rw [List.size_toArray]; exact ub_len10 (by omega)
  rw [← hU1] at HU1
  have hmm : (m : Int) % 18446744073709551616 = (m : Int) := by omega
  have hx1 : ¬ 9223372036854775807 < U1.size + 1 := by omega
  have hx2 : ¬ 9223372036854775807 < U1.size + 1 + L2.size := by omega
  have HPl := Lib.hid (show (U1 ++ ⟨#[0]⟩ ++ L2).data.toList = ub m ++ 0 :: l2 by rw [hU1, hL2]; simp [ByteArray.data_append])
  have HPs := Lib.hid (show (U1 ++ ⟨#[0]⟩ ++ L2).size ≤ 70000 by rw [ByteArray.size_append, ByteArray.size_append]; show U1.size + 1 + L2.size ≤ _; omega)
  have HL2 := Lib.hid hL2
  clear hL2 hU1
  refine region_likes (by kernel_rfl) (by kernel_rfl) ?_
  repeat (first
    | (go_big_quiet_step (first
        | (go_at_call 18; exact calls_likes (Like.size _) (HU1.out _)))))
  refine wpQuiet_nil ?_
  intro xw
  obtain ⟨Pk, hPk⟩ : ∃ Pk, Pk = U1 ++ ⟨#[0]⟩ ++ L2 := ⟨_, rfl⟩
  rw [← hPk] at HPl HPs
  have HU8 := Lib.hid (HU.out.below xw.below)
  have HX8 := Lib.hid (HX.out.trans (xw.below.mono HX.out.size))
  have HT8 := Lib.hid ((xw.below.block g (Array.getElem?_eq_some_iff.1 HT7.out).1).trans HT7.out)
  obtain ⟨w8, hw8⟩ : ∃ w8, w8 = xw.val := ⟨_, rfl⟩
  rw [← hw8] at HU8 HX8 HT8
  rw [← hw8]
  go_upto_region 7 with fail
  rw [← hPk]
  clear hw8 HU HX HT7 hcv hx1 hx2 HU1 hPk u1 hmm
  have hlt := sumB_lt Pk.data.toList
  have HSu := Lib.hid (refsum_any Pk (by have := HPs.out; omega))
  have HFx := Lib.hid (fun w1 => refFixed_any (sumB Pk.data.toList) 4 true w1 (by omega) (by omega) (by omega))
  have HFy := Lib.hid (fun w1 => refFixed_any (sumB Pk.data.toList + 1) 4 true w1 (by omega) (by omega) (by omega))
  obtain ⟨S4, hS4⟩ : ∃ S4 : ByteArray, S4 = ⟨(fx (sumB Pk.data.toList) 4 true).toArray⟩ := ⟨_, rfl⟩
  obtain ⟨T4, hT4⟩ : ∃ T4 : ByteArray, T4 = ⟨(fx (sumB Pk.data.toList + 1) 4 true).toArray⟩ := ⟨_, rfl⟩
  have s4 : S4.size = 4 := by rw [hS4]; show (fx _ 4 true).toArray.size = 4; rw [List.size_toArray, fx, cellsF_length]
  have t4 : T4.size = 4 := by rw [hT4]; show (fx _ 4 true).toArray.size = 4; rw [List.size_toArray, fx, cellsF_length]
  have hPs := HPs.out
  have HD := Lib.hid (bent_dec C (l2 := l2) (y := y) (es := es) (Pk := Pk) (S4 := S4) (by rw [HPl.out, ← HLs.out]; exact unp_storedE l2 (by rw [HLs.out]; exact hm6)) (by omega) (by rw [hS4]; rfl) HRt.out HOk.out (fun h => (HS0.out h).trans HL.out))
  have HDs := Lib.hid (fun w1 => C.decSum Pk (fx (sumB Pk.data.toList + 1) 4 true) w1 (by omega) (by rw [fx, cellsF_length]) (fx_next _))
  have eT : (⟨(Pk.data.toList ++ fx (sumB Pk.data.toList + 1) 4 true).toArray⟩ : ByteArray) = Pk ++ T4 := c_ba_ext (by rw [hT4]; simp [ByteArray.data_append])
  have HDa := Lib.hid (fun w1 => C.decShort ⟨#[97, 98, 99]⟩ w1 (by decide))
  rw [eT] at HDs
  rw [← hS4] at HFx
  rw [← hT4] at HFy
  obtain ⟨sm, hsm⟩ : ∃ sm, sm = sumB Pk.data.toList := ⟨_, rfl⟩
  rw [← hsm] at HSu HFx HFy hlt
  have hmod : (sm : Int) % 18446744073709551616 = (sm : Int) := by omega
  have hwr64 : IntKind.u64.wrap (sm : Int) = (sm : Int) := by simp [IntKind.wrap, IntKind.bits, IntKind.signed]; omega
  have hwr65 : IntKind.u64.wrap ((sm : Int) + 1) = ((sm + 1 : Nat) : Int) := by simp [IntKind.wrap, IntKind.bits, IntKind.signed]; omega
  have hmod2 : ((sm : Int) + 1) % 18446744073709551616 = ((sm + 1 : Nat) : Int) := by omega
  have hz1 : ¬ 9223372036854775807 < Pk.size + S4.size := by omega
  have hz2 : ¬ 9223372036854775807 < Pk.size + T4.size := by omega
  have hgw8 := (Array.getElem?_eq_some_iff.1 HT8.out).1
  have HXs := Lib.hid HX8.out.size
  clear hS4 hT4 hsm eT HPl hPs s4 t4
  obtain ⟨DX, DK, hst, hDe, hcs⟩ := HD.out
  have HDe := Lib.hid hDe
  have HCs := Lib.hid hcs
  have HSt := Lib.hid hst
  clear hst hDe hcs HD
  have HFm := Lib.hid (show ∀ s kv W, DX s W → DK kv → (∃ a2 n2 c2, s = .slice a2 n2 c2) ∧ ∃ k, kv = .int .i64 k from fun s kv W h1 h2 => by
    rcases HCs.out with ⟨es2, _, _, _, hX, hK⟩ | ⟨hX, hK, _⟩
    · obtain ⟨a2, c2, rfl, _⟩ := hX _ _ h1
      exact ⟨⟨_, _, _, rfl⟩, _, hK _ h2⟩
    · obtain ⟨a2, c2, rfl⟩ := hX _ _ h1
      obtain ⟨k, rfl, _⟩ := hK _ h2
      exact ⟨⟨_, _, _, rfl⟩, _, rfl⟩)
  go_cut [10, 11] (fun s10 s11 wc => (∃ a2 n2 c2, s10 = .slice a2 n2 c2) ∧ (∃ k, s11 = .int .i64 k) ∧ Hid (DX s10 wc ∧ DK s11) ∧ Hid (Below w8.heap.size w8 wc))
  case first =>
    refine wp_region_flow [0, 1, 2, 3, 4, 5, 6, 7, 8, 9, 12, 13, 14, 15, 16, 17, 18, 19, 20, 21, 22, 23, 24, 25, 26, 27, 28, 29, 30, 31, 32, 33, 34, 35, 36, 37, 38, 39, 40, 41, 42, 43, 44, 45, 46, 47, 48, 49, 50, 51, 63, 64, 65, 66, 67, 68, 69, 70, 71, 72, 73, 74, 75, 76, 77, 78, 79, 80, 81, 82, 83, 84, 85, 86, 87, 88, 89, 90, 91, 92, 93, 94, 95, 96, 97, 98, 99, 100, 101, 102, 103, 104] [10, 11] (psi7 g sm Pk S4 DX DK) 105 (by kernel_rfl) (by kernel_rfl) rfl (by kernel_rfl) (by kernel_rfl) (psi7_stable _ _ _ _ _ _ HSt.out) ?_ ?_ ?_
    · intro t ht w' _
      simp only [List.mem_cons, List.not_mem_nil, or_false] at ht
      rcases ht with rfl | rfl | rfl | rfl | rfl | rfl | rfl | rfl | rfl | rfl | rfl | rfl | rfl | rfl | rfl | rfl | rfl | rfl | rfl | rfl | rfl | rfl | rfl | rfl | rfl | rfl | rfl | rfl | rfl | rfl | rfl | rfl | rfl | rfl | rfl | rfl | rfl | rfl | rfl | rfl | rfl | rfl | rfl | rfl | rfl | rfl | rfl | rfl | rfl | rfl | rfl | rfl | rfl | rfl | rfl | rfl | rfl | rfl | rfl | rfl | rfl | rfl | rfl | rfl | rfl | rfl | rfl | rfl | rfl | rfl | rfl | rfl | rfl | rfl | rfl | rfl | rfl | rfl | rfl | rfl | rfl | rfl | rfl | rfl | rfl | rfl | rfl | rfl | rfl | rfl | rfl | rfl <;> first | exact trivial | rfl
    · repeat' (first | exact AllSteps.nil | refine AllSteps.cons ?_ ?_)
      all_goals
        intro a' w' K Q hB hP hK
        repeat (obtain ⟨h, hP⟩ := hP; conv at h => whnf)
        have hT := Lib.hid ((hB.block g hgw8).trans HT8.out)
        first
          | (refine wp_load_row 27 (.tmp 7) rfl g (by simpa [Act.eval] using h) 27 tab (0, 0) _ hT.out Try.underlying27 rfl tableSize ?_; refine hK _ _ (Below.refl _ _) ?_; intro d hd; cases hd; rfl)
          | (try obtain ⟨sv, kv, h, hxx, hkk⟩ := h
             try go_simp
             first
               | (refine hK _ _ (Below.refl _ _) ?_; intro d hd; cases hd; first | rfl | exact h | exact ⟨sv, kv, rfl, hxx, hkk⟩ | exact ⟨sv, _, rfl, hxx, rfl⟩ | exact hxx | exact hkk)
               | (go_at_call 17; refine (HSu.out _).mono ?_; rintro e w9 ⟨rfl, rfl⟩; refine hK _ _ (Below.refl _ _) ?_; intro d hd; cases hd; rfl)
               | (go_at_call 16; refine (HFx.out _).mono ?_; rintro e w9 ⟨rfl, hb9⟩; refine hK _ _ hb9 ?_; intro d hd; cases hd; rfl)
               | (go_at_call 13; refine (HDe.out _).mono ?_; rintro e w10 ⟨sv, kv, rfl, hxx, hkk, hb10⟩; refine hK _ _ hb10 ?_; intro d hd; cases hd; exact ⟨sv, kv, rfl, hxx, hkk⟩))
    · intro a' w' hb hsz hdf hold hnew
      obtain ⟨s10, e10⟩ : ∃ v, v = a'.tmps.getD 10 undef := ⟨_, rfl⟩
      obtain ⟨s11, e11⟩ : ∃ v, v = a'.tmps.getD 11 undef := ⟨_, rfl⟩
      have hh10 : DX s10 w' := by rw [e10]; exact hnew 10 (by simp)
      have hh11 : DK s11 := by rw [e11]; exact hnew 11 (by simp)
      have q0 : a'.tmps.getD 0 undef = _ := hold 0 (by simp)
      have q1 : a'.tmps.getD 1 undef = _ := hold 1 (by simp)
      have q2 : a'.tmps.getD 2 undef = _ := hold 2 (by simp)
      have q3 : a'.tmps.getD 3 undef = _ := hold 3 (by simp)
      have q4 : a'.tmps.getD 4 undef = _ := hold 4 (by simp)
      have q5 : a'.tmps.getD 5 undef = _ := hold 5 (by simp)
      have q6 : a'.tmps.getD 6 undef = _ := hold 6 (by simp)
      have q7 : a'.tmps.getD 7 undef = _ := hold 7 (by simp)
      have q8 : a'.tmps.getD 8 undef = _ := hold 8 (by simp)
      have q9 : a'.tmps.getD 9 undef = _ := hold 9 (by simp)
      have q12 : a'.tmps.getD 12 undef = _ := hold 12 (by simp)
      have q13 : a'.tmps.getD 13 undef = _ := hold 13 (by simp)
      have q14 : a'.tmps.getD 14 undef = _ := hold 14 (by simp)
      have q15 : a'.tmps.getD 15 undef = _ := hold 15 (by simp)
      have q16 : a'.tmps.getD 16 undef = _ := hold 16 (by simp)
      have q17 : a'.tmps.getD 17 undef = _ := hold 17 (by simp)
      have q18 : a'.tmps.getD 18 undef = _ := hold 18 (by simp)
      have q19 : a'.tmps.getD 19 undef = _ := hold 19 (by simp)
      have q20 : a'.tmps.getD 20 undef = _ := hold 20 (by simp)
      have q21 : a'.tmps.getD 21 undef = _ := hold 21 (by simp)
      have q22 : a'.tmps.getD 22 undef = _ := hold 22 (by simp)
      have q23 : a'.tmps.getD 23 undef = _ := hold 23 (by simp)
      have q24 : a'.tmps.getD 24 undef = _ := hold 24 (by simp)
      have q25 : a'.tmps.getD 25 undef = _ := hold 25 (by simp)
      have q26 : a'.tmps.getD 26 undef = _ := hold 26 (by simp)
      have q27 : a'.tmps.getD 27 undef = _ := hold 27 (by simp)
      have q28 : a'.tmps.getD 28 undef = _ := hold 28 (by simp)
      have q29 : a'.tmps.getD 29 undef = _ := hold 29 (by simp)
      have q30 : a'.tmps.getD 30 undef = _ := hold 30 (by simp)
      have q31 : a'.tmps.getD 31 undef = _ := hold 31 (by simp)
      have q32 : a'.tmps.getD 32 undef = _ := hold 32 (by simp)
      have q33 : a'.tmps.getD 33 undef = _ := hold 33 (by simp)
      have q34 : a'.tmps.getD 34 undef = _ := hold 34 (by simp)
      have q35 : a'.tmps.getD 35 undef = _ := hold 35 (by simp)
      have q36 : a'.tmps.getD 36 undef = _ := hold 36 (by simp)
      have q37 : a'.tmps.getD 37 undef = _ := hold 37 (by simp)
      have q38 : a'.tmps.getD 38 undef = _ := hold 38 (by simp)
      have q39 : a'.tmps.getD 39 undef = _ := hold 39 (by simp)
      have q40 : a'.tmps.getD 40 undef = _ := hold 40 (by simp)
      have q41 : a'.tmps.getD 41 undef = _ := hold 41 (by simp)
      have q42 : a'.tmps.getD 42 undef = _ := hold 42 (by simp)
      have q43 : a'.tmps.getD 43 undef = _ := hold 43 (by simp)
      have q44 : a'.tmps.getD 44 undef = _ := hold 44 (by simp)
      have q45 : a'.tmps.getD 45 undef = _ := hold 45 (by simp)
      have q46 : a'.tmps.getD 46 undef = _ := hold 46 (by simp)
      have q47 : a'.tmps.getD 47 undef = _ := hold 47 (by simp)
      have q48 : a'.tmps.getD 48 undef = _ := hold 48 (by simp)
      have q49 : a'.tmps.getD 49 undef = _ := hold 49 (by simp)
      have q50 : a'.tmps.getD 50 undef = _ := hold 50 (by simp)
      have q51 : a'.tmps.getD 51 undef = _ := hold 51 (by simp)
      have q63 : a'.tmps.getD 63 undef = _ := hold 63 (by simp)
      have q64 : a'.tmps.getD 64 undef = _ := hold 64 (by simp)
      have q65 : a'.tmps.getD 65 undef = _ := hold 65 (by simp)
      have q66 : a'.tmps.getD 66 undef = _ := hold 66 (by simp)
      have q67 : a'.tmps.getD 67 undef = _ := hold 67 (by simp)
      have q68 : a'.tmps.getD 68 undef = _ := hold 68 (by simp)
      have q69 : a'.tmps.getD 69 undef = _ := hold 69 (by simp)
      have q70 : a'.tmps.getD 70 undef = _ := hold 70 (by simp)
      have q71 : a'.tmps.getD 71 undef = _ := hold 71 (by simp)
      have q72 : a'.tmps.getD 72 undef = _ := hold 72 (by simp)
      have q73 : a'.tmps.getD 73 undef = _ := hold 73 (by simp)
      have q74 : a'.tmps.getD 74 undef = _ := hold 74 (by simp)
      have q75 : a'.tmps.getD 75 undef = _ := hold 75 (by simp)
      have q76 : a'.tmps.getD 76 undef = _ := hold 76 (by simp)
      have q77 : a'.tmps.getD 77 undef = _ := hold 77 (by simp)
      have q78 : a'.tmps.getD 78 undef = _ := hold 78 (by simp)
      have q79 : a'.tmps.getD 79 undef = _ := hold 79 (by simp)
      have q80 : a'.tmps.getD 80 undef = _ := hold 80 (by simp)
      have q81 : a'.tmps.getD 81 undef = _ := hold 81 (by simp)
      have q82 : a'.tmps.getD 82 undef = _ := hold 82 (by simp)
      have q83 : a'.tmps.getD 83 undef = _ := hold 83 (by simp)
      have q84 : a'.tmps.getD 84 undef = _ := hold 84 (by simp)
      have q85 : a'.tmps.getD 85 undef = _ := hold 85 (by simp)
      have q86 : a'.tmps.getD 86 undef = _ := hold 86 (by simp)
      have q87 : a'.tmps.getD 87 undef = _ := hold 87 (by simp)
      have q88 : a'.tmps.getD 88 undef = _ := hold 88 (by simp)
      have q89 : a'.tmps.getD 89 undef = _ := hold 89 (by simp)
      have q90 : a'.tmps.getD 90 undef = _ := hold 90 (by simp)
      have q91 : a'.tmps.getD 91 undef = _ := hold 91 (by simp)
      have q92 : a'.tmps.getD 92 undef = _ := hold 92 (by simp)
      have q93 : a'.tmps.getD 93 undef = _ := hold 93 (by simp)
      have q94 : a'.tmps.getD 94 undef = _ := hold 94 (by simp)
      have q95 : a'.tmps.getD 95 undef = _ := hold 95 (by simp)
      have q96 : a'.tmps.getD 96 undef = _ := hold 96 (by simp)
      have q97 : a'.tmps.getD 97 undef = _ := hold 97 (by simp)
      have q98 : a'.tmps.getD 98 undef = _ := hold 98 (by simp)
      have q99 : a'.tmps.getD 99 undef = _ := hold 99 (by simp)
      have q100 : a'.tmps.getD 100 undef = _ := hold 100 (by simp)
      have q101 : a'.tmps.getD 101 undef = _ := hold 101 (by simp)
      have q102 : a'.tmps.getD 102 undef = _ := hold 102 (by simp)
      have q103 : a'.tmps.getD 103 undef = _ := hold 103 (by simp)
      have q104 : a'.tmps.getD 104 undef = _ := hold 104 (by simp)
      have ha := act_eta a' hsz
      simp only [List.range, List.range.loop, List.map, q0, q1, q2, q3, q4, q5, q6, q7, q8, q9, q12, q13, q14, q15, q16, q17, q18, q19, q20, q21, q22, q23, q24, q25, q26, q27, q28, q29, q30, q31, q32, q33, q34, q35, q36, q37, q38, q39, q40, q41, q42, q43, q44, q45, q46, q47, q48, q49, q50, q51, q63, q64, q65, q66, q67, q68, q69, q70, q71, q72, q73, q74, q75, q76, q77, q78, q79, q80, q81, q82, q83, q84, q85, q86, q87, q88, q89, q90, q91, q92, q93, q94, q95, q96, q97, q98, q99, q100, q101, q102, q103, q104, hdf, ← e10, ← e11] at ha
      rw [ha]
      clear ha e10 e11 hold hnew q0 q1 q2 q3 q4 q5 q6 q7 q8 q9 q12 q13 q14 q15 q16 q17 q18 q19 q20 q21 q22 q23 q24 q25 q26 q27 q28 q29 q30 q31 q32 q33 q34 q35 q36 q37 q38 q39 q40 q41 q42 q43 q44 q45 q46 q47 q48 q49 q50 q51 q63 q64 q65 q66 q67 q68 q69 q70 q71 q72 q73 q74 q75 q76 q77 q78 q79 q80 q81 q82 q83 q84 q85 q86 q87 q88 q89 q90 q91 q92 q93 q94 q95 q96 q97 q98 q99 q100 q101 q102 q103 q104
      go_wp2_with fail
      go_meet
      case rel =>
        obtain ⟨f1, f2⟩ := HFm.out _ _ _ hh10 hh11
        exact ⟨f1, f2, Lib.hid ⟨hh10, hh11⟩, Lib.hid hb⟩
  case rest =>
    obtain ⟨⟨a2, n2, c2, rfl⟩, ⟨k2, rfl⟩, HX, HBc⟩ := hcut
    clear HFm
    have hgw := Lib.hid (Nat.lt_of_lt_of_le hgw8 HBc.out.size)
    have HTc := Lib.hid ((HBc.out.block g hgw8).trans HT8.out)
    have HUc := Lib.hid (HU8.out.below HBc.out)
    go_upto_if 64 with fail
    go_cut [] (fun wd => Hid (Below wc.heap.size wc wd))
    case first =>
      obtain ⟨hx1, hk1⟩ := HX.out
      rcases HCs.out with ⟨es2, hr2, ho2, hi2, hX, hK⟩ | ⟨hX, hK, hy0⟩
      · obtain ⟨a3, c3, e3, he2⟩ := hX _ _ hx1
        injection e3 with e4 e5 e6
        have e7 := hK _ hk1
        injection e7 with _ e8
        subst e4 e6 e8
        have hn2 := e5
        clear e5
        obtain ⟨hle2, hsm2⟩ := inside_small (es := es2) (n := m) (by rw [hi2, HLs.out]; exact Nat.le_refl _) hm6 ho2
        rw [← hn2] at he2 hle2
        have HR2 := Lib.hid (fun x : Like wc.heap.size wc => bright_any a2 n2 c2 es2 x.val (he2.below x.below))
        rw [hr2] at HR2
        have HI2 := Lib.hid (fun x : Like wc.heap.size wc => binside_any a2 n2 c2 es2 x.val (he2.below x.below) hr2 (by omega) hsm2)
        have eI : (⟨(insideB es2).toArray⟩ : ByteArray) = L2 := by rw [hi2, HL2.out]
        rw [eI] at HI2
        have hcv := fun x : Like wc.heap.size wc => convert_rowM (HUc.out.below x.below)
        rw [← HL2.out] at hcv
        have hLL : (L2.toList == L2.toList) = true := by simp
        clear hx1 hk1 hr2 ho2 hi2 hX hK hn2 he2 hsm2 eI HX HCs HSt HDe HDs
        go_wp2_with fail
        refine region_likes (by kernel_rfl) (by kernel_rfl) ?_
        repeat (first
          | (go_big_quiet_step (first
              | (go_at_call 11; exact calls_likes (Like.size _) (HR2.out _))
              | (go_at_call 12; exact calls_likes (Like.size _) (HI2.out _)))))
        refine wpQuiet_nil ?_
        intro xc
        have hbx := Lib.hid xc.below
        clear hcv
        go_wp2_with fail
        go_meet
        case rel => exact hbx
      · obtain ⟨a3, c3, e3⟩ := hX _ _ hx1
        injection e3 with e4 e5 e6
        obtain ⟨k, e7, hk⟩ := hK _ hk1
        injection e7 with _ e8
        subst e4 e5 e6 e8
        have z1 : (k2 == 0) = false := by rw [beq_eq_false_iff_ne]; omega
        have z2 : ((y : Int) == 0) = false := by rw [beq_eq_false_iff_ne]; omega
        clear hx1 hk1 hX hK hk HX HCs HSt HDe HDs hy0
        go_wp2_with fail
        go_meet
        case rel => exact Lib.hid (Below.refl _ _)
    case rest =>
      have HTd := Lib.hid ((hcut.out.block g hgw.out).trans HTc.out)
      have hgd := (Array.getElem?_eq_some_iff.1 HTd.out).1
      have HBd := Lib.hid (HBc.out.trans (hcut.out.mono HBc.out.size))
      have HDt := Lib.hid (fun w1 => (HDs.out w1).mono (R' := fun e w' => ∃ s kv, e = .returned (.tuple #[s, kv]) ∧ (∃ a c, s = Value.slice a 0 c) ∧ kv = Value.int .i64 2 ∧ Below w1.heap.size w1 w') (by
        rintro e w' ⟨a3, c3, rfl, hb⟩
        exact ⟨_, _, rfl, ⟨a3, c3, rfl⟩, rfl, hb⟩))
      clear hcut HCs HSt HDe HDs HX HTc HUc hgw
      go_upto_region 13 with fail
      go_cut [12, 13] (fun s12 s13 wd => (∃ a c, s12 = Value.slice a 0 c) ∧ s13 = .int .i64 2 ∧ Hid (Below wc.heap.size wc wd))
      case first =>
        refine wp_region_flow [0, 1, 2, 3, 4, 5, 6, 7, 8, 9, 10, 11, 14, 15, 16, 17, 18, 19, 20, 21, 22, 23, 24, 25, 26, 27, 28, 29, 30, 31, 32, 33, 34, 35, 36, 37, 38, 39, 40, 41, 42, 43, 44, 45, 46, 47, 48, 49, 50, 51, 52, 53, 54, 55, 56, 57, 58, 59, 60, 61, 62, 63, 64, 65, 66, 67, 68, 69, 70, 71, 72, 73, 74, 75, 76, 77, 78, 79, 80, 81, 94, 95, 96, 97, 98, 99, 100, 101, 102, 103, 104] [12, 13] (psi13 g sm Pk T4 (fun s _ => ∃ a c, s = Value.slice a 0 c) (fun kv => kv = Value.int .i64 2)) 105 (by kernel_rfl) (by kernel_rfl) rfl (by kernel_rfl) (by kernel_rfl) (psi13_stable _ _ _ _ _ _ (fun _ _ _ h _ => h)) ?_ ?_ ?_
        · intro t ht w' _
          simp only [List.mem_cons, List.not_mem_nil, or_false] at ht
          rcases ht with rfl | rfl | rfl | rfl | rfl | rfl | rfl | rfl | rfl | rfl | rfl | rfl | rfl | rfl | rfl | rfl | rfl | rfl | rfl | rfl | rfl | rfl | rfl | rfl | rfl | rfl | rfl | rfl | rfl | rfl | rfl | rfl | rfl | rfl | rfl | rfl | rfl | rfl | rfl | rfl | rfl | rfl | rfl | rfl | rfl | rfl | rfl | rfl | rfl | rfl | rfl | rfl | rfl | rfl | rfl | rfl | rfl | rfl | rfl | rfl | rfl | rfl | rfl | rfl | rfl | rfl | rfl | rfl | rfl | rfl | rfl | rfl | rfl | rfl | rfl | rfl | rfl | rfl | rfl | rfl | rfl | rfl | rfl | rfl | rfl | rfl | rfl | rfl | rfl | rfl | rfl <;> first | exact trivial | rfl
        · repeat' (first | exact AllSteps.nil | refine AllSteps.cons ?_ ?_)
          all_goals
            intro a' w' K Q hB hP hK
            repeat (obtain ⟨h, hP⟩ := hP; conv at h => whnf)
            have hT := Lib.hid ((hB.block g hgd).trans HTd.out)
            first
              | (refine wp_load_row 27 (.tmp 7) rfl g (by simpa [Act.eval] using h) 27 tab (0, 0) _ hT.out Try.underlying27 rfl tableSize ?_; refine hK _ _ (Below.refl _ _) ?_; intro d hd; cases hd; rfl)
              | (try obtain ⟨sv, kv, h, hxx, hkk⟩ := h
                 try go_simp
                 first
                   | (refine hK _ _ (Below.refl _ _) ?_; intro d hd; cases hd; first | rfl | exact h | exact ⟨sv, kv, rfl, hxx, hkk⟩ | exact ⟨sv, _, rfl, hxx, rfl⟩ | exact hxx | exact hkk)
                   | (go_at_call 17; refine (HSu.out _).mono ?_; rintro e w9 ⟨rfl, rfl⟩; refine hK _ _ (Below.refl _ _) ?_; intro d hd; cases hd; rfl)
                   | (go_at_call 16; refine (HFy.out _).mono ?_; rintro e w9 ⟨rfl, hb9⟩; refine hK _ _ hb9 ?_; intro d hd; cases hd; rfl)
                   | (go_at_call 13; refine (HDt.out _).mono ?_; rintro e w10 ⟨sv, kv, rfl, hxx, hkk, hb10⟩; refine hK _ _ hb10 ?_; intro d hd; cases hd; exact ⟨sv, kv, rfl, hxx, hkk⟩))
        · intro a' w' hb hsz hdf hold hnew
          obtain ⟨s12, e12⟩ : ∃ v, v = a'.tmps.getD 12 undef := ⟨_, rfl⟩
          obtain ⟨s13, e13⟩ : ∃ v, v = a'.tmps.getD 13 undef := ⟨_, rfl⟩
          have hh12 : ∃ a c, s12 = Value.slice a 0 c := by rw [e12]; exact hnew 12 (by simp)
          have hh13 : s13 = Value.int .i64 2 := by rw [e13]; exact hnew 13 (by simp)
          have q0 : a'.tmps.getD 0 undef = _ := hold 0 (by simp)
          have q1 : a'.tmps.getD 1 undef = _ := hold 1 (by simp)
          have q2 : a'.tmps.getD 2 undef = _ := hold 2 (by simp)
          have q3 : a'.tmps.getD 3 undef = _ := hold 3 (by simp)
          have q4 : a'.tmps.getD 4 undef = _ := hold 4 (by simp)
          have q5 : a'.tmps.getD 5 undef = _ := hold 5 (by simp)
          have q6 : a'.tmps.getD 6 undef = _ := hold 6 (by simp)
          have q7 : a'.tmps.getD 7 undef = _ := hold 7 (by simp)
          have q8 : a'.tmps.getD 8 undef = _ := hold 8 (by simp)
          have q9 : a'.tmps.getD 9 undef = _ := hold 9 (by simp)
          have q10 : a'.tmps.getD 10 undef = _ := hold 10 (by simp)
          have q11 : a'.tmps.getD 11 undef = _ := hold 11 (by simp)
          have q14 : a'.tmps.getD 14 undef = _ := hold 14 (by simp)
          have q15 : a'.tmps.getD 15 undef = _ := hold 15 (by simp)
          have q16 : a'.tmps.getD 16 undef = _ := hold 16 (by simp)
          have q17 : a'.tmps.getD 17 undef = _ := hold 17 (by simp)
          have q18 : a'.tmps.getD 18 undef = _ := hold 18 (by simp)
          have q19 : a'.tmps.getD 19 undef = _ := hold 19 (by simp)
          have q20 : a'.tmps.getD 20 undef = _ := hold 20 (by simp)
          have q21 : a'.tmps.getD 21 undef = _ := hold 21 (by simp)
          have q22 : a'.tmps.getD 22 undef = _ := hold 22 (by simp)
          have q23 : a'.tmps.getD 23 undef = _ := hold 23 (by simp)
          have q24 : a'.tmps.getD 24 undef = _ := hold 24 (by simp)
          have q25 : a'.tmps.getD 25 undef = _ := hold 25 (by simp)
          have q26 : a'.tmps.getD 26 undef = _ := hold 26 (by simp)
          have q27 : a'.tmps.getD 27 undef = _ := hold 27 (by simp)
          have q28 : a'.tmps.getD 28 undef = _ := hold 28 (by simp)
          have q29 : a'.tmps.getD 29 undef = _ := hold 29 (by simp)
          have q30 : a'.tmps.getD 30 undef = _ := hold 30 (by simp)
          have q31 : a'.tmps.getD 31 undef = _ := hold 31 (by simp)
          have q32 : a'.tmps.getD 32 undef = _ := hold 32 (by simp)
          have q33 : a'.tmps.getD 33 undef = _ := hold 33 (by simp)
          have q34 : a'.tmps.getD 34 undef = _ := hold 34 (by simp)
          have q35 : a'.tmps.getD 35 undef = _ := hold 35 (by simp)
          have q36 : a'.tmps.getD 36 undef = _ := hold 36 (by simp)
          have q37 : a'.tmps.getD 37 undef = _ := hold 37 (by simp)
          have q38 : a'.tmps.getD 38 undef = _ := hold 38 (by simp)
          have q39 : a'.tmps.getD 39 undef = _ := hold 39 (by simp)
          have q40 : a'.tmps.getD 40 undef = _ := hold 40 (by simp)
          have q41 : a'.tmps.getD 41 undef = _ := hold 41 (by simp)
          have q42 : a'.tmps.getD 42 undef = _ := hold 42 (by simp)
          have q43 : a'.tmps.getD 43 undef = _ := hold 43 (by simp)
          have q44 : a'.tmps.getD 44 undef = _ := hold 44 (by simp)
          have q45 : a'.tmps.getD 45 undef = _ := hold 45 (by simp)
          have q46 : a'.tmps.getD 46 undef = _ := hold 46 (by simp)
          have q47 : a'.tmps.getD 47 undef = _ := hold 47 (by simp)
          have q48 : a'.tmps.getD 48 undef = _ := hold 48 (by simp)
          have q49 : a'.tmps.getD 49 undef = _ := hold 49 (by simp)
          have q50 : a'.tmps.getD 50 undef = _ := hold 50 (by simp)
          have q51 : a'.tmps.getD 51 undef = _ := hold 51 (by simp)
          have q52 : a'.tmps.getD 52 undef = _ := hold 52 (by simp)
          have q53 : a'.tmps.getD 53 undef = _ := hold 53 (by simp)
          have q54 : a'.tmps.getD 54 undef = _ := hold 54 (by simp)
          have q55 : a'.tmps.getD 55 undef = _ := hold 55 (by simp)
          have q56 : a'.tmps.getD 56 undef = _ := hold 56 (by simp)
          have q57 : a'.tmps.getD 57 undef = _ := hold 57 (by simp)
          have q58 : a'.tmps.getD 58 undef = _ := hold 58 (by simp)
          have q59 : a'.tmps.getD 59 undef = _ := hold 59 (by simp)
          have q60 : a'.tmps.getD 60 undef = _ := hold 60 (by simp)
          have q61 : a'.tmps.getD 61 undef = _ := hold 61 (by simp)
          have q62 : a'.tmps.getD 62 undef = _ := hold 62 (by simp)
          have q63 : a'.tmps.getD 63 undef = _ := hold 63 (by simp)
          have q64 : a'.tmps.getD 64 undef = _ := hold 64 (by simp)
          have q65 : a'.tmps.getD 65 undef = _ := hold 65 (by simp)
          have q66 : a'.tmps.getD 66 undef = _ := hold 66 (by simp)
          have q67 : a'.tmps.getD 67 undef = _ := hold 67 (by simp)
          have q68 : a'.tmps.getD 68 undef = _ := hold 68 (by simp)
          have q69 : a'.tmps.getD 69 undef = _ := hold 69 (by simp)
          have q70 : a'.tmps.getD 70 undef = _ := hold 70 (by simp)
          have q71 : a'.tmps.getD 71 undef = _ := hold 71 (by simp)
          have q72 : a'.tmps.getD 72 undef = _ := hold 72 (by simp)
          have q73 : a'.tmps.getD 73 undef = _ := hold 73 (by simp)
          have q74 : a'.tmps.getD 74 undef = _ := hold 74 (by simp)
          have q75 : a'.tmps.getD 75 undef = _ := hold 75 (by simp)
          have q76 : a'.tmps.getD 76 undef = _ := hold 76 (by simp)
          have q77 : a'.tmps.getD 77 undef = _ := hold 77 (by simp)
          have q78 : a'.tmps.getD 78 undef = _ := hold 78 (by simp)
          have q79 : a'.tmps.getD 79 undef = _ := hold 79 (by simp)
          have q80 : a'.tmps.getD 80 undef = _ := hold 80 (by simp)
          have q81 : a'.tmps.getD 81 undef = _ := hold 81 (by simp)
          have q94 : a'.tmps.getD 94 undef = _ := hold 94 (by simp)
          have q95 : a'.tmps.getD 95 undef = _ := hold 95 (by simp)
          have q96 : a'.tmps.getD 96 undef = _ := hold 96 (by simp)
          have q97 : a'.tmps.getD 97 undef = _ := hold 97 (by simp)
          have q98 : a'.tmps.getD 98 undef = _ := hold 98 (by simp)
          have q99 : a'.tmps.getD 99 undef = _ := hold 99 (by simp)
          have q100 : a'.tmps.getD 100 undef = _ := hold 100 (by simp)
          have q101 : a'.tmps.getD 101 undef = _ := hold 101 (by simp)
          have q102 : a'.tmps.getD 102 undef = _ := hold 102 (by simp)
          have q103 : a'.tmps.getD 103 undef = _ := hold 103 (by simp)
          have q104 : a'.tmps.getD 104 undef = _ := hold 104 (by simp)
          have ha := act_eta a' hsz
          simp only [List.range, List.range.loop, List.map, q0, q1, q2, q3, q4, q5, q6, q7, q8, q9, q10, q11, q14, q15, q16, q17, q18, q19, q20, q21, q22, q23, q24, q25, q26, q27, q28, q29, q30, q31, q32, q33, q34, q35, q36, q37, q38, q39, q40, q41, q42, q43, q44, q45, q46, q47, q48, q49, q50, q51, q52, q53, q54, q55, q56, q57, q58, q59, q60, q61, q62, q63, q64, q65, q66, q67, q68, q69, q70, q71, q72, q73, q74, q75, q76, q77, q78, q79, q80, q81, q94, q95, q96, q97, q98, q99, q100, q101, q102, q103, q104, hdf, ← e12, ← e13] at ha
          rw [ha]
          clear ha e12 e13 hold hnew q0 q1 q2 q3 q4 q5 q6 q7 q8 q9 q10 q11 q14 q15 q16 q17 q18 q19 q20 q21 q22 q23 q24 q25 q26 q27 q28 q29 q30 q31 q32 q33 q34 q35 q36 q37 q38 q39 q40 q41 q42 q43 q44 q45 q46 q47 q48 q49 q50 q51 q52 q53 q54 q55 q56 q57 q58 q59 q60 q61 q62 q63 q64 q65 q66 q67 q68 q69 q70 q71 q72 q73 q74 q75 q76 q77 q78 q79 q80 q81 q94 q95 q96 q97 q98 q99 q100 q101 q102 q103 q104
          go_wp2_with fail
          go_meet
          case rel => exact ⟨hh12, by first | rfl | exact hh13, Lib.hid hb⟩
      case rest =>
        obtain ⟨⟨a3, c3, rfl⟩, rfl, HBe⟩ := hcut
        have HTe := Lib.hid ((HBe.out.block g hgd).trans HTd.out)
        have HBw := Lib.hid (HX8.out.trans ((HBd.out.trans (HBe.out.mono HBd.out.size)).mono HX8.out.size))
        go_wp2_with (first
          | (refine wpList_load_row rfl 27 _ rfl g rfl 27 tab (0, 0) _ HTe.out Try.underlying27 rfl tableSize ?_; dsimp only [Act.put])
          | (go_at_call 13; refine (HDa.out _).mono ?_; rintro e w12 ⟨a4, c4, rfl, hb12⟩; have HB12 := Lib.hid (HBw.out.trans (hb12.mono HBw.out.size))))
        go_ret
        exact ⟨rfl, HB12.out⟩
theorem blockBent_of (C : BlkC) (a : Option Addr) (len cap : Nat) (es : List En) (x y : Nat) (hx : x < 65536) (hy : y < 256) (w : World) (hz : IsEnts w a len cap es) :
    Calls Try.prog 4 #[.slice a len cap, .int .u16 x, .int .u8 y] w fun e w' => e = .returned (.bool true) ∧ Below w.heap.size w w' := by
  by_cases hf : FewEnts es 10
  · cases hr : rightE es with
    | true => exact bent_yes C a len cap es x y hx hy w hz hf hr
    | false => exact bent_no C a len cap es x y w hz (.inr hr)
  · exact bent_no C a len cap es x y w hz (.inl hf)
end Go.Proofs.Ytplobffkelmokaa
