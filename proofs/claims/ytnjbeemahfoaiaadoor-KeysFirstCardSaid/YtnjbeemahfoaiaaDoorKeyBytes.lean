/-
  The walk of the document's Bytes: an item's bytes.
-/
import Derived.Test.YtnjbeemahfoaiaaDoorKeyItems
import Derived.Test.YtnjbeemahfoaiaaDoorBuildOne
import Derived.Test.YtnjbeemahfoaiaaDoorRefFixedB
import Derived.Lib.AppendStr
import Derived.Lib.IndexBytes
import Derived.Deep.LoopGhost
import Derived.Deep.DeepCutAuto
import Derived.Deep.CutBlock
namespace Go.Proofs.YtnjbeemahfoaiaaDoor
open Go.RowKit
set_option linter.unnecessarySimpa false
set_option linter.unusedVariables false
set_option linter.unusedSimpArgs false
set_option maxRecDepth 100000

/-- The number at a kind's place. -/
def tagOf (k : Nat) : Int := if k % 6 = 1 then 32 else if k % 6 = 2 then 33 else if k % 6 = 3 then 48 else if k % 6 = 4 then 64 else if k % 6 = 5 then 80 else 16

theorem fx_len (n : Nat) : (fx n 8 true).length = 8 := by simp [fx, cellsF_length]
theorem wrap_up63 (n : Int) (h : -9223372036854775808 ≤ n ∧ n < 9223372036854775808) : IntKind.u64.wrap (IntKind.u64.wrap n + 9223372036854775808) = ((up63 n : Nat) : Int) := by
  simp [IntKind.wrap, IntKind.bits, IntKind.signed, up63]; omega
theorem strCells_fx (n : Nat) : Lib.strCells ⟨(fx n 8 true).toArray⟩ = Lib.byteCells (fx n 8 true) := rfl
theorem size_fx (n : Nat) : (⟨(fx n 8 true).toArray⟩ : ByteArray).size = 8 := by show (fx n 8 true).toArray.size = 8; rw [List.size_toArray, fx_len]
theorem esc_take {l : List UInt8} {i : Nat} {x : UInt8} (h : l[i]? = some x) : esc (l.take (i + 1)) = esc (l.take i) ++ esc1 x := by
  rw [List.take_add_one, h, esc_append]; simp [esc]
theorem esc_len (l : List UInt8) : (esc l).length ≤ 2 * l.length := by
  induction l with
  | nil => simp [esc]
  | cons b l ih =>
    rw [esc_cons, List.length_append, List.length_cons]
    have : (esc1 b).length ≤ 2 := by unfold esc1; split <;> simp
    omega
theorem encV_len (v : KV) (h : match v with | .text s => s.size ≤ 1000 | _ => True) : (encV v).length ≤ 4000 := by
  cases v with
  | bool b => cases b <;> simp [encV]
  | text s =>
    have := esc_len s.data.toList
    rw [← Lib.size_eq] at this
    simp only at h
    simp [encV, escT]; omega
  | _ => simp [encV, fx, cellsF]
def flipTo (E : List UInt8) (i : Nat) : List UInt8 := (E.take i).map flip8 ++ E.drop i
theorem flipTo_zero (E : List UInt8) : flipTo E 0 = E := by simp [flipTo]
theorem flipTo_all (E : List UInt8) : flipTo E E.length = E.map flip8 := by simp [flipTo]
theorem flipTo_at {E : List UInt8} {i : Nat} (h : i < E.length) : (Lib.byteCells (flipTo E i))[i]? = some (.int .u8 ((E[i].toNat : Nat) : Int)) := by
  unfold Lib.byteCells flipTo
  rw [List.getElem?_map, List.getElem?_append_right (by rw [List.length_map, List.length_take]; omega)]
  rw [List.length_map, List.length_take, Nat.min_eq_left (by omega), Nat.sub_self, List.getElem?_drop, Nat.add_zero, List.getElem?_eq_getElem h]
  rfl
theorem flipTo_set {E : List UInt8} {i : Nat} (h : i < E.length) : (Lib.byteCells (flipTo E i)).set i (.int .u8 (((flip8 E[i]).toNat : Nat) : Int)) = Lib.byteCells (flipTo E (i + 1)) := by
  unfold Lib.byteCells flipTo
  rw [List.drop_eq_getElem_cons h, List.take_add_one, List.getElem?_eq_getElem h]
  simp only [List.map_append, Option.toList, List.map_cons, List.map_nil]
  have hl : ((List.map flip8 (List.take i E)).map fun b => Value.int .u8 (b.toNat : Int)).length = i := by rw [List.length_map, List.length_map, List.length_take]; omega
  rw [List.set_append_right _ _ (by omega), hl, Nat.sub_self, List.set_cons_zero, List.append_assoc]
  rfl
theorem cells_two_new (w : World) (u v : Value) (e : TypeId) : ∀ (j : Nat) (x : Value), [u, v][j]? = some x → (w.alloc (.cells #[u, v] e)).cell? ((⟨w.heap.size, 0, none⟩ : Addr).add j) = some x := fun j x hj => by
  have hadd : (⟨w.heap.size, 0, none⟩ : Addr).add j = ⟨w.heap.size, j, none⟩ := by unfold Addr.add; split <;> simp_all
  rw [hadd, World.cell?_alloc_at _ _ _ _ (by have := (List.getElem?_eq_some_iff.1 hj).1; simpa using this)]
  simpa using hj
theorem up63_lt (n : Int) (h : -9223372036854775808 ≤ n ∧ n < 9223372036854775808) : up63 n < 18446744073709551616 := by unfold up63; omega

set_option maxRecDepth 100000 in
set_option maxHeartbeats 4000000 in
theorem refBytes_any (x : It) (hx : x.ok) (ht : x.text.size ≤ 1000) (w : World) :
    Calls Tryd.prog 23 #[.agg x.cells] w fun e w' => e = .returned (.string ⟨(encI x.item).toArray⟩) ∧ Below w.heap.size w w' := by
  obtain ⟨i0, hi, hz0, hz1, hz2⟩ := info_parts u8info
  obtain ⟨kind, int, uint, text, down⟩ := x
  obtain ⟨hk, hint, huint⟩ := hx
  simp only at hk hint huint ht
  unfold It.cells
  have hpos : 0 < (encV (It.kv ⟨kind, int, uint, text, down⟩)).length := by
    obtain ⟨q, u, hq, _⟩ := encV_head (It.kv ⟨kind, int, uint, text, down⟩)
    rw [hq, List.length_cons]; omega
  have hmax : (encV (It.kv ⟨kind, int, uint, text, down⟩)).length ≤ 4000 := encV_len _ (by
    unfold It.kv
    rcases mod6 kind with h | h | h | h | h | h <;> simp [h]
    exact ht)
  have hres : encI (It.item ⟨kind, int, uint, text, down⟩) = if down then (encV (It.kv ⟨kind, int, uint, text, down⟩)).map flip8 else encV (It.kv ⟨kind, int, uint, text, down⟩) := rfl
  rw [hres]
  clear hres
  obtain ⟨E, hE⟩ : ∃ E, E = encV (It.kv ⟨kind, int, uint, text, down⟩) := ⟨_, rfl⟩
  rw [← hE] at hpos hmax
  rw [← hE]
  obtain ⟨N, hN⟩ : ∃ N, N = E.length := ⟨_, rfl⟩
  rw [← hN] at hpos hmax
  have HE := Lib.hid hE
  have HN := Lib.hid hN
  clear hE hN
  go_enter Tryd.func23, Tryd.ntmps23
  have htag : ∀ (W : World), (Instr.index 75 (.agg #[.int .u8 16, .int .u8 32, .int .u8 33, .int .u8 48, .int .u8 64, .int .u8 80]) (.int .u8 ((kind : Int) % 6))).run Tryd.prog W = .ok (.int .u8 (tagOf kind)) W := fun W => by
    have hz : (kind : Int) % 6 = ((kind % 6 : Nat) : Int) := by omega
    rw [hz]
    unfold tagOf
    rcases mod6 kind with h | h | h | h | h | h <;> rw [h] <;> rfl
  go_upto_block 0 with fail
  have hB := Lib.hid (show Below w.heap.size w (w.alloc (.cells #[.int .u8 kind, .int .i64 int, .int .u64 uint, .string text, .bool down] 36)) from (Below.refl _ _).alloc (Nat.le_refl _) _)
  have c0 : (w.alloc (.cells #[.int .u8 kind, .int .i64 int, .int .u64 uint, .string text, .bool down] 36)).cell? ⟨w.heap.size, 0, none⟩ = some (.int .u8 kind) := by rw [World.cell?_alloc_at _ _ _ _ (by simp)]; rfl
  have c1 : (w.alloc (.cells #[.int .u8 kind, .int .i64 int, .int .u64 uint, .string text, .bool down] 36)).cell? ⟨w.heap.size, 1, none⟩ = some (.int .i64 int) := by rw [World.cell?_alloc_at _ _ _ _ (by simp)]; rfl
  have c2 : (w.alloc (.cells #[.int .u8 kind, .int .i64 int, .int .u64 uint, .string text, .bool down] 36)).cell? ⟨w.heap.size, 2, none⟩ = some (.int .u64 uint) := by rw [World.cell?_alloc_at _ _ _ _ (by simp)]; rfl
  have c3 : (w.alloc (.cells #[.int .u8 kind, .int .i64 int, .int .u64 uint, .string text, .bool down] 36)).cell? ⟨w.heap.size, 3, none⟩ = some (.string text) := by rw [World.cell?_alloc_at _ _ _ _ (by simp)]; rfl
  have c4 : (w.alloc (.cells #[.int .u8 kind, .int .i64 int, .int .u64 uint, .string text, .bool down] 36)).cell? ⟨w.heap.size, 4, none⟩ = some (.bool down) := by rw [World.cell?_alloc_at _ _ _ _ (by simp)]; rfl
  have hsz : w.heap.size < (w.alloc (.cells #[.int .u8 kind, .int .i64 int, .int .u64 uint, .string text, .bool down] 36)).heap.size := by simp
  obtain ⟨w1, hw1⟩ : ∃ w1, w1 = w.alloc (.cells #[.int .u8 kind, .int .i64 int, .int .u64 uint, .string text, .bool down] 36) := ⟨_, rfl⟩
  rw [← hw1] at hB c0 c1 c2 c3 c4 hsz
  simp only [← hw1]
  have hs1 : w1.heap.size = w.heap.size + 1 := by rw [hw1]; simp
  have hown : (w1.alloc (.cells #[.int .u8 (tagOf kind)] 5)).ownsRow (w.heap.size + 1) 5 1 (.slice (some ⟨w.heap.size + 1, 0, none⟩) 1 1) 1 [.int .u8 (tagOf kind)] := by
    have := World.ownsRow_lit (base := w.heap.size + 1) (e := 5) (size := 1) w1 #[.int .u8 (tagOf kind)] 1 (by omega) (by decide) rfl
    rw [hs1] at this
    exact this
  have HO := Lib.hid hown
  have HS := Lib.hid hs1
  clear hown hs1 hw1 htag
  obtain ⟨r, hr⟩ : ∃ r : Int, r = (kind : Int) % 6 := ⟨_, rfl⟩
  rw [← hr]
  go_cut [3] (fun s3 wc => Hid (wc.ownsRow (w.heap.size + 1) 5 1 s3 N (Lib.byteCells E)) ∧ Hid (Below w1.heap.size w1 wc))
  case first =>
    have hB1 := Lib.hid ((Below.refl w1.heap.size w1).alloc (Nat.le_refl _) (.cells #[.int .u8 (tagOf kind)] 5))
    rcases mod6 kind with h | h | h | h | h | h
    · have e3 : (r == 3) = false := by rw [beq_eq_false_iff_ne]; omega
      have e4 : (r == 4) = false := by rw [beq_eq_false_iff_ne]; omega
      have e5 : (r == 5) = false := by rw [beq_eq_false_iff_ne]; omega
      have htg : tagOf kind = 16 := by unfold tagOf; simp [h]
      have hkv : It.kv ⟨kind, int, uint, text, down⟩ = .nil := by unfold It.kv; simp [h]
      have HK := Lib.hid hkv
      rw [htg] at HO hB1
      rw [htg]
      clear h hkv htg hr
      go_wp2_with fail
      go_meet
      case rel => exact ⟨Lib.hid (by rw [HN.out, HE.out, HK.out]; exact HO.out), hB1⟩
    · have e3 : (r == 3) = false := by rw [beq_eq_false_iff_ne]; omega
      have e4 : (r == 4) = false := by rw [beq_eq_false_iff_ne]; omega
      have e5 : (r == 5) = false := by rw [beq_eq_false_iff_ne]; omega
      have htg : tagOf kind = 32 := by unfold tagOf; simp [h]
      have hkv : It.kv ⟨kind, int, uint, text, down⟩ = .bool false := by unfold It.kv; simp [h]
      have HK := Lib.hid hkv
      rw [htg] at HO hB1
      rw [htg]
      clear h hkv htg hr
      go_wp2_with fail
      go_meet
      case rel => exact ⟨Lib.hid (by rw [HN.out, HE.out, HK.out]; exact HO.out), hB1⟩
    · have e3 : (r == 3) = false := by rw [beq_eq_false_iff_ne]; omega
      have e4 : (r == 4) = false := by rw [beq_eq_false_iff_ne]; omega
      have e5 : (r == 5) = false := by rw [beq_eq_false_iff_ne]; omega
      have htg : tagOf kind = 33 := by unfold tagOf; simp [h]
      have hkv : It.kv ⟨kind, int, uint, text, down⟩ = .bool true := by unfold It.kv; simp [h]
      have HK := Lib.hid hkv
      rw [htg] at HO hB1
      rw [htg]
      clear h hkv htg hr
      go_wp2_with fail
      go_meet
      case rel => exact ⟨Lib.hid (by rw [HN.out, HE.out, HK.out]; exact HO.out), hB1⟩
    · have e3 : (r == 3) = true := by rw [beq_iff_eq]; omega
      have e4 : (r == 4) = false := by rw [beq_eq_false_iff_ne]; omega
      have e5 : (r == 5) = false := by rw [beq_eq_false_iff_ne]; omega
      have htg : tagOf kind = 48 := by unfold tagOf; simp [h]
      have hkv : It.kv ⟨kind, int, uint, text, down⟩ = .int int := by unfold It.kv; simp [h]
      have HK := Lib.hid hkv
      rw [htg] at HO hB1
      rw [htg]
      clear h hkv htg hr
      have hup := wrap_up63 int hint
      have hnn := up63_lt int hint
      have hfx := Lib.hid (fun W => refFixed_any (up63 int) 8 true W hnn (by decide) (by decide))
      have hsz8 := Lib.hid (size_fx (up63 int))
      have hle := Lib.hid (show w.heap.size + 1 ≤ (w1.alloc (.cells #[.int .u8 48] 5)).heap.size by have := HS.out; simp; omega)
      go_wp2_with (first
        | (go_at_call 39; refine (hfx.out _).mono ?_; rintro e w2 ⟨rfl, hb2⟩)
        | (at_builtin; refine Lib.wpList_append_own_string _ rfl _ _ 42 9 rfl (w.heap.size + 1) 5 i0 Tryd.underlying42 Tryd.underlying9 hi hz0 hz1 hz2 _ 1 [.int .u8 48] rfl (own_below HO.out hb2) ⟨(fx (up63 int) 8 true).toArray⟩ rfl (by rw [hsz8.out]; decide) (by rw [hsz8.out]; decide) (Nat.le_trans hle.out hb2.size) ?_))
      intro v' w3 hown3 hg3 _
      rw [fx_len, strCells_fx] at hown3
      have H3 := Lib.hid hown3
      have B3 := Lib.hid ((hB1.out.trans (hb2.mono (by have := hB1.out.size; exact this))).grown hg3 (Nat.le_trans (by have := HS.out; simp) hb2.size) (fun k hk => by have := ((own_below HO.out hb2).lt k hk).1; have := HS.out; omega))
      clear hown3 hg3 hb2
      go_wp2_with fail
      go_meet
      case rel => exact ⟨Lib.hid (by rw [HN.out, HE.out, HK.out]; have := H3.out; simpa [encV, fx_len, Lib.byteCells] using this), B3⟩
    · have e3 : (r == 3) = false := by rw [beq_eq_false_iff_ne]; omega
      have e4 : (r == 4) = true := by rw [beq_iff_eq]; omega
      have e5 : (r == 5) = false := by rw [beq_eq_false_iff_ne]; omega
      have htg : tagOf kind = 64 := by unfold tagOf; simp [h]
      have hkv : It.kv ⟨kind, int, uint, text, down⟩ = .uint uint := by unfold It.kv; simp [h]
      have HK := Lib.hid hkv
      rw [htg] at HO hB1
      rw [htg]
      clear h hkv htg hr
      have hnn := huint
      have hfx := Lib.hid (fun W => refFixed_any (uint) 8 true W hnn (by decide) (by decide))
      have hsz8 := Lib.hid (size_fx (uint))
      have hle := Lib.hid (show w.heap.size + 1 ≤ (w1.alloc (.cells #[.int .u8 64] 5)).heap.size by have := HS.out; simp; omega)
      go_wp2_with (first
        | (go_at_call 39; refine (hfx.out _).mono ?_; rintro e w2 ⟨rfl, hb2⟩)
        | (at_builtin; refine Lib.wpList_append_own_string _ rfl _ _ 42 9 rfl (w.heap.size + 1) 5 i0 Tryd.underlying42 Tryd.underlying9 hi hz0 hz1 hz2 _ 1 [.int .u8 64] rfl (own_below HO.out hb2) ⟨(fx (uint) 8 true).toArray⟩ rfl (by rw [hsz8.out]; decide) (by rw [hsz8.out]; decide) (Nat.le_trans hle.out hb2.size) ?_))
      intro v' w3 hown3 hg3 _
      rw [fx_len, strCells_fx] at hown3
      have H3 := Lib.hid hown3
      have B3 := Lib.hid ((hB1.out.trans (hb2.mono (by have := hB1.out.size; exact this))).grown hg3 (Nat.le_trans (by have := HS.out; simp) hb2.size) (fun k hk => by have := ((own_below HO.out hb2).lt k hk).1; have := HS.out; omega))
      clear hown3 hg3 hb2
      go_wp2_with fail
      go_meet
      case rel => exact ⟨Lib.hid (by rw [HN.out, HE.out, HK.out]; have := H3.out; simpa [encV, fx_len, Lib.byteCells] using this), B3⟩
    · have e3 : (r == 3) = false := by rw [beq_eq_false_iff_ne]; omega
      have e4 : (r == 4) = false := by rw [beq_eq_false_iff_ne]; omega
      have e5 : (r == 5) = true := by rw [beq_iff_eq]; omega
      have htg : tagOf kind = 80 := by unfold tagOf; simp [h]
      have hkv : It.kv ⟨kind, int, uint, text, down⟩ = .text text := by unfold It.kv; simp [h]
      have HK := Lib.hid hkv
      rw [htg] at HO hB1
      rw [htg]
      clear h hkv htg hr
      have hcell := Lib.hid (show ∀ W, Below w1.heap.size w1 W → W.cell? ⟨w.heap.size, 3, none⟩ = some (.string text) from fun W hW => (hW.cell (by have := HS.out; simp; omega)).trans c3)
      go_wp2_with fail
      go_loopg [3, 5] text.size (fun g s3 s5 wx => ∃ i : Nat, i + g = text.size ∧ s5 = .int .i64 i ∧ Hid (wx.ownsRow (w.heap.size + 1) 5 1 s3 (1 + (esc (text.data.toList.take i)).length) (Lib.byteCells (80 :: esc (text.data.toList.take i)))) ∧ Hid (Below w1.heap.size w1 wx))
      case atStart => exact ⟨0, by omega, rfl, HO, hB1⟩
      case round =>
        obtain ⟨i, hig, rfl, ho, hb⟩ := hrel
        have hel := esc_len (text.data.toList.take i)
        rw [List.length_take] at hel
        have hel2 : (esc (text.data.toList.take i)).length ≤ 2000 := by have := Nat.min_le_left i text.data.toList.length; omega
        clear hel
        have ct := hcell.out wr hb.out
        by_cases hlt : i < text.size
        · obtain ⟨g, rfl⟩ : ∃ g, gk = g + 1 := ⟨gk - 1, by omega⟩
          have hiz : (i : Int) < (text.size : Int) := by omega
          have hib : (i : Int) < 4000000000 := by omega
          obtain ⟨y, hy⟩ : ∃ y : UInt8, text[i]'hlt = y := ⟨_, rfl⟩
          have hyl := Lib.hid (show text.data.toList[i]? = some y by rw [← hy]; exact Lib.data_getElem? text i hlt)
          have hone := Lib.hid (cell_one_new wr (.int .u8 (y.toNat : Int)) 5)
          go_upto_region 13 with (at_builtin; refine wpList_append_own _ rfl _ _ 42 rfl (w.heap.size + 1) 5 i0 (.int .u8 0) 1 1 Tryd.underlying42 hi hz0 hz1 hz2 rfl (by decide) _ _ _ rfl ((ho.out).alloc _) ⟨wr.heap.size, 0, none⟩ 1 1 [.int .u8 (y.toNat : Int)] rfl rfl (hone.out) (by simp [Value.oneCell']) (by unfold maxLen; omega) (by omega) (by have := hb.out.size; have := HS.out; simp; omega) ?_)
          intro v' w2 hown2 hg2 _
          have B2 : Below w1.heap.size w1 w2 := (hb.out.alloc hb.out.size (.cells #[.int .u8 (y.toNat : Int)] 5)).grown hg2 (by have := hb.out.size; simp; omega) (fun k hk => by have := (ho.out.lt k hk).1; have := HS.out; omega)
          have ct2 := hcell.out w2 B2
          have H2 := Lib.hid hown2
          have B2 := Lib.hid B2
          by_cases hy0 : y = 0
          · have ty : ((y.toNat : Int) == 0) = true := by rw [hy0]; rfl
            have hone2 := Lib.hid (cell_one_new w2 (.int .u8 255) 5)
            have HY := Lib.hid hy0
            clear hy0
            go_wp2_with (at_builtin; refine wpList_append_own _ rfl _ _ 42 rfl (w.heap.size + 1) 5 i0 (.int .u8 0) 1 1 Tryd.underlying42 hi hz0 hz1 hz2 rfl (by decide) _ _ _ rfl ((H2.out).alloc _) ⟨w2.heap.size, 0, none⟩ 1 1 [.int .u8 255] rfl rfl (hone2.out) (by simp [Value.oneCell']) (by unfold maxLen; omega) (by omega) (by have := B2.out.size; have := HS.out; simp; omega) ?_)
            intro v3 w3 hown3 hg3 _
            have B3 := Lib.hid ((B2.out.alloc B2.out.size (.cells #[.int .u8 255] 5)).grown hg3 (by have := B2.out.size; simp; omega) (fun k hk => by have := (H2.out.lt k hk).1; have := HS.out; omega))
            have H3 := Lib.hid hown3
            clear hown2 hg2 hown3 hg3
            go_wp2_with fail
            go_roundg g
            case measure => omega
            case rel => exact ⟨i + 1, by omega, by simp, Lib.hid (by rw [esc_take hyl.out, HY.out, esc1_zero]; have := H3.out; rw [HY.out] at this; simpa [Lib.byteCells, Nat.add_assoc] using this), B3⟩
          · have ty : ((y.toNat : Int) == 0) = false := by
              rw [beq_eq_false_iff_ne]; intro e; apply hy0; apply UInt8.toNat_inj.1; have : (0 : UInt8).toNat = 0 := rfl; omega
            have HY := Lib.hid (esc1_other hy0)
            clear hy0 hown2 hg2
            go_wp2_with fail
            go_roundg g
            case measure => omega
            case rel => exact ⟨i + 1, by omega, by simp, Lib.hid (by rw [esc_take hyl.out, HY.out]; have := H2.out; simpa [Lib.byteCells, Nat.add_assoc] using this), B2⟩
        · obtain rfl : i = text.size := by omega
          have hiz : ¬ (text.size : Int) < (text.size : Int) := by omega
          have hall := Lib.hid (show text.data.toList.take text.size = text.data.toList from List.take_of_length_le (by rw [← Lib.size_eq]; exact Nat.le_refl _))
          have htwo := Lib.hid (cells_two_new wr (.int .u8 0) (.int .u8 0) 5)
          go_wp2_with (at_builtin; refine wpList_append_own _ rfl _ _ 42 rfl (w.heap.size + 1) 5 i0 (.int .u8 0) 1 1 Tryd.underlying42 hi hz0 hz1 hz2 rfl (by decide) _ _ _ rfl ((ho.out).alloc _) ⟨wr.heap.size, 0, none⟩ 2 2 [.int .u8 0, .int .u8 0] rfl rfl (htwo.out) (by simp [Value.oneCell']) (by unfold maxLen; omega) (by omega) (by have := hb.out.size; have := HS.out; simp; omega) ?_)
          intro v3 w3 hown3 hg3 _
          have B3 := Lib.hid ((hb.out.alloc hb.out.size (.cells #[.int .u8 0, .int .u8 0] 5)).grown hg3 (by have := hb.out.size; simp; omega) (fun k hk => by have := (ho.out.lt k hk).1; have := HS.out; omega))
          have H3 := Lib.hid hown3
          clear hown3 hg3
          go_wp2_with fail
          go_meet
          case rel => exact ⟨Lib.hid (by rw [HN.out, HE.out, HK.out]; have := H3.out; rw [hall.out] at this; simpa [encV, escT, Lib.byteCells, Nat.add_assoc, Nat.add_comm, Nat.add_left_comm] using this), B3⟩
  case rest =>
    obtain ⟨HO2, HB2⟩ := hcut
    clear HO
    obtain ⟨g, cap, rfl, hg1, hg2⟩ := own_slice HO2.out hpos
    cases down
    · have hd4 := HB2.out.cell (p := ⟨w.heap.size, 4, none⟩) (by have := HS.out; simp; omega)
      rw [c4] at hd4
      have hcv := convert_own (P := Tryd.prog) (src := 42) (dst := 9) HO2.out (by simp) Tryd.underlying42 Tryd.underlying5 Tryd.underlying9
      have hnz : (0 : Int) < (N : Int) := by omega
      have BF := Lib.hid (hB.out.trans (HB2.out.mono (by have := HS.out; omega)))
      clear c0 c1 c2 c3 c4
      go_wp2_with fail
      go_loopg [6] 0 (fun g s6 wx => g = 0 ∧ s6 = .int .i64 0 ∧ wx = wc)
      case atStart => exact ⟨rfl, rfl, rfl⟩
      case round =>
        obtain ⟨rfl, rfl, rfl⟩ := hrel
        go_wp2_with fail
        go_ret
        exact ⟨rfl, BF.out⟩
    · clear c0 c1 c2 c3
      go_wp2_with fail
      go_loopg [6] N (fun gk s6 wx => ∃ i : Nat, i + gk = N ∧ s6 = .int .i64 i ∧ Hid (wx.ownsRow (w.heap.size + 1) 5 1 (.slice (some ⟨g, 0, none⟩) N cap) N (Lib.byteCells (flipTo E i))) ∧ Hid (Below w1.heap.size w1 wx))
      case atStart => exact ⟨0, by omega, rfl, by rw [flipTo_zero]; exact HO2, HB2⟩
      case round =>
        obtain ⟨i, hig, rfl, ho, hb⟩ := hrel
        have hd4 := hb.out.cell (p := ⟨w.heap.size, 4, none⟩) (by have := HS.out; simp; omega)
        rw [c4] at hd4
        by_cases hlt : i < N
        · obtain ⟨q, rfl⟩ : ∃ q, gk = q + 1 := ⟨gk - 1, by omega⟩
          have hiz : (i : Int) < (N : Int) := by omega
          have hib : (i : Int) < 4000 := by omega
          have hiE : i < E.length := by have := HN.out; omega
          have hfz := ho.out.frozenAt i
          have hcl := ho.out.cellAt i (by omega)
          rw [flipTo_at hiE] at hcl
          have hset := Lib.hid (flipTo_set hiE)
          obtain ⟨y, hy⟩ : ∃ y, y = E[i] := ⟨_, rfl⟩
          rw [← hy] at hcl hset
          clear hy
          have hst := Lib.hid (ho.out.stored i (.int .u8 (((flip8 y).toNat : Nat) : Int))).1
          have hyl := UInt8.toNat_lt y
          have hsub : IntKind.u8.wrap (255 - (y.toNat : Int)) = (((flip8 y).toNat : Nat) : Int) := by rw [flip8_nat, IntKind.wrap_u8']; omega
          clear c4
          go_wp2_with fail
          go_roundg q
          case measure => omega
          case rel => exact ⟨i + 1, by omega, by simp, Lib.hid (by rw [← hset.out]; exact hst.out), Lib.hid (hb.out.setCell (show w1.heap.size ≤ g by have := HS.out; omega) _)⟩
        · obtain rfl : i = N := by omega
          have hiz : ¬ (i : Int) < (i : Int) := by omega
          have hall := flipTo_all E
          rw [← HN.out] at hall
          have hcv := convert_own (P := Tryd.prog) (src := 42) (dst := 9) ho.out (by simp) Tryd.underlying42 Tryd.underlying5 Tryd.underlying9
          rw [hall] at hcv
          have BF := Lib.hid (hB.out.trans (hb.out.mono (by have := HS.out; omega)))
          clear c4 hall
          go_wp2_with fail
          go_ret
          exact ⟨rfl, BF.out⟩
end Go.Proofs.YtnjbeemahfoaiaaDoor
