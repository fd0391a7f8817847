/-
  ChainLong from what is asked of the program's chains.
-/
import Derived.Test.YtahohdbkkcdmiaaChnLaws
import Derived.Test.YtahohdbkkcdmiaaBuildOne
import Derived.OwnWalk
import Derived.Laws.OwnMore
namespace Go.Proofs.Ytahohdbkkcdmiaa
open Go.RowKit
set_option linter.unusedVariables false
set_option linter.unnecessarySimpa false
set_option linter.unusedSimpArgs false
set_option maxRecDepth 100000

/-- Versions 1 to m of one value. -/
def longV (V : ByteArray) (m : Nat) : List Vr := (List.range m).map fun j => ⟨j + 1, false, V⟩
def longF (V : ByteArray) (j : Nat) : Value := if j % 3 = 0 then .int .u64 ((j / 3 : Nat) + 1 : Int) else if j % 3 = 1 then .bool false else .string V
def longC (V : ByteArray) (m : Nat) : List Value := (List.range (m * 3)).map (longF V)
theorem longC_succ (V : ByteArray) (m : Nat) : longC V (m + 1) = longC V m ++ [.int .u64 ((m : Int) + 1), .bool false, .string V] := by
  unfold longC
  rw [Nat.succ_mul, List.range_succ, List.range_succ, List.range_succ]
  simp only [List.map_append, List.map_cons, List.map_nil, List.append_assoc, List.cons_append, List.nil_append]
  congr 1
  unfold longF
  rw [if_pos (by omega), if_neg (by omega), if_pos (by omega), if_neg (by omega), if_neg (by omega), show m * 3 / 3 = m by omega]
theorem longV_get (V : ByteArray) {m i : Nat} (h : i < m) : (longV V m).getD i vr0 = ⟨i + 1, false, V⟩ := by
  unfold longV
  simp [List.getD, h]
theorem longV_right (V : ByteArray) (m : Nat) (hm : m ≤ 200) : rightB (longV V m) = true := by
  unfold rightB
  have hl : (longV V m).length = m := by simp [longV]
  rw [hl, Bool.and_eq_true, rises_iff]
  refine ⟨fun i hi => ?_, by simpa using hm⟩
  rw [hl] at hi
  unfold okAt prevT
  rw [longV_get V hi]
  refine ⟨?_, fun h => by cases h⟩
  by_cases h0 : i = 0
  · rw [if_pos h0]; simp only; omega
  · rw [if_neg h0, longV_get V (by omega)]; simp only; omega
theorem longV_all (V : ByteArray) (m : Nat) : allN (longV V m) = m * V.size := by
  unfold allN longV
  rw [List.map_map]
  induction m with
  | zero => simp
  | succ m ih => rw [List.range_succ, List.map_append, List.sum_append, ih, Nat.succ_mul]; simp
theorem longV_vers {w : World} {B m g cap : Nat} {V : ByteArray} (h : w.ownsRow B 38 3 (.slice (some ⟨g, 0, none⟩) m cap) m (longC V m)) (hm : m ≤ 200) (hV : V.size ≤ 1000) : IsVers w (some ⟨g, 0, none⟩) m cap (longV V m) := by
  refine ⟨⟨by simp [longV], fun i hi => ⟨g, 0, rfl, (h.lt g rfl).2, ?_⟩⟩, by unfold maxLen; omega⟩
  rw [longV_get V hi]
  have key : ∀ r, r < 3 → w.cell? ⟨g, 0 + i * 3 + r, none⟩ = some (longF V (i * 3 + r)) := fun r hr => by
    rw [Nat.zero_add, h.cellAt (i * 3 + r) (by omega)]
    unfold longC
    simp [show i * 3 + r < m * 3 by omega]
  refine ⟨by simp only; omega, by simp only; unfold maxLen; omega, ?_, ?_, ?_⟩
  · have := key 0 (by decide)
    rw [Nat.add_zero, Nat.add_zero] at this
    rw [this]
    unfold longF
    rw [if_pos (by omega), show i * 3 / 3 = i by omega]
    simp
  · rw [key 1 (by decide)]
    unfold longF
    rw [if_neg (by omega), if_pos (by omega)]
  · rw [key 2 (by decide)]
    unfold longF
    rw [if_neg (by omega), if_neg (by omega)]

theorem verInfo : (Try.prog.info? 38).map (fun i => (i.zero, i.size, i.bytes)) = some (some (.agg #[.int .u64 0, .bool false, .string ⟨#[]⟩]), 3, 32) := by kernel_rfl
def fillB (c : UInt8) (m : Nat) (k : Nat) : List UInt8 := List.replicate m c ++ List.replicate (k - m) 0
theorem fillB_set (c : UInt8) {m k : Nat} (h : m < k) : (Lib.byteCells (fillB c m k)).set m (.int .u8 (c.toNat : Int)) = Lib.byteCells (fillB c (m + 1) k) := by
  have e : k - m = (k - (m + 1)) + 1 := by omega
  unfold fillB Lib.byteCells
  rw [e, List.replicate_succ, List.map_append, List.map_cons, List.set_append_right _ _ (by simp), List.map_append]
  simp [List.replicate_succ']

theorem own_belowC {w w' : World} {base e n sz : Nat} {v : Value} {xs : List Value} (h : w.ownsRow base e sz v n xs) (hb : Below w.heap.size w w') : w'.ownsRow base e sz v n xs := by
  refine ⟨h.1, ?_⟩
  rcases h.2 with hn | ⟨g, cap, cur, rfl, hb0, hgg, rest⟩
  · exact .inl hn
  · exact .inr ⟨g, cap, cur, rfl, hb0, (hb.block g (Array.getElem?_eq_some_iff.1 hgg).1).trans hgg, rest⟩
theorem longV_ok {V : ByteArray} {w : World} {a : Option Addr} {q c : Nat} (h : IsVers w a q c (longV V q)) (hq : q = 200) : okV (longV V q) := ⟨longV_right V q (by omega), vers_mem h⟩
theorem longV_vals {V : ByteArray} {q n : Nat} (hV : V.size ≤ n) : ∀ v ∈ longV V q, v.val.size ≤ n := fun v hv => by
  unfold longV at hv
  obtain ⟨j, _, rfl⟩ := List.mem_map.1 hv
  exact hV
/-- What stands behind both loops. -/
structure LongEnd (wr : World) (v : Value) (q m : Nat) (S : ByteArray) : Prop where
  enc : Calls Try.prog 9 #[v] wr fun e w' => e = .returned (.tuple #[.string S, .int .i64 0]) ∧ Below wr.heap.size wr w'
  long : 60000 < 200 * m → ∀ W, Calls Try.prog 12 #[.string S] W fun e w' => ∃ a c, e = .returned (.tuple #[.slice a 0 c, .int .i64 3]) ∧ Below W.heap.size W w'
  back : ¬ 60000 < 200 * m → ∀ W, Below wr.heap.size wr W → Calls Try.prog 12 #[.string S] W fun e w' => ∃ a c, e = .returned (.tuple #[.slice a q c, .int .i64 0]) ∧ Below W.heap.size W w' ∧
    Calls Try.prog 14 #[.slice a q c, v] w' fun e w'' => e = .returned (.bool true) ∧ ∃ n, w'' = w'.drewN n
theorem long_end (C : ChnC) {wr : World} {a : Option Addr} {q c m : Nat} {V : ByteArray} (h : IsVers wr a q c (longV V q)) (hq : q = 200) (hV : V.size = m) (hm : m < 500) : LongEnd wr (.slice a q c) q m (chainS (longV V q)) := by
  have hok := longV_ok h hq
  have hrt := hok.1
  have hsv : ∀ v ∈ longV V q, v.val.size ≤ 60000 := longV_vals (by omega)
  have hall : allN (longV V q) = 200 * m := by rw [longV_all, hq, hV]
  have hlen : (longV V q).length = q := by simp [longV]
  obtain ⟨L, hL⟩ : ∃ L, L = longV V q := ⟨_, rfl⟩
  rw [← hL] at hok hrt hsv hall hlen h ⊢
  clear hL
  refine ⟨C.encYes a q c L wr h hrt hsv, fun hbig W => ?_, fun hbig W hW => ?_⟩
  · refine (C.decLong L W hok (by omega) hsv).mono ?_
    rintro e w' ⟨a6, c6, rfl, _, hb⟩
    exact ⟨a6, c6, rfl, hb⟩
  · refine (C.decYes L W hok (by omega)).mono ?_
    rintro e w' ⟨a6, c6, rfl, hi, hb⟩
    rw [hlen] at hi ⊢
    exact ⟨a6, c6, rfl, hb, vsame_yes a6 a q c6 c L w' hi (vers_below h (hW.trans (hb.mono hW.size)))⟩

set_option maxHeartbeats 4000000 in
theorem chainLong_of (C : ChnC) (n : Nat) (hn : n < 65536) (c : UInt8) (w : World) :
    Calls Try.prog 6 #[.int .u16 (n : Int), .int .u8 (c.toNat : Int)] w fun e w' => e = .returned (.bool true) ∧ Below w.heap.size w w' := by
  have haw := Lib.hid (cawake_any C)
  obtain ⟨k, hk⟩ : ∃ k : Nat, (n : Int) % 500 = (k : Int) := ⟨n % 500, by omega⟩
  have hk5 : k < 500 := by omega
  obtain ⟨i0, hi, hz0, hz1, hz2⟩ := info_parts u8info
  have hcl := UInt8.toNat_lt c
  go_enter Try.func6, Try.ntmps6
  go_upto_region 5 with (first
    | (go_at_call 7; refine (haw.out _).mono ?_; rintro e w1 ⟨rfl, hb1⟩; have hb1 := Lib.hid hb1)
    | (at_make; refine wpList_make_full _ rfl _ _ 43 rfl w1.heap.size 5 i0 (.int .u8 0) 1 Try.underlying43 hi hz0 hz1 _ _ _ _ k rfl rfl rfl rfl ?c1 ?c2 ?c3 ?c4))
  case c1 => rw [hz2]; omega
  case c2 => unfold maxLen; omega
  case c3 => exact Nat.le_refl _
  case c4 =>
    intro w2 hown2 hg2
    have e0 : (madeCells #[Value.int .u8 0] k).toList = Lib.byteCells (fillB c 0 k) := by
      rw [toList_madeCells_one]; unfold fillB Lib.byteCells; simp
    have hown2 : w2.ownsRow w1.heap.size 5 1 (.slice (some ⟨w1.heap.size, 0, none⟩) k k) k (Lib.byteCells (fillB c 0 k)) := by rw [← e0]; simpa using hown2
    have hb2 := Lib.hid (show Below w1.heap.size w1 w2 from (Below.refl _ _).grown hg2 (Nat.le_refl _) (by simp))
    have HO2 := Lib.hid hown2
    obtain ⟨B, hB⟩ : ∃ B, B = w1.heap.size := ⟨_, rfl⟩
    rw [← hB] at HO2 hb2 ⊢
    have hwB := Lib.hid (show w.heap.size ≤ B by rw [hB]; exact hb1.out.size)
    clear hown2 hg2 e0 hB
    go_wp2_with fail
    go_loopg [7] k (fun g s7 wx => ∃ m : Nat, m + g = k ∧ s7 = .int .i64 m ∧ Hid (wx.ownsRow B 5 1 (.slice (some ⟨B, 0, none⟩) k k) k (Lib.byteCells (fillB c m k))) ∧ Hid (Below B w1 wx))
    case atStart => exact ⟨0, by omega, rfl, HO2, hb2⟩
    case round =>
      obtain ⟨m, hmg, rfl, hown, hb⟩ := hrel
      cases gk with
      | succ g =>
        have hlt : m < k := by omega
        have hltz : (m : Int) < (k : Int) := by omega
        have hfz := hown.out.frozenAt m
        have hc0 := hown.out.cellAt m (by omega)
        have hgl : (Lib.byteCells (fillB c m k))[m]? = some (.int .u8 0) := by
          unfold fillB Lib.byteCells
          rw [List.map_append, List.getElem?_append_right (by simp), List.length_map, List.length_replicate, Nat.sub_self, show k - m = (k - m - 1) + 1 by omega, List.replicate_succ]
          rfl
        rw [hgl] at hc0
        have hst := Lib.hid (hown.out.stored m (.int .u8 (c.toNat : Int))).1
        have hnx := Lib.hid (fillB_set c hlt)
        clear hgl
        go_wp2_with fail
        go_roundg g
        case measure => omega
        case rel => exact ⟨m + 1, by omega, by go_num, by rw [← hnx.out]; exact hst, Lib.hid (hb.out.setCell (Nat.le_refl _) _)⟩
      | zero =>
        obtain rfl : m = k := by omega
        obtain ⟨V, hV⟩ : ∃ V : ByteArray, V = ⟨(List.replicate m c).toArray⟩ := ⟨_, rfl⟩
        have hVs : V.size = m := by rw [hV]; show (List.replicate m c).toArray.size = m; simp
        have HCV := Lib.hid (show ∀ W, Below wr.heap.size wr W → (convert 43 9 (.slice (some ⟨B, 0, none⟩) m m)).run Try.prog W = .ok (.string V) W from fun W hb => by
          have := convert_row (own_belowC hown.out hb)
          rw [show fillB c m m = List.replicate m c by unfold fillB; simp] at this
          rw [hV]; exact this)
        have HB := Lib.hid (hb1.out.trans (hb.out.mono hwB.out))
        have hVl : V.size ≤ 1000 := by omega
        have hall := Lib.hid (longV_all V 200)
        rw [hVs] at hall
        have HVS := Lib.hid hVs
        clear hV hVs hown hb HO2 hb1 hb2 hwB
        obtain ⟨i1, hj, hy0, hy1, hy2⟩ := info_parts verInfo
        obtain ⟨W0, rfl⟩ : ∃ W0, W0 = wr := ⟨_, rfl⟩
        go_wp2_with fail
        go_loopg [8, 9] 200 (fun g s8 s9 wx => ∃ (q : Nat) (a8 : Option Addr) (c8 : Nat), q + g = 200 ∧ s8 = .slice a8 q c8 ∧ s9 = .int .i64 q ∧ Hid (wx.ownsRow W0.heap.size 38 3 (.slice a8 q c8) q (longC V q)) ∧ Hid (Below W0.heap.size W0 wx))
        case atStart => exact ⟨0, none, 0, by omega, rfl, rfl, Lib.hid (World.ownsRow_nil _ _ _ _), Lib.hid (Below.refl _ _)⟩
        case round =>
          obtain ⟨q, a8, c8, hqg, rfl, rfl, hown, hb⟩ := hrel
          cases gk with
          | succ g =>
            have hq : q < 200 := by omega
            have hqz : (q : Int) < 200 := by omega
            have hqm : ((q : Int) + 1) % 18446744073709551616 = (q : Int) + 1 := by omega
            have hcv := HCV.out wr hb.out
            have hnx := Lib.hid (longC_succ V q)
            have hc3 := Lib.hid (show ∀ (W : World), ∀ j u, [Value.int .u64 ((q : Int) + 1), .bool false, .string V][j]? = some u → (W.alloc (.cells #[.int .u64 ((q : Int) + 1), .bool false, .string V] 38)).cell? ((⟨W.heap.size, 0, none⟩ : Addr).add j) = some u from fun W j u h => by
              have hadd : (⟨W.heap.size, 0, none⟩ : Addr).add j = ⟨W.heap.size, j, none⟩ := by unfold Addr.add; split <;> simp_all
              rw [hadd, cell_of_row _ _ _ _ _ _ (heap_alloc_new W _)]
              simpa using h)
            have q1 := Lib.hid (hown.out.alloc (.cells #[.int .u64 ((q : Int) + 1), .bool false, .string V] 38))
            have q3 := Lib.hid (show ∀ u ∈ [Value.int .u64 ((q : Int) + 1), .bool false, .string V], u.oneCell' = true by simp [Value.oneCell'])
            have q4 := Lib.hid (show (q + 1) * 32 ≤ 140737488355328 by omega)
            have q5 := Lib.hid (show q + 1 ≤ maxLen by unfold maxLen; omega)
            have q6 := Lib.hid (show W0.heap.size ≤ (wr.alloc (.cells #[.int .u64 ((q : Int) + 1), .bool false, .string V] 38)).heap.size from Nat.le_trans hb.out.size (by simp))
            have q8 := Lib.hid (show Below W0.heap.size W0 (wr.alloc (.cells #[.int .u64 ((q : Int) + 1), .bool false, .string V] 38)) from hb.out.alloc hb.out.size _)
            go_wp2_with (at_builtin; refine wpList_append_own _ rfl _ _ 22 rfl W0.heap.size 38 i1 (.agg #[.int .u64 0, .bool false, .string ⟨#[]⟩]) 3 32 Try.underlying22 hj hy0 hy1 hy2 rfl (by decide) (.slice a8 q c8) q (longC V q) rfl q1.out ⟨wr.heap.size, 0, none⟩ 1 1 [.int .u64 ((q : Int) + 1), .bool false, .string V] rfl rfl (hc3.out wr) q3.out q5.out q4.out q6.out ?_; intro v9 w9 hown9 hg9 hn9; obtain ⟨g9, c9, rfl, _, _⟩ := own_slice hown9 (Nat.succ_pos q); have hown9 := Lib.hid hown9; have hb9 := Lib.hid (q8.out.grown hg9 q6.out (fun k hk => (hown.out.lt k hk).1)))
            go_roundg g
            case measure => omega
            case rel => exact ⟨q + 1, some ⟨g9, 0, none⟩, c9, by omega, rfl, by go_num, Lib.hid (by rw [hnx.out]; exact hown9.out), hb9⟩
          | zero =>
            have hq200 : q = 200 := by omega
            have hqz : ¬ (q : Int) < 200 := by omega
            have hV8 : IsVers wr a8 q c8 (longV V q) := by
              obtain ⟨g8, cc8, e8, hg8, _⟩ := own_slice hown.out (by omega)
              injection e8 with e1 e2 e3
              subst e1 e3
              exact longV_vers hown.out (by omega) hVl
            have HE := Lib.hid (long_end C hV8 hq200 HVS.out hk5)
            obtain ⟨S, hS⟩ : ∃ S, S = chainS (longV V q) := ⟨_, rfl⟩
            rw [← hS] at HE
            have HB2 := Lib.hid (HB.out.trans (hb.out.mono HB.out.size))
            have hwl := Lib.hid (show w.heap.size ≤ wr.heap.size from HB2.out.size)
            clear hS hV8 hown hb HB hVl hall HVS HCV hq200 hj hy0 hy1 hy2 hi hz0 hz1 hz2 haw hcl
            by_cases hbig : 60000 < 200 * m
            · have hbz : (60000 : Int) < 200 * (m : Int) := by omega
              have HD := Lib.hid (HE.out.long hbig)
              have HEn := Lib.hid HE.out.enc
              clear HE hbig
              go_wp2_with (first
                | (go_at_call 9; refine HEn.out.mono ?_; rintro e w5 ⟨rfl, hb5⟩; have hb5 := Lib.hid hb5)
                | (go_at_call 12; refine (HD.out _).mono ?_; rintro e w6 ⟨a6, c6, rfl, hb6⟩; have hb6 := Lib.hid (hb5.out.trans (hb6.mono hb5.out.size))))
              go_ret
              exact ⟨rfl, HB2.out.trans (hb6.out.mono HB2.out.size)⟩
            · have hbz : ¬ (60000 : Int) < 200 * (m : Int) := by omega
              have HD := Lib.hid (HE.out.back hbig)
              have HEn := Lib.hid HE.out.enc
              clear HE hbig
              go_wp2_with (first
                | (go_at_call 9; refine HEn.out.mono ?_; rintro e w5 ⟨rfl, hb5⟩; have hb5 := Lib.hid hb5)
                | (go_at_call 12; refine (HD.out _ hb5.out).mono ?_; rintro e w6 ⟨a6, c6, rfl, hb6, hs6⟩; have hs6 := Lib.hid hs6; have hb6 := Lib.hid (hb5.out.trans (hb6.mono hb5.out.size)))
                | (go_at_call 14; refine hs6.out.mono ?_; rintro e w7 ⟨rfl, n7, rfl⟩))
              go_ret
              exact ⟨rfl, below_drewV (HB2.out.trans (hb6.out.mono HB2.out.size)) n7⟩
end Go.Proofs.Ytahohdbkkcdmiaa
