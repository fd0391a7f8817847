/-
  The program's At: a search that halves, and the version that stands there.
-/
import Derived.Test.YtahohdbkkcdmiaaChnPEnc
import Derived.Deep.LoopGhost
namespace Go.Proofs.Ytahohdbkkcdmiaa
open Go.RowKit
set_option linter.unusedVariables false
set_option linter.unnecessarySimpa false
set_option linter.unusedSimpArgs false
set_option maxRecDepth 100000

/-- The function value that At hands on. -/
def cbV (ba bx : Nat) : Array Value := #[.pointer (some ⟨ba, 0, none⟩), .pointer (some ⟨bx, 0, none⟩)]

set_option maxHeartbeats 4000000 in
theorem search_any (n ba bx : Nat) (p : Nat → Bool) (hn : n ≤ 1000000000) (w : World)
    (hf : ∀ W, Below w.heap.size w W → ∀ i : Nat, i < n → Calls Try.prog 29 #[.int .i64 i, .pointer (some ⟨ba, 0, none⟩), .pointer (some ⟨bx, 0, none⟩)] W fun e w' => e = .returned (.bool (p i)) ∧ Below W.heap.size W w')
    (hmono : ∀ a b, a ≤ b → b < n → p a = true → p b = true) :
    Calls Try.prog 28 #[.int .i64 n, .func (.func 29) #[] #[.pointer (some ⟨ba, 0, none⟩), .pointer (some ⟨bx, 0, none⟩)]] w fun e w' => ∃ k : Nat, e = .returned (.int .i64 k) ∧ k ≤ n ∧ (∀ j, j < k → p j = false) ∧ (∀ j, k ≤ j → j < n → p j = true) ∧ Below w.heap.size w w' := by
  have HF := Lib.hid hf
  have HM := Lib.hid hmono
  clear hf hmono
  go_enter Try.func28, Try.ntmps28
  go_wp2_with fail
  go_loopg [5, 6] n (fun g s5 s6 wx => ∃ lo hi : Nat, s5 = .int .i64 lo ∧ s6 = .int .i64 hi ∧ lo ≤ hi ∧ hi ≤ n ∧ hi - lo ≤ g ∧ Hid (∀ j, j < lo → p j = false) ∧ Hid (∀ j, hi ≤ j → j < n → p j = true) ∧ Hid (Below w.heap.size w wx))
  case atStart => exact ⟨0, n, rfl, rfl, by omega, by omega, by omega, Lib.hid (fun j h => absurd h (by omega)), Lib.hid (fun j h1 h2 => absurd h1 (by omega)), Lib.hid (Below.refl _ _)⟩
  case round =>
    obtain ⟨lo, hi, rfl, rfl, hlh, hin, hg, hlo, hhi, hb⟩ := hrel
    by_cases hlt : lo < hi
    · have hltz : (lo : Int) < (hi : Int) := by omega
      obtain ⟨m, hm⟩ : ∃ m, m = (lo + hi) / 2 := ⟨_, rfl⟩
      have hmz : ((lo : Int) + (hi : Int)) / 2 = (m : Int) := by omega
      have hm1 : lo ≤ m := by omega
      have hm2 : m < hi := by omega
      have HC := Lib.hid (HF.out wr hb.out m (by omega))
      cases hp : p m with
      | false =>
        rw [hp] at HC
        have HL := Lib.hid (show ∀ j, j < m + 1 → p j = false from fun j hj => by
          cases h : p j with
          | false => rfl
          | true => have := HM.out j m (by omega) (by omega) h; rw [hp] at this; cases this)
        clear hp hm hlo
        go_wp2_with (go_at_call 29; (with_reducible refine HC.out.mono ?_); rintro e w1 ⟨rfl, hb1⟩; have HB1 := Lib.hid (hb.out.trans (hb1.mono hb.out.size)))
        go_roundg (hi - (m + 1))
        case measure => omega
        case rel => exact ⟨m + 1, hi, by go_num, rfl, by omega, hin, by omega, HL, hhi, HB1⟩
      | true =>
        rw [hp] at HC
        have HL := Lib.hid (show ∀ j, m ≤ j → j < n → p j = true from fun j h1 h2 => HM.out m j h1 h2 hp)
        clear hp hm hhi
        go_wp2_with (go_at_call 29; (with_reducible refine HC.out.mono ?_); rintro e w1 ⟨rfl, hb1⟩; have HB1 := Lib.hid (hb.out.trans (hb1.mono hb.out.size)))
        go_roundg (m - lo)
        case measure => omega
        case rel => exact ⟨lo, m, rfl, by go_num, by omega, by omega, by omega, hlo, HL, HB1⟩
    · obtain rfl : lo = hi := by omega
      have hltz : ¬ (lo : Int) < (lo : Int) := by omega
      go_wp2_with fail
      go_ret
      exact ⟨lo, rfl, hin, hlo.out, hhi.out, hb.out⟩

set_option maxHeartbeats 1000000 in
theorem above_any (i ba bx b off len cap t z : Nat) (W : World) (hi : i < len) (h1 : W.cell? ⟨ba, 0, none⟩ = some (.slice (some ⟨b, off, none⟩) len cap)) (h2 : W.cell? ⟨bx, 0, none⟩ = some (.int .u64 (t : Int))) (h3 : W.cell? ⟨b, off + i * 3, none⟩ = some (.int .u64 (z : Int))) :
    Calls Try.prog 29 #[.int .i64 i, .pointer (some ⟨ba, 0, none⟩), .pointer (some ⟨bx, 0, none⟩)] W fun e w' => e = .returned (.bool (decide (t < z))) ∧ Below W.heap.size W w' := by
  have hiz : (i : Int) < (len : Int) := by omega
  go_enter Try.func29, Try.ntmps29
  go_wp2_with fail
  go_quiet (fail)
  go_wp2_with fail
  go_ret
  exact ⟨by simp, below_drewV (Below.refl _ _) nq⟩

theorem clone_any (s : ByteArray) (w : World) (h : s.size ≤ 281474976710656) : Calls Try.prog 30 #[.string s] w fun e w' => e = .returned (.string s) ∧ Below w.heap.size w w' := by
  have H := Lib.hid (Try.stringslite_Clone s w h)
  go_enter Try.func30, Try.ntmps30
  go_wp2_with (go_at_call 38; refine H.out.mono ?_; rintro e w1 ⟨rfl, hb1⟩)
  go_ret
  exact ⟨rfl, hb1⟩

theorem time_mono {zs : List Vr} (h : risesB 0 zs = true) : ∀ d a, a + d < zs.length → (zs.getD a vr0).time ≤ (zs.getD (a + d) vr0).time := by
  intro d
  induction d with
  | zero => intro a _; exact Nat.le_refl _
  | succ d ih =>
    intro a ha
    have h1 := ih a (by omega)
    have h2 := ((rises_iff zs 0).1 h (a + d + 1) (by omega)).1
    unfold prevT at h2
    rw [if_neg (by omega), Nat.add_sub_cancel] at h2
    rw [show a + (d + 1) = a + d + 1 by omega]
    omega
theorem atV_none : ∀ (l : List Vr) (t : Nat), (∀ v ∈ l, t < v.time) → atV l t = none
  | [], _, _ => rfl
  | v :: l, t, h => by
    rw [atV, atV_none l t (fun x hx => h x (by simp [hx]))]
    simp only
    rw [if_neg (by have := h v (by simp); omega)]
theorem atV_split {zs : List Vr} {t k : Nat} (hk : k ≤ zs.length) (h1 : ∀ j, j < k → decide (t < (zs.getD j vr0).time) = false) (h2 : ∀ j, k ≤ j → j < zs.length → decide (t < (zs.getD j vr0).time) = true) :
    (k = 0 → atV zs t = none) ∧ ∀ j, k = j + 1 → atV zs t = some (zs.getD j vr0) := by
  have hd : atV (zs.drop k) t = none := atV_none _ _ fun v hv => by
    obtain ⟨i, hi, rfl⟩ := List.mem_iff_getElem.1 hv
    rw [List.length_drop] at hi
    have := h2 (k + i) (by omega) (by omega)
    rw [List.getD, List.getElem?_eq_getElem (by omega), Option.getD_some, decide_eq_true_iff] at this
    rw [List.getElem_drop]
    exact this
  refine ⟨fun h0 => by rw [h0] at hd; exact hd, fun j hj => atV_found (by omega) (by rw [← hj]; exact hd) ?_⟩
  have := h1 j (by omega)
  rw [decide_eq_false_iff_not] at this
  omega

theorem verSize : (Try.prog.info? 38).map (·.size) = some 3 := by kernel_rfl
set_option maxHeartbeats 4000000 in
theorem at_any (a : Option Addr) (len cap : Nat) (zs : List Vr) (t : Nat) (w : World) (hz : IsVers w a len cap zs) (hr : rightB zs = true) (hv : ∀ v ∈ zs, v.val.size ≤ 60000) (ht : t < 18446744073709551616) :
    Calls Try.prog 15 #[.slice a len cap, .int .u64 (t : Int)] w fun e w' => e = .returned (atOut (atV zs t)) ∧ Below w.heap.size w w' := by
  have hl200 : len ≤ 200 := by rw [← hz.1.1]; exact (right_parts hr).2
  have hrs := (right_parts hr).1
  have hzl := hz.1.1
  obtain ⟨A, hA⟩ : ∃ A, A = w.heap.size := ⟨_, rfl⟩
  obtain ⟨w1, hw1⟩ : ∃ w1, w1 = ((w.alloc (.cells #[.slice a len cap] 22)).alloc (.cells #[.int .u64 (t : Int)] 34)).alloc (.cells #[.int .u64 0, .bool false, .string ⟨#[]⟩] 38) := ⟨_, rfl⟩
  have r0 : w1.heap[A]? = some (.cells #[.slice a len cap] 22 (0, 0)) := by
    rw [hw1, hA, heap_alloc_old _ _ (by simp; omega)]; exact heap_alloc2_old _ _ _
  have r1 : w1.heap[A + 1]? = some (.cells #[.int .u64 (t : Int)] 34 (0, 0)) := by
    rw [hw1, hA, heap_alloc_old _ _ (by simp)]; exact heap_alloc2_new _ _ _
  have r2 : w1.heap[A + 1 + 1]? = some (.cells #[.int .u64 0, .bool false, .string ⟨#[]⟩] 38 (0, 0)) := by
    rw [hw1, hA]; have := heap_alloc_new ((w.alloc (.cells #[.slice a len cap] 22)).alloc (.cells #[.int .u64 (t : Int)] 34)) (.cells #[.int .u64 0, .bool false, .string ⟨#[]⟩] 38); simpa using this
  have hbel : Below w.heap.size w w1 := by rw [hw1]; exact (((Below.refl _ _).alloc (Nat.le_refl _) _).alloc (by simp) _).alloc (by simp; omega) _
  have hcell0 : ∀ W, Below w1.heap.size w1 W → W.cell? ⟨A, 0, none⟩ = some (.slice a len cap) := fun W hW => by
    rw [cell_of_row _ _ _ _ _ _ ((hW.block A (Array.getElem?_eq_some_iff.1 r0).1).trans r0)]; rfl
  have hcell1 : ∀ W, Below w1.heap.size w1 W → W.cell? ⟨A + 1, 0, none⟩ = some (.int .u64 (t : Int)) := fun W hW => by
    rw [cell_of_row _ _ _ _ _ _ ((hW.block (A + 1) (Array.getElem?_eq_some_iff.1 r1).1).trans r1)]; rfl
  have HS := Lib.hid (search_any len A (A + 1) (fun j => decide (t < (zs.getD j vr0).time)) (by omega) w1 (fun W hW i hi => by
      obtain ⟨b, off, rfl, hbl, h1, c0, c1, c2⟩ := ver_at hz (hbel.trans (hW.mono hbel.size)) hi
      exact above_any i A (A + 1) b off len cap t _ W hi (hcell0 W hW) (hcell1 W hW) c0)
    (fun x y hxy hy h => by
      simp only [decide_eq_true_iff] at h ⊢
      obtain ⟨d, rfl⟩ : ∃ d, y = x + d := ⟨y - x, by omega⟩
      exact Nat.lt_of_lt_of_le h (time_mono hrs d x (by omega))))
  have HC0 := Lib.hid hcell0
  have HZ := Lib.hid hz
  have HV := Lib.hid hv
  have HB := Lib.hid hbel
  have R2 := Lib.hid (fun W (hW : Below w1.heap.size w1 W) => (hW.block (A + 1 + 1) (Array.getElem?_eq_some_iff.1 r2).1).trans r2)
  have HA2 := Lib.hid (show w.heap.size ≤ A + 1 + 1 by omega)
  have hl2 : (len : Int) % 18446744073709551616 = len := by omega
  have c0 := hcell0 w1 (Below.refl _ _)
  clear hz hr hrs hv r0 r1 r2 hbel hcell0 hcell1
  go_enter Try.func15, Try.ntmps15
  go_upto_region 1 with fail
  rw [← hw1, ← hA]
  clear hw1 hA
  go_upto_region 2 with (go_at_call 28; (with_reducible refine HS.out.mono ?_); rintro e w2 ⟨k, rfl, hk, hk1, hk2, hb2⟩)
  have c2 := HC0.out w2 hb2
  obtain ⟨hat0, hat1⟩ := atV_split (t := t) (by rw [hzl]; exact hk) hk1 (by rw [hzl]; exact hk2)
  have HB2 := Lib.hid hb2
  clear hk1 hk2 hb2 HC0 HS c0
  rcases Nat.eq_zero_or_pos k with rfl | hpos
  · have he := Lib.hid (hat0 rfl)
    clear hat0 hat1
    have RR := Lib.hid (R2.out _ HB2.out)
    have hone : (#[Value.int .u64 0, .bool false, .string ⟨#[]⟩]).all (·.oneCell') = true := by simp [Value.oneCell']
    go_wp2_with (refine wpList_store_row rfl 38 _ _ rfl (A + 1 + 1) #[.int .u64 0, .bool false, .string ⟨#[]⟩] rfl rfl 38 #[.int .u64 0, .bool false, .string ⟨#[]⟩] RR.out verSize rfl hone ?_)
    refine bodyPost_ret (results_row_tmpV rfl _ _ (A + 1 + 1) 38 _ (0, 0) _ _ rfl (setRow_heap _ _ _ _ _ _ RR.out) Try.underlying38 rfl verSize rfl) rfl ⟨by rw [he.out]; rfl, below_setRow (HB.out.trans (HB2.out.mono HB.out.size)) HA2.out _⟩
  · obtain ⟨j, rfl⟩ : ∃ j, k = j + 1 := ⟨k - 1, by omega⟩
    have he := Lib.hid (hat1 j rfl)
    clear hat0 hat1
    have hil : j < len := by omega
    obtain ⟨b, off, rfl, hbl, ht1, c0, c1, cv⟩ := ver_at HZ.out (HB.out.trans (HB2.out.mono HB.out.size)) hil
    have hvs : (zs.getD j vr0).val.size ≤ 60000 := HV.out _ (by rw [List.getD, List.getElem?_eq_getElem (by omega)]; exact List.getElem_mem _)
    obtain ⟨z, hzz⟩ : ∃ z, z = zs.getD j vr0 := ⟨_, rfl⟩
    rw [← hzz] at he c0 c1 cv hvs
    obtain ⟨zt, zg, zv⟩ := z
    simp only at c0 c1 cv hvs
    obtain ⟨k, hk⟩ : ∃ k, k = j + 1 := ⟨_, rfl⟩
    rw [← hk]
    have hkj : (k : Int) - 1 = (j : Int) := by omega
    have hk0 : ((k : Int) == 0) = false := by rw [beq_eq_false_iff_ne]; omega
    have hjz : (j : Int) < (len : Int) := by omega
    have hj0 : (0 : Int) ≤ (j : Int) := by omega
    have hkz : (k : Int) ≤ 200 := by omega
    have HC := Lib.hid (clone_any zv)
    obtain ⟨cs, hcs⟩ : ∃ cs : Array Value, cs = #[.int .u64 (zt : Int), .bool zg, .string zv] := ⟨_, rfl⟩
    have hcsz : (Try.prog.info? 38).map (·.size) = some cs.size := by rw [hcs]; exact verSize
    have hone : cs.all (·.oneCell') = true := by rw [hcs]; simp [Value.oneCell']
    have r4 := heap_alloc_new w2 (.cells cs 38)
    have b4 := (Below.refl w2.heap.size w2).alloc (Nat.le_refl _) (.cells cs 38)
    obtain ⟨v, hv⟩ : ∃ v, v = w2.heap.size := ⟨_, rfl⟩
    obtain ⟨w4, hw4⟩ : ∃ w4, w4 = w2.alloc (.cells cs 38) := ⟨_, rfl⟩
    rw [← hw4] at r4 b4
    rw [← hv] at r4
    have hcs2 := hcs
    rw [hcs] at hw4
    have B4 := Lib.hid (HB2.out.trans (b4.mono HB2.out.size))
    have hvA : A + 1 + 1 < v := by
      have := (Array.getElem?_eq_some_iff.1 (R2.out _ (Below.refl _ _))).1
      have h3 := HB2.out.size
      omega
    have R4 := Lib.hid r4
    have HVW := Lib.hid (show w1.heap.size ≤ v by rw [hv]; exact HB2.out.size)
    have hcs0 := Lib.hid hcs
    clear hzz hk hcs hcs2 b4 r4
    go_upto_region 5 with fail
    rw [← hw4, ← hv]
    clear hw4 hv
    have HR2 := Lib.hid (fun W (h : Below w4.heap.size w4 W) => R2.out W (B4.out.trans (h.mono B4.out.size)))
    have cv4 := (cells3 (hcs0.out ▸ R4.out)).2.2
    go_upto_region 6 with (go_at_call 30; (with_reducible refine (HC.out _ (by omega)).mono ?_); rintro e w5 ⟨rfl, hb5⟩; have hr5 := (hb5.block v (Array.getElem?_eq_some_iff.1 R4.out).1).trans R4.out; have hf5 : w5.frozen? ⟨v, 2, none⟩ = false := (by simp [World.frozen?, hr5]); have R5 := Lib.hid hr5; have hc5 := (cells3 (hcs0.out ▸ hr5)).2.2; clear hr5)
    have hr6 : (w5.setCell ⟨v, 2, none⟩ (.string zv)).heap[v]? = some (.cells cs 38 (0, 0)) := by
      rw [heap_setCell_same w5 v 2 _ _ _ R5.out, hcs0.out]; rfl
    have hB5 := B4.out.trans (hb5.mono B4.out.size)
    have hB6 : Below w1.heap.size w1 (w5.setCell ⟨v, 2, none⟩ (.string zv)) := hB5.setCell HVW.out _
    obtain ⟨w6, hw6⟩ : ∃ w6, w6 = w5.setCell ⟨v, 2, none⟩ (.string zv) := ⟨_, rfl⟩
    rw [← hw6] at hr6 hB6 ⊢
    have R6 := Lib.hid hr6
    have B6 := Lib.hid hB6
    have RR := Lib.hid (R2.out _ hB6)
    clear hw6 hr6 hB5 hB6 hf5 hc5 cv4
    go_wp2_with (first
      | (refine wpList_load_row rfl 38 _ rfl v rfl 38 cs (0, 0) _ R6.out Try.underlying38 rfl hcsz ?_; dsimp only [Act.put])
      | (refine wpList_store_row rfl 38 _ _ rfl (A + 1 + 1) cs rfl rfl 38 #[.int .u64 0, .bool false, .string ⟨#[]⟩] RR.out hcsz (by rw [hcs0.out]; rfl) hone ?_))
    refine bodyPost_ret (results_row_tmpV rfl _ _ (A + 1 + 1) 38 _ (0, 0) _ _ rfl (setRow_heap _ _ _ _ _ _ RR.out) Try.underlying38 rfl hcsz rfl) rfl ⟨?_, below_setRow (HB.out.trans (B6.out.mono HB.out.size)) HA2.out _⟩
    rw [he.out, hcs0.out]
    rfl
end Go.Proofs.Ytahohdbkkcdmiaa
