/-
  Joined: ChnPEnc, ChnPAt, FixedB, BlkPSmall, BlkPFind.
-/
import Derived.Test.YthcomfcbdlobpaaSet33
import Derived.Test.YthcomfcbdlobpaaShelf
import Derived.Lib.OthersKept
import Derived.Laws.Tables
import Derived.Deep.LoopGhost
import Derived.Test.YthcomfcbdlobpaaSet04
import Derived.Test.YthcomfcbdlobpaaSet32
import Derived.Test.YthcomfcbdlobpaaSet28
import Derived.BigQuiet
namespace Go.Proofs.Ythcomfcbdlobpaa
open Go.RowKit
set_option linter.unusedVariables false
set_option linter.unnecessarySimpa false
set_option linter.unusedSimpArgs false
set_option maxRecDepth 100000

section
variable {w0 w w' : World} {B : Nat} {l : List UInt8}
end
theorem verB_len {t : Nat} {b : List UInt8} {v : Vr} (hb : b.length ≤ 60000) (hv : v.time < 18446744073709551616) (hs : v.val.size ≤ 60000) : (verB t b v).length ≤ 60100 := by
  have h1 := ub_len10 (n := v.time - t) (by omega)
  have h2 := tailN_le b v.val.data.toList
  rw [c_size] at h2
  have h3 := ub_len10 (n := headN b v.val.data.toList) (by omega)
  have h4 := ub_len10 (n := tailN b v.val.data.toList) (by omega)
  have h5 : (midB b v.val.data.toList).length ≤ 60000 := by unfold midB; rw [List.length_take, List.length_drop, c_size]; omega
  have h6 := ub_len10 (n := (midB b v.val.data.toList).length) (by omega)
  unfold verB
  rw [List.length_append]
  split
  · simp; omega
  · rw [valB_body, List.length_cons]
    unfold bodyB
    simp only [List.length_append]
    omega
theorem vers_step (zs : List Vr) {i : Nat} (h : i < zs.length) : versB 0 [] (zs.take (i + 1)) = versB 0 [] (zs.take i) ++ verB (prevT 0 zs i) (baseOf [] (zs.take i)) (zs.getD i vr0) := by
  rw [takeV_succ zs h, versB_snoc, endT_prev zs i (Nat.le_of_lt h)]
  rfl
theorem base_step (zs : List Vr) {i : Nat} (h : i < zs.length) : (⟨(baseOf [] (zs.take (i + 1))).toArray⟩ : ByteArray) = nextS ⟨(baseOf [] (zs.take i)).toArray⟩ (zs.getD i vr0) := by
  rw [takeV_succ zs h, baseOf_snoc]
  unfold nextS
  split <;> rfl

end Go.Proofs.Ythcomfcbdlobpaa

namespace Go.Proofs.Ythcomfcbdlobpaa
open Go.RowKit
set_option linter.unusedVariables false
set_option linter.unnecessarySimpa false
set_option linter.unusedSimpArgs false
set_option maxRecDepth 100000

/-- The function value that At hands on. -/
def cbV (ba bx : Nat) : Array Value := #[.pointer (some ⟨ba, 0, none⟩), .pointer (some ⟨bx, 0, none⟩)]

set_option maxHeartbeats 4000000 in
theorem search_any (n ba bx : Nat) (p : Nat → Bool) (hn : n ≤ 1000000000) (w : World)
    (hf : ∀ W, Below w.heap.size w W → ∀ i : Nat, i < n → Calls Try.prog 59 #[.int .i64 i, .pointer (some ⟨ba, 0, none⟩), .pointer (some ⟨bx, 0, none⟩)] W fun e w' => e = .returned (.bool (p i)) ∧ Below W.heap.size W w')
    (hmono : ∀ a b, a ≤ b → b < n → p a = true → p b = true) :
    Calls Try.prog 58 #[.int .i64 n, .func (.func 59) #[] #[.pointer (some ⟨ba, 0, none⟩), .pointer (some ⟨bx, 0, none⟩)]] w fun e w' => ∃ k : Nat, e = .returned (.int .i64 k) ∧ k ≤ n ∧ (∀ j, j < k → p j = false) ∧ (∀ j, k ≤ j → j < n → p j = true) ∧ Below w.heap.size w w' := by
  have HF := Lib.hid hf
  have HM := Lib.hid hmono
  clear hf hmono
  go_enter Try.func58, Try.ntmps58
  go_wp2_with fail
  go_loopg [5, 6] n (fun g s5 s6 wx => ∃ lo hi : Nat, s5 = .int .i64 lo ∧ s6 = .int .i64 hi ∧ lo ≤ hi ∧ hi ≤ n ∧ hi - lo ≤ g ∧ Hid (∀ j, j < lo → p j = false) ∧ Hid (∀ j, hi ≤ j → j < n → p j = true) ∧ Hid (Below w.heap.size w wx))
  case atStart => exact ⟨0, n, rfl, rfl, by omega, by omega, by omega, Lib.hid (fun j h => absurd h (by omega)), Lib.hid (fun j h1 h2 => absurd h1 (by omega)), Lib.hid (Below.refl _ _)⟩
  case round =>
    obtain ⟨lo, hi, rfl, rfl, hlh, hin, hg, hlo, hhi, hb⟩ := hrel
    by_cases hlt : lo < hi
    · have hltz : (lo : Int) < (hi : Int) := by omega
      obtain ⟨m, hm⟩ : ∃ m, m = (lo + hi) / 2 := ⟨_, rfl⟩
      have hmz : ((lo : Int) + (hi : Int)) / 2 = (m : Int) := by omega
      have hm1 : lo ≤ m := by omega
      have hm2 : m < hi := by omega
      have HC := Lib.hid (HF.out wr hb.out m (by omega))
      cases hp : p m with
      | false =>
        rw [hp] at HC
        have HL := Lib.hid (show ∀ j, j < m + 1 → p j = false from fun j hj => by
          cases h : p j with
          | false => rfl
          | true => have := HM.out j m (by omega) (by omega) h; rw [hp] at this; cases this)
        clear hp hm hlo
        go_wp2_with (go_at_call 59; (with_reducible refine HC.out.mono ?_); rintro e w1 ⟨rfl, hb1⟩; have HB1 := Lib.hid (hb.out.trans (hb1.mono hb.out.size)))
        go_roundg (hi - (m + 1))
        case measure => omega
        case rel => exact ⟨m + 1, hi, by go_num, rfl, by omega, hin, by omega, HL, hhi, HB1⟩
      | true =>
        rw [hp] at HC
        have HL := Lib.hid (show ∀ j, m ≤ j → j < n → p j = true from fun j h1 h2 => HM.out m j h1 h2 hp)
        clear hp hm hhi
        go_wp2_with (go_at_call 59; (with_reducible refine HC.out.mono ?_); rintro e w1 ⟨rfl, hb1⟩; have HB1 := Lib.hid (hb.out.trans (hb1.mono hb.out.size)))
        go_roundg (m - lo)
        case measure => omega
        case rel => exact ⟨lo, m, rfl, by go_num, by omega, by omega, by omega, hlo, HL, HB1⟩
    · obtain rfl : lo = hi := by omega
      have hltz : ¬ (lo : Int) < (lo : Int) := by omega
      go_wp2_with fail
      go_ret
      exact ⟨lo, rfl, hin, hlo.out, hhi.out, hb.out⟩

set_option maxHeartbeats 1000000 in
theorem above_any (i ba bx b off len cap t z : Nat) (W : World) (hi : i < len) (h1 : W.cell? ⟨ba, 0, none⟩ = some (.slice (some ⟨b, off, none⟩) len cap)) (h2 : W.cell? ⟨bx, 0, none⟩ = some (.int .u64 (t : Int))) (h3 : W.cell? ⟨b, off + i * 3, none⟩ = some (.int .u64 (z : Int))) :
    Calls Try.prog 59 #[.int .i64 i, .pointer (some ⟨ba, 0, none⟩), .pointer (some ⟨bx, 0, none⟩)] W fun e w' => e = .returned (.bool (decide (t < z))) ∧ Below W.heap.size W w' := by
  have hiz : (i : Int) < (len : Int) := by omega
  go_enter Try.func59, Try.ntmps59
  go_wp2_with fail
  go_quiet (fail)
  go_wp2_with fail
  go_ret
  exact ⟨by simp, below_drewV (Below.refl _ _) nq⟩

theorem clone_anyC (s : ByteArray) (w : World) (h : s.size ≤ 281474976710656) : Calls Try.prog 49 #[.string s] w fun e w' => e = .returned (.string s) ∧ Below w.heap.size w w' := by
  have H := Lib.hid (Try.stringslite_Clone s w h)
  go_enter Try.func49, Try.ntmps49
  go_wp2_with (go_at_call 60; refine H.out.mono ?_; rintro e w1 ⟨rfl, hb1⟩)
  go_ret
  exact ⟨rfl, hb1⟩

theorem time_mono {zs : List Vr} (h : risesB 0 zs = true) : ∀ d a, a + d < zs.length → (zs.getD a vr0).time ≤ (zs.getD (a + d) vr0).time := by
  intro d
  induction d with
  | zero => intro a _; exact Nat.le_refl _
  | succ d ih =>
    intro a ha
    have h1 := ih a (by omega)
    have h2 := ((rises_iff zs 0).1 h (a + d + 1) (by omega)).1
    unfold prevT at h2
    rw [if_neg (by omega), Nat.add_sub_cancel] at h2
    rw [show a + (d + 1) = a + d + 1 by omega]
    omega
theorem atV_none : ∀ (l : List Vr) (t : Nat), (∀ v ∈ l, t < v.time) → atV l t = none
  | [], _, _ => rfl
  | v :: l, t, h => by
    rw [atV, atV_none l t (fun x hx => h x (by simp [hx]))]
    simp only
    rw [if_neg (by have := h v (by simp); omega)]
theorem atV_split {zs : List Vr} {t k : Nat} (hk : k ≤ zs.length) (h1 : ∀ j, j < k → decide (t < (zs.getD j vr0).time) = false) (h2 : ∀ j, k ≤ j → j < zs.length → decide (t < (zs.getD j vr0).time) = true) :
    (k = 0 → atV zs t = none) ∧ ∀ j, k = j + 1 → atV zs t = some (zs.getD j vr0) := by
  have hd : atV (zs.drop k) t = none := atV_none _ _ fun v hv => by
    obtain ⟨i, hi, rfl⟩ := List.mem_iff_getElem.1 hv
    rw [List.length_drop] at hi
    have := h2 (k + i) (by omega) (by omega)
    rw [List.getD, List.getElem?_eq_getElem (by omega), Option.getD_some, decide_eq_true_iff] at this
    rw [List.getElem_drop]
    exact this
  refine ⟨fun h0 => by rw [h0] at hd; exact hd, fun j hj => atV_found (by omega) (by rw [← hj]; exact hd) ?_⟩
  have := h1 j (by omega)
  rw [decide_eq_false_iff_not] at this
  omega

theorem verSize : (Try.prog.info? 42).map (·.size) = some 3 := by kernel_rfl
set_option maxHeartbeats 4000000 in
theorem at_any (a : Option Addr) (len cap : Nat) (zs : List Vr) (t : Nat) (w : World) (hz : IsVers w a len cap zs) (hr : rightB zs = true) (hv : ∀ v ∈ zs, v.val.size ≤ 60000) (ht : t < 18446744073709551616) :
    Calls Try.prog 45 #[.slice a len cap, .int .u64 (t : Int)] w fun e w' => e = .returned (atOut (atV zs t)) ∧ Below w.heap.size w w' := by
  have hl200 : len ≤ 200 := by rw [← hz.1.1]; exact (right_parts hr).2
  have hrs := (right_parts hr).1
  have hzl := hz.1.1
  obtain ⟨A, hA⟩ : ∃ A, A = w.heap.size := ⟨_, rfl⟩
  obtain ⟨w1, hw1⟩ : ∃ w1, w1 = ((w.alloc (.cells #[.slice a len cap] 101)).alloc (.cells #[.int .u64 (t : Int)] 37)).alloc (.cells #[.int .u64 0, .bool false, .string ⟨#[]⟩] 42) := ⟨_, rfl⟩
  have r0 : w1.heap[A]? = some (.cells #[.slice a len cap] 101 (0, 0)) := by
    rw [hw1, hA, heap_alloc_old _ _ (by simp; omega)]; exact heap_alloc2_old _ _ _
  have r1 : w1.heap[A + 1]? = some (.cells #[.int .u64 (t : Int)] 37 (0, 0)) := by
    rw [hw1, hA, heap_alloc_old _ _ (by simp)]; exact heap_alloc2_new _ _ _
  have r2 : w1.heap[A + 1 + 1]? = some (.cells #[.int .u64 0, .bool false, .string ⟨#[]⟩] 42 (0, 0)) := by
    rw [hw1, hA]; have := heap_alloc_new ((w.alloc (.cells #[.slice a len cap] 101)).alloc (.cells #[.int .u64 (t : Int)] 37)) (.cells #[.int .u64 0, .bool false, .string ⟨#[]⟩] 42); simpa using this
  have hbel : Below w.heap.size w w1 := by rw [hw1]; exact (((Below.refl _ _).alloc (Nat.le_refl _) _).alloc (by simp) _).alloc (by simp; omega) _
  have hcell0 : ∀ W, Below w1.heap.size w1 W → W.cell? ⟨A, 0, none⟩ = some (.slice a len cap) := fun W hW => by
    rw [cell_of_row _ _ _ _ _ _ ((hW.block A (Array.getElem?_eq_some_iff.1 r0).1).trans r0)]; rfl
  have hcell1 : ∀ W, Below w1.heap.size w1 W → W.cell? ⟨A + 1, 0, none⟩ = some (.int .u64 (t : Int)) := fun W hW => by
    rw [cell_of_row _ _ _ _ _ _ ((hW.block (A + 1) (Array.getElem?_eq_some_iff.1 r1).1).trans r1)]; rfl
  have HS := Lib.hid (search_any len A (A + 1) (fun j => decide (t < (zs.getD j vr0).time)) (by omega) w1 (fun W hW i hi => by
      obtain ⟨b, off, rfl, hbl, h1, c0, c1, c2⟩ := ver_at hz (hbel.trans (hW.mono hbel.size)) hi
      exact above_any i A (A + 1) b off len cap t _ W hi (hcell0 W hW) (hcell1 W hW) c0)
    (fun x y hxy hy h => by
      simp only [decide_eq_true_iff] at h ⊢
      obtain ⟨d, rfl⟩ : ∃ d, y = x + d := ⟨y - x, by omega⟩
      exact Nat.lt_of_lt_of_le h (time_mono hrs d x (by omega))))
  have HC0 := Lib.hid hcell0
  have HZ := Lib.hid hz
  have HV := Lib.hid hv
  have HB := Lib.hid hbel
  have R2 := Lib.hid (fun W (hW : Below w1.heap.size w1 W) => (hW.block (A + 1 + 1) (Array.getElem?_eq_some_iff.1 r2).1).trans r2)
  have HA2 := Lib.hid (show w.heap.size ≤ A + 1 + 1 by omega)
  have hl2 : (len : Int) % 18446744073709551616 = len := by omega
  have c0 := hcell0 w1 (Below.refl _ _)
  clear hz hr hrs hv r0 r1 r2 hbel hcell0 hcell1
  go_enter Try.func45, Try.ntmps45
  go_upto_region 1 with fail
  rw [← hw1, ← hA]
  clear hw1 hA
  go_upto_region 2 with (go_at_call 58; (with_reducible refine HS.out.mono ?_); rintro e w2 ⟨k, rfl, hk, hk1, hk2, hb2⟩)
  have c2 := HC0.out w2 hb2
  obtain ⟨hat0, hat1⟩ := atV_split (t := t) (by rw [hzl]; exact hk) hk1 (by rw [hzl]; exact hk2)
  have HB2 := Lib.hid hb2
  clear hk1 hk2 hb2 HC0 HS c0
  rcases Nat.eq_zero_or_pos k with rfl | hpos
  · have he := Lib.hid (hat0 rfl)
    clear hat0 hat1
    have RR := Lib.hid (R2.out _ HB2.out)
    have hone : (#[Value.int .u64 0, .bool false, .string ⟨#[]⟩]).all (·.oneCell') = true := by simp [Value.oneCell']
    go_wp2_with (refine wpList_store_row rfl 42 _ _ rfl (A + 1 + 1) #[.int .u64 0, .bool false, .string ⟨#[]⟩] rfl rfl 42 #[.int .u64 0, .bool false, .string ⟨#[]⟩] RR.out verSize rfl hone ?_)
    refine bodyPost_ret (results_row_tmpV rfl _ _ (A + 1 + 1) 42 _ (0, 0) _ _ rfl (setRow_heap _ _ _ _ _ _ RR.out) Try.underlying42 rfl verSize rfl) rfl ⟨by rw [he.out]; rfl, below_setRow (HB.out.trans (HB2.out.mono HB.out.size)) HA2.out _⟩
  · obtain ⟨j, rfl⟩ : ∃ j, k = j + 1 := ⟨k - 1, by omega⟩
    have he := Lib.hid (hat1 j rfl)
    clear hat0 hat1
    have hil : j < len := by omega
    obtain ⟨b, off, rfl, hbl, ht1, c0, c1, cv⟩ := ver_at HZ.out (HB.out.trans (HB2.out.mono HB.out.size)) hil
    have hvs : (zs.getD j vr0).val.size ≤ 60000 := HV.out _ (by rw [List.getD, List.getElem?_eq_getElem (by omega)]; exact List.getElem_mem _)
    obtain ⟨z, hzz⟩ : ∃ z, z = zs.getD j vr0 := ⟨_, rfl⟩
    rw [← hzz] at he c0 c1 cv hvs
    obtain ⟨zt, zg, zv⟩ := z
    simp only at c0 c1 cv hvs
    obtain ⟨k, hk⟩ : ∃ k, k = j + 1 := ⟨_, rfl⟩
    rw [← hk]
    have hkj : (k : Int) - 1 = (j : Int) := by omega
    have hk0 : ((k : Int) == 0) = false := by rw [beq_eq_false_iff_ne]; omega
    have hjz : (j : Int) < (len : Int) := by omega
    have hj0 : (0 : Int) ≤ (j : Int) := by omega
    have hkz : (k : Int) ≤ 200 := by omega
    have HC := Lib.hid (clone_anyC zv)
    obtain ⟨cs, hcs⟩ : ∃ cs : Array Value, cs = #[.int .u64 (zt : Int), .bool zg, .string zv] := ⟨_, rfl⟩
    have hcsz : (Try.prog.info? 42).map (·.size) = some cs.size := by rw [hcs]; exact verSize
    have hone : cs.all (·.oneCell') = true := by rw [hcs]; simp [Value.oneCell']
    have r4 := heap_alloc_new w2 (.cells cs 42)
    have b4 := (Below.refl w2.heap.size w2).alloc (Nat.le_refl _) (.cells cs 42)
    obtain ⟨v, hv⟩ : ∃ v, v = w2.heap.size := ⟨_, rfl⟩
    obtain ⟨w4, hw4⟩ : ∃ w4, w4 = w2.alloc (.cells cs 42) := ⟨_, rfl⟩
    rw [← hw4] at r4 b4
    rw [← hv] at r4
    have hcs2 := hcs
    rw [hcs] at hw4
    have B4 := Lib.hid (HB2.out.trans (b4.mono HB2.out.size))
    have hvA : A + 1 + 1 < v := by
      have := (Array.getElem?_eq_some_iff.1 (R2.out _ (Below.refl _ _))).1
      have h3 := HB2.out.size
      omega
    have R4 := Lib.hid r4
    have HVW := Lib.hid (show w1.heap.size ≤ v by rw [hv]; exact HB2.out.size)
    have hcs0 := Lib.hid hcs
    clear hzz hk hcs hcs2 b4 r4
    go_upto_region 5 with fail
    rw [← hw4, ← hv]
    clear hw4 hv
    have HR2 := Lib.hid (fun W (h : Below w4.heap.size w4 W) => R2.out W (B4.out.trans (h.mono B4.out.size)))
    have cv4 := (cells3 (hcs0.out ▸ R4.out)).2.2
    go_upto_region 6 with (go_at_call 49; (with_reducible refine (HC.out _ (by omega)).mono ?_); rintro e w5 ⟨rfl, hb5⟩; have hr5 := (hb5.block v (Array.getElem?_eq_some_iff.1 R4.out).1).trans R4.out; have hf5 : w5.frozen? ⟨v, 2, none⟩ = false := (by simp [World.frozen?, hr5]); have R5 := Lib.hid hr5; have hc5 := (cells3 (hcs0.out ▸ hr5)).2.2; clear hr5)
    have hr6 : (w5.setCell ⟨v, 2, none⟩ (.string zv)).heap[v]? = some (.cells cs 42 (0, 0)) := by
      rw [heap_setCell_same w5 v 2 _ _ _ R5.out, hcs0.out]; rfl
    have hB5 := B4.out.trans (hb5.mono B4.out.size)
    have hB6 : Below w1.heap.size w1 (w5.setCell ⟨v, 2, none⟩ (.string zv)) := hB5.setCell HVW.out _
    obtain ⟨w6, hw6⟩ : ∃ w6, w6 = w5.setCell ⟨v, 2, none⟩ (.string zv) := ⟨_, rfl⟩
    rw [← hw6] at hr6 hB6 ⊢
    have R6 := Lib.hid hr6
    have B6 := Lib.hid hB6
    have RR := Lib.hid (R2.out _ hB6)
    clear hw6 hr6 hB5 hB6 hf5 hc5 cv4
    go_wp2_with (first
      | (refine wpList_load_row rfl 42 _ rfl v rfl 42 cs (0, 0) _ R6.out Try.underlying42 rfl hcsz ?_; dsimp only [Act.put])
      | (refine wpList_store_row rfl 42 _ _ rfl (A + 1 + 1) cs rfl rfl 42 #[.int .u64 0, .bool false, .string ⟨#[]⟩] RR.out hcsz (by rw [hcs0.out]; rfl) hone ?_))
    refine bodyPost_ret (results_row_tmpV rfl _ _ (A + 1 + 1) 42 _ (0, 0) _ _ rfl (setRow_heap _ _ _ _ _ _ RR.out) Try.underlying42 rfl hcsz rfl) rfl ⟨?_, below_setRow (HB.out.trans (B6.out.mono HB.out.size)) HA2.out _⟩
    rw [he.out, hcs0.out]
    rfl
end Go.Proofs.Ythcomfcbdlobpaa

namespace Go.Proofs.Ythcomfcbdlobpaa
open Go.RowKit
set_option linter.unnecessarySimpa false
set_option linter.unusedVariables false
set_option linter.unusedSimpArgs false
set_option maxRecDepth 100000

end Go.Proofs.Ythcomfcbdlobpaa

namespace Go.Proofs.Ythcomfcbdlobpaa
open Go.RowKit
set_option linter.unusedVariables false
set_option linter.unnecessarySimpa false
set_option linter.unusedSimpArgs false
set_option maxRecDepth 100000

theorem ents_take {w : World} {a : Option Addr} {len cap : Nat} {es : List En} (h : IsEnts w a len cap es) {i : Nat} (hi : i ≤ len) : IsEnts w a i cap (es.take i) := by
  have hl := h.1.1
  refine ⟨⟨by rw [List.length_take]; omega, fun j hj => ?_⟩, by have := h.2.1; omega, by have := h.2.2; omega⟩
  obtain ⟨b, off, ha, he⟩ := h.1.2 j (by omega)
  refine ⟨b, off, ha, ?_⟩
  have : (es.take i).getD j en0 = es.getD j en0 := by simp only [List.getD, List.getElem?_take, if_pos hj]
  rw [this]
  exact he

end Go.Proofs.Ythcomfcbdlobpaa

namespace Go.Proofs.Ythcomfcbdlobpaa
open Go.RowKit
set_option linter.unusedVariables false
set_option linter.unnecessarySimpa false
set_option linter.unusedSimpArgs false
set_option maxRecDepth 100000

set_option maxHeartbeats 1000000 in
theorem cmpKey_any (K key : ByteArray) (c : Value) (w : World) :
    Calls Try.prog 62 #[.agg #[.string K, c], .string key] w fun e w' => e = .returned (.int .i64 (Lib.compareBytes K.data.toList key.data.toList)) ∧ Below w.heap.size w w' := by
  have hb0 := (Below.refl w.heap.size w).alloc (Nat.le_refl _) (.cells #[.string K, c] 109)
  have hr0 := heap_alloc_new w (.cells #[.string K, c] 109)
  obtain ⟨w1, hw1⟩ : ∃ w1, w1 = w.alloc (.cells #[.string K, c] 109) := ⟨_, rfl⟩
  rw [← hw1] at hb0 hr0
  obtain ⟨c0, c1⟩ := cells2 hr0
  have HB0 := Lib.hid hb0
  have HC := Lib.hid (Try.strings_Compare K key w1)
  obtain ⟨r, hr⟩ : ∃ r, r = Lib.compareBytes K.data.toList key.data.toList := ⟨_, rfl⟩
  rw [← hr] at HC ⊢
  clear hb0 hr0 hr
  go_enter Try.func62, Try.ntmps62
  go_upto_region 1 with fail
  rw [← hw1]
  clear hw1
  go_wp2_with (go_at_call 63; (with_reducible refine HC.out.mono ?_); rintro e w2 ⟨rfl, rfl⟩)
  go_ret
  exact ⟨rfl, HB0.out⟩

theorem lt_step {es : List En} (hr : rightE es = true) {i : Nat} (hi : i + 1 < es.length) : ltS (es.getD i en0).key (es.getD (i + 1) en0).key = true := by
  have h := rightE_true.1 hr (i + 1) hi
  unfold entOk at h
  simp only [Bool.and_eq_true] at h
  have h2 := h.2
  rw [Nat.add_sub_cancel, decide_eq_false (by omega), Bool.false_or] at h2
  unfold ltS eqS at h2
  rw [lb_not] at h2
  exact h2
theorem lt_mono {es : List En} (hr : rightE es = true) (key : ByteArray) : ∀ d a, a + d < es.length → ltS (es.getD (a + d) en0).key key = true → ltS (es.getD a en0).key key = true := by
  intro d
  induction d with
  | zero => intro a _ h; exact h
  | succ d ih =>
    intro a ha h
    refine ih a (by omega) ?_
    exact lb_trans _ _ _ (lt_step hr (i := a + d) (by omega)) h
theorem fAt_is {es : List En} {key : ByteArray} {i : Nat} (hi : i ≤ es.length) (h1 : ∀ j, j < i → ltS (es.getD j en0).key key = true) (h2 : i < es.length → ltS (es.getD i en0).key key = false) : fAt es key = i := by
  rcases Nat.lt_trichotomy (fAt es key) i with h | h | h
  · have a1 := h1 _ h
    have a2 := fAt_end es key (by omega)
    rw [a1] at a2; cases a2
  · exact h
  · have a1 := fAt_lt es key i h
    have := fAt_le es key
    rw [h2 (by omega)] at a1; cases a1

set_option maxHeartbeats 4000000 in
theorem bfind_any (a : Option Addr) (len cap : Nat) (es : List En) (key : ByteArray) (w : World) (hz : IsEnts w a len cap es) (hl : len ≤ 1000000) (hr : rightE es = true) :
    Calls Try.prog 61 #[.slice a len cap, .string key, .func (.func 62) #[] #[]] w fun e w' => e = .returned (.tuple #[.int .i64 (fAt es key), .bool (fOk es key)]) ∧ Below w.heap.size w w' := by
  have HZ := Lib.hid hz
  have hel := Lib.hid hz.1.1
  have HM := Lib.hid (fun x d => lt_mono hr key d x)
  have HC := Lib.hid (fun K c W => cmpKey_any K key c W)
  clear hz hr
  go_enter Try.func61, Try.ntmps61
  go_wp2_with fail
  go_loopg [9, 10] len (fun g s9 s10 wx => ∃ lo hi : Nat, s9 = .int .i64 lo ∧ s10 = .int .i64 hi ∧ lo ≤ hi ∧ hi ≤ len ∧ hi - lo ≤ g ∧ Hid (∀ j, j < lo → ltS (es.getD j en0).key key = true) ∧ Hid (hi < len → ltS (es.getD hi en0).key key = false) ∧ Hid (Below w.heap.size w wx))
  case atStart => exact ⟨0, len, rfl, rfl, by omega, by omega, by omega, Lib.hid (fun j h => absurd h (by omega)), Lib.hid (fun h1 => absurd h1 (by omega)), Lib.hid (Below.refl _ _)⟩
  case round =>
    obtain ⟨lo, hi, rfl, rfl, hlh, hin, hg, hlo, hhi, hb⟩ := hrel
    by_cases hlt : lo < hi
    · have hltz : (lo : Int) < (hi : Int) := by omega
      obtain ⟨m, hm⟩ : ∃ m, m = (lo + hi) / 2 := ⟨_, rfl⟩
      have hmz : ((lo : Int) + (hi : Int)) / 2 = (m : Int) := by omega
      have hm1 : lo ≤ m := by omega
      have hm2 : m < hi := by omega
      have hm3 : (m : Int) < (len : Int) := by omega
      have hm4 : m < len := by omega
      obtain ⟨b, off, rfl, hbl, hkm, k0, ca, cl, cc, k1, hv⟩ := (HZ.out.below hb.out).1.2 m hm4
      obtain ⟨K, hK⟩ : ∃ K, K = (es.getD m en0).key := ⟨_, rfl⟩
      rw [← hK] at k0
      have HK := Lib.hid (HC.out K (.slice ca cl cc) wr)
      have hcn := cmp_neg K.data.toList key.data.toList
      have hlts : ltS K key = Op.bytesLess K.data.toList key.data.toList := by unfold ltS; rw [Lib.toList_data, Lib.toList_data]
      rw [← hlts] at hcn
      obtain ⟨r, hrr⟩ : ∃ r, r = Lib.compareBytes K.data.toList key.data.toList := ⟨_, rfl⟩
      rw [← hrr] at HK hcn
      cases hp : ltS K key with
      | true =>
        rw [hp] at hcn
        have HL := Lib.hid (show ∀ j, j < m + 1 → ltS (es.getD j en0).key key = true from fun j hj => by
          refine HM.out j (m - j) (by rw [hel.out]; omega) ?_
          rw [show j + (m - j) = m by omega, ← hK]; exact hp)
        have hr0 : r < 0 := by simpa using hcn
        clear hp hm hlo hK hrr hcn hlts hkm hv
        go_wp2_with (go_at_call 62; (with_reducible refine HK.out.mono ?_); rintro e w1 ⟨rfl, hb1⟩; have HB1 := Lib.hid (hb.out.trans (hb1.mono hb.out.size)))
        go_roundg (hi - (m + 1))
        case measure => omega
        case rel => exact ⟨m + 1, hi, by go_num, rfl, by omega, hin, by omega, HL, hhi, HB1⟩
      | false =>
        rw [hp] at hcn
        have HL := Lib.hid (show m < len → ltS (es.getD m en0).key key = false from fun _ => by rw [← hK]; exact hp)
        have hr0 : ¬ r < 0 := by simpa using hcn
        clear hp hm hhi hK hrr hcn hlts hkm hv
        go_wp2_with (go_at_call 62; (with_reducible refine HK.out.mono ?_); rintro e w1 ⟨rfl, hb1⟩; have HB1 := Lib.hid (hb.out.trans (hb1.mono hb.out.size)))
        go_roundg (m - lo)
        case measure => omega
        case rel => exact ⟨lo, m, rfl, by go_num, by omega, by omega, by omega, hlo, HL, HB1⟩
    · obtain rfl : lo = hi := by omega
      have hltz : ¬ (lo : Int) < (lo : Int) := by omega
      have hF := Lib.hid (fAt_is (by rw [hel.out]; exact hin) hlo.out (by rw [hel.out]; exact hhi.out))
      have hO := Lib.hid (show fOk es key = (decide (lo < len) && eqS (es.getD lo en0).key key) by unfold fOk; rw [hF.out, hel.out])
      by_cases hll : lo < len
      · have hllz : (lo : Int) < (len : Int) := by omega
        obtain ⟨b, off, rfl, hbl, hkm, k0, ca, cl, cc, k1, hv⟩ := (HZ.out.below hb.out).1.2 lo hll
        obtain ⟨K, hK⟩ : ∃ K, K = (es.getD lo en0).key := ⟨_, rfl⟩
        rw [← hK] at k0 hO
        have HK := Lib.hid (HC.out K (.slice ca cl cc) wr)
        have hcz := cmp_zero K.data.toList key.data.toList
        have heqs : eqS K key = (K.data.toList == key.data.toList) := by unfold eqS; rw [Lib.toList_data, Lib.toList_data]
        rw [← heqs] at hcz
        obtain ⟨r, hrr⟩ : ∃ r, r = Lib.compareBytes K.data.toList key.data.toList := ⟨_, rfl⟩
        rw [← hrr] at HK hcz
        have HO := Lib.hid (show fOk es key = (r == 0) by rw [hO.out, hcz, decide_eq_true hll, Bool.true_and])
        clear hK hrr hcz heqs hkm hv hO hll
        go_wp2_with (go_at_call 62; (with_reducible refine HK.out.mono ?_); rintro e w1 ⟨rfl, hb1⟩; have HB1 := Lib.hid (hb.out.trans (hb1.mono hb.out.size)))
        go_ret2
        exact ⟨by rw [hF.out, HO.out]; rfl, HB1.out⟩
      · have hllz : ¬ (lo : Int) < (len : Int) := by omega
        have HO := Lib.hid (show fOk es key = false by rw [hO.out, decide_eq_false hll, Bool.false_and])
        clear hO
        go_wp2_with fail
        go_ret2
        exact ⟨by rw [hF.out, HO.out]; rfl, hb.out⟩

set_option maxHeartbeats 1000000 in
theorem find_any (a : Option Addr) (len cap : Nat) (es : List En) (key : ByteArray) (w : World) (hz : IsEnts w a len cap es) (hl : len ≤ 1000000) (hr : rightE es = true) :
    Calls Try.prog 50 #[.slice a len cap, .string key] w fun e w' => e = .returned (.tuple #[.int .i64 (fAt es key), .bool (fOk es key)]) ∧ Below w.heap.size w w' := by
  have H := Lib.hid (bfind_any a len cap es key w hz hl hr)
  clear hz
  obtain ⟨n, hn⟩ : ∃ n : Nat, n = fAt es key := ⟨_, rfl⟩
  obtain ⟨o, ho⟩ : ∃ o, o = fOk es key := ⟨_, rfl⟩
  rw [← hn, ← ho] at H ⊢
  clear hn ho hr
  go_enter Try.func50, Try.ntmps50
  go_wp2_with (go_at_call 61; (with_reducible refine H.out.mono ?_); rintro e w1 ⟨rfl, hb1⟩)
  go_ret2
  exact ⟨rfl, hb1⟩
end Go.Proofs.Ythcomfcbdlobpaa
