/-
  Joined: MvcRefScan, ChnRef, ChnAt.
-/
import Derived.Test.YtdcefhhmddjodaaSet08
import Derived.StillTailTactics
import Derived.Deep.DeepCutAuto
import Derived.Test.YtdcefhhmddjodaaSet02
import Derived.ProofKit
import Derived.OpenShut
import Derived.Deep.CutBlock
import Derived.Deep.QuietTactic
import Derived.BigQuiet
import Derived.Laws.Rows
import Derived.Laws.Tables
import Derived.Laws.CopyOwn
namespace Go.Proofs.Ytdcefhhmddjodaa
open Go.RowKit
set_option linter.unusedVariables false
set_option linter.unnecessarySimpa false
set_option linter.unusedSimpArgs false
set_option maxRecDepth 100000

theorem keyStep_from {l : List ByteArray} {k x : ByteArray} (h : x ∈ keyStep l k) : x ∈ l ∨ x = k := by
  unfold keyStep at h
  split at h
  · exact .inl h
  · simp only [List.mem_append, List.mem_singleton] at h
    rcases h with (h | h) | h
    · exact .inl (List.mem_of_mem_take h)
    · exact .inr h
    · exact .inl (List.mem_of_mem_drop h)
theorem keysM_from : ∀ (L : List Im) (x : ByteArray), x ∈ keysM L → ∃ m ∈ L, m.key = x := by
  intro L
  suffices ∀ (M : List Im) (l : List ByteArray) (x : ByteArray), x ∈ M.foldl (fun l m => keyStep l m.key) l → x ∈ l ∨ ∃ m ∈ M, m.key = x from fun x h => (this L [] x h).elim (fun h => by cases h) id
  intro M
  induction M with
  | nil => intro l x h; exact .inl h
  | cons m M ih =>
    intro l x h
    rcases ih _ x h with h | ⟨y, hy, e⟩
    · rcases keyStep_from h with h | h
      · exact .inl h
      · exact .inr ⟨m, by simp, h.symm⟩
    · exact .inr ⟨y, by simp [hy], e⟩
theorem best_from (k : ByteArray) (t : Nat) (L : List Im) : (bestOf k t L).1 = vr0 ∨ ∃ m ∈ L, (bestOf k t L).1 = m.v := by
  unfold bestOf
  suffices ∀ (M : List Im) (r : Vr × Bool), (M.foldl (bestStep k t) r).1 = r.1 ∨ ∃ m ∈ M, (M.foldl (bestStep k t) r).1 = m.v from this L _
  intro M
  induction M with
  | nil => intro r; exact .inl rfl
  | cons m M ih =>
    intro r
    rw [List.foldl_cons]
    rcases ih (bestStep k t r m) with h | ⟨y, hy, e⟩
    · rw [h]
      unfold bestStep
      split
      · exact .inr ⟨m, by simp, rfl⟩
      · exact .inl rfl
    · exact .inr ⟨y, by simp [hy], e⟩
theorem items_mem {W : World} {a : Option Addr} {len cap : Nat} {L : List Im} (h : IsItms W a len cap L) : ∀ m ∈ L, m.key.size ≤ maxLen ∧ m.v.val.size ≤ maxLen ∧ m.v.time < 18446744073709551616 := fun m hm => by
  obtain ⟨i, hi, rfl⟩ := List.mem_iff_getElem.1 hm
  obtain ⟨_, _, _, _, h1, h2, h3, _⟩ := h.2.2 i (by rw [← h.1]; exact hi)
  rw [List.getD, List.getElem?_eq_getElem hi, Option.getD_some] at h1 h2 h3
  exact ⟨h1, h2, h3⟩

/-! Rows of writes. -/
def wtC (l : List Wt) : List Value := l.flatMap fun x => [.string x.1, .bool false, .string x.2]
theorem wtC_len : ∀ l : List Wt, (wtC l).length = l.length * 3
  | [] => rfl
  | v :: l => by
    have := wtC_len l
    unfold wtC at this ⊢
    rw [List.flatMap_cons, List.length_append, this, List.length_cons]
    simp; omega
theorem wtC_snoc (l : List Wt) (v : Wt) : wtC (l ++ [v]) = wtC l ++ [.string v.1, .bool false, .string v.2] := by simp [wtC]
theorem wtC_at : ∀ (l : List Wt) (i : Nat), i < l.length → (wtC l)[i * 3]? = some (.string (l.getD i wt0).1) ∧ (wtC l)[i * 3 + 1]? = some (.bool false) ∧ (wtC l)[i * 3 + 2]? = some (.string (l.getD i wt0).2)
  | [], i, h => by simp at h
  | v :: l, 0, _ => ⟨rfl, rfl, rfl⟩
  | v :: l, i + 1, h => by
    have := wtC_at l i (by simpa using h)
    have e : wtC (v :: l) = [.string v.1, .bool false, .string v.2] ++ wtC l := by simp [wtC]
    rw [e, show (i + 1) * 3 = 3 + i * 3 by omega, show 3 + i * 3 + 1 = 3 + (i * 3 + 1) by omega, show 3 + i * 3 + 2 = 3 + (i * 3 + 2) by omega]
    refine ⟨?_, ?_, ?_⟩
    · rw [List.getElem?_append_right (by simp)]; simpa using this.1
    · rw [List.getElem?_append_right (by simp)]; simpa using this.2.1
    · rw [List.getElem?_append_right (by simp)]; simpa using this.2.2
theorem wtC_wts {w : World} {B n c : Nat} {a : Option Addr} {l : List Wt} (h : w.ownsRow B 84 3 (.slice a n c) n (wtC l)) (hn : l.length = n) (hl : n ≤ 100000) (hv : ∀ x ∈ l, x.1.size ≤ maxLen ∧ x.2.size ≤ maxLen) : IsWts w a n c l := by
  refine ⟨hn, by unfold maxLen; omega, fun i hi => ?_⟩
  obtain ⟨g, cap, e, hg, hgl⟩ := own_slice h (by omega)
  injection e with e1 e2 e3
  subst e1 e3
  have hm : l.getD i wt0 ∈ l := by rw [List.getD, List.getElem?_eq_getElem (by omega)]; exact List.getElem_mem _
  obtain ⟨h0, h1, h2⟩ := wtC_at l i (by omega)
  refine ⟨g, 0, rfl, hgl, (hv _ hm).1, (hv _ hm).2, ?_, ?_, ?_⟩
  · rw [Nat.zero_add, h.cellAt (i * 3) (by omega)]; exact h0
  · rw [Nat.zero_add, h.cellAt (i * 3 + 1) (by omega)]; exact h1
  · rw [Nat.zero_add, h.cellAt (i * 3 + 2) (by omega)]; exact h2
theorem wtInfo : (Try.prog.info? 84).map (fun i => (i.zero, i.size, i.bytes)) = some (some (.agg #[.string ⟨#[]⟩, .bool false, .string ⟨#[]⟩]), 3, 40) := by kernel_rfl
theorem own_belowM {w w' : World} {base e n sz : Nat} {v : Value} {xs : List Value} (h : w.ownsRow base e sz v n xs) (hb : Below w.heap.size w w') : w'.ownsRow base e sz v n xs := by
  refine ⟨h.1, ?_⟩
  rcases h.2 with hn | ⟨g, cap, cur, rfl, hb0, hgg, rest⟩
  · exact .inl hn
  · exact .inr ⟨g, cap, cur, rfl, hb0, (hb.block g (Array.getElem?_eq_some_iff.1 hgg).1).trans hgg, rest⟩

/-- A version put into new memory, ahead of a call or behind it. -/
structure VerDone (wc : World) (p : Nat) (v : Vr) (wd : World) : Prop where
  row : wd.heap[p]? = some (.cells #[.int .u64 (v.time : Int), .bool v.gone, .string v.val] 35 (0, 0))
  below : Below wc.heap.size wc wd
  new : wc.heap.size ≤ p
theorem undrewM {B : Nat} {w w' : World} (h : Below B w.drew w') : Below B w w' := ⟨h.os, h.tape, h.output, h.size, h.block⟩
theorem verDoneA {wc w6 : World} (vt : Nat) (vg : Bool) (vv : ByteArray) (h : Below wc.drew.heap.size wc.drew w6) : VerDone wc w6.heap.size ⟨vt, vg, vv⟩ (w6.alloc (.cells #[.int .u64 (vt : Int), .bool vg, .string vv] 35)) :=
  ⟨heap_alloc_new w6 _, (undrewM h).alloc h.size _, h.size⟩
theorem verDoneB {wc w6 : World} {x y z : Value} (vt : Nat) (vg : Bool) (vv : ByteArray) (h : Below (wc.alloc (.cells #[x, y, z] 35)).drew.heap.size (wc.alloc (.cells #[x, y, z] 35)).drew w6) :
    VerDone wc wc.heap.size ⟨vt, vg, vv⟩ (((w6.setCell ⟨wc.heap.size, 0, none⟩ (.int .u64 (vt : Int))).setCell ⟨wc.heap.size, 1, none⟩ (.bool vg)).setCell ⟨wc.heap.size, 2, none⟩ (.string vv)) := by
  have h1 := undrewM h
  have h0 : Below wc.heap.size wc w6 := ((Below.refl _ _).alloc (Nat.le_refl _) _).trans (h1.mono (by simp))
  refine ⟨?_, ((h0.setCell (Nat.le_refl _) _).setCell (Nat.le_refl _) _).setCell (Nat.le_refl _) _, Nat.le_refl _⟩
  have hp : w6.heap[wc.heap.size]? = some (.cells #[x, y, z] 35 (0, 0)) := by
    rw [h.block wc.heap.size (by simp)]
    exact heap_alloc_new wc _
  rw [heap_setCell_same _ _ 2 _ _ _ (heap_setCell_same _ _ 1 _ _ _ (heap_setCell_same _ _ 0 _ _ _ hp))]
  rfl
theorem zero_kept3 {w w' : World} {u v x : Value} {t : TypeId} (h : Below (w.alloc (.cells #[u, v, x] t)).drew.heap.size (w.alloc (.cells #[u, v, x] t)).drew w') :
    w'.cell? ⟨w.heap.size, 0, none⟩ = some u ∧ w'.cell? ⟨w.heap.size, 1, none⟩ = some v ∧ w'.cell? ⟨w.heap.size, 2, none⟩ = some x ∧ ∀ j, w'.frozen? ⟨w.heap.size, j, none⟩ = false := by
  have h0 : w'.heap[w.heap.size]? = some (.cells #[u, v, x] t (0, 0)) := by
    have := h.block w.heap.size (by simp)
    rw [this]
    exact heap_alloc_new w _
  refine ⟨?_, ?_, ?_, fun j => frozen_of_row _ _ _ _ _ h0⟩
  · rw [cell_of_row _ _ _ _ _ _ h0]; rfl
  · rw [cell_of_row _ _ _ _ _ _ h0]; rfl
  · rw [cell_of_row _ _ _ _ _ _ h0]; rfl

/-! The writes so far. -/
def scanTo (L : List Im) (lo hi : ByteArray) (t : Nat) (most : Int) (i : Nat) : List Wt := (((keysM L).take i).filterMap (scanOne L lo hi t)).take most.toNat
theorem scanTo_step {L : List Im} {lo hi : ByteArray} {t : Nat} {most : Int} {i : Nat} (h : i < (keysM L).length) :
    scanTo L lo hi t most (i + 1) = if ((scanTo L lo hi t most i).length : Int) < most then scanTo L lo hi t most i ++ (scanOne L lo hi t ((keysM L).getD i ⟨#[]⟩)).toList else scanTo L lo hi t most i := by
  unfold scanTo
  have e : (keysM L).take (i + 1) = (keysM L).take i ++ [(keysM L).getD i ⟨#[]⟩] := by rw [List.take_add_one, List.getD, List.getElem?_eq_getElem h]; rfl
  rw [e, List.filterMap_append]
  obtain ⟨f, hf⟩ : ∃ f, f = ((keysM L).take i).filterMap (scanOne L lo hi t) := ⟨_, rfl⟩
  rw [← hf]
  have e2 : [(keysM L).getD i ⟨#[]⟩].filterMap (scanOne L lo hi t) = (scanOne L lo hi t ((keysM L).getD i ⟨#[]⟩)).toList := by
    rw [List.filterMap_cons]
    cases scanOne L lo hi t ((keysM L).getD i ⟨#[]⟩) <;> rfl
  rw [e2]
  split
  · rename_i hlt
    have h1 : f.length < most.toNat := by
      rw [List.length_take] at hlt
      omega
    rw [List.take_of_length_le (Nat.le_of_lt h1)]
    refine List.take_of_length_le ?_
    rw [List.length_append]
    have : (scanOne L lo hi t ((keysM L).getD i ⟨#[]⟩)).toList.length ≤ 1 := by cases scanOne L lo hi t ((keysM L).getD i ⟨#[]⟩) <;> simp
    omega
  · rename_i hlt
    have h1 : most.toNat ≤ f.length := by
      rw [List.length_take] at hlt
      omega
    rw [List.take_append_of_le_length h1]
theorem scanTo_len (L : List Im) (lo hi : ByteArray) (t : Nat) (most : Int) (i : Nat) : (scanTo L lo hi t most i).length ≤ i := by
  unfold scanTo
  rw [List.length_take]
  have h1 := List.length_filterMap_le (scanOne L lo hi t) ((keysM L).take i)
  rw [List.length_take] at h1
  omega
theorem scanTo_all (L : List Im) (lo hi : ByteArray) (t : Nat) (most : Int) {n : Nat} (hn : n = (keysM L).length) : scanTo L lo hi t most n = scanM L lo hi t most := by unfold scanTo scanM; rw [hn, List.take_length]
theorem scanTo_from {L : List Im} {lo hi : ByteArray} {t : Nat} {most : Int} {i : Nat} (hL : ∀ m ∈ L, m.key.size ≤ maxLen ∧ m.v.val.size ≤ maxLen ∧ m.v.time < 18446744073709551616) : ∀ x ∈ scanTo L lo hi t most i, x.1.size ≤ maxLen ∧ x.2.size ≤ maxLen := fun x hx => by
  unfold scanTo at hx
  obtain ⟨k, hk, e⟩ := List.mem_filterMap.1 (List.mem_of_mem_take hx)
  obtain ⟨m, hm, hmk⟩ := keysM_from L k (List.mem_of_mem_take hk)
  unfold scanOne at e
  split at e
  · injection e with e
    subst e
    refine ⟨by rw [← hmk]; exact (hL m hm).1, ?_⟩
    rcases best_from k t L with h | ⟨y, hy, h⟩
    · simp only [h]; exact Nat.zero_le _
    · simp only [h]; exact (hL y hy).2.1
  · cases e
/-- Why a key isn't told, or is. -/
theorem scan_cases (L : List Im) (lo hi : ByteArray) (t : Nat) (k : ByteArray) (v : Vr) (ok : Bool) (hb : bestOf k t L = (v, ok)) :
    scanOne L lo hi t k = if (!ltK k lo && (hi.toList.isEmpty || ltK k hi)) && (ok && !v.gone) then some (k, v.val) else none := by unfold scanOne; rw [hb]
theorem keys_len (L : List Im) : (keysM L).length ≤ L.length := by
  suffices ∀ (M : List Im) (l : List ByteArray), (M.foldl (fun l m => keyStep l m.key) l).length ≤ l.length + M.length from by have := this L []; simpa [keysM] using this
  intro M
  induction M with
  | nil => intro l; exact Nat.le_refl _
  | cons m M ih =>
    intro l
    have h1 := ih (keyStep l m.key)
    have h2 : (keyStep l m.key).length ≤ l.length + 1 := by
      unfold keyStep
      split
      · omega
      · simp only [List.length_append, List.length_take, List.length_drop, List.length_singleton]
        omega
    rw [List.foldl_cons, List.length_cons]
    omega
end Go.Proofs.Ytdcefhhmddjodaa

namespace Go.Proofs.Ytdcefhhmddjodaa
open Go.RowKit
set_option linter.unusedVariables false
set_option linter.unnecessarySimpa false
set_option linter.unusedSimpArgs false
set_option maxRecDepth 100000

def FewVers (zs : List Vr) (n : Nat) : Prop := (∀ i, i < zs.length → i < 500 → (zs.getD i vr0).val.size ≤ 500) ∧ zs.length ≤ n

set_option maxHeartbeats 2000000 in
theorem vfew_yes (a : Option Addr) (len cap n : Nat) (zs : List Vr) (w : World) (hz : IsVers w a len cap zs) (hn : n < 300) (hf : FewVers zs n) :
    Calls Try.prog 43 #[.slice a len cap, .int .i64 (n : Int)] w fun e w' => e = .returned (.bool true) ∧ w' = w := by
  have HZ := Lib.hid hz
  have HF := Lib.hid hf
  have hln : len ≤ n := by rw [← hz.1.1]; exact hf.2
  have hlz : ((len : Int) ≤ (n : Int)) := by omega
  clear hz hf
  go_enter Try.func43, Try.ntmps43
  go_wp2_with fail
  go_loopg [5] len (fun g s5 wx => ∃ i : Nat, i + g = len ∧ s5 = .int .i64 i ∧ wx = w)
  case atStart => exact ⟨0, by omega, rfl, rfl⟩
  case round =>
    obtain ⟨i, hig, rfl, rfl⟩ := hrel
    cases gk with
    | zero =>
      obtain rfl : len = i := by omega
      go_wp2_with fail
      go_ret
      exact ⟨rfl, rfl⟩
    | succ g =>
      have hil : i < len := by omega
      have hiz : (i : Int) < (len : Int) := by omega
      have hi3 : (i : Int) < 500 := by omega
      obtain ⟨b, off, rfl, hbl, _, _, _, _, c⟩ := HZ.out.1.2 i hil
      have h2 := HF.out.1 i (by rw [HZ.out.1.1]; exact hil) (by omega)
      obtain ⟨z, hzz⟩ : ∃ z, z = (zs.getD i vr0).val := ⟨_, rfl⟩
      rw [← hzz] at c h2
      have hb2 : ¬ (500 : Int) < (z.size : Int) := by omega
      have hb3 : decide (500 < z.size) = false := by rw [decide_eq_false_iff_not]; omega
      clear h2 hzz hbl
      go_wp2_with fail
      go_roundg g
      case measure => omega
      case rel => exact ⟨i + 1, by omega, by go_num, rfl⟩

set_option maxHeartbeats 2000000 in
theorem vfew_no (a : Option Addr) (len cap n : Nat) (zs : List Vr) (w : World) (hz : IsVers w a len cap zs) (hn : n < 300) (hf : ¬ FewVers zs n) :
    Calls Try.prog 43 #[.slice a len cap, .int .i64 (n : Int)] w fun e w' => e = .returned (.bool false) ∧ w' = w := by
  have HZ := Lib.hid hz
  have hlm := hz.2
  unfold maxLen at hlm
  have hcase : (∃ i0, i0 < len ∧ i0 < 500 ∧ ¬ (zs.getD i0 vr0).val.size ≤ 500 ∧ ∀ i, i < i0 → (zs.getD i vr0).val.size ≤ 500) ∨ (n < len ∧ ∀ i, i < len → i < 500 → (zs.getD i vr0).val.size ≤ 500) := by
    by_cases h : ∀ i, i < len → i < 500 → (zs.getD i vr0).val.size ≤ 500
    · refine .inr ⟨?_, h⟩
      have : ¬ zs.length ≤ n := fun h2 => hf ⟨fun i h3 h4 => h i (by rw [← hz.1.1]; exact h3) h4, h2⟩
      rw [hz.1.1] at this
      omega
    · left
      have key : ∀ k, (∀ i, i < k → i < len → i < 500 → (zs.getD i vr0).val.size ≤ 500) ∨ ∃ i0, i0 < len ∧ i0 < 500 ∧ ¬ (zs.getD i0 vr0).val.size ≤ 500 ∧ ∀ i, i < i0 → (zs.getD i vr0).val.size ≤ 500 := by
        intro k
        induction k with
        | zero => exact .inl fun i h0 => absurd h0 (by omega)
        | succ k ih =>
          rcases ih with ih | ih
          · by_cases hk : k < len ∧ k < 500 ∧ ¬ (zs.getD k vr0).val.size ≤ 500
            · exact .inr ⟨k, hk.1, hk.2.1, hk.2.2, fun i hi => ih i hi (by omega) (by omega)⟩
            · refine .inl fun i hi h1 h2 => ?_
              by_cases hik : i < k
              · exact ih i hik h1 h2
              · obtain rfl : i = k := by omega
                exact Classical.byContradiction fun h3 => hk ⟨h1, h2, h3⟩
          · exact .inr ih
      rcases key len with h2 | h2
      · exact absurd (fun i hi h3 => h2 i hi hi h3) h
      · exact h2
  clear hz hf
  rcases hcase with ⟨i0, h1, h2, h3, h4⟩ | ⟨h1, h2⟩
  · have H3 := Lib.hid h3
    have H4 := Lib.hid h4
    clear h3 h4
    go_enter Try.func43, Try.ntmps43
    go_wp2_with fail
    go_loopg [5] i0 (fun g s5 wx => ∃ i : Nat, i + g = i0 ∧ s5 = .int .i64 i ∧ wx = w)
    case atStart => exact ⟨0, by omega, rfl, rfl⟩
    case round =>
      obtain ⟨i, hig, rfl, rfl⟩ := hrel
      have hil : i < len := by omega
      have hiz : (i : Int) < (len : Int) := by omega
      have hi3 : (i : Int) < 500 := by omega
      obtain ⟨b, off, rfl, hbl, _, hm, _, _, c⟩ := HZ.out.1.2 i hil
      cases gk with
      | zero =>
        obtain rfl : i = i0 := by omega
        have hs := H3.out
        obtain ⟨z, hzz⟩ : ∃ z, z = (zs.getD i vr0).val := ⟨_, rfl⟩
        unfold maxLen at hm
        rw [← hzz] at c hs hm
        have hb2 : (500 : Int) < (z.size : Int) := by omega
        have hb3 : decide (500 < z.size) = true := by rw [decide_eq_true_iff]; omega
        clear hzz hbl hs
        go_wp2_with fail
        go_ret
        exact ⟨rfl, rfl⟩
      | succ g =>
        have hs := H4.out i (by omega)
        obtain ⟨z, hzz⟩ : ∃ z, z = (zs.getD i vr0).val := ⟨_, rfl⟩
        unfold maxLen at hm
        rw [← hzz] at c hs hm
        have hb2 : ¬ (500 : Int) < (z.size : Int) := by omega
        have hb3 : decide (500 < z.size) = false := by rw [decide_eq_false_iff_not]; omega
        clear hzz hbl hs
        go_wp2_with fail
        go_roundg g
        case measure => omega
        case rel => exact ⟨i + 1, by omega, by go_num, rfl⟩
  · have H2 := Lib.hid h2
    have hnz : ¬ ((len : Int) ≤ (n : Int)) := by omega
    have hnd : decide ((len : Int) ≤ (n : Int)) = false := by simpa using h1
    have hnd2 : decide (len ≤ n) = false := by simpa using h1
    clear h2
    go_enter Try.func43, Try.ntmps43
    go_wp2_with fail
    go_loopg [5] (min len 500) (fun g s5 wx => ∃ i : Nat, i + g = min len 500 ∧ s5 = .int .i64 i ∧ wx = w)
    case atStart => exact ⟨0, by omega, rfl, rfl⟩
    case round =>
      obtain ⟨i, hig, rfl, rfl⟩ := hrel
      cases gk with
      | zero =>
        have hcs : (i = len) ∨ (i < len ∧ i = 500) := by omega
        clear hig
        rcases hcs with rfl | ⟨h5, rfl⟩
        · go_wp2_with fail
          go_ret
          exact ⟨rfl, rfl⟩
        · have h6 : (500 : Int) < (len : Int) := by omega
          go_wp2_with fail
          go_ret
          exact ⟨rfl, rfl⟩
      | succ g =>
        have hil : i < len := by omega
        have hiz : (i : Int) < (len : Int) := by omega
        have hi3 : (i : Int) < 500 := by omega
        obtain ⟨b, off, rfl, hbl, _, hm, _, _, c⟩ := HZ.out.1.2 i hil
        have hs := H2.out i hil (by omega)
        obtain ⟨z, hzz⟩ : ∃ z, z = (zs.getD i vr0).val := ⟨_, rfl⟩
        unfold maxLen at hm
        rw [← hzz] at c hs hm
        have hb2 : ¬ (500 : Int) < (z.size : Int) := by omega
        have hb3 : decide (500 < z.size) = false := by rw [decide_eq_false_iff_not]; omega
        clear hzz hbl hs
        go_wp2_with fail
        go_roundg g
        case measure => omega
        case rel => exact ⟨i + 1, by omega, by go_num, rfl⟩


set_option maxHeartbeats 2000000 in
/-- Of equal versions. -/
theorem vsame_yes (a1 a2 : Option Addr) (len c1 c2 : Nat) (zs : List Vr) (w : World) (h1 : IsVers w a1 len c1 zs) (h2 : IsVers w a2 len c2 zs) :
    Calls Try.prog 42 #[.slice a1 len c1, .slice a2 len c2] w fun e w' => e = .returned (.bool true) ∧ ∃ n, w' = w.drewN n := by
  have H1 := Lib.hid h1
  have H2 := Lib.hid h2
  have hlm := h1.2
  unfold maxLen at hlm
  clear h1 h2
  go_enter Try.func42, Try.ntmps42
  go_wp2_with fail
  go_loopg [5] len (fun g s5 wx => ∃ i n : Nat, i + g = len ∧ s5 = .int .i64 i ∧ wx = w.drewN n)
  case atStart => exact ⟨0, 0, by omega, rfl, rfl⟩
  case round =>
    obtain ⟨i, n, hig, rfl, rfl⟩ := hrel
    cases gk with
    | zero =>
      obtain rfl : len = i := by omega
      go_wp2_with fail
      go_ret
      exact ⟨rfl, n, rfl⟩
    | succ g =>
      have hil : i < len := by omega
      have hiz : (i : Int) < (len : Int) := by omega
      obtain ⟨b, off, rfl, hbl, _, _, k0, k1, k2⟩ := H1.out.1.2 i hil
      obtain ⟨b', off', rfl, hbl', _, _, j0, j1, j2⟩ := H2.out.1.2 i hil
      obtain ⟨z, hzz⟩ : ∃ z, z = zs.getD i vr0 := ⟨_, rfl⟩
      rw [← hzz] at k0 k1 k2 j0 j1 j2
      clear hzz hbl hbl'
      go_wp2_with fail
      go_quiet (fail)
      go_wp2_with fail
      go_roundg g
      case measure => omega
      case rel => exact ⟨i + 1, n + nq, by omega, by go_num, rfl⟩
end Go.Proofs.Ytdcefhhmddjodaa

namespace Go.Proofs.Ytdcefhhmddjodaa
open Go.RowKit
set_option linter.unusedVariables false
set_option linter.unnecessarySimpa false
set_option linter.unusedSimpArgs false
set_option maxRecDepth 100000

theorem atV_append (x y : List Vr) (t : Nat) : atV (x ++ y) t = match atV y t with | some v => some v | none => atV x t := by
  induction x with
  | nil => simp only [List.nil_append]; cases h : atV y t <;> simp [atV]
  | cons v x ih =>
    rw [List.cons_append, atV, ih]
    cases h : atV y t with
    | some u => rfl
    | none => rfl
theorem atV_found {zs : List Vr} {t j : Nat} (hj : j < zs.length) (hn : atV (zs.drop (j + 1)) t = none) (ht : (zs.getD j vr0).time ≤ t) : atV zs t = some (zs.getD j vr0) := by
  have e : zs = zs.take j ++ (zs.getD j vr0 :: zs.drop (j + 1)) := by
    have h1 := List.take_append_drop j zs
    rw [List.drop_eq_getElem_cons hj] at h1
    rw [List.getD, List.getElem?_eq_getElem hj]
    exact h1.symm
  rw [e, atV_append]
  have : atV (zs.getD j vr0 :: zs.drop (j + 1)) t = some (zs.getD j vr0) := by rw [atV, hn]; simp only; rw [if_pos ht]
  rw [this, ← e]
theorem atV_next {zs : List Vr} {t j : Nat} (hj : j < zs.length) (hn : atV (zs.drop (j + 1)) t = none) (ht : ¬ (zs.getD j vr0).time ≤ t) : atV (zs.drop j) t = none := by
  rw [List.drop_eq_getElem_cons hj, atV, hn]
  simp only
  have : zs[j] = zs.getD j vr0 := by rw [List.getD, List.getElem?_eq_getElem hj]; rfl
  rw [this, if_neg ht]
/-- What At answers. -/
def atOut (o : Option Vr) : Value := .tuple #[.agg (o.getD vr0).cells, .bool o.isSome]
theorem verZero : (Try.prog.info? 35).map (fun i => (i.zero, i.size)) = some (some (.agg #[.int .u64 0, .bool false, .string ⟨#[]⟩]), 3) := by kernel_rfl

theorem results_row_tmpV {P : Program} {fn : Func} {p u : Tmp} {ty : TypeId} (h : fn.results = #[.cell p ty, .tmp u]) (tmps : Array Value) (w : World) (g : Nat) (t : TypeId) (cs : Array Value) (fr : Nat × Nat) (d : TypeDesc) (v : Value)
    (hp : tmps.getD p undef = .pointer (some ⟨g, 0, none⟩)) (hg : w.heap[g]? = some (.cells cs t fr))
    (hu : P.underlying ty = some d) (hd : (match d with | .struct _ | .array _ _ => true | _ => false) = true) (hi : (P.info? ty).map (·.size) = some cs.size) (hv : tmps.getD u undef = v) :
    (results fn tmps).run P w = .ok (.tuple #[.agg cs, v]) w := by
  rw [results_cell_tmp h, hp, hv]
  simp [asAddr, run_loadVar_row w g t ty cs fr d hg hu hd hi, Result.andThen]
end Go.Proofs.Ytdcefhhmddjodaa
