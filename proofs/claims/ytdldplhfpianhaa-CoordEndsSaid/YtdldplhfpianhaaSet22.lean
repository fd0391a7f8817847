/-
  Joined: CrdPClone, CrdPCloneR, AppKeep.
-/
import Derived.Test.YtdldplhfpianhaaSet21
import Derived.Test.YtdldplhfpianhaaShelf
import Derived.Test.YtdldplhfpianhaaSet14
import Derived.Laws.Tables
import Derived.Laws.CopyOwn
import Derived.Test.YtdldplhfpianhaaRows
import Derived.WalkKit
import Derived.Laws.AppendOwn
import Derived.Below
namespace Go.Proofs.Ytdldplhfpianhaa
open Go.RowKit
set_option linter.unusedVariables false
set_option linter.unnecessarySimpa false
set_option linter.unusedSimpArgs false
set_option maxRecDepth 100000

theorem pclone_any (s : ByteArray) (w : World) (h : s.size ≤ 140737488355328) : Calls Try.prog 35 #[.string s] w fun e w' => e = .returned (.string s) ∧ Below w.heap.size w w' := by
  have H := Lib.hid (fun W => Try.stringslite_Clone s W (by omega))
  clear h
  go_enter Try.func35, Try.ntmps35
  go_wp2_with (go_at_call 48; (with_reducible refine (H.out _).mono ?_); rintro e w1 ⟨rfl, hb1⟩)
  go_ret
  exact ⟨rfl, hb1⟩
theorem undrewC {w W : World} (h : Below w.drew.heap.size w.drew W) : Below w.heap.size w W := ((Below.refl w.heap.size w).drew).trans (h.mono (Nat.le_refl _))
theorem pwqSize : (Try.prog.info? 64).map (·.size) = some 3 := by kernel_rfl
def psiCW (A E : Nat) (K : ByteArray) (G : Bool) (V : ByteArray) (t : Nat) (v : Value) (_ : World) : Prop :=
  match t with
  | 1 => v = .pointer (some ⟨A, 0, none⟩)
  | 2 => v = .pointer (some ⟨E, 0, none⟩)
  | 3 => v = .pointer (some ⟨A, 0, none⟩)
  | 4 => v = .string K
  | 5 => v = .string K
  | 6 => v = .pointer (some ⟨A, 1, none⟩)
  | 7 => v = .bool G
  | 8 => v = .pointer (some ⟨A, 2, none⟩)
  | 9 => v = .string V
  | 10 => v = .string V
  | 11 => v = .agg #[.string K, .bool G, .string V]
  | _ => True
set_option maxHeartbeats 2000000 in
theorem pcloneW_any (m : Wq) (w : World) (hk : m.key.size ≤ 140737488355328) (hv : m.val.size ≤ 140737488355328) :
    Calls Try.prog 38 #[.agg #[.string m.key, .bool m.gone, .string m.val]] w fun e w' => e = .returned (.agg #[.string m.key, .bool m.gone, .string m.val]) ∧ Below w.heap.size w w' := by
  obtain ⟨K, G, V⟩ := m
  simp only at hk hv ⊢
  have hb1 := (Below.refl w.heap.size w).alloc (Nat.le_refl _) (.cells #[.string K, .bool G, .string V] 64)
  have hr1 := heap_alloc_new w (.cells #[.string K, .bool G, .string V] 64)
  obtain ⟨w1, hw1⟩ : ∃ w1, w1 = w.alloc (.cells #[.string K, .bool G, .string V] 64) := ⟨_, rfl⟩
  rw [← hw1] at hb1 hr1
  obtain ⟨A, hA⟩ : ∃ A, A = w.heap.size := ⟨_, rfl⟩
  rw [← hA] at hr1
  have hb2 := (Below.refl w1.heap.size w1).alloc (Nat.le_refl _) (.cells #[.string ⟨#[]⟩, .bool false, .string ⟨#[]⟩] 64)
  have hr2 := heap_alloc_new w1 (.cells #[.string ⟨#[]⟩, .bool false, .string ⟨#[]⟩] 64)
  obtain ⟨w2, hw2⟩ : ∃ w2, w2 = w1.alloc (.cells #[.string ⟨#[]⟩, .bool false, .string ⟨#[]⟩] 64) := ⟨_, rfl⟩
  rw [← hw2] at hb2 hr2
  have hs1 : w1.heap.size = A + 1 := by rw [hw1, hA]; simp
  obtain ⟨E, hE⟩ : ∃ E, E = A + 1 := ⟨_, rfl⟩
  rw [hs1, ← hE] at hr2
  have hl2 : E < w2.heap.size := (Array.getElem?_eq_some_iff.1 hr2).1
  have hne : A ≠ E := by omega
  have hr1' : w2.heap[A]? = some (.cells #[.string K, .bool G, .string V] 64 (0, 0)) := (hb2.block A (by omega)).trans hr1
  have HF := Lib.hid (fun W (hb : Below w2.heap.size w2 W) => And.intro (pcells3 ((hb.block A (by omega)).trans hr1')) (And.intro (pcells3 ((hb.block E hl2).trans hr2)) (fun j => frozen_of_row _ _ j _ _ ((hb.block E hl2).trans hr2))))
  have HR := Lib.hid (fun W (hb : Below w2.heap.size w2 W) => (hb.block E hl2).trans hr2)
  have HB2 := Lib.hid (hb1.trans (hb2.mono hb1.size))
  have HEw := Lib.hid (show w.heap.size ≤ E by omega)
  have HCK := Lib.hid (fun W => pclone_any K W hk)
  have HCV := Lib.hid (fun W => pclone_any V W hv)
  have HE1 := Lib.hid (show A + 1 = E by omega)
  obtain ⟨⟨c0, c1, c2⟩, ⟨y0, y1, y2⟩, yf⟩ := HF.out w2 (Below.refl _ _)
  clear hb1 hr1 hb2 hr2 hr1' hk hv hs1 hE hl2
  go_enter Try.func38, Try.ntmps38
  go_upto_region 1 with fail
  rw [← hw1, ← hA, ← hw2, HE1.out]
  clear hw1 hw2 hA
  refine wp_region_tail [1, 2] [11] (fun x y => Below x.heap.size x y) (psiCW A E K G V) (fun _ _ => True) 12 9 none (.store 64 (.tmp 2) (.tmp 11)) (by kernel_rfl) (by kernel_rfl) (by kernel_rfl) (by kernel_rfl) rfl (by kernel_rfl) (by kernel_rfl)
    (Below.refl _ _).drew (fun _ _ _ h k => h.trans (k.mono h.size)) (fun _ _ _ _ h _ => h) (fun _ _ _ _ _ => trivial) ?_ ?_ [3, 4, 5, 6, 7, 8, 9, 10, 11] (by kernel_rfl) ?_
  · intro t ht w' _
    simp only [List.mem_cons, List.not_mem_nil, or_false] at ht
    rcases ht with rfl | rfl <;> rfl
  · repeat' (first | exact AllStepsL.nil | refine AllStepsL.cons ?_ ?_)
    all_goals
      intro hik
      first
        | (exfalso; revert hik; decide)
        | (intro a' w' K' Q' hRl hP hK'
           repeat (obtain ⟨h, hP⟩ := hP; conv at h => whnf)
           obtain ⟨⟨c0, c1, c2⟩, _⟩ := HF.out w' hRl
           clear hRl
           try go_simp
           first
            | (refine hK' _ _ (Below.refl _ _) trivial ?_; intro d hd; cases hd; rfl)
            | (go_at_call 35; (with_reducible refine (HCK.out _).mono ?_); rintro e w4 ⟨rfl, hb4⟩; refine hK' _ _ hb4 trivial ?_; intro d hd; cases hd; rfl)
            | (go_at_call 35; (with_reducible refine (HCV.out _).mono ?_); rintro e w4 ⟨rfl, hb4⟩; refine hK' _ _ hb4 trivial ?_; intro d hd; cases hd; rfl)
            | (trace_state; fail))
  · intro f w4 hRl hf hT ok hd ho
    have HB4 := Lib.hid hRl
    have h11 : f 11 = .agg #[.string K, .bool G, .string V] := hf 11 (by simp)
    simp only [putAll, List.foldl_cons, List.foldl_nil, h11]
    dsimp only [Act.put]
    simp only [List.setIfInBounds_toArray]
    simp only [List.set_cons_succ, List.set_cons_zero]
    refine wp_store_row 64 _ _ ho E #[.string K, .bool G, .string V] rfl rfl 64 _ (HR.out _ hRl) pwqSize rfl (by simp [Value.oneCell']) ?_
    rw [hd]
    have HN := Lib.hid (setRow_heap w4 E _ #[.string K, .bool G, .string V] _ _ (HR.out _ hRl))
    clear hRl hf hT hd ho h11
    go_wp2_with fail
    refine bodyPost_ret (results_cell_row rfl _ _ E 64 #[.string K, .bool G, .string V] (0, 0) _ rfl HN.out Try.underlying64 rfl pwqSize) rfl ⟨rfl, ?_⟩
    exact below_setRow (HB2.out.trans (HB4.out.mono HB2.out.size)) HEw.out _
end Go.Proofs.Ytdldplhfpianhaa

namespace Go.Proofs.Ytdldplhfpianhaa
open Go.RowKit
set_option linter.unusedVariables false
set_option linter.unnecessarySimpa false
set_option linter.unusedSimpArgs false
set_option maxRecDepth 100000

theorem prdSize : (Try.prog.info? 45).map (·.size) = some 5 := by kernel_rfl
theorem pcells5 {W : World} {B : Nat} {x y z s t : Value} {T : TypeId} (h : W.heap[B]? = some (.cells #[x, y, z, s, t] T (0, 0))) : W.cell? ⟨B, 0, none⟩ = some x ∧ W.cell? ⟨B, 1, none⟩ = some y ∧ W.cell? ⟨B, 2, none⟩ = some z ∧ W.cell? ⟨B, 3, none⟩ = some s ∧ W.cell? ⟨B, 4, none⟩ = some t := by
  refine ⟨?_, ?_, ?_, ?_, ?_⟩
  all_goals
    rw [cell_of_row _ _ _ _ _ _ h]; rfl
def zvC : Array Value := #[.int .u64 0, .bool false, .string ⟨#[]⟩]
def psiCR (A B : Nat) (T : Nat) (J : Bool) (V : ByteArray) (t : Nat) (v : Value) (W : World) : Prop :=
  match t with
  | 1 => v = .pointer (some ⟨A, 0, none⟩)
  | 3 => ∃ D, v = .pointer (some ⟨D, 0, none⟩) ∧ B ≤ D ∧ W.heap[D]? = some (.cells zvC 43 (0, 0))
  | 4 => v = .pointer (some ⟨A, 2, none⟩)
  | 5 => v = .pointer (some ⟨A, 2, none⟩)
  | 6 => v = .int .u64 (T : Int)
  | 7 => v = .pointer (some ⟨A, 2, none⟩)
  | 8 => v = .pointer (some ⟨A, 3, none⟩)
  | 9 => v = .bool J
  | 10 => v = .pointer (some ⟨A, 2, none⟩)
  | 11 => v = .pointer (some ⟨A, 4, none⟩)
  | 12 => v = .string V
  | 13 => v = .string V
  | 14 => v = .agg #[.int .u64 (T : Int), .bool J, .string V]
  | _ => True
theorem psiCR_stable {A B T : Nat} {J : Bool} {V : ByteArray} {t : Nat} {v : Value} {w w' : World} (h : psiCR A B T J V t v w) (hb : Below w.heap.size w w') : psiCR A B T J V t v w' := by
  by_cases e : t = 3
  · subst e
    obtain ⟨D, h1, h2, h3⟩ := h
    exact ⟨D, h1, h2, (hb.block D (Array.getElem?_eq_some_iff.1 h3).1).trans h3⟩
  · unfold psiCR at h ⊢
    split at h <;> first | exact h | exact absurd rfl e | trivial
theorem pverSize : (Try.prog.info? 43).map (·.size) = some 3 := by kernel_rfl
def psiCS (A E D : Nat) (K : ByteArray) (G : Bool) (T : Nat) (J : Bool) (V : ByteArray) (t : Nat) (v : Value) (_ : World) : Prop :=
  match t with
  | 1 => v = .pointer (some ⟨A, 0, none⟩)
  | 2 => v = .pointer (some ⟨E, 0, none⟩)
  | 3 => v = .pointer (some ⟨D, 0, none⟩)
  | 15 => v = .pointer (some ⟨A, 0, none⟩)
  | 16 => v = .string K
  | 17 => v = .string K
  | 18 => v = .pointer (some ⟨A, 1, none⟩)
  | 19 => v = .bool G
  | 20 => v = .agg #[.int .u64 (T : Int), .bool J, .string V]
  | 21 => v = .agg #[.string K, .bool G, .int .u64 (T : Int), .bool J, .string V]
  | _ => True
set_option maxHeartbeats 4000000 in
theorem pcloneR_any (m : Rd) (w : World) (hm : m.ok) :
    Calls Try.prog 37 #[.agg #[.string m.key, .bool m.found, .int .u64 (m.v.time : Int), .bool m.v.gone, .string m.v.val]] w fun e w' => e = .returned (.agg #[.string m.key, .bool m.found, .int .u64 (m.v.time : Int), .bool m.v.gone, .string m.v.val]) ∧ Below w.heap.size w w' := by
  obtain ⟨K, G, ⟨T, J, V⟩⟩ := m
  obtain ⟨hk, hv, ht⟩ := hm
  simp only at hk hv ht ⊢
  have hb1 := (Below.refl w.heap.size w).alloc (Nat.le_refl _) (.cells #[.string K, .bool G, .int .u64 (T : Int), .bool J, .string V] 45)
  have hr1 := heap_alloc_new w (.cells #[.string K, .bool G, .int .u64 (T : Int), .bool J, .string V] 45)
  obtain ⟨w1, hw1⟩ : ∃ w1, w1 = w.alloc (.cells #[.string K, .bool G, .int .u64 (T : Int), .bool J, .string V] 45) := ⟨_, rfl⟩
  rw [← hw1] at hb1 hr1
  obtain ⟨A, hA⟩ : ∃ A, A = w.heap.size := ⟨_, rfl⟩
  rw [← hA] at hr1
  have hb2 := (Below.refl w1.heap.size w1).alloc (Nat.le_refl _) (.cells #[.string ⟨#[]⟩, .bool false, .int .u64 0, .bool false, .string ⟨#[]⟩] 45)
  have hr2 := heap_alloc_new w1 (.cells #[.string ⟨#[]⟩, .bool false, .int .u64 0, .bool false, .string ⟨#[]⟩] 45)
  obtain ⟨w2, hw2⟩ : ∃ w2, w2 = w1.alloc (.cells #[.string ⟨#[]⟩, .bool false, .int .u64 0, .bool false, .string ⟨#[]⟩] 45) := ⟨_, rfl⟩
  rw [← hw2] at hb2 hr2
  have hs1 : w1.heap.size = A + 1 := by rw [hw1, hA]; simp
  obtain ⟨E, hE⟩ : ∃ E, E = A + 1 := ⟨_, rfl⟩
  rw [hs1, ← hE] at hr2
  have hl2 : E < w2.heap.size := (Array.getElem?_eq_some_iff.1 hr2).1
  have hne : A ≠ E := by omega
  have hr1' : w2.heap[A]? = some (.cells #[.string K, .bool G, .int .u64 (T : Int), .bool J, .string V] 45 (0, 0)) := (hb2.block A (by omega)).trans hr1
  have HF := Lib.hid (fun W (hb : Below w2.heap.size w2 W) => And.intro (pcells5 ((hb.block A (by omega)).trans hr1')) (And.intro (pcells5 ((hb.block E hl2).trans hr2)) (fun j => frozen_of_row _ _ j _ _ ((hb.block E hl2).trans hr2))))
  have HR := Lib.hid (fun W (hb : Below w2.heap.size w2 W) => (hb.block E hl2).trans hr2)
  have HB2 := Lib.hid (hb1.trans (hb2.mono hb1.size))
  have HEw := Lib.hid (show w.heap.size ≤ E by omega)
  have HCK := Lib.hid (fun W => pclone_any K W hk)
  have HCV := Lib.hid (fun W => pclone_any V W hv)
  have HE1 := Lib.hid (show A + 1 = E by omega)
  have HL := Lib.hid (And.intro (show A < w2.heap.size by omega) hl2)
  obtain ⟨⟨c0, c1, c2, c3, c4⟩, _⟩ := HF.out w2 (Below.refl _ _)
  clear hb1 hr1 hb2 hr2 hr1' hk hv hs1 hE hl2
  go_enter Try.func37, Try.ntmps37
  go_upto_region 1 with fail
  rw [← hw1, ← hA, ← hw2, HE1.out]
  clear hw1 hw2 hA
  go_cut [3] (fun s3 wx => ∃ D, s3 = .pointer (some ⟨D, 0, none⟩) ∧ Hid (Below w2.heap.size w2 wx ∧ w2.heap.size ≤ D ∧ wx.heap[D]? = some (.cells #[.int .u64 (T : Int), .bool J, .string V] 43 (0, 0))))
  case first =>
    refine wp_region_tail [1] [3, 14] (fun x y => Below x.heap.size x y) (psiCR A w2.heap.size T J V) (fun _ _ => True) 22 12 none (.store 43 (.tmp 3) (.tmp 14)) (by kernel_rfl) (by kernel_rfl) (by kernel_rfl) (by kernel_rfl) rfl (by kernel_rfl) (by kernel_rfl)
      (Below.refl _ _).drew (fun _ _ _ h k => h.trans (k.mono h.size)) (fun _ _ _ _ h k => psiCR_stable h k) (fun _ _ _ _ _ => trivial) ?_ ?_ [4, 5, 6, 7, 8, 9, 10, 11, 12, 13, 14, 3] (by kernel_rfl) ?_
    · intro t ht w' _
      simp only [List.mem_cons, List.not_mem_nil, or_false] at ht
      subst ht
      rfl
    · repeat' (first | exact AllStepsL.nil | refine AllStepsL.cons ?_ ?_)
      all_goals
        intro hik
        first
          | (exfalso; revert hik; decide)
          | (intro a' w' K' Q' hRl hP hK'
             repeat (obtain ⟨h, hP⟩ := hP; conv at h => whnf)
             obtain ⟨⟨c0, c1, c2, c3, c4⟩, _⟩ := HF.out w' hRl
             have hsz := hRl.size
             clear hRl
             try go_simp
             first
              | (refine hK' _ _ (Below.refl _ _) trivial ?_; intro d hd; cases hd; rfl)
              | (go_at_call 35; (with_reducible refine (HCV.out _).mono ?_); rintro e w4 ⟨rfl, hb4⟩; refine hK' _ _ hb4 trivial ?_; intro d hd; cases hd; rfl)
              | (refine hK' _ _ ((Below.refl _ _).alloc (Nat.le_refl _) _) trivial ?_; intro d hd; cases hd; exact ⟨_, rfl, hsz, heap_alloc_new _ _⟩)
              | (trace_state; fail))
    · intro f w4 hRl hf hT ok hd ho
      obtain ⟨D, h3, hD, hr⟩ := hf 3 (by simp)
      have h14 : f 14 = .agg #[.int .u64 (T : Int), .bool J, .string V] := hf 14 (by simp)
      simp only [putAll, List.foldl_cons, List.foldl_nil, h14, h3]
      dsimp only [Act.put]
      simp only [List.setIfInBounds_toArray]
      simp only [List.set_cons_succ, List.set_cons_zero]
      refine wp_store_row 43 _ _ ho D #[.int .u64 (T : Int), .bool J, .string V] rfl rfl 43 _ hr pverSize rfl (by simp [Value.oneCell']) ?_
      rw [hd]
      have HN := Lib.hid (And.intro (below_setRow (hRl) hD #[.int .u64 (T : Int), .bool J, .string V]) (And.intro hD (setRow_heap w4 D _ #[.int .u64 (T : Int), .bool J, .string V] _ _ hr)))
      clear hRl hf hT hd ho h14 h3 hr
      go_wp2_with fail
      go_meet
      case rel => exact ⟨D, rfl, HN⟩
  case rest =>
    obtain ⟨D, rfl, h3⟩ := hcut
    have HB3 := Lib.hid h3
    have HFD := Lib.hid (fun W (hb : Below wc.heap.size wc W) => pcells3 ((hb.block D (Array.getElem?_eq_some_iff.1 h3.2.2).1).trans h3.2.2))
    clear h3
    go_upto_region 2 with fail
    refine wp_region_tail [1, 2, 3] [21] (fun x y => Below x.heap.size x y) (psiCS A E D K G T J V) (fun _ _ => True) 22 7 none (.store 45 (.tmp 2) (.tmp 21)) (by kernel_rfl) (by kernel_rfl) (by kernel_rfl) (by kernel_rfl) rfl (by kernel_rfl) (by kernel_rfl)
      (Below.refl _ _).drew (fun _ _ _ h k => h.trans (k.mono h.size)) (fun _ _ _ _ h _ => h) (fun _ _ _ _ _ => trivial) ?_ ?_ [15, 16, 17, 18, 19, 20, 21] (by kernel_rfl) ?_
    · intro t ht w' _
      simp only [List.mem_cons, List.not_mem_nil, or_false] at ht
      rcases ht with rfl | rfl | rfl <;> rfl
    · repeat' (first | exact AllStepsL.nil | refine AllStepsL.cons ?_ ?_)
      all_goals
        intro hik
        first
          | (exfalso; revert hik; decide)
          | (intro a' w' K' Q' hRl hP hK'
             repeat (obtain ⟨h, hP⟩ := hP; conv at h => whnf)
             obtain ⟨⟨c0, c1, c2, c3, c4⟩, _⟩ := HF.out w' (HB3.out.1.trans (hRl.mono HB3.out.1.size))
             obtain ⟨d0, d1, d2⟩ := HFD.out w' hRl
             clear hRl
             try go_simp
             first
              | (refine hK' _ _ (Below.refl _ _) trivial ?_; intro d hd; cases hd; rfl)
              | (go_at_call 35; (with_reducible refine (HCK.out _).mono ?_); rintro e w4 ⟨rfl, hb4⟩; refine hK' _ _ hb4 trivial ?_; intro d hd; cases hd; rfl)
              | (trace_state; fail))
    · intro f w4 hRl hf hT ok hd ho
      have hb4 := HB3.out.1.trans (hRl.mono HB3.out.1.size)
      have h21 : f 21 = .agg #[.string K, .bool G, .int .u64 (T : Int), .bool J, .string V] := hf 21 (by simp)
      simp only [putAll, List.foldl_cons, List.foldl_nil, h21]
      dsimp only [Act.put]
      simp only [List.setIfInBounds_toArray]
      simp only [List.set_cons_succ, List.set_cons_zero]
      refine wp_store_row 45 _ _ ho E #[.string K, .bool G, .int .u64 (T : Int), .bool J, .string V] rfl rfl 45 _ (HR.out _ hb4) prdSize rfl (by simp [Value.oneCell']) ?_
      rw [hd]
      have HN := Lib.hid (And.intro (below_setRow (HB2.out.trans (hb4.mono HB2.out.size)) HEw.out #[.string K, .bool G, .int .u64 (T : Int), .bool J, .string V]) (setRow_heap w4 E _ #[.string K, .bool G, .int .u64 (T : Int), .bool J, .string V] _ _ (HR.out _ hb4)))
      clear hRl hf hT hd ho h21 hb4
      go_wp2_with fail
      exact bodyPost_ret (results_cell_row rfl _ _ E 45 #[.string K, .bool G, .int .u64 (T : Int), .bool J, .string V] (0, 0) _ rfl HN.out.2 Try.underlying45 rfl prdSize) rfl ⟨rfl, HN.out.1⟩
end Go.Proofs.Ytdldplhfpianhaa

namespace Go.Proofs.Ytdldplhfpianhaa
open Go.RowKit
set_option linter.unusedVariables false
set_option linter.unnecessarySimpa false
set_option linter.unusedSimpArgs false
set_option maxRecDepth 100000

structure KeepG (e : TypeId) (s n m : Nat) (xs ys : List Value) (row : Option Nat) (w w' : World) : Prop where
  os : w'.os = w.os
  tape : w'.tape = w.tape
  output : w'.output = w.output
  size : w.heap.size ≤ w'.heap.size
  block : ∀ k, k < w.heap.size → some k ≠ row → w'.heap[k]? = w.heap[k]?
  k2 : ∀ v, w.ownsRow 0 e s v n xs → w'.ownsRow 0 e s v n xs
  k3 : ∀ v, w.ownsRow 0 e s v m ys → w'.ownsRow 0 e s v m ys
theorem own_later {w w' : World} {B e s n : Nat} {v : Value} {xs : List Value} (h : w.ownsRow B e s v n xs) (hb : Below w.heap.size w w') : w'.ownsRow B e s v n xs := by
  refine ⟨h.1, ?_⟩
  rcases h.2 with h2 | ⟨g, cap, cur, e1, h1, h2, h3⟩
  · exact .inl h2
  · exact .inr ⟨g, cap, cur, e1, h1, (hb.block g (Array.getElem?_eq_some_iff.1 h2).1).trans h2, h3⟩
section
variable {e : TypeId} {s n m : Nat} {xs ys : List Value} {row : Option Nat} {w w' w2 : World}
theorem KeepG.refl : KeepG e s n m xs ys row w w := ⟨rfl, rfl, rfl, Nat.le_refl _, fun _ _ _ => rfl, fun _ h => h, fun _ h => h⟩
theorem KeepG.of (hb : Below w.heap.size w w') : KeepG e s n m xs ys row w w' := ⟨hb.os, hb.tape, hb.output, hb.size, fun k hk _ => hb.block k hk, fun _ h => own_later h hb, fun _ h => own_later h hb⟩
theorem KeepG.trans (h : KeepG e s n m xs ys row w w') (g : KeepG e s n m xs ys row w' w2) : KeepG e s n m xs ys row w w2 :=
  ⟨g.os.trans h.os, g.tape.trans h.tape, g.output.trans h.output, Nat.le_trans h.size g.size, fun k hk hn => (g.block k (Nat.lt_of_lt_of_le hk h.size) hn).trans (h.block k hk hn), fun v x => g.k2 v (h.k2 v x), fun v x => g.k3 v (h.k3 v x)⟩
end
theorem run_append_keep {P : Program} (w : World) (t ty e : TypeId) (i : TypeInfo) (z : Value) (size bytes : Nat) (ht : P.underlying t = some (.slice e)) (hi : P.info? e = some i) (hz : i.zero = some z)
    (hsize : i.size = size) (hby : i.bytes = bytes) (hzs : z.cells.size = size) (hsz : 0 < size)
    (v : Value) (n : Nat) (xs : List Value) (hown : w.ownsRow 0 e size v n xs)
    (a : Addr) (m c : Nat) (news : List Value) (hl : news.length = m * size) (hnews : ∀ j u, news[j]? = some u → w.cell? (a.add j) = some u) (h1 : ∀ u ∈ news, u.oneCell' = true)
    (h63 : n + m ≤ maxLen) (hbytes : (n + m) * bytes ≤ 140737488355328) :
    ∃ v' w', (Builtin.append_ #[t, t] ty #[v, .slice (some a) m c]).run P w = .ok v' w' ∧ w'.ownsRow 0 e size v' (n + m) (xs ++ news) ∧ KeepG e size n (n + m) xs (xs ++ news) v.ownBlock w w' ∧
      (∀ k, v'.ownBlock = some k → v.ownBlock = some k ∨ w.heap.size ≤ k) := by
  rcases hown.2 with ⟨rfl, rfl⟩ | ⟨g, cap, cur, rfl, hbg, hg, hnc, hcm, hcs, htake⟩
  · obtain ⟨v', w', hr, h2, h3, _⟩ := run_append_own (P := P) w w.heap.size t ty e i z size bytes ht hi hz hsize hby hzs hsz (.slice none 0 0) 0 xs ⟨hown.1, .inl ⟨rfl, rfl⟩⟩ a m c news hl hnews h1 h63 hbytes (Nat.le_refl _)
    have hb : Below w.heap.size w w' := ⟨h3.os, h3.tape, h3.output, h3.size, fun k hk => h3.block k hk (by simp [Value.ownBlock])⟩
    refine ⟨v', w', hr, ⟨h2.1, ?_⟩, .of hb, fun k hk => .inr (h2.lt k hk).1⟩
    rcases h2.2 with h | ⟨g, cap, cur, hv, _, rest⟩
    · exact .inl h
    · exact .inr ⟨g, cap, cur, hv, Nat.zero_le _, rest⟩
  · subst hsize hby
    have hsmall : n + m ≤ 9223372036854775807 := by simp only [maxLen] at h63; omega
    have hxl : xs.length = n * i.size := hown.1
    have hlen : (xs ++ news).length = (n + m) * i.size := by rw [List.length_append, hxl, hl, Nat.add_mul]
    by_cases hroom : n + m ≤ cap
    · have hfit : n * i.size + news.length ≤ cur.size := by rw [hl, hcs, ← Nat.add_mul]; exact Nat.mul_le_mul_right _ hroom
      have hr := run_append_room (P := P) w t ty e i ht hi g n cap cur hg a m c news hl hnews h1 hroom hfit
      have hcl : cur.toList.length = cur.size := Array.length_toList
      obtain ⟨N, hN⟩ : ∃ N, N = (cur.toList.take (n * i.size) ++ news ++ cur.toList.drop (n * i.size + news.length)).toArray := ⟨_, rfl⟩
      rw [← hN] at hr
      have hNs : N.size = cur.size := by
        rw [hN, List.size_toArray, List.length_append, List.length_append, List.length_take, List.length_drop, hcl]
        omega
      have hN4 : N.toList.take (n * i.size) = xs := by
        rw [hN]
        simp only [List.append_assoc]
        rw [htake, ← hxl]
        exact List.take_left
      have hN5 : N.toList.take ((n + m) * i.size) = xs ++ news := by
        rw [hN, htake, ← hlen]
        exact List.take_left
      have hset := setRow_heap w g cur N _ _ hg
      have kp : ∀ (k : Nat) (zs : List Value) (x : Value), N.toList.take (k * i.size) = zs → w.ownsRow 0 e i.size x k zs → (w.setRow g N).ownsRow 0 e i.size x k zs := fun k zs x hz hx => by
        refine ⟨hx.1, ?_⟩
        rcases hx.2 with hx | ⟨g', c', cur', e1, e2, e3, e4, e5, e6, e7⟩
        · exact .inl hx
        · by_cases hgg : g' = g
          · subst hgg
            rw [hg] at e3
            injection e3 with e3
            injection e3 with e3 _ _
            subst e3
            exact .inr ⟨g', c', N, e1, e2, hset, e4, e5, by rw [hNs]; exact e6, hz⟩
          · exact .inr ⟨g', c', cur', e1, e2, by rw [setRow_other _ _ _ _ hgg]; exact e3, e4, e5, e6, e7⟩
      refine ⟨_, _, hr, ⟨hlen, .inr ⟨g, cap, N, rfl, Nat.zero_le _, hset, hroom, hcm, by rw [hNs]; exact hcs, hN5⟩⟩, ⟨rfl, rfl, rfl, by simp, fun k hk hn => setRow_other _ _ _ _ (fun e => hn (by rw [e]; rfl)), fun x => kp _ _ x hN4, fun x => kp _ _ x hN5⟩, fun k hk => .inl hk⟩
    · have hr := run_append_grow (P := P) w t ty e i z ht hi hz ⟨g, 0, none⟩ n cap xs hxl (hown.cells (g := g) rfl) a m c news hl hnews (by omega) (by omega) (growslice_fits (by omega) hbytes)
      have hge := grownCap_ge w (n + m) cap e
      have hcm2 := grownCap_le_maxLen w (n + m) cap e h63
      have hb : Below w.heap.size w (w.drew.alloc (.cells (xs.toArray ++ news.toArray ++ Builtin.zeroCells z.cells (grownCap w (n + m) cap e - (n + m))) e)) := ((Below.refl _ _).drew).alloc (Nat.le_refl _) _
      refine ⟨_, _, hr, ⟨hlen, .inr ⟨w.heap.size, _, _, rfl, Nat.zero_le _, heap_alloc_new w.drew _, hge, hcm2, ?_, ?_⟩⟩, .of hb, fun k hk => ?_⟩
      · simp only [Array.size_append, List.size_toArray, size_zeroCells, hzs, hxl, hl]
        rw [← Nat.add_mul, ← Nat.add_mul]
        congr 1
        omega
      · simp only [Array.toList_append]
        rw [← hlen]
        exact List.take_left
      · simp only [Value.ownBlock, Option.some.injEq] at hk
        exact .inr (Nat.le_of_eq hk)
/-- 'append(row, x..)' as an operation. -/
theorem wp_appG {P : Program} {op : Oper} {a : Act} {w : World} {K : Act → World → Prop} {Q : Exit → Act → World → Prop} (t : TypeId) (x y : Operand) (ho : op.op = .call { callee := .builtin .append, args := #[x, y], argTypes := #[t, t] })
    (u v v' : Value) (w' : World) (hx : a.eval x = u) (hy : a.eval y = v)
    (hr : (Builtin.append_ #[t, t] op.type #[u, v]).run P w = .ok v' w') (h : K (a.put op.dst v') w') : op.wp P a w K Q := by
  unfold Oper.wp execOp
  simp only [ho, resolve, invoke, builtin, Sem.run_bind, Sem.run_pure, Result.andThen_ok, List.map_toArray, List.map_cons, List.map_nil, hx, hy, hr]
  exact h
theorem cells_one1K {v : Value} (h : v.oneCell' = true) : v.cells = #[v] := by
  cases v <;> first | rfl | simp [Value.oneCell'] at h
theorem wp_store1K {P : Program} {op : Oper} {a : Act} {w : World} {K : Act → World → Prop} {Q : Exit → Act → World → Prop} (ty : TypeId) (x y : Operand) (ho : op.op = .store ty x y) (p : Addr) (v old : Value) (hx : a.eval x = .pointer (some p)) (hy : a.eval y = v)
    (hv : v.oneCell' = true) (hc : w.cell? p = some old) (hf : w.frozen? p = false) (hi : (P.info? ty).map (·.size) = some 1) (h : K (a.put op.dst undef) (w.setCell p v)) : op.wp P a w K Q := by
  have hr : (storeVar ty p v).run P w = .ok () (w.setCell p v) := by
    cases hq : P.info? ty with
    | none => simp [hq] at hi
    | some i =>
      have hs : i.size = 1 := by simpa [hq] using hi
      simp [storeVar, cells_one1K hv, sizeOf, typeInfo, hq, hs, storeCells, run_store P _ _ v _ hv, Addr.add_zero', hc, hf, Result.andThen]
  unfold Oper.wp execOp
  simp only [ho, hx, hy, Instr.storeAt, Instr.sureAddr, Sem.run_bind, Sem.run_pure, Result.andThen_ok, hr]
  exact h
end Go.Proofs.Ytdldplhfpianhaa
