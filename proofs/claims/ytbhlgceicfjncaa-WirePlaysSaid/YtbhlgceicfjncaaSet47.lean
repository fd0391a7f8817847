/-
  The program's net: Twice.
-/
import Derived.Test.YtbhlgceicfjncaaSet26
import Derived.Test.YtbhlgceicfjncaaSet20
namespace Go.Proofs.Ytbhlgceicfjncaa
open Go.RowKit
set_option linter.unusedVariables false
set_option linter.unnecessarySimpa false
set_option linter.unusedSimpArgs false
set_option maxRecDepth 100000

def psiTw (g B k : Nat) (v0 : Value) (n j : Nat) (J : List Wj) (x : Wj) (row : Option Nat) (t : Nat) (v : Value) (W : World) : Prop :=
  match t with
  | 0 => v = .pointer (some ⟨g, 0, none⟩)
  | 1 => v = .int .i64 (j : Int)
  | 7 => v = .pointer (some ⟨g, 0, none⟩)
  | 8 => v = .pointer (some ⟨g, 0, none⟩)
  | 9 => v = .pointer (some ⟨g, 0, none⟩)
  | 10 => v = .pointer (some ⟨g, 256, none⟩)
  | 11 => v = v0
  | 12 => v = .pointer (some ⟨g, 0, none⟩)
  | 13 => v = .pointer (some ⟨g, 0, none⟩)
  | 14 => v = .pointer (some ⟨g, 256, none⟩)
  | 15 => v = v0
  | 16 => v = .int .i64 (j : Int)
  | 17 => v = .pointer (some ⟨k, j * 5, none⟩)
  | 18 => v = .agg x.oc.toArray
  | 19 => ∃ gu, v = .slice (some ⟨gu, 0, none⟩) 1 1 ∧ B ≤ gu ∧ W.heap[gu]? = some (.cells x.oc.toArray 70 (0, 0))
  | 20 => W.ownsRow 0 70 5 v (n + 1) (ocs J ++ ocs [x]) ∧ ∀ k, v.ownBlock = some k → row = some k ∨ B ≤ k
  | 21 => v = .pointer (some ⟨g, 0, none⟩)
  | 22 => v = .pointer (some ⟨g, 256, none⟩)
  | _ => True
theorem psiTw_stable {g B k : Nat} {v0 : Value} {n j : Nat} {J : List Wj} {x : Wj} {row : Option Nat} (hrow : ∀ k, row = some k → k < B) {t : Nat} {v : Value} {w w' : World} (h : psiTw g B k v0 n j J x row t v w) (hb : KeepG 70 5 n (n + 1) (ocs J) (ocs J ++ ocs [x]) row w w') : psiTw g B k v0 n j J x row t v w' := by
  by_cases e : t = 19
  · subst e
    obtain ⟨D, h1, h2, h3⟩ := h
    exact ⟨D, h1, h2, (hb.block D (Array.getElem?_eq_some_iff.1 h3).1 (fun e => by have := hrow D e.symm; omega)).trans h3⟩
  · by_cases e2 : t = 20
    · subst e2
      exact ⟨hb.k3 _ h.1, h.2⟩
    · unfold psiTw at h ⊢
      split at h <;> first | exact h | exact absurd rfl e | exact absurd rfl e2 | trivial
/-- The cells of a frame in a row of them. -/
theorem own_oc {w : World} {k n c : Nat} {J : List Wj} (h : w.ownsRow 0 70 5 (.slice (some ⟨k, 0, none⟩) n c) n (ocs J)) (hn : n = J.length) {j : Nat} (hj : j < n) : ∀ q, q < 5 → w.cell? ⟨k, j * 5 + q, none⟩ = ((J.getD j wj0).oc)[q]? := fun q hq => by
  have h1 := h.cells (g := k) rfl (j * 5 + q)
  rw [ocs_at J j q (by omega) hq] at h1
  have hx : ((J.getD j wj0).oc)[q]? = some (((J.getD j wj0).oc)[q]'(by simp only [Wj.oc, List.length_cons, List.length_nil]; omega)) := List.getElem?_eq_getElem _
  rw [hx] at h1 ⊢
  have h2 := h1 _ rfl
  rw [Addr.add_lit, Nat.zero_add] at h2
  exact h2
set_option maxHeartbeats 8000000 in
theorem net_twice {w : World} {g : Nat} {v : Value} {J : List Wj} (h : NetV w g v J) (hl : J.length ≤ 1000) (i : Int) :
    Calls Try.prog 12 #[.pointer (some ⟨g, 0, none⟩), .int .i64 i] w fun e w' => ∃ v', e = .returned (.tuple #[]) ∧ NetV w' g v' (twiceJ J i) ∧ Moves (netO g v) (netO g v') w w' := by
  have HH := Lib.hid (net_has h i)
  unfold twiceJ
  cases hb : hasW J i with
  | false =>
    rw [hb] at HH
    have HN := Lib.hid h
    clear h hb
    go_enter Try.func12, Try.ntmps12
    go_wp2_with (go_at_call 23; (with_reducible refine HH.out.mono ?_); rintro e w1 ⟨rfl, rfl⟩)
    (first | refine bodyPost_noneR rfl rfl ?_ | refine bodyPost_none rfl rfl ?_)
    first | exact ⟨v, rfl, HN.out, Moves.same _ _⟩ | exact ⟨rfl, v, HN.out, Moves.same _ _⟩
  | true =>
    rw [hb] at HH
    have hi := hasW_iff.1 hb
    obtain ⟨j, rfl⟩ : ∃ j : Nat, i = (j : Int) := ⟨i.toNat, by omega⟩
    rw [if_pos rfl, show (j : Int).toNat = j from Int.toNat_natCast j]
    have hj : j < J.length := by omega
    obtain ⟨k, c, hvk, _⟩ := h.at_ hj
    obtain ⟨x, hx⟩ : ∃ x, x = J.getD j wj0 := ⟨_, rfl⟩
    rw [← hx]
    obtain ⟨n, hn⟩ : ∃ n, n = J.length := ⟨_, rfl⟩
    have HL := Lib.hid hl
    have HJ := Lib.hid hn
    have hown := h.2
    have hbx := h.1
    rw [← hn] at hown hvk
    have HFIN := Lib.hid (fun (w4 : World) (v4 : Value) hk hown hg => h.more (x := x) (w1 := w) (w4 := w4) (v4 := v4) (Below.refl _ _) hk hown hg)
    rw [← hn] at HFIN
    obtain ⟨row, hrow⟩ : ∃ row, row = v.ownBlock := ⟨_, rfl⟩
    have HNE := Lib.hid h.ne
    rw [← hrow] at HFIN HNE
    have hrB1 : ∀ k, row = some k → k < w.heap.size := fun k hk => h.olt k (.inr (by rw [← hrow]; exact hk))
    have hrg2 : some g ≠ row := fun e => HNE.out e.symm
    have hgB := h.lt
    have HBX := Lib.hid hbx
    have HX := Lib.hid hx
    have hjz : (j : Int) < (n : Int) := by omega
    have hjn : j < n := by omega
    clear h hb hi hj hn hl hbx hx
    subst hvk
    go_enter Try.func12, Try.ntmps12
    go_upto_region 1 with (go_at_call 23; (with_reducible refine HH.out.mono ?_); rintro e w1 ⟨rfl, rfl⟩)
    obtain ⟨v, hv0⟩ : ∃ v, v = Value.slice (some ⟨k, 0, none⟩) n c := ⟨_, rfl⟩
    have HV := Lib.hid hv0
    rw [← hv0] at hown hrow HBX HFIN
    clear hv0
    refine wp_region_tailN [0, 1] [20, 22] (KeepG 70 5 n (n + 1) (ocs J) (ocs J ++ ocs [x]) row) (psiTw g w.heap.size k v n j J x row) (fun _ _ => True) 23 16 none (.store 59 (.tmp 22) (.tmp 20)) (by kernel_rfl) (by kernel_rfl) (by kernel_rfl) (by kernel_rfl) rfl (by kernel_rfl) (by kernel_rfl)
      (.of (Below.refl _ _).drew) (fun _ _ _ h k => h.trans k) (fun _ _ _ _ h k => psiTw_stable hrB1 h k) (fun _ _ _ _ _ => trivial) ?_ ?_ [7, 8, 9, 10, 11, 12, 13, 14, 15, 16, 17, 18, 19, 20, 21, 22] (by kernel_rfl) ?_
    · intro t ht w' _
      simp only [List.mem_cons, List.not_mem_nil, or_false] at ht
      rcases ht with rfl | rfl <;> rfl
    · repeat' (first | exact AllStepsL.nil | refine AllStepsL.cons ?_ ?_)
      all_goals
        intro hik
        first
          | (exfalso; revert hik; decide)
          | (intro a' w' K' Q' hRl hP hK'
             have hbx' := (hRl.block g hgB hrg2).trans HBX.out
             have c256 : w'.cell? ⟨g, 256, none⟩ = some v := by rw [cell_of_row _ _ _ _ _ _ hbx', nRow_v]
             have hsz := hRl.size
             have how := hRl.k2 _ hown
             clear hRl hbx'
             first
              | (obtain ⟨h18, _⟩ := hP
                 refine owp_bs1 _ x rfl (by simp only [Act.eval, Array.getD_eq_getD_getElem?]; exact h18) ?_
                 refine hK' _ _ (.of ((Below.refl _ _).alloc (Nat.le_refl _) _)) trivial ?_
                 intro d hd; cases hd
                 exact ⟨_, rfl, hsz, heap_alloc_new w' _⟩)
              | (obtain ⟨h11, ⟨gu, h19, hgu, hgr⟩, _⟩ := hP
                 obtain ⟨i, z, hi, hz0, hz1, hz2, hz3⟩ := owI
                 obtain ⟨v', w3, hr, q1, q2, q3⟩ := run_append_keep (P := Try.prog) w' 59 59 70 i z 5 48 Try.underlying59 hi hz0 hz2 hz3 hz1 (by omega) v n (ocs J) how ⟨gu, 0, none⟩ 1 1 (ocs [x]) rfl (fun j u hu => by rw [Addr.add_lit, Nat.zero_add, cell_of_row _ _ _ _ _ _ hgr]; simpa [ocs] using hu) (ocs_one _) (by have := HL.out; have := HJ.out; unfold maxLen; omega) (by have := HL.out; have := HJ.out; omega)
                 refine wp_appG 59 _ _ rfl v (.slice (some ⟨gu, 0, none⟩) 1 1) v' w3 (by simp only [Act.eval, Array.getD_eq_getD_getElem?]; exact h11) (by simp only [Act.eval, Array.getD_eq_getD_getElem?]; exact h19) hr ?_
                 rw [← hrow] at q2 q3
                 refine hK' _ _ q2 trivial ?_
                 intro d hd; cases hd
                 exact ⟨q1, fun k hk => (q3 k hk).elim (fun e => .inl e) (fun e => .inr (Nat.le_trans hsz e))⟩)
              | (obtain ⟨h17, _⟩ := hP
                 conv at h17 => whnf
                 have hoc := own_oc (by rw [← HV.out]; exact how) HJ.out hjn
                 rw [← HX.out] at hoc
                 have c0 := hoc 0 (by decide)
                 have c1 := hoc 1 (by decide)
                 have c2 := hoc 2 (by decide)
                 have c3 := hoc 3 (by decide)
                 have c4 := hoc 4 (by decide)
                 simp only [Wj.oc, List.getElem?_cons_zero, List.getElem?_cons_succ, Nat.add_zero] at c0 c1 c2 c3 c4
                 clear how hoc c256
                 go_simp
                 refine hK' _ _ .refl trivial ?_; intro d hd; cases hd; rfl)
              | (obtain ⟨h15, h16, _⟩ := hP
                 conv at h15 => whnf
                 conv at h16 => whnf
                 rw [HV.out] at h15
                 go_simp
                 refine hK' _ _ .refl trivial ?_; intro d hd; cases hd; rfl)
              | (repeat (obtain ⟨h, hP⟩ := hP; conv at h => whnf)
                 try go_simp
                 first
                  | (refine hK' _ _ .refl trivial ?_; intro d hd; cases hd; first | rfl | exact h)
                  | (trace_state; fail)))
    · intro f w5 hRl hf hT ok hd ho
      have h22 : f 22 = .pointer (some ⟨g, 256, none⟩) := hf 22 (by simp)
      obtain ⟨q1, q2⟩ : w5.ownsRow 0 70 5 (f 20) (n + 1) (ocs J ++ ocs [x]) ∧ ∀ k, (f 20).ownBlock = some k → row = some k ∨ w.heap.size ≤ k := hf 20 (by simp)
      have hbx4 := (hRl.block g hgB hrg2).trans HBX.out
      have hcell : w5.cell? ⟨g, 256, none⟩ = some v := by rw [cell_of_row _ _ _ _ _ _ hbx4, nRow_v]
      have HN := Lib.hid (HFIN.out w5 (f 20) hRl q1 q2)
      obtain ⟨g', cap', h50, -, hgl⟩ := own_slice q1 (by omega)
      obtain ⟨v5, hv5⟩ : ∃ v5, v5 = f 20 := ⟨_, rfl⟩
      have hone : v5.oneCell' = true := by rw [hv5, h50]; rfl
      rw [← hv5] at HN
      simp only [putAll, List.foldl_cons, List.foldl_nil, h22, ← hv5]
      dsimp only [Act.put]
      simp only [List.setIfInBounds_toArray]
      simp only [List.set_cons_succ, List.set_cons_zero]
      refine wp_store1K 59 _ _ ho ⟨g, 256, none⟩ v5 _ rfl rfl hone hcell (frozen_of_row _ _ 256 _ _ hbx4) (by kernel_rfl) ?_
      rw [hd]
      clear hRl hf hT hd ho h22 q1 q2 hbx4 hcell h50 hgl hone hv5
      go_wp2_with fail
      refine bodyPost_none rfl rfl ?_
      exact ⟨v5, rfl, HN.out.1, by have h2 := HN.out.2; rw [HV.out] at h2; exact h2⟩
end Go.Proofs.Ytbhlgceicfjncaa
