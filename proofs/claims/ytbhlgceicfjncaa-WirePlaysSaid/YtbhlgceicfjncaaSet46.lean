/-
  The program's net: Flip.
-/
import Derived.Test.YtbhlgceicfjncaaSet45
import Derived.Test.YtbhlgceicfjncaaSet21
import Derived.Test.YtbhlgceicfjncaaSet26
import Derived.IntWalk
namespace Go.Proofs.Ytbhlgceicfjncaa
open Go.RowKit
set_option linter.unusedVariables false
set_option linter.unnecessarySimpa false
set_option linter.unusedSimpArgs false
set_option maxRecDepth 100000

/-- One frame's last three cells are written anew. -/
theorem ocs_set3 : ∀ (J : List Wj) (j : Nat), j < J.length → ∀ y : Wj, y.m.to_ = (J.getD j wj0).m.to_ → y.v = (J.getD j wj0).v →
    ((((ocs J).set (j * 5 + 2) (.string y.b)).set (j * 5 + 3) (.bool y.on)).set (j * 5 + 4) (.int .i64 (y.k : Int))) = ocs (J.set j y)
  | [], j, h, _, _, _ => by simp at h
  | x :: J, 0, _, y, h1, h2 => by
    simp only [List.getD_cons_zero] at h1 h2
    simp only [ocs, Wj.oc, List.set_cons_zero, List.cons_append, List.nil_append, Nat.zero_mul, Nat.zero_add, List.set_cons_succ, h1, h2]
  | x :: J, j + 1, h, y, h1, h2 => by
    have ih := ocs_set3 J j (by simpa using h) y (by simpa using h1) (by simpa using h2)
    rw [List.set_cons_succ, ocs, ocs, ← ih]
    have hl : x.oc.length = 5 := rfl
    rw [List.set_append_right _ _ (by omega), List.set_append_right _ _ (by omega), List.set_append_right _ _ (by omega), hl, show (j + 1) * 5 + 2 - 5 = j * 5 + 2 by omega, show (j + 1) * 5 + 3 - 5 = j * 5 + 3 by omega, show (j + 1) * 5 + 4 - 5 = j * 5 + 4 by omega]
theorem RowT.setIn {w : World} {k : Nat} {t : TypeId} {len m : Nat} {L : List Value} (h : RowT w k t len m L) (o : Nat) (v : Value) : RowT (w.setCell ⟨k, o, none⟩ v) k t len m (L.set o v) := by
  obtain ⟨R, h1, h2, h3⟩ := h
  refine ⟨R.set o v, ?_, by rw [List.length_set, h2], ?_⟩
  · rw [heap_setCell_same w k o _ _ _ h1, List.setIfInBounds_toArray]
  · rw [← h3, List.take_set]
def psiFl (k j : Nat) (b T : ByteArray) (q d r : Nat) (p : Int) (t : Nat) (v : Value) (W : World) : Prop :=
  match t with
  | 2 => v = .int .i64 (q : Int)
  | 6 => v = .pointer (some ⟨k, j * 5, none⟩)
  | 42 => v = .pointer (some ⟨k, j * 5, none⟩)
  | 43 => v = .pointer (some ⟨k, j * 5, none⟩)
  | 44 => v = .pointer (some ⟨k, j * 5, none⟩)
  | 45 => v = .pointer (some ⟨k, j * 5 + 2, none⟩)
  | 46 => v = .string b
  | 47 => v = .int .i64 (q : Int)
  | 48 => v = .int .i64 (d : Int)
  | 49 => v = .int .i64 ((4 + d : Nat) : Int)
  | 50 => v = .int .i64 (q : Int)
  | 51 => v = .int .i64 (r : Int)
  | 52 => v = .int .u8 p
  | 53 => v = .string T
  | 54 => v = .pointer (some ⟨k, j * 5, none⟩)
  | 55 => v = .pointer (some ⟨k, j * 5 + 2, none⟩)
  | _ => True
theorem psiFl_stable {k j : Nat} {b T : ByteArray} {q d r : Nat} {p : Int} {t : Nat} {v : Value} {w w' : World} (h : psiFl k j b T q d r p t v w) : psiFl k j b T q d r p t v w' := h
set_option maxHeartbeats 8000000 in
theorem net_flip_no {w : World} {g : Nat} {v : Value} {J : List Wj} (h : NetV w g v J) (i bit : Int) (hc : hasW J i = false ∨ bit < 0) :
    Calls Try.prog 13 #[.pointer (some ⟨g, 0, none⟩), .int .i64 i, .int .i64 bit] w fun e w' => e = .returned (.tuple #[]) ∧ w = w' := by
  have HH := Lib.hid (net_has h i)
  clear h
  cases hb : hasW J i with
  | false =>
    rw [hb] at HH
    clear hb hc
    go_enter Try.func13, Try.ntmps13
    go_wp2_with (go_at_call 23; (with_reducible refine HH.out.mono ?_); rintro e w1 ⟨rfl, rfl⟩)
    (first | refine bodyPost_noneR rfl rfl ?_ | refine bodyPost_none rfl rfl ?_)
    exact ⟨rfl, rfl⟩
  | true =>
    rw [hb] at HH hc
    have hz : bit < 0 := hc.elim (fun e => by cases e) id
    have hd : decide (bit < 0) = true := by simpa using hz
    clear hb hc
    go_enter Try.func13, Try.ntmps13
    go_wp2_with (go_at_call 23; (with_reducible refine HH.out.mono ?_); rintro e w1 ⟨rfl, rfl⟩)
    (first | refine bodyPost_noneR rfl rfl ?_ | refine bodyPost_none rfl rfl ?_)
    exact ⟨rfl, rfl⟩
/-- What the numbers of Flip come to. -/
structure FlN (x : Wj) (bn N q : Nat) : Prop where
  nE : N = x.bits
  qE : q = bn % x.bits
  lt : q < x.bits
  le : x.bits ≤ 40000
  s : x.b.size = N / 8 + 4
  s8 : N = 8 * (x.b.size - 4)
theorem fl_n {x : Wj} (h : x.ok) (bn : Nat) : FlN x bn x.bits (bn % x.bits) := by
  have h1 := pay_len h.right h.v
  have h2 := x.b_size
  have h3 := x.bits_eq
  refine ⟨rfl, rfl, Nat.mod_lt _ (by omega), by omega, by omega, by omega⟩
set_option maxHeartbeats 8000000 in
theorem net_flip_other {w : World} {g : Nat} {v : Value} {J : List Wj} (h : NetV w g v J) (j bn : Nat) (hj : j < J.length) (hx : (J.getD j wj0).ok) (hbn : (bn : Int) ≤ 9223372036854775807) (ho : (J.getD j wj0).on = true ∧ (J.getD j wj0).k ≠ bn % (J.getD j wj0).bits) :
    Calls Try.prog 13 #[.pointer (some ⟨g, 0, none⟩), .int .i64 (j : Int), .int .i64 (bn : Int)] w fun e w' => e = .returned (.tuple #[]) ∧ w = w' := by
  have HH := Lib.hid (net_has h (j : Int))
  rw [hasW_iff.2 (by omega)] at HH
  obtain ⟨k, c, rfl, hk⟩ := h.at_ hj
  have c0 := h.c
  obtain ⟨x, hxx⟩ : ∃ x, x = J.getD j wj0 := ⟨_, rfl⟩
  rw [← hxx] at hx ho hk
  have hn := fl_n hx bn
  obtain ⟨N, hN⟩ : ∃ N, N = x.bits := ⟨_, rfl⟩
  obtain ⟨q, hq⟩ : ∃ q, q = bn % x.bits := ⟨_, rfl⟩
  rw [← hq, ← hN] at hn
  rw [← hq] at ho
  have c2 := hk 2 (by decide)
  have c3 := hk 3 (by decide)
  have c4 := hk 4 (by decide)
  simp only [Wj.oc, List.getElem?_cons_zero, List.getElem?_cons_succ] at c2 c3 c4
  rw [ho.1] at c3
  obtain ⟨b, hb⟩ : ∃ b, b = x.b := ⟨_, rfl⟩
  obtain ⟨xk, hxk⟩ : ∃ xk, xk = x.k := ⟨_, rfl⟩
  rw [← hb] at c2
  rw [← hxk] at c4
  obtain ⟨n, hnn⟩ : ∃ n, n = J.length := ⟨_, rfl⟩
  rw [← hnn] at c0
  have s1 := hn.s
  have s2 := hn.le
  have s3 := hn.lt
  have s4 := hn.s8
  have s5 := hn.qE
  rw [← hN] at s2 s3 s5
  rw [← hb] at s1 s4
  have hw1 : IntKind.i64.wrap ((b.size : Int) - 4) = ((b.size - 4 : Nat) : Int) := by rw [IntWalk.i64_in _ (by omega)]; omega
  obtain ⟨m, hm⟩ : ∃ m, m = b.size - 4 := ⟨_, rfl⟩
  rw [← hm] at hw1
  have hw2 : IntKind.i64.wrap (8 * (m : Int)) = (N : Int) := by rw [IntWalk.i64_in _ (by omega)]; omega
  have hw3 : (bn : Int).tmod (N : Int) = (q : Int) := by rw [← Int.ofNat_tmod, ← s5]
  have hz : ((N : Int) == 0) = false := by rw [beq_eq_false_iff_ne]; omega
  have hz0 : ¬ (N : Int) = 0 := by omega
  have hz1 : ¬ N = 0 := by omega
  have hd0 : decide ((bn : Int) < 0) = false := by rw [decide_eq_false_iff_not]; omega
  have hjz : (j : Int) < (n : Int) := by omega
  have hjz0 : (0 : Int) ≤ (j : Int) := by omega
  have hne : ((xk : Int) != (q : Int)) = true := by rw [bne_iff_ne]; have := ho.2; omega
  clear h hj hx hbn ho hk hxx hn hN hq hb hxk hnn s1 s2 s3 s4 s5 hm
  go_enter Try.func13, Try.ntmps13
  go_wp2_with (go_at_call 23; (with_reducible refine HH.out.mono ?_); rintro e w1 ⟨rfl, rfl⟩)
  (first | refine bodyPost_noneR rfl rfl ?_ | refine bodyPost_none rfl rfl ?_)
  exact ⟨rfl, rfl⟩
theorem ocs_cell (J : List Wj) (j : Nat) (y : Wj) (h : j < J.length) (h1 : y.m.to_ = (J.getD j wj0).m.to_) (h2 : y.v = (J.getD j wj0).v) (w : World) (k n : Nat) (L : List Value) (hL : L = ((((ocs J).set (j * 5 + 2) (.string y.b)).set (j * 5 + 3) (.bool y.on)).set (j * 5 + 4) (.int .i64 (y.k : Int)))) : L = ocs (J.set j y) := by rw [hL, ocs_set3 J j h y h1 h2]
set_option maxHeartbeats 8000000 in
theorem net_flip_yes {w : World} {g : Nat} {v : Value} {J : List Wj} (h : NetV w g v J) (j bn : Nat) (hj : j < J.length) (hx : (J.getD j wj0).ok) (hbn : (bn : Int) ≤ 9223372036854775807) (ho : ¬ ((J.getD j wj0).on = true ∧ (J.getD j wj0).k ≠ bn % (J.getD j wj0).bits)) :
    Calls Try.prog 13 #[.pointer (some ⟨g, 0, none⟩), .int .i64 (j : Int), .int .i64 (bn : Int)] w fun e w' => e = .returned (.tuple #[]) ∧ NetV w' g v (J.set j ((J.getD j wj0).turn (bn % (J.getD j wj0).bits))) ∧ Moves (netO g v) (netO g v) w w' := by
  have HH := Lib.hid (net_has h (j : Int))
  rw [hasW_iff.2 (by omega)] at HH
  obtain ⟨k, c, rfl, hk⟩ := h.at_ hj
  have hkl := h.atlt rfl
  have c0 := h.c
  have HN := Lib.hid h
  obtain ⟨x, hxx⟩ : ∃ x, x = J.getD j wj0 := ⟨_, rfl⟩
  rw [← hxx] at hx ho hk ⊢
  have hn := fl_n hx bn
  have hlt : bn % x.bits < x.bits := hn.lt
  have hyb := Wj.turn_b hx hlt ho
  obtain ⟨N, hN⟩ : ∃ N, N = x.bits := ⟨_, rfl⟩
  obtain ⟨q, hq⟩ : ∃ q, q = bn % x.bits := ⟨_, rfl⟩
  rw [← hq] at hlt hyb
  rw [← hq, ← hN] at hn
  rw [← hq] at ho ⊢
  have c2 := hk 2 (by decide)
  have c3 := hk 3 (by decide)
  have c4 := hk 4 (by decide)
  simp only [Wj.oc, List.getElem?_cons_zero, List.getElem?_cons_succ] at c2 c3 c4
  have s1 := hn.s
  have s2 := hn.le
  have s3 := hn.lt
  have s4 := hn.s8
  have s5 := hn.qE
  rw [← hN] at s2 s3 s5
  have hsz : x.b.size ≤ 10000 := by omega
  have HT := Lib.hid (fun W => withTurned_any x.b q (by omega) hsz W)
  obtain ⟨y, hy⟩ : ∃ y, y = x.turn q := ⟨_, rfl⟩
  rw [← hy] at hyb ⊢
  have hy1 : y.m.to_ = (J.getD j wj0).m.to_ := by rw [hy, ← hxx]; rfl
  have hy2 : y.v = (J.getD j wj0).v := by rw [hy, ← hxx]; rfl
  have hy3 : y.on = !x.on := by rw [hy]; rfl
  have hy4 : y.k = q := by rw [hy]; rfl
  have HYS := Lib.hid (ocs_set3 J j hj y hy1 hy2)
  rw [← hyb] at HT
  obtain ⟨T, hT⟩ : ∃ T, T = y.b := ⟨_, rfl⟩
  rw [← hT] at HT HYS
  obtain ⟨b, hb⟩ : ∃ b, b = x.b := ⟨_, rfl⟩
  obtain ⟨xk, hxk⟩ : ∃ xk, xk = x.k := ⟨_, rfl⟩
  obtain ⟨on, hon⟩ : ∃ on, on = x.on := ⟨_, rfl⟩
  rw [← hb] at c2 s1 s4 HT
  rw [← hxk] at c4 ho
  rw [← hon] at c3 ho hy3
  rw [hy3, hy4] at HYS
  obtain ⟨n, hnn⟩ : ∃ n, n = J.length := ⟨_, rfl⟩
  rw [← hnn] at c0 hj ⊢
  have hw1 : IntKind.i64.wrap ((b.size : Int) - 4) = ((b.size - 4 : Nat) : Int) := by rw [IntWalk.i64_in _ (by omega)]; omega
  obtain ⟨m, hm⟩ : ∃ m, m = b.size - 4 := ⟨_, rfl⟩
  rw [← hm] at hw1
  have hw2 : IntKind.i64.wrap (8 * (m : Int)) = (N : Int) := by rw [IntWalk.i64_in _ (by omega)]; omega
  have hw3 : (bn : Int).tmod (N : Int) = (q : Int) := by rw [← Int.ofNat_tmod, ← s5]
  have hz : ((N : Int) == 0) = false := by rw [beq_eq_false_iff_ne]; omega
  have hz0 : ¬ (N : Int) = 0 := by omega
  have hz1 : ¬ N = 0 := by omega
  have hd0 : decide ((bn : Int) < 0) = false := by rw [decide_eq_false_iff_not]; omega
  have hjz : (j : Int) < (n : Int) := by omega
  have hjz0 : (0 : Int) ≤ (j : Int) := by omega
  obtain ⟨d, hd⟩ : ∃ d, d = q / 8 := ⟨_, rfl⟩
  obtain ⟨r, hr⟩ : ∃ r, r = q % 8 := ⟨_, rfl⟩
  have hr8 : r < 8 := by rw [hr]; exact Nat.mod_lt _ (by omega)
  have hw4 : (q : Int).tdiv 8 = (d : Int) := by rw [show (8 : Int) = ((8 : Nat) : Int) from rfl, ← Int.ofNat_tdiv, ← hd]
  have hw8 : IntKind.i64.wrap (d : Int) = (d : Int) := by rw [IntWalk.i64_in _ (by omega)]
  have hw5 : (q : Int).tmod 8 = (r : Int) := by rw [show (8 : Int) = ((8 : Nat) : Int) from rfl, ← Int.ofNat_tmod, ← hr]
  have hw6 : IntKind.i64.wrap (4 + (d : Int)) = ((4 + d : Nat) : Int) := by rw [IntWalk.i64_in _ (by omega)]; omega
  obtain ⟨p, hp⟩ : ∃ p : Int, p = ((2 ^ r : Nat) : Int) := ⟨_, rfl⟩
  have hw7 : IntKind.u8.wrap ((2 : Int) ^ r) = p := by
    rw [hp, IntKind.wrap_u8', show ((2 : Int) ^ r) = ((2 ^ r : Nat) : Int) by rw [Int.natCast_pow]; rfl]
    have := pow8 hr8
    generalize (2 : Nat) ^ r = cc at this ⊢
    omega
  have hr64 : ¬ (r : Int) < 0 := by omega
  have hr9 : (r : Int) < 8 := by omega
  rw [← hd, ← hr, ← hp, show ((4 + d : Nat) : Int) = 4 + (d : Int) by omega] at HT
  have hoc : on = false ∨ (on = true ∧ ((xk : Int) != (q : Int)) = false) := by
    cases on with
    | false => exact .inl rfl
    | true => exact .inr ⟨rfl, by rw [bne_eq_false_iff_eq]; have : xk = q := Classical.byContradiction fun e => ho ⟨rfl, e⟩; omega⟩
  have ht0 : RowT w k 70 (c * 5) (n * 5) (ocs J) := by
    rcases h.2.2 with ⟨h1, _⟩ | ⟨k', c', cur, h1, _, h2, h3, h4, h5, h6⟩
    · cases h1
    · injection h1 with e1 e2 e3
      injection e1 with e1
      injection e1 with e1
      subst e1 e3
      exact ⟨cur.toList, by simpa using h2, by simpa using h5, by rw [hnn]; exact h6⟩
  have HRT := Lib.hid ht0
  have HKL := Lib.hid hkl
  have hfr : ∀ o, w.frozen? ⟨k, o, none⟩ = false := fun o => by obtain ⟨R, h1, _⟩ := ht0; exact frozen_of_row _ _ _ _ _ h1
  have HFR := Lib.hid hfr
  have HC2 := Lib.hid c2
  have HC3 := Lib.hid c3
  have HC4 := Lib.hid c4
  have HJN := Lib.hid hj
  have HNC := Lib.hid (show n ≤ c ∧ c ≤ maxLen by
    rcases h.2.2 with ⟨h1, _⟩ | ⟨k', c', cur, h1, _, h2, h3, h4, _⟩
    · cases h1
    · injection h1 with e1 e2 e3
      subst e3
      exact ⟨by rw [hnn]; exact h3, h4⟩)
  have hGK := Lib.hid (show g ≠ k from fun e => h.ne (by rw [e]; rfl))
  have HG := Lib.hid h.1
  rw [← hnn] at HG
  have HNN := Lib.hid hnn
  clear h hx hbn ho hk hxx hn hN hq hb hxk hnn s1 s2 s3 s4 s5 hm hd hr hp hr8 hT hon hy hy1 hy2 hy3 hy4 hyb hlt hfr hkl hsz HN ht0 hj
  go_enter Try.func13, Try.ntmps13
  go_upto_region 3 with (go_at_call 23; (with_reducible refine HH.out.mono ?_); rintro e w1 ⟨rfl, rfl⟩)
  have HTN := Lib.hid hoc
  clear hoc hz hz0 hz1 hd0 hw1 hw2 hw3 hjz hjz0
  have htl : on = false ∨ on = true := by cases on <;> simp
  rcases HTN.out with rfl | ⟨rfl, hxq⟩
  all_goals
    clear HTN htl
    go_upto_region 4 with fail
    refine wp_region_tailN [2, 6] [53, 55] (fun x y => Below x.heap.size x y) (psiFl k j b T q d r p) (fun _ _ => True) 68 14 none (.store 9 (.tmp 55) (.tmp 53)) (by kernel_rfl) (by kernel_rfl) (by kernel_rfl) (by kernel_rfl) rfl (by kernel_rfl) (by kernel_rfl)
      (Below.refl _ _).drew (fun _ _ _ h k => h.trans (k.mono h.size)) (fun _ _ _ _ h k => psiFl_stable h) (fun _ _ _ _ _ => trivial) ?_ ?_ [42, 43, 44, 45, 46, 47, 48, 49, 50, 51, 52, 53, 54, 55] (by kernel_rfl) ?_
    · intro t ht w' _
      simp only [List.mem_cons, List.not_mem_nil, or_false] at ht
      rcases ht with rfl | rfl <;> rfl
    · repeat' (first | exact AllStepsL.nil | refine AllStepsL.cons ?_ ?_)
      all_goals
        intro hik
        first
          | (exfalso; revert hik; decide)
          | (intro a' w' K' Q' hRl hP hK'
             have c2 := (hRl.cell (p := ⟨k, j * 5 + 2, none⟩) HKL.out).trans HC2.out
             clear hRl c3 c4 c0
             repeat (obtain ⟨h, hP⟩ := hP; conv at h => whnf)
             try go_simp
             first
              | (refine hK' _ _ (Below.refl _ _) trivial ?_; intro d hd; cases hd; first | rfl | exact h)
              | (go_at_call 28; (with_reducible refine (HT.out _).mono ?_); rintro e w4 ⟨rfl, hb4⟩; refine hK' _ _ hb4 trivial ?_; intro d hd; cases hd; rfl)
              | (trace_state; fail))
    · intro f w5 hRl hf hT ok hd ho
      have h55 : f 55 = .pointer (some ⟨k, j * 5 + 2, none⟩) := hf 55 (by simp)
      have h53 : f 53 = .string T := hf 53 (by simp)
      have c2 := (hRl.cell (p := ⟨k, j * 5 + 2, none⟩) HKL.out).trans HC2.out
      have c3 := (hRl.cell (p := ⟨k, j * 5 + 3, none⟩) HKL.out).trans HC3.out
      have c4 := (hRl.cell (p := ⟨k, j * 5 + 4, none⟩) HKL.out).trans HC4.out
      obtain ⟨R, hR, hR2, hR3⟩ := HRT.out
      have hRk : w5.heap[k]? = some (.cells R.toArray 70 (0, 0)) := (hRl.block k HKL.out).trans hR
      have hrt5 : RowT w5 k 70 (c * 5) (n * 5) (ocs J) := ⟨R, hRk, hR2, hR3⟩
      have hg5 : w5.heap[g]? = some (.cells (nRow (.slice (some ⟨k, 0, none⟩) n c)) 61 (0, 0)) := (hRl.block g (Array.getElem?_eq_some_iff.1 HG.out).1).trans HG.out
      have kf : ∀ o, w5.frozen? ⟨k, o, none⟩ = false := fun o => frozen_of_row _ _ _ _ _ hRk
      have hm5 : Moves (netO g (.slice (some ⟨k, 0, none⟩) n c)) (netO g (.slice (some ⟨k, 0, none⟩) n c)) w w5 := Moves.of_below hRl
      have HRT5 := Lib.hid hrt5
      have HG5 := Lib.hid hg5
      have HM5 := Lib.hid hm5
      simp only [putAll, List.foldl_cons, List.foldl_nil, h53, h55]
      dsimp only [Act.put]
      simp only [List.setIfInBounds_toArray]
      simp only [List.set_cons_succ, List.set_cons_zero]
      refine wp_store1K 9 _ _ ho ⟨k, j * 5 + 2, none⟩ (.string T) _ rfl rfl rfl c2 (kf _) (by kernel_rfl) ?_
      rw [hd]
      clear hRl hf hT hd ho h53 h55 hrt5 hg5 hm5 hRk hR hR2 hR3
      go_wp2_with fail
      refine bodyPost_none rfl rfl ?_
      refine ⟨rfl, ⟨?_, ?_⟩, ?_⟩
      · rw [Below.heap_setCell _ _ _ _ hGK.out, Below.heap_setCell _ _ _ _ hGK.out, Below.heap_setCell _ _ _ _ hGK.out]; exact HG5.out
      · obtain ⟨R, r1, r2, r3⟩ := ((HRT5.out.setIn (j * 5 + 2) (.string T)).setIn (j * 5 + 3) (.bool _)).setIn (j * 5 + 4) (.int .i64 (q : Int))
        have hel : (J.set j y).length = n := by rw [List.length_set]; exact HNN.out.symm
        rw [hel]
        exact ⟨by rw [ocs_len, hel], .inr ⟨k, c, R.toArray, rfl, Nat.zero_le _, r1, HNC.out.1, HNC.out.2, by rw [List.size_toArray, r2], r3.trans HYS.out⟩⟩
      · exact ((HM5.out.setW (p := ⟨k, j * 5 + 2, none⟩) (.inr rfl) (.string T)).setW (p := ⟨k, j * 5 + 3, none⟩) (.inr rfl) (.bool _)).setW (p := ⟨k, j * 5 + 4, none⟩) (.inr rfl) (.int .i64 (q : Int))
end Go.Proofs.Ytbhlgceicfjncaa
