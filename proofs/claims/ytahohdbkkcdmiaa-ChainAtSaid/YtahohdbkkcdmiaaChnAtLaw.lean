/-
  ChainAt from what is asked of the program's chains.
-/
import Derived.Test.YtahohdbkkcdmiaaChnLaws
namespace Go.Proofs.Ytahohdbkkcdmiaa
open Go.RowKit
set_option linter.unusedVariables false
set_option linter.unnecessarySimpa false
set_option linter.unusedSimpArgs false
set_option maxRecDepth 100000

theorem wrap8 (x : Int) : ∃ n : Nat, IntKind.u8.wrap x = (n : Int) ∧ n < 256 := by
  rw [IntKind.wrap_u8']
  exact ⟨(x % 256).toNat, by omega, by omega⟩
theorem wrap64n (x : Int) : ∃ n : Nat, IntKind.u64.wrap x = (n : Int) ∧ n < 18446744073709551616 := by
  rw [IntKind.wrap_u64]
  exact ⟨(x % 18446744073709551616).toNat, by omega, by omega⟩

set_option maxHeartbeats 4000000 in
theorem chainAt_of (C : ChnC) (a : Option Addr) (len cap : Nat) (zs : List Vr) (t : Nat) (ht : t < 18446744073709551616) (x y : Int) (hx : -128 ≤ x ∧ x ≤ 127) (hy : -128 ≤ y ∧ y ≤ 127) (w : World) (hz : IsVers w a len cap zs) :
    Calls Try.prog 5 #[.slice a len cap, .int .u64 (t : Int), .agg #[.int .i8 x, .int .i8 y]] w fun e w' => e = .returned (.bool true) ∧ Below w.heap.size w w' := by
  have haw := Lib.hid (cawake_any C)
  obtain ⟨hx1, hx2⟩ := hx
  obtain ⟨hy1, hy2⟩ := hy
  obtain ⟨N, hN, hN2⟩ := wrap8 x
  rw [IntKind.wrap_u8'] at hN
  have HZ := Lib.hid hz
  have HF1 := Lib.hid (fun hf W (hb : Below w.heap.size w W) => vfew_yes a len cap 60 zs W (vers_below hz hb) (by decide) hf)
  have HF0 := Lib.hid (fun hf W (hb : Below w.heap.size w W) => vfew_no a len cap 60 zs W (vers_below hz hb) (by decide) hf)
  have HRR := Lib.hid (fun W (hb : Below w.heap.size w W) => vright_any a len cap zs W (vers_below hz hb))
  have hlm := hz.2
  unfold maxLen at hlm
  clear hz
  go_enter Try.func5, Try.ntmps5
  go_wp2_with fail
  go_quiet (fail)
  have hb0 := Lib.hid (show Below w.heap.size w ((w.alloc (.cells #[.int .i8 x, .int .i8 y] 36)).drewN nq) from below_drewV ((Below.refl _ _).alloc (Nat.le_refl _) _) nq)
  obtain ⟨W0, hW0⟩ : ∃ W0, W0 = (w.alloc (.cells #[.int .i8 x, .int .i8 y] 36)).drewN nq := ⟨_, rfl⟩
  rw [← hW0] at hb0 ⊢
  clear hW0
  have hawk := Lib.hid (show ∀ W, Below w.heap.size w W → Calls Try.prog 7 #[] W fun e w' => e = .returned (.bool true) ∧ Below w.heap.size w w' from fun W hb => (haw.out W).mono fun e w' ⟨he, h⟩ => ⟨he, hb.trans (h.mono hb.size)⟩)
  clear haw
  by_cases hf : FewVers zs 60
  · cases hr : rightB zs with
    | false =>
      rw [hr] at HRR
      have HF := Lib.hid (HF1.out hf)
      clear hf hr HF1 HF0
      go_upto_region 3 with (first
        | (go_at_call 7; refine (hawk.out _ hb0.out).mono ?_; rintro e w1 ⟨rfl, hb1⟩; have hb1 := Lib.hid hb1)
        | (go_at_call 8; refine (HF.out _ hb1.out).mono ?_; rintro e w1 ⟨rfl, rfl⟩)
        | (go_at_call 11; refine (HRR.out _ hb1.out).mono ?_; rintro e w4 ⟨rfl, n4, rfl⟩; have hb4 := Lib.hid (below_drewV hb1.out n4)))
      go_wp2_with (go_at_call 7; refine (hawk.out _ hb4.out).mono ?_; rintro e w5 ⟨rfl, hb5⟩)
      go_ret
      exact ⟨rfl, hb5⟩
    | true =>
      have HF := Lib.hid (HF1.out hf)
      have HAP := Lib.hid (fun t' W (hb : Below w.heap.size w W) ht' => C.at_ a len cap zs t' W (vers_below HZ.out hb) hr (fun v hv => Nat.le_trans ((few_mem hf (by decide)).1 v hv) (by decide)) ht')
      have HAR := Lib.hid (fun t' W (hb : Below w.heap.size w W) ht' => vat_any a len cap zs t' ht' W (vers_below HZ.out hb))
      rw [hr] at HRR
      clear hf hr HF1 HF0
      go_upto_region 4 with (first
        | (go_at_call 7; refine (hawk.out _ hb0.out).mono ?_; rintro e w1 ⟨rfl, hb1⟩; have hb1 := Lib.hid hb1)
        | (go_at_call 8; refine (HF.out _ hb1.out).mono ?_; rintro e w1 ⟨rfl, rfl⟩)
        | (go_at_call 11; refine (HRR.out _ hb1.out).mono ?_; rintro e w4 ⟨rfl, n4, rfl⟩; have hb4 := Lib.hid (below_drewV hb1.out n4)))
      obtain ⟨W4, hW4⟩ : ∃ W4, W4 = w1.drewN n4 := ⟨_, rfl⟩
      rw [← hW4] at hb4 ⊢
      clear hW4
      have hcs : len = 0 ∨ (0 < len ∧ N < 200) ∨ (0 < len ∧ ¬ N < 200) := by omega
      have done : ∀ (t' : Nat), t' < 18446744073709551616 → ∃ u : Vr, ∃ k : Bool, Hid (∀ W, Below w.heap.size w W → Calls Try.prog 15 #[.slice a len cap, .int .u64 (t' : Int)] W fun e w' => e = .returned (.tuple #[.agg #[.int .u64 (u.time : Int), .bool u.gone, .string u.val], .bool k]) ∧ Below W.heap.size W w') ∧
          Hid (∀ W, Below w.heap.size w W → Calls Try.prog 16 #[.slice a len cap, .int .u64 (t' : Int)] W fun e w' => e = .returned (.tuple #[.agg #[.int .u64 (u.time : Int), .bool u.gone, .string u.val], .bool k]) ∧ Below W.heap.size W w') :=
        fun t' ht' => ⟨(atV zs t').getD vr0, (atV zs t').isSome, Lib.hid (fun W hb => HAP.out t' W hb ht'), Lib.hid (fun W hb => HAR.out t' W hb ht')⟩
      rcases hcs with h0 | ⟨h0, h1⟩ | ⟨h0, h1⟩
      · subst h0
        obtain ⟨u, k, HP, HQ⟩ := done t ht
        clear done HAP HAR HRR HF
        go_wp2_with (first
          | (go_at_call 15; refine (HP.out _ hb4.out).mono ?_; rintro e w5 ⟨rfl, hb5⟩; have hb5 := Lib.hid (hb4.out.trans (hb5.mono hb4.out.size)))
          | (go_at_call 16; refine (HQ.out _ (hb5.out.alloc hb5.out.size _)).mono ?_; rintro e w6 ⟨rfl, hb6⟩; have hr6 := Lib.hid ((hb6.block w5.heap.size (by simp)).trans (heap_alloc_new w5 (.cells #[.int .u64 (u.time : Int), .bool u.gone, .string u.val] 38))); have d0 : w6.cell? ⟨w5.heap.size, 0, none⟩ = some (.int .u64 (u.time : Int)) := by rw [cell_of_row _ _ _ _ _ _ hr6.out]; rfl
             have d1 : w6.cell? ⟨w5.heap.size, 1, none⟩ = some (.bool u.gone) := by rw [cell_of_row _ _ _ _ _ _ hr6.out]; rfl
             have d2 : w6.cell? ⟨w5.heap.size, 2, none⟩ = some (.string u.val) := by rw [cell_of_row _ _ _ _ _ _ hr6.out]; rfl
             have hlt6 : w5.heap.size < w6.heap.size := (Array.getElem?_eq_some_iff.1 hr6.out).1
             have hb6 := Lib.hid ((hb5.out.alloc hb5.out.size _).trans (hb6.mono (Nat.le_trans hb5.out.size (by simp))))))
        go_ret
        exact ⟨rfl, hb6.out.alloc hb6.out.size _⟩
      · have hlz : (0 : Int) < (len : Int) := by omega
        have hl0 : ((len : Int) == 0) = false := by rw [beq_eq_false_iff_ne]; omega
        have hNz : (N : Int) < 200 := by omega
        have hNb : (N : Int) ≤ 255 := by omega
        obtain ⟨q, hq⟩ : ∃ q, q = N % len := ⟨_, rfl⟩
        have hql : q < len := by rw [hq]; exact Nat.mod_lt _ h0
        have hqz : (N : Int) % (len : Int) = (q : Int) := by rw [hq]; rfl
        have hqt : (N : Int).tmod (len : Int) = (q : Int) := by rw [hq]; rfl
        have hqi : (q : Int) < (len : Int) := by omega
        have hq0 : (0 : Int) ≤ (q : Int) := by omega
        have hwq : IntKind.i64.wrap (q : Int) = (q : Int) := IntWalk.i64_in _ (by omega)
        have hwN : IntKind.i64.wrap (N : Int) = (N : Int) := IntWalk.i64_in _ (by omega)
        have hwy : IntKind.i64.wrap y = y := IntWalk.i64_in _ (by omega)
        obtain ⟨b, off, rfl, hbl, ht1, _, k0, _, _⟩ := HZ.out.1.2 q hql
        have c0 := (hb4.out.cell (p := ⟨b, off + q * 3, none⟩) hbl).trans k0
        obtain ⟨Y, hY, hY2⟩ := wrap64n y
        obtain ⟨Tq, hTq⟩ : ∃ Tq, Tq = (zs.getD q vr0).time := ⟨_, rfl⟩
        rw [← hTq] at c0
        obtain ⟨T', hT', hT2⟩ := wrap64n ((Tq : Int) + (Y : Int))
        obtain ⟨u, k, HP, HQ⟩ := done T' hT2
        clear done HAP HAR HRR HF hTq k0 hq ht1 h1
        go_wp2_with (first
          | (go_at_call 15; refine (HP.out _ hb4.out).mono ?_; rintro e w5 ⟨rfl, hb5⟩; have hb5 := Lib.hid (hb4.out.trans (hb5.mono hb4.out.size)))
          | (go_at_call 16; refine (HQ.out _ (hb5.out.alloc hb5.out.size _)).mono ?_; rintro e w6 ⟨rfl, hb6⟩; have hr6 := Lib.hid ((hb6.block w5.heap.size (by simp)).trans (heap_alloc_new w5 (.cells #[.int .u64 (u.time : Int), .bool u.gone, .string u.val] 38))); have d0 : w6.cell? ⟨w5.heap.size, 0, none⟩ = some (.int .u64 (u.time : Int)) := by rw [cell_of_row _ _ _ _ _ _ hr6.out]; rfl
             have d1 : w6.cell? ⟨w5.heap.size, 1, none⟩ = some (.bool u.gone) := by rw [cell_of_row _ _ _ _ _ _ hr6.out]; rfl
             have d2 : w6.cell? ⟨w5.heap.size, 2, none⟩ = some (.string u.val) := by rw [cell_of_row _ _ _ _ _ _ hr6.out]; rfl
             have hlt6 : w5.heap.size < w6.heap.size := (Array.getElem?_eq_some_iff.1 hr6.out).1
             have hb6 := Lib.hid ((hb5.out.alloc hb5.out.size _).trans (hb6.mono (Nat.le_trans hb5.out.size (by simp))))))
        go_ret
        exact ⟨rfl, hb6.out.alloc hb6.out.size _⟩
      · have hlz : (0 : Int) < (len : Int) := by omega
        have hNz : ¬ (N : Int) < 200 := by omega
        obtain ⟨u, k, HP, HQ⟩ := done t ht
        clear done HAP HAR HRR HF h1
        go_wp2_with (first
          | (go_at_call 15; refine (HP.out _ hb4.out).mono ?_; rintro e w5 ⟨rfl, hb5⟩; have hb5 := Lib.hid (hb4.out.trans (hb5.mono hb4.out.size)))
          | (go_at_call 16; refine (HQ.out _ (hb5.out.alloc hb5.out.size _)).mono ?_; rintro e w6 ⟨rfl, hb6⟩; have hr6 := Lib.hid ((hb6.block w5.heap.size (by simp)).trans (heap_alloc_new w5 (.cells #[.int .u64 (u.time : Int), .bool u.gone, .string u.val] 38))); have d0 : w6.cell? ⟨w5.heap.size, 0, none⟩ = some (.int .u64 (u.time : Int)) := by rw [cell_of_row _ _ _ _ _ _ hr6.out]; rfl
             have d1 : w6.cell? ⟨w5.heap.size, 1, none⟩ = some (.bool u.gone) := by rw [cell_of_row _ _ _ _ _ _ hr6.out]; rfl
             have d2 : w6.cell? ⟨w5.heap.size, 2, none⟩ = some (.string u.val) := by rw [cell_of_row _ _ _ _ _ _ hr6.out]; rfl
             have hlt6 : w5.heap.size < w6.heap.size := (Array.getElem?_eq_some_iff.1 hr6.out).1
             have hb6 := Lib.hid ((hb5.out.alloc hb5.out.size _).trans (hb6.mono (Nat.le_trans hb5.out.size (by simp))))))
        go_ret
        exact ⟨rfl, hb6.out.alloc hb6.out.size _⟩
  · have HF := Lib.hid (HF0.out hf)
    clear hf HF1 HF0
    go_upto_region 3 with (first
      | (go_at_call 7; refine (hawk.out _ hb0.out).mono ?_; rintro e w1 ⟨rfl, hb1⟩; have hb1 := Lib.hid hb1)
      | (go_at_call 8; refine (HF.out _ hb1.out).mono ?_; rintro e w1 ⟨rfl, rfl⟩))
    go_wp2_with (go_at_call 7; refine (hawk.out _ hb1.out).mono ?_; rintro e w5 ⟨rfl, hb5⟩)
    go_ret
    exact ⟨rfl, hb5⟩
end Go.Proofs.Ytahohdbkkcdmiaa
