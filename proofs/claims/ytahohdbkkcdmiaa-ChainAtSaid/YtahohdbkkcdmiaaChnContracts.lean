/-
  What is asked of the program's chains; layer 9's 'awake'; ChainBack, ChainDecodes from that.
-/
import Derived.Test.YtahohdbkkcdmiaaChnBytes
namespace Go.Proofs.Ytahohdbkkcdmiaa
open Go.RowKit
set_option linter.unusedVariables false
set_option linter.unnecessarySimpa false
set_option linter.unusedSimpArgs false
set_option maxRecDepth 100000

/-- A chain whose times are numbers. -/
def okV (zs : List Vr) : Prop := rightB zs = true ∧ ∀ v ∈ zs, v.time < 18446744073709551616
def chainS (zs : List Vr) : ByteArray := ⟨(chainB zs).toArray⟩
/-- Versions handed back, beside an error. -/
def VersOut (zs : List Vr) (k : Int) (w : World) (e : Ending) (w' : World) : Prop := ∃ a c, e = .returned (.tuple #[.slice a zs.length c, .int .i64 k]) ∧ IsVers w' a zs.length c zs ∧ Below w.heap.size w w'

structure ChnC : Prop where
  encYes : ∀ (a : Option Addr) (len cap : Nat) (zs : List Vr) (w : World), IsVers w a len cap zs → rightB zs = true → (∀ v ∈ zs, v.val.size ≤ 60000) →
    Calls Try.prog 9 #[.slice a len cap] w fun e w' => e = .returned (.tuple #[.string (chainS zs), .int .i64 0]) ∧ Below w.heap.size w w'
  encNo : ∀ (a : Option Addr) (len cap : Nat) (zs : List Vr) (w : World), IsVers w a len cap zs → rightB zs = false → (∀ v ∈ zs, v.val.size ≤ 60000) → len ≤ 1000 →
    Calls Try.prog 9 #[.slice a len cap] w fun e w' => e = .returned (.tuple #[.string ⟨#[]⟩, .int .i64 1]) ∧ Below w.heap.size w w'
  right : ∀ (a : Option Addr) (len cap : Nat) (zs : List Vr) (w : World), IsVers w a len cap zs → (∀ v ∈ zs, v.val.size ≤ 60000) → len ≤ 1000 →
    Calls Try.prog 10 #[.slice a len cap] w fun e w' => e = .returned (.bool (rightB zs)) ∧ Below w.heap.size w w'
  at_ : ∀ (a : Option Addr) (len cap : Nat) (zs : List Vr) (t : Nat) (w : World), IsVers w a len cap zs → rightB zs = true → (∀ v ∈ zs, v.val.size ≤ 60000) → t < 18446744073709551616 →
    Calls Try.prog 15 #[.slice a len cap, .int .u64 (t : Int)] w fun e w' => e = .returned (atOut (atV zs t)) ∧ Below w.heap.size w w'
  decYes : ∀ (zs : List Vr) (w : World), okV zs → allN zs ≤ 60000 → Calls Try.prog 12 #[.string (chainS zs)] w (VersOut zs 0 w)
  decLong : ∀ (zs : List Vr) (w : World), okV zs → 60000 < allN zs → (∀ v ∈ zs, v.val.size ≤ 60000) → Calls Try.prog 12 #[.string (chainS zs)] w (VersOut [] 3 w)
  decNo : ∀ (b : ByteArray) (w : World), b.size ≤ 100000 → (¬ ∃ zs, okV zs ∧ allN zs ≤ 60000 ∧ b = chainS zs) →
    Calls Try.prog 12 #[.string b] w fun e w' => VersOut [] 2 w e w' ∨ VersOut [] 3 w e w'

theorem vers_below {w w' : World} {a : Option Addr} {len cap : Nat} {zs : List Vr} (h : IsVers w a len cap zs) (hb : Below w.heap.size w w') : IsVers w' a len cap zs := by
  refine ⟨⟨h.1.1, fun i hi => ?_⟩, h.2⟩
  obtain ⟨b, off, ha, hlt, h1, h2, h3, h4, h5⟩ := h.1.2 i hi
  exact ⟨b, off, ha, Nat.lt_of_lt_of_le hlt hb.size, h1, h2, (hb.cell (p := ⟨b, off + i * 3, none⟩) hlt).trans h3, (hb.cell (p := ⟨b, off + i * 3 + 1, none⟩) hlt).trans h4, (hb.cell (p := ⟨b, off + i * 3 + 2, none⟩) hlt).trans h5⟩
theorem below_drewV {B : Nat} {w w' : World} (h : Below B w w') (n : Nat) : Below B w (w'.drewN n) := ⟨h.os, h.tape, h.output, h.size, h.block⟩
theorem vers_mem {w : World} {a : Option Addr} {len cap : Nat} {zs : List Vr} (h : IsVers w a len cap zs) : ∀ v ∈ zs, v.time < 18446744073709551616 := fun v hv => by
  obtain ⟨i, hi, rfl⟩ := List.mem_iff_getElem.1 hv
  obtain ⟨_, _, _, _, h1, _⟩ := h.1.2 i (by rw [← h.1.1]; exact hi)
  rwa [List.getD, List.getElem?_eq_getElem hi] at h1
theorem few_mem {zs : List Vr} {n : Nat} (h : FewVers zs n) (hn : n < 500) : (∀ v ∈ zs, v.val.size ≤ 500) ∧ allN zs ≤ 500 * n := by
  have h1 : ∀ v ∈ zs, v.val.size ≤ 500 := fun v hv => by
    obtain ⟨i, hi, rfl⟩ := List.mem_iff_getElem.1 hv
    have := h.1 i hi (by have := h.2; omega)
    rwa [List.getD, List.getElem?_eq_getElem hi] at this
  refine ⟨h1, ?_⟩
  have h2 : ∀ l : List Vr, (∀ v ∈ l, v.val.size ≤ 500) → allN l ≤ 500 * l.length := by
    intro l
    induction l with
    | nil => intro _; simp [allN]
    | cons v l ih =>
      intro hl
      have a1 := hl v (by simp)
      have a2 := ih (fun x hx => hl x (by simp [hx]))
      unfold allN at a2 ⊢
      rw [List.map_cons, List.sum_cons, List.length_cons]
      omega
  have h3 := h2 zs h1
  have h4 := h.2
  have : 500 * zs.length ≤ 500 * n := Nat.mul_le_mul_left _ h4
  omega
theorem allN_mem : ∀ (l : List Vr) (v : Vr), v ∈ l → v.val.size ≤ allN l
  | x :: l, v, h => by
    unfold allN
    rw [List.map_cons, List.sum_cons]
    rcases List.mem_cons.1 h with rfl | h
    · omega
    · have := allN_mem l v h
      unfold allN at this
      omega
theorem right_parts {zs : List Vr} (h : rightB zs = true) : risesB 0 zs = true ∧ zs.length ≤ 200 := by
  unfold rightB at h
  simpa using h

def vrAB : Vr := ⟨5, false, ⟨#[97, 98]⟩⟩
theorem chain_ab : chainS [vrAB] = ⟨#[1, 5, 0, 0, 0, 2, 97, 98]⟩ := by
  have : chainB [vrAB] = [1, 5, 0, 0, 0, 2, 97, 98] := by
    show ub 1 ++ (ub 5 ++ (0 :: (ub 0 ++ ub 0 ++ (ub 2 ++ [97, 98])) ++ [])) = _
    rw [ub_small (by decide), ub_small (by decide), ub_small (by decide), ub_small (by decide)]
    rfl
  unfold chainS
  rw [this]

set_option maxHeartbeats 1000000 in
theorem cawake_any (C : ChnC) (w : World) : Calls Try.prog 7 #[] w fun e w' => e = .returned (.bool true) ∧ Below w.heap.size w w' := by
  have hv := Lib.hid (show ∀ W : World, IsVers (W.alloc (.cells #[.int .u64 5, .bool false, .string ⟨#[97, 98]⟩] 38)) (some ⟨W.heap.size, 0, none⟩) 1 1 [vrAB] from fun W => by
    refine ⟨⟨rfl, fun i hi => ?_⟩, by decide⟩
    obtain rfl : i = 0 := by omega
    refine ⟨W.heap.size, 0, rfl, by simp, by decide, by decide, ?_, ?_, ?_⟩ <;> rw [cell_of_row _ _ _ _ _ _ (heap_alloc_new W _)] <;> rfl)
  have he := Lib.hid (fun W => C.encYes _ 1 1 [vrAB] _ (hv.out W) (by decide) (fun v h => by rw [List.mem_singleton.1 h]; decide))
  rw [chain_ab] at he
  go_enter Try.func7, Try.ntmps7
  go_wp2_with (go_at_call 9; refine (he.out _).mono ?_; rintro e w1 ⟨rfl, hb1⟩)
  go_ret
  exact ⟨rfl, ((Below.refl _ _).alloc (Nat.le_refl _) _).trans (hb1.mono (by simp))⟩
end Go.Proofs.Ytahohdbkkcdmiaa
