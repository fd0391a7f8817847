/-
  A frame with a bit turned, as the program makes it.
-/
import Derived.Test.YtbhlgceicfjncaaSet19
import Derived.Test.YtbhlgceicfjncaaSet25
import Derived.Test.YtbhlgceicfjncaaSet01
namespace Go.Proofs.Ytbhlgceicfjncaa
open Go.RowKit
set_option linter.unusedVariables false
set_option linter.unnecessarySimpa false
set_option linter.unusedSimpArgs false
set_option maxRecDepth 100000

theorem wp_assignW {P : Program} {op : Oper} {a : Act} {w : World} {K : Act → World → Prop} {Q : Exit → Act → World → Prop} (x : Operand) (ho : op.op = .assign x) (v : Value) (hx : a.eval x = v) (h : K (a.put op.dst v) w) : op.wp P a w K Q := by
  unfold Oper.wp execOp
  simp only [ho, hx, Sem.run_pure]
  exact h
def psiTn (b : ByteArray) (n : Nat) (p : Int) (c y : UInt8) (T : ByteArray) (t : Nat) (v : Value) (W : World) : Prop :=
  match t with
  | 0 => v = .string b
  | 1 => v = .int .i64 (n : Int)
  | 2 => v = .int .u8 p
  | 7 => v = .string b
  | 8 => v = .int .i64 (n : Int)
  | 9 => v = .string (b.extract 0 n)
  | 10 => v = .string b
  | 11 => v = .int .i64 (n : Int)
  | 12 => v = .int .u8 (c.toNat : Int)
  | 13 => v = .int .u8 p
  | 14 => v = .int .u8 (y.toNat : Int)
  | 15 => ∃ g, v = .slice (some ⟨g, 0, none⟩) 1 1 ∧ W.heap[g]? = some (.cells #[.int .u8 (y.toNat : Int)] 5 (0, 0))
  | 16 => v = .string ⟨#[y]⟩
  | 17 => v = .string (b.extract 0 n ++ ⟨#[y]⟩)
  | 18 => v = .string b
  | 19 => v = .int .i64 (n : Int)
  | 20 => v = .int .i64 ((n : Int) + 1)
  | 21 => v = .string (b.extract (n + 1) b.size)
  | 22 => v = .string T
  | _ => True
theorem psiTn_stable {b : ByteArray} {n : Nat} {p : Int} {c y : UInt8} {T : ByteArray} {t : Nat} {v : Value} {w w' : World} (h : psiTn b n p c y T t v w) (hb : Below w.heap.size w w') : psiTn b n p c y T t v w' := by
  by_cases e : t = 15
  · subst e
    obtain ⟨g, h1, h2⟩ := h
    exact ⟨g, h1, (hb.block g (Array.getElem?_eq_some_iff.1 h2).1).trans h2⟩
  · unfold psiTn at h ⊢
    split at h <;> first | exact h | exact absurd rfl e | trivial
set_option maxHeartbeats 4000000 in
theorem withTurned_any (b : ByteArray) (k : Nat) (h : 4 + k / 8 < b.size) (hb : b.size ≤ 10000) (w : World) :
    Calls Try.prog 28 #[.string b, .int .i64 (((4 + k / 8 : Nat)) : Int), .int .u8 ((2 ^ (k % 8) : Nat) : Int)] w fun e w' => e = .returned (.string (turnS b k)) ∧ Below w.heap.size w w' := by
  have hp := turnS_parts b h
  obtain ⟨at_, hat⟩ : ∃ at_, at_ = 4 + k / 8 := ⟨_, rfl⟩
  rw [← hat] at h hp ⊢
  clear hat
  have hr : k % 8 < 8 := Nat.mod_lt _ (by omega)
  have hx : bits BinOp.xor IntKind.u8 ((b.data.toList.getD at_ 0).toNat : Int) ((2 ^ (k % 8) : Nat) : Int) = ((xorB (b.data.toList.getD at_ 0) (k % 8)).toNat : Int) := by
    rw [u8_xor_nat _ _ (UInt8.toNat_lt _) (pow8 hr), xorB_nat _ hr]
  obtain ⟨y, hy⟩ : ∃ y, y = xorB (b.data.toList.getD at_ 0) (k % 8) := ⟨_, rfl⟩
  obtain ⟨p, hpp⟩ : ∃ p : Int, p = ((2 ^ (k % 8) : Nat) : Int) := ⟨_, rfl⟩
  rw [← hy] at hp
  rw [← hpp, ← hy] at hx
  rw [← hpp]
  obtain ⟨T, hT⟩ : ∃ T, T = turnS b k := ⟨_, rfl⟩
  rw [← hT] at hp ⊢
  clear hy hpp hT hr
  have hz : (at_ : Int) < (b.size : Int) := by omega
  have hz1 : (at_ : Int) + 1 ≤ (b.size : Int) := by omega
  have hz2 : (at_ : Int) ≤ (b.size : Int) := by omega
  have hw1 : IntKind.i64.wrap ((at_ : Int) + 1) = (at_ : Int) + 1 := by rw [IntKind.wrap_i64]; omega
  have hge : b.data[at_]? = some (b.data.toList.getD at_ 0) := by
    have hsz : at_ < b.data.toList.length := by rw [← Lib.size_eq]; exact h
    rw [← Array.getElem?_toList, List.getD, List.getElem?_eq_getElem hsz]; rfl
  have hcv := fun (W : World) (g : Nat) (hW : W.heap[g]? = some (.cells #[.int .u8 (y.toNat : Int)] 5 (0, 0))) => convert_row (w := W) (base := 0) (n := 1) (v := .slice (some ⟨g, 0, none⟩) 1 1) (l := [y]) ⟨rfl, .inr ⟨g, 1, _, rfl, Nat.zero_le _, hW, Nat.le_refl _, by decide, rfl, rfl⟩⟩
  have HCV := Lib.hid hcv
  clear hcv
  have htn : ((at_ : Int) + 1).toNat = at_ + 1 := by omega
  obtain ⟨c, hc⟩ : ∃ c, c = b.data.toList.getD at_ 0 := ⟨_, rfl⟩
  rw [← hc] at hx hge
  have HP := Lib.hid hp
  have hbc : b[at_]'h = c := by
    have h1 := Array.getElem?_eq_getElem (xs := b.data) (i := at_) h
    rw [hge] at h1
    injection h1 with h1
    exact h1.symm
  clear hc hp
  go_enter Try.func28, Try.ntmps28
  go_upto_region 1 with fail
  refine wp_region_tailN [0, 1, 2] [22] (fun x y => Below x.heap.size x y) (psiTn b at_ p c y T) (fun _ _ => True) 23 16 (some 6) (.assign (.tmp 22)) (by kernel_rfl) (by kernel_rfl) (by kernel_rfl) (by kernel_rfl) rfl (by kernel_rfl) (by kernel_rfl)
    (Below.refl _ _).drew (fun _ _ _ h k => h.trans (k.mono h.size)) (fun _ _ _ _ h k => psiTn_stable h k) (fun _ _ _ _ _ => trivial) ?_ ?_ [7, 8, 9, 10, 11, 12, 13, 14, 15, 16, 17, 18, 19, 20, 21, 22, 6] (by kernel_rfl) ?_
  · intro t ht w' _
    simp only [List.mem_cons, List.not_mem_nil, or_false] at ht
    rcases ht with rfl | rfl | rfl <;> rfl
  · repeat' (first | exact AllStepsL.nil | refine AllStepsL.cons ?_ ?_)
    all_goals
      intro hik
      first
        | (exfalso; revert hik; decide)
        | (intro a' w' K' Q' hRl hP hK'
           clear hRl
           first
            | (obtain ⟨h14, _⟩ := hP
               refine wp_buildSlice_one (v := .int .u8 (y.toNat : Int)) (z := .int .u8 0) 91 5 _ rfl (by simp only [Act.eval, Array.getD_eq_getD_getElem?]; exact h14) Try.underlying91 (by kernel_rfl) rfl rfl ?_
               refine hK' _ _ ((Below.refl _ _).alloc (Nat.le_refl _) _) trivial ?_
               intro d hd; cases hd
               exact ⟨_, rfl, heap_alloc_new w' _⟩)
            | (obtain ⟨⟨g, h15, hgr⟩, _⟩ := hP
               conv at h15 => whnf
               have hc := HCV.out w' g hgr
               go_simp
               refine hK' _ _ (Below.refl _ _) trivial ?_; intro d hd; cases hd; rfl)
            | (repeat (obtain ⟨h, hP⟩ := hP; conv at h => whnf)
               try go_simp
               try (rw [if_neg (by omega)]; go_simp)
               first
                | (refine hK' _ _ (Below.refl _ _) trivial ?_; intro d hd; cases hd; first | rfl | exact congrArg Value.string HP.out | (show _ = _; simp))
                | (trace_state; fail)))
  · intro f w5 hRl hf hT ok hd ho
    have h22 : f 22 = .string T := hf 22 (by simp)
    simp only [putAll, List.foldl_cons, List.foldl_nil, h22]
    dsimp only [Act.put]
    simp only [List.setIfInBounds_toArray]
    simp only [List.set_cons_succ, List.set_cons_zero]
    refine wp_assignW _ ho (.string T) rfl ?_
    rw [hd]
    have HR := Lib.hid hRl
    clear hRl hf hT hd ho h22
    go_wp2_with fail
    go_ret
    exact ⟨rfl, HR.out⟩
end Go.Proofs.Ytbhlgceicfjncaa
