/-
  The document's At of layer 9.
-/
import Derived.Test.YtahohdbkkcdmiaaChnRef
import Derived.Laws.Rows
import Derived.Laws.Tables
import Derived.Laws.CopyOwn
namespace Go.Proofs.Ytahohdbkkcdmiaa
open Go.RowKit
set_option linter.unusedVariables false
set_option linter.unnecessarySimpa false
set_option linter.unusedSimpArgs false
set_option maxRecDepth 100000

theorem atV_append (x y : List Vr) (t : Nat) : atV (x ++ y) t = match atV y t with | some v => some v | none => atV x t := by
  induction x with
  | nil => simp only [List.nil_append]; cases h : atV y t <;> simp [atV]
  | cons v x ih =>
    rw [List.cons_append, atV, ih]
    cases h : atV y t with
    | some u => rfl
    | none => rfl
theorem atV_found {zs : List Vr} {t j : Nat} (hj : j < zs.length) (hn : atV (zs.drop (j + 1)) t = none) (ht : (zs.getD j vr0).time ≤ t) : atV zs t = some (zs.getD j vr0) := by
  have e : zs = zs.take j ++ (zs.getD j vr0 :: zs.drop (j + 1)) := by
    have h1 := List.take_append_drop j zs
    rw [List.drop_eq_getElem_cons hj] at h1
    rw [List.getD, List.getElem?_eq_getElem hj]
    exact h1.symm
  rw [e, atV_append]
  have : atV (zs.getD j vr0 :: zs.drop (j + 1)) t = some (zs.getD j vr0) := by rw [atV, hn]; simp only; rw [if_pos ht]
  rw [this, ← e]
theorem atV_next {zs : List Vr} {t j : Nat} (hj : j < zs.length) (hn : atV (zs.drop (j + 1)) t = none) (ht : ¬ (zs.getD j vr0).time ≤ t) : atV (zs.drop j) t = none := by
  rw [List.drop_eq_getElem_cons hj, atV, hn]
  simp only
  have : zs[j] = zs.getD j vr0 := by rw [List.getD, List.getElem?_eq_getElem hj]; rfl
  rw [this, if_neg ht]
/-- What At answers. -/
def atOut (o : Option Vr) : Value := .tuple #[.agg (o.getD vr0).cells, .bool o.isSome]
theorem verZero : (Try.prog.info? 38).map (fun i => (i.zero, i.size)) = some (some (.agg #[.int .u64 0, .bool false, .string ⟨#[]⟩]), 3) := by kernel_rfl

theorem results_row_tmpV {P : Program} {fn : Func} {p u : Tmp} {ty : TypeId} (h : fn.results = #[.cell p ty, .tmp u]) (tmps : Array Value) (w : World) (g : Nat) (t : TypeId) (cs : Array Value) (fr : Nat × Nat) (d : TypeDesc) (v : Value)
    (hp : tmps.getD p undef = .pointer (some ⟨g, 0, none⟩)) (hg : w.heap[g]? = some (.cells cs t fr))
    (hu : P.underlying ty = some d) (hd : (match d with | .struct _ | .array _ _ => true | _ => false) = true) (hi : (P.info? ty).map (·.size) = some cs.size) (hv : tmps.getD u undef = v) :
    (results fn tmps).run P w = .ok (.tuple #[.agg cs, v]) w := by
  rw [results_cell_tmp h, hp, hv]
  simp [asAddr, run_loadVar_row w g t ty cs fr d hg hu hd hi, Result.andThen]
set_option maxHeartbeats 2000000 in
theorem vat_any (a : Option Addr) (len cap : Nat) (zs : List Vr) (t : Nat) (ht : t < 18446744073709551616) (w : World) (hz : IsVers w a len cap zs) :
    Calls Try.prog 16 #[.slice a len cap, .int .u64 (t : Int)] w fun e w' => e = .returned (atOut (atV zs t)) ∧ Below w.heap.size w w' := by
  have HZ := Lib.hid hz
  have hlm := hz.2
  unfold maxLen at hlm
  have hzl := Lib.hid hz.1.1
  clear hz
  go_enter Try.func16, Try.ntmps16
  go_wp2_with fail
  go_loopg [6] len (fun g s6 wx => g ≤ len ∧ ((g = 0 ∧ s6 = .int .i64 (-1)) ∨ (∃ j : Nat, g = j + 1 ∧ s6 = .int .i64 (j : Int))) ∧ wx = w.alloc (.cells #[.int .u64 0, .bool false, .string ⟨#[]⟩] 38) ∧ Hid (atV (zs.drop g) t = none))
  case atStart =>
    refine ⟨Nat.le_refl _, ?_, rfl, Lib.hid (by rw [List.drop_of_length_le (by rw [hzl.out]; exact Nat.le_refl _)]; rfl)⟩
    cases len with
    | zero => exact .inl ⟨rfl, by first | rfl | go_num⟩
    | succ k => exact .inr ⟨k, rfl, by go_num⟩
  case round =>
    obtain ⟨hgl, hs, rfl, hn⟩ := hrel
    rcases hs with ⟨rfl, rfl⟩ | ⟨j, rfl, rfl⟩
    · have he := Lib.hid (show atV zs t = none from hn.out)
      go_wp2_with fail
      refine bodyPost_ret (v := .tuple #[.agg #[.int .u64 0, .bool false, .string ⟨#[]⟩], .bool false]) ?_ rfl ⟨by rw [he.out]; rfl, (Below.refl _ _).alloc (Nat.le_refl _) _⟩
      exact results_row_tmpV rfl _ _ w.heap.size 38 _ (0, 0) _ _ rfl (heap_alloc_new w _) Try.underlying38 rfl (by kernel_rfl) rfl
    · have hil : j < len := by omega
      have hiz : (j : Int) < (len : Int) := by omega
      have hj0 : (0 : Int) ≤ (j : Int) := by omega
      obtain ⟨b, off, rfl, hbl, ht1, _, k0, k1, k2⟩ := HZ.out.1.2 j hil
      have hjz : j < zs.length := by rw [hzl.out]; exact hil
      by_cases hle : (zs.getD j vr0).time ≤ t
      · have he := Lib.hid (atV_found hjz hn.out hle)
        obtain ⟨z, hzz⟩ : ∃ z, z = zs.getD j vr0 := ⟨_, rfl⟩
        rw [← hzz] at k0 k1 k2 hle he
        have hlz : (z.time : Int) ≤ (t : Int) := by omega
        clear hzz hle ht1 hjz
        go_wp2_with fail
        refine bodyPost_ret (v := .tuple #[.agg #[.int .u64 (z.time : Int), .bool z.gone, .string z.val], .bool true]) ?_ rfl ⟨by rw [he.out]; rfl, (Below.refl _ _).alloc (Nat.le_refl _) _⟩
        exact results_row_tmpV rfl _ _ w.heap.size 38 _ (0, 0) _ _ rfl (heap_alloc_new w _) Try.underlying38 rfl (by have := verZero; cases hq : Try.prog.info? 38 <;> simp_all) rfl
      · have he := Lib.hid (atV_next hjz hn.out hle)
        obtain ⟨z, hzz⟩ : ∃ z, z = zs.getD j vr0 := ⟨_, rfl⟩
        rw [← hzz] at k0 k1 k2 hle
        have hlz : ¬ (z.time : Int) ≤ (t : Int) := by omega
        have hld : decide (z.time ≤ t) = false := by rw [decide_eq_false_iff_not]; exact hle
        clear hzz hle ht1 hjz
        go_wp2_with fail
        go_roundg j
        case measure => omega
        case rel =>
          refine ⟨by omega, ?_, rfl, he⟩
          cases j with
          | zero => exact .inl ⟨rfl, by first | rfl | go_num⟩
          | succ k => exact .inr ⟨k, rfl, by go_num⟩
end Go.Proofs.Ytahohdbkkcdmiaa
