/-
  Joined: OpenVers, ChnRef, ChnAt.
-/
import Derived.Test.YtplobffkelmokaaSet01
import Derived.Test.YtplobffkelmokaaRows
import Derived.OpenShut
import Derived.Deep.Slices
import Derived.Deep.Strs
import Derived.ProofKit
import Derived.Deep.DeepCutAuto
import Derived.Deep.CutBlock
import Derived.Deep.QuietTactic
import Derived.BigQuiet
import Derived.Laws.Rows
import Derived.Laws.Tables
import Derived.Laws.CopyOwn
namespace Go.Proofs.Ytplobffkelmokaa
open Go.RowKit Go.ChangeShapes Go.WideShapes Go.Deep
set_option linter.unnecessarySimpa false
set_option linter.unusedVariables false
set_option linter.unusedSimpArgs false
set_option maxRecDepth 100000

/-- Versions that a slice has. -/
def VersAt (W : World) (a : Option Addr) (len : Nat) (zs : List Vr) : Prop :=
  zs.length = len ∧ ∀ i, i < len → ∃ b off, a = some ⟨b, off, none⟩ ∧ b < W.heap.size ∧ (zs.getD i vr0).time < 18446744073709551616 ∧ (zs.getD i vr0).val.size ≤ maxLen ∧
    W.cell? ⟨b, off + i * 3, none⟩ = some (.int .u64 ((zs.getD i vr0).time : Int)) ∧ W.cell? ⟨b, off + i * 3 + 1, none⟩ = some (.bool (zs.getD i vr0).gone) ∧ W.cell? ⟨b, off + i * 3 + 2, none⟩ = some (.string (zs.getD i vr0).val)
def IsVers (W : World) (a : Option Addr) (len _cap : Nat) (zs : List Vr) : Prop := VersAt W a len zs ∧ len ≤ maxLen

theorem ver_cells : Try.prog.cellsOf 78 = 3 := by kernel_rfl
theorem v_str_cells : Try.prog.cellsOf 9 = 1 := by kernel_rfl
theorem v_u64_cells : Try.prog.cellsOf 40 = 1 := by kernel_rfl
theorem v_bool_cells : Try.prog.cellsOf 4 = 1 := by kernel_rfl

theorem v_cut3 {α : Type} {cs : List α} {x y z : α} (h0 : (cs.drop 0).take 1 = [x]) (h1 : (cs.drop 1).take 1 = [y]) (h2 : (cs.drop 2).take 1 = [z]) : cs[0]? = some x ∧ cs[1]? = some y ∧ cs[2]? = some z := by
  refine ⟨?_, ?_, ?_⟩
  · have := congrArg (·[0]?) h0; simpa using this
  · have := congrArg (·[0]?) h1; simpa using this
  · have := congrArg (·[0]?) h2; simpa using this

theorem open_IsVers {H : Type} {enc : TypeId × Value → H} {W : World} {a : Option Addr} {len cap : Nat} {d : DataW H} {p : List MemPlace}
    (h : DataW.Trod enc Try.prog W 0 (fun _ => true) true 46 (.slice a len cap) d p) : ∃ zs, IsVers W a len cap zs := by
  obtain ⟨fuel, hf⟩ := h
  rcases open_slice Try.underlying46 hf with ⟨hcs, _⟩ | ⟨a', len', cap', m, n, D, Pl, hcs, _, hl, hm, hmm, _, hi⟩
  · simp [Value.cells] at hcs
    obtain ⟨rfl, rfl, rfl⟩ := hcs
    exact ⟨[], ⟨rfl, fun i hi => by omega⟩, Nat.zero_le _⟩
  · simp [Value.cells] at hcs
    obtain ⟨rfl, rfl, rfl⟩ := hcs
    simp only [if_true] at hmm
    have key : ∀ i, ∃ z : Vr, i < len → ∃ b off, some a' = some ⟨b, off, none⟩ ∧ b < W.heap.size ∧ z.time < 18446744073709551616 ∧ z.val.size ≤ maxLen ∧ W.cell? ⟨b, off + i * 3, none⟩ = some (.int .u64 (z.time : Int)) ∧
        W.cell? ⟨b, off + i * 3 + 1, none⟩ = some (.bool z.gone) ∧ W.cell? ⟨b, off + i * 3 + 2, none⟩ = some (.string z.val) := by
      intro i
      by_cases hil : i < len
      · obtain ⟨cs', hc, ht⟩ := hi i (by omega)
        rw [ver_cells] at hc
        obtain ⟨_, hcl, hat⟩ := World.cells?_some hc
        obtain ⟨y0, y1, y2, n', _, _, g0, g1, g2⟩ := trod_struct3 Try.underlying78 ht
        simp only [v_str_cells, v_u64_cells, v_bool_cells] at g0 g1 g2
        obtain ⟨k1, e0, _, wk1⟩ := DataW.trod_int Try.underlying40 g0
        obtain ⟨k2, e1, _⟩ := DataW.trod_bool Try.underlying4 g1
        obtain ⟨s, e2, _, hsz⟩ := DataW.trod_string Try.underlying9 g2
        obtain ⟨x0, x1, x2⟩ := v_cut3 e0 e1 e2
        have b1 := bounds_u64 wk1
        obtain ⟨d1, rfl⟩ := Int.eq_ofNat_of_zero_le b1.1
        have q0 := (hat 0 (by omega)).trans x0
        have q1 := (hat 1 (by omega)).trans x1
        have q2 := (hat 2 (by omega)).trans x2
        obtain ⟨b, off, spot⟩ := a'
        obtain ⟨cs0, hc0, _⟩ := hi 0 (by omega)
        rw [ver_cells] at hc0
        obtain ⟨_, hcl0, hat0⟩ := World.cells?_some hc0
        have q00 := hat0 0 (by omega)
        rw [List.getElem?_eq_getElem (show 0 < cs0.length by omega)] at q00
        have hspot : spot = none := by simpa [Addr.add] using World.cell?_spot q00
        subst hspot
        simp only [Addr.add_lit, Nat.add_zero] at q0 q1 q2
        exact ⟨⟨d1, k2, s⟩, fun _ => ⟨b, off, rfl, World.block_lt_of_cell? W _ q0, by simp only; omega, by simp only; exact hsz, q0, q1, q2⟩⟩
      · exact ⟨vr0, fun h => absurd h hil⟩
    obtain ⟨f, hfz⟩ := Classical.skolem.1 key
    refine ⟨(List.range len).map f, ⟨by simp, fun i hil => ?_⟩, by omega⟩
    have e : ((List.range len).map f).getD i vr0 = f i := by simp [List.getD, hil]
    rw [e]
    exact hfz i hil
end Go.Proofs.Ytplobffkelmokaa

namespace Go.Proofs.Ytplobffkelmokaa
open Go.RowKit
set_option linter.unusedVariables false
set_option linter.unnecessarySimpa false
set_option linter.unusedSimpArgs false
set_option maxRecDepth 100000

def FewVers (zs : List Vr) (n : Nat) : Prop := (∀ i, i < zs.length → i < 500 → (zs.getD i vr0).val.size ≤ 500) ∧ zs.length ≤ n

set_option maxHeartbeats 2000000 in
theorem vfew_yes (a : Option Addr) (len cap n : Nat) (zs : List Vr) (w : World) (hz : IsVers w a len cap zs) (hn : n < 300) (hf : FewVers zs n) :
    Calls Try.prog 20 #[.slice a len cap, .int .i64 (n : Int)] w fun e w' => e = .returned (.bool true) ∧ w' = w := by
  have HZ := Lib.hid hz
  have HF := Lib.hid hf
  have hln : len ≤ n := by rw [← hz.1.1]; exact hf.2
  have hlz : ((len : Int) ≤ (n : Int)) := by omega
  clear hz hf
  go_enter Try.func20, Try.ntmps20
  go_wp2_with fail
  go_loopg [5] len (fun g s5 wx => ∃ i : Nat, i + g = len ∧ s5 = .int .i64 i ∧ wx = w)
  case atStart => exact ⟨0, by omega, rfl, rfl⟩
  case round =>
    obtain ⟨i, hig, rfl, rfl⟩ := hrel
    cases gk with
    | zero =>
      obtain rfl : len = i := by omega
      go_wp2_with fail
      go_ret
      exact ⟨rfl, rfl⟩
    | succ g =>
      have hil : i < len := by omega
      have hiz : (i : Int) < (len : Int) := by omega
      have hi3 : (i : Int) < 500 := by omega
      obtain ⟨b, off, rfl, hbl, _, _, _, _, c⟩ := HZ.out.1.2 i hil
      have h2 := HF.out.1 i (by rw [HZ.out.1.1]; exact hil) (by omega)
      obtain ⟨z, hzz⟩ : ∃ z, z = (zs.getD i vr0).val := ⟨_, rfl⟩
      rw [← hzz] at c h2
      have hb2 : ¬ (500 : Int) < (z.size : Int) := by omega
      have hb3 : decide (500 < z.size) = false := by rw [decide_eq_false_iff_not]; omega
      clear h2 hzz hbl
      go_wp2_with fail
      go_roundg g
      case measure => omega
      case rel => exact ⟨i + 1, by omega, by go_num, rfl⟩

set_option maxHeartbeats 2000000 in
theorem vfew_no (a : Option Addr) (len cap n : Nat) (zs : List Vr) (w : World) (hz : IsVers w a len cap zs) (hn : n < 300) (hf : ¬ FewVers zs n) :
    Calls Try.prog 20 #[.slice a len cap, .int .i64 (n : Int)] w fun e w' => e = .returned (.bool false) ∧ w' = w := by
  have HZ := Lib.hid hz
  have hlm := hz.2
  unfold maxLen at hlm
  have hcase : (∃ i0, i0 < len ∧ i0 < 500 ∧ ¬ (zs.getD i0 vr0).val.size ≤ 500 ∧ ∀ i, i < i0 → (zs.getD i vr0).val.size ≤ 500) ∨ (n < len ∧ ∀ i, i < len → i < 500 → (zs.getD i vr0).val.size ≤ 500) := by
    by_cases h : ∀ i, i < len → i < 500 → (zs.getD i vr0).val.size ≤ 500
    · refine .inr ⟨?_, h⟩
      have : ¬ zs.length ≤ n := fun h2 => hf ⟨fun i h3 h4 => h i (by rw [← hz.1.1]; exact h3) h4, h2⟩
      rw [hz.1.1] at this
      omega
    · left
      have key : ∀ k, (∀ i, i < k → i < len → i < 500 → (zs.getD i vr0).val.size ≤ 500) ∨ ∃ i0, i0 < len ∧ i0 < 500 ∧ ¬ (zs.getD i0 vr0).val.size ≤ 500 ∧ ∀ i, i < i0 → (zs.getD i vr0).val.size ≤ 500 := by
        intro k
        induction k with
        | zero => exact .inl fun i h0 => absurd h0 (by omega)
        | succ k ih =>
          rcases ih with ih | ih
          · by_cases hk : k < len ∧ k < 500 ∧ ¬ (zs.getD k vr0).val.size ≤ 500
            · exact .inr ⟨k, hk.1, hk.2.1, hk.2.2, fun i hi => ih i hi (by omega) (by omega)⟩
            · refine .inl fun i hi h1 h2 => ?_
              by_cases hik : i < k
              · exact ih i hik h1 h2
              · obtain rfl : i = k := by omega
                exact Classical.byContradiction fun h3 => hk ⟨h1, h2, h3⟩
          · exact .inr ih
      rcases key len with h2 | h2
      · exact absurd (fun i hi h3 => h2 i hi hi h3) h
      · exact h2
  clear hz hf
  rcases hcase with ⟨i0, h1, h2, h3, h4⟩ | ⟨h1, h2⟩
  · have H3 := Lib.hid h3
    have H4 := Lib.hid h4
    clear h3 h4
    go_enter Try.func20, Try.ntmps20
    go_wp2_with fail
    go_loopg [5] i0 (fun g s5 wx => ∃ i : Nat, i + g = i0 ∧ s5 = .int .i64 i ∧ wx = w)
    case atStart => exact ⟨0, by omega, rfl, rfl⟩
    case round =>
      obtain ⟨i, hig, rfl, rfl⟩ := hrel
      have hil : i < len := by omega
      have hiz : (i : Int) < (len : Int) := by omega
      have hi3 : (i : Int) < 500 := by omega
      obtain ⟨b, off, rfl, hbl, _, hm, _, _, c⟩ := HZ.out.1.2 i hil
      cases gk with
      | zero =>
        obtain rfl : i = i0 := by omega
        have hs := H3.out
        obtain ⟨z, hzz⟩ : ∃ z, z = (zs.getD i vr0).val := ⟨_, rfl⟩
        unfold maxLen at hm
        rw [← hzz] at c hs hm
        have hb2 : (500 : Int) < (z.size : Int) := by omega
        have hb3 : decide (500 < z.size) = true := by rw [decide_eq_true_iff]; omega
        clear hzz hbl hs
        go_wp2_with fail
        go_ret
        exact ⟨rfl, rfl⟩
      | succ g =>
        have hs := H4.out i (by omega)
        obtain ⟨z, hzz⟩ : ∃ z, z = (zs.getD i vr0).val := ⟨_, rfl⟩
        unfold maxLen at hm
        rw [← hzz] at c hs hm
        have hb2 : ¬ (500 : Int) < (z.size : Int) := by omega
        have hb3 : decide (500 < z.size) = false := by rw [decide_eq_false_iff_not]; omega
        clear hzz hbl hs
        go_wp2_with fail
        go_roundg g
        case measure => omega
        case rel => exact ⟨i + 1, by omega, by go_num, rfl⟩
  · have H2 := Lib.hid h2
    have hnz : ¬ ((len : Int) ≤ (n : Int)) := by omega
    have hnd : decide ((len : Int) ≤ (n : Int)) = false := by simpa using h1
    have hnd2 : decide (len ≤ n) = false := by simpa using h1
    clear h2
    go_enter Try.func20, Try.ntmps20
    go_wp2_with fail
    go_loopg [5] (min len 500) (fun g s5 wx => ∃ i : Nat, i + g = min len 500 ∧ s5 = .int .i64 i ∧ wx = w)
    case atStart => exact ⟨0, by omega, rfl, rfl⟩
    case round =>
      obtain ⟨i, hig, rfl, rfl⟩ := hrel
      cases gk with
      | zero =>
        have hcs : (i = len) ∨ (i < len ∧ i = 500) := by omega
        clear hig
        rcases hcs with rfl | ⟨h5, rfl⟩
        · go_wp2_with fail
          go_ret
          exact ⟨rfl, rfl⟩
        · have h6 : (500 : Int) < (len : Int) := by omega
          go_wp2_with fail
          go_ret
          exact ⟨rfl, rfl⟩
      | succ g =>
        have hil : i < len := by omega
        have hiz : (i : Int) < (len : Int) := by omega
        have hi3 : (i : Int) < 500 := by omega
        obtain ⟨b, off, rfl, hbl, _, hm, _, _, c⟩ := HZ.out.1.2 i hil
        have hs := H2.out i hil (by omega)
        obtain ⟨z, hzz⟩ : ∃ z, z = (zs.getD i vr0).val := ⟨_, rfl⟩
        unfold maxLen at hm
        rw [← hzz] at c hs hm
        have hb2 : ¬ (500 : Int) < (z.size : Int) := by omega
        have hb3 : decide (500 < z.size) = false := by rw [decide_eq_false_iff_not]; omega
        clear hzz hbl hs
        go_wp2_with fail
        go_roundg g
        case measure => omega
        case rel => exact ⟨i + 1, by omega, by go_num, rfl⟩


set_option maxHeartbeats 2000000 in
/-- Of equal versions. -/
theorem vsame_yes (a1 a2 : Option Addr) (len c1 c2 : Nat) (zs : List Vr) (w : World) (h1 : IsVers w a1 len c1 zs) (h2 : IsVers w a2 len c2 zs) :
    Calls Try.prog 35 #[.slice a1 len c1, .slice a2 len c2] w fun e w' => e = .returned (.bool true) ∧ ∃ n, w' = w.drewN n := by
  have H1 := Lib.hid h1
  have H2 := Lib.hid h2
  have hlm := h1.2
  unfold maxLen at hlm
  clear h1 h2
  go_enter Try.func35, Try.ntmps35
  go_wp2_with fail
  go_loopg [5] len (fun g s5 wx => ∃ i n : Nat, i + g = len ∧ s5 = .int .i64 i ∧ wx = w.drewN n)
  case atStart => exact ⟨0, 0, by omega, rfl, rfl⟩
  case round =>
    obtain ⟨i, n, hig, rfl, rfl⟩ := hrel
    cases gk with
    | zero =>
      obtain rfl : len = i := by omega
      go_wp2_with fail
      go_ret
      exact ⟨rfl, n, rfl⟩
    | succ g =>
      have hil : i < len := by omega
      have hiz : (i : Int) < (len : Int) := by omega
      obtain ⟨b, off, rfl, hbl, _, _, k0, k1, k2⟩ := H1.out.1.2 i hil
      obtain ⟨b', off', rfl, hbl', _, _, j0, j1, j2⟩ := H2.out.1.2 i hil
      obtain ⟨z, hzz⟩ : ∃ z, z = zs.getD i vr0 := ⟨_, rfl⟩
      rw [← hzz] at k0 k1 k2 j0 j1 j2
      clear hzz hbl hbl'
      go_wp2_with fail
      go_quiet (fail)
      go_wp2_with fail
      go_roundg g
      case measure => omega
      case rel => exact ⟨i + 1, n + nq, by omega, by go_num, rfl⟩
end Go.Proofs.Ytplobffkelmokaa

namespace Go.Proofs.Ytplobffkelmokaa
open Go.RowKit
set_option linter.unusedVariables false
set_option linter.unnecessarySimpa false
set_option linter.unusedSimpArgs false
set_option maxRecDepth 100000

theorem atV_append (x y : List Vr) (t : Nat) : atV (x ++ y) t = match atV y t with | some v => some v | none => atV x t := by
  induction x with
  | nil => simp only [List.nil_append]; cases h : atV y t <;> simp [atV]
  | cons v x ih =>
    rw [List.cons_append, atV, ih]
    cases h : atV y t with
    | some u => rfl
    | none => rfl
theorem atV_found {zs : List Vr} {t j : Nat} (hj : j < zs.length) (hn : atV (zs.drop (j + 1)) t = none) (ht : (zs.getD j vr0).time ≤ t) : atV zs t = some (zs.getD j vr0) := by
  have e : zs = zs.take j ++ (zs.getD j vr0 :: zs.drop (j + 1)) := by
    have h1 := List.take_append_drop j zs
    rw [List.drop_eq_getElem_cons hj] at h1
    rw [List.getD, List.getElem?_eq_getElem hj]
    exact h1.symm
  rw [e, atV_append]
  have : atV (zs.getD j vr0 :: zs.drop (j + 1)) t = some (zs.getD j vr0) := by rw [atV, hn]; simp only; rw [if_pos ht]
  rw [this, ← e]
theorem atV_next {zs : List Vr} {t j : Nat} (hj : j < zs.length) (hn : atV (zs.drop (j + 1)) t = none) (ht : ¬ (zs.getD j vr0).time ≤ t) : atV (zs.drop j) t = none := by
  rw [List.drop_eq_getElem_cons hj, atV, hn]
  simp only
  have : zs[j] = zs.getD j vr0 := by rw [List.getD, List.getElem?_eq_getElem hj]; rfl
  rw [this, if_neg ht]
/-- What At answers. -/
def atOut (o : Option Vr) : Value := .tuple #[.agg (o.getD vr0).cells, .bool o.isSome]
theorem verZero : (Try.prog.info? 78).map (fun i => (i.zero, i.size)) = some (some (.agg #[.int .u64 0, .bool false, .string ⟨#[]⟩]), 3) := by kernel_rfl

theorem results_row_tmpV {P : Program} {fn : Func} {p u : Tmp} {ty : TypeId} (h : fn.results = #[.cell p ty, .tmp u]) (tmps : Array Value) (w : World) (g : Nat) (t : TypeId) (cs : Array Value) (fr : Nat × Nat) (d : TypeDesc) (v : Value)
    (hp : tmps.getD p undef = .pointer (some ⟨g, 0, none⟩)) (hg : w.heap[g]? = some (.cells cs t fr))
    (hu : P.underlying ty = some d) (hd : (match d with | .struct _ | .array _ _ => true | _ => false) = true) (hi : (P.info? ty).map (·.size) = some cs.size) (hv : tmps.getD u undef = v) :
    (results fn tmps).run P w = .ok (.tuple #[.agg cs, v]) w := by
  rw [results_cell_tmp h, hp, hv]
  simp [asAddr, run_loadVar_row w g t ty cs fr d hg hu hd hi, Result.andThen]
end Go.Proofs.Ytplobffkelmokaa
