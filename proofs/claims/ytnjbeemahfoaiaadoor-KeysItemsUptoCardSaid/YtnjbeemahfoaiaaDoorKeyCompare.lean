/-
  The walks of the document's sign and compare.
-/
import Derived.Test.YtnjbeemahfoaiaaDoorKeyValue
namespace Go.Proofs.YtnjbeemahfoaiaaDoor
open Go.RowKit
set_option linter.unnecessarySimpa false
set_option linter.unusedVariables false
set_option linter.unusedSimpArgs false
set_option maxRecDepth 100000

set_option maxHeartbeats 1000000 in
theorem sign_any (p q : Bool) (w : World) : Calls Tryd.prog 25 #[.bool p, .bool q] w fun e w' => e = .returned (.int .i64 (sgn p q)) ∧ w' = w := by
  cases p <;> cases q
  all_goals
    go_enter Tryd.func25, Tryd.ntmps25
    go_wp2
    go_ret
    exact ⟨rfl, rfl⟩

theorem gtr_less (s t : List UInt8) : (!(Op.bytesLess s t || s == t)) = Op.bytesLess t s := by
  cases h : Op.bytesLess s t with
  | true => rw [bytesLess_asymm _ _ h]; rfl
  | false =>
    cases h2 : Op.bytesLess t s with
    | true =>
      have : ¬ s = t := fun e => by rw [e, bytesLess_self] at h2; cases h2
      simp [this]
    | false => simp [bytesLess_total _ _ h h2]

/-- The comparison, as the document's function goes. -/
def cmpIt (x y : It) : Int :=
  if x.kind % 6 < y.kind % 6 then -1 else if y.kind % 6 < x.kind % 6 then 1
  else if x.kind % 6 = 3 then sgn (decide (x.int < y.int)) (decide (y.int < x.int))
  else if x.kind % 6 = 4 then sgn (decide (x.uint < y.uint)) (decide (y.uint < x.uint))
  else if x.kind % 6 = 5 then sgn (Op.bytesLess x.text.data.toList y.text.data.toList) (Op.bytesLess y.text.data.toList x.text.data.toList)
  else 0
theorem rank_kv (x : It) : x.kv.rank = x.kind % 6 := by
  unfold It.kv
  have := mod6 x.kind
  repeat' split
  all_goals simp only [KV.rank]; omega
theorem cmpIt_eq (x y : It) : cmpIt x y = cmpV x.kv y.kv := by
  unfold cmpIt cmpV
  rw [rank_kv, rank_kv]
  by_cases h1 : x.kind % 6 < y.kind % 6
  · rw [if_pos h1, if_pos h1]
  by_cases h2 : y.kind % 6 < x.kind % 6
  · rw [if_neg h1, if_neg h1, if_pos h2, if_pos h2]
  rw [if_neg h1, if_neg h1, if_neg h2, if_neg h2]
  have h3 : y.kind % 6 = x.kind % 6 := by omega
  unfold It.kv
  rw [h3]
  rcases mod6 x.kind with h | h | h | h | h | h <;> simp [h]
theorem cmpIt_small (x y : It) : -1 ≤ cmpIt x y ∧ cmpIt x y ≤ 1 := by
  unfold cmpIt sgn
  repeat' split
  all_goals omega
theorem cmpI_item (x y : It) : cmpI x.item y.item = if x.down = y.down then (if x.down then - cmpIt x y else cmpIt x y) else sgn y.down x.down := by
  rw [cmpIt_eq]; rfl

set_option maxRecDepth 100000 in
set_option maxHeartbeats 4000000 in
theorem compare_any (x y : It) (hx : x.ok) (hy : y.ok) (w : World) :
    Calls Tryd.prog 24 #[.agg x.cells, .agg y.cells] w fun e w' => e = .returned (.int .i64 (cmpI x.item y.item)) ∧ Below w.heap.size w w' := by
  rw [cmpI_item]
  have hB := Lib.hid (fun (o p : Obj) => ((Below.refl w.heap.size w).alloc (Nat.le_refl _) o).alloc (show w.heap.size ≤ (w.alloc o).heap.size by simp) p)
  obtain ⟨ka, ia, ua, ta, da⟩ := x
  obtain ⟨kb, ib, ub, tb, db⟩ := y
  obtain ⟨hka, hia, hua⟩ := hx
  obtain ⟨hkb, hib, hub⟩ := hy
  simp only at hka hia hua hkb hib hub
  have hsm := cmpIt_small ⟨ka, ia, ua, ta, da⟩ ⟨kb, ib, ub, tb, db⟩
  have hs1 : ∀ q, sgn true q = -1 := fun _ => rfl
  have hs2 : sgn false true = 1 := rfl
  have hs3 : sgn false false = 0 := rfl
  unfold It.cells
  by_cases hd : da = db
  · subst hd
    by_cases h1 : ka % 6 < kb % 6
    · have hz : (ka : Int) % 6 < (kb : Int) % 6 := by omega
      have hr : cmpIt ⟨ka, ia, ua, ta, da⟩ ⟨kb, ib, ub, tb, da⟩ = -1 := by unfold cmpIt; rw [if_pos h1]
      rw [hr]
      clear hr hsm
      cases da
      all_goals
        go_enter Tryd.func24, Tryd.ntmps24
        go_wp2_with (go_at_call 25; refine (sign_any _ _ _).mono ?_; rintro e w' ⟨rfl, rfl⟩)
        go_ret
        exact ⟨rfl, hB.out _ _⟩
    · by_cases h2 : kb % 6 < ka % 6
      · have hz : (kb : Int) % 6 < (ka : Int) % 6 := by omega
        have hz2 : ¬ (ka : Int) % 6 < (kb : Int) % 6 := by omega
        have hr : cmpIt ⟨ka, ia, ua, ta, da⟩ ⟨kb, ib, ub, tb, da⟩ = 1 := by unfold cmpIt; rw [if_neg h1, if_pos h2]
        rw [hr]
        clear hr hsm h1
        cases da
        all_goals
          go_enter Tryd.func24, Tryd.ntmps24
          go_wp2_with (go_at_call 25; refine (sign_any _ _ _).mono ?_; rintro e w' ⟨rfl, rfl⟩)
          go_ret
          exact ⟨rfl, hB.out _ _⟩
      · have h3 : kb % 6 = ka % 6 := by omega
        have hr : cmpIt ⟨ka, ia, ua, ta, da⟩ ⟨kb, ib, ub, tb, da⟩ = if ka % 6 = 3 then sgn (decide (ia < ib)) (decide (ib < ia)) else if ka % 6 = 4 then sgn (decide (ua < ub)) (decide (ub < ua))
            else if ka % 6 = 5 then sgn (Op.bytesLess ta.data.toList tb.data.toList) (Op.bytesLess tb.data.toList ta.data.toList) else 0 := by
          unfold cmpIt; rw [if_neg h1, if_neg h2]
        rw [hr] at hsm
        rw [hr]
        have hgt := gtr_less ta.data.toList tb.data.toList
        rw [← Lib.toList_data, ← Lib.toList_data] at hgt hsm
        rw [← Lib.toList_data, ← Lib.toList_data]
        clear hr h1 h2
        rcases mod6 ka with h | h | h | h | h | h <;> cases da
        all_goals
          have hza : (ka : Int) % 6 = ((ka % 6 : Nat) : Int) := by omega
          have hzb : (kb : Int) % 6 = ((kb % 6 : Nat) : Int) := by omega
          rw [h] at hza h3
          rw [h3] at hzb
          simp only [h, Nat.reduceEqDiff, if_true, if_false, reduceIte] at hsm ⊢
          clear h h3
          go_enter Tryd.func24, Tryd.ntmps24
          go_wp2_with (go_at_call 25; refine (sign_any _ _ _).mono ?_; rintro e w' ⟨rfl, rfl⟩)
          go_ret
          exact ⟨rfl, hB.out _ _⟩
  · have hbl : ¬ (Value.bool da = Value.bool db) := fun h => hd (by injection h)
    rw [if_neg hd]
    clear hsm
    cases da <;> cases db
    all_goals
      first
      | (exfalso; exact hd rfl; done)
      | skip
    all_goals
      clear hd hbl
      go_enter Tryd.func24, Tryd.ntmps24
      go_wp2_with (go_at_call 25; refine (sign_any _ _ _).mono ?_; rintro e w' ⟨rfl, rfl⟩)
      go_ret
      exact ⟨rfl, hB.out _ _⟩
end Go.Proofs.YtnjbeemahfoaiaaDoor
