/-
  One more comes to the program's row of frames: the laws that Put and Twice want.
-/
import Derived.Test.YtbhlgceicfjncaaSet19
import Derived.Test.YtbhlgceicfjncaaSet25
namespace Go.Proofs.Ytbhlgceicfjncaa
open Go.RowKit
set_option linter.unusedVariables false
set_option linter.unnecessarySimpa false
set_option linter.unusedSimpArgs false
set_option maxRecDepth 100000

theorem owInfo2 : (Try.prog.info? 70).map (fun i => (i.zero.map (fun z => z.cells.size), i.size, i.bytes)) = some (some 5, 5, 48) := by kernel_rfl
theorem owI : ∃ i z, Try.prog.info? 70 = some i ∧ i.zero = some z ∧ z.cells.size = 5 ∧ i.size = 5 ∧ i.bytes = 48 := by
  have h := owInfo2
  cases hq : Try.prog.info? 70 with
  | none => rw [hq] at h; simp at h
  | some i =>
    rw [hq] at h
    simp only [Option.map_some, Option.some.injEq, Prod.mk.injEq] at h
    obtain ⟨h1, h2, h3⟩ := h
    cases hz : i.zero with
    | none => rw [hz] at h1; simp at h1
    | some z => rw [hz] at h1; exact ⟨i, z, rfl, hz, by simpa using h1, h2, h3⟩
theorem orun_bs1 (w : World) (x : Wj) : (Instr.buildSlice 59 1 #[(0, .agg x.oc.toArray)]).run Try.prog w = .ok (.slice (some ⟨w.heap.size, 0, none⟩) 1 1) (w.alloc (.cells x.oc.toArray 70)) := by
  obtain ⟨i, z, hi, hz0, hz1, hz2, hz3⟩ := owI
  unfold Instr.buildSlice
  have hr : Array.range 5 = #[0, 1, 2, 3, 4] := rfl
  simp [run_underlying Try.underlying59, sizeOf, typeInfo, hi, hz0, hz1, hz2, Instr.fill, newRow, Sem.run_bind, hr, Wj.oc, Value.cells]
theorem owp_bs1 {op : Oper} {a : Act} {w : World} {K : Act → World → Prop} {Q : Exit → Act → World → Prop} (x : Operand) (m : Wj) (ho : op.op = .buildSlice 59 1 #[(0, x)]) (hx : a.eval x = .agg m.oc.toArray)
    (h : K (a.put op.dst (.slice (some ⟨w.heap.size, 0, none⟩) 1 1)) (w.alloc (.cells m.oc.toArray 70))) : op.wp Try.prog a w K Q := by
  unfold Oper.wp execOp
  simp [ho, hx, orun_bs1 w m, Oper.upon]
  exact h
section
variable {w w1 w4 : World} {g : Nat} {v v4 : Value} {J : List Wj} {x : Wj}
theorem ocs_snoc (J : List Wj) (x : Wj) : ocs J ++ ocs [x] = ocs (J ++ [x]) := (ocs_app J [x]).symm
/-- The net behind one more. -/
theorem NetV.more (h : NetV w g v J) (hb : Below w.heap.size w w1) (hk : KeepG 70 5 J.length (J.length + 1) (ocs J) (ocs J ++ ocs [x]) v.ownBlock w1 w4)
    (hown : w4.ownsRow 0 70 5 v4 (J.length + 1) (ocs J ++ ocs [x])) (hg : ∀ k, v4.ownBlock = some k → v.ownBlock = some k ∨ w1.heap.size ≤ k) :
    NetV (w4.setCell ⟨g, 256, none⟩ v4) g v4 (J ++ [x]) ∧ Moves (netO g v) (netO g v4) w (w4.setCell ⟨g, 256, none⟩ v4) := by
  have h1 := h.below hb
  have hbx : w4.heap[g]? = some (.cells (nRow v) 61 (0, 0)) := (hk.block g h1.lt (fun e => h.ne e.symm)).trans h1.1
  have hne : v4.ownBlock ≠ some g := fun e => (hg g e).elim h.ne (fun e => by have := h1.lt; omega)
  refine ⟨⟨by rw [heap_setCell_same w4 g 256 _ _ _ hbx, nRow_set], ?_⟩, ?_⟩
  · rw [ocs_snoc] at hown
    have hl : (J ++ [x]).length = J.length + 1 := by simp
    rw [hl]
    exact hown.kept (grownByB_setCell w4 g 256 v4) (.inr hne)
  · have hm : Moves (netO g v) (netO g v4) w w4 := by
      refine ⟨hk.os.trans hb.os, hk.tape.trans hb.tape, hk.output.trans hb.output, Nat.le_trans hb.size hk.size, fun k hk1 hO => (hk.block k (Nat.lt_of_lt_of_le hk1 hb.size) (fun e => hO (.inr e.symm))).trans (hb.block k hk1), fun k hk1 => ?_⟩
      rcases hk1 with rfl | hk1
      · exact .inl (.inl rfl)
      · exact (hg k hk1).elim (fun e => .inl (.inr e)) (fun e => .inr (Nat.le_trans hb.size e))
    refine ⟨hm.os, hm.tape, hm.output, by simpa using hm.size, fun k hk1 hO => ?_, hm.own⟩
    rw [Below.heap_setCell _ _ _ _ (fun e => hO (.inl e))]
    exact hm.block k hk1 hO
theorem NetV.moves_below {w w' : World} {g : Nat} {v : Value} (hb : Below w.heap.size w w') : Moves (netO g v) (netO g v) w w' := Moves.of_below hb
end
end Go.Proofs.Ytbhlgceicfjncaa
