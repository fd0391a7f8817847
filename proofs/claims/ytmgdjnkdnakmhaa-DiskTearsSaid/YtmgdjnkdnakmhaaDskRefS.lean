/-
  The document's Do: Sync.
-/
import Derived.Test.YtmgdjnkdnakmhaaDskRefC
import Derived.StillTailTactics
import Derived.Laws.CopyRow
import Derived.Lib.BufferWrite
import Derived.Lib.SlBuf
namespace Go.Proofs.Ytmgdjnkdnakmhaa
open Go.RowKit
set_option linter.unusedVariables false
set_option linter.unnecessarySimpa false
set_option linter.unusedSimpArgs false
set_option maxRecDepth 100000

theorem u8size2 : (Try.prog.info? 5).map (·.size) = some 1 := by kernel_rfl
theorem bc_length (l : List UInt8) : (Lib.byteCells l).length = l.length := by simp [Lib.byteCells]
/-- A whole row over another of the same length. -/
theorem copy_rows (W : World) (gs gn N : Nat) (sl nl : List UInt8) (h1 : ByteRow W gs sl) (h2 : ByteRow W gn nl) (hs : sl.length = N) (hn : nl.length = N) :
    (Builtin.copy_ #[30, 30] 3 #[.slice (some ⟨gs, 0, none⟩) N N, .slice (some ⟨gn, 0, none⟩) N N]).run Try.prog W = .ok (goInt N) (W.setRow gs (Lib.byteCells nl).toArray) := by
  have hl : (Lib.byteCells nl).length = N := by rw [bc_length, hn]
  have := run_copy_row (P := Try.prog) W 30 30 3 5 gs 0 N N ⟨gn, 0, none⟩ N N (Lib.byteCells sl).toArray 5 (Lib.byteCells nl) Try.underlying30 u8size2 h1 (by rw [hl]; simp)
    (fun j v hj => by rw [Addr.add_lit, cell_of_row _ _ _ _ _ _ h2]; simpa using hj) (by rw [hl, List.size_toArray, bc_length, hs]; omega) (Lib.byteCells_one nl)
  rw [this, hl]
  congr 2
  have hd : (Lib.byteCells sl).toArray.toList.drop N = [] := List.drop_of_length_le (by show (Lib.byteCells sl).length ≤ N; rw [bc_length]; omega)
  rw [Nat.zero_add, hd]
  simp

section
variable {w w1 : World} {g N gs gn : Nat} {va vb : Value} {F F' : Int} {sl nl : List UInt8} {A : List Nat} {T : List (List UInt8)}
theorem RefP.rowS (h : RefP w g N gs gn va vb F sl nl A T) (sl' : List UInt8) : RefP (w.setRow gs (Lib.byteCells sl').toArray) g N gs gn va vb F sl' nl A T := by
  have oth : ∀ (k : Nat) (cs : Array Value) (t : TypeId), w.heap[k]? = some (.cells cs t (0, 0)) → t ≠ 5 → (w.setRow gs (Lib.byteCells sl').toArray).heap[k]? = some (.cells cs t (0, 0)) := fun k cs t hk ht => by
    rw [setRow_other _ _ _ _ (blk_ne hk h.sure ht)]; exact hk
  refine ⟨oth _ _ _ h.cell (by decide), setRow_heap _ _ _ _ _ _ h.sure, ?_, ?_, ?_, h.ne⟩
  · unfold ByteRow; rw [setRow_other _ _ _ _ (fun e => h.ne e.symm)]; exact h.seen
  · exact own_keep h.at_ fun k e => by obtain ⟨cs, hr⟩ := own_row h.at_ e; rw [hr]; exact oth _ _ _ hr (by decide)
  · exact own_keep h.tx fun k e => by obtain ⟨cs, hr⟩ := own_row h.tx e; rw [hr]; exact oth _ _ _ hr (by decide)
theorem RefP.rowN (h : RefP w g N gs gn va vb F sl nl A T) (nl' : List UInt8) : RefP (w.setRow gn (Lib.byteCells nl').toArray) g N gs gn va vb F sl nl' A T := by
  have oth : ∀ (k : Nat) (cs : Array Value) (t : TypeId), w.heap[k]? = some (.cells cs t (0, 0)) → t ≠ 5 → (w.setRow gn (Lib.byteCells nl').toArray).heap[k]? = some (.cells cs t (0, 0)) := fun k cs t hk ht => by
    rw [setRow_other _ _ _ _ (blk_ne hk h.seen ht)]; exact hk
  refine ⟨oth _ _ _ h.cell (by decide), ?_, setRow_heap _ _ _ _ _ _ h.seen, ?_, ?_, h.ne⟩
  · unfold ByteRow; rw [setRow_other _ _ _ _ h.ne]; exact h.sure
  · exact own_keep h.at_ fun k e => by obtain ⟨cs, hr⟩ := own_row h.at_ e; rw [hr]; exact oth _ _ _ hr (by decide)
  · exact own_keep h.tx fun k e => by obtain ⟨cs, hr⟩ := own_row h.tx e; rw [hr]; exact oth _ _ _ hr (by decide)
theorem RefP.put3 (h : RefP w g N gs gn va vb F sl nl A T) : RefP (w.setCell ⟨g, 3, none⟩ (.slice none 0 0)) g N gs gn va (.slice none 0 0) F sl nl A [] :=
  h.append3 (w1 := w) (vb' := .slice none 0 0) (T' := []) (World.grownBy.refl w _) ⟨rfl, .inl ⟨rfl, rfl⟩⟩
/-- Fields emptied own less. -/
theorem own_less {W : World} (h : Moves (refOwn g gs gn va vb) (refOwn g gs gn va vb) W w) : Moves (refOwn g gs gn va vb) (refOwn g gs gn (.slice none 0 0) (.slice none 0 0)) W w :=
  ⟨h.os, h.tape, h.output, h.size, h.block, fun k hk => by
    rcases hk with e | e | e | e | e
    · exact .inl (.inl e)
    · exact .inl (.inr (.inl e))
    · exact .inl (.inr (.inr (.inl e)))
    · simp [Value.ownBlock] at e
    · simp [Value.ownBlock] at e⟩
end

set_option maxHeartbeats 4000000 in
theorem do_sync (w : World) (g : Nat) (D : DK) (N gs gn : Nat) (va vb : Value) (h : RefAt w g D N gs gn va vb) (hok : D.ok) (o : Opn) (hk : (o.kind : Int) % 5 = 2) (h0 : D.fuse ≠ 0) :
    Calls Try.prog 15 #[.pointer (some ⟨g, 0, none⟩), .agg o.cells] w fun e w' => e = .returned (.tuple #[.string ⟨#[]⟩, .int .i64 0]) ∧
      Hid (RefP w' g N gs gn (.slice none 0 0) (.slice none 0 0) D.fuse D.seen.flatten D.seen.flatten [] [] ∧ Moves (refOwn g gs gn va vb) (refOwn g gs gn (.slice none 0 0) (.slice none 0 0)) w w') := by
  obtain ⟨kind, i, n, b, fa, fl, fc⟩ := o
  simp only at hk
  obtain ⟨c0, c1, c2, c3, c4, cf⟩ := h.cells
  have HP := Lib.hid h.parts
  have hg := row_lt h.cell
  have hl1 := Lib.hid (show D.sure.flatten.length = N by rw [flat_length _ hok.sure, hok.len, h.size])
  have hl2 := Lib.hid (show D.seen.flatten.length = N by rw [flat_length _ hok.seen, h.size])
  obtain ⟨F, hF⟩ : ∃ F, F = D.fuse := ⟨_, rfl⟩
  rw [← hF] at c4 h0 HP ⊢
  have h0b : (F == 0) = false := by rw [beq_eq_false_iff_ne]; exact h0
  clear h h0 hF hok
  unfold Opn.cells
  simp only
  go_enter Try.func15, Try.ntmps15
  go_wp2_with fail
  go_quiet (fail)
  go_wp2_with fail
  obtain ⟨W1, hW⟩ : ∃ W1, W1 = (w.alloc (.cells #[.int .u8 (kind : Int), .int .i64 i, .int .i64 n, .string b, .slice fa fl fc] 32)).drewN nq := ⟨_, rfl⟩
  have hbW : Below w.heap.size w W1 := by rw [hW]; exact below_drewD ((Below.refl _ _).alloc (Nat.le_refl _) _) _
  rw [← hW]
  have HP1 := Lib.hid (HP.out.below hbW)
  have HM1 := Lib.hid (Moves.of_below (O := refOwn g gs gn va vb) hbW)
  obtain ⟨d0, d1, d2, d3, d4, df⟩ := HP1.out.cells
  have HP2 := Lib.hid (HP1.out.below (w1 := W1.drew) (Below.refl _ _).drew)
  have HCP := Lib.hid (copy_rows W1.drew gs gn N _ _ HP2.out.sure HP2.out.seen hl1.out hl2.out)
  have HP3 := Lib.hid (HP2.out.rowS D.seen.flatten)
  have HM3 := Lib.hid (((HM1.out.drewN 1).setRow (g := gs) (.inl (.inr (.inl rfl))) (Lib.byteCells D.seen.flatten).toArray))
  clear hW c0 c1 c2 c3 c4 cf HP hbW
  go_still_tail 8, (by kernel_rfl)
  change wpList _ _ _ _ _ W1.drew
  go_upto_region 17 with (refine Lib.wpList_copy_run _ rfl (.tmp 117) (.tmp 121) 30 30 rfl _ _ rfl rfl HCP.out ?_; dsimp only [Act.put]; simp only [Array.setIfInBounds_def]; go_simp)
  obtain ⟨W2, hW⟩ : ∃ W2, W2 = W1.drew.setRow gs (Lib.byteCells D.seen.flatten).toArray := ⟨_, rfl⟩
  rw [← hW]
  rw [← hW] at HP3
  have HM3 := Lib.hid (show Moves (refOwn g gs gn va vb) (refOwn g gs gn va vb) w W2 by rw [hW]; exact HM3.out)
  clear hW HP1 HP2 HCP HM1 d0 d1 d2 d3 d4 df
  obtain ⟨d0, d1, d2, d3, d4, df⟩ := HP3.out.cells
  go_wp2_with fail
  go_ret2
  exact ⟨rfl, Lib.hid ⟨HP3.out.put2.put3, own_less ((HM3.out.setCell (.inl (.inl rfl)) _).setCell (.inl (.inl rfl)) _)⟩⟩
end Go.Proofs.Ytmgdjnkdnakmhaa
