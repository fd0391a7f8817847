/-
  The document's Do: Write.
-/
import Derived.Test.YtmgdjnkdnakmhaaDskRefC
import Derived.StillTailTactics
import Derived.Lib.BufferWrite
import Derived.Lib.SlBuf
namespace Go.Proofs.Ytmgdjnkdnakmhaa
open Go.RowKit
set_option linter.unusedVariables false
set_option linter.unnecessarySimpa false
set_option linter.unusedSimpArgs false
set_option maxRecDepth 100000

theorem flat_set : ∀ (l : List (List UInt8)) (j : Nat) (b : List UInt8), (∀ s ∈ l, s.length = 64) → j < l.length → b.length = 64 → l.flatten.take (64 * j) ++ b ++ l.flatten.drop (64 * j + 64) = (l.set j b).flatten
  | [], j, _, _, h, _ => by simp at h
  | s :: l, 0, b, hs, _, hb => by
    have h := hs s (by simp)
    rw [List.set_cons_zero, List.flatten_cons, List.flatten_cons, Nat.mul_zero, List.take_zero, List.nil_append, Nat.zero_add, List.drop_append, List.drop_of_length_le (by omega), List.nil_append, h]
    simp
  | s :: l, j + 1, b, hs, h, hb => by
    have h0 := hs s (by simp)
    rw [List.set_cons_succ, List.flatten_cons, List.flatten_cons, List.take_append, List.take_of_length_le (by omega), List.drop_append, List.drop_of_length_le (by omega), List.nil_append, h0,
      show 64 * (j + 1) - 64 = 64 * j by omega, show 64 * (j + 1) + 64 - 64 = 64 * j + 64 by omega, ← flat_set l j b (fun t ht => hs t (by simp [ht])) (by simpa using h) hb]
    simp
theorem row_set {l : List (List UInt8)} {j : Nat} {b : List UInt8} (hs : ∀ s ∈ l, s.length = 64) (hj : j < l.length) (hb : b.length = 64) :
    ((Lib.byteCells l.flatten).toArray.toList.take (64 * j) ++ Lib.byteCells b ++ (Lib.byteCells l.flatten).toArray.toList.drop (64 * j + b.length)).toArray = (Lib.byteCells (l.set j b).flatten).toArray := by
  rw [← flat_set l j b hs hj hb, hb]
  simp [Lib.byteCells, List.map_take, List.map_drop]

theorem intInfo : (Try.prog.info? 3).map (fun i => (i.zero, i.size, i.bytes)) = some (some (.int .i64 0), 1, 8) := by kernel_rfl
theorem strInfo : (Try.prog.info? 9).map (fun i => (i.zero, i.size, i.bytes)) = some (some (.string ByteArray.empty), 1, 16) := by kernel_rfl
theorem u8size : (Try.prog.info? 5).map (·.size) = some 1 := by kernel_rfl

theorem run_copy_row_string' {W : World} (gn o m : Nat) (b : ByteArray) (l : List UInt8) (h : ByteRow W gn l) (hm : b.size ≤ m) (hl : o + b.size ≤ l.length) (c : Nat) :
    (Builtin.copy_ #[30, 9] 3 #[.slice (some ⟨gn, o, none⟩) m c, .string b]).run Try.prog W =
      .ok (goInt b.size) (W.setRow gn ((Lib.byteCells l).toArray.toList.take o ++ Lib.byteCells b.data.toList ++ (Lib.byteCells l).toArray.toList.drop (o + b.size)).toArray) :=
  Lib.run_copy_row_string (P := Try.prog) W 30 9 3 5 gn o m c b _ _ Try.underlying30 u8size h hm (by simpa [Lib.byteCells] using hl)
theorem RefP.row {w : World} {g N gs gn : Nat} {va vb : Value} {F : Int} {sl nl : List UInt8} {A : List Nat} {T : List (List UInt8)} (h : RefP w g N gs gn va vb F sl nl A T) (nl' : List UInt8) :
    RefP (w.setRow gn (Lib.byteCells nl').toArray) g N gs gn va vb F sl nl' A T := by
  have oth : ∀ (k : Nat) (cs : Array Value) (t : TypeId), w.heap[k]? = some (.cells cs t (0, 0)) → t ≠ 5 → (w.setRow gn (Lib.byteCells nl').toArray).heap[k]? = some (.cells cs t (0, 0)) := fun k cs t hk ht => by
    rw [setRow_other _ _ _ _ (blk_ne hk h.seen ht)]; exact hk
  refine ⟨oth _ _ _ h.cell (by decide), ?_, setRow_heap _ _ _ _ _ _ h.seen, ?_, ?_, h.ne⟩
  · unfold ByteRow; rw [setRow_other _ _ _ _ h.ne]; exact h.sure
  · exact own_keep h.at_ fun k e => by obtain ⟨cs, hr⟩ := own_row h.at_ e; rw [hr]; exact oth _ _ _ hr (by decide)
  · exact own_keep h.tx fun k e => by obtain ⟨cs, hr⟩ := own_row h.tx e; rw [hr]; exact oth _ _ _ hr (by decide)
theorem txt_one (b : ByteArray) : ([b.data.toList].map fun x : List UInt8 => Value.string ⟨x.toArray⟩) = [Value.string b] := by simp
/-- What is left of a write. -/
def WrOut (w w' : World) (g N gs gn : Nat) (va vb : Value) (F : Int) (sl nl : List UInt8) (A : List Nat) (T : List (List UInt8)) : Prop :=
  ∃ va' vb', RefP w' g N gs gn va' vb' F sl nl A T ∧ Moves (refOwn g gs gn va vb) (refOwn g gs gn va' vb') w w'

set_option maxHeartbeats 8000000 in
theorem do_write (w : World) (g : Nat) (D : DK) (N gs gn : Nat) (va vb : Value) (h : RefAt w g D N gs gn va vb) (hok : D.ok) (o : Opn) (hk : (o.kind : Int) % 5 = 0) (h0 : D.fuse ≠ 0) (j : Nat) (hi : o.i = j) (hj : j < D.seen.length) (hb : o.b.size = 64)
    (hmany : D.waits.length < 1000000) :
    Calls Try.prog 15 #[.pointer (some ⟨g, 0, none⟩), .agg o.cells] w fun e w' => e = .returned (.tuple #[.string ⟨#[]⟩, .int .i64 0]) ∧
      WrOut w w' g N gs gn va vb (if 0 < D.fuse then D.fuse - 1 else D.fuse) D.sure.flatten (D.seen.set j o.b.data.toList).flatten (D.waits.map (·.1) ++ [j]) (D.waits.map (·.2) ++ [o.b.data.toList]) := by
  obtain ⟨kind, i, n, b, fa, fl, fc⟩ := o
  simp only at hk hi hb
  subst hi
  obtain ⟨c0, c1, c2, c3, c4, cf⟩ := h.cells
  have HP := Lib.hid h.parts
  have hg := row_lt h.cell
  obtain ⟨L, hL⟩ : ∃ L, L = D.seen.length := ⟨_, rfl⟩
  have hN : (N : Int) / 64 = (L : Int) := by have := h.size; omega
  have hN1 : 64 * j + 64 ≤ N := by have := h.size; omega
  have hN2 : N ≤ 300000 := by have := h.size; have := hok.small; omega
  have hbl : b.data.toList.length = 64 := by rw [← Lib.size_eq]; exact hb
  have hset := Lib.hid (row_set hok.seen hj hbl)
  have hfl := Lib.hid (flat_length D.seen hok.seen)
  have hNL := Lib.hid h.size
  have hFr := hok.fuse
  obtain ⟨F, hF⟩ : ∃ F, F = D.fuse := ⟨_, rfl⟩
  rw [← hF] at c4 h0 HP hFr ⊢
  obtain ⟨G, hG⟩ : ∃ G, G = if 0 < F then F - 1 else F := ⟨_, rfl⟩
  rw [← hG]
  have HG := Lib.hid hG
  clear hG
  have hlnA : (D.waits.map (·.1)).length < 1000000 := by rw [List.length_map]; exact hmany
  have hlnT : (D.waits.map (·.2)).length < 1000000 := by rw [List.length_map]; exact hmany
  obtain ⟨A, hA⟩ : ∃ A, A = D.waits.map (·.1) := ⟨_, rfl⟩
  obtain ⟨T, hT⟩ : ∃ T, T = D.waits.map (·.2) := ⟨_, rfl⟩
  rw [← hA, ← hT] at HP
  rw [← hA] at hlnA
  rw [← hT] at hlnT
  rw [← hA, ← hT]
  clear hA hT hmany
  have h0b : (F == 0) = false := by rw [beq_eq_false_iff_ne]; exact h0
  have e1 : decide ((j : Int) < 0) = false := by simp
  have e2 : decide ((L : Int) ≤ (j : Int)) = false := by rw [decide_eq_false_iff_not]; omega
  have e3 : decide (L ≤ j) = false := by rw [decide_eq_false_iff_not]; omega
  have e4 : ((b.size : Int) != 64) = false := by rw [bne_eq_false_iff_eq]; omega
  have e5 : ((b.size : Int) == 64) = true := by rw [beq_iff_eq]; omega
  have hL2 := Lib.hid hL
  have HB := Lib.hid hb
  have HBL := Lib.hid hbl
  clear h h0 hF hL hok hb hbl
  unfold Opn.cells
  simp only
  go_enter Try.func15, Try.ntmps15
  go_wp2_with fail
  go_quiet (fail)
  go_wp2_with fail
  obtain ⟨W1, hW⟩ : ∃ W1, W1 = (w.alloc (.cells #[.int .u8 (kind : Int), .int .i64 (j : Int), .int .i64 n, .string b, .slice fa fl fc] 32)).drewN nq := ⟨_, rfl⟩
  have hbW : Below w.heap.size w W1 := by rw [hW]; exact below_drewD ((Below.refl _ _).alloc (Nat.le_refl _) _) _
  have hszW : W1.heap.size = w.heap.size + 1 := by rw [hW]; simp
  have o1 : W1.cell? ⟨w.heap.size, 1, none⟩ = some (.int .i64 (j : Int)) := by rw [hW]; go_simp
  have o3 : W1.cell? ⟨w.heap.size, 3, none⟩ = some (.string b) := by rw [hW]; go_simp
  have HOX := Lib.hid (show W1.heap[w.heap.size]? = some (.cells #[.int .u8 (kind : Int), .int .i64 (j : Int), .int .i64 n, .string b, .slice fa fl fc] 32 (0, 0)) by rw [hW]; exact heap_alloc_last w _)
  rw [← hW]
  have HP1 := Lib.hid (HP.out.below hbW)
  have HM1 := Lib.hid (Moves.of_below (O := refOwn g gs gn va vb) hbW)
  have HZ1 := Lib.hid hszW
  obtain ⟨d0, d1, d2, d3, d4, df⟩ := HP1.out.cells
  have hk1 : IntKind.i64.wrap (64 * (j : Int)) = 64 * (j : Int) := IntWalk.i64_in _ (by omega)
  have hk3 : (64 * (j : Int)).toNat = 64 * j := by omega
  have hk4 : 0 ≤ 64 * (j : Int) := by omega
  have hk5 : 64 * (j : Int) ≤ (N : Int) := by omega
  have hk6 : 64 * j ≤ N := by omega
  have hk7 : ¬ N = 64 * j := by omega
  have hcp : ∀ c : Nat, (Builtin.copy_ #[30, 9] 3 #[.slice (some ⟨gn, 64 * j, none⟩) (N - 64 * j) c, .string b]).run Try.prog W1.drew =
      .ok (goInt 64) (W1.drew.setRow gn (Lib.byteCells (D.seen.set j b.data.toList).flatten).toArray) := fun c => by
    have := run_copy_row_string' (W := W1.drew) gn (64 * j) (N - 64 * j) b D.seen.flatten (HP1.out.seen) (by have := HB.out; omega) (by rw [hfl.out, ← hNL.out]; have := HB.out; omega) c
    rw [HB.out] at this
    rw [this, ← hset.out, HBL.out]
    rfl
  have HCP := Lib.hid hcp
  clear hW hszW c0 c1 c2 c3 c4 cf HP hbW hcp
  go_still_tail 10, (by kernel_rfl)
  change wpList _ _ _ _ _ W1.drew
  go_wp2_with (refine Lib.wpList_copy_run _ rfl (.tmp 59) (.tmp 61) 30 9 rfl _ _ rfl rfl (HCP.out _) ?_; dsimp only [Act.put]; simp only [Array.setIfInBounds_def]; go_simp)
  have HP2 := Lib.hid ((HP1.out.below (w1 := W1.drew) (Below.refl _ _).drew).row (D.seen.set j b.data.toList).flatten)
  have HM2 := Lib.hid ((HM1.out.drewN 1).setRow (g := gn) (.inl (.inr (.inr (.inl rfl)))) (Lib.byteCells (D.seen.set j b.data.toList).flatten).toArray)
  have hox : (W1.drew.setRow gn (Lib.byteCells (D.seen.set j b.data.toList).flatten).toArray).heap[w.heap.size]? = some (.cells #[.int .u8 (kind : Int), .int .i64 (j : Int), .int .i64 n, .string b, .slice fa fl fc] 32 (0, 0)) := by
    rw [setRow_other _ _ _ _ (blk_ne (w := W1.drew) HOX.out HP1.out.seen (by decide))]; exact HOX.out
  obtain ⟨W2, hW⟩ : ∃ W2, W2 = W1.drew.setRow gn (Lib.byteCells (D.seen.set j b.data.toList).flatten).toArray := ⟨_, rfl⟩
  have HOX2 := Lib.hid hox
  rw [← hW]
  rw [← hW] at HP2 HOX2
  have HM2 := Lib.hid (show Moves (refOwn g gs gn va vb) (refOwn g gs gn va vb) w W2 by rw [hW]; exact HM2.out)
  clear hW hox HP1 HM1 HOX HCP d0 d1 d2 d3 d4 df o1 o3
  obtain ⟨d0, d1, d2, d3, d4, df⟩ := HP2.out.cells
  have o1 : W2.cell? ⟨w.heap.size, 1, none⟩ = some (.int .i64 (j : Int)) := by rw [cell_of_row _ _ _ _ _ _ HOX2.out]; rfl
  go_cut [] (fun wc => Hid (∃ va', RefP wc g N gs gn va' vb F D.sure.flatten (D.seen.set j b.data.toList).flatten (A ++ [j]) T ∧ Moves (refOwn g gs gn va vb) (refOwn g gs gn va' vb) w wc) ∧
    Hid (wc.heap[w.heap.size]? = some (.cells #[.int .u8 (kind : Int), .int .i64 (j : Int), .int .i64 n, .string b, .slice fa fl fc] 32 (0, 0))))
  case first =>
    obtain ⟨i0, hi, hz0, hz1, hz2⟩ := info_parts intInfo
    have hown : ∀ w', Below W2.heap.size W2 w' → w'.ownsRow 0 3 1 va A.length (A.map fun x : Nat => Value.int .i64 (x : Int)) := fun w' hb => (HP2.out.below hb).at_
    have hgW := row_lt HP2.out.cell
    have hoW := row_lt HOX2.out
    have HO := Lib.hid hown
    have hln := hlnA
    clear hown
    go_region_law (refine step_append_own rfl (.tmp 67) (.tmp 70) 42 rfl 0 3 i0 (.int .i64 0) 1 8 Try.underlying42 hi hz0 hz1 hz2 rfl (by decide) va _ _ (by simp [Act.eval, Act.put]) (HO.out _ (by first | exact ((Below.refl _ _).drew).alloc (Nat.le_refl _) _ | exact ((Below.refl _ _).alloc (Nat.le_refl _) _).drew)) ⟨W2.heap.size, 0, none⟩ 1 1 [.int .i64 (j : Int)] (by simp [Act.eval, Act.put]) rfl (cell_one_new _ _ _) (by simp [Value.oneCell']) (by unfold maxLen; omega) (by omega) (Nat.zero_le _) ?_; intro va' w3 hown3 hg3 hn3; obtain ⟨gv, cv, rfl, _, _⟩ := own_slice hown3 (by omega); obtain ⟨hb3, hk3a, hk3b⟩ := HP2.out.grow2b (by first | exact ((Below.refl _ _).drew).alloc (Nat.le_refl _) _ | exact ((Below.refl _ _).alloc (Nat.le_refl _) _).drew) hg3; have HOWN3 := Lib.hid hown3; have HG3 := Lib.hid hg3; have HN3 := Lib.hid hn3; have HB3 := Lib.hid hb3; clear hown3 hg3 hn3 hb3)
    all_goals
      go_wp2_with fail
      go_meet
      case rel =>
        refine ⟨Lib.hid ⟨_, ?_, own_moves2 HM2.out HB3.out HG3.out HN3.out rfl⟩, Lib.hid ?_⟩
        · exact (HP2.out.below HB3.out).append2 (A' := A ++ [j]) HG3.out (by rw [List.length_append, List.map_append]; exact HOWN3.out)
        · exact HP2.out.keep2 HOX2.out HB3.out HG3.out _
  case rest =>
    obtain ⟨H1, H2⟩ := hcut
    obtain ⟨va2, HPx, HMx⟩ := H1.out
    have HP3 := Lib.hid HPx
    have HM3 := Lib.hid HMx
    clear HPx HMx H1 HP2 HM2 HOX2 d0 d1 d2 d3 d4 df o1 hk1 hk3 hk4 hk5 hk6 hk7
    obtain ⟨d0, d1, d2, d3, d4, df⟩ := HP3.out.cells
    have o3 : wc.cell? ⟨w.heap.size, 3, none⟩ = some (.string b) := by rw [cell_of_row _ _ _ _ _ _ H2.out]; rfl
    go_wp2_with fail
    go_cut [] (fun wd => Hid (∃ vb', RefP wd g N gs gn va2 vb' F D.sure.flatten (D.seen.set j b.data.toList).flatten (A ++ [j]) (T ++ [b.data.toList]) ∧ Moves (refOwn g gs gn va vb) (refOwn g gs gn va2 vb') w wd))
    case first =>
      obtain ⟨i0, hi, hz0, hz1, hz2⟩ := info_parts strInfo
      have hown : ∀ w', Below wc.heap.size wc w' → w'.ownsRow 0 9 1 vb T.length (T.map fun x => Value.string ⟨x.toArray⟩) := fun w' hb => (HP3.out.below hb).tx
      have hgW := row_lt HP3.out.cell
      have hoW := row_lt H2.out
      have HO := Lib.hid hown
      have hln := hlnT
      clear hown
      go_region_law (refine step_append_own rfl (.tmp 78) (.tmp 81) 43 rfl 0 9 i0 (.string ByteArray.empty) 1 16 Try.underlying43 hi hz0 hz1 hz2 rfl (by decide) vb _ _ (by simp [Act.eval, Act.put]) (HO.out _ (by first | exact ((Below.refl _ _).drew).alloc (Nat.le_refl _) _ | exact ((Below.refl _ _).alloc (Nat.le_refl _) _).drew)) ⟨wc.heap.size, 0, none⟩ 1 1 [.string b] (by simp [Act.eval, Act.put]) rfl (cell_one_new _ _ _) (by simp [Value.oneCell']) (by unfold maxLen; omega) (by omega) (Nat.zero_le _) ?_; intro vb' w3 hown3 hg3 hn3; obtain ⟨gv, cv, rfl, _, _⟩ := own_slice hown3 (by omega); obtain ⟨hb3, hk3a, hk3b⟩ := HP3.out.grow3b (by first | exact ((Below.refl _ _).drew).alloc (Nat.le_refl _) _ | exact ((Below.refl _ _).alloc (Nat.le_refl _) _).drew) hg3; have HOWN3 := Lib.hid hown3; have HG3 := Lib.hid hg3; have HN3 := Lib.hid hn3; have HB3 := Lib.hid hb3; clear hown3 hg3 hn3 hb3)
      all_goals
        go_wp2_with fail
        go_meet
        case rel =>
          refine Lib.hid ⟨_, ?_, own_moves3 HM3.out HB3.out HG3.out HN3.out rfl⟩
          exact (HP3.out.below HB3.out).append3 (T' := T ++ [b.data.toList]) HG3.out (by rw [List.length_append, List.map_append, txt_one]; exact HOWN3.out)
    case rest =>
      obtain ⟨vb2, HPx, HMx⟩ := hcut.out
      have HP4 := Lib.hid HPx
      have HM4 := Lib.hid HMx
      clear HPx HMx HP3 HM3 H2 d0 d1 d2 d3 d4 df o3 hcut
      obtain ⟨d0, d1, d2, d3, d4, df⟩ := HP4.out.cells
      obtain ⟨hF1, hF2⟩ := hFr
      by_cases hp : 0 < F
      · have hG := HG.out
        rw [if_pos hp] at hG
        subst hG
        go_wp2_with fail
        go_ret2
        exact ⟨rfl, _, _, HP4.out.put4, HM4.out.setCell (.inl (.inl rfl)) _⟩
      · have hG := HG.out
        rw [if_neg hp] at hG
        subst hG
        go_wp2_with fail
        go_ret2
        exact ⟨rfl, _, _, HP4.out, HM4.out⟩
end Go.Proofs.Ytmgdjnkdnakmhaa
