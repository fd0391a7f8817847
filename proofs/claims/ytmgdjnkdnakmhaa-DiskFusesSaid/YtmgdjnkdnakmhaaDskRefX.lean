/-
  The document's Do: Crash.
-/
import Derived.Test.YtmgdjnkdnakmhaaDskRefS
import Derived.Test.YtmgdjnkdnakmhaaDskRefW
import Derived.Deep.LoopGhost
namespace Go.Proofs.Ytmgdjnkdnakmhaa
open Go.RowKit
set_option linter.unusedVariables false
set_option linter.unnecessarySimpa false
set_option linter.unusedSimpArgs false
set_option maxRecDepth 100000

theorem torn_snoc : ∀ (s : List (List UInt8)) (a : List (Nat × List UInt8)) (b : List UInt8) (x : Nat × List UInt8) (f : UInt8), a.length = b.length → torn s (a ++ [x]) (b ++ [f]) = tornOne (torn s a b) x f
  | s, [], [], x, f, _ => rfl
  | s, y :: a, c :: b, x, f, h => by
    rw [List.cons_append, List.cons_append, torn, torn]
    exact torn_snoc _ a b x f (by simpa using h)
theorem torn_next {s : List (List UInt8)} {l : List (Nat × List UInt8)} {fs : List UInt8} {i : Nat} {x : Nat × List UInt8} {f : UInt8} (hx : l[i]? = some x) (hf : fs[i]? = some f) :
    torn s (l.take (i + 1)) (fs.take (i + 1)) = tornOne (torn s (l.take i) (fs.take i)) x f := by
  have h1 := (List.getElem?_eq_some_iff.1 hx).1
  have h2 := (List.getElem?_eq_some_iff.1 hf).1
  rw [List.take_add_one, List.take_add_one, hx, hf]
  exact torn_snoc _ _ _ _ _ (by rw [List.length_take, List.length_take]; omega)
theorem torn_all_of : ∀ (s : List (List UInt8)) (l : List (Nat × List UInt8)) (fs : List UInt8) (i : Nat), i = min l.length fs.length → torn s (l.take i) (fs.take i) = torn s l fs
  | s, [], fs, i, h => by
    have h0 : i = 0 := by simpa using h
    subst h0
    cases fs <;> rfl
  | s, x :: l, [], i, h => by
    have h0 : i = 0 := by simpa using h
    subst h0
    rfl
  | s, x :: l, f :: fs, 0, h => by
    rw [List.length_cons, List.length_cons] at h
    omega
  | s, x :: l, f :: fs, i + 1, h => by
    rw [List.take_succ_cons, List.take_succ_cons, torn, torn]
    exact torn_all_of _ l fs i (by simp at h; omega)
theorem flat_torn : ∀ (l : List (List UInt8)) (j : Nat) (b : List UInt8) (n : Nat), (∀ s ∈ l, s.length = 64) → j < l.length → b.length = 64 → n ≤ 64 →
    l.flatten.take (64 * j) ++ b.take n ++ l.flatten.drop (64 * j + n) = (l.set j (b.take n ++ (l.getD j []).drop n)).flatten
  | [], j, _, _, _, h, _, _ => by simp at h
  | s :: l, 0, b, n, hs, _, hb, hn => by
    have h := hs s (by simp)
    rw [List.set_cons_zero, List.flatten_cons, List.flatten_cons, Nat.mul_zero, List.take_zero, List.nil_append, Nat.zero_add, List.drop_append_of_le_length (by omega)]
    simp
  | s :: l, j + 1, b, n, hs, h, hb, hn => by
    have h0 := hs s (by simp)
    rw [List.set_cons_succ, List.flatten_cons, List.flatten_cons, List.take_append, List.take_of_length_le (by omega), List.drop_append, List.drop_of_length_le (by omega), List.nil_append, h0,
      show 64 * (j + 1) - 64 = 64 * j by omega, show 64 * (j + 1) + n - 64 = 64 * j + n by omega, List.getD_cons_succ, ← flat_torn l j b n (fun t ht => hs t (by simp [ht])) (by simpa using h) hb hn]
    simp
theorem row_torn {l : List (List UInt8)} {x : Nat × List UInt8} {f : UInt8} (hs : ∀ s ∈ l, s.length = 64) (hj : x.1 < l.length) (hb : x.2.length = 64) :
    ((Lib.byteCells l.flatten).take (64 * x.1) ++ Lib.byteCells (x.2.take (tear f)) ++ (Lib.byteCells l.flatten).drop (64 * x.1 + tear f)) = Lib.byteCells (tornOne l x f).flatten := by
  unfold tornOne
  rw [← flat_torn l x.1 x.2 (tear f) hs hj hb (tear_le f)]
  simp [Lib.byteCells, List.map_take, List.map_drop]

theorem getD_some {α : Type} {l : List α} {i : Nat} {d x : α} (h : l[i]? = some x) : l.getD i d = x := by rw [List.getD, h]; rfl

set_option maxHeartbeats 8000000 in
theorem do_crash (w : World) (g : Nat) (D : DK) (N gs gn : Nat) (va vb : Value) (h : RefAt w g D N gs gn va vb) (hok : D.ok) (o : Opn) (hk : (o.kind : Int) % 5 = 4) (l : List UInt8) (hfa : BytesAt w o.fa o.fl l) (hfar : 0 < o.fl → ∀ b off s, o.fa = some ⟨b, off, s⟩ → ¬ refOwn g gs gn va vb b)
    (hmany : D.waits.length < 1000000) (hfl : o.fl ≤ 1000000) :
    Calls Try.prog 15 #[.pointer (some ⟨g, 0, none⟩), .agg o.cells] w fun e w' => e = .returned (.tuple #[.string ⟨#[]⟩, .int .i64 0]) ∧
      Hid (RefP w' g N gs gn (.slice none 0 0) (.slice none 0 0) (-1) (torn D.sure D.waits l).flatten (torn D.sure D.waits l).flatten [] [] ∧ Moves (refOwn g gs gn va vb) (refOwn g gs gn (.slice none 0 0) (.slice none 0 0)) w w') := by
  obtain ⟨kind, i, n, b, fa, fl, fc⟩ := o
  simp only at hk hfa hfar hfl
  obtain ⟨c0, c1, c2, c3, c4, cf⟩ := h.cells
  have HP := Lib.hid h.parts
  have hg := row_lt h.cell
  have hNL := Lib.hid h.size
  have HOK := Lib.hid hok
  obtain ⟨aa, ca, hva⟩ := own_form h.at_
  obtain ⟨ab, cb, hvb⟩ := own_form h.tx
  have HAT := Lib.hid h.at_
  have HTX := Lib.hid h.tx
  subst hva hvb
  obtain ⟨m, hm⟩ : ∃ m, m = D.waits.length := ⟨_, rfl⟩
  rw [← hm] at c2 c3 hmany HAT HTX HP hfar
  rw [← hm]
  have HM := Lib.hid hm
  have hlf := Lib.hid hfa.1
  have HFA := Lib.hid hfa
  have HFAR := Lib.hid hfar
  have hN2 : N ≤ 300000 := by have := h.size; have := hok.small; omega
  obtain ⟨F, hF⟩ : ∃ F, F = D.fuse := ⟨_, rfl⟩
  rw [← hF] at c4 HP
  clear h hF hok hm hfa hfar
  unfold Opn.cells
  simp only
  go_enter Try.func15, Try.ntmps15
  go_wp2_with fail
  go_quiet (fail)
  go_wp2_with fail
  obtain ⟨W1, hW⟩ : ∃ W1, W1 = (w.alloc (.cells #[.int .u8 (kind : Int), .int .i64 i, .int .i64 n, .string b, .slice fa fl fc] 32)).drewN nq := ⟨_, rfl⟩
  have hbW : Below w.heap.size w W1 := by rw [hW]; exact below_drewD ((Below.refl _ _).alloc (Nat.le_refl _) _) _
  have HOX := Lib.hid (show W1.heap[w.heap.size]? = some (.cells #[.int .u8 (kind : Int), .int .i64 i, .int .i64 n, .string b, .slice fa fl fc] 32 (0, 0)) by rw [hW]; exact heap_alloc_last w _)
  rw [← hW]
  have HP1 := Lib.hid (HP.out.below hbW)
  have HM1 := Lib.hid (Moves.of_below (O := refOwn g gs gn (.slice aa m ca) (.slice ab m cb)) hbW)
  clear hW c0 c1 c2 c3 c4 cf HP hbW
  rw [hk]
  go_loopg [7] (min m fl) (fun q s7 wx => ∃ k : Nat, k + q = min m fl ∧ s7 = .int .i64 k ∧ Hid (RefP wx g N gs gn (.slice aa m ca) (.slice ab m cb) F (torn D.sure (D.waits.take k) (l.take k)).flatten D.seen.flatten (D.waits.map (·.1)) (D.waits.map (·.2))) ∧
    Hid (Moves (refOwn g gs gn (.slice aa m ca) (.slice ab m cb)) (refOwn g gs gn (.slice aa m ca) (.slice ab m cb)) w wx) ∧ Hid (wx.heap[w.heap.size]? = some (.cells #[.int .u8 (kind : Int), .int .i64 i, .int .i64 n, .string b, .slice fa fl fc] 32 (0, 0))))
  case atStart => exact ⟨0, by omega, rfl, by simpa [torn] using HP1, HM1, HOX⟩
  case round =>
    obtain ⟨k, hkq, rfl, HP2, HM2, HO2⟩ := hrel
    obtain ⟨d0, d1, d2, d3, d4, df⟩ := HP2.out.cells
    have o4 : wr.cell? ⟨w.heap.size, 4, none⟩ = some (.slice fa fl fc) := by rw [cell_of_row _ _ _ _ _ _ HO2.out]; rfl
    cases gk with
    | zero =>
      have hkm : k = min m fl := by omega
      have hta := torn_all_of D.sure D.waits l k (by rw [hkm, HM.out, hlf.out])
      rw [hta] at HP2
      have hl1 := Lib.hid (show (torn D.sure D.waits l).flatten.length = N by rw [flat_length _ (torn_64 _ _ _ HOK.out.sure (fun y hy => by rw [HOK.out.len]; exact HOK.out.waits y hy)), torn_length, HOK.out.len, hNL.out])
      have hl2 := Lib.hid (show D.seen.flatten.length = N by rw [flat_length _ HOK.out.seen, hNL.out])
      have HP3 := Lib.hid (HP2.out.below (w1 := wr.drew) (Below.refl _ _).drew)
      have HCP := Lib.hid (copy_rows wr.drew gn gs N _ _ HP3.out.seen HP3.out.sure hl2.out hl1.out)
      have HP4 := Lib.hid (HP3.out.rowN (torn D.sure D.waits l).flatten)
      have HM4 := Lib.hid (((HM2.out.drewN 1).setRow (g := gn) (.inl (.inr (.inr (.inl rfl)))) (Lib.byteCells (torn D.sure D.waits l).flatten).toArray))
      have hcase : (m ≤ fl ∧ k = m) ∨ (¬ m ≤ fl ∧ k < m ∧ k = fl) := by omega
      clear hta hkm hkq
      rcases hcase with ⟨hc1, rfl⟩ | ⟨hc1, hc2, rfl⟩
      · go_upto_region 30 with fail
        go_still_tail 8, (by kernel_rfl)
        change wpList _ _ _ _ _ wr.drew
        go_upto_region 31 with (refine Lib.wpList_copy_run _ rfl (.tmp 199) (.tmp 203) 30 30 rfl _ _ rfl rfl HCP.out ?_; dsimp only [Act.put]; simp only [Array.setIfInBounds_def]; go_simp)
        obtain ⟨W2, hW⟩ : ∃ W2, W2 = wr.drew.setRow gn (Lib.byteCells (torn D.sure D.waits l).flatten).toArray := ⟨_, rfl⟩
        rw [← hW]
        rw [← hW] at HP4
        have HM5 := Lib.hid (show Moves (refOwn g gs gn (.slice aa k ca) (.slice ab k cb)) (refOwn g gs gn (.slice aa k ca) (.slice ab k cb)) w W2 by rw [hW]; exact HM4.out)
        clear hW HP2 HP3 HCP HM4 HM2 d0 d1 d2 d3 d4 df
        obtain ⟨d0, d1, d2, d3, d4, df⟩ := HP4.out.cells
        go_wp2_with fail
        go_ret2
        exact ⟨rfl, Lib.hid ⟨(HP4.out.put2.put3).put4, own_less (((HM5.out.setCell (.inl (.inl rfl)) _).setCell (.inl (.inl rfl)) _).setCell (.inl (.inl rfl)) _)⟩⟩
      · have hkz : (k : Int) < (m : Int) := by omega
        go_upto_region 30 with fail
        go_still_tail 8, (by kernel_rfl)
        change wpList _ _ _ _ _ wr.drew
        go_upto_region 31 with (refine Lib.wpList_copy_run _ rfl (.tmp 199) (.tmp 203) 30 30 rfl _ _ rfl rfl HCP.out ?_; dsimp only [Act.put]; simp only [Array.setIfInBounds_def]; go_simp)
        obtain ⟨W2, hW⟩ : ∃ W2, W2 = wr.drew.setRow gn (Lib.byteCells (torn D.sure D.waits l).flatten).toArray := ⟨_, rfl⟩
        rw [← hW]
        rw [← hW] at HP4
        have HM5 := Lib.hid (show Moves (refOwn g gs gn (.slice aa m ca) (.slice ab m cb)) (refOwn g gs gn (.slice aa m ca) (.slice ab m cb)) w W2 by rw [hW]; exact HM4.out)
        clear hW HP2 HP3 HCP HM4 HM2 d0 d1 d2 d3 d4 df
        obtain ⟨d0, d1, d2, d3, d4, df⟩ := HP4.out.cells
        go_wp2_with fail
        go_ret2
        exact ⟨rfl, Lib.hid ⟨(HP4.out.put2.put3).put4, own_less (((HM5.out.setCell (.inl (.inl rfl)) _).setCell (.inl (.inl rfl)) _).setCell (.inl (.inl rfl)) _)⟩⟩
    | succ q =>
      have hkm : k < m := by omega
      have hkf : k < fl := by omega
      have hkmz : (k : Int) < (m : Int) := by omega
      have hkfz : (k : Int) < (fl : Int) := by omega
      have hkw : k < D.waits.length := by rw [← HM.out]; exact hkm
      obtain ⟨x, hx⟩ : ∃ x, D.waits[k]? = some x := ⟨_, List.getElem?_eq_getElem hkw⟩
      obtain ⟨f, hf⟩ : ∃ f, l[k]? = some f := ⟨_, List.getElem?_eq_getElem (by rw [hlf.out]; exact hkf)⟩
      have hxm := HOK.out.waits x (List.mem_of_getElem? hx)
      have hnx := Lib.hid (torn_next (s := D.sure) hx hf)
      have hlen := Lib.hid (torn_length D.sure (D.waits.take k) (l.take k))
      have h64 := Lib.hid (torn_64 D.sure (D.waits.take k) (l.take k) HOK.out.sure (fun y hy => by rw [HOK.out.len]; exact HOK.out.waits y (List.mem_of_mem_take hy)))
      obtain ⟨Sx, hSx⟩ : ∃ Sx, Sx = torn D.sure (D.waits.take k) (l.take k) := ⟨_, rfl⟩
      rw [← hSx] at hnx hlen h64 HP2
      have hrt := Lib.hid (row_torn (f := f) h64.out (by rw [hlen.out, HOK.out.len]; exact hxm.1) hxm.2)
      have hfl2 := Lib.hid (flat_length Sx h64.out)
      obtain ⟨ga, capa, e, _, hga⟩ := own_slice HP2.out.at_ (by rw [List.length_map]; omega)
      injection e with e1 e2 e3
      subst e1
      obtain ⟨gb, capb, e, _, hgb⟩ := own_slice HP2.out.tx (by rw [List.length_map]; omega)
      injection e with e1 e4 e5
      subst e1
      have a1 : wr.cell? ⟨ga, 0 + k, none⟩ = some (.int .i64 (x.1 : Int)) := by
        have := HP2.out.at_.cells (g := ga) rfl k (.int .i64 (x.1 : Int)) (by simp [hx])
        rw [Addr.add_lit] at this; exact this
      have a2 : wr.cell? ⟨gb, 0 + k, none⟩ = some (.string ⟨x.2.toArray⟩) := by
        have := HP2.out.tx.cells (g := gb) rfl k (.string ⟨x.2.toArray⟩) (by simp [hx])
        rw [Addr.add_lit] at this; exact this
      rw [Nat.zero_add] at a1 a2
      obtain ⟨bf, off, hfae, hbf, hcf⟩ := HFA.out.2 (by omega)
      subst hfae
      have a3 : wr.cell? ⟨bf, off + k, none⟩ = some (.int .u8 (f.toNat : Int)) := by
        have h1 := hcf k hkf
        rw [getD_some hf] at h1
        rw [World.cell?_of_block (w := w) (HM2.out.block bf hbf (HFAR.out (by omega) bf off none rfl))]
        exact h1
      clear hcf hbf e2 e3 e4 e5 hga hgb hSx hkw
      obtain ⟨j, hj⟩ : ∃ j, j = x.1 := ⟨_, rfl⟩
      obtain ⟨X, hX⟩ : ∃ X : ByteArray, X = ⟨x.2.toArray⟩ := ⟨_, rfl⟩
      obtain ⟨t, ht⟩ : ∃ t, t = tear f := ⟨_, rfl⟩
      have hX64 : 64 ≤ X.size ∧ X.size ≤ 64 := by
        have : X.size = 64 := by rw [hX]; show x.2.toArray.size = 64; rw [List.size_toArray, hxm.2]
        omega
      have ht64 : t ≤ 64 := by rw [ht]; exact tear_le f
      have hjN : 64 * j + 64 ≤ N := by rw [hNL.out, hj]; have := hxm.1; omega
      have hcp : ∀ c : Nat, (Builtin.copy_ #[30, 9] 3 #[.slice (some ⟨gs, 64 * j, none⟩) (N - 64 * j) c, .string (X.extract 0 t)]).run Try.prog wr.drew =
          .ok (goInt t) (wr.drew.setRow gs (Lib.byteCells (tornOne Sx x f).flatten).toArray) := fun c => by
        have hes : (X.extract 0 t).size = t := by rw [ByteArray.size_extract]; omega
        have hel : (X.extract 0 t).data.toList = x.2.take t := by rw [Lib.extract_data, hX]; simp
        have := run_copy_row_string' (W := wr.drew) gs (64 * j) (N - 64 * j) (X.extract 0 t) Sx.flatten HP2.out.sure (by rw [hes]; omega) (by rw [hes, hfl2.out, hlen.out, HOK.out.len, ← hNL.out]; omega) c
        rw [hes, hel] at this
        rw [this, ← hrt.out, hj, ht]
      have HCP := Lib.hid hcp
      have HP3 := Lib.hid ((HP2.out.below (w1 := wr.drew) (Below.refl _ _).drew).rowS (tornOne Sx x f).flatten)
      have HM3 := Lib.hid ((HM2.out.drewN 1).setRow (g := gs) (.inl (.inr (.inl rfl))) (Lib.byteCells (tornOne Sx x f).flatten).toArray)
      have HO3 := Lib.hid (show (wr.drew.setRow gs (Lib.byteCells (tornOne Sx x f).flatten).toArray).heap[w.heap.size]? = some (.cells #[.int .u8 (kind : Int), .int .i64 i, .int .i64 n, .string b, .slice (some ⟨bf, off, none⟩) fl fc] 32 (0, 0)) by
        rw [setRow_other _ _ _ _ (blk_ne (w := wr.drew) HO2.out HP2.out.sure (by decide))]; exact HO2.out)
      have hcase : (((f.toNat : Int) == 255) = true ∧ t = 64) ∨ (((f.toNat : Int) == 255) = false ∧ (f.toNat : Int) % 64 = (t : Int)) := by
        by_cases hf2 : f = 255
        · exact .inl ⟨by rw [hf2]; rfl, by rw [ht, hf2]; rfl⟩
        · right
          refine ⟨?_, by rw [ht, tear, if_neg hf2]; rfl⟩
          rw [beq_eq_false_iff_ne]
          intro e
          exact hf2 (UInt8.toNat_inj.1 (by rw [show (255 : UInt8).toNat = 255 from rfl]; omega))
      have hfl3 : (f.toNat : Int) < 256 := by have := UInt8.toNat_lt f; omega
      rw [← hj] at a1
      rw [← hX] at a2
      have hk1 : IntKind.i64.wrap (64 * (j : Int)) = 64 * (j : Int) := IntWalk.i64_in _ (by omega)
      have hk3 : (64 * (j : Int)).toNat = 64 * j := by omega
      have hk4 : 0 ≤ 64 * (j : Int) := by omega
      have hk5 : 64 * (j : Int) ≤ (N : Int) := by omega
      have hk6 : 64 * j ≤ N := by omega
      have hk7 : ¬ N = 64 * j := by omega
      obtain ⟨hX1, hX2⟩ := hX64
      have ht2 : t ≤ X.size := by omega
      clear hj hX ht hcp hrt hlen h64 hfl2 hx hf hxm
      rcases hcase with ⟨hf1, rfl⟩ | ⟨hf1, hf2⟩
      · have hX3 : (64 : Int) ≤ (X.size : Int) := by omega
        go_upto_region 29 with fail
        go_still_tail 22, (by kernel_rfl)
        change wpList _ _ _ _ _ wr.drew
        go_wp2_with (refine Lib.wpList_copy_run _ rfl (.tmp 185) (.tmp 194) 30 9 rfl _ _ rfl rfl (HCP.out _) ?_; dsimp only [Act.put]; simp only [Array.setIfInBounds_def]; go_simp)
        go_roundg q
        case measure => omega
        case rel => exact ⟨k + 1, by omega, by go_num, by rw [hnx.out]; exact HP3, HM3, HO3⟩
      · have HF2 := Lib.hid hf2
        clear hf2
        go_upto_region 29 with fail
        rw [HF2.out]
        go_still_tail 22, (by kernel_rfl)
        change wpList _ _ _ _ _ wr.drew
        go_wp2_with (refine Lib.wpList_copy_run _ rfl (.tmp 185) (.tmp 194) 30 9 rfl _ _ rfl rfl (HCP.out _) ?_; dsimp only [Act.put]; simp only [Array.setIfInBounds_def]; go_simp)
        go_roundg q
        case measure => omega
        case rel => exact ⟨k + 1, by omega, by go_num, by rw [hnx.out]; exact HP3, HM3, HO3⟩
end Go.Proofs.Ytmgdjnkdnakmhaa
