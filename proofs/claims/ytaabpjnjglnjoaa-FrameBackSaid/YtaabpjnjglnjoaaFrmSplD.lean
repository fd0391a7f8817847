/-
  The walks of the program's splitter: judge.
-/
import Derived.Test.YtaabpjnjglnjoaaFrmSplC
namespace Go.Proofs.Ytaabpjnjglnjoaa
open Go.RowKit
set_option linter.unusedVariables false
set_option linter.unnecessarySimpa false
set_option linter.unusedSimpArgs false
set_option maxRecDepth 100000

theorem strInfoF : (Try.prog.info? 9).map (fun i => (i.zero, i.size, i.bytes)) = some (some (.string ByteArray.empty), 1, 16) := by kernel_rfl
theorem info_partsF {P : Program} {t : TypeId} {z : Value} {s b : Nat} (h : (P.info? t).map (fun i => (i.zero, i.size, i.bytes)) = some (some z, s, b)) : ∃ i, P.info? t = some i ∧ i.zero = some z ∧ i.size = s ∧ i.bytes = b := by
  cases hi : P.info? t with
  | none => simp [hi] at h
  | some i => simp [hi] at h; exact ⟨i, rfl, h.1, h.2.1, h.2.2⟩
theorem cell_one_newF (w : World) (v : Value) (t : TypeId) : ∀ j u, [v][j]? = some u → (w.alloc (.cells #[v] t)).cell? ((⟨w.heap.size, 0, none⟩ : Addr).add j) = some u := fun j u h => by
  have hj : j = 0 := by have := (List.getElem?_eq_some_iff.1 h).1; simpa using this
  subst hj
  simp at h
  subst h
  rw [Addr.add_mid, cell_of_row _ _ _ _ _ _ (heap_alloc_new w _)]
  rfl
theorem own_sliceF {w : World} {base e n : Nat} {v : Value} {xs : List Value} (h : w.ownsRow base e 1 v n xs) (hn : 0 < n) : ∃ g cap, v = .slice (some ⟨g, 0, none⟩) n cap := by
  rcases h.2 with ⟨_, h0⟩ | ⟨g, cap, cur, rfl, _⟩
  · omega
  · exact ⟨g, cap, rfl⟩
theorem bodyPost_none {P : Program} {fn : Func} {R : Ending → World → Prop} {a : Act} {w : World} (hr : fn.results = #[]) (hd : a.defers = []) (hR : R (.returned (.tuple #[])) w) : bodyPost P fn R .normal a w :=
  bodyPost_end (v := .tuple #[]) (by simp [results, hr]) hd hR
theorem frmB_size (p : ByteArray) : (frmB p.data.toList).length = p.size + 8 := by rw [frmB_length, list_size]

set_option maxHeartbeats 4000000 in
theorem judge_ok {w : World} {B g h n cap : Nat} {v : Value} {p : ByteArray} {ps : List ByteArray} (hB : B ≤ g) (hs : SpAt w g (.slice (some ⟨h, 0, none⟩) n cap) v false)
    (ho : w.ownsRow B 5 1 (.slice (some ⟨h, 0, none⟩) n cap) n (Lib.byteCells (frmB p.data.toList))) (hw : w.ownsRow B 9 1 v ps.length (ps.map Value.string))
    (hp1 : 1 ≤ p.size) (hp2 : p.size ≤ 4000) (hps : ps.length ≤ 8) :
    Calls Try.prog 21 #[.pointer (some ⟨g, 0, none⟩)] w fun e w' => e = .returned (.tuple #[]) ∧
      (∃ v', SpAt w' g (.slice none 0 0) v' false ∧ w'.ownsRow B 9 1 v' (ps.length + 1) ((ps ++ [p]).map Value.string)) ∧ Below B w w' := by
  have hpo := Lib.hid (payloadOf_ok p hp1 hp2)
  have hln := hps
  have HS := Lib.hid hs
  have hg := hs.lt
  have hBw := Lib.hid (show B ≤ w.heap.size by omega)
  have hcvx := Lib.hid (fun (x : Like w.heap.size w) => convert_row (own_belowS ho x.below))
  have hckx := Lib.hid (fun (x : Like w.heap.size w) => (hs.kept x.below).cp)
  have htab := Lib.hid (show ∀ w', (∃ x : Like w.heap.size w, w' = x.val) → w'.rangeAt g 0 tab.toList from fun w' ⟨x, hx⟩ => by rw [hx]; exact (hs.kept x.below).table)
  have hF : (⟨(frmB p.data.toList).toArray⟩ : ByteArray) = frmS p := rfl
  rw [hF] at hcvx
  obtain ⟨F, hF2⟩ : ∃ F, F = frmS p := ⟨_, rfl⟩
  rw [← hF2] at hcvx hpo
  obtain ⟨L, hL⟩ : ∃ L, L = ps.map Value.string := ⟨_, rfl⟩
  rw [← hL] at hw
  have HW := Lib.hid hw
  have HL := Lib.hid hL
  clear hF hF2 hL hw ho hs hp1 hp2
  obtain ⟨N, hN⟩ : ∃ N, N = ps.length := ⟨_, rfl⟩
  rw [← hN] at HW hln ⊢
  have HN := Lib.hid hN
  clear hN hps
  go_enter Try.func21, Try.ntmps21
  go_wp2_with fail
  have hcvx := hcvx.out
  have hckx := hckx.out
  refine region_likes (by kernel_rfl) (by kernel_rfl) ?_
  repeat (first
    | (go_big_quiet_want; refine quiet_mid 28 _ rfl g 0 rfl tab.toList _ htab.out Try.underlying28 rfl tabSizeL ?_; go_simp; go_big_quiet_on)
    | (go_big_quiet_step (first
        | (go_at_call 30; exact calls_likes (Like.size _) (hpo.out _)))))
  refine wpQuiet_nil ?_
  intro x
  have HS1 := Lib.hid (HS.out.kept x.below)
  have HW1 := Lib.hid (own_belowS HW.out x.below)
  have HB1 := Lib.hid (show Below B w x.val from x.below.mono hBw.out)
  obtain ⟨w1, hw1⟩ : ∃ w1, w1 = x.val := ⟨_, rfl⟩
  rw [← hw1] at HS1 HW1 HB1 ⊢
  clear hw1 hcvx hckx htab HS HW
  have c1 := HS1.out.cp
  have f1 := HS1.out.fz 256
  have hg1 := HS1.out.lt
  go_upto_region 4 with fail
  have hW2 := Lib.hid (show (w1.setCell ⟨g, 256, none⟩ (.slice none 0 0)).ownsRow B 9 1 v N L from own_grownS HW1.out (grownBy_setCell w1 g 256 _) (.inr (own_ne_row HW1.out HS1.out (by decide))))
  have hS2 := Lib.hid (HS1.out.setp (.slice none 0 0))
  have hB2 := Lib.hid (HB1.out.setCell (p := ⟨g, 256, none⟩) hB (.slice none 0 0))
  have hs2 : (w1.setCell ⟨g, 256, none⟩ (.slice none 0 0)).heap.size = w1.heap.size := by simp
  obtain ⟨w2, hw2⟩ : ∃ w2, w2 = w1.setCell ⟨g, 256, none⟩ (.slice none 0 0) := ⟨_, rfl⟩
  rw [← hw2] at hW2 hS2 hB2 hs2 ⊢
  clear hw2 c1 f1 HS1 HW1 HB1
  have c2 := hS2.out.cq
  have f2 := hS2.out.fz 257
  have hBw2 := Lib.hid (show B ≤ w2.heap.size by omega)
  have HG := Lib.hid (show g < w2.heap.size by omega)
  obtain ⟨i0, hi, hz0, hz1, hz2⟩ := info_partsF strInfoF
  clear hs2 hg1 hg
  go_wp2_with (at_builtin; refine wpList_append_own _ rfl _ _ 32 rfl B 9 i0 (.string ByteArray.empty) 1 16 Try.underlying32 hi hz0 hz1 hz2 rfl (by decide) v N L rfl (hW2.out.alloc _) ⟨w2.heap.size, 0, none⟩ 1 1 [.string p] rfl rfl (cell_one_newF w2 (.string p) 9) (by simp [Value.oneCell']) (by unfold maxLen; omega) (by omega) (Nat.le_trans hBw2.out (by simp)) ?_; intro v3 w3 hown3 hg3 hn3; obtain ⟨gv, cv, rfl⟩ := own_sliceF hown3 (by omega); have HO3 := Lib.hid hown3; have HG3 := Lib.hid hg3; have HS3 := Lib.hid (show SpAt w3 g (.slice none 0 0) v false from (HG3.out.block g (by simp; have := HG.out; omega) (fun e => own_ne_row hW2.out hS2.out (by decide) e.symm)).trans (hS2.out.kept ((Below.refl _ _).alloc (Nat.le_refl _) _))); have c3 := HS3.out.cq; have f3 := HS3.out.fz 257; clear hown3 hg3 hn3)
  refine bodyPost_none rfl rfl ?_
  refine ⟨rfl, ⟨_, HS3.out.setq _, ?_⟩, ?_⟩
  · have := own_grownS HO3.out (grownBy_setCell w3 g 257 (.slice (some ⟨gv, 0, none⟩) (N + 1) cv)) (.inr (own_ne_row HO3.out HS3.out (by decide)))
    rw [HL.out, show ps.map Value.string ++ [Value.string p] = (ps ++ [p]).map Value.string by simp] at this
    exact this
  · refine Below.setCell ?_ hB _
    exact (hB2.out.alloc hBw2.out _).grown HG3.out (Nat.le_trans hBw2.out (by simp)) (fun k hk => (hW2.out.lt k hk).1)
end Go.Proofs.Ytaabpjnjglnjoaa
