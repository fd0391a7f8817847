/-
  The steps of the region of MvccBad that appends entries and encodes them.
-/
import Derived.Test.YtdcefhhmddjodaaMvcBadT
namespace Go.Proofs.Ytdcefhhmddjodaa
open Go.RowKit
set_option linter.unusedVariables false
set_option linter.unnecessarySimpa false
set_option linter.unusedSimpArgs false
set_option maxRecDepth 100000

theorem entC_oneB : ∀ (l : List EP), ∀ u ∈ entC l, u.oneCell' = true
  | [], u, h => by cases h
  | x :: l, u, h => by
    have e : entC (x :: l) = .string x.e.key :: .slice x.a x.n x.c :: entC l := rfl
    rw [e] at h
    rcases List.mem_cons.1 h with rfl | h
    · rfl
    rcases List.mem_cons.1 h with rfl | h
    · rfl
    exact entC_oneB l u h
noncomputable def moreOps : List Oper := (opsOf 7 (Try.f5.body.getD .skip)).getD []

set_option maxHeartbeats 4000000 in
theorem more_steps {w0 : World} (g5 P6 : Nat) (a : Option Addr) (len cap : Nat) (lp : List EP) (K : ByteArray) (gv : Nat) (im : ByteArray) (hll : lp.length = len) (hlen : len ≤ 10)
    (HT : Hid (∀ W, Below w0.heap.size w0 W → W.heap[g5]? = some (.cells tab 55 (0, 0))))
    (HP : Hid (∀ W, Below w0.heap.size w0 W → W.cell? ⟨P6, 0, none⟩ = some (.string K) ∧ W.cell? ⟨P6, 1, none⟩ = some (.slice (some ⟨gv, 0, none⟩) 1 1)))
    (HL : Hid (len = 0 ∨ (0 < len ∧ ∃ ad, a = some ad ∧ ∀ W, Below w0.heap.size w0 W → ∀ j u, (entC lp)[j]? = some u → W.cell? (ad.add j) = some u)))
    (HE : Hid (∀ W g c, Below w0.heap.size w0 W → W.ownsRow w0.heap.size 73 2 (.slice (some ⟨g, 0, none⟩) (len + 1) c) (len + 1) (entC lp ++ moreC K gv) →
      Calls Try.prog 30 #[.agg tab, .slice (some ⟨g, 0, none⟩) (len + 1) c] W fun e w' => e = .returned (.tuple #[.string im, .int .i64 0]) ∧ Below W.heap.size W w')) :
    AllStepsK Try.prog w0.heap.size w0 (psiE w0.heap.size g5 P6 a len cap lp K gv im) 0 moreOps := by
  have hes := run_es0
  repeat' (first | exact AllStepsK.nil | refine AllStepsK.cons ?_ ?_)
  all_goals
    intro a' w' K' Q' hB hP hK0
    have HBl := Lib.hid hB
    have hKs := fun v (hd : _) => hK0 v w' (Below.refl _ _) (fun _ _ _ h => h) hd
    have hKb := fun v w2 (hb : Below w'.heap.size w' w2) (hd : _) => hK0 v w2 (hb.mono HBl.out.size) (fun _ _ _ h => psiE_below h hb) hd
    first
    | (obtain ⟨h, _⟩ := hP
       conv at h => whnf
       refine wp_load_row 55 (.tmp 5) rfl g5 (by simpa [Act.eval] using h) 55 tab (0, 0) _ (HT.out _ hB) Try.underlying55 rfl tableSize ?_
       refine hKs _ ?_
       intro d hd; cases hd; rfl)
    | (unfold Oper.wp execOp
       simp [run_es0 w', Oper.upon]
       refine hKb _ _ ((Below.refl _ _).alloc (Nat.le_refl _) _) ?_
       intro d hd; cases hd
       exact ⟨_, rfl, HBl.out.size, heap_alloc_new _ _⟩)
    | (obtain ⟨⟨g, h58, hg1, hg2⟩, h59, _⟩ := hP
       conv at h59 => whnf
       rcases HL.out with h0 | ⟨h0, ad, rfl, hc⟩
       · subst h0
         have hre := run_append_empty w' 59 g a cap
         unfold Oper.wp execOp
         simp [resolve, invoke, builtin, Act.eval, h58, h59, hre, Result.andThen, Oper.upon]
         refine hKs _ ?_
         intro d hd; cases hd
         exact ⟨g, 0, rfl, fun _ => rfl, ⟨by rw [entC_len, hll], .inr ⟨g, 0, #[], rfl, hg1, hg2, Nat.le_refl _, Nat.zero_le _, rfl, by have : lp = [] := List.eq_nil_of_length_eq_zero hll; subst this; rfl⟩⟩⟩
       · obtain ⟨inf, hj, hy0, hy1, hy2⟩ := info_parts entInfoP
         have hown : w'.ownsRow w0.heap.size 73 2 (.slice (some ⟨g, 0, none⟩) 0 0) 0 [] := ⟨rfl, .inr ⟨g, 0, #[], rfl, hg1, hg2, Nat.le_refl _, Nat.zero_le _, rfl, rfl⟩⟩
         obtain ⟨v9, w9, h1, h2, h3, h4, h5⟩ := run_append_own3 (P := Try.prog) w' w0.heap.size 59 59 73 inf (.agg #[.string ⟨#[]⟩, .slice none 0 0]) 2 40 Try.underlying59 hj hy0 hy1 hy2 rfl (by decide) g 0 0 [] hown ad len cap (entC lp) (by rw [entC_len, hll]) (hc w' hB) (entC_oneB lp) (by unfold maxLen; omega) (by omega) HBl.out.size
         rw [Nat.zero_add, List.nil_append] at h2
         have hb9 : Below w'.heap.size w' w9 := ⟨h3.os, h3.tape, h3.output, h3.size, fun k hk => by rw [h5 k _ (Array.getElem?_eq_getElem hk) (.inr (by omega)), Array.getElem?_eq_getElem hk]⟩
         obtain ⟨g9, c9, rfl, _, _⟩ := own_slice h2 h0
         unfold Oper.wp execOp
         simp [resolve, invoke, builtin, Act.eval, h58, h59, h1, Result.andThen, Oper.upon]
         refine hKb _ _ hb9 ?_
         intro d hd; cases hd
         exact ⟨g9, c9, rfl, fun e => absurd e (by omega), h2⟩)
    | (obtain ⟨⟨g, c, h60, hc0, ho⟩, ⟨g2, h62, hg2, hr2⟩, _⟩ := hP
       obtain ⟨v9, w9, h1, h2, h3, k0, k1, k2⟩ := last_append 59 hll (by omega) HBl.out.size hc0 ho hr2
       unfold Oper.wp execOp
       simp [resolve, invoke, builtin, Act.eval, h60, h62, h1, Result.andThen, Oper.upon]
       refine hK0 _ _ h3 (fun _ _ hd h => psiE_put h hd k0 (fun _ => k1) k2 (fun hne => absurd rfl hne)) ?_
       intro d hd; cases hd
       exact h2)
    | (obtain ⟨h57, ⟨g, c, h63, ho⟩, _⟩ := hP
       conv at h57 => whnf
       have HX := Lib.hid (HE.out w' g c hB ho)
       clear ho hB hK0 hKs
       go_simp
       go_at_call 30
       refine HX.out.mono ?_
       rintro e w'' ⟨rfl, hb⟩
       refine hKb _ _ hb ?_
       intro d hd; cases hd; rfl)
    | (obtain ⟨h, _⟩ := hP
       conv at h => whnf
       have hm : (moreC K gv).toArray = #[.string K, .slice (some ⟨gv, 0, none⟩) 1 1] := rfl
       rw [hm] at h
       clear hB hK0 hKs
       go_simp
       refine hKb _ _ ((Below.refl _ _).alloc (Nat.le_refl _) _) ?_
       intro d hd; cases hd
       exact ⟨_, rfl, HBl.out.size, heap_alloc_new _ _⟩)
    | (repeat (obtain ⟨h, hP⟩ := hP; conv at h => whnf)
       obtain ⟨e0, e1⟩ := HP.out w' hB
       clear hB hK0 hKb
       try go_simp
       refine hKs _ ?_
       intro d hd; cases hd; first | rfl | exact h | trivial)
    | fail
end Go.Proofs.Ytdcefhhmddjodaa
