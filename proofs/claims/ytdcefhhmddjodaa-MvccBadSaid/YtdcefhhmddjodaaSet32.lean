/-
  Joined: MvcPGrow, MvcPEnd, MvcPStB.
-/
import Derived.Test.YtdcefhhmddjodaaSet31
import Derived.Test.YtdcefhhmddjodaaSet30
namespace Go.Proofs.Ytdcefhhmddjodaa
open Go.RowKit
set_option linter.unusedVariables false
set_option linter.unnecessarySimpa false
set_option linter.unusedSimpArgs false
set_option maxRecDepth 100000

theorem take_len {α : Type} {l r : List α} {k : Nat} (h : l.length = k) : (l ++ r).take k = l := by subst h; exact List.take_left
theorem take_new {xs Z vs : List Value} {i n : Nat} (hi : i ≤ n) (hx : xs.length = n * 2) (hv : vs.length = 2) (hz : (n + 1 - i) * 2 ≤ Z.length) :
    let R0 := xs.take (i * 2) ++ Z
    let R1 := R0.take (i * 2) ++ vs ++ R0.drop (i * 2 + vs.length)
    let R2 := R1.take ((i + 1) * 2) ++ xs.drop (i * 2) ++ R1.drop ((i + 1) * 2 + (xs.drop (i * 2)).length)
    R1.length = R0.length ∧ R2.length = R0.length ∧ R2.take ((n + 1) * 2) = xs.take (i * 2) ++ vs ++ xs.drop (i * 2) := by
  intro R0 R1 R2
  have h1 : (xs.take (i * 2)).length = i * 2 := by rw [List.length_take]; omega
  have hdl : (xs.drop (i * 2)).length = n * 2 - i * 2 := by rw [List.length_drop, hx]
  have t0 : R0.take (i * 2) = xs.take (i * 2) := by
    exact take_len h1
  have l0 : R0.length = i * 2 + Z.length := by show (xs.take (i * 2) ++ Z).length = _; rw [List.length_append, h1]
  have l1 : R1.length = R0.length := by
    show (R0.take (i * 2) ++ vs ++ R0.drop (i * 2 + vs.length)).length = _
    rw [List.length_append, List.length_append, List.length_take, List.length_drop]; omega
  have t1 : R1.take ((i + 1) * 2) = xs.take (i * 2) ++ vs := by
    show (R0.take (i * 2) ++ vs ++ R0.drop (i * 2 + vs.length)).take ((i + 1) * 2) = _
    have hl : (xs.take (i * 2) ++ vs).length = (i + 1) * 2 := by rw [List.length_append, h1]; omega
    rw [t0, ← hl]
    exact List.take_left
  refine ⟨l1, ?_, ?_⟩
  · show (R1.take ((i + 1) * 2) ++ xs.drop (i * 2) ++ R1.drop ((i + 1) * 2 + (xs.drop (i * 2)).length)).length = _
    rw [List.length_append, List.length_append, List.length_take, hdl, List.length_drop, l1]; omega
  · show (R1.take ((i + 1) * 2) ++ xs.drop (i * 2) ++ R1.drop ((i + 1) * 2 + (xs.drop (i * 2)).length)).take ((n + 1) * 2) = _
    have hl : (xs.take (i * 2) ++ vs ++ xs.drop (i * 2)).length = (n + 1) * 2 := by
      rw [List.length_append, List.length_append, hdl, h1, hv]; omega
    rw [t1, ← hl]
    exact List.take_left

set_option maxHeartbeats 4000000 in
/-- There is no room, and the place is ahead of the end. -/
theorem insert_grow (B g n cap i vb vc : Nat) (xs vs : List Value) (w : World) (hi : i < n) (hn : n ≤ 100000) (hroom : cap < n + 1) (hown : w.ownsRow B 73 2 (.slice (some ⟨g, 0, none⟩) n cap) n xs) (hx1 : ∀ u ∈ xs, u.oneCell' = true)
    (hvr : w.heap[vb]? = some (.cells vs.toArray 73 (0, 0))) (hvl : vs.length = 2) (hv1 : ∀ u ∈ vs, u.oneCell' = true) (hB : B ≤ w.heap.size) :
    Calls Try.prog 47 #[.slice (some ⟨g, 0, none⟩) n cap, .int .i64 (i : Int), .slice (some ⟨vb, 0, none⟩) 1 vc] w fun e w' =>
      ∃ c', e = .returned (.slice (some ⟨w.heap.size, 0, none⟩) (n + 1) c') ∧ w'.ownsRow B 73 2 (.slice (some ⟨w.heap.size, 0, none⟩) (n + 1) c') (n + 1) (xs.take (i * 2) ++ vs ++ xs.drop (i * 2)) ∧ Below w.heap.size w w' := by
  rcases hown.2 with ⟨h', _⟩ | ⟨g', cap', cur, h', hbg, hg, hnc, hcm, hcs, htake⟩
  · cases h'
  injection h' with e1 e2 e3
  injection e1 with e1
  injection e1 with e1
  subst e1 e3
  have hcl : cur.toList.length = cap * 2 := by simpa using hcs
  have hxl : xs.length = n * 2 := hown.1
  obtain ⟨i0, hi0, hz0, hzs, hzb⟩ := info_parts entInfoP
  have hga : ∀ (g j k : Nat), (⟨g, j, none⟩ : Addr).add k = ⟨g, j + k, none⟩ := fun g j k => by unfold Addr.add; split <;> simp_all
  have hold : (Builtin.firstCells i0.size i (.slice (some ⟨g, 0, none⟩) i cap)).run Try.prog w.drew = .ok (xs.take (i * 2)).toArray w.drew := by
    rw [hzs]
    exact run_firstCells_some w.drew 2 i ⟨g, 0, none⟩ i cap (xs.take (i * 2)) (by rw [List.length_take]; omega) (fun j v hj => by
      rw [hga, Nat.zero_add]
      show w.cell? _ = _
      have h := hown.cells (g := g) rfl j v (by
        rw [List.getElem?_take] at hj
        by_cases h : j < i * 2
        · rwa [if_pos h] at hj
        · rw [if_neg h] at hj; cases hj)
      rwa [hga, Nat.zero_add] at h)
  have hkk : (n : Int) + 1 - (i : Int) = ((n + 1 - i : Nat) : Int) := by omega
  have hik : i + (n + 1 - i) = n + 1 := by omega
  have hrz := Lib.hid (show ∀ ty, (Builtin.append_ #[59, 3] ty #[.slice (some ⟨g, 0, none⟩) i cap, .int .i64 ((n : Int) + 1 - (i : Int))]).run Try.prog w =
      .ok (.slice (some ⟨w.heap.size, 0, none⟩) (n + 1) (grownCap w (n + 1) cap 73)) (w.drew.alloc (.cells ((xs.take (i * 2)).toArray ++ Builtin.zeroCells (Value.agg #[.string ⟨#[]⟩, .slice none 0 0]).cells (n + 1 - i) ++ Builtin.zeroCells (Value.agg #[.string ⟨#[]⟩, .slice none 0 0]).cells (grownCap w (n + 1) cap 73 - (n + 1))) 73)) from fun ty => by
    have h := Lib.run_append_grow_zeros w 59 3 ty 73 i0 _ .i64 .i64 Try.underlying59 Try.underlying3 hi0 hz0 (some ⟨g, 0, none⟩) i cap (xs.take (i * 2)) hold (n + 1 - i) (by omega) (by omega) (by omega) (by omega) (by rw [hzb]; omega) (by rw [hzb, hik]; exact growslice_fits hroom (by omega))
    rw [hik] at h
    rw [hkk]
    exact h)
  have hGn := grownCap_ge w (n + 1) cap 73
  have hGm : grownCap w (n + 1) cap 73 ≤ maxLen := grownCap_le_maxLen w (n + 1) cap 73 (by unfold maxLen; omega)
  obtain ⟨G, hG⟩ : ∃ G, G = grownCap w (n + 1) cap 73 := ⟨_, rfl⟩
  rw [← hG] at hrz hGn hGm
  obtain ⟨Z, hZ⟩ : ∃ Z : List Value, Z = (Builtin.zeroCells (Value.agg #[.string ⟨#[]⟩, .slice none 0 0]).cells (n + 1 - i) ++ Builtin.zeroCells (Value.agg #[.string ⟨#[]⟩, .slice none 0 0]).cells (G - (n + 1))).toList := ⟨_, rfl⟩
  have hZl : Z.length = (G - i) * 2 := by
    have hz2 : (Value.agg #[.string ⟨#[]⟩, .slice none 0 0]).cells.size = 2 := rfl
    rw [hZ, Array.length_toList, Array.size_append, size_zeroCells, size_zeroCells, hz2]; omega
  have hrow : (xs.take (i * 2)).toArray ++ Builtin.zeroCells (Value.agg #[.string ⟨#[]⟩, .slice none 0 0]).cells (n + 1 - i) ++ Builtin.zeroCells (Value.agg #[.string ⟨#[]⟩, .slice none 0 0]).cells (G - (n + 1)) = (xs.take (i * 2) ++ Z).toArray := by
    rw [hZ, Array.append_assoc]
    apply Array.toList_inj.1
    simp
  rw [hrow] at hrz
  obtain ⟨l1, l2, l3⟩ := take_new (i := i) (n := n) (Z := Z) (by omega) hxl hvl (by omega)
  have hRl : (xs.take (i * 2) ++ Z).length = G * 2 := by rw [List.length_append, List.length_take, hZl]; omega
  have ht1 : (xs.take (i * 2) ++ Z).take (i * 2) = xs.take (i * 2) := by
    exact take_len (by rw [List.length_take]; omega)
  obtain ⟨R0, hR0⟩ : ∃ R0, R0 = xs.take (i * 2) ++ Z := ⟨_, rfl⟩
  rw [← hR0] at hrz l1 l2 l3 hRl
  obtain ⟨R1, hR1⟩ : ∃ R1, R1 = R0.take (i * 2) ++ vs ++ R0.drop (i * 2 + vs.length) := ⟨_, rfl⟩
  rw [← hR1] at l1 l2 l3
  obtain ⟨R2, hR2⟩ : ∃ R2, R2 = R1.take ((i + 1) * 2) ++ xs.drop (i * 2) ++ R1.drop ((i + 1) * 2 + (xs.drop (i * 2)).length) := ⟨_, rfl⟩
  rw [← hR2] at l2 l3
  have hdl : (xs.drop (i * 2)).length = (n - i) * 2 := by rw [List.length_drop, hxl]; omega
  have hgw : g < w.heap.size := (Array.getElem?_eq_some_iff.1 hg).1
  have hvw : vb < w.heap.size := (Array.getElem?_eq_some_iff.1 hvr).1
  have hA := Lib.hid (show ∀ W : World, W.heap = (w.alloc (.cells R0.toArray 73)).heap → ∀ ty dc, (Builtin.copy_ #[59, 59] ty #[.slice (some ⟨w.heap.size, i * 2, none⟩) (n + 1 - i) dc, .slice (some ⟨vb, 0, none⟩) 1 vc]).run Try.prog W = .ok (goInt 1) (W.setRow w.heap.size R1.toArray) from fun W hW ty dc => by
    rw [hR1]
    refine run_copy_rowK W _ _ ty 73 2 w.heap.size (i * 2) _ dc ⟨vb, 0, none⟩ 1 vc 1 R0.toArray 73 vs Try.underlying59 entSz2 (by rw [hW]; exact heap_alloc_new w _) (by simp only [Nat.min_def]; split <;> omega) (by omega)
      (fun j v hj => ?_) (by simp only [List.size_toArray]; omega) hv1
    rw [hga, Nat.zero_add]
    have : W.heap[vb]? = some (.cells vs.toArray 73 (0, 0)) := by rw [hW]; exact (heap_alloc_old w _ hvw).trans hvr
    rw [cell_of_row _ _ _ _ _ _ this]; simpa using hj)
  have hBc := Lib.hid (show ∀ W : World, W.heap = ((w.alloc (.cells R0.toArray 73)).setRow w.heap.size R1.toArray).heap → ∀ ty dc sc, (Builtin.copy_ #[59, 59] ty #[.slice (some ⟨w.heap.size, (i + 1) * 2, none⟩) (n - i) dc, .slice (some ⟨g, i * 2, none⟩) (n - i) sc]).run Try.prog W = .ok (goInt ((n - i : Nat) : Int)) (W.setRow w.heap.size R2.toArray) from fun W hW ty dc sc => by
    rw [hR2]
    refine run_copy_rowK W _ _ ty 73 2 w.heap.size ((i + 1) * 2) _ dc ⟨g, i * 2, none⟩ _ sc (n - i) R1.toArray 73 (xs.drop (i * 2)) Try.underlying59 entSz2 (by rw [hW]; exact setRow_heap _ _ _ _ _ _ (heap_alloc_new w _)) (by simp only [Nat.min_def]; split <;> omega) hdl
      (fun j v hj => ?_) (by simp only [List.size_toArray]; omega) (fun v hv => hx1 v (List.mem_of_mem_drop hv))
    rw [hga]
    have : W.heap[g]? = some (.cells cur 73 (0, 0)) := by rw [hW, setRow_other _ _ g _ (by omega)]; exact (heap_alloc_old w _ hgw).trans hg
    rw [cell_of_row _ _ _ _ _ _ this]
    rw [List.getElem?_drop, ← htake, List.getElem?_take] at hj
    split at hj
    · simpa using hj
    · cases hj)
  have HE := Lib.hid (show ∀ W : World, W.heap = (((w.alloc (.cells R0.toArray 73)).setRow w.heap.size R1.toArray).setRow w.heap.size R2.toArray).heap → W.os = w.os → W.tape = w.tape → W.output = w.output →
      W.ownsRow B 73 2 (.slice (some ⟨w.heap.size, 0, none⟩) (n + 1) G) (n + 1) (xs.take (i * 2) ++ vs ++ xs.drop (i * 2)) ∧ Below w.heap.size w W from fun W hW h1 h2 h3 => by
    refine ⟨⟨?_, .inr ⟨w.heap.size, G, R2.toArray, rfl, hB, ?_, hGn, hGm, by simp only [List.size_toArray]; omega, by simpa using l3⟩⟩, ⟨h1, h2, h3, ?_, fun k hk => ?_⟩⟩
    · rw [← l3, List.length_take, l2]; omega
    · rw [hW]; exact setRow_heap _ _ _ _ _ _ (setRow_heap _ _ _ _ _ _ (heap_alloc_new w _))
    · rw [hW]; simp
    · rw [hW, setRow_other _ _ k _ (by omega), setRow_other _ _ k _ (by omega)]; exact heap_alloc_old w _ hk)
  have hz2 : ¬ ((i : Int) = (n : Int)) := by omega
  have hz3 : (cap : Int) < (n : Int) + 1 := by omega
  have hw1 : IntKind.i64.wrap ((i : Int) + 1) = (i : Int) + 1 := by rw [IntKind.wrap_i64]; omega
  have hb1 : (0 : Int) ≤ (i : Int) + 1 := by omega
  have hin : i ≤ n := by omega
  have htn : ((i : Int) + 1).toNat = i + 1 := by omega
  have hb3 : (i : Int) ≤ (n : Int) := by omega
  have hGi : ¬ (G = i) := by omega
  have hGim : ¬ (G = i + 1) := by omega
  have hci : ¬ (cap = i) := by omega
  have hG63 : G ≤ 9223372036854775807 := by unfold maxLen at hGm; omega
  have hic : (i : Int) ≤ (cap : Int) := by omega
  have hic2 : i ≤ cap := by omega
  clear hik hnc
  clear hown hcs htake hcl hxl hR0 hR1 hR2 hdl l1 l2 l3 hg hvr hx1 hv1 hga hcm hbg hG hZ hZl hrow hRl ht1 hold hi0 hz0 hzs hzb hgw hvw hGm hkk
  go_enter Try.func47, Try.ntmps47
  go_wp2_with (first
    | (at_builtin; refine Lib.wpList_append_run _ rfl (.tmp 34) (.tmp 39) 59 3 rfl _ _ rfl rfl _ _ (hrz.out _) ?_; dsimp only [Act.put]; simp only [Array.setIfInBounds_def]; go_simp)
    | (refine Lib.wpList_copy_run _ rfl (.tmp 43) (.tmp 44) 59 59 rfl _ _ rfl rfl (hA.out (w.alloc (.cells R0.toArray 73)).drew rfl _ (G - i)) ?_; dsimp only [Act.put]; simp only [Array.setIfInBounds_def]; go_simp))
  go_region_law (refine step_copy_run rfl _ _ 59 59 rfl _ _ (by simp [Act.eval, Act.put]) (by simp [Act.eval, Act.put]) (hBc.out ((w.alloc (.cells R0.toArray 73)).drew.setRow w.heap.size R1.toArray).drew rfl _ (G - (i + 1)) (cap - i)) ?_)
  go_wp2_with fail
  go_ret
  exact ⟨G, rfl, HE.out (((w.alloc (.cells R0.toArray 73)).drew.setRow w.heap.size R1.toArray).drew.setRow w.heap.size R2.toArray) rfl rfl rfl rfl⟩
end Go.Proofs.Ytdcefhhmddjodaa

namespace Go.Proofs.Ytdcefhhmddjodaa
open Go.RowKit
set_option linter.unusedVariables false
set_option linter.unnecessarySimpa false
set_option linter.unusedSimpArgs false
set_option maxRecDepth 100000

/-- What Insert tells. -/
def InsTo (B i n : Nat) (v : Value) (xs vs : List Value) (w : World) (e : Ending) (w' : World) : Prop := ∃ (a' : Option Addr) (c' : Nat), e = .returned (.slice a' (n + 1) c') ∧ w'.ownsRow B 73 2 (.slice a' (n + 1) c') (n + 1) (xs.take (i * 2) ++ vs ++ xs.drop (i * 2)) ∧ w.grownBy w' v.ownBlock ∧
  (∀ k, (Value.slice a' (n + 1) c').ownBlock = some k → v.ownBlock = some k ∨ w.heap.size ≤ k)
theorem insTo_end {B n : Nat} {v v9 : Value} {xs vs : List Value} {w w9 : World} (hx : xs.length = n * 2) (ho : w9.ownsRow B 73 2 v9 (n + 1) (xs ++ vs)) (hg : w.grownBy w9 v.ownBlock) (hk : ∀ k, v9.ownBlock = some k → v.ownBlock = some k ∨ w.heap.size ≤ k) : InsTo B n n v xs vs w (.returned v9) w9 := by
  obtain ⟨g9, c9, rfl, _, _⟩ := own_slice ho (Nat.succ_pos n)
  refine ⟨_, c9, rfl, ?_, hg, hk⟩
  rw [List.take_of_length_le (by omega), List.drop_eq_nil_of_le (by omega), List.append_nil]
  exact ho

set_option maxHeartbeats 4000000 in
theorem insert_nil (B vb vc : Nat) (vs : List Value) (w : World) (hvr : w.heap[vb]? = some (.cells vs.toArray 73 (0, 0))) (hvl : vs.length = 2) (hv1 : ∀ u ∈ vs, u.oneCell' = true) (hB : B ≤ w.heap.size) :
    Calls Try.prog 47 #[.slice none 0 0, .int .i64 0, .slice (some ⟨vb, 0, none⟩) 1 vc] w (InsTo B 0 0 (.slice none 0 0) [] vs w) := by
  obtain ⟨inf, hj, hy0, hy1, hy2⟩ := info_parts entInfoP
  have hva : ∀ (k : Nat), (⟨vb, 0, none⟩ : Addr).add k = ⟨vb, k, none⟩ := fun k => by unfold Addr.add; split <;> simp_all
  have HC := Lib.hid (show ∀ j u, vs[j]? = some u → w.cell? ((⟨vb, 0, none⟩ : Addr).add j) = some u from fun j u h => by rw [hva, cell_of_row _ _ _ _ _ _ hvr]; simpa using h)
  have HV := Lib.hid hv1
  have HL := Lib.hid hvl
  have HB := Lib.hid hB
  clear hva hvr hvl hv1 hB
  go_enter Try.func47, Try.ntmps47
  go_wp2_with (at_builtin; refine wpList_append_own2 rfl _ _ 59 rfl B 73 inf (.agg #[.string ⟨#[]⟩, .slice none 0 0]) 2 40 Try.underlying59 hj hy0 hy1 hy2 rfl (by decide) (.slice none 0 0) 0 [] rfl (World.ownsRow_nil _ _ _ _) ⟨vb, 0, none⟩ 1 vc vs rfl HL.out HC.out HV.out (by unfold maxLen; omega) (by omega) HB.out ?_; intro v9 w9 hown9 hg9 hk9; have HN := Lib.hid (insTo_end (n := 0) rfl hown9 hg9 hk9); clear hown9 hg9 hk9)
  go_ret
  exact HN.out

set_option maxHeartbeats 4000000 in
theorem insert_end (B g n cap vb vc : Nat) (xs vs : List Value) (w : World) (hn : n ≤ 100000) (hown : w.ownsRow B 73 2 (.slice (some ⟨g, 0, none⟩) n cap) n xs) (hvr : w.heap[vb]? = some (.cells vs.toArray 73 (0, 0))) (hvl : vs.length = 2) (hv1 : ∀ u ∈ vs, u.oneCell' = true) (hB : B ≤ w.heap.size) :
    Calls Try.prog 47 #[.slice (some ⟨g, 0, none⟩) n cap, .int .i64 (n : Int), .slice (some ⟨vb, 0, none⟩) 1 vc] w (InsTo B n n (.slice (some ⟨g, 0, none⟩) n cap) xs vs w) := by
  obtain ⟨inf, hj, hy0, hy1, hy2⟩ := info_parts entInfoP
  have hva : ∀ (k : Nat), (⟨vb, 0, none⟩ : Addr).add k = ⟨vb, k, none⟩ := fun k => by unfold Addr.add; split <;> simp_all
  have HC := Lib.hid (show ∀ j u, vs[j]? = some u → w.cell? ((⟨vb, 0, none⟩ : Addr).add j) = some u from fun j u h => by rw [hva, cell_of_row _ _ _ _ _ _ hvr]; simpa using h)
  have HV := Lib.hid hv1
  have HL := Lib.hid hvl
  have HB := Lib.hid hB
  have HO := Lib.hid hown
  have hnc : n ≤ cap := by
    rcases hown.2 with ⟨h', _⟩ | ⟨g', cap', cur, h', hbg, hg, hnc, _⟩
    · cases h'
    · injection h' with _ _ h'; omega
  have hncz : (n : Int) ≤ (cap : Int) := by omega
  have HM := Lib.hid (show n + 1 ≤ maxLen by unfold maxLen; omega)
  have HM2 := Lib.hid (show (n + 1) * 40 ≤ 140737488355328 by omega)
  have HXL := Lib.hid (show xs.length = n * 2 from hown.1)
  clear hva hvr hvl hv1 hB hown hn
  go_enter Try.func47, Try.ntmps47
  go_wp2_with (at_builtin; refine wpList_append_own2 rfl _ _ 59 rfl B 73 inf (.agg #[.string ⟨#[]⟩, .slice none 0 0]) 2 40 Try.underlying59 hj hy0 hy1 hy2 rfl (by decide) (.slice (some ⟨g, 0, none⟩) n cap) n xs rfl HO.out ⟨vb, 0, none⟩ 1 vc vs rfl HL.out HC.out HV.out HM.out HM2.out HB.out ?_; intro v9 w9 hown9 hg9 hk9; have HN := Lib.hid (insTo_end HXL.out hown9 hg9 hk9); clear hown9 hg9 hk9)
  all_goals
    go_ret
    exact HN.out

theorem insert_any (B i n c vb vc : Nat) (a : Option Addr) (xs vs : List Value) (w : World) (hi : i ≤ n) (hn : n ≤ 100000) (hown : w.ownsRow B 73 2 (.slice a n c) n xs) (hx1 : ∀ u ∈ xs, u.oneCell' = true)
    (hvb : (Value.slice a n c).ownBlock ≠ some vb) (hvr : w.heap[vb]? = some (.cells vs.toArray 73 (0, 0))) (hvl : vs.length = 2) (hv1 : ∀ u ∈ vs, u.oneCell' = true) (hB : B ≤ w.heap.size) :
    Calls Try.prog 47 #[.slice a n c, .int .i64 (i : Int), .slice (some ⟨vb, 0, none⟩) 1 vc] w (InsTo B i n (.slice a n c) xs vs w) := by
  rcases id hown.2 with ⟨h', h0⟩ | ⟨g, cap, cur, h', hbg, hg, hnc, _⟩
  · cases h'
    obtain rfl : i = 0 := by omega
    have hx : xs = [] := List.eq_nil_of_length_eq_zero (by simpa using hown.1)
    subst hx
    exact insert_nil B vb vc vs w hvr hvl hv1 hB
  · cases h'
    rcases Nat.lt_or_ge i n with h1 | h1
    · rcases Nat.lt_or_ge c (n + 1) with h2 | h2
      · refine (insert_grow B g n c i vb vc xs vs w h1 hn h2 hown hx1 hvr hvl hv1 hB).mono fun e w' ⟨c', he, ho, hb⟩ => ⟨_, c', he, ho, grown_of_below hb, fun k hk => .inr ?_⟩
        injection hk with hk
        exact Nat.le_of_eq hk
      · refine (insert_shift B g n c i vb vc xs vs w h1 hn h2 hown hx1 (fun e => hvb (by rw [e]; rfl)) hvr hvl hv1).mono fun e w' ⟨he, ho, hb⟩ => ⟨_, c, he, ho, hb, fun k hk => .inl hk⟩
    · obtain rfl : i = n := by omega
      exact insert_end B g i c vb vc xs vs w hn hown hvr hvl hv1 hB
end Go.Proofs.Ytdcefhhmddjodaa

namespace Go.Proofs.Ytdcefhhmddjodaa
open Go.RowKit
set_option linter.unusedVariables false
set_option linter.unnecessarySimpa false
set_option linter.unusedSimpArgs false
set_option maxRecDepth 100000

theorem own_storedE {w : World} {base g n cap size : Nat} {e : TypeId} {xs : List Value} (h : w.ownsRow base e size (.slice (some ⟨g, 0, none⟩) n cap) n xs) (j : Nat) (u : Value) : (w.setCell ⟨g, j, none⟩ u).ownsRow base e size (.slice (some ⟨g, 0, none⟩) n cap) n (xs.set j u) := by
  rcases h.2 with ⟨h', _⟩ | ⟨g', cap', cur, h', hb, hg, hnc, hcm, hcs, htake⟩
  · cases h'
  · cases h'
    refine ⟨by rw [List.length_set]; exact h.1, .inr ⟨g, cap, cur.setIfInBounds j u, rfl, hb, heap_setCell_same _ _ j _ _ _ hg, hnc, hcm, by rw [Array.size_setIfInBounds]; exact hcs, ?_⟩⟩
    rw [Array.toList_setIfInBounds, ← htake, List.take_set]
theorem entC_app (l1 l2 : List EP) : entC (l1 ++ l2) = entC l1 ++ entC l2 := by simp [entC]
theorem entC_take : ∀ (l : List EP) (i : Nat), entC (l.take i) = (entC l).take (i * 2) ∧ entC (l.drop i) = (entC l).drop (i * 2)
  | [], i => by simp [entC]
  | x :: l, 0 => by simp [entC]
  | x :: l, i + 1 => by
    obtain ⟨h1, h2⟩ := entC_take l i
    have e : entC (x :: l) = .string x.e.key :: .slice x.a x.n x.c :: entC l := rfl
    have e2 : entC (x :: l.take i) = .string x.e.key :: .slice x.a x.n x.c :: entC (l.take i) := rfl
    rw [List.take_succ_cons, List.drop_succ_cons, e, e2, show (i + 1) * 2 = i * 2 + 1 + 1 by omega, List.take_succ_cons, List.take_succ_cons, List.drop_succ_cons, List.drop_succ_cons, h1, h2]
    exact ⟨rfl, rfl⟩
theorem entC_set : ∀ (l : List EP) (i : Nat) (hi : i < l.length) (y : EP), y.e.key = (l[i]).e.key → entC (l.set i y) = (entC l).set (i * 2 + 1) (.slice y.a y.n y.c)
  | [], i, hi, y, _ => by simp at hi
  | x :: l, 0, hi, y, hk => by
    have e : ∀ z : EP, entC (z :: l) = .string z.e.key :: .slice z.a z.n z.c :: entC l := fun z => rfl
    rw [List.set_cons_zero, e, e, hk]
    rfl
  | x :: l, i + 1, hi, y, hk => by
    have e : ∀ l : List EP, entC (x :: l) = .string x.e.key :: .slice x.a x.n x.c :: entC l := fun z => rfl
    rw [List.set_cons_succ, e, e, entC_set l i (by simpa using hi) y (by simpa using hk), show (i + 1) * 2 + 1 = i * 2 + 1 + 1 + 1 by omega, List.set_cons_succ, List.set_cons_succ]
theorem accE_app (l1 l2 : List EP) : accE (l1 ++ l2) = accE l1 ++ accE l2 := by simp [accE]
theorem accE_take (l : List EP) (i : Nat) : accE (l.take i) = (accE l).take i ∧ accE (l.drop i) = (accE l).drop i := by simp [accE, List.map_take, List.map_drop]
theorem accE_set (l : List EP) (i : Nat) (y : EP) : accE (l.set i y) = (accE l).set i y.e := by simp [accE, List.map_set]

section
variable {w w1 w9 : World} {r : Addr} {b n c : Nat} {a : Option Addr} {l : List EP}
/-- An entry more, of no version. -/
theorem StM.more {a' : Option Addr} {c' i : Nat} {K : ByteArray} (h : StM w r b a n c l) (hn : n < 100000) (hb : Below w.heap.size w w1) (hg9 : w1.grownBy w9 (Value.slice a n c).ownBlock) (hk9 : ∀ k, (Value.slice a' (n + 1) c').ownBlock = some k → (Value.slice a n c).ownBlock = some k ∨ w1.heap.size ≤ k)
    (hown9 : w9.ownsRow 0 73 2 (.slice a' (n + 1) c') (n + 1) ((entC l).take (i * 2) ++ [.string K, .slice none 0 0] ++ (entC l).drop (i * 2))) :
    StM (w9.setCell ⟨b, 0, none⟩ (.slice a' (n + 1) c')) r b a' (n + 1) c' (l.take i ++ [⟨⟨K, []⟩, none, 0, 0⟩] ++ l.drop i) ∧ Moves (stO b a n c l) (stO b a' (n + 1) c' (l.take i ++ [⟨⟨K, []⟩, none, 0, 0⟩] ++ l.drop i)) w (w9.setCell ⟨b, 0, none⟩ (.slice a' (n + 1) c')) := by
  have hbs := (Array.getElem?_eq_some_iff.1 h.box).1
  have hs1 := hb.size
  have hs9 := hg9.size
  have hmem : ∀ x ∈ l.take i ++ [(⟨⟨K, []⟩, none, 0, 0⟩ : EP)] ++ l.drop i, x ∈ l ∨ x = ⟨⟨K, []⟩, none, 0, 0⟩ := fun x hx => by
    simp only [List.mem_append, List.mem_singleton] at hx
    rcases hx with (hx | hx) | hx
    · exact .inl (List.mem_of_mem_take hx)
    · exact .inr hx
    · exact .inl (List.mem_of_mem_drop hx)
  have hkeep : ∀ k, k < w.heap.size → (Value.slice a n c).ownBlock ≠ some k → k ≠ b → (w9.setCell ⟨b, 0, none⟩ (.slice a' (n + 1) c')).heap[k]? = w.heap[k]? := fun k h1 h2 h3 => by
    rw [Below.heap_setCell _ _ _ _ h3, hg9.block k (by omega) (fun e => h2 e.symm)]
    exact hb.block k h1
  have hbox9 : w9.heap[b]? = some (.cells #[.slice a n c] 78 (0, 0)) := by
    rw [hg9.block b (by omega) (fun e => h.nb e.symm)]
    exact (hb.block b hbs).trans h.box
  have hnb : (Value.slice a' (n + 1) c').ownBlock ≠ some b := fun e => by
    rcases hk9 b e with h1 | h1
    · exact h.nb h1
    · omega
  refine ⟨⟨h.ptr, ?_, ?_, ?_, by omega, fun x hx => ?_, ?_, hnb⟩, ⟨?_, ?_, ?_, ?_, fun k h1 h2 => ?_, ?_⟩⟩
  · exact heap_setCell_same _ _ 0 _ _ _ hbox9
  · rw [entC_app, entC_app, (entC_take l i).1, (entC_take l i).2]
    refine own_same hown9 fun k e => Below.heap_setCell _ _ _ _ ?_
    rintro rfl
    exact hnb e
  · rw [List.length_append, List.length_append, List.length_singleton, List.length_take, List.length_drop]
    have := h.len
    omega
  · rcases hmem x hx with hx | rfl
    · have hE := h.each x hx
      refine ⟨hE.len, own_same hE.row fun k e => ?_, fun p hp => ⟨fun e => ?_, (hE.far p hp).2⟩⟩
      · obtain ⟨p, hp, rfl⟩ := slice_block e
        exact hkeep _ (hE.row.lt p.block e).2 (hE.far p hp).1 (hE.far p hp).2
      · rcases hk9 _ e with h1 | h1
        · exact (hE.far p hp).1 h1
        · have := (hE.row.lt p.block (by rw [hp]; rfl)).2
          omega
    · exact ⟨rfl, World.ownsRow_nil _ _ _ _, fun p hp => by cases hp⟩
  · have ha := h.apart
    rw [← List.take_append_drop i l] at ha
    obtain ⟨h1, h2, h3⟩ := List.pairwise_append.1 ha
    refine List.pairwise_append.2 ⟨List.pairwise_append.2 ⟨h1, List.pairwise_singleton _ _, fun x hx y hy p q hp hq => ?_⟩, h2, fun x hx y hy p q hp hq => ?_⟩
    · rw [List.mem_singleton.1 hy] at hq; cases hq
    · rcases List.mem_append.1 hx with hx | hx
      · exact h3 x hx y hy p q hp hq
      · rw [List.mem_singleton.1 hx] at hp; cases hp
  · exact hg9.os.trans hb.os
  · exact hg9.tape.trans hb.tape
  · exact hg9.output.trans hb.output
  · simp only [World.setCell, Array.size_modify]; omega
  · exact hkeep k h1 (fun e => h2 (.inr (.inl e))) (fun e => h2 (.inl e))
  · rintro k (rfl | hk | ⟨x, hx, p, hp, rfl⟩)
    · exact .inl (.inl rfl)
    · rcases hk9 k hk with h1 | h1
      · exact .inl (.inr (.inl h1))
      · exact .inr (by omega)
    · rcases hmem x hx with hx | rfl
      · exact .inl (.inr (.inr ⟨x, hx, p, hp, rfl⟩))
      · cases hp
/-- A version more behind a chain. -/
theorem StM.put {g i n9 c9 : Nat} {a9 : Option Addr} {ch9 : List Vr} (h : StM w r b a n c l) (hi : i < l.length) (ha : a = some ⟨g, 0, none⟩) (hb : Below w.heap.size w w1) (hg9 : w1.grownBy w9 (Value.slice (l[i]).a (l[i]).n (l[i]).c).ownBlock) (hk9 : ∀ k, (Value.slice a9 n9 c9).ownBlock = some k → (Value.slice (l[i]).a (l[i]).n (l[i]).c).ownBlock = some k ∨ w1.heap.size ≤ k)
    (hown9 : w9.ownsRow 0 35 3 (.slice a9 n9 c9) n9 (versC ch9)) (hl9 : ch9.length = n9) :
    StM (w9.setCell ⟨g, i * 2 + 1, none⟩ (.slice a9 n9 c9)) r b a n c (l.set i ⟨⟨(l[i]).e.key, ch9⟩, a9, n9, c9⟩) ∧ Moves (stO b a n c l) (stO b a n c (l.set i ⟨⟨(l[i]).e.key, ch9⟩, a9, n9, c9⟩)) w (w9.setCell ⟨g, i * 2 + 1, none⟩ (.slice a9 n9 c9)) := by
  subst ha
  have hbs := (Array.getElem?_eq_some_iff.1 h.box).1
  have hs1 := hb.size
  have hs9 := hg9.size
  have hX := h.each _ (List.getElem_mem hi)
  have hgs := (h.row.lt g rfl).2
  have hgn : g ≠ b := fun e => h.nb (by rw [← e]; rfl)
  have hoff : ∀ k, (Value.slice (l[i]).a (l[i]).n (l[i]).c).ownBlock = some k → k ≠ g ∧ k ≠ b ∧ k < w.heap.size := fun k e => by
    obtain ⟨p, hp, rfl⟩ := slice_block e
    exact ⟨fun e2 => (hX.far p hp).1 (by rw [e2]; rfl), (hX.far p hp).2, (hX.row.lt _ e).2⟩
  have hkeep9 : ∀ k, k < w.heap.size → (Value.slice (l[i]).a (l[i]).n (l[i]).c).ownBlock ≠ some k → w9.heap[k]? = w.heap[k]? := fun k h1 h2 => by
    rw [hg9.block k (by omega) (fun e => h2 e.symm)]
    exact hb.block k h1
  have hkeep : ∀ k, k < w.heap.size → (Value.slice (l[i]).a (l[i]).n (l[i]).c).ownBlock ≠ some k → k ≠ g → (w9.setCell ⟨g, i * 2 + 1, none⟩ (.slice a9 n9 c9)).heap[k]? = w.heap[k]? := fun k h1 h2 h3 => by
    rw [Below.heap_setCell _ _ _ _ h3]
    exact hkeep9 k h1 h2
  have hnew : ∀ p : Addr, a9 = some p → (Value.slice (l[i]).a (l[i]).n (l[i]).c).ownBlock = some p.block ∨ w.heap.size ≤ p.block := fun p hp => by
    rcases hk9 p.block (by rw [hp]; rfl) with h1 | h1
    · exact .inl h1
    · exact .inr (by omega)
  have hmem : ∀ x ∈ l.set i ⟨⟨(l[i]).e.key, ch9⟩, a9, n9, c9⟩, x = ⟨⟨(l[i]).e.key, ch9⟩, a9, n9, c9⟩ ∨ ∃ j, ∃ hj : j < l.length, j ≠ i ∧ x = l[j] := fun x hx => by
    obtain ⟨j, hj, rfl⟩ := List.mem_iff_getElem.1 hx
    rw [List.getElem_set]
    split
    · exact .inl rfl
    · rename_i hji
      rw [List.length_set] at hj
      exact .inr ⟨j, hj, fun e => hji e.symm, rfl⟩
  have hapart : ∀ j (hj : j < l.length), j ≠ i → ∀ p : Addr, (l[j]).a = some p → (Value.slice (l[i]).a (l[i]).n (l[i]).c).ownBlock ≠ some p.block := fun j hj hji p hp e => by
    obtain ⟨q, hq, hqp⟩ := slice_block e
    rcases Nat.lt_or_ge j i with h1 | h1
    · exact List.pairwise_iff_getElem.1 h.apart j i hj hi h1 p q hp hq hqp.symm
    · exact List.pairwise_iff_getElem.1 h.apart i j hi hj (by omega) q p hq hp hqp
  have hplt : ∀ j (hj : j < l.length) (p : Addr), (l[j]).a = some p → p.block < w.heap.size := fun j hj p hp => ((h.each _ (List.getElem_mem hj)).row.lt p.block (by rw [hp]; rfl)).2
  have hsz : ∀ u, (w9.setCell ⟨g, i * 2 + 1, none⟩ u).heap.size = w9.heap.size := fun u => by simp [World.setCell]
  refine ⟨⟨h.ptr, ?_, ?_, by rw [List.length_set]; exact h.len, h.big, fun x hx => ?_, ?_, h.nb⟩, ⟨?_, ?_, ?_, ?_, fun k h1 h2 => ?_, ?_⟩⟩
  · exact (hkeep b hbs (fun e => (hoff b e).2.1 rfl) (fun e => hgn e.symm)).trans h.box
  · rw [entC_set l i hi ⟨⟨(l[i]).e.key, ch9⟩, a9, n9, c9⟩ rfl]
    refine own_storedE (own_same h.row fun k e => ?_) _ _
    injection e with e
    subst e
    exact hkeep9 g hgs (fun e => (hoff g e).1 rfl)
  · rcases hmem x hx with rfl | ⟨j, hj, hji, rfl⟩
    · refine ⟨hl9, own_same hown9 fun k e => Below.heap_setCell _ _ _ _ ?_, fun p hp => ?_⟩
      · show k ≠ g
        rcases hk9 k e with h1 | h1
        · exact (hoff k h1).1
        · omega
      · rcases hnew p hp with h1 | h1
        · exact ⟨fun e => (hoff _ h1).1 (by injection e with e; exact e.symm), (hoff _ h1).2.1⟩
        · exact ⟨fun e => by injection e with e; simp only at e; omega, by omega⟩
    · have hE := h.each _ (List.getElem_mem hj)
      refine ⟨hE.len, own_same hE.row fun k e => ?_, hE.far⟩
      obtain ⟨p, hp, rfl⟩ := slice_block e
      exact hkeep _ (hplt j hj p hp) (hapart j hj hji p hp) (fun e2 => (hE.far p hp).1 (by rw [e2]; rfl))
  · refine List.pairwise_iff_getElem.2 fun j k hj hk hjk p q hp hq => ?_
    rw [List.length_set] at hj hk
    rw [List.getElem_set] at hp hq
    by_cases hji : i = j
    · rw [if_pos hji] at hp
      rw [if_neg (by omega)] at hq
      rcases hnew p hp with h1 | h1
      · intro e
        exact hapart k hk (by omega) q hq (by rw [h1, e])
      · have := hplt k hk q hq
        omega
    · rw [if_neg hji] at hp
      by_cases hki : i = k
      · rw [if_pos hki] at hq
        rcases hnew q hq with h1 | h1
        · intro e
          exact hapart j hj (by omega) p hp (by rw [h1, e])
        · have := hplt j hj p hp
          omega
      · rw [if_neg hki] at hq
        exact List.pairwise_iff_getElem.1 h.apart j k hj hk hjk p q hp hq
  · exact hg9.os.trans hb.os
  · exact hg9.tape.trans hb.tape
  · exact hg9.output.trans hb.output
  · rw [hsz]; omega
  · refine hkeep k h1 (fun e => ?_) (fun e => h2 (.inr (.inl (by rw [e]; rfl))))
    obtain ⟨p, hp, rfl⟩ := slice_block e
    exact h2 (.inr (.inr ⟨_, List.getElem_mem hi, p, hp, rfl⟩))
  · rintro k (rfl | hk | ⟨x, hx, p, hp, rfl⟩)
    · exact .inl (.inl rfl)
    · exact .inl (.inr (.inl hk))
    · rcases hmem x hx with rfl | ⟨j, hj, hji, rfl⟩
      · rcases hnew p hp with h1 | h1
        · obtain ⟨q, hq, hqp⟩ := slice_block h1
          exact .inl (.inr (.inr ⟨_, List.getElem_mem hi, q, hq, hqp⟩))
        · exact .inr h1
      · exact .inl (.inr (.inr ⟨_, List.getElem_mem hj, p, hp, rfl⟩))
end
end Go.Proofs.Ytdcefhhmddjodaa
