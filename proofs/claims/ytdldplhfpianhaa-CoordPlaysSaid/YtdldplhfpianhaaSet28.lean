/-
  Joined: CrdPClonedB, CrdPTold.
-/
import Derived.Test.YtdldplhfpianhaaSet27
import Derived.Tactics
import Derived.Tactics2
import Derived.Defers
import Derived.Recover
import Derived.Laws.Pointers
namespace Go.Proofs.Ytdldplhfpianhaa
open Go.RowKit
set_option linter.unusedVariables false
set_option linter.unnecessarySimpa false
set_option linter.unusedSimpArgs false
set_option maxRecDepth 100000

theorem progSize : (Try.prog.info? 25).map (·.size) = some 2 := by kernel_rfl
theorem take_next {α : Type} (d : α) (L : List α) {i : Nat} (h : i < L.length) : L.take (i + 1) = L.take i ++ [L.getD i d] := by
  rw [List.take_add_one, List.getElem?_eq_getElem h, List.getD, List.getElem?_eq_getElem h]
  rfl
set_option maxHeartbeats 8000000 in
theorem pcloned_any (p : Pg) (w : World) (h : PgOk w p) (hR : p.R.length ≤ 8 ∧ ∀ k ∈ p.R, k.size ≤ 100) (hW : p.W.length ≤ 8 ∧ ∀ m ∈ p.W, m.key.size ≤ 100 ∧ m.val.size ≤ 500) :
    Calls Try.prog 42 #[.agg p.cells] w fun e w' => ∃ la lc wa wc, e = .returned (.agg #[.slice la p.rn lc, .slice wa p.wn wc]) ∧ IsKs w' la p.rn lc p.R ∧ p.rn ≤ lc ∧ IsWqs w' wa p.wn wc p.W ∧ (∀ q : Addr, la = some q → w.heap.size ≤ q.block ∧ q.block < w'.heap.size) ∧ (∀ q : Addr, wa = some q → w.heap.size ≤ q.block ∧ q.block < w'.heap.size) ∧ Below w.heap.size w w' := by
  have HKS := Lib.hid h.1
  have HWS := Lib.hid h.2
  have HRL := Lib.hid h.1.1
  have HWL := Lib.hid h.2.1
  have HR := Lib.hid hR
  have HW := Lib.hid hW
  have hrn8 : p.rn ≤ 8 := by have := HRL.out; have := hR.1; omega
  have hwn8 : p.wn ≤ 8 := by have := HWL.out; have := hW.1; omega
  have HST : Hid (ClSt w w.heap.size (w.heap.size + 1 + 1) (w.heap.size + 1) (w.heap.size + 3) p.cells (.slice none 0 0) (.slice none 0 0) [] [] (((w.alloc (.cells p.cells 25)).alloc (.cells #[.slice none 0 0, .slice none 0 0] 25)).alloc (.cells #[.slice none 0 0, .slice none 0 0] 25))) := by
    refine Lib.hid ⟨(((Below.refl w.heap.size w).alloc (Nat.le_refl _) _).alloc (by simp) _).alloc (by simp; omega) _, ⟨Nat.le_refl _, by omega, by omega, by omega, by omega, by omega, by simp, by omega, by omega, by omega⟩, ?_, ?_, ?_, ⟨rfl, .inl ⟨rfl, rfl⟩⟩, ⟨rfl, .inl ⟨rfl, rfl⟩⟩, fun k hk => (by cases hk), fun k hk => (by cases hk)⟩
    · exact ((Below.heap_alloc _ _ _ (by simp; omega)).trans (Below.heap_alloc _ _ _ (by simp))).trans (heap_alloc_new _ _)
    · simpa using heap_alloc_new ((w.alloc (.cells p.cells 25)).alloc (.cells #[.slice none 0 0, .slice none 0 0] 25)) (.cells #[.slice none 0 0, .slice none 0 0] 25)
    · exact (Below.heap_alloc _ _ _ (by simp)).trans (by simpa using heap_alloc_new (w.alloc (.cells p.cells 25)) (.cells #[.slice none 0 0, .slice none 0 0] 25))
  clear h hR hW
  obtain ⟨ra, rn, rc, R, wa, wn, wc, Ws⟩ := p
  unfold Pg.cells at *
  simp only at *
  go_enter Try.func42, Try.ntmps42
  go_upto_region 2 with fail
  obtain ⟨w0, hw0⟩ : ∃ w0, w0 = ((w.alloc (.cells #[.slice ra rn rc, .slice wa wn wc] 25)).alloc (.cells #[.slice none 0 0, .slice none 0 0] 25)).alloc (.cells #[.slice none 0 0, .slice none 0 0] 25) := ⟨_, rfl⟩
  obtain ⟨B, hB⟩ : ∃ B, B = w.heap.size + 3 := ⟨_, rfl⟩
  obtain ⟨G, hG⟩ : ∃ G, G = w.heap.size + 1 + 1 := ⟨_, rfl⟩
  obtain ⟨E, hE⟩ : ∃ E, E = w.heap.size + 1 := ⟨_, rfl⟩
  obtain ⟨X, hX⟩ : ∃ X, X = w.heap.size := ⟨_, rfl⟩
  have HS0 : Hid (ClSt w X G E B #[.slice ra rn rc, .slice wa wn wc] (.slice none 0 0) (.slice none 0 0) [] [] w0) := Lib.hid (by rw [hw0, hB, hG, hE, hX]; exact HST.out)
  have HBW := Lib.hid (show w.heap.size ≤ B by omega)
  rw [← hw0, ← hG, ← hE, ← hX]
  clear hw0 hG hE hX hB HST
  obtain ⟨x0, x1⟩ := pcells2 HS0.out.x
  go_wp2_with fail
  go_loopg [5, 11] rn (fun gg _ s11 wr => ∃ (i : Nat) (v1 : Value), i + gg = rn ∧ s11 = .int .i64 i ∧ Hid (ClSt w X G E B #[.slice ra rn rc, .slice wa wn wc] v1 (.slice none 0 0) (R.take i) [] wr))
  case atStart => exact ⟨0, _, by omega, rfl, HS0⟩
  case round =>
    obtain ⟨i, v1, hg, rfl, HB⟩ := hrel
    clear x0 x1
    by_cases hlt : i < rn
    · obtain ⟨k, rfl⟩ : ∃ k, gk = k + 1 := ⟨gk - 1, by omega⟩
      have hltz : (i : Int) < (rn : Int) := by omega
      obtain ⟨rb, off, rfl, hbl, hk1, q0⟩ := (HKS.out.below HB.out.below).2.2 i hlt
      have hil : i < R.length := by have := HRL.out; omega
      have htn := take_next ⟨#[]⟩ R hil
      obtain ⟨K, hK⟩ : ∃ K, K = R.getD i ⟨#[]⟩ := ⟨_, rfl⟩
      rw [← hK] at q0 htn
      have hKs : K.size ≤ 100 := HR.out.2 K (by rw [hK, List.getD, List.getElem?_eq_getElem hil]; exact List.getElem_mem hil)
      have HTN := Lib.hid htn
      have HCL := Lib.hid (fun W => pclone_any K W (by omega))
      obtain ⟨g0, g1⟩ := pcells2 HB.out.g
      clear hK hbl hk1 htn hKs hil
      go_upto_region 5 with fail
      clear q0 g0 g1
      obtain ⟨L, hL⟩ : ∃ L, L = R.take i := ⟨_, rfl⟩
      have hLi : L.length ≤ 8 := by rw [hL, List.length_take]; omega
      rw [← hL] at HB HTN
      have HLI := Lib.hid hLi
      obtain ⟨row, hrow⟩ : ∃ row, row = v1.ownBlock := ⟨_, rfl⟩
      have hrB : ∀ k, row = some k → k < wr.heap.size := fun k hk => (HB.out.o1.lt k (by rw [← hrow]; exact hk)).2
      have hneG : some G ≠ row := fun e => by have := HB.out.b1 G (by rw [← hrow]; exact e.symm); have := HB.out.le.2.2.2.2.1; omega
      have HRW := Lib.hid hrow
      have hown := HB.out.o1
      have HBG := Lib.hid HB.out.g
      clear hL hLi hrow
      refine wp_region_tailN [3, 5] [20, 21] (KeepG 9 1 L.length (L.length + 1) (ksC L) (ksC L ++ ksC [K]) row) (psiK1 G wr.heap.size v1 L.length L K row) (fun _ _ => True) 39 7 none (.store 22 (.tmp 21) (.tmp 20)) (by kernel_rfl) (by kernel_rfl) (by kernel_rfl) (by kernel_rfl) rfl (by kernel_rfl) (by kernel_rfl)
        (.of (Below.refl _ _).drew) (fun _ _ _ h k => h.trans k) (fun _ _ _ _ h k => psiK1_stable hrB h k) (fun _ _ _ _ _ => trivial) ?_ ?_ [15, 16, 17, 18, 19, 20, 21] (by kernel_rfl) ?_
      · intro t ht w' _
        simp only [List.mem_cons, List.not_mem_nil, or_false] at ht
        rcases ht with rfl | rfl <;> rfl
      · repeat' (first | exact AllStepsL.nil | refine AllStepsL.cons ?_ ?_)
        all_goals
          intro hik
          first
            | (exfalso; revert hik; decide)
            | (intro a' w' K' Q' hRl hP hK'
               have g0 := (pcells2 ((hRl.block G (Array.getElem?_eq_some_iff.1 HBG.out).1 hneG).trans HBG.out)).1
               have hsz := hRl.size
               have how := hRl.k2 _ hown
               clear hRl
               first
                | (obtain ⟨h16, ⟨gu, h19, hgu, hgr⟩, _⟩ := hP
                   obtain ⟨ii, hi, hz0, hz1, hz2⟩ := info_parts ksInfo
                   obtain ⟨v', w3, hr, q1, q2, q3⟩ := run_append_keep (P := Try.prog) w' 22 22 9 ii (.string ⟨#[]⟩) 1 16 Try.underlying22 hi hz0 hz1 hz2 rfl (by omega) v1 L.length (ksC L) how ⟨gu, 0, none⟩ 1 1 (ksC [K]) rfl (fun j u hu => by rw [Addr.add_lit, Nat.zero_add, cell_of_row _ _ _ _ _ _ hgr]; simpa [ksC] using hu) (ksC_one _) (by have := HLI.out; unfold maxLen; omega) (by have := HLI.out; omega)
                   refine wp_appG 22 _ _ rfl v1 (.slice (some ⟨gu, 0, none⟩) 1 1) v' w3 (by simp only [Act.eval, Array.getD_eq_getD_getElem?]; exact h16) (by simp only [Act.eval, Array.getD_eq_getD_getElem?]; exact h19) hr ?_
                   rw [← HRW.out] at q2 q3
                   refine hK' _ _ q2 trivial ?_
                   intro d hd; cases hd
                   exact ⟨q1, fun k hk => (q3 k hk).elim (fun e => .inl e) (fun e => .inr (Nat.le_trans hsz e))⟩)
                | (repeat (obtain ⟨h, hP⟩ := hP; conv at h => whnf)
                   try go_simp
                   first
                    | (refine hK' _ _ .refl trivial ?_; intro d hd; cases hd; first | rfl | exact h)
                    | (go_at_call 35; (with_reducible refine (HCL.out _).mono ?_); rintro e w4 ⟨rfl, hb4⟩; refine hK' _ _ (.of hb4) trivial ?_; intro d hd; cases hd; rfl)
                    | (refine hK' _ _ (.of ((Below.refl _ _).alloc (Nat.le_refl _) _)) trivial ?_; intro d hd; cases hd; exact ⟨_, rfl, hsz, heap_alloc_new w' _⟩)
                    | (trace_state; fail)))
      · intro f w4 hRl hf hT ok hd ho
        have h21 : f 21 = .pointer (some ⟨G, 0, none⟩) := hf 21 (by simp)
        obtain ⟨q1, q2⟩ : w4.ownsRow 0 9 1 (f 20) (L.length + 1) (ksC L ++ ksC [K]) ∧ ∀ k, (f 20).ownBlock = some k → row = some k ∨ wr.heap.size ≤ k := hf 20 (by simp)
        obtain ⟨ga, gc, h20⟩ := own_form q1
        rw [h20] at q1 q2
        rw [HRW.out] at hRl q2
        have HN := Lib.hid (HB.out.next1 hRl q1 q2)
        rw [← HTN.out] at HN
        have hbx := ((hRl.block G (Array.getElem?_eq_some_iff.1 HBG.out).1 (by rw [← HRW.out]; exact hneG)).trans HBG.out)
        obtain ⟨m, hm⟩ : ∃ m, m = L.length + 1 := ⟨_, rfl⟩
        rw [← hm] at h20 HN
        simp only [putAll, List.foldl_cons, List.foldl_nil, h20, h21]
        dsimp only [Act.put]
        simp only [List.setIfInBounds_toArray]
        simp only [List.set_cons_succ, List.set_cons_zero]
        refine wp_store1K 22 _ _ ho ⟨G, 0, none⟩ (.slice ga m gc) _ rfl rfl rfl (pcells2 hbx).1 (frozen_of_row _ _ 0 _ _ hbx) (by kernel_rfl) ?_
        rw [hd]
        clear hRl hf hT hd ho h20 h21 q1 q2 hbx hm hown hrB hneG
        go_wp2_with fail
        go_roundg k
        case measure => omega
        case rel => exact ⟨i + 1, _, by omega, by go_num, HN⟩
    · have hltz : ¬ (i : Int) < (rn : Int) := by omega
      have hin : rn = i := by omega
      have hRall : R.take i = R := List.take_of_length_le (by have := HRL.out; omega)
      rw [hRall] at HB
      clear hRall
      obtain ⟨x0, x1⟩ := pcells2 HB.out.x
      obtain ⟨a1, c1, hv1⟩ := own_form HB.out.o1
      rw [hv1] at HB
      have HN1 := Lib.hid hin
      clear hv1 v1 hin
      go_wp2_with fail
      go_loopg [7, 26] wn (fun gg _ s26 wq => ∃ (j : Nat) (v2 : Value), j + gg = wn ∧ s26 = .int .i64 j ∧ Hid (ClSt w X G E B #[.slice ra rn rc, .slice wa wn wc] (.slice a1 R.length c1) v2 R (Ws.take j) wq))
      case atStart => exact ⟨0, _, by omega, rfl, HB⟩
      case round =>
        clear HB x0 x1
        obtain ⟨j, v2, hg2, rfl, HB⟩ := hrel
        by_cases hlt2 : j < wn
        · obtain ⟨k, rfl⟩ : ∃ k, gk = k + 1 := ⟨gk - 1, by omega⟩
          have hltz2 : (j : Int) < (wn : Int) := by omega
          obtain ⟨wb, off, rfl, hbl, hk1, hk2, q0, q1, q2⟩ := (HWS.out.below HB.out.below).2.2.2 j hlt2
          have hjl : j < Ws.length := by have := HWL.out; omega
          have htn := take_next wq0 Ws hjl
          obtain ⟨m, hm⟩ : ∃ m, m = Ws.getD j wq0 := ⟨_, rfl⟩
          rw [← hm] at q0 q1 q2 htn
          have hms := HW.out.2 m (by rw [hm, List.getD, List.getElem?_eq_getElem hjl]; exact List.getElem_mem hjl)
          have HTN := Lib.hid htn
          have HCL := Lib.hid (fun W => pcloneW_any m W (by omega) (by omega))
          obtain ⟨K, Gn, V⟩ := m
          simp only at q0 q1 q2 HCL
          have hb1 := (Below.refl wr.heap.size wr).alloc (Nat.le_refl _) (.cells #[.string K, .bool Gn, .string V] 64)
          have hr1 := heap_alloc_new wr (.cells #[.string K, .bool Gn, .string V] 64)
          obtain ⟨w2, hw2⟩ : ∃ w2, w2 = wr.alloc (.cells #[.string K, .bool Gn, .string V] 64) := ⟨_, rfl⟩
          rw [← hw2] at hb1 hr1
          obtain ⟨A, hA⟩ : ∃ A, A = wr.heap.size := ⟨_, rfl⟩
          rw [← hA] at hr1
          have HB2 := Lib.hid (HB.out.later hb1)
          have HAR := Lib.hid hr1
          have hAA := Lib.hid (And.intro (show A = wr.heap.size from hA) (show wr.heap.size ≤ w2.heap.size from hb1.size))
          clear hm hbl hk1 hk2 htn hms hjl hb1 hr1
          go_upto_region 10 with fail
          rw [← hw2, ← hA]
          clear hw2 hA q0 q1 q2
          obtain ⟨L, hL⟩ : ∃ L, L = Ws.take j := ⟨_, rfl⟩
          have hLi : L.length ≤ 8 := by rw [hL, List.length_take]; omega
          rw [← hL] at HB HB2 HTN
          have HLI := Lib.hid hLi
          obtain ⟨row, hrow⟩ : ∃ row, row = v2.ownBlock := ⟨_, rfl⟩
          have hrB : ∀ k, row = some k → k < w2.heap.size := fun k hk => (HB2.out.o2.lt k (by rw [← hrow]; exact hk)).2
          have hneG : some G ≠ row := fun e => by have := (HB2.out.b2 G (by rw [← hrow]; exact e.symm)).1; have := HB2.out.le.2.2.2.2.1; omega
          have hneA : some A ≠ row := fun e => by have := (HB.out.o2.lt A (by rw [← hrow]; exact e.symm)).2; have := hAA.out.1; omega
          have HRW := Lib.hid hrow
          have hown := HB2.out.o2
          have HBG := Lib.hid HB2.out.g
          clear hL hLi hrow HB
          refine wp_region_tailN [3, 7] [35, 36] (KeepG 64 3 L.length (L.length + 1) (wqCells L) (wqCells L ++ wqCells [⟨K, Gn, V⟩]) row) (psiK2 G A w2.heap.size v2 L.length L ⟨K, Gn, V⟩ row) (fun _ _ => True) 39 7 none (.store 23 (.tmp 36) (.tmp 35)) (by kernel_rfl) (by kernel_rfl) (by kernel_rfl) (by kernel_rfl) rfl (by kernel_rfl) (by kernel_rfl)
            (.of (Below.refl _ _).drew) (fun _ _ _ h k => h.trans k) (fun _ _ _ _ h k => psiK2_stable hrB h k) (fun _ _ _ _ _ => trivial) ?_ ?_ [30, 31, 32, 33, 34, 35, 36] (by kernel_rfl) ?_
          · intro t ht w' _
            simp only [List.mem_cons, List.not_mem_nil, or_false] at ht
            rcases ht with rfl | rfl <;> rfl
          · repeat' (first | exact AllStepsL.nil | refine AllStepsL.cons ?_ ?_)
            all_goals
              intro hik
              first
                | (exfalso; revert hik; decide)
                | (intro a' w' K' Q' hRl hP hK'
                   have g1 := (pcells2 ((hRl.block G (Array.getElem?_eq_some_iff.1 HBG.out).1 hneG).trans HBG.out)).2
                   obtain ⟨y0, y1, y2⟩ := pcells3 ((hRl.block A (Array.getElem?_eq_some_iff.1 HAR.out).1 hneA).trans HAR.out)
                   have hsz := hRl.size
                   have how := hRl.k2 _ hown
                   clear hRl
                   first
                    | (obtain ⟨h33, _⟩ := hP
                       refine wqwp_bs1 _ ⟨K, Gn, V⟩ rfl (by simp only [Act.eval, Array.getD_eq_getD_getElem?]; exact h33) ?_
                       refine hK' _ _ (.of ((Below.refl _ _).alloc (Nat.le_refl _) _)) trivial ?_
                       intro d hd; cases hd
                       exact ⟨_, rfl, hsz, heap_alloc_new w' _⟩)
                    | (obtain ⟨h31, ⟨gu, h34, hgu, hgr⟩, _⟩ := hP
                       obtain ⟨ii, hi, hz0, hz1, hz2⟩ := info_parts wqInfo
                       obtain ⟨v', w3, hr, q1, q2, q3⟩ := run_append_keep (P := Try.prog) w' 23 23 64 ii (.agg #[.string ⟨#[]⟩, .bool false, .string ⟨#[]⟩]) 3 40 Try.underlying23 hi hz0 hz1 hz2 rfl (by omega) v2 L.length (wqCells L) how ⟨gu, 0, none⟩ 1 1 (wqCells [⟨K, Gn, V⟩]) rfl (fun j u hu => by rw [Addr.add_lit, Nat.zero_add, cell_of_row _ _ _ _ _ _ hgr]; simpa [wqCells] using hu) (wqCells_one _) (by have := HLI.out; unfold maxLen; omega) (by have := HLI.out; omega)
                       refine wp_appG 23 _ _ rfl v2 (.slice (some ⟨gu, 0, none⟩) 1 1) v' w3 (by simp only [Act.eval, Array.getD_eq_getD_getElem?]; exact h31) (by simp only [Act.eval, Array.getD_eq_getD_getElem?]; exact h34) hr ?_
                       rw [← HRW.out] at q2 q3
                       refine hK' _ _ q2 trivial ?_
                       intro d hd; cases hd
                       exact ⟨q1, fun k hk => (q3 k hk).elim (fun e => .inl e) (fun e => .inr (Nat.le_trans hsz e))⟩)
                    | (repeat (obtain ⟨h, hP⟩ := hP; conv at h => whnf)
                       try go_simp
                       first
                        | (refine hK' _ _ .refl trivial ?_; intro d hd; cases hd; first | rfl | exact h)
                        | (go_at_call 38; (with_reducible refine (HCL.out _).mono ?_); rintro e w4 ⟨rfl, hb4⟩; refine hK' _ _ (.of hb4) trivial ?_; intro d hd; cases hd; rfl)
                        | (trace_state; fail)))
          · intro f w4 hRl hf hT ok hd ho
            have h36 : f 36 = .pointer (some ⟨G, 1, none⟩) := hf 36 (by simp)
            obtain ⟨q1, q2⟩ : w4.ownsRow 0 64 3 (f 35) (L.length + 1) (wqCells L ++ wqCells [⟨K, Gn, V⟩]) ∧ ∀ k, (f 35).ownBlock = some k → row = some k ∨ w2.heap.size ≤ k := hf 35 (by simp)
            obtain ⟨ga, gc, h35⟩ := own_form q1
            rw [h35] at q1 q2
            rw [HRW.out] at hRl q2
            have HN := Lib.hid (HB2.out.next2 hRl q1 q2)
            rw [← HTN.out] at HN
            have hbx := ((hRl.block G (Array.getElem?_eq_some_iff.1 HBG.out).1 (by rw [← HRW.out]; exact hneG)).trans HBG.out)
            obtain ⟨m, hm⟩ : ∃ m, m = L.length + 1 := ⟨_, rfl⟩
            rw [← hm] at h35 HN
            simp only [putAll, List.foldl_cons, List.foldl_nil, h35, h36]
            dsimp only [Act.put]
            simp only [List.setIfInBounds_toArray]
            simp only [List.set_cons_succ, List.set_cons_zero]
            refine wp_store1K 23 _ _ ho ⟨G, 1, none⟩ (.slice ga m gc) _ rfl rfl rfl (pcells2 hbx).2 (frozen_of_row _ _ 1 _ _ hbx) (by kernel_rfl) ?_
            rw [hd]
            clear hRl hf hT hd ho h35 h36 q1 q2 hbx hm hown hrB hneG hneA
            go_wp2_with fail
            go_roundg k
            case measure => omega
            case rel => exact ⟨j + 1, _, by omega, by go_num, HN⟩
        · have hltz2 : ¬ (j : Int) < (wn : Int) := by omega
          have hjn : wn = j := by omega
          have hWall : Ws.take j = Ws := List.take_of_length_le (by have := HWL.out; omega)
          rw [hWall] at HB
          obtain ⟨a2, c2, hv2⟩ := own_form HB.out.o2
          rw [hv2] at HB
          have HJN := Lib.hid hjn
          clear hWall hv2 v2 hjn
          have HRN := HRL.out
          have HWN := HWL.out
          have HX := Lib.hid (ks_own HB.out.o1 rfl (by omega) (fun k hk => by have := HR.out.2 k hk; unfold maxLen; omega))
          have HY := Lib.hid (wqs_own HB.out.o2 rfl (by omega) (fun m hm => by have := HW.out.2 m hm; unfold maxLen; omega))
          have HB1 := Lib.hid (fun k hk => And.intro (HB.out.b1 k hk) (HB.out.o1.lt k hk).2)
          have HB2 := Lib.hid (fun k hk => And.intro (HB.out.b2 k hk).1 (HB.out.o2.lt k hk).2)
          have HE := Lib.hid (And.intro HB.out.e HB.out.le)
          have HBL := Lib.hid HB.out.below
          obtain ⟨g0, g1⟩ := pcells2 HB.out.g
          obtain ⟨e0, e1⟩ := pcells2 HB.out.e
          have ef := fun j => frozen_of_row _ _ j _ _ HB.out.e
          rw [HRN] at HX g0 HB1
          rw [HWN] at HY g1 HB2
          clear HB HRN HWN
          go_wp2_with fail
          have hr1 := heap_setCell_same _ E 0 _ _ (.slice a1 rn c1) HE.out.1
          have hr2 := heap_setCell_same _ E 1 _ _ (.slice a2 wn c2) hr1
          obtain ⟨w9, hw9⟩ : ∃ w9, w9 = (wr.setCell ⟨E, 0, none⟩ (.slice a1 rn c1)).setCell ⟨E, 1, none⟩ (.slice a2 wn c2) := ⟨_, rfl⟩
          have hot : ∀ k, k ≠ E → w9.heap[k]? = wr.heap[k]? := fun k hk => by rw [hw9]; exact (Below.heap_setCell _ _ _ _ hk).trans (Below.heap_setCell _ _ _ _ hk)
          have hsz : w9.heap.size = wr.heap.size := by rw [hw9]; simp [World.setCell]
          have hos : w9.os = wr.os ∧ w9.tape = wr.tape ∧ w9.output = wr.output := by rw [hw9]; exact ⟨rfl, rfl, rfl⟩
          rw [← hw9] at hr2
          rw [← hw9]
          clear hw9
          obtain ⟨l1, l2, l3, l4, l5, l6, l7, l8⟩ := HE.out.2
          have hb1 : ∀ q : Addr, a1 = some q → B ≤ q.block ∧ q.block < wr.heap.size := fun q hq => HB1.out q.block (by rw [hq]; rfl)
          have hb2 : ∀ q : Addr, a2 = some q → B ≤ q.block ∧ q.block < wr.heap.size := fun q hq => HB2.out q.block (by rw [hq]; rfl)
          refine bodyPost_ret (results_cell_row rfl _ _ E 25 #[.slice a1 rn c1, .slice a2 wn c2] (0, 0) _ rfl hr2 Try.underlying25 rfl progSize) rfl ⟨a1, c1, a2, c2, rfl, ?_, HX.out.2, ?_, fun q hq => ⟨Nat.le_trans HBW.out (hb1 q hq).1, by rw [hsz]; exact (hb1 q hq).2⟩, fun q hq => ⟨Nat.le_trans HBW.out (hb2 q hq).1, by rw [hsz]; exact (hb2 q hq).2⟩, ?_⟩
          · exact HX.out.1.sameB (by omega) fun q hq => hot _ (by have := hb1 q hq; omega)
          · exact HY.out.sameC (by omega) fun q hq => hot _ (by have := hb2 q hq; omega)
          · exact ⟨hos.1.trans HBL.out.os, hos.2.1.trans HBL.out.tape, hos.2.2.trans HBL.out.output, by rw [hsz]; exact HBL.out.size, fun k hk => (hot k (by omega)).trans (HBL.out.block k hk)⟩
end Go.Proofs.Ytdldplhfpianhaa

namespace Go.Proofs.Ytdldplhfpianhaa
open Go.RowKit
set_option linter.unusedVariables false
set_option linter.unnecessarySimpa false
set_option linter.unusedSimpArgs false
set_option maxRecDepth 100000

theorem told_idle (p : Addr) (w : World) :
    CallsD Try.prog 62 #[.pointer (some p)] .returning w fun e u' w' => e = .returned (.tuple #[]) ∧ u' = .returning ∧ w' = w := by
  refine callsD_of_wpS Try.func62 rfl fun c₀ cs hu => ?_
  apply wpS_seq
  apply wpS_region
  simp [wpOpsS, go_sem, recoverD, hu, Try.ntmps62, Exit.thenS]
  refine wpS_cond (t := false) (by simp [Act.eval, Array.replicate]) ?_
  simp only [Bool.false_eq_true, if_false]
  refine wpS_of_wp (wp_skip ?_)
  cases c₀
  simp_all [bodyPostS, results, Try.results62]
set_option maxHeartbeats 2000000 in
theorem ptold_any (g : Nat) (key : ByteArray) (k : Int) (w : World) (eg : ∀ args w, (callFunc g args).run Try.prog w = .ok (.enter g args) w) (hg : ∀ W, Calls Try.prog g #[.string key] W fun e w' => e = .returned (.int .i64 k) ∧ W = w') :
    Calls Try.prog 54 #[.func (.func g) #[] #[], .string key] w fun e w' => e = .returned (.int .i64 k) ∧ Below w.heap.size w w' := by
  have hmf : ∀ (fn : Fn) (first cap : Array Value) (w : World), (Instr.makeFunc fn first cap).run Try.prog w = .ok (.func fn first cap) w := fun _ _ _ _ => rfl
  have HG := Lib.hid hg
  clear hg
  go_enter_defers Try.func54, Try.ntmps54
  go_wp2_with (go_at_fn g; refine (HG.out _).mono ?_; rintro e w' ⟨rfl, rfl⟩)
  refine leaves_cons (f := 62) (args := #[.pointer (some ⟨w.heap.size, 0, none⟩)]) (by simp) (by simp [go_sem]) ?_
  refine (told_idle ⟨w.heap.size, 0, none⟩ _).mono ?_
  rintro e u' w'' ⟨rfl, rfl, rfl⟩
  have hb := (Below.refl w.heap.size w).alloc (Nat.le_refl _) (.cells #[.int .i64 k] 3)
  simp [Leaves, settle, results, Try.results54, go_sem]
  exact hb
end Go.Proofs.Ytdldplhfpianhaa
