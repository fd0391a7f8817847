/-
  The walk of the statement MsgDecodes: true.
-/
import Derived.Test.YtkcbbcabfbkclaaMsgEncodes
namespace Go.Proofs.Ytkcbbcabfbkclaa
open Go.RowKit
set_option linter.unusedVariables false
set_option linter.unnecessarySimpa false
set_option linter.unusedSimpArgs false
set_option maxRecDepth 100000

/-- Same, of the zero message and what is laid for 'Msg{}'. -/
theorem same_zero (sl : Value) (W : World) (h : WsAt W sl []) :
    Calls Try.prog 15 #[.agg (mg0.cells sl), .agg #[.int .i64 0, .int .i64 0, .int .i64 0, .int .i64 0, .int .i64 0, .int .i64 0, .int .u64 0, .int .u64 0, .string ⟨#[]⟩, .bool false, .int .u64 0, .bool false, .string ⟨#[]⟩, .slice none 0 0, .string ⟨#[]⟩, .int .u64 0, .int .u64 0]] W fun e w' => e = .returned (.bool true) ∧ Below W.heap.size W w' :=
  refSame_yes mg0 mg0 sl (.slice none 0 0) mg0_sane mg0_sane rfl W h (WsAt.nil W)

set_option maxHeartbeats 8000000 in
theorem msgDecodes_of (hE : EncOK) (hN : NegOK) (hD : DecOK) (v : Int) (hv : I64 v) (b : ByteArray) (hb : b.size ≤ maxLen) (w : World) :
    Calls Try.prog 5 #[.int .i64 v, .string b] w (AllTrue w) := by
  have HAW := Lib.hid (msgAwake_any hE hN)
  unfold maxLen at hb
  by_cases hlen : 3000 < b.size
  · have hz : (3000 : Int) < (b.size : Int) := by omega
    clear hE hN hD
    go_enter Try.func5, Try.ntmps5
    go_upto_region 2 with (go_at_call 8; refine (HAW.out _).mono ?_; rintro e w2 ⟨rfl, hb2⟩)
    go_wp2_with (go_at_call 8; refine (HAW.out _).mono ?_; rintro e w4 ⟨rfl, hb4⟩)
    go_ret
    exact ⟨rfl, hb2.trans (hb4.mono hb2.size)⟩
  · have hz : ¬ (3000 : Int) < (b.size : Int) := by omega
    have hd := fun W => hD v b W hv (by omega)
    obtain ⟨R, hR⟩ : ∃ R, R = decB v b.data.toList := ⟨_, rfl⟩
    obtain ⟨M, L, E⟩ := R
    rw [← hR] at hd
    simp only at hd
    have HD := Lib.hid hd
    by_cases hE0 : E = 0
    · subst hE0
      have hi := dec_is hR.symm
      have he := fun (sl : Value) (W : World) (h : WsAt W sl M.ws) => hE v M sl W hv hi.fits hi.few h
      rw [hi.enc] at he
      unfold EncOut at he
      obtain ⟨X, hX⟩ : ∃ X : ByteArray, X = ⟨(msgB M (lastOf v)).toArray⟩ := ⟨_, rfl⟩
      rw [← hX] at he
      have HE := Lib.hid he
      have hXs : X.size = (msgB M (lastOf v)).length := by rw [hX]; exact List.size_toArray
      have hsz : X.size ≤ b.size := by rw [hXs, Lib.size_eq]; exact hi.len
      have HSAME := Lib.hid (show L = 0 → b = X from fun h => by rw [hX, ← hi.same h])
      clear hE hN hD hd hR he hX hXs hi hlen
      go_enter Try.func5, Try.ntmps5
      go_upto_region 3 with (go_at_call 8; refine (HAW.out _).mono ?_; rintro e w2 ⟨rfl, hb2⟩)
      go_upto_region 4 with (first
        | (go_at_call 16; refine (HD.out _).mono ?_; rintro e w5 ⟨sl1, rfl, hws1, hb5⟩; have hnew := heap_alloc_new w5 (.cells zeroMsg 29); have hcs1 := cells_size M sl1; have hok1 := cells_ok hws1)
        | (refine wpList_store_row rfl 29 _ _ rfl w5.heap.size (M.cells sl1) rfl rfl 29 zeroMsg hnew hcs1 rfl hok1 ?_; rw [World.setRow_alloc_new]; dsimp only [Act.put]))
      obtain ⟨W6, hW6⟩ : ∃ W6, W6 = w5.alloc (.cells (M.cells sl1) 29) := ⟨_, rfl⟩
      have hb56 : Below w5.heap.size w5 W6 := by rw [hW6]; exact (Below.refl _ _).alloc (Nat.le_refl _) _
      have b5 := hb2.trans (hb5.mono hb2.size)
      have B6 := Lib.hid (b5.trans (hb56.mono b5.size))
      have hp6 : W6.heap[w5.heap.size]? = some (.cells (M.cells sl1) 29 (0, 0)) := by rw [hW6]; exact heap_alloc_new w5 _
      have HWS1 := Lib.hid (hws1.below hb56)
      rw [← hW6]
      obtain ⟨g1, hg1⟩ : ∃ g1, g1 = w5.heap.size := ⟨_, rfl⟩
      rw [← hg1] at hp6
      rw [← hg1]
      clear hW6 hb2 hb5 hb56 b5 hg1 hnew hok1 hws1
      have HE2 := Lib.hid (HE.out sl1 W6 HWS1.out)
      by_cases hL : L = 0
      · have hbX := HSAME.out hL
        subst hL
        subst hbX
        clear HSAME
        go_wp2_with (first
          | (refine wpList_load_row_w rfl 29 _ rfl g1 rfl 29 (M.cells sl1) (0, 0) _ hp6 Try.underlying29 rfl hcs1 ?_)
          | (go_at_call 10; refine HE2.out.mono ?_; rintro e w7 ⟨rfl, hb7⟩))
        go_ret
        exact ⟨rfl, B6.out.trans (hb7.mono B6.out.size)⟩
      · have hLz : decide ((0 : Int) < (L : Int)) = true := decide_eq_true (by omega)
        have hLn : decide (0 < L) = true := decide_eq_true (by omega)
        have hszz : (X.size : Int) ≤ (b.size : Int) := by omega
        have hLp : 0 < L := by omega
        clear HSAME hL
        go_wp2_with (first
          | (refine wpList_load_row_w rfl 29 _ rfl g1 rfl 29 (M.cells sl1) (0, 0) _ hp6 Try.underlying29 rfl hcs1 ?_)
          | (go_at_call 10; refine HE2.out.mono ?_; rintro e w7 ⟨rfl, hb7⟩))
        go_ret
        exact ⟨rfl, B6.out.trans (hb7.mono B6.out.size)⟩
    · have herr := dec_err v b.data.toList (by rw [← hR]; exact hE0)
      rw [← hR] at herr
      simp only at herr
      obtain ⟨hM, hL, hEE⟩ := herr
      subst hM hL
      have HL := Lib.hid (fun W => last_any v hv W)
      have hl4 : b.data.toList.length ≤ 3000 := by rw [← Lib.size_eq]; omega
      clear hE hN hD hd hR hE0 hlen
      have hE3 : (E = 2) ∨ (E = 4 ∧ v < 4) ∨ (E = 1 ∧ lastOf v = 0) := by
        rcases hEE with h | h | h | h
        · exact .inl h
        · refine .inr (.inl ⟨h.1, ?_⟩)
          by_cases h4 : v < 4
          · exact h4
          · exact absurd (lastOf_zero.2 (by omega)) h.2
        · exact .inr (.inr h)
        · omega
      clear hEE hl4
      go_enter Try.func5, Try.ntmps5
      go_upto_region 3 with (go_at_call 8; refine (HAW.out _).mono ?_; rintro e w2 ⟨rfl, hb2⟩)
      go_upto_region 4 with (first
        | (go_at_call 16; refine (HD.out _).mono ?_; rintro e w5 ⟨sl1, rfl, hws1, hb5⟩; have hnew := heap_alloc_new w5 (.cells zeroMsg 29); have hcs1 := cells_size mg0 sl1; have hok1 := cells_ok hws1)
        | (refine wpList_store_row rfl 29 _ _ rfl w5.heap.size (mg0.cells sl1) rfl rfl 29 zeroMsg hnew hcs1 rfl hok1 ?_; rw [World.setRow_alloc_new]; dsimp only [Act.put]))
      obtain ⟨W6, hW6⟩ : ∃ W6, W6 = w5.alloc (.cells (mg0.cells sl1) 29) := ⟨_, rfl⟩
      have hb56 : Below w5.heap.size w5 W6 := by rw [hW6]; exact (Below.refl _ _).alloc (Nat.le_refl _) _
      have b5 := hb2.trans (hb5.mono hb2.size)
      have B6 := Lib.hid (b5.trans (hb56.mono b5.size))
      have hp6 : W6.heap[w5.heap.size]? = some (.cells (mg0.cells sl1) 29 (0, 0)) := by rw [hW6]; exact heap_alloc_new w5 _
      have HWS1 := Lib.hid (hws1.below hb56)
      rw [← hW6]
      obtain ⟨g1, hg1⟩ : ∃ g1, g1 = w5.heap.size := ⟨_, rfl⟩
      rw [← hg1] at hp6
      rw [← hg1]
      clear hW6 hb2 hb5 hb56 b5 hg1 hnew hok1 hws1
      have HS := Lib.hid (same_zero sl1 W6 HWS1.out)
      obtain ⟨C1, hC1⟩ : ∃ C1, C1 = mg0.cells sl1 := ⟨_, rfl⟩
      rw [← hC1] at hp6 hcs1 HS
      rw [← hC1]
      clear hC1
      rcases hE3 with rfl | ⟨rfl, h4⟩ | ⟨rfl, h0⟩
      · go_wp2_with (first
          | (refine wpList_load_row_w rfl 29 _ rfl g1 rfl 29 C1 (0, 0) _ hp6 Try.underlying29 rfl hcs1 ?_)
          | (go_at_call 15; refine HS.out.mono ?_; rintro e w7 ⟨rfl, hb7⟩))
        go_ret
        exact ⟨rfl, B6.out.trans (hb7.mono B6.out.size)⟩
      · have h4d : decide (v < 4) = true := decide_eq_true h4
        go_wp2_with (first
          | (refine wpList_load_row_w rfl 29 _ rfl g1 rfl 29 C1 (0, 0) _ hp6 Try.underlying29 rfl hcs1 ?_)
          | (go_at_call 15; refine HS.out.mono ?_; rintro e w7 ⟨rfl, hb7⟩))
        go_ret
        exact ⟨rfl, B6.out.trans (hb7.mono B6.out.size)⟩
      · have hl0 := HL.out
        rw [h0] at hl0
        have HL0 := Lib.hid hl0
        clear hl0 h0
        go_wp2_with (first
          | (refine wpList_load_row_w rfl 29 _ rfl g1 rfl 29 C1 (0, 0) _ hp6 Try.underlying29 rfl hcs1 ?_)
          | (go_at_call 15; refine HS.out.mono ?_; rintro e w7 ⟨rfl, hb7⟩)
          | (go_at_call 14; refine (HL0.out _).mono ?_; rintro e w8 ⟨rfl, rfl⟩))
        go_ret
        exact ⟨rfl, B6.out.trans (hb7.mono B6.out.size)⟩
end Go.Proofs.Ytkcbbcabfbkclaa
