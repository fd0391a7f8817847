/-
  The walk of the statement KeysItems: true.
-/
import Derived.Test.YtnjbeemahfoaiaaDoorKeysOrder
import Derived.Test.YtnjbeemahfoaiaaDoorKeyBad
import Derived.Laws.IdiomStrings
import Derived.Deep.RegionWith
namespace Go.Proofs.YtnjbeemahfoaiaaDoor
open Go.RowKit
set_option linter.unnecessarySimpa false
set_option linter.unusedVariables false
set_option linter.unusedSimpArgs false
set_option maxRecDepth 100000

def EncBad : Prop := ∀ (v : Value) (s : ByteArray) (u : Value) (w : World), s.size ≤ 1048576 → Bad u → AnysAt w v [.iface 9 (.string s), u] →
  Calls Tryd.prog 10 #[v] w fun e w' => e = .returned (.tuple #[.string ⟨#[]⟩, .int .i64 1]) ∧ Below w.heap.size w w'
def CmpBad : Prop := ∀ (v v' : Value) (u : Value) (w : World), Bad u → AnysAt w v [u] → AnysAt w v' [u] →
  Calls Tryd.prog 16 #[v, v'] w fun e w' => e = .returned (.tuple #[.int .i64 0, .int .i64 1]) ∧ Below w.heap.size w w'

theorem cells_of_alloc (w : World) (C : Array Value) (t : TypeId) (g : Nat) (hg : g = w.heap.size) (i : Nat) : (w.alloc (.cells C t)).drew.cell? ⟨g, i, none⟩ = C[i]? := by
  subst hg
  show (w.alloc (.cells C t)).cell? _ = _
  rw [World.cell?_alloc_at _ _ _ _ rfl]

theorem two_lit (w : World) (u : Value) : AnysAt ((w.alloc (.cells #[u] 20)).alloc (.cells #[u] 20)).drew (.slice (some ⟨w.heap.size, 0, none⟩) 1 1) [u] ∧
    AnysAt ((w.alloc (.cells #[u] 20)).alloc (.cells #[u] 20)).drew (.slice (some ⟨w.heap.size + 1, 0, none⟩) 1 1) [u] ∧
    Below w.heap.size w ((w.alloc (.cells #[u] 20)).alloc (.cells #[u] 20)).drew := by
  have e : (w.alloc (.cells #[u] 20)).heap.size = w.heap.size + 1 := by simp
  have h2 := anys_lit1 (w.alloc (.cells #[u] 20)) u
  rw [e] at h2
  exact ⟨((anys_lit1 w u).below ((Below.refl _ _).alloc (Nat.le_refl _) _)).below (Below.refl _ _).drew, h2.below (Below.refl _ _).drew, (((Below.refl _ _).alloc (Nat.le_refl _) _).alloc (by simp) _).drew⟩

set_option maxRecDepth 100000 in
set_option maxHeartbeats 4000000 in
theorem keysItems_of (hE : EncOK) (hB : EncBad) (hC : CmpBad) (n : Int) (_ : (Lit.int .i64 n).wf = true) (s : ByteArray) (hs : s.size ≤ 1048576) (w : World) :
    Calls Tryd.prog 6 #[.int .i64 n, .string s] w fun e w' => e = .returned (.bool true) ∧ Below w.heap.size w w' := by
  have haw := Lib.hid (keysAwake_any hE)
  have hcv := fun (w : World) => run_bytes_of_string (P := Tryd.prog) w 9 42 5 s Tryd.underlying9 Tryd.underlying42 Tryd.underlying5
  go_enter Tryd.func6, Tryd.ntmps6
  go_upto_region 2 with fail
  generalize hW : World.drew _ = W1
  have key : ∃ us : List Value, us.length = 6 ∧ (∀ j, j < 6 → Bad (us.getD j .nilIface)) ∧ (∀ j, j < 6 → W1.cell? ⟨w.heap.size + 1 + 1, j, none⟩ = some (us.getD j .nilIface)) := by
    refine ⟨[.iface 3 (.int .i64 n), .iface 42 (.slice (some ⟨w.heap.size + 1, 0, none⟩) s.size (grownCap (w.alloc (.cells #[.int .i64 n] 3)) s.size 0 5)),
      .iface 44 (.agg #[.iface 44 (.agg #[.iface 9 (.string s)])]), .iface 44 (.agg #[.iface 3 (.int .i64 n)]), .iface 21 (.int .i32 3), .iface 45 (.pointer (some ⟨w.heap.size, 0, none⟩))], rfl, ?_, ?_⟩
    · intro j hj
      have : j = 0 ∨ j = 1 ∨ j = 2 ∨ j = 3 ∨ j = 4 ∨ j = 5 := by omega
      rcases this with rfl | rfl | rfl | rfl | rfl | rfl
      · exact .num _
      · exact .bytes _ _ _
      · exact .twice _
      · exact .down _
      · exact .small _
      · exact .ptr _
    · intro j hj
      rw [← hW, cells_of_alloc _ _ _ _ (by simp) j]
      have : j = 0 ∨ j = 1 ∨ j = 2 ∨ j = 3 ∨ j = 4 ∨ j = 5 := by omega
      rcases this with rfl | rfl | rfl | rfl | rfl | rfl <;> rfl
  obtain ⟨us, hul, hub, huc⟩ := key
  have hB1 : Below w.heap.size w W1 := by
    rw [← hW]
    exact ((((Below.refl _ _).alloc (Nat.le_refl _) _).alloc (by simp) _).alloc (by simp; omega) _).drew
  have hg1 : w.heap.size + 1 + 1 < W1.heap.size := by
    rw [← hW]
    show _ < (World.alloc _ _).heap.size
    simp
  have HB1 := Lib.hid hB1
  have HUB := Lib.hid hub
  have HUC := Lib.hid huc
  obtain ⟨g, hg⟩ : ∃ g, g = w.heap.size + 1 + 1 := ⟨_, rfl⟩
  rw [← hg] at HUC hg1
  rw [← hg]
  clear hW hB1 hub huc hul hg hcv
  go_wp2_with fail
  go_loopg [6] 6 (fun k s6 wx => ∃ i : Nat, i + k = 6 ∧ s6 = .int .i64 i ∧ Hid (Below W1.heap.size W1 wx))
  case atStart => exact ⟨0, by omega, rfl, Lib.hid (Below.refl _ _)⟩
  case round =>
    obtain ⟨i, hig, rfl, hb⟩ := hrel
    by_cases hlt : i < 6
    · obtain ⟨k, rfl⟩ : ∃ k, gk = k + 1 := ⟨gk - 1, by omega⟩
      have hiz : (i : Int) < 6 := by omega
      obtain ⟨u, hu⟩ : ∃ u, u = us.getD i .nilIface := ⟨_, rfl⟩
      have hbad := HUB.out i hlt
      have hcell := (hb.out.cell (p := ⟨g, i, none⟩) hg1).trans (HUC.out i hlt)
      rw [← hu] at hbad hcell
      have hone := hbad.one
      have HBD := Lib.hid hbad
      have hen := Lib.hid (fun v W h => hB v s u W hs hbad h)
      have hcm := Lib.hid (fun v v' W h h' => hC v v' u W hbad h h')
      clear hu hbad
      go_upto_region 6 with (first
        | (refine wpList_plain rfl fun K hK => wp_buildSlice_two 28 20 _ _ rfl .nilIface (.iface 9 (.string s)) u rfl rfl Tryd.underlying28 anyinfo2 rfl rfl hone ?_; go_simp)
        | (go_at_call 10; refine (hen.out _ _ (anys_lit2 _ _ _)).mono ?_; rintro e w3 ⟨rfl, hb3⟩))
      have hb4 := ((Below.refl wr.heap.size wr).alloc (Nat.le_refl _) (.cells #[.iface 9 (.string s), u] 20)).trans (hb3.mono (by simp))
      have hcell3 := (hb4.cell (p := ⟨g, i, none⟩) (by have := hb.out.size; show g < wr.heap.size; omega)).trans hcell
      have B3 := Lib.hid (hb.out.trans (hb4.mono hb.out.size))
      have hg3 : g < w3.heap.size := by have := hb.out.size; have := hb4.size; omega
      have hg4 : ¬ g = w3.heap.size := by omega
      clear hb3 hb4 hcell hen
      go_cut [9, 10] (fun s9 s10 wc => s9 = .int .i64 0 ∧ s10 = .int .i64 1 ∧ Hid (Below W1.heap.size W1 wc))
      case first =>
        have hbd := HBD.out
        have H2 := Lib.hid (two_lit w3 u)
        have H3 := Lib.hid (fun W' h => B3.out.trans ((two_lit w3 u).2.2.trans (Below.mono (w := ((w3.alloc (.cells #[u] 20)).alloc (.cells #[u] 20)).drew) (w' := W') h (two_lit w3 u).2.2.size) |>.mono B3.out.size))
        have hna : ∀ cs, ¬ u = Value.agg cs := fun cs e => by rw [e] at hone; cases hone
        have hcl : u.cells = #[u] := cells_one hone
        clear HBD hone HUB HUC hbd
        go_region_with (first
          | (go_at_call 16; with_reducible refine (hcm.out _ _ _ H2.out.1 H2.out.2.1).mono ?_; rintro e w4 ⟨rfl, hb4⟩)
          | (go_at_call 16; with_reducible refine (hcm.out _ _ _ H2.out.2.1 H2.out.1).mono ?_; rintro e w4 ⟨rfl, hb4⟩))
        all_goals
          simp only [Exit.then]
          go_simp
        all_goals
          go_wp2_with fail
          go_meet
          case rel => exact ⟨rfl, rfl, Lib.hid (H3.out _ hb4)⟩
      case rest =>
        obtain ⟨rfl, rfl, B5⟩ := hcut
        go_wp2_with fail
        go_roundg k
        case measure => omega
        case rel => exact ⟨i + 1, by omega, by simp, B5⟩
    · have hiz : ¬ (i : Int) < 6 := by omega
      have B5 := Lib.hid (HB1.out.trans (hb.out.mono HB1.out.size))
      go_wp2_with (go_at_call 8; refine (haw.out _).mono ?_; rintro e w7 ⟨rfl, hb7⟩)
      go_ret
      exact ⟨rfl, B5.out.trans (hb7.mono B5.out.size)⟩
end Go.Proofs.YtnjbeemahfoaiaaDoor
