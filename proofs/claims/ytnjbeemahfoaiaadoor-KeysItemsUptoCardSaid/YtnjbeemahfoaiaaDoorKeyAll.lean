/-
  The walk of the statements' 'all': Go's values of items, in memory of its own.
-/
import Derived.Test.YtnjbeemahfoaiaaDoorKeyItems
import Derived.Test.YtnjbeemahfoaiaaDoorBuildOne
import Derived.Deep.DeepCutAuto
import Derived.Deep.CutBlock
namespace Go.Proofs.YtnjbeemahfoaiaaDoor
open Go.RowKit
set_option linter.unnecessarySimpa false
set_option linter.unusedVariables false
set_option linter.unusedSimpArgs false
set_option maxRecDepth 100000

theorem anyinfo2 : (Tryd.prog.info? 20).map (fun i => (i.zero, i.size)) = some (some .nilIface, 1) := by kernel_rfl
theorem anyinfo : (Tryd.prog.info? 20).map (fun i => (i.zero, i.size, i.bytes)) = some (some .nilIface, 1, 16) := by kernel_rfl

/-- Go's values of items. -/
def anys (zs : List It) : List Value := zs.map fun z => anyI z.item
theorem anyI_one (x : KV × Bool) : (anyI x).oneCell' = true := by
  obtain ⟨v, d⟩ := x
  cases d <;> cases v <;> rfl
theorem anys_succ {zs : List It} {i : Nat} (hi : i < zs.length) : anys (zs.take i) ++ [anyI (zs.getD i it0).item] = anys (zs.take (i + 1)) := by
  have e : zs.getD i it0 = zs[i] := by simp [List.getD, hi]
  rw [e]
  unfold anys
  rw [List.take_add_one, List.getElem?_eq_getElem hi, List.map_append]
  rfl

set_option maxHeartbeats 2000000 in
theorem all_any (a : Option Addr) (len cap : Nat) (zs : List It) (hl : len ≤ 1000) (w : World) (hz : ItemsAt w a len zs) :
    Calls Tryd.prog 11 #[.slice a len cap] w fun e w' => ∃ v, e = .returned v ∧ w'.ownsRow w.heap.size 20 1 v len (anys zs) ∧ Below w.heap.size w w' := by
  obtain ⟨ia, hia, ha0, ha1, ha2⟩ := info_parts anyinfo
  have HZ := Lib.hid hz
  clear hz
  go_enter Tryd.func11, Tryd.ntmps11
  go_wp2_with fail
  go_loopg [3, 4] len (fun g s3 s4 wx => ∃ i : Nat, i + g = len ∧ s4 = .int .i64 i ∧ wx.ownsRow w.heap.size 20 1 s3 i (anys (zs.take i)) ∧ Below w.heap.size w wx)
  case atStart => exact ⟨0, by omega, rfl, World.ownsRow_nil _ _ _ _, Below.refl _ _⟩
  case round =>
    obtain ⟨i, hig, rfl, hown, hb⟩ := hrel
    have HL := Lib.hid HZ.out.1
    by_cases hlt : i < len
    · obtain ⟨g, rfl⟩ : ∃ g, gk = g + 1 := ⟨gk - 1, by omega⟩
      have hiz : (i : Int) < (len : Int) := by omega
      obtain ⟨b, off, rfl, hbl, hok, c0, c1, c2, c3, c4⟩ := (HZ.out.below hb).2 i hlt
      have hsucc := Lib.hid (anys_succ (zs := zs) (i := i) (by have := HL.out; omega))
      obtain ⟨z, ez⟩ : ∃ z, z = zs.getD i it0 := ⟨_, rfl⟩
      rw [← ez] at hok c0 c1 c2 c3 c4 hsucc
      have hval := Lib.hid (fun w => value_any z w hok.1)
      obtain ⟨v, hv⟩ : ∃ v, v = anyI z.item := ⟨_, rfl⟩
      have hv1 : v.oneCell' = true := by rw [hv]; exact anyI_one _
      rw [← hv] at hval hsucc
      have HO := Lib.hid hown
      have HB := Lib.hid hb
      have hone := Lib.hid (show ∀ u ∈ [v], u.oneCell' = true by simp [hv1])
      have hmx := Lib.hid (show len ≤ 1000 → i + 1 ≤ maxLen by unfold maxLen; omega)
      have hby := Lib.hid (show len ≤ 1000 → (i + 1) * 16 ≤ 140737488355328 by omega)
      have hbs := Lib.hid (show ∀ (w1 : World), Below wr.heap.size wr w1 → w.heap.size ≤ (w1.alloc (.cells #[v] 20)).heap.size from fun w1 h => by have := h.size; have := HB.out.size; simp; omega)
      clear ez hok hown hb hv
      go_wp2_with (first
        | (go_at_call 14; refine (hval.out _).mono ?_; rintro e w1 ⟨rfl, hb1⟩)
        | (refine wpList_plain rfl fun K hK => wp_buildSlice_one 28 20 _ rfl .nilIface v rfl Tryd.underlying28 anyinfo2 rfl hv1 ?_; go_simp)
        | (at_builtin; refine wpList_append_own _ rfl _ _ 28 rfl w.heap.size 20 ia .nilIface 1 16 Tryd.underlying28 hia ha0 ha1 ha2 rfl (by decide) _ _ _ rfl ((own_below HO.out hb1).alloc _) ⟨w1.heap.size, 0, none⟩ 1 1 [v] rfl rfl (cell_one_new w1 v 20) hone.out (hmx.out hl) (hby.out hl) (hbs.out w1 hb1) ?_))
      intro v' w2 hown2 hg2 _
      have HO2 := Lib.hid hown2
      have HB2 := Lib.hid (show Below w.heap.size w w2 from ((HB.out.trans (hb1.mono HB.out.size)).alloc (Nat.le_trans HB.out.size hb1.size) (.cells #[v] 20)).grown hg2 (by have := HB.out.size; have := hb1.size; simp; omega) (fun k hk => ((own_below HO.out hb1).lt k hk).1))
      clear hown2 hg2 hb1
      go_wp2_with fail
      go_roundg g
      case measure => omega
      case rel => exact ⟨i + 1, by omega, by simp, by rw [← hsucc.out]; exact HO2.out, HB2.out⟩
    · obtain rfl : i = len := by omega
      have hiz : ¬ (i : Int) < (i : Int) := by omega
      have htk := Lib.hid (show zs.take i = zs from List.take_of_length_le (by have := HL.out; omega))
      have HO := Lib.hid hown
      have HB := Lib.hid hb
      clear hown hb
      go_wp2_with fail
      go_ret
      exact ⟨_, rfl, by rw [← htk.out]; exact HO.out, HB.out⟩
end Go.Proofs.YtnjbeemahfoaiaaDoor
