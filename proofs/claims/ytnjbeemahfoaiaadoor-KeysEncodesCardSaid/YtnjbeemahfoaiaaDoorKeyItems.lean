/-
  Items in memory; the walks of the document's Few and of the statements' 'all'.
-/
import Derived.Test.YtnjbeemahfoaiaaDoorKeyValue
import Derived.Deep.LoopGhost
namespace Go.Proofs.YtnjbeemahfoaiaaDoor
open Go.RowKit
set_option linter.unnecessarySimpa false
set_option linter.unusedSimpArgs false
set_option maxRecDepth 100000
set_option linter.unusedVariables false

def it0 : It := ⟨0, 0, 0, ByteArray.empty, false⟩
/-- Item z lies at an address: five cells. -/
def ItemAt (W : World) (b o : Nat) (z : It) : Prop :=
  W.cell? ⟨b, o, none⟩ = some (.int .u8 z.kind) ∧ W.cell? ⟨b, o + 1, none⟩ = some (.int .i64 z.int) ∧ W.cell? ⟨b, o + 2, none⟩ = some (.int .u64 z.uint) ∧
    W.cell? ⟨b, o + 3, none⟩ = some (.string z.text) ∧ W.cell? ⟨b, o + 4, none⟩ = some (.bool z.down)
def ItemsAt (W : World) (a : Option Addr) (len : Nat) (zs : List It) : Prop :=
  zs.length = len ∧ ∀ i, i < len → ∃ b off, a = some ⟨b, off, none⟩ ∧ b < W.heap.size ∧ (zs.getD i it0).ok ∧ ItemAt W b (off + i * 5) (zs.getD i it0)
theorem ItemsAt.below {W W' : World} {a : Option Addr} {len : Nat} {zs : List It} (h : ItemsAt W a len zs) (hb : Below W.heap.size W W') : ItemsAt W' a len zs :=
  ⟨h.1, fun i hi => by
    obtain ⟨b, off, ha, hlt, hok, h0, h1, h2, h3, h4⟩ := h.2 i hi
    exact ⟨b, off, ha, Nat.lt_of_lt_of_le hlt hb.size, hok, (hb.cell hlt).trans h0, (hb.cell hlt).trans h1, (hb.cell hlt).trans h2, (hb.cell hlt).trans h3, (hb.cell hlt).trans h4⟩⟩

def fewB (zs : List It) : Bool := decide (zs.length ≤ 12) && zs.all fun z => decide (z.text.size ≤ 100)
theorem fewB_bad {zs : List It} {i : Nat} (hi : i < zs.length) (h : 100 < (zs.getD i it0).text.size) : fewB zs = false := by
  unfold fewB
  rw [Bool.and_eq_false_iff]
  right
  rw [List.all_eq_false]
  refine ⟨zs[i], List.getElem_mem hi, ?_⟩
  have : zs.getD i it0 = zs[i] := by simp [List.getD, hi]
  rw [this] at h
  simp; exact h
theorem fewB_all {zs : List It} (h : ∀ j, j < zs.length → (zs.getD j it0).text.size ≤ 100) : fewB zs = decide (zs.length ≤ 12) := by
  unfold fewB
  have : (zs.all fun z => decide (z.text.size ≤ 100)) = true := by
    rw [List.all_eq_true]
    intro z hz
    obtain ⟨j, hj, rfl⟩ := List.getElem_of_mem hz
    have := h j hj
    rw [show zs.getD j it0 = zs[j] by simp [List.getD, hj]] at this
    simpa using this
  rw [this, Bool.and_true]

set_option maxHeartbeats 2000000 in
theorem few_any (a : Option Addr) (len cap : Nat) (zs : List It) (hl : len ≤ maxLen) (w : World) (hz : ItemsAt w a len zs) :
    Calls Tryd.prog 9 #[.slice a len cap] w fun e w' => e = .returned (.bool (fewB zs)) ∧ w' = w := by
  have HZ := Lib.hid hz
  clear hz
  go_enter Tryd.func9, Tryd.ntmps9
  go_wp2_with fail
  go_loopg [3] len (fun g s3 wx => ∃ i : Nat, i + g = len ∧ i ≤ 50 ∧ s3 = .int .i64 i ∧ wx = w ∧ Hid (∀ j, j < i → (zs.getD j it0).text.size ≤ 100))
  case atStart => exact ⟨0, by omega, by omega, rfl, rfl, Lib.hid (fun j hj => absurd hj (Nat.not_lt_zero _))⟩
  case round =>
    obtain ⟨i, hig, hi50, rfl, rfl, hal⟩ := hrel
    have HL := Lib.hid HZ.out.1
    by_cases hlt : i < len
    · have hiz : (i : Int) < (len : Int) := by omega
      by_cases h50 : i < 50
      · have h50z : (i : Int) < 50 := by omega
        obtain ⟨b, off, rfl, hbl, hok, c0, c1, c2, c3, c4⟩ := HZ.out.2 i hlt
        have HC := Lib.hid hok
        clear hok c0 c1 c2 c4 hi50
        by_cases hbig : 100 < (zs.getD i it0).text.size
        · have hbz : (100 : Int) < ((zs.getD i it0).text.size : Int) := by omega
          have hres := Lib.hid (fewB_bad (by rw [HL.out]; exact hlt) hbig)
          obtain ⟨tx, htx⟩ : ∃ tx, tx = (zs.getD i it0).text := ⟨_, rfl⟩
          rw [← htx] at hbz c3
          clear hbig htx HC
          go_wp2_with fail
          go_ret
          exact ⟨by rw [hres.out]; rfl, rfl⟩
        · obtain ⟨g, rfl⟩ : ∃ g, gk = g + 1 := ⟨gk - 1, by omega⟩
          have hbz : ¬ (100 : Int) < ((zs.getD i it0).text.size : Int) := by omega
          obtain ⟨tx, htx⟩ : ∃ tx, tx = (zs.getD i it0).text := ⟨_, rfl⟩
          have HT := Lib.hid (show (zs.getD i it0).text.size ≤ 100 by omega)
          rw [← htx] at hbz c3
          clear hbig htx HC
          go_wp2_with fail
          go_roundg g
          case measure => omega
          case rel => exact ⟨i + 1, by omega, by omega, by simp, rfl, Lib.hid (fun j hj => by
            by_cases e : j = i
            · subst e; exact HT.out
            · exact hal.out j (by omega))⟩
      · have h50z : ¬ (i : Int) < 50 := by omega
        have hres := Lib.hid (show fewB zs = false by unfold fewB; rw [decide_eq_false (by have := HL.out; omega), Bool.false_and])
        go_wp2_with fail
        go_ret
        exact ⟨by rw [hres.out]; exact congrArg (fun b => Ending.returned (.bool b)) (decide_eq_false (by omega)), rfl⟩
    · have hiz : ¬ (i : Int) < (len : Int) := by omega
      go_wp2_with fail
      have hres := Lib.hid (fewB_all (zs := zs) (fun j hj => hal.out j (by have := HL.out; omega)))
      go_ret
      exact ⟨by rw [hres.out, HL.out]; exact congrArg (fun b => Ending.returned (.bool b)) (decide_eq_decide.2 (by omega)), rfl⟩
end Go.Proofs.YtnjbeemahfoaiaaDoor
