/-
  What is asked of the program's Encode, Decode and Compare, as the statements' walks take it; the walk of 'awake'.
-/
import Derived.Test.YtnjbeemahfoaiaaDoorKeyOrder
import Derived.Test.YtnjbeemahfoaiaaDoorKeyAll
import Derived.Test.YtnjbeemahfoaiaaDoorKeyEncode
import Derived.Test.YtnjbeemahfoaiaaDoorClass
namespace Go.Proofs.YtnjbeemahfoaiaaDoor
open Go.RowKit
set_option linter.unnecessarySimpa false
set_option linter.unusedVariables false
set_option linter.unusedSimpArgs false
set_option maxRecDepth 100000

/-- A slice of interface values lies in memory. -/
def AnysAt (W : World) (v : Value) (us : List Value) : Prop :=
  ∃ a len cap, v = .slice a len cap ∧ len = us.length ∧ ∀ i, i < len → ∃ b off, a = some ⟨b, off, none⟩ ∧ b < W.heap.size ∧ W.cell? ⟨b, off + i, none⟩ = some (us.getD i .nilIface)
theorem AnysAt.below {W W' : World} {v : Value} {us : List Value} (h : AnysAt W v us) (hb : Below W.heap.size W W') : AnysAt W' v us := by
  obtain ⟨a, len, cap, hv, hl, hc⟩ := h
  exact ⟨a, len, cap, hv, hl, fun i hi => by
    obtain ⟨b, off, ha, hlt, h1⟩ := hc i hi
    exact ⟨b, off, ha, Nat.lt_of_lt_of_le hlt hb.size, (hb.cell hlt).trans h1⟩⟩
theorem anys_own {W : World} {base n : Nat} {v : Value} {us : List Value} (h : W.ownsRow base 20 1 v n us) : AnysAt W v us := by
  have hl : us.length = n := by have := h.1; omega
  by_cases h0 : n = 0
  · rcases h.2 with ⟨rfl, _⟩ | ⟨g, cap, cur, rfl, _⟩
    · exact ⟨none, 0, 0, rfl, by omega, fun i hi => by omega⟩
    · exact ⟨_, _, _, rfl, by omega, fun i hi => by omega⟩
  · obtain ⟨g, cap, rfl, _, hg⟩ := own_slice h (by omega)
    refine ⟨_, _, _, rfl, by omega, fun i hi => ⟨g, 0, rfl, hg, ?_⟩⟩
    have := h.cellAt i (by omega)
    rw [Nat.zero_add, this]
    simp [List.getD, List.getElem?_eq_getElem (show i < us.length by omega)]
/-- A literal slice of one, of two. -/
theorem anys_lit1 (w : World) (u : Value) : AnysAt (w.alloc (.cells #[u] 20)) (.slice (some ⟨w.heap.size, 0, none⟩) 1 1) [u] :=
  ⟨_, _, _, rfl, rfl, fun i hi => ⟨_, _, rfl, by simp, by
    obtain rfl : i = 0 := by omega
    rw [World.cell?_alloc_at _ _ _ _ (by simp)]; rfl⟩⟩
theorem anys_lit2 (w : World) (u v : Value) : AnysAt (w.alloc (.cells #[u, v] 20)) (.slice (some ⟨w.heap.size, 0, none⟩) 2 2) [u, v] :=
  ⟨_, _, _, rfl, rfl, fun i hi => ⟨_, _, rfl, by simp, by
    have : i = 0 ∨ i = 1 := by omega
    rcases this with rfl | rfl <;> (rw [World.cell?_alloc_at _ _ _ _ (by simp)]; rfl)⟩⟩

def sane (xs : List (KV × Bool)) : Prop := (∀ x ∈ xs, x.1.ok ∧ (encI x).length ≤ 5000) ∧ xs.length ≤ 300

def EncOK : Prop := ∀ (v : Value) (xs : List (KV × Bool)) (w : World), AnysAt w v (xs.map anyI) → sane xs →
  Calls Tryd.prog 10 #[v] w fun e w' => e = .returned (.tuple #[.string ⟨(encL xs).toArray⟩, .int .i64 0]) ∧ Below w.heap.size w w'
def CmpOK : Prop := ∀ (v v' : Value) (xs ys : List (KV × Bool)) (w : World), AnysAt w v (xs.map anyI) → AnysAt w v' (ys.map anyI) → sane xs → sane ys →
  Calls Tryd.prog 16 #[v, v'] w fun e w' => e = .returned (.tuple #[.int .i64 (cmpL xs ys), .int .i64 0]) ∧ Below w.heap.size w w'
def DecOK : Prop := ∀ (b : ByteArray) (w : World), b.size ≤ 60000 →
  Calls Tryd.prog 12 #[.string b] w fun e w' => Below w.heap.size w w' ∧
    ((∃ v xs, (∀ x ∈ xs, x.1.ok) ∧ b.data.toList = encL xs ∧ e = .returned (.tuple #[v, .int .i64 0]) ∧ AnysAt w' v (xs.map anyI)) ∨
     ((∀ xs, (∀ x ∈ xs, x.1.ok) → b.data.toList ≠ encL xs) ∧ ∃ a cap, e = .returned (.tuple #[.slice a 0 cap, .int .i64 2])))

theorem sane_nil : sane [] := ⟨fun x hx => (by cases hx), by decide⟩
theorem items_sane {zs : List It} (hok : ∀ i, i < zs.length → (zs.getD i it0).ok) (hf : fewB zs = true) : sane (items zs) := by
  unfold fewB at hf
  rw [Bool.and_eq_true] at hf
  have h1 := of_decide_eq_true hf.1
  have h2 := List.all_eq_true.1 hf.2
  refine ⟨fun x hx => ?_, by unfold items; rw [List.length_map]; omega⟩
  obtain ⟨z, hz, rfl⟩ := List.mem_map.1 hx
  obtain ⟨j, hj, rfl⟩ := List.getElem_of_mem hz
  have hj2 := hok j hj
  rw [show zs.getD j it0 = zs[j] by simp [List.getD, hj]] at hj2
  have h3 := of_decide_eq_true (h2 _ (List.getElem_mem hj))
  exact ⟨It.item_ok hj2, Nat.le_trans (encI_len _ (by omega)) (by decide)⟩
theorem anys_items (zs : List It) : anys zs = (items zs).map anyI := by simp [anys, items]

set_option maxHeartbeats 1000000 in
theorem keysAwake_any (hE : EncOK) (w : World) : Calls Tryd.prog 8 #[] w fun e w' => e = .returned (.bool true) ∧ Below w.heap.size w w' := by
  have hs : sane [(.bool true, false), (.text ⟨#[97]⟩, false)] := ⟨fun x hx => by
    have : x = (.bool true, false) ∨ x = (.text ⟨#[97]⟩, false) := by simpa using hx
    rcases this with rfl | rfl <;> exact ⟨trivial, by decide⟩, by decide⟩
  have hc := Lib.hid (fun W v h => hE v [(.bool true, false), (.text ⟨#[97]⟩, false)] W h hs)
  have he := Lib.hid (show encL [(.bool true, false), (.text ⟨#[97]⟩, false)] = [33, 80, 97, 0, 0] by decide)
  rw [he.out] at hc
  go_enter Tryd.func8, Tryd.ntmps8
  go_wp2_with (go_at_call 10; refine (hc.out _ _ (anys_lit2 _ _ _)).mono ?_; rintro e w1 ⟨rfl, hb1⟩)
  go_ret
  exact ⟨rfl, ((Below.refl _ _).alloc (Nat.le_refl _) _).trans (hb1.mono (by simp))⟩
end Go.Proofs.YtnjbeemahfoaiaaDoor
