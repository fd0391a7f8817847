/-
  The program's net in memory: its box (a table, a row of what is on its way), and what becomes of it.
-/
import Derived.Test.YtbhlgceicfjncaaSet11
import Derived.Test.YtbhlgceicfjncaaSet12
import Derived.Test.YtbhlgceicfjncaaSet13
namespace Go.Proofs.Ytbhlgceicfjncaa
open Go.RowKit
set_option linter.unusedVariables false
set_option linter.unnecessarySimpa false
set_option linter.unusedSimpArgs false
set_option maxRecDepth 100000

/-- A net's cells. -/
def nRow (v : Value) : Array Value := tab ++ #[v]
theorem nRow_size (v : Value) : (nRow v).size = 257 := by unfold nRow; rw [Array.size_append, tab_size]; rfl
theorem nRow_tab (v : Value) {j : Nat} (h : j < 256) : (nRow v)[j]? = tab[j]? := by
  unfold nRow; rw [Array.getElem?_append_left (by rw [tab_size]; exact h)]
theorem nRow_v (v : Value) : (nRow v)[256]? = some v := by
  unfold nRow; rw [Array.getElem?_append_right (by rw [tab_size]; omega), tab_size]; rfl
theorem nRow_set (v v' : Value) : (nRow v).setIfInBounds 256 v' = nRow v' := by
  unfold nRow; rw [Array.setIfInBounds_append_right (by rw [tab_size]; omega), tab_size]; rfl
/-- A frame on its way, as its cells. -/
def Wj.oc (x : Wj) : List Value := [.int .i64 x.m.to_, .int .i64 x.v, .string x.b, .bool x.on, .int .i64 (x.k : Int)]
def ocs : List Wj → List Value
  | [] => []
  | x :: J => x.oc ++ ocs J
theorem ocs_len : ∀ J : List Wj, (ocs J).length = J.length * 5
  | [] => rfl
  | x :: J => by rw [ocs, List.length_append, ocs_len J, List.length_cons]; simp only [Wj.oc, List.length_cons, List.length_nil]; omega
theorem ocs_app : ∀ J K : List Wj, ocs (J ++ K) = ocs J ++ ocs K
  | [], _ => rfl
  | x :: J, K => by rw [List.cons_append, ocs, ocs, ocs_app J K, List.append_assoc]
theorem ocs_at : ∀ (J : List Wj) (i j : Nat), i < J.length → j < 5 → (ocs J)[i * 5 + j]? = ((J.getD i wj0).oc)[j]?
  | [], i, j, hi, _ => by simp at hi
  | x :: J, 0, j, _, hj => by
    rw [ocs, List.getElem?_append_left (by simp only [Wj.oc, List.length_cons, List.length_nil]; omega)]
    simp
  | x :: J, i + 1, j, hi, hj => by
    rw [ocs, List.getElem?_append_right (by simp only [Wj.oc, List.length_cons, List.length_nil]; omega)]
    have := ocs_at J i j (by simpa using hi) hj
    rw [show (i + 1) * 5 + j - x.oc.length = i * 5 + j by simp only [Wj.oc, List.length_cons, List.length_nil]; omega, this]
    simp
theorem Wj.oc_one (x : Wj) : ∀ u ∈ x.oc, u.oneCell' = true := by
  intro u h
  simp only [Wj.oc, List.mem_cons, List.not_mem_nil, or_false] at h
  rcases h with rfl | rfl | rfl | rfl | rfl <;> rfl
theorem ocs_one : ∀ (J : List Wj) (u : Value), u ∈ ocs J → u.oneCell' = true
  | [], u, h => by simp [ocs] at h
  | x :: J, u, h => by
    rw [ocs, List.mem_append] at h
    rcases h with h | h
    · exact x.oc_one u h
    · exact ocs_one J u h
theorem ocs_take (J : List Wj) (i : Nat) : ocs (J.take i) = (ocs J).take (i * 5) := by
  rcases Nat.lt_or_ge i J.length with h | h
  · have e : ocs J = ocs (J.take i) ++ ocs (J.drop i) := by rw [← ocs_app, List.take_append_drop]
    have hl : (ocs (J.take i)).length = i * 5 := by rw [ocs_len, List.length_take]; omega
    rw [e, ← hl, List.take_left]
  · rw [List.take_of_length_le h, List.take_of_length_le (by rw [ocs_len]; omega)]
theorem ocs_drop (J : List Wj) (i : Nat) : ocs (J.drop i) = (ocs J).drop (i * 5) := by
  rcases Nat.lt_or_ge i J.length with h | h
  · have e : ocs J = ocs (J.take i) ++ ocs (J.drop i) := by rw [← ocs_app, List.take_append_drop]
    have hl : (ocs (J.take i)).length = i * 5 := by rw [ocs_len, List.length_take]; omega
    rw [e, ← hl, List.drop_left]
  · rw [List.drop_eq_nil_of_le h, List.drop_eq_nil_of_le (by rw [ocs_len]; omega)]; rfl

/-- A net in memory: its box at g, the word of its row. -/
def NetV (w : World) (g : Nat) (v : Value) (J : List Wj) : Prop := w.heap[g]? = some (.cells (nRow v) 61 (0, 0)) ∧ w.ownsRow 0 70 5 v J.length (ocs J)
def netO (g : Nat) (v : Value) : Nat → Prop := fun k => k = g ∨ v.ownBlock = some k
section
variable {w w' : World} {g : Nat} {v v' : Value} {J J' : List Wj}
theorem NetV.lt (h : NetV w g v J) : g < w.heap.size := (Array.getElem?_eq_some_iff.1 h.1).1
theorem NetV.c (h : NetV w g v J) : w.cell? ⟨g, 256, none⟩ = some v := by rw [cell_of_row _ _ _ _ _ _ h.1, nRow_v]
theorem NetV.fz (h : NetV w g v J) (j : Nat) : w.frozen? ⟨g, j, none⟩ = false := frozen_of_row w g j _ _ h.1
theorem NetV.table (h : NetV w g v J) : w.rangeAt g 0 tab.toList := fun j u hv => by
  have hj : j < 256 := by rw [← tab_size]; have := (List.getElem?_eq_some_iff.1 hv).1; simpa using this
  rw [cell_of_row _ _ _ _ _ _ h.1, Nat.zero_add, nRow_tab _ hj]
  simpa using hv
theorem NetV.slice (h : NetV w g v J) : ∃ a c, v = .slice a J.length c ∧ J.length ≤ c ∧ c ≤ maxLen := by
  rcases h.2.2 with ⟨rfl, h0⟩ | ⟨k, c, cur, rfl, _, _, h1, h2, _⟩
  · exact ⟨none, 0, by rw [h0], by omega, by decide⟩
  · exact ⟨_, c, rfl, h1, h2⟩
theorem NetV.olt (h : NetV w g v J) : ∀ k, netO g v k → k < w.heap.size := fun k hk => by
  rcases hk with rfl | hk
  · exact h.lt
  · rcases h.2.2 with ⟨rfl, _⟩ | ⟨g', c, cur, rfl, _, h2, _⟩
    · simp [Value.ownBlock] at hk
    · simp only [Value.ownBlock, Option.some.injEq] at hk
      subst hk
      exact (Array.getElem?_eq_some_iff.1 h2).1
/-- The box is no row of frames. -/
theorem NetV.ne (h : NetV w g v J) : v.ownBlock ≠ some g := fun hk => by
  rcases h.2.2 with ⟨rfl, _⟩ | ⟨g', c, cur, rfl, _, h2, _⟩
  · simp [Value.ownBlock] at hk
  · simp only [Value.ownBlock, Option.some.injEq] at hk
    subst hk
    have h1 := h.1
    rw [h2] at h1
    simp only [Option.some.injEq, Obj.cells.injEq] at h1
    exact absurd h1.2.1 (by decide)
theorem NetV.stay (h : NetV w g v J) (hs : ∀ k, netO g v k → w'.heap[k]? = w.heap[k]?) : NetV w' g v J := by
  refine ⟨(hs g (.inl rfl)).trans h.1, h.2.1, ?_⟩
  rcases h.2.2 with h2 | ⟨k, c, cur, rfl, h3, h4, h5⟩
  · exact .inl h2
  · exact .inr ⟨k, c, cur, rfl, h3, (hs k (.inr rfl)).trans h4, h5⟩
theorem NetV.below (h : NetV w g v J) (hb : Below w.heap.size w w') : NetV w' g v J := h.stay fun k hk => hb.block k (h.olt k hk)
/-- The cells of a frame on its way. -/
theorem NetV.at_ (h : NetV w g v J) {i : Nat} (hi : i < J.length) : ∃ k c, v = .slice (some ⟨k, 0, none⟩) J.length c ∧ ∀ j, j < 5 → w.cell? ⟨k, i * 5 + j, none⟩ = ((J.getD i wj0).oc)[j]? := by
  rcases h.2.2 with ⟨rfl, h0⟩ | ⟨k, c, cur, rfl, _, h2, h3, h4, h5, h6⟩
  · omega
  · refine ⟨k, c, rfl, fun j hj => ?_⟩
    rw [cell_of_row _ _ _ _ _ _ h2, ← ocs_at J i j hi hj, ← h6, List.getElem?_take, if_pos (by omega), Array.getElem?_toList]
theorem NetV.atlt (h : NetV w g v J) {k n c : Nat} (e : v = .slice (some ⟨k, 0, none⟩) n c) : k < w.heap.size := h.olt k (.inr (by rw [e]; rfl))
end
end Go.Proofs.Ytbhlgceicfjncaa
