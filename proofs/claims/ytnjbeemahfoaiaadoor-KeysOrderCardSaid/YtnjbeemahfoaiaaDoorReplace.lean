/-
  strings.ReplaceAll at 00 and 00 ff: each nought twice marked.
-/
import Derived.Test.YtnjbeemahfoaiaaDoorReplaceGen
import Derived.Test.YtnjbeemahfoaiaaDoorKeyMath
import Derived.Test.YtnjbeemahfoaiaaDoorShelf
namespace Go.Proofs.YtnjbeemahfoaiaaDoor
open Go.RowKit
set_option linter.unusedVariables false
set_option linter.unusedSimpArgs false
set_option maxRecDepth 100000

theorem esc_none : ∀ {l : List UInt8}, (∀ k : Nat, l[k]? ≠ some (0 : UInt8)) → esc l = l
  | [], _ => rfl
  | b :: l, h => by
    have hb : ¬ b = 0 := fun e => h 0 (by simp [e])
    rw [esc_cons, esc1_other hb, esc_none (l := l) fun k => by simpa using h (k + 1)]
    rfl
theorem replace_is_esc : ∀ (k : Nat) (l : List UInt8), Lib.count l [0] = k → Lib.replaceK [0] [0, 255] k l = esc l
  | 0, l, h => by
    have hi : Lib.index l [0] = -1 := by
      have hge := Lib.index_ge l [0]
      by_cases e : Lib.index l [0] = -1
      · exact e
      · have := Lib.count_hit (s := l) (sub := [0]) (i := (Lib.index l [0]).toNat) (by simp) (by omega)
        omega
    rw [Lib.index_one] at hi
    rw [Lib.replaceK, esc_none (Lib.indexByte_none hi)]
  | k + 1, l, h => by
    obtain ⟨i, hi⟩ := Lib.index_of_count (s := l) (old := [0]) (by omega)
    have hc := Lib.count_hit (s := l) (sub := [0]) (i := i) (by simp) hi
    rw [Lib.replaceK_hit _ _ k l i hi, replace_is_esc k _ (by have h1 : ([0] : List UInt8).length = 1 := rfl; rw [h1] at hc ⊢; omega)]
    rw [Lib.index_one] at hi
    obtain ⟨h0, hn⟩ := Lib.indexByte_some hi
    have hlt : i < l.length := (List.getElem?_eq_some_iff.1 h0).1
    have hb : l[i] = 0 := (List.getElem?_eq_some_iff.1 h0).2
    have e : l = l.take i ++ 0 :: l.drop (i + 1) := by
      rw [← hb]
      simp
    have ht : esc (l.take i) = l.take i := esc_none fun j hj => by
      by_cases hji : j < i
      · rw [List.getElem?_take_of_lt hji] at hj; exact hn j hji hj
      · rw [List.getElem?_eq_none (by simp; omega)] at hj; cases hj
    rw [show ([0] : List UInt8).length = 1 from rfl]
    rw [show esc l = esc (l.take i ++ 0 :: l.drop (i + 1)) by rw [← e], esc_append, ht, esc_cons, esc1_zero]
    simp

theorem replace_esc (s : ByteArray) (hs : s.size ≤ 40000000000000) (w : World) :
    Calls Tryd.prog 32 #[.string s, .string ⟨#[0]⟩, .string ⟨#[0, 255]⟩] w fun e w' => e = .returned (.string ⟨(esc s.data.toList).toArray⟩) ∧ Below w.heap.size w w' := by
  have hle := Lib.countB_le ⟨#[0]⟩ (by decide) s.size s (Nat.le_refl _)
  have h := replaceAll_one Tryd.lays155 Tryd.Builder_Extra_155 s ⟨#[0]⟩ ⟨#[0, 255]⟩ 0 rfl (by decide) w (by
    show s.size + Lib.countB s ⟨#[0]⟩ * 2 ≤ _
    omega)
  refine h.mono fun e w' ⟨h1, h2⟩ => ⟨?_, h2⟩
  rw [h1]
  have e1 : Lib.replaceK ([0] : List UInt8) [0, 255] (Lib.countB s ⟨#[0]⟩) s.data.toList = esc s.data.toList := replace_is_esc _ _ rfl
  exact congrArg (fun l : List UInt8 => Ending.returned (Value.string ⟨l.toArray⟩)) e1
end Go.Proofs.YtnjbeemahfoaiaaDoor
