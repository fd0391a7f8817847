/-
  The walk of the statement KeysDecodes: true.
-/
import Derived.Test.YtnjbeemahfoaiaaDoorKeyContracts
namespace Go.Proofs.YtnjbeemahfoaiaaDoor
open Go.RowKit
set_option linter.unnecessarySimpa false
set_option linter.unusedVariables false
set_option linter.unusedSimpArgs false
set_option maxRecDepth 100000

theorem encL_len_ge (xs : List (KV × Bool)) : xs.length ≤ (encL xs).length := by
  induction xs with
  | nil => simp [encL]
  | cons x xs ih =>
    rw [encL_cons, List.length_append, List.length_cons]
    have : (encI x).length ≠ 0 := fun h => encI_ne x (List.length_eq_zero_iff.1 h)
    omega
theorem encI_len_le {xs : List (KV × Bool)} {x : KV × Bool} (h : x ∈ xs) : (encI x).length ≤ (encL xs).length := by
  induction xs with
  | nil => cases h
  | cons y xs ih =>
    rw [encL_cons, List.length_append]
    rcases List.mem_cons.1 h with rfl | h
    · omega
    · have := ih h; omega

set_option maxHeartbeats 2000000 in
theorem keysDecodes_of (hE : EncOK) (hD : DecOK) (b : ByteArray) (_ : b.size ≤ maxLen) (w : World) :
    Calls Tryd.prog 4 #[.string b] w fun e w' => e = .returned (.bool true) ∧ Below w.heap.size w w' := by
  have haw := Lib.hid (keysAwake_any hE)
  by_cases hlen : 200 < b.size
  · have hd : (200 : Int) < (b.size : Int) := by omega
    go_enter Tryd.func4, Tryd.ntmps4
    go_upto_region 2 with (go_at_call 8; refine (haw.out _).mono ?_; rintro e w1 ⟨rfl, hb1⟩)
    go_wp2_with (go_at_call 8; refine (haw.out _).mono ?_; rintro e w2 ⟨rfl, hb2⟩)
    go_ret
    exact ⟨rfl, hb1.trans (hb2.mono hb1.size)⟩
  · have hd : ¬ (200 : Int) < (b.size : Int) := by omega
    have hdec := Lib.hid (fun w => hD b w (by omega))
    have HE := Lib.hid hE
    have HL := Lib.hid (show b.size ≤ 200 by omega)
    clear hlen hE hD
    go_enter Tryd.func4, Tryd.ntmps4
    go_upto_region 4 with (first
      | (go_at_call 8; refine (haw.out _).mono ?_; rintro e w1 ⟨rfl, hb1⟩)
      | (go_at_call 12; refine (hdec.out _).mono ?_; rintro e w2 ⟨hb2, ⟨v, xs, hok, hbx, rfl, hat⟩ | ⟨hno, a, cap, rfl⟩⟩))
    · have hl := encL_len_ge xs
      have hsz : (encL xs).length ≤ 200 := by rw [← hbx, ← Lib.size_eq]; exact HL.out
      have henc := Lib.hid (HE.out v xs w2 hat ⟨fun x hx => ⟨hok x hx, Nat.le_trans (encI_len_le hx) (by omega)⟩, by omega⟩)
      have hbe : (⟨(encL xs).toArray⟩ : ByteArray) = b := by rw [← hbx]
      rw [hbe] at henc
      have B2 := Lib.hid (hb1.trans (hb2.mono hb1.size))
      clear hbx hok hbe hat hl hsz hb1 hb2 hd
      go_wp2_with (go_at_call 10; refine henc.out.mono ?_; rintro e w3 ⟨rfl, hb3⟩)
      go_ret
      exact ⟨rfl, B2.out.trans (hb3.mono B2.out.size)⟩
    · go_wp2_with fail
      go_ret
      exact ⟨rfl, hb1.trans (hb2.mono hb1.size)⟩
end Go.Proofs.YtnjbeemahfoaiaaDoor
