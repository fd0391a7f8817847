/-
  MvccPlays where its guards refuse.
-/
import Derived.Test.YtdcefhhmddjodaaMvcAsk
namespace Go.Proofs.Ytdcefhhmddjodaa
open Go.RowKit
set_option linter.unusedVariables false
set_option linter.unnecessarySimpa false
set_option linter.unusedSimpArgs false
set_option maxRecDepth 100000

set_option maxHeartbeats 4000000 in
theorem plays_no (S : MvcC) (a : Option Addr) (len cap : Nat) (L : List Im) (aq : Option Addr) (lenq capq : Nat) (w : World) (hz : IsItms w a len cap L) (hq : lenq ≤ maxLen)
    (h : ¬ (fewM L 60 = true ∧ lenq ≤ 10)) :
    Calls Try.prog 3 #[.slice a len cap, .slice aq lenq capq] w fun e w' => e = .returned (.bool true) ∧ Below w.heap.size w w' := by
  have haw := Lib.hid (mawake_any S)
  have HF1 := Lib.hid (fun W (hb : Below w.heap.size w W) => mfew_any a len cap 60 L W (hz.below hb) (by omega))
  rw [show ((60 : Nat) : Int) = 60 from rfl] at HF1
  obtain ⟨F1, hF1⟩ : ∃ F1, F1 = fewM L 60 := ⟨_, rfl⟩
  rw [← hF1] at HF1 h
  clear hz hF1
  have hcs : F1 = false ∨ (F1 = true ∧ (10 : Int) < (lenq : Int) ∧ decide (10 < lenq) = true) := by
    cases F1 with
    | false => exact .inl rfl
    | true => exact .inr ⟨rfl, by simp at h; omega, by simp at h; simpa using h⟩
  clear h
  rcases hcs with rfl | ⟨rfl, c1, c2⟩
  all_goals
    go_enter Try.func3, Try.ntmps3
    go_upto_region 2 with (first
      | (go_at_call 7; refine (haw.out _).mono ?_; rintro e w1 ⟨rfl, hb1⟩; have HP1 := Lib.hid hb1; clear hb1)
      | (go_at_call 8; (with_reducible refine (HF1.out _ HP1.out).mono ?_); rintro e w2 ⟨rfl, rfl⟩))
    go_wp2_with (go_at_call 7; refine (haw.out _).mono ?_; rintro e w9 ⟨rfl, hb9⟩; have HB9 := Lib.hid hb9; clear hb9)
    go_ret
    exact ⟨rfl, HP1.out.trans (HB9.out.mono HP1.out.size)⟩
end Go.Proofs.Ytdcefhhmddjodaa
