/-
  MvccBad where its guards refuse.
-/
import Derived.Test.YtdcefhhmddjodaaSet37
import Derived.Test.YtdcefhhmddjodaaSet11
import Derived.Test.YtdcefhhmddjodaaSet10
import Derived.Test.YtdcefhhmddjodaaSet26
namespace Go.Proofs.Ytdcefhhmddjodaa
open Go.RowKit
set_option linter.unusedVariables false
set_option linter.unnecessarySimpa false
set_option linter.unusedSimpArgs false
set_option maxRecDepth 100000

set_option maxHeartbeats 4000000 in
theorem bad_no (S : MvcD) (a : Option Addr) (len cap : Nat) (es : List En) (n : Int) (w : World) (hz : IsEnts w a len cap es)
    (h : ¬ (fewB es 10 = true ∧ rightE es = true)) :
    Calls Try.prog 5 #[.slice a len cap, .int .u16 n] w fun e w' => e = .returned (.bool true) ∧ Below w.heap.size w w' := by
  have haw := Lib.hid (mawake_any S.toMvcC)
  have HF1 := Lib.hid (fun W (hb : Below w.heap.size w W) => bfew_any a len cap 10 es W (hz.below hb) (by omega))
  have HG1 := Lib.hid (fun W (hb : Below w.heap.size w W) => bright_any a len cap es W (hz.below hb))
  rw [show ((10 : Nat) : Int) = 10 from rfl] at HF1
  obtain ⟨F1, hF1⟩ : ∃ F1, F1 = fewB es 10 := ⟨_, rfl⟩
  obtain ⟨G1, hG1⟩ : ∃ G1, G1 = rightE es := ⟨_, rfl⟩
  rw [← hF1] at HF1 h
  rw [← hG1] at HG1 h
  clear hz hF1 hG1
  have hcs : F1 = false ∨ (F1 = true ∧ G1 = false) := by
    cases F1 with
    | false => exact .inl rfl
    | true => exact .inr ⟨rfl, by simpa using h⟩
  clear h
  rcases hcs with rfl | ⟨rfl, rfl⟩
  all_goals
    go_enter Try.func5, Try.ntmps5
    go_upto_region 2 with (first
      | (go_at_call 7; refine (haw.out _).mono ?_; rintro e w1 ⟨rfl, hb1⟩; have HB1 := Lib.hid hb1; clear hb1)
      | (go_at_call 28; (with_reducible refine (HF1.out _ HB1.out).mono ?_); rintro e w2 ⟨rfl, rfl⟩)
      | (go_at_call 29; (with_reducible refine (HG1.out _ HB1.out).mono ?_); rintro e w3 ⟨rfl, hb3⟩; have HB3 := Lib.hid (HB1.out.trans (hb3.mono HB1.out.size)); clear hb3))
    go_wp2_with (go_at_call 7; refine (haw.out _).mono ?_; rintro e w9 ⟨rfl, hb9⟩; have HB9 := Lib.hid hb9; clear hb9)
    go_ret
    first
      | exact ⟨rfl, HB3.out.trans (HB9.out.mono HB3.out.size)⟩
      | exact ⟨rfl, HB1.out.trans (HB9.out.mono HB1.out.size)⟩
end Go.Proofs.Ytdcefhhmddjodaa
