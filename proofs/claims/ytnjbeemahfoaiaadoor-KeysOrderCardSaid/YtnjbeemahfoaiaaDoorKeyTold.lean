/-
  The walks of the program's tell and isNone, of items and of what is none.
-/
import Derived.Test.YtnjbeemahfoaiaaDoorKeyTell
namespace Go.Proofs.YtnjbeemahfoaiaaDoor
open Go.RowKit
set_option linter.unusedVariables false
set_option linter.unusedSimpArgs false
set_option linter.unnecessarySimpa false
set_option maxRecDepth 100000

theorem anyV_form (v : KV) : anyV v = .nilIface ∨ ∃ t x, anyV v = .iface t x := by
  cases v
  · exact .inl rfl
  all_goals exact .inr ⟨_, _, rfl⟩

theorem tell_any (x : KV × Bool) (hx : x.1.ok) (w : World) :
    Calls Tryd.prog 17 #[anyI x] w fun e w' => e = .returned (.tuple #[.agg (told x), .bool true]) ∧ Below w.heap.size w w' := by
  obtain ⟨v, d⟩ := x
  have ht : Tells (anyV v) (tFirst v) (tNum v) (tText v) true := fun w => tellPlain_any v hx w
  cases d
  · refine tell_plain (anyV v) _ _ _ _ ht (fun w => ?_) w
    cases v
    · exact as_nil_down w
    · exact as_bool_down _ w
    · exact as_i64_down _ w
    · exact as_u64_down _ w
    · exact as_str_down _ w
  · rcases anyV_form v with h | ⟨t, y, h⟩
    · have := tell_down0 _ _ _ _ (h ▸ ht) w
      rw [← h] at this
      exact this
    · have := tell_down1 t y _ _ _ _ (h ▸ ht) w
      rw [← h] at this
      exact this

/-- What is told of what is no item. -/
def badDown : Value → Bool
  | .iface t _ => t == 44
  | _ => false
theorem tell_bad {u : Value} (h : Bad u) (w : World) :
    Calls Tryd.prog 17 #[u] w fun e w' => e = .returned (.tuple #[.agg (noTold (badDown u)), .bool false]) ∧ Below w.heap.size w w' := by
  cases h with
  | num n => exact tell_plain _ 0 0 ByteArray.empty false (plain_bad1 n) (as_int_down _) w
  | bytes a l c => exact tell_plain _ 0 0 ByteArray.empty false (plain_bad2 a l c) (as_bts_down _) w
  | twice x => exact tell_down1 _ _ 0 0 ByteArray.empty false (plain_bad3 x) w
  | down n => exact tell_down1 _ _ 0 0 ByteArray.empty false (plain_bad1 n) w
  | small n => exact tell_plain _ 0 0 ByteArray.empty false (plain_bad4 n) (as_i32_down _) w
  | ptr a => exact tell_plain _ 0 0 ByteArray.empty false (plain_bad5 a) (as_ptr_down _) w

/-- 'isNone', where something is told. -/
theorem isNone_any (u : Value) (d ok : Bool) (a n : Int) (s : ByteArray) (hT : ∀ w, Calls Tryd.prog 17 #[u] w fun e w' => e = .returned (.tuple #[.agg #[.bool d, .int .u8 a, .int .u64 n, .string s], .bool ok]) ∧ Below w.heap.size w w') (w : World) :
    Calls Tryd.prog 27 #[u] w fun e w' => e = .returned (.bool (!ok)) ∧ Below w.heap.size w w' := by
  have HT := Lib.hid hT
  clear hT
  go_enter Tryd.func27, Tryd.ntmps27
  go_wp2_with (go_at_call 17; refine (HT.out _).mono ?_; rintro e w1 ⟨rfl, hb1⟩)
  go_ret
  exact ⟨rfl, hb1.alloc hb1.size _⟩
theorem isNone_item (x : KV × Bool) (hx : x.1.ok) (w : World) :
    Calls Tryd.prog 27 #[anyI x] w fun e w' => e = .returned (.bool false) ∧ Below w.heap.size w w' := isNone_any (anyI x) _ true _ _ _ (tell_any x hx) w
theorem isNone_bad {u : Value} (h : Bad u) (w : World) :
    Calls Tryd.prog 27 #[u] w fun e w' => e = .returned (.bool true) ∧ Below w.heap.size w w' := isNone_any u _ false _ _ _ (tell_bad h) w
end Go.Proofs.YtnjbeemahfoaiaaDoor
