/-
  Joined: MsgReaders, LzCur.
-/
import Derived.Test.YtbhlgceicfjncaaSet31
import Derived.Test.YtbhlgceicfjncaaSet36
import Derived.Test.YtbhlgceicfjncaaSet32
import Derived.Test.YtbhlgceicfjncaaSet01
import Derived.Test.YtbhlgceicfjncaaSet03
import Derived.Lib.Strings
import Derived.Lib.IndexBytes
namespace Go.Proofs.Ytbhlgceicfjncaa
open Go.RowKit
set_option linter.unusedVariables false
set_option linter.unnecessarySimpa false
set_option linter.unusedSimpArgs false
set_option maxRecDepth 100000

def fnsL : List (Nat × Nat) := [(1, 79), (2, 80), (3, 81), (4, 83), (5, 84), (6, 85), (7, 87), (8, 88), (9, 90), (10, 92), (11, 93), (12, 94)]
theorem fns_at {w : World} {b t : Nat} (h : FnMap w b fnsL) (f : Nat) (hf : (t, f) ∈ fnsL) : (Instr.lookup 117 (.map (some b)) (.int .u64 (t : Int)) false).run Try.prog w = .ok (.func (.func f) #[] #[]) w :=
  h.lookup Try.underlying117 Try.underlying33 (fun p hp e => by
    have : ∀ p ∈ fnsL, ∀ q ∈ fnsL, p.1 = q.1 → p.2 = q.2 := by decide
    exact this p hp (t, f) hf e) ⟨(t, f), hf, rfl⟩

set_option maxHeartbeats 4000000 in
theorem readers_any (w : World) : Calls Try.prog 62 #[] w fun e w' => ∃ b, e = .returned (.map (some b)) ∧ w.heap.size ≤ b ∧ FnMap w' b fnsL ∧ Below w.heap.size w w' := by
  have hmm := @run_makeMap Try.prog
  have h0 := FnMap.made w
  have hb0 : Below w.heap.size w (w.alloc (.map #[] 0)) := (Below.refl _ _).alloc (Nat.le_refl _) _
  have H0 := Lib.hid h0
  have B0 := Lib.hid hb0
  clear h0 hb0
  go_enter Try.func62, Try.ntmps62
  go_wp2_with (refine wpList_insert_fn rfl _ _ _ rfl Try.underlying117 Try.underlying33 rfl 1 79 rfl rfl H0.out (by decide) ?_)
  intro w1 h1 g1
  have H1 := Lib.hid h1
  have B1 := Lib.hid (B0.out.grown g1 B0.out.size (fun j hj => by injection hj with hj; omega))
  clear h1 g1 H0 B0
  go_wp2_with (refine wpList_insert_fn rfl _ _ _ rfl Try.underlying117 Try.underlying33 rfl 2 80 rfl rfl H1.out (by decide) ?_)
  intro w2 h2 g2
  have H2 := Lib.hid h2
  have B2 := Lib.hid (B1.out.grown g2 B1.out.size (fun j hj => by injection hj with hj; omega))
  clear h2 g2 H1 B1
  go_wp2_with (refine wpList_insert_fn rfl _ _ _ rfl Try.underlying117 Try.underlying33 rfl 3 81 rfl rfl H2.out (by decide) ?_)
  intro w3 h3 g3
  have H3 := Lib.hid h3
  have B3 := Lib.hid (B2.out.grown g3 B2.out.size (fun j hj => by injection hj with hj; omega))
  clear h3 g3 H2 B2
  go_wp2_with (refine wpList_insert_fn rfl _ _ _ rfl Try.underlying117 Try.underlying33 rfl 4 83 rfl rfl H3.out (by decide) ?_)
  intro w4 h4 g4
  have H4 := Lib.hid h4
  have B4 := Lib.hid (B3.out.grown g4 B3.out.size (fun j hj => by injection hj with hj; omega))
  clear h4 g4 H3 B3
  go_wp2_with (refine wpList_insert_fn rfl _ _ _ rfl Try.underlying117 Try.underlying33 rfl 5 84 rfl rfl H4.out (by decide) ?_)
  intro w5 h5 g5
  have H5 := Lib.hid h5
  have B5 := Lib.hid (B4.out.grown g5 B4.out.size (fun j hj => by injection hj with hj; omega))
  clear h5 g5 H4 B4
  go_wp2_with (refine wpList_insert_fn rfl _ _ _ rfl Try.underlying117 Try.underlying33 rfl 6 85 rfl rfl H5.out (by decide) ?_)
  intro w6 h6 g6
  have H6 := Lib.hid h6
  have B6 := Lib.hid (B5.out.grown g6 B5.out.size (fun j hj => by injection hj with hj; omega))
  clear h6 g6 H5 B5
  go_wp2_with (refine wpList_insert_fn rfl _ _ _ rfl Try.underlying117 Try.underlying33 rfl 7 87 rfl rfl H6.out (by decide) ?_)
  intro w7 h7 g7
  have H7 := Lib.hid h7
  have B7 := Lib.hid (B6.out.grown g7 B6.out.size (fun j hj => by injection hj with hj; omega))
  clear h7 g7 H6 B6
  go_wp2_with (refine wpList_insert_fn rfl _ _ _ rfl Try.underlying117 Try.underlying33 rfl 8 88 rfl rfl H7.out (by decide) ?_)
  intro w8 h8 g8
  have H8 := Lib.hid h8
  have B8 := Lib.hid (B7.out.grown g8 B7.out.size (fun j hj => by injection hj with hj; omega))
  clear h8 g8 H7 B7
  go_wp2_with (refine wpList_insert_fn rfl _ _ _ rfl Try.underlying117 Try.underlying33 rfl 9 90 rfl rfl H8.out (by decide) ?_)
  intro w9 h9 g9
  have H9 := Lib.hid h9
  have B9 := Lib.hid (B8.out.grown g9 B8.out.size (fun j hj => by injection hj with hj; omega))
  clear h9 g9 H8 B8
  go_wp2_with (refine wpList_insert_fn rfl _ _ _ rfl Try.underlying117 Try.underlying33 rfl 10 92 rfl rfl H9.out (by decide) ?_)
  intro w10 h10 g10
  have H10 := Lib.hid h10
  have B10 := Lib.hid (B9.out.grown g10 B9.out.size (fun j hj => by injection hj with hj; omega))
  clear h10 g10 H9 B9
  go_wp2_with (refine wpList_insert_fn rfl _ _ _ rfl Try.underlying117 Try.underlying33 rfl 11 93 rfl rfl H10.out (by decide) ?_)
  intro w11 h11 g11
  have H11 := Lib.hid h11
  have B11 := Lib.hid (B10.out.grown g11 B10.out.size (fun j hj => by injection hj with hj; omega))
  clear h11 g11 H10 B10
  go_wp2_with (refine wpList_insert_fn rfl _ _ _ rfl Try.underlying117 Try.underlying33 rfl 12 94 rfl rfl H11.out (by decide) ?_)
  intro w12 h12 g12
  have H12 := Lib.hid h12
  have B12 := Lib.hid (B11.out.grown g12 B11.out.size (fun j hj => by injection hj with hj; omega))
  clear h12 g12 H11 B11
  go_wp2_with fail
  go_ret
  exact ⟨_, rfl, Nat.le_refl _, H12.out, B12.out⟩
end Go.Proofs.Ytbhlgceicfjncaa

namespace Go.Proofs.Ytbhlgceicfjncaa
open Go.RowKit
set_option linter.unusedVariables false
set_option linter.unnecessarySimpa false
set_option linter.unusedSimpArgs false
set_option maxRecDepth 100000

theorem ba_ext {a b : ByteArray} (h : a.data.toList = b.data.toList) : a = b := by
  apply ByteArray.ext
  exact Array.toList_inj.1 h
/-- A cursor by the list of what is left. -/
def CurL (w : World) (g : Nat) (l : List UInt8) (bad : Bool) : Prop := CurAt w g ⟨l.toArray⟩ bad
theorem arr_size (l : List UInt8) : (⟨l.toArray⟩ : ByteArray).size = l.length := List.size_toArray
theorem arr_drop (l : List UInt8) (k : Nat) : (⟨l.toArray⟩ : ByteArray).extract k (⟨l.toArray⟩ : ByteArray).size = ⟨(l.drop k).toArray⟩ := ba_ext (Lib.extract_to_end _ _)
theorem arr_take (l : List UInt8) (k : Nat) : (⟨l.toArray⟩ : ByteArray).extract 0 k = ⟨(l.take k).toArray⟩ := ba_ext (by rw [Lib.extract_data]; simp)
theorem CurL.lt {w : World} {g : Nat} {l : List UInt8} {bad : Bool} (h : CurL w g l bad) : g < w.heap.size := CurAt.lt h

/-! What the calls tell, by the list. -/
theorem uN_none {l : List UInt8} (h : tk l = none) : cUint ⟨l.toArray⟩ false = (0, ⟨l.toArray⟩, true) := by
  have := tk_is_none h
  unfold cUint
  simp only [Bool.false_eq_true, if_false]
  rw [if_pos (show tkK (⟨l.toArray⟩ : ByteArray).data.toList = 0 from this.2)]
theorem uN_some {l : List UInt8} {n k : Nat} (h : tk l = some (n, k)) : cUint ⟨l.toArray⟩ false = (n, ⟨(l.drop k).toArray⟩, false) := by
  have h1 := tk_is_some h
  have h2 := (tk_some h).2.2.2.1
  have e : (⟨l.toArray⟩ : ByteArray).data.toList = l := rfl
  unfold cUint
  simp only [Bool.false_eq_true, if_false]
  rw [h1.1, h1.2, if_neg (by omega), arr_drop]
theorem uN_bad (l : List UInt8) : cUint ⟨l.toArray⟩ true = (0, ⟨l.toArray⟩, true) := by simp [cUint]
theorem cT_none {l : List UInt8} (h : tk l = none) : cText ⟨l.toArray⟩ false = (ByteArray.empty, ⟨l.toArray⟩, true) := by
  have h1 := tk_is_none h
  have e : (⟨l.toArray⟩ : ByteArray).data.toList = l := rfl
  unfold cText
  rw [e, if_pos (.inr (.inl h1.2))]
theorem cT_short {l : List UInt8} {n k : Nat} (h : tk l = some (n, k)) (hn : (l.drop k).length < n) : cText ⟨l.toArray⟩ false = (ByteArray.empty, ⟨l.toArray⟩, true) := by
  have h1 := tk_is_some h
  have e : (⟨l.toArray⟩ : ByteArray).data.toList = l := rfl
  rw [List.length_drop] at hn
  unfold cText
  rw [e, arr_size, h1.1, h1.2, if_pos (.inr (.inr hn))]
theorem cT_full {l : List UInt8} {n k : Nat} (h : tk l = some (n, k)) (hn : n ≤ (l.drop k).length) : cText ⟨l.toArray⟩ false = (⟨((l.drop k).take n).toArray⟩, ⟨((l.drop k).drop n).toArray⟩, false) := by
  have h1 := tk_is_some h
  have h2 := tk_some h
  have e : (⟨l.toArray⟩ : ByteArray).data.toList = l := rfl
  have hl : (l.drop k).length = l.length - k := List.length_drop
  unfold cText
  rw [e, h1.1, h1.2, if_neg (by rw [arr_size]; simp only [Bool.false_eq_true, false_or]; omega), arr_drop, arr_take]
  rw [show (⟨l.toArray⟩ : ByteArray).size - k = (⟨(l.drop k).toArray⟩ : ByteArray).size by rw [arr_size, arr_size, hl], arr_drop]
theorem cB_full {l : List UInt8} {k : Nat} (h : k ≤ l.length) : cBytes ⟨l.toArray⟩ false k = (⟨(l.take k).toArray⟩, ⟨(l.drop k).toArray⟩, false) := by
  unfold cBytes
  rw [if_neg (by rw [arr_size]; simp only [Bool.false_eq_true, false_or]; omega), Int.toNat_natCast, arr_drop, arr_take]
theorem cB_short {l : List UInt8} {k : Nat} (h : l.length < k) : cBytes ⟨l.toArray⟩ false k = (ByteArray.empty, ⟨l.toArray⟩, true) := by
  unfold cBytes
  rw [if_pos (by rw [arr_size]; right; right; omega)]

/-- Below B nothing turns but block g. -/
structure Kept (B g : Nat) (w w' : World) : Prop where
  os : w'.os = w.os
  tape : w'.tape = w.tape
  output : w'.output = w.output
  size : w.heap.size ≤ w'.heap.size
  block : ∀ k, k < B → k ≠ g → w'.heap[k]? = w.heap[k]?
section
variable {B g : Nat} {w w1 w2 : World}
theorem Kept.refl (B g : Nat) (w : World) : Kept B g w w := ⟨rfl, rfl, rfl, Nat.le_refl _, fun _ _ _ => rfl⟩
theorem Kept.trans (h1 : Kept B g w w1) (h2 : Kept B g w1 w2) : Kept B g w w2 :=
  ⟨h2.os.trans h1.os, h2.tape.trans h1.tape, h2.output.trans h1.output, Nat.le_trans h1.size h2.size, fun k hk hg => (h2.block k hk hg).trans (h1.block k hk hg)⟩
theorem Kept.of_below (h : Below B w w1) : Kept B g w w1 := ⟨h.os, h.tape, h.output, h.size, fun k hk _ => h.block k hk⟩
theorem Kept.of_grown (h : w.grownBy w1 (some g)) (hB : B ≤ w.heap.size) : Kept B g w w1 := ⟨h.os, h.tape, h.output, h.size, fun k hk hg => h.block k (by omega) (fun e => hg (by injection e))⟩
theorem Kept.below (h : Kept B g w w1) (hg : B = g + 1) : Below g w w1 := ⟨h.os, h.tape, h.output, h.size, fun k hk => h.block k (by omega) (by omega)⟩
end
theorem own_grown {W W' : World} {B e size n g : Nat} {v : Value} {xs : List Value} (h : W.ownsRow B e size v n xs) (hg : W.grownBy W' (some g)) (hB : g < B) : W'.ownsRow B e size v n xs := by
  refine h.kept hg ?_
  cases hv : v.ownBlock with
  | none => exact .inl rfl
  | some k =>
    refine .inr ?_
    have := (h.lt k hv).1
    intro e
    injection e with e
    omega
theorem CurL.below {W W' : World} {g B : Nat} {l : List UInt8} {bad : Bool} (h : CurL W g l bad) (hb : Below B W W') (hg : g < B) : CurL W' g l bad := CurAt.kept h hb hg
end Go.Proofs.Ytbhlgceicfjncaa
