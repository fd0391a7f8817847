/-
  The walk of the document's Encode: a tuple's bytes.
-/
import Derived.Test.YtnjbeemahfoaiaaDoorKeyBytes
import Derived.Test.YtnjbeemahfoaiaaDoorKeyOrder
namespace Go.Proofs.YtnjbeemahfoaiaaDoor
open Go.RowKit
set_option linter.unnecessarySimpa false
set_option linter.unusedVariables false
set_option linter.unusedSimpArgs false
set_option maxRecDepth 100000

theorem encI_len (x : It) (ht : x.text.size ≤ 1000) : (encI x.item).length ≤ 4000 := by
  have h := encV_len x.kv (by
    unfold It.kv
    rcases mod6 x.kind with h | h | h | h | h | h <;> simp [h]
    exact ht)
  unfold encI It.item
  split
  · rw [List.length_map]; exact h
  · exact h
theorem encL_take {zs : List It} {i : Nat} (hi : i < zs.length) : encL (items (zs.take i)) ++ encI (zs.getD i it0).item = encL (items (zs.take (i + 1))) := by
  have e : zs.getD i it0 = zs[i] := by simp [List.getD, hi]
  rw [e]
  unfold items
  rw [List.take_add_one, List.getElem?_eq_getElem hi, List.map_append, encL_append]
  simp [encL]

set_option maxRecDepth 100000 in
set_option maxHeartbeats 4000000 in
theorem refEncode_any (a : Option Addr) (len cap : Nat) (zs : List It) (hl : len ≤ 1000) (ht : ∀ i, i < len → (zs.getD i it0).text.size ≤ 1000) (w : World) (hz : ItemsAt w a len zs) :
    Calls Tryd.prog 13 #[.slice a len cap] w fun e w' => e = .returned (.string ⟨(encL (items zs)).toArray⟩) ∧ Below w.heap.size w w' := by
  have HZ := Lib.hid hz
  have HT := Lib.hid ht
  clear hz ht
  go_enter Tryd.func13, Tryd.ntmps13
  go_wp2_with fail
  go_loopg [3, 4] len (fun g s3 s4 wx => ∃ (i : Nat) (s : ByteArray), i + g = len ∧ s3 = .string s ∧ s4 = .int .i64 i ∧ Hid (s = ⟨(encL (items (zs.take i))).toArray⟩) ∧ s.size ≤ 4000 * i ∧ Hid (Below w.heap.size w wx))
  case atStart => exact ⟨0, ⟨#[]⟩, by omega, rfl, rfl, Lib.hid rfl, Nat.zero_le _, Lib.hid (Below.refl _ _)⟩
  case round =>
    obtain ⟨i, s, hig, rfl, rfl, hs, hsz, hb⟩ := hrel
    have HL := Lib.hid HZ.out.1
    by_cases hlt : i < len
    · obtain ⟨g, rfl⟩ : ∃ g, gk = g + 1 := ⟨gk - 1, by omega⟩
      have hiz : (i : Int) < (len : Int) := by omega
      have htx := HT.out i hlt
      obtain ⟨b, off, rfl, hbl, hok, c0, c1, c2, c3, c4⟩ := (HZ.out.below hb.out).2 i hlt
      have hsucc := Lib.hid (encL_take (zs := zs) (i := i) (by have := HL.out; omega))
      obtain ⟨z, ez⟩ : ∃ z, z = zs.getD i it0 := ⟨_, rfl⟩
      rw [← ez] at hok c0 c1 c2 c3 c4 hsucc htx
      have hlen := encI_len z htx
      have hval := Lib.hid (refBytes_any z hok htx)
      obtain ⟨t, et⟩ : ∃ t : ByteArray, t = ⟨(encI z.item).toArray⟩ := ⟨_, rfl⟩
      have htsz : t.size ≤ 4000 := by rw [et]; show (encI z.item).toArray.size ≤ 4000; rw [List.size_toArray]; exact hlen
      have hnext := Lib.hid (show s ++ t = ⟨(encL (items (zs.take (i + 1)))).toArray⟩ by rw [hs.out, et, ← hsucc.out]; apply ByteArray.ext; simp)
      rw [← et] at hval
      have hsum : (s ++ t).size ≤ 4000 * (i + 1) := by rw [ByteArray.size_append]; omega
      have hss : s.size + t.size ≤ 9223372036854775807 := by omega
      clear et ez htx hok hlen
      go_wp2_with (go_at_call 23; refine (hval.out _).mono ?_; rintro e w1 ⟨rfl, hb1⟩)
      have B1 := Lib.hid (hb.out.trans (hb1.mono hb.out.size))
      go_roundg g
      case measure => omega
      case rel => exact ⟨i + 1, s ++ t, by omega, rfl, by simp, hnext, hsum, B1⟩
    · obtain rfl : i = len := by omega
      have hiz : ¬ (i : Int) < (i : Int) := by omega
      have htk := Lib.hid (show zs.take i = zs from List.take_of_length_le (by have := HL.out; omega))
      go_wp2_with fail
      go_ret
      exact ⟨by rw [← htk.out, ← hs.out]; rfl, hb.out⟩
end Go.Proofs.YtnjbeemahfoaiaaDoor
