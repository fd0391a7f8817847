/-
  The walks of the program's Encode: of items, and of what is none.
-/
import Derived.Test.YtnjbeemahfoaiaaDoorKeyAppend
import Derived.Test.YtnjbeemahfoaiaaDoorKeyFuncs
import Derived.Test.YtnjbeemahfoaiaaDoorConvert
import Derived.Test.YtnjbeemahfoaiaaDoorKeysItems
namespace Go.Proofs.YtnjbeemahfoaiaaDoor
open Go.RowKit
set_option linter.unusedVariables false
set_option linter.unusedSimpArgs false
set_option linter.unnecessarySimpa false
set_option maxRecDepth 100000

theorem tText_le (x : KV × Bool) : (tText x.1).size ≤ (encI x).length := by
  obtain ⟨k, d⟩ := x
  rw [encI_length]
  cases k with
  | text s =>
    have h : s.data.toList.length ≤ (esc s.data.toList).length := by
      generalize s.data.toList = l
      induction l with
      | nil => simp [esc]
      | cons b l ih =>
        rw [esc_cons, List.length_append, List.length_cons]
        have : 1 ≤ (esc1 b).length := by unfold esc1; split <;> simp
        omega
    rw [← Lib.size_eq] at h
    simp only [tText, tailV, escT, List.length_append]
    omega
  | _ => simp [tText]
theorem encL_upto {xs : List (KV × Bool)} {i : Nat} (h : i < xs.length) : encL (xs.take (i + 1)) = encL (xs.take i) ++ encI (xs.getD i kv0) := by
  rw [List.take_add_one, List.getElem?_eq_getElem h, encL_append]
  simp [encL, List.getD, List.getElem?_eq_getElem h]
theorem encL_len {xs : List (KV × Bool)} (h : ∀ x ∈ xs, (encI x).length ≤ 5000) : (encL xs).length ≤ 5000 * xs.length := by
  induction xs with
  | nil => simp [encL]
  | cons x l ih =>
    rw [encL_cons, List.length_append, List.length_cons]
    have := h x (by simp)
    have := ih (fun y hy => h y (by simp [hy]))
    omega
theorem getD_len {xs : List (KV × Bool)} (h : ∀ x ∈ xs, (encI x).length ≤ 5000) {i : Nat} (hi : i < xs.length) : (encI (xs.getD i kv0)).length ≤ 5000 := by
  simp only [List.getD, List.getElem?_eq_getElem hi]
  exact h _ (List.getElem_mem hi)

set_option maxHeartbeats 8000000 in
theorem encode_items (v : Value) (xs : List (KV × Bool)) (w : World) (h : AnysAt w v (xs.map anyI)) (hs : sane xs) :
    Calls Tryd.prog 10 #[v] w fun e w' => e = .returned (.tuple #[.string ⟨(encL xs).toArray⟩, .int .i64 0]) ∧ Below w.heap.size w w' := by
  obtain ⟨a, len, cap, rfl, hlen, hc⟩ := h
  rw [List.length_map] at hlen
  have HX := Lib.hid (fun i hi => getD_ok (i := i) (fun x hx => (hs.1 x hx).1) hi)
  have HXL := Lib.hid (fun i hi => getD_len (i := i) (fun x hx => (hs.1 x hx).2) hi)
  have HTL := Lib.hid (fun i => encL_len (xs := xs.take i) (fun x hx => (hs.1 x (List.mem_of_mem_take hx)).2))
  have HC := Lib.hid hc
  have HL := Lib.hid hlen
  have hl2 : len ≤ 300 := by have := hs.2; omega
  clear hc hlen hs
  go_enter Tryd.func10, Tryd.ntmps10
  go_wp2_with fail
  go_loopg [4, 6, 7, 8, 11] len (fun k s4 s6 s7 s8 s11 wx => ∃ i : Nat, i + k = len ∧ s11 = .int .i64 i ∧ Hid (wx.ownsRow w.heap.size 5 1 s4 (encL (xs.take i)).length (Lib.byteCells (encL (xs.take i)))) ∧ Hid (Below w.heap.size w wx))
  case atStart => exact ⟨0, by omega, rfl, Lib.hid (World.ownsRow_nil _ _ _ _), Lib.hid (Below.refl _ _)⟩
  case round =>
    obtain ⟨i, hig, rfl, HO, HB⟩ := hrel
    by_cases h1 : i < len
    · obtain ⟨k, rfl⟩ : ∃ k, gk = k + 1 := ⟨gk - 1, by omega⟩
      have h1z : (i : Int) < (len : Int) := by omega
      obtain ⟨b, off, rfl, hbl, hcell0⟩ := HC.out i h1
      rw [map_getD] at hcell0
      have hcell := (HB.out.cell (p := ⟨b, off + i, none⟩) hbl).trans hcell0
      have hok := HX.out i (by have := HL.out; omega)
      have htl := HTL.out i
      have hxl := HXL.out i (by have := HL.out; omega)
      have hnext := Lib.hid (encL_upto (xs := xs) (i := i) (by have := HL.out; omega))
      obtain ⟨x, ex⟩ : ∃ x, x = xs.getD i kv0 := ⟨_, rfl⟩
      rw [← ex] at hcell hok hxl hnext
      have htt := tText_le x
      have HT := Lib.hid (tell_any x hok)
      obtain ⟨E, hE⟩ : ∃ E, E = encL (xs.take i) := ⟨_, rfl⟩
      rw [← hE] at hnext htl HO
      have hEl : E.length ≤ 2000000 := by rw [List.length_take] at htl; omega
      have hsz := HB.out.size
      have HA := Lib.hid (fun (W : World) (hb : Below wr.heap.size wr W) => appendItem_any w.heap.size u4 E x hok (by omega) (by omega) W (Nat.le_trans hsz hb.size) (own_below HO.out hb))
      unfold told at HT HA
      clear hcell0 ex hE htl hok hxl htt hEl
      obtain ⟨u, hu⟩ : ∃ u, u = anyI x := ⟨_, rfl⟩
      rw [← hu] at hcell HT
      clear hu
      go_upto_region 8 with (go_at_call 17; refine (HT.out _).mono ?_; rintro e w1 ⟨rfl, hb1⟩)
      have hb1' := hb1.alloc hb1.size (.cells #[.bool x.2, .int .u8 (tFirst x.1), .int .u64 (tNum x.1), .string (tText x.1)] 49)
      have HA2 := Lib.hid (HA.out _ hb1')
      have HB2 := Lib.hid (HB.out.trans (hb1'.mono hsz))
      clear hb1 hb1' HA
      go_wp2_with (go_at_call 18; refine (HA2.out).mono ?_; rintro e w2 ⟨v2, rfl, H2, B2⟩)
      go_roundg k
      case measure => omega
      case rel => exact ⟨i + 1, by omega, by simp, by rw [hnext.out]; exact H2, Lib.hid (HB2.out.trans B2.out)⟩
    · have h1z : ¬ (i : Int) < (len : Int) := by omega
      obtain rfl : i = len := by omega
      have hall := Lib.hid (show xs.take i = xs from List.take_of_length_le (by have := HL.out; omega))
      rw [hall.out] at HO
      obtain ⟨a4, cap4, rfl⟩ := own_form HO.out
      have hcv := convert_row HO.out
      go_wp2_with fail
      go_ret2
      exact ⟨rfl, HB.out⟩
theorem encOK : EncOK := fun v xs w h hs => encode_items v xs w h hs

set_option maxHeartbeats 8000000 in
theorem encode_bad (v : Value) (s : ByteArray) (u : Value) (w : World) (hs : s.size ≤ 1048576) (hb : Bad u) (h : AnysAt w v [.iface 9 (.string s), u]) :
    Calls Tryd.prog 10 #[v] w fun e w' => e = .returned (.tuple #[.string ⟨#[]⟩, .int .i64 1]) ∧ Below w.heap.size w w' := by
  obtain ⟨a, len, cap, rfl, rfl, hc⟩ := h
  obtain ⟨b, off, rfl, hbl, hcell0⟩ := hc 0 (by simp)
  obtain ⟨b', off', hbo, hbl', hcell1⟩ := hc 1 (by simp)
  simp only [Option.some.injEq, Addr.mk.injEq] at hbo
  obtain ⟨rfl, rfl, _⟩ := hbo
  have HC0 : Hid (w.cell? ⟨b, off, none⟩ = some (.iface 9 (.string s))) := Lib.hid hcell0
  have HC1 : Hid (w.cell? ⟨b, off + 1, none⟩ = some u) := Lib.hid hcell1
  have HS := Lib.hid hs
  have HT0 := Lib.hid (tell_any (.text s, false) trivial)
  have HT1 := Lib.hid (tell_bad hb)
  obtain ⟨d, hd⟩ : ∃ d, d = badDown u := ⟨_, rfl⟩
  rw [← hd] at HT1
  unfold told at HT0
  unfold noTold at HT1
  simp only [anyI, anyV, Bool.false_eq_true, if_false] at HT0
  clear hc hcell0 hcell1 hbl' hs hd hb
  show Calls Tryd.prog 10 #[.slice (some ⟨b, off, none⟩) 2 cap] w _
  go_enter Tryd.func10, Tryd.ntmps10
  go_wp2_with fail
  go_loopg [4, 6, 7, 8, 11] 2 (fun k s4 s6 s7 s8 s11 wx => ∃ i : Nat, i + k = 2 ∧ i ≤ 1 ∧ s11 = .int .i64 i ∧ Hid (i = 0 → s4 = .slice none 0 0) ∧ Hid (Below w.heap.size w wx))
  case atStart => exact ⟨0, by omega, by omega, rfl, Lib.hid (fun _ => rfl), Lib.hid (Below.refl _ _)⟩
  case round =>
    obtain ⟨i, hig, hi1, rfl, H4, HB⟩ := hrel
    have hsz := HB.out.size
    have hi : i = 0 ∨ i = 1 := by omega
    rcases hi with rfl | rfl
    · obtain rfl := H4.out rfl
      have hcell := (HB.out.cell (p := ⟨b, off, none⟩) hbl).trans HC0.out
      have HA := Lib.hid (fun (W : World) (hb : Below wr.heap.size wr W) => appendItem_any w.heap.size (.slice none 0 0) [] (.text s, false) trivial (by simp) HS.out W (Nat.le_trans hsz hb.size) (World.ownsRow_nil _ _ _ _))
      unfold told at HA
      simp only at HA HT0
      go_upto_region 8 with (go_at_call 17; refine (HT0.out _).mono ?_; rintro e w1 ⟨rfl, hb1⟩)
      have hb1' := hb1.alloc hb1.size (.cells #[.bool false, .int .u8 (tFirst (.text s)), .int .u64 (tNum (.text s)), .string (tText (.text s))] 49)
      have HA2 := Lib.hid (HA.out _ hb1')
      have HB2 := Lib.hid (HB.out.trans (hb1'.mono hsz))
      clear hb1 hb1' HA
      go_wp2_with (go_at_call 18; refine (HA2.out).mono ?_; rintro e w2 ⟨v2, rfl, H2, B2⟩)
      go_roundg 1
      case measure => omega
      case rel => exact ⟨1, by omega, by omega, rfl, Lib.hid (fun h => by omega), Lib.hid (HB2.out.trans B2.out)⟩
    · have hcell := (HB.out.cell (p := ⟨b, off + 1, none⟩) hbl).trans HC1.out
      go_wp2_with (go_at_call 17; refine (HT1.out _).mono ?_; rintro e w1 ⟨rfl, hb1⟩)
      go_ret2
      exact ⟨rfl, (HB.out.trans (hb1.mono hsz)).alloc (Nat.le_trans hsz hb1.size) _⟩
theorem encBad : EncBad := fun v s u w hs hb h => encode_bad v s u w hs hb h
end Go.Proofs.YtnjbeemahfoaiaaDoor
