/-
  The walks of the program's splitter: missing; payloadOf.
-/
import Derived.Test.YtaabpjnjglnjoaaFrmSplB
namespace Go.Proofs.Ytaabpjnjglnjoaa
open Go.RowKit
set_option linter.unusedVariables false
set_option linter.unnecessarySimpa false
set_option linter.unusedSimpArgs false
set_option maxRecDepth 100000

set_option maxHeartbeats 800000 in
theorem missing_short {w : World} {g n c : Nat} {a : Option Addr} {q : Value} {b : Bool} (h : SpAt w g (.slice a n c) q b) (hn : n < 4) :
    Calls Try.prog 20 #[.pointer (some ⟨g, 0, none⟩)] w fun e w' => e = .returned (.int .i64 ((4 : Int) - n)) ∧ w = w' := by
  have c := h.cp
  have hz : (n : Int) < 4 := by omega
  clear h hn
  go_enter Try.func20, Try.ntmps20
  go_wp2_with fail
  go_ret
  exact ⟨rfl, rfl⟩

set_option maxHeartbeats 1600000 in
theorem missing_at {w : World} {g B n cap h L : Nat} {q : Value} {b : Bool} {l : List UInt8} (hs : SpAt w g (.slice (some ⟨h, 0, none⟩) n cap) q b)
    (ho : w.ownsRow B 5 1 (.slice (some ⟨h, 0, none⟩) n cap) n (Lib.byteCells l)) (h4 : 4 ≤ n) (hl : l.take 4 = fx L 4 true) (h1 : 1 ≤ L) (h2 : L ≤ 4000) (hn : n ≤ 4008) :
    Calls Try.prog 20 #[.pointer (some ⟨g, 0, none⟩)] w fun e w' => e = .returned (.int .i64 ((8 : Int) + L - n)) ∧ Below w.heap.size w w' := by
  have hcap : n ≤ cap := by
    rcases ho.2 with ⟨h', _⟩ | ⟨g', cap', cur, h', _, _, hnc, _⟩
    · simp at h'
    · simp only [Value.slice.injEq, Option.some.injEq, Addr.mk.injEq, and_true, true_and] at h'
      omega
  have hcv := Lib.hid (show (convert 46 9 (.slice (some ⟨h, 0, none⟩) 4 cap)).run Try.prog w = .ok (.string ⟨(fx L 4 true).toArray⟩) w by
    have := own_take ho h4
    rw [show (Lib.byteCells l).take 4 = Lib.byteCells (fx L 4 true) by rw [← hl]; simp [Lib.byteCells, List.map_take]] at this
    exact convert_row this)
  have HS := Lib.hid hs
  have cp := hs.cp
  have hk := Lib.hid (fun (g : Nat) (w : World) => k_fixed4 (X := ⟨(fx L 4 true).toArray⟩) (n := L) (R := []) (by omega) (by simp) (by show (fx L 4 true).toArray.size ≤ _; rw [List.size_toArray, fx_length]; decide) g w)
  have HY := Lib.hid (isLength_yes L h1 h2)
  have e4 : (4 : Int) ≤ (n : Int) := by omega
  have e4n : ¬ (n : Int) < 4 := by omega
  have ec : (4 : Int) ≤ (cap : Int) := by omega
  have eL : (L : Int) ≤ 4000 := by omega
  have en : (n : Int) ≤ 4008 := by omega
  have hcv := hcv.out
  obtain ⟨F, hF⟩ : ∃ F : ByteArray, F = ⟨(fx L 4 true).toArray⟩ := ⟨_, rfl⟩
  rw [← hF] at hcv hk
  have hFs : F.size ≤ 4 := by rw [hF]; show (fx L 4 true).toArray.size ≤ 4; rw [List.size_toArray, fx_length]; omega
  clear hs ho hl hF hcap h1 h2 hn h4
  go_enter Try.func20, Try.ntmps20
  go_wp2_with (first
    | (go_at_call 28; refine (new_any _ _).mono ?_; rintro e w1 ⟨rfl, hc1, hb1⟩; have hc1 := Lib.hid hc1; have hb1 := Lib.hid hb1)
    | (go_at_call 29; refine (hk.out _ _ hc1.out).mono ?_; rintro e w2 ⟨rfl, _, hg2⟩; have hb2 := Lib.hid (below_grown hb1.out hg2 (Nat.le_refl _)); have cp2 := (HS.out.kept hb2.out).cp; clear hg2)
    | (go_at_call 14; refine (HY.out _).mono ?_; rintro e w3 ⟨rfl, rfl⟩))
  go_ret
  exact ⟨rfl, hb2.out⟩

set_option maxHeartbeats 2000000 in
theorem payloadOf_ok (p : ByteArray) (hp1 : 1 ≤ p.size) (hp2 : p.size ≤ 4000) (w : World) :
    Calls Try.prog 30 #[.agg tab, .string (frmS p)] w fun e w' => e = .returned (.tuple #[.string p, .bool true]) ∧ Below w.heap.size w w' := by
  have HY := Lib.hid (isLength_yes p.size hp1 hp2)
  have H3 := Lib.hid (sum_any p (by omega))
  have hs := sumB_lt p.data.toList
  have hsz := frmS_size p
  have hx1 : (frmS p).data.toList = fx p.size 4 true ++ (fx (sumB p.data.toList) 4 true ++ p.data.toList) := by
    show (frmB p.data.toList) = _
    unfold frmB
    rw [← Lib.size_eq, List.append_assoc]
  obtain ⟨S, hS⟩ : ∃ S, S = sumB p.data.toList := ⟨_, rfl⟩
  rw [← hS] at H3 hs hx1
  clear hS
  have hk1 := Lib.hid (fun (g : Nat) (w : World) => k_fixed4 (n := p.size) (by omega) hx1 (by rw [hsz]; unfold maxLen; omega) g w)
  have hk2 := Lib.hid (fun (g : Nat) (w : World) => k_fixed4 (X := ⟨(fx S 4 true ++ p.data.toList).toArray⟩) (n := S) (R := p.data.toList) (by omega) (by simp) (by show (fx S 4 true ++ p.data.toList).toArray.size ≤ _; rw [List.size_toArray, List.length_append, fx_length, list_size]; unfold maxLen; omega) g w)
  have hk3 := Lib.hid (fun (g : Nat) (w : World) => k_bytes (X := ⟨p.data.toList.toArray⟩) (p := p) (by cases p; simp) (by show p.data.toList.toArray.size ≤ _; rw [List.size_toArray, list_size]; unfold maxLen; omega) g w)
  have hk4 := Lib.hid (fun (g : Nat) (w : World) (h : CurAt w g ⟨p.data.toList.toArray⟩ false) => by have := left_any g _ _ w (by show p.data.toList.toArray.size ≤ _; rw [List.size_toArray, list_size]; unfold maxLen; omega) h; rwa [show (⟨p.data.toList.toArray⟩ : ByteArray).size = p.size by show p.data.toList.toArray.size = _; rw [List.size_toArray, list_size]] at this)
  have hz : (S : Int) < 4294967296 := by omega
  have hzm : (S : Int) % 4294967296 = S := by omega
  have hrow := Lib.hid (heap_alloc_last w (.cells tab 28))
  obtain ⟨F, hF⟩ : ∃ F, F = frmS p := ⟨_, rfl⟩
  rw [← hF] at hk1 ⊢
  clear hx1 hsz hF hp1 hs
  have hb0 := Lib.hid ((Below.refl w.heap.size w).alloc (Nat.le_refl _) (.cells tab 28))
  go_enter Try.func30, Try.ntmps30
  go_wp2_with (first
    | (go_at_call 28; refine (new_any _ _).mono ?_; rintro e w1 ⟨rfl, hc1, hb1⟩; have hc1 := Lib.hid (show CurAt w1 (w.heap.size + 1) F false by simpa using hc1); have hb1 := Lib.hid hb1; have hr1 := Lib.hid ((hb1.out.block w.heap.size (by simp)).trans hrow.out); have hs1 := hc1.out.lt)
    | (go_at_call 29; (with_reducible refine (hk1.out _ _ hc1.out).mono ?_); rintro e w2 ⟨rfl, hc2, hg2⟩; have hc2 := Lib.hid hc2; have hg2 := Lib.hid hg2)
    | (go_at_call 29; (with_reducible refine (hk2.out _ _ hc2.out).mono ?_); rintro e w3 ⟨rfl, hc3, hg3⟩; have hc3 := Lib.hid hc3; have hg3 := Lib.hid hg3)
    | (go_at_call 32; refine (hk4.out _ _ hc3.out).mono ?_; rintro e w4 ⟨rfl, rfl⟩)
    | (go_at_call 31; refine (hk3.out _ _ hc3.out).mono ?_; rintro e w5 ⟨rfl, _, hg5⟩; have hg5 := Lib.hid (grownBy_trans (grownBy_trans hg2.out hg3.out) hg5); have hr5 := Lib.hid ((hg5.out.block w.heap.size (by omega) (by simp)).trans hr1.out))
    | (go_at_call 14; refine (HY.out _).mono ?_; rintro e w6 ⟨rfl, rfl⟩)
    | (refine wpList_load_rowG rfl 28 _ rfl w.heap.size rfl 28 tab (0, 0) _ hr5.out Try.underlying28 rfl tableSize ?_; dsimp only [Act.put])
    | (go_at_call 15; refine (H3.out _).mono ?_; rintro e w7 ⟨rfl, hb7⟩))
  go_ret2
  have k1 : Below w.heap.size w w5 := below_grown (hb0.out.trans (hb1.out.mono (by simp))) hg5.out (by simp)
  exact ⟨rfl, k1.trans (hb7.mono k1.size)⟩
end Go.Proofs.Ytaabpjnjglnjoaa
