/-
  The walk of the statement LzParts: true.
-/
import Derived.Test.YtdkkbplkclcabaaLzContracts
import Derived.Test.YtdkkbplkclcabaaLzJoin
import Derived.Laws.IdiomStrings
namespace Go.Proofs.Ytdkkbplkclcabaa
open Go.RowKit
set_option linter.unnecessarySimpa false
set_option linter.unusedVariables false
set_option linter.unusedSimpArgs false
set_option maxRecDepth 100000

def partsOK (zs : List Prt) (len : Nat) : Prop := ∀ i, i < len → (zs.getD i prt0).1.size ≤ 100
theorem xor_byte (x : UInt8) (b : Nat) (hb : b < 256) : ∃ z : UInt8, bits BinOp.xor IntKind.u8 (x.toNat : Int) (b : Int) = (z.toNat : Int) := by
  have hx := UInt8.toNat_lt x
  have hl : x.toNat ^^^ b < 256 := Nat.xor_lt_two_pow (n := 8) hx hb
  exact ⟨UInt8.ofNat (x.toNat ^^^ b), by rw [u8_xor_nat _ _ hx hb, UInt8.toNat_ofNat', Nat.mod_eq_of_lt hl]⟩
/-- The bytes of a string in memory of their own, and one of them written. -/
def BytesAt (W : World) (g : Nat) (l : List UInt8) : Prop := ∀ j z, l[j]? = some z → W.cell? ⟨g, j, none⟩ = some (.int .u8 (z.toNat : Int))
theorem bytesAt_new (w : World) (s : ByteArray) (cp : Nat) (t : TypeId) (m : Nat) : BytesAt (w.alloc (.cells (bytesRow s cp) t (m, m + 1))).drew w.heap.size s.data.toList := fun j y hj => by
  have hjl : j < s.size := by rw [Lib.size_eq]; exact (List.getElem?_eq_some_iff.1 hj).1
  show (w.alloc _).cell? _ = _
  rw [World.cell?_alloc_mark]
  unfold bytesRow
  rw [Array.getElem?_append_left (by rw [Array.size_map]; exact hjl), Array.getElem?_map]
  have : s.data[j]? = some y := by simpa using hj
  rw [this]; rfl
theorem frozen_new (w : World) (s : ByteArray) (cp : Nat) (t : TypeId) (j : Nat) (hj : j < s.size) : (w.alloc (.cells (bytesRow s cp) t ((bytesRow s cp).size, (bytesRow s cp).size + 1))).drew.frozen? ⟨w.heap.size, j, none⟩ = false := by
  show (w.alloc _).frozen? _ = _
  rw [World.frozen?_alloc_mark]
  have h2 : j < (bytesRow s cp).size := by
    unfold bytesRow
    rw [Array.size_append, Array.size_map]
    exact Nat.lt_of_lt_of_le hj (Nat.le_add_right _ _)
  rw [decide_eq_false (by omega), Bool.false_and]
theorem bytesAt_set {W : World} {g q : Nat} {l : List UInt8} (h : BytesAt W g l) (hq : q < l.length) (z : UInt8) : BytesAt (W.setCell ⟨g, q, none⟩ (.int .u8 (z.toNat : Int))) g (l.set q z) := fun j y hj => by
  by_cases hjq : q = j
  · subst hjq
    rw [List.getElem?_set_self hq] at hj
    injection hj with hj
    subst hj
    rw [World.cell?_setCell_same' _ _ _ (by rw [h q _ (List.getElem?_eq_getElem hq)]; rfl)]
  · rw [List.getElem?_set_ne hjq] at hj
    rw [World.cell?_setCell_other _ _ _ _ (by intro e; apply hjq; injection e)]
    exact h j y hj
theorem bytesAt_below {W W' : World} {g : Nat} {l : List UInt8} (h : BytesAt W g l) (hg : g < W.heap.size) (hb : Below W.heap.size W W') : BytesAt W' g l := fun j z hj => (hb.cell hg).trans (h j z hj)
theorem bytesAt_back {W : World} {g cap n : Nat} {l : List UInt8} (h : BytesAt W g l) (hn : l.length = n) : (convert 34 9 (.slice (some ⟨g, 0, none⟩) n cap)).run Try.prog W = .ok (.string ⟨l.toArray⟩) W := by
  rw [← hn]
  refine run_convert_bytes_back W 34 9 5 _ cap l Try.underlying34 Try.underlying5 Try.underlying9 fun j hj => ?_
  have hadd : (⟨g, 0, none⟩ : Addr).add j = ⟨g, j, none⟩ := by unfold Addr.add; split <;> simp_all
  rw [hadd]
  exact h j _ (List.getElem?_eq_getElem hj)

set_option maxRecDepth 100000 in
set_option maxHeartbeats 8000000 in
theorem lzParts_of (hU : UnpackOK) (a : Option Addr) (len cap : Nat) (zs : List Prt) (hl : len ≤ maxLen) (a1 : Int) (w1 : (Lit.int .u16 a1).wf = true) (a2 : Int) (w2 : (Lit.int .u8 a2).wf = true) (w : World) (hz : PartsAt w a len zs) :
    Calls Try.prog 5 #[.slice a len cap, .int .u16 a1, .int .u8 a2] w fun e w' => e = .returned (.bool true) ∧ Below w.heap.size w w' := by
  have haw := Lib.hid (lzAwake_any hU)
  have HZ := Lib.hid hz
  clear hz
  by_cases hlen : 12 < len
  · have hd : (12 : Int) < (len : Int) := by omega
    go_enter Try.func5, Try.ntmps5
    go_upto_region 2 with (go_at_call 7; refine (haw.out _).mono ?_; rintro e w3 ⟨rfl, hb1⟩)
    go_wp2_with (go_at_call 7; refine (haw.out _).mono ?_; rintro e w4 ⟨rfl, hb2⟩)
    go_ret
    exact ⟨rfl, hb1.trans (hb2.mono hb1.size)⟩
  have hd : ¬ (12 : Int) < (len : Int) := by omega
  have hb1 := bounds_u16 w1
  have hb2 := bounds_u8 w2
  obtain ⟨at_, rfl⟩ : ∃ n : Nat, a1 = n := ⟨a1.toNat, by omega⟩
  obtain ⟨by_, rfl⟩ : ∃ n : Nat, a2 = n := ⟨a2.toNat, by omega⟩
  have hat16 : at_ < 65536 := by omega
  have hby8 : by_ < 256 := by omega
  clear hb1 hb2 w1 w2
  go_enter Try.func5, Try.ntmps5
  go_upto_region 3 with (go_at_call 7; refine (haw.out _).mono ?_; rintro e w3 ⟨rfl, hb1⟩)
  have HB3 := Lib.hid hb1
  clear hb1
  go_wp2_with fail
  go_loopg [7] len (fun q s7 wx => ∃ i : Nat, i + q = len ∧ s7 = .int .i64 i ∧ wx = w3 ∧ Hid (∀ j, j < i → (zs.getD j prt0).1.size ≤ 100))
  case atStart => exact ⟨0, by omega, rfl, rfl, Lib.hid (fun j hj => absurd hj (Nat.not_lt_zero _))⟩
  case round =>
    obtain ⟨i, hiq, rfl, rfl, hal⟩ := hrel
    by_cases hlt : i < len
    · obtain ⟨q, rfl⟩ : ∃ q, gk = q + 1 := ⟨gk - 1, by omega⟩
      have hiz : (i : Int) < (len : Int) := by omega
      obtain ⟨b, off, rfl, hbl, _, _, c0, _, _⟩ := (HZ.out.below HB3.out).2 i hlt
      obtain ⟨tx, htx⟩ : ∃ tx, tx = (zs.getD i prt0).1 := ⟨_, rfl⟩
      rw [← htx] at c0
      by_cases hbig : 100 < tx.size
      · have hbz : (100 : Int) < (tx.size : Int) := by omega
        clear hbig htx
        go_wp2_with fail
        go_ret
        exact ⟨rfl, HB3.out⟩
      · have hbz : ¬ (100 : Int) < (tx.size : Int) := by omega
        have HT := Lib.hid (show (zs.getD i prt0).1.size ≤ 100 by rw [← htx]; omega)
        clear hbig htx
        go_wp2_with fail
        go_roundg q
        case measure => omega
        case rel => exact ⟨i + 1, by omega, by simp, rfl, Lib.hid (fun j hj => by
          by_cases e : j = i
          · subst e; exact HT.out
          · exact hal.out j (by omega))⟩
    · obtain rfl : i = len := by omega
      have hiz : ¬ (i : Int) < (i : Int) := by omega
      have hjn := Lib.hid (fun W h => refJoin_any a i cap zs (by omega) hal.out W h)
      have HU := Lib.hid hU
      go_upto_region 9 with (go_at_call 11; refine (hjn.out _ (HZ.out.below HB3.out)).mono ?_; rintro e w4 ⟨l, hla, hl1, hl2, rfl, hb4⟩)
      have hsem := unp_joined hla (by omega)
      obtain ⟨L, hL⟩ : ∃ L, L = ub (apps l []).length ++ 1 :: encs l := ⟨_, rfl⟩
      have hLs : 1 ≤ L.length ∧ L.length ≤ 6100 := by
        rw [hL, List.length_append, List.length_cons]
        have := ub_len10 (n := (apps l []).length) (by omega)
        omega
      rw [← hL] at hsem
      rw [← hL]
      obtain ⟨S, hS⟩ : ∃ S : ByteArray, S = ⟨L.toArray⟩ := ⟨_, rfl⟩
      have hSl : S.data.toList = L := by rw [hS]
      have hSs : S.size = L.length := by rw [Lib.size_eq, hSl]
      obtain ⟨Wt, hWt⟩ : ∃ Wt : ByteArray, Wt = ⟨(apps l []).toArray⟩ := ⟨_, rfl⟩
      rw [← hS, ← hWt]
      have hu := Lib.hid (fun w => HU.out S w (by omega))
      have hr := Lib.hid (refUnpack_any S (by omega))
      rw [hSl] at hu hr
      obtain ⟨X, hX⟩ : ∃ X : ByteArray, X = ⟨(unp L).1.toArray⟩ := ⟨_, rfl⟩
      obtain ⟨E, hE⟩ : ∃ E : Int, E = (unp L).2 := ⟨_, rfl⟩
      rw [← hX, ← hE] at hu hr
      have hXW := Lib.hid (show E = 0 → X = Wt from fun h => by rw [hX, hWt, hsem (by rw [← hE]; exact h)])
      have HSL := Lib.hid hSl
      have HSS := Lib.hid hSs
      have HLS := Lib.hid hLs
      have B4 := Lib.hid (HB3.out.trans (hb4.mono HB3.out.size))
      clear hX hE hsem hL hS hWt hSl hSs hLs hla hl1 hl2 hb4 hjn
      go_upto_region 11 with (first
        | (go_at_call 9; refine (hu.out _).mono ?_; rintro e w6 ⟨rfl, hb6⟩)
        | (go_at_call 10; refine (hr.out _).mono ?_; rintro e w5 ⟨rfl, hb5⟩))
      have B6 := Lib.hid ((B4.out.trans (hb5.mono B4.out.size)).trans (hb6.mono (Nat.le_trans B4.out.size hb5.size)))
      clear hb5 hb6 hu hr
      go_cut [67] (fun s67 wc => s67 = .bool false ∧ wc = w6)
      case first =>
        by_cases hE : E = 0
        · have hx := hXW.out hE
          have hE0 : (E == 0) = true := by rw [hE]; rfl
          subst hx
          clear hE hXW
          go_wp2_with fail
          go_meet
          case rel => exact ⟨rfl, rfl⟩
        · have hE0 : (E == 0) = false := by rw [beq_eq_false_iff_ne]; exact hE
          clear hE hXW
          go_wp2_with fail
          go_meet
          case rel => exact ⟨rfl, rfl⟩
      case rest =>
        obtain ⟨rfl, rfl⟩ := hcut
        have hcv := fun (w : World) => run_bytes_of_string (P := Try.prog) w 9 34 5 S Try.underlying9 Try.underlying34 Try.underlying5
        obtain ⟨q, hq⟩ : ∃ q, q = at_ % S.size := ⟨_, rfl⟩
        have hSpos : 0 < S.size := by rw [HSS.out]; exact HLS.out.1
        have hql : q < S.size := by rw [hq]; exact Nat.mod_lt _ hSpos
        have hqz : (at_ : Int) % (S.size : Int) = (q : Int) := by rw [hq]; rfl
        have hqi : (q : Int) < (S.size : Int) := by omega
        have hsnz : ¬ (S.size : Int) = 0 := by omega
        clear hq hXW
        go_upto_region 14 with fail
        obtain ⟨cp, hcp⟩ : ∃ cp, cp = grownCap wc S.size 0 5 := ⟨_, rfl⟩
        rw [← hcp]
        have F1 := bytesAt_new wc S cp 5 (bytesRow S cp).size
        have F2 := frozen_new wc S cp 5 q hql
        have F3 : Below w.heap.size w (wc.alloc (.cells (bytesRow S cp) 5 ((bytesRow S cp).size, (bytesRow S cp).size + 1))).drew := (B6.out.alloc B6.out.size _).drew
        have F4 : wc.heap.size < (wc.alloc (.cells (bytesRow S cp) 5 ((bytesRow S cp).size, (bytesRow S cp).size + 1))).drew.heap.size := by show _ < (World.alloc _ _).heap.size; simp
        have F5 := B6.out.size
        obtain ⟨g, hg⟩ : ∃ g, g = wc.heap.size := ⟨_, rfl⟩
        rw [← hg] at F1 F2 F4 F5
        rw [← hg]
        obtain ⟨w7, hw7⟩ : ∃ w7, w7 = (wc.alloc (.cells (bytesRow S cp) 5 ((bytesRow S cp).size, (bytesRow S cp).size + 1))).drew := ⟨_, rfl⟩
        rw [← hw7] at F1 F2 F3 F4
        rw [← hw7]
        rw [HSL.out] at F1
        have hqL : q < L.length := by rw [← HSS.out]; exact hql
        obtain ⟨x, hx⟩ : ∃ x, L[q]? = some x := ⟨_, List.getElem?_eq_getElem hqL⟩
        have hcell := F1 q x hx
        obtain ⟨z, hz⟩ := xor_byte x by_ hby8
        have G1 := Lib.hid (bytesAt_set F1 hqL z)
        have G2 := Lib.hid (F3.setCell (p := ⟨g, q, none⟩) F5 (.int .u8 (z.toNat : Int)))
        have G3 := Lib.hid (show g < (w7.setCell ⟨g, q, none⟩ (.int .u8 (z.toNat : Int))).heap.size by rw [World.setCell]; simpa using F4)
        clear hw7 hg hcp F1 F3 F4 hx hcv
        go_upto_region 15 with fail
        obtain ⟨w8, hw8⟩ : ∃ w8, w8 = w7.setCell ⟨g, q, none⟩ (.int .u8 (z.toNat : Int)) := ⟨_, rfl⟩
        rw [← hw8] at G1 G2 G3
        rw [← hw8]
        clear hw8
        obtain ⟨L2, hL2⟩ : ∃ L2, L2 = L.set q z := ⟨_, rfl⟩
        have hL2s : L2.length = S.size := by rw [hL2, List.length_set, HSS.out]
        rw [← hL2] at G1
        obtain ⟨S2, hS2⟩ : ∃ S2 : ByteArray, S2 = ⟨L2.toArray⟩ := ⟨_, rfl⟩
        have hS2s : S2.size ≤ 100000 := by
          rw [hS2]; show L2.toArray.size ≤ 100000
          rw [List.size_toArray, hL2s, HSS.out]
          have := HLS.out.2; omega
        have hu := Lib.hid (fun w => HU.out S2 w hS2s)
        have hr := Lib.hid (refUnpack_any S2 hS2s)
        obtain ⟨X2, hX2⟩ : ∃ X : ByteArray, X = ⟨(unp S2.data.toList).1.toArray⟩ := ⟨_, rfl⟩
        obtain ⟨E2, hE2⟩ : ∃ E : Int, E = (unp S2.data.toList).2 := ⟨_, rfl⟩
        rw [← hX2, ← hE2] at hu hr
        have hback := Lib.hid (fun (W : World) (h : Below w8.heap.size w8 W) => bytesAt_back (cap := cp) (bytesAt_below G1.out G3.out h) hL2s)
        rw [← hS2] at hback
        have hcv8 := hback.out w8 (Below.refl _ _)
        clear hX2 hE2 hS2 hL2 hL2s hcell hz hsnz hqi hqz F2
        go_wp2_with (first
          | (go_at_call 9; refine (hu.out _).mono ?_; rintro e w9 ⟨rfl, hb9⟩; have hcv9 := hback.out w9 hb9)
          | (go_at_call 10; refine (hr.out _).mono ?_; rintro e w10 ⟨rfl, hb10⟩))
        go_ret
        exact ⟨rfl, (G2.out.trans (hb9.mono G2.out.size)).trans (hb10.mono (Nat.le_trans G2.out.size hb9.size))⟩
end Go.Proofs.Ytdkkbplkclcabaa
