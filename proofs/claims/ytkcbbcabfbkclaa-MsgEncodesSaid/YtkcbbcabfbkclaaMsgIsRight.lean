/-
  The walks of the program's areNumbers, isGoneRight, textsLength, isShort, isRight.
-/
import Derived.Test.YtkcbbcabfbkclaaMsgBytesOf
namespace Go.Proofs.Ytkcbbcabfbkclaa
open Go.RowKit
set_option linter.unusedVariables false
set_option linter.unnecessarySimpa false
set_option linter.unusedSimpArgs false
set_option maxRecDepth 100000

/-- A message's cells under one name. -/
structure CellsOf (C : Array Value) (m : Mg) (sl : Value) : Prop where
  is : C = m.cells sl
theorem CellsOf.size {C : Array Value} {m : Mg} {sl : Value} (h : CellsOf C m sl) : C.size = 17 := by rw [h.is]; rfl
theorem CellsOf.at0 {C : Array Value} {m : Mg} {sl : Value} (h : CellsOf C m sl) : C[0]? = some (.int .i64 m.kind) := by rw [h.is]; rfl
theorem CellsOf.at1 {C : Array Value} {m : Mg} {sl : Value} (h : CellsOf C m sl) : C[1]? = some (.int .i64 m.frm) := by rw [h.is]; rfl
theorem CellsOf.at2 {C : Array Value} {m : Mg} {sl : Value} (h : CellsOf C m sl) : C[2]? = some (.int .i64 m.to_) := by rw [h.is]; rfl
theorem CellsOf.at3 {C : Array Value} {m : Mg} {sl : Value} (h : CellsOf C m sl) : C[3]? = some (.int .i64 m.node) := by rw [h.is]; rfl
theorem CellsOf.at4 {C : Array Value} {m : Mg} {sl : Value} (h : CellsOf C m sl) : C[4]? = some (.int .i64 m.life) := by rw [h.is]; rfl
theorem CellsOf.at5 {C : Array Value} {m : Mg} {sl : Value} (h : CellsOf C m sl) : C[5]? = some (.int .i64 m.seq) := by rw [h.is]; rfl
theorem CellsOf.at8 {C : Array Value} {m : Mg} {sl : Value} (h : CellsOf C m sl) : C[8]? = some (.string m.key) := by rw [h.is]; rfl
theorem CellsOf.at11 {C : Array Value} {m : Mg} {sl : Value} (h : CellsOf C m sl) : C[11]? = some (.bool m.gone) := by rw [h.is]; rfl
theorem CellsOf.at12 {C : Array Value} {m : Mg} {sl : Value} (h : CellsOf C m sl) : C[12]? = some (.string m.val) := by rw [h.is]; rfl
theorem CellsOf.at13 {C : Array Value} {m : Mg} {sl : Value} (h : CellsOf C m sl) : C[13]? = some sl := by rw [h.is]; rfl
theorem CellsOf.at14 {C : Array Value} {m : Mg} {sl : Value} (h : CellsOf C m sl) : C[14]? = some (.string m.note) := by rw [h.is]; rfl
theorem cell_row {w : World} {g k : Nat} {C : Array Value} {t : TypeId} {fr : Nat × Nat} {v : Value} (h : w.heap[g]? = some (.cells C t fr)) (hc : C[k]? = some v) : w.cell? ⟨g, k, none⟩ = some v := by
  simp only [World.cell?, h]; exact hc

def numsL (m : Mg) : List Int := [m.frm, m.to_, m.node, m.life, m.seq]
theorem numsL_all (m : Mg) : (numsL m).all in31 = nums31 m := by
  unfold numsL nums31
  simp [Bool.and_assoc]
theorem all_false {l : List Int} {i : Nat} {z : Int} (h : l[i]? = some z) (hz : in31 z = false) : l.all in31 = false := by
  rw [List.all_eq_false]
  exact ⟨z, List.mem_of_getElem? h, by rw [hz]; decide⟩
theorem all_true {l : List Int} {i : Nat} (h : ∀ j, j < i → ∀ z, l[j]? = some z → in31 z = true) (hi : l.length ≤ i) : l.all in31 = true := by
  rw [List.all_eq_true]
  intro z hz
  obtain ⟨j, hj, e⟩ := List.getElem_of_mem hz
  exact h j (by omega) z (by rw [List.getElem?_eq_getElem hj, e])
theorem ret_bool {a b : Bool} (h : a = b) : Ending.returned (.bool a) = .returned (.bool b) := by rw [h]

set_option maxHeartbeats 4000000 in
theorem areNumbers_any (m : Mg) (sl : Value) (w : World) : Calls Try.prog 65 #[.agg (m.cells sl)] w fun e w' => e = .returned (.bool (nums31 m)) ∧ Below w.heap.size w w' := by
  obtain ⟨C, hC⟩ : ∃ C, C = m.cells sl := ⟨_, rfl⟩
  have HC : CellsOf C m sl := ⟨hC⟩
  have HA := Lib.hid (numsL_all m)
  obtain ⟨N, hN⟩ : ∃ N, N = nums31 m := ⟨_, rfl⟩
  rw [← hC, ← hN]
  rw [← hN] at HA
  have h1 := HC.at1
  have h2 := HC.at2
  have h3 := HC.at3
  have h4 := HC.at4
  have h5 := HC.at5
  unfold numsL at HA
  obtain ⟨kind, frm, to_, node, life, seq, a, b, key, found, time, gone, val, ws, note, hint, must⟩ := m
  simp only at h1 h2 h3 h4 h5 HA
  clear HC hC hN
  obtain ⟨ZS, hZS⟩ : ∃ ZS, ZS = [frm, to_, node, life, seq] := ⟨_, rfl⟩
  have hzl := Lib.hid (show ZS.length = 5 by rw [hZS]; rfl)
  have hcells := Lib.hid (show ∀ (i : Nat) z, ZS[i]? = some z → (#[.int .i64 frm, .int .i64 to_, .int .i64 node, .int .i64 life, .int .i64 seq] : Array Value)[i]? = some (.int .i64 z) from fun i z h => by
    rw [hZS] at h
    have : (#[.int .i64 frm, .int .i64 to_, .int .i64 node, .int .i64 life, .int .i64 seq] : Array Value) = ([frm, to_, node, life, seq].map (Value.int .i64)).toArray := rfl
    rw [this, List.getElem?_toArray, List.getElem?_map, h]; rfl)
  rw [← hZS] at HA
  clear hZS
  go_enter Try.func65, Try.ntmps65
  go_upto_region 1 with fail
  obtain ⟨G, hG⟩ : ∃ G, G = w.heap.size := ⟨_, rfl⟩
  obtain ⟨W1, hW1⟩ : ∃ W1, W1 = w.alloc (.cells C 29) := ⟨_, rfl⟩
  have hrow : W1.heap[G]? = some (.cells C 29 (0, 0)) := by rw [hW1, hG]; exact heap_alloc_new w _
  have HB1 := Lib.hid (show Below w.heap.size w W1 by rw [hW1]; exact (Below.refl _ _).alloc (Nat.le_refl _) _)
  rw [← hW1, ← hG]
  have c1 := cell_row hrow h1
  have c2 := cell_row hrow h2
  have c3 := cell_row hrow h3
  have c4 := cell_row hrow h4
  have c5 := cell_row hrow h5
  obtain ⟨P, hP⟩ : ∃ P, P = W1.heap.size := ⟨_, rfl⟩
  obtain ⟨W2, hW2⟩ : ∃ W2, W2 = W1.alloc (.cells #[.int .i64 frm, .int .i64 to_, .int .i64 node, .int .i64 life, .int .i64 seq] 3) := ⟨_, rfl⟩
  have HR2 := Lib.hid (show W2.heap[P]? = some (.cells #[.int .i64 frm, .int .i64 to_, .int .i64 node, .int .i64 life, .int .i64 seq] 3 (0, 0)) by rw [hW2, hP]; exact heap_alloc_new W1 _)
  have HB2 := Lib.hid (show Below w.heap.size w W2 by rw [hW2]; exact HB1.out.alloc HB1.out.size _)
  have HW2 := Lib.hid hW2
  have HP := Lib.hid hP
  clear hW1 hG hrow h1 h2 h3 h4 h5 hW2 hP
  go_wp2_with fail
  rw [← HW2.out, ← HP.out]
  clear c1 c2 c3 c4 c5 HW2 HP HB1
  go_loopg [4, 20] 5 (fun q s4 s20 wx => ∃ i : Nat, i + q = 5 ∧ s20 = .int .i64 i ∧ Hid (∀ j, j < i → ∀ z, ZS[j]? = some z → in31 z = true) ∧ wx = W2)
  case atStart => exact ⟨0, rfl, rfl, Lib.hid (fun j hj => by omega), rfl⟩
  case round =>
    obtain ⟨i, hiq, rfl, HJ, rfl⟩ := hrel
    by_cases hlt : i < 5
    · obtain ⟨q, rfl⟩ : ∃ q, gk = q + 1 := ⟨gk - 1, by omega⟩
      have hiz : (i : Int) < 5 := by omega
      obtain ⟨z, hz⟩ : ∃ z, ZS[i]? = some z := ⟨_, List.getElem?_eq_getElem (by rw [hzl.out]; exact hlt)⟩
      have c0 := cell_row HR2.out (hcells.out i z hz)
      have HZ := Lib.hid hz
      clear hz
      by_cases h1 : z < 0
      · have e1 : decide (z < 0) = true := decide_eq_true h1
        have hfin := Lib.hid (show false = N by rw [← HA.out]; exact (all_false HZ.out (by unfold in31; rw [decide_eq_false (by omega)])).symm)
        clear h1
        go_wp2_with fail
        go_ret
        exact ⟨ret_bool hfin.out, HB2.out⟩
      · have e1 : decide (z < 0) = false := decide_eq_false h1
        by_cases h2 : z ≤ 2147483647
        · have e2 : decide (2147483647 < z) = false := decide_eq_false (by omega)
          have hone := Lib.hid (show in31 z = true by unfold in31; rw [decide_eq_true (by omega)])
          clear h1 h2
          go_wp2_with fail
          go_roundg q
          case measure => omega
          case rel =>
            refine ⟨i + 1, by omega, by simp, Lib.hid (fun j hj y hy => ?_), rfl⟩
            by_cases hji : j = i
            · subst hji
              rw [HZ.out] at hy
              injection hy with hy
              rw [← hy]
              exact hone.out
            · exact HJ.out j (by omega) y hy
        · have e2 : decide (2147483647 < z) = true := decide_eq_true (by omega)
          have hfin := Lib.hid (show false = N by rw [← HA.out]; exact (all_false HZ.out (by unfold in31; rw [decide_eq_false (by omega)])).symm)
          clear h1 h2
          go_wp2_with fail
          go_ret
          exact ⟨ret_bool hfin.out, HB2.out⟩
    · have hiz : ¬ (i : Int) < 5 := by omega
      have hfin := Lib.hid (show true = N by rw [← HA.out]; exact (all_true HJ.out (by rw [hzl.out]; omega)).symm)
      go_wp2_with fail
      go_ret
      exact ⟨ret_bool hfin.out, HB2.out⟩

/-- A write out of a slice of writes. -/
theorem WsAt.get {W : World} {v : Value} {l : List Wr} (h : WsAt W v l) : ∃ a cap, v = .slice a l.length cap ∧ ∀ (i : Nat) (z : Wr), l[i]? = some z → ∃ b off, a = some ⟨b, off, none⟩ ∧ b < W.heap.size ∧
    W.cell? ⟨b, off + i * 3, none⟩ = some (.string z.key) ∧ W.cell? ⟨b, off + i * 3 + 1, none⟩ = some (.bool z.gone) ∧ W.cell? ⟨b, off + i * 3 + 2, none⟩ = some (.string z.val) := by
  obtain ⟨a, len, cap, h1, h2, h3⟩ := h
  subst h2
  refine ⟨a, cap, h1, fun i f hf => ?_⟩
  have hi : i < l.length := (List.getElem?_eq_some_iff.1 hf).1
  have := h3 i hi
  rw [show l.getD i wr0 = f by simp [List.getD, hf]] at this
  exact this
theorem ws_false {l : List Wr} {i : Nat} {z : Wr} (h : l[i]? = some z) (hz : wrOK z = false) : l.all wrOK = false := by
  rw [List.all_eq_false]
  exact ⟨z, List.mem_of_getElem? h, by rw [hz]; decide⟩
theorem ws_true {l : List Wr} {i : Nat} (h : ∀ j, j < i → ∀ z, l[j]? = some z → wrOK z = true) (hi : l.length ≤ i) : l.all wrOK = true := by
  rw [List.all_eq_true]
  intro z hz
  obtain ⟨j, hj, e⟩ := List.getElem_of_mem hz
  exact h j (by omega) z (by rw [List.getElem?_eq_getElem hj, e])
theorem str_empty {s : ByteArray} (h : s.size = 0) : s.toList.isEmpty = true := by rw [toList_empty]; exact decide_eq_true h
theorem str_full {s : ByteArray} (h : ¬ s.size = 0) : s.toList.isEmpty = false := by rw [toList_empty]; exact decide_eq_false h
theorem str_list {s : ByteArray} (h : s.size = 0) : s.toList = [] := by have := str_empty h; simpa using this

set_option maxHeartbeats 4000000 in
theorem isGoneRight_any (m : Mg) (sl : Value) (hl : m.ws.length ≤ 1000) (w : World) (hws : WsAt w sl m.ws) : Calls Try.prog 66 #[.agg (m.cells sl)] w fun e w' => e = .returned (.bool (m.ws.all wrOK && verOK m)) ∧ Below w.heap.size w w' := by
  obtain ⟨C, hC⟩ : ∃ C, C = m.cells sl := ⟨_, rfl⟩
  have HC : CellsOf C m sl := ⟨hC⟩
  rw [← hC]
  have h11 := HC.at11
  have h12 := HC.at12
  have h13 := HC.at13
  obtain ⟨p, cap, rfl, hget⟩ := hws.get
  have HG := Lib.hid hget
  have HV := Lib.hid (show verOK m = !(m.gone && m.val.size != 0) from rfl)
  obtain ⟨V, hV⟩ : ∃ V, V = verOK m := ⟨_, rfl⟩
  rw [← hV] at HV ⊢
  clear HC hC hV hget hws
  obtain ⟨kind, frm, to_, node, life, seq, a, b, key, found, time, gone, val, ws, note, hint, must⟩ := m
  simp only at h11 h12 h13 HG HV hl
  obtain ⟨len, hlen⟩ : ∃ len, len = ws.length := ⟨_, rfl⟩
  have HL := Lib.hid hlen
  show Calls _ _ _ w fun e w' => e = .returned (.bool (ws.all wrOK && V)) ∧ Below w.heap.size w w'
  rw [← hlen] at h13 hl
  clear hlen
  go_enter Try.func66, Try.ntmps66
  go_upto_region 1 with fail
  obtain ⟨G, hG⟩ : ∃ G, G = w.heap.size := ⟨_, rfl⟩
  obtain ⟨W1, hW1⟩ : ∃ W1, W1 = w.alloc (.cells C 29) := ⟨_, rfl⟩
  have hrow : W1.heap[G]? = some (.cells C 29 (0, 0)) := by rw [hW1, hG]; exact heap_alloc_new w _
  have HB1 := Lib.hid (show Below w.heap.size w W1 by rw [hW1]; exact (Below.refl _ _).alloc (Nat.le_refl _) _)
  rw [← hW1, ← hG]
  have c13 := cell_row hrow h13
  have HROW := Lib.hid hrow
  have HGL := Lib.hid (Array.getElem?_eq_some_iff.1 hrow).1
  have H11 := Lib.hid h11
  have H12 := Lib.hid h12
  clear hW1 hG hrow h11 h12 h13
  go_wp2_with fail
  clear c13
  go_loopg [4, 8] len (fun q s4 s8 wx => ∃ i : Nat, i + q = len ∧ s8 = .int .i64 i ∧ Hid (∀ j, j < i → ∀ z, ws[j]? = some z → wrOK z = true) ∧ Hid (Below W1.heap.size W1 wx))
  case atStart => exact ⟨0, by omega, rfl, Lib.hid (fun j hj => by omega), Lib.hid (Below.refl _ _)⟩
  case round =>
    obtain ⟨i, hiq, rfl, HJ, HB⟩ := hrel
    by_cases hlt : i < len
    · obtain ⟨q, rfl⟩ : ∃ q, gk = q + 1 := ⟨gk - 1, by omega⟩
      have hiz : (i : Int) < (len : Int) := by omega
      obtain ⟨z, hz⟩ : ∃ z, ws[i]? = some z := ⟨_, List.getElem?_eq_getElem (by rw [← HL.out]; exact hlt)⟩
      obtain ⟨bq, off, rfl, hbl, d0', d1', d2'⟩ := HG.out i z hz
      have hbw := HB1.out.trans (HB.out.mono HB1.out.size)
      have d0 := (hbw.cell (p := ⟨bq, off + i * 3, none⟩) hbl).trans d0'
      have d1 := (hbw.cell (p := ⟨bq, off + i * 3 + 1, none⟩) hbl).trans d1'
      have d2 := (hbw.cell (p := ⟨bq, off + i * 3 + 2, none⟩) hbl).trans d2'
      have HZ := Lib.hid hz
      have HW := Lib.hid hbw
      have hok := Lib.hid (show wrOK z = !(z.gone && z.val.size != 0) from rfl)
      obtain ⟨zk, zg, zv⟩ := z
      simp only at d0 d1 d2 hok
      clear hz d0' d1' d2' hbw hbl
      have HB2 := Lib.hid (HB.out.alloc HB.out.size (.cells #[.string zk, .bool zg, .string zv] 56))
      have HW2 := Lib.hid (HW.out.alloc HW.out.size (.cells #[.string zk, .bool zg, .string zv] 56))
      have next : wrOK ⟨zk, zg, zv⟩ = true → ∀ j, j < i + 1 → ∀ z, ws[j]? = some z → wrOK z = true := fun h j hj y hy => by
        by_cases hji : j = i
        · subst hji
          rw [HZ.out] at hy
          injection hy with hy
          rw [← hy]
          exact h
        · exact HJ.out j (by omega) y hy
      cases zg with
      | false =>
        have HN := Lib.hid (next (by rw [hok.out]; rfl))
        clear next hok
        go_wp2_with fail
        go_roundg q
        case measure => omega
        case rel => exact ⟨i + 1, by omega, by simp, HN, HB2⟩
      | true =>
        by_cases h0 : zv.size = 0
        · have HN := Lib.hid (next (by rw [hok.out, h0]; rfl))
          have e1 := str_empty h0
          have e2 := str_list h0
          clear next hok h0
          go_wp2_with fail
          go_roundg q
          case measure => omega
          case rel => exact ⟨i + 1, by omega, by simp, HN, HB2⟩
        · have hfin := Lib.hid (show false = (ws.all wrOK && V) by rw [ws_false HZ.out (by rw [hok.out]; simp [h0])]; rfl)
          have e1 := str_full h0
          have e2 : ¬ zv.toList = [] := by simpa using e1
          clear next hok h0
          go_wp2_with fail
          go_ret
          exact ⟨ret_bool hfin.out, HW2.out⟩
    · have hiz : ¬ (i : Int) < (len : Int) := by omega
      have hall := Lib.hid (ws_true HJ.out (by rw [← HL.out]; omega))
      have hrow := (HB.out.block G HGL.out).trans HROW.out
      have c11 := cell_row hrow H11.out
      have c12 := cell_row hrow H12.out
      have HW := Lib.hid (HB1.out.trans (HB.out.mono HB1.out.size))
      clear hrow
      cases gone with
      | false =>
        have hfin := Lib.hid (show true = (ws.all wrOK && V) by rw [hall.out, HV.out]; rfl)
        go_wp2_with fail
        go_ret
        exact ⟨ret_bool hfin.out, HW.out⟩
      | true =>
        by_cases h0 : val.size = 0
        · have hfin := Lib.hid (show true = (ws.all wrOK && V) by rw [hall.out, HV.out, h0]; rfl)
          have e1 := str_empty h0
          have e2 := str_list h0
          clear h0
          go_wp2_with fail
          go_ret
          exact ⟨ret_bool hfin.out, HW.out⟩
        · have hfin := Lib.hid (show false = (ws.all wrOK && V) by rw [hall.out, HV.out]; simp [h0])
          have e1 := str_full h0
          have e2 : ¬ val.toList = [] := by simpa using e1
          clear h0
          go_wp2_with fail
          go_ret
          exact ⟨ret_bool hfin.out, HW.out⟩
end Go.Proofs.Ytkcbbcabfbkclaa
