/-
  The walk of the document's Right.
-/
import Derived.Test.YtkcbbcabfbkclaaMsgBytes
namespace Go.Proofs.Ytkcbbcabfbkclaa
open Go.RowKit
set_option linter.unusedVariables false
set_option linter.unnecessarySimpa false
set_option linter.unusedSimpArgs false
set_option maxRecDepth 100000

def numL (m : Mg) : List Int := [m.frm, m.to_, m.node, m.life, m.seq]
theorem nums_yes {m : Mg} (h : ∀ i, i < 5 → in31 ((numL m).getD i 0) = true) : nums31 m = true := by
  have h0 := h 0 (by omega)
  have h1 := h 1 (by omega)
  have h2 := h 2 (by omega)
  have h3 := h 3 (by omega)
  have h4 := h 4 (by omega)
  simp only [numL, List.getD_cons_zero, List.getD_cons_succ] at h0 h1 h2 h3 h4
  unfold nums31
  rw [h0, h1, h2, h3, h4]
  rfl
theorem nums_no {m : Mg} {i : Nat} (hi : i < 5) (h : in31 ((numL m).getD i 0) = false) : rightB m = false := by
  have : nums31 m = false := by
    have : i = 0 ∨ i = 1 ∨ i = 2 ∨ i = 3 ∨ i = 4 := by omega
    unfold nums31
    rcases this with rfl | rfl | rfl | rfl | rfl
    all_goals simp only [numL, List.getD_cons_zero, List.getD_cons_succ] at h
    all_goals rw [h]
    all_goals simp
  unfold rightB
  rw [this]
  rfl
theorem numL_fits {m : Mg} (h : m.fits) (i : Nat) : -9223372036854775808 ≤ (numL m).getD i 0 ∧ (numL m).getD i 0 ≤ 9223372036854775807 := by
  match i with
  | 0 => exact h.frm
  | 1 => exact h.to_
  | 2 => exact h.node
  | 3 => exact h.life
  | 4 => exact h.seq
  | n + 5 => simp [numL]
theorem in31_no {n : Int} (h : in31 n = false) : n < 0 ∨ 2147483647 < n := by
  have := of_decide_eq_false h
  omega
theorem right_kind {m : Mg} (h : kindOK m = false) : rightB m = false := by unfold rightB; rw [h]; simp
theorem right_ver {m : Mg} (h : verOK m = false) : rightB m = false := by unfold rightB; rw [h]; simp
theorem right_many {m : Mg} (h : 8 < m.ws.length) : rightB m = false := by
  unfold rightB
  rw [decide_eq_false (show ¬ m.ws.length ≤ 8 by omega)]
  simp
theorem right_write {m : Mg} {i : Nat} (hi : i < m.ws.length) (h : wrOK (m.ws.getD i wr0) = false) : rightB m = false := by
  have : m.ws.all wrOK = false := by
    rw [List.all_eq_false]
    exact ⟨_, getD_mem hi, by rw [h]; decide⟩
  unfold rightB
  rw [this]
  simp
theorem right_last {m : Mg} (h1 : nums31 m = true) (h2 : kindOK m = true) (h3 : verOK m = true) (h4 : m.ws.length ≤ 8) (h5 : ∀ i, i < m.ws.length → wrOK (m.ws.getD i wr0) = true) : rightB m = decide ((msgB m 12).length ≤ 4000) := by
  have : m.ws.all wrOK = true := by
    rw [List.all_eq_true]
    intro x hx
    obtain ⟨i, hi, rfl⟩ := List.getElem_of_mem hx
    have := h5 i hi
    simpa [List.getD, List.getElem?_eq_getElem hi] using this
  unfold rightB
  rw [h1, h2, h3, this, decide_eq_true h4]
  simp

set_option maxHeartbeats 8000000 in
theorem refRight_any (m : Mg) (sl : Value) (hf : m.fits) (hw : m.few) (w : World) (hws : WsAt w sl m.ws) :
    Calls Try.prog 25 #[.agg (m.cells sl)] w fun e w' => e = .returned (.bool (rightB m)) ∧ Below w.heap.size w w' := by
  have HB := Lib.hid (fun (hs : m.sane) (W : World) (hW : WsAt W sl m.ws) => refBytes_any m sl hs 12 (by decide) W hW)
  have HWS := Lib.hid hws
  have HN := Lib.hid (fun i => numL_fits hf i)
  have HFEW := Lib.hid hw
  have HFIT := Lib.hid hf
  obtain ⟨p, len, cap, rfl, hl, hc⟩ := hws
  have HL := Lib.hid hl
  have HC := Lib.hid hc
  have hln : len ≤ 20 := by have := hw.ws; omega
  unfold Mg.cells at HB
  obtain ⟨M, hM⟩ : ∃ M, M = m := ⟨_, rfl⟩
  obtain ⟨kind, frm, to_, node, life, seq, a, b, key, found, time, gone, val, ws, note, hint, must⟩ := m
  simp only [← hM] at HB
  rw [← hM] at HN HFEW HFIT
  have hk1 := hf.kind
  simp only at hk1 HL HC HWS
  show Calls _ _ #[.agg #[.int .i64 kind, .int .i64 frm, .int .i64 to_, .int .i64 node, .int .i64 life, .int .i64 seq, .int .u64 a, .int .u64 b, .string key, .bool found, .int .u64 time, .bool gone, .string val, .slice p len cap, .string note, .int .u64 hint, .int .u64 must]] w _
  rw [← hM]
  have hnum : numL M = [frm, to_, node, life, seq] := by rw [hM]; rfl
  have hkind : kindOK M = decide (1 ≤ kind ∧ kind ≤ 9) := by rw [hM]; rfl
  have hver : verOK M = !(gone && val.size != 0) := by rw [hM]; rfl
  have HWL := Lib.hid (show M.ws = ws by rw [hM])
  have HNUM := Lib.hid hnum
  have HKIND := Lib.hid hkind
  have HVER := Lib.hid hver
  have HK0 := Lib.hid (show M.kind = kind by rw [hM])
  clear hM hf hw hl hc hnum hkind hver
  go_enter Try.func25, Try.ntmps25
  go_upto_region 2 with fail
  have hbox : ((w.alloc (.cells #[.int .i64 kind, .int .i64 frm, .int .i64 to_, .int .i64 node, .int .i64 life, .int .i64 seq, .int .u64 a, .int .u64 b, .string key, .bool found, .int .u64 time, .bool gone, .string val, .slice p len cap, .string note, .int .u64 hint, .int .u64 must] 29)).alloc (.cells #[.int .i64 frm, .int .i64 to_, .int .i64 node, .int .i64 life, .int .i64 seq] 99)).heap[w.heap.size]? = some (.cells #[.int .i64 kind, .int .i64 frm, .int .i64 to_, .int .i64 node, .int .i64 life, .int .i64 seq, .int .u64 a, .int .u64 b, .string key, .bool found, .int .u64 time, .bool gone, .string val, .slice p len cap, .string note, .int .u64 hint, .int .u64 must] 29 (0, 0)) := by
    rw [Below.heap_alloc _ _ _ (by simp)]; exact heap_alloc_new w _
  have harr : ((w.alloc (.cells #[.int .i64 kind, .int .i64 frm, .int .i64 to_, .int .i64 node, .int .i64 life, .int .i64 seq, .int .u64 a, .int .u64 b, .string key, .bool found, .int .u64 time, .bool gone, .string val, .slice p len cap, .string note, .int .u64 hint, .int .u64 must] 29)).alloc (.cells #[.int .i64 frm, .int .i64 to_, .int .i64 node, .int .i64 life, .int .i64 seq] 99)).heap[w.heap.size + 1]? = some (.cells #[.int .i64 frm, .int .i64 to_, .int .i64 node, .int .i64 life, .int .i64 seq] 99 (0, 0)) := by
    have := heap_alloc_new (w.alloc (.cells #[.int .i64 kind, .int .i64 frm, .int .i64 to_, .int .i64 node, .int .i64 life, .int .i64 seq, .int .u64 a, .int .u64 b, .string key, .bool found, .int .u64 time, .bool gone, .string val, .slice p len cap, .string note, .int .u64 hint, .int .u64 must] 29)) (.cells #[.int .i64 frm, .int .i64 to_, .int .i64 node, .int .i64 life, .int .i64 seq] 99)
    simpa using this
  have hbel : Below w.heap.size w ((w.alloc (.cells #[.int .i64 kind, .int .i64 frm, .int .i64 to_, .int .i64 node, .int .i64 life, .int .i64 seq, .int .u64 a, .int .u64 b, .string key, .bool found, .int .u64 time, .bool gone, .string val, .slice p len cap, .string note, .int .u64 hint, .int .u64 must] 29)).alloc (.cells #[.int .i64 frm, .int .i64 to_, .int .i64 node, .int .i64 life, .int .i64 seq] 99)) := ((Below.refl _ _).alloc (Nat.le_refl _) _).alloc (by simp) _
  obtain ⟨W2, hW2⟩ : ∃ W2, W2 = (w.alloc (.cells #[.int .i64 kind, .int .i64 frm, .int .i64 to_, .int .i64 node, .int .i64 life, .int .i64 seq, .int .u64 a, .int .u64 b, .string key, .bool found, .int .u64 time, .bool gone, .string val, .slice p len cap, .string note, .int .u64 hint, .int .u64 must] 29)).alloc (.cells #[.int .i64 frm, .int .i64 to_, .int .i64 node, .int .i64 life, .int .i64 seq] 99) := ⟨_, rfl⟩
  rw [← hW2] at hbox harr hbel
  rw [← hW2]
  have HBOX := Lib.hid hbox
  have HBEL := Lib.hid hbel
  have HCELL := Lib.hid (show ∀ i, i < 5 → W2.cell? ⟨w.heap.size + 1, i, none⟩ = some (.int .i64 ((numL M).getD i 0)) from fun i hi => by
    rw [HNUM.out]
    have : i = 0 ∨ i = 1 ∨ i = 2 ∨ i = 3 ∨ i = 4 := by omega
    rcases this with rfl | rfl | rfl | rfl | rfl <;> simp [World.cell?, harr])
  clear hW2 hbox harr hbel HNUM
  go_wp2_with fail
  go_loopg [4] 5 (fun q s4 wx => ∃ i : Nat, i + q = 5 ∧ s4 = .int .i64 i ∧ wx = W2 ∧ Hid (∀ j, j < i → in31 ((numL M).getD j 0) = true))
  case atStart => exact ⟨0, by omega, rfl, rfl, Lib.hid (fun j hj => absurd hj (Nat.not_lt_zero _))⟩
  case round =>
    obtain ⟨i, hiq, rfl, rfl, hin⟩ := hrel
    by_cases hlt : i < 5
    · obtain ⟨q, rfl⟩ : ∃ q, gk = q + 1 := ⟨gk - 1, by omega⟩
      have hiz : (i : Int) < 5 := by omega
      have hcell := HCELL.out i hlt
      have hz := HN.out i
      have hno := fun h => nums_no (m := M) (i := i) hlt h
      have HIN := Lib.hid (fun (h : in31 ((numL M).getD i 0) = true) => show ∀ j, j < i + 1 → in31 ((numL M).getD j 0) = true from fun j hj => by
        by_cases e : j = i
        · subst e; exact h
        · exact hin.out j (by omega))
      obtain ⟨z, ez⟩ : ∃ z, z = (numL M).getD i 0 := ⟨_, rfl⟩
      rw [← ez] at hcell hz hno HIN
      clear ez
      cases hb : in31 z
      · have hR := Lib.hid (hno hb)
        clear hno HIN
        rcases in31_no hb with h | h
        · clear hb
          go_wp2_with fail
          go_ret
          exact ⟨by rw [hR.out]; rfl, HBEL.out⟩
        · have h0 : ¬ z < 0 := by omega
          clear hb
          go_wp2_with fail
          go_ret
          exact ⟨by rw [hR.out]; rfl, HBEL.out⟩
      · have hyes := in31_yes hb
        obtain ⟨y1, y2⟩ := hyes
        have HIN2 := Lib.hid (HIN.out hb)
        clear hb hno HIN
        go_wp2_with fail
        go_roundg q
        case measure => omega
        case rel => exact ⟨i + 1, by omega, by simp, rfl, HIN2⟩
    · have hiz : ¬ (i : Int) < 5 := by omega
      have HN31 := Lib.hid (nums_yes (m := M) (fun j hj => hin.out j (by omega)))
      have c0 : wr.cell? ⟨w.heap.size, 0, none⟩ = some (.int .i64 kind) := by simp [World.cell?, HBOX.out]
      have c11 : wr.cell? ⟨w.heap.size, 11, none⟩ = some (.bool gone) := by simp [World.cell?, HBOX.out]
      have c12 : wr.cell? ⟨w.heap.size, 12, none⟩ = some (.string val) := by simp [World.cell?, HBOX.out]
      have c13 : wr.cell? ⟨w.heap.size, 13, none⟩ = some (.slice p len cap) := by simp [World.cell?, HBOX.out]
      by_cases hk : 1 ≤ kind
      · by_cases hk9 : kind ≤ 9
        · have HKOK := Lib.hid (show kindOK M = true by rw [HKIND.out]; exact decide_eq_true ⟨hk, hk9⟩)
          have hv : (gone = true ∧ ¬ val.size = 0) ∨ gone = false ∨ (gone = true ∧ val = ByteArray.empty) := by
            cases gone
            · exact .inr (.inl rfl)
            · by_cases h : val.size = 0
              · exact .inr (.inr ⟨rfl, ba_empty h⟩)
              · exact .inl ⟨rfl, h⟩
          have hk2 : ¬ kind < 1 := by omega
          have hk3 : ¬ 9 < kind := by omega
          rcases hv with ⟨rfl, h⟩ | hv
          · have hR := Lib.hid (right_ver (m := M) (by rw [HVER.out]; simp [h]))
            obtain ⟨k1, k2, k3⟩ := ba_some h
            clear h
            go_wp2_with fail
            go_ret
            exact ⟨by rw [hR.out]; rfl, HBEL.out⟩
          · have HVOK := Lib.hid (show verOK M = true by
              rw [HVER.out]
              rcases hv with rfl | ⟨rfl, rfl⟩ <;> rfl)
            clear HVER HKIND
            by_cases h8 : len ≤ 8
            · have HSA := Lib.hid (show M.sane from ⟨by rw [HK0.out]; omega, HN31.out, HFIT.out, HFEW.out⟩)
              obtain ⟨wo, hwo⟩ : ∃ wo : World, wo = wr := ⟨_, rfl⟩
              rw [← hwo] at c0 c11 c12 c13 HBOX HBEL HCELL
              rw [← hwo]
              clear hwo hin
              rcases hv with rfl | ⟨rfl, rfl⟩
              all_goals
                go_wp2_with fail
                go_loopg [5] len (fun q s5 wx => ∃ i : Nat, i + q = len ∧ s5 = .int .i64 i ∧ wx = wo ∧ Hid (∀ j, j < i → wrOK (ws.getD j wr0) = true))
                case atStart => exact ⟨0, by omega, rfl, rfl, Lib.hid (fun j hj => absurd hj (Nat.not_lt_zero _))⟩
                case round =>
                  obtain ⟨i, hiq, rfl, rfl, hin⟩ := hrel
                  by_cases hlt : i < len
                  · obtain ⟨q, rfl⟩ : ∃ q, gk = q + 1 := ⟨gk - 1, by omega⟩
                    have hiz : (i : Int) < (len : Int) := by omega
                    obtain ⟨bq, off, rfl, hbl, d0', d1', d2'⟩ := HC.out i hlt
                    have hno := fun h => right_write (m := M) (i := i) (by rw [HWL.out, HL.out]; exact hlt) h
                    rw [HWL.out] at hno
                    have HIN := Lib.hid (fun (h : wrOK (ws.getD i wr0) = true) => show ∀ j, j < i + 1 → wrOK (ws.getD j wr0) = true from fun j hj => by
                      by_cases e : j = i
                      · subst e; exact h
                      · exact hin.out j (by omega))
                    obtain ⟨z, hz⟩ : ∃ z, z = ws.getD i wr0 := ⟨_, rfl⟩
                    rw [← hz] at d0' d1' d2' hno HIN
                    obtain ⟨zk, zg, zv⟩ := z
                    simp only at d0' d1' d2'
                    have d1 := (HBEL.out.cell (p := ⟨bq, off + i * 3 + 1, none⟩) hbl).trans d1'
                    have d2 := (HBEL.out.cell (p := ⟨bq, off + i * 3 + 2, none⟩) hbl).trans d2'
                    clear hz d0' d1' d2'
                    cases zg
                    · have HIN2 := Lib.hid (HIN.out rfl)
                      clear hno HIN
                      go_wp2_with fail
                      go_roundg q
                      case measure => omega
                      case rel => exact ⟨i + 1, by omega, by simp, rfl, HIN2⟩
                    · by_cases hvz : zv.size = 0
                      · obtain rfl := ba_empty hvz
                        have HIN2 := Lib.hid (HIN.out rfl)
                        clear hno HIN hvz
                        go_wp2_with fail
                        go_roundg q
                        case measure => omega
                        case rel => exact ⟨i + 1, by omega, by simp, rfl, HIN2⟩
                      · have hR := Lib.hid (hno (by unfold wrOK; simp [hvz]))
                        obtain ⟨k1, k2, k3⟩ := ba_some hvz
                        clear hno HIN hvz
                        go_wp2_with fail
                        go_ret
                        exact ⟨by rw [hR.out]; rfl, HBEL.out⟩
                  · have hiz : ¬ (i : Int) < (len : Int) := by omega
                    have hR := right_last (m := M) HN31.out HKOK.out HVOK.out (by rw [HWL.out, HL.out]; exact h8) (fun j hj => by rw [HWL.out]; exact hin.out j (by rw [HWL.out, HL.out] at hj; omega))
                    have hby := HB.out HSA.out wr (HWS.out.below HBEL.out)
                    obtain ⟨Z, hZ⟩ : ∃ Z : ByteArray, Z = ⟨(msgB M 12).toArray⟩ := ⟨_, rfl⟩
                    have hZs : Z.size = (msgB M 12).length := by rw [hZ]; exact List.size_toArray
                    rw [← hZ] at hby
                    rw [← hZs] at hR
                    have HBY := Lib.hid hby
                    have HRR := Lib.hid hR
                    clear hby hR hZ hZs hin
                    by_cases h4 : Z.size ≤ 4000
                    · have h4z : (Z.size : Int) ≤ 4000 := by omega
                      have HD := Lib.hid (decide_eq_true h4)
                      go_wp2_with (first
                        | (refine wpList_load_row rfl 29 _ rfl w.heap.size rfl 29 _ (0, 0) _ HBOX.out Try.underlying29 rfl msg_size ?_)
                        | (go_at_call 13; refine HBY.out.mono ?_; rintro e w5 ⟨rfl, hb5⟩))
                      go_ret
                      exact ⟨by rw [HRR.out, HD.out]; rfl, HBEL.out.trans (hb5.mono HBEL.out.size)⟩
                    · have h4z : decide ((Z.size : Int) ≤ 4000) = false := decide_eq_false (by omega)
                      have HD := Lib.hid (decide_eq_false h4)
                      go_wp2_with (first
                        | (refine wpList_load_row rfl 29 _ rfl w.heap.size rfl 29 _ (0, 0) _ HBOX.out Try.underlying29 rfl msg_size ?_)
                        | (go_at_call 13; refine HBY.out.mono ?_; rintro e w5 ⟨rfl, hb5⟩))
                      go_ret
                      exact ⟨by rw [HRR.out, HD.out]; rfl, HBEL.out.trans (hb5.mono HBEL.out.size)⟩
            · have hR := Lib.hid (right_many (m := M) (by rw [HWL.out, HL.out]; omega))
              have h8z : (8 : Int) < (len : Int) := by omega
              rcases hv with rfl | ⟨rfl, rfl⟩
              all_goals
                go_wp2_with fail
                go_ret
                exact ⟨by rw [hR.out]; rfl, HBEL.out⟩
        · have hR := Lib.hid (right_kind (m := M) (by rw [HKIND.out]; exact decide_eq_false (fun h => hk9 h.2)))
          go_wp2_with fail
          go_ret
          exact ⟨by rw [hR.out]; rfl, HBEL.out⟩
      · have hR := Lib.hid (right_kind (m := M) (by rw [HKIND.out]; exact decide_eq_false (fun h => hk h.1)))
        go_wp2_with fail
        go_ret
        exact ⟨by rw [hR.out]; rfl, HBEL.out⟩
end Go.Proofs.Ytkcbbcabfbkclaa
