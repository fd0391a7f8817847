/-
  Joined: MsgFew, MsgContracts.
-/
import Derived.Test.YtbhlgceicfjncaaSet09
import Derived.Test.YtbhlgceicfjncaaSet15
import Derived.ProofKit
import Derived.OpenShut
namespace Go.Proofs.Ytbhlgceicfjncaa
open Go.RowKit
set_option linter.unusedVariables false
set_option linter.unnecessarySimpa false
set_option linter.unusedSimpArgs false
set_option maxRecDepth 100000

/-- A message that is looked at. -/
def FewP (m : Mg) : Prop := m.ws.length ≤ 20 ∧ m.key.size ≤ 5000 ∧ m.note.size ≤ 5000 ∧ m.key.size + m.note.size + m.val.size ≤ 12000 ∧ ∀ i, i < m.ws.length → (m.ws.getD i wr0).key.size ≤ 5000 ∧ (m.ws.getD i wr0).val.size ≤ 5000
theorem FewP.few {m : Mg} (h : FewP m) : m.few := ⟨h.2.1, h.2.2.1, by have := h.2.2.2.1; omega, h.1, fun x hx => by
  obtain ⟨i, hi, rfl⟩ := List.getElem_of_mem hx
  have := h.2.2.2.2 i hi
  simpa [List.getD, List.getElem?_eq_getElem hi] using this⟩
/-- What Few answers. -/
def FewOutM (m : Mg) (w : World) (e : Ending) (w' : World) : Prop := ∃ b, e = .returned (.bool b) ∧ Hid (b = true ↔ FewP m) ∧ Below w.heap.size w w'
theorem FewOutM.no {m : Mg} {w w' : World} (hn : ¬ FewP m) (h : Below w.heap.size w w') : FewOutM m w (.returned (.bool false)) w' := ⟨false, rfl, Lib.hid ⟨fun h => (by cases h), fun h => absurd h hn⟩, h⟩
theorem FewOutM.yes {m : Mg} {w w' : World} (hf : FewP m) (h : Below w.heap.size w w') : FewOutM m w (.returned (.bool true)) w' := ⟨true, rfl, Lib.hid ⟨fun _ => hf, fun _ => rfl⟩, h⟩

set_option maxHeartbeats 8000000 in
theorem refFew_any (m : Mg) (sl : Value) (hk : m.key.size ≤ 140737488355328) (hn : m.note.size ≤ 140737488355328) (hv : m.val.size ≤ 140737488355328) (hl : m.ws.length ≤ 140737488355328) (hws0 : ∀ i, i < m.ws.length → (m.ws.getD i wr0).key.size ≤ maxLen ∧ (m.ws.getD i wr0).val.size ≤ maxLen) (w : World) (hws : WsAt w sl m.ws) :
    Calls Try.prog 8 #[.agg (m.cells sl)] w (FewOutM m w) := by
  have HF := Lib.hid (show FewP m ↔ FewP m from Iff.rfl)
  have HW0 := Lib.hid hws0
  obtain ⟨p, len, cap, rfl, hlen, hc⟩ := hws
  have HC := Lib.hid hc
  have HL := Lib.hid hlen
  have hln : len ≤ 140737488355328 := by omega
  obtain ⟨M, hM⟩ : ∃ M, M = m := ⟨_, rfl⟩
  rw [← hM]
  rw [← hM] at HF
  obtain ⟨kind, frm, to_, node, life, seq, a, b, key, found, time, gone, val, ws, note, hint, must⟩ := m
  simp only at hk hn hv HC HL HW0
  have HFP := Lib.hid (show FewP M ↔ (ws.length ≤ 20 ∧ key.size ≤ 5000 ∧ note.size ≤ 5000 ∧ key.size + note.size + val.size ≤ 12000 ∧ ∀ i, i < ws.length → (ws.getD i wr0).key.size ≤ 5000 ∧ (ws.getD i wr0).val.size ≤ 5000) by rw [hM]; exact Iff.rfl)
  have HM := Lib.hid (show M.key = key ∧ M.note = note ∧ M.val = val ∧ M.ws = ws by rw [hM]; exact ⟨rfl, rfl, rfl, rfl⟩)
  have hshow : M.cells (.slice p len cap) = #[.int .i64 kind, .int .i64 frm, .int .i64 to_, .int .i64 node, .int .i64 life, .int .i64 seq, .int .u64 a, .int .u64 b, .string key, .bool found, .int .u64 time, .bool gone, .string val, .slice p len cap, .string note, .int .u64 hint, .int .u64 must] := by rw [hM]; rfl
  clear hws0 hl hlen hc
  rw [hshow]
  clear hshow hM
  go_enter Try.func8, Try.ntmps8
  go_upto_region 2 with fail
  obtain ⟨W1, hW1⟩ : ∃ W1, W1 = w.alloc (.cells #[.int .i64 kind, .int .i64 frm, .int .i64 to_, .int .i64 node, .int .i64 life, .int .i64 seq, .int .u64 a, .int .u64 b, .string key, .bool found, .int .u64 time, .bool gone, .string val, .slice p len cap, .string note, .int .u64 hint, .int .u64 must] 38) := ⟨_, rfl⟩
  have HB := Lib.hid (show Below w.heap.size w W1 by rw [hW1]; exact (Below.refl _ _).alloc (Nat.le_refl _) _)
  have hrow : W1.heap[w.heap.size]? = some (.cells #[.int .i64 kind, .int .i64 frm, .int .i64 to_, .int .i64 node, .int .i64 life, .int .i64 seq, .int .u64 a, .int .u64 b, .string key, .bool found, .int .u64 time, .bool gone, .string val, .slice p len cap, .string note, .int .u64 hint, .int .u64 must] 38 (0, 0)) := by rw [hW1]; exact heap_alloc_new w _
  rw [← hW1]
  have c6 : W1.cell? ⟨w.heap.size, 8, none⟩ = some (.string key) := by simp [World.cell?, hrow]
  have c13 : W1.cell? ⟨w.heap.size, 13, none⟩ = some (.slice p len cap) := by simp [World.cell?, hrow]
  have c14 : W1.cell? ⟨w.heap.size, 14, none⟩ = some (.string note) := by simp [World.cell?, hrow]
  clear hW1 hrow
  go_wp2_with fail
  go_loopg [4] 51 (fun q s4 wx => ∃ i : Nat, i + q = 51 ∧ i ≤ 50 ∧ i ≤ len ∧ s4 = .int .i64 i ∧ wx = W1 ∧ Hid (∀ j, j < i → (ws.getD j wr0).key.size ≤ 5000 ∧ (ws.getD j wr0).val.size ≤ 5000))
  case atStart => exact ⟨0, by omega, by omega, by omega, rfl, rfl, Lib.hid (fun j hj => absurd hj (Nat.not_lt_zero _))⟩
  case round =>
    obtain ⟨i, hiq, hi50, hil, rfl, rfl, hall⟩ := hrel
    by_cases hlt : i < len
    · have hiz : (i : Int) < (len : Int) := by omega
      by_cases h50 : i < 50
      · have hiz5 : (i : Int) < 50 := by omega
        obtain ⟨q, rfl⟩ : ∃ q, gk = q + 1 := ⟨gk - 1, by omega⟩
        obtain ⟨bq, off, rfl, hbl, d0', d1', d2'⟩ := HC.out i hlt
        have hmx := HW0.out i (by rw [HL.out]; exact hlt)
        have HIN := Lib.hid (fun (h : (ws.getD i wr0).key.size ≤ 5000 ∧ (ws.getD i wr0).val.size ≤ 5000) => show ∀ j, j < i + 1 → (ws.getD j wr0).key.size ≤ 5000 ∧ (ws.getD j wr0).val.size ≤ 5000 from fun j hj => by
          by_cases e : j = i
          · subst e; exact h
          · exact hall.out j (by omega))
        obtain ⟨z, hz⟩ : ∃ z, z = ws.getD i wr0 := ⟨_, rfl⟩
        rw [← hz] at d0' d1' d2' hmx HIN
        obtain ⟨zk, zg, zv⟩ := z
        have HZ := Lib.hid hz
        simp only at d0' d1' d2' hmx HIN
        have d0 := (HB.out.cell (p := ⟨bq, off + i * 3, none⟩) hbl).trans d0'
        have d2 := (HB.out.cell (p := ⟨bq, off + i * 3 + 2, none⟩) hbl).trans d2'
        obtain ⟨m1, m2⟩ := hmx
        unfold maxLen at m1 m2
        clear hz d0' d1' d2'
        by_cases g1 : zk.size ≤ 5000
        · by_cases g2 : zv.size ≤ 5000
          · have HIN2 := Lib.hid (HIN.out ⟨g1, g2⟩)
            have g1z : ¬ (5000 : Int) < (zk.size : Int) := by omega
            have g2z : ¬ (5000 : Int) < (zv.size : Int) := by omega
            go_wp2_with fail
            go_roundg q
            case measure => omega
            case rel => exact ⟨i + 1, by omega, by omega, by omega, by simp, rfl, HIN2⟩
          · have g1z : ¬ (5000 : Int) < (zk.size : Int) := by omega
            have g2z : (5000 : Int) < (zv.size : Int) := by omega
            have HNO := Lib.hid (show ¬ FewP M from fun h => by
              have := ((HFP.out.1 h).2.2.2.2 i (by rw [HL.out]; exact hlt)).2
              rw [← HZ.out] at this
              exact g2 this)
            go_wp2_with fail
            go_ret
            exact FewOutM.no HNO.out HB.out
        · have g1z : (5000 : Int) < (zk.size : Int) := by omega
          have HNO := Lib.hid (show ¬ FewP M from fun h => by
            have := ((HFP.out.1 h).2.2.2.2 i (by rw [HL.out]; exact hlt)).1
            rw [← HZ.out] at this
            exact g1 this)
          go_wp2_with fail
          go_ret
          exact FewOutM.no HNO.out HB.out
      · have hiz5 : ¬ (i : Int) < 50 := by omega
        have h20 : ¬ (len : Int) ≤ 20 := by omega
        have h20d : decide ((len : Int) ≤ 20) = false := decide_eq_false h20
        have HNO := Lib.hid (show ¬ FewP M from fun h => by have := (HFP.out.1 h).1; have := HL.out; omega)
        go_wp2_with fail
        go_ret
        exact FewOutM.no HNO.out HB.out
    · have hiz : ¬ (i : Int) < (len : Int) := by omega
      by_cases t1 : len ≤ 20
      · have u1 : decide ((len : Int) ≤ 20) = true := decide_eq_true (by omega)
        by_cases t2 : key.size ≤ 5000
        · have u2 : decide ((key.size : Int) ≤ 5000) = true := decide_eq_true (by omega)
          by_cases t3 : note.size ≤ 5000
          · have u3 : decide ((note.size : Int) ≤ 5000) = true := decide_eq_true (by omega)
            by_cases t4 : key.size + note.size + val.size ≤ 12000
            · have u4 : decide ((key.size : Int) + (note.size : Int) + (val.size : Int) ≤ 12000) = true := decide_eq_true (by omega)
              have HY := Lib.hid (HFP.out.2 ⟨by rw [HL.out]; exact t1, t2, t3, t4, fun j hj => hall.out j (by rw [HL.out] at hj; omega)⟩)
              go_wp2_with fail
              go_ret
              exact FewOutM.yes HY.out HB.out
            · have u4 : decide ((key.size : Int) + (note.size : Int) + (val.size : Int) ≤ 12000) = false := decide_eq_false (by omega)
              have HNO := Lib.hid (show ¬ FewP M from fun h => t4 (HFP.out.1 h).2.2.2.1)
              go_wp2_with fail
              go_ret
              exact FewOutM.no HNO.out HB.out
          · have u3 : decide ((note.size : Int) ≤ 5000) = false := decide_eq_false (by omega)
            have HNO := Lib.hid (show ¬ FewP M from fun h => t3 (HFP.out.1 h).2.2.1)
            go_wp2_with fail
            go_ret
            exact FewOutM.no HNO.out HB.out
        · have u2 : decide ((key.size : Int) ≤ 5000) = false := decide_eq_false (by omega)
          have HNO := Lib.hid (show ¬ FewP M from fun h => t2 (HFP.out.1 h).2.1)
          go_wp2_with fail
          go_ret
          exact FewOutM.no HNO.out HB.out
      · have u1 : decide ((len : Int) ≤ 20) = false := decide_eq_false (by omega)
        have HNO := Lib.hid (show ¬ FewP M from fun h => t1 (by have := (HFP.out.1 h).1; have := HL.out; omega))
        go_wp2_with fail
        go_ret
        exact FewOutM.no HNO.out HB.out
theorem refFew_yes (m : Mg) (sl : Value) (hk : m.key.size ≤ 140737488355328) (hn : m.note.size ≤ 140737488355328) (hv : m.val.size ≤ 140737488355328) (hl : m.ws.length ≤ 140737488355328) (hws0 : ∀ i, i < m.ws.length → (m.ws.getD i wr0).key.size ≤ maxLen ∧ (m.ws.getD i wr0).val.size ≤ maxLen) (h : FewP m) (w : World) (hws : WsAt w sl m.ws) :
    Calls Try.prog 8 #[.agg (m.cells sl)] w fun e w' => e = .returned (.bool true) ∧ Below w.heap.size w w' :=
  (refFew_any m sl hk hn hv hl hws0 w hws).mono fun e w' ⟨b, he, hb, hbel⟩ => ⟨by rw [he, hb.out.2 h], hbel⟩
theorem refFew_no (m : Mg) (sl : Value) (hk : m.key.size ≤ 140737488355328) (hn : m.note.size ≤ 140737488355328) (hv : m.val.size ≤ 140737488355328) (hl : m.ws.length ≤ 140737488355328) (hws0 : ∀ i, i < m.ws.length → (m.ws.getD i wr0).key.size ≤ maxLen ∧ (m.ws.getD i wr0).val.size ≤ maxLen) (h : ¬ FewP m) (w : World) (hws : WsAt w sl m.ws) :
    Calls Try.prog 8 #[.agg (m.cells sl)] w fun e w' => e = .returned (.bool false) ∧ Below w.heap.size w w' :=
  (refFew_any m sl hk hn hv hl hws0 w hws).mono fun e w' ⟨b, he, hb, hbel⟩ => ⟨by rw [he]; cases b; rfl; exact absurd (hb.out.1 rfl) h, hbel⟩
end Go.Proofs.Ytbhlgceicfjncaa

namespace Go.Proofs.Ytbhlgceicfjncaa
open Go.RowKit
set_option linter.unusedVariables false
set_option linter.unnecessarySimpa false
set_option linter.unusedSimpArgs false
set_option maxRecDepth 100000

def I64 (v : Int) : Prop := -9223372036854775808 ≤ v ∧ v ≤ 9223372036854775807
def EncOut (m : List UInt8) (e : Int) (w : World) (en : Ending) (w' : World) : Prop := en = .returned (.tuple #[.string ⟨m.toArray⟩, .int .i64 e]) ∧ Below w.heap.size w w'
def EncOK : Prop := ∀ (v : Int) (m : Mg) (sl : Value) (w : World), I64 v → m.fits → m.few → WsAt w sl m.ws → Calls Try.prog 21 #[.int .i64 v, .agg (m.cells sl)] w (EncOut (encB v m).1 (encB v m).2 w)
def negB (a b : Int) : Int := if lastOfM a = 0 ∨ lastOfM b = 0 then 0 else min a b
def NegOK : Prop := ∀ (a b : Int) (w : World), I64 a → I64 b → Calls Try.prog 20 #[.int .i64 a, .int .i64 b] w fun e w' => e = .returned (.int .i64 (negB a b)) ∧ Below w.heap.size w w'
/-- A message decoded, handed back. -/
def DecOut (m : Mg) (l : Nat) (e : Int) (w : World) (en : Ending) (w' : World) : Prop := ∃ sl, en = .returned (.tuple #[.agg (m.cells sl), .int .i64 l, .int .i64 e]) ∧ WsAt w' sl m.ws ∧ Below w.heap.size w w'
def DecOK : Prop := ∀ (v : Int) (b : ByteArray) (w : World), I64 v → b.size ≤ 100000 → Calls Try.prog 27 #[.int .i64 v, .string b] w (DecOut (decB v b.data.toList).1 (decB v b.data.toList).2.1 (decB v b.data.toList).2.2 w)

/-- A whole struct is loaded, guarded or not. -/
theorem wpList_load_row_w {P : Program} {ops : Array Oper} {rest : List Oper} {o : Oper} {a : Act} {w : World} {Q : Exit → Act → World → Prop} (hw : Region.wanted o (yielded ops a.tmps) = true) (ty : TypeId) (x : Operand) (ho : o.op = .load ty x)
    (g : Nat) (hx : a.eval x = .pointer (some ⟨g, 0, none⟩)) (t : TypeId) (cs : Array Value) (fr : Nat × Nat) (d : TypeDesc) (hg : w.heap[g]? = some (.cells cs t fr))
    (hu : P.underlying ty = some d) (hd : (match d with | .struct _ | .array _ _ => true | _ => false) = true) (hi : (P.info? ty).map (·.size) = some cs.size)
    (h : wpList P ops Q rest (a.put o.dst (.agg cs)) w) : wpList P ops Q (o :: rest) a w := by
  unfold wpList
  rw [if_pos hw]
  exact .inl (wp_load_row ty x ho g hx t cs fr d hg hu hd hi h)

def mgA : Mg := { mg0 with kind := 1, key := ⟨#[97]⟩ }
theorem mgA_enc : encB 1 mgA = ([1, 12, 1, 97], 0) := by decide +kernel
theorem mgA_fits : mgA.fits := by constructor <;> simp [mgA, mg0]
theorem mgA_few : mgA.few := by constructor <;> simp [mgA, mg0]; decide

end Go.Proofs.Ytbhlgceicfjncaa
