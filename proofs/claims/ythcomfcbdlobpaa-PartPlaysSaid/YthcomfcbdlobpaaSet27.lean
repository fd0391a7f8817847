/-
  Joined: PrtPL, ChnRef, ChnAt, ChnRight, Convert, RefUintB, RefText, ChnBytes, ChnContracts, Leading, Cursor, UintB, CursorTextB.
-/
import Derived.Test.YthcomfcbdlobpaaSet26
import Derived.Test.YthcomfcbdlobpaaSet01
import Derived.ProofKit
import Derived.OpenShut
import Derived.Deep.DeepCutAuto
import Derived.Deep.CutBlock
import Derived.Deep.QuietTactic
import Derived.BigQuiet
import Derived.Laws.Rows
import Derived.Laws.Tables
import Derived.Laws.CopyOwn
import Derived.Test.YthcomfcbdlobpaaSet04
import Derived.WalkSpells
import Derived.WalkLawsBesides
import Derived.Lib.Hide
namespace Go.Proofs.Ythcomfcbdlobpaa
open Go.RowKit Go.Maps
set_option linter.unusedVariables false
set_option linter.unnecessarySimpa false
set_option linter.unusedSimpArgs false
set_option maxRecDepth 100000

structure PtL (M : MvcC) (w0 : World) (O0 : Nat → Prop) (r rs : Addr) (b m k : Nat) (S : List Im) (P : List Pd) (nl : Nat) (lk : ByteArray → Bool) (OS R : Nat → Prop) (W : World) : Prop where
  ptr : r = ⟨b, 0, none⟩
  box : W.heap[b]? = some (.cells #[.pointer (some rs), .map (some m), .map (some k)] 68 (0, 0))
  store : M.At W rs S OS
  mapP : MapP W R m P
  mapL : MapL W k nl lk
  apart : m ≠ k
  rlt : ∀ j, R j → j < W.heap.size
  ob : ¬ OS b
  om : ∀ j, mapsO (some m) (some k) j → ¬ OS j ∧ ¬ R j ∧ j ≠ b
  orr : ∀ j, R j → ¬ OS j ∧ j ≠ b
  mv : Moves O0 (ptO b (some m) (some k) OS R) w0 W
section
variable {M : MvcC} {w w0 W W2 : World} {O0 : Nat → Prop} {r rs : Addr} {b m k : Nat} {mp ml : Option Nat} {S : List Im} {P P' : List Pd} {nl nl' : Nat} {lk lk' : ByteArray → Bool} {OS R R' : Nat → Prop}
theorem PtM.toL (h : PtM M W r rs b (some m) (some k) S P OS R) (hmv : Moves O0 (ptO b (some m) (some k) OS R) w0 W) : PtL M w0 O0 r rs b m k S P (keysP P).length (fun x => lockedP x P) OS R W := by
  rcases h.maps with ⟨e, _⟩ | ⟨m', k', e1, e2, h1, h2, h3⟩
  · cases e
  · cases e1; cases e2
    exact ⟨h.ptr, h.box, h.store, h2, h3, h1, h.rlt, h.ob, h.om, h.orr, hmv⟩
theorem PtL.toM (h : PtL M w0 O0 r rs b m k S P nl lk OS R W) (hg : GoodP P) (hlk : ∀ x, lk x = lockedP x P) : PtM M W r rs b (some m) (some k) S P OS R := by
  refine ⟨h.ptr, h.box, h.store, .inr ⟨m, k, rfl, rfl, h.apart, h.mapP, ?_⟩, hg, h.rlt, h.ob, h.om, h.orr⟩
  obtain ⟨D, h1, h2, h3⟩ := h.mapL
  refine ⟨D, map_tight h1 sk_law (keysP P) (fun l hl => ?_), h2, fun x => (h3 x).trans (hlk x)⟩
  obtain ⟨x, rfl⟩ := h2 l hl
  rw [h3, hlk, lockedP_true] at hl
  obtain ⟨p, hp, m', hm', e⟩ := hl
  rw [← (litS_same m'.key x).2 e]
  exact List.mem_flatMap.2 ⟨p, hp, List.mem_map.2 ⟨m', hm', rfl⟩⟩
theorem PtL.blt (h : PtL M w0 O0 r rs b m k S P nl lk OS R W) : b < W.heap.size := (Array.getElem?_eq_some_iff.1 h.box).1
theorem PtL.lt (h : PtL M w0 O0 r rs b m k S P nl lk OS R W) : ∀ j, ptO b (some m) (some k) OS R j → j < W.heap.size := by
  rintro j (rfl | (e | e) | h1 | h1)
  · exact h.blt
  · cases e; exact h.mapP.lt
  · cases e; exact MapL.lt h.mapL
  · exact M.lt h.store j h1
  · exact h.rlt j h1
theorem PtL.later (h : PtL M w0 O0 r rs b m k S P nl lk OS R W) (hb : Below W.heap.size W W2) : PtL M w0 O0 r rs b m k S P nl lk OS R W2 :=
  have hk := fun j hj => hb.block j (h.lt j hj)
  ⟨h.ptr, (hk b (.inl rfl)).trans h.box, M.stay h.store fun j hj => hk j (.inr (.inr (.inl hj))), h.mapP.same hb.size (hk m (.inr (.inl (.inl rfl)))) (fun j hj => hk j (.inr (.inr (.inr hj)))) (fun _ h => h), MapL.same h.mapL (hk k (.inr (.inl (.inr rfl)))), h.apart, fun j hj => Nat.lt_of_lt_of_le (h.rlt j hj) hb.size, h.ob, h.om, h.orr, h.mv.trans (Moves.of_below hb)⟩
theorem PtL.cells (h : PtL M w0 O0 r rs b m k S P nl lk OS R W) : W.cell? ⟨b, 0, none⟩ = some (.pointer (some rs)) ∧ W.cell? ⟨b, 1, none⟩ = some (.map (some m)) ∧ W.cell? ⟨b, 2, none⟩ = some (.map (some k)) ∧ ∀ j, W.frozen? ⟨b, j, none⟩ = false := by
  refine ⟨?_, ?_, ?_, fun j => frozen_of_row _ _ _ _ _ h.box⟩
  · rw [cell_of_row _ _ _ _ _ _ h.box]; rfl
  · rw [cell_of_row _ _ _ _ _ _ h.box]; rfl
  · rw [cell_of_row _ _ _ _ _ _ h.box]; rfl
/-- The map of what is locked is written. -/
theorem PtL.putL (h : PtL M w0 O0 r rs b m k S P nl lk OS R W) (hg : W.grownBy W2 (some k)) (hL : MapL W2 k nl' lk') : PtL M w0 O0 r rs b m k S P nl' lk' OS R W2 := by
  have hk : ∀ j, j < W.heap.size → j ≠ k → W2.heap[j]? = W.heap[j]? := fun j hj hn => hg.block j hj (fun e => by injection e with e; exact hn e)
  obtain ⟨o1, o2, o3⟩ := h.om k (.inr rfl)
  have hkR : ∀ j, R j → W2.heap[j]? = W.heap[j]? := fun j hj => hk j (h.rlt j hj) (fun e => o2 (by rw [← e]; exact hj))
  refine ⟨h.ptr, (hk b h.blt (fun e => o3 e.symm)).trans h.box, M.stay h.store fun j hj => hk j (M.lt h.store j hj) (fun e => o1 (by rw [← e]; exact hj)), h.mapP.same hg.size (hk m h.mapP.lt h.apart) hkR (fun _ h => h), hL, h.apart, fun j hj => Nat.lt_of_lt_of_le (h.rlt j hj) hg.size, h.ob, h.om, h.orr, ?_⟩
  refine ⟨hg.os.trans h.mv.os, hg.tape.trans h.mv.tape, hg.output.trans h.mv.output, Nat.le_trans h.mv.size hg.size, fun j hj hn => ?_, h.mv.own⟩
  have hjk : j ≠ k := fun e => by
    rcases h.mv.own k (.inr (.inl (.inr rfl))) with h1 | h1
    · exact hn (by rw [e]; exact h1)
    · omega
  exact (hk j (Nat.lt_of_lt_of_le hj h.mv.size) hjk).trans (h.mv.block j hj hn)
/-- The map of what is prepared is written; rows may be more. -/
theorem PtL.putP (h : PtL M w0 O0 r rs b m k S P nl lk OS R W) (hg : W.grownBy W2 (some m)) (hP : MapP W2 R' m P') (hR : ∀ j, R j → R' j) (hR' : ∀ j, R' j → R j ∨ (j < W.heap.size ∧ ¬ ptO b (some m) (some k) OS R j ∧ (O0 j ∨ w0.heap.size ≤ j))) : PtL M w0 O0 r rs b m k S P' nl lk OS R' W2 := by
  have hk : ∀ j, j < W.heap.size → j ≠ m → W2.heap[j]? = W.heap[j]? := fun j hj hn => hg.block j hj (fun e => by injection e with e; exact hn e)
  obtain ⟨o1, o2, o3⟩ := h.om m (.inl rfl)
  refine ⟨h.ptr, (hk b h.blt (fun e => o3 e.symm)).trans h.box, M.stay h.store fun j hj => hk j (M.lt h.store j hj) (fun e => o1 (by rw [← e]; exact hj)), hP, MapL.same h.mapL (hk k (MapL.lt h.mapL) (fun e => h.apart e.symm)), h.apart, fun j hj => ?_, h.ob, fun j hj => ?_, fun j hj => ?_, ?_⟩
  · rcases hR' j hj with h1 | ⟨h1, _⟩
    · exact Nat.lt_of_lt_of_le (h.rlt j h1) hg.size
    · exact Nat.lt_of_lt_of_le h1 hg.size
  · obtain ⟨k1, k2, k3⟩ := h.om j hj
    refine ⟨k1, fun hx => ?_, k3⟩
    rcases hR' j hx with h1 | ⟨_, h1, _⟩
    · exact k2 h1
    · exact h1 (.inr (.inl hj))
  · rcases hR' j hj with h1 | ⟨_, h1, _⟩
    · exact h.orr j h1
    · exact ⟨fun hx => h1 (.inr (.inr (.inl hx))), fun hx => h1 (.inl hx)⟩
  · refine ⟨hg.os.trans h.mv.os, hg.tape.trans h.mv.tape, hg.output.trans h.mv.output, Nat.le_trans h.mv.size hg.size, fun j hj hn => ?_, fun j hj => ?_⟩
    · have hjm : j ≠ m := fun e => by
        rcases h.mv.own m (.inr (.inl (.inl rfl))) with h1 | h1
        · exact hn (by rw [e]; exact h1)
        · omega
      exact (hk j (Nat.lt_of_lt_of_le hj h.mv.size) hjm).trans (h.mv.block j hj hn)
    · rcases hj with h1 | h1 | h1 | h1
      · exact h.mv.own j (.inl h1)
      · exact h.mv.own j (.inr (.inl h1))
      · exact h.mv.own j (.inr (.inr (.inl h1)))
      · rcases hR' j h1 with h1 | ⟨_, _, h1⟩
        · exact h.mv.own j (.inr (.inr (.inr h1)))
        · exact h1
end
/-! One lock more, or less. -/
theorem MapL.add {w : World} {k n : Nat} {lk : ByteArray → Bool} (h : MapL w k n lk) (hn : n < maxLen) (key : ByteArray) (hk : key.size ≤ maxLen) {Q : World → Prop}
    (hQ : ∀ w', MapL w' k (n + 1) (fun x => lk x || sameK key x) → w.grownBy w' (some k) → Q w') :
    ∃ w', (Instr.mapUpdate 66 (.map (some k)) (.string key) (.agg #[])).run Try.prog w = .ok () w' ∧ Q w' := by
  obtain ⟨D, h1, h2, h3⟩ := h
  obtain ⟨w', hrun, hown, hg⟩ := World.ownsMap.update h1 sk_law Try.underlying66 hn (litS_key hk) unitElem_mk
  refine ⟨w', hrun, hQ w' ⟨_, hown, fun l hl => ?_, fun x => ?_⟩ hg⟩
  · by_cases e : l = litS key
    · exact ⟨key, e⟩
    · rw [has_put_other e] at hl
      exact h2 l hl
  · by_cases e : litS x = litS key
    · rw [e]
      obtain ⟨es, e1, _⟩ := World.ownsMap.canon h1 sk_law
      rw [has_put_same ⟨es, e1⟩ (sk_law.key (litS_key hk))]
      show true = (lk x || sameK key x)
      rw [(litS_same key x).1 e.symm, Bool.or_true]
    · rw [has_put_other e, h3]
      have : sameK key x = false := by
        rw [← Bool.not_eq_true]
        exact fun h => e ((litS_same key x).2 h).symm
      show lk x = (lk x || sameK key x)
      rw [this, Bool.or_false]
theorem MapL.sub {w : World} {k n : Nat} {lk : ByteArray → Bool} (h : MapL w k n lk) (key : ByteArray) (hk : key.size ≤ maxLen) (D : DataW Value) (hD : w.ownsMap Try.prog 9 (unitElem (H := Value)) k n D ∧ (∀ l, has D l = true → ∃ x, l = litS x) ∧ ∀ x, has D (litS x) = lk x) {w' : World}
    (hw' : w'.ownsMap Try.prog 9 (unitElem (H := Value)) k n (D.del (litS key))) : MapL w' k n (fun x => lk x && !sameK key x) := by
  obtain ⟨h1, h2, h3⟩ := hD
  refine ⟨_, hw', fun l hl => ?_, fun x => ?_⟩
  · by_cases e : l = litS key
    · exact ⟨key, e⟩
    · rw [has_del_other e] at hl
      exact h2 l hl
  · by_cases e : litS x = litS key
    · rw [e, has_del_same]
      show false = (lk x && !sameK key x)
      rw [(litS_same key x).1 e.symm]
      simp
    · rw [has_del_other e, h3]
      have : sameK key x = false := by
        rw [← Bool.not_eq_true]
        exact fun h => e ((litS_same key x).2 h).symm
      show lk x = (lk x && !sameK key x)
      rw [this]
      simp
end Go.Proofs.Ythcomfcbdlobpaa

namespace Go.Proofs.Ythcomfcbdlobpaa
open Go.RowKit
set_option linter.unusedVariables false
set_option linter.unnecessarySimpa false
set_option linter.unusedSimpArgs false
set_option maxRecDepth 100000

def FewVers (zs : List Vr) (n : Nat) : Prop := (∀ i, i < zs.length → i < 500 → (zs.getD i vr0).val.size ≤ 500) ∧ zs.length ≤ n

end Go.Proofs.Ythcomfcbdlobpaa

namespace Go.Proofs.Ythcomfcbdlobpaa
open Go.RowKit
set_option linter.unusedVariables false
set_option linter.unnecessarySimpa false
set_option linter.unusedSimpArgs false
set_option maxRecDepth 100000

theorem atV_append (x y : List Vr) (t : Nat) : atV (x ++ y) t = match atV y t with | some v => some v | none => atV x t := by
  induction x with
  | nil => simp only [List.nil_append]; cases h : atV y t <;> simp [atV]
  | cons v x ih =>
    rw [List.cons_append, atV, ih]
    cases h : atV y t with
    | some u => rfl
    | none => rfl
theorem atV_found {zs : List Vr} {t j : Nat} (hj : j < zs.length) (hn : atV (zs.drop (j + 1)) t = none) (ht : (zs.getD j vr0).time ≤ t) : atV zs t = some (zs.getD j vr0) := by
  have e : zs = zs.take j ++ (zs.getD j vr0 :: zs.drop (j + 1)) := by
    have h1 := List.take_append_drop j zs
    rw [List.drop_eq_getElem_cons hj] at h1
    rw [List.getD, List.getElem?_eq_getElem hj]
    exact h1.symm
  rw [e, atV_append]
  have : atV (zs.getD j vr0 :: zs.drop (j + 1)) t = some (zs.getD j vr0) := by rw [atV, hn]; simp only; rw [if_pos ht]
  rw [this, ← e]
theorem atV_next {zs : List Vr} {t j : Nat} (hj : j < zs.length) (hn : atV (zs.drop (j + 1)) t = none) (ht : ¬ (zs.getD j vr0).time ≤ t) : atV (zs.drop j) t = none := by
  rw [List.drop_eq_getElem_cons hj, atV, hn]
  simp only
  have : zs[j] = zs.getD j vr0 := by rw [List.getD, List.getElem?_eq_getElem hj]; rfl
  rw [this, if_neg ht]
/-- What At answers. -/
def atOut (o : Option Vr) : Value := .tuple #[.agg (o.getD vr0).cells, .bool o.isSome]
theorem verZero : (Try.prog.info? 42).map (fun i => (i.zero, i.size)) = some (some (.agg #[.int .u64 0, .bool false, .string ⟨#[]⟩]), 3) := by kernel_rfl

theorem results_row_tmpV {P : Program} {fn : Func} {p u : Tmp} {ty : TypeId} (h : fn.results = #[.cell p ty, .tmp u]) (tmps : Array Value) (w : World) (g : Nat) (t : TypeId) (cs : Array Value) (fr : Nat × Nat) (d : TypeDesc) (v : Value)
    (hp : tmps.getD p undef = .pointer (some ⟨g, 0, none⟩)) (hg : w.heap[g]? = some (.cells cs t fr))
    (hu : P.underlying ty = some d) (hd : (match d with | .struct _ | .array _ _ => true | _ => false) = true) (hi : (P.info? ty).map (·.size) = some cs.size) (hv : tmps.getD u undef = v) :
    (results fn tmps).run P w = .ok (.tuple #[.agg cs, v]) w := by
  rw [results_cell_tmp h, hp, hv]
  simp [asAddr, run_loadVar_row w g t ty cs fr d hg hu hd hi, Result.andThen]
end Go.Proofs.Ythcomfcbdlobpaa

namespace Go.Proofs.Ythcomfcbdlobpaa
open Go.RowKit
set_option linter.unusedVariables false
set_option linter.unnecessarySimpa false
set_option linter.unusedSimpArgs false
set_option maxRecDepth 100000

/-- The time ahead of version i. -/
def prevT (t : Nat) (l : List Vr) (i : Nat) : Nat := if i = 0 then t else (l.getD (i - 1) vr0).time
def okAt (t : Nat) (l : List Vr) (i : Nat) : Prop := prevT t l i < (l.getD i vr0).time ∧ ((l.getD i vr0).gone = true → (l.getD i vr0).val.size = 0)
theorem rises_iff : ∀ (l : List Vr) (t : Nat), risesB t l = true ↔ ∀ i, i < l.length → okAt t l i
  | [], t => by simp [risesB]
  | v :: l, t => by
    rw [risesB, Bool.and_eq_true, Bool.and_eq_true, rises_iff l v.time]
    constructor
    · rintro ⟨⟨h1, h2⟩, h3⟩ i hi
      cases i with
      | zero =>
        refine ⟨by simpa [prevT] using h1, fun hg => ?_⟩
        have hg' : v.gone = true := by simpa using hg
        rw [hg'] at h2
        simpa using h2
      | succ i =>
        have := h3 i (by simpa using hi)
        unfold okAt prevT at this ⊢
        cases i with
        | zero => simpa using this
        | succ j => simpa using this
    · intro h
      refine ⟨⟨?_, ?_⟩, fun i hi => ?_⟩
      · have := (h 0 (by simp)).1
        simpa [prevT] using this
      · have := (h 0 (by simp)).2
        cases hg : v.gone with
        | false => rfl
        | true => simpa using this (by simpa using hg)
      · have := h (i + 1) (by simpa using hi)
        unfold okAt prevT at this ⊢
        cases i with
        | zero => simpa using this
        | succ j => simpa using this

theorem str_none {s : ByteArray} (h : s.size = 0) : s = ⟨#[]⟩ := by
  have : s.data = #[] := Array.eq_empty_of_size_eq_zero h
  cases s; simp_all
theorem str_some {s : ByteArray} (h : ¬ s.size = 0) : s.toList.isEmpty = false ∧ (s.toList == []) = false ∧ (s.toList != []) = true := by
  have h1 : ¬ s.toList = [] := by
    rw [Lib.toList_data]
    intro e
    have := congrArg List.length e
    rw [← Lib.size_eq] at this
    exact h this
  refine ⟨?_, ?_, ?_⟩
  · cases hs : s.toList with
    | nil => exact absurd hs h1
    | cons x l => rfl
  · rw [beq_eq_false_iff_ne]; exact h1
  · rw [bne_iff_ne]; exact h1

end Go.Proofs.Ythcomfcbdlobpaa

namespace Go.Proofs.Ythcomfcbdlobpaa
open Go.RowKit
set_option linter.unusedVariables false
set_option linter.unusedSimpArgs false
set_option linter.unnecessarySimpa false
set_option maxRecDepth 100000

theorem convert_row {w : World} {base n : Nat} {v : Value} {l : List UInt8} (h : w.ownsRow base 5 1 v n (Lib.byteCells l)) : (convert 130 9 v).run Try.prog w = .ok (.string ⟨l.toArray⟩) w := by
  by_cases hv : v = .slice none 0 0
  · have hl : l = [] := by
      rcases h.2 with ⟨_, h0⟩ | ⟨g, cap, cur, h0, _⟩
      · have := h.1
        subst h0
        rw [Lib.byteCells_length] at this
        exact List.length_eq_zero_iff.1 (by omega)
      · rw [hv] at h0; cases h0
    subst hv hl
    simp [convert, Conv.bytesToString]
    rfl
  · exact convert_own h hv Try.underlying130 Try.underlying5 Try.underlying9

end Go.Proofs.Ythcomfcbdlobpaa

namespace Go.Proofs.Ythcomfcbdlobpaa
open Go.RowKit
set_option linter.unnecessarySimpa false
set_option linter.unusedVariables false
set_option linter.unusedSimpArgs false
set_option maxRecDepth 100000

end Go.Proofs.Ythcomfcbdlobpaa

namespace Go.Proofs.Ythcomfcbdlobpaa
open Go.RowKit
set_option linter.unusedVariables false
set_option linter.unnecessarySimpa false
set_option linter.unusedSimpArgs false
set_option maxRecDepth 100000

theorem ub_size' (n : Nat) (h : n < 18446744073709551616) : (⟨(ub n).toArray⟩ : ByteArray).size ≤ 10 := by
  show (ub n).toArray.size ≤ 10; rw [List.size_toArray]; exact ub_len10 h
end Go.Proofs.Ythcomfcbdlobpaa

namespace Go.Proofs.Ythcomfcbdlobpaa
open Go.RowKit
set_option linter.unusedVariables false
set_option linter.unnecessarySimpa false
set_option linter.unusedSimpArgs false
set_option maxRecDepth 100000

theorem c_ba_ext {a b : ByteArray} (h : a.data.toList = b.data.toList) : a = b := by
  cases a; cases b; simp only [ByteArray.mk.injEq]; exact Array.toList_inj.1 h
theorem c_ba_app (a b : List UInt8) : (⟨a.toArray⟩ : ByteArray) ++ ⟨b.toArray⟩ = ⟨(a ++ b).toArray⟩ := c_ba_ext (by simp [ByteArray.data_append])
theorem c_size (s : ByteArray) : s.data.toList.length = s.size := by rw [Array.length_toList]; rfl
theorem ext_list (X : ByteArray) (a b : Nat) : (X.extract a b).data.toList = (X.data.toList.drop a).take (b - a) := by
  rw [ByteArray.data_extract, Array.toList_extract]
theorem str_ne {x y : ByteArray} (h : x.data.toList ≠ y.data.toList) : (x.toList != y.toList) = true ∧ (x.toList == y.toList) = false := by
  rw [Lib.toList_data, Lib.toList_data]
  exact ⟨by rw [bne_iff_ne]; exact h, by rw [beq_eq_false_iff_ne]; exact h⟩

theorem headN_le (b v : List UInt8) : headN b v ≤ b.length ∧ headN b v ≤ v.length := pre_le b v
theorem tailN_le (b v : List UInt8) : headN b v + tailN b v ≤ b.length ∧ headN b v + tailN b v ≤ v.length := by
  have h1 := headN_le b v
  have h2 := suf_le (b.drop (headN b v)) (v.drop (headN b v))
  rw [List.length_drop, List.length_drop] at h2
  have e : suf (b.drop (headN b v)) (v.drop (headN b v)) = tailN b v := rfl
  rw [e] at h2
  omega
theorem drop_drop_end (x : List UInt8) (h m : Nat) (hm : h + m ≤ x.length) : (x.drop h).drop ((x.drop h).length - m) = x.drop (x.length - m) := by
  rw [List.length_drop, List.drop_drop]
  congr 1; omega
theorem tail_eq (b v : List UInt8) : b.drop (b.length - tailN b v) = v.drop (v.length - tailN b v) := by
  have h := tailN_le b v
  have := suf_drop (b.drop (headN b v)) (v.drop (headN b v))
  have e : suf (b.drop (headN b v)) (v.drop (headN b v)) = tailN b v := rfl
  rw [e, drop_drop_end b _ _ h.1, drop_drop_end v _ _ h.2] at this
  exact this
theorem tail_ne (b v : List UInt8) (m : Nat) (hm : tailN b v < m) (h1 : headN b v + m ≤ b.length) (h2 : headN b v + m ≤ v.length) : b.drop (b.length - m) ≠ v.drop (v.length - m) := by
  intro h
  have := suf_most (b.drop (headN b v)) (v.drop (headN b v)) m (by rw [List.length_drop]; omega) (by rw [List.length_drop]; omega) (by rw [drop_drop_end b _ _ h1, drop_drop_end v _ _ h2]; exact h)
  have e : suf (b.drop (headN b v)) (v.drop (headN b v)) = tailN b v := rfl
  omega
theorem head_ne (b v : List UInt8) (n : Nat) (hn : headN b v < n) (h1 : n ≤ b.length) (h2 : n ≤ v.length) : b.take n ≠ v.take n := fun h => by
  have := pre_most b v n h1 h2 h
  have e : pre b v = headN b v := rfl
  omega
theorem endT_prev (zs : List Vr) (i : Nat) (h : i ≤ zs.length) : endT 0 (zs.take i) = prevT 0 zs i := by
  cases i with
  | zero => rfl
  | succ k =>
    have hk : k < zs.length := by omega
    have : zs.take (k + 1) = zs.take k ++ [zs.getD k vr0] := by rw [List.take_add_one, List.getD, List.getElem?_eq_getElem hk]; rfl
    rw [this, endT_snoc]
    unfold prevT
    rw [if_neg (by omega)]
    rfl
theorem takeV_succ (zs : List Vr) {i : Nat} (h : i < zs.length) : zs.take (i + 1) = zs.take i ++ [zs.getD i vr0] := by rw [List.take_add_one, List.getD, List.getElem?_eq_getElem h]; rfl
theorem base_small : ∀ (l : List Vr) (b : List UInt8), b.length ≤ 60000 → (∀ v ∈ l, v.val.size ≤ 60000) → (baseOf b l).length ≤ 60000
  | [], b, hb, _ => hb
  | v :: l, b, hb, h => by
    unfold baseOf
    split
    · exact base_small l b hb (fun x hx => h x (by simp [hx]))
    · exact base_small l _ (by rw [c_size]; exact h v (by simp)) (fun x hx => h x (by simp [hx]))

end Go.Proofs.Ythcomfcbdlobpaa

namespace Go.Proofs.Ythcomfcbdlobpaa
open Go.RowKit
set_option linter.unusedVariables false
set_option linter.unnecessarySimpa false
set_option linter.unusedSimpArgs false
set_option maxRecDepth 100000

/-- A chain whose times are numbers. -/
def okV (zs : List Vr) : Prop := rightB zs = true ∧ ∀ v ∈ zs, v.time < 18446744073709551616
def chainS (zs : List Vr) : ByteArray := ⟨(chainB zs).toArray⟩
/-- Versions handed back, beside an error. -/
def VersOut (zs : List Vr) (k : Int) (w : World) (e : Ending) (w' : World) : Prop := ∃ a c, e = .returned (.tuple #[.slice a zs.length c, .int .i64 k]) ∧ IsVers w' a zs.length c zs ∧ Below w.heap.size w w'

theorem vers_below {w w' : World} {a : Option Addr} {len cap : Nat} {zs : List Vr} (h : IsVers w a len cap zs) (hb : Below w.heap.size w w') : IsVers w' a len cap zs := by
  refine ⟨⟨h.1.1, fun i hi => ?_⟩, h.2⟩
  obtain ⟨b, off, ha, hlt, h1, h2, h3, h4, h5⟩ := h.1.2 i hi
  exact ⟨b, off, ha, Nat.lt_of_lt_of_le hlt hb.size, h1, h2, (hb.cell (p := ⟨b, off + i * 3, none⟩) hlt).trans h3, (hb.cell (p := ⟨b, off + i * 3 + 1, none⟩) hlt).trans h4, (hb.cell (p := ⟨b, off + i * 3 + 2, none⟩) hlt).trans h5⟩
theorem below_drewV {B : Nat} {w w' : World} (h : Below B w w') (n : Nat) : Below B w (w'.drewN n) := ⟨h.os, h.tape, h.output, h.size, h.block⟩
theorem vers_mem {w : World} {a : Option Addr} {len cap : Nat} {zs : List Vr} (h : IsVers w a len cap zs) : ∀ v ∈ zs, v.time < 18446744073709551616 := fun v hv => by
  obtain ⟨i, hi, rfl⟩ := List.mem_iff_getElem.1 hv
  obtain ⟨_, _, _, _, h1, _⟩ := h.1.2 i (by rw [← h.1.1]; exact hi)
  rwa [List.getD, List.getElem?_eq_getElem hi] at h1
theorem few_mem {zs : List Vr} {n : Nat} (h : FewVers zs n) (hn : n < 500) : (∀ v ∈ zs, v.val.size ≤ 500) ∧ allN zs ≤ 500 * n := by
  have h1 : ∀ v ∈ zs, v.val.size ≤ 500 := fun v hv => by
    obtain ⟨i, hi, rfl⟩ := List.mem_iff_getElem.1 hv
    have := h.1 i hi (by have := h.2; omega)
    rwa [List.getD, List.getElem?_eq_getElem hi] at this
  refine ⟨h1, ?_⟩
  have h2 : ∀ l : List Vr, (∀ v ∈ l, v.val.size ≤ 500) → allN l ≤ 500 * l.length := by
    intro l
    induction l with
    | nil => intro _; simp [allN]
    | cons v l ih =>
      intro hl
      have a1 := hl v (by simp)
      have a2 := ih (fun x hx => hl x (by simp [hx]))
      unfold allN at a2 ⊢
      rw [List.map_cons, List.sum_cons, List.length_cons]
      omega
  have h3 := h2 zs h1
  have h4 := h.2
  have : 500 * zs.length ≤ 500 * n := Nat.mul_le_mul_left _ h4
  omega
theorem allN_mem : ∀ (l : List Vr) (v : Vr), v ∈ l → v.val.size ≤ allN l
  | x :: l, v, h => by
    unfold allN
    rw [List.map_cons, List.sum_cons]
    rcases List.mem_cons.1 h with rfl | h
    · omega
    · have := allN_mem l v h
      unfold allN at this
      omega
theorem right_parts {zs : List Vr} (h : rightB zs = true) : risesB 0 zs = true ∧ zs.length ≤ 200 := by
  unfold rightB at h
  simpa using h

def vrAB : Vr := ⟨5, false, ⟨#[97, 98]⟩⟩
theorem chain_ab : chainS [vrAB] = ⟨#[1, 5, 0, 0, 0, 2, 97, 98]⟩ := by
  have : chainB [vrAB] = [1, 5, 0, 0, 0, 2, 97, 98] := by
    show ub 1 ++ (ub 5 ++ (0 :: (ub 0 ++ ub 0 ++ (ub 2 ++ [97, 98])) ++ [])) = _
    rw [ub_small (by decide), ub_small (by decide), ub_small (by decide), ub_small (by decide)]
    rfl
  unfold chainS
  rw [this]

end Go.Proofs.Ythcomfcbdlobpaa

namespace Go.Proofs.Ythcomfcbdlobpaa
open Go.RowKit
set_option linter.unnecessarySimpa false
set_option linter.unusedVariables false
set_option linter.unusedSimpArgs false
set_option maxRecDepth 100000

end Go.Proofs.Ythcomfcbdlobpaa

namespace Go.Proofs.Ythcomfcbdlobpaa
open Go.RowKit
set_option linter.unnecessarySimpa false
set_option linter.unusedVariables false
set_option linter.unusedSimpArgs false
set_option maxRecDepth 100000

section
variable {w : World} {g : Nat} {s : ByteArray} {bad : Bool}
theorem grownBy_setCell (w : World) (g j : Nat) (v : Value) : w.grownBy (w.setCell ⟨g, j, none⟩ v) (some g) :=
  ⟨rfl, rfl, rfl, by simp [World.setCell], fun k _ hk => heap_setCell_other w ⟨g, j, none⟩ k v (fun e => hk (by simp [e]))⟩
theorem grownBy_refl (w : World) (row : Option Nat) : w.grownBy w row := ⟨rfl, rfl, rfl, Nat.le_refl _, fun _ _ _ => rfl⟩
theorem grownBy_trans {w w1 w2 : World} {row : Option Nat} (h1 : w.grownBy w1 row) (h2 : w1.grownBy w2 row) : w.grownBy w2 row :=
  ⟨h2.os.trans h1.os, h2.tape.trans h1.tape, h2.output.trans h1.output, Nat.le_trans h1.size h2.size, fun k hk hr => (h2.block k (Nat.lt_of_lt_of_le hk h1.size) hr).trans (h1.block k hk hr)⟩
end

theorem below_grown {w w1 w2 : World} {g : Nat} (h : Below w.heap.size w w1) (hg : w1.grownBy w2 (some g)) (hl : w.heap.size ≤ g) : Below w.heap.size w w2 :=
  h.grown hg h.size (fun k hk => by cases hk; exact hl)

/-- What Uint tells, and what it leaves. -/
def cUint (s : ByteArray) (bad : Bool) : Nat × ByteArray × Bool :=
  if bad then (0, s, true) else if tkK s.data.toList = 0 then (0, s, true) else (tkN s.data.toList, s.extract (tkK s.data.toList) s.size, false)

theorem tkK_le (l : List UInt8) : tkK l ≤ l.length := by
  unfold tkK
  cases h : tk l with
  | none => simp
  | some p => exact (tk_some (n := p.1) (k := p.2) h).2.2.1

theorem list_size (s : ByteArray) : s.data.toList.length = s.size := by rw [Array.length_toList]; rfl

end Go.Proofs.Ythcomfcbdlobpaa

namespace Go.Proofs.Ythcomfcbdlobpaa
open Go.RowKit
set_option linter.unnecessarySimpa false
set_option linter.unusedVariables false
set_option linter.unusedSimpArgs false
set_option maxRecDepth 100000


end Go.Proofs.Ythcomfcbdlobpaa

namespace Go.Proofs.Ythcomfcbdlobpaa
open Go.RowKit
set_option linter.unnecessarySimpa false
set_option linter.unusedVariables false
set_option linter.unusedSimpArgs false
set_option maxRecDepth 100000

/-- What Bytes tells, and what it leaves. -/
def cBytes (s : ByteArray) (bad : Bool) (n : Int) : ByteArray × ByteArray × Bool :=
  if bad = true ∨ n < 0 ∨ (s.size : Int) < n then (ByteArray.empty, s, true) else (s.extract 0 n.toNat, s.extract n.toNat s.size, false)

/-- What Text tells, and what it leaves. -/
def cText (s : ByteArray) (bad : Bool) : ByteArray × ByteArray × Bool :=
  if bad = true ∨ tkK s.data.toList = 0 ∨ s.size - tkK s.data.toList < tkN s.data.toList then (ByteArray.empty, s, true)
  else ((s.extract (tkK s.data.toList) s.size).extract 0 (tkN s.data.toList), (s.extract (tkK s.data.toList) s.size).extract (tkN s.data.toList) (s.size - tkK s.data.toList), false)

end Go.Proofs.Ythcomfcbdlobpaa
