/-
  Joined: FnMap, MsgPMath, Leading, Cursor, UintB.
-/
import Derived.Test.YtbhlgceicfjncaaRows
import Derived.WalkKit
import Derived.Below
import Derived.Laws.AppendOwn
import Derived.MapKept
import Derived.ChangeMaps5
import Derived.Carry
import Derived.Test.YtbhlgceicfjncaaSet16
import Derived.Test.YtbhlgceicfjncaaSet07
import Derived.Test.YtbhlgceicfjncaaSet01
import Derived.ProofKit
import Derived.WalkSpells
import Derived.WalkLawsBesides
import Derived.Lib.Hide
namespace Go.Proofs.Ytbhlgceicfjncaa
open Go.RowKit
set_option linter.unusedVariables false
set_option linter.unnecessarySimpa false
set_option linter.unusedSimpArgs false
set_option maxRecDepth 100000

/-- Block b is a map of just these functions by these numbers. -/
def FnMap (w : World) (b : Nat) (l : List (Nat × Nat)) : Prop :=
  ∃ es clock, w.heap[b]? = some (.map es clock) ∧ es.toList.map (fun e => (e.key, e.val)) = l.map fun p => (Value.int .u64 (p.1 : Int), Value.func (.func p.2) #[] #[])
theorem FnMap.lt {w : World} {b : Nat} {l : List (Nat × Nat)} (h : FnMap w b l) : b < w.heap.size := by
  obtain ⟨es, clock, hb, _⟩ := h
  exact (Array.getElem?_eq_some_iff.1 hb).1
theorem FnMap.below {w w' : World} {b : Nat} {l : List (Nat × Nat)} (h : FnMap w b l) (hb : Below w.heap.size w w') : FnMap w' b l := by
  have hlt := h.lt
  obtain ⟨es, clock, h1, h2⟩ := h
  exact ⟨es, clock, (hb.block b hlt).trans h1, h2⟩
theorem FnMap.same {w w' : World} {b : Nat} {l : List (Nat × Nat)} (h : FnMap w b l) (hb : w'.heap[b]? = w.heap[b]?) : FnMap w' b l := by
  obtain ⟨es, clock, h1, h2⟩ := h
  exact ⟨es, clock, hb.trans h1, h2⟩
theorem FnMap.made (w : World) : FnMap (w.alloc (.map #[] 0)) w.heap.size [] := ⟨#[], 0, (MapKept.heap_alloc w _).1, rfl⟩
theorem FnMap.keys {es : Array MapEntry} {l : List (Nat × Nat)} (h : es.toList.map (fun e => (e.key, e.val)) = l.map fun p => (Value.int .u64 (p.1 : Int), Value.func (.func p.2) #[] #[])) :
    ∀ x ∈ es.toList, ∃ p ∈ l, x.key = .int .u64 (p.1 : Int) ∧ x.val = .func (.func p.2) #[] #[] := fun x hx => by
  have : (x.key, x.val) ∈ es.toList.map (fun e => (e.key, e.val)) := List.mem_map.2 ⟨x, hx, rfl⟩
  rw [h] at this
  obtain ⟨p, hp, e⟩ := List.mem_map.1 this
  injection e with e1 e2
  exact ⟨p, hp, e1.symm, e2.symm⟩

section
variable {P : Program} {w : World} {t kt et : TypeId} {b : Nat} {l : List (Nat × Nat)}
theorem FnMap.insert (h : FnMap w b l) (ht : P.underlying t = some (.map kt et)) (hk : P.underlying kt = some (.int .u64)) (k f : Nat) (hne : ∀ p ∈ l, p.1 ≠ k) :
    ∃ w', (Instr.mapUpdate t (.map (some b)) (.int .u64 (k : Int)) (.func (.func f) #[] #[])).run P w = .ok () w' ∧ FnMap w' b (l ++ [(k, f)]) ∧ w.grownBy w' (some b) := by
  obtain ⟨es, clock, hb, he⟩ := h
  have hks := FnMap.keys he
  have hik : ∀ x ∈ es.toList, MapKept.IsKey (.int .u64) x.key := fun x hx => by
    obtain ⟨p, _, e, _⟩ := hks x hx
    rw [e]; exact rfl
  have hfind : Instr.findNow (.int .u64) (.int .u64 (k : Int)) es.toList 0 = some none := by
    rcases MapKept.findNow_spec (d := .int .u64) (k := .int .u64 (k : Int)) rfl es.toList 0 hik with ⟨h1, _⟩ | ⟨j, e, _, h2, h3⟩
    · exact h1
    · obtain ⟨p, hp, e1, _⟩ := hks e (List.mem_of_getElem? h2)
      rw [e1] at h3
      injection h3 with _ h3
      exact absurd (by omega) (hne p hp)
  have hfk : (Instr.findKey kt (.int .u64 (k : Int)) es.toList).run P w = .ok none w := by
    unfold Instr.findKey
    simp [run_underlying hk, hfind, Result.andThen]
  have hck : (Instr.checkKey false 10000 kt (.int .u64 (k : Int))).run P w = .ok () w := MapKept.run_checkKey hk (show MapKept.IsKey (.int .u64) (Value.int .u64 (k : Int)) from rfl) false 9999
  refine ⟨ChangeMaps.setBlock w b (.map (es.push ⟨.int .u64 (k : Int), .func (.func f) #[] #[], clock⟩) (clock + 1)), ?_, ⟨_, _, ChangeMaps.heap_setBlock_same hb _, ?_⟩, ⟨rfl, rfl, rfl, by simp [ChangeMaps.setBlock], fun i _ hi => ChangeMaps.heap_setBlock_other hb _ (fun e => hi (by rw [e]))⟩⟩
  · simp [Instr.mapUpdate, run_underlying ht, MapKept.run_getObj_map hb, hck, hfk, MapKept.run_setObj_map _ hb, Result.andThen, ChangeMaps.setBlock]
  · rw [Array.toList_push, List.map_append, List.map_append, he]
    rfl
theorem FnMap.lookup (h : FnMap w b l) (ht : P.underlying t = some (.map kt et)) (hk : P.underlying kt = some (.int .u64)) {k f : Nat} (hl : ∀ p ∈ l, p.1 = k → p.2 = f) (hin : ∃ p ∈ l, p.1 = k) :
    (Instr.lookup t (.map (some b)) (.int .u64 (k : Int)) false).run P w = .ok (.func (.func f) #[] #[]) w := by
  obtain ⟨es, clock, hb, he⟩ := h
  have hks := FnMap.keys he
  have hik : ∀ x ∈ es.toList, MapKept.IsKey (.int .u64) x.key := fun x hx => by
    obtain ⟨p, _, e, _⟩ := hks x hx
    rw [e]; exact rfl
  rcases MapKept.findNow_spec (d := .int .u64) (k := .int .u64 (k : Int)) rfl es.toList 0 hik with ⟨_, h2⟩ | ⟨j, e, h1, h2, h3⟩
  · exfalso
    obtain ⟨p, hp, e⟩ := hin
    have : (Value.int .u64 (p.1 : Int), Value.func (.func p.2) #[] #[]) ∈ es.toList.map (fun e => (e.key, e.val)) := by rw [he]; exact List.mem_map.2 ⟨p, hp, rfl⟩
    obtain ⟨x, hx, ex⟩ := List.mem_map.1 this
    injection ex with ex _
    exact h2 x hx (by rw [ex, e])
  · obtain ⟨p, hp, e1, e2⟩ := hks e (List.mem_of_getElem? h2)
    rw [e1] at h3
    injection h3 with _ h3
    have hpk : p.1 = k := by omega
    have hv : e.val = .func (.func f) #[] #[] := by rw [e2, hl p hp hpk]
    have hfk : (Instr.findKey kt (.int .u64 (k : Int)) es.toList).run P w = .ok (some (0 + j, e.val)) w := by
      unfold Instr.findKey
      simp [run_underlying hk, h1, Result.andThen]
    have hck : (Instr.checkKey es.isEmpty 10000 kt (.int .u64 (k : Int))).run P w = .ok () w := MapKept.run_checkKey hk (show MapKept.IsKey (.int .u64) (Value.int .u64 (k : Int)) from rfl) _ 9999
    simp [Instr.lookup, run_underlying ht, MapKept.run_getObj_map hb, hck, hfk, Result.andThen, hv]
/-- An entry of a map's literal, for the walk. -/
theorem wpList_insert_fn {ops : Array Oper} {rest : List Oper} {o : Oper} {a : Act} {Q : Exit → Act → World → Prop} (hgd : o.guard = none) (m x v : Operand) (ho : o.op = .insert t m x v)
    (ht : P.underlying t = some (.map kt et)) (hk : P.underlying kt = some (.int .u64)) (hm : a.eval m = .map (some b)) (k f : Nat) (hx : a.eval x = .int .u64 (k : Int)) (hv : a.eval v = .func (.func f) #[] #[])
    (h : FnMap w b l) (hne : ∀ p ∈ l, p.1 ≠ k)
    (hK : ∀ w', FnMap w' b (l ++ [(k, f)]) → w.grownBy w' (some b) → wpList P ops Q rest (a.put o.dst undef) w') : wpList P ops Q (o :: rest) a w := by
  refine wpList_plain hgd fun K' hK' => ?_
  obtain ⟨w', hrun, r1, r2⟩ := h.insert ht hk k f hne
  unfold Oper.wp
  simp [execOp, ho, hm, hx, hv, hrun, Result.andThen]
  exact hK' _ _ (hK w' r1 r2)
end
end Go.Proofs.Ytbhlgceicfjncaa

namespace Go.Proofs.Ytbhlgceicfjncaa
open Go.RowKit
set_option linter.unusedVariables false
set_option linter.unnecessarySimpa false
set_option linter.unusedSimpArgs false
set_option maxRecDepth 100000

/-- The version from which on there is a tag. -/
def sinceN (t : Nat) : Nat := if 1 ≤ t ∧ t ≤ 9 then 1 else if t = 10 then 2 else if t = 11 ∨ t = 12 then 3 else 4
def hasB (v : Int) (t : Nat) : Bool := decide ((sinceN t : Int) ≤ v)
theorem hasB_is {v : Int} (hv : ¬ lastOfM v = 0) {t : Nat} (ht : 1 ≤ t) : hasB v t = decide (t ≤ lastOfM v) := by
  have h : v = 1 ∨ v = 2 ∨ v = 3 := Decidable.byContradiction fun h => hv (lastOf_zero.2 h)
  unfold hasB sinceN
  rw [Bool.eq_iff_iff, decide_eq_true_eq, decide_eq_true_eq]
  rcases h with rfl | rfl | rfl
  · rw [show lastOfM 1 = 9 from rfl]
    split
    · omega
    · split
      · omega
      · split <;> omega
  · rw [show lastOfM 2 = 10 from rfl]
    split
    · omega
    · split
      · omega
      · split <;> omega
  · rw [show lastOfM 3 = 12 from rfl]
    split
    · omega
    · split
      · omega
      · split <;> omega
def verB (v : Int) : Bool := decide (1 ≤ v) && decide (v ≤ 3)
theorem verB_is {v : Int} : verB v = true ↔ ¬ lastOfM v = 0 := by
  unfold verB
  rw [Bool.and_eq_true, decide_eq_true_eq, decide_eq_true_eq, lastOf_zero, Classical.not_not]
  omega

/-- What a tag's field has, zero or not; whether it isn't zero. -/
def txt (m : Mg) : Nat → List UInt8
  | 1 => ub m.frm.toNat
  | 2 => ub m.to_.toNat
  | 3 => ub m.node.toNat ++ ub m.life.toNat ++ ub m.seq.toNat
  | 4 => ub m.a
  | 5 => ub m.b
  | 6 => m.key.data.toList
  | 7 => []
  | 8 => ub m.time ++ bl m.gone ++ m.val.data.toList
  | 9 => ub m.ws.length ++ wsB m.ws
  | 10 => m.note.data.toList
  | 11 => ub m.hint
  | 12 => ub m.must
  | _ => []
def isT (m : Mg) (t : Nat) : Bool := (fld m t).isSome
theorem numF_is (n : Nat) : (numF n).isSome = decide (n ≠ 0) := by
  unfold numF
  split
  · rename_i h; simp [h]
  · rename_i h; simp [h]
theorem fld_is {m : Mg} {t : Nat} (h1 : 1 ≤ t) (h2 : t ≤ 12) : fld m t = if isT m t then some (txt m t) else none := by
  have : t = 1 ∨ t = 2 ∨ t = 3 ∨ t = 4 ∨ t = 5 ∨ t = 6 ∨ t = 7 ∨ t = 8 ∨ t = 9 ∨ t = 10 ∨ t = 11 ∨ t = 12 := by omega
  unfold isT
  have hn : ∀ n, numF n = if (numF n).isSome then some (ub n) else none := fun n => by
    rw [numF_is]
    unfold numF
    by_cases h : n = 0 <;> simp [h]
  rcases this with rfl | rfl | rfl | rfl | rfl | rfl | rfl | rfl | rfl | rfl | rfl | rfl
  · exact hn _
  · exact hn _
  · rw [fld_3]; cases txnZero m <;> rfl
  · exact hn _
  · exact hn _
  · rw [fld_6]; by_cases h : m.key.size = 0 <;> simp [h] <;> rfl
  · rw [fld_7]; cases m.found <;> rfl
  · rw [fld_8]; cases verZeroM m <;> rfl
  · rw [fld_9]; by_cases h : m.ws.length = 0 <;> simp [h] <;> rfl
  · rw [fld_10]; by_cases h : m.note.size = 0 <;> simp [h] <;> rfl
  · exact hn _
  · exact hn _

/-- A field of the program's: its tag, whether it isn't zero, what it has. -/
structure F3 where
  tag : Nat
  is : Bool
  text : List UInt8
instance : Inhabited F3 := ⟨⟨0, false, []⟩⟩
def f3 (m : Mg) (t : Nat) : F3 := ⟨t, isT m t, txt m t⟩
def all12 (m : Mg) : List F3 := [f3 m 1, f3 m 2, f3 m 3, f3 m 4, f3 m 5, f3 m 6, f3 m 7, f3 m 8, f3 m 9, f3 m 10, f3 m 11, f3 m 12]
def fldsL (m : Mg) : List F3 := (all12 m).filter (·.is)
theorem fldsL_mem {m : Mg} {f : F3} (h : f ∈ fldsL m) : f.is = true ∧ 1 ≤ f.tag ∧ f.tag ≤ 12 ∧ f = f3 m f.tag := by
  unfold fldsL at h
  rw [List.mem_filter] at h
  refine ⟨h.2, ?_⟩
  have h1 := h.1
  unfold all12 at h1
  simp only [List.mem_cons, List.not_mem_nil, or_false] at h1
  rcases h1 with rfl | rfl | rfl | rfl | rfl | rfl | rfl | rfl | rfl | rfl | rfl | rfl <;> exact ⟨by simp [f3], by simp [f3], rfl⟩
theorem fldsL_len (m : Mg) : (fldsL m).length ≤ 12 := by
  unfold fldsL
  exact List.length_filter_le _ _

theorem fldB_is {m : Mg} {t : Nat} (h1 : 1 ≤ t) (h2 : t ≤ 12) : fldB m t = if isT m t then encT t (txt m t) else [] := by
  unfold fldB
  rw [fld_is h1 h2]
  cases isT m t <;> rfl
/-- What is written of a field, up to a tag. -/
def encF (last : Nat) (f : F3) : List UInt8 := if f.tag ≤ last then encT f.tag f.text else []
theorem filter_flat (l : List F3) (g : F3 → List UInt8) : (l.filter (·.is)).flatMap g = l.flatMap fun f => if f.is then g f else [] := by
  induction l with
  | nil => rfl
  | cons x l ih =>
    rw [List.filter_cons, List.flatMap_cons]
    cases h : x.is
    · simp [ih]
    · simp [ih, List.flatMap_cons]
theorem flds_flat {m : Mg} {last : Nat} (h : last = 9 ∨ last = 10 ∨ last = 12) : (fldsL m).flatMap (encF last) = fldsB m last := by
  unfold fldsL
  rw [filter_flat]
  have e : ∀ t, 1 ≤ t → t ≤ 12 → t ≤ last → (if (f3 m t).is then encF last (f3 m t) else []) = fldB m t := fun t h1 h2 h3 => by
    rw [fldB_is h1 h2]
    show (if isT m t then encF last (f3 m t) else []) = _
    rw [show encF last (f3 m t) = encT t (txt m t) from if_pos h3]
  have e0 : ∀ t, ¬ t ≤ last → (if (f3 m t).is then encF last (f3 m t) else []) = [] := fun t h3 => by
    rw [show encF last (f3 m t) = [] from if_neg h3]; simp
  unfold all12
  simp only [List.flatMap_cons, List.flatMap_nil]
  rcases h with rfl | rfl | rfl
  · rw [e 1 (by omega) (by omega) (by omega), e 2 (by omega) (by omega) (by omega), e 3 (by omega) (by omega) (by omega), e 4 (by omega) (by omega) (by omega), e 5 (by omega) (by omega) (by omega), e 6 (by omega) (by omega) (by omega),
      e 7 (by omega) (by omega) (by omega), e 8 (by omega) (by omega) (by omega), e 9 (by omega) (by omega) (by omega), e0 10 (by omega), e0 11 (by omega), e0 12 (by omega)]
    simp [fldsB]
  · rw [e 1 (by omega) (by omega) (by omega), e 2 (by omega) (by omega) (by omega), e 3 (by omega) (by omega) (by omega), e 4 (by omega) (by omega) (by omega), e 5 (by omega) (by omega) (by omega), e 6 (by omega) (by omega) (by omega),
      e 7 (by omega) (by omega) (by omega), e 8 (by omega) (by omega) (by omega), e 9 (by omega) (by omega) (by omega), e 10 (by omega) (by omega) (by omega), e0 11 (by omega), e0 12 (by omega)]
    simp [fldsB]
  · rw [e 1 (by omega) (by omega) (by omega), e 2 (by omega) (by omega) (by omega), e 3 (by omega) (by omega) (by omega), e 4 (by omega) (by omega) (by omega), e 5 (by omega) (by omega) (by omega), e 6 (by omega) (by omega) (by omega),
      e 7 (by omega) (by omega) (by omega), e 8 (by omega) (by omega) (by omega), e 9 (by omega) (by omega) (by omega), e 10 (by omega) (by omega) (by omega), e 11 (by omega) (by omega) (by omega), e 12 (by omega) (by omega) (by omega)]
    simp [fldsB]

/-- The cells of fields. -/
def F3.cells (f : F3) : List Value := [.int .u64 f.tag, .bool f.is, .string ⟨f.text.toArray⟩]
/-- A slice of fields, in memory. -/
def FldsAt (W : World) (v : Value) (l : List F3) : Prop :=
  ∃ a len cap, v = .slice a len cap ∧ l.length = len ∧ ∀ i, i < len → ∃ b off, a = some ⟨b, off, none⟩ ∧ b < W.heap.size ∧
    W.cell? ⟨b, off + i * 3, none⟩ = some (.int .u64 (l.getD i default).tag) ∧ W.cell? ⟨b, off + i * 3 + 1, none⟩ = some (.bool (l.getD i default).is) ∧ W.cell? ⟨b, off + i * 3 + 2, none⟩ = some (.string ⟨(l.getD i default).text.toArray⟩)
theorem FldsAt.below {W W' : World} {v : Value} {l : List F3} (h : FldsAt W v l) (hb : Below W.heap.size W W') : FldsAt W' v l := by
  obtain ⟨a, len, cap, h1, h2, h3⟩ := h
  refine ⟨a, len, cap, h1, h2, fun i hi => ?_⟩
  obtain ⟨b, off, ha, hlt, c0, c1, c2⟩ := h3 i hi
  exact ⟨b, off, ha, Nat.lt_of_lt_of_le hlt hb.size, (hb.cell hlt).trans c0, (hb.cell hlt).trans c1, (hb.cell hlt).trans c2⟩
def FldsOut (m : Mg) (w : World) (e : Ending) (w' : World) : Prop := ∃ v, e = .returned v ∧ FldsAt w' v (fldsL m) ∧ Below w.heap.size w w' ∧ ∀ k, v.ownBlock = some k → w.heap.size ≤ k
end Go.Proofs.Ytbhlgceicfjncaa

namespace Go.Proofs.Ytbhlgceicfjncaa
open Go.RowKit
set_option linter.unnecessarySimpa false
set_option linter.unusedVariables false
set_option linter.unusedSimpArgs false
set_option maxRecDepth 100000

set_option maxRecDepth 100000 in
set_option maxHeartbeats 1600000 in
theorem leading_any (s : ByteArray) (hs : s.size ≤ maxLen) (w : World) :
    Calls Try.prog 95 #[.string s] w fun e w' => e = .returned (.tuple #[.int .u64 (tkN s.data.toList : Nat), .int .i64 (tkK s.data.toList : Nat)]) ∧ w = w' := by
  unfold maxLen at hs
  go_enter Try.func95, Try.ntmps95
  go_wp2_with fail
  go_loop [4, 5, 6, 9] (fun t _ _ i => ∃ k n : Nat, k ≤ s.size ∧ k ≤ 9 ∧ i = .int .i64 k ∧ t = .int .u64 n ∧ Hid (n < 2 ^ (7 * k)) ∧ Hid (tk s.data.toList = tkAux k n (s.data.toList.drop k))) (fun _ _ _ i => s.size - (intOf i).toNat)
  case atStart => exact ⟨0, 0, Nat.zero_le _, Nat.zero_le _, rfl, rfl, Lib.hid (by simp), Lib.hid rfl⟩
  case round =>
    obtain ⟨k, n, hk, hk9, rfl, rfl, hn, ht⟩ := hrel
    have hls : s.data.toList.length = s.size := by rw [Array.length_toList]; rfl
    by_cases hlt : k < s.size
    · obtain ⟨b, hb⟩ : ∃ b : Nat, s[k].toNat = b := ⟨_, rfl⟩
      have hb256 : b < 256 := by have := s[k].toNat_lt; omega
      have hst := tkAux_step s.data.toList k n b (by omega) hb
      rw [← ht.out] at hst
      have HST := Lib.hid hst
      clear hst ht hls
      by_cases e9 : k = 9
      · subst e9
        have HO := Lib.hid (fun h9 => or_step n b 9 hb256 hn.out (by omega) h9)
        by_cases h1 : 1 < b
        · have HZ := Lib.hid (tk_is_none (by rw [HST.out, if_pos ⟨rfl, h1⟩]))
          go_wp2_with fail
          go_ret2
          exact ⟨ret_two (by rw [HZ.out.1]; rfl) (by rw [HZ.out.2]; rfl), rfl⟩
        · have hno := and128_no b hb256 (by omega)
          by_cases h0 : b = 0
          · have HZ := Lib.hid (tk_is_none (by rw [HST.out, if_neg (by omega), if_neg (by omega), if_pos ⟨h0, by omega⟩]))
            have hb0 : ((b : Int) == 0) = true := by simp; omega
            have h0' := Lib.hid h0
            clear h0
            go_wp2_with fail
            go_ret2
            exact ⟨ret_two (by rw [HZ.out.1]; rfl) (by rw [HZ.out.2]; rfl), rfl⟩
          · have HZ := Lib.hid (tk_is_some (by rw [HST.out, if_neg (by omega), if_neg (by omega), if_neg (by omega)]))
            have hb0 : ((b : Int) == 0) = false := by simp; omega
            go_wp2_with fail
            go_ret2
            exact ⟨ret_two (by rw [HZ.out.1, ← HO.out (by omega)]; rfl) (by rw [HZ.out.2]; rfl), rfl⟩
      · have hne : ((k : Int) == 9) = false := by simp; omega
        have HO := Lib.hid (or_step n b k hb256 hn.out (by omega) (fun h => absurd h e9))
        by_cases h128 : 128 ≤ b
        · have hyes := and128_yes b hb256 h128
          go_wp2_with fail
          refine ⟨⟨k + 1, n + b % 128 * 128 ^ k, by omega, by omega, by go_num, by rw [HO.out], Lib.hid (next_lt n b k hn.out), Lib.hid ?_⟩, by simp [intOf]; omega⟩
          rw [HST.out, if_neg (by omega), if_pos h128]
        · have hno := and128_no b hb256 (by omega)
          by_cases h0 : b = 0
          · have hb0 : ((b : Int) == 0) = true := by simp; omega
            have h0' := Lib.hid h0
            clear h0
            by_cases hk0 : k = 0
            · subst hk0
              have HZ := Lib.hid (tk_is_some (by rw [HST.out, if_neg (by omega), if_neg (by omega), if_neg (by omega)]))
              go_wp2_with fail
              go_ret2
              exact ⟨ret_two (by rw [HZ.out.1, ← HO.out]; simp) (by rw [HZ.out.2]; rfl), rfl⟩
            · have HZ := Lib.hid (tk_is_none (by rw [HST.out, if_neg (by omega), if_neg (by omega), if_pos ⟨h0'.out, by omega⟩]))
              have hk1 : 0 < k := by omega
              go_wp2_with fail
              go_ret2
              exact ⟨ret_two (by rw [HZ.out.1]; rfl) (by rw [HZ.out.2]; rfl), rfl⟩
          · have HZ := Lib.hid (tk_is_some (by rw [HST.out, if_neg (by omega), if_neg (by omega), if_neg (by omega)]))
            have hb0 : ((b : Int) == 0) = false := by simp; omega
            go_wp2_with fail
            go_ret2
            exact ⟨ret_two (by rw [HZ.out.1, ← HO.out]) (by rw [HZ.out.2]; rfl), rfl⟩
    · have hd : s.data.toList.drop k = [] := List.drop_of_length_le (by omega)
      have HZ := Lib.hid (tk_is_none (l := s.data.toList) (by rw [ht.out, hd]; rfl))
      clear hd hls ht
      go_wp2_with fail
      go_ret2
      exact ⟨ret_two (by rw [HZ.out.1]; rfl) (by rw [HZ.out.2]; rfl), rfl⟩
end Go.Proofs.Ytbhlgceicfjncaa

namespace Go.Proofs.Ytbhlgceicfjncaa
open Go.RowKit
set_option linter.unnecessarySimpa false
set_option linter.unusedVariables false
set_option linter.unusedSimpArgs false
set_option maxRecDepth 100000

/-- A cursor in memory: what is left, and whether it is bad. -/
def CurAt (w : World) (g : Nat) (s : ByteArray) (bad : Bool) : Prop := w.heap[g]? = some (.cells #[.string s, .bool bad] 135 (0, 0))

section
variable {w : World} {g : Nat} {s : ByteArray} {bad : Bool}
theorem CurAt.lt (h : CurAt w g s bad) : g < w.heap.size := (Array.getElem?_eq_some_iff.1 h).1
theorem CurAt.c0 (h : CurAt w g s bad) : w.cell? ⟨g, 0, none⟩ = some (.string s) := by unfold CurAt at h; simp [World.cell?, h]
theorem CurAt.c1 (h : CurAt w g s bad) : w.cell? ⟨g, 1, none⟩ = some (.bool bad) := by unfold CurAt at h; simp [World.cell?, h]
theorem CurAt.f0 (h : CurAt w g s bad) : w.frozen? ⟨g, 0, none⟩ = false := by unfold CurAt at h; simp [World.frozen?, h]
theorem CurAt.f1 (h : CurAt w g s bad) : w.frozen? ⟨g, 1, none⟩ = false := by unfold CurAt at h; simp [World.frozen?, h]
theorem CurAt.set0 (h : CurAt w g s bad) (s' : ByteArray) : CurAt (w.setCell ⟨g, 0, none⟩ (.string s')) g s' bad := by
  unfold CurAt at *
  rw [heap_setCell_same w g 0 _ _ _ h]
  rfl
theorem CurAt.set1 (h : CurAt w g s bad) (bad' : Bool) : CurAt (w.setCell ⟨g, 1, none⟩ (.bool bad')) g s bad' := by
  unfold CurAt at *
  rw [heap_setCell_same w g 1 _ _ _ h]
  rfl
theorem grownBy_setCell (w : World) (g j : Nat) (v : Value) : w.grownBy (w.setCell ⟨g, j, none⟩ v) (some g) :=
  ⟨rfl, rfl, rfl, by simp [World.setCell], fun k _ hk => heap_setCell_other w ⟨g, j, none⟩ k v (fun e => hk (by simp [e]))⟩
theorem grownBy_refl (w : World) (row : Option Nat) : w.grownBy w row := ⟨rfl, rfl, rfl, Nat.le_refl _, fun _ _ _ => rfl⟩
theorem grownBy_trans {w w1 w2 : World} {row : Option Nat} (h1 : w.grownBy w1 row) (h2 : w1.grownBy w2 row) : w.grownBy w2 row :=
  ⟨h2.os.trans h1.os, h2.tape.trans h1.tape, h2.output.trans h1.output, Nat.le_trans h1.size h2.size, fun k hk hr => (h2.block k (Nat.lt_of_lt_of_le hk h1.size) hr).trans (h1.block k hk hr)⟩
theorem CurAt.kept {w' : World} {B : Nat} (h : CurAt w g s bad) (hb : Below B w w') (hg : g < B) : CurAt w' g s bad := (hb.block g hg).trans h
end

theorem below_grown {w w1 w2 : World} {g : Nat} (h : Below w.heap.size w w1) (hg : w1.grownBy w2 (some g)) (hl : w.heap.size ≤ g) : Below w.heap.size w w2 :=
  h.grown hg h.size (fun k hk => by cases hk; exact hl)

set_option maxHeartbeats 800000 in
theorem new_any (s : ByteArray) (w : World) :
    Calls Try.prog 58 #[.string s] w fun e w' => e = .returned (.pointer (some ⟨w.heap.size, 0, none⟩)) ∧ CurAt w' w.heap.size s false ∧ Below w.heap.size w w' := by
  have hn : CurAt (w.alloc (.cells #[.string s, .bool false] 135)) w.heap.size s false := heap_alloc_new w _
  go_enter Try.func58, Try.ntmps58
  go_wp2
  go_ret
  exact ⟨rfl, hn, (Below.refl _ _).alloc (Nat.le_refl _) _⟩

set_option maxHeartbeats 800000 in
theorem take_any (g : Nat) (s : ByteArray) (bad : Bool) (n : Nat) (hs : s.size ≤ maxLen) (hn : n ≤ s.size) (w : World) (h : CurAt w g s bad) :
    Calls Try.prog 96 #[.pointer (some ⟨g, 0, none⟩), .int .i64 n] w fun e w' => e = .returned (.string (s.extract 0 n)) ∧ CurAt w' g (s.extract n s.size) bad ∧ w.grownBy w' (some g) := by
  unfold maxLen at hs
  have c0 := h.c0
  have f0 := h.f0
  have hq := Lib.hid (h.set0 (s.extract n s.size))
  clear h
  go_enter Try.func96, Try.ntmps96
  go_wp2
  go_ret
  exact ⟨rfl, hq.out, grownBy_setCell _ _ _ _⟩

set_option maxHeartbeats 800000 in
theorem bad_any (g : Nat) (s : ByteArray) (bad : Bool) (w : World) (h : CurAt w g s bad) :
    Calls Try.prog 66 #[.pointer (some ⟨g, 0, none⟩)] w fun e w' => e = .returned (.bool bad) ∧ w = w' := by
  have c1 := h.c1
  clear h
  go_enter Try.func66, Try.ntmps66
  go_wp2
  go_ret
  exact ⟨rfl, rfl⟩

set_option maxHeartbeats 800000 in
theorem left_any (g : Nat) (s : ByteArray) (bad : Bool) (w : World) (hs : s.size ≤ maxLen) (h : CurAt w g s bad) :
    Calls Try.prog 63 #[.pointer (some ⟨g, 0, none⟩)] w fun e w' => e = .returned (.int .i64 s.size) ∧ w = w' := by
  unfold maxLen at hs
  have c0 := h.c0
  clear h
  go_enter Try.func63, Try.ntmps63
  go_wp2
  go_ret
  exact ⟨rfl, rfl⟩

set_option maxHeartbeats 800000 in
theorem done_any (g : Nat) (s : ByteArray) (bad : Bool) (w : World) (hs : s.size ≤ maxLen) (h : CurAt w g s bad) :
    Calls Try.prog 97 #[.pointer (some ⟨g, 0, none⟩)] w fun e w' => e = .returned (.bool (!bad && s.size == 0)) ∧ w = w' := by
  unfold maxLen at hs
  have c0 := h.c0
  have c1 := h.c1
  clear h
  cases bad
  · by_cases h0 : s.size = 0
    · have hb : ((s.size : Int) == 0) = true := by simp [h0]
      have H0 := Lib.hid h0
      clear h0
      go_enter Try.func97, Try.ntmps97
      go_wp2
      go_ret
      exact ⟨by rw [H0.out]; rfl, rfl⟩
    · have hb : ((s.size : Int) == 0) = false := by simp only [beq_eq_false_iff_ne, ne_eq]; omega
      have H0 : Hid ((s.size == 0) = false) := Lib.hid (by simpa using h0)
      clear h0
      go_enter Try.func97, Try.ntmps97
      go_wp2
      go_ret
      exact ⟨by rw [H0.out]; rfl, rfl⟩
  · go_enter Try.func97, Try.ntmps97
    go_wp2
    go_ret
    exact ⟨rfl, rfl⟩

/-- What Uint tells, and what it leaves. -/
def cUint (s : ByteArray) (bad : Bool) : Nat × ByteArray × Bool :=
  if bad then (0, s, true) else if tkK s.data.toList = 0 then (0, s, true) else (tkN s.data.toList, s.extract (tkK s.data.toList) s.size, false)

theorem tkK_le (l : List UInt8) : tkK l ≤ l.length := by
  unfold tkK
  cases h : tk l with
  | none => simp
  | some p => exact (tk_some (n := p.1) (k := p.2) h).2.2.1

theorem list_size (s : ByteArray) : s.data.toList.length = s.size := by rw [Array.length_toList]; rfl

set_option maxHeartbeats 800000 in
theorem cur_uint (g : Nat) (s : ByteArray) (bad : Bool) (w : World) (hs : s.size ≤ maxLen) (h : CurAt w g s bad) :
    Calls Try.prog 64 #[.pointer (some ⟨g, 0, none⟩)] w fun e w' => e = .returned (.int .u64 (cUint s bad).1) ∧ CurAt w' g (cUint s bad).2.1 (cUint s bad).2.2 ∧ w.grownBy w' (some g) := by
  have HS := Lib.hid hs
  have H := Lib.hid h
  have c0 := h.c0
  have c1 := h.c1
  have f1 := h.f1
  clear h hs
  cases bad
  · have hk := tkK_le s.data.toList
    rw [list_size] at hk
    by_cases h0 : tkK s.data.toList = 0
    · have hb : (((tkK s.data.toList : Nat) : Int) == 0) = true := by simp [h0]
      have hd := Lib.hid (show cUint s false = (0, s, true) by simp [cUint, h0])
      clear h0
      go_enter Try.func64, Try.ntmps64
      go_wp2_with (go_at_call 95; refine (leading_any s HS.out _).mono ?_; rintro e w' ⟨rfl, rfl⟩)
      go_ret
      rw [hd.out]
      exact ⟨rfl, H.out.set1 true, grownBy_setCell _ _ _ _⟩
    · have hb : (((tkK s.data.toList : Nat) : Int) == 0) = false := by simp; omega
      have hd := Lib.hid (show cUint s false = (tkN s.data.toList, s.extract (tkK s.data.toList) s.size, false) by simp [cUint, h0])
      clear h0
      go_enter Try.func64, Try.ntmps64
      go_wp2_with (first | (go_at_call 95; refine (leading_any s HS.out _).mono ?_; rintro e w' ⟨rfl, rfl⟩) | (go_at_call 96; refine (take_any g s false (tkK s.data.toList) HS.out hk _ H.out).mono ?_; rintro e w' ⟨rfl, hc, hg⟩))
      go_ret
      rw [hd.out]
      exact ⟨rfl, hc, hg⟩
  · have hd := Lib.hid (show cUint s true = (0, s, true) by simp [cUint])
    go_enter Try.func64, Try.ntmps64
    go_wp2_with fail
    go_ret
    rw [hd.out]
    exact ⟨rfl, H.out, grownBy_refl _ _⟩
end Go.Proofs.Ytbhlgceicfjncaa

namespace Go.Proofs.Ytbhlgceicfjncaa
open Go.RowKit
set_option linter.unnecessarySimpa false
set_option linter.unusedVariables false
set_option linter.unusedSimpArgs false
set_option maxRecDepth 100000


set_option maxHeartbeats 800000 in
theorem uint_any (n : Nat) (hn : n < 18446744073709551616) (w : World) :
    Calls Try.prog 50 #[.int .u64 n] w fun e w' => e = .returned (.string ⟨(ub n).toArray⟩) ∧ Below w.heap.size w w' := by
  obtain ⟨i0, hi, hz0, hz1, hz2⟩ := info_parts u8info
  have hlen := Lib.hid (ub_len10 hn)
  have HN := Lib.hid hn
  clear hn
  go_enter Try.func50, Try.ntmps50
  go_wp2_with fail
  go_loopw [0, 3] (fun t v wr => ∃ (m : Nat) (done : List UInt8), t = .int .u64 m ∧ Hid (m < 18446744073709551616) ∧ wr.ownsRow w.heap.size 5 1 v done.length (Lib.byteCells done) ∧ Hid (done ++ ub m = ub n) ∧ Below w.heap.size w wr) (fun t _ _ => (intOf t).toNat)
  case atStart => exact ⟨n, [], rfl, HN, World.ownsRow_nil _ _ _ _, Lib.hid rfl, Below.refl _ _⟩
  case round =>
    obtain ⟨m, done, rfl, hm, hown, hd, hb⟩ := hrel
    have hl := congrArg List.length hd.out
    rw [List.length_append] at hl
    have hp := ub_pos m
    have hll := hlen.out
    have hdl : done.length ≤ 9 := by omega
    clear hl hll hp
    have hor := Lib.hid (or80 m)
    have hone := Lib.hid (cell_one_new wr (.int .u8 (bits BinOp.or IntKind.u8 ((m : Int) % 256) 128)) 5)
    by_cases h : 127 < m
    · have hub := Lib.hid (ub_big (n := m) (by omega))
      go_wp2_with (at_builtin; refine wpList_append_own _ rfl _ _ 91 rfl w.heap.size 5 i0 (.int .u8 0) 1 1 Try.underlying91 hi hz0 hz1 hz2 rfl (by decide) _ _ _ rfl (hown.alloc _) ⟨wr.heap.size, 0, none⟩ 1 1 [.int .u8 (bits BinOp.or IntKind.u8 ((m : Int) % 256) 128)] rfl rfl ?c1 ?c2 ?c3 ?c4 ?c5 ?c6)
      case c1 => exact hone.out
      case c2 => simp [Value.oneCell']
      case c3 => simp [maxLen]; omega
      case c4 => simp; omega
      case c5 => have := hb.size; simp; omega
      case c6 =>
        intro v' w1 hown1 hg1 _
        rw [hor.out, cells_snoc] at hown1
        go_wp2_with fail
        clear hone hor
        refine ⟨⟨m / 128, done ++ [UInt8.ofNat (m % 128 + 128)], by go_num, Lib.hid (by have := hm.out; omega), by rw [List.length_append]; exact hown1, Lib.hid ?_, (hb.alloc hb.size _).grown hg1 (by have := hb.size; simp; omega) (fun k hk => (hown.lt k hk).1)⟩, ?_⟩
        · have h1 := hd.out
          rw [hub.out] at h1
          simpa using h1
        · simp [intOf]; omega
    · have hm' : m ≤ 127 := by omega
      have hub := Lib.hid (ub_small (n := m) (by omega))
      have hone2 := Lib.hid (cell_one_new wr (.int .u8 (m : Int)) 5)
      have e256 := Lib.hid (show (m : Int) = ((UInt8.ofNat m).toNat : Int) by simp only [UInt8.toNat_ofNat']; omega)
      go_wp2_with (at_builtin; refine wpList_append_own _ rfl _ _ 91 rfl w.heap.size 5 i0 (.int .u8 0) 1 1 Try.underlying91 hi hz0 hz1 hz2 rfl (by decide) _ _ _ rfl (hown.alloc _) ⟨wr.heap.size, 0, none⟩ 1 1 [.int .u8 (m : Int)] rfl rfl ?c1 ?c2 ?c3 ?c4 ?c5 ?c6)
      case c1 => exact hone2.out
      case c2 => simp [Value.oneCell']
      case c3 => simp [maxLen]; omega
      case c4 => simp; omega
      case c5 => have := hb.size; simp; omega
      case c6 =>
        intro v' w1 hown1 hg1 hnil
        have hown2 : w1.ownsRow w.heap.size 5 1 v' (done.length + 1) (Lib.byteCells (done ++ [UInt8.ofNat m])) := by rw [← cells_snoc, ← e256.out]; exact hown1
        have hnn : ¬ v' = .slice none 0 0 := hnil
        have hcv := convert_own (P := Try.prog) (src := 91) (dst := 9) hown2 hnn Try.underlying91 Try.underlying5 Try.underlying9
        have hfin : done ++ [UInt8.ofNat m] = ub n := by have h1 := hd.out; rw [hub.out] at h1; exact h1
        rw [hfin] at hcv
        have HB := (hb.alloc hb.size (.cells #[.int .u8 (m : Int)] 5)).grown hg1 (by have := hb.size; simp; omega) (fun k hk => (hown.lt k hk).1)
        clear hone hor hone2 e256 hnil hfin hown1 hown2
        go_wp2_with fail
        go_ret
        exact ⟨rfl, HB⟩
end Go.Proofs.Ytbhlgceicfjncaa
