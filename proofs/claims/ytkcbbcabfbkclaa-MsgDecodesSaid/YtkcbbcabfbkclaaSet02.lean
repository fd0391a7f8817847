/-
  Joined: MsgMath, BuildOne, MsgCells.
-/
import Derived.Test.YtkcbbcabfbkclaaSet01
import Derived.Lib.Strings
namespace Go.Proofs.Ytkcbbcabfbkclaa
open Go.RowKit
set_option linter.unusedVariables false
set_option linter.unnecessarySimpa false
set_option linter.unusedSimpArgs false
set_option maxRecDepth 100000

/-- A write, a message, as plain data. -/
structure Wr where
  key : ByteArray
  gone : Bool
  val : ByteArray
structure Mg where
  kind : Int
  frm : Int
  to_ : Int
  node : Int
  life : Int
  seq : Int
  a : Nat
  b : Nat
  key : ByteArray
  found : Bool
  time : Nat
  gone : Bool
  val : ByteArray
  ws : List Wr
  note : ByteArray
  hint : Nat
  must : Nat
def wr0 : Wr := ⟨ByteArray.empty, false, ByteArray.empty⟩
def mg0 : Mg := ⟨0, 0, 0, 0, 0, 0, 0, 0, ByteArray.empty, false, 0, false, ByteArray.empty, [], ByteArray.empty, 0, 0⟩

def bl (b : Bool) : List UInt8 := [if b then 1 else 0]
def txB (s : ByteArray) : List UInt8 := ub s.size ++ s.data.toList
def wrB (w : Wr) : List UInt8 := bl w.gone ++ txB w.key ++ txB w.val
def wsB (l : List Wr) : List UInt8 := l.flatMap wrB
def numF (n : Nat) : Option (List UInt8) := if n = 0 then none else some (ub n)
def txnZero (m : Mg) : Bool := m.node == 0 && m.life == 0 && m.seq == 0
def verZero (m : Mg) : Bool := m.time == 0 && !m.gone && m.val.size == 0
/-- What a tag's field has; none: it is zero. -/
def fld (m : Mg) : Nat → Option (List UInt8)
  | 1 => numF m.frm.toNat
  | 2 => numF m.to_.toNat
  | 3 => if txnZero m then none else some (ub m.node.toNat ++ ub m.life.toNat ++ ub m.seq.toNat)
  | 4 => numF m.a
  | 5 => numF m.b
  | 6 => if m.key.size = 0 then none else some m.key.data.toList
  | 7 => if m.found then some [] else none
  | 8 => if verZero m then none else some (ub m.time ++ bl m.gone ++ m.val.data.toList)
  | 9 => if m.ws.length = 0 then none else some (ub m.ws.length ++ wsB m.ws)
  | 10 => if m.note.size = 0 then none else some m.note.data.toList
  | 11 => numF m.hint
  | 12 => numF m.must
  | _ => none
theorem fld_3 (m : Mg) : fld m 3 = if txnZero m then none else some (ub m.node.toNat ++ ub m.life.toNat ++ ub m.seq.toNat) := rfl
theorem fld_6 (m : Mg) : fld m 6 = if m.key.size = 0 then none else some m.key.data.toList := rfl
theorem fld_7 (m : Mg) : fld m 7 = if m.found then some [] else none := rfl
theorem fld_8 (m : Mg) : fld m 8 = if verZero m then none else some (ub m.time ++ bl m.gone ++ m.val.data.toList) := rfl
theorem fld_9 (m : Mg) : fld m 9 = if m.ws.length = 0 then none else some (ub m.ws.length ++ wsB m.ws) := rfl
theorem fld_10 (m : Mg) : fld m 10 = if m.note.size = 0 then none else some m.note.data.toList := rfl
def headT (tag : Nat) : Nat := if tag = 12 then 25 else 2 * tag
def encT (tag : Nat) (t : List UInt8) : List UInt8 := ub (headT tag) ++ (ub t.length ++ t)
def fldB (m : Mg) (tag : Nat) : List UInt8 := match fld m tag with
  | none => []
  | some t => encT tag t
def fldsB (m : Mg) : Nat → List UInt8
  | 0 => []
  | k + 1 => fldsB m k ++ fldB m (k + 1)
/-- A message's bytes, up to a tag. -/
def msgB (m : Mg) (last : Nat) : List UInt8 := ub m.kind.toNat ++ fldsB m last

def in31 (n : Int) : Bool := decide (0 ≤ n ∧ n ≤ 2147483647)
def nums31 (m : Mg) : Bool := in31 m.frm && in31 m.to_ && in31 m.node && in31 m.life && in31 m.seq
def wrOK (w : Wr) : Bool := !(w.gone && w.val.size != 0)
def kindOK (m : Mg) : Bool := decide (1 ≤ m.kind ∧ m.kind ≤ 9)
def verOK (m : Mg) : Bool := !(m.gone && m.val.size != 0)
def rightB (m : Mg) : Bool := nums31 m && (kindOK m && (verOK m && (decide (m.ws.length ≤ 8) && (m.ws.all wrOK && decide ((msgB m 12).length ≤ 4000)))))

def lastOf (v : Int) : Nat := if v = 1 then 9 else if v = 2 then 10 else if v = 3 then 12 else 0
/-- Without what is from later versions. -/
def cut (v : Int) (m : Mg) : Mg := { m with hint := if v < 3 then 0 else m.hint, note := if v < 2 then ByteArray.empty else m.note }
def projB (v : Int) (m : Mg) : Mg × Int :=
  if lastOf v = 0 ∨ rightB m = false then (mg0, 1) else if v < 3 ∧ m.must ≠ 0 then (mg0, 4) else (cut v m, 0)
def encB (v : Int) (m : Mg) : List UInt8 × Int := if (projB v m).2 = 0 then (msgB m (lastOf v), 0) else ([], (projB v m).2)

/-- The numbers fit. -/
structure Mg.fits (m : Mg) : Prop where
  kind : -9223372036854775808 ≤ m.kind ∧ m.kind ≤ 9223372036854775807
  frm : -9223372036854775808 ≤ m.frm ∧ m.frm ≤ 9223372036854775807
  to_ : -9223372036854775808 ≤ m.to_ ∧ m.to_ ≤ 9223372036854775807
  node : -9223372036854775808 ≤ m.node ∧ m.node ≤ 9223372036854775807
  life : -9223372036854775808 ≤ m.life ∧ m.life ≤ 9223372036854775807
  seq : -9223372036854775808 ≤ m.seq ∧ m.seq ≤ 9223372036854775807
  a : m.a < 18446744073709551616
  b : m.b < 18446744073709551616
  time : m.time < 18446744073709551616
  hint : m.hint < 18446744073709551616
  must : m.must < 18446744073709551616
/-- The sizes fit: as the statements look at them. -/
structure Mg.few (m : Mg) : Prop where
  key : m.key.size ≤ 5000
  note : m.note.size ≤ 5000
  val : m.val.size ≤ 12000
  ws : m.ws.length ≤ 20
  all : ∀ w ∈ m.ws, w.key.size ≤ 5000 ∧ w.val.size ≤ 5000
theorem mg0_fits : mg0.fits := by constructor <;> simp [mg0]
theorem mg0_few : mg0.few := by constructor <;> simp [mg0]
end Go.Proofs.Ytkcbbcabfbkclaa

namespace Go.Proofs.Ytkcbbcabfbkclaa
open Go.RowKit
set_option linter.unnecessarySimpa false
set_option linter.unusedVariables false
set_option linter.unusedSimpArgs false
set_option maxRecDepth 100000

/-- A row of the call's own stays, whatever is made besides. -/
theorem own_below {w w' : World} {B e size n : Nat} {v : Value} {xs : List Value} (h : w.ownsRow B e size v n xs) (hb : Below w.heap.size w w') : w'.ownsRow B e size v n xs := by
  refine ⟨h.1, ?_⟩
  rcases h.2 with h2 | ⟨g, cap, cur, hv, hB, hg, h3⟩
  · exact .inl h2
  · exact .inr ⟨g, cap, cur, hv, hB, by rw [hb.block g (Array.getElem?_eq_some_iff.1 hg).1]; exact hg, h3⟩

theorem own_slice {w : World} {base e size n : Nat} {v : Value} {xs : List Value} (h : w.ownsRow base e size v n xs) (hn : 0 < n) : ∃ g cap, v = .slice (some ⟨g, 0, none⟩) n cap ∧ base ≤ g ∧ g < w.heap.size := by
  rcases h.2 with ⟨_, rfl⟩ | ⟨g, cap, cur, rfl, hb, hg, _⟩
  · omega
  · exact ⟨g, cap, rfl, hb, (Array.getElem?_eq_some_iff.1 hg).1⟩

theorem own_form {w : World} {base e size n : Nat} {v : Value} {xs : List Value} (h : w.ownsRow base e size v n xs) : ∃ a cap, v = .slice a n cap := by
  rcases h.2 with ⟨h1, rfl⟩ | ⟨g, cap, cur, rfl, _⟩
  · exact ⟨none, 0, h1⟩
  · exact ⟨_, cap, rfl⟩

theorem cells_one {v : Value} (h : v.oneCell' = true) : v.cells = #[v] := by cases v <;> first | rfl | (simp [Value.oneCell'] at h)

theorem run_buildSlice_one {P : Program} (w : World) (t e : TypeId) (z v : Value) (hu : P.underlying t = some (.slice e)) (hi : (P.info? e).map (fun i => (i.zero, i.size)) = some (some z, 1)) (hz : z.oneCell' = true) (hv : v.oneCell' = true) :
    (Instr.buildSlice t 1 #[(0, v)]).run P w = .ok (.slice (some ⟨w.heap.size, 0, none⟩) 1 1) (w.alloc (.cells #[v] e)) := by
  cases hq : P.info? e with
  | none => simp [hq] at hi
  | some i =>
    simp [hq] at hi
    unfold Instr.buildSlice
    simp [run_underlying hu, sizeOf, typeInfo, zeroValue, hq, hi.1, hi.2, cells_one hz, cells_one hv, Instr.fill, newRow, Sem.run_bind]
    refine congrArg (fun c => w.alloc (.cells c e)) ?_
    apply Array.ext
    · simp
    · intro j h1 h2
      obtain rfl : j = 0 := by simp at h2; omega
      simp

theorem wp_buildSlice_one {P : Program} {op : Oper} {a : Act} {w : World} {K : Act → World → Prop} {Q : Exit → Act → World → Prop} (t e : TypeId) (x : Operand) (ho : op.op = .buildSlice t 1 #[(0, x)])
    (z v : Value) (hx : a.eval x = v) (hu : P.underlying t = some (.slice e)) (hi : (P.info? e).map (fun i => (i.zero, i.size)) = some (some z, 1)) (hz : z.oneCell' = true) (hv : v.oneCell' = true)
    (h : K (a.put op.dst (.slice (some ⟨w.heap.size, 0, none⟩) 1 1)) (w.alloc (.cells #[v] e))) : op.wp P a w K Q := by
  unfold Oper.wp execOp
  simp [ho, hx, run_buildSlice_one w t e z v hu hi hz hv, Oper.upon]
  exact h

theorem wpList_buildSlice_one {P : Program} {ops : Array Oper} {rest : List Oper} {op : Oper} {a : Act} {w : World} {Q : Exit → Act → World → Prop} (hgd : op.guard = none) (t e : TypeId) (x : Operand) (ho : op.op = .buildSlice t 1 #[(0, x)])
    (z v : Value) (hx : a.eval x = v) (hu : P.underlying t = some (.slice e)) (hi : (P.info? e).map (fun i => (i.zero, i.size)) = some (some z, 1)) (hz : z.oneCell' = true) (hv : v.oneCell' = true)
    (h : wpList P ops Q rest (a.put op.dst (.slice (some ⟨w.heap.size, 0, none⟩) 1 1)) (w.alloc (.cells #[v] e))) : wpList P ops Q (op :: rest) a w :=
  wpList_plain hgd fun _ hK => by
    unfold Oper.wp execOp
    simp [ho, hx, run_buildSlice_one w t e z v hu hi hz hv, Oper.upon]
    exact hK _ _ h

theorem run_buildSlice_two {P : Program} (w : World) (t e : TypeId) (z u v : Value) (hu : P.underlying t = some (.slice e)) (hi : (P.info? e).map (fun i => (i.zero, i.size)) = some (some z, 1)) (hz : z.oneCell' = true) (hu1 : u.oneCell' = true) (hv : v.oneCell' = true) :
    (Instr.buildSlice t 2 #[(0, u), (1, v)]).run P w = .ok (.slice (some ⟨w.heap.size, 0, none⟩) 2 2) (w.alloc (.cells #[u, v] e)) := by
  cases hq : P.info? e with
  | none => simp [hq] at hi
  | some i =>
    simp [hq] at hi
    unfold Instr.buildSlice
    simp [run_underlying hu, sizeOf, typeInfo, zeroValue, hq, hi.1, hi.2, cells_one hz, cells_one hv, cells_one hu1, Instr.fill, newRow, Sem.run_bind]
    refine congrArg (fun c => w.alloc (.cells c e)) ?_
    apply Array.ext
    · simp
    · intro j h1 h2
      have : j = 0 ∨ j = 1 := by simp at h2; omega
      rcases this with rfl | rfl <;> simp
theorem wp_buildSlice_two {P : Program} {op : Oper} {a : Act} {w : World} {K : Act → World → Prop} {Q : Exit → Act → World → Prop} (t e : TypeId) (x y : Operand) (ho : op.op = .buildSlice t 2 #[(0, x), (1, y)])
    (z u v : Value) (hx : a.eval x = u) (hy : a.eval y = v) (hu : P.underlying t = some (.slice e)) (hi : (P.info? e).map (fun i => (i.zero, i.size)) = some (some z, 1)) (hz : z.oneCell' = true) (hu1 : u.oneCell' = true) (hv : v.oneCell' = true)
    (h : K (a.put op.dst (.slice (some ⟨w.heap.size, 0, none⟩) 2 2)) (w.alloc (.cells #[u, v] e))) : op.wp P a w K Q := by
  unfold Oper.wp execOp
  simp [ho, hx, hy, run_buildSlice_two w t e z u v hu hi hz hu1 hv, Oper.upon]
  exact h
end Go.Proofs.Ytkcbbcabfbkclaa

namespace Go.Proofs.Ytkcbbcabfbkclaa
open Go.RowKit
set_option linter.unusedVariables false
set_option linter.unnecessarySimpa false
set_option linter.unusedSimpArgs false
set_option maxRecDepth 100000

def Mg.cells (m : Mg) (sl : Value) : Array Value :=
  #[.int .i64 m.kind, .int .i64 m.frm, .int .i64 m.to_, .int .i64 m.node, .int .i64 m.life, .int .i64 m.seq, .int .u64 m.a, .int .u64 m.b, .string m.key, .bool m.found,
    .int .u64 m.time, .bool m.gone, .string m.val, sl, .string m.note, .int .u64 m.hint, .int .u64 m.must]
/-- A slice of writes, in memory. -/
def WsAt (W : World) (sl : Value) (ws : List Wr) : Prop :=
  ∃ a len cap, sl = .slice a len cap ∧ ws.length = len ∧ ∀ i, i < len → ∃ b off, a = some ⟨b, off, none⟩ ∧ b < W.heap.size ∧
    W.cell? ⟨b, off + i * 3, none⟩ = some (.string (ws.getD i wr0).key) ∧ W.cell? ⟨b, off + i * 3 + 1, none⟩ = some (.bool (ws.getD i wr0).gone) ∧ W.cell? ⟨b, off + i * 3 + 2, none⟩ = some (.string (ws.getD i wr0).val)
theorem WsAt.below {W W' : World} {sl : Value} {ws : List Wr} (h : WsAt W sl ws) (hb : Below W.heap.size W W') : WsAt W' sl ws := by
  obtain ⟨a, len, cap, h1, h2, h3⟩ := h
  refine ⟨a, len, cap, h1, h2, fun i hi => ?_⟩
  obtain ⟨b, off, ha, hlt, c0, c1, c2⟩ := h3 i hi
  exact ⟨b, off, ha, Nat.lt_of_lt_of_le hlt hb.size, (hb.cell hlt).trans c0, (hb.cell hlt).trans c1, (hb.cell hlt).trans c2⟩
theorem WsAt.nil (W : World) : WsAt W (.slice none 0 0) [] := ⟨none, 0, 0, rfl, rfl, fun i hi => by omega⟩

/-- What is looked at: numbers that are written as they are, sizes that are told. -/
structure Mg.sane (m : Mg) : Prop where
  kind : 0 ≤ m.kind ∧ m.kind ≤ 9
  nums : nums31 m = true
  fits : m.fits
  few : m.few
theorem mg0_sane : mg0.sane := ⟨by simp [mg0], rfl, mg0_fits, mg0_few⟩

/-- What Field tells of a tag, zero or not. -/
def fldX (m : Mg) (tag : Nat) : List UInt8 :=
  if tag = 8 then ub m.time ++ bl m.gone ++ m.val.data.toList else if tag = 9 then ub m.ws.length ++ wsB m.ws else (fld m tag).getD []
theorem fldX_some {m : Mg} {tag : Nat} {t : List UInt8} (h : fld m tag = some t) : fldX m tag = t := by
  unfold fldX
  split
  · subst_vars
    simp only [fld] at h
    split at h
    · cases h
    · injection h
  · split
    · subst_vars
      simp only [fld] at h
      split at h
      · cases h
      · injection h
    · rw [h]; rfl
end Go.Proofs.Ytkcbbcabfbkclaa
