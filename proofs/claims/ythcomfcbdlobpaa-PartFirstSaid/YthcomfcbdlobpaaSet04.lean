/-
  Joined: FixMath, BuildOne, PrtRow, PrtWithout.
-/
import Derived.Test.YthcomfcbdlobpaaSet01
import Derived.ProofKit
import Derived.WalkSpells
import Derived.WalkLawsBesides
import Derived.Lib.Hide
import Derived.Test.YthcomfcbdlobpaaSet02
import Derived.Laws.Rows
import Derived.Laws.AppendOwn
import Derived.Laws.OwnMore
import Derived.OwnWalk
namespace Go.Proofs.Ythcomfcbdlobpaa
open Go.RowKit
set_option linter.unnecessarySimpa false
set_option linter.unusedVariables false
set_option linter.unusedSimpArgs false
set_option maxRecDepth 100000

theorem u8info : (Try.prog.info? 5).map (fun i => (i.zero, i.size, i.bytes)) = some (some (.int .u8 0), 1, 1) := by kernel_rfl

/-- Bytes by their places. -/
def cellsF (size : Nat) (f : Nat → UInt8) : List UInt8 := (List.range size).map f

theorem cellsF_length (size : Nat) (f : Nat → UInt8) : (cellsF size f).length = size := by simp [cellsF]

theorem cellsF_congr {size : Nat} {f g : Nat → UInt8} (h : ∀ j, j < size → f j = g j) : cellsF size f = cellsF size g := by
  unfold cellsF
  apply List.map_congr_left
  intro j hj
  exact h j (List.mem_range.1 hj)

theorem cellsF_set {size p : Nat} {f : Nat → UInt8} (v : UInt8) : (Lib.byteCells (cellsF size f)).set p (.int .u8 (v.toNat : Int)) = Lib.byteCells (cellsF size (fun j => if j = p then v else f j)) := by
  apply List.ext_getElem
  · simp [Lib.byteCells, cellsF]
  · intro j h1 h2
    simp only [Lib.byteCells, cellsF, List.getElem_set, List.getElem_map, List.getElem_range]
    by_cases h : p = j
    · subst h; simp
    · rw [if_neg h, if_neg (fun e => h e.symm)]

theorem zeros_cellsF (size : Nat) : (madeCells #[Value.int .u8 0] size).toList = Lib.byteCells (cellsF size (fun _ => 0)) := by
  rw [toList_madeCells_one]
  simp [Lib.byteCells, cellsF, List.map_const']

/-- Which byte of n stands at place j of size. -/
def pl (size : Nat) (big : Bool) (j : Nat) : Nat := if big then size - 1 - j else j
def fxAt (n size : Nat) (big : Bool) (j : Nat) : UInt8 := UInt8.ofNat (n / 256 ^ pl size big j)
theorem pl_lt {size j : Nat} (big : Bool) (h : j < size) : pl size big j < size := by unfold pl; split <;> omega
theorem fxAt_shift (n size : Nat) (big : Bool) (j : Nat) : (n : Int) / 2 ^ (8 * pl size big j) % 256 = ((fxAt n size big j).toNat : Int) := by
  unfold fxAt
  have e : ((2 : Int) ^ (8 * pl size big j)) = ((256 ^ pl size big j : Nat) : Int) := by
    rw [show (256 : Nat) = 2 ^ 8 from rfl, ← Nat.pow_mul]; simp
  rw [e]
  generalize 256 ^ pl size big j = q
  simp only [UInt8.toNat_ofNat']
  omega
/-- One place more is filled. -/
theorem cellsF_next {size p : Nat} {P P' : Nat → Prop} [DecidablePred P] [DecidablePred P'] {g : Nat → UInt8} (h : ∀ j, j < size → (P' j ↔ j = p ∨ P j)) :
    (Lib.byteCells (cellsF size fun j => if P j then g j else 0)).set p (.int .u8 ((g p).toNat : Int)) = Lib.byteCells (cellsF size fun j => if P' j then g j else 0) := by
  rw [cellsF_set]
  congr 1
  apply cellsF_congr
  intro j hj
  have := h j hj
  by_cases e : j = p
  · subst e; simp [this]
  · by_cases hp : P j <;> simp [this, e, hp]
def fx (n size : Nat) (big : Bool) : List UInt8 := cellsF size (fxAt n size big)
theorem pl_pl {size k : Nat} (big : Bool) (h : k < size) : pl size big (pl size big k) = k := by unfold pl; split <;> omega
theorem fxAt_pl {n size k : Nat} (big : Bool) (h : k < size) : ((n / 256 ^ k : Nat) : Int) % 256 = ((fxAt n size big (pl size big k)).toNat : Int) := by
  unfold fxAt
  rw [pl_pl big h]
  simp only [UInt8.toNat_ofNat']
  omega
end Go.Proofs.Ythcomfcbdlobpaa

namespace Go.Proofs.Ythcomfcbdlobpaa
open Go.RowKit
set_option linter.unnecessarySimpa false
set_option linter.unusedVariables false
set_option linter.unusedSimpArgs false
set_option maxRecDepth 100000

/-- A row of the call's own stays, whatever is made besides. -/
theorem own_below {w w' : World} {B e size n : Nat} {v : Value} {xs : List Value} (h : w.ownsRow B e size v n xs) (hb : Below w.heap.size w w') : w'.ownsRow B e size v n xs := by
  refine ⟨h.1, ?_⟩
  rcases h.2 with h2 | ⟨g, cap, cur, hv, hB, hg, h3⟩
  · exact .inl h2
  · exact .inr ⟨g, cap, cur, hv, hB, by rw [hb.block g (Array.getElem?_eq_some_iff.1 hg).1]; exact hg, h3⟩

theorem own_slice {w : World} {base e size n : Nat} {v : Value} {xs : List Value} (h : w.ownsRow base e size v n xs) (hn : 0 < n) : ∃ g cap, v = .slice (some ⟨g, 0, none⟩) n cap ∧ base ≤ g ∧ g < w.heap.size := by
  rcases h.2 with ⟨_, rfl⟩ | ⟨g, cap, cur, rfl, hb, hg, _⟩
  · omega
  · exact ⟨g, cap, rfl, hb, (Array.getElem?_eq_some_iff.1 hg).1⟩

theorem own_form {w : World} {base e size n : Nat} {v : Value} {xs : List Value} (h : w.ownsRow base e size v n xs) : ∃ a cap, v = .slice a n cap := by
  rcases h.2 with ⟨h1, rfl⟩ | ⟨g, cap, cur, rfl, _⟩
  · exact ⟨none, 0, h1⟩
  · exact ⟨_, cap, rfl⟩

theorem cells_one {v : Value} (h : v.oneCell' = true) : v.cells = #[v] := by cases v <;> first | rfl | (simp [Value.oneCell'] at h)

theorem run_buildSlice_one {P : Program} (w : World) (t e : TypeId) (z v : Value) (hu : P.underlying t = some (.slice e)) (hi : (P.info? e).map (fun i => (i.zero, i.size)) = some (some z, 1)) (hz : z.oneCell' = true) (hv : v.oneCell' = true) :
    (Instr.buildSlice t 1 #[(0, v)]).run P w = .ok (.slice (some ⟨w.heap.size, 0, none⟩) 1 1) (w.alloc (.cells #[v] e)) := by
  cases hq : P.info? e with
  | none => simp [hq] at hi
  | some i =>
    simp [hq] at hi
    unfold Instr.buildSlice
    simp [run_underlying hu, sizeOf, typeInfo, zeroValue, hq, hi.1, hi.2, cells_one hz, cells_one hv, Instr.fill, newRow, Sem.run_bind]
    refine congrArg (fun c => w.alloc (.cells c e)) ?_
    apply Array.ext
    · simp
    · intro j h1 h2
      obtain rfl : j = 0 := by simp at h2; omega
      simp

theorem wp_buildSlice_one {P : Program} {op : Oper} {a : Act} {w : World} {K : Act → World → Prop} {Q : Exit → Act → World → Prop} (t e : TypeId) (x : Operand) (ho : op.op = .buildSlice t 1 #[(0, x)])
    (z v : Value) (hx : a.eval x = v) (hu : P.underlying t = some (.slice e)) (hi : (P.info? e).map (fun i => (i.zero, i.size)) = some (some z, 1)) (hz : z.oneCell' = true) (hv : v.oneCell' = true)
    (h : K (a.put op.dst (.slice (some ⟨w.heap.size, 0, none⟩) 1 1)) (w.alloc (.cells #[v] e))) : op.wp P a w K Q := by
  unfold Oper.wp execOp
  simp [ho, hx, run_buildSlice_one w t e z v hu hi hz hv, Oper.upon]
  exact h

theorem wpList_buildSlice_one {P : Program} {ops : Array Oper} {rest : List Oper} {op : Oper} {a : Act} {w : World} {Q : Exit → Act → World → Prop} (hgd : op.guard = none) (t e : TypeId) (x : Operand) (ho : op.op = .buildSlice t 1 #[(0, x)])
    (z v : Value) (hx : a.eval x = v) (hu : P.underlying t = some (.slice e)) (hi : (P.info? e).map (fun i => (i.zero, i.size)) = some (some z, 1)) (hz : z.oneCell' = true) (hv : v.oneCell' = true)
    (h : wpList P ops Q rest (a.put op.dst (.slice (some ⟨w.heap.size, 0, none⟩) 1 1)) (w.alloc (.cells #[v] e))) : wpList P ops Q (op :: rest) a w :=
  wpList_plain hgd fun _ hK => by
    unfold Oper.wp execOp
    simp [ho, hx, run_buildSlice_one w t e z v hu hi hz hv, Oper.upon]
    exact hK _ _ h

theorem run_buildSlice_two {P : Program} (w : World) (t e : TypeId) (z u v : Value) (hu : P.underlying t = some (.slice e)) (hi : (P.info? e).map (fun i => (i.zero, i.size)) = some (some z, 1)) (hz : z.oneCell' = true) (hu1 : u.oneCell' = true) (hv : v.oneCell' = true) :
    (Instr.buildSlice t 2 #[(0, u), (1, v)]).run P w = .ok (.slice (some ⟨w.heap.size, 0, none⟩) 2 2) (w.alloc (.cells #[u, v] e)) := by
  cases hq : P.info? e with
  | none => simp [hq] at hi
  | some i =>
    simp [hq] at hi
    unfold Instr.buildSlice
    simp [run_underlying hu, sizeOf, typeInfo, zeroValue, hq, hi.1, hi.2, cells_one hz, cells_one hv, cells_one hu1, Instr.fill, newRow, Sem.run_bind]
    refine congrArg (fun c => w.alloc (.cells c e)) ?_
    apply Array.ext
    · simp
    · intro j h1 h2
      have : j = 0 ∨ j = 1 := by simp at h2; omega
      rcases this with rfl | rfl <;> simp
theorem wp_buildSlice_two {P : Program} {op : Oper} {a : Act} {w : World} {K : Act → World → Prop} {Q : Exit → Act → World → Prop} (t e : TypeId) (x y : Operand) (ho : op.op = .buildSlice t 2 #[(0, x), (1, y)])
    (z u v : Value) (hx : a.eval x = u) (hy : a.eval y = v) (hu : P.underlying t = some (.slice e)) (hi : (P.info? e).map (fun i => (i.zero, i.size)) = some (some z, 1)) (hz : z.oneCell' = true) (hu1 : u.oneCell' = true) (hv : v.oneCell' = true)
    (h : K (a.put op.dst (.slice (some ⟨w.heap.size, 0, none⟩) 2 2)) (w.alloc (.cells #[u, v] e))) : op.wp P a w K Q := by
  unfold Oper.wp execOp
  simp [ho, hx, hy, run_buildSlice_two w t e z u v hu hi hz hu1 hv, Oper.upon]
  exact h
end Go.Proofs.Ythcomfcbdlobpaa

namespace Go.Proofs.Ythcomfcbdlobpaa
open Go.RowKit
set_option linter.unusedVariables false
set_option linter.unnecessarySimpa false
set_option linter.unusedSimpArgs false
set_option maxRecDepth 100000

def Pd.cells (p : Pd) : List Value := [.int .i64 p.t.node, .int .i64 p.t.life, .int .i64 p.t.seq, .int .u64 (p.start : Int), .slice p.a p.n p.c]
def pdCells : List Pd → List Value
  | [] => []
  | m :: L => m.cells ++ pdCells L
theorem pdCells_len : ∀ L : List Pd, (pdCells L).length = L.length * 5
  | [] => rfl
  | m :: L => by rw [pdCells, List.length_append, pdCells_len L, List.length_cons]; simp [Pd.cells]; omega
theorem pdCells_app : ∀ L M : List Pd, pdCells (L ++ M) = pdCells L ++ pdCells M
  | [], _ => rfl
  | m :: L, M => by rw [List.cons_append, pdCells, pdCells, pdCells_app L M, List.append_assoc]
theorem pdCells_at : ∀ (L : List Pd) (i j : Nat), i < L.length → j < 5 → (pdCells L)[i * 5 + j]? = ((L.getD i pd0).cells)[j]?
  | [], i, j, hi, _ => by simp at hi
  | m :: L, 0, j, _, hj => by
    rw [pdCells, List.getElem?_append_left (by simp [Pd.cells]; omega)]
    simp
  | m :: L, i + 1, j, hi, hj => by
    rw [pdCells, List.getElem?_append_right (by simp [Pd.cells]; omega)]
    have := pdCells_at L i j (by simpa using hi) hj
    rw [show (i + 1) * 5 + j - m.cells.length = i * 5 + j by simp [Pd.cells]; omega, this]
    simp
theorem pdCells_one : ∀ (L : List Pd) (u : Value), u ∈ pdCells L → u.oneCell' = true
  | [], u, h => by simp [pdCells] at h
  | m :: L, u, h => by
    rw [pdCells, List.mem_append] at h
    rcases h with h | h
    · simp only [Pd.cells, List.mem_cons, List.not_mem_nil, or_false] at h
      rcases h with rfl | rfl | rfl | rfl | rfl <;> rfl
    · exact pdCells_one L u h
/-- The cells of what came in, from the k-th on. -/
theorem IsPds.news {W : World} {b off len cap : Nat} {L : List Pd} (hz : IsPds W (some ⟨b, off, none⟩) len cap L) (M : List Pd) (k : Nat) (hk : ∀ i, i < M.length → k + i < len ∧ M.getD i pd0 = L.getD (k + i) pd0) :
    ∀ j u, (pdCells M)[j]? = some u → W.cell? ((⟨b, off + k * 5, none⟩ : Addr).add j) = some u := by
  intro j u hu
  have hj : j < M.length * 5 := by rw [← pdCells_len]; exact (List.getElem?_eq_some_iff.1 hu).1
  have hd : j = (j / 5) * 5 + j % 5 := by omega
  have hi : j / 5 < M.length := by omega
  obtain ⟨hkl, hM⟩ := hk (j / 5) hi
  obtain ⟨b', off', ha, _, _, _, k0, k1, k2, k3, k4⟩ := hz.2.2.2 (k + j / 5) hkl
  simp only [Option.some.injEq, Addr.mk.injEq, and_true] at ha
  obtain ⟨rfl, rfl⟩ := ha
  have hm : j % 5 < 5 := Nat.mod_lt _ (by omega)
  rw [hd, pdCells_at M _ _ hi hm, hM] at hu
  have hadd : (⟨b, off + k * 5, none⟩ : Addr).add j = ⟨b, off + k * 5 + j, none⟩ := Addr.add_lit ..
  rw [hadd]
  obtain ⟨r, hr⟩ : ∃ r, r = j % 5 := ⟨_, rfl⟩
  rw [← hr] at hu hm hd
  have e : off + k * 5 + j = off + (k + j / 5) * 5 + r := by omega
  rw [e]
  have hcs : r = 0 ∨ r = 1 ∨ r = 2 ∨ r = 3 ∨ r = 4 := by omega
  rcases hcs with rfl | rfl | rfl | rfl | rfl
  · simp only [Pd.cells, List.getElem?_cons_zero] at hu; cases hu; exact k0
  · simp only [Pd.cells, List.getElem?_cons_succ, List.getElem?_cons_zero] at hu; cases hu; exact k1
  · simp only [Pd.cells, List.getElem?_cons_succ, List.getElem?_cons_zero] at hu; cases hu; exact k2
  · simp only [Pd.cells, List.getElem?_cons_succ, List.getElem?_cons_zero] at hu; cases hu; exact k3
  · simp only [Pd.cells, List.getElem?_cons_succ, List.getElem?_cons_zero] at hu; cases hu; exact k4
/-- A row of them is a slice of them. -/
theorem pds_own {w : World} {B n c : Nat} {a : Option Addr} {L : List Pd} (h : w.ownsRow B 85 5 (.slice a n c) n (pdCells L)) (hn : L.length = n) (hl : n ≤ 100000) (hv : ∀ p ∈ L, p.start < 18446744073709551616 ∧ IsWqs w p.a p.n p.c p.w) : IsPds w a n c L := by
  have hcap : n ≤ c := by
    rcases h.2 with ⟨h1, h2⟩ | ⟨g, cap, cur, h1, _, _, h2, _⟩
    · omega
    · injection h1 with _ _ h1; omega
  refine ⟨hn, by unfold maxLen; omega, hcap, fun i hi => ?_⟩
  obtain ⟨g, cap, e, hg, hgl⟩ := own_slice h (by omega)
  injection e with e1 e2 e3
  subst e1 e3
  have hil : i < L.length := by omega
  have hm : L.getD i pd0 ∈ L := by rw [List.getD, List.getElem?_eq_getElem hil]; exact List.getElem_mem hil
  obtain ⟨k1, k2⟩ := hv _ hm
  have hc := fun j (hj : j < 5) => (h.cellAt (i * 5 + j) (by omega)).trans (pdCells_at L i j hil hj)
  have h0 := hc 0 (by omega)
  have h1 := hc 1 (by omega)
  have h2 := hc 2 (by omega)
  have h3 := hc 3 (by omega)
  have h4 := hc 4 (by omega)
  exact ⟨g, 0, rfl, hgl, k1, k2, by rw [Nat.zero_add]; exact h0, by rw [Nat.zero_add]; exact h1, by rw [Nat.zero_add]; exact h2, by rw [Nat.zero_add]; exact h3, by rw [Nat.zero_add]; exact h4⟩
theorem pdInfo : (Try.prog.info? 85).map (fun i => (i.zero, i.size, i.bytes)) = some (some (.agg #[.int .i64 0, .int .i64 0, .int .i64 0, .int .u64 0, .slice none 0 0]), 5, 56) := by kernel_rfl
end Go.Proofs.Ythcomfcbdlobpaa

namespace Go.Proofs.Ythcomfcbdlobpaa
open Go.RowKit
set_option linter.unusedVariables false
set_option linter.unnecessarySimpa false
set_option linter.unusedSimpArgs false
set_option maxRecDepth 100000

set_option maxHeartbeats 4000000 in
theorem pwithout_any (s : Value) (a : Option Addr) (len cap : Nat) (P : List Pd) (i : Nat) (w : World) (hz : IsPds w a len cap P) (hl : len ≤ 1000) (hi : i < len) :
    Calls Try.prog 41 #[.agg #[s, .slice a len cap], .int .i64 (i : Int)] w fun e w' => ∃ a' c', e = .returned (.slice a' (len - 1) c') ∧ IsPds w' a' (len - 1) c' (P.take i ++ P.drop (i + 1)) ∧ Below w.heap.size w w' ∧ (a' = none → c' = 0) ∧ (len - 1 = 0 ∨ ∃ g, a' = some ⟨g, 0, none⟩ ∧ w.heap.size ≤ g) := by
  obtain ⟨b, off, rfl, hbl, _⟩ := hz.2.2.2 i hi
  have HZ := Lib.hid hz
  have hcl := hz.2.2.1
  have hlp := hz.1
  have HW0 := Lib.hid (OneW.start w #[s, .slice (some ⟨b, off, none⟩) len cap] 34)
  obtain ⟨inf, hj, hy0, hy1, hy2⟩ := info_parts pdInfo
  have t1 := HZ.out.news (P.take i) 0 (fun j hj => by
    rw [List.length_take] at hj
    exact ⟨by omega, by simp [List.getD, List.getElem?_take, show j < i by omega]⟩)
  have t2 := HZ.out.news (P.drop (i + 1)) (i + 1) (fun j hj => by
    rw [List.length_drop] at hj
    exact ⟨by omega, by simp [List.getD, List.getElem?_drop]⟩)
  have HV := Lib.hid (show ∀ W, Below w.heap.size w W → ∀ p ∈ P.take i ++ P.drop (i + 1), p.start < 18446744073709551616 ∧ IsWqs W p.a p.n p.c p.w from fun W hb p hp => by
    have hm : p ∈ P := (List.mem_append.1 hp).elim List.mem_of_mem_take List.mem_of_mem_drop
    obtain ⟨j, hjl, rfl⟩ := List.mem_iff_getElem.1 hm
    obtain ⟨_, _, _, _, k1, k2, _⟩ := (HZ.out.below hb).2.2.2 j (by omega)
    rw [List.getD, List.getElem?_eq_getElem hjl] at k1 k2
    exact ⟨k1, k2⟩)
  have HT1 := Lib.hid t1
  have HT2 := Lib.hid t2
  have hil1 : ¬ (cap : Int) < (i : Int) := by omega
  have hil2 : (i : Int) ≤ (cap : Int) := by omega
  have c1 := (show (w.alloc (.cells #[s, .slice (some ⟨b, off, none⟩) len cap] 34)).cell? ⟨w.heap.size, 1, none⟩ = some (.slice (some ⟨b, off, none⟩) len cap) by rw [cell_of_row _ _ _ _ _ _ HW0.out.r0]; rfl)
  clear hz t1 t2
  have hb2 : Below w.heap.size w ((w.alloc (.cells #[s, .slice (some ⟨b, off, none⟩) len cap] 34)).alloc (.cells #[] 85)) := ((Below.refl w.heap.size w).alloc (Nat.le_refl _) _).alloc (by simp) _
  have hown : ((w.alloc (.cells #[s, .slice (some ⟨b, off, none⟩) len cap] 34)).alloc (.cells #[] 85)).ownsRow (w.heap.size + 1) 85 5 (.slice (some ⟨w.heap.size + 1, 0, none⟩) 0 0) 0 [] :=
    ⟨rfl, .inr ⟨w.heap.size + 1, 0, #[], rfl, Nat.le_refl _, by
      have := heap_alloc_new (w.alloc (.cells #[s, .slice (some ⟨b, off, none⟩) len cap] 34)) (.cells #[] 85)
      simpa using this, Nat.le_refl _, Nat.zero_le _, rfl, rfl⟩⟩
  have HO := Lib.hid hown
  have q1 := Lib.hid (show (pdCells (P.take i)).length = i * 5 by rw [pdCells_len, List.length_take]; congr 1; omega)
  have q2 := Lib.hid (show ∀ j u, (pdCells (P.take i))[j]? = some u → ((w.alloc (.cells #[s, .slice (some ⟨b, off, none⟩) len cap] 34)).alloc (.cells #[] 85)).cell? ((⟨b, off, none⟩ : Addr).add j) = some u from fun j u h => by
    have := HT1.out j u h
    rw [Nat.zero_mul, Nat.add_zero, Addr.add_lit] at this
    rw [Addr.add_lit]
    exact (hb2.cell (p := ⟨b, off + j, none⟩) hbl).trans this)
  have q3 := Lib.hid (pdCells_one (P.take i))
  have q4 := Lib.hid (show 0 + i ≤ maxLen by unfold maxLen; omega)
  have q5 := Lib.hid (show (0 + i) * 56 ≤ 140737488355328 by omega)
  have q6 := Lib.hid (show w.heap.size + 1 ≤ ((w.alloc (.cells #[s, .slice (some ⟨b, off, none⟩) len cap] 34)).alloc (.cells #[] 85)).heap.size by simp)
  have HB2 := Lib.hid hb2
  have hr0 := HW0.out.later ((Below.refl (w.alloc (.cells #[s, .slice (some ⟨b, off, none⟩) len cap] 34)).heap.size _).alloc (Nat.le_refl _) (.cells #[] 85))
  have HR0 := Lib.hid hr0
  clear hb2 hown hr0
  go_enter Try.func41, Try.ntmps41
  go_upto_region 2 with (at_builtin; refine wpList_append_own _ rfl _ _ 32 rfl (w.heap.size + 1) 85 inf (.agg #[.int .i64 0, .int .i64 0, .int .i64 0, .int .u64 0, .slice none 0 0]) 5 56 Try.underlying32 hj hy0 hy1 hy2 rfl (by decide) (.slice (some ⟨w.heap.size + 1, 0, none⟩) 0 0) 0 [] rfl HO.out ⟨b, off, none⟩ i cap (pdCells (P.take i)) rfl q1.out q2.out q3.out q4.out q5.out q6.out ?_; intro v9 w9 hown9 hg9 hn9)
  have hb9 : Below w.heap.size w w9 := ⟨hg9.os.trans HB2.out.os, hg9.tape.trans HB2.out.tape, hg9.output.trans HB2.out.output, Nat.le_trans HB2.out.size hg9.size, fun k hk => (hg9.block k (Nat.lt_of_lt_of_le hk HB2.out.size) (fun e => by injection e with e; have e' : k = w.heap.size + 1 := e; omega)).trans (HB2.out.block k hk)⟩
  have hr9 : w9.heap[w.heap.size]? = some (.cells #[s, .slice (some ⟨b, off, none⟩) len cap] 34 (0, 0)) := (hg9.block w.heap.size (by simp; omega) (fun e => by injection e with e; have e' : w.heap.size = w.heap.size + 1 := e; omega)).trans HR0.out.r0
  have d1 : w9.cell? ⟨w.heap.size, 1, none⟩ = some (.slice (some ⟨b, off, none⟩) len cap) := by rw [cell_of_row _ _ _ _ _ _ hr9]; rfl
  have hs9 : w.heap.size + 1 ≤ w9.heap.size := Nat.le_trans q6.out hg9.size
  rw [Nat.zero_add, List.nil_append] at hown9
  have HO9 := Lib.hid hown9
  have HB9 := Lib.hid hb9
  have i1 : IntKind.i64.wrap ((i : Int) + 1) = ((i + 1 : Nat) : Int) := by rw [IntWalk.i64_in _ (by omega)]; rfl
  obtain ⟨m, hm⟩ : ∃ m, m = len - (i + 1) := ⟨_, rfl⟩
  have r1 := Lib.hid (show (pdCells (P.drop (i + 1))).length = (len - (i + 1)) * 5 by rw [pdCells_len, List.length_drop, hlp])
  have r2 := Lib.hid (show ∀ j u, (pdCells (P.drop (i + 1)))[j]? = some u → w9.cell? ((⟨b, off + (i + 1) * 5, none⟩ : Addr).add j) = some u from fun j u h => by
    have := HT2.out j u h
    rw [Addr.add_lit] at this ⊢
    exact (hb9.cell (p := ⟨b, off + (i + 1) * 5 + j, none⟩) hbl).trans this)
  have r3 := Lib.hid (pdCells_one (P.drop (i + 1)))
  have r4 := Lib.hid (show i + (len - (i + 1)) ≤ maxLen by unfold maxLen; omega)
  have r5 := Lib.hid (show (i + (len - (i + 1))) * 56 ≤ 140737488355328 by omega)
  have r6 := Lib.hid hs9
  have e1 : ((i + 1 : Nat) : Int) ≤ (len : Int) := by omega
  have e2 : (i : Int) + 1 ≤ (len : Int) := by omega
  have e3 : (len : Int) ≤ (cap : Int) := by omega
  clear hown9 hb9 hr9 hs9 hg9 hn9 q1 q2 q3 q4 q5 q6 HO HR0 HW0 c1 hm hil1 hil2
  by_cases hce : cap = i + 1
  · have hle : len = i + 1 := by omega
    have HLE := Lib.hid hle
    have hnil : P.drop (i + 1) = [] := List.drop_eq_nil_of_le (by omega)
    have r1b := Lib.hid (show (pdCells (P.drop (i + 1))).length = 0 * 5 by rw [hnil]; rfl)
    have r4b := Lib.hid (show i + 0 ≤ maxLen by unfold maxLen; omega)
    have r5b := Lib.hid (show (i + 0) * 56 ≤ 140737488355328 by omega)
    have r2b := Lib.hid (show ∀ j u, (pdCells (P.drop (i + 1)))[j]? = some u → w9.cell? ((⟨b, off, none⟩ : Addr).add j) = some u from fun j u h => by
      rw [hnil] at h
      simp [pdCells] at h)
    subst hle
    subst hce
    clear hnil
    go_wp2_with (at_builtin; refine wpList_append_own _ rfl _ _ 32 rfl (w.heap.size + 1) 85 inf (.agg #[.int .i64 0, .int .i64 0, .int .i64 0, .int .u64 0, .slice none 0 0]) 5 56 Try.underlying32 hj hy0 hy1 hy2 rfl (by decide) v9 i (pdCells (P.take i)) rfl HO9.out ⟨b, off, none⟩ 0 0 (pdCells (P.drop (i + 1))) rfl r1b.out r2b.out r3.out r4b.out r5b.out r6.out ?_; intro v10 w10 hown10 hg10 hn10)
    go_wp2_with fail
    have hn : i + 0 = i + 1 - 1 := by omega
    rw [hn, ← pdCells_app] at hown10
    have hb10 : Below w.heap.size w w10 := ⟨hg10.os.trans HB9.out.os, hg10.tape.trans HB9.out.tape, hg10.output.trans HB9.out.output, Nat.le_trans HB9.out.size hg10.size, fun k hk => (hg10.block k (Nat.lt_of_lt_of_le hk HB9.out.size) (fun e => by have := (HO9.out.lt k e.symm).1; omega)).trans (HB9.out.block k hk)⟩
    obtain ⟨a', c', rfl, hnl⟩ : ∃ a' c', v10 = .slice a' (i + 1 - 1) c' ∧ (a' = none → c' = 0) ∧ (i + 1 - 1 = 0 ∨ ∃ g, a' = some ⟨g, 0, none⟩ ∧ w.heap.size ≤ g) := by
      rcases hown10.2 with ⟨h1, h2⟩ | ⟨g, cap', cur, h, hB, _⟩
      · exact ⟨none, 0, by rw [h1]; first | (rw [h2]) | (congr 1; omega), fun _ => rfl, .inl h2⟩
      · exact ⟨_, _, h, (fun e => by cases e), .inr ⟨g, rfl, Nat.le_of_succ_le hB⟩⟩
    have HNL := Lib.hid hnl
    clear hnl
    go_ret
    exact ⟨a', c', rfl, pds_own hown10 (by rw [List.length_append, List.length_take, List.length_drop]; omega) (by omega) (HV.out w10 hb10), hb10, HNL.out⟩
  · go_wp2_with (at_builtin; refine wpList_append_own _ rfl _ _ 32 rfl (w.heap.size + 1) 85 inf (.agg #[.int .i64 0, .int .i64 0, .int .i64 0, .int .u64 0, .slice none 0 0]) 5 56 Try.underlying32 hj hy0 hy1 hy2 rfl (by decide) v9 i (pdCells (P.take i)) rfl HO9.out ⟨b, off + (i + 1) * 5, none⟩ (len - (i + 1)) (cap - (i + 1)) (pdCells (P.drop (i + 1))) rfl r1.out r2.out r3.out r4.out r5.out r6.out ?_; intro v10 w10 hown10 hg10 hn10)
    go_wp2_with fail
    have hn : i + (len - (i + 1)) = len - 1 := by omega
    rw [hn, ← pdCells_app] at hown10
    have hb10 : Below w.heap.size w w10 := ⟨hg10.os.trans HB9.out.os, hg10.tape.trans HB9.out.tape, hg10.output.trans HB9.out.output, Nat.le_trans HB9.out.size hg10.size, fun k hk => (hg10.block k (Nat.lt_of_lt_of_le hk HB9.out.size) (fun e => by have := (HO9.out.lt k e.symm).1; omega)).trans (HB9.out.block k hk)⟩
    obtain ⟨a', c', rfl, hnl⟩ : ∃ a' c', v10 = .slice a' (len - 1) c' ∧ (a' = none → c' = 0) ∧ (len - 1 = 0 ∨ ∃ g, a' = some ⟨g, 0, none⟩ ∧ w.heap.size ≤ g) := by
      rcases hown10.2 with ⟨h1, h2⟩ | ⟨g, cap', cur, h, hB, _⟩
      · exact ⟨none, 0, by rw [h1]; first | (rw [h2]) | (congr 1; omega), fun _ => rfl, .inl h2⟩
      · exact ⟨_, _, h, (fun e => by cases e), .inr ⟨g, rfl, Nat.le_of_succ_le hB⟩⟩
    have HNL := Lib.hid hnl
    clear hnl
    go_ret
    exact ⟨a', c', rfl, pds_own hown10 (by rw [List.length_append, List.length_take, List.length_drop]; omega) (by omega) (HV.out w10 hb10), hb10, HNL.out⟩
end Go.Proofs.Ythcomfcbdlobpaa
