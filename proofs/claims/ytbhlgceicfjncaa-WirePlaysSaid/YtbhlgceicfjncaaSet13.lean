/-
  The program's splitter in memory: a table, bytes of a frame that isn't whole, payloads that wait, a mark; laws that its walks want.
-/
import Derived.Test.YtbhlgceicfjncaaSet12
import Derived.Test.YtbhlgceicfjncaaSet10
import Derived.Test.YtbhlgceicfjncaaSet03
import Derived.Deep.MidRow
import Derived.Lib.AppendStr
import Derived.Deep.DeepCutAuto
import Derived.Deep.CutBlock
namespace Go.Proofs.Ytbhlgceicfjncaa
open Go.RowKit
set_option linter.unusedVariables false
set_option linter.unnecessarySimpa false
set_option linter.unusedSimpArgs false
set_option maxRecDepth 100000

/-- A splitter's cells. -/
def sRow (p q : Value) (b : Bool) : Array Value := tab ++ #[p, q, .bool b]
theorem sRow_size (p q : Value) (b : Bool) : (sRow p q b).size = 259 := by unfold sRow; rw [Array.size_append, tab_size]; rfl
theorem sRow_tab (p q : Value) (b : Bool) {j : Nat} (h : j < 256) : (sRow p q b)[j]? = tab[j]? := by
  unfold sRow; rw [Array.getElem?_append_left (by rw [tab_size]; exact h)]
theorem sRow_p (p q : Value) (b : Bool) : (sRow p q b)[256]? = some p := by
  unfold sRow; rw [Array.getElem?_append_right (by rw [tab_size]; omega), tab_size]; rfl
theorem sRow_q (p q : Value) (b : Bool) : (sRow p q b)[257]? = some q := by
  unfold sRow; rw [Array.getElem?_append_right (by rw [tab_size]; omega), tab_size]; rfl
theorem sRow_b (p q : Value) (b : Bool) : (sRow p q b)[258]? = some (.bool b) := by
  unfold sRow; rw [Array.getElem?_append_right (by rw [tab_size]; omega), tab_size]; rfl
theorem sRow_setp (p q p' : Value) (b : Bool) : (sRow p q b).setIfInBounds 256 p' = sRow p' q b := by
  unfold sRow; rw [Array.setIfInBounds_append_right (by rw [tab_size]; omega), tab_size]; rfl
theorem sRow_setq (p q q' : Value) (b : Bool) : (sRow p q b).setIfInBounds 257 q' = sRow p q' b := by
  unfold sRow; rw [Array.setIfInBounds_append_right (by rw [tab_size]; omega), tab_size]; rfl

/-- A splitter in memory. -/
def SpAt (w : World) (g : Nat) (p q : Value) (b : Bool) : Prop := w.heap[g]? = some (.cells (sRow p q b) 94 (0, 0))
section
variable {w : World} {g : Nat} {p q : Value} {b : Bool}
theorem SpAt.lt (h : SpAt w g p q b) : g < w.heap.size := (Array.getElem?_eq_some_iff.1 h).1
theorem SpAt.cp (h : SpAt w g p q b) : w.cell? ⟨g, 256, none⟩ = some p := by unfold SpAt at h; rw [cell_of_row _ _ _ _ _ _ h, sRow_p]
theorem SpAt.cq (h : SpAt w g p q b) : w.cell? ⟨g, 257, none⟩ = some q := by unfold SpAt at h; rw [cell_of_row _ _ _ _ _ _ h, sRow_q]
theorem SpAt.cb (h : SpAt w g p q b) : w.cell? ⟨g, 258, none⟩ = some (.bool b) := by unfold SpAt at h; rw [cell_of_row _ _ _ _ _ _ h, sRow_b]
theorem SpAt.fz (h : SpAt w g p q b) (j : Nat) : w.frozen? ⟨g, j, none⟩ = false := frozen_of_row w g j _ _ h
theorem SpAt.setp (h : SpAt w g p q b) (p' : Value) : SpAt (w.setCell ⟨g, 256, none⟩ p') g p' q b := by
  unfold SpAt at *; rw [heap_setCell_same w g 256 _ _ _ h, sRow_setp]
theorem SpAt.setq (h : SpAt w g p q b) (q' : Value) : SpAt (w.setCell ⟨g, 257, none⟩ q') g p q' b := by
  unfold SpAt at *; rw [heap_setCell_same w g 257 _ _ _ h, sRow_setq]
theorem SpAt.kept {w' : World} (h : SpAt w g p q b) (hb : Below w.heap.size w w') : SpAt w' g p q b := (hb.block g h.lt).trans h
theorem SpAt.table (h : SpAt w g p q b) : w.rangeAt g 0 tab.toList := fun j v hv => by
  have hj : j < 256 := by rw [← tab_size]; have := (List.getElem?_eq_some_iff.1 hv).1; simpa using this
  unfold SpAt at h
  rw [cell_of_row _ _ _ _ _ _ h, Nat.zero_add, sRow_tab _ _ _ hj]
  simpa using hv
end
theorem tabSizeL : (Try.prog.info? 28).map (·.size) = some tab.toList.length := by rw [Array.length_toList]; exact tableSize

/-- An owned row is no row of another type. -/
theorem own_ne_row {w : World} {base e n g : Nat} {v : Value} {xs : List Value} {cs : Array Value} {t : TypeId} {fz : Nat × Nat} (h : w.ownsRow base e 1 v n xs) (hg : w.heap[g]? = some (.cells cs t fz)) (hne : e ≠ t) : v.ownBlock ≠ some g := by
  intro hk
  rcases h.2 with ⟨rfl, _⟩ | ⟨g', cap, cur, rfl, hb, hgg, _⟩
  · simp [Value.ownBlock] at hk
  · simp only [Value.ownBlock, Option.some.injEq] at hk
    subst hk
    rw [hgg] at hg
    simp only [Option.some.injEq, Obj.cells.injEq] at hg
    exact hne hg.2.1
theorem own_ne_own {w : World} {B B' e e' n n' : Nat} {v v' : Value} {xs xs' : List Value} (h : w.ownsRow B e 1 v n xs) (h' : w.ownsRow B' e' 1 v' n' xs') (hne : e ≠ e') : v.ownBlock = none ∨ v.ownBlock ≠ v'.ownBlock := by
  rcases h'.2 with ⟨rfl, _⟩ | ⟨g', cap, cur, rfl, hb, hgg, _⟩
  · cases hv : v.ownBlock with
    | none => exact .inl rfl
    | some k => exact .inr (by simp [Value.ownBlock])
  · exact .inr (fun e => own_ne_row h hgg hne (by rw [e]; rfl))
theorem own_belowS {w w' : World} {base e n : Nat} {v : Value} {xs : List Value} (h : w.ownsRow base e 1 v n xs) (hb : Below w.heap.size w w') : w'.ownsRow base e 1 v n xs := by
  refine ⟨h.1, ?_⟩
  rcases h.2 with hn | ⟨g, cap, cur, rfl, hb0, hgg, rest⟩
  · exact .inl hn
  · exact .inr ⟨g, cap, cur, rfl, hb0, (hb.block g (Array.getElem?_eq_some_iff.1 hgg).1).trans hgg, rest⟩
theorem own_grownS {w w' : World} {base e n : Nat} {v : Value} {xs : List Value} {row : Option Nat} (h : w.ownsRow base e 1 v n xs) (hg : w.grownBy w' row) (hne : v.ownBlock = none ∨ v.ownBlock ≠ row) : w'.ownsRow base e 1 v n xs := h.kept hg hne
/-- The beginning of a row. -/
theorem own_take {w : World} {base e n cap g : Nat} {xs : List Value} (h : w.ownsRow base e 1 (.slice (some ⟨g, 0, none⟩) n cap) n xs) {k : Nat} (hk : k ≤ n) : w.ownsRow base e 1 (.slice (some ⟨g, 0, none⟩) k cap) k (xs.take k) := by
  have hl : xs.length = n := by simpa using h.1
  rcases h.2 with ⟨h', _⟩ | ⟨g', cap', cur, h', hb, hg, hnc, hcm, hcs, htake⟩
  · simp at h'
  · simp only [Value.slice.injEq, Option.some.injEq, Addr.mk.injEq, and_true, true_and] at h'
    obtain ⟨rfl, rfl⟩ := h'
    refine ⟨by rw [List.length_take, hl]; omega, .inr ⟨g, cap, cur, rfl, hb, hg, by omega, hcm, hcs, ?_⟩⟩
    rw [← htake, List.take_take]
    congr 1; omega

/-- append(b, s...) as one step of a region that draws its order. -/
theorem step_append_str {P : Program} {ops : Array Oper} {o : Oper} {a : Act} {w : World} {K : Act → World → Prop} {Q : Exit → Act → World → Prop} {E : Prop} (hg : o.guard = none) (s x : Operand) (t u : TypeId)
    (ho : o.op = .call { callee := .builtin .append, args := #[s, x], argTypes := #[t, u] })
    (base : Nat) (e : TypeId) (i : TypeInfo) (ht : P.underlying t = some (.slice e)) (hu : P.underlying u = some .string) (hi : P.info? e = some i) (hz : i.zero = some (.int .u8 0))
    (hsize : i.size = 1) (hby : i.bytes = 1)
    (v : Value) (n : Nat) (xs : List Value) (hs : a.eval s = v) (hown : w.ownsRow base e 1 v n xs) (b : ByteArray) (hx : a.eval x = .string b)
    (h63 : n + b.size ≤ maxLen) (hbytes : n + b.size ≤ 140737488355328) (hbase : base ≤ w.heap.size)
    (h : ∀ v' w', w'.ownsRow base e 1 v' (n + b.size) (xs ++ Lib.strCells b) → w.grownBy w' v.ownBlock → K (a.put o.dst v') w') :
    if Region.wanted o (yielded ops a.tmps) = true then Oper.wp P o a w K Q else E := by
  have hw : Region.wanted o (yielded ops a.tmps) = true := by simp [Region.wanted, hg]
  rw [if_pos hw]
  obtain ⟨v', w', hr, h2, h3, _⟩ := Lib.run_append_own_string (P := P) w base t u o.type e i ht hu hi hz hsize hby v n xs hown b h63 hbytes hbase
  unfold Oper.wp execOp
  simp only [ho, resolve, invoke, builtin, Sem.run_bind, Sem.run_pure, Result.andThen_ok, List.map_toArray, List.map_cons, List.map_nil, hs, hx, hr]
  exact h v' w' h2 h3

/-- A whole array in the midst of a row is loaded, in every world of a class. -/
theorem quiet_mid {P : Program} {o : Oper} {a : Act} {C : World → Prop} {K : Act → Prop} (ty : TypeId) (x : Operand) (ho : o.op = .load ty x)
    (g off : Nat) (hx : a.eval x = .pointer (some ⟨g, off, none⟩)) (cs : List Value) (d : TypeDesc) (hg : ∀ w, C w → w.rangeAt g off cs)
    (hu : P.underlying ty = some d) (hd : d.isRow = true) (hi : (P.info? ty).map (·.size) = some cs.length)
    (h : K (a.put o.dst (.agg cs.toArray))) : o.quiet P a C K :=
  ⟨.agg cs.toArray, fun w hw => by
    unfold Oper.quietAt execOp
    simp only [ho, hx, Instr.loadAt, Instr.sureAddr, Sem.run_bind, Sem.run_pure, Result.andThen_ok, run_loadVar_mid w g off ty cs d (hg w hw) hu hd hi, Oper.quietUpon, and_self], h⟩

/-- A whole struct or array is loaded, guarded or not. -/
theorem wpList_load_rowG {P : Program} {ops : Array Oper} {rest : List Oper} {o : Oper} {a : Act} {w : World} {Q : Exit → Act → World → Prop} (hw : Region.wanted o (yielded ops a.tmps) = true) (ty : TypeId) (x : Operand) (ho : o.op = .load ty x)
    (g : Nat) (hx : a.eval x = .pointer (some ⟨g, 0, none⟩)) (t : TypeId) (cs : Array Value) (fr : Nat × Nat) (d : TypeDesc) (hg : w.heap[g]? = some (.cells cs t fr))
    (hu : P.underlying ty = some d) (hd : (match d with | .struct _ | .array _ _ => true | _ => false) = true) (hi : (P.info? ty).map (·.size) = some cs.size)
    (h : wpList P ops Q rest (a.put o.dst (.agg cs)) w) : wpList P ops Q (o :: rest) a w := by
  unfold wpList
  rw [if_pos hw]
  exact .inl (wp_load_row ty x ho g hx t cs fr d hg hu hd hi h)

/-! Taken off the head of bytes, as a cursor does it. -/
theorem extract_listF {X : ByteArray} {A R : List UInt8} (h : X.data.toList = A ++ R) : X.extract 0 A.length = ⟨A.toArray⟩ ∧ X.extract A.length X.size = ⟨R.toArray⟩ := by
  have hs : X.size = A.length + R.length := by rw [← list_sizeB, h, List.length_append]
  have e : ∀ a b : ByteArray, a.data.toList = b.data.toList → a = b := fun a b h => by cases a; cases b; simp only [ByteArray.mk.injEq]; exact Array.toList_inj.1 h
  refine ⟨e _ _ ?_, e _ _ ?_⟩
  · rw [ByteArray.data_extract, Array.toList_extract, h]; simp
  · rw [ByteArray.data_extract, Array.toList_extract, h, hs]; simp
theorem cBytes_appF {X : ByteArray} {t R : List UInt8} (h : X.data.toList = t ++ R) : cBytesB X false t.length = (⟨t.toArray⟩, ⟨R.toArray⟩, false) := by
  have hs : X.size = t.length + R.length := by rw [← list_sizeB, h, List.length_append]
  unfold cBytesB
  rw [if_neg (by simp; omega), Int.toNat_natCast, (extract_listF h).1, (extract_listF h).2]
theorem le_cells (n size : Nat) : le ((List.range size).map fun j => UInt8.ofNat (n / 256 ^ j)) = n % 256 ^ size := by
  induction size generalizing n with
  | zero => simp [le, Nat.mod_one]
  | succ k ih =>
    rw [List.range_succ_eq_map, List.map_cons, List.map_map]
    have e : ((fun j => UInt8.ofNat (n / 256 ^ j)) ∘ Nat.succ) = fun j => UInt8.ofNat (n / 256 / 256 ^ j) := by
      funext j; simp only [Function.comp]; rw [Nat.pow_succ', Nat.div_div_eq_div_mul]
    rw [e]
    simp only [le]
    rw [ih (n / 256), Nat.pow_succ', Nat.mod_mul]
    simp only [UInt8.toNat_ofNat', Nat.pow_zero, Nat.div_one]
theorem valB_fxT (n size : Nat) : valFx (fx n size true) true = n % 256 ^ size := by
  rw [← le_cells]
  unfold valFx fx cellsF fxAt pl
  simp only [if_true]
  congr 1
  apply List.ext_getElem
  · simp
  · intro j h1 h2
    simp at h1
    rw [List.getElem_reverse]
    simp only [List.getElem_map, List.getElem_range, List.length_map, List.length_range]
    congr 3
    omega
theorem k_fixed4 {X : ByteArray} {n : Nat} {R : List UInt8} (hn : n < 4294967296) (h : X.data.toList = fx n 4 true ++ R) (hz : X.size ≤ maxLen) (g : Nat) (w : World) (hc : CurAtB w g X false) :
    Calls Try.prog 59 #[.pointer (some ⟨g, 0, none⟩), .int .i64 4, .bool true] w fun e w' => e = .returned (.int .u64 n) ∧ CurAtB w' g ⟨R.toArray⟩ false ∧ w.grownBy w' (some g) := by
  have := cur_fixed g X false 4 true w hz hc
  have hb := cBytes_appF h
  rw [show (fx n 4 true).length = 4 from cellsF_length _ _] at hb
  have e : cFixed X false 4 true = (n, ⟨R.toArray⟩, false) := by
    unfold cFixed
    rw [if_neg (by omega), show ((4 : Int)) = ((4 : Nat) : Int) from rfl, hb]
    simp only [valB_fxT]
    rw [show n % 256 ^ 4 = n from Nat.mod_eq_of_lt hn]
  rw [e] at this
  exact this
theorem k_bytes {X p : ByteArray} (h : X = p) (hz : X.size ≤ maxLen) (g : Nat) (w : World) (hc : CurAtB w g X false) :
    Calls Try.prog 78 #[.pointer (some ⟨g, 0, none⟩), .int .i64 p.size] w fun e w' => e = .returned (.string p) ∧ CurAtB w' g ⟨#[]⟩ false ∧ w.grownBy w' (some g) := by
  subst h
  have := cur_bytesB g X false X.size w hz hc
  have hb := cBytes_appF (X := X) (t := X.data.toList) (R := []) (by simp)
  rw [list_sizeB] at hb
  rw [hb] at this
  simpa using this
end Go.Proofs.Ytbhlgceicfjncaa
