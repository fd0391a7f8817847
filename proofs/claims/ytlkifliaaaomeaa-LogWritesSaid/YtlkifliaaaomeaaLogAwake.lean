/-
  Layer 8's 'awake'; small laws for its statements' walks.
-/
import Derived.Test.YtlkifliaaaomeaaLogContracts
import Derived.Test.YtlkifliaaaomeaaAppOwn
namespace Go.Proofs.Ytlkifliaaaomeaa
open Go.RowKit
set_option linter.unusedVariables false
set_option linter.unnecessarySimpa false
set_option linter.unusedSimpArgs false
set_option maxRecDepth 100000

theorem stands_zeros (z : Nat) : stands (List.replicate z (0 : UInt8)) = [] := stands_none (nextR_zeros z)
theorem new_flat (n : Nat) : (DK.new n).seen.flatten = List.replicate (64 * n) 0 := by
  show (List.replicate n (fullB 0)).flatten = _
  unfold fullB
  rw [List.flatten_replicate_replicate, Nat.mul_comm]
theorem new_len (n : Nat) : (DK.new n).seen.length = n := by simp [DK.new]
theorem new_calm (n : Nat) : Calm (DK.new n) 100000 := ⟨rfl, by simp [DK.new]⟩
theorem calm_up {D : DK} {m n : Nat} (h : Calm D m) (hn : m ≤ n) : Calm D n := ⟨h.fuse, Nat.le_trans h.waits hn⟩

theorem lba_some {s : ByteArray} (h : ¬ s.size = 0) : s.toList.isEmpty = false ∧ (s.toList == []) = false ∧ (s.toList != []) = true := by
  have h1 : ¬ s.toList = [] := by
    rw [Lib.toList_data]
    intro e
    have := congrArg List.length e
    rw [← Lib.size_eq] at this
    exact h this
  refine ⟨?_, ?_, ?_⟩
  · cases hs : s.toList with
    | nil => exact absurd hs h1
    | cons x l => rfl
  · rw [beq_eq_false_iff_ne]; exact h1
  · rw [bne_iff_ne]; exact h1
theorem lmk_zero (c : Int) (h0 : 0 ≤ c) (h1 : c ≤ 300000) (w : World) :
    (Instr.makeSlice 39 (.int .i64 c) (.int .i64 c)).run Try.prog w = .ok (.slice (some ⟨w.heap.size, 0, none⟩) c.toNat c.toNat) (w.alloc (.cells (Lib.byteCells (List.replicate c.toNat 0)).toArray 5)) := by
  obtain ⟨i0, hi, hz0, hz1, hz2⟩ := info_parts u8info
  have := run_make (P := Try.prog) w 39 5 i0 (.int .u8 0) Try.underlying39 hi hz0 .i64 .i64 c c h0 (Int.le_refl _) (by rw [hz2]; omega) (by omega)
  rw [this, hz1, Nat.mul_one]
  have e : madeCells (Value.int .u8 0).cells c.toNat = (Lib.byteCells (List.replicate c.toNat 0)).toArray := by
    apply Array.toList_inj.1
    show (madeCells #[Value.int .u8 0] c.toNat).toList = _
    rw [toList_madeCells_one]
    simp [Lib.byteCells]
  rw [e]

theorem lconvert_zero (z : Nat) (hz : z ≤ 300000) (w : World) (g : Nat) (h : w.heap[g]? = some (.cells (Lib.byteCells (List.replicate z 0)).toArray 5 (0, 0))) :
    (convert 39 9 (.slice (some ⟨g, 0, none⟩) z z)).run Try.prog w = .ok (.string ⟨(List.replicate z (0 : UInt8)).toArray⟩) w := by
  have hown : w.ownsRow 0 5 1 (.slice (some ⟨g, 0, none⟩) z z) z (Lib.byteCells (List.replicate z 0)) := by
    refine ⟨by simp [Lib.byteCells], .inr ⟨g, z, _, rfl, Nat.zero_le _, h, Nat.le_refl _, by unfold maxLen; omega, by simp [Lib.byteCells], ?_⟩⟩
    rw [List.take_of_length_le (by simp [Lib.byteCells])]
  exact convert_own hown (by simp) Try.underlying39 Try.underlying5 Try.underlying9

/-- A log on a new disk. -/
theorem lst_new {S : Dsk} (L : LogC S) {w0 w : World} {B n : Nat} {d : Addr} {far : Nat → Prop} (h : DSt S w0 B d (DK.new n) far w) (hn : n ≤ 100) :
    Calls Try.prog 9 #[.agg tab, .pointer (some d)] w fun e w' => ∃ r a c, e = .returned (.tuple #[.pointer (some r), .slice a 0 c, .int .i64 0]) ∧
      (∃ D', LSt S L w0 B d r D' [] (fun k => far k ∧ k < w.heap.size) w' ∧ Holds D' [] ∧ D'.seen.length = n ∧ Calm D' 0) ∧
      (∀ k, far k → k < w.heap.size → w'.heap[k]? = w.heap[k]?) := by
  refine (lst_open L h (new_calm n) (by rw [new_len]; exact hn)).mono fun e w' ⟨r, v, he, hv, hD, hf⟩ => ?_
  rw [new_flat, stands_zeros] at hv hD
  simp only [endOf, List.take_zero] at hD
  obtain ⟨a, c, rfl⟩ : ∃ a c, v = .slice a 0 c := by
    rcases hv.2 with ⟨h1, _⟩ | ⟨g, cap, cur, h1, _⟩
    · exact ⟨none, 0, h1⟩
    · exact ⟨_, cap, h1⟩
  obtain ⟨D', h1, h2, h3, h4⟩ := hD
  exact ⟨r, a, c, he, ⟨D', h1, h2, by rw [h3, new_len], h4⟩, hf⟩

theorem own_isStrs {w : World} {B : Nat} {v : Value} {l : List (List UInt8)} (h : w.ownsRow B 9 1 v l.length (strCells l)) (hs : ∀ s ∈ l, s.length ≤ 1000000) :
    ∃ a c, v = .slice a l.length c ∧ IsStrs w a l.length c (l.map fun x => ⟨x.toArray⟩) := by
  have hlen : l.length ≤ maxLen := by
    rcases h.2 with ⟨_, h0⟩ | ⟨g, cap, cur, _, _, _, h1, h2, _⟩
    · rw [h0]; exact Nat.zero_le _
    · exact Nat.le_trans h1 h2
  have hsz : ∀ s ∈ l.map (fun x : List UInt8 => (⟨x.toArray⟩ : ByteArray)), s.size ≤ maxLen := by
    intro s hs'
    obtain ⟨x, hx, rfl⟩ := List.mem_map.1 hs'
    have := hs x hx
    show x.toArray.size ≤ maxLen
    rw [List.size_toArray]; unfold maxLen; omega
  rcases h.2 with ⟨rfl, h0⟩ | ⟨g, cap, cur, rfl, hb, hg, h1, h2, h3, h4⟩
  · exact ⟨none, 0, by rw [h0], by simp, hlen, hsz, fun h => by omega⟩
  · refine ⟨_, cap, rfl, by simp, hlen, hsz, fun h5 => ⟨g, 0, rfl, (Array.getElem?_eq_some_iff.1 hg).1, fun i hi => ?_⟩⟩
    have := h.cellAt (n := l.length) (cap := cap) (g := g) i (by omega)
    rw [Nat.zero_add, this]
    have hi2 : (l.map fun x : List UInt8 => (⟨x.toArray⟩ : ByteArray)).getD i ByteArray.empty = ⟨(l[i]'hi).toArray⟩ := by
      rw [List.getD, List.getElem?_map, List.getElem?_eq_getElem hi]; rfl
    rw [hi2]
    simp [strCells, List.getElem?_eq_getElem hi]
/-- append to a row of the call's own, in a plain region: the row that comes of it is the old one, or new. -/
theorem wpList_append_own2 {P : Program} {w : World} {ops : Array Oper} {rest : List Oper} {o : Oper} {a : Act} {Q : Exit → Act → World → Prop} (hgd : o.guard = none) (s x : Operand) (t : TypeId)
    (ho : o.op = .call { callee := .builtin .append, args := #[s, x], argTypes := #[t, t] })
    (base : Nat) (e : TypeId) (i : TypeInfo) (z : Value) (size bytes : Nat) (ht : P.underlying t = some (.slice e)) (hi : P.info? e = some i) (hz : i.zero = some z)
    (hsize : i.size = size) (hby : i.bytes = bytes) (hzs : z.cells.size = size) (hsz : 0 < size)
    (v : Value) (n : Nat) (xs : List Value) (hs : a.eval s = v) (hown : w.ownsRow base e size v n xs)
    (ad : Addr) (m c : Nat) (news : List Value) (hx : a.eval x = .slice (some ad) m c) (hl : news.length = m * size) (hnews : ∀ j u, news[j]? = some u → w.cell? (ad.add j) = some u) (h1 : ∀ u ∈ news, u.oneCell' = true)
    (h63 : n + m ≤ maxLen) (hbytes : (n + m) * bytes ≤ 140737488355328) (hbase : base ≤ w.heap.size)
    (h : ∀ v' w', w'.ownsRow base e size v' (n + m) (xs ++ news) → w.grownBy w' v.ownBlock → (∀ k, v'.ownBlock = some k → v.ownBlock = some k ∨ w.heap.size ≤ k) → wpList P ops Q rest (a.put o.dst v') w') : wpList P ops Q (o :: rest) a w := by
  refine wpList_plain hgd fun K hK => ?_
  obtain ⟨v', w', hr, h2, h3, h4⟩ := run_append_own2 (P := P) w base t o.type e i z size bytes ht hi hz hsize hby hzs hsz v n xs hown ad m c news hl hnews h1 h63 hbytes hbase
  unfold Oper.wp execOp
  simp only [ho, resolve, invoke, builtin, Sem.run_bind, Sem.run_pure, Result.andThen_ok, List.map_toArray, List.map_cons, List.map_nil, hs, hx, hr]
  exact hK _ _ (h v' w' h2 h3 h4)
theorem isStrs_below {w w' : World} {a : Option Addr} {len cap B : Nat} {zs : List ByteArray} (h : IsStrs w a len cap zs) (hb : Below B w w') (hB : ∀ b off s, a = some ⟨b, off, s⟩ → 0 < len → b < B) : IsStrs w' a len cap zs := by
  refine ⟨h.1, h.2.1, h.2.2.1, fun h0 => ?_⟩
  obtain ⟨b, off, ha, hlt, hc⟩ := h.2.2.2 h0
  refine ⟨b, off, ha, Nat.lt_of_lt_of_le hlt hb.size, fun i hi => ?_⟩
  rw [hb.cell (p := ⟨b, off + i, none⟩) (hB b off none ha h0)]
  exact hc i hi

set_option maxHeartbeats 1000000 in
theorem lawake_any {S : Dsk} (L : LogC S) (w : World) : Calls Try.prog 5 #[] w fun e w' => e = .returned (.bool true) ∧ Below w.heap.size w w' := by
  have hm := Lib.hid make_any
  have hab := Lib.hid (show (([] : List UInt8) ++ recB (⟨#[97, 98]⟩ : ByteArray).data.toList).length = 8 by rw [List.nil_append, recB_length]; rfl)
  go_enter Try.func5, Try.ntmps5
  go_wp2_with (first
    | (go_at_call 8; refine (hm.out _).mono ?_; rintro e w1 ⟨rfl, hb1⟩)
    | (go_at_call 7; refine (st_new S 3 w1 (by decide) (by decide)).mono ?_; rintro e w2 ⟨d, rfl, hst⟩; have hst := Lib.hid (DSt.of_st hst))
    | (go_at_call 9; refine (lst_new L (show DSt S w1 w1.heap.size d (DK.new 3) (fun _ => False) w2 from hst.out) (by decide)).mono ?_; rintro e w3 ⟨r, a, c, rfl, ⟨D', hl, hh, hn, hc⟩, _⟩; have hl := Lib.hid hl; have hh := Lib.hid hh; have hn := Lib.hid hn; have hc := Lib.hid hc)
    | (go_at_call 11; refine (hl.out.append hh.out (calm_up hc.out (by decide)) (by rw [hn.out]; decide) ⟨#[97, 98]⟩ (by decide) (by decide) (by rw [hn.out]; decide)).mono ?_; rintro e w4 ⟨rfl, D4, hl4, hh4, hn4, hc4, _⟩; have hl4 := Lib.hid hl4; have hE := Lib.hid (hl4.out.endd (by rw [hab.out]; decide)); clear hh4 hn4 hc4)
    | (go_at_call 10; rw [hab.out] at hE; refine hE.out.mono ?_; rintro e w5 ⟨rfl, hb5⟩))
  go_ret
  exact ⟨rfl, (hb1.trans (hl4.out.below.mono hb1.size)).trans (hb5.mono (Nat.le_trans hb1.size hl4.out.size))⟩
end Go.Proofs.Ytlkifliaaaomeaa
