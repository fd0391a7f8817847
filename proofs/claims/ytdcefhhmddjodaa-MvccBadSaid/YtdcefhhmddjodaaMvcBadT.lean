/-
  A region of MvccBad that appends entries and one more, and encodes them: what each operation leaves.
-/
import Derived.Test.YtdcefhhmddjodaaRegionK
import Derived.Test.YtdcefhhmddjodaaRegionT
import Derived.Test.YtdcefhhmddjodaaMvcBadS
import Derived.Test.YtdcefhhmddjodaaSet36
namespace Go.Proofs.Ytdcefhhmddjodaa
open Go.RowKit
set_option linter.unusedVariables false
set_option linter.unnecessarySimpa false
set_option linter.unusedSimpArgs false
set_option maxRecDepth 100000

section
variable {P : Program}
theorem wp_region_K2 {id : Nat} {l : List Oper} {a : Act} {w : World} {Q : Exit → Act → World → Prop} (outer outs W : List Tmp) (B : Nat) (S : Nat → Value → World → Prop) (n : Nat) (hm : P.follows .mixedOrders = true) (hf : flowB .any l.toArray outer = true)
    (hn : a.tmps.size = n) (hd : dstsIn n l.toArray = true) (ho : outsIn outs l.toArray = true) (hW : dstsOf l = W)
    (hout : ∀ t ∈ outer, ∀ w', Below B w w' → S t (a.tmps.getD t undef) w')
    (hstep : AllStepsK P B w S 0 l)
    (hdone : ∀ (f : Nat → Value) w', Below B w w' → (∀ t ∈ outs, S t (f t) w') → Q .normal (putAll f W a) w') :
    (Code.region id l.toArray true).wp P Q a w := by
  refine wp_region_any hm ?_
  have hfl := flow_of hf
  refine wpAny_K (w0 := w) (a0 := a) (B := B) (S := S) hfl hout ?_ ?_ ?_ _ _ _ _ (by simp) (by omega) ?_
  · intro i o d ho hdo
    unfold dstsIn at hd
    rw [Array.all_eq_true_iff_forall_mem] at hd
    have := hd o (Array.mem_of_getElem? ho)
    rw [hdo] at this
    simpa [hn] using this
  · intro i o ho
    rw [looksAt_plain (hfl.plain i o ho)]
    have := hstep.at i o (by simpa using ho)
    rw [Nat.zero_add] at this
    exact this
  · intro a' w' h
    have hall : ∀ i, i < l.toArray.size → (Array.replicate l.toArray.size true).getD i false = true := fun i hi => by
      rw [Array.getD_eq_getD_getElem?, Array.getElem?_replicate]; simp only [if_pos hi]; rfl
    have e := act_puts (W := W) h.size h.defers (fun k hk => by rw [hn]; exact dst_in hd k (by rw [hW]; exact hk)) (fun t ht => h.rest t (fun j o ho => not_dst (by rw [hW]; exact ht) j o ho))
    rw [e]
    refine hdone _ w' h.rel (fun t ht => ?_)
    unfold outsIn at ho
    rw [List.all_eq_true] at ho
    have := ho t ht
    rw [Array.any_eq_true] at this
    obtain ⟨j, hj, e⟩ := this
    exact h.done j _ t (Array.getElem?_eq_getElem hj) (hall j hj) (by simpa using e)
  · refine ⟨(Below.refl _ _).drew, rfl, rfl, fun _ _ => rfl, ?_⟩
    · intro j o d ho hj
      rw [Array.getD_eq_getD_getElem?] at hj
      have hlt : j < l.toArray.size := (Array.getElem?_eq_some_iff.1 ho).1
      rw [Array.getElem?_eq_getElem (by simpa using hlt)] at hj
      simp at hj
end

theorem own_same' {w w' : World} {B e size n : Nat} {v : Value} {xs : List Value} (h : w.ownsRow B e size v n xs) (hk : ∀ k, v.ownBlock = some k → w'.heap[k]? = w.heap[k]?) : w'.ownsRow B e size v n xs := by
  refine ⟨h.1, ?_⟩
  rcases h.2 with hn | ⟨g, cap, cur, rfl, hb, hgg, rest⟩
  · exact .inl hn
  · exact .inr ⟨g, cap, cur, rfl, hb, (hk g rfl).trans hgg, rest⟩
/-- append to a row of the call's own, told whole: the row that was there is there. -/
theorem run_append_own3 {P : Program} (w : World) (base : Nat) (t ty e : TypeId) (i : TypeInfo) (z : Value) (size bytes : Nat) (ht : P.underlying t = some (.slice e)) (hi : P.info? e = some i) (hz : i.zero = some z)
    (hsize : i.size = size) (hby : i.bytes = bytes) (hzs : z.cells.size = size) (hsz : 0 < size)
    (g n cap : Nat) (xs : List Value) (hown : w.ownsRow base e size (.slice (some ⟨g, 0, none⟩) n cap) n xs)
    (a : Addr) (m c : Nat) (news : List Value) (hl : news.length = m * size) (hnews : ∀ j u, news[j]? = some u → w.cell? (a.add j) = some u) (h1 : ∀ u ∈ news, u.oneCell' = true)
    (h63 : n + m ≤ maxLen) (hbytes : (n + m) * bytes ≤ 140737488355328) (hbase : base ≤ w.heap.size) :
    ∃ v' w', (Builtin.append_ #[t, t] ty #[.slice (some ⟨g, 0, none⟩) n cap, .slice (some a) m c]).run P w = .ok v' w' ∧ w'.ownsRow base e size v' (n + m) (xs ++ news) ∧ Below base w w' ∧ w'.ownsRow base e size (.slice (some ⟨g, 0, none⟩) n cap) n xs ∧
      (∀ k o, w.heap[k]? = some o → (k ≠ g ∨ cap < n + m) → w'.heap[k]? = some o) := by
  subst hsize hby
  have hsmall : n + m ≤ 9223372036854775807 := by simp only [maxLen] at h63; omega
  have hlen : (xs ++ news).length = (n + m) * i.size := by rw [List.length_append, hown.1, hl, Nat.add_mul]
  rcases id hown.2 with ⟨h', _⟩ | ⟨g', cap', cur, h', hbg, hg, hnc, hcm, hcs, htake⟩
  · cases h'
  cases h'
  by_cases hroom : n + m ≤ cap
  · have hfit : n * i.size + news.length ≤ cur.size := by rw [hl, hcs, ← Nat.add_mul]; exact Nat.mul_le_mul_right _ hroom
    have hr := run_append_room (P := P) w t ty e i ht hi g n cap cur hg a m c news hl hnews h1 hroom hfit
    have hx : xs.length = n * i.size := hown.1
    have hs : (cur.toList.take (n * i.size) ++ news ++ cur.toList.drop (n * i.size + news.length)).length = cap * i.size := by
      rw [List.length_append, List.length_append, List.length_take, List.length_drop, Array.length_toList]; omega
    refine ⟨_, _, hr, ⟨hlen, .inr ⟨g, cap, _, rfl, hbg, setRow_heap w g cur _ e _ hg, hroom, hcm, by simpa using hs, ?_⟩⟩, ⟨rfl, rfl, rfl, by simp, fun k hk => setRow_other w g k _ (by omega)⟩, ⟨hx, .inr ⟨g, cap, _, rfl, hbg, setRow_heap w g cur _ e _ hg, hnc, hcm, by simpa using hs, ?_⟩⟩, ?_⟩
    · rw [htake, ← hlen]
      exact List.take_left
    · rw [htake, ← hx, List.append_assoc]
      exact List.take_left
    · intro k o hk hkg
      rw [setRow_other w g k _ (by omega)]
      exact hk
  · have holds : ∀ j u, xs[j]? = some u → w.cell? ((⟨g, 0, none⟩ : Addr).add j) = some u := hown.cells (g := g) rfl
    have hr := run_append_grow (P := P) w t ty e i z ht hi hz ⟨g, 0, none⟩ n cap xs hown.1 holds a m c news hl hnews (by omega) (by omega) (growslice_fits (by omega) hbytes)
    have hge := grownCap_ge w (n + m) cap e
    have hcm2 : grownCap w (n + m) cap e ≤ maxLen := grownCap_le_maxLen w (n + m) cap e h63
    have hold : ∀ k o, w.heap[k]? = some o → (w.drew.alloc (.cells (xs.toArray ++ news.toArray ++ Builtin.zeroCells z.cells (grownCap w (n + m) cap e - (n + m))) e)).heap[k]? = some o := fun k o hk => (heap_alloc_old w.drew _ (Array.getElem?_eq_some_iff.1 hk).1).trans hk
    refine ⟨_, _, hr, ⟨hlen, .inr ⟨w.heap.size, _, _, rfl, hbase, heap_alloc_new w.drew _, hge, hcm2, ?_, ?_⟩⟩, ⟨rfl, rfl, rfl, by simp, fun k hk => heap_alloc_old w.drew _ (by show k < w.heap.size; omega)⟩, ⟨hown.1, .inr ⟨g, cap, cur, rfl, hbg, hold g _ hg, hnc, hcm, hcs, htake⟩⟩, fun k o hk _ => hold k o hk⟩
    · simp only [Array.size_append, List.size_toArray, size_zeroCells, hzs, hown.1, hl, ← Nat.add_mul]
      congr 1
      omega
    · simp only [Array.toList_append, List.append_assoc]
      rw [← List.append_assoc, ← hlen]
      exact List.take_left
theorem run_es0 (w : World) : (Instr.buildSlice 59 0 #[]).run Try.prog w = .ok (.slice (some ⟨w.heap.size, 0, none⟩) 0 0) (w.alloc (.cells #[] 73)) := by
  obtain ⟨i, hi, hz0, hz2, hz3⟩ := info_parts entInfoP
  unfold Instr.buildSlice
  have hr : Array.range 0 = #[] := rfl
  simp [run_underlying Try.underlying59, sizeOf, typeInfo, zeroValue, hi, hz2, Instr.fill, newRow, Sem.run_bind, hr]
theorem run_append_empty (w : World) (ty : TypeId) (g : Nat) (a : Option Addr) (c : Nat) : (Builtin.append_ #[59, 59] ty #[.slice (some ⟨g, 0, none⟩) 0 0, .slice a 0 c]).run Try.prog w = .ok (.slice (some ⟨g, 0, none⟩) 0 0) w := by
  obtain ⟨i, hi, hz0, hz2, hz3⟩ := info_parts entInfoP
  cases a with
  | none => simp [Builtin.append_, run_underlying Try.underlying59, sizeOf, typeInfo, hi, hz2, Builtin.lenOf, Builtin.firstCells, storeCells]
  | some a => simp [Builtin.append_, run_underlying Try.underlying59, sizeOf, typeInfo, hi, hz2, Builtin.lenOf, Builtin.firstCells, loadCells, loadCellsFrom, storeCells]

/-- What the slots hold. -/
def moreC (K : ByteArray) (gv : Nat) : List Value := [.string K, .slice (some ⟨gv, 0, none⟩) 1 1]
def R0 (B : Nat) (v : Value) (w : World) : Prop := ∃ g, v = .slice (some ⟨g, 0, none⟩) 0 0 ∧ B ≤ g ∧ w.heap[g]? = some (.cells #[] 73 (0, 0))
def R1 (B len : Nat) (lp : List EP) (v : Value) (w : World) : Prop := ∃ g c, v = .slice (some ⟨g, 0, none⟩) len c ∧ (len = 0 → c = 0) ∧ w.ownsRow B 73 2 (.slice (some ⟨g, 0, none⟩) len c) len (entC lp)
def R2 (B : Nat) (K : ByteArray) (gv : Nat) (v : Value) (w : World) : Prop := ∃ g, v = .slice (some ⟨g, 0, none⟩) 1 1 ∧ B ≤ g ∧ w.heap[g]? = some (.cells (moreC K gv).toArray 73 (0, 0))
def R3 (B len : Nat) (lp : List EP) (K : ByteArray) (gv : Nat) (v : Value) (w : World) : Prop := ∃ g c, v = .slice (some ⟨g, 0, none⟩) (len + 1) c ∧ w.ownsRow B 73 2 (.slice (some ⟨g, 0, none⟩) (len + 1) c) (len + 1) (entC lp ++ moreC K gv)
def psiE (B g5 P6 : Nat) (a : Option Addr) (len cap : Nat) (lp : List EP) (K : ByteArray) (gv : Nat) (im : ByteArray) : Nat → Value → World → Prop := fun tm v w =>
  match tm with
  | 5 => v = .pointer (some ⟨g5, 0, none⟩) | 57 => v = .agg tab | 58 => R0 B v w
  | 0 => v = .slice a len cap | 59 => v = .slice a len cap | 60 => R1 B len lp v w
  | 6 => v = .pointer (some ⟨P6, 0, none⟩) | 61 => v = .agg (moreC K gv).toArray | 62 => R2 B K gv v w | 63 => R3 B len lp K gv v w
  | 64 => v = .tuple #[.string im, .int .i64 0] | 56 => v = .tuple #[.string im, .int .i64 0]
  | 65 => v = .string im | 7 => v = .string im | 66 => v = .int .i64 0 | 8 => v = .int .i64 0
  | _ => True
theorem psiE_put {B g5 P6 len cap gv tm : Nat} {a : Option Addr} {lp : List EP} {K im : ByteArray} {v : Value} {w w' : World} {d : Option Nat} (h : psiE B g5 P6 a len cap lp K gv im tm v w) (hd : d ≠ some tm) (h0 : ∀ v, R0 B v w → R0 B v w') (h1 : d ≠ some 60 → ∀ v, R1 B len lp v w → R1 B len lp v w') (h2 : ∀ v, R2 B K gv v w → R2 B K gv v w') (h3 : d ≠ some 63 → ∀ v, R3 B len lp K gv v w → R3 B len lp K gv v w') : psiE B g5 P6 a len cap lp K gv im tm v w' := by
  unfold psiE at h ⊢
  split at h <;> first | exact h | exact h0 _ h | exact h1 hd _ h | exact h2 _ h | exact h3 hd _ h | trivial
theorem R0.below {B : Nat} {v : Value} {w w' : World} (h : R0 B v w) (hb : Below w.heap.size w w') : R0 B v w' := by
  obtain ⟨g, h1, h2, h3⟩ := h
  exact ⟨g, h1, h2, (hb.block g (Array.getElem?_eq_some_iff.1 h3).1).trans h3⟩
theorem R1.below {B len : Nat} {lp : List EP} {v : Value} {w w' : World} (h : R1 B len lp v w) (hb : Below w.heap.size w w') : R1 B len lp v w' := by
  obtain ⟨g, c, h1, h2, h3⟩ := h
  exact ⟨g, c, h1, h2, own_belowP h3 hb⟩
theorem R2.below {B gv : Nat} {K : ByteArray} {v : Value} {w w' : World} (h : R2 B K gv v w) (hb : Below w.heap.size w w') : R2 B K gv v w' := by
  obtain ⟨g, h1, h2, h3⟩ := h
  exact ⟨g, h1, h2, (hb.block g (Array.getElem?_eq_some_iff.1 h3).1).trans h3⟩
theorem R3.below {B len gv : Nat} {lp : List EP} {K : ByteArray} {v : Value} {w w' : World} (h : R3 B len lp K gv v w) (hb : Below w.heap.size w w') : R3 B len lp K gv v w' := by
  obtain ⟨g, c, h1, h3⟩ := h
  exact ⟨g, c, h1, own_belowP h3 hb⟩
theorem psiE_below {B g5 P6 len cap gv tm : Nat} {a : Option Addr} {lp : List EP} {K im : ByteArray} {v : Value} {w w' : World} (h : psiE B g5 P6 a len cap lp K gv im tm v w) (hb : Below w.heap.size w w') : psiE B g5 P6 a len cap lp K gv im tm v w' :=
  psiE_put (d := none) h (by simp) (fun _ h => h.below hb) (fun _ _ h => h.below hb) (fun _ h => h.below hb) (fun _ _ h => h.below hb)
/-- The last append: what it leaves. -/
theorem last_append {B len gv g c g2 : Nat} {lp : List EP} {K : ByteArray} {w : World} (ty : TypeId) (hl : lp.length = len) (hlen : len ≤ 1000) (hB : B ≤ w.heap.size) (hc0 : len = 0 → c = 0) (ho : w.ownsRow B 73 2 (.slice (some ⟨g, 0, none⟩) len c) len (entC lp)) (hr : w.heap[g2]? = some (.cells (moreC K gv).toArray 73 (0, 0))) :
    ∃ v' w', (Builtin.append_ #[59, 59] ty #[.slice (some ⟨g, 0, none⟩) len c, .slice (some ⟨g2, 0, none⟩) 1 1]).run Try.prog w = .ok v' w' ∧ R3 B len lp K gv v' w' ∧ Below B w w' ∧ (∀ v, R0 B v w → R0 B v w') ∧ (∀ v, R1 B len lp v w → R1 B len lp v w') ∧ (∀ v, R2 B K gv v w → R2 B K gv v w') := by
  obtain ⟨inf, hj, hy0, hy1, hy2⟩ := info_parts entInfoP
  have hga : ∀ (k : Nat), (⟨g2, 0, none⟩ : Addr).add k = ⟨g2, k, none⟩ := fun k => by unfold Addr.add; split <;> simp_all
  obtain ⟨v', w', h1, h2, h3, h4, h5⟩ := run_append_own3 (P := Try.prog) w B 59 ty 73 inf (.agg #[.string ⟨#[]⟩, .slice none 0 0]) 2 40 Try.underlying59 hj hy0 hy1 hy2 rfl (by decide) g len c (entC lp) ho ⟨g2, 0, none⟩ 1 1 (moreC K gv) rfl
    (fun j u h => by rw [hga, cell_of_row _ _ _ _ _ _ hr]; simpa using h) (by simp [moreC, Value.oneCell']) (by unfold maxLen; omega) (by omega) hB
  have hsz : ∃ cur : Array Value, w.heap[g]? = some (.cells cur 73 (0, 0)) ∧ cur.size = c * 2 := by
    rcases ho.2 with ⟨h', _⟩ | ⟨g', cap', cur, h', _, hg, _, _, hcs, _⟩
    · cases h'
    · cases h'; exact ⟨cur, hg, hcs⟩
  obtain ⟨cur, hgc, hcs⟩ := hsz
  refine ⟨v', w', h1, ?_, h3, ?_, ?_, ?_⟩
  · obtain ⟨g9, c9, rfl, _, _⟩ := own_slice h2 (Nat.succ_pos len)
    exact ⟨g9, c9, rfl, h2⟩
  · rintro v ⟨k, q1, q2, q3⟩
    refine ⟨k, q1, q2, h5 k _ q3 ?_⟩
    by_cases e : k = g
    · subst e
      rw [hgc] at q3
      injection q3 with q3
      injection q3 with q3
      subst q3
      simp at hcs
      right; omega
    · exact .inl e
  · rintro v ⟨k, c', q1, q2, q3⟩
    refine ⟨k, c', q1, q2, ?_⟩
    by_cases e : k = g
    · subst e
      rcases q3.2 with ⟨h', _⟩ | ⟨g', cap', cur', h', _, hg, _, _, hcs', _⟩
      · cases h'
      · cases h'
        rw [hgc] at hg
        injection hg with hg
        injection hg with hg
        subst hg
        obtain rfl : c' = c := by omega
        exact h4
    · refine own_same' q3 fun k' e' => ?_
      injection e' with e'
      subst e'
      rcases q3.2 with ⟨h', _⟩ | ⟨g', cap', cur', h', _, hg, _, _, hcs', _⟩
      · cases h'
      · cases h'
        rw [hg]
        exact h5 _ _ hg (.inl e)
  · rintro v ⟨k, q1, q2, q3⟩
    refine ⟨k, q1, q2, h5 k _ q3 ?_⟩
    by_cases e : k = g
    · subst e
      rw [hgc] at q3
      injection q3 with q3
      injection q3 with q3
      subst q3
      simp [moreC] at hcs
      right
      rcases Nat.eq_zero_or_pos len with h0 | h0
      · have := hc0 h0; omega
      · omega
    · exact .inl e
end Go.Proofs.Ytdcefhhmddjodaa
