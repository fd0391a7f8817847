/-
  Joined: AppOwn, MvcRefK, MvcRefKeys, MvcRefScan, BlkMath, BlkRef, BlkRight.
-/
import Derived.Test.YthcomfcbdlobpaaRows
import Derived.WalkKit
import Derived.Laws.AppendOwn
import Derived.OwnWalk
import Derived.Deep.RegionLaw
import Derived.Test.YthcomfcbdlobpaaSet28
import Derived.Laws.AppendOwnNone
import Derived.Maps.AppendAt
import Derived.StillTailTactics
import Derived.Deep.DeepCutAuto
import Derived.Test.YthcomfcbdlobpaaSet27
import Derived.Deep.LoopGhost
import Derived.BigQuiet
import Derived.Test.YthcomfcbdlobpaaSet01
namespace Go.Proofs.Ythcomfcbdlobpaa
open Go.RowKit
set_option linter.unusedVariables false
set_option linter.unnecessarySimpa false
set_option linter.unusedSimpArgs false
set_option maxRecDepth 100000

theorem run_append_own2 {P : Program} (w : World) (base : Nat) (t ty e : TypeId) (i : TypeInfo) (z : Value) (size bytes : Nat) (ht : P.underlying t = some (.slice e)) (hi : P.info? e = some i) (hz : i.zero = some z)
    (hsize : i.size = size) (hby : i.bytes = bytes) (hzs : z.cells.size = size) (hsz : 0 < size)
    (v : Value) (n : Nat) (xs : List Value) (hown : w.ownsRow base e size v n xs)
    (a : Addr) (m c : Nat) (news : List Value) (hl : news.length = m * size) (hnews : ∀ j u, news[j]? = some u → w.cell? (a.add j) = some u) (h1 : ∀ u ∈ news, u.oneCell' = true)
    (h63 : n + m ≤ maxLen) (hbytes : (n + m) * bytes ≤ 140737488355328) (hbase : base ≤ w.heap.size) :
    ∃ v' w', (Builtin.append_ #[t, t] ty #[v, .slice (some a) m c]).run P w = .ok v' w' ∧ w'.ownsRow base e size v' (n + m) (xs ++ news) ∧ w.grownBy w' v.ownBlock ∧
      (∀ k, v'.ownBlock = some k → v.ownBlock = some k ∨ w.heap.size ≤ k) := by
  rcases hown.2 with ⟨rfl, rfl⟩ | ⟨g, cap, cur, rfl, hbg, hg, hnc, hcm, hcs, htake⟩
  · obtain ⟨v', w', hr, h2, h3, _⟩ := run_append_own (P := P) w w.heap.size t ty e i z size bytes ht hi hz hsize hby hzs hsz (.slice none 0 0) 0 xs ⟨hown.1, .inl ⟨rfl, rfl⟩⟩ a m c news hl hnews h1 h63 hbytes (Nat.le_refl _)
    refine ⟨v', w', hr, ⟨h2.1, ?_⟩, h3, fun k hk => .inr (h2.lt k hk).1⟩
    rcases h2.2 with h | ⟨g, cap, cur, hv, hb, rest⟩
    · exact .inl h
    · exact .inr ⟨g, cap, cur, hv, Nat.le_trans hbase hb, rest⟩
  · obtain ⟨v', w', hr, h2, h3, _⟩ := run_append_own (P := P) w base t ty e i z size bytes ht hi hz hsize hby hzs hsz _ n xs hown a m c news hl hnews h1 h63 hbytes hbase
    refine ⟨v', w', hr, h2, h3, fun k hk => ?_⟩
    subst hsize hby
    have hsmall : n + m ≤ 9223372036854775807 := by simp only [maxLen] at h63; omega
    by_cases hroom : n + m ≤ cap
    · have hfit : n * i.size + news.length ≤ cur.size := by rw [hl, hcs, ← Nat.add_mul]; exact Nat.mul_le_mul_right _ hroom
      have hr2 := run_append_room (P := P) w t ty e i ht hi g n cap cur hg a m c news hl hnews h1 hroom hfit
      rw [hr] at hr2
      injection hr2 with hv _
      subst hv
      exact .inl hk
    · have hr2 := run_append_grow (P := P) w t ty e i z ht hi hz ⟨g, 0, none⟩ n cap xs hown.1 (hown.cells (g := g) rfl) a m c news hl hnews (by omega) (by omega) (growslice_fits (by omega) hbytes)
      rw [hr] at hr2
      injection hr2 with hv _
      subst hv
      simp only [Value.ownBlock, Option.some.injEq] at hk
      subst hk
      exact .inr (Nat.le_refl _)

theorem step_append_own {P : Program} {ops : Array Oper} {o : Oper} {a : Act} {w : World} {K : Act → World → Prop} {Q : Exit → Act → World → Prop} {E : Prop} (hg : o.guard = none) (s x : Operand) (t : TypeId)
    (ho : o.op = .call { callee := .builtin .append, args := #[s, x], argTypes := #[t, t] })
    (base : Nat) (e : TypeId) (i : TypeInfo) (z : Value) (size bytes : Nat) (ht : P.underlying t = some (.slice e)) (hi : P.info? e = some i) (hz : i.zero = some z)
    (hsize : i.size = size) (hby : i.bytes = bytes) (hzs : z.cells.size = size) (hsz : 0 < size)
    (v : Value) (n : Nat) (xs : List Value) (hs : a.eval s = v) (hown : w.ownsRow base e size v n xs)
    (ad : Addr) (m c : Nat) (news : List Value) (hx : a.eval x = .slice (some ad) m c) (hl : news.length = m * size) (hnews : ∀ j u, news[j]? = some u → w.cell? (ad.add j) = some u) (h1 : ∀ u ∈ news, u.oneCell' = true)
    (h63 : n + m ≤ maxLen) (hbytes : (n + m) * bytes ≤ 140737488355328) (hbase : base ≤ w.heap.size)
    (h : ∀ v' w', w'.ownsRow base e size v' (n + m) (xs ++ news) → w.grownBy w' v.ownBlock → (∀ k, v'.ownBlock = some k → v.ownBlock = some k ∨ w.heap.size ≤ k) → K (a.put o.dst v') w') :
    if Region.wanted o (yielded ops a.tmps) = true then Oper.wp P o a w K Q else E := by
  have hw : Region.wanted o (yielded ops a.tmps) = true := by simp [Region.wanted, hg]
  rw [if_pos hw]
  obtain ⟨v', w', hr, h2, h3, h4⟩ := run_append_own2 (P := P) w base t o.type e i z size bytes ht hi hz hsize hby hzs hsz v n xs hown ad m c news hl hnews h1 h63 hbytes hbase
  unfold Oper.wp execOp
  simp only [ho, resolve, invoke, builtin, Sem.run_bind, Sem.run_pure, Result.andThen_ok, List.map_toArray, List.map_cons, List.map_nil, hs, hx, hr]
  exact h v' w' h2 h3 h4
theorem wpList_append_own2 {P : Program} {ops : Array Oper} {rest : List Oper} {o : Oper} {a : Act} {w : World} {Q : Exit → Act → World → Prop} (hgd : o.guard = none) (s x : Operand) (t : TypeId)
    (ho : o.op = .call { callee := .builtin .append, args := #[s, x], argTypes := #[t, t] })
    (base : Nat) (e : TypeId) (i : TypeInfo) (z : Value) (size bytes : Nat) (ht : P.underlying t = some (.slice e)) (hi : P.info? e = some i) (hz : i.zero = some z)
    (hsize : i.size = size) (hby : i.bytes = bytes) (hzs : z.cells.size = size) (hsz : 0 < size)
    (v : Value) (n : Nat) (xs : List Value) (hs : a.eval s = v) (hown : w.ownsRow base e size v n xs)
    (ad : Addr) (m c : Nat) (news : List Value) (hx : a.eval x = .slice (some ad) m c) (hl : news.length = m * size) (hnews : ∀ j u, news[j]? = some u → w.cell? (ad.add j) = some u) (h1 : ∀ u ∈ news, u.oneCell' = true)
    (h63 : n + m ≤ maxLen) (hbytes : (n + m) * bytes ≤ 140737488355328) (hbase : base ≤ w.heap.size)
    (h : ∀ v' w', w'.ownsRow base e size v' (n + m) (xs ++ news) → w.grownBy w' v.ownBlock → (∀ k, v'.ownBlock = some k → v.ownBlock = some k ∨ w.heap.size ≤ k) → wpList P ops Q rest (a.put o.dst v') w') :
    wpList P ops Q (o :: rest) a w := by
  refine wpList_plain hgd fun K hK => ?_
  obtain ⟨v', w', hr, h2, h3, h4⟩ := run_append_own2 (P := P) w base t o.type e i z size bytes ht hi hz hsize hby hzs hsz v n xs hown ad m c news hl hnews h1 h63 hbytes hbase
  unfold Oper.wp execOp
  simp only [ho, resolve, invoke, builtin, Sem.run_bind, Sem.run_pure, Result.andThen_ok, List.map_toArray, List.map_cons, List.map_nil, hs, hx, hr]
  exact hK _ _ (h v' w' h2 h3 h4)
end Go.Proofs.Ythcomfcbdlobpaa

namespace Go.Proofs.Ythcomfcbdlobpaa
open Go.RowKit
set_option linter.unusedVariables false
set_option linter.unnecessarySimpa false
set_option linter.unusedSimpArgs false
set_option maxRecDepth 100000

theorem posK_le (k : ByteArray) : ∀ l : List ByteArray, posK k l ≤ l.length
  | [] => Nat.le_refl _
  | x :: l => by unfold posK; have := posK_le k l; split <;> simp <;> omega
theorem posK_before (k : ByteArray) : ∀ (l : List ByteArray) (i : Nat), i < posK k l → ltK (l.getD i ⟨#[]⟩) k = true
  | [], i, h => by simp [posK] at h
  | x :: l, i, h => by
    unfold posK at h
    split at h
    · rename_i hx
      cases i with
      | zero => simpa using hx
      | succ i => simpa using posK_before k l i (by omega)
    · omega
theorem posK_at (k : ByteArray) : ∀ (l : List ByteArray), posK k l < l.length → ltK (l.getD (posK k l) ⟨#[]⟩) k = false
  | [], h => by simp at h
  | x :: l, h => by
    unfold posK at h ⊢
    by_cases hx : ltK x k = true
    · rw [if_pos hx] at h ⊢
      simpa using posK_at k l (by simpa using h)
    · rw [if_neg hx]
      simpa using hx
def kCells (l : List ByteArray) : List Value := l.map Value.string
/-- The keys so far: nil, or a row of the call's own. -/
def KOwn (w : World) (B : Nat) (v : Value) (l : List ByteArray) : Prop := w.ownsRow B 9 1 v l.length (kCells l)
theorem KOwn.below {w w' : World} {B : Nat} {v : Value} {l : List ByteArray} (h : KOwn w B v l) (hb : Below w.heap.size w w') : KOwn w' B v l := by
  refine ⟨h.1, ?_⟩
  rcases h.2 with hn | ⟨g, cap, cur, rfl, h2, h3, rest⟩
  · exact .inl hn
  · exact .inr ⟨g, cap, cur, rfl, h2, (hb.block g (Array.getElem?_eq_some_iff.1 h3).1).trans h3, rest⟩
theorem KOwn.cell {w : World} {B : Nat} {a : Option Addr} {n c : Nat} {l : List ByteArray} (h : KOwn w B (.slice a n c) l) {i : Nat} (hi : i < n) : ∃ g, a = some ⟨g, 0, none⟩ ∧ w.cell? ⟨g, i, none⟩ = some (.string (l.getD i ⟨#[]⟩)) := by
  rcases h.2 with ⟨e, h0⟩ | ⟨g, cap, cur, e, h2, h3, h4, h5, h6, h7⟩
  · injection e with e1 e2 e3; omega
  · injection e with e1 e2 e3
    subst e1 e2 e3
    refine ⟨g, rfl, ?_⟩
    rw [cell_of_row _ _ _ _ _ _ h3]
    have hl : i < cur.size := by omega
    have : (cur.toList.take (l.length * 1))[i]? = (kCells l)[i]? := by rw [h7]
    rw [List.getElem?_take, if_pos (by omega)] at this
    simp only [Array.getElem?_toList] at this
    rw [this]
    simp [kCells, List.getD, hi]
theorem kInfo : (Try.prog.info? 9).map (fun i => (i.zero, i.size, i.bytes)) = some (some (.string ByteArray.empty), 1, 16) := by kernel_rfl
theorem kI : ∃ i, Try.prog.info? 9 = some i ∧ i.zero = some (.string ByteArray.empty) ∧ i.size = 1 ∧ i.bytes = 16 := by
  have h := kInfo
  cases hq : Try.prog.info? 9 with
  | none => rw [hq] at h; simp at h
  | some i =>
    rw [hq] at h
    simp only [Option.map_some, Option.some.injEq, Prod.mk.injEq] at h
    exact ⟨i, rfl, h.1, h.2.1, h.2.2⟩
theorem keys_take (L : List Im) {i : Nat} (h : i < L.length) : keysM (L.take (i + 1)) = keyStep (keysM (L.take i)) (L.getD i im0).key := by rw [takeI_succ L h, keysM_snoc]
structure KeyW (w : World) (a : Option Addr) (len cap : Nat) (wx : World) : Prop where
  below : Below w.heap.size w wx
  box : wx.heap[w.heap.size]? = some (.cells #[.slice a len cap] 31 (0, 0))
theorem KeyW.later {w wx w' : World} {a : Option Addr} {len cap : Nat} (h : KeyW w a len cap wx) (hb : Below wx.heap.size wx w') : KeyW w a len cap w' :=
  ⟨h.below.trans (hb.mono h.below.size), (hb.block _ (Array.getElem?_eq_some_iff.1 h.box).1).trans h.box⟩

end Go.Proofs.Ythcomfcbdlobpaa

namespace Go.Proofs.Ythcomfcbdlobpaa
open Go.RowKit
set_option linter.unusedVariables false
set_option linter.unnecessarySimpa false
set_option linter.unusedSimpArgs false
set_option maxRecDepth 100000

theorem KOwn.base {w : World} {B B' : Nat} {v : Value} {l : List ByteArray} (h : KOwn w B v l) (hb : B' ≤ B) : KOwn w B' v l := by
  refine ⟨h.1, ?_⟩
  rcases h.2 with hn | ⟨g, cap, cur, h1, h2, rest⟩
  · exact .inl hn
  · exact .inr ⟨g, cap, cur, h1, by omega, rest⟩
/-- The keys so far, and nil where there are none. -/
structure KSo (w : World) (B : Nat) (v : Value) (l : List ByteArray) : Prop where
  own : KOwn w B v l
  nil : l = [] → v = .slice none 0 0
theorem KSo.form {w : World} {B : Nat} {v : Value} {l : List ByteArray} (h : KSo w B v l) : (l = [] ∧ v = .slice none 0 0) ∨ (0 < l.length ∧ ∃ g c, v = .slice (some ⟨g, 0, none⟩) l.length c ∧ l.length ≤ c ∧ B ≤ g ∧ g < w.heap.size ∧ ∀ i, i < l.length → w.cell? ⟨g, i, none⟩ = some (.string (l.getD i ⟨#[]⟩))) := by
  rcases Nat.eq_zero_or_pos l.length with h0 | h0
  · have hl := List.eq_nil_of_length_eq_zero h0
    exact .inl ⟨hl, h.nil hl⟩
  · refine .inr ⟨h0, ?_⟩
    have ho := h.own
    rcases ho.2 with ⟨_, h1⟩ | ⟨g, cap, cur, h1, h2, h3, h4, _⟩
    · omega
    · refine ⟨g, cap, h1, h4, h2, (Array.getElem?_eq_some_iff.1 h3).1, fun i hi => ?_⟩
      rw [h1] at ho
      obtain ⟨g', e, hc⟩ := ho.cell hi
      injection e with e
      injection e with e
      subst e
      exact hc
theorem kCells_len (l : List ByteArray) : (kCells l).length = l.length := by simp [kCells]
theorem kCells_app (l m : List ByteArray) : kCells (l ++ m) = kCells l ++ kCells m := by simp [kCells]
theorem kCells_one (l : List ByteArray) : ∀ u ∈ kCells l, u.oneCell' = true := fun u hu => by
  simp only [kCells, List.mem_map] at hu
  obtain ⟨x, _, rfl⟩ := hu
  rfl
/-- A piece of the keys' row, as append takes it. -/
theorem keys_piece {w : World} {g : Nat} {l : List ByteArray} (h : ∀ i, i < l.length → w.cell? ⟨g, i, none⟩ = some (.string (l.getD i ⟨#[]⟩))) (p m : Nat) (hpm : p + m ≤ l.length) :
    ∀ j u, (kCells ((l.drop p).take m))[j]? = some u → w.cell? ((⟨g, p, none⟩ : Addr).add j) = some u := fun j u hu => by
  have hj : j < m := by
    have := (List.getElem?_eq_some_iff.1 hu).1
    rw [kCells_len, List.length_take] at this
    omega
  rw [Addr.add_lit, h (p + j) (by omega), ← hu]
  simp only [kCells, List.getElem?_map, List.getElem?_take, if_pos hj, List.getElem?_drop, List.getD]
  rw [List.getElem?_eq_getElem (show p + j < l.length by omega)]
  rfl
theorem keys_row {w' : World} {B : Nat} {v : Value} {n : Nat} {l : List ByteArray} (h : w'.ownsRow B 9 1 v n (kCells l)) (hn : n = l.length) : KOwn w' B v l := by subst hn; exact h

end Go.Proofs.Ythcomfcbdlobpaa

namespace Go.Proofs.Ythcomfcbdlobpaa
open Go.RowKit
set_option linter.unusedVariables false
set_option linter.unnecessarySimpa false
set_option linter.unusedSimpArgs false
set_option maxRecDepth 100000

theorem keyStep_from {l : List ByteArray} {k x : ByteArray} (h : x ∈ keyStep l k) : x ∈ l ∨ x = k := by
  unfold keyStep at h
  split at h
  · exact .inl h
  · simp only [List.mem_append, List.mem_singleton] at h
    rcases h with (h | h) | h
    · exact .inl (List.mem_of_mem_take h)
    · exact .inr h
    · exact .inl (List.mem_of_mem_drop h)
theorem keysM_from : ∀ (L : List Im) (x : ByteArray), x ∈ keysM L → ∃ m ∈ L, m.key = x := by
  intro L
  suffices ∀ (M : List Im) (l : List ByteArray) (x : ByteArray), x ∈ M.foldl (fun l m => keyStep l m.key) l → x ∈ l ∨ ∃ m ∈ M, m.key = x from fun x h => (this L [] x h).elim (fun h => by cases h) id
  intro M
  induction M with
  | nil => intro l x h; exact .inl h
  | cons m M ih =>
    intro l x h
    rcases ih _ x h with h | ⟨y, hy, e⟩
    · rcases keyStep_from h with h | h
      · exact .inl h
      · exact .inr ⟨m, by simp, h.symm⟩
    · exact .inr ⟨y, by simp [hy], e⟩
theorem best_from (k : ByteArray) (t : Nat) (L : List Im) : (bestOf k t L).1 = vr0 ∨ ∃ m ∈ L, (bestOf k t L).1 = m.v := by
  unfold bestOf
  suffices ∀ (M : List Im) (r : Vr × Bool), (M.foldl (bestStep k t) r).1 = r.1 ∨ ∃ m ∈ M, (M.foldl (bestStep k t) r).1 = m.v from this L _
  intro M
  induction M with
  | nil => intro r; exact .inl rfl
  | cons m M ih =>
    intro r
    rw [List.foldl_cons]
    rcases ih (bestStep k t r m) with h | ⟨y, hy, e⟩
    · rw [h]
      unfold bestStep
      split
      · exact .inr ⟨m, by simp, rfl⟩
      · exact .inl rfl
    · exact .inr ⟨y, by simp [hy], e⟩
theorem items_mem {W : World} {a : Option Addr} {len cap : Nat} {L : List Im} (h : IsItms W a len cap L) : ∀ m ∈ L, m.key.size ≤ maxLen ∧ m.v.val.size ≤ maxLen ∧ m.v.time < 18446744073709551616 := fun m hm => by
  obtain ⟨i, hi, rfl⟩ := List.mem_iff_getElem.1 hm
  obtain ⟨_, _, _, _, h1, h2, h3, _⟩ := h.2.2 i (by rw [← h.1]; exact hi)
  rw [List.getD, List.getElem?_eq_getElem hi, Option.getD_some] at h1 h2 h3
  exact ⟨h1, h2, h3⟩

/-! Rows of writes. -/
def wtC (l : List Wt) : List Value := l.flatMap fun x => [.string x.1, .bool false, .string x.2]
theorem wtC_len : ∀ l : List Wt, (wtC l).length = l.length * 3
  | [] => rfl
  | v :: l => by
    have := wtC_len l
    unfold wtC at this ⊢
    rw [List.flatMap_cons, List.length_append, this, List.length_cons]
    simp; omega
theorem wtC_snoc (l : List Wt) (v : Wt) : wtC (l ++ [v]) = wtC l ++ [.string v.1, .bool false, .string v.2] := by simp [wtC]
theorem wtC_at : ∀ (l : List Wt) (i : Nat), i < l.length → (wtC l)[i * 3]? = some (.string (l.getD i wt0).1) ∧ (wtC l)[i * 3 + 1]? = some (.bool false) ∧ (wtC l)[i * 3 + 2]? = some (.string (l.getD i wt0).2)
  | [], i, h => by simp at h
  | v :: l, 0, _ => ⟨rfl, rfl, rfl⟩
  | v :: l, i + 1, h => by
    have := wtC_at l i (by simpa using h)
    have e : wtC (v :: l) = [.string v.1, .bool false, .string v.2] ++ wtC l := by simp [wtC]
    rw [e, show (i + 1) * 3 = 3 + i * 3 by omega, show 3 + i * 3 + 1 = 3 + (i * 3 + 1) by omega, show 3 + i * 3 + 2 = 3 + (i * 3 + 2) by omega]
    refine ⟨?_, ?_, ?_⟩
    · rw [List.getElem?_append_right (by simp)]; simpa using this.1
    · rw [List.getElem?_append_right (by simp)]; simpa using this.2.1
    · rw [List.getElem?_append_right (by simp)]; simpa using this.2.2
theorem wtC_wts {w : World} {B n c : Nat} {a : Option Addr} {l : List Wt} (h : w.ownsRow B 51 3 (.slice a n c) n (wtC l)) (hn : l.length = n) (hl : n ≤ 100000) (hv : ∀ x ∈ l, x.1.size ≤ maxLen ∧ x.2.size ≤ maxLen) : IsWts w a n c l := by
  refine ⟨hn, by unfold maxLen; omega, fun i hi => ?_⟩
  obtain ⟨g, cap, e, hg, hgl⟩ := own_slice h (by omega)
  injection e with e1 e2 e3
  subst e1 e3
  have hm : l.getD i wt0 ∈ l := by rw [List.getD, List.getElem?_eq_getElem (by omega)]; exact List.getElem_mem _
  obtain ⟨h0, h1, h2⟩ := wtC_at l i (by omega)
  refine ⟨g, 0, rfl, hgl, (hv _ hm).1, (hv _ hm).2, ?_, ?_, ?_⟩
  · rw [Nat.zero_add, h.cellAt (i * 3) (by omega)]; exact h0
  · rw [Nat.zero_add, h.cellAt (i * 3 + 1) (by omega)]; exact h1
  · rw [Nat.zero_add, h.cellAt (i * 3 + 2) (by omega)]; exact h2
theorem wtInfo : (Try.prog.info? 51).map (fun i => (i.zero, i.size, i.bytes)) = some (some (.agg #[.string ⟨#[]⟩, .bool false, .string ⟨#[]⟩]), 3, 40) := by kernel_rfl
theorem own_belowM {w w' : World} {base e n sz : Nat} {v : Value} {xs : List Value} (h : w.ownsRow base e sz v n xs) (hb : Below w.heap.size w w') : w'.ownsRow base e sz v n xs := by
  refine ⟨h.1, ?_⟩
  rcases h.2 with hn | ⟨g, cap, cur, rfl, hb0, hgg, rest⟩
  · exact .inl hn
  · exact .inr ⟨g, cap, cur, rfl, hb0, (hb.block g (Array.getElem?_eq_some_iff.1 hgg).1).trans hgg, rest⟩

/-- A version put into new memory, ahead of a call or behind it. -/
structure VerDone (wc : World) (p : Nat) (v : Vr) (wd : World) : Prop where
  row : wd.heap[p]? = some (.cells #[.int .u64 (v.time : Int), .bool v.gone, .string v.val] 42 (0, 0))
  below : Below wc.heap.size wc wd
  new : wc.heap.size ≤ p
theorem undrewM {B : Nat} {w w' : World} (h : Below B w.drew w') : Below B w w' := ⟨h.os, h.tape, h.output, h.size, h.block⟩
theorem verDoneA {wc w6 : World} (vt : Nat) (vg : Bool) (vv : ByteArray) (h : Below wc.drew.heap.size wc.drew w6) : VerDone wc w6.heap.size ⟨vt, vg, vv⟩ (w6.alloc (.cells #[.int .u64 (vt : Int), .bool vg, .string vv] 42)) :=
  ⟨heap_alloc_new w6 _, (undrewM h).alloc h.size _, h.size⟩
theorem verDoneB {wc w6 : World} {x y z : Value} (vt : Nat) (vg : Bool) (vv : ByteArray) (h : Below (wc.alloc (.cells #[x, y, z] 42)).drew.heap.size (wc.alloc (.cells #[x, y, z] 42)).drew w6) :
    VerDone wc wc.heap.size ⟨vt, vg, vv⟩ (((w6.setCell ⟨wc.heap.size, 0, none⟩ (.int .u64 (vt : Int))).setCell ⟨wc.heap.size, 1, none⟩ (.bool vg)).setCell ⟨wc.heap.size, 2, none⟩ (.string vv)) := by
  have h1 := undrewM h
  have h0 : Below wc.heap.size wc w6 := ((Below.refl _ _).alloc (Nat.le_refl _) _).trans (h1.mono (by simp))
  refine ⟨?_, ((h0.setCell (Nat.le_refl _) _).setCell (Nat.le_refl _) _).setCell (Nat.le_refl _) _, Nat.le_refl _⟩
  have hp : w6.heap[wc.heap.size]? = some (.cells #[x, y, z] 42 (0, 0)) := by
    rw [h.block wc.heap.size (by simp)]
    exact heap_alloc_new wc _
  rw [heap_setCell_same _ _ 2 _ _ _ (heap_setCell_same _ _ 1 _ _ _ (heap_setCell_same _ _ 0 _ _ _ hp))]
  rfl
theorem zero_kept3 {w w' : World} {u v x : Value} {t : TypeId} (h : Below (w.alloc (.cells #[u, v, x] t)).drew.heap.size (w.alloc (.cells #[u, v, x] t)).drew w') :
    w'.cell? ⟨w.heap.size, 0, none⟩ = some u ∧ w'.cell? ⟨w.heap.size, 1, none⟩ = some v ∧ w'.cell? ⟨w.heap.size, 2, none⟩ = some x ∧ ∀ j, w'.frozen? ⟨w.heap.size, j, none⟩ = false := by
  have h0 : w'.heap[w.heap.size]? = some (.cells #[u, v, x] t (0, 0)) := by
    have := h.block w.heap.size (by simp)
    rw [this]
    exact heap_alloc_new w _
  refine ⟨?_, ?_, ?_, fun j => frozen_of_row _ _ _ _ _ h0⟩
  · rw [cell_of_row _ _ _ _ _ _ h0]; rfl
  · rw [cell_of_row _ _ _ _ _ _ h0]; rfl
  · rw [cell_of_row _ _ _ _ _ _ h0]; rfl

/-! The writes so far. -/
def scanTo (L : List Im) (lo hi : ByteArray) (t : Nat) (most : Int) (i : Nat) : List Wt := (((keysM L).take i).filterMap (scanOne L lo hi t)).take most.toNat
theorem scanTo_step {L : List Im} {lo hi : ByteArray} {t : Nat} {most : Int} {i : Nat} (h : i < (keysM L).length) :
    scanTo L lo hi t most (i + 1) = if ((scanTo L lo hi t most i).length : Int) < most then scanTo L lo hi t most i ++ (scanOne L lo hi t ((keysM L).getD i ⟨#[]⟩)).toList else scanTo L lo hi t most i := by
  unfold scanTo
  have e : (keysM L).take (i + 1) = (keysM L).take i ++ [(keysM L).getD i ⟨#[]⟩] := by rw [List.take_add_one, List.getD, List.getElem?_eq_getElem h]; rfl
  rw [e, List.filterMap_append]
  obtain ⟨f, hf⟩ : ∃ f, f = ((keysM L).take i).filterMap (scanOne L lo hi t) := ⟨_, rfl⟩
  rw [← hf]
  have e2 : [(keysM L).getD i ⟨#[]⟩].filterMap (scanOne L lo hi t) = (scanOne L lo hi t ((keysM L).getD i ⟨#[]⟩)).toList := by
    rw [List.filterMap_cons]
    cases scanOne L lo hi t ((keysM L).getD i ⟨#[]⟩) <;> rfl
  rw [e2]
  split
  · rename_i hlt
    have h1 : f.length < most.toNat := by
      rw [List.length_take] at hlt
      omega
    rw [List.take_of_length_le (Nat.le_of_lt h1)]
    refine List.take_of_length_le ?_
    rw [List.length_append]
    have : (scanOne L lo hi t ((keysM L).getD i ⟨#[]⟩)).toList.length ≤ 1 := by cases scanOne L lo hi t ((keysM L).getD i ⟨#[]⟩) <;> simp
    omega
  · rename_i hlt
    have h1 : most.toNat ≤ f.length := by
      rw [List.length_take] at hlt
      omega
    rw [List.take_append_of_le_length h1]
theorem scanTo_len (L : List Im) (lo hi : ByteArray) (t : Nat) (most : Int) (i : Nat) : (scanTo L lo hi t most i).length ≤ i := by
  unfold scanTo
  rw [List.length_take]
  have h1 := List.length_filterMap_le (scanOne L lo hi t) ((keysM L).take i)
  rw [List.length_take] at h1
  omega
theorem scanTo_all (L : List Im) (lo hi : ByteArray) (t : Nat) (most : Int) {n : Nat} (hn : n = (keysM L).length) : scanTo L lo hi t most n = scanM L lo hi t most := by unfold scanTo scanM; rw [hn, List.take_length]
theorem scanTo_from {L : List Im} {lo hi : ByteArray} {t : Nat} {most : Int} {i : Nat} (hL : ∀ m ∈ L, m.key.size ≤ maxLen ∧ m.v.val.size ≤ maxLen ∧ m.v.time < 18446744073709551616) : ∀ x ∈ scanTo L lo hi t most i, x.1.size ≤ maxLen ∧ x.2.size ≤ maxLen := fun x hx => by
  unfold scanTo at hx
  obtain ⟨k, hk, e⟩ := List.mem_filterMap.1 (List.mem_of_mem_take hx)
  obtain ⟨m, hm, hmk⟩ := keysM_from L k (List.mem_of_mem_take hk)
  unfold scanOne at e
  split at e
  · injection e with e
    subst e
    refine ⟨by rw [← hmk]; exact (hL m hm).1, ?_⟩
    rcases best_from k t L with h | ⟨y, hy, h⟩
    · simp only [h]; exact Nat.zero_le _
    · simp only [h]; exact (hL y hy).2.1
  · cases e
/-- Why a key isn't told, or is. -/
theorem scan_cases (L : List Im) (lo hi : ByteArray) (t : Nat) (k : ByteArray) (v : Vr) (ok : Bool) (hb : bestOf k t L = (v, ok)) :
    scanOne L lo hi t k = if (!ltK k lo && (hi.toList.isEmpty || ltK k hi)) && (ok && !v.gone) then some (k, v.val) else none := by unfold scanOne; rw [hb]
theorem keys_len (L : List Im) : (keysM L).length ≤ L.length := by
  suffices ∀ (M : List Im) (l : List ByteArray), (M.foldl (fun l m => keyStep l m.key) l).length ≤ l.length + M.length from by have := this L []; simpa [keysM] using this
  intro M
  induction M with
  | nil => intro l; exact Nat.le_refl _
  | cons m M ih =>
    intro l
    have h1 := ih (keyStep l m.key)
    have h2 : (keyStep l m.key).length ≤ l.length + 1 := by
      unfold keyStep
      split
      · omega
      · simp only [List.length_append, List.length_take, List.length_drop, List.length_singleton]
        omega
    rw [List.foldl_cons, List.length_cons]
    omega
end Go.Proofs.Ythcomfcbdlobpaa

namespace Go.Proofs.Ythcomfcbdlobpaa
open Go.RowKit
set_option linter.unusedVariables false
set_option linter.unnecessarySimpa false
set_option linter.unusedSimpArgs false
set_option maxRecDepth 100000

structure En where
  key : ByteArray
  ch : List Vr
def en0 : En := ⟨⟨#[]⟩, []⟩
/-- Entries that a slice has. -/
def EntAt (W : World) (b off : Nat) (e : En) : Prop :=
  b < W.heap.size ∧ e.key.size ≤ maxLen ∧ W.cell? ⟨b, off, none⟩ = some (.string e.key) ∧ ∃ ca cl cc, W.cell? ⟨b, off + 1, none⟩ = some (.slice ca cl cc) ∧ IsVers W ca cl cc e.ch
def EntsAt (W : World) (a : Option Addr) (len : Nat) (es : List En) : Prop :=
  es.length = len ∧ ∀ i, i < len → ∃ b off, a = some ⟨b, off, none⟩ ∧ EntAt W b (off + i * 2) (es.getD i en0)
def IsEnts (W : World) (a : Option Addr) (len cap : Nat) (es : List En) : Prop := EntsAt W a len es ∧ len ≤ maxLen ∧ len ≤ cap
theorem EntAt.below {W W' : World} {b off : Nat} {e : En} (h : EntAt W b off e) (hb : Below W.heap.size W W') : EntAt W' b off e := by
  obtain ⟨h1, h2, h3, ca, cl, cc, h4, h5⟩ := h
  refine ⟨Nat.lt_of_lt_of_le h1 hb.size, h2, (hb.cell (p := ⟨b, off, none⟩) h1).trans h3, ca, cl, cc, (hb.cell (p := ⟨b, off + 1, none⟩) h1).trans h4, ?_⟩
  refine ⟨⟨h5.1.1, fun i hi => ?_⟩, h5.2⟩
  obtain ⟨b', off', ha, hlt, k1, k2, k3, k4, k5⟩ := h5.1.2 i hi
  exact ⟨b', off', ha, Nat.lt_of_lt_of_le hlt hb.size, k1, k2, (hb.cell (p := ⟨b', off' + i * 3, none⟩) hlt).trans k3, (hb.cell (p := ⟨b', off' + i * 3 + 1, none⟩) hlt).trans k4, (hb.cell (p := ⟨b', off' + i * 3 + 2, none⟩) hlt).trans k5⟩
theorem IsEnts.below {W W' : World} {a : Option Addr} {len cap : Nat} {es : List En} (h : IsEnts W a len cap es) (hb : Below W.heap.size W W') : IsEnts W' a len cap es :=
  ⟨⟨h.1.1, fun i hi => by obtain ⟨b, off, ha, he⟩ := h.1.2 i hi; exact ⟨b, off, ha, he.below hb⟩⟩, h.2⟩

def fewOne (e : En) : Prop := e.key.size ≤ 100 ∧ FewVers e.ch 10
def FewEnts (es : List En) (n : Nat) : Prop := (∀ i, i < es.length → i < 100 → fewOne (es.getD i en0)) ∧ es.length ≤ n
open Classical in
noncomputable def fewB (es : List En) (n : Nat) : Bool := decide (FewEnts es n)
theorem fewB_true {es : List En} {n : Nat} : fewB es n = true ↔ FewEnts es n := by unfold fewB; simp

end Go.Proofs.Ythcomfcbdlobpaa

namespace Go.Proofs.Ythcomfcbdlobpaa
open Go.RowKit
set_option linter.unusedVariables false
set_option linter.unnecessarySimpa false
set_option linter.unusedSimpArgs false
set_option maxRecDepth 100000

theorem likes_cell {w : World} {p : Addr} {v : Value} (hb : p.block < w.heap.size) (h : w.cell? p = some v) : ∀ x : Like w.heap.size w, x.val.cell? p = some v := fun x => (x.below.cell hb).trans h
theorem vers_bel {w w' : World} {a : Option Addr} {len cap : Nat} {zs : List Vr} (h : IsVers w a len cap zs) (hb : Below w.heap.size w w') : IsVers w' a len cap zs := by
  refine ⟨⟨h.1.1, fun i hi => ?_⟩, h.2⟩
  obtain ⟨b, off, ha, hlt, h1, h2, h3, h4, h5⟩ := h.1.2 i hi
  exact ⟨b, off, ha, Nat.lt_of_lt_of_le hlt hb.size, h1, h2, (hb.cell (p := ⟨b, off + i * 3, none⟩) hlt).trans h3, (hb.cell (p := ⟨b, off + i * 3 + 1, none⟩) hlt).trans h4, (hb.cell (p := ⟨b, off + i * 3 + 2, none⟩) hlt).trans h5⟩
theorem drewN_below (w : World) (n : Nat) : Below w.heap.size w (w.drewN n) := ⟨rfl, rfl, rfl, Nat.le_refl _, fun _ _ => rfl⟩

end Go.Proofs.Ythcomfcbdlobpaa

namespace Go.Proofs.Ythcomfcbdlobpaa
open Go.RowKit
set_option linter.unusedVariables false
set_option linter.unnecessarySimpa false
set_option linter.unusedSimpArgs false
set_option maxRecDepth 100000

/-- Two keys in order. -/
def ltS (a b : ByteArray) : Bool := Op.bytesLess a.toList b.toList
def eqS (a b : ByteArray) : Bool := a.toList == b.toList
/-- An entry, behind a key. -/
def entOk (es : List En) (i : Nat) : Bool := decide (0 < (es.getD i en0).ch.length) && rightB (es.getD i en0).ch && (decide (i = 0) || !(ltS (es.getD i en0).key (es.getD (i - 1) en0).key || eqS (es.getD i en0).key (es.getD (i - 1) en0).key))
def rightE (es : List En) : Bool := (List.range es.length).all (entOk es)
theorem rightE_true {es : List En} : rightE es = true ↔ ∀ i, i < es.length → entOk es i = true := by
  unfold rightE
  simp [List.all_eq_true]
theorem rightE_false {es : List En} {i : Nat} (hi : i < es.length) (h : entOk es i = false) : rightE es = false := by
  rw [← Bool.not_eq_true, rightE_true]
  intro h2
  rw [h2 i hi] at h
  cases h

end Go.Proofs.Ythcomfcbdlobpaa
