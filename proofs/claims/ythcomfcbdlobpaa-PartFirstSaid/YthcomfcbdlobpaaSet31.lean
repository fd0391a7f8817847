/-
  Joined: BlkContracts, BlkFinds, BlkBack, BlkBentMath.
-/
import Derived.Test.YthcomfcbdlobpaaSet30
namespace Go.Proofs.Ythcomfcbdlobpaa
open Go.RowKit
set_option linter.unusedVariables false
set_option linter.unnecessarySimpa false
set_option linter.unusedSimpArgs false
set_option maxRecDepth 100000

/-- A packed inside's bytes, behind them their sum. -/
def sumS (p : ByteArray) : List UInt8 := fx (sumB p.data.toList) 4 true
def blkS (p : ByteArray) : ByteArray := ⟨(p.data.toList ++ sumS p).toArray⟩
def insideS (es : List En) : ByteArray := ⟨(insideB es).toArray⟩
/-- Entries whose times are numbers and whose values are few. -/
def OkE (es : List En) : Prop := ∀ e ∈ es, allN e.ch ≤ 60000 ∧ ∀ v ∈ e.ch, v.time < 18446744073709551616
/-- Where a key is, or would be. -/
def fAt (es : List En) (key : ByteArray) : Nat := (es.takeWhile fun e => ltS e.key key).length
def fOk (es : List En) (key : ByteArray) : Bool := decide (fAt es key < es.length) && eqS (es.getD (fAt es key) en0).key key

/-! What few entries have. -/
theorem valB_len (b v : List UInt8) (hb : b.length ≤ 500) (hv : v.length ≤ 500) : (valB b v).length ≤ 540 := by
  unfold valB
  have h1 := tailN_le b v
  have u1 := ub_len10 (n := headN b v) (by omega)
  have u2 := ub_len10 (n := tailN b v) (by omega)
  have hm : (midB b v).length ≤ v.length := by unfold midB; rw [List.length_take, List.length_drop]; omega
  have u3 := ub_len10 (n := (midB b v).length) (by omega)
  simp only [List.length_cons, List.length_append]
  omega
theorem versB_len : ∀ (t : Nat) (b : List UInt8) (l : List Vr), b.length ≤ 500 → (∀ v ∈ l, v.val.size ≤ 500 ∧ v.time < 18446744073709551616) → (versB t b l).length ≤ 551 * l.length
  | _, _, [], _, _ => by simp [versB]
  | t, b, v :: l, hb, h => by
    have hv := h v (by simp)
    have u := ub_len10 (n := v.time - t) (by omega)
    have hl : v.val.data.toList.length ≤ 500 := by rw [c_size]; exact hv.1
    unfold versB
    rw [List.length_append, List.length_cons]
    split
    · have ih := versB_len v.time b l hb (fun x hx => h x (by simp [hx]))
      rw [List.length_cons]
      omega
    · have ih := versB_len v.time v.val.data.toList l hl (fun x hx => h x (by simp [hx]))
      have := valB_len b v.val.data.toList hb hl
      rw [List.length_append]
      omega
theorem fewV_mem {zs : List Vr} (h : FewVers zs 10) : ∀ v ∈ zs, v.val.size ≤ 500 := fun v hv => by
  obtain ⟨i, hi, rfl⟩ := List.mem_iff_getElem.1 hv
  have := h.1 i hi (by have := h.2; omega)
  rwa [List.getD, List.getElem?_eq_getElem hi] at this
theorem ents_times {w : World} {a : Option Addr} {len cap : Nat} {es : List En} (h : IsEnts w a len cap es) : ∀ e ∈ es, ∀ v ∈ e.ch, v.time < 18446744073709551616 := fun e he v hv => by
  obtain ⟨i, hi, rfl⟩ := List.mem_iff_getElem.1 he
  obtain ⟨b, off, _, _, _, _, ca, cl, cc, _, hz⟩ := h.1.2 i (by rw [← h.1.1]; exact hi)
  rw [List.getD, List.getElem?_eq_getElem hi, Option.getD_some] at hz
  obtain ⟨j, hj, rfl⟩ := List.mem_iff_getElem.1 hv
  obtain ⟨_, _, _, _, h1, _⟩ := hz.1.2 j (by rw [← hz.1.1]; exact hj)
  rwa [List.getD, List.getElem?_eq_getElem hj] at h1
/-- What few entries have, all told. -/
structure FewOut (es : List En) : Prop where
  len : es.length ≤ 10
  small : SmallE es
  ok : OkE es
  ins : (insideB es).length ≤ 60000
theorem fewOut {w : World} {a : Option Addr} {len cap : Nat} {es : List En} (h : IsEnts w a len cap es) (hf : FewEnts es 10) : FewOut es := by
  have hl := hf.2
  have ht := ents_times h
  have hm : ∀ e ∈ es, fewOne e := fun e he => by
    obtain ⟨i, hi, rfl⟩ := List.mem_iff_getElem.1 he
    have := hf.1 i hi (by omega)
    rwa [List.getD, List.getElem?_eq_getElem hi] at this
  have hc : ∀ e ∈ es, (chainB e.ch).length ≤ 5520 := fun e he => by
    have h1 := hm e he
    have h2 := versB_len 0 [] e.ch (by simp) (fun v hv => ⟨fewV_mem h1.2 v hv, ht e he v hv⟩)
    have h3 := h1.2.2
    have u := ub_len10 (n := e.ch.length) (by omega)
    unfold chainB
    rw [List.length_append]
    omega
  have hall : ∀ l : List Vr, (∀ v ∈ l, v.val.size ≤ 500) → allN l ≤ 500 * l.length := by
    intro l
    induction l with
    | nil => intro _; simp [allN]
    | cons v l ih =>
      intro hl
      have a1 := hl v (by simp)
      have a2 := ih (fun x hx => hl x (by simp [hx]))
      unfold allN at a2 ⊢
      rw [List.map_cons, List.sum_cons, List.length_cons]
      omega
  refine ⟨hl, fun e he => ⟨by have := (hm e he).1; omega, by have := hc e he; omega, fun v hv => by have := fewV_mem (hm e he).2 v hv; omega⟩,
    fun e he => ⟨by have := hall e.ch (fewV_mem (hm e he).2); have := (hm e he).2.2; omega, ht e he⟩, ?_⟩
  have key : ∀ (p : List UInt8) (l : List En), (∀ e ∈ l, e.key.size ≤ 100 ∧ (chainB e.ch).length ≤ 5520) → (entsB p l).length ≤ 5750 * l.length := by
    intro p l
    induction l generalizing p with
    | nil => intro _; simp [entsB]
    | cons e l ih =>
      intro hle
      have h1 := hle e (by simp)
      have h2 := ih e.key.data.toList (fun x hx => hle x (by simp [hx]))
      have hp := pre_le p e.key.data.toList
      have hk := c_size e.key
      have u1 := ub_len10 (n := pre p e.key.data.toList) (by omega)
      have u2 := txtB_len (e.key.data.toList.drop (pre p e.key.data.toList)) (by rw [List.length_drop]; omega)
      have u3 := txtB_len (chainB e.ch) (by omega)
      rw [List.length_drop] at u2
      rw [entsB, List.length_append, List.length_cons]
      unfold entB
      rw [List.length_append, List.length_append]
      omega
  have h2 := key [] es (fun e he => ⟨(hm e he).1, hc e he⟩)
  have u := ub_len10 (n := es.length) (by omega)
  unfold insideB
  rw [List.length_append]
  omega
end Go.Proofs.Ythcomfcbdlobpaa

namespace Go.Proofs.Ythcomfcbdlobpaa
open Go.RowKit
set_option linter.unusedVariables false
set_option linter.unnecessarySimpa false
set_option linter.unusedSimpArgs false
set_option maxRecDepth 100000

theorem fAt_le : ∀ (es : List En) (key : ByteArray), fAt es key ≤ es.length
  | [], key => by simp [fAt]
  | e :: es, key => by
    have := fAt_le es key
    unfold fAt at *
    rw [List.takeWhile_cons]
    split <;> simp
    omega
theorem fAt_lt : ∀ (es : List En) (key : ByteArray) (j : Nat), j < fAt es key → ltS (es.getD j en0).key key = true
  | [], key, j, h => by simp [fAt] at h
  | e :: es, key, j, h => by
    unfold fAt at h
    rw [List.takeWhile_cons] at h
    split at h
    · rename_i he
      cases j with
      | zero => exact he
      | succ j =>
        have := fAt_lt es key j (by unfold fAt; simpa using h)
        simpa [List.getD] using this
    · simp at h
theorem fAt_end : ∀ (es : List En) (key : ByteArray), fAt es key < es.length → ltS (es.getD (fAt es key) en0).key key = false
  | [], key, h => by simp at h
  | e :: es, key, h => by
    by_cases he : ltS e.key key = true
    · have e1 : fAt (e :: es) key = fAt es key + 1 := by unfold fAt; rw [List.takeWhile_cons, if_pos he]; rfl
      rw [e1] at h ⊢
      have := fAt_end es key (by simpa using h)
      simpa [List.getD] using this
    · have e1 : fAt (e :: es) key = 0 := by unfold fAt; rw [List.takeWhile_cons, if_neg he]; rfl
      rw [e1]
      simpa [List.getD] using he

end Go.Proofs.Ythcomfcbdlobpaa

namespace Go.Proofs.Ythcomfcbdlobpaa
open Go.RowKit
set_option linter.unusedVariables false
set_option linter.unnecessarySimpa false
set_option linter.unusedSimpArgs false
set_option maxRecDepth 100000

theorem ext_ba (l1 l2 : List UInt8) : (⟨(l1 ++ l2).toArray⟩ : ByteArray).extract 0 l1.length = ⟨l1.toArray⟩ ∧ (⟨(l1 ++ l2).toArray⟩ : ByteArray).extract l1.length (l1.length + l2.length) = ⟨l2.toArray⟩ := by
  refine ⟨c_ba_ext ?_, c_ba_ext ?_⟩
  · rw [ext_list]; simp
  · rw [ext_list]; simp
theorem ba_list (p : ByteArray) : (⟨p.data.toList.toArray⟩ : ByteArray) = p := by simp
theorem blkS_parts (p : ByteArray) : (blkS p).size = p.size + 4 ∧ (blkS p).extract 0 p.size = p ∧ (blkS p).extract p.size (p.size + 4) = ⟨(sumS p).toArray⟩ := by
  have h4 : (sumS p).length = 4 := by unfold sumS; rw [fx, cellsF_length]
  have hp := c_size p
  have h := ext_ba p.data.toList (sumS p)
  rw [h4, hp, ba_list] at h
  refine ⟨?_, h.1, h.2⟩
  show (p.data.toList ++ sumS p).toArray.size = _
  rw [List.size_toArray, List.length_append, h4, hp]
theorem tabRow_one : tab.all (·.oneCell') = true := tab_one

end Go.Proofs.Ythcomfcbdlobpaa

namespace Go.Proofs.Ythcomfcbdlobpaa
open Go.RowKit
set_option linter.unusedVariables false
set_option linter.unnecessarySimpa false
set_option linter.unusedSimpArgs false
set_option maxRecDepth 100000

/-- A stored inside. -/
theorem unp_storedE (l : List UInt8) (h : l.length ≤ 60000) : unp (ub l.length ++ 0 :: l) = (l, 0) := by
  have hk := tk_ub l.length (by omega) (0 :: l)
  have hd : (ub l.length ++ 0 :: l).drop (ub l.length).length = 0 :: l := List.drop_left
  rw [unp_how hk (by omega) hd]
  simp
theorem fx_next (n : Nat) : fx (n + 1) 4 true ≠ fx n 4 true := by
  intro h
  have h1 : (fx (n + 1) 4 true)[3]? = (fx n 4 true)[3]? := by rw [h]
  simp only [fx, cellsF, fxAt, pl, List.getElem?_map, List.getElem?_range (show 3 < 4 by omega), Option.map_some, if_true] at h1
  have h2 : UInt8.ofNat ((n + 1) / 256 ^ 0) = UInt8.ofNat (n / 256 ^ 0) := by simpa using h1
  have h3 := congrArg UInt8.toNat h2
  rw [UInt8.toNat_ofNat', UInt8.toNat_ofNat'] at h3
  omega
/-- Entries whose inside is short are small. -/
theorem entsB_small : ∀ (p : List UInt8) (l : List En), l.length ≤ (entsB p l).length ∧ ∀ e ∈ l, e.key.size ≤ p.length + (entsB p l).length ∧ (chainB e.ch).length ≤ (entsB p l).length
  | _, [] => by simp [entsB]
  | p, e :: l => by
    obtain ⟨h1, h2⟩ := entsB_small e.key.data.toList l
    have hp := pre_le p e.key.data.toList
    have hk := c_size e.key
    have hb : (entB p e).length ≥ 1 + (e.key.size - pre p e.key.data.toList) + (chainB e.ch).length := by
      unfold entB txtB
      have u : ∀ n, 1 ≤ (ub n).length := fun n => by unfold ub; split <;> simp
      have := u (pre p e.key.data.toList)
      simp only [List.length_append, List.length_drop]
      omega
    rw [entsB, List.length_append, List.length_cons]
    refine ⟨by omega, fun x hx => ?_⟩
    rcases List.mem_cons.1 hx with rfl | hx
    · exact ⟨by omega, by omega⟩
    · have := h2 x hx
      rw [hk] at this
      exact ⟨by omega, by omega⟩
theorem inside_small {es : List En} {n : Nat} (h : (insideB es).length ≤ n) (hn : n ≤ 60000) (ho : OkE es) : es.length ≤ n ∧ SmallE es := by
  unfold insideB at h
  rw [List.length_append] at h
  obtain ⟨h1, h2⟩ := entsB_small [] es
  refine ⟨by omega, fun e he => ?_⟩
  obtain ⟨h3, h4⟩ := h2 e he
  refine ⟨by simp at h3; omega, by omega, fun v hv => ?_⟩
  have h5 := (ho e he).1
  have : ∀ (l : List Vr) (v : Vr), v ∈ l → v.val.size ≤ allN l := by
    intro l
    induction l with
    | nil => intro v hv; cases hv
    | cons x l ih =>
      intro v hv
      unfold allN
      rw [List.map_cons, List.sum_cons]
      rcases List.mem_cons.1 hv with rfl | hv
      · omega
      · have := ih v hv
        unfold allN at this
        omega
  have := this e.ch v hv
  omega
theorem bend_byte (x : UInt8) (y : Nat) (hy : y < 256) : ∃ u : UInt8, bits BinOp.xor IntKind.u8 (x.toNat : Int) (y : Int) = (u.toNat : Int) ∧ (y = 0 → u = x) := by
  have hx := UInt8.toNat_lt x
  have hl : x.toNat ^^^ y < 256 := Nat.xor_lt_two_pow (n := 8) hx hy
  refine ⟨UInt8.ofNat (x.toNat ^^^ y), ?_, fun h => ?_⟩
  · rw [u8_xor_nat _ _ hx hy, UInt8.toNat_ofNat', Nat.mod_eq_of_lt hl]
  · subst h
    rw [Nat.xor_zero]
    exact UInt8.toNat_inj.1 (by rw [UInt8.toNat_ofNat']; omega)
end Go.Proofs.Ythcomfcbdlobpaa
