/-
  Joined: BlkContracts, BlkFinds.
-/
import Derived.Test.YtplobffkelmokaaBlkInside
import Derived.Test.YtplobffkelmokaaSet07
import Derived.Test.YtplobffkelmokaaRefUnpack
namespace Go.Proofs.Ytplobffkelmokaa
open Go.RowKit
set_option linter.unusedVariables false
set_option linter.unnecessarySimpa false
set_option linter.unusedSimpArgs false
set_option maxRecDepth 100000

/-- A packed inside's bytes, behind them their sum. -/
def sumS (p : ByteArray) : List UInt8 := fx (sumB p.data.toList) 4 true
def blkS (p : ByteArray) : ByteArray := ⟨(p.data.toList ++ sumS p).toArray⟩
def insideS (es : List En) : ByteArray := ⟨(insideB es).toArray⟩
/-- Entries whose times are numbers and whose values are few. -/
def OkE (es : List En) : Prop := ∀ e ∈ es, allN e.ch ≤ 60000 ∧ ∀ v ∈ e.ch, v.time < 18446744073709551616
/-- Where a key is, or would be. -/
def fAt (es : List En) (key : ByteArray) : Nat := (es.takeWhile fun e => ltS e.key key).length
def fOk (es : List En) (key : ByteArray) : Bool := decide (fAt es key < es.length) && eqS (es.getD (fAt es key) en0).key key

structure BlkC : Prop where
  insNone : ∀ w : World, Calls Try.prog 9 #[.slice none 0 0] w fun e w' => e = .returned (.tuple #[.string ⟨#[0]⟩, .int .i64 0]) ∧ Below w.heap.size w w'
  insYes : ∀ (a : Option Addr) (len cap : Nat) (es : List En) (w : World), IsEnts w a len cap es → len ≤ 10 → rightE es = true → SmallE es →
    Calls Try.prog 9 #[.slice a len cap] w fun e w' => e = .returned (.tuple #[.string (insideS es), .int .i64 0]) ∧ Below w.heap.size w w'
  insNo : ∀ (a : Option Addr) (len cap : Nat) (es : List En) (w : World), IsEnts w a len cap es → len ≤ 10 → rightE es = false → SmallE es →
    Calls Try.prog 9 #[.slice a len cap] w fun e w' => e = .returned (.tuple #[.string ⟨#[]⟩, .int .i64 1]) ∧ Below w.heap.size w w'
  encYes : ∀ (a : Option Addr) (len cap : Nat) (es : List En) (w : World), IsEnts w a len cap es → len ≤ 20 → rightE es = true → SmallE es → (insideB es).length ≤ 60000 →
    Calls Try.prog 10 #[.agg tab, .slice a len cap] w fun e w' => ∃ p : ByteArray, p.size ≤ 90000 ∧ unp p.data.toList = (insideB es, 0) ∧ e = .returned (.tuple #[.string (blkS p), .int .i64 0]) ∧ Below w.heap.size w w'
  encNo : ∀ (a : Option Addr) (len cap : Nat) (es : List En) (w : World), IsEnts w a len cap es → len ≤ 20 → rightE es = false → SmallE es →
    Calls Try.prog 10 #[.agg tab, .slice a len cap] w fun e w' => e = .returned (.tuple #[.string ⟨#[]⟩, .int .i64 1]) ∧ Below w.heap.size w w'
  decYes : ∀ (p : ByteArray) (es : List En) (w : World), p.size ≤ 90000 → unp p.data.toList = (insideB es, 0) → rightE es = true → OkE es →
    Calls Try.prog 13 #[.agg tab, .string (blkS p)] w fun e w' => ∃ a c, e = .returned (.tuple #[.slice a es.length c, .int .i64 0]) ∧ IsEnts w' a es.length c es ∧ Below w.heap.size w w'
  decNo : ∀ (p : ByteArray) (l : List UInt8) (w : World), p.size ≤ 90000 → unp p.data.toList = (l, 0) → (¬ ∃ es, rightE es = true ∧ OkE es ∧ insideB es = l) →
    Calls Try.prog 13 #[.agg tab, .string (blkS p)] w fun e w' => ∃ a c k, (k = 2 ∨ k = 3) ∧ e = .returned (.tuple #[.slice a 0 c, .int .i64 k]) ∧ Below w.heap.size w w'
  decSum : ∀ (p : ByteArray) (s : List UInt8) (w : World), p.size ≤ 90000 → s.length = 4 → s ≠ sumS p →
    Calls Try.prog 13 #[.agg tab, .string ⟨(p.data.toList ++ s).toArray⟩] w fun e w' => ∃ a c, e = .returned (.tuple #[.slice a 0 c, .int .i64 2]) ∧ Below w.heap.size w w'
  decShort : ∀ (b : ByteArray) (w : World), b.size < 4 →
    Calls Try.prog 13 #[.agg tab, .string b] w fun e w' => ∃ a c, e = .returned (.tuple #[.slice a 0 c, .int .i64 2]) ∧ Below w.heap.size w w'
  find : ∀ (a : Option Addr) (len cap : Nat) (es : List En) (key : ByteArray) (w : World), IsEnts w a len cap es → len ≤ 10 → rightE es = true → SmallE es → key.size ≤ 200 →
    Calls Try.prog 19 #[.slice a len cap, .string key] w fun e w' => e = .returned (.tuple #[.int .i64 (fAt es key), .bool (fOk es key)]) ∧ Below w.heap.size w w'

set_option maxHeartbeats 1000000 in
theorem bawake_any (C : BlkC) (w : World) : Calls Try.prog 6 #[] w fun e w' => e = .returned (.bool true) ∧ Below w.heap.size w w' := by
  have h := Lib.hid (C.insNone w)
  go_enter Try.func6, Try.ntmps6
  go_wp2_with (go_at_call 9; refine h.out.mono ?_; rintro e w1 ⟨rfl, hb1⟩)
  go_ret
  exact ⟨rfl, hb1⟩

/-! What few entries have. -/
theorem valB_len (b v : List UInt8) (hb : b.length ≤ 500) (hv : v.length ≤ 500) : (valB b v).length ≤ 540 := by
  unfold valB
  have h1 := tailN_le b v
  have u1 := ub_len10 (n := headN b v) (by omega)
  have u2 := ub_len10 (n := tailN b v) (by omega)
  have hm : (midB b v).length ≤ v.length := by unfold midB; rw [List.length_take, List.length_drop]; omega
  have u3 := ub_len10 (n := (midB b v).length) (by omega)
  simp only [List.length_cons, List.length_append]
  omega
theorem versB_len : ∀ (t : Nat) (b : List UInt8) (l : List Vr), b.length ≤ 500 → (∀ v ∈ l, v.val.size ≤ 500 ∧ v.time < 18446744073709551616) → (versB t b l).length ≤ 551 * l.length
  | _, _, [], _, _ => by simp [versB]
  | t, b, v :: l, hb, h => by
    have hv := h v (by simp)
    have u := ub_len10 (n := v.time - t) (by omega)
    have hl : v.val.data.toList.length ≤ 500 := by rw [c_size]; exact hv.1
    unfold versB
    rw [List.length_append, List.length_cons]
    split
    · have ih := versB_len v.time b l hb (fun x hx => h x (by simp [hx]))
      rw [List.length_cons]
      omega
    · have ih := versB_len v.time v.val.data.toList l hl (fun x hx => h x (by simp [hx]))
      have := valB_len b v.val.data.toList hb hl
      rw [List.length_append]
      omega
theorem fewV_mem {zs : List Vr} (h : FewVers zs 10) : ∀ v ∈ zs, v.val.size ≤ 500 := fun v hv => by
  obtain ⟨i, hi, rfl⟩ := List.mem_iff_getElem.1 hv
  have := h.1 i hi (by have := h.2; omega)
  rwa [List.getD, List.getElem?_eq_getElem hi] at this
theorem ents_times {w : World} {a : Option Addr} {len cap : Nat} {es : List En} (h : IsEnts w a len cap es) : ∀ e ∈ es, ∀ v ∈ e.ch, v.time < 18446744073709551616 := fun e he v hv => by
  obtain ⟨i, hi, rfl⟩ := List.mem_iff_getElem.1 he
  obtain ⟨b, off, _, _, _, _, ca, cl, cc, _, hz⟩ := h.1.2 i (by rw [← h.1.1]; exact hi)
  rw [List.getD, List.getElem?_eq_getElem hi, Option.getD_some] at hz
  obtain ⟨j, hj, rfl⟩ := List.mem_iff_getElem.1 hv
  obtain ⟨_, _, _, _, h1, _⟩ := hz.1.2 j (by rw [← hz.1.1]; exact hj)
  rwa [List.getD, List.getElem?_eq_getElem hj] at h1
/-- What few entries have, all told. -/
structure FewOut (es : List En) : Prop where
  len : es.length ≤ 10
  small : SmallE es
  ok : OkE es
  ins : (insideB es).length ≤ 60000
theorem fewOut {w : World} {a : Option Addr} {len cap : Nat} {es : List En} (h : IsEnts w a len cap es) (hf : FewEnts es 10) : FewOut es := by
  have hl := hf.2
  have ht := ents_times h
  have hm : ∀ e ∈ es, fewOne e := fun e he => by
    obtain ⟨i, hi, rfl⟩ := List.mem_iff_getElem.1 he
    have := hf.1 i hi (by omega)
    rwa [List.getD, List.getElem?_eq_getElem hi] at this
  have hc : ∀ e ∈ es, (chainB e.ch).length ≤ 5520 := fun e he => by
    have h1 := hm e he
    have h2 := versB_len 0 [] e.ch (by simp) (fun v hv => ⟨fewV_mem h1.2 v hv, ht e he v hv⟩)
    have h3 := h1.2.2
    have u := ub_len10 (n := e.ch.length) (by omega)
    unfold chainB
    rw [List.length_append]
    omega
  have hall : ∀ l : List Vr, (∀ v ∈ l, v.val.size ≤ 500) → allN l ≤ 500 * l.length := by
    intro l
    induction l with
    | nil => intro _; simp [allN]
    | cons v l ih =>
      intro hl
      have a1 := hl v (by simp)
      have a2 := ih (fun x hx => hl x (by simp [hx]))
      unfold allN at a2 ⊢
      rw [List.map_cons, List.sum_cons, List.length_cons]
      omega
  refine ⟨hl, fun e he => ⟨by have := (hm e he).1; omega, by have := hc e he; omega, fun v hv => by have := fewV_mem (hm e he).2 v hv; omega⟩,
    fun e he => ⟨by have := hall e.ch (fewV_mem (hm e he).2); have := (hm e he).2.2; omega, ht e he⟩, ?_⟩
  have key : ∀ (p : List UInt8) (l : List En), (∀ e ∈ l, e.key.size ≤ 100 ∧ (chainB e.ch).length ≤ 5520) → (entsB p l).length ≤ 5750 * l.length := by
    intro p l
    induction l generalizing p with
    | nil => intro _; simp [entsB]
    | cons e l ih =>
      intro hle
      have h1 := hle e (by simp)
      have h2 := ih e.key.data.toList (fun x hx => hle x (by simp [hx]))
      have hp := pre_le p e.key.data.toList
      have hk := c_size e.key
      have u1 := ub_len10 (n := pre p e.key.data.toList) (by omega)
      have u2 := txtB_len (e.key.data.toList.drop (pre p e.key.data.toList)) (by rw [List.length_drop]; omega)
      have u3 := txtB_len (chainB e.ch) (by omega)
      rw [List.length_drop] at u2
      rw [entsB, List.length_append, List.length_cons]
      unfold entB
      rw [List.length_append, List.length_append]
      omega
  have h2 := key [] es (fun e he => ⟨(hm e he).1, hc e he⟩)
  have u := ub_len10 (n := es.length) (by omega)
  unfold insideB
  rw [List.length_append]
  omega
end Go.Proofs.Ytplobffkelmokaa

namespace Go.Proofs.Ytplobffkelmokaa
open Go.RowKit
set_option linter.unusedVariables false
set_option linter.unnecessarySimpa false
set_option linter.unusedSimpArgs false
set_option maxRecDepth 100000

theorem fAt_le : ∀ (es : List En) (key : ByteArray), fAt es key ≤ es.length
  | [], key => by simp [fAt]
  | e :: es, key => by
    have := fAt_le es key
    unfold fAt at *
    rw [List.takeWhile_cons]
    split <;> simp
    omega
theorem fAt_lt : ∀ (es : List En) (key : ByteArray) (j : Nat), j < fAt es key → ltS (es.getD j en0).key key = true
  | [], key, j, h => by simp [fAt] at h
  | e :: es, key, j, h => by
    unfold fAt at h
    rw [List.takeWhile_cons] at h
    split at h
    · rename_i he
      cases j with
      | zero => exact he
      | succ j =>
        have := fAt_lt es key j (by unfold fAt; simpa using h)
        simpa [List.getD] using this
    · simp at h
theorem fAt_end : ∀ (es : List En) (key : ByteArray), fAt es key < es.length → ltS (es.getD (fAt es key) en0).key key = false
  | [], key, h => by simp at h
  | e :: es, key, h => by
    by_cases he : ltS e.key key = true
    · have e1 : fAt (e :: es) key = fAt es key + 1 := by unfold fAt; rw [List.takeWhile_cons, if_pos he]; rfl
      rw [e1] at h ⊢
      have := fAt_end es key (by simpa using h)
      simpa [List.getD] using this
    · have e1 : fAt (e :: es) key = 0 := by unfold fAt; rw [List.takeWhile_cons, if_neg he]; rfl
      rw [e1]
      simpa [List.getD] using he

set_option maxHeartbeats 2000000 in
theorem finds_no (C : BlkC) (a : Option Addr) (len cap : Nat) (es : List En) (key : ByteArray) (w : World) (hz : IsEnts w a len cap es) (hk : key.size ≤ maxLen) (h : ¬ FewEnts es 10 ∨ rightE es = false ∨ 200 < key.size) :
    Calls Try.prog 5 #[.slice a len cap, .string key] w fun e w' => e = .returned (.bool true) ∧ Below w.heap.size w w' := by
  have haw := Lib.hid (bawake_any C)
  have HF := Lib.hid (fun w1 (hb : Below w.heap.size w w1) => bfew_any a len cap 10 es w1 (hz.below hb) (by omega))
  have HR := Lib.hid (fun w1 (hb : Below w.heap.size w w1) => bright_any a len cap es w1 (hz.below hb))
  obtain ⟨F, hF⟩ : ∃ F, F = fewB es 10 := ⟨_, rfl⟩
  obtain ⟨R, hR⟩ : ∃ R, R = rightE es := ⟨_, rfl⟩
  rw [← hF] at HF
  rw [← hR] at HR
  have hcs : F = false ∨ (F = true ∧ R = false) ∨ (F = true ∧ R = true ∧ 200 < key.size) := by
    cases F with
    | false => exact .inl rfl
    | true =>
      cases R with
      | false => exact .inr (.inl ⟨rfl, rfl⟩)
      | true =>
        refine .inr (.inr ⟨rfl, rfl, ?_⟩)
        rcases h with h | h | h
        · exact absurd (fewB_true.1 hF.symm) h
        · rw [h] at hR; cases hR
        · exact h
  unfold maxLen at hk
  clear hF hR h hz
  rcases hcs with rfl | ⟨rfl, rfl⟩ | ⟨rfl, rfl, hk2⟩
  · go_enter Try.func5, Try.ntmps5
    go_upto_region 2 with (first
      | (go_at_call 6; refine (haw.out _).mono ?_; rintro e w1 ⟨rfl, hb1⟩; have HB1 := Lib.hid hb1)
      | (go_at_call 7; refine (HF.out _ HB1.out).mono ?_; rintro e w2 ⟨rfl, rfl⟩))
    go_wp2_with (go_at_call 6; refine (haw.out _).mono ?_; rintro e w3 ⟨rfl, hb3⟩; have HB3 := Lib.hid hb3)
    go_ret
    exact ⟨rfl, HB1.out.trans (HB3.out.mono HB1.out.size)⟩
  · go_enter Try.func5, Try.ntmps5
    go_upto_region 2 with (first
      | (go_at_call 6; refine (haw.out _).mono ?_; rintro e w1 ⟨rfl, hb1⟩; have HB1 := Lib.hid hb1)
      | (go_at_call 7; refine (HF.out _ HB1.out).mono ?_; rintro e w2 ⟨rfl, rfl⟩)
      | (go_at_call 11; refine (HR.out _ HB1.out).mono ?_; rintro e w4 ⟨rfl, hb4⟩; have HB4 := Lib.hid (HB1.out.trans (hb4.mono HB1.out.size))))
    go_wp2_with (go_at_call 6; refine (haw.out _).mono ?_; rintro e w3 ⟨rfl, hb3⟩; have HB3 := Lib.hid hb3)
    go_ret
    exact ⟨rfl, HB4.out.trans (HB3.out.mono HB4.out.size)⟩
  · have hkz : decide ((200 : Int) < (key.size : Int)) = true := by simp; omega
    have hkz2 : decide (200 < key.size) = true := by simp; omega
    clear hk2
    go_enter Try.func5, Try.ntmps5
    go_upto_region 2 with (first
      | (go_at_call 6; refine (haw.out _).mono ?_; rintro e w1 ⟨rfl, hb1⟩; have HB1 := Lib.hid hb1)
      | (go_at_call 7; refine (HF.out _ HB1.out).mono ?_; rintro e w2 ⟨rfl, rfl⟩)
      | (go_at_call 11; refine (HR.out _ HB1.out).mono ?_; rintro e w4 ⟨rfl, hb4⟩; have HB4 := Lib.hid (HB1.out.trans (hb4.mono HB1.out.size))))
    go_wp2_with (go_at_call 6; refine (haw.out _).mono ?_; rintro e w3 ⟨rfl, hb3⟩; have HB3 := Lib.hid hb3)
    go_ret
    exact ⟨rfl, HB4.out.trans (HB3.out.mono HB4.out.size)⟩

set_option maxHeartbeats 4000000 in
theorem finds_yes (C : BlkC) (a : Option Addr) (len cap : Nat) (es : List En) (key : ByteArray) (w : World) (hz : IsEnts w a len cap es) (hf : FewEnts es 10) (hr : rightE es = true) (hk : key.size ≤ 200) :
    Calls Try.prog 5 #[.slice a len cap, .string key] w fun e w' => e = .returned (.bool true) ∧ Below w.heap.size w w' := by
  have haw := Lib.hid (bawake_any C)
  have HF := Lib.hid (fun w1 (hb : Below w.heap.size w w1) => bfew_any a len cap 10 es w1 (hz.below hb) (by omega))
  rw [fewB_true.2 hf] at HF
  have HR := Lib.hid (fun w1 (hb : Below w.heap.size w w1) => bright_any a len cap es w1 (hz.below hb))
  rw [hr] at HR
  have hfo := fewOut hz hf
  have hl10 : len ≤ 10 := by rw [← hz.1.1]; exact hfo.len
  have HFd := Lib.hid (fun w1 (hb : Below w.heap.size w w1) => C.find a len cap es key w1 (hz.below hb) hl10 hr hfo.small hk)
  have hkz : decide ((200 : Int) < (key.size : Int)) = false := by simp; omega
  have hkz2 : decide (200 < key.size) = false := by simp; omega
  have HZ := Lib.hid hz
  have hel := Lib.hid hz.1.1
  have hle := fAt_le es key
  have HLt := Lib.hid (fAt_lt es key)
  have HEnd := Lib.hid (fAt_end es key)
  obtain ⟨n, hn⟩ : ∃ n, n = fAt es key := ⟨_, rfl⟩
  have hOk := Lib.hid (show fOk es key = (decide (n < len) && eqS (es.getD n en0).key key) by unfold fOk; rw [← hn, hz.1.1])
  rw [← hn] at HFd hle HLt HEnd
  rw [hz.1.1] at hle HEnd
  obtain ⟨ok, hok⟩ : ∃ ok, ok = fOk es key := ⟨_, rfl⟩
  rw [← hok] at HFd hOk
  clear hn hok hz hf hr hfo hk
  go_enter Try.func5, Try.ntmps5
  go_upto_region 3 with (first
    | (go_at_call 6; refine (haw.out _).mono ?_; rintro e w1 ⟨rfl, hb1⟩; have HB1 := Lib.hid hb1)
    | (go_at_call 7; refine (HF.out _ HB1.out).mono ?_; rintro e w2 ⟨rfl, rfl⟩)
    | (go_at_call 11; refine (HR.out _ HB1.out).mono ?_; rintro e w4 ⟨rfl, hb4⟩; have HB4 := Lib.hid (HB1.out.trans (hb4.mono HB1.out.size))))
  go_wp2_with fail
  go_loopg [5] n (fun g s5 wx => ∃ j : Nat, j + g = n ∧ s5 = .int .i64 j ∧ w4 = wx)
  case atStart => exact ⟨0, by omega, rfl, rfl⟩
  case round =>
    obtain ⟨j, hjn, rfl, rfl⟩ := hrel
    cases gk with
    | succ g =>
      have hjl : j < len := by omega
      have hjz : (j : Int) < (len : Int) := by omega
      obtain ⟨b, off, rfl, hbl, hkm, k0, _⟩ := (HZ.out.below HB4.out).1.2 j hjl
      have hlt := HLt.out j (by omega)
      obtain ⟨K, hK⟩ : ∃ K, K = (es.getD j en0).key := ⟨_, rfl⟩
      rw [← hK] at k0 hlt
      unfold ltS at hlt
      clear hK hkm hbl
      go_wp2_with fail
      go_roundg g
      case measure => omega
      case rel => exact ⟨j + 1, by omega, by go_num, rfl⟩
    | zero =>
      obtain rfl : j = n := by omega
      by_cases hjl : j < len
      · have hjz : (j : Int) < (len : Int) := by omega
        have hjd : decide (j < len) = true := by simpa using hjl
        obtain ⟨b, off, rfl, hbl, hkm, k0, _⟩ := (HZ.out.below HB4.out).1.2 j hjl
        have hlt := HEnd.out hjl
        have hok := hOk.out
        rw [hjd] at hok
        obtain ⟨K, hK⟩ : ∃ K, K = (es.getD j en0).key := ⟨_, rfl⟩
        rw [← hK] at k0 hlt hok
        unfold ltS at hlt
        unfold eqS at hok
        obtain ⟨E, hE⟩ : ∃ E, E = (K.toList == key.toList) := ⟨_, rfl⟩
        rw [← hE, Bool.true_and] at hok
        subst hok
        have hE2 := hE.symm
        have HBl := Lib.hid hbl
        clear hK hkm hE hbl
        go_wp2_with (go_at_call 19; refine (HFd.out _ HB4.out).mono ?_; rintro e w5 ⟨rfl, hb5⟩; have HB5 := Lib.hid (HB4.out.trans (hb5.mono HB4.out.size)); have k5 := (hb5.cell (p := ⟨b, off + j * 2, none⟩) HBl.out).trans k0)
        go_ret
        exact ⟨by simp, HB5.out⟩
      · obtain rfl : j = len := by omega
        have hjz : ¬ (j : Int) < (j : Int) := by omega
        have hjd : decide (j < j) = false := by simp
        have hok := hOk.out
        rw [hjd, Bool.false_and] at hok
        subst hok
        go_wp2_with (go_at_call 19; refine (HFd.out _ HB4.out).mono ?_; rintro e w5 ⟨rfl, hb5⟩; have HB5 := Lib.hid (HB4.out.trans (hb5.mono HB4.out.size)))
        go_ret
        exact ⟨by simp, HB5.out⟩
end Go.Proofs.Ytplobffkelmokaa
