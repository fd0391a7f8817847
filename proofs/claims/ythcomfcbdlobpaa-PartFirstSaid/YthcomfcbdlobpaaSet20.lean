/-
  Joined: PrtFirstMath, PrtShares, PrtKey.
-/
import Derived.Test.YthcomfcbdlobpaaSet19
import Derived.Maps.OwnSet
import Derived.DeepKeys4
namespace Go.Proofs.Ythcomfcbdlobpaa
open Go.RowKit
set_option linter.unusedVariables false
set_option linter.unnecessarySimpa false
set_option linter.unusedSimpArgs false
set_option maxRecDepth 100000

theorem sameK_sy {a b : ByteArray} (h : sameK a b = true) : sameK b a = true := by unfold sameK at *; simp at *; exact h.symm
theorem sameK_sf {a b : ByteArray} (h : sameK a b = false) : sameK b a = false := by
  rw [← Bool.not_eq_true] at *
  exact fun e => h (sameK_sy e)
theorem sameK_tr {a b c : ByteArray} (h : sameK a b = true) (k : sameK b c = true) : sameK a c = true := by unfold sameK at *; simp at *; rw [h, k]
theorem sameK_rf (a : ByteArray) : sameK a a = true := by unfold sameK; simp
theorem lastOf_same {a b : ByteArray} (h : sameK a b = true) : ∀ S : List Im, lastOf a S = lastOf b S
  | [] => rfl
  | m :: S => by
    have e : sameK m.key a = sameK m.key b := by
      cases h1 : sameK m.key a with
      | true => exact (sameK_tr h1 h).symm
      | false =>
        symm
        rw [← Bool.not_eq_true]
        intro h2
        rw [sameK_tr h2 (sameK_sy h)] at h1
        cases h1
    simp only [lastOf, e, lastOf_same h S]
theorem hasK_true {key : ByteArray} {l : List Wq} : hasK key l = true ↔ ∃ m ∈ l, sameK m.key key = true := by unfold hasK; rw [List.any_eq_true]
theorem hasK_false {key : ByteArray} {l : List Wq} : hasK key l = false ↔ ∀ m ∈ l, sameK m.key key = false := by unfold hasK; rw [List.any_eq_false]; simp
/-- A write that can be installed at a time. -/
def OkM (S : List Im) (T : Nat) (m : Wq) : Prop := m.key.size ≤ 100 ∧ m.val.size ≤ 500 ∧ (m.gone && !m.val.toList.isEmpty) = false ∧ (lastOf m.key S).1 < T ∧ (lastOf m.key S).2 < 200
def Dis (a b : Wq) : Prop := sameK a.key b.key = false
theorem ins_ok {S : List Im} {T : Nat} {m : Wq} (h : OkM S T m) : insM S ⟨m.key, ⟨T, m.gone, m.val⟩⟩ = (S ++ [⟨m.key, ⟨T, m.gone, m.val⟩⟩], 0) := by
  obtain ⟨h1, h2, h3, h4, h5⟩ := h
  unfold insM badIm
  have hT : (T == 0) = false := by rw [beq_eq_false_iff_ne]; omega
  have hb : (T == 0 || (m.gone && !m.val.toList.isEmpty)) = false := by rw [hT, h3]; rfl
  simp only
  rw [if_neg (by simp; omega), if_neg (by rw [hb]; simp), if_neg (by omega), if_neg (by omega)]
theorem last_ins {S : List Im} {T : Nat} {m : Wq} (key : ByteArray) : lastOf key (S ++ [⟨m.key, ⟨T, m.gone, m.val⟩⟩]) = if sameK m.key key then (max (lastOf key S).1 T, (lastOf key S).2 + 1) else lastOf key S := lastOf_snoc key S _
theorem insAll_last (T : Nat) : ∀ (ws : List Wq) (S : List Im), (∀ m ∈ ws, OkM S T m) → ws.Pairwise Dis → ∀ key, (hasK key ws = false → lastOf key (insAll S T ws) = lastOf key S) ∧ (hasK key ws = true → (lastOf key (insAll S T ws)).1 = T)
  | [], S, _, _, key => ⟨fun _ => rfl, fun h => by cases h⟩
  | m :: ws, S, hok, hd, key => by
    obtain ⟨hd1, hd2⟩ := List.pairwise_cons.1 hd
    have hm := hok m (by simp)
    have e : insAll S T (m :: ws) = insAll (S ++ [⟨m.key, ⟨T, m.gone, m.val⟩⟩]) T ws := by
      show insAll (insM S ⟨m.key, ⟨T, m.gone, m.val⟩⟩).1 T ws = _
      rw [ins_ok hm]
    have hok2 : ∀ m' ∈ ws, OkM (S ++ [⟨m.key, ⟨T, m.gone, m.val⟩⟩]) T m' := fun m' hm' => by
      obtain ⟨h1, h2, h3, h4, h5⟩ := hok m' (by simp [hm'])
      have hdd : sameK m.key m'.key = false := hd1 m' hm'
      have hl : lastOf m'.key (S ++ [⟨m.key, ⟨T, m.gone, m.val⟩⟩]) = lastOf m'.key S := by rw [last_ins, hdd]; rfl
      exact ⟨h1, h2, h3, by rw [hl]; exact h4, by rw [hl]; exact h5⟩
    obtain ⟨i1, i2⟩ := insAll_last T ws _ hok2 hd2 key
    rw [e]
    refine ⟨fun h => ?_, fun h => ?_⟩
    · have h0 := hasK_false.1 h
      rw [i1 (hasK_false.2 (fun x hx => h0 x (by simp [hx]))), last_ins, h0 m (by simp)]
      rfl
    · by_cases hk : hasK key ws = true
      · exact i2 hk
      · have hk' : hasK key ws = false := by simpa using hk
        rw [i1 hk', last_ins]
        obtain ⟨x, hx, hx2⟩ := hasK_true.1 h
        rcases List.mem_cons.1 hx with rfl | hx
        · rw [hx2]
          have h4 := hm.2.2.2.1
          rw [lastOf_same hx2] at h4
          show max _ T = T
          omega
        · rw [hasK_false.1 hk' x hx] at hx2
          cases hx2
/-- One that has committed. -/
structure Dn where
  start : Nat
  time : Nat
  a : Option Addr
  n : Nat
  c : Nat
  w : List Wq
def DisW (a b : List Wq) : Prop := ∀ m ∈ a, ∀ m' ∈ b, sameK m.key m'.key = false
theorem DisW.symm {a b : List Wq} (h : DisW a b) : DisW b a := fun m hm m' hm' => sameK_sf (h m' hm' m hm)
def shareW (a b : List Wq) : Bool := a.any fun m => hasK m.key b
theorem shareW_dis {a b : List Wq} : shareW a b = true ↔ ∃ m ∈ a, ∃ m' ∈ b, sameK m'.key m.key = true := by
  unfold shareW
  rw [List.any_eq_true]
  constructor
  · rintro ⟨m, h1, h2⟩
    obtain ⟨m', h3, h4⟩ := hasK_true.1 h2
    exact ⟨m, h1, m', h3, h4⟩
  · rintro ⟨m, h1, m', h3, h4⟩
    exact ⟨m, h1, hasK_true.2 ⟨m', h3, h4⟩⟩
/-- What is kept. -/
structure FInv (S : List Im) (P : List Pd) (now : Nat) (D : List Dn) : Prop where
  start : ∀ p ∈ P, p.start ≤ now
  ok : ∀ p ∈ P, ∀ m ∈ p.w, OkM S (p.start + 1) m
  own : ∀ p ∈ P, p.w.Pairwise Dis
  dis : P.Pairwise (fun p q => DisW p.w q.w)
  last : ∀ key, (lastOf key S).1 ≤ now
  done : ∀ d ∈ D, d.start < d.time ∧ d.time ≤ now ∧ ∀ m ∈ d.w, d.time ≤ (lastOf m.key S).1
  first : D.Pairwise (fun d e => shareW d.w e.w = true → d.time ≤ e.start)
theorem FInv.zero : FInv [] [] 0 [] := ⟨fun p hp => absurd hp (by simp), fun p hp => absurd hp (by simp), fun p hp => absurd hp (by simp), List.Pairwise.nil, fun key => Nat.le_refl _, fun d hd => absurd hd (by simp), List.Pairwise.nil⟩
theorem FInv.later {S : List Im} {P : List Pd} {now now' : Nat} {D : List Dn} (h : FInv S P now D) (hn : now ≤ now') : FInv S P now' D :=
  ⟨fun p hp => Nat.le_trans (h.start p hp) hn, h.ok, h.own, h.dis, fun k => Nat.le_trans (h.last k) hn, fun d hd => ⟨(h.done d hd).1, Nat.le_trans (h.done d hd).2.1 hn, (h.done d hd).2.2⟩, h.first⟩
theorem outP_sublist (P : List Pd) (i : Nat) : (outP P i).Sublist P := by
  unfold outP
  have h1 : (P.take i ++ P.drop (i + 1)).Sublist (P.take i ++ P.drop i) := List.Sublist.append (List.Sublist.refl _) (by
    rw [show P.drop (i + 1) = (P.drop i).drop 1 by rw [List.drop_drop]]
    exact List.drop_sublist _ _)
  rwa [List.take_append_drop] at h1
theorem FInv.out {S : List Im} {P : List Pd} {now : Nat} {D : List Dn} (h : FInv S P now D) (i : Nat) : FInv S (outP P i) now D :=
  ⟨fun p hp => h.start p (outP_sub hp), fun p hp => h.ok p (outP_sub hp), fun p hp => h.own p (outP_sub hp), h.dis.sublist (outP_sublist P i), h.last, h.done, h.first⟩
theorem may_zero {S : List Im} {P : List Pd} {t : Tn} {time : Nat} {ws : List Wq} (h : mayN S P t time ws = 0) (h2 : ¬ atN t P < P.length) :
    (∀ m ∈ ws, OkM S (time + 1) m) ∧ ws.Pairwise Dis ∧ ∀ p ∈ P, DisW p.w ws := by
  have hm := mayN_is S P t time ws
  rw [h] at hm
  unfold mayP at hm
  rw [if_neg h2] at hm
  split at hm
  · cases hm
  rename_i hb
  split at hm
  · cases hm
  split at hm
  · cases hm
  rename_i hl
  split at hm
  · cases hm
  rename_i hk
  split at hm
  · cases hm
  rename_i ht
  split at hm
  · cases hm
  rename_i hf
  have hbad : ∀ i, i < ws.length → badB ws i = false := fun i hi => by
    rw [← Bool.not_eq_true]
    exact fun e => hb ((range_any _ _).2 ⟨i, hi, e⟩)
  have hl' : ∀ m ∈ ws, longQ m = false := by simpa [List.any_eq_false] using hl
  have hk' : ∀ m ∈ ws, lockedP m.key P = false := by simpa [List.any_eq_false] using hk
  have ht' : ∀ m ∈ ws, lateQ S time m = false := by simpa [List.any_eq_false] using ht
  have hf' : ∀ m ∈ ws, fullQ S m = false := by simpa [List.any_eq_false] using hf
  refine ⟨fun m hmm => ?_, ?_, fun p hp m hmp m' hm' => ?_⟩
  · have a1 := hl' m hmm
    have a2 := ht' m hmm
    have a3 := hf' m hmm
    unfold longQ at a1
    unfold lateQ at a2
    unfold fullQ at a3
    simp at a1 a2 a3
    obtain ⟨i, hi, rfl⟩ := List.mem_iff_getElem.1 hmm
    have a4 := hbad i hi
    unfold badB at a4
    rw [Bool.or_eq_false_iff] at a4
    have a5 := a4.2
    rw [List.getD, List.getElem?_eq_getElem hi] at a5
    exact ⟨a1.1, a1.2, a5, by omega, by omega⟩
  · rw [List.pairwise_iff_getElem]
    intro i j hi hj hij
    have a4 := hbad j hj
    unfold badB at a4
    rw [Bool.or_eq_false_iff] at a4
    have a5 := a4.1
    rw [← Bool.not_eq_true, range_any] at a5
    unfold Dis
    rw [← Bool.not_eq_true]
    intro e
    refine a5 ⟨i, hij, ?_⟩
    unfold dupB
    rw [List.getD, List.getElem?_eq_getElem hi, List.getD, List.getElem?_eq_getElem hj]
    exact e
  · have a1 := hk' m' hm'
    unfold lockedP at a1
    rw [List.any_eq_false] at a1
    have a2 := a1 p hp
    rw [Bool.not_eq_true] at a2
    exact hasK_false.1 a2 m hmp
theorem FInv.prep {S : List Im} {P : List Pd} {now : Nat} {D : List Dn} (h : FInv S P now D) (p : Pd) (hs : p.start ≤ now) : FInv S (prepP S P p) now D := by
  unfold prepP
  split
  · rename_i hc
    obtain ⟨h1, h2, h3⟩ := may_zero hc.1 hc.2
    refine ⟨fun q hq => ?_, fun q hq => ?_, fun q hq => ?_, ?_, h.last, h.done, h.first⟩
    · rcases List.mem_append.1 hq with hq | hq
      · exact h.start q hq
      · rw [List.mem_singleton.1 hq]; exact hs
    · rcases List.mem_append.1 hq with hq | hq
      · exact h.ok q hq
      · rw [List.mem_singleton.1 hq]; exact h1
    · rcases List.mem_append.1 hq with hq | hq
      · exact h.own q hq
      · rw [List.mem_singleton.1 hq]; exact h2
    · rw [List.pairwise_append]
      exact ⟨h.dis, List.pairwise_singleton _ _, fun q hq r hr => by rw [List.mem_singleton.1 hr]; exact h3 q hq⟩
  · exact h
theorem FInv.commit {S : List Im} {P : List Pd} {now : Nat} {D : List Dn} (h : FInv S P now D) {i : Nat} (hi : i < P.length) {p : Pd} (hp : P.getD i pd0 = p) (a : Option Addr) (n c : Nat) :
    FInv (insAll S (now + 1) p.w) (outP P i) (now + 1) (D ++ [⟨p.start, now + 1, a, n, c, p.w⟩]) := by
  have hpi : P[i] = p := by rw [← hp, List.getD, List.getElem?_eq_getElem hi]; rfl
  have hm : p ∈ P := by rw [← hpi]; exact List.getElem_mem hi
  have hsp := h.start p hm
  have hok : ∀ m ∈ p.w, OkM S (now + 1) m := fun m hmm => by
    obtain ⟨h1, h2, h3, h4, h5⟩ := h.ok p hm m hmm
    exact ⟨h1, h2, h3, by omega, h5⟩
  have hl := insAll_last (now + 1) p.w S hok (h.own p hm)
  have hge : ∀ key, (lastOf key S).1 ≤ (lastOf key (insAll S (now + 1) p.w)).1 := fun key => by
    by_cases hk : hasK key p.w = true
    · rw [(hl key).2 hk]
      have := h.last key
      omega
    · rw [(hl key).1 (by simpa using hk)]
      exact Nat.le_refl _
  have hdq : ∀ q ∈ outP P i, DisW q.w p.w := fun q hq => by
    have hsplit : P = P.take i ++ p :: P.drop (i + 1) := by rw [← hpi, ← List.drop_eq_getElem_cons hi, List.take_append_drop]
    have hd := h.dis
    rw [hsplit, List.pairwise_append] at hd
    rcases List.mem_append.1 hq with hq | hq
    · exact hd.2.2 q hq p (by simp)
    · exact ((List.pairwise_cons.1 hd.2.1).1 q hq).symm
  refine ⟨fun q hq => Nat.le_succ_of_le (h.start q (outP_sub hq)), fun q hq m hmm => ?_, fun q hq => h.own q (outP_sub hq), h.dis.sublist (outP_sublist P i), fun key => ?_, fun d hd => ?_, ?_⟩
  · obtain ⟨h1, h2, h3, h4, h5⟩ := h.ok q (outP_sub hq) m hmm
    have hk : hasK m.key p.w = false := hasK_false.2 (fun m' hm' => sameK_sf (hdq q hq m hmm m' hm'))
    have e := (hl m.key).1 hk
    exact ⟨h1, h2, h3, by rw [e]; exact h4, by rw [e]; exact h5⟩
  · by_cases hk : hasK key p.w = true
    · rw [(hl key).2 hk]
      exact Nat.le_refl _
    · rw [(hl key).1 (by simpa using hk)]
      have := h.last key
      omega
  · rcases List.mem_append.1 hd with hd | hd
    · obtain ⟨k1, k2, k3⟩ := h.done d hd
      exact ⟨k1, by omega, fun m hmm => Nat.le_trans (k3 m hmm) (hge _)⟩
    · rw [List.mem_singleton.1 hd]
      refine ⟨by show p.start < now + 1; omega, Nat.le_refl _, fun m hmm => ?_⟩
      show now + 1 ≤ _
      rw [(hl m.key).2 (hasK_true.2 ⟨m, hmm, sameK_rf _⟩)]
      exact Nat.le_refl _
  · rw [List.pairwise_append]
    refine ⟨h.first, List.pairwise_singleton _ _, fun d hd e he hs => ?_⟩
    rw [List.mem_singleton.1 he] at hs ⊢
    obtain ⟨m, hm1, m', hm2, hk⟩ := shareW_dis.1 hs
    have k1 := (h.done d hd).2.2 m hm1
    have k2 := (h.ok p hm m' hm2).2.2.2.1
    rw [lastOf_same hk] at k2
    show d.time ≤ p.start
    omega
end Go.Proofs.Ythcomfcbdlobpaa

namespace Go.Proofs.Ythcomfcbdlobpaa
open Go.RowKit Go.Maps
set_option linter.unusedVariables false
set_option linter.unnecessarySimpa false
set_option linter.unusedSimpArgs false
set_option maxRecDepth 100000

set_option maxHeartbeats 4000000 in
theorem pshares_any (a : Option Addr) (n c : Nat) (A : List Wq) (a' : Option Addr) (n' c' : Nat) (A' : List Wq) (w : World) (hz : IsWqs w a n c A) (hz' : IsWqs w a' n' c' A') :
    Calls Try.prog 21 #[.slice a n c, .slice a' n' c'] w fun e w' => e = .returned (.bool (shareW A A')) ∧ Below w.heap.size w w' := by
  have HZ := Lib.hid hz
  have HZ2 := Lib.hid hz'
  have hel := Lib.hid hz.1
  have hel2 := Lib.hid hz'.1
  have hlm := hz.2.1
  have hlm2 := hz'.2.1
  unfold maxLen at hlm hlm2
  clear hz hz'
  go_enter Try.func21, Try.ntmps21
  go_wp2_with fail
  go_loopg [5] n (fun g s5 wx => ∃ (i d : Nat), i + g = n ∧ s5 = .int .i64 i ∧ Hid (∀ j, j < i → hasK (A.getD j wq0).key A' = false) ∧ wx = w.drewN d)
  case atStart => exact ⟨0, 0, by omega, rfl, Lib.hid (fun j hj => by omega), rfl⟩
  case round =>
    obtain ⟨i, d, hig, rfl, HL, rfl⟩ := hrel
    cases gk with
    | zero =>
      obtain rfl : i = n := by omega
      have hfin : shareW A A' = false := any_none (d := wq0) (fun j hj => HL.out j (by rw [← hel.out]; exact hj))
      have HFin := Lib.hid hfin
      clear hfin
      go_wp2_with fail
      go_ret
      exact ⟨by rw [HFin.out]; rfl, below_drewN (Below.refl _ _) _⟩
    | succ g =>
      have hil : i < n := by omega
      have hiz : (i : Int) < (n : Int) := by omega
      obtain ⟨b, off, rfl, hbl, _, _, j0, _⟩ := HZ.out.2.2.2 i hil
      obtain ⟨K, hK⟩ : ∃ K, K = (A.getD i wq0).key := ⟨_, rfl⟩
      have HK := Lib.hid hK
      rw [← hK] at j0
      clear hK hbl
      go_wp2_with fail
      go_loopg [6] n' (fun g2 s6 wx => ∃ (k d2 : Nat), k + g2 = n' ∧ s6 = .int .i64 k ∧ Hid (∀ j, j < k → sameK (A'.getD j wq0).key K = false) ∧ wx = w.drewN d2)
      case atStart => exact ⟨0, d, by omega, rfl, Lib.hid (fun j hj => by omega), rfl⟩
      case round =>
        obtain ⟨k, d2, hkg, rfl, HL2, rfl⟩ := hrel
        cases gk with
        | zero =>
          obtain rfl : k = n' := by omega
          have hno : hasK (A.getD i wq0).key A' = false := by
            rw [← HK.out]
            exact any_none (d := wq0) (fun j hj => HL2.out j (by rw [← hel2.out]; exact hj))
          have HNo := Lib.hid hno
          clear hno
          go_wp2_with fail
          go_roundg g
          case measure => omega
          case rel => exact ⟨i + 1, d2, by omega, by go_num, Lib.hid (fun j hj => by
            rcases Nat.lt_succ_iff_lt_or_eq.1 hj with h | rfl
            · exact HL.out j h
            · exact HNo.out), rfl⟩
        | succ g3 =>
          have hkn : k < n' := by omega
          have hkz : (k : Int) < (n' : Int) := by omega
          obtain ⟨b2, off2, rfl, hbl2, _, _, y0, _⟩ := HZ2.out.2.2.2 k hkn
          obtain ⟨K2, hK2⟩ : ∃ K2, K2 = (A'.getD k wq0).key := ⟨_, rfl⟩
          have HK2 := Lib.hid hK2
          rw [← hK2] at y0
          obtain ⟨B, hB⟩ : ∃ B, (K.toList == K2.toList) = B := ⟨_, rfl⟩
          have HB := Lib.hid hB
          clear hK2 hbl2
          cases B with
          | true =>
            have hyes : shareW A A' = true := any_getD (d := wq0) (i := i) (by rw [hel.out]; exact hil) (by
              rw [← HK.out]
              exact any_getD (d := wq0) (i := k) (by rw [hel2.out]; exact hkn) (by rw [← HK2.out]; exact sameK_sy HB.out))
            have HYes := Lib.hid hyes
            clear hyes
            go_wp2_with fail
            go_quiet (fail)
            revert nq; intro n1
            go_wp2_with fail
            go_ret
            exact ⟨by rw [HYes.out]; rfl, below_drewN (below_drewN (Below.refl _ _) _) _⟩
          | false =>
            go_wp2_with fail
            go_quiet (fail)
            revert nq; intro n1
            go_wp2_with fail
            go_roundg g3
            case measure => omega
            case rel => exact ⟨k + 1, d2 + n1, by omega, by go_num, Lib.hid (fun j hj => by
              rcases Nat.lt_succ_iff_lt_or_eq.1 hj with h | rfl
              · exact HL2.out j h
              · rw [← HK2.out]; exact sameK_sf HB.out), by first | rfl | (simp [World.drewN]; omega)⟩
end Go.Proofs.Ythcomfcbdlobpaa

namespace Go.Proofs.Ythcomfcbdlobpaa
open Go.RowKit Go.Maps
set_option linter.unusedVariables false
set_option linter.unnecessarySimpa false
set_option linter.unusedSimpArgs false
set_option maxRecDepth 100000

theorem tk_laidOut : laidOutB Try.prog = true := by kernel_rfl
theorem tk_row : 36 < Try.prog.types.size := of_decide_eq_true (by kernel_rfl)
theorem tk_type : Try.prog.keyTypeAt 2 36 = true := by kernel_rfl
theorem tk_wide : (match Try.prog.underlying 36 with | some (.array _ _) | some (.struct _) => true | _ => false) = true := by kernel_rfl
theorem tk_law : Keyed Try.prog 36 := Keyed.of_law (deep_law_laid tk_laidOut (m := 2) (by omega) tk_row tk_type tk_wide)
theorem tk_ok : Try.prog.keyType 36 = true := by kernel_rfl
theorem tk_cells : Try.prog.cellsOf 36 = 3 := by kernel_rfl
theorem tk_int : Try.prog.cellsOf 3 = 1 := by kernel_rfl
theorem tk_lits (m : Nat) (x : Int) (h : (Lit.int .i64 x).wf = true) : Try.prog.keyLits (m + 1) 3 [.int .i64 x] = some [.int .i64 x] := by
  unfold Program.keyLits
  rw [Try.underlying3]
  simp [h]
theorem keyOf_txn (t : Tn) (h : t.ok) : ∃ l, keyOf Try.prog 36 (.agg t.cells) = some l := by
  obtain ⟨a, b, c⟩ := t
  obtain ⟨h1, h2, h3⟩ := h
  simp only at h1 h2 h3
  have hf : (Value.agg (Tn.cells ⟨a, b, c⟩)).formed Try.prog 36 = true := by
    unfold Value.formed
    rw [Try.underlying36, tk_cells]
    rfl
  obtain ⟨m, hm⟩ : ∃ m, Try.prog.types.size = m + 1 := ⟨Try.prog.types.size - 1, by have := tk_row; omega⟩
  have hl : Try.prog.keyLits (Try.prog.types.size + 1) 36 (Value.agg (Tn.cells ⟨a, b, c⟩)).cells.toList = some [.int .i64 a, .int .i64 b, .int .i64 c] := by
    rw [hm]
    unfold Program.keyLits
    rw [Try.underlying36]
    simp only [tk_cells, tk_int, Value.cells, Tn.cells]
    first
      | (rw [if_pos (by rfl)]; simp [List.range, List.range.loop, tk_lits, h1, h2, h3])
      | (rw [if_pos (by decide)]; simp [tk_lits, tk_int, h1, h2, h3]; done)
      | (simp [tk_lits, tk_int, h1, h2, h3]; done)
      | (simp [tk_lits, tk_int, h1, h2, h3]; trace_state; fail)
  unfold keyOf
  rw [Try.underlying36]
  simp only [tk_ok, hf, hl, Bool.and_self, if_true, Option.map_some]
  exact ⟨_, rfl⟩
end Go.Proofs.Ythcomfcbdlobpaa
