/-
  What each call of a net comes to, as mathematics: of the program's net and of the document's list at once.
-/
import Derived.Test.YtbhlgceicfjncaaSet11
import Derived.Test.YtbhlgceicfjncaaSet16
namespace Go.Proofs.Ytbhlgceicfjncaa
open Go.RowKit
set_option linter.unusedVariables false
set_option linter.unnecessarySimpa false
set_option linter.unusedSimpArgs false
set_option maxRecDepth 100000

/-- A call: its kind; a message with the words of its slice; from, to; i, a bit; a version. -/
structure Wo where
  kind : Nat
  m : Mg
  sl : Value
  frm : Int
  to_ : Int
  i : Int
  bit : Int
  ver : Int
def wo0 : Wo := ⟨0, mg0, .slice none 0 0, 0, 0, 0, 0, 0⟩
def Wo.cells (o : Wo) : Array Value := #[.int .u8 (o.kind : Int), .int .i64 o.m.kind, .int .i64 o.m.frm, .int .i64 o.m.to_, .int .i64 o.m.node, .int .i64 o.m.life, .int .i64 o.m.seq, .int .u64 o.m.a, .int .u64 o.m.b, .string o.m.key, .bool o.m.found,
    .int .u64 o.m.time, .bool o.m.gone, .string o.m.val, o.sl, .string o.m.note, .int .u64 o.m.hint, .int .u64 o.m.must, .int .i64 o.frm, .int .i64 o.to_, .int .i64 o.i, .int .i64 o.bit, .int .i64 o.ver]
theorem Wo.cells_m (o : Wo) : (o.cells.toList.drop 1).take 17 = (o.m.cells o.sl).toList := rfl
/-- Is there an i-th? -/
def hasW (J : List Wj) (i : Int) : Bool := decide (0 ≤ i ∧ i < (J.length : Int))
theorem hasW_iff {J : List Wj} {i : Int} : hasW J i = true ↔ 0 ≤ i ∧ i < (J.length : Int) := by unfold hasW; rw [decide_eq_true_eq]
theorem hasW_no {J : List Wj} {i : Int} : hasW J i = false ↔ ¬ (0 ≤ i ∧ i < (J.length : Int)) := by unfold hasW; rw [decide_eq_false_iff_not]
def putJ (J : List Wj) (m : Mg) (sl : Value) (frm to_ : Int) : List Wj := if (projB (negB frm to_) m).2 = 0 then J ++ [⟨m, sl, negB frm to_, false, 0⟩] else J
def cutJ (J : List Wj) (i : Int) : List Wj := if hasW J i then J.eraseIdx i.toNat else J
def twiceJ (J : List Wj) (i : Int) : List Wj := if hasW J i then J ++ [J.getD i.toNat wj0] else J
/-- Whether another bit is turned. -/
def Wj.other (x : Wj) (bit : Int) : Bool := x.on && decide ((x.k : Int) ≠ bit % (x.bits : Int))
def flipJ (J : List Wj) (i bit : Int) : List Wj :=
  if hasW J i ∧ 0 ≤ bit ∧ (J.getD i.toNat wj0).other bit = false then J.set i.toNat ((J.getD i.toNat wj0).turn (bit % ((J.getD i.toNat wj0).bits : Int)).toNat) else J
/-- What Take answers. -/
def takeM (J : List Wj) (i ver : Int) : Mg × Bool :=
  if hasW J i ∧ (J.getD i.toNat wj0).on = false then ((projB ver (cut (J.getD i.toNat wj0).v (J.getD i.toNat wj0).m)).1, decide ((projB ver (cut (J.getD i.toNat wj0).v (J.getD i.toNat wj0).m)).2 = 0)) else (mg0, false)
def docJ (J : List Wj) (o : Wo) : List Wj :=
  if o.kind % 5 = 0 then putJ J o.m o.sl o.frm o.to_ else if o.kind % 5 = 1 then cutJ J o.i else if o.kind % 5 = 2 then cutJ J o.i else if o.kind % 5 = 3 then twiceJ J o.i else flipJ J o.i o.bit
def docMk (J : List Wj) (o : Wo) : Mg × Bool := if o.kind % 5 = 1 then takeM J o.i o.ver else (mg0, false)
def docEr (o : Wo) : Int := if o.kind % 5 = 0 then (projB (negB o.frm o.to_) o.m).2 else 0

theorem wcut_fits {m : Mg} (h : m.fits) (v : Int) : (cut v m).fits := by
  obtain ⟨h1, h2, h3, h4, h5, h6, h7, h8, h9, h10, h11⟩ := h
  refine ⟨h1, h2, h3, h4, h5, h6, h7, h8, h9, ?_, h11⟩
  show (if v < 3 then 0 else m.hint) < _
  split
  · decide
  · exact h10
theorem wcut_few {m : Mg} (h : m.few) (v : Int) : (cut v m).few := by
  obtain ⟨h1, h2, h3, h4, h5⟩ := h
  refine ⟨h1, ?_, h3, h4, h5⟩
  show (if v < 2 then ByteArray.empty else m.note).size ≤ 5000
  split
  · decide
  · exact h2
theorem cut_upto {v : Int} (h : v = 1 ∨ v = 2 ∨ v = 3) {m : Mg} (hm : v = 3 ∨ m.must = 0) : cut v m = upto m (lastOfM v) := (upto_cut h (by omega)).symm
theorem cut_right {m : Mg} (h : rightBM m = true) {v : Int} (hv : v = 1 ∨ v = 2 ∨ v = 3) (hm : v = 3 ∨ m.must = 0) : rightBM (cut v m) = true := by
  rw [cut_upto hv hm]; exact upto_right h (last_912 hv)
/-- What has no field above a version's last tag has the same bytes in a later one. -/
theorem cut_bytes {m : Mg} {v u : Int} (hv : v = 1 ∨ v = 2 ∨ v = 3) (hu : u = 1 ∨ u = 2 ∨ u = 3) (hle : v ≤ u) (hm : v = 3 ∨ m.must = 0) : msgB (cut v m) (lastOfM u) = msgB m (lastOfM v) := by
  have hb : ∀ t, t ≤ 9 → fldB (cut v m) t = fldB m t := fun t ht => by
    unfold fldB
    have : fld (cut v m) t = fld m t := by
      match t, ht with
      | 0, _ => rfl
      | 1, _ => rfl
      | 2, _ => rfl
      | 3, _ => rfl
      | 4, _ => rfl
      | 5, _ => rfl
      | 6, _ => rfl
      | 7, _ => rfl
      | 8, _ => rfl
      | 9, _ => rfl
    rw [this]
  have h9 : fldsB (cut v m) 9 = fldsB m 9 := by
    simp only [fldsB]
    simp only [hb 1 (by decide), hb 2 (by decide), hb 3 (by decide), hb 4 (by decide), hb 5 (by decide), hb 6 (by decide), hb 7 (by decide), hb 8 (by decide), hb 9 (by decide)]
  have n10 : v < 2 → fldB (cut v m) 10 = [] := fun h => by
    unfold fldB; rw [fld_10]
    rw [if_pos (by show (if v < 2 then ByteArray.empty else m.note).size = 0; rw [if_pos h]; rfl)]
  have y10 : ¬ v < 2 → fldB (cut v m) 10 = fldB m 10 := fun h => by
    unfold fldB; rw [fld_10, fld_10]
    rw [show (cut v m).note = m.note by show (if v < 2 then ByteArray.empty else m.note) = _; rw [if_neg h]]
  have n11 : v < 3 → fldB (cut v m) 11 = [] := fun h => by
    have : fld (cut v m) 11 = none := by show numF (if v < 3 then 0 else m.hint) = none; rw [if_pos h]; rfl
    unfold fldB; rw [this]
  have n12 : v < 3 → fldB (cut v m) 12 = [] := fun h => by
    have : fld (cut v m) 12 = none := by
      show numF m.must = none
      rcases hm with h2 | h2
      · omega
      · rw [h2]; rfl
    unfold fldB; rw [this]
  have y11 : ¬ v < 3 → fldB (cut v m) 11 = fldB m 11 := fun h => by
    have : fld (cut v m) 11 = fld m 11 := by show numF (if v < 3 then 0 else m.hint) = numF m.hint; rw [if_neg h]
    unfold fldB; rw [this]
  have y12 : fldB (cut v m) 12 = fldB m 12 := rfl
  have e10 : ∀ x, fldsB x 10 = fldsB x 9 ++ fldB x 10 := fun x => rfl
  have e12 : ∀ x, fldsB x 12 = fldsB x 10 ++ fldB x 11 ++ fldB x 12 := fun x => rfl
  have hk : (cut v m).kind = m.kind := rfl
  unfold msgB
  rw [hk]
  congr 1
  rcases hv with rfl | rfl | rfl <;> rcases hu with rfl | rfl | rfl <;> first | omega | skip
  · exact h9
  · show fldsB (cut 1 m) 10 = fldsB m 9
    rw [e10, h9, n10 (by decide), List.append_nil]
  · show fldsB (cut 1 m) 12 = fldsB m 9
    rw [e12, e10, h9, n10 (by decide), n11 (by decide), n12 (by decide), List.append_nil, List.append_nil, List.append_nil]
  · show fldsB (cut 2 m) 10 = fldsB m 10
    rw [e10, e10, h9, y10 (by decide)]
  · show fldsB (cut 2 m) 12 = fldsB m 10
    rw [e12, e10, h9, y10 (by decide), n11 (by decide), n12 (by decide), List.append_nil, List.append_nil, e10]
  · show fldsB (cut 3 m) 12 = fldsB m 12
    rw [e12, e12, e10, e10, h9, y10 (by decide), y11 (by decide), y12]
theorem cut_cut {m : Mg} {u v : Int} (h : u ≤ v) : cut u (cut v m) = cut u m := by
  unfold cut
  simp only
  congr 1
  · by_cases h1 : u < 2
    · rw [if_pos h1, if_pos h1]
    · rw [if_neg h1, if_neg h1, if_neg (by omega)]
  · by_cases h1 : u < 3
    · rw [if_pos h1, if_pos h1]
    · rw [if_neg h1, if_neg h1, if_neg (by omega)]
theorem last_no {v : Int} (h : ¬ (v = 1 ∨ v = 2 ∨ v = 3)) : lastOfM v = 0 := by
  unfold lastOfM
  rw [if_neg (fun e => h (.inl e)), if_neg (fun e => h (.inr (.inl e))), if_neg (fun e => h (.inr (.inr e)))]
theorem proj_right {m : Mg} (h : rightBM m = true) {u : Int} (hu : u = 1 ∨ u = 2 ∨ u = 3) : projB u m = if u < 3 ∧ m.must ≠ 0 then (mg0, 4) else (cut u m, 0) := by
  unfold projB
  rw [if_neg (fun e => e.elim (last_ne hu) (fun e => by rw [h] at e; cases e))]
/-- What is decoded of a frame in whichever version is what the document says. -/
theorem dec_way {m : Mg} (hr : rightBM m = true) (hf : m.fits) (hw : m.few) {v : Int} (hv : v = 1 ∨ v = 2 ∨ v = 3) (hm : v = 3 ∨ m.must = 0) (u : Int) :
    (decB u (msgB m (lastOfM v))).1 = (projB u (cut v m)).1 ∧ (decB u (msgB m (lastOfM v))).2.2 = (projB u (cut v m)).2 := by
  by_cases hu : u = 1 ∨ u = 2 ∨ u = 3
  · have hcr := cut_right hr hv hm
    rw [proj_right hcr hu]
    have hmu : (cut v m).must = m.must := rfl
    rw [hmu]
    by_cases hle : u ≤ v
    · rw [dec_enc hr hf hw hu hv hle hm]
      by_cases hc : u < 3 ∧ m.must ≠ 0
      · rw [if_pos hc, if_pos hc]; exact ⟨rfl, rfl⟩
      · rw [if_neg hc, if_neg hc]; exact ⟨(cut_cut hle).symm, rfl⟩
    · have hb := cut_bytes hv hu (by omega) hm (m := m)
      have hm2 : u = 3 ∨ (cut v m).must = 0 := by
        rcases hm with h | h
        · omega
        · exact .inr h
      rw [← hb, dec_enc hcr (wcut_fits hf v) (wcut_few hw v) hu hu (Int.le_refl _) hm2]
      rw [hmu]
      by_cases hc : u < 3 ∧ m.must ≠ 0
      · rw [if_pos hc, if_pos hc]; exact ⟨rfl, rfl⟩
      · rw [if_neg hc, if_neg hc]; exact ⟨rfl, rfl⟩
  · have h0 := last_no hu
    unfold decB projB
    rw [if_pos h0, if_pos (.inl h0)]
    exact ⟨rfl, rfl⟩
/-- All that is on its way is as it may be. -/
def AllOk (J : List Wj) : Prop := ∀ x ∈ J, x.ok
theorem AllOk.at_ {J : List Wj} (h : AllOk J) {i : Nat} (hi : i < J.length) : (J.getD i wj0).ok := h _ (by rw [List.getD, List.getElem?_eq_getElem hi]; exact List.getElem_mem hi)
theorem neg_123 {a b : Int} (h : lastOfM (negB a b) ≠ 0) : negB a b = 1 ∨ negB a b = 2 ∨ negB a b = 3 := Classical.byContradiction fun e => h (last_no e)
/-- What Put lays on the way is as it may be. -/
theorem proj_zero {v : Int} {m : Mg} (h : (projB v m).2 = 0) : (v = 1 ∨ v = 2 ∨ v = 3) ∧ rightBM m = true ∧ (v = 3 ∨ m.must = 0) := by
  unfold projB at h
  split at h
  · simp at h
  · rename_i hc
    have hv : v = 1 ∨ v = 2 ∨ v = 3 := Classical.byContradiction fun e => hc (.inl (last_no e))
    have hr : rightBM m = true := by
      cases e : rightBM m with
      | true => rfl
      | false => exact absurd (.inr e) hc
    split at h
    · simp at h
    · rename_i h3
      exact ⟨hv, hr, Classical.byContradiction fun e => h3 ⟨by omega, fun e2 => e (.inr e2)⟩⟩
theorem AllOk.put {J : List Wj} (h : AllOk J) {m : Mg} {sl : Value} {a b : Int} (hf : m.fits) (hw : m.few) : AllOk (putJ J m sl a b) := by
  unfold putJ
  split
  · rename_i h0
    obtain ⟨hv, hr, hm⟩ := proj_zero h0
    intro x hx
    rcases List.mem_append.1 hx with hx | hx
    · exact h x hx
    · rw [List.mem_singleton.1 hx]
      exact ⟨hr, hf, hw, hv, hm, (fun e => by cases e), (show (0 : Nat) < 100000 by decide)⟩
  · exact h
theorem AllOk.cut {J : List Wj} (h : AllOk J) (i : Int) : AllOk (cutJ J i) := by
  unfold cutJ
  split
  · exact fun x hx => h x (List.mem_of_mem_eraseIdx hx)
  · exact h
theorem AllOk.twice {J : List Wj} (h : AllOk J) (i : Int) : AllOk (twiceJ J i) := by
  unfold twiceJ
  split
  · rename_i hi
    have := hasW_iff.1 hi
    intro x hx
    rcases List.mem_append.1 hx with hx | hx
    · exact h x hx
    · rw [List.mem_singleton.1 hx]
      exact h.at_ (by omega)
  · exact h
theorem bits_pos (x : Wj) : 0 < (x.bits : Int) := by unfold Wj.bits; omega
theorem AllOk.flip {J : List Wj} (h : AllOk J) (i bit : Int) : AllOk (flipJ J i bit) := by
  unfold flipJ
  split
  · rename_i hc
    have := hasW_iff.1 hc.1
    intro x hx
    rcases List.mem_or_eq_of_mem_set hx with hx | hx
    · exact h x hx
    · rw [hx]
      have hp := bits_pos (J.getD i.toNat wj0)
      have h1 := Int.emod_nonneg bit (show ((J.getD i.toNat wj0).bits : Int) ≠ 0 by omega)
      have h2 := Int.emod_lt_of_pos bit hp
      exact Wj.turn_ok (h.at_ (by omega)) (by omega)
  · exact h
theorem AllOk.doc {J : List Wj} (h : AllOk J) {o : Wo} (hf : o.m.fits) (hw : o.m.few) : AllOk (docJ J o) := by
  unfold docJ
  repeat' split
  · exact h.put hf hw
  · exact h.cut _
  · exact h.cut _
  · exact h.twice _
  · exact h.flip _ _
theorem docJ_len (J : List Wj) (o : Wo) : (docJ J o).length ≤ J.length + 1 := by
  have h1 : ∀ i, (cutJ J i).length ≤ J.length + 1 := fun i => by
    unfold cutJ
    split
    · have := List.length_eraseIdx_le J i.toNat; omega
    · omega
  unfold docJ
  repeat' split
  · unfold putJ; split <;> simp
  · exact h1 _
  · exact h1 _
  · unfold twiceJ; split <;> simp
  · unfold flipJ; split <;> simp
/-- Messages' slices are as they were. -/
theorem docJ_sl {P : Mg → Value → Prop} {J : List Wj} {o : Wo} (h : ∀ x ∈ J, P x.m x.sl) (ho : P o.m o.sl) : ∀ x ∈ docJ J o, P x.m x.sl := by
  have hg : ∀ i : Int, hasW J i = true → P (J.getD i.toNat wj0).m (J.getD i.toNat wj0).sl := fun i hi => by
    have := hasW_iff.1 hi
    exact h _ (by rw [List.getD, List.getElem?_eq_getElem (by omega)]; exact List.getElem_mem _)
  unfold docJ
  repeat' split
  · unfold putJ
    split
    · intro x hx
      rcases List.mem_append.1 hx with hx | hx
      · exact h x hx
      · rw [List.mem_singleton.1 hx]; exact ho
    · exact h
  · unfold cutJ
    split
    · exact fun x hx => h x (List.mem_of_mem_eraseIdx hx)
    · exact h
  · unfold cutJ
    split
    · exact fun x hx => h x (List.mem_of_mem_eraseIdx hx)
    · exact h
  · unfold twiceJ
    split
    · rename_i hi
      intro x hx
      rcases List.mem_append.1 hx with hx | hx
      · exact h x hx
      · rw [List.mem_singleton.1 hx]; exact hg _ hi
    · exact h
  · unfold flipJ
    split
    · rename_i hc
      intro x hx
      rcases List.mem_or_eq_of_mem_set hx with hx | hx
      · exact h x hx
      · rw [hx]; exact hg _ hc.1
    · exact h
end Go.Proofs.Ytbhlgceicfjncaa
