/-
  The program's log: what a cursor makes of a record's head; leading.
-/
import Derived.Test.YtlkifliaaaomeaaLogPSmall
import Derived.Test.YtlkifliaaaomeaaCurFixed
import Derived.Test.YtlkifliaaaomeaaCurBad
namespace Go.Proofs.Ytlkifliaaaomeaa
open Go.RowKit
set_option linter.unusedVariables false
set_option linter.unnecessarySimpa false
set_option linter.unusedSimpArgs false
set_option maxRecDepth 100000

/-! Numbers and their bytes. -/
theorem lq_le_inj : ∀ (a b : List UInt8), a.length = b.length → le a = le b → a = b
  | [], [], _, _ => rfl
  | x :: a, y :: b, hl, h => by
    simp only [le] at h
    have hx := x.toNat_lt
    have hy := y.toNat_lt
    have h1 : x.toNat = y.toNat := by omega
    have h2 : le a = le b := by omega
    rw [UInt8.toNat_inj.1 h1, lq_le_inj a b (by simpa using hl) h2]
theorem lq_le_cells (n size : Nat) : le ((List.range size).map fun j => UInt8.ofNat (n / 256 ^ j)) = n % 256 ^ size := by
  induction size generalizing n with
  | zero => simp [le, Nat.mod_one]
  | succ k ih =>
    rw [List.range_succ_eq_map, List.map_cons, List.map_map]
    have e : ((fun j => UInt8.ofNat (n / 256 ^ j)) ∘ Nat.succ) = fun j => UInt8.ofNat (n / 256 / 256 ^ j) := by
      funext j; simp only [Function.comp]; rw [Nat.pow_succ', Nat.div_div_eq_div_mul]
    rw [e]
    simp only [le]
    rw [ih (n / 256), Nat.pow_succ', Nat.mod_mul]
    simp only [UInt8.toNat_ofNat', Nat.pow_zero, Nat.div_one]
theorem lq_valB_fx (n size : Nat) : valB (fx n size true) true = n % 256 ^ size := by
  rw [← lq_le_cells]
  unfold valB fx cellsF fxAt pl
  simp only [if_true]
  congr 1
  apply List.ext_getElem
  · simp
  · intro j h1 h2
    simp at h1
    rw [List.getElem_reverse]
    simp only [List.getElem_map, List.getElem_range, List.length_map, List.length_range]
    congr 3
    omega
theorem lq_valB_lt (t : List UInt8) : valB t true < 256 ^ t.length := by
  have := le_lt t.reverse
  rw [List.length_reverse] at this
  exact this
theorem lq_fx_valB (t : List UInt8) : fx (valB t true) t.length true = t := by
  have h1 := lq_valB_fx (valB t true) t.length
  rw [Nat.mod_eq_of_lt (lq_valB_lt t)] at h1
  have h2 : (fx (valB t true) t.length true).reverse = t.reverse := lq_le_inj _ _ (by rw [List.length_reverse, List.length_reverse, lfx_length]) h1
  exact List.reverse_inj.1 h2
theorem lq_cBytes_yes {X : ByteArray} {n : Nat} (h : n ≤ X.size) : cBytes X false n = (⟨(X.data.toList.take n).toArray⟩, ⟨(X.data.toList.drop n).toArray⟩, false) := by
  unfold cBytes
  rw [if_neg (by simp; omega), Int.toNat_natCast]
  refine Prod.ext ?_ (Prod.ext ?_ rfl)
  · apply ba_eq; rw [Lib.extract_data]; simp
  · apply ba_eq; rw [Lib.extract_data]
    show (X.data.toList.drop n).take (X.size - n) = X.data.toList.drop n
    exact List.take_of_length_le (by rw [List.length_drop, ← Lib.size_eq]; exact Nat.le_refl _)
theorem lq_cBytes_no {X : ByteArray} {n : Nat} (h : X.size < n) : cBytes X false n = (ByteArray.empty, X, true) := by
  unfold cBytes; rw [if_pos (by right; right; omega)]
theorem lq_cBytes_bad (X : ByteArray) (n : Int) : cBytes X true n = (ByteArray.empty, X, true) := by
  unfold cBytes; rw [if_pos (.inl rfl)]
theorem lq_cFixed (X : ByteArray) (bad : Bool) (size : Nat) (h1 : 1 ≤ size) (h8 : size ≤ 8) : cFixed X bad size true = (valB (cBytes X bad size).1.data.toList true, (cBytes X bad size).2.1, (cBytes X bad size).2.2) := by
  unfold cFixed; rw [if_neg (by omega)]

/-- What is taken of the head. -/
structure Head (X : ByteArray) (n s : Nat) (rec : ByteArray) (bad : Bool) (X1 X2 X3 : ByteArray) (b1 b2 : Bool) : Prop where
  f1 : cFixed X false 2 true = (n, X1, b1)
  f2 : cFixed X1 b1 4 true = (s, X2, b2)
  f3 : cBytes X2 b2 (n : Int) = (rec, X3, bad)
  n_lt : n < 65536
  s_lt : s < 4294967296
  s1 : X1.size ≤ X.size
  s2 : X2.size ≤ X.size
  s3 : rec.size ≤ X.size
  yes : bad = false → 1 ≤ n → n ≤ 4000 → s = lsum rec → nextR X.data.toList = some rec.data.toList
  no : (bad = true ∨ n < 1 ∨ 4000 < n ∨ s ≠ lsum rec) → nextR X.data.toList = none

theorem head_of (X : ByteArray) : ∃ n s rec bad X1 X2 X3 b1 b2, Head X n s rec bad X1 X2 X3 b1 b2 := by
  have hl : X.data.toList.length = X.size := (Lib.size_eq X).symm
  rcases Nat.lt_or_ge X.size 2 with h2 | h2
  · have e1 : cFixed X false 2 true = (0, X, true) := by
      have := lq_cFixed X false 2 (by omega) (by omega)
      rw [lq_cBytes_no h2] at this
      rw [show ((2 : Nat) : Int) = 2 from rfl] at this
      rw [this]; rfl
    have e2 : cFixed X true 4 true = (0, X, true) := by
      have := lq_cFixed X true 4 (by omega) (by omega)
      rw [lq_cBytes_bad] at this
      rw [show ((4 : Nat) : Int) = 4 from rfl] at this
      rw [this]; rfl
    exact ⟨0, 0, ByteArray.empty, true, X, X, X, true, true, ⟨e1, e2, lq_cBytes_bad _ _, by omega, by omega, Nat.le_refl _, Nat.le_refl _, by simp, (fun h => by cases h), fun _ => by unfold nextR; rw [if_pos (by omega)]⟩⟩
  have e1 : cFixed X false 2 true = (valB (X.data.toList.take 2) true, ⟨(X.data.toList.drop 2).toArray⟩, false) := by
    have := lq_cFixed X false 2 (by omega) (by omega)
    rw [lq_cBytes_yes h2] at this
    rw [show ((2 : Nat) : Int) = 2 from rfl] at this
    exact this
  have t2 : (X.data.toList.take 2).length = 2 := by rw [List.length_take]; omega
  have hn := lq_valB_lt (X.data.toList.take 2)
  rw [t2] at hn
  have hX1 : (⟨(X.data.toList.drop 2).toArray⟩ : ByteArray).size = X.size - 2 := by rw [ba_of, List.length_drop, hl]
  rcases Nat.lt_or_ge X.size 6 with h6 | h6
  · have e2 : cFixed ⟨(X.data.toList.drop 2).toArray⟩ false 4 true = (0, ⟨(X.data.toList.drop 2).toArray⟩, true) := by
      have := lq_cFixed ⟨(X.data.toList.drop 2).toArray⟩ false 4 (by omega) (by omega)
      rw [lq_cBytes_no (by rw [hX1]; omega)] at this
      rw [show ((4 : Nat) : Int) = 4 from rfl] at this
      rw [this]; rfl
    exact ⟨_, 0, ByteArray.empty, true, _, _, _, false, true, ⟨e1, e2, lq_cBytes_bad _ _, by simpa using hn, by omega, by rw [hX1]; omega, by rw [hX1]; omega, by simp, (fun h => by cases h), fun _ => by unfold nextR; rw [if_pos (by omega)]⟩⟩
  have e2 : cFixed ⟨(X.data.toList.drop 2).toArray⟩ false 4 true = (valB ((X.data.toList.drop 2).take 4) true, ⟨(X.data.toList.drop 6).toArray⟩, false) := by
    have := lq_cFixed ⟨(X.data.toList.drop 2).toArray⟩ false 4 (by omega) (by omega)
    rw [lq_cBytes_yes (by rw [hX1]; omega)] at this
    rw [show ((4 : Nat) : Int) = 4 from rfl] at this
    rw [this]
    simp only [List.drop_drop]
  have t4 : ((X.data.toList.drop 2).take 4).length = 4 := by rw [List.length_take, List.length_drop]; omega
  have hs := lq_valB_lt ((X.data.toList.drop 2).take 4)
  rw [t4] at hs
  have hX2 : (⟨(X.data.toList.drop 6).toArray⟩ : ByteArray).size = X.size - 6 := by rw [ba_of, List.length_drop, hl]
  have hsay : sayN X.data.toList = valB (X.data.toList.take 2) true := by
    match hX : X.data.toList, hl with
    | a :: b :: r, _ =>
      unfold sayN valB
      simp only [if_true, List.take_succ_cons, List.take_zero, List.reverse_cons, List.reverse_nil, List.nil_append, List.cons_append, le, List.getD_cons_zero, List.getD_cons_succ]
      omega
    | [a], hl => rw [hX] at t2; simp at t2
    | [], hl => rw [hX] at t2; simp at t2
  obtain ⟨n, hnn⟩ : ∃ n, n = valB (X.data.toList.take 2) true := ⟨_, rfl⟩
  obtain ⟨s, hss⟩ : ∃ s, s = valB ((X.data.toList.drop 2).take 4) true := ⟨_, rfl⟩
  rw [← hnn] at e1 hn hsay
  rw [← hss] at e2 hs
  rcases Nat.lt_or_ge (X.size - 6) n with h7 | h7
  · refine ⟨n, s, ByteArray.empty, true, _, _, _, false, false, ⟨e1, e2, lq_cBytes_no (by rw [hX2]; exact h7), by simpa using hn, by simpa using hs, by rw [hX1]; omega, by rw [hX2]; omega, by simp, (fun h => by cases h), fun _ => ?_⟩⟩
    unfold nextR
    by_cases h8 : X.data.toList.length ≤ 6
    · rw [if_pos h8]
    · rw [if_neg h8, if_pos (by rw [hsay]; omega)]
  · obtain ⟨r, hr⟩ : ∃ r, r = (X.data.toList.drop 6).take n := ⟨_, rfl⟩
    have hrl : r.length = n := by rw [hr, List.length_take, List.length_drop]; omega
    have hR : lsum ⟨r.toArray⟩ = sumB (fx n 2 true ++ r) := by unfold lsum; rw [ba_of, hrl]
    have hf2 : fx n 2 true = X.data.toList.take 2 := by have := lq_fx_valB (X.data.toList.take 2); rwa [t2, ← hnn] at this
    have hf4 : fx s 4 true = (X.data.toList.drop 2).take 4 := by have := lq_fx_valB ((X.data.toList.drop 2).take 4); rwa [t4, ← hss] at this
    have hcut : X.data.toList.take (6 + n) = (X.data.toList.take 2 ++ (X.data.toList.drop 2).take 4) ++ r := by
      rw [hr, show 6 + n = 2 + (4 + n) by omega, List.take_add, List.take_add, List.append_assoc, List.drop_drop]
    have hrec : recB r = X.data.toList.take (6 + n) ↔ s = lsum ⟨r.toArray⟩ := by
      rw [hR, hcut, ← hf2, ← hf4]
      unfold recB
      rw [hrl]
      constructor
      · intro h
        have h2 := List.append_cancel_left (List.append_cancel_right h)
        have h3 := congrArg (fun t => valB t true) h2
        simp only [lq_valB_fx] at h3
        have := sumB_lt (fx n 2 true ++ r)
        rw [Nat.mod_eq_of_lt (by simpa using this), Nat.mod_eq_of_lt (by simpa using hs)] at h3
        exact h3.symm
      · intro h; rw [h]
    refine ⟨n, s, ⟨r.toArray⟩, false, _, _, ⟨(((X.data.toList.drop 6).drop n)).toArray⟩, false, false, ⟨e1, e2, by rw [lq_cBytes_yes (by rw [hX2]; exact h7), hr], by simpa using hn, by simpa using hs, by rw [hX1]; omega, by rw [hX2]; omega, by rw [ba_of, hrl]; omega, ?_, ?_⟩⟩
    · intro _ h1 h2 h3
      unfold nextR
      rw [if_neg (by omega), if_neg (by rw [hsay]; omega), hsay, ← hr, if_pos (hrec.2 h3)]
    · intro h
      unfold nextR
      by_cases h8 : X.data.toList.length ≤ 6
      · rw [if_pos h8]
      rw [if_neg h8]
      by_cases h9 : n < 1 ∨ 4000 < n
      · rw [if_pos (by rw [hsay]; omega)]
      · rw [if_neg (by rw [hsay]; omega), hsay, ← hr, if_neg]
        intro h10
        rcases h with h | h | h | h
        · cases h
        · omega
        · omega
        · exact h (hrec.1 h10)

/-- A whole struct or array is loaded, guarded or not. -/
theorem lq_load_row {P : Program} {ops : Array Oper} {rest : List Oper} {o : Oper} {a : Act} {w : World} {Q : Exit → Act → World → Prop} (hw : Region.wanted o (yielded ops a.tmps) = true) (ty : TypeId) (x : Operand) (ho : o.op = .load ty x)
    (g : Nat) (hx : a.eval x = .pointer (some ⟨g, 0, none⟩)) (t : TypeId) (cs : Array Value) (fr : Nat × Nat) (d : TypeDesc) (hg : w.heap[g]? = some (.cells cs t fr))
    (hu : P.underlying ty = some d) (hd : (match d with | .struct _ | .array _ _ => true | _ => false) = true) (hi : (P.info? ty).map (·.size) = some cs.size)
    (h : wpList P ops Q rest (a.put o.dst (.agg cs)) w) : wpList P ops Q (o :: rest) a w := by
  unfold wpList
  rw [if_pos hw]
  exact .inl (wp_load_row ty x ho g hx t cs fr d hg hu hd hi h)

/-- What leading tells. -/
def leadV (o : Option (List UInt8)) : Value := match o with
  | none => .tuple #[.string ⟨#[]⟩, .bool false]
  | some r => .tuple #[.string ⟨r.toArray⟩, .bool true]
set_option maxHeartbeats 4000000 in
theorem lp_leading (X : ByteArray) (hX : X.size ≤ 1000000) (w : World) :
    Calls Try.prog 34 #[.agg tab, .string X] w fun e w' => e = .returned (leadV (nextR X.data.toList)) ∧ Below w.heap.size w w' := by
  obtain ⟨n, s, rec, bad, X1, X2, X3, b1, b2, h⟩ := head_of X
  have hk1 := Lib.hid (fun (g : Nat) (w : World) (hc : CurAt w g X false) => cur_fixed g X false 2 true w (by unfold maxLen; omega) hc)
  have hk2 := Lib.hid (fun (g : Nat) (w : World) (hc : CurAt w g X1 b1) => cur_fixed g X1 b1 4 true w (by have := h.s1; unfold maxLen; omega) hc)
  have hk3 := Lib.hid (fun (g : Nat) (w : World) (hc : CurAt w g X2 b2) => cur_bytes g X2 b2 n w (by have := h.s2; unfold maxLen; omega) hc)
  rw [h.f1] at hk1
  rw [h.f2] at hk2
  rw [h.f3] at hk3
  have HSum := Lib.hid (lp_sumOf rec (by have := h.s3; omega))
  have hS := lsum_lt rec
  have hn := h.n_lt
  have hs := h.s_lt
  have hy := h.yes
  have hno := h.no
  obtain ⟨S, hSS⟩ : ∃ S, S = lsum rec := ⟨_, rfl⟩
  rw [← hSS] at HSum hS hy hno
  have hrow := Lib.hid (heap_alloc_last w (.cells tab 29))
  have his := Lib.hid (show (Try.prog.info? 29).map (·.size) = some tab.size by rw [tab_size]; exact (zero_of_info (P := Try.prog) tableInfo).2)
  have hb0 := Lib.hid ((Below.refl w.heap.size w).alloc (Nat.le_refl _) (.cells tab 29))
  have hz : (s : Int) % 4294967296 = s := by omega
  have hzS : (S : Int) < 4294967296 := by omega
  have hzn : (n : Int) < 65536 := by omega
  have hsz : (s : Int) < 4294967296 := by omega
  have hw : IntKind.i64.wrap (n : Int) = n := IntWalk.i64_in _ (by omega)
  clear h hSS hX
  cases bad with
  | true =>
    have hr := Lib.hid (hno (.inl rfl))
    clear hy hno
    go_enter Try.func34, Try.ntmps34
    go_wp2_with (first
      | (go_at_call 50; refine (new_any _ _).mono ?_; rintro e w1 ⟨rfl, hc1, hb1⟩; have hc1 := Lib.hid (show CurAt w1 (w.heap.size + 1) X false by simpa using hc1); have hb1 := Lib.hid hb1)
      | (go_at_call 51; (with_reducible refine (hk1.out _ _ hc1.out).mono ?_); rintro e w2 ⟨rfl, hc2, hg2⟩; have hc2 := Lib.hid hc2; have hg2 := Lib.hid hg2)
      | (go_at_call 51; (with_reducible refine (hk2.out _ _ hc2.out).mono ?_); rintro e w3 ⟨rfl, hc3, hg3⟩; have hc3 := Lib.hid hc3; have hg3 := Lib.hid hg3)
      | (go_at_call 52; (with_reducible refine (hk3.out _ _ hc3.out).mono ?_); rintro e w4 ⟨rfl, hc4, hg4⟩; have hc4 := Lib.hid hc4; have hg4 := Lib.hid hg4)
      | (go_at_call 53; refine (bad_any _ _ _ _ hc4.out).mono ?_; rintro e w5 ⟨rfl, rfl⟩))
    go_ret2
    rw [hr.out]
    exact ⟨rfl, below_grown (hb0.out.trans (hb1.out.mono (by simp))) (grownBy_trans (grownBy_trans hg2.out hg3.out) hg4.out) (by simp)⟩
  | false =>
    by_cases hl : 1 ≤ n ∧ n ≤ 4000
    · have HY := Lib.hid (lp_len_yes n hl.1 hl.2)
      by_cases he : s = S
      · have hr := Lib.hid (hy rfl hl.1 hl.2 he)
        have hne : ((s : Int) != (S : Int)) = false := by rw [bne_eq_false_iff_eq]; omega
        clear hy hno he hl
        go_enter Try.func34, Try.ntmps34
        go_wp2_with (first
          | (go_at_call 50; refine (new_any _ _).mono ?_; rintro e w1 ⟨rfl, hc1, hb1⟩; have hc1 := Lib.hid (show CurAt w1 (w.heap.size + 1) X false by simpa using hc1); have hb1 := Lib.hid hb1; have hr1 := Lib.hid ((hb1.out.block w.heap.size (by simp)).trans hrow.out); have hs1 := hc1.out.lt)
          | (go_at_call 51; (with_reducible refine (hk1.out _ _ hc1.out).mono ?_); rintro e w2 ⟨rfl, hc2, hg2⟩; have hc2 := Lib.hid hc2; have hg2 := Lib.hid hg2)
          | (go_at_call 51; (with_reducible refine (hk2.out _ _ hc2.out).mono ?_); rintro e w3 ⟨rfl, hc3, hg3⟩; have hc3 := Lib.hid hc3; have hg3 := Lib.hid hg3)
          | (go_at_call 52; (with_reducible refine (hk3.out _ _ hc3.out).mono ?_); rintro e w4 ⟨rfl, hc4, hg4⟩; have hc4 := Lib.hid hc4; have hg4 := Lib.hid (grownBy_trans (grownBy_trans hg2.out hg3.out) hg4); have hr4 := Lib.hid ((hg4.out.block w.heap.size (by omega) (by simp)).trans hr1.out))
          | (go_at_call 53; refine (bad_any _ _ _ _ hc4.out).mono ?_; rintro e w5 ⟨rfl, rfl⟩)
          | (go_at_call 26; refine (HY.out _).mono ?_; rintro e w6 ⟨rfl, rfl⟩)
          | (refine lq_load_row rfl 29 _ rfl w.heap.size rfl 29 tab (0, 0) _ hr4.out Try.underlying29 rfl his.out ?_; dsimp only [Act.put])
          | (go_at_call 48; refine (HSum.out _).mono ?_; rintro e w7 ⟨rfl, hb7⟩))
        go_ret2
        rw [hr.out]
        have k1 : Below w.heap.size w w4 := below_grown (hb0.out.trans (hb1.out.mono (by simp))) hg4.out (by simp)
        exact ⟨rfl, k1.trans (hb7.mono k1.size)⟩
      · have hr := Lib.hid (hno (.inr (.inr (.inr he))))
        have hne : ((s : Int) != (S : Int)) = true := by rw [bne_iff_ne]; omega
        clear hy hno he hl
        go_enter Try.func34, Try.ntmps34
        go_wp2_with (first
          | (go_at_call 50; refine (new_any _ _).mono ?_; rintro e w1 ⟨rfl, hc1, hb1⟩; have hc1 := Lib.hid (show CurAt w1 (w.heap.size + 1) X false by simpa using hc1); have hb1 := Lib.hid hb1; have hr1 := Lib.hid ((hb1.out.block w.heap.size (by simp)).trans hrow.out); have hs1 := hc1.out.lt)
          | (go_at_call 51; (with_reducible refine (hk1.out _ _ hc1.out).mono ?_); rintro e w2 ⟨rfl, hc2, hg2⟩; have hc2 := Lib.hid hc2; have hg2 := Lib.hid hg2)
          | (go_at_call 51; (with_reducible refine (hk2.out _ _ hc2.out).mono ?_); rintro e w3 ⟨rfl, hc3, hg3⟩; have hc3 := Lib.hid hc3; have hg3 := Lib.hid hg3)
          | (go_at_call 52; (with_reducible refine (hk3.out _ _ hc3.out).mono ?_); rintro e w4 ⟨rfl, hc4, hg4⟩; have hc4 := Lib.hid hc4; have hg4 := Lib.hid (grownBy_trans (grownBy_trans hg2.out hg3.out) hg4); have hr4 := Lib.hid ((hg4.out.block w.heap.size (by omega) (by simp)).trans hr1.out))
          | (go_at_call 53; refine (bad_any _ _ _ _ hc4.out).mono ?_; rintro e w5 ⟨rfl, rfl⟩)
          | (go_at_call 26; refine (HY.out _).mono ?_; rintro e w6 ⟨rfl, rfl⟩)
          | (refine lq_load_row rfl 29 _ rfl w.heap.size rfl 29 tab (0, 0) _ hr4.out Try.underlying29 rfl his.out ?_; dsimp only [Act.put])
          | (go_at_call 48; refine (HSum.out _).mono ?_; rintro e w7 ⟨rfl, hb7⟩))
        go_ret2
        rw [hr.out]
        have k1 : Below w.heap.size w w4 := below_grown (hb0.out.trans (hb1.out.mono (by simp))) hg4.out (by simp)
        exact ⟨rfl, k1.trans (hb7.mono k1.size)⟩
    · have HN := Lib.hid (lp_len_no n (by omega))
      have hr := Lib.hid (hno (by omega))
      clear hy hno hl
      go_enter Try.func34, Try.ntmps34
      go_wp2_with (first
        | (go_at_call 50; refine (new_any _ _).mono ?_; rintro e w1 ⟨rfl, hc1, hb1⟩; have hc1 := Lib.hid (show CurAt w1 (w.heap.size + 1) X false by simpa using hc1); have hb1 := Lib.hid hb1)
        | (go_at_call 51; (with_reducible refine (hk1.out _ _ hc1.out).mono ?_); rintro e w2 ⟨rfl, hc2, hg2⟩; have hc2 := Lib.hid hc2; have hg2 := Lib.hid hg2)
        | (go_at_call 51; (with_reducible refine (hk2.out _ _ hc2.out).mono ?_); rintro e w3 ⟨rfl, hc3, hg3⟩; have hc3 := Lib.hid hc3; have hg3 := Lib.hid hg3)
        | (go_at_call 52; (with_reducible refine (hk3.out _ _ hc3.out).mono ?_); rintro e w4 ⟨rfl, hc4, hg4⟩; have hc4 := Lib.hid hc4; have hg4 := Lib.hid hg4)
        | (go_at_call 53; refine (bad_any _ _ _ _ hc4.out).mono ?_; rintro e w5 ⟨rfl, rfl⟩)
        | (go_at_call 26; refine (HN.out _).mono ?_; rintro e w6 ⟨rfl, rfl⟩))
      go_ret2
      rw [hr.out]
      exact ⟨rfl, below_grown (hb0.out.trans (hb1.out.mono (by simp))) (grownBy_trans (grownBy_trans hg2.out hg3.out) hg4.out) (by simp)⟩
end Go.Proofs.Ytlkifliaaaomeaa
