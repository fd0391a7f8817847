/-
  The walk of the program's fieldsOf: one region of ninety operations that draws its order, by what each operation leaves.
-/
import Derived.Test.YtkcbbcabfbkclaaMsgDeleteB
import Derived.Test.YtkcbbcabfbkclaaRegion
namespace Go.Proofs.Ytkcbbcabfbkclaa
open Go.RowKit
set_option linter.unusedVariables false
set_option linter.unnecessarySimpa false
set_option linter.unusedSimpArgs false
set_option maxRecDepth 100000

/-! ### Whether a field isn't zero, as the program tells it -/
theorem isT_num {n : Int} (h : 0 ≤ n) : (n != 0) = (numF n.toNat).isSome := by
  rw [numF_is, Bool.eq_iff_iff, bne_iff_ne, decide_eq_true_eq]
  omega
theorem isT_nat (n : Nat) : ((n : Int) != 0) = (numF n).isSome := by
  rw [numF_is, Bool.eq_iff_iff, bne_iff_ne, decide_eq_true_eq]
  omega
theorem toList_empty (s : ByteArray) : s.toList.isEmpty = decide (s.size = 0) := by
  rw [Bool.eq_iff_iff, List.isEmpty_iff, decide_eq_true_eq, Lib.toList_data, Lib.size_eq, List.length_eq_zero_iff]
theorem isT_3 (m : Mg) : (!(m.node == 0 && m.life == 0 && m.seq == 0)) = isT m 3 := by
  unfold isT
  rw [fld_3]
  unfold txnZero
  cases m.node == 0 && m.life == 0 && m.seq == 0 <;> rfl
theorem isT_6 (m : Mg) : (!m.key.toList.isEmpty) = isT m 6 := by
  unfold isT
  rw [fld_6, toList_empty]
  by_cases h : m.key.size = 0 <;> simp [h]
theorem isT_7 (m : Mg) : m.found = isT m 7 := by
  unfold isT
  rw [fld_7]
  cases m.found <;> rfl
theorem isT_8 (m : Mg) : (!verZero m) = isT m 8 := by
  unfold isT
  rw [fld_8]
  cases verZero m <;> rfl
theorem isT_9 (m : Mg) : decide (0 < m.ws.length) = isT m 9 := by
  unfold isT
  rw [fld_9]
  by_cases h : m.ws.length = 0
  · rw [if_pos h, h]; rfl
  · rw [if_neg h, decide_eq_true (by omega)]; rfl
theorem isT_10 (m : Mg) : (!m.note.toList.isEmpty) = isT m 10 := by
  unfold isT
  rw [fld_10, toList_empty]
  by_cases h : m.note.size = 0 <;> simp [h]
theorem txn_if (a b c : Int) (w : World) : (if a = 0 then (if b = 0 then (if c = 0 then Result.ok (Next.value (Value.bool false)) w else Result.ok (Next.value (Value.bool true)) w) else Result.ok (Next.value (Value.bool true)) w) else Result.ok (Next.value (Value.bool true)) w)
    = Result.ok (Next.value (Value.bool (!(a == 0 && b == 0 && c == 0)))) w := by
  by_cases h1 : a = 0 <;> by_cases h2 : b = 0 <;> by_cases h3 : c = 0 <;> simp [h1, h2, h3]
theorem ver_if (m : Mg) (w : World) : (if m.time = 0 then (if m.gone = true then Result.ok (Next.value (Value.bool true)) w else (if m.val.toList = [] then Result.ok (Next.value (Value.bool false)) w else Result.ok (Next.value (Value.bool true)) w)) else Result.ok (Next.value (Value.bool true)) w)
    = Result.ok (Next.value (Value.bool (!verZero m))) w := by
  have he : m.val.toList = [] ↔ m.val.size = 0 := by rw [Lib.toList_data, Lib.size_eq, List.length_eq_zero_iff]
  unfold verZero
  by_cases h1 : m.time = 0 <;> by_cases h2 : m.gone = true <;> by_cases h3 : m.val.size = 0 <;> simp [h1, h2, h3, he]

/-! ### New slices of numbers -/
theorem ints_new (w : World) (ns : List Nat) (c : Nat) (cs : Array Value) (hc : cs = (ns.map fun (n : Nat) => Value.int .i64 (n : Int)).toArray) : IntsAt (w.alloc (.cells cs 3)) (.slice (some ⟨w.heap.size, 0, none⟩) ns.length c) ns := by
  refine ⟨w.heap.size, c, rfl, by simp, fun i hi => ?_⟩
  have hr := heap_alloc_new w (.cells cs 3)
  simp only [World.cell?, hr]
  rw [hc]
  simp [List.getD, List.getElem?_eq_getElem hi]
theorem ints_one {n : Int} (h : 0 ≤ n) (w : World) : IntsAt (w.alloc (.cells #[.int .i64 n] 3)) (.slice (some ⟨w.heap.size, 0, none⟩) 1 1) [n.toNat] :=
  ints_new w [n.toNat] 1 _ (by simp [Int.toNat_of_nonneg h])
theorem ints_three {a b c : Int} (h1 : 0 ≤ a) (h2 : 0 ≤ b) (h3 : 0 ≤ c) (w : World) : IntsAt (w.alloc (.cells #[.int .i64 a, .int .i64 b, .int .i64 c] 3)) (.slice (some ⟨w.heap.size, 0, none⟩) 3 3) [a.toNat, b.toNat, c.toNat] :=
  ints_new w [a.toNat, b.toNat, c.toNat] 3 _ (by simp [Int.toNat_of_nonneg h1, Int.toNat_of_nonneg h2, Int.toNat_of_nonneg h3])
theorem numbers_one (n : Nat) (hn : n ≤ 2147483647) (v : Value) (w : World) (hv : IntsAt w v [n]) : Calls Try.prog 54 #[v] w fun e w' => e = .returned (.string ⟨(ub n).toArray⟩) ∧ Below w.heap.size w w' := by
  have := numbers_any [n] (by simpa using hn) (by simp) v w hv
  simpa using this
theorem numbers_three (a b c : Nat) (h1 : a ≤ 2147483647) (h2 : b ≤ 2147483647) (h3 : c ≤ 2147483647) (v : Value) (w : World) (hv : IntsAt w v [a, b, c]) :
    Calls Try.prog 54 #[v] w fun e w' => e = .returned (.string ⟨(ub a ++ ub b ++ ub c).toArray⟩) ∧ Below w.heap.size w w' := by
  have := numbers_any [a, b, c] (by simpa using ⟨h1, h2, h3⟩) (by simp) v w hv
  simpa [List.append_assoc] using this

/-- What each slot holds. -/
def psi (m : Mg) (sl : Value) (G B : Nat) : Nat → Value → World → Prop
  | 1 => fun v _ => v = .pointer (some ⟨G, 0, none⟩)
  | 4 => fun v _ => v = .pointer (some ⟨G, 1, none⟩)
  | 5 => fun v _ => v = .int .i64 m.frm
  | 6 => fun v _ => v = .bool (isT m 1)
  | 7 => fun v _ => v = .pointer (some ⟨G, 1, none⟩)
  | 8 => fun v _ => v = .int .i64 m.frm
  | 9 => fun v w => IntsAt w v [m.frm.toNat]
  | 10 => fun v _ => v = .string ⟨(txt m 1).toArray⟩
  | 11 => fun v _ => v = .agg #[.int .u64 1, .bool (isT m 1), .string ⟨(txt m 1).toArray⟩]
  | 12 => fun v _ => v = .pointer (some ⟨G, 2, none⟩)
  | 13 => fun v _ => v = .int .i64 m.to_
  | 14 => fun v _ => v = .bool (isT m 2)
  | 15 => fun v _ => v = .pointer (some ⟨G, 2, none⟩)
  | 16 => fun v _ => v = .int .i64 m.to_
  | 17 => fun v w => IntsAt w v [m.to_.toNat]
  | 18 => fun v _ => v = .string ⟨(txt m 2).toArray⟩
  | 19 => fun v _ => v = .agg #[.int .u64 2, .bool (isT m 2), .string ⟨(txt m 2).toArray⟩]
  | 20 => fun v _ => v = .pointer (some ⟨G, 3, none⟩)
  | 21 => fun v _ => v = .agg #[.int .i64 m.node, .int .i64 m.life, .int .i64 m.seq]
  | 22 => fun v _ => v = .agg #[.int .i64 0, .int .i64 0, .int .i64 0]
  | 23 => fun v _ => v = .bool (isT m 3)
  | 24 => fun v _ => v = .pointer (some ⟨G, 3, none⟩)
  | 25 => fun v _ => v = .pointer (some ⟨G, 3, none⟩)
  | 26 => fun v _ => v = .int .i64 m.node
  | 27 => fun v _ => v = .pointer (some ⟨G, 3, none⟩)
  | 28 => fun v _ => v = .pointer (some ⟨G, 4, none⟩)
  | 29 => fun v _ => v = .int .i64 m.life
  | 30 => fun v _ => v = .pointer (some ⟨G, 3, none⟩)
  | 31 => fun v _ => v = .pointer (some ⟨G, 5, none⟩)
  | 32 => fun v _ => v = .int .i64 m.seq
  | 33 => fun v w => IntsAt w v [m.node.toNat, m.life.toNat, m.seq.toNat]
  | 34 => fun v _ => v = .string ⟨(txt m 3).toArray⟩
  | 35 => fun v _ => v = .agg #[.int .u64 3, .bool (isT m 3), .string ⟨(txt m 3).toArray⟩]
  | 36 => fun v _ => v = .pointer (some ⟨G, 6, none⟩)
  | 37 => fun v _ => v = .int .u64 m.a
  | 38 => fun v _ => v = .bool (isT m 4)
  | 39 => fun v _ => v = .pointer (some ⟨G, 6, none⟩)
  | 40 => fun v _ => v = .int .u64 m.a
  | 41 => fun v _ => v = .string ⟨(txt m 4).toArray⟩
  | 42 => fun v _ => v = .agg #[.int .u64 4, .bool (isT m 4), .string ⟨(txt m 4).toArray⟩]
  | 43 => fun v _ => v = .pointer (some ⟨G, 7, none⟩)
  | 44 => fun v _ => v = .int .u64 m.b
  | 45 => fun v _ => v = .bool (isT m 5)
  | 46 => fun v _ => v = .pointer (some ⟨G, 7, none⟩)
  | 47 => fun v _ => v = .int .u64 m.b
  | 48 => fun v _ => v = .string ⟨(txt m 5).toArray⟩
  | 49 => fun v _ => v = .agg #[.int .u64 5, .bool (isT m 5), .string ⟨(txt m 5).toArray⟩]
  | 50 => fun v _ => v = .pointer (some ⟨G, 8, none⟩)
  | 51 => fun v _ => v = .string m.key
  | 52 => fun v _ => v = .bool (isT m 6)
  | 53 => fun v _ => v = .pointer (some ⟨G, 8, none⟩)
  | 54 => fun v _ => v = .string m.key
  | 55 => fun v _ => v = .agg #[.int .u64 6, .bool (isT m 6), .string ⟨(txt m 6).toArray⟩]
  | 56 => fun v _ => v = .pointer (some ⟨G, 9, none⟩)
  | 57 => fun v _ => v = .bool m.found
  | 58 => fun v _ => v = .agg #[.int .u64 7, .bool (isT m 7), .string ⟨(txt m 7).toArray⟩]
  | 59 => fun v _ => v = .pointer (some ⟨G, 10, none⟩)
  | 60 => fun v _ => v = .agg #[.int .u64 m.time, .bool m.gone, .string m.val]
  | 61 => fun v _ => v = .agg #[.int .u64 0, .bool false, .string ⟨#[]⟩]
  | 62 => fun v _ => v = .bool (isT m 8)
  | 63 => fun v _ => v = .pointer (some ⟨G, 10, none⟩)
  | 64 => fun v _ => v = .agg #[.int .u64 m.time, .bool m.gone, .string m.val]
  | 65 => fun v _ => v = .string ⟨(txt m 8).toArray⟩
  | 66 => fun v _ => v = .agg #[.int .u64 8, .bool (isT m 8), .string ⟨(txt m 8).toArray⟩]
  | 67 => fun v _ => v = .pointer (some ⟨G, 13, none⟩)
  | 68 => fun v _ => v = sl
  | 69 => fun v _ => v = .int .i64 (m.ws.length : Nat)
  | 70 => fun v _ => v = .bool (isT m 9)
  | 71 => fun v _ => v = .pointer (some ⟨G, 13, none⟩)
  | 72 => fun v _ => v = sl
  | 73 => fun v _ => v = .string ⟨(txt m 9).toArray⟩
  | 74 => fun v _ => v = .agg #[.int .u64 9, .bool (isT m 9), .string ⟨(txt m 9).toArray⟩]
  | 75 => fun v _ => v = .pointer (some ⟨G, 14, none⟩)
  | 76 => fun v _ => v = .string m.note
  | 77 => fun v _ => v = .bool (isT m 10)
  | 78 => fun v _ => v = .pointer (some ⟨G, 14, none⟩)
  | 79 => fun v _ => v = .string m.note
  | 80 => fun v _ => v = .agg #[.int .u64 10, .bool (isT m 10), .string ⟨(txt m 10).toArray⟩]
  | 81 => fun v _ => v = .pointer (some ⟨G, 15, none⟩)
  | 82 => fun v _ => v = .int .u64 m.hint
  | 83 => fun v _ => v = .bool (isT m 11)
  | 84 => fun v _ => v = .pointer (some ⟨G, 15, none⟩)
  | 85 => fun v _ => v = .int .u64 m.hint
  | 86 => fun v _ => v = .string ⟨(txt m 11).toArray⟩
  | 87 => fun v _ => v = .agg #[.int .u64 11, .bool (isT m 11), .string ⟨(txt m 11).toArray⟩]
  | 88 => fun v _ => v = .pointer (some ⟨G, 16, none⟩)
  | 89 => fun v _ => v = .int .u64 m.must
  | 90 => fun v _ => v = .bool (isT m 12)
  | 91 => fun v _ => v = .pointer (some ⟨G, 16, none⟩)
  | 92 => fun v _ => v = .int .u64 m.must
  | 93 => fun v _ => v = .string ⟨(txt m 12).toArray⟩
  | 94 => fun v _ => v = .agg #[.int .u64 12, .bool (isT m 12), .string ⟨(txt m 12).toArray⟩]
  | 95 => fun v w => ∃ g, B ≤ g ∧ v = .slice (some ⟨g, 0, none⟩) 12 12 ∧ RowAt w g (all12 m)
  | 3 => fun v w => ∃ g, B ≤ g ∧ v = .slice (some ⟨g, 0, none⟩) 12 12 ∧ RowAt w g (all12 m)
  | _ => fun _ _ => True

theorem psi_stable (m : Mg) (sl : Value) (G B : Nat) (t : Nat) (v : Value) (w w' : World) (h : psi m sl G B t v w) (hb : Below w.heap.size w w') : psi m sl G B t v w' := by
  unfold psi at *
  split at h
  all_goals first
    | exact h
    | exact IntsAt.below h hb
    | (obtain ⟨g, h1, h2, h3⟩ := h; exact ⟨g, h1, h2, h3.below hb⟩)

set_option maxHeartbeats 8000000 in
theorem fieldsOf_any (m : Mg) (sl : Value) (hn : nums31 m = true) (hf : m.fits) (hw : m.few) (w : World) (hws : WsAt w sl m.ws) :
    Calls Try.prog 22 #[.agg (m.cells sl)] w (FldsOut m w) := by
  unfold nums31 in31 at hn
  simp only [Bool.and_eq_true, decide_eq_true_eq] at hn
  obtain ⟨⟨⟨⟨n1, n2⟩, n3⟩, n4⟩, n5⟩ := hn
  obtain ⟨p, len, cap, rfl, hlen, hcells⟩ := hws
  have HWS := Lib.hid (show WsAt w (.slice p len cap) m.ws from ⟨p, len, cap, rfl, hlen, hcells⟩)
  have HLEN := Lib.hid hlen
  obtain ⟨M, hM⟩ : ∃ M, M = m := ⟨_, rfl⟩
  have t3 := isT_3 m
  have t6 := isT_6 m
  have t7 := isT_7 m
  have t8 := isT_8 m
  have v8 := ver_if m
  have t9 := isT_9 m
  have t10 := isT_10 m
  have hfit := hf
  have hfew := hw
  obtain ⟨kind, frm, to_, node, life, seq, a, b, key, found, time, gone, val, ws, note, hint, must⟩ := m
  simp only at n1 n2 n3 n4 n5 t3 t6 t7 t8 v8 t9 t10 HWS HLEN
  have T1 := Lib.hid (isT_num n1.1)
  have T2 := Lib.hid (isT_num n2.1)
  have T3 := Lib.hid t3
  have T4 := Lib.hid (isT_nat a)
  have T5 := Lib.hid (isT_nat b)
  have T6 := Lib.hid t6
  have T7 := Lib.hid t7
  have T8 := Lib.hid t8
  have V8 := Lib.hid v8
  have T9 := Lib.hid t9
  have T10 := Lib.hid t10
  have T11 := Lib.hid (isT_nat hint)
  have T12 := Lib.hid (isT_nat must)
  have B1 := Lib.hid n1
  have B2 := Lib.hid n2
  have B3 := Lib.hid n3
  have B4 := Lib.hid n4
  have B5 := Lib.hid n5
  have UA := Lib.hid (uint_any a hfit.a)
  have UB := Lib.hid (uint_any b hfit.b)
  have UH := Lib.hid (uint_any hint hfit.hint)
  have UM := Lib.hid (uint_any must hfit.must)
  have UV := Lib.hid (version_any time gone val hfit.time hfew.val)
  have UW := Lib.hid (fun W => writes_any ws (.slice p len cap) hfew.ws hfew.all W)
  clear n1 n2 n3 n4 n5 t3 t6 t7 t8 v8 t9 t10 hf hw hlen hcells hfit hfew hM M
  show Calls _ _ #[.agg #[.int .i64 kind, .int .i64 frm, .int .i64 to_, .int .i64 node, .int .i64 life, .int .i64 seq, .int .u64 a, .int .u64 b, .string key, .bool found, .int .u64 time, .bool gone, .string val, .slice p len cap, .string note, .int .u64 hint, .int .u64 must]] w _
  go_enter Try.func22, Try.ntmps22
  go_upto_region 1 with fail
  obtain ⟨W1, hW1⟩ : ∃ W1, W1 = (w.alloc (.cells #[.int .i64 kind, .int .i64 frm, .int .i64 to_, .int .i64 node, .int .i64 life, .int .i64 seq, .int .u64 a, .int .u64 b, .string key, .bool found, .int .u64 time, .bool gone, .string val, .slice p len cap, .string note, .int .u64 hint, .int .u64 must] 29)) := ⟨_, rfl⟩
  obtain ⟨G, hG⟩ : ∃ G, G = w.heap.size := ⟨_, rfl⟩
  have hrow : W1.heap[G]? = some (.cells #[.int .i64 kind, .int .i64 frm, .int .i64 to_, .int .i64 node, .int .i64 life, .int .i64 seq, .int .u64 a, .int .u64 b, .string key, .bool found, .int .u64 time, .bool gone, .string val, .slice p len cap, .string note, .int .u64 hint, .int .u64 must] 29 (0, 0)) := by rw [hW1, hG]; exact heap_alloc_new w _
  have HB1 := Lib.hid (show Below w.heap.size w W1 by rw [hW1]; exact (Below.refl _ _).alloc (Nat.le_refl _) _)
  rw [← hW1, ← hG]
  have HC := Lib.hid (fun w' (hb : Below W1.heap.size W1 w') => row17 ((hb.block G (Array.getElem?_eq_some_iff.1 hrow).1).trans hrow))
  have HWS1 := Lib.hid (fun w' (hb : Below W1.heap.size W1 w') => HWS.out.below (HB1.out.trans (hb.mono HB1.out.size)))
  clear hrow hW1 hG HWS
  go_cut [3] (fun s3 w' => Hid (∃ g, w.heap.size ≤ g ∧ s3 = .slice (some ⟨g, 0, none⟩) 12 12 ∧ RowAt w' g (all12 ⟨kind, frm, to_, node, life, seq, a, b, key, found, time, gone, val, ws, note, hint, must⟩)) ∧ Hid (Below w.heap.size w w'))
  case rest =>
    obtain ⟨hs3, hbc⟩ := hcut
    obtain ⟨g, hg, rfl, hr⟩ := hs3.out
    have HD := Lib.hid (deleteFunc_any (all12 ⟨kind, frm, to_, node, life, seq, a, b, key, found, time, gone, val, ws, note, hint, must⟩) g (by show 12 ≤ 1000; omega) (by show 0 < 12; omega) wc hr)
    have HG := Lib.hid hg
    clear hs3 hr hg HC HWS1 HB1
    go_wp2_with (go_at_call 57; refine HD.out.mono ?_; rintro e w2 ⟨v, rfl, hf2, hg2, hv2⟩)
    go_ret
    exact ⟨_, rfl, hf2, hbc.out.grown hg2 hbc.out.size (fun j hj => by injection hj with hj; have := HG.out; omega), fun k hk => by rw [hv2 k hk]; exact HG.out⟩
  case first =>
    refine wp_region_flow [0, 1, 2, 96, 97] [3] (psi ⟨kind, frm, to_, node, life, seq, a, b, key, found, time, gone, val, ws, note, hint, must⟩ (.slice p len cap) G w.heap.size) 98 (by kernel_rfl) (by kernel_rfl) rfl (by kernel_rfl) (by kernel_rfl) (psi_stable _ _ _ _) ?_ ?_ ?_
    · intro t ht w' _
      simp only [List.mem_cons, List.not_mem_nil, or_false] at ht
      rcases ht with rfl | rfl | rfl | rfl | rfl <;> first | exact trivial | rfl
    · repeat' (first | exact AllSteps.nil | refine AllSteps.cons ?_ ?_)
      all_goals
        intro a' w' K Q hB hP hK
        repeat (obtain ⟨h, hP⟩ := hP; conv at h => whnf)
        have hc := HC.out _ hB
        have hW := HWS1.out _ hB
        have hBz := Nat.le_trans HB1.out.size hB.size
        have HW := Lib.hid hW
        have HZ := Lib.hid hBz
        clear HC HWS1 HB1 hW hBz
        try go_simp
        first
          | (refine hK _ _ (Below.refl _ _) ?_; intro d hd; cases hd; first | rfl | exact h | exact congrArg (fun n : Nat => Value.int .i64 (n : Int)) HLEN.out.symm | exact congrArg Value.bool T1.out | exact congrArg Value.bool T2.out | exact congrArg Value.bool T4.out | exact congrArg Value.bool T5.out | exact congrArg Value.bool T6.out | exact congrArg Value.bool T9.out | exact congrArg Value.bool T10.out | exact congrArg Value.bool T11.out | exact congrArg Value.bool T12.out | exact congrArg (fun z => Value.agg #[.int .u64 7, .bool z, .string ⟨#[]⟩]) T7.out)
          | (refine hK _ _ ((Below.refl _ _).alloc (Nat.le_refl _) _) ?_; intro d hd; cases hd; first | exact ints_one B1.out.1 _ | exact ints_one B2.out.1 _ | exact ints_three B3.out.1 B4.out.1 B5.out.1 _ | exact ⟨_, HZ.out, rfl, heap_alloc_new _ _⟩)
          | (go_at_call 33; (with_reducible refine (UA.out _).mono ?_); rintro e w'' ⟨rfl, hb⟩; refine hK _ _ hb ?_; intro d hd; cases hd; rfl)
          | (go_at_call 33; (with_reducible refine (UB.out _).mono ?_); rintro e w'' ⟨rfl, hb⟩; refine hK _ _ hb ?_; intro d hd; cases hd; rfl)
          | (go_at_call 33; (with_reducible refine (UH.out _).mono ?_); rintro e w'' ⟨rfl, hb⟩; refine hK _ _ hb ?_; intro d hd; cases hd; rfl)
          | (go_at_call 33; (with_reducible refine (UM.out _).mono ?_); rintro e w'' ⟨rfl, hb⟩; refine hK _ _ hb ?_; intro d hd; cases hd; rfl)
          | (go_at_call 55; (with_reducible refine (UV.out _).mono ?_); rintro e w'' ⟨rfl, hb⟩; refine hK _ _ hb ?_; intro d hd; cases hd; rfl)
          | (go_at_call 56; (with_reducible refine (UW.out _ HW.out).mono ?_); rintro e w'' ⟨rfl, hb⟩; refine hK _ _ hb ?_; intro d hd; cases hd; rfl)
          | (go_at_call 54; refine (numbers_one frm.toNat (by have := B1.out; omega) _ _ h).mono ?_; rintro e w'' ⟨rfl, hb⟩; refine hK _ _ hb ?_; intro d hd; cases hd; rfl)
          | (go_at_call 54; refine (numbers_one to_.toNat (by have := B2.out; omega) _ _ h).mono ?_; rintro e w'' ⟨rfl, hb⟩; refine hK _ _ hb ?_; intro d hd; cases hd; rfl)
          | (go_at_call 54; refine (numbers_three node.toNat life.toNat seq.toNat (by have := B3.out; omega) (by have := B4.out; omega) (by have := B5.out; omega) _ _ h).mono ?_; rintro e w'' ⟨rfl, hb⟩; refine hK _ _ hb ?_; intro d hd; cases hd; rfl)
          | (rw [txn_if]; refine hK _ _ (Below.refl _ _) ?_; intro d hd; cases hd; exact congrArg Value.bool T3.out)
          | (rw [V8.out]; refine hK _ _ (Below.refl _ _) ?_; intro d hd; cases hd; exact congrArg Value.bool T8.out)
    · intro a' w' hb hsz hdf hold hnew
      have h0 : a'.tmps.getD 0 undef = _ := hold 0 (by simp)
      have h1 : a'.tmps.getD 1 undef = _ := hold 1 (by simp)
      have h2 : a'.tmps.getD 2 undef = _ := hold 2 (by simp)
      have h96 : a'.tmps.getD 96 undef = _ := hold 96 (by simp)
      have h97 : a'.tmps.getD 97 undef = _ := hold 97 (by simp)
      obtain ⟨g, hg, h3, hr⟩ := hnew 3 (by simp)
      have ha := act_eta a' hsz
      simp only [List.range, List.range.loop, List.map, h0, h1, h2, h3, h96, h97, hdf] at ha
      rw [ha]
      clear ha h0 h1 h2 h3 h96 h97 hold hnew
      go_wp2_with fail
      go_meet
      case rel => exact ⟨Lib.hid ⟨g, hg, rfl, hr⟩, Lib.hid (HB1.out.trans (hb.mono HB1.out.size))⟩
end Go.Proofs.Ytkcbbcabfbkclaa
