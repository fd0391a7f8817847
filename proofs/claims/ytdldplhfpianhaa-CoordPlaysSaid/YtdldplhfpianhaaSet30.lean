/-
  The program's nodes, walked.
-/
import Derived.Test.YtdldplhfpianhaaSet29
namespace Go.Proofs.Ytdldplhfpianhaa
open Go.RowKit Go.Sort
set_option linter.unusedVariables false
set_option linter.unnecessarySimpa false
set_option linter.unusedSimpArgs false
set_option maxRecDepth 100000

/-- Nothing that was there has turned but for a slice's block. -/
structure ButO (va : Option Addr) (w w' : World) : Prop where
  os : w'.os = w.os
  tape : w'.tape = w.tape
  output : w'.output = w.output
  size : w.heap.size ≤ w'.heap.size
  block : ∀ k, k < w.heap.size → ¬ blkO va k → w'.heap[k]? = w.heap[k]?
theorem ButO.refl (va : Option Addr) (w : World) : ButO va w w := ⟨rfl, rfl, rfl, Nat.le_refl _, fun _ _ _ => rfl⟩
theorem ButO.below {va : Option Addr} {w w' : World} {B : Nat} (h : ButO va w w') (hv : ∀ k, blkO va k → B ≤ k) (hB : B ≤ w.heap.size) : Below B w w' := ⟨h.os, h.tape, h.output, h.size, fun k hk => h.block k (by omega) (fun e => by have := hv k e; omega)⟩
theorem blk_one {g k : Nat} (h : blkO (some (⟨g, 0, none⟩ : Addr)) k) : k = g := by obtain ⟨q, e, rfl⟩ := h; cases e; rfl
theorem psort_any {w : World} {va : Option Addr} {vc : Nat} {L : List Nat} (hl : L.length ≤ 1000) (h : w.ownsRow 0 3 1 (.slice va L.length vc) L.length (nsCells L)) :
    Calls Try.prog 56 #[.slice va L.length vc] w fun e w' => e = .returned (.tuple #[]) ∧ ∃ M : List Nat, M.length = L.length ∧ (ints M).Pairwise (· ≤ ·) ∧ (∀ k, k ∈ M ↔ k ∈ L) ∧ w'.ownsRow 0 3 1 (.slice va M.length vc) M.length (nsCells M) ∧ ButO va w w' := by
  rcases h.2 with ⟨e1, e2⟩ | ⟨g, cap, cur, e1, _, hg, _⟩
  · cases L with
    | nil =>
      refine (Try.slices_Sort_int_none va vc w).mono ?_
      rintro e w' ⟨rfl, rfl⟩
      exact ⟨rfl, [], rfl, List.Pairwise.nil, fun k => Iff.rfl, h, ButO.refl _ _⟩
    | cons a l => cases e2
  · cases e1
    have hgl := (Array.getElem?_eq_some_iff.1 hg).1
    have := Try.slices_Sort_int g 0 vc (ints L) w (ints_holds h) hgl (by rw [ints_len]; omega)
    rw [ints_len] at this
    refine this.mono ?_
    rintro e w' ⟨rfl, n, os, hw⟩
    obtain ⟨M, h1, h2, h3, h4⟩ := nodes_sorted L
    rw [h1] at hw
    obtain ⟨r1, r2, r3, r4⟩ := ints_put (L' := M) (k := 0) (q := n) h (by omega) (W := putRow (Value.int .i64) (Sort.ahead w n) g 0 (ints M).toArray) (by simp)
    refine ⟨rfl, M, h2, h3, h4, ?_, ?_⟩
    · rw [hw]
      exact own_same r1 fun k hk => heap_grow_old _ _ (by rw [blk_one hk, r3]; exact hgl)
    · rw [hw]
      exact ⟨r4.1, r4.2.1, r4.2.2, by rw [size_grow, r3]; omega, fun k hk hn => (heap_grow_old _ _ (by rw [r3]; exact hk)).trans (r2 k (fun e => hn (by rw [e]; exact ⟨_, rfl, rfl⟩)))⟩
theorem pcompact_any {w : World} {va : Option Addr} {vc : Nat} {M N : List Nat} (hl : M.length ≤ 1000) (h : w.ownsRow 0 3 1 (.slice va M.length vc) M.length (nsCells M)) (hc : Lib.compact (ints M) = ints N) :
    Calls Try.prog 57 #[.slice va M.length vc] w fun e w' => e = .returned (.slice va N.length vc) ∧ w'.ownsRow 0 3 1 (.slice va N.length vc) N.length (nsCells N) ∧ ButO va w w' := by
  have hnl : N.length ≤ M.length := by
    have := Lib.compact_length_le (ints M)
    rw [hc, ints_len, ints_len] at this
    exact this
  rcases h.2 with ⟨e1, e2⟩ | ⟨g, cap, cur, e1, _, hg, _⟩
  · cases M with
    | nil =>
      cases N with
      | nil =>
        refine (Try.slices_Compact_int_empty va vc w).mono ?_
        rintro e w' ⟨rfl, rfl⟩
        exact ⟨rfl, h, ButO.refl _ _⟩
      | cons a l => simp at hnl
    | cons a l => cases e2
  · cases e1
    obtain ⟨cur, _, _, _, hcap, hcm, _⟩ := ints_cur h
    have := Try.slices_Compact_int g 0 vc (ints M) w (ints_holds h) (by rw [ints_len]; omega) (by rw [ints_len]; exact hcap)
    rw [hc, ints_len, ints_len] at this
    refine this.mono ?_
    rintro e w' ⟨rfl, q, hw⟩
    obtain ⟨r1, r2, r3, r4⟩ := ints_put (L' := N) (k := M.length - N.length) (q := q) h (by omega) hw
    exact ⟨rfl, r1, r4.1, r4.2.1, r4.2.2, by omega, fun k hk hn => r2 k (fun e => hn (by rw [e]; exact ⟨_, rfl, rfl⟩))⟩
set_option maxHeartbeats 4000000 in
theorem pnodes_any (N n : Nat) (R : List ByteArray) (wa : Option Addr) (wn wc : Nat) (Ws : List Wq) (w : World) (hn : 1 ≤ n ∧ n ≤ 5)
    (hg : ∀ W, Below w.heap.size w W → ∀ m ∈ Ws, Calls Try.prog 55 #[.string m.key, .pointer (some ⟨N, 0, none⟩)] W fun e w' => e = .returned (.int .i64 ((ownN m.key n : Nat) : Int)) ∧ W = w')
    (h : IsWqs w wa wn wc Ws) (hw8 : wn ≤ 8) :
    Calls Try.prog 44 #[.func (.func 55) #[] #[.pointer (some ⟨N, 0, none⟩)], .slice wa wn wc] w fun e w' => ∃ va vc, e = .returned (.slice va (waitsL ⟨R, Ws, n⟩ []).length vc) ∧ w'.ownsRow 0 3 1 (.slice va (waitsL ⟨R, Ws, n⟩ []).length vc) (waitsL ⟨R, Ws, n⟩ []).length (nsCells (waitsL ⟨R, Ws, n⟩ [])) ∧ (∀ k, blkO va k → w.heap.size ≤ k) ∧ Below w.heap.size w w' := by
  have HZ := Lib.hid h
  have HL := Lib.hid h.1
  have HG := Lib.hid hg
  have hw8' := Lib.hid hw8
  have HN := Lib.hid hn
  have HEN := settled_enters
  obtain ⟨inf, hj, hy0, hy1, hy2⟩ := nsI
  obtain ⟨X, hX⟩ : ∃ X, X = waitsL ⟨R, Ws, n⟩ [] := ⟨_, rfl⟩
  rw [← hX]
  have HX := Lib.hid hX
  clear h hg hn hX
  go_enter Try.func44, Try.ntmps44
  go_wp2_with fail
  go_loopg [5, 7, 10] wn (fun gg s5 _ s10 wr => ∃ (i : Nat) (L : List Nat) (v : Value), i + gg = wn ∧ s5 = v ∧ s10 = .int .i64 i ∧ Hid (L = nodesL n (Ws.take i)) ∧ Hid (L.length = i) ∧ Hid (wr.ownsRow w.heap.size 3 1 v L.length (nsCells L)) ∧ Hid (Below w.heap.size w wr))
  case atStart => exact ⟨0, [], _, by omega, rfl, rfl, Lib.hid rfl, Lib.hid rfl, Lib.hid ⟨rfl, .inl ⟨rfl, rfl⟩⟩, Lib.hid (Below.refl _ _)⟩
  case round =>
    obtain ⟨i, L, v, hig, rfl, rfl, HLL, HLI, HO, HB⟩ := hrel
    cases gk with
    | zero =>
      have hin : wn = i := by omega
      have hfin : L = nodesL n Ws := by
        have e : Ws.take i = Ws := List.take_of_length_le (by have := HL.out; omega)
        rw [HLL.out, e]
      have hlz : ¬ (i : Int) < (wn : Int) := by omega
      obtain ⟨a, c, hv⟩ := own_form HO.out
      have hO := HO.out
      rw [hv] at hO
      have hO0 : wr.ownsRow 0 3 1 (.slice a L.length c) L.length (nsCells L) := by
        refine ⟨hO.1, ?_⟩
        rcases hO.2 with h1 | ⟨g, cap, cur, h1, _, h2⟩
        · exact .inl h1
        · exact .inr ⟨g, cap, cur, h1, Nat.zero_le _, h2⟩
      have hA : ∀ k, blkO a k → w.heap.size ≤ k := fun k hk => by
        obtain ⟨q, rfl, rfl⟩ := hk
        exact (hO.lt q.block rfl).1
      have HSRT := Lib.hid (psort_any (by have := HLI.out; omega) hO0)
      have HCMP := Lib.hid (fun (M : List Nat) (hs : (ints M).Pairwise (· ≤ ·)) (hm : ∀ k, k ∈ M ↔ k ∈ L) (hl : M.length = L.length) (W : World) (ho : W.ownsRow 0 3 1 (.slice a M.length c) M.length (nsCells M)) => pcompact_any (N := X) (by have := HLI.out; omega) ho (by rw [HX.out]; exact nodes_compact ⟨R, Ws, n⟩ HN.out.1 hs (by rw [← hfin]; exact hm)))
      have HA := Lib.hid hA
      have HIN := Lib.hid hin
      obtain ⟨LN, hLN⟩ : ∃ LN, LN = L.length := ⟨_, rfl⟩
      rw [← hLN] at HSRT HCMP hv
      subst hv
      clear hfin hO hO0 hA hin hLN
      go_wp2_with (first
        | (go_at_call 56; (with_reducible refine HSRT.out.mono ?_); rintro e w1 ⟨rfl, M, m1, m2, m3, m4, m5⟩; have HC1 := Lib.hid (HCMP.out M m2 m3 m1 w1 m4); rw [m1] at HC1; have HB1 := Lib.hid m5; clear m1 m2 m3 m4 m5)
        | (go_at_call 57; (with_reducible refine HC1.out.mono ?_); rintro e w2 ⟨rfl, h1, h2⟩; have HO2 := Lib.hid h1; have HB2 := Lib.hid h2; clear h1 h2))
      go_ret
      refine ⟨a, c, rfl, HO2.out, HA.out, ?_⟩
      have q1 := HB1.out.below HA.out HB.out.size
      have q2 := HB2.out.below HA.out (Nat.le_trans HB.out.size HB1.out.size)
      exact (HB.out.trans q1).trans q2
    | succ g =>
      have hil : i < wn := by omega
      have hiz : (i : Int) < (wn : Int) := by omega
      obtain ⟨wb, off, rfl, hbl, hk1, hk2, q0, q1, q2⟩ := (HZ.out.below HB.out).2.2.2 i hil
      have hnx := nodesL_next n Ws (i := i) (by have := HL.out; omega)
      obtain ⟨z, hz⟩ : ∃ z, z = Ws.getD i wq0 := ⟨_, rfl⟩
      have hzm : z ∈ Ws := by
        rw [hz, List.getD, List.getElem?_eq_getElem (by have := HL.out; omega)]
        exact List.getElem_mem _
      have HOZ := Lib.hid (fun W hb => HG.out W hb z hzm)
      rw [← hz] at q0 q1 q2 hnx
      obtain ⟨K, G, V⟩ := z
      simp only at q0 q1 q2 hnx HOZ
      have hlt := ownN_lt K (n := n) (by have := HN.out; omega)
      obtain ⟨kk, hkk⟩ : ∃ kk, kk = ownN K n := ⟨_, rfl⟩
      rw [← hkk] at hnx HOZ hlt
      rw [← HLL.out] at hnx
      have HNX := Lib.hid hnx
      have hb1 := (Below.refl wr.heap.size wr).alloc (Nat.le_refl _) (.cells #[.string K, .bool G, .string V] 64)
      have hr1 := heap_alloc_new wr (.cells #[.string K, .bool G, .string V] 64)
      obtain ⟨w2, hw2⟩ : ∃ w2, w2 = wr.alloc (.cells #[.string K, .bool G, .string V] 64) := ⟨_, rfl⟩
      rw [← hw2] at hb1 hr1
      obtain ⟨A, hA⟩ : ∃ A, A = wr.heap.size := ⟨_, rfl⟩
      rw [← hA] at hr1
      have HB2 := Lib.hid (HB.out.trans (hb1.mono HB.out.size))
      have HO2 : Hid (w2.ownsRow w.heap.size 3 1 u5 L.length (nsCells L)) := Lib.hid (own_later HO.out hb1)
      obtain ⟨a0, a1, a2⟩ := pcells3 hr1
      have HCL := Lib.hid (HOZ.out w2 HB2.out)
      have q1' := Lib.hid (show (nsCells [kk]).length = 1 * 1 from rfl)
      have q3' := Lib.hid (nsCells_one [kk])
      have q4 := Lib.hid (show L.length + 1 ≤ maxLen by have := HLI.out; have := hw8'.out; unfold maxLen; omega)
      have q5 := Lib.hid (show (L.length + 1) * 8 ≤ 140737488355328 by have := HLI.out; have := hw8'.out; omega)
      clear hz hbl hk1 hk2 hb1 hr1 hkk hnx hzm hlt
      go_upto_region 5 with fail
      rw [← hw2, ← hA]
      clear hw2 hA q0 q1 q2
      go_wp2_with (first
        | (go_at_call 55; (with_reducible refine HCL.out.mono ?_); rintro e w3 ⟨rfl, rfl⟩)
        | (at_builtin; refine wpList_append_own _ rfl _ _ 38 rfl w.heap.size 3 inf (.int .i64 0) 1 8 Try.underlying38 hj hy0 hy1 hy2 rfl (by decide) u5 L.length (nsCells L) rfl (HO2.out.alloc _) ⟨w2.heap.size, 0, none⟩ 1 1 (nsCells [kk]) rfl q1'.out (fun j u h => by rw [Addr.add_lit, Nat.zero_add, cell_of_row _ _ _ _ _ _ (heap_alloc_new w2 _)]; simpa [nsCells] using h) q3'.out q4.out q5.out (Nat.le_trans HB2.out.size (by simp)) ?_; intro v9 w9 hown9 hg9 hn9))
      have hb9 : Below w.heap.size w w9 := HB2.out.trans (((Below.refl w2.heap.size w2).alloc (Nat.le_refl _) (.cells #[.int .i64 ((kk : Nat) : Int)] 3)).mono HB2.out.size |>.trans ⟨hg9.os, hg9.tape, hg9.output, hg9.size, fun k hk => hg9.block k (by have := HB2.out.size; simp; omega) (fun e => by have := ((HO2.out.alloc (.cells #[.int .i64 ((kk : Nat) : Int)] 3)).lt k e.symm).1; omega)⟩)
      have HB9 := Lib.hid hb9
      have HO9 : Hid (w9.ownsRow w.heap.size 3 1 v9 (L ++ [kk]).length (nsCells (L ++ [kk]))) := Lib.hid (by rw [nsCells_app, List.length_append]; exact hown9)
      clear hown9 hg9 hn9 hb9
      go_roundg g
      case measure => omega
      case rel => exact ⟨i + 1, L ++ [kk], _, by omega, rfl, by go_num, Lib.hid HNX.out.symm, Lib.hid (by have := HLI.out; rw [List.length_append]; show L.length + 1 = i + 1; omega), HO9, HB9⟩
end Go.Proofs.Ytdldplhfpianhaa
