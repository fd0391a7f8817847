/-
  Joined: CrdPSettled, CrdPNodes.
-/
import Derived.Test.YtdldplhfpianhaaSet28
import Derived.Maps.OwnSet
import Derived.Maps.Ext
import Derived.Maps.Views
import Derived.Laws.Strings
import Derived.Carry
namespace Go.Proofs.Ytdldplhfpianhaa
open Go.RowKit Go.Maps
set_option linter.unusedVariables false
set_option linter.unnecessarySimpa false
set_option linter.unusedSimpArgs false
set_option maxRecDepth 100000

/-- A map's element read as itself. -/
def RWc (v : Value) : Option (DataW Value × List MemPlace) := some (.held v, [])
theorem skc_law : Keyed Try.prog 9 := string_keyed Try.underlying9
def litC (k : ByteArray) : Lit := .string k.data.toList
theorem litC_key {k : ByteArray} (h : k.size ≤ maxLen) : keyOf Try.prog 9 (.string k) = some (litC k) := by
  unfold keyOf
  rw [Try.underlying9]
  simp [mapKey, Try.underlying9, h, litC]
theorem litC_inj {a b : ByteArray} (h : litC a = litC b) : a = b := by
  unfold litC at h
  injection h with h
  cases a
  cases b
  simp only at h
  congr 1
  exact Array.toList_inj.1 h
theorem zero_int (w : World) : (zeroValue 3).run Try.prog w = .ok (.int .i64 0) w := (zero_of_info (by kernel_rfl : (Try.prog.info? 3).map (fun i => (i.zero, i.size)) = some (some (.int .i64 0), 1))).1 w
theorem settled_look {W : World} {m n : Nat} {D : DataW Value} (h : W.ownsMap Try.prog 9 RWc m n D) {key : ByteArray} (hk : key.size ≤ maxLen) {v : Value} (hv : D.atKey (litC key) (.held (.int .i64 0)) = .held v) :
    (Instr.lookup 88 (.map (some m)) (.string key) false).run Try.prog W = .ok v W := by
  obtain ⟨v', ps, hr, hv'⟩ := h.lookup skc_law Try.underlying88 (zero_int W) (zd := .held (.int .i64 0)) (zp := []) rfl (litC_key hk)
  rw [hv] at hv'
  unfold RWc at hv'
  simp only [Option.some.injEq, Prod.mk.injEq, DataW.held.injEq] at hv'
  rw [hr, hv'.1]
theorem own_map_sameC {k : TypeId} {R : Value → Option (DataW Value × List MemPlace)} {w w' : World} {b n : Nat} {D : DataW Value} (h : w.ownsMap Try.prog k R b n D) (hb : w'.heap[b]? = w.heap[b]?) : w'.ownsMap Try.prog k R b n D := by
  obtain ⟨es, clock, h1, h2, h3, h4⟩ := h
  exact ⟨es, clock, hb.trans h1, h2, h3, h4⟩
set_option maxHeartbeats 1000000 in
theorem settled1_any {W : World} {N m n : Nat} {D : DataW Value} (hN : W.heap[N]? = some (.cells #[.map (some m)] 88 (0, 0))) (h : W.ownsMap Try.prog 9 RWc m n D) {key : ByteArray} (hk : key.size ≤ maxLen) {k : Int} (hv : D.atKey (litC key) (.held (.int .i64 0)) = .held (.int .i64 k)) :
    Calls Try.prog 55 #[.string key, .pointer (some ⟨N, 0, none⟩)] W fun e w' => e = .returned (.int .i64 k) ∧ W = w' := by
  have hl := settled_look h hk hv
  have c0 : W.cell? ⟨N, 0, none⟩ = some (.map (some m)) := by rw [cell_of_row _ _ _ _ _ _ hN]; rfl
  clear h hv hN
  go_enter Try.func55, Try.ntmps55
  go_wp2_with fail
  go_ret
  exact ⟨rfl, rfl⟩
/-- The map, in the midst. -/
structure SeSt (w : World) (N m : Nat) (n i : Nat) (Ws : List Wq) (W : World) : Prop where
  below : Below w.heap.size w W
  le : w.heap.size ≤ N ∧ w.heap.size ≤ m ∧ N ≠ m
  box : W.heap[N]? = some (.cells #[.map (some m)] 88 (0, 0))
  own : ∃ D, W.ownsMap Try.prog 9 RWc m i D ∧ ∀ q ∈ Ws.take i, ∀ z, D.atKey (litC q.key) z = .held (.int .i64 ((ownN q.key n : Nat) : Int))
section
variable {w W W2 : World} {N m n i : Nat} {Ws : List Wq}
theorem SeSt.mlt (h : SeSt w N m n i Ws W) : m < W.heap.size := by obtain ⟨D, h1, _⟩ := h.own; exact h1.lt
theorem SeSt.later (h : SeSt w N m n i Ws W) (hb : Below W.heap.size W W2) : SeSt w N m n i Ws W2 := by
  have hm := h.mlt
  obtain ⟨D, h1, h2⟩ := h.own
  exact ⟨h.below.trans (hb.mono h.below.size), h.le, (hb.block N (Array.getElem?_eq_some_iff.1 h.box).1).trans h.box, D, own_map_sameC h1 (hb.block m hm), h2⟩
theorem SeSt.next (h : SeSt w N m n i Ws W) (hi : i < Ws.length) (hs : Ws.length ≤ 1000) (hk : (Ws.getD i wq0).key.size ≤ maxLen) :
    ∃ w', (Instr.mapUpdate 88 (.map (some m)) (.string (Ws.getD i wq0).key) (.int .i64 ((ownN (Ws.getD i wq0).key n : Nat) : Int))).run Try.prog W = .ok () w' ∧ SeSt w N m n (i + 1) Ws w' := by
  obtain ⟨D, h1, h2⟩ := h.own
  obtain ⟨w', hrun, hown, hg⟩ := World.ownsMap.update h1 skc_law Try.underlying88 (by unfold maxLen; omega) (litC_key hk) (val := .int .i64 ((ownN (Ws.getD i wq0).key n : Nat) : Int)) (d := .held (.int .i64 ((ownN (Ws.getD i wq0).key n : Nat) : Int))) (ps := []) rfl
  obtain ⟨es, e1, _⟩ := World.ownsMap.canon h1 skc_law
  have hot : ∀ j, j < W.heap.size → j ≠ m → w'.heap[j]? = W.heap[j]? := fun j hj hne => hg.block j hj (fun e => by injection e with e; exact hne e)
  refine ⟨w', hrun, ⟨hg.os.trans h.below.os, hg.tape.trans h.below.tape, hg.output.trans h.below.output, Nat.le_trans h.below.size hg.size, fun k hk => (hot k (by have := h.below.size; omega) (by have := h.le.2.1; omega)).trans (h.below.block k hk)⟩, h.le, (hot N (Array.getElem?_eq_some_iff.1 h.box).1 h.le.2.2).trans h.box, _, hown, fun q hq z => ?_⟩
  by_cases e : litC q.key = litC (Ws.getD i wq0).key
  · rw [e, litC_inj e]
    exact atKey_put_same ⟨es, e1⟩ (skc_law.key (litC_key hk)) _ _
  · rw [atKey_put_other e]
    rw [List.take_add_one, List.getElem?_eq_getElem hi] at hq
    rcases List.mem_append.1 hq with hq | hq
    · exact h2 q hq z
    · exfalso
      apply e
      have : q = Ws.getD i wq0 := by
        rw [List.getD, List.getElem?_eq_getElem hi]
        simpa using hq
      rw [this]
end
def psiSe (g N A m : Nat) (K : ByteArray) (k : Int) (t : Nat) (v : Value) (_ : World) : Prop :=
  match t with
  | 0 => v = .func (.func g) #[] #[]
  | 5 => v = .pointer (some ⟨N, 0, none⟩)
  | 7 => v = .pointer (some ⟨A, 0, none⟩)
  | 15 => v = .map (some m)
  | 16 => v = .pointer (some ⟨A, 0, none⟩)
  | 17 => v = .string K
  | 18 => v = .func (.func g) #[] #[]
  | 19 => v = .pointer (some ⟨A, 0, none⟩)
  | 20 => v = .string K
  | 21 => v = .int .i64 k
  | _ => True
/-- m[k] = v as an operation. -/
theorem wp_mapUpdateC {P : Program} {op : Oper} {a : Act} {w : World} {K : Act → World → Prop} {Q : Exit → Act → World → Prop} (t : TypeId) (x y z : Operand) (ho : op.op = .mapUpdate t x y z) (m k v : Value) (w' : World) (hx : a.eval x = m) (hy : a.eval y = k) (hz : a.eval z = v)
    (hr : (Instr.mapUpdate t m k v).run P w = .ok () w') (h : K (a.put op.dst undef) w') : op.wp P a w K Q := by
  unfold Oper.wp execOp
  simp only [ho, hx, hy, hz, Sem.run_bind, Sem.run_pure, Result.andThen_ok, hr]
  exact h
set_option maxHeartbeats 4000000 in
theorem psettled_any (g n : Nat) (wa : Option Addr) (wn wc : Nat) (Ws : List Wq) (w : World) (eg : ∀ args w, (callFunc g args).run Try.prog w = .ok (.enter g args) w) (hg : ∀ key W, Calls Try.prog g #[.string key] W fun e w' => e = .returned (.int .i64 ((ownN key n : Nat) : Int)) ∧ W = w')
    (h : IsWqs w wa wn wc Ws) (hw8 : wn ≤ 8) :
    Calls Try.prog 43 #[.func (.func g) #[] #[], .slice wa wn wc] w fun e w' => ∃ N m, e = .returned (.func (.func 55) #[] #[.pointer (some ⟨N, 0, none⟩)]) ∧ SeSt w N m n wn Ws w' := by
  have hmf : ∀ (fn : Fn) (first cap : Array Value) (w : World), (Instr.makeFunc fn first cap).run Try.prog w = .ok (.func fn first cap) w := fun _ _ _ _ => rfl
  have hmm := @run_makeMap Try.prog
  have HZ := Lib.hid h
  have HL := Lib.hid h.1
  have HT := Lib.hid (fun key W => ptold_any g key _ W eg (hg key))
  have hw8' := Lib.hid hw8
  clear h hg eg
  go_enter Try.func43, Try.ntmps43
  go_upto_region 2 with fail
  obtain ⟨w0, hw0⟩ : ∃ w0, w0 = (w.alloc (.map #[] 0)).alloc (.cells #[.map (some w.heap.size)] 88) := ⟨_, rfl⟩
  have HS0 : SeSt w (w.heap.size + 1) w.heap.size n 0 Ws w0 := by
    rw [hw0]
    refine ⟨((Below.refl w.heap.size w).alloc (Nat.le_refl _) _).alloc (by simp) _, ⟨by omega, Nat.le_refl _, by omega⟩, ?_, .map [], ?_, fun q hq => (by simp at hq)⟩
    · simpa using heap_alloc_new (w.alloc (.map #[] 0)) (.cells #[.map (some w.heap.size)] 88)
    · exact own_map_sameC (World.ownsMap_made w _ _ _) (Below.heap_alloc _ _ _ (by simp))
  obtain ⟨N, hN⟩ : ∃ N, N = w.heap.size + 1 := ⟨_, rfl⟩
  obtain ⟨m, hm⟩ : ∃ m, m = w.heap.size := ⟨_, rfl⟩
  rw [← hN, ← hm] at HS0
  rw [← hw0, ← hN, ← hm]
  clear hmm hw0 hN hm
  have HS0 := Lib.hid HS0
  go_wp2_with fail
  go_loopg [7, 11] wn (fun gg _ s11 wr => ∃ i : Nat, i + gg = wn ∧ s11 = .int .i64 i ∧ Hid (SeSt w N m n i Ws wr))
  case atStart => exact ⟨0, by omega, rfl, HS0⟩
  case round =>
    obtain ⟨i, hg, rfl, HB⟩ := hrel
    by_cases hlt : i < wn
    · obtain ⟨k, rfl⟩ : ∃ k, gk = k + 1 := ⟨gk - 1, by omega⟩
      have hltz : (i : Int) < (wn : Int) := by omega
      obtain ⟨wb, off, rfl, hbl, hk1, hk2, q0, q1, q2⟩ := (HZ.out.below HB.out.below).2.2.2 i hlt
      have HIL := Lib.hid (show i < Ws.length by have := HL.out; omega)
      have HKL := Lib.hid hk1
      obtain ⟨z, hz⟩ : ∃ z, z = Ws.getD i wq0 := ⟨_, rfl⟩
      have HNX := Lib.hid (fun W (hs : SeSt w N m n i Ws W) => hs.next HIL.out (by have := HL.out; have := hw8'.out; omega) HKL.out)
      rw [← hz] at q0 q1 q2 HNX
      have HTK := Lib.hid (fun W => HT.out z.key W)
      obtain ⟨K, G, V⟩ := z
      simp only at q0 q1 q2 HTK HNX
      have hb1 := (Below.refl wr.heap.size wr).alloc (Nat.le_refl _) (.cells #[.string K, .bool G, .string V] 64)
      have hr1 := heap_alloc_new wr (.cells #[.string K, .bool G, .string V] 64)
      obtain ⟨w2, hw2⟩ : ∃ w2, w2 = wr.alloc (.cells #[.string K, .bool G, .string V] 64) := ⟨_, rfl⟩
      rw [← hw2] at hb1 hr1
      obtain ⟨A, hA⟩ : ∃ A, A = wr.heap.size := ⟨_, rfl⟩
      rw [← hA] at hr1
      have HB2 := Lib.hid (HB.out.later hb1)
      have HAR := Lib.hid hr1
      obtain ⟨kk, hkk⟩ : ∃ kk : Int, kk = ((ownN K n : Nat) : Int) := ⟨_, rfl⟩
      rw [← hkk] at HTK HNX
      clear hz hbl hk1 hk2 hb1 hr1 hkk
      go_upto_region 5 with fail
      rw [← hw2, ← hA]
      clear hw2 hA q0 q1 q2
      refine wp_region_tailN [0, 5, 7] [15, 17, 21] (fun x y => Below x.heap.size x y) (psiSe g N A m K kk) (fun _ _ => True) 24 7 none (.mapUpdate 88 (.tmp 15) (.tmp 17) (.tmp 21)) (by kernel_rfl) (by kernel_rfl) (by kernel_rfl) (by kernel_rfl) rfl (by kernel_rfl) (by kernel_rfl)
        (Below.refl _ _).drew (fun _ _ _ h k => h.trans (k.mono h.size)) (fun _ _ _ _ h _ => h) (fun _ _ _ _ _ => trivial) ?_ ?_ [15, 16, 17, 18, 19, 20, 21] (by kernel_rfl) ?_
      · intro t ht w' _
        simp only [List.mem_cons, List.not_mem_nil, or_false] at ht
        rcases ht with rfl | rfl | rfl <;> rfl
      · repeat' (first | exact AllStepsL.nil | refine AllStepsL.cons ?_ ?_)
        all_goals
          intro hik
          first
            | (exfalso; revert hik; decide)
            | (intro a' w' K' Q' hRl hP hK'
               repeat (obtain ⟨h, hP⟩ := hP; conv at h => whnf)
               have b0 : w'.cell? ⟨N, 0, none⟩ = some (.map (some m)) := by rw [cell_of_row _ _ _ _ _ _ (HB2.out.later hRl).box]; rfl
               obtain ⟨c0, c1, c2⟩ := pcells3 ((hRl.block A (Array.getElem?_eq_some_iff.1 HAR.out).1).trans HAR.out)
               clear hRl
               try go_simp
               first
                | (refine hK' _ _ (Below.refl _ _) trivial ?_; intro d hd; cases hd; rfl)
                | (go_at_call 54; (with_reducible refine (HTK.out _).mono ?_); rintro e w4 ⟨rfl, hb4⟩; refine hK' _ _ hb4 trivial ?_; intro d hd; cases hd; rfl)
                | (trace_state; fail))
      · intro f w4 hRl hf hT ok hd ho
        have h15 : f 15 = .map (some m) := hf 15 (by simp)
        have h17 : f 17 = .string K := hf 17 (by simp)
        have h21 : f 21 = .int .i64 kk := hf 21 (by simp)
        obtain ⟨w5, hr5, hs5⟩ := HNX.out w4 (HB2.out.later hRl)
        have HN := Lib.hid hs5
        simp only [putAll, List.foldl_cons, List.foldl_nil, h15, h17, h21]
        dsimp only [Act.put]
        simp only [List.setIfInBounds_toArray]
        simp only [List.set_cons_succ, List.set_cons_zero]
        refine wp_mapUpdateC 88 _ _ _ ho (.map (some m)) (.string K) (.int .i64 kk) w5 rfl rfl rfl hr5 ?_
        rw [hd]
        clear hRl hf hT hd ho h15 h17 h21 hr5 hs5
        go_wp2_with fail
        go_roundg k
        case measure => omega
        case rel => exact ⟨i + 1, by omega, by go_num, HN⟩
    · have hltz : ¬ (i : Int) < (wn : Int) := by omega
      have hin : wn = i := by omega
      have HIN := Lib.hid hin
      clear hin
      go_wp2_with fail
      go_ret
      exact ⟨N, rfl, m, by rw [HIN.out]; exact HB.out⟩
end Go.Proofs.Ytdldplhfpianhaa

namespace Go.Proofs.Ytdldplhfpianhaa
open Go.RowKit Go.Sort
set_option linter.unusedVariables false
set_option linter.unnecessarySimpa false
set_option linter.unusedSimpArgs false
set_option maxRecDepth 100000

/-! Sorted lists. -/
theorem strict_eq : ∀ {L M : List Int}, L.Pairwise (· < ·) → M.Pairwise (· < ·) → (∀ x, x ∈ L ↔ x ∈ M) → L = M
  | [], [], _, _, _ => rfl
  | [], b :: M, _, _, h => absurd ((h b).2 (by simp)) (by simp)
  | a :: L, [], _, _, h => absurd ((h a).1 (by simp)) (by simp)
  | a :: L, b :: M, h1, h2, h => by
    obtain ⟨p1, p2⟩ := List.pairwise_cons.1 h1
    obtain ⟨q1, q2⟩ := List.pairwise_cons.1 h2
    have hab : a = b := by
      rcases List.mem_cons.1 ((h a).1 (by simp)) with e | e
      · exact e
      · rcases List.mem_cons.1 ((h b).2 (by simp)) with e2 | e2
        · exact e2.symm
        · have := q1 a e; have := p1 b e2; omega
    subst hab
    congr 1
    refine strict_eq p2 q2 fun x => ⟨fun hx => ?_, fun hx => ?_⟩
    · rcases List.mem_cons.1 ((h x).1 (by simp [hx])) with e | e
      · have := p1 x hx; omega
      · exact e
    · rcases List.mem_cons.1 ((h x).2 (by simp [hx])) with e | e
      · have := q1 x hx; omega
      · exact e
theorem compact_upto {zs : List Int} (h : zs.Pairwise (· ≤ ·)) : ∀ m, m ≤ zs.length → (Lib.compactUpTo zs.toArray m).Pairwise (· < ·) ∧ (∀ x, x ∈ Lib.compactUpTo zs.toArray m ↔ x ∈ zs.take m)
  | 0, _ => by simp [Lib.compactUpTo]
  | m + 1, hm => by
    obtain ⟨i1, i2⟩ := compact_upto h m (by omega)
    rw [Lib.compactUpTo_succ]
    have hml : m < zs.length := by omega
    have hd : zs.toArray[m]! = zs[m] := by rw [getElem!_pos zs.toArray m (by simpa using hml)]; simp
    have htk : zs.take (m + 1) = zs.take m ++ [zs[m]] := by rw [List.take_add_one, List.getElem?_eq_getElem hml]; rfl
    have hle : ∀ x ∈ zs.take m, x ≤ zs[m] := fun x hx => by
      obtain ⟨j, hj, rfl⟩ := List.mem_iff_getElem.1 hx
      rw [List.length_take] at hj
      rw [List.getElem_take]
      exact List.pairwise_iff_getElem.1 h j m (by omega) hml (by omega)
    by_cases hk : Lib.keeps zs.toArray m = true
    · rw [if_pos hk, hd, htk]
      refine ⟨List.pairwise_append.2 ⟨i1, List.pairwise_singleton _ _, fun x hx y hy => ?_⟩, fun x => by simp only [List.mem_append, i2]⟩
      rw [List.mem_singleton.1 hy]
      have hxt := (i2 x).1 hx
      have h1 := hle x hxt
      unfold Lib.keeps at hk
      rw [decide_eq_true_eq] at hk
      rcases hk with e | e
      · subst e; simp at hxt
      · have hm1 : m - 1 < zs.length := by omega
        have hd1 : zs.toArray[m - 1]! = zs[m - 1] := by rw [getElem!_pos zs.toArray (m - 1) (by simpa using hm1)]; simp
        rw [hd, hd1] at e
        obtain ⟨j, hj, rfl⟩ := List.mem_iff_getElem.1 hxt
        rw [List.length_take] at hj
        rw [List.getElem_take] at h1 ⊢
        have h2 : zs[j]'(by omega) ≤ zs[m - 1] := by
          by_cases hjm : j = m - 1
          · subst hjm; exact Int.le_refl _
          · exact List.pairwise_iff_getElem.1 h j (m - 1) (by omega) hm1 (by omega)
        have h3 : zs[m - 1] ≤ zs[m] := List.pairwise_iff_getElem.1 h (m - 1) m hm1 hml (by omega)
        omega
    · rw [if_neg hk, List.append_nil, htk]
      refine ⟨i1, fun x => ?_⟩
      rw [i2, List.mem_append]
      constructor
      · exact .inl
      · rintro (e | e)
        · exact e
        · rw [List.mem_singleton.1 e]
          unfold Lib.keeps at hk
          rw [decide_eq_true_eq] at hk
          have hm0 : m ≠ 0 := fun e => hk (.inl e)
          have hm1 : m - 1 < zs.length := by omega
          have hd1 : zs.toArray[m - 1]! = zs[m - 1] := by rw [getElem!_pos zs.toArray (m - 1) (by simpa using hm1)]; simp
          have he : zs[m] = zs[m - 1] := by
            refine Classical.byContradiction fun hne => hk (.inr ?_)
            rw [hd, hd1]
            exact hne
          rw [he]
          exact List.mem_iff_getElem.2 ⟨m - 1, by rw [List.length_take]; omega, by rw [List.getElem_take]⟩
theorem compact_sorted {zs : List Int} (h : zs.Pairwise (· ≤ ·)) : (Lib.compact zs).Pairwise (· < ·) ∧ (∀ x, x ∈ Lib.compact zs ↔ x ∈ zs) := by
  obtain ⟨h1, h2⟩ := compact_upto h zs.length (Nat.le_refl _)
  refine ⟨h1, fun x => ?_⟩
  rw [Lib.compact, h2, List.take_length]
def nodesL (n : Nat) (Ws : List Wq) : List Nat := Ws.map (fun m => ownN m.key n)
theorem nodesL_next (n : Nat) (Ws : List Wq) {i : Nat} (h : i < Ws.length) : nodesL n (Ws.take (i + 1)) = nodesL n (Ws.take i) ++ [ownN (Ws.getD i wq0).key n] := by
  unfold nodesL
  rw [take_next wq0 Ws h, List.map_append]
  rfl
theorem waitsL_mem (p : Pn) (hn : 1 ≤ p.n) (k : Nat) : k ∈ waitsL p [] ↔ k ∈ nodesL p.n p.W := by
  unfold waitsL nodesL
  rw [List.mem_filter, List.mem_range, List.mem_map]
  simp only [List.contains_nil, Bool.or_false, Bool.not_eq_true', List.isEmpty_eq_false_iff_exists_mem]
  constructor
  · rintro ⟨_, m, hm⟩
    unfold partC at hm
    obtain ⟨h1, h2⟩ := List.mem_filter.1 hm
    rw [beq_iff_eq] at h2
    exact ⟨m, h1, by omega⟩
  · rintro ⟨m, hm, rfl⟩
    exact ⟨ownN_lt m.key (by omega), m, List.mem_filter.2 ⟨hm, by rw [beq_iff_eq]⟩⟩
/-- What is sorted, and of what each is there once. -/
theorem nodes_sorted (L : List Nat) : ∃ M : List Nat, (ints L).mergeSort (fun x y => decide (x ≤ y)) = ints M ∧ M.length = L.length ∧ (ints M).Pairwise (· ≤ ·) ∧ ∀ k, k ∈ M ↔ k ∈ L := by
  have hp := List.mergeSort_perm (ints L) (fun x y => decide (x ≤ y))
  have hs := List.pairwise_mergeSort (le := fun (x y : Int) => decide (x ≤ y)) (fun a b c h1 h2 => by simp only [decide_eq_true_eq] at *; omega) (fun a b => by simp only [Bool.or_eq_true, decide_eq_true_eq]; omega) (ints L)
  obtain ⟨S, hS⟩ : ∃ S, S = (ints L).mergeSort (fun x y => decide (x ≤ y)) := ⟨_, rfl⟩
  rw [← hS] at hp hs ⊢
  have hm : ∀ z, z ∈ S ↔ ∃ k ∈ L, ((k : Nat) : Int) = z := fun z => by
    rw [hp.mem_iff]
    unfold ints
    rw [List.mem_map]
  have he : S = ints (S.map Int.toNat) := by
    unfold ints
    rw [List.map_map]
    refine (List.map_id S).symm.trans (List.map_congr_left fun z hz => ?_)
    obtain ⟨k, _, rfl⟩ := (hm z).1 hz
    simp
  refine ⟨S.map Int.toNat, he, by rw [List.length_map, hp.length_eq, ints_len], by rw [← he]; exact hs.imp (fun h => by simpa using h), fun k => ?_⟩
  rw [List.mem_map]
  constructor
  · rintro ⟨z, hz, rfl⟩
    obtain ⟨k, hk, rfl⟩ := (hm z).1 hz
    simpa using hk
  · intro hk
    exact ⟨(k : Int), (hm _).2 ⟨k, hk, rfl⟩, by simp⟩
theorem nodes_compact (p : Pn) (hn : 1 ≤ p.n) {M : List Nat} (hs : (ints M).Pairwise (· ≤ ·)) (hm : ∀ k, k ∈ M ↔ k ∈ nodesL p.n p.W) : Lib.compact (ints M) = ints (waitsL p []) := by
  obtain ⟨h1, h2⟩ := compact_sorted hs
  refine strict_eq h1 ?_ fun x => ?_
  · unfold ints
    rw [List.pairwise_map]
    exact (waitsL_sorted p []).imp (fun h => by omega)
  · rw [h2]
    unfold ints
    rw [List.mem_map, List.mem_map]
    constructor
    · rintro ⟨k, hk, rfl⟩; exact ⟨k, (waitsL_mem p hn k).2 ((hm k).1 hk), rfl⟩
    · rintro ⟨k, hk, rfl⟩; exact ⟨k, (hm k).2 ((waitsL_mem p hn k).1 hk), rfl⟩
end Go.Proofs.Ytdldplhfpianhaa
