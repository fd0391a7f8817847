/-
  Joined: BlkEPs, MvcEntries, LzKit, LzFour, LzAlike.
-/
import Derived.Test.YtdcefhhmddjodaaSet10
import Derived.Test.YtdcefhhmddjodaaSet04
import Derived.OwnWalk
import Derived.Laws.OwnMore
import Derived.Test.YtdcefhhmddjodaaSet11
import Derived.Test.YtdcefhhmddjodaaSet21
import Derived.Test.YtdcefhhmddjodaaSet14
import Derived.Lib.AppendStr
import Derived.Lib.IndexBytes
import Derived.Deep.LoopGhost
import Derived.Deep.DeepCutAuto
import Derived.Deep.CutBlock
import Derived.Deep.QuietTactic
import Derived.BigQuiet
import Derived.Test.YtdcefhhmddjodaaSet12
import Derived.StillTailTactics
import Derived.IntWalk
import Derived.Deep.WholeRow
import Derived.Laws.Rows
import Derived.Laws.Tables
import Derived.Laws.CopyOwn
namespace Go.Proofs.Ytdcefhhmddjodaa
open Go.RowKit
set_option linter.unusedVariables false
set_option linter.unnecessarySimpa false
set_option linter.unusedSimpArgs false
set_option maxRecDepth 100000

/-- An entry that was taken, and its chain's slice. -/
structure EP where
  e : En
  a : Option Addr
  n : Nat
  c : Nat
def entC (l : List EP) : List Value := l.flatMap fun x => [.string x.e.key, .slice x.a x.n x.c]
theorem entC_len : ∀ l : List EP, (entC l).length = l.length * 2
  | [] => rfl
  | v :: l => by
    have := entC_len l
    unfold entC at this ⊢
    rw [List.flatMap_cons, List.length_append, this, List.length_cons]
    simp; omega
theorem entC_snoc (l : List EP) (v : EP) : entC (l ++ [v]) = entC l ++ [.string v.e.key, .slice v.a v.n v.c] := by simp [entC]
theorem entC_at : ∀ (l : List EP) (i : Nat) (x : EP), l[i]? = some x → (entC l)[i * 2]? = some (.string x.e.key) ∧ (entC l)[i * 2 + 1]? = some (.slice x.a x.n x.c)
  | [], i, x, h => by simp at h
  | v :: l, 0, x, h => by
    have : v = x := by simpa using h
    subst this
    exact ⟨rfl, rfl⟩
  | v :: l, i + 1, x, h => by
    have := entC_at l i x (by simpa using h)
    have e : entC (v :: l) = [.string v.e.key, .slice v.a v.n v.c] ++ entC l := by simp [entC]
    rw [e, show (i + 1) * 2 = 2 + i * 2 by omega, show 2 + i * 2 + 1 = 2 + (i * 2 + 1) by omega]
    refine ⟨?_, ?_⟩
    · rw [List.getElem?_append_right (by simp)]; simpa using this.1
    · rw [List.getElem?_append_right (by simp)]; simpa using this.2
def accE (l : List EP) : List En := l.map (·.e)
theorem accE_snoc (l : List EP) (x : EP) : accE (l ++ [x]) = accE l ++ [x.e] := by simp [accE]
/-- Entries that were taken, with chains that no row's block holds. -/
def EPs (W : World) (v : Value) (l : List EP) : Prop := ∀ x ∈ l, x.e.key.size ≤ 60000 ∧ IsVers W x.a x.n x.c x.e.ch ∧ ∀ p : Addr, x.a = some p → v.ownBlock ≠ some p.block ∧ p.block < W.heap.size
theorem entC_ents {w : World} {B n c : Nat} {a : Option Addr} {l : List EP} (h : w.ownsRow B 73 2 (.slice a n c) n (entC l)) (hn : l.length = n) (hl : n ≤ 100000) (hv : EPs w (.slice a n c) l) : IsEnts w a n c (accE l) := by
  have hcap : n ≤ c := by
    rcases h.2 with ⟨h1, h2⟩ | ⟨g, cap, cur, h1, _, _, h2, _⟩
    · omega
    · injection h1 with _ _ h1; omega
  refine ⟨⟨by unfold accE; rw [List.length_map, hn], fun i hi => ?_⟩, by unfold maxLen; omega, hcap⟩
  obtain ⟨g, cap, e, hg, hgl⟩ := own_slice h (by omega)
  injection e with e1 e2 e3
  subst e1 e3
  have hil : i < l.length := by omega
  have hx : l[i]? = some l[i] := List.getElem?_eq_getElem hil
  obtain ⟨h0, h1⟩ := entC_at l i _ hx
  obtain ⟨k1, k2, _⟩ := hv _ (List.getElem_mem hil)
  have he : (accE l).getD i en0 = (l[i]).e := by unfold accE; rw [List.getD, List.getElem?_map, hx]; rfl
  rw [he]
  refine ⟨g, 0, rfl, hgl, by unfold maxLen; omega, ?_, l[i].a, l[i].n, l[i].c, ?_, k2⟩
  · rw [Nat.zero_add, h.cellAt (i * 2) (by omega)]; exact h0
  · rw [Nat.zero_add, h.cellAt (i * 2 + 1) (by omega)]; exact h1
theorem vers_grownK {w w' : World} {r : Option Nat} {a : Option Addr} {len cap : Nat} {zs : List Vr} (h : IsVers w a len cap zs) (hg : w.grownBy w' r) (hr : ∀ p : Addr, a = some p → r ≠ some p.block) : IsVers w' a len cap zs := by
  refine ⟨⟨h.1.1, fun i hi => ?_⟩, h.2⟩
  obtain ⟨b, off, ha, hlt, h1, h2, h3, h4, h5⟩ := h.1.2 i hi
  have hb : w'.heap[b]? = w.heap[b]? := hg.block b hlt (fun e => hr _ ha e.symm)
  have key : ∀ k, w'.cell? ⟨b, k, none⟩ = w.cell? ⟨b, k, none⟩ := fun k => by unfold World.cell?; rw [hb]
  exact ⟨b, off, ha, Nat.lt_of_lt_of_le hlt hg.size, h1, h2, (key _).trans h3, (key _).trans h4, (key _).trans h5⟩
theorem entInfoP : (Try.prog.info? 73).map (fun i => (i.zero, i.size, i.bytes)) = some (some (.agg #[.string ⟨#[]⟩, .slice none 0 0]), 2, 40) := by kernel_rfl

theorem eps_below {W W' : World} {v : Value} {l : List EP} (h : EPs W v l) (hb : Below W.heap.size W W') : EPs W' v l := fun x hx => ⟨(h x hx).1, vers_bel (h x hx).2.1 hb, fun p hp => ⟨((h x hx).2.2 p hp).1, Nat.lt_of_lt_of_le ((h x hx).2.2 p hp).2 hb.size⟩⟩
end Go.Proofs.Ytdcefhhmddjodaa

namespace Go.Proofs.Ytdcefhhmddjodaa
open Go.RowKit
set_option linter.unusedVariables false
set_option linter.unnecessarySimpa false
set_option linter.unusedSimpArgs false
set_option maxRecDepth 100000

/-! Rows of versions. -/
def vtC (l : List Vr) : List Value := l.flatMap fun v => [.int .u64 (v.time : Int), .bool v.gone, .string v.val]
theorem vtC_len : ∀ l : List Vr, (vtC l).length = l.length * 3
  | [] => rfl
  | v :: l => by
    have := vtC_len l
    unfold vtC at this ⊢
    rw [List.flatMap_cons, List.length_append, this, List.length_cons]
    simp; omega
theorem vtC_snoc (l : List Vr) (v : Vr) : vtC (l ++ [v]) = vtC l ++ [.int .u64 (v.time : Int), .bool v.gone, .string v.val] := by simp [vtC]
theorem vtC_at : ∀ (l : List Vr) (i : Nat), i < l.length → (vtC l)[i * 3]? = some (.int .u64 ((l.getD i vr0).time : Int)) ∧ (vtC l)[i * 3 + 1]? = some (.bool (l.getD i vr0).gone) ∧ (vtC l)[i * 3 + 2]? = some (.string (l.getD i vr0).val)
  | [], i, h => by simp at h
  | v :: l, 0, _ => ⟨rfl, rfl, rfl⟩
  | v :: l, i + 1, h => by
    have := vtC_at l i (by simpa using h)
    have e : vtC (v :: l) = [.int .u64 (v.time : Int), .bool v.gone, .string v.val] ++ vtC l := by simp [vtC]
    rw [e, show (i + 1) * 3 = 3 + i * 3 by omega, show 3 + i * 3 + 1 = 3 + (i * 3 + 1) by omega, show 3 + i * 3 + 2 = 3 + (i * 3 + 2) by omega]
    refine ⟨?_, ?_, ?_⟩
    · rw [List.getElem?_append_right (by simp)]; simpa using this.1
    · rw [List.getElem?_append_right (by simp)]; simpa using this.2.1
    · rw [List.getElem?_append_right (by simp)]; simpa using this.2.2
theorem vtC_vers {w : World} {B n c : Nat} {a : Option Addr} {zs : List Vr} (h : w.ownsRow B 35 3 (.slice a n c) n (vtC zs)) (hn : zs.length = n) (hl : n ≤ 100000) (ht : ∀ v ∈ zs, v.time < 18446744073709551616 ∧ v.val.size ≤ maxLen) : IsVers w a n c zs := by
  refine ⟨⟨hn, fun i hi => ?_⟩, by unfold maxLen; omega⟩
  obtain ⟨g, cap, e, hg, hgl⟩ := own_slice h (by omega)
  injection e with e1 e2 e3
  subst e1 e3
  have hm : zs.getD i vr0 ∈ zs := by rw [List.getD, List.getElem?_eq_getElem (by omega)]; exact List.getElem_mem _
  obtain ⟨h0, h1, h2⟩ := vtC_at zs i (by omega)
  refine ⟨g, 0, rfl, hgl, (ht _ hm).1, (ht _ hm).2, ?_, ?_, ?_⟩
  · rw [Nat.zero_add, h.cellAt (i * 3) (by omega)]; exact h0
  · rw [Nat.zero_add, h.cellAt (i * 3 + 1) (by omega)]; exact h1
  · rw [Nat.zero_add, h.cellAt (i * 3 + 2) (by omega)]; exact h2
theorem vtInfo : (Try.prog.info? 35).map (fun i => (i.zero, i.size, i.bytes)) = some (some (.agg #[.int .u64 0, .bool false, .string ⟨#[]⟩]), 3, 32) := by kernel_rfl
theorem own_fresh {W : World} {B e size n : Nat} {a : Option Addr} {c : Nat} {xs : List Value} (h : W.ownsRow B e size (.slice a n c) n xs) : ∀ p : Addr, a = some p → B ≤ p.block ∧ p.block < W.heap.size := fun p hp => by
  subst hp
  exact h.lt p.block rfl
/-- One entry more. -/
theorem eps_next {wr wy W w9 : World} {acc : List EP} {a a6 a9 : Option Addr} {B i c m6 c6 c9 : Nat} {K : ByteArray} {ch : List Vr}
    (hown : wr.ownsRow B 73 2 (.slice a i c) i (entC acc)) (heps : EPs wr (.slice a i c) acc) (hb : Below wr.heap.size wr wy) (hv : IsVers wy a6 m6 c6 ch) (hf : ∀ p : Addr, a6 = some p → wr.heap.size ≤ p.block ∧ p.block < wy.heap.size)
    (hbW : Below wy.heap.size wy W) (hk : K.size ≤ 60000) (hg9 : W.grownBy w9 (Value.slice a i c).ownBlock) (hk9 : ∀ k, (Value.slice a9 (i + 1) c9).ownBlock = some k → (Value.slice a i c).ownBlock = some k ∨ W.heap.size ≤ k) :
    EPs w9 (.slice a9 (i + 1) c9) (acc ++ [⟨⟨K, ch⟩, a6, m6, c6⟩]) := by
  have hlt := hown.lt
  have s1 := hb.size
  have s2 := hbW.size
  have s3 := hg9.size
  intro x hx
  rcases List.mem_append.1 hx with hx | hx
  · obtain ⟨k1, k2, k3⟩ := heps x hx
    refine ⟨k1, vers_grownK (vers_bel (vers_bel k2 hb) hbW) hg9 (fun p hp => (k3 p hp).1), fun p hp => ⟨fun e => ?_, by have := (k3 p hp).2; omega⟩⟩
    rcases hk9 _ e with h | h
    · exact (k3 p hp).1 h
    · have := (k3 p hp).2; omega
  · rw [List.mem_singleton.1 hx]
    refine ⟨hk, vers_grownK (vers_bel hv hbW) hg9 (fun p hp e => ?_), fun p hp => ⟨fun e => ?_, by have := (hf p hp).2; omega⟩⟩
    · have h1 := (hlt _ e).2
      have h2 := (hf p hp).1
      omega
    · rcases hk9 _ e with h | h
      · have h1 := (hlt _ h).2
        have h2 := (hf p hp).1
        omega
      · have := (hf p hp).2; omega

theorem cells2_new (w : World) (x y : Value) (t : TypeId) : ∀ j u, [x, y][j]? = some u → (w.alloc (.cells #[x, y] t)).cell? ((⟨w.heap.size, 0, none⟩ : Addr).add j) = some u := fun j u h => by
  have hadd : (⟨w.heap.size, 0, none⟩ : Addr).add j = ⟨w.heap.size, j, none⟩ := by unfold Addr.add; split <;> simp_all
  rw [hadd, cell_of_row _ _ _ _ _ _ (heap_alloc_new w _)]
  simpa using h
theorem drewN_belowE (w : World) (n : Nat) : Below w.heap.size w (w.drewN n) := ⟨rfl, rfl, rfl, Nat.le_refl _, fun _ _ => rfl⟩

set_option maxHeartbeats 8000000 in
theorem mentries_any (a : Option Addr) (len cap : Nat) (L : List Im) (w : World) (hz : IsItms w a len cap L) (hl : len ≤ 1000) (hkz : ∀ m ∈ L, m.key.size ≤ 60000) :
    Calls Try.prog 27 #[.agg #[.slice a len cap]] w fun e w' => ∃ a' c, e = .returned (.slice a' (entsM L).length c) ∧ IsEnts w' a' (entsM L).length c (entsM L) ∧ Below w.heap.size w w' := by
  have HZ := Lib.hid hz
  have hel := Lib.hid hz.1
  have HLM := Lib.hid (items_mem hz)
  have HKZ := Lib.hid (fun k (hk : k ∈ keysM L) => show k.size ≤ 60000 from by obtain ⟨m, hm, e⟩ := keysM_from L k hk; rw [← e]; exact hkz m hm)
  have hb0 := (Below.refl w.heap.size w).alloc (Nat.le_refl _) (.cells #[.slice a len cap] 29)
  have hr0 := heap_alloc_new w (.cells #[.slice a len cap] 29)
  obtain ⟨w1, hw1⟩ : ∃ w1, w1 = w.alloc (.cells #[.slice a len cap] 29) := ⟨_, rfl⟩
  rw [← hw1] at hb0 hr0
  have HB0 := Lib.hid hb0
  have HR0 := Lib.hid hr0
  have c0 : w1.cell? ⟨w.heap.size, 0, none⟩ = some (.slice a len cap) := by rw [cell_of_row _ _ _ _ _ _ hr0]; rfl
  have HK := Lib.hid (mkeys_any a len cap L w1 (hz.below hb0) hl)
  have hn0 := keys_len L
  obtain ⟨vi, hvi, hvz, hvs, hvb⟩ := info_parts vtInfo
  obtain ⟨ei, hei, hez, hes, heb⟩ := info_parts entInfoP
  clear hz hb0 hr0 hkz
  go_enter Try.func27, Try.ntmps27
  go_upto_region 2 with fail
  rw [← hw1]
  clear hw1
  go_upto_region 3 with (go_at_call 21; (with_reducible refine HK.out.mono ?_); rintro e w2 ⟨v2, rfl, hk2, hb2⟩)
  obtain ⟨a12, c12, rfl, hkc⟩ := hk2.keys
  have HKC := Lib.hid hkc
  have HB2 := Lib.hid (HB0.out.trans (hb2.mono HB0.out.size))
  have HR2 := Lib.hid ((hb2.block _ (Array.getElem?_eq_some_iff.1 HR0.out).1).trans HR0.out)
  obtain ⟨n, hn⟩ : ∃ n, n = (keysM L).length := ⟨_, rfl⟩
  rw [← hn] at HKC ⊢
  have HNE := Lib.hid (show (entsM L).length = n by rw [entsM_len, hn])
  have HNK := Lib.hid hn
  have hn1 : n ≤ 1000 := by rw [hel.out] at hn0; omega
  clear hkc hk2 hb2 HK c0 hn hn0
  go_wp2_with fail
  go_loopg [3, 5] n (fun g s3 s5 wx => ∃ (i : Nat) (acc : List EP) (a' : Option Addr) (c : Nat), i + g = n ∧ s5 = .int .i64 i ∧ s3 = .slice a' i c ∧ Hid (acc.length = i) ∧ Hid (accE acc = (entsM L).take i) ∧ Hid (wx.ownsRow w2.heap.size 73 2 (.slice a' i c) i (entC acc)) ∧ Hid (EPs wx (.slice a' i c) acc) ∧ Hid (Below w2.heap.size w2 wx))
  case atStart => exact ⟨0, [], none, 0, by omega, rfl, rfl, Lib.hid rfl, Lib.hid rfl, Lib.hid (World.ownsRow_nil _ _ _ _), Lib.hid (fun x hx => by cases hx), Lib.hid (Below.refl _ _)⟩
  case round =>
    obtain ⟨i, acc, a', c, hig, rfl, rfl, HAL, HAE, HO, HE, HB⟩ := hrel
    cases gk with
    | zero =>
      obtain rfl : i = n := by omega
      have HI := Lib.hid (entC_ents HO.out HAL.out (by omega) HE.out)
      rw [HAE.out, ← HNE.out, List.take_length] at HI
      have HNI := Lib.hid HNE.out.symm
      go_wp2_with fail
      go_ret
      refine ⟨a', c, ?_, HI.out, HB2.out.trans (HB.out.mono HB2.out.size)⟩
      rw [HNE.out]; rfl
    | succ g =>
      have hin : i < n := by omega
      have hinz : (i : Int) < (n : Int) := by omega
      obtain ⟨g12, rfl, hg12, hkc⟩ := HKC.out i hin
      have hmem : (keysM L).getD i ⟨#[]⟩ ∈ keysM L := by rw [List.getD, List.getElem?_eq_getElem (by rw [← HNK.out]; exact hin)]; exact List.getElem_mem _
      have HKS := Lib.hid (HKZ.out _ hmem)
      have hnext : (entsM L).take (i + 1) = (entsM L).take i ++ [entOf L ((keysM L).getD i ⟨#[]⟩)] := by
        rw [List.take_add_one]
        congr 1
        unfold entsM
        rw [List.getElem?_map, List.getD, List.getElem?_eq_getElem (by rw [← HNK.out]; exact hin)]
        rfl
      have HNX := Lib.hid hnext
      obtain ⟨K, hK⟩ : ∃ K, K = (keysM L).getD i ⟨#[]⟩ := ⟨_, rfl⟩
      rw [← hK] at hkc HNX HKS
      have HCK := Lib.hid (fun W (hb : Below w2.heap.size w2 W) => (hb.cell (p := ⟨g12, i, none⟩) hg12).trans hkc)
      have HBX := Lib.hid (fun W (hb : Below w2.heap.size w2 W) => show W.cell? ⟨w.heap.size, 0, none⟩ = some (.slice a len cap) by rw [cell_of_row _ _ _ _ _ _ ((hb.block _ (Array.getElem?_eq_some_iff.1 HR2.out).1).trans HR2.out)]; rfl)
      clear hK hkc hmem hnext
      go_upto_region 8 with fail
      go_wp2_with fail
      go_loopg [6, 7] len (fun q s6 s7 wy => ∃ (k m : Nat) (a6 : Option Addr) (c6 : Nat), k + q = len ∧ s7 = .int .i64 k ∧ s6 = .slice a6 m c6 ∧ m ≤ k ∧ Hid (m = (chainOf K (L.take k)).length) ∧ Hid (wy.ownsRow wr.heap.size 35 3 (.slice a6 m c6) m (vtC (chainOf K (L.take k)))) ∧ Hid (Below wr.heap.size wr wy))
      case atStart => exact ⟨0, 0, none, 0, by omega, rfl, rfl, by omega, Lib.hid (by simp [chainOf]), Lib.hid (World.ownsRow_nil _ _ _ _), Lib.hid (Below.refl _ _)⟩
      case round =>
        obtain ⟨k, m, a6, c6, hkq, rfl, rfl, hmk, HM, HC, HY⟩ := hrel
        have HBY := Lib.hid (HB.out.trans (HY.out.mono HB.out.size))
        have e0 := HBX.out wr HBY.out
        have d0 := HCK.out wr HBY.out
        cases gk with
        | zero =>
          obtain rfl : k = len := by omega
          have hC := HC.out
          have hM := HM.out
          rw [List.take_of_length_le (Nat.le_of_eq hel.out)] at hC hM
          have HCV := Lib.hid (vtC_vers hC hM.symm (by omega) (fun v hv => by obtain ⟨x, hx, rfl⟩ := chainOf_mem hv; exact ⟨(HLM.out x hx).2.2, (HLM.out x hx).2.1⟩))
          have HCF := Lib.hid (own_fresh hC)
          have hb5 := (Below.refl wr.heap.size wr).alloc (Nat.le_refl _) (.cells #[.string K, .slice a6 m c6] 73)
          have HB5 := Lib.hid hb5
          have HO5 := Lib.hid (own_belowM (own_belowM HO.out HY.out) hb5)
          have hc3 := Lib.hid (cells2_new wr (.string K) (.slice a6 m c6) 73)
          have q3 := Lib.hid (show ∀ u ∈ [Value.string K, .slice a6 m c6], u.oneCell' = true by simp [Value.oneCell'])
          have q6 := Lib.hid (show w2.heap.size ≤ (wr.alloc (.cells #[.string K, .slice a6 m c6] 73)).heap.size from Nat.le_trans HBY.out.size hb5.size)
          have HNE2 := Lib.hid (fun (w9 : World) (a9 : Option Addr) (c9 : Nat) => eps_next (w9 := w9) (a9 := a9) (c9 := c9) HO.out HE.out HY.out HCV.out HCF.out hb5 HKS.out)
          have HB6 := Lib.hid (fun (w9 : World) (hg : (wr.alloc (.cells #[.string K, .slice a6 m c6] 73)).grownBy w9 (Value.slice a' i c).ownBlock) => (HBY.out.trans (hb5.mono HBY.out.size)).grown hg q6.out (fun k hk => (HO5.out.lt k hk).1))
          clear hC hM hb5
          go_upto_region 5 with (at_builtin; refine wpList_append_own2 rfl _ _ 59 rfl w2.heap.size 73 ei (.agg #[.string ⟨#[]⟩, .slice none 0 0]) 2 40 Try.underlying59 hei hez hes heb rfl (by decide) (.slice a' i c) i (entC acc) rfl HO5.out ⟨wr.heap.size, 0, none⟩ 1 1 [.string K, .slice a6 m c6] rfl rfl hc3.out q3.out (by unfold maxLen; omega) (by omega) q6.out ?_; intro v9 w9 hown9 hg9 hk9; obtain ⟨g9, c9, rfl, _, _⟩ := own_slice hown9 (Nat.succ_pos i); have HO9 := Lib.hid hown9; have HE9 := Lib.hid (HNE2.out w9 _ c9 hg9 hk9); have HB9 := Lib.hid (HB6.out w9 hg9); clear hown9 hg9 hk9)
          clear hc3 q3 q6 HNE2 HB6 HO5 HB5 d0
          go_wp2_with fail
          go_roundg g
          case measure => omega
          case rel => exact ⟨i + 1, acc ++ [⟨⟨K, chainOf K L⟩, a6, m, c6⟩], _, c9, by omega, by go_num, rfl, Lib.hid (by rw [List.length_append, HAL.out]; rfl), Lib.hid (by rw [accE_snoc, HAE.out, HNX.out]; rfl), Lib.hid (by rw [entC_snoc]; exact HO9.out), HE9, HB9⟩
        | succ q =>
          have hkl : k < len := by omega
          have hklz : (k : Int) < (len : Int) := by omega
          have hkL : k < L.length := by rw [hel.out]; exact hkl
          obtain ⟨b, off, rfl, hbl, _, _, _, k0, k1, k2, k3⟩ := (HZ.out.below (HB2.out.trans (HBY.out.mono HB2.out.size))).2.2 k hkl
          have HSN := Lib.hid (show chainOf K (L.take (k + 1)) = if sameK (L.getD k im0).key K then chainOf K (L.take k) ++ [(L.getD k im0).v] else chainOf K (L.take k) by rw [takeI_succ L hkL, chainOf_snoc])
          obtain ⟨⟨mk, ⟨vt, vg, vv⟩⟩, hmm⟩ : ∃ z, z = L.getD k im0 := ⟨_, rfl⟩
          rw [← hmm] at k0 k1 k2 k3 HSN
          simp only at k0 k1 k2 k3 HSN
          unfold sameK at HSN
          obtain ⟨X, hX⟩ : ∃ X, X = (mk.toList == K.toList) := ⟨_, rfl⟩
          rw [← hX] at HSN
          have hX' := hX.symm
          clear hmm hX
          go_upto_region 10 with fail
          cases X with
          | false =>
            have HNC := Lib.hid (show chainOf K (L.take (k + 1)) = chainOf K (L.take k) from HSN.out)
            clear HSN
            go_quiet (fail)
            go_wp2_with fail
            go_roundg q
            case measure => omega
            case rel => exact ⟨k + 1, m, a6, c6, by omega, by go_num, rfl, by omega, Lib.hid (by rw [HNC.out]; exact HM.out), Lib.hid (by rw [HNC.out]; exact own_belowM HC.out (drewN_belowE _ _)), Lib.hid (HY.out.trans ((drewN_belowE _ _).mono HY.out.size))⟩
          | true =>
            have HNC := Lib.hid (show chainOf K (L.take (k + 1)) = chainOf K (L.take k) ++ [⟨vt, vg, vv⟩] from HSN.out)
            clear HSN
            go_quiet (fail)
            obtain ⟨W0, hW0⟩ : ∃ W0, W0 = wr.drewN nq := ⟨_, rfl⟩
            have hbw := drewN_belowE wr nq
            rw [← hW0] at hbw ⊢
            have HBW := Lib.hid hbw
            have e1 := HBX.out W0 (HBY.out.trans (hbw.mono HBY.out.size))
            have j0 := (hbw.cell (p := ⟨b, off + k * 4, none⟩) hbl).trans k0
            have j1 := (hbw.cell (p := ⟨b, off + k * 4 + 1, none⟩) hbl).trans k1
            have j2 := (hbw.cell (p := ⟨b, off + k * 4 + 1 + 1, none⟩) hbl).trans k2
            have j3 := (hbw.cell (p := ⟨b, off + k * 4 + 1 + 2, none⟩) hbl).trans k3
            have hb5 := (Below.refl W0.heap.size W0).alloc (Nat.le_refl _) (.cells #[.int .u64 (vt : Int), .bool vg, .string vv] 35)
            have HC5 := Lib.hid (own_belowM (own_belowM HC.out hbw) hb5)
            have hc3 := Lib.hid (cells3_new W0 (.int .u64 (vt : Int)) (.bool vg) (.string vv) 35)
            have q3 := Lib.hid (show ∀ u ∈ [Value.int .u64 (vt : Int), .bool vg, .string vv], u.oneCell' = true by simp [Value.oneCell'])
            have hY5 := HY.out.trans ((hbw.trans (hb5.mono hbw.size)).mono HY.out.size)
            have q6 := Lib.hid hY5.size
            have HY6 := Lib.hid (fun (w9 : World) (hg : (W0.alloc (.cells #[.int .u64 (vt : Int), .bool vg, .string vv] 35)).grownBy w9 (Value.slice a6 m c6).ownBlock) => hY5.grown hg q6.out (fun k hk => (HC5.out.lt k hk).1))
            clear hW0 hbw hb5 hY5 e0 d0 k0 k1 k2 k3
            go_upto_region 9 with (at_builtin; refine wpList_append_own2 rfl _ _ 71 rfl _ 35 vi (.agg #[.int .u64 0, .bool false, .string ⟨#[]⟩]) 3 32 Try.underlying71 hvi hvz hvs hvb rfl (by decide) (.slice a6 m c6) m (vtC (chainOf K (L.take k))) rfl HC5.out ⟨W0.heap.size, 0, none⟩ 1 1 [.int .u64 (vt : Int), .bool vg, .string vv] rfl rfl hc3.out q3.out (by unfold maxLen; omega) (by omega) q6.out ?_; intro v9 w9 hown9 hg9 hk9; obtain ⟨g9, c9, rfl, _, _⟩ := own_slice hown9 (Nat.succ_pos m); have HC9 := Lib.hid hown9; have HY9 := Lib.hid (HY6.out w9 hg9); clear hown9 hg9 hk9)
            clear hc3 q3 q6 HY6 HC5 e1 j0 j1 j2 j3
            go_wp2_with fail
            go_roundg q
            case measure => omega
            case rel => exact ⟨k + 1, m + 1, _, c9, by omega, by go_num, rfl, by omega, Lib.hid (by rw [HNC.out, List.length_append, ← HM.out]; rfl), Lib.hid (by rw [HNC.out, vtC_snoc]; exact HC9.out), HY9⟩
end Go.Proofs.Ytdcefhhmddjodaa

namespace Go.Proofs.Ytdcefhhmddjodaa
open Go.RowKit
set_option linter.unusedVariables false
set_option linter.unnecessarySimpa false
set_option linter.unusedSimpArgs false
set_option maxRecDepth 100000
theorem cells_len (o : List UInt8) : (Lib.byteCells o).length = o.length := Lib.byteCells_length o
end Go.Proofs.Ytdcefhhmddjodaa

namespace Go.Proofs.Ytdcefhhmddjodaa
open Go.RowKit
set_option linter.unusedVariables false
set_option linter.unnecessarySimpa false
set_option linter.unusedSimpArgs false
set_option maxRecDepth 100000

/-- The byte at a place. -/
def bt (s : ByteArray) (i : Nat) : UInt8 := s.data.toList.getD i 0
theorem bt_nat (s : ByteArray) (i : Nat) (h : i < s.size) : s[i].toNat = (bt s i).toNat := by
  unfold bt
  rw [List.getD, List.getElem?_eq_getElem (by rw [Array.length_toList]; exact h)]
  rfl
/-- Four bytes as a value, and as a key. -/
def four (x : UInt8 × UInt8 × UInt8 × UInt8) : Array Value := #[.int .u8 x.1.toNat, .int .u8 x.2.1.toNat, .int .u8 x.2.2.1.toNat, .int .u8 x.2.2.2.toNat]
def fours (s : ByteArray) (i : Nat) : UInt8 × UInt8 × UInt8 × UInt8 := (bt s i, bt s (i + 1), bt s (i + 2), bt s (i + 3))

theorem i64_add (a k : Int) (h0 : 0 ≤ a + k) (h : a + k ≤ 1000000) : IntKind.i64.wrap (a + k) = a + k := IntWalk.i64_in _ (by omega)
theorem w64_add (a k : Int) (h0 : 0 ≤ a + k) (h : a + k ≤ 1000000) : wrap64 (a + k) = a + k := IntWalk.wrap64_in _ (by omega)
theorem four_wraps (a : Nat) (h : a ≤ 100000) : IntKind.i64.wrap ((a : Int) + 1) = (a : Int) + 1 ∧ IntKind.i64.wrap ((a : Int) + 2) = (a : Int) + 2 ∧ IntKind.i64.wrap ((a : Int) + 3) = (a : Int) + 3 ∧
    wrap64 ((a : Int) + 1) = (a : Int) + 1 ∧ wrap64 ((a : Int) + 2) = (a : Int) + 2 ∧ wrap64 ((a : Int) + 3) = (a : Int) + 3 :=
  ⟨i64_add _ _ (by omega) (by omega), i64_add _ _ (by omega) (by omega), i64_add _ _ (by omega) (by omega), w64_add _ _ (by omega) (by omega), w64_add _ _ (by omega) (by omega), w64_add _ _ (by omega) (by omega)⟩

theorem same_wraps (a b m n : Nat) (h0 : a + m ≤ n) (h1 : b + m ≤ n) (h : n ≤ 100000) : IntKind.i64.wrap ((a : Int) + (m : Int)) = (a : Int) + (m : Int) ∧ IntKind.i64.wrap ((b : Int) + (m : Int)) = (b : Int) + (m : Int) ∧
    wrap64 ((a : Int) + (m : Int)) = (a : Int) + (m : Int) ∧ wrap64 ((b : Int) + (m : Int)) = (b : Int) + (m : Int) :=
  ⟨i64_add _ _ (by omega) (by omega), i64_add _ _ (by omega) (by omega), w64_add _ _ (by omega) (by omega), w64_add _ _ (by omega) (by omega)⟩

set_option maxHeartbeats 2000000 in
theorem fourAt_any (s : ByteArray) (at_ : Nat) (h : at_ + 4 ≤ s.size) (hs : s.size ≤ 100000) (w : World) :
    Calls Try.prog 87 #[.string s, .int .i64 at_] w fun e w' => e = .returned (.agg (four (fours s at_))) ∧ Below w.heap.size w w' := by
  have hs6 : at_ ≤ 100000 := by omega
  have b0 := bt_nat s at_ (by omega)
  have b1 := bt_nat s (at_ + 1) (by omega)
  have b2 := bt_nat s (at_ + 2) (by omega)
  have b3 := bt_nat s (at_ + 3) (by omega)
  have q0 : (at_ : Int) < (s.size : Int) := by omega
  have q1 : (at_ : Int) + 1 < (s.size : Int) := by omega
  have q2 : (at_ : Int) + 2 < (s.size : Int) := by omega
  have q3 : (at_ : Int) + 3 < (s.size : Int) := by omega
  have p1 : (0 : Int) ≤ (at_ : Int) + 1 := by omega
  have p2 : (0 : Int) ≤ (at_ : Int) + 2 := by omega
  have p3 : (0 : Int) ≤ (at_ : Int) + 3 := by omega
  have n1 : ((at_ : Int) + 1).toNat = at_ + 1 := by omega
  have n2 : ((at_ : Int) + 2).toNat = at_ + 2 := by omega
  have n3 : ((at_ : Int) + 3).toNat = at_ + 3 := by omega
  obtain ⟨e1, e2, e3, w1, w2, w3⟩ := four_wraps at_ hs6
  go_enter Try.func87, Try.ntmps87
  go_upto_region 1 with fail
  go_still_tail 16, (by kernel_rfl)
  change wpList _ _ _ _ _ (World.drew _)
  go_wp2_with fail
  exact bodyPost_ret (v := .agg (four (fours s at_))) (by simp [results, Try.results87, go_sem, four, fours]) rfl ⟨rfl, ((Below.refl _ _).alloc (Nat.le_refl _) _).drew⟩

end Go.Proofs.Ytdcefhhmddjodaa

namespace Go.Proofs.Ytdcefhhmddjodaa
open Go.RowKit
set_option linter.unusedVariables false
set_option linter.unnecessarySimpa false
set_option linter.unusedSimpArgs false
set_option maxRecDepth 100000

/-- As many bytes are the same, and no more. -/
def Same (s : ByteArray) (a b m : Nat) : Prop := b + m ≤ s.size ∧ (∀ i, i < m → bt s (a + i) = bt s (b + i)) ∧ (b + m < s.size → ¬ bt s (a + m) = bt s (b + m))
theorem bt_eq {s : ByteArray} {i j : Nat} : (((bt s i).toNat : Int) == ((bt s j).toNat : Int)) = decide (bt s i = bt s j) := by
  by_cases h : bt s i = bt s j
  · rw [h]; simp
  · rw [decide_eq_false h, beq_eq_false_iff_ne]
    intro e
    exact h (UInt8.toNat_inj.1 (by omega))

theorem below_drewN {B : Nat} {w w' : World} (h : Below B w w') (n : Nat) : Below B w (w'.drewN n) := ⟨h.os, h.tape, h.output, h.size, h.block⟩

set_option maxHeartbeats 2000000 in
theorem alike_any (s : ByteArray) (a b : Nat) (hab : a < b) (hb : b ≤ s.size) (hs : s.size ≤ 100000) (w : World) :
    Calls Try.prog 88 #[.string s, .int .i64 a, .int .i64 b] w fun e w' => ∃ m : Nat, e = .returned (.int .i64 m) ∧ Hid (Same s a b m) ∧ Below w.heap.size w w' := by
  go_enter Try.func88, Try.ntmps88
  go_wp2_with fail
  go_loopg [7] (s.size - b) (fun q s7 wx => ∃ m : Nat, b + m + q = s.size ∧ s7 = .int .i64 m ∧ Hid (∀ i, i < m → bt s (a + i) = bt s (b + i)) ∧ Hid (Below w.heap.size w wx))
  case atStart => exact ⟨0, by omega, rfl, Lib.hid (fun i hi => absurd hi (Nat.not_lt_zero _)), Lib.hid (Below.refl _ _)⟩
  case round =>
    obtain ⟨m, hmq, rfl, hsame, hbel⟩ := hrel
    by_cases hlt : b + m < s.size
    · obtain ⟨q, rfl⟩ : ∃ q, gk = q + 1 := ⟨gk - 1, by omega⟩
      have hla : a + m < s.size := by omega
      have b0 := bt_nat s (a + m) hla
      have b1 := bt_nat s (b + m) hlt
      have q0 : (a : Int) + (m : Int) < (s.size : Int) := by omega
      have q1 : (b : Int) + (m : Int) < (s.size : Int) := by omega
      have p0 : (0 : Int) ≤ (a : Int) + (m : Int) := by omega
      have p1 : (0 : Int) ≤ (b : Int) + (m : Int) := by omega
      have n0 : ((a : Int) + (m : Int)).toNat = a + m := by omega
      have n1 : ((b : Int) + (m : Int)).toNat = b + m := by omega
      have hm1 : m ≤ 100000 := by omega
      have HM := Lib.hid (show b + (m + 1) + q = s.size by omega)
      have HL := Lib.hid hlt
      have HC := Lib.hid (show b + m ≤ s.size by omega)
      have hd : decide ((b : Int) + (m : Int) < (s.size : Int)) = true := decide_eq_true q1
      obtain ⟨e0, e1, w0, w1⟩ := same_wraps a b m s.size (by omega) (by omega) hs
      by_cases heq : bt s (a + m) = bt s (b + m)
      · have hbe : (((bt s (a + m)).toNat : Int) == ((bt s (b + m)).toNat : Int)) = true := by rw [bt_eq]; exact decide_eq_true heq
        have HE := Lib.hid (show ∀ i, i < m + 1 → bt s (a + i) = bt s (b + i) from fun i hi => by
          by_cases e : i = m
          · subst e; exact heq
          · exact hsame.out i (by omega))
        clear heq hmq
        go_upto_region 2 with fail
        go_quiet (fail)
        go_wp2_with fail
        go_roundg q
        case measure => omega
        case rel => exact ⟨m + 1, HM.out, by simp, HE, Lib.hid (below_drewN hbel.out nq)⟩
      · have hbe : (((bt s (a + m)).toNat : Int) == ((bt s (b + m)).toNat : Int)) = false := by rw [bt_eq]; exact decide_eq_false heq
        have HE := Lib.hid (show Same s a b m from ⟨by omega, hsame.out, fun _ => heq⟩)
        clear heq hmq
        go_upto_region 2 with fail
        go_quiet (fail)
        go_wp2_with fail
        go_ret
        exact ⟨m, rfl, HE, below_drewN hbel.out nq⟩
    · have hd : decide ((b : Int) + (m : Int) < (s.size : Int)) = false := decide_eq_false (by omega)
      have HE := Lib.hid (show Same s a b m from ⟨by omega, hsame.out, fun h => absurd h hlt⟩)
      obtain ⟨_, e1, _, w1⟩ := same_wraps 0 b m s.size (by omega) (by omega) hs
      clear hmq
      go_upto_region 2 with fail
      go_quiet (fail)
      go_wp2_with fail
      go_ret
      exact ⟨m, rfl, HE, below_drewN hbel.out nq⟩

set_option maxHeartbeats 1000000 in
theorem copyOf_any (d n : Nat) (hd : d ≤ 100000) (hn : n ≤ 100000) (w : World) :
    Calls Try.prog 89 #[.int .i64 d, .int .i64 n] w fun e w' => e = .returned (.string ⟨(ub d ++ ub n).toArray⟩) ∧ Below w.heap.size w w' := by
  have hu1 := Lib.hid (fun w => uint_any d (by omega) w)
  have hu2 := Lib.hid (fun w => uint_any n (by omega) w)
  have hz1 : (⟨(ub d).toArray⟩ : ByteArray).size ≤ 10 := by rw [arr_size]; exact ub_len10 (by omega)
  have hz2 : (⟨(ub n).toArray⟩ : ByteArray).size ≤ 10 := by rw [arr_size]; exact ub_len10 (by omega)
  obtain ⟨U1, hU1⟩ : ∃ U : ByteArray, U = ⟨(ub d).toArray⟩ := ⟨_, rfl⟩
  obtain ⟨U2, hU2⟩ : ∃ U : ByteArray, U = ⟨(ub n).toArray⟩ := ⟨_, rfl⟩
  have hadd := Lib.hid (show U1 ++ U2 = ⟨(ub d ++ ub n).toArray⟩ by rw [hU1, hU2]; apply ByteArray.ext; simp)
  rw [← hU1] at hu1 hz1
  rw [← hU2] at hu2 hz2
  have hwd : IntKind.u64.wrap (d : Int) = (d : Int) := by simp [IntKind.wrap, IntKind.bits, IntKind.signed]; omega
  have hwn : IntKind.u64.wrap (n : Int) = (n : Int) := by simp [IntKind.wrap, IntKind.bits, IntKind.signed]; omega
  have hsA : U1.size + U2.size ≤ 9223372036854775807 := by omega
  clear hU1 hU2
  go_enter Try.func89, Try.ntmps89
  go_wp2_with (first
    | (go_at_call 62; with_reducible refine (hu1.out _).mono ?_; rintro e w5 ⟨rfl, hb5⟩)
    | (go_at_call 62; with_reducible refine (hu2.out _).mono ?_; rintro e w6 ⟨rfl, hb6⟩))
  go_ret
  exact ⟨by rw [← hadd.out]; rfl, hb5.trans (hb6.mono hb5.size)⟩
end Go.Proofs.Ytdcefhhmddjodaa
