/-
  The program's add.
-/
import Derived.Test.YthcomfcbdlobpaaSet48
import Derived.Deep.RegionLaw
namespace Go.Proofs.Ythcomfcbdlobpaa
open Go.RowKit
set_option linter.unusedVariables false
set_option linter.unnecessarySimpa false
set_option linter.unusedSimpArgs false
set_option maxRecDepth 100000

/-- The store ahead of its chain's getting one version more. -/
structure AddS (w : World) (O : Nat → Prop) (r : Addr) (b P : Nat) (m : Im) (L : List Im) (i : Nat) (a : Option Addr) (n c : Nat) (l : List EP) (x : EP) (g : Nat) (W : World) : Prop where
  st : StM W r b a n c l
  hi : l[i]? = some x
  hx : x.e = ⟨m.key, x.e.ch⟩
  ha : a = some ⟨g, 0, none⟩
  set : (accE l).set i ⟨m.key, x.e.ch ++ [m.v]⟩ = entsM (L ++ [m])
  mv : Moves O (stO b a n c l) w W
  far : ¬ stO b a n c l P
  box : W.heap[P]? = some (.cells #[.int .u64 (m.v.time : Int), .bool m.v.gone, .string m.v.val] 42 (0, 0))
  le : w.heap.size ≤ P
/-- What add tells. -/
def AddTo (w : World) (O : Nat → Prop) (r : Addr) (b : Nat) (m : Im) (L : List Im) (e : Ending) (w' : World) : Prop := e = .returned (.tuple #[]) ∧ ∃ a n c l, StM w' r b a n c l ∧ accE l = entsM (L ++ [m]) ∧ Moves O (stO b a n c l) w w'
section
variable {w W W2 w9 : World} {O : Nat → Prop} {r : Addr} {b P i n c g : Nat} {m : Im} {L : List Im} {a : Option Addr} {l : List EP} {x : EP}
theorem AddS.later (h : AddS w O r b P m L i a n c l x g W) (hb : Below W.heap.size W W2) : AddS w O r b P m L i a n c l x g W2 :=
  ⟨h.st.below hb, h.hi, h.hx, h.ha, h.set, h.mv.trans (Moves.of_below hb), h.far, (hb.block P (Array.getElem?_eq_some_iff.1 h.box).1).trans h.box, h.le⟩
theorem AddS.again (h : AddS w O r b P m L i a n c l x g W) : AddS w O r b P m L i a n c l x g (W.setCell ⟨P, 2, none⟩ (.string m.v.val)) := by
  have hk : ∀ k, k ≠ P → (W.setCell ⟨P, 2, none⟩ (.string m.v.val)).heap[k]? = W.heap[k]? := fun k hk => Below.heap_setCell _ _ _ _ hk
  refine ⟨h.st.stay fun k hO => hk k (fun e => h.far (by rw [← e]; exact hO)), h.hi, h.hx, h.ha, h.set, ⟨h.mv.os, h.mv.tape, h.mv.output, by simpa [World.setCell] using h.mv.size, fun k h1 h2 => ?_, h.mv.own⟩, h.far, ?_, h.le⟩
  · rw [hk k (by have := h.le; omega)]
    exact h.mv.block k h1 h2
  · exact heap_setCell_same _ _ 2 _ _ _ h.box
theorem AddS.cells (h : AddS w O r b P m L i a n c l x g W) : W.cell? ⟨b, 0, none⟩ = some (.slice (some ⟨g, 0, none⟩) n c) ∧ W.cell? ⟨g, i * 2 + 1, none⟩ = some (.slice x.a x.n x.c) ∧ (∀ j, W.frozen? ⟨g, j, none⟩ = false) ∧
    W.cell? ⟨P, 0, none⟩ = some (.int .u64 (m.v.time : Int)) ∧ W.cell? ⟨P, 1, none⟩ = some (.bool m.v.gone) ∧ W.cell? ⟨P, 2, none⟩ = some (.string m.v.val) ∧ (∀ j, W.frozen? ⟨P, j, none⟩ = false) := by
  obtain ⟨hi, e⟩ := List.getElem?_eq_some_iff.1 h.hi
  obtain ⟨g', e1, hg, k0, k1, k2⟩ := h.st.at_ hi
  have ha := h.ha
  rw [e1] at ha
  simp only [Option.some.injEq, Addr.mk.injEq, and_true] at ha
  subst ha
  have hc := h.st.cell
  rw [e1] at hc
  rw [e] at k1
  obtain ⟨b0, b1, b2⟩ := cells3 h.box
  exact ⟨hc, k1, k2, b0, b1, b2, fun j => frozen_of_row _ _ _ _ _ h.box⟩
theorem AddS.row (h : AddS w O r b P m L i a n c l x g W) : W.ownsRow 0 42 3 (.slice x.a x.n x.c) x.n (versC x.e.ch) := (h.st.each x (List.mem_of_getElem? h.hi)).row
/-- Behind the append: what stays of the cells. -/
theorem AddS.stays (h : AddS w O r b P m L i a n c l x g W) (hb : Below W.heap.size W W2) (hg9 : W2.grownBy w9 (Value.slice x.a x.n x.c).ownBlock) : w9.cell? ⟨b, 0, none⟩ = some (.slice (some ⟨g, 0, none⟩) n c) ∧ w9.cell? ⟨g, i * 2 + 1, none⟩ = some (.slice x.a x.n x.c) ∧ (∀ j, w9.frozen? ⟨g, j, none⟩ = false) := by
  have hE := h.st.each x (List.mem_of_getElem? h.hi)
  obtain ⟨h1, h2, h3, _⟩ := h.cells
  have hgl : g < W.heap.size := (h.st.row.lt g (by rw [h.ha]; rfl)).2
  have hbl : b < W.heap.size := (Array.getElem?_eq_some_iff.1 h.st.box).1
  have hs := hb.size
  have kb : w9.heap[b]? = W.heap[b]? := (hg9.block b (by omega) (fun e => by obtain ⟨p, hp, e2⟩ := slice_block e.symm; exact (hE.far p hp).2 e2)).trans (hb.block b hbl)
  have kg : w9.heap[g]? = W.heap[g]? := (hg9.block g (by omega) (fun e => by obtain ⟨p, hp, e2⟩ := slice_block e.symm; exact (hE.far p hp).1 (by rw [h.ha, e2]; rfl))).trans (hb.block g hgl)
  exact ⟨by rw [World.cell?, kb]; exact h1, by rw [World.cell?, kg]; exact h2, fun j => by rw [World.frozen?, kg]; exact h3 j⟩
theorem AddS.done {a9 : Option Addr} {c9 : Nat} (h : AddS w O r b P m L i a n c l x g W) (hb : Below W.heap.size W W2) (hg9 : W2.grownBy w9 (Value.slice x.a x.n x.c).ownBlock) (hk9 : ∀ k, (Value.slice a9 (x.n + 1) c9).ownBlock = some k → (Value.slice x.a x.n x.c).ownBlock = some k ∨ W2.heap.size ≤ k)
    (hown9 : w9.ownsRow 0 42 3 (.slice a9 (x.n + 1) c9) (x.n + 1) (versC x.e.ch ++ [.int .u64 (m.v.time : Int), .bool m.v.gone, .string m.v.val])) :
    AddTo w O r b m L (.returned (.tuple #[])) (w9.setCell ⟨g, i * 2 + 1, none⟩ (.slice a9 (x.n + 1) c9)) := by
  obtain ⟨hi, rfl⟩ := List.getElem?_eq_some_iff.1 h.hi
  rw [← versC_snoc] at hown9
  have hE := h.st.each _ (List.getElem_mem hi)
  obtain ⟨h1, h2⟩ := h.st.put hi h.ha hb hg9 hk9 hown9 (by rw [List.length_append, hE.len]; rfl)
  refine ⟨rfl, a, n, c, _, h1, ?_, h.mv.trans h2⟩
  rw [accE_set, ← h.set, congrArg En.key h.hx]
end

theorem entC_one : ∀ (l : List EP), ∀ u ∈ entC l, u.oneCell' = true
  | [], u, h => by cases h
  | x :: l, u, h => by
    have e : entC (x :: l) = .string x.e.key :: .slice x.a x.n x.c :: entC l := rfl
    rw [e] at h
    rcases List.mem_cons.1 h with rfl | h
    · rfl
    rcases List.mem_cons.1 h with rfl | h
    · rfl
    exact entC_one l u h
/-- Insert, of a store's row, of one entry of no version. -/
theorem ins_at {w W : World} {r : Addr} {b n c i : Nat} {a : Option Addr} {l : List EP} (h : StM w r b a n c l) (hb : Below w.heap.size w W) (hi : i ≤ n) (hn : n < 100000) (K : ByteArray) :
    Calls Try.prog 51 #[.slice a n c, .int .i64 (i : Int), .slice (some ⟨W.heap.size, 0, none⟩) 1 1] (W.alloc (.cells #[.string K, .slice none 0 0] 109))
      (InsTo 0 i n (.slice a n c) (entC l) [.string K, .slice none 0 0] (W.alloc (.cells #[.string K, .slice none 0 0] 109))) := by
  have hs := h.below hb
  refine insert_any 0 i n c W.heap.size 1 a (entC l) [.string K, .slice none 0 0] _ hi (by omega) (hs.row.alloc _) (entC_one l) (fun e => ?_) (heap_alloc_new W _) rfl (by simp [Value.oneCell']) (Nat.zero_le _)
  have := (hs.row.lt _ e).2
  omega
theorem ins_box {w W w4 : World} {r : Addr} {b n c : Nat} {a : Option Addr} {l : List EP} {o : Obj} (h : StM w r b a n c l) (hb : Below w.heap.size w W) (hg : (W.alloc o).grownBy w4 (Value.slice a n c).ownBlock) :
    w4.cell? ⟨b, 0, none⟩ = some (.slice a n c) ∧ ∀ j, w4.frozen? ⟨b, j, none⟩ = false := by
  have hs := h.below hb
  have hbl := (Array.getElem?_eq_some_iff.1 hs.box).1
  have hx : w4.heap[b]? = some (.cells #[.slice a n c] 71 (0, 0)) := by
    rw [hg.block b (by simp; omega) (fun e => hs.nb e.symm), heap_alloc_old _ _ hbl]
    exact hs.box
  exact ⟨by rw [cell_of_row _ _ _ _ _ _ hx]; rfl, fun j => frozen_of_row _ _ _ _ _ hx⟩
/-- The store behind that. -/
theorem add_ins {w w2 W w9 : World} {O : Nat → Prop} {b P n c i c' : Nat} {r : Addr} {a a' : Option Addr} {l : List EP} {L : List Im} {m : Im} {K : ByteArray} (h : StM w2 r b a n c l) (hm : Moves O (stO b a n c l) w w2) (hf : ¬ stO b a n c l P) (hr : w2.heap[P]? = some (.cells #[.int .u64 (m.v.time : Int), .bool m.v.gone, .string m.v.val] 42 (0, 0))) (hP : P = w.heap.size)
    (hn : n < 100000) (hb : Below w2.heap.size w2 W) (hi : i ≤ n) (hl : l.length = n) (hK : K = m.key) (hmore : entsM (L ++ [m]) = (accE l).take i ++ [⟨m.key, [m.v]⟩] ++ (accE l).drop i)
    (hown9 : w9.ownsRow 0 109 2 (.slice a' (n + 1) c') (n + 1) ((entC l).take (i * 2) ++ [.string K, .slice none 0 0] ++ (entC l).drop (i * 2))) (hg9 : (W.alloc (.cells #[.string K, .slice none 0 0] 109)).grownBy w9 (Value.slice a n c).ownBlock)
    (hk9 : ∀ k, (Value.slice a' (n + 1) c').ownBlock = some k → (Value.slice a n c).ownBlock = some k ∨ (W.alloc (.cells #[.string K, .slice none 0 0] 109)).heap.size ≤ k) :
    ∃ (a2 : Option Addr) (n2 c2 : Nat) (l2 : List EP) (x : EP) (g : Nat), i < n2 ∧ n2 ≤ 100000 ∧ x.n ≤ 200 ∧ Hid (AddS w O r b P m L i a2 n2 c2 l2 x g (w9.setCell ⟨b, 0, none⟩ (.slice a' (n + 1) c'))) := by
  subst hK
  have hba : Below w2.heap.size w2 (W.alloc (.cells #[.string m.key, .slice none 0 0] 109)) := hb.alloc hb.size _
  obtain ⟨h1, h2⟩ := h.more hn hba hg9 hk9 hown9
  have hil : i < (l.take i ++ [(⟨⟨m.key, []⟩, none, 0, 0⟩ : EP)] ++ l.drop i).length := by
    rw [List.length_append, List.length_append, List.length_singleton, List.length_take, List.length_drop]; omega
  have htl : (l.take i).length = i := by rw [List.length_take]; omega
  have hget : (l.take i ++ [(⟨⟨m.key, []⟩, none, 0, 0⟩ : EP)] ++ l.drop i)[i]? = some ⟨⟨m.key, []⟩, none, 0, 0⟩ := by
    rw [List.append_assoc, List.getElem?_append_right (by omega), htl, Nat.sub_self]
    rfl
  obtain ⟨g, hga, -⟩ := h1.at_ hil
  have hPl := (Array.getElem?_eq_some_iff.1 hr).1
  have hbP : b ≠ P := fun e => hf (.inl e.symm)
  have hPr : (Value.slice a n c).ownBlock ≠ some P := fun e => hf (.inr (.inl e))
  have hs1 := hba.size
  refine ⟨a', n + 1, c', _, ⟨⟨m.key, []⟩, none, 0, 0⟩, g, by omega, by omega, Nat.zero_le _, Lib.hid ⟨h1, hget, rfl, hga, ?_, hm.trans h2, ?_, ?_, Nat.le_of_eq hP.symm⟩⟩
  · rw [accE_app, accE_app, (accE_take l i).1, (accE_take l i).2, hmore]
    have hal : ((accE l).take i).length = i := by rw [← (accE_take l i).1]; unfold accE; rw [List.length_map, htl]
    have e1 : accE [(⟨⟨m.key, []⟩, none, 0, 0⟩ : EP)] = [⟨m.key, []⟩] := rfl
    rw [e1, List.append_assoc, List.append_assoc, List.set_append_right _ _ (by omega), hal, Nat.sub_self]
    rfl
  · rintro hO
    rcases h2.own P hO with h3 | h3
    · exact hf h3
    · omega
  · rw [Below.heap_setCell _ _ _ _ (Ne.symm hbP), hg9.block P (by omega) (fun e => hPr e.symm), hba.block P hPl]
    exact hr

/-- The store where the key is there. -/
theorem add_there {w w2 : World} {O : Nat → Prop} {b P n c i : Nat} {r : Addr} {a : Option Addr} {l : List EP} {L : List Im} {m : Im} (h : StM w2 r b a n c l) (hm : Moves O (stO b a n c l) w w2) (hf : ¬ stO b a n c l P) (hr : w2.heap[P]? = some (.cells #[.int .u64 (m.v.time : Int), .bool m.v.gone, .string m.v.val] 42 (0, 0))) (hP : P = w.heap.size)
    (ha : accE l = entsM L) (hg : GoodL L) (hl : l.length = n) (hi : i = fAt (entsM L) m.key) (hok : fOk (entsM L) m.key = true) :
    ∃ (a2 : Option Addr) (n2 c2 : Nat) (l2 : List EP) (x : EP) (g : Nat), i < n2 ∧ n2 ≤ 100000 ∧ x.n ≤ 200 ∧ Hid (AddS w O r b P m L i a2 n2 c2 l2 x g w2) := by
  obtain ⟨q1, q2⟩ := find_yes hok
  rw [← hi] at q1 q2
  rw [acc_len ha] at q1
  rw [acc_get ha q1] at q2
  obtain ⟨g, hga, -⟩ := h.at_ q1
  have hset := ents_there hok
  rw [← hi, ← ha] at hset
  have hch : (l[i]).e.ch = chainOf m.key L := by rw [q2]
  refine ⟨a, n, c, l, l[i], g, by omega, h.big, ?_, Lib.hid ⟨h, List.getElem?_eq_getElem q1, by rw [q2], hga, by rw [hch, ← hset], hm, hf, hr, Nat.le_of_eq hP.symm⟩⟩
  rw [← (h.each _ (List.getElem_mem q1)).len, hch]
  exact hg.many _

set_option maxHeartbeats 4000000 in
theorem add_any {w : World} {r : Addr} {b n c : Nat} {a : Option Addr} {l : List EP} {L : List Im} (h : StM w r b a n c l) (ha : accE l = entsM L) (hg : GoodL L) (m : Im) (hn : n < 100000) (h1 : m.key.size ≤ 100) (h2 : m.v.val.size ≤ 500) :
    Calls Try.prog 36 #[.pointer (some r), .string m.key, .agg #[.int .u64 (m.v.time : Int), .bool m.v.gone, .string m.v.val]] w (AddTo w (stO b a n c l) r b m L) := by
  have hb0 := (Below.refl w.heap.size w).alloc (Nat.le_refl _) (.cells #[.int .u64 (m.v.time : Int), .bool m.v.gone, .string m.v.val] 42)
  have hr0 := heap_alloc_new w (.cells #[.int .u64 (m.v.time : Int), .bool m.v.gone, .string m.v.val] 42)
  obtain ⟨w1, hw1⟩ : ∃ w1, w1 = w.alloc (.cells #[.int .u64 (m.v.time : Int), .bool m.v.gone, .string m.v.val] 42) := ⟨_, rfl⟩
  rw [← hw1] at hb0 hr0
  obtain ⟨P, hP⟩ : ∃ P, P = w.heap.size := ⟨_, rfl⟩
  rw [← hP] at hr0
  have HW1 := Lib.hid hw1
  have HP := Lib.hid hP
  have hPf : ¬ stO b a n c l P := fun hO => by have := h.lt P hO; omega
  have HF := Lib.hid (find_any a n c (entsM L) m.key w1 ((h.below hb0).ents ha hg) (by have := h.big; omega) (ents_right hg))
  have hp := h.ptr
  subst hp
  have k0 := (h.below hb0).cell
  have HM1 := Lib.hid (Moves.of_below (O := stO b a n c l) hb0)
  have HS := Lib.hid (h.below hb0)
  have HR0 := Lib.hid hr0
  have HPF := Lib.hid hPf
  obtain ⟨o, ho⟩ : ∃ o, o = fOk (entsM L) m.key := ⟨_, rfl⟩
  obtain ⟨i, hi⟩ : ∃ i, i = fAt (entsM L) m.key := ⟨_, rfl⟩
  rw [← ho, ← hi] at HF
  have hin : i ≤ n := by rw [hi, ← h.len, ← acc_len ha]; exact fAt_le _ _
  have HO := Lib.hid ho
  have HI := Lib.hid hi
  have HA := Lib.hid ha
  have HG := Lib.hid hg
  have HN := Lib.hid h.len
  have HK := Lib.hid (fun W => clone_anyC m.key W (by omega))
  have HV := Lib.hid (fun W => clone_anyC m.v.val W (by omega))
  obtain ⟨K, hK⟩ : ∃ K, K = m.key := ⟨_, rfl⟩
  obtain ⟨T, hT⟩ : ∃ T, T = m.v.time := ⟨_, rfl⟩
  obtain ⟨G, hG⟩ : ∃ G, G = m.v.gone := ⟨_, rfl⟩
  obtain ⟨V, hV⟩ : ∃ V, V = m.v.val := ⟨_, rfl⟩
  rw [← hK] at HF HK h1
  rw [← hV] at HV h2
  rw [← hK, ← hT, ← hG, ← hV]
  rw [← hT, ← hG, ← hV] at hw1
  have HKK := Lib.hid hK
  have HTT := Lib.hid hT
  have HGG := Lib.hid hG
  have HVV := Lib.hid hV
  clear h hb0 hr0 hPf ho hi ha hg hK hT hG hV
  go_enter Try.func36, Try.ntmps36
  go_upto_region 1 with fail
  rw [← hw1, ← hP]
  clear hw1 hP
  go_upto_region 2 with (go_at_call 50; (with_reducible refine HF.out.mono ?_); rintro e w2 ⟨rfl, hb2⟩; have HB2 := Lib.hid hb2; clear hb2)
  clear k0 HF
  have HS2 := Lib.hid (HS.out.below HB2.out)
  have HM2 := Lib.hid (HM1.out.trans (Moves.of_below HB2.out))
  have HR2 := Lib.hid ((HB2.out.block P (Array.getElem?_eq_some_iff.1 HR0.out).1).trans HR0.out)
  clear HS HM1 HR0 HB2
  go_upto_if 18 with fail
  go_cut [] (fun wc => ∃ (a2 : Option Addr) (n2 c2 : Nat) (l2 : List EP) (x : EP) (g : Nat), i < n2 ∧ n2 ≤ 100000 ∧ x.n ≤ 200 ∧ Hid (AddS w (stO b a n c l) ⟨b, 0, none⟩ b P m L i a2 n2 c2 l2 x g wc))
  case first =>
    cases o with
    | true =>
      have HT := Lib.hid (add_there HS2.out HM2.out HPF.out HR2.out HP.out HA.out HG.out HN.out HI.out HO.out.symm)
      go_wp2_with fail
      go_meet
      case rel => exact HT.out
    | false =>
      have hok := HO.out.symm
      have hmore := ents_more hok
      rw [← HI.out, ← HA.out] at hmore
      have HMORE := Lib.hid hmore
      have HINS := Lib.hid (fun W (hb : Below w2.heap.size w2 W) => ins_at HS2.out hb hin hn K)
      have HST := Lib.hid (fun W (hb : Below w2.heap.size w2 W) => And.intro (HS2.out.below hb).cell ((HS2.out.below hb).frozen))
      have HADD := Lib.hid (fun W a' c' w9 (hb : Below w2.heap.size w2 W) h1 h2 h3 => add_ins (a' := a') (c' := c') (w9 := w9) HS2.out HM2.out HPF.out HR2.out HP.out hn hb hin HN.out HKK.out HMORE.out h1 h2 h3)
      clear hok hmore HM2 HPF HR2 HMORE HA HG HV
      obtain ⟨k0, f0⟩ := HST.out w2 (Below.refl _ _)
      go_upto_region 3 with fail
      go_region_with (first
        | (go_at_call 49; (with_reducible refine (HK.out _).mono ?_); rintro e w3 ⟨rfl, hb3⟩; have HB3 := Lib.hid (show Below w2.heap.size w2 w3 from undrewM hb3); clear hb3; obtain ⟨k3, f3⟩ := HST.out w3 HB3.out; have l3 := (Array.getElem?_eq_some_iff.1 (HS2.out.below HB3.out).box).1; have HI3 := Lib.hid (HINS.out w3 HB3.out))
        | (go_at_call 51; (with_reducible refine HI3.out.mono ?_); rintro e w4 ⟨a', c', rfl, hown4, hg4, hk4⟩; obtain ⟨k4, f4⟩ := ins_box HS2.out HB3.out hg4; have HA4 := Lib.hid (HADD.out w3 a' c' w4 HB3.out hown4 hg4 hk4); clear hown4 hg4 hk4))
      all_goals
        go_wp2_with fail
        go_meet
        case rel => exact HA4.out
  case rest =>
    obtain ⟨a2, n2, c2, l2, x, g, hin2, hn2, hxn, HADD⟩ := hcut
    obtain ⟨_, _, _, p0, p1, p2, p3⟩ := HADD.out.cells
    rw [← HVV.out] at p2
    clear HK HO HI HA HG HN HS2 HM2 HR2 p0 p1
    go_upto_region 5 with (go_at_call 49; (with_reducible refine (HV.out _).mono ?_); rintro e w5 ⟨rfl, hb5⟩; have HA5 := Lib.hid (HADD.out.later hb5); clear hb5; obtain ⟨_, _, _, _, _, q2, q3⟩ := HA5.out.cells; rw [← HVV.out] at q2)
    have h6 := HA5.out.again
    rw [← HVV.out] at h6
    obtain ⟨W6, hW6⟩ : ∃ W6, W6 = w5.setCell ⟨P, 2, none⟩ (.string V) := ⟨_, rfl⟩
    rw [← hW6] at h6
    rw [← hW6]
    have HA6 := Lib.hid h6
    have hiz : (i : Int) < (n2 : Int) := by omega
    have hgl : g < W6.heap.size := (h6.st.row.lt g (by rw [h6.ha]; rfl)).2
    have hbl : b < W6.heap.size := (Array.getElem?_eq_some_iff.1 h6.st.box).1
    have hPl : P < W6.heap.size := (Array.getElem?_eq_some_iff.1 h6.box).1
    obtain ⟨e0, e1, e2, d0, d1, d2, d3⟩ := h6.cells
    have HO6 := Lib.hid (fun W (hb : Below W6.heap.size W6 W) => own_belowP h6.row hb)
    have HS6 := Lib.hid (fun W w9 (hb : Below W6.heap.size W6 W) hg9 => h6.stays (w9 := w9) hb hg9)
    have HD6 := Lib.hid (fun W w9 a9 c9 (hb : Below W6.heap.size W6 W) hg9 hk9 ho9 => h6.done (w9 := w9) (a9 := a9) (c9 := c9) hb hg9 hk9 ho9)
    rw [← HTT.out, ← HGG.out, ← HVV.out] at HD6
    rw [← HTT.out] at d0
    rw [← HGG.out] at d1
    rw [← HVV.out] at d2
    obtain ⟨xe, xa, xn, xc⟩ := x
    simp only at hxn e1 HO6 HS6 HD6
    obtain ⟨i0, hj, hy0, hy1, hy2⟩ := info_parts verInfoP
    have HC6 := Lib.hid (show ∀ (W : World), ∀ j u, [Value.int .u64 (T : Int), .bool G, .string V][j]? = some u → (W.alloc (.cells #[.int .u64 (T : Int), .bool G, .string V] 42)).cell? ((⟨W.heap.size, 0, none⟩ : Addr).add j) = some u from fun W j u h => by
      have hadd : (⟨W.heap.size, 0, none⟩ : Addr).add j = ⟨W.heap.size, j, none⟩ := by unfold Addr.add; split <;> simp_all
      rw [hadd, cell_of_row _ _ _ _ _ _ (heap_alloc_new W _)]
      simpa using h)
    have HL1 := Lib.hid (show xn + 1 ≤ maxLen by unfold maxLen; omega)
    have HL2 := Lib.hid (show (xn + 1) * 32 ≤ 140737488355328 by omega)
    have HU := Lib.hid (show ∀ u ∈ [Value.int .u64 (T : Int), .bool G, .string V], u.oneCell' = true by simp [Value.oneCell'])
    clear HADD HA5 HA6 h6 p2 p3 q2 q3 HV hW6 hin2 hn2 hxn hin
    go_region_law (refine step_append_own rfl (.tmp 48) (.tmp 50) 101 rfl 0 42 i0 (.agg #[.int .u64 0, .bool false, .string ⟨#[]⟩]) 3 32 Try.underlying101 hj hy0 hy1 hy2 rfl (by decide) (.slice xa xn xc) xn (versC xe.ch) (by simp [Act.eval, Act.put]) (HO6.out _ (by first | exact ((Below.refl _ _).drew).alloc (Nat.le_refl _) _ | exact ((Below.refl _ _).alloc (Nat.le_refl _) _).drew)) ⟨W6.heap.size, 0, none⟩ 1 1 [.int .u64 (T : Int), .bool G, .string V] (by simp [Act.eval, Act.put]) rfl (HC6.out W6) HU.out HL1.out HL2.out (Nat.zero_le _) ?_; intro v9 w9 hown9 hg9 hk9; obtain ⟨g9, c9, rfl, _, _⟩ := own_slice hown9 (Nat.succ_pos _); obtain ⟨m0, m1, m2⟩ := HS6.out _ w9 (by first | exact ((Below.refl _ _).drew).alloc (Nat.le_refl _) _ | exact ((Below.refl _ _).alloc (Nat.le_refl _) _).drew) hg9; have HE9 := Lib.hid (HD6.out _ w9 _ c9 (by first | exact ((Below.refl _ _).drew).alloc (Nat.le_refl _) _ | exact ((Below.refl _ _).alloc (Nat.le_refl _) _).drew) hg9 hk9 hown9); clear hown9 hg9 hk9)
    all_goals
      exact bodyPost_end (results_none rfl _ _ _) rfl HE9.out
end Go.Proofs.Ythcomfcbdlobpaa
