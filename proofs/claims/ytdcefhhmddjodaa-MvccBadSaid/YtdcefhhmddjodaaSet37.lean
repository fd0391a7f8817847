/-
  Joined: MvcLd, MvcLoadsNo.
-/
import Derived.Test.YtdcefhhmddjodaaSet26
import Derived.Test.YtdcefhhmddjodaaSet07
namespace Go.Proofs.Ytdcefhhmddjodaa
open Go.RowKit
set_option linter.unusedVariables false
set_option linter.unnecessarySimpa false
set_option linter.unusedSimpArgs false
set_option maxRecDepth 100000

theorem IsItms.same {W W' : World} {a : Option Addr} {n c : Nat} {L : List Im} (h : IsItms W a n c L) (hs : W.heap.size ≤ W'.heap.size) (hk : 0 < n → ∀ b off, a = some ⟨b, off, none⟩ → W'.heap[b]? = W.heap[b]?) : IsItms W' a n c L := by
  refine ⟨h.1, h.2.1, fun i hi => ?_⟩
  obtain ⟨b, off, ha, h1, h2, h3, h4, k0, k1, k2, k3⟩ := h.2.2 i hi
  have hb := hk (by omega) b off ha
  exact ⟨b, off, ha, Nat.lt_of_lt_of_le h1 hs, h2, h3, h4, by rw [World.cell?, hb]; exact k0, by rw [World.cell?, hb]; exact k1, by rw [World.cell?, hb]; exact k2, by rw [World.cell?, hb]; exact k3⟩
theorem StV.same {W W' : World} {s : Value} {L : List Im} (h : StV W s L) (hs : W.heap.size ≤ W'.heap.size) (hk : ∀ k off n c, 0 < L.length → s = .slice (some ⟨k, off, none⟩) n c → W'.heap[k]? = W.heap[k]?) : StV W' s L := by
  obtain ⟨a, cap, rfl, h2, h3⟩ := h
  exact ⟨a, cap, rfl, h2.same hs (fun h0 b off e => hk b off _ _ h0 (by rw [e])), h3⟩

/-- The block of a store's row. -/
def rowB (L : List Im) (s : Value) (k : Nat) : Prop := 0 < L.length ∧ ∃ off n c, s = .slice (some ⟨k, off, none⟩) n c
theorem rowB_lt {W : World} {s : Value} {L : List Im} (h : StV W s L) {k : Nat} (hk : rowB L s k) : k < W.heap.size := by
  obtain ⟨a, cap, rfl, h2, h3⟩ := h
  obtain ⟨h0, off, n, c, e⟩ := hk
  obtain ⟨b, o2, e2, h4, _⟩ := h2.2.2 0 h0
  injection e with e
  rw [e] at e2
  simp only [Option.some.injEq, Addr.mk.injEq] at e2
  omega
/-- Blocks that stay, the box of the document's store, its row. -/
def farD (X : Nat → Obj → Prop) (g7 : Nat) (L : List Im) (s : Value) : Nat → Prop := fun k => (∃ o, X k o) ∨ k = g7 ∨ rowB L s k
structure DuSt (S : MvcC) (w : World) (X : Nat → Obj → Prop) (g7 : Nat) (r : Addr) (M1 M2 : List Im) (s : Value) (wx : World) : Prop where
  st : MSt S w w.heap.size (farD X g7 M2 s) r M1 wx
  ext : ∀ k o, X k o → wx.heap[k]? = some o
  box : wx.heap[g7]? = some (.cells #[s] 29 (0, 0))
  val : StV wx s M2
  ne : w.heap.size ≤ g7 ∧ ∀ k o, X k o → k < g7
  apart : ∀ k, rowB M2 s k → k ≠ g7
theorem MSt.far_lt {S : MvcC} {w0 w : World} {B : Nat} {far : Nat → Prop} {r : Addr} {L : List Im} (h : MSt S w0 B far r L w) : ∀ k, far k → k < w.heap.size := by obtain ⟨_, _, _, _, _, hf⟩ := h; exact hf
theorem MSt.size {S : MvcC} {w0 w : World} {B : Nat} {far : Nat → Prop} {r : Addr} {L : List Im} (h : MSt S w0 B far r L w) : B ≤ w.heap.size := by obtain ⟨_, _, _, _, h, _⟩ := h; exact h
section
variable {S : MvcC} {w wx w' : World} {X : Nat → Obj → Prop} {g7 : Nat} {r r' : Addr} {M1 M1' M2 M2' : List Im} {s s' : Value}
theorem DuSt.far (h : DuSt S w X g7 r M1 M2 s wx) (hs : MSt S w w.heap.size (farD X g7 M2 s) r' M1' w') (hf : FarSame (farD X g7 M2 s) wx w') : DuSt S w X g7 r' M1' M2 s w' :=
  ⟨hs, fun k o hk => (hf.2 _ (.inl ⟨o, hk⟩)).trans (h.ext k o hk), (hf.2 _ (.inr (.inl rfl))).trans h.box,
    h.val.same hf.1 (fun k off n c h0 e => hf.2 k (.inr (.inr ⟨h0, off, n, c, e⟩))), h.ne, h.apart⟩
theorem farSame_of {far : Nat → Prop} (hf : ∀ k, far k → k < wx.heap.size) (hb : Below wx.heap.size wx w') : FarSame far wx w' := ⟨hb.size, fun k hk => hb.block k (hf k hk)⟩
theorem DuSt.later (h : DuSt S w X g7 r M1 M2 s wx) (hb : Below wx.heap.size wx w') : DuSt S w X g7 r M1 M2 s w' :=
  h.far (h.st.later hb) (farSame_of h.st.far_lt hb)
theorem DuSt.below (h : DuSt S w X g7 r M1 M2 s wx) : Below w.heap.size w wx := h.st.below
theorem DuSt.boxcell (h : DuSt S w X g7 r M1 M2 s wx) : wx.cell? ⟨g7, 0, none⟩ = some s := by rw [cell_of_row _ _ _ _ _ _ h.box]; rfl
theorem DuSt.install (h : DuSt S w X g7 r M1 M2 s wx) (m : Im) (hl : M1.length ≤ 1000) (hm : m.ok) :
    Calls Try.prog 11 #[.pointer (some r), .string m.key, .agg #[.int .u64 (m.v.time : Int), .bool m.v.gone, .string m.v.val]] wx fun e w' => e = .returned (.int .i64 ((insM M1 m).2 : Int)) ∧ DuSt S w X g7 r (insM M1 m).1 M2 s w' :=
  (h.st.install m hl hm.1 hm.2.1 hm.2.2).mono fun e w' ⟨he, hs, hf⟩ => ⟨he, h.far hs hf⟩
theorem DuSt.at_ (h : DuSt S w X g7 r M1 M2 s wx) (key : ByteArray) (t : Nat) (h1 : key.size ≤ maxLen) (h2 : t < 18446744073709551616) :
    Calls Try.prog 12 #[.pointer (some r), .string key, .int .u64 (t : Int)] wx fun e w' => e = .returned (.tuple #[.agg (bestOf key t M1).1.cells, .bool (bestOf key t M1).2]) ∧ DuSt S w X g7 r M1 M2 s w' ∧ Below wx.heap.size wx w' :=
  (h.st.at_ key t h1 h2).mono fun e w' ⟨he, hs, hb⟩ => ⟨he, h.later hb, hb⟩
/-- The document's store takes a new value. -/
theorem DuSt.put {wd : World} (h : DuSt S w X g7 r M1 M2 s wx) (hb : Below wx.heap.size wx wd) (hv : StV wd s' M2') (hc : s' = s ∨ ∃ g n c, s' = .slice (some ⟨g, 0, none⟩) n c ∧ wx.heap.size ≤ g) :
    DuSt S w X g7 r M1 M2' s' (wd.setCell ⟨g7, 0, none⟩ s') := by
  have hl := h.st.far_lt
  have h7 : g7 < wx.heap.size := hl _ (.inr (.inl rfl))
  have hold : ∀ k, rowB M2' s' k → rowB M2 s k ∨ wx.heap.size ≤ k := by
    rintro k ⟨h0, off, n, c, e⟩
    rcases hc with rfl | ⟨g, n2, c2, e2, hg⟩
    · left
      obtain ⟨a1, cap1, e1, _⟩ := h.val
      obtain ⟨a2, cap2, e2, _⟩ := hv
      rw [e1] at e2
      injection e2 with _ e2
      exact ⟨by omega, off, n, c, e⟩
    · right
      rw [e2] at e
      injection e with e
      simp only [Option.some.injEq, Addr.mk.injEq] at e
      omega
  have hap : ∀ k, rowB M2' s' k → k ≠ g7 := fun k hk => by
    rcases hold k hk with h1 | h1
    · exact h.apart k h1
    · omega
  obtain ⟨hn7, hnX⟩ := h.ne
  have hst := h.st.later hb
  obtain ⟨O, hat, hO, hb0, hB, hf⟩ := hst
  obtain ⟨O1, hat1, hO1, _, _, _⟩ := id h.st
  refine ⟨⟨O1, S.stay hat1 fun k hk => ?_, fun k hk => ⟨(hO1 k hk).1, ?_⟩, hb0.setCell (show w.heap.size ≤ g7 from hn7) _, by simpa [World.setCell] using hB, ?_⟩, ?_, ?_, ?_, h.ne, hap⟩
  · have hlt := S.lt hat1 k hk
    have hk7 : k ≠ g7 := fun e => (hO1 k hk).2 (.inr (.inl e))
    exact (Below.heap_setCell _ _ _ _ hk7).trans (hb.block k hlt)
  · rintro (e | e | e)
    · exact (hO1 k hk).2 (.inl e)
    · exact (hO1 k hk).2 (.inr (.inl e))
    · rcases hold k e with h1 | h1
      · exact (hO1 k hk).2 (.inr (.inr h1))
      · have := S.lt hat1 k hk
        omega
  · intro k hk
    have hs := hb.size
    have : k < wd.heap.size := by
      rcases hk with e | e | e
      · have := hl k (.inl e)
        omega
      · omega
      · exact rowB_lt hv e
    simpa [World.setCell] using this
  · intro k o hk
    exact (Below.heap_setCell _ _ _ _ (by have := hnX k o hk; show k ≠ g7; omega)).trans ((hb.block _ (hl k (.inl ⟨o, hk⟩))).trans (h.ext k o hk))
  · exact heap_setCell_same _ _ 0 _ _ _ ((hb.block _ h7).trans h.box)
  · exact hv.same (by simp [World.setCell]) (fun k off n c h0 e => Below.heap_setCell _ _ _ _ (hap k ⟨h0, off, n, c, e⟩))
/-- Where it begins. -/
theorem DuSt.start {w4 w5 : World} (hX : ∀ k o, X k o → w4.heap[k]? = some o) (hs : MSt S w w.heap.size (fun k => ∃ o, X k o) r [] w5) (hf : FarSame (fun k => ∃ o, X k o) w4 w5) :
    DuSt S w X w5.heap.size r [] [] (.slice none 0 0) (w5.alloc (.cells #[.slice none 0 0] 29)) := by
  have hb : Below w5.heap.size w5 (w5.alloc (.cells #[.slice none 0 0] 29)) := (Below.refl _ _).alloc (Nat.le_refl _) _
  have hl := hs.far_lt
  have hsz := hs.size
  have hm := hs.more hb w5.heap.size (Nat.le_refl _) (by simp)
  obtain ⟨O, hat, hO, hb0, hB, hfl⟩ := hm
  refine ⟨⟨O, hat, fun k hk => ⟨(hO k hk).1, ?_⟩, hb0, hB, ?_⟩, fun k o hk => (hb.block _ (hl k ⟨o, hk⟩)).trans ((hf.2 _ ⟨o, hk⟩).trans (hX k o hk)), heap_alloc_new w5 _,
    ⟨none, 0, rfl, ⟨rfl, Nat.zero_le _, fun i hi => by simp at hi⟩, fun _ _ => rfl⟩, ⟨hsz, fun k o hk => hl k ⟨o, hk⟩⟩, ?_⟩
  · rintro (e | e | ⟨h0, _⟩)
    · exact (hO k hk).2 (.inl e)
    · exact (hO k hk).2 (.inr e)
    · simp at h0
  · rintro k (e | e | ⟨h0, _⟩)
    · exact hfl k (.inl e)
    · exact hfl k (.inr e)
    · simp at h0
  · rintro k ⟨h0, _⟩
    simp at h0
end
section
variable {S : MvcD} {w wx w' : World} {X : Nat → Obj → Prop} {g7 : Nat} {r r' : Addr} {M1 M2 : List Im} {s : Value}
theorem DuSt.image (h : DuSt S.toMvcC w X g7 r M1 M2 s wx) (h1 : rightE (entsM M1) = true) (h2 : SmallE (entsM M1)) (h3 : (entsM M1).length ≤ 1000) (h4 : (insideB (entsM M1)).length ≤ 60000) :
    Calls Try.prog 23 #[.pointer (some r), .agg tab] wx fun e w' => e = .returned (.tuple #[.string (imgS M1), .int .i64 0]) ∧ DuSt S.toMvcC w X g7 r M1 M2 s w' :=
  (h.st.image h1 h2 h3 h4).mono fun e w' ⟨he, _, hb⟩ => ⟨he, h.later hb⟩
theorem DuSt.load (h : DuSt S.toMvcC w X g7 r M1 M2 s wx) (p : ByteArray) (es : List En) (h1 : p.size ≤ 90000) (h2 : unp p.data.toList = (insideB es, 0)) (h3 : rightE es = true) (h4 : OkE es) (h5 : shortKV es) :
    Calls Try.prog 25 #[.agg tab, .string (blkS p)] wx fun e w' => ∃ r, e = .returned (.tuple #[.pointer (some r), .int .i64 0]) ∧ DuSt S.toMvcC w X g7 r (flatE es) M2 s w' ∧ Below wx.heap.size wx w' :=
  (mst_load S h.st.below h.st.size h.st.far_lt p es h1 h2 h3 h4 h5).mono fun e w' ⟨r, he, hs, hb⟩ => ⟨r, he, h.far hs (farSame_of h.st.far_lt hb), hb⟩
end
/-- What MvccLoads keeps: the box of what is asked, the table. -/
def XL (w : World) (qc : Array Value) (g5 : Nat) : Nat → Obj → Prop := fun k o => (k = w.heap.size ∧ o = .cells qc 40 (0, 0)) ∨ (k = g5 ∧ o = .cells tab 55 (0, 0))
theorem DuSt.tb {S : MvcC} {w wx : World} {qc : Array Value} {g5 g7 : Nat} {r : Addr} {M1 M2 : List Im} {s : Value} (h : DuSt S w (XL w qc g5) g7 r M1 M2 s wx) : wx.heap[g5]? = some (.cells tab 55 (0, 0)) := h.ext _ _ (.inr ⟨rfl, rfl⟩)
theorem DuSt.qcell {S : MvcC} {w wx : World} {qc : Array Value} {g5 g7 : Nat} {r : Addr} {M1 M2 : List Im} {s : Value} (h : DuSt S w (XL w qc g5) g7 r M1 M2 s wx) (j : Nat) : wx.cell? ⟨w.heap.size, j, none⟩ = qc[j]? := cell_of_row _ _ _ _ _ _ (h.ext _ _ (.inl ⟨rfl, rfl⟩))
/-- What stands behind the document's Install, whichever order was drawn. -/
structure DocIns (wc : World) (p : Nat) (s s' : Value) (L' : List Im) (wd : World) : Prop where
  row : wd.heap[p]? = some (.cells #[s'] 29 (0, 0))
  below : Below wc.heap.size wc wd
  val : StV wd s' L'
  new : s' = s ∨ ∃ g n c, s' = .slice (some ⟨g, 0, none⟩) n c ∧ wc.heap.size ≤ g
theorem docInsA {wc w6 : World} {s s' : Value} {L' : List Im} (h : Below wc.drew.heap.size wc.drew w6) (hv : StV w6 s' L') (hn : s' = s ∨ ∃ g n c, s' = .slice (some ⟨g, 0, none⟩) n c ∧ wc.drew.heap.size ≤ g) :
    DocIns wc w6.heap.size s s' L' (w6.alloc (.cells #[s'] 29)) :=
  ⟨heap_alloc_new w6 _, (undrewM h).alloc h.size _, hv.below ((Below.refl _ _).alloc (Nat.le_refl _) _), hn⟩
theorem docInsB {wc w6 : World} {x s s' : Value} {L L' : List Im} (h : Below (wc.alloc (.cells #[x] 29)).drew.heap.size (wc.alloc (.cells #[x] 29)).drew w6) (hv : StV w6 s' L')
    (hn : s' = s ∨ ∃ g n c, s' = .slice (some ⟨g, 0, none⟩) n c ∧ (wc.alloc (.cells #[x] 29)).drew.heap.size ≤ g) (ha : StV wc s L) :
    DocIns wc wc.heap.size s s' L' (w6.setCell ⟨wc.heap.size, 0, none⟩ s') := by
  have h1 := undrewM h
  have h0 : Below wc.heap.size wc w6 := ((Below.refl _ _).alloc (Nat.le_refl _) _).trans (h1.mono (by simp))
  have hp : w6.heap[wc.heap.size]? = some (.cells #[x] 29 (0, 0)) := by
    rw [h.block wc.heap.size (by simp)]
    exact heap_alloc_new wc _
  have hsz : (wc.alloc (.cells #[x] 29)).drew.heap.size = wc.heap.size + 1 := by simp
  refine ⟨heap_setCell_same _ _ 0 _ _ _ hp, h0.setCell (Nat.le_refl _) _, hv.same (by simp [World.setCell]) (fun k off n c hl e => Below.heap_setCell _ _ _ _ ?_), ?_⟩
  · show k ≠ wc.heap.size
    rcases hn with rfl | ⟨g, n2, c2, e2, hg⟩
    · obtain ⟨a1, cap1, e1, _⟩ := id ha
      obtain ⟨a2, cap2, e2, _⟩ := hv
      have e3 := e1
      rw [e2] at e3
      injection e3 with _ e3
      have := rowB_lt ha (k := k) ⟨by omega, off, n, c, e⟩
      omega
    · rw [e2] at e
      injection e with e
      simp only [Option.some.injEq, Addr.mk.injEq] at e
      omega
  · rcases hn with h | ⟨g, n2, c2, e2, hg⟩
    · exact .inl h
    · exact .inr ⟨g, n2, c2, e2, by omega⟩
theorem zero_kept1 {w w' : World} {u : Value} {t : TypeId} (h : Below (w.alloc (.cells #[u] t)).drew.heap.size (w.alloc (.cells #[u] t)).drew w') :
    w'.cell? ⟨w.heap.size, 0, none⟩ = some u ∧ ∀ j, w'.frozen? ⟨w.heap.size, j, none⟩ = false := by
  have h0 : w'.heap[w.heap.size]? = some (.cells #[u] t (0, 0)) := by
    have := h.block w.heap.size (by simp)
    rw [this]
    exact heap_alloc_new w _
  exact ⟨by rw [cell_of_row _ _ _ _ _ _ h0]; rfl, fun j => frozen_of_row _ _ _ _ _ h0⟩
end Go.Proofs.Ytdcefhhmddjodaa

namespace Go.Proofs.Ytdcefhhmddjodaa
open Go.RowKit
set_option linter.unusedVariables false
set_option linter.unnecessarySimpa false
set_option linter.unusedSimpArgs false
set_option maxRecDepth 100000

/-- The box of what is asked. -/
structure QW (w : World) (qc : Array Value) (wx : World) : Prop where
  below : Below w.heap.size w wx
  q : wx.heap[w.heap.size]? = some (.cells qc 40 (0, 0))
theorem QW.start (w : World) (qc : Array Value) : QW w qc (w.alloc (.cells qc 40)) := ⟨(Below.refl _ _).alloc (Nat.le_refl _) _, heap_alloc_new w _⟩
theorem QW.lt {w wx : World} {qc : Array Value} (h : QW w qc wx) : w.heap.size < wx.heap.size := (Array.getElem?_eq_some_iff.1 h.q).1
theorem QW.later {w wx w' : World} {qc : Array Value} (h : QW w qc wx) (hb : Below wx.heap.size wx w') : QW w qc w' := ⟨h.below.trans (hb.mono h.below.size), (hb.block _ h.lt).trans h.q⟩
theorem QW.cell {w wx : World} {qc : Array Value} (h : QW w qc wx) (j : Nat) : wx.cell? ⟨w.heap.size, j, none⟩ = qc[j]? := cell_of_row _ _ _ _ _ _ h.q

set_option maxHeartbeats 4000000 in
theorem loads_no (S : MvcD) (a : Option Addr) (len cap : Nat) (L : List Im) (q : Ask) (w : World) (hz : IsItms w a len cap L)
    (h : ¬ (fewM L 60 = true ∧ q.key.size ≤ 300)) :
    Calls Try.prog 4 #[.slice a len cap, .agg q.cells] w fun e w' => e = .returned (.bool true) ∧ Below w.heap.size w w' := by
  have haw := Lib.hid (mawake_any S.toMvcC)
  have HF1 := Lib.hid (fun W (hb : Below w.heap.size w W) => mfew_any a len cap 60 L W (hz.below hb) (by omega))
  rw [show ((60 : Nat) : Int) = 60 from rfl] at HF1
  obtain ⟨F1, hF1⟩ : ∃ F1, F1 = fewM L 60 := ⟨_, rfl⟩
  rw [← hF1] at HF1 h
  obtain ⟨qk, qt, ql, qh, qm⟩ := q
  simp only at h
  have HP0 := Lib.hid (QW.start w #[.string qk, .int .u64 (qt : Int), .string ql, .string qh, .int .i64 qm])
  clear hz hF1
  have hcs : F1 = false ∨ (F1 = true ∧ (300 : Int) < (qk.size : Int) ∧ decide (300 < qk.size) = true) := by
    cases F1 with
    | false => exact .inl rfl
    | true => exact .inr ⟨rfl, by simp at h; omega, by simp at h; simpa using h⟩
  clear h
  unfold Ask.cells
  rcases hcs with rfl | ⟨rfl, c1, c2⟩
  all_goals
    go_enter Try.func4, Try.ntmps4
    go_upto_region 2 with (first
      | (go_at_call 7; refine (haw.out _).mono ?_; rintro e w1 ⟨rfl, hb1⟩; have HP1 := Lib.hid (HP0.out.later hb1); clear hb1; have q0 := HP1.out.cell 0; simp only [List.getElem?_toArray, List.getElem?_cons_zero, List.getElem?_cons_succ] at q0)
      | (go_at_call 8; (with_reducible refine (HF1.out _ HP1.out.below).mono ?_); rintro e w2 ⟨rfl, rfl⟩))
    clear q0
    go_wp2_with (go_at_call 7; refine (haw.out _).mono ?_; rintro e w9 ⟨rfl, hb9⟩; have HB9 := Lib.hid hb9; clear hb9)
    go_ret
    exact ⟨rfl, HP1.out.below.trans (HB9.out.mono HP1.out.below.size)⟩
end Go.Proofs.Ytdcefhhmddjodaa
