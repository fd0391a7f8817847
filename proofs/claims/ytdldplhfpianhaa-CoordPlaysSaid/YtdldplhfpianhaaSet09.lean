/-
  The document's Do: what it makes first; Commit, Abort, Start.
-/
import Derived.Test.YtdldplhfpianhaaSet07
import Derived.Test.YtdldplhfpianhaaSet08
namespace Go.Proofs.Ytdldplhfpianhaa
open Go.RowKit
set_option linter.unusedVariables false
set_option linter.unnecessarySimpa false
set_option linter.unusedSimpArgs false
set_option maxRecDepth 100000

/-! What is so of every run. -/
theorem goOn_is (p : Pn) (x : Rn) : goOn p x = ⟨if x.read.length = p.R.length then if p.W.length = 0 then 5 else 3 else x.stage, x.start, if x.read.length = p.R.length ∧ p.W.length = 0 then x.start else x.commit, x.read, x.voted⟩ := by
  unfold goOn
  by_cases h1 : x.read.length = p.R.length
  · by_cases h2 : p.W.length = 0
    · simp [h1, h2]
    · simp [h1, h2]
  · simp [h1]
theorem RnOk.goOn {p : Pn} {x : Rn} (hs : x.stage = 2) (h1 : x.start < 18446744073709551616) (h2 : x.commit < 18446744073709551616) (h3 : x.read.length ≤ p.R.length) (h4 : x.voted.Nodup ∧ ∀ k ∈ x.voted, k < p.n) (h5 : ∀ d ∈ x.read, d.ok) : RnOk p (goOn p x) := by
  rw [goOn_is]
  refine ⟨?_, h1, ?_, ?_, h3, h4, h5⟩
  · show 1 ≤ (if x.read.length = p.R.length then if p.W.length = 0 then 5 else 3 else x.stage) ∧ (if x.read.length = p.R.length then if p.W.length = 0 then 5 else 3 else x.stage) ≤ 6
    constructor
    · repeat' split
      all_goals omega
    · repeat' split
      all_goals omega
  · show (if x.read.length = p.R.length ∧ p.W.length = 0 then x.start else x.commit) < _
    split
    · exact h1
    · exact h2
  · intro h
    have h : (if x.read.length = p.R.length then if p.W.length = 0 then 5 else 3 else x.stage) = 2 := h
    show x.read.length < p.R.length
    repeat' split at h
    all_goals omega
theorem RnOk.startR {p : Pn} {x : Rn} (h : RnOk p x) (time : Nat) (ht : time < 18446744073709551616) : RnOk p (startR p x time) := by
  unfold Proofs.Ytdldplhfpianhaa.startR
  split
  · exact RnOk.goOn rfl ht h.commit h.most h.voted h.ok
  · exact h
theorem RnOk.tookR {p : Pn} {x : Rn} (h : RnOk p x) (d : Rd) (hd : d.ok) : RnOk p (tookR p x d) := by
  unfold Proofs.Ytdldplhfpianhaa.tookR
  split
  · rename_i hc
    refine RnOk.goOn hc.1 h.start h.commit ?_ h.voted ?_
    · have := h.left hc.1
      show (x.read ++ [d]).length ≤ _
      rw [List.length_append]
      show x.read.length + 1 ≤ _
      omega
    · intro y hy
      rcases List.mem_append.1 hy with hy | hy
      · exact h.ok y hy
      · rw [List.mem_singleton.1 hy]; exact hd
  · exact h
theorem waits_stageB {p : Pn} {x : Rn} {f : Nat → Bool} (h : (waitsP p x).any f = true) : x.stage = 3 := by
  unfold waitsP at h
  split at h
  · assumption
  · simp at h
theorem sub_lenC {α : Type} : ∀ {l m : List α}, l.Pairwise (fun x y => x ≠ y) → (∀ x ∈ l, x ∈ m) → l.length ≤ m.length
  | [], m, _, _ => by simp
  | x :: l, m, hd, hm => by
    obtain ⟨h1, h2⟩ := List.pairwise_cons.1 hd
    obtain ⟨m1, m2, e⟩ := List.append_of_mem (hm x (by simp))
    have := sub_lenC (l := l) (m := m1 ++ m2) h2 (fun y hy => by
      have := hm y (by simp [hy])
      rw [e] at this
      rcases List.mem_append.1 this with h | h
      · exact List.mem_append.2 (.inl h)
      · rcases List.mem_cons.1 h with rfl | h
        · exact absurd rfl (h1 y hy)
        · exact List.mem_append.2 (.inr h))
    rw [e]
    simp at this ⊢
    omega
theorem mem_waitsP {p : Pn} {x : Rn} {k : Nat} (h : k ∈ waitsP p x) : k < p.n ∧ k ∉ x.voted := by
  unfold waitsP at h
  split at h
  · obtain ⟨h1, h2⟩ := List.mem_filter.1 h
    refine ⟨List.mem_range.1 h1, fun hv => ?_⟩
    have : x.voted.contains k = true := List.contains_iff_mem.2 hv
    rw [this, Bool.or_true] at h2
    cases h2
  · simp at h
theorem RnOk.voteR {p : Pn} {x : Rn} (h : RnOk p x) (node : Int) (yes : Bool) : RnOk p (voteR p x node yes) := by
  unfold Proofs.Ytdldplhfpianhaa.voteR
  split
  · rename_i hc
    obtain ⟨k, hk, e⟩ := List.any_eq_true.1 hc
    have e : (k : Int) = node := by simpa using e
    have hkn : node.toNat = k := by omega
    obtain ⟨m1, m2⟩ := mem_waitsP hk
    have h3 := waits_stageB hc
    refine ⟨?_, h.start, h.commit, ?_, h.most, ?_, h.ok⟩
    · show 1 ≤ (if yes = false then 6 else if (waitsP p x).length = 1 then 4 else x.stage) ∧ (if yes = false then 6 else if (waitsP p x).length = 1 then 4 else x.stage) ≤ 6
      constructor
      · repeat' split
        all_goals omega
      · repeat' split
        all_goals omega
    · intro h0
      have h0 : (if yes = false then 6 else if (waitsP p x).length = 1 then 4 else x.stage) = 2 := h0
      repeat' split at h0
      all_goals omega
    · show (x.voted ++ [node.toNat]).Nodup ∧ ∀ k ∈ x.voted ++ [node.toNat], k < p.n
      rw [hkn]
      refine ⟨?_, ?_⟩
      · rw [List.nodup_append]
        refine ⟨h.voted.1, by simp, ?_⟩
        intro a ha b hb
        rw [List.mem_singleton.1 hb]
        intro e2
        exact m2 (by rw [← e2]; exact ha)
      · intro y hy
        rcases List.mem_append.1 hy with hy | hy
        · exact h.voted.2 y hy
        · rw [List.mem_singleton.1 hy]; exact m1
  · exact h
theorem RnOk.commitR {p : Pn} {x : Rn} (h : RnOk p x) (time : Nat) (ht : time < 18446744073709551616) : RnOk p (commitR x time) := by
  unfold Proofs.Ytdldplhfpianhaa.commitR
  split
  · exact ⟨⟨by show 1 ≤ 5; omega, by show 5 ≤ 6; omega⟩, h.start, ht, (fun h => by cases h), h.most, h.voted, h.ok⟩
  · exact h
theorem RnOk.abortR {p : Pn} {x : Rn} (h : RnOk p x) : RnOk p (abortR x) := by
  unfold Proofs.Ytdldplhfpianhaa.abortR
  split
  · exact ⟨⟨by show 1 ≤ 6; omega, Nat.le_refl _⟩, h.start, h.commit, (fun h => by cases h), h.most, h.voted, h.ok⟩
  · exact h
theorem RnOk.tellR {p : Pn} {x : Rn} (h : RnOk p x) (o : Cq) (ho : o.ok) : RnOk p (tellR p x o) := by
  unfold Proofs.Ytdldplhfpianhaa.tellR
  split
  · exact h.startR _ ho.2.1
  · split
    · exact h.tookR _ ho.2.2.1
    · split
      · exact h.voteR _ _
      · split
        · exact h.commitR _ ho.2.1
        · exact h.abortR
theorem RnOk.few {p : Pn} {x : Rn} (h : RnOk p x) : x.voted.length ≤ p.n := by
  have := sub_lenC (m := List.range p.n) h.voted.1 (fun k hk => List.mem_range.2 (h.voted.2 k hk))
  rwa [List.length_range] at this

/-- A run of the document's in memory. -/
structure DoIn (w : World) (p : Pg) (n : Nat) (x : Rn) (da : Option Addr) (dc : Nat) (va : Option Addr) (vc : Nat) : Prop where
  pg : PgOk w p
  rds : IsRds w da x.read.length dc x.read
  rnil : da = none → dc = 0
  ns : IsNs w va x.voted.length x.voted
  vnil : va = none → vc = 0
  rlt : ∀ b off, da = some ⟨b, off, none⟩ → b < w.heap.size
  vlt : ∀ b off, va = some ⟨b, off, none⟩ → b < w.heap.size
  ok : RnOk ⟨p.R, p.W, n⟩ x
  nodes : 1 ≤ n ∧ n ≤ 5
  rn : p.rn ≤ 1000
  wn : p.wn ≤ 1000
theorem DoIn.below {w w' : World} {p : Pg} {n : Nat} {x : Rn} {da : Option Addr} {dc : Nat} {va : Option Addr} {vc : Nat} (h : DoIn w p n x da dc va vc) (hb : Below w.heap.size w w') : DoIn w' p n x da dc va vc :=
  ⟨h.pg.below hb, h.rds.below hb, h.rnil, h.ns.below hb, h.vnil, (fun b off e => Nat.lt_of_lt_of_le (h.rlt b off e) hb.size), (fun b off e => Nat.lt_of_lt_of_le (h.vlt b off e) hb.size), h.ok, h.nodes, h.rn, h.wn⟩
theorem DoIn.chg {w : World} {p : Pg} {n : Nat} {x y : Rn} {da : Option Addr} {dc : Nat} {va : Option Addr} {vc : Nat} (h : DoIn w p n x da dc va vc) (hy : RnOk ⟨p.R, p.W, n⟩ y) (h1 : y.read = x.read) (h2 : y.voted = x.voted) : DoIn w p n y da dc va vc :=
  ⟨h.pg, by rw [h1]; exact h.rds, h.rnil, by rw [h2]; exact h.ns, h.vnil, h.rlt, h.vlt, hy, h.nodes, h.rn, h.wn⟩
def runQ (p : Pg) (n : Nat) (x : Rn) (da : Option Addr) (dc : Nat) (va : Option Addr) (vc : Nat) : Array Value := runCells p.ra p.rn p.rc p.wa p.wn p.wc n (x.stage : Int) x.start x.commit da x.read.length dc va x.voted.length vc
/-- Where a slice lies: where it lay, or in a new block. -/
def NewA (w : World) (a a' : Option Addr) : Prop := a' = a ∨ ∃ g, a' = some ⟨g, 0, none⟩ ∧ w.heap.size ≤ g
/-- What Do tells. -/
def CdoRes (w : World) (p : Pg) (n : Nat) (da0 va0 : Option Addr) (y : Rn) (e : Ending) (w' : World) : Prop :=
  ∃ da dc va vc, e = .returned (.agg (runQ p n y da dc va vc)) ∧ DoIn w' p n y da dc va vc ∧ Below w.heap.size w w' ∧ NewA w da0 da ∧ NewA w va0 va
def OpX (H1 : Nat) (oc : Array Value) : Nat → Obj → Prop := fun g q => g = H1 ∧ q = .cells oc 47 (0, 0)
theorem CrR.start3 (w : World) (b oc : Array Value) : CrR w (OpX (w.heap.size + 1) oc) w.heap.size (w.heap.size + 1 + 1) b zeroRun (((w.alloc (.cells b 40)).alloc (.cells oc 47)).alloc (.cells zeroRun 40)) := by
  refine ⟨(((Below.refl w.heap.size w).alloc (Nat.le_refl _) _).alloc (by simp) _).alloc (by simp; omega) _, by omega, by omega, ?_, ?_, ?_⟩
  · exact ((Below.heap_alloc _ _ _ (by simp; omega)).trans (Below.heap_alloc _ _ _ (by simp))).trans (heap_alloc_new _ _)
  · simpa using heap_alloc_new ((w.alloc (.cells b 40)).alloc (.cells oc 47)) (.cells zeroRun 40)
  · rintro g q ⟨rfl, rfl⟩
    refine ⟨by omega, by omega, (Below.heap_alloc _ _ _ (by simp)).trans ?_⟩
    simpa using heap_alloc_new (w.alloc (.cells b 40)) (.cells oc 47)
section
variable {w wx : World} {H1 H R : Nat} {b z : Array Value}
theorem CrR.opc {a0 a1 a2 a3 a4 a5 a6 a7 a8 : Value} (h : CrR w (OpX H1 #[a0, a1, a2, a3, a4, a5, a6, a7, a8]) H R b z wx) :
    wx.cell? ⟨H1, 0, none⟩ = some a0 ∧ wx.cell? ⟨H1, 1, none⟩ = some a1 ∧ wx.cell? ⟨H1, 2, none⟩ = some a2 ∧ wx.cell? ⟨H1, 3, none⟩ = some a3 ∧ wx.cell? ⟨H1, 4, none⟩ = some a4 ∧ wx.cell? ⟨H1, 5, none⟩ = some a5 ∧ wx.cell? ⟨H1, 6, none⟩ = some a6 ∧ wx.cell? ⟨H1, 7, none⟩ = some a7 ∧ wx.cell? ⟨H1, 8, none⟩ = some a8 := by
  have h1 := (h.ext H1 _ ⟨rfl, rfl⟩).2.2
  refine ⟨?_, ?_, ?_, ?_, ?_, ?_, ?_, ?_, ?_⟩ <;> (rw [cell_of_row _ _ _ _ _ _ h1]; rfl)
theorem CrR.nes {oc : Array Value} (h : CrR w (OpX H1 oc) H R b z wx) : H1 ≠ H ∧ H ≠ H1 := ⟨(h.ext H1 _ ⟨rfl, rfl⟩).1, Ne.symm (h.ext H1 _ ⟨rfl, rfl⟩).1⟩
end
end Go.Proofs.Ytdldplhfpianhaa
