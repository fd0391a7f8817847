/-
  The steps of MvccPlays's great comparison: what each of its operations leaves.
-/
import Derived.Test.YtdcefhhmddjodaaSet37
import Derived.Test.YtdcefhhmddjodaaSet21
import Derived.Test.YtdcefhhmddjodaaSet07
import Derived.Test.YtdcefhhmddjodaaRegionG
namespace Go.Proofs.Ytdcefhhmddjodaa
open Go.RowKit
set_option linter.unusedVariables false
set_option linter.unnecessarySimpa false
set_option linter.unusedSimpArgs false
set_option maxRecDepth 100000

/-- What the slots of the comparison hold. -/
def psiP (b off qn qc i g6 g11 g13 : Nat) (s : Value) (r : Addr) (K lo hi : ByteArray) (T t N vt : Nat) (vg : Bool) (vv : ByteArray) (most : Int) (ok B : Bool) (Wl : List Wt) : Nat → Value → World → Prop := fun tm v w =>
  match tm with
  | 1 => v = .slice (some ⟨b, off, none⟩) qn qc | 5 => v = .pointer (some r) | 6 => v = .pointer (some ⟨g6, 0, none⟩) | 10 => v = .int .i64 (i : Int) | 11 => v = .pointer (some ⟨g11, 0, none⟩) | 12 => v = .bool ok
  | 13 => v = .pointer (some ⟨g13, 0, none⟩) | 14 => v = .bool ok | 15 => v = .int .u64 (T : Int) | 16 => v = .int .i64 (N : Int) | 142 => v = .pointer (some r) | 143 => v = .slice (some ⟨b, off, none⟩) qn qc
  | 144 => v = .int .i64 (i : Int) | 145 => v = .pointer (some ⟨b, off + i * 5, none⟩) | 146 => v = .pointer (some ⟨b, off + i * 5, none⟩) | 147 => v = .string K | 148 => v = .bool B | 149 => v = .int .i64 (N : Int)
  | 150 => v = .bool B | 151 => v = .bool false | 152 => v = .bool false | 153 => v = .agg #[.int .u64 (vt : Int), .bool vg, .string vv] | 154 => v = .agg #[.int .u64 (vt : Int), .bool vg, .string vv] | 155 => v = .bool false
  | 156 => v = .bool false | 157 => v = .bool false | 158 => v = .bool ok | 159 => v = .bool ok | 160 => v = .bool false | 161 => v = .bool false
  | 162 => v = .bool false | 163 => v = .pointer (some r) | 164 => v = .slice (some ⟨b, off, none⟩) qn qc | 165 => v = .int .i64 (i : Int) | 166 => v = .pointer (some ⟨b, off + i * 5, none⟩) | 167 => v = .pointer (some ⟨b, off + i * 5, none⟩)
  | 168 => v = .string K | 169 => v = .int .u64 (T : Int) | 170 => v = .int .u64 (T : Int) | 171 => v = .bool false | 172 => v = .bool false | 173 => v = .bool false
  | 174 => v = .pointer (some r) | 175 => v = .slice (some ⟨b, off, none⟩) qn qc | 176 => v = .int .i64 (i : Int) | 177 => v = .pointer (some ⟨b, off + i * 5, none⟩) | 178 => v = .pointer (some ⟨b, off + i * 5 + 2, none⟩) | 179 => v = .string lo
  | 180 => v = .slice (some ⟨b, off, none⟩) qn qc | 181 => v = .int .i64 (i : Int) | 182 => v = .pointer (some ⟨b, off + i * 5, none⟩) | 183 => v = .pointer (some ⟨b, off + i * 5 + 3, none⟩) | 184 => v = .string hi | 185 => v = .slice (some ⟨b, off, none⟩) qn qc
  | 186 => v = .int .i64 (i : Int) | 187 => v = .pointer (some ⟨b, off + i * 5, none⟩) | 188 => v = .pointer (some ⟨b, off + i * 5 + 1, none⟩) | 189 => v = .int .u64 (t : Int) | 190 => v = .slice (some ⟨b, off, none⟩) qn qc | 191 => v = .int .i64 (i : Int)
  | 192 => v = .pointer (some ⟨b, off + i * 5, none⟩) | 193 => v = .pointer (some ⟨b, off + i * 5 + 4, none⟩) | 194 => v = .int .i64 most | 195 => ∃ a c, v = .slice a Wl.length c ∧ IsWts w a Wl.length c Wl | 196 => v = .agg #[s] | 197 => v = .slice (some ⟨b, off, none⟩) qn qc
  | 198 => v = .int .i64 (i : Int) | 199 => v = .pointer (some ⟨b, off + i * 5, none⟩) | 200 => v = .pointer (some ⟨b, off + i * 5 + 2, none⟩) | 201 => v = .string lo | 202 => v = .slice (some ⟨b, off, none⟩) qn qc | 203 => v = .int .i64 (i : Int)
  | 204 => v = .pointer (some ⟨b, off + i * 5, none⟩) | 205 => v = .pointer (some ⟨b, off + i * 5 + 3, none⟩) | 206 => v = .string hi | 207 => v = .slice (some ⟨b, off, none⟩) qn qc | 208 => v = .int .i64 (i : Int) | 209 => v = .pointer (some ⟨b, off + i * 5, none⟩)
  | 210 => v = .pointer (some ⟨b, off + i * 5 + 1, none⟩) | 211 => v = .int .u64 (t : Int) | 212 => v = .slice (some ⟨b, off, none⟩) qn qc | 213 => v = .int .i64 (i : Int) | 214 => v = .pointer (some ⟨b, off + i * 5, none⟩) | 215 => v = .pointer (some ⟨b, off + i * 5 + 4, none⟩)
  | 216 => v = .int .i64 most | 217 => ∃ a c, v = .slice a Wl.length c ∧ IsWts w a Wl.length c Wl | 218 => v = .bool true | 219 => v = .bool false | 220 => v = .bool false
  | _ => True
theorem psiP_stable (b off qn qc i g6 g11 g13 : Nat) (s : Value) (r : Addr) (K lo hi : ByteArray) (T t N vt : Nat) (vg : Bool) (vv : ByteArray) (most : Int) (ok B : Bool) (Wl : List Wt) : ∀ tm v w w', psiP b off qn qc i g6 g11 g13 s r K lo hi T t N vt vg vv most ok B Wl tm v w → Below w.heap.size w w' → psiP b off qn qc i g6 g11 g13 s r K lo hi T t N vt vg vv most ok B Wl tm v w' := by
  intro tm v w w' h hb
  by_cases h1 : tm = 195
  · subst h1
    obtain ⟨a, c, hv, hw⟩ := h
    exact ⟨a, c, hv, hw.below hb⟩
  · by_cases h2 : tm = 217
    · subst h2
      obtain ⟨a, c, hv, hw⟩ := h
      exact ⟨a, c, hv, hw.below hb⟩
    · unfold psiP at h ⊢
      split at h <;> first | exact h | exact absurd rfl h1 | exact absurd rfl h2 | trivial
/-- The operations of a region. -/
noncomputable def opsOf (id : Nat) : Code → Option (List Oper)
  | .region i ops _ => if i = id then some ops.toList else none
  | .seq a b => match opsOf id a with
    | some l => some l
    | none => opsOf id b
  | .cond _ a b => match opsOf id a with
    | some l => some l
    | none => opsOf id b
  | .block _ b => opsOf id b
  | .loop b => opsOf id b
  | _ => none
noncomputable def playsOps : List Oper := (opsOf 19 (Try.f3.body.getD .skip)).getD []
/-- What the comparison's world holds and its calls answer. -/
structure PlaysF (w0 : World) (b off qn qc i g6 g11 g13 : Nat) (s : Value) (r : Addr) (K lo hi : ByteArray) (T t N vt : Nat) (vg : Bool) (vv : ByteArray) (most : Int) (ok B : Bool) (Wl : List Wt) : Prop where
  q : ∀ W, Below w0.heap.size w0 W → W.cell? ⟨b, off + i * 5, none⟩ = some (.string K) ∧ W.cell? ⟨b, off + i * 5 + 1, none⟩ = some (.int .u64 (t : Int)) ∧ W.cell? ⟨b, off + i * 5 + 2, none⟩ = some (.string lo) ∧ W.cell? ⟨b, off + i * 5 + 3, none⟩ = some (.string hi) ∧ W.cell? ⟨b, off + i * 5 + 4, none⟩ = some (.int .i64 most)
  box : ∀ W, Below w0.heap.size w0 W → W.cell? ⟨g6, 0, none⟩ = some s
  v11 : ∀ W, Below w0.heap.size w0 W → W.cell? ⟨g11, 0, none⟩ = some (.int .u64 (vt : Int)) ∧ W.cell? ⟨g11, 1, none⟩ = some (.bool vg) ∧ W.cell? ⟨g11, 2, none⟩ = some (.string vv)
  v13 : ∀ W, Below w0.heap.size w0 W → W.cell? ⟨g13, 0, none⟩ = some (.int .u64 (vt : Int)) ∧ W.cell? ⟨g13, 1, none⟩ = some (.bool vg) ∧ W.cell? ⟨g13, 2, none⟩ = some (.string vv)
  last : ∀ W, Below w0.heap.size w0 W → Calls Try.prog 14 #[.agg #[s], .string K] W fun e w' => e = .returned (.tuple #[.int .u64 (T : Int), .int .i64 (N : Int)]) ∧ Below W.heap.size W w'
  room : ∀ W, Below w0.heap.size w0 W → Calls Try.prog 15 #[.pointer (some r), .string K] W fun e w' => e = .returned (.bool B) ∧ Below W.heap.size W w'
  lastP : ∀ W, Below w0.heap.size w0 W → Calls Try.prog 16 #[.pointer (some r), .string K] W fun e w' => e = .returned (.int .u64 (T : Int)) ∧ Below W.heap.size W w'
  scanP : ∀ W, Below w0.heap.size w0 W → Calls Try.prog 18 #[.pointer (some r), .string lo, .string hi, .int .u64 (t : Int), .int .i64 most] W fun e w' => ∃ a c, e = .returned (.slice a Wl.length c) ∧ IsWts w' a Wl.length c Wl ∧ Below W.heap.size W w'
  scan : ∀ W, Below w0.heap.size w0 W → Calls Try.prog 19 #[.agg #[s], .string lo, .string hi, .int .u64 (t : Int), .int .i64 most] W fun e w' => ∃ a c, e = .returned (.slice a Wl.length c) ∧ IsWts w' a Wl.length c Wl ∧ Below W.heap.size W w'
  room2 : decide ((N : Int) < 200) = B
set_option maxHeartbeats 4000000 in
theorem plays_steps {w0 : World} {b off qn qc i g6 g11 g13 : Nat} {s : Value} {r : Addr} {K lo hi : ByteArray} {T t N vt : Nat} {vg : Bool} {vv : ByteArray} {most : Int} {ok B : Bool} {Wl : List Wt} (F : Hid (PlaysF w0 b off qn qc i g6 g11 g13 s r K lo hi T t N vt vg vv most ok B Wl)) (hil : i < qn) : AllSteps Try.prog w0 (psiP b off qn qc i g6 g11 g13 s r K lo hi T t N vt vg vv most ok B Wl) playsOps := by
  have hiz : (i : Int) < (qn : Int) := by omega
  have hBB : (B != B) = false := by simp
  have hoo : (ok != ok) = false := by simp
  have hTT : ((T : Int) != (T : Int)) = false := by simp
  have hr2 := F.out.room2
  repeat' (first | exact AllSteps.nil | refine AllSteps.cons ?_ ?_)
  all_goals
    first
    | (intro a' w' K' Q hB hP hK
       obtain ⟨⟨a1, c1, h1, hw1⟩, ⟨a2, c2, h2, hw2⟩, hP⟩ := hP
       conv at h1 => whnf
       conv at h2 => whnf
       have HSM := msame_yes a1 a2 Wl.length c1 c2 Wl w' hw1 hw2
       have HSM := Lib.hid HSM
       clear hw1 hw2
       try go_simp
       go_at_call 17; refine HSM.out.mono ?_; rintro e w2 ⟨rfl, n, rfl⟩; refine hK _ _ (drewN_belowM (Below.refl _ _) n) ?_; intro d hd; cases hd; rfl)
    | (intro a' w' K' Q hB hP hK
       repeat (obtain ⟨h, hP⟩ := hP; conv at h => whnf)
       have HB := Lib.hid hB
       obtain ⟨k0, k1, k2, k3, k4⟩ := F.out.q w' hB
       have e0 := F.out.box w' hB
       obtain ⟨b0, b1, b2⟩ := F.out.v11 w' hB
       obtain ⟨d0, d1, d2⟩ := F.out.v13 w' hB
       clear hB
       try go_simp
       first
        | (refine hK _ _ (Below.refl _ _) ?_; intro d hd; cases hd; first | rfl | exact h | trivial)
        | (go_at_call 14; refine (F.out.last _ HB.out).mono ?_; rintro e w'' ⟨rfl, hb⟩; refine hK _ _ hb ?_; intro d hd; cases hd; rfl)
        | (go_at_call 15; refine (F.out.room _ HB.out).mono ?_; rintro e w'' ⟨rfl, hb⟩; refine hK _ _ hb ?_; intro d hd; cases hd; rfl)
        | (go_at_call 16; refine (F.out.lastP _ HB.out).mono ?_; rintro e w'' ⟨rfl, hb⟩; refine hK _ _ hb ?_; intro d hd; cases hd; rfl)
        | (go_at_call 18; refine (F.out.scanP _ HB.out).mono ?_; rintro e w'' ⟨a, c, rfl, hw, hb⟩; refine hK _ _ hb ?_; intro d hd; cases hd; exact ⟨a, c, rfl, hw⟩)
        | (go_at_call 19; refine (F.out.scan _ HB.out).mono ?_; rintro e w'' ⟨a, c, rfl, hw, hb⟩; refine hK _ _ hb ?_; intro d hd; cases hd; exact ⟨a, c, rfl, hw⟩)
        | (trace_state; fail))
theorem playsOps_len : playsOps.length = 79 := by kernel_rfl
end Go.Proofs.Ytdcefhhmddjodaa
