/-
  Joined: ChnRight, FixMath, Convert.
-/
import Derived.Test.YtplobffkelmokaaSet02
import Derived.Test.YtplobffkelmokaaSet01
import Derived.ProofKit
import Derived.WalkSpells
import Derived.WalkLawsBesides
import Derived.Lib.Hide
namespace Go.Proofs.Ytplobffkelmokaa
open Go.RowKit
set_option linter.unusedVariables false
set_option linter.unnecessarySimpa false
set_option linter.unusedSimpArgs false
set_option maxRecDepth 100000

/-- The time ahead of version i. -/
def prevT (t : Nat) (l : List Vr) (i : Nat) : Nat := if i = 0 then t else (l.getD (i - 1) vr0).time
def okAt (t : Nat) (l : List Vr) (i : Nat) : Prop := prevT t l i < (l.getD i vr0).time ∧ ((l.getD i vr0).gone = true → (l.getD i vr0).val.size = 0)
theorem rises_iff : ∀ (l : List Vr) (t : Nat), risesB t l = true ↔ ∀ i, i < l.length → okAt t l i
  | [], t => by simp [risesB]
  | v :: l, t => by
    rw [risesB, Bool.and_eq_true, Bool.and_eq_true, rises_iff l v.time]
    constructor
    · rintro ⟨⟨h1, h2⟩, h3⟩ i hi
      cases i with
      | zero =>
        refine ⟨by simpa [prevT] using h1, fun hg => ?_⟩
        have hg' : v.gone = true := by simpa using hg
        rw [hg'] at h2
        simpa using h2
      | succ i =>
        have := h3 i (by simpa using hi)
        unfold okAt prevT at this ⊢
        cases i with
        | zero => simpa using this
        | succ j => simpa using this
    · intro h
      refine ⟨⟨?_, ?_⟩, fun i hi => ?_⟩
      · have := (h 0 (by simp)).1
        simpa [prevT] using this
      · have := (h 0 (by simp)).2
        cases hg : v.gone with
        | false => rfl
        | true => simpa using this (by simpa using hg)
      · have := h (i + 1) (by simpa using hi)
        unfold okAt prevT at this ⊢
        cases i with
        | zero => simpa using this
        | succ j => simpa using this

theorem str_none {s : ByteArray} (h : s.size = 0) : s = ⟨#[]⟩ := by
  have : s.data = #[] := Array.eq_empty_of_size_eq_zero h
  cases s; simp_all
theorem str_some {s : ByteArray} (h : ¬ s.size = 0) : s.toList.isEmpty = false ∧ (s.toList == []) = false ∧ (s.toList != []) = true := by
  have h1 : ¬ s.toList = [] := by
    rw [Lib.toList_data]
    intro e
    have := congrArg List.length e
    rw [← Lib.size_eq] at this
    exact h this
  refine ⟨?_, ?_, ?_⟩
  · cases hs : s.toList with
    | nil => exact absurd hs h1
    | cons x l => rfl
  · rw [beq_eq_false_iff_ne]; exact h1
  · rw [bne_iff_ne]; exact h1

set_option maxHeartbeats 4000000 in
theorem vright_any (a : Option Addr) (len cap : Nat) (zs : List Vr) (w : World) (hz : IsVers w a len cap zs) :
    Calls Try.prog 28 #[.slice a len cap] w fun e w' => e = .returned (.bool (rightB zs)) ∧ ∃ n, w' = w.drewN n := by
  have HZ := Lib.hid hz
  have hlm := hz.2
  unfold maxLen at hlm
  have hzl := Lib.hid hz.1.1
  clear hz
  obtain ⟨k0, hk0⟩ : ∃ k0, k0 ≤ len ∧ (∀ i, i < k0 → okAt 0 zs i) ∧ (k0 = len ∨ ¬ okAt 0 zs k0) := by
    have key : ∀ k, k ≤ len → ∃ k0, k0 ≤ k ∧ (∀ i, i < k0 → okAt 0 zs i) ∧ (k0 = k ∨ (k0 < k ∧ ¬ okAt 0 zs k0)) := by
      intro k
      induction k with
      | zero => exact fun _ => ⟨0, Nat.le_refl _, fun i hi => absurd hi (by omega), .inl rfl⟩
      | succ k ih =>
        intro hk
        obtain ⟨k0, h1, h2, h3⟩ := ih (by omega)
        rcases h3 with rfl | ⟨h3, h4⟩
        · by_cases hok : okAt 0 zs k0
          · refine ⟨k0 + 1, Nat.le_refl _, fun i hi => ?_, .inl rfl⟩
            rcases Nat.lt_or_ge i k0 with h | h
            · exact h2 i h
            · have e : i = k0 := by omega
              rw [e]; exact hok
          · exact ⟨k0, by omega, h2, .inr ⟨by omega, hok⟩⟩
        · exact ⟨k0, by omega, h2, .inr ⟨by omega, h4⟩⟩
    obtain ⟨k0, h1, h2, h3⟩ := key len (Nat.le_refl _)
    exact ⟨k0, h1, h2, h3.elim .inl (fun h => .inr h.2)⟩
  obtain ⟨hk1, hk2, hk3⟩ := hk0
  have HK := Lib.hid hk2
  have HB := Lib.hid hk3
  clear hk2 hk3
  go_enter Try.func28, Try.ntmps28
  go_wp2_with fail
  go_loopg [3] k0 (fun g s3 wx => ∃ i n : Nat, i + g = k0 ∧ s3 = .int .i64 i ∧ wx = w.drewN n)
  case atStart => exact ⟨0, 0, by omega, rfl, rfl⟩
  case round =>
    obtain ⟨i, n, hig, rfl, rfl⟩ := hrel
    have facts : i < len → ∃ b off, a = some ⟨b, off, none⟩ ∧ (zs.getD i vr0).time < 18446744073709551616 ∧ w.cell? ⟨b, off + i * 3, none⟩ = some (.int .u64 ((zs.getD i vr0).time : Int)) ∧ w.cell? ⟨b, off + i * 3 + 1, none⟩ = some (.bool (zs.getD i vr0).gone) ∧ w.cell? ⟨b, off + i * 3 + 2, none⟩ = some (.string (zs.getD i vr0).val) ∧
        (0 < i → ∃ k : Nat, IntKind.i64.wrap ((i : Int) - 1) = (k : Int) ∧ k < len ∧ (0 : Int) ≤ (k : Int) ∧ (k : Int) < (len : Int) ∧ prevT 0 zs i < 18446744073709551616 ∧ w.cell? ⟨b, off + k * 3, none⟩ = some (.int .u64 (prevT 0 zs i : Int))) := by
      intro hil
      obtain ⟨b, off, ha, _, h1, _, h2, h3, h4⟩ := HZ.out.1.2 i hil
      refine ⟨b, off, ha, h1, h2, h3, h4, fun h0 => ⟨i - 1, by rw [IntWalk.i64_in _ (by omega)]; omega, by omega, by omega, by omega, ?_⟩⟩
      obtain ⟨b', off', ha', _, h5, _, h6, _⟩ := HZ.out.1.2 (i - 1) (by omega)
      rw [ha] at ha'
      cases ha'
      have e : prevT 0 zs i = (zs.getD (i - 1) vr0).time := by unfold prevT; rw [if_neg (by omega)]
      rw [e]
      exact ⟨h5, h6⟩
    cases gk with
    | succ g =>
      have hil : i < len := by omega
      have hiz : (i : Int) < (len : Int) := by omega
      obtain ⟨b, off, rfl, ht1, c0, c1, c2, hprev⟩ := facts hil
      obtain ⟨hlt, hgv⟩ := HK.out i (by omega)
      obtain ⟨p, hp⟩ : ∃ p, p = prevT 0 zs i := ⟨_, rfl⟩
      have hp0 := Lib.hid (show i = 0 → p = 0 from fun h => by rw [hp, h]; rfl)
      obtain ⟨z, hzz⟩ : ∃ z, z = zs.getD i vr0 := ⟨_, rfl⟩
      rw [← hzz] at c0 c1 c2 hgv hlt
      rw [← hp] at hprev hlt
      have ht0 : ((z.time : Int) == 0) = false := by rw [beq_eq_false_iff_ne]; omega
      have ht2 : (z.time == 0) = false := by rw [beq_eq_false_iff_ne]; omega
      have hle : ¬ (z.time : Int) ≤ (p : Int) := by omega
      have hld : decide (z.time ≤ p) = false := by rw [decide_eq_false_iff_not]; omega
      have hgc : z.gone = false ∨ (z.gone = true ∧ z.val = ⟨#[]⟩) := by
        cases hg : z.gone with
        | false => exact .inl rfl
        | true => exact .inr ⟨rfl, str_none (hgv hg)⟩
      clear hzz hp hgv ht1 facts
      by_cases hi0 : i = 0
      · subst hi0
        clear hprev
        simp only [Nat.zero_mul, Nat.add_zero] at c0 c1 c2
        rcases hgc with hg | ⟨hg, hv⟩
        all_goals
          rw [hg] at c1
          try rw [hv] at c2
          go_wp2_with fail
          go_quiet (fail)
          go_wp2_with fail
          go_roundg g
          case measure => omega
          case rel => exact ⟨1, n + nq, by omega, by first | rfl | go_num, rfl⟩
      · obtain ⟨k, hw1, hkl, hk0', hkz, hpl, ck⟩ := hprev (by omega)
        have hi0z : (0 : Int) < (i : Int) := by omega
        have hi0d : decide (0 < i) = true := by rw [decide_eq_true_iff]; omega
        clear hprev
        rcases hgc with hg | ⟨hg, hv⟩
        all_goals
          rw [hg] at c1
          try rw [hv] at c2
          go_wp2_with fail
          go_quiet (fail)
          go_wp2_with fail
          go_roundg g
          case measure => omega
          case rel => exact ⟨i + 1, n + nq, by omega, by go_num, rfl⟩
    | zero =>
      obtain rfl : i = k0 := by omega
      by_cases hend : i = len
      · subst hend
        have HR := Lib.hid (show rightB zs = decide (i ≤ 200) by
          unfold rightB
          rw [hzl.out, (rises_iff zs 0).2 (fun j hj => HK.out j (by rw [← hzl.out]; exact hj)), Bool.true_and])
        clear facts
        go_wp2_with fail
        go_ret
        exact ⟨by rw [HR.out]; first | rfl | (simp; omega), n, rfl⟩
      · have hil : i < len := by omega
        have hbad : ¬ okAt 0 zs i := HB.out.resolve_left hend
        have HR := Lib.hid (show rightB zs = false by
          unfold rightB
          have : risesB 0 zs = false := by
            rw [← Bool.not_eq_true]; intro h; exact hbad ((rises_iff zs 0).1 h i (by rw [hzl.out]; exact hil))
          rw [this, Bool.false_and])
        have hiz : (i : Int) < (len : Int) := by omega
        obtain ⟨b, off, rfl, ht1, c0, c1, c2, hprev⟩ := facts hil
        unfold okAt at hbad
        obtain ⟨p, hp⟩ : ∃ p, p = prevT 0 zs i := ⟨_, rfl⟩
        have hp0 : i = 0 → p = 0 := fun h => by rw [hp, h]; rfl
        obtain ⟨z, hzz⟩ : ∃ z, z = zs.getD i vr0 := ⟨_, rfl⟩
        rw [← hzz] at c0 c1 c2 hbad
        rw [← hp] at hprev hbad
        have hcs : z.time = 0 ∨ (z.time ≠ 0 ∧ 0 < i ∧ z.time ≤ p) ∨ (p < z.time ∧ z.gone = true ∧ ¬ z.val.size = 0) := by
          by_cases h1 : z.time = 0
          · exact .inl h1
          · by_cases h2 : p < z.time
            · refine .inr (.inr ⟨h2, ?_⟩)
              by_cases h3 : z.gone = true
              · exact ⟨h3, fun h4 => hbad ⟨h2, fun _ => h4⟩⟩
              · exact absurd ⟨h2, fun h => absurd h h3⟩ hbad
            · refine .inr (.inl ⟨h1, ?_, by omega⟩)
              rcases Nat.eq_zero_or_pos i with h | h
              · have := hp0 h; omega
              · exact h
        clear hzz hp hbad ht1 facts
        rcases hcs with h1 | ⟨h1, h2, h3⟩ | ⟨h1, h2, h3⟩
        · rw [h1] at c0
          clear hprev hp0
          go_wp2_with fail
          go_quiet (fail)
          go_wp2_with fail
          go_ret
          exact ⟨by rw [HR.out]; rfl, n + nq, by rw [World.drewN_drewN]⟩
        · obtain ⟨k, hw1, hkl, hk0', hkz, hpl, ck⟩ := hprev h2
          have hi0z : (0 : Int) < (i : Int) := by omega
          have ht0 : ((z.time : Int) == 0) = false := by rw [beq_eq_false_iff_ne]; omega
          have ht2 : (z.time == 0) = false := by rw [beq_eq_false_iff_ne]; omega
          have hle : (z.time : Int) ≤ (p : Int) := by omega
          clear hprev hp0
          go_wp2_with fail
          go_quiet (fail)
          go_wp2_with fail
          go_ret
          exact ⟨by rw [HR.out]; rfl, n + nq, by rw [World.drewN_drewN]⟩
        · have ht0 : ((z.time : Int) == 0) = false := by rw [beq_eq_false_iff_ne]; omega
          have ht2 : (z.time == 0) = false := by rw [beq_eq_false_iff_ne]; omega
          have hle : ¬ (z.time : Int) ≤ (p : Int) := by omega
          have hld : decide (z.time ≤ p) = false := by rw [decide_eq_false_iff_not]; omega
          obtain ⟨v1, v2, v3⟩ := str_some h3
          rw [h2] at c1
          clear h3
          rcases Nat.eq_zero_or_pos i with hi0 | hi0
          · subst hi0
            clear hprev hp0
            simp only [Nat.zero_mul, Nat.add_zero] at c0 c1 c2
            go_wp2_with fail
            go_quiet (fail)
            go_wp2_with fail
            go_ret
            exact ⟨by rw [HR.out]; rfl, n + nq, by rw [World.drewN_drewN]⟩
          · obtain ⟨k, hw1, hkl, hk0', hkz, hpl, ck⟩ := hprev hi0
            have hi0z : (0 : Int) < (i : Int) := by omega
            clear hprev hp0
            go_wp2_with fail
            go_quiet (fail)
            go_wp2_with fail
            go_ret
            exact ⟨by rw [HR.out]; rfl, n + nq, by rw [World.drewN_drewN]⟩
end Go.Proofs.Ytplobffkelmokaa

namespace Go.Proofs.Ytplobffkelmokaa
open Go.RowKit
set_option linter.unnecessarySimpa false
set_option linter.unusedVariables false
set_option linter.unusedSimpArgs false
set_option maxRecDepth 100000

theorem u8info : (Try.prog.info? 5).map (fun i => (i.zero, i.size, i.bytes)) = some (some (.int .u8 0), 1, 1) := by kernel_rfl

/-- Bytes by their places. -/
def cellsF (size : Nat) (f : Nat → UInt8) : List UInt8 := (List.range size).map f

theorem cellsF_length (size : Nat) (f : Nat → UInt8) : (cellsF size f).length = size := by simp [cellsF]

theorem cellsF_congr {size : Nat} {f g : Nat → UInt8} (h : ∀ j, j < size → f j = g j) : cellsF size f = cellsF size g := by
  unfold cellsF
  apply List.map_congr_left
  intro j hj
  exact h j (List.mem_range.1 hj)

theorem cellsF_set {size p : Nat} {f : Nat → UInt8} (v : UInt8) : (Lib.byteCells (cellsF size f)).set p (.int .u8 (v.toNat : Int)) = Lib.byteCells (cellsF size (fun j => if j = p then v else f j)) := by
  apply List.ext_getElem
  · simp [Lib.byteCells, cellsF]
  · intro j h1 h2
    simp only [Lib.byteCells, cellsF, List.getElem_set, List.getElem_map, List.getElem_range]
    by_cases h : p = j
    · subst h; simp
    · rw [if_neg h, if_neg (fun e => h e.symm)]

theorem zeros_cellsF (size : Nat) : (madeCells #[Value.int .u8 0] size).toList = Lib.byteCells (cellsF size (fun _ => 0)) := by
  rw [toList_madeCells_one]
  simp [Lib.byteCells, cellsF, List.map_const']

/-- Which byte of n stands at place j of size. -/
def pl (size : Nat) (big : Bool) (j : Nat) : Nat := if big then size - 1 - j else j
def fxAt (n size : Nat) (big : Bool) (j : Nat) : UInt8 := UInt8.ofNat (n / 256 ^ pl size big j)
theorem pl_lt {size j : Nat} (big : Bool) (h : j < size) : pl size big j < size := by unfold pl; split <;> omega
theorem fxAt_shift (n size : Nat) (big : Bool) (j : Nat) : (n : Int) / 2 ^ (8 * pl size big j) % 256 = ((fxAt n size big j).toNat : Int) := by
  unfold fxAt
  have e : ((2 : Int) ^ (8 * pl size big j)) = ((256 ^ pl size big j : Nat) : Int) := by
    rw [show (256 : Nat) = 2 ^ 8 from rfl, ← Nat.pow_mul]; simp
  rw [e]
  generalize 256 ^ pl size big j = q
  simp only [UInt8.toNat_ofNat']
  omega
/-- One place more is filled. -/
theorem cellsF_next {size p : Nat} {P P' : Nat → Prop} [DecidablePred P] [DecidablePred P'] {g : Nat → UInt8} (h : ∀ j, j < size → (P' j ↔ j = p ∨ P j)) :
    (Lib.byteCells (cellsF size fun j => if P j then g j else 0)).set p (.int .u8 ((g p).toNat : Int)) = Lib.byteCells (cellsF size fun j => if P' j then g j else 0) := by
  rw [cellsF_set]
  congr 1
  apply cellsF_congr
  intro j hj
  have := h j hj
  by_cases e : j = p
  · subst e; simp [this]
  · by_cases hp : P j <;> simp [this, e, hp]
def fx (n size : Nat) (big : Bool) : List UInt8 := cellsF size (fxAt n size big)
theorem pl_pl {size k : Nat} (big : Bool) (h : k < size) : pl size big (pl size big k) = k := by unfold pl; split <;> omega
theorem fxAt_pl {n size k : Nat} (big : Bool) (h : k < size) : ((n / 256 ^ k : Nat) : Int) % 256 = ((fxAt n size big (pl size big k)).toNat : Int) := by
  unfold fxAt
  rw [pl_pl big h]
  simp only [UInt8.toNat_ofNat']
  omega
end Go.Proofs.Ytplobffkelmokaa

namespace Go.Proofs.Ytplobffkelmokaa
open Go.RowKit
set_option linter.unusedVariables false
set_option linter.unusedSimpArgs false
set_option linter.unnecessarySimpa false
set_option maxRecDepth 100000

theorem convert_row {w : World} {base n : Nat} {v : Value} {l : List UInt8} (h : w.ownsRow base 5 1 v n (Lib.byteCells l)) : (convert 43 9 v).run Try.prog w = .ok (.string ⟨l.toArray⟩) w := by
  by_cases hv : v = .slice none 0 0
  · have hl : l = [] := by
      rcases h.2 with ⟨_, h0⟩ | ⟨g, cap, cur, h0, _⟩
      · have := h.1
        subst h0
        rw [Lib.byteCells_length] at this
        exact List.length_eq_zero_iff.1 (by omega)
      · rw [hv] at h0; cases h0
    subst hv hl
    simp [convert, Conv.bytesToString]
    rfl
  · exact convert_own h hv Try.underlying43 Try.underlying5 Try.underlying9

end Go.Proofs.Ytplobffkelmokaa
