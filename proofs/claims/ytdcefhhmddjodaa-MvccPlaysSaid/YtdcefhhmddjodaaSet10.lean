/-
  Joined: ChnRight, Convert, RefUintB, RefText, ChnBytes, BlkMath, BlkRef.
-/
import Derived.Test.YtdcefhhmddjodaaSet09
import Derived.Test.YtdcefhhmddjodaaSet01
import Derived.ProofKit
import Derived.WalkSpells
import Derived.WalkLawsBesides
import Derived.Lib.Hide
import Derived.Test.YtdcefhhmddjodaaSet02
import Derived.Deep.LoopGhost
import Derived.BigQuiet
namespace Go.Proofs.Ytdcefhhmddjodaa
open Go.RowKit
set_option linter.unusedVariables false
set_option linter.unnecessarySimpa false
set_option linter.unusedSimpArgs false
set_option maxRecDepth 100000

/-- The time ahead of version i. -/
def prevT (t : Nat) (l : List Vr) (i : Nat) : Nat := if i = 0 then t else (l.getD (i - 1) vr0).time
def okAt (t : Nat) (l : List Vr) (i : Nat) : Prop := prevT t l i < (l.getD i vr0).time ∧ ((l.getD i vr0).gone = true → (l.getD i vr0).val.size = 0)
theorem rises_iff : ∀ (l : List Vr) (t : Nat), risesB t l = true ↔ ∀ i, i < l.length → okAt t l i
  | [], t => by simp [risesB]
  | v :: l, t => by
    rw [risesB, Bool.and_eq_true, Bool.and_eq_true, rises_iff l v.time]
    constructor
    · rintro ⟨⟨h1, h2⟩, h3⟩ i hi
      cases i with
      | zero =>
        refine ⟨by simpa [prevT] using h1, fun hg => ?_⟩
        have hg' : v.gone = true := by simpa using hg
        rw [hg'] at h2
        simpa using h2
      | succ i =>
        have := h3 i (by simpa using hi)
        unfold okAt prevT at this ⊢
        cases i with
        | zero => simpa using this
        | succ j => simpa using this
    · intro h
      refine ⟨⟨?_, ?_⟩, fun i hi => ?_⟩
      · have := (h 0 (by simp)).1
        simpa [prevT] using this
      · have := (h 0 (by simp)).2
        cases hg : v.gone with
        | false => rfl
        | true => simpa using this (by simpa using hg)
      · have := h (i + 1) (by simpa using hi)
        unfold okAt prevT at this ⊢
        cases i with
        | zero => simpa using this
        | succ j => simpa using this

theorem str_none {s : ByteArray} (h : s.size = 0) : s = ⟨#[]⟩ := by
  have : s.data = #[] := Array.eq_empty_of_size_eq_zero h
  cases s; simp_all
theorem str_some {s : ByteArray} (h : ¬ s.size = 0) : s.toList.isEmpty = false ∧ (s.toList == []) = false ∧ (s.toList != []) = true := by
  have h1 : ¬ s.toList = [] := by
    rw [Lib.toList_data]
    intro e
    have := congrArg List.length e
    rw [← Lib.size_eq] at this
    exact h this
  refine ⟨?_, ?_, ?_⟩
  · cases hs : s.toList with
    | nil => exact absurd hs h1
    | cons x l => rfl
  · rw [beq_eq_false_iff_ne]; exact h1
  · rw [bne_iff_ne]; exact h1

set_option maxHeartbeats 4000000 in
theorem vright_any (a : Option Addr) (len cap : Nat) (zs : List Vr) (w : World) (hz : IsVers w a len cap zs) :
    Calls Try.prog 44 #[.slice a len cap] w fun e w' => e = .returned (.bool (rightB zs)) ∧ ∃ n, w' = w.drewN n := by
  have HZ := Lib.hid hz
  have hlm := hz.2
  unfold maxLen at hlm
  have hzl := Lib.hid hz.1.1
  clear hz
  obtain ⟨k0, hk0⟩ : ∃ k0, k0 ≤ len ∧ (∀ i, i < k0 → okAt 0 zs i) ∧ (k0 = len ∨ ¬ okAt 0 zs k0) := by
    have key : ∀ k, k ≤ len → ∃ k0, k0 ≤ k ∧ (∀ i, i < k0 → okAt 0 zs i) ∧ (k0 = k ∨ (k0 < k ∧ ¬ okAt 0 zs k0)) := by
      intro k
      induction k with
      | zero => exact fun _ => ⟨0, Nat.le_refl _, fun i hi => absurd hi (by omega), .inl rfl⟩
      | succ k ih =>
        intro hk
        obtain ⟨k0, h1, h2, h3⟩ := ih (by omega)
        rcases h3 with rfl | ⟨h3, h4⟩
        · by_cases hok : okAt 0 zs k0
          · refine ⟨k0 + 1, Nat.le_refl _, fun i hi => ?_, .inl rfl⟩
            rcases Nat.lt_or_ge i k0 with h | h
            · exact h2 i h
            · have e : i = k0 := by omega
              rw [e]; exact hok
          · exact ⟨k0, by omega, h2, .inr ⟨by omega, hok⟩⟩
        · exact ⟨k0, by omega, h2, .inr ⟨by omega, h4⟩⟩
    obtain ⟨k0, h1, h2, h3⟩ := key len (Nat.le_refl _)
    exact ⟨k0, h1, h2, h3.elim .inl (fun h => .inr h.2)⟩
  obtain ⟨hk1, hk2, hk3⟩ := hk0
  have HK := Lib.hid hk2
  have HB := Lib.hid hk3
  clear hk2 hk3
  go_enter Try.func44, Try.ntmps44
  go_wp2_with fail
  go_loopg [3] k0 (fun g s3 wx => ∃ i n : Nat, i + g = k0 ∧ s3 = .int .i64 i ∧ wx = w.drewN n)
  case atStart => exact ⟨0, 0, by omega, rfl, rfl⟩
  case round =>
    obtain ⟨i, n, hig, rfl, rfl⟩ := hrel
    have facts : i < len → ∃ b off, a = some ⟨b, off, none⟩ ∧ (zs.getD i vr0).time < 18446744073709551616 ∧ w.cell? ⟨b, off + i * 3, none⟩ = some (.int .u64 ((zs.getD i vr0).time : Int)) ∧ w.cell? ⟨b, off + i * 3 + 1, none⟩ = some (.bool (zs.getD i vr0).gone) ∧ w.cell? ⟨b, off + i * 3 + 2, none⟩ = some (.string (zs.getD i vr0).val) ∧
        (0 < i → ∃ k : Nat, IntKind.i64.wrap ((i : Int) - 1) = (k : Int) ∧ k < len ∧ (0 : Int) ≤ (k : Int) ∧ (k : Int) < (len : Int) ∧ prevT 0 zs i < 18446744073709551616 ∧ w.cell? ⟨b, off + k * 3, none⟩ = some (.int .u64 (prevT 0 zs i : Int))) := by
      intro hil
      obtain ⟨b, off, ha, _, h1, _, h2, h3, h4⟩ := HZ.out.1.2 i hil
      refine ⟨b, off, ha, h1, h2, h3, h4, fun h0 => ⟨i - 1, by rw [IntWalk.i64_in _ (by omega)]; omega, by omega, by omega, by omega, ?_⟩⟩
      obtain ⟨b', off', ha', _, h5, _, h6, _⟩ := HZ.out.1.2 (i - 1) (by omega)
      rw [ha] at ha'
      cases ha'
      have e : prevT 0 zs i = (zs.getD (i - 1) vr0).time := by unfold prevT; rw [if_neg (by omega)]
      rw [e]
      exact ⟨h5, h6⟩
    cases gk with
    | succ g =>
      have hil : i < len := by omega
      have hiz : (i : Int) < (len : Int) := by omega
      obtain ⟨b, off, rfl, ht1, c0, c1, c2, hprev⟩ := facts hil
      obtain ⟨hlt, hgv⟩ := HK.out i (by omega)
      obtain ⟨p, hp⟩ : ∃ p, p = prevT 0 zs i := ⟨_, rfl⟩
      have hp0 := Lib.hid (show i = 0 → p = 0 from fun h => by rw [hp, h]; rfl)
      obtain ⟨z, hzz⟩ : ∃ z, z = zs.getD i vr0 := ⟨_, rfl⟩
      rw [← hzz] at c0 c1 c2 hgv hlt
      rw [← hp] at hprev hlt
      have ht0 : ((z.time : Int) == 0) = false := by rw [beq_eq_false_iff_ne]; omega
      have ht2 : (z.time == 0) = false := by rw [beq_eq_false_iff_ne]; omega
      have hle : ¬ (z.time : Int) ≤ (p : Int) := by omega
      have hld : decide (z.time ≤ p) = false := by rw [decide_eq_false_iff_not]; omega
      have hgc : z.gone = false ∨ (z.gone = true ∧ z.val = ⟨#[]⟩) := by
        cases hg : z.gone with
        | false => exact .inl rfl
        | true => exact .inr ⟨rfl, str_none (hgv hg)⟩
      clear hzz hp hgv ht1 facts
      by_cases hi0 : i = 0
      · subst hi0
        clear hprev
        simp only [Nat.zero_mul, Nat.add_zero] at c0 c1 c2
        rcases hgc with hg | ⟨hg, hv⟩
        all_goals
          rw [hg] at c1
          try rw [hv] at c2
          go_wp2_with fail
          go_quiet (fail)
          go_wp2_with fail
          go_roundg g
          case measure => omega
          case rel => exact ⟨1, n + nq, by omega, by first | rfl | go_num, rfl⟩
      · obtain ⟨k, hw1, hkl, hk0', hkz, hpl, ck⟩ := hprev (by omega)
        have hi0z : (0 : Int) < (i : Int) := by omega
        have hi0d : decide (0 < i) = true := by rw [decide_eq_true_iff]; omega
        clear hprev
        rcases hgc with hg | ⟨hg, hv⟩
        all_goals
          rw [hg] at c1
          try rw [hv] at c2
          go_wp2_with fail
          go_quiet (fail)
          go_wp2_with fail
          go_roundg g
          case measure => omega
          case rel => exact ⟨i + 1, n + nq, by omega, by go_num, rfl⟩
    | zero =>
      obtain rfl : i = k0 := by omega
      by_cases hend : i = len
      · subst hend
        have HR := Lib.hid (show rightB zs = decide (i ≤ 200) by
          unfold rightB
          rw [hzl.out, (rises_iff zs 0).2 (fun j hj => HK.out j (by rw [← hzl.out]; exact hj)), Bool.true_and])
        clear facts
        go_wp2_with fail
        go_ret
        exact ⟨by rw [HR.out]; first | rfl | (simp; omega), n, rfl⟩
      · have hil : i < len := by omega
        have hbad : ¬ okAt 0 zs i := HB.out.resolve_left hend
        have HR := Lib.hid (show rightB zs = false by
          unfold rightB
          have : risesB 0 zs = false := by
            rw [← Bool.not_eq_true]; intro h; exact hbad ((rises_iff zs 0).1 h i (by rw [hzl.out]; exact hil))
          rw [this, Bool.false_and])
        have hiz : (i : Int) < (len : Int) := by omega
        obtain ⟨b, off, rfl, ht1, c0, c1, c2, hprev⟩ := facts hil
        unfold okAt at hbad
        obtain ⟨p, hp⟩ : ∃ p, p = prevT 0 zs i := ⟨_, rfl⟩
        have hp0 : i = 0 → p = 0 := fun h => by rw [hp, h]; rfl
        obtain ⟨z, hzz⟩ : ∃ z, z = zs.getD i vr0 := ⟨_, rfl⟩
        rw [← hzz] at c0 c1 c2 hbad
        rw [← hp] at hprev hbad
        have hcs : z.time = 0 ∨ (z.time ≠ 0 ∧ 0 < i ∧ z.time ≤ p) ∨ (p < z.time ∧ z.gone = true ∧ ¬ z.val.size = 0) := by
          by_cases h1 : z.time = 0
          · exact .inl h1
          · by_cases h2 : p < z.time
            · refine .inr (.inr ⟨h2, ?_⟩)
              by_cases h3 : z.gone = true
              · exact ⟨h3, fun h4 => hbad ⟨h2, fun _ => h4⟩⟩
              · exact absurd ⟨h2, fun h => absurd h h3⟩ hbad
            · refine .inr (.inl ⟨h1, ?_, by omega⟩)
              rcases Nat.eq_zero_or_pos i with h | h
              · have := hp0 h; omega
              · exact h
        clear hzz hp hbad ht1 facts
        rcases hcs with h1 | ⟨h1, h2, h3⟩ | ⟨h1, h2, h3⟩
        · rw [h1] at c0
          clear hprev hp0
          go_wp2_with fail
          go_quiet (fail)
          go_wp2_with fail
          go_ret
          exact ⟨by rw [HR.out]; rfl, n + nq, by rw [World.drewN_drewN]⟩
        · obtain ⟨k, hw1, hkl, hk0', hkz, hpl, ck⟩ := hprev h2
          have hi0z : (0 : Int) < (i : Int) := by omega
          have ht0 : ((z.time : Int) == 0) = false := by rw [beq_eq_false_iff_ne]; omega
          have ht2 : (z.time == 0) = false := by rw [beq_eq_false_iff_ne]; omega
          have hle : (z.time : Int) ≤ (p : Int) := by omega
          clear hprev hp0
          go_wp2_with fail
          go_quiet (fail)
          go_wp2_with fail
          go_ret
          exact ⟨by rw [HR.out]; rfl, n + nq, by rw [World.drewN_drewN]⟩
        · have ht0 : ((z.time : Int) == 0) = false := by rw [beq_eq_false_iff_ne]; omega
          have ht2 : (z.time == 0) = false := by rw [beq_eq_false_iff_ne]; omega
          have hle : ¬ (z.time : Int) ≤ (p : Int) := by omega
          have hld : decide (z.time ≤ p) = false := by rw [decide_eq_false_iff_not]; omega
          obtain ⟨v1, v2, v3⟩ := str_some h3
          rw [h2] at c1
          clear h3
          rcases Nat.eq_zero_or_pos i with hi0 | hi0
          · subst hi0
            clear hprev hp0
            simp only [Nat.zero_mul, Nat.add_zero] at c0 c1 c2
            go_wp2_with fail
            go_quiet (fail)
            go_wp2_with fail
            go_ret
            exact ⟨by rw [HR.out]; rfl, n + nq, by rw [World.drewN_drewN]⟩
          · obtain ⟨k, hw1, hkl, hk0', hkz, hpl, ck⟩ := hprev hi0
            have hi0z : (0 : Int) < (i : Int) := by omega
            clear hprev hp0
            go_wp2_with fail
            go_quiet (fail)
            go_wp2_with fail
            go_ret
            exact ⟨by rw [HR.out]; rfl, n + nq, by rw [World.drewN_drewN]⟩
end Go.Proofs.Ytdcefhhmddjodaa

namespace Go.Proofs.Ytdcefhhmddjodaa
open Go.RowKit
set_option linter.unusedVariables false
set_option linter.unusedSimpArgs false
set_option linter.unnecessarySimpa false
set_option maxRecDepth 100000

theorem convert_row {w : World} {base n : Nat} {v : Value} {l : List UInt8} (h : w.ownsRow base 5 1 v n (Lib.byteCells l)) : (convert 70 9 v).run Try.prog w = .ok (.string ⟨l.toArray⟩) w := by
  by_cases hv : v = .slice none 0 0
  · have hl : l = [] := by
      rcases h.2 with ⟨_, h0⟩ | ⟨g, cap, cur, h0, _⟩
      · have := h.1
        subst h0
        rw [Lib.byteCells_length] at this
        exact List.length_eq_zero_iff.1 (by omega)
      · rw [hv] at h0; cases h0
    subst hv hl
    simp [convert, Conv.bytesToString]
    rfl
  · exact convert_own h hv Try.underlying70 Try.underlying5 Try.underlying9

end Go.Proofs.Ytdcefhhmddjodaa

namespace Go.Proofs.Ytdcefhhmddjodaa
open Go.RowKit
set_option linter.unnecessarySimpa false
set_option linter.unusedVariables false
set_option linter.unusedSimpArgs false
set_option maxRecDepth 100000

end Go.Proofs.Ytdcefhhmddjodaa

namespace Go.Proofs.Ytdcefhhmddjodaa
open Go.RowKit
set_option linter.unusedVariables false
set_option linter.unnecessarySimpa false
set_option linter.unusedSimpArgs false
set_option maxRecDepth 100000

theorem ub_size' (n : Nat) (h : n < 18446744073709551616) : (⟨(ub n).toArray⟩ : ByteArray).size ≤ 10 := by
  show (ub n).toArray.size ≤ 10; rw [List.size_toArray]; exact ub_len10 h
end Go.Proofs.Ytdcefhhmddjodaa

namespace Go.Proofs.Ytdcefhhmddjodaa
open Go.RowKit
set_option linter.unusedVariables false
set_option linter.unnecessarySimpa false
set_option linter.unusedSimpArgs false
set_option maxRecDepth 100000

theorem c_ba_ext {a b : ByteArray} (h : a.data.toList = b.data.toList) : a = b := by
  cases a; cases b; simp only [ByteArray.mk.injEq]; exact Array.toList_inj.1 h
theorem c_ba_app (a b : List UInt8) : (⟨a.toArray⟩ : ByteArray) ++ ⟨b.toArray⟩ = ⟨(a ++ b).toArray⟩ := c_ba_ext (by simp [ByteArray.data_append])
theorem c_size (s : ByteArray) : s.data.toList.length = s.size := by rw [Array.length_toList]; rfl
theorem ext_list (X : ByteArray) (a b : Nat) : (X.extract a b).data.toList = (X.data.toList.drop a).take (b - a) := by
  rw [ByteArray.data_extract, Array.toList_extract]
theorem str_ne {x y : ByteArray} (h : x.data.toList ≠ y.data.toList) : (x.toList != y.toList) = true ∧ (x.toList == y.toList) = false := by
  rw [Lib.toList_data, Lib.toList_data]
  exact ⟨by rw [bne_iff_ne]; exact h, by rw [beq_eq_false_iff_ne]; exact h⟩

theorem headN_le (b v : List UInt8) : headN b v ≤ b.length ∧ headN b v ≤ v.length := pre_le b v
theorem tailN_le (b v : List UInt8) : headN b v + tailN b v ≤ b.length ∧ headN b v + tailN b v ≤ v.length := by
  have h1 := headN_le b v
  have h2 := suf_le (b.drop (headN b v)) (v.drop (headN b v))
  rw [List.length_drop, List.length_drop] at h2
  have e : suf (b.drop (headN b v)) (v.drop (headN b v)) = tailN b v := rfl
  rw [e] at h2
  omega
theorem drop_drop_end (x : List UInt8) (h m : Nat) (hm : h + m ≤ x.length) : (x.drop h).drop ((x.drop h).length - m) = x.drop (x.length - m) := by
  rw [List.length_drop, List.drop_drop]
  congr 1; omega
theorem tail_eq (b v : List UInt8) : b.drop (b.length - tailN b v) = v.drop (v.length - tailN b v) := by
  have h := tailN_le b v
  have := suf_drop (b.drop (headN b v)) (v.drop (headN b v))
  have e : suf (b.drop (headN b v)) (v.drop (headN b v)) = tailN b v := rfl
  rw [e, drop_drop_end b _ _ h.1, drop_drop_end v _ _ h.2] at this
  exact this
theorem tail_ne (b v : List UInt8) (m : Nat) (hm : tailN b v < m) (h1 : headN b v + m ≤ b.length) (h2 : headN b v + m ≤ v.length) : b.drop (b.length - m) ≠ v.drop (v.length - m) := by
  intro h
  have := suf_most (b.drop (headN b v)) (v.drop (headN b v)) m (by rw [List.length_drop]; omega) (by rw [List.length_drop]; omega) (by rw [drop_drop_end b _ _ h1, drop_drop_end v _ _ h2]; exact h)
  have e : suf (b.drop (headN b v)) (v.drop (headN b v)) = tailN b v := rfl
  omega
theorem head_ne (b v : List UInt8) (n : Nat) (hn : headN b v < n) (h1 : n ≤ b.length) (h2 : n ≤ v.length) : b.take n ≠ v.take n := fun h => by
  have := pre_most b v n h1 h2 h
  have e : pre b v = headN b v := rfl
  omega
theorem endT_prev (zs : List Vr) (i : Nat) (h : i ≤ zs.length) : endT 0 (zs.take i) = prevT 0 zs i := by
  cases i with
  | zero => rfl
  | succ k =>
    have hk : k < zs.length := by omega
    have : zs.take (k + 1) = zs.take k ++ [zs.getD k vr0] := by rw [List.take_add_one, List.getD, List.getElem?_eq_getElem hk]; rfl
    rw [this, endT_snoc]
    unfold prevT
    rw [if_neg (by omega)]
    rfl
theorem takeV_succ (zs : List Vr) {i : Nat} (h : i < zs.length) : zs.take (i + 1) = zs.take i ++ [zs.getD i vr0] := by rw [List.take_add_one, List.getD, List.getElem?_eq_getElem h]; rfl
theorem base_small : ∀ (l : List Vr) (b : List UInt8), b.length ≤ 60000 → (∀ v ∈ l, v.val.size ≤ 60000) → (baseOf b l).length ≤ 60000
  | [], b, hb, _ => hb
  | v :: l, b, hb, h => by
    unfold baseOf
    split
    · exact base_small l b hb (fun x hx => h x (by simp [hx]))
    · exact base_small l _ (by rw [c_size]; exact h v (by simp)) (fun x hx => h x (by simp [hx]))

end Go.Proofs.Ytdcefhhmddjodaa

namespace Go.Proofs.Ytdcefhhmddjodaa
open Go.RowKit
set_option linter.unusedVariables false
set_option linter.unnecessarySimpa false
set_option linter.unusedSimpArgs false
set_option maxRecDepth 100000

structure En where
  key : ByteArray
  ch : List Vr
def en0 : En := ⟨⟨#[]⟩, []⟩
/-- Entries that a slice has. -/
def EntAt (W : World) (b off : Nat) (e : En) : Prop :=
  b < W.heap.size ∧ e.key.size ≤ maxLen ∧ W.cell? ⟨b, off, none⟩ = some (.string e.key) ∧ ∃ ca cl cc, W.cell? ⟨b, off + 1, none⟩ = some (.slice ca cl cc) ∧ IsVers W ca cl cc e.ch
def EntsAt (W : World) (a : Option Addr) (len : Nat) (es : List En) : Prop :=
  es.length = len ∧ ∀ i, i < len → ∃ b off, a = some ⟨b, off, none⟩ ∧ EntAt W b (off + i * 2) (es.getD i en0)
def IsEnts (W : World) (a : Option Addr) (len cap : Nat) (es : List En) : Prop := EntsAt W a len es ∧ len ≤ maxLen ∧ len ≤ cap
theorem EntAt.below {W W' : World} {b off : Nat} {e : En} (h : EntAt W b off e) (hb : Below W.heap.size W W') : EntAt W' b off e := by
  obtain ⟨h1, h2, h3, ca, cl, cc, h4, h5⟩ := h
  refine ⟨Nat.lt_of_lt_of_le h1 hb.size, h2, (hb.cell (p := ⟨b, off, none⟩) h1).trans h3, ca, cl, cc, (hb.cell (p := ⟨b, off + 1, none⟩) h1).trans h4, ?_⟩
  refine ⟨⟨h5.1.1, fun i hi => ?_⟩, h5.2⟩
  obtain ⟨b', off', ha, hlt, k1, k2, k3, k4, k5⟩ := h5.1.2 i hi
  exact ⟨b', off', ha, Nat.lt_of_lt_of_le hlt hb.size, k1, k2, (hb.cell (p := ⟨b', off' + i * 3, none⟩) hlt).trans k3, (hb.cell (p := ⟨b', off' + i * 3 + 1, none⟩) hlt).trans k4, (hb.cell (p := ⟨b', off' + i * 3 + 2, none⟩) hlt).trans k5⟩
theorem IsEnts.below {W W' : World} {a : Option Addr} {len cap : Nat} {es : List En} (h : IsEnts W a len cap es) (hb : Below W.heap.size W W') : IsEnts W' a len cap es :=
  ⟨⟨h.1.1, fun i hi => by obtain ⟨b, off, ha, he⟩ := h.1.2 i hi; exact ⟨b, off, ha, he.below hb⟩⟩, h.2⟩

def fewOne (e : En) : Prop := e.key.size ≤ 100 ∧ FewVers e.ch 10
def FewEnts (es : List En) (n : Nat) : Prop := (∀ i, i < es.length → i < 100 → fewOne (es.getD i en0)) ∧ es.length ≤ n
open Classical in
noncomputable def fewB (es : List En) (n : Nat) : Bool := decide (FewEnts es n)
theorem fewB_true {es : List En} {n : Nat} : fewB es n = true ↔ FewEnts es n := by unfold fewB; simp

set_option maxHeartbeats 2000000 in
theorem bfew_any (a : Option Addr) (len cap n : Nat) (es : List En) (w : World) (hz : IsEnts w a len cap es) (hn : n < 90) :
    Calls Try.prog 28 #[.slice a len cap, .int .i64 (n : Int)] w fun e w' => e = .returned (.bool (fewB es n)) ∧ w' = w := by
  have HZ := Lib.hid hz
  have hlm := hz.2.1
  unfold maxLen at hlm
  have hel := Lib.hid hz.1.1
  clear hz
  go_enter Try.func28, Try.ntmps28
  go_wp2_with fail
  go_loopg [5] (min len 100) (fun g s5 wx => ∃ i : Nat, i + g = min len 100 ∧ s5 = .int .i64 i ∧ w = wx ∧ Hid (∀ j, j < i → fewOne (es.getD j en0)))
  case atStart => exact ⟨0, by omega, rfl, rfl, Lib.hid (fun j hj => by omega)⟩
  case round =>
    obtain ⟨i, hig, rfl, rfl, HA⟩ := hrel
    cases gk with
    | zero =>
      have hfin : Hid (fewB es n = decide (len ≤ n)) := Lib.hid (by
        have h1 : ∀ j, j < es.length → j < 100 → fewOne (es.getD j en0) := fun j hj h => HA.out j (by rw [hel.out] at hj; omega)
        by_cases h : len ≤ n
        · rw [fewB_true.2 ⟨h1, by rw [hel.out]; exact h⟩]; simp [h]
        · have : ¬ FewEnts es n := fun h2 => h (by rw [← hel.out]; exact h2.2)
          rw [show fewB es n = false by rw [← Bool.not_eq_true, fewB_true]; exact this]; simp [h])
      have hcs : (i = len) ∨ (i < len ∧ i = 100) := by omega
      clear hig HA
      rcases hcs with rfl | ⟨h5, rfl⟩
      · go_wp2_with fail
        go_ret
        exact ⟨by rw [hfin.out]; simp, rfl⟩
      · have h6 : (100 : Int) < (len : Int) := by omega
        go_wp2_with fail
        go_ret
        exact ⟨by rw [hfin.out]; simp, rfl⟩
    | succ g =>
      have hil : i < len := by omega
      have hiz : (i : Int) < (len : Int) := by omega
      have hi3 : (i : Int) < 100 := by omega
      obtain ⟨b, off, rfl, hbl, hm, k0, ca, cl, cc, k1, hv⟩ := HZ.out.1.2 i hil
      have HO := Lib.hid (show fewOne (es.getD i en0) → (∀ j, j < i + 1 → fewOne (es.getD j en0)) from fun h j hj => by
        by_cases hji : j < i
        · exact HA.out j hji
        · obtain rfl : j = i := by omega
          exact h)
      have HNo := Lib.hid (show ¬ fewOne (es.getD i en0) → fewB es n = false from fun h => by
        rw [← Bool.not_eq_true, fewB_true]
        exact fun h2 => h (h2.1 i (by rw [hel.out]; exact hil) (by omega)))
      obtain ⟨e, he⟩ : ∃ e, e = es.getD i en0 := ⟨_, rfl⟩
      rw [← he] at k0 hv hm HO HNo
      obtain ⟨K, hK⟩ : ∃ K, K = e.key := ⟨_, rfl⟩
      rw [← hK] at k0 hm
      unfold maxLen at hm
      clear he
      by_cases h1 : K.size ≤ 100
      · have hb2 : ¬ (100 : Int) < (K.size : Int) := by omega
        have hb3 : decide (100 < K.size) = false := by rw [decide_eq_false_iff_not]; omega
        by_cases h2 : FewVers e.ch 10
        · have HV := Lib.hid (vfew_yes ca cl cc 10 e.ch w hv (by omega) h2)
          have HO2 := Lib.hid (HO.out ⟨by rw [← hK]; exact h1, h2⟩)
          clear h1 h2 hK hbl HO HNo HA
          go_wp2_with (go_at_call 43; refine HV.out.mono ?_; rintro e w1 ⟨rfl, rfl⟩)
          go_roundg g
          case measure => omega
          case rel => exact ⟨i + 1, by omega, by go_num, rfl, HO2⟩
        · have HV := Lib.hid (vfew_no ca cl cc 10 e.ch w hv (by omega) h2)
          have HN := Lib.hid (HNo.out (fun h => h2 h.2))
          clear h1 h2 hK hbl HO HNo HA
          go_wp2_with (go_at_call 43; refine HV.out.mono ?_; rintro e w1 ⟨rfl, rfl⟩)
          go_ret
          exact ⟨by rw [HN.out]; rfl, rfl⟩
      · have hb2 : (100 : Int) < (K.size : Int) := by omega
        have hb3 : decide (100 < K.size) = true := by rw [decide_eq_true_iff]; omega
        have HN := Lib.hid (HNo.out (fun h => h1 (by rw [hK]; exact h.1)))
        clear h1 hK hbl HO HNo HA
        go_wp2_with fail
        go_ret
        exact ⟨by rw [HN.out]; rfl, rfl⟩
end Go.Proofs.Ytdcefhhmddjodaa

namespace Go.Proofs.Ytdcefhhmddjodaa
open Go.RowKit
set_option linter.unusedVariables false
set_option linter.unnecessarySimpa false
set_option linter.unusedSimpArgs false
set_option maxRecDepth 100000

theorem likes_cell {w : World} {p : Addr} {v : Value} (hb : p.block < w.heap.size) (h : w.cell? p = some v) : ∀ x : Like w.heap.size w, x.val.cell? p = some v := fun x => (x.below.cell hb).trans h
theorem vers_bel {w w' : World} {a : Option Addr} {len cap : Nat} {zs : List Vr} (h : IsVers w a len cap zs) (hb : Below w.heap.size w w') : IsVers w' a len cap zs := by
  refine ⟨⟨h.1.1, fun i hi => ?_⟩, h.2⟩
  obtain ⟨b, off, ha, hlt, h1, h2, h3, h4, h5⟩ := h.1.2 i hi
  exact ⟨b, off, ha, Nat.lt_of_lt_of_le hlt hb.size, h1, h2, (hb.cell (p := ⟨b, off + i * 3, none⟩) hlt).trans h3, (hb.cell (p := ⟨b, off + i * 3 + 1, none⟩) hlt).trans h4, (hb.cell (p := ⟨b, off + i * 3 + 2, none⟩) hlt).trans h5⟩
theorem drewN_below (w : World) (n : Nat) : Below w.heap.size w (w.drewN n) := ⟨rfl, rfl, rfl, Nat.le_refl _, fun _ _ => rfl⟩

set_option maxHeartbeats 2000000 in
theorem bsame_yes (a1 a2 : Option Addr) (len c1 c2 : Nat) (es : List En) (w : World) (h1 : IsEnts w a1 len c1 es) (h2 : IsEnts w a2 len c2 es) :
    Calls Try.prog 26 #[.slice a1 len c1, .slice a2 len c2] w fun e w' => e = .returned (.bool true) ∧ Below w.heap.size w w' := by
  have H1 := Lib.hid h1
  have H2 := Lib.hid h2
  have hlm := h1.2.1
  unfold maxLen at hlm
  clear h1 h2
  go_enter Try.func26, Try.ntmps26
  go_wp2_with fail
  go_loopg [5] len (fun g s5 wx => ∃ i : Nat, i + g = len ∧ s5 = .int .i64 i ∧ Hid (Below w.heap.size w wx))
  case atStart => exact ⟨0, by omega, rfl, Lib.hid (Below.refl _ _)⟩
  case round =>
    obtain ⟨i, hig, rfl, HB⟩ := hrel
    cases gk with
    | zero =>
      obtain rfl : len = i := by omega
      go_wp2_with fail
      go_ret
      exact ⟨rfl, HB.out⟩
    | succ g =>
      have hil : i < len := by omega
      have hiz : (i : Int) < (len : Int) := by omega
      obtain ⟨b, off, rfl, hbl, hm1, k0, ca, cl, cc, k1, hv⟩ := (H1.out.below HB.out).1.2 i hil
      obtain ⟨b', off', rfl, hbl', hm2, j0, ca', cl', cc', j1, hv'⟩ := (H2.out.below HB.out).1.2 i hil
      obtain ⟨e, he⟩ : ∃ e, e = es.getD i en0 := ⟨_, rfl⟩
      rw [← he] at k0 hv j0 hv'
      obtain ⟨K, hK⟩ : ∃ K, K = e.key := ⟨_, rfl⟩
      rw [← hK] at k0 j0
      have hl1 : cl = e.ch.length := hv.1.1.symm
      have hl2 : cl' = e.ch.length := hv'.1.1.symm
      obtain ⟨n, hn⟩ : ∃ n, n = e.ch.length := ⟨_, rfl⟩
      rw [← hn] at hl1 hl2
      subst hl1 hl2
      have HV := Lib.hid (fun x : Like wr.heap.size wr => (vsame_yes ca ca' cl' cc cc' e.ch x.val (vers_bel hv x.below) (vers_bel hv' x.below)).mono (R' := fun e w' => e = .returned (.bool true) ∧ Below x.val.heap.size x.val w') (by
        rintro e w' ⟨rfl, m, rfl⟩
        exact ⟨rfl, drewN_below _ m⟩))
      have q0 := likes_cell hbl k0
      have q1 := likes_cell (p := ⟨b, off + i * 2 + 1, none⟩) hbl k1
      have q2 := likes_cell hbl' j0
      have q3 := likes_cell (p := ⟨b', off' + i * 2 + 1, none⟩) hbl' j1
      have hkk : (K.toList == K.toList) = true := by simp
      clear he hn hK hv hv' k0 k1 j0 j1 hm1 hm2 hbl hbl'
      go_upto_region 6 with fail
      refine region_likes (by kernel_rfl) (by kernel_rfl) ?_
      repeat (first
        | (go_big_quiet_step (first
            | (go_at_call 42; exact calls_likes (Like.size _) (HV.out _)))))
      refine wpQuiet_nil ?_
      intro x
      have HB2 := Lib.hid (HB.out.trans (x.below.mono HB.out.size))
      clear q0 q1 q2 q3
      go_wp2_with fail
      go_roundg g
      case measure => omega
      case rel => exact ⟨i + 1, by omega, by go_num, HB2⟩
end Go.Proofs.Ytdcefhhmddjodaa
