/-
  Joined: BlkRight, BlkInside, MvcEntMath, CrcMath, CrcSmall, CrcMake.
-/
import Derived.Test.YtdcefhhmddjodaaSet10
import Derived.RegionTactic
import Derived.Test.YtdcefhhmddjodaaSet09
import Derived.Test.YtdcefhhmddjodaaRows
import Derived.WalkKit
import Derived.Laws.BitsAllLaws
import Derived.ProofKit
import Derived.WalkSpells
import Derived.WalkLawsBesides
import Derived.Lib.Hide
import Derived.Deep.LoopGhost
import Derived.Deep.WholeRow
import Derived.Laws.Rows
import Derived.Laws.Tables
import Derived.Laws.CopyOwn
namespace Go.Proofs.Ytdcefhhmddjodaa
open Go.RowKit
set_option linter.unusedVariables false
set_option linter.unnecessarySimpa false
set_option linter.unusedSimpArgs false
set_option maxRecDepth 100000

/-- Two keys in order. -/
def ltS (a b : ByteArray) : Bool := Op.bytesLess a.toList b.toList
def eqS (a b : ByteArray) : Bool := a.toList == b.toList
/-- An entry, behind a key. -/
def entOk (es : List En) (i : Nat) : Bool := decide (0 < (es.getD i en0).ch.length) && rightB (es.getD i en0).ch && (decide (i = 0) || !(ltS (es.getD i en0).key (es.getD (i - 1) en0).key || eqS (es.getD i en0).key (es.getD (i - 1) en0).key))
def rightE (es : List En) : Bool := (List.range es.length).all (entOk es)
theorem rightE_true {es : List En} : rightE es = true ↔ ∀ i, i < es.length → entOk es i = true := by
  unfold rightE
  simp [List.all_eq_true]
theorem rightE_false {es : List En} {i : Nat} (hi : i < es.length) (h : entOk es i = false) : rightE es = false := by
  rw [← Bool.not_eq_true, rightE_true]
  intro h2
  rw [h2 i hi] at h
  cases h

set_option maxHeartbeats 4000000 in
theorem bright_any (a : Option Addr) (len cap : Nat) (es : List En) (w : World) (hz : IsEnts w a len cap es) :
    Calls Try.prog 29 #[.slice a len cap] w fun e w' => e = .returned (.bool (rightE es)) ∧ Below w.heap.size w w' := by
  have HZ := Lib.hid hz
  have hlm := hz.2.1
  unfold maxLen at hlm
  have hel := Lib.hid hz.1.1
  clear hz
  go_enter Try.func29, Try.ntmps29
  go_wp2_with fail
  go_loopg [3] len (fun g s3 wx => ∃ i : Nat, i + g = len ∧ s3 = .int .i64 i ∧ Hid (Below w.heap.size w wx) ∧ Hid (∀ j, j < i → entOk es j = true))
  case atStart => exact ⟨0, by omega, rfl, Lib.hid (Below.refl _ _), Lib.hid (fun j hj => by omega)⟩
  case round =>
    obtain ⟨i, hig, rfl, HB, HA⟩ := hrel
    cases gk with
    | zero =>
      obtain rfl : i = len := by omega
      have HR := Lib.hid (show rightE es = true from rightE_true.2 (fun j hj => HA.out j (by rw [← hel.out]; exact hj)))
      clear HA
      go_wp2_with fail
      go_ret
      exact ⟨by rw [HR.out]; rfl, HB.out⟩
    | succ g =>
      have hil : i < len := by omega
      have hiz : (i : Int) < (len : Int) := by omega
      obtain ⟨b, off, rfl, hbl, hm1, k0, ca, cl, cc, k1, hv⟩ := (HZ.out.below HB.out).1.2 i hil
      have HO := Lib.hid (show entOk es i = true → (∀ j, j < i + 1 → entOk es j = true) from fun h j hj => by
        by_cases hji : j < i
        · exact HA.out j hji
        · obtain rfl : j = i := by omega
          exact h)
      have HNo := Lib.hid (show entOk es i = false → rightE es = false from fun h => rightE_false (by rw [hel.out]; exact hil) h)
      have hprev : 0 < i → ∃ k : Nat, IntKind.i64.wrap ((i : Int) - 1) = (k : Int) ∧ k < len ∧ (0 : Int) ≤ (k : Int) ∧ (k : Int) < (len : Int) ∧ wr.cell? ⟨b, off + k * 2, none⟩ = some (.string (es.getD (i - 1) en0).key) := fun h0 => by
        obtain ⟨b2, off2, ha2, _, _, q0, _⟩ := (HZ.out.below HB.out).1.2 (i - 1) (by omega)
        cases ha2
        exact ⟨i - 1, by rw [IntWalk.i64_in _ (by omega)]; omega, by omega, by omega, by omega, q0⟩
      obtain ⟨e, he⟩ : ∃ e, e = es.getD i en0 := ⟨_, rfl⟩
      obtain ⟨P, hP⟩ : ∃ P, P = (es.getD (i - 1) en0).key := ⟨_, rfl⟩
      have hok : entOk es i = (decide (0 < e.ch.length) && rightB e.ch && (decide (i = 0) || !(ltS e.key P || eqS e.key P))) := by unfold entOk; rw [← he, ← hP]
      rw [← he] at k0 hv
      rw [← hP] at hprev
      obtain ⟨K, hK⟩ : ∃ K, K = e.key := ⟨_, rfl⟩
      rw [← hK] at k0 hok
      have hl1 : cl = e.ch.length := hv.1.1.symm
      have HV := Lib.hid (fun x : Like wr.heap.size wr => (vright_any ca cl cc e.ch x.val (vers_bel hv x.below)).mono (R' := fun e1 w' => e1 = .returned (.bool (rightB e.ch)) ∧ Below x.val.heap.size x.val w') (by
        rintro e w' ⟨rfl, m, rfl⟩
        exact ⟨rfl, drewN_below _ m⟩))
      obtain ⟨R, hR⟩ : ∃ R, R = rightB e.ch := ⟨_, rfl⟩
      rw [← hR] at HV hok
      rw [← hl1] at hok
      have q0 := likes_cell hbl k0
      have q1 := likes_cell (p := ⟨b, off + i * 2 + 1, none⟩) hbl k1
      have hprev2 : 0 < i → ∃ k : Nat, IntKind.i64.wrap ((i : Int) - 1) = (k : Int) ∧ k < len ∧ (0 : Int) ≤ (k : Int) ∧ (k : Int) < (len : Int) ∧ ∀ x : Like wr.heap.size wr, x.val.cell? ⟨b, off + k * 2, none⟩ = some (.string P) := fun h0 => by
        obtain ⟨k, p1, p2, p3, p4, p5⟩ := hprev h0
        exact ⟨k, p1, p2, p3, p4, likes_cell (p := ⟨b, off + k * 2, none⟩) hbl p5⟩
      unfold ltS eqS at hok
      obtain ⟨L, hL⟩ : ∃ L, L = Op.bytesLess K.toList P.toList := ⟨_, rfl⟩
      obtain ⟨E, hE⟩ : ∃ E, E = (K.toList == P.toList) := ⟨_, rfl⟩
      rw [← hL, ← hE] at hok
      have HL := Lib.hid hL.symm
      have HE := Lib.hid hE.symm
      have HOK := Lib.hid hok
      clear he hK hP hR hL hE hok hv k0 k1 hm1 hprev HA hl1
      go_upto_region 4 with fail
      have hbl2 := hbl
      clear hbl
      by_cases hc0 : cl = 0
      · have HF := Lib.hid (HNo.out (by rw [HOK.out, hc0]; rfl))
        have z1 : ((cl : Int) == 0) = true := by rw [beq_iff_eq]; omega
        clear hprev2 HO HNo HOK HL HE hc0
        refine region_likes (by kernel_rfl) (by kernel_rfl) ?_
        repeat (first
          | (go_big_quiet_step (first
              | (go_at_call 44; exact calls_likes (Like.size _) (HV.out _)))))
        refine wpQuiet_nil ?_
        intro x
        have HB2 := Lib.hid (HB.out.trans (x.below.mono HB.out.size))
        clear q0 q1
        go_wp2_with fail
        go_ret
        exact ⟨by rw [HF.out]; rfl, HB2.out⟩
      · have z1 : ((cl : Int) == 0) = false := by rw [beq_eq_false_iff_ne]; omega
        have hcl : decide (0 < cl) = true := by simp; omega
        cases R with
        | false =>
          have HF := Lib.hid (HNo.out (by rw [HOK.out, hcl]; rfl))
          clear hprev2 HO HNo HOK HL HE hc0
          refine region_likes (by kernel_rfl) (by kernel_rfl) ?_
          repeat (first
            | (go_big_quiet_step (first
                | (go_at_call 44; exact calls_likes (Like.size _) (HV.out _)))))
          refine wpQuiet_nil ?_
          intro x
          have HB2 := Lib.hid (HB.out.trans (x.below.mono HB.out.size))
          clear q0 q1
          go_wp2_with fail
          go_ret
          exact ⟨by rw [HF.out]; rfl, HB2.out⟩
        | true =>
          by_cases hi0 : i = 0
          · have HF := Lib.hid (HO.out (by rw [HOK.out, hcl, hi0]; rfl))
            have z2 : decide ((0 : Int) < (i : Int)) = false := by simp; omega
            have z3 : decide (0 < i) = false := by simp; omega
            have HI := Lib.hid hi0
            clear hprev2 HO HNo HOK HL HE hc0 hi0
            refine region_likes (by kernel_rfl) (by kernel_rfl) ?_
            repeat (first
              | (go_big_quiet_step (first
                  | (go_at_call 44; exact calls_likes (Like.size _) (HV.out _)))))
            refine wpQuiet_nil ?_
            intro x
            have HB2 := Lib.hid (HB.out.trans (x.below.mono HB.out.size))
            clear q0 q1
            go_wp2_with fail
            go_roundg g
            case measure => omega
            case rel => exact ⟨i + 1, by omega, by go_num, HB2, HF⟩
          · obtain ⟨k, hw1, hkl, hk0', hkz, ck⟩ := hprev2 (by omega)
            have z2 : decide ((0 : Int) < (i : Int)) = true := by simp; omega
            have z3 : decide (0 < i) = true := by simp; omega
            have hLs := HL.out
            have hEs := HE.out
            have hi1 : decide (i = 0) = false := by simpa using hi0
            have hOK := HOK.out
            rw [hcl, hi1] at hOK
            have HOK2 := Lib.hid hOK
            clear hprev2 HL HE hc0 HOK hOK hi0 hi1
            cases L with
            | true =>
              have HF := Lib.hid (HNo.out (by rw [HOK2.out]; rfl))
              clear HO HNo HOK2
              refine region_likes (by kernel_rfl) (by kernel_rfl) ?_
              repeat (first
                | (go_big_quiet_step (first
                    | (go_at_call 44; exact calls_likes (Like.size _) (HV.out _)))))
              refine wpQuiet_nil ?_
              intro x
              have HB2 := Lib.hid (HB.out.trans (x.below.mono HB.out.size))
              clear q0 q1 ck
              go_wp2_with fail
              go_ret
              exact ⟨by rw [HF.out]; rfl, HB2.out⟩
            | false =>
              cases E with
              | true =>
                have HF := Lib.hid (HNo.out (by rw [HOK2.out]; rfl))
                clear HO HNo HOK2
                refine region_likes (by kernel_rfl) (by kernel_rfl) ?_
                repeat (first
                  | (go_big_quiet_step (first
                      | (go_at_call 44; exact calls_likes (Like.size _) (HV.out _)))))
                refine wpQuiet_nil ?_
                intro x
                have HB2 := Lib.hid (HB.out.trans (x.below.mono HB.out.size))
                clear q0 q1 ck
                go_wp2_with fail
                go_ret
                exact ⟨by rw [HF.out]; rfl, HB2.out⟩
              | false =>
                have HF := Lib.hid (HO.out (by rw [HOK2.out]; rfl))
                clear HO HNo HOK2
                refine region_likes (by kernel_rfl) (by kernel_rfl) ?_
                repeat (first
                  | (go_big_quiet_step (first
                      | (go_at_call 44; exact calls_likes (Like.size _) (HV.out _)))))
                refine wpQuiet_nil ?_
                intro x
                have HB2 := Lib.hid (HB.out.trans (x.below.mono HB.out.size))
                clear q0 q1 ck
                go_wp2_with fail
                go_roundg g
                case measure => omega
                case rel => exact ⟨i + 1, by omega, by go_num, HB2, HF⟩
end Go.Proofs.Ytdcefhhmddjodaa

namespace Go.Proofs.Ytdcefhhmddjodaa
open Go.RowKit
set_option linter.unusedVariables false
set_option linter.unnecessarySimpa false
set_option linter.unusedSimpArgs false
set_option maxRecDepth 100000

def txtB (l : List UInt8) : List UInt8 := ub l.length ++ l
/-- An entry's bytes, behind a key. -/
def entB (p : List UInt8) (e : En) : List UInt8 := ub (pre p e.key.data.toList) ++ txtB (e.key.data.toList.drop (pre p e.key.data.toList)) ++ txtB (chainB e.ch)
def entsB : List UInt8 → List En → List UInt8
  | _, [] => []
  | p, e :: l => entB p e ++ entsB e.key.data.toList l
def insideB (es : List En) : List UInt8 := ub es.length ++ entsB [] es
def lastKey : List UInt8 → List En → List UInt8
  | p, [] => p
  | _, e :: l => lastKey e.key.data.toList l
theorem entsB_snoc (p : List UInt8) (l : List En) (e : En) : entsB p (l ++ [e]) = entsB p l ++ entB (lastKey p l) e := by
  induction l generalizing p with
  | nil => simp [entsB, lastKey]
  | cons x l ih => rw [List.cons_append, entsB, ih, entsB, lastKey, List.append_assoc]
theorem lastKey_snoc (p : List UInt8) (l : List En) (e : En) : lastKey p (l ++ [e]) = e.key.data.toList := by
  induction l generalizing p with
  | nil => rfl
  | cons x l ih => rw [List.cons_append, lastKey, ih]
theorem takeE_succ (es : List En) {i : Nat} (h : i < es.length) : es.take (i + 1) = es.take i ++ [es.getD i en0] := by rw [List.take_add_one, List.getD, List.getElem?_eq_getElem h]; rfl
theorem lastKey_take (es : List En) {i : Nat} (h : i < es.length) : lastKey [] (es.take (i + 1)) = (es.getD i en0).key.data.toList := by rw [takeE_succ es h, lastKey_snoc]
theorem txtB_len (l : List UInt8) (h : l.length ≤ 300000) : (txtB l).length ≤ l.length + 10 := by
  unfold txtB
  rw [List.length_append]
  have := ub_len10 (n := l.length) (by omega)
  omega
/-- What is small enough to be looked at. -/
def SmallE (es : List En) : Prop := ∀ e ∈ es, e.key.size ≤ 60000 ∧ (chainB e.ch).length ≤ 200000 ∧ ∀ v ∈ e.ch, v.val.size ≤ 60000
theorem entB_len (p : List UInt8) (e : En) (h1 : e.key.size ≤ 60000) (h2 : (chainB e.ch).length ≤ 200000) : (entB p e).length ≤ 300000 := by
  unfold entB
  have hp := pre_le p e.key.data.toList
  have hk := c_size e.key
  have u1 := ub_len10 (n := pre p e.key.data.toList) (by omega)
  have u2 := txtB_len (e.key.data.toList.drop (pre p e.key.data.toList)) (by rw [List.length_drop]; omega)
  have u3 := txtB_len (chainB e.ch) (by omega)
  rw [List.length_drop] at u2
  rw [List.length_append, List.length_append]
  omega
theorem entOk_right {es : List En} (h : rightE es = true) {i : Nat} (hi : i < es.length) : rightB (es.getD i en0).ch = true := by
  have := rightE_true.1 h i hi
  unfold entOk at this
  simp only [Bool.and_eq_true] at this
  exact this.1.2

theorem right_partsE {zs : List Vr} (h : rightB zs = true) : risesB 0 zs = true ∧ zs.length ≤ 200 := by
  unfold rightB at h
  simpa using h

end Go.Proofs.Ytdcefhhmddjodaa

namespace Go.Proofs.Ytdcefhhmddjodaa
open Go.RowKit
set_option linter.unusedVariables false
set_option linter.unnecessarySimpa false
set_option linter.unusedSimpArgs false
set_option maxRecDepth 100000

def chainOf (k : ByteArray) (L : List Im) : List Vr := (L.filter fun m => sameK m.key k).map (·.v)
def entOf (L : List Im) (k : ByteArray) : En := ⟨k, chainOf k L⟩
def entsM (L : List Im) : List En := (keysM L).map (entOf L)
theorem chainOf_snoc (k : ByteArray) (L : List Im) (m : Im) : chainOf k (L ++ [m]) = if sameK m.key k then chainOf k L ++ [m.v] else chainOf k L := by
  unfold chainOf
  rw [List.filter_append, List.map_append]
  by_cases h : sameK m.key k = true <;> simp [h]
theorem entsM_len (L : List Im) : (entsM L).length = (keysM L).length := by unfold entsM; rw [List.length_map]
theorem chainOf_len (k : ByteArray) (L : List Im) : (chainOf k L).length ≤ L.length := by
  unfold chainOf
  rw [List.length_map]
  exact List.length_filter_le _ _
theorem chainOf_mem {k : ByteArray} {L : List Im} {v : Vr} (h : v ∈ chainOf k L) : ∃ m ∈ L, m.v = v := by
  unfold chainOf at h
  obtain ⟨m, hm, rfl⟩ := List.mem_map.1 h
  exact ⟨m, (List.mem_filter.1 hm).1, rfl⟩
end Go.Proofs.Ytdcefhhmddjodaa

namespace Go.Proofs.Ytdcefhhmddjodaa
set_option linter.unnecessarySimpa false
set_option linter.unusedVariables false
set_option linter.unusedSimpArgs false
set_option maxRecDepth 100000

theorem xor_zero_eq {x y : Nat} (h : x ^^^ y = 0) : x = y := by
  have h1 : x ^^^ (x ^^^ y) = x := by rw [h, Nat.xor_zero]
  rw [← Nat.xor_assoc, Nat.xor_self, Nat.zero_xor] at h1
  exact h1.symm

/-- One step: halved, and, if a one was lost, the polynomial by an exclusive or. -/
def half (n : Nat) : Nat := if n % 2 = 1 then (n / 2) ^^^ 2197175160 else n / 2
def halves : Nat → Nat → Nat
  | 0, n => n
  | k + 1, n => halves k (half n)

theorem half_odd {n : Nat} (h : n % 2 = 1) : half n = (n / 2) ^^^ 2197175160 := if_pos h
theorem half_even {n : Nat} (h : ¬ n % 2 = 1) : half n = n / 2 := if_neg h

theorem half_xor (x y : Nat) : half (x ^^^ y) = half x ^^^ half y := by
  have hm := @Nat.xor_mod_two_eq_one x y
  by_cases hx : x % 2 = 1 <;> by_cases hy : y % 2 = 1
  · rw [half_even (by rw [hm]; simp [hx, hy]), half_odd hx, half_odd hy, Nat.xor_div_two,
      Nat.xor_assoc, ← Nat.xor_assoc 2197175160, Nat.xor_comm 2197175160, Nat.xor_assoc (y / 2), Nat.xor_self, Nat.xor_zero]
  · rw [half_odd (by rw [hm]; simp [hx, hy]), half_odd hx, half_even hy, Nat.xor_div_two, Nat.xor_assoc, Nat.xor_assoc, Nat.xor_comm (y / 2)]
  · rw [half_odd (by rw [hm]; simp [hx, hy]), half_even hx, half_odd hy, Nat.xor_div_two, Nat.xor_assoc]
  · rw [half_even (by rw [hm]; simp [hx, hy]), half_even hx, half_even hy, Nat.xor_div_two]

theorem half_lt {n : Nat} (h : n < 4294967296) : half n < 4294967296 := by
  by_cases hn : n % 2 = 1
  · rw [half_odd hn]
    exact Nat.xor_lt_two_pow (n := 32) (by omega) (by decide)
  · rw [half_even hn]; omega

theorem half_zero {n : Nat} (h : n < 4294967296) (h0 : half n = 0) : n = 0 := by
  by_cases hn : n % 2 = 1
  · rw [half_odd hn] at h0
    have := xor_zero_eq h0
    omega
  · rw [half_even hn] at h0; omega

theorem half_inj {x y : Nat} (hx : x < 4294967296) (hy : y < 4294967296) (h : half x = half y) : x = y := by
  refine xor_zero_eq (half_zero (Nat.xor_lt_two_pow (n := 32) hx hy) ?_)
  rw [half_xor, h, Nat.xor_self]

theorem halves_xor : ∀ (k x y : Nat), halves k (x ^^^ y) = halves k x ^^^ halves k y
  | 0, _, _ => rfl
  | k + 1, x, y => by rw [halves, halves, halves, half_xor, halves_xor k]
theorem halves_lt : ∀ (k : Nat) {n : Nat}, n < 4294967296 → halves k n < 4294967296
  | 0, _, h => h
  | k + 1, _, h => by rw [halves]; exact halves_lt k (half_lt h)
theorem halves_inj : ∀ (k : Nat) {x y : Nat}, x < 4294967296 → y < 4294967296 → halves k x = halves k y → x = y
  | 0, _, _, _, _, h => h
  | k + 1, _, _, hx, hy, h => half_inj hx hy (halves_inj k (half_lt hx) (half_lt hy) h)
theorem halves_snoc : ∀ (k n : Nat), halves (k + 1) n = half (halves k n)
  | 0, _ => rfl
  | k + 1, n => by rw [halves, halves_snoc k, halves]
theorem halves_mul : ∀ (k n : Nat), halves k (2 ^ k * n) = n
  | 0, n => by simp [halves]
  | k + 1, n => by
    have e : 2 ^ (k + 1) * n = 2 * (2 ^ k * n) := by rw [Nat.pow_succ, Nat.mul_comm (2 ^ k) 2, Nat.mul_assoc]
    rw [halves, e, half_even (by omega), Nat.mul_div_cancel_left _ (by decide), halves_mul k]

theorem split256 (s : Nat) : s = (256 * (s / 256)) ^^^ (s % 256) := by
  apply Nat.eq_of_testBit_eq
  intro i
  rw [Nat.testBit_xor, show (256 : Nat) = 2 ^ 8 from rfl, Nat.testBit_mod_two_pow, Nat.mul_comm, Nat.testBit_mul_two_pow, Nat.testBit_div_two_pow]
  by_cases h : i < 8
  · have h' : ¬ 8 ≤ i := by omega
    simp [h, h']
  · have h' : 8 ≤ i := by omega
    simp [h, h', Nat.sub_add_cancel h']

/-- A byte more. -/
def stepB (s : Nat) (b : UInt8) : Nat := halves 8 (s ^^^ b.toNat)
/-- The table's way to it. -/
theorem stepB_table (s : Nat) (b : UInt8) : stepB s b = (s / 256) ^^^ halves 8 ((s % 256) ^^^ b.toNat) := by
  unfold stepB
  conv => lhs; rw [split256 s]
  rw [Nat.xor_assoc, halves_xor, show (256 : Nat) = 2 ^ 8 from rfl, halves_mul]
theorem stepB_lt {s : Nat} (h : s < 4294967296) (b : UInt8) : stepB s b < 4294967296 :=
  halves_lt 8 (Nat.xor_lt_two_pow (n := 32) h (by have := UInt8.toNat_lt b; omega))
theorem stepB_state {s t : Nat} (hs : s < 4294967296) (ht : t < 4294967296) (b : UInt8) (h : stepB s b = stepB t b) : s = t := by
  have hb := UInt8.toNat_lt b
  have h1 := halves_inj 8 (Nat.xor_lt_two_pow (n := 32) hs (by omega)) (Nat.xor_lt_two_pow (n := 32) ht (by omega)) h
  have h2 : (s ^^^ b.toNat) ^^^ b.toNat = (t ^^^ b.toNat) ^^^ b.toNat := by rw [h1]
  simpa [Nat.xor_assoc] using h2
theorem stepB_byte {s : Nat} (hs : s < 4294967296) {b c : UInt8} (h : stepB s b = stepB s c) : b = c := by
  have hb := UInt8.toNat_lt b
  have hc := UInt8.toNat_lt c
  have h1 := halves_inj 8 (Nat.xor_lt_two_pow (n := 32) hs (by omega)) (Nat.xor_lt_two_pow (n := 32) hs (by omega)) h
  have h2 : s ^^^ (s ^^^ b.toNat) = s ^^^ (s ^^^ c.toNat) := by rw [h1]
  rw [← Nat.xor_assoc, ← Nat.xor_assoc, Nat.xor_self, Nat.zero_xor, Nat.zero_xor] at h2
  exact UInt8.toNat_inj.1 h2

/-- The state behind bytes. -/
def moreB (s : Nat) (l : List UInt8) : Nat := l.foldl stepB s
theorem moreB_nil (s : Nat) : moreB s [] = s := rfl
theorem moreB_append (s : Nat) (l m : List UInt8) : moreB s (l ++ m) = moreB (moreB s l) m := List.foldl_append ..
theorem moreB_lt : ∀ (l : List UInt8) {s : Nat}, s < 4294967296 → moreB s l < 4294967296
  | [], _, h => h
  | b :: l, _, h => moreB_lt l (stepB_lt h b)
theorem moreB_state : ∀ (l : List UInt8) {s t : Nat}, s < 4294967296 → t < 4294967296 → moreB s l = moreB t l → s = t
  | [], _, _, _, _, h => h
  | b :: l, _, _, hs, ht, h => stepB_state hs ht b (moreB_state l (stepB_lt hs b) (stepB_lt ht b) h)
/-- Bytes that differ in one place alone make other states. -/
theorem moreB_bent (l m : List UInt8) {b c : UInt8} (h : b ≠ c) {s : Nat} (hs : s < 4294967296) : moreB s (l ++ b :: m) ≠ moreB s (l ++ c :: m) := by
  intro e
  rw [moreB_append, moreB_append] at e
  have hl := moreB_lt l hs
  exact h (stepB_byte hl (moreB_state m (stepB_lt hl b) (stepB_lt hl c) e))

/-- The sum. -/
def sumB (l : List UInt8) : Nat := 4294967295 - moreB 4294967295 l
theorem flip32 {s : Nat} (h : s < 4294967296) : s ^^^ 4294967295 = 4294967295 - s := by
  rw [show (4294967295 : Nat) = 2 ^ 32 - 1 from rfl]
  have := Nat.xor_lt_two_pow (n := 32) h (show (4294967295 : Nat) < 2 ^ 32 by decide)
  apply Nat.eq_of_testBit_eq
  intro i
  rw [Nat.testBit_xor, Nat.testBit_two_pow_sub_one, show 2 ^ 32 - 1 - s = 2 ^ 32 - (s + 1) by omega, Nat.testBit_two_pow_sub_succ (n := 32) h]
  by_cases hi : i < 32
  · simp [hi]
  · have : s.testBit i = false := Nat.testBit_lt_two_pow (Nat.lt_of_lt_of_le h (Nat.pow_le_pow_right (n := 2) (by decide) (show 32 ≤ i by omega)))
    simp [hi, this]
theorem sumB_lt (l : List UInt8) : sumB l < 4294967296 := by unfold sumB; omega
theorem sumB_bent (l m : List UInt8) {b c : UInt8} (h : b ≠ c) : sumB (l ++ b :: m) ≠ sumB (l ++ c :: m) := by
  intro e
  have h1 := moreB_bent l m h (s := 4294967295) (by decide)
  have h2 := moreB_lt (l ++ b :: m) (s := 4294967295) (by decide)
  have h3 := moreB_lt (l ++ c :: m) (s := 4294967295) (by decide)
  unfold sumB at e
  omega

/-- The table, as an array's cells. -/
def tab : Array Value := (Array.range 256).map fun i => .int .u32 (halves 8 i)
theorem tab_size : tab.size = 256 := by simp [tab]
theorem tab_at {i : Nat} (h : i < 256) : tab[i]? = some (.int .u32 (halves 8 i)) := by simp [tab, h]
theorem tab_one : tab.all (·.oneCell') = true := by
  rw [Array.all_eq_true_iff_forall_mem]
  intro v hv
  obtain ⟨j, _, rfl⟩ := Array.mem_map.1 hv
  rfl
/-- The table's first k places, noughts behind them. -/
def tabTo (k : Nat) : Array Value := (Array.range 256).map fun i => .int .u32 (if i < k then (halves 8 i : Int) else 0)
theorem tabTo_size (k : Nat) : (tabTo k).size = 256 := by simp [tabTo]
theorem tabTo_zero : tabTo 0 = Array.replicate 256 (.int .u32 0) := by
  apply Array.ext
  · simp [tabTo]
  · intro i h1 h2; simp [tabTo]
theorem tabTo_all : tabTo 256 = tab := by
  apply Array.ext
  · simp [tabTo, tab]
  · intro i h1 h2
    have : i < 256 := by simpa [tabTo_size] using h1
    simp [tabTo, tab, this]
theorem tabTo_cur {k : Nat} (h : k < 256) : (tabTo k)[k]? = some (.int .u32 0) := by simp [tabTo, h]
theorem tabTo_succ (k : Nat) : (tabTo k).setIfInBounds k (.int .u32 (halves 8 k)) = tabTo (k + 1) := by
  apply Array.ext
  · simp [tabTo]
  · intro i h1 h2
    rw [Array.getElem_setIfInBounds (by simpa [tabTo_size] using h1)]
    by_cases h : k = i
    · subst h; simp [tabTo]
    · have h3 : (i < k + 1) = (i < k) := by apply propext; omega
      simp [tabTo, h, h3]

/-! The model's spellings. -/
theorem and1 {n : Nat} (h : n < 4294967296) : bits BinOp.and IntKind.u32 (n : Int) 1 = ((n % 2 : Nat) : Int) := by
  rw [show (1 : Int) = ((1 : Nat) : Int) from rfl, u32_and_nat n 1 h (by decide), nat_mask1]
theorem xorP32 {n : Nat} (h : n < 4294967296) : bits BinOp.xor IntKind.u32 (n : Int) 2197175160 = ((n ^^^ 2197175160 : Nat) : Int) := by
  rw [show (2197175160 : Int) = ((2197175160 : Nat) : Int) from rfl, u32_xor_nat n _ h (by decide)]
theorem xorP64 {n : Nat} (h : n < 18446744073709551616) : bits BinOp.xor IntKind.u64 (n : Int) 2197175160 = ((n ^^^ 2197175160 : Nat) : Int) := by
  rw [show (2197175160 : Int) = ((2197175160 : Nat) : Int) from rfl, u64_xor_nat n _ h (by decide)]
theorem xorEnd {n : Nat} (h : n < 4294967296) : bits BinOp.xor IntKind.u32 (n : Int) 4294967295 = ((4294967295 - n : Nat) : Int) := by
  rw [show (4294967295 : Int) = ((4294967295 : Nat) : Int) from rfl, u32_xor_nat n _ h (by decide), flip32 h]
end Go.Proofs.Ytdcefhhmddjodaa

namespace Go.Proofs.Ytdcefhhmddjodaa
open Go.RowKit
set_option linter.unnecessarySimpa false
set_option linter.unusedVariables false
set_option linter.unusedSimpArgs false
set_option maxRecDepth 100000

theorem crc_ret_int {k : IntKind} {a b : Int} (h : a = b) : Ending.returned (.int k a) = .returned (.int k b) := by rw [h]

theorem begin_any (w : World) : Calls Try.prog 73 #[] w fun e w' => e = .returned (.int .u32 4294967295) ∧ w' = w := by
  go_enter Try.func73, Try.ntmps73
  go_wp2
  go_ret
  exact ⟨rfl, rfl⟩

theorem end_any (n : Nat) (hn : n < 4294967296) (w : World) : Calls Try.prog 71 #[.int .u32 n] w fun e w' => e = .returned (.int .u32 ((4294967295 - n : Nat) : Int)) ∧ w' = w := by
  have hx := Lib.hid (xorEnd hn)
  clear hn
  go_enter Try.func71, Try.ntmps71
  go_wp2
  go_ret
  exact ⟨crc_ret_int hx.out, rfl⟩

set_option maxHeartbeats 1000000 in
theorem divided_any (n : Nat) (hn : n < 4294967296) (w : World) : Calls Try.prog 37 #[.int .u32 n] w fun e w' => e = .returned (.int .u32 (halves 8 n)) ∧ w' = w := by
  have HN := Lib.hid hn
  clear hn
  go_enter Try.func37, Try.ntmps37
  go_wp2
  go_loopg [0, 3, 4] 8 (fun g s0 s3 s4 wx => ∃ i : Nat, i + g = 8 ∧ s0 = .int .u32 (halves i n) ∧ s4 = .int .i64 i ∧ wx = w)
  case atStart => exact ⟨0, by omega, rfl, rfl, rfl⟩
  case round =>
    obtain ⟨i, hig, rfl, rfl, rfl⟩ := hrel
    cases gk with
    | zero =>
      obtain rfl : i = 8 := by omega
      go_wp2
      go_ret
      exact ⟨rfl, rfl⟩
    | succ g =>
      have hi : (i : Int) < 8 := by omega
      obtain ⟨m, hm⟩ : ∃ m, m = halves i n := ⟨_, rfl⟩
      have hml : m < 4294967296 := by rw [hm]; exact halves_lt i HN.out
      have hs := Lib.hid (halves_snoc i n)
      have HM := Lib.hid hm
      rw [← hm]
      clear hm
      have hdiv := Lib.hid (show m / 2 < 4294967296 by omega)
      have ha := Lib.hid (and1 hml)
      have hx := Lib.hid (xorP32 hdiv.out)
      by_cases h : m % 2 = 1
      · have he := Lib.hid (half_odd h)
        have ht : (bits BinOp.and IntKind.u32 (m : Int) 1 == 1) = true := by rw [ha.out, h]; rfl
        clear hml
        go_wp2
        go_roundg g
        case measure => omega
        case rel => exact ⟨i + 1, by omega, congrArg (Value.int .u32) (by rw [show (m : Int) / 2 = ((m / 2 : Nat) : Int) by omega, hx.out, hs.out, ← HM.out, he.out]), by simp, rfl⟩
      · have he := Lib.hid (half_even h)
        have ht : (bits BinOp.and IntKind.u32 (m : Int) 1 == 1) = false := by rw [ha.out]; have : m % 2 = 0 := by omega
                                                                              rw [this]; rfl
        clear hml
        go_wp2
        go_roundg g
        case measure => omega
        case rel => exact ⟨i + 1, by omega, congrArg (Value.int .u32) (by rw [show (m : Int) / 2 = ((m / 2 : Nat) : Int) by omega, hs.out, ← HM.out, he.out]), by simp, rfl⟩

end Go.Proofs.Ytdcefhhmddjodaa

namespace Go.Proofs.Ytdcefhhmddjodaa
open Go.RowKit
set_option linter.unnecessarySimpa false
set_option linter.unusedVariables false
set_option linter.unusedSimpArgs false
set_option maxRecDepth 100000

theorem tableInfo : (Try.prog.info? 55).map (fun i => (i.zero, i.size)) = some (some (.agg (Array.replicate 256 (.int .u32 0))), 256) := by kernel_rfl

set_option maxRecDepth 100000 in
set_option maxHeartbeats 2000000 in
theorem make_any (w : World) : Calls Try.prog 22 #[] w fun e w' => e = .returned (.agg tab) ∧ Below w.heap.size w w' := by
  have hz := (zero_of_info (P := Try.prog) tableInfo).1
  have hi := Lib.hid (zero_of_info (P := Try.prog) tableInfo).2
  go_enter Try.func22, Try.ntmps22
  go_wp2_with fail
  rw [← tabTo_zero]
  go_loopg [2, 3] 256 (fun g s2 s3 wx => ∃ i : Nat, i + g = 256 ∧ s3 = .int .i64 i ∧ wx = (w.alloc (.cells (tabTo 0) 55)).alloc (.cells (tabTo i) 55))
  case atStart => exact ⟨0, by omega, rfl, rfl⟩
  case round =>
    obtain ⟨i, hig, rfl, rfl⟩ := hrel
    cases gk with
    | zero =>
      obtain rfl : i = 256 := by omega
      rw [tabTo_all]
      have hg0 := Lib.hid (show ((w.alloc (.cells (tabTo 0) 55)).alloc (.cells tab 55)).heap[w.heap.size]? = some (.cells (tabTo 0) 55 (0, 0)) by rw [Below.heap_alloc _ _ _ (by simp)]; exact heap_alloc_last w _)
      have hg1 := Lib.hid (show ((w.alloc (.cells (tabTo 0) 55)).alloc (.cells tab 55)).heap[w.heap.size + 1]? = some (.cells tab 55 (0, 0)) by have := heap_alloc_last (w.alloc (.cells (tabTo 0) 55)) (.cells tab 55); simpa using this)
      have his := Lib.hid (show (Try.prog.info? 55).map (·.size) = some tab.size by rw [tab_size]; exact hi.out)
      have hss := Lib.hid (show (tabTo 0).size = tab.size by rw [tab_size, tabTo_size])
      go_wp2_with (first
        | (refine wpList_load_row rfl 55 _ rfl (w.heap.size + 1) rfl 55 tab (0, 0) _ hg1.out Try.underlying55 rfl his.out ?_)
        | (refine wpList_store_row rfl 55 _ _ rfl w.heap.size tab rfl rfl 55 (tabTo 0) hg0.out his.out hss.out tab_one ?_))
      refine bodyPost_ret (v := .agg tab) ?_ rfl ⟨rfl, below_setRow (((Below.refl _ _).alloc (Nat.le_refl _) _).alloc (by simp) _) (Nat.le_refl _) _⟩
      exact results_cell_row rfl _ _ w.heap.size 55 tab (0, 0) _ rfl (setRow_heap _ _ _ _ _ _ hg0.out) Try.underlying55 rfl his.out
    | succ g =>
      have hi : (i : Int) < 256 := by omega
      have hw := Lib.hid (tabTo_succ i)
      have hcell := tabTo_cur (k := i) (by omega)
      have hdiv := Lib.hid (divided_any i (by omega))
      go_wp2_with (go_at_call 37; refine (hdiv.out _).mono ?_; rintro e w' ⟨rfl, rfl⟩)
      rw [hw.out]
      go_roundg g
      case measure => omega
      case rel => exact ⟨i + 1, by omega, by simp, rfl⟩
end Go.Proofs.Ytdcefhhmddjodaa
