/-
  The document's Right of entries.
-/
import Derived.Test.YtplobffkelmokaaSet05
namespace Go.Proofs.Ytplobffkelmokaa
open Go.RowKit
set_option linter.unusedVariables false
set_option linter.unnecessarySimpa false
set_option linter.unusedSimpArgs false
set_option maxRecDepth 100000

/-- Two keys in order. -/
def ltS (a b : ByteArray) : Bool := Op.bytesLess a.toList b.toList
def eqS (a b : ByteArray) : Bool := a.toList == b.toList
/-- An entry, behind a key. -/
def entOk (es : List En) (i : Nat) : Bool := decide (0 < (es.getD i en0).ch.length) && rightB (es.getD i en0).ch && (decide (i = 0) || !(ltS (es.getD i en0).key (es.getD (i - 1) en0).key || eqS (es.getD i en0).key (es.getD (i - 1) en0).key))
def rightE (es : List En) : Bool := (List.range es.length).all (entOk es)
theorem rightE_true {es : List En} : rightE es = true ↔ ∀ i, i < es.length → entOk es i = true := by
  unfold rightE
  simp [List.all_eq_true]
theorem rightE_false {es : List En} {i : Nat} (hi : i < es.length) (h : entOk es i = false) : rightE es = false := by
  rw [← Bool.not_eq_true, rightE_true]
  intro h2
  rw [h2 i hi] at h
  cases h

set_option maxHeartbeats 4000000 in
theorem bright_any (a : Option Addr) (len cap : Nat) (es : List En) (w : World) (hz : IsEnts w a len cap es) :
    Calls Try.prog 11 #[.slice a len cap] w fun e w' => e = .returned (.bool (rightE es)) ∧ Below w.heap.size w w' := by
  have HZ := Lib.hid hz
  have hlm := hz.2.1
  unfold maxLen at hlm
  have hel := Lib.hid hz.1.1
  clear hz
  go_enter Try.func11, Try.ntmps11
  go_wp2_with fail
  go_loopg [3] len (fun g s3 wx => ∃ i : Nat, i + g = len ∧ s3 = .int .i64 i ∧ Hid (Below w.heap.size w wx) ∧ Hid (∀ j, j < i → entOk es j = true))
  case atStart => exact ⟨0, by omega, rfl, Lib.hid (Below.refl _ _), Lib.hid (fun j hj => by omega)⟩
  case round =>
    obtain ⟨i, hig, rfl, HB, HA⟩ := hrel
    cases gk with
    | zero =>
      obtain rfl : i = len := by omega
      have HR := Lib.hid (show rightE es = true from rightE_true.2 (fun j hj => HA.out j (by rw [← hel.out]; exact hj)))
      clear HA
      go_wp2_with fail
      go_ret
      exact ⟨by rw [HR.out]; rfl, HB.out⟩
    | succ g =>
      have hil : i < len := by omega
      have hiz : (i : Int) < (len : Int) := by omega
      obtain ⟨b, off, rfl, hbl, hm1, k0, ca, cl, cc, k1, hv⟩ := (HZ.out.below HB.out).1.2 i hil
      have HO := Lib.hid (show entOk es i = true → (∀ j, j < i + 1 → entOk es j = true) from fun h j hj => by
        by_cases hji : j < i
        · exact HA.out j hji
        · obtain rfl : j = i := by omega
          exact h)
      have HNo := Lib.hid (show entOk es i = false → rightE es = false from fun h => rightE_false (by rw [hel.out]; exact hil) h)
      have hprev : 0 < i → ∃ k : Nat, IntKind.i64.wrap ((i : Int) - 1) = (k : Int) ∧ k < len ∧ (0 : Int) ≤ (k : Int) ∧ (k : Int) < (len : Int) ∧ wr.cell? ⟨b, off + k * 2, none⟩ = some (.string (es.getD (i - 1) en0).key) := fun h0 => by
        obtain ⟨b2, off2, ha2, _, _, q0, _⟩ := (HZ.out.below HB.out).1.2 (i - 1) (by omega)
        cases ha2
        exact ⟨i - 1, by rw [IntWalk.i64_in _ (by omega)]; omega, by omega, by omega, by omega, q0⟩
      obtain ⟨e, he⟩ : ∃ e, e = es.getD i en0 := ⟨_, rfl⟩
      obtain ⟨P, hP⟩ : ∃ P, P = (es.getD (i - 1) en0).key := ⟨_, rfl⟩
      have hok : entOk es i = (decide (0 < e.ch.length) && rightB e.ch && (decide (i = 0) || !(ltS e.key P || eqS e.key P))) := by unfold entOk; rw [← he, ← hP]
      rw [← he] at k0 hv
      rw [← hP] at hprev
      obtain ⟨K, hK⟩ : ∃ K, K = e.key := ⟨_, rfl⟩
      rw [← hK] at k0 hok
      have hl1 : cl = e.ch.length := hv.1.1.symm
      have HV := Lib.hid (fun x : Like wr.heap.size wr => (vright_any ca cl cc e.ch x.val (vers_bel hv x.below)).mono (R' := fun e1 w' => e1 = .returned (.bool (rightB e.ch)) ∧ Below x.val.heap.size x.val w') (by
        rintro e w' ⟨rfl, m, rfl⟩
        exact ⟨rfl, drewN_below _ m⟩))
      obtain ⟨R, hR⟩ : ∃ R, R = rightB e.ch := ⟨_, rfl⟩
      rw [← hR] at HV hok
      rw [← hl1] at hok
      have q0 := likes_cell hbl k0
      have q1 := likes_cell (p := ⟨b, off + i * 2 + 1, none⟩) hbl k1
      have hprev2 : 0 < i → ∃ k : Nat, IntKind.i64.wrap ((i : Int) - 1) = (k : Int) ∧ k < len ∧ (0 : Int) ≤ (k : Int) ∧ (k : Int) < (len : Int) ∧ ∀ x : Like wr.heap.size wr, x.val.cell? ⟨b, off + k * 2, none⟩ = some (.string P) := fun h0 => by
        obtain ⟨k, p1, p2, p3, p4, p5⟩ := hprev h0
        exact ⟨k, p1, p2, p3, p4, likes_cell (p := ⟨b, off + k * 2, none⟩) hbl p5⟩
      unfold ltS eqS at hok
      obtain ⟨L, hL⟩ : ∃ L, L = Op.bytesLess K.toList P.toList := ⟨_, rfl⟩
      obtain ⟨E, hE⟩ : ∃ E, E = (K.toList == P.toList) := ⟨_, rfl⟩
      rw [← hL, ← hE] at hok
      have HL := Lib.hid hL.symm
      have HE := Lib.hid hE.symm
      have HOK := Lib.hid hok
      clear he hK hP hR hL hE hok hv k0 k1 hm1 hprev HA hl1
      go_upto_region 4 with fail
      have hbl2 := hbl
      clear hbl
      by_cases hc0 : cl = 0
      · have HF := Lib.hid (HNo.out (by rw [HOK.out, hc0]; rfl))
        have z1 : ((cl : Int) == 0) = true := by rw [beq_iff_eq]; omega
        clear hprev2 HO HNo HOK HL HE hc0
        refine region_likes (by kernel_rfl) (by kernel_rfl) ?_
        repeat (first
          | (go_big_quiet_step (first
              | (go_at_call 28; exact calls_likes (Like.size _) (HV.out _)))))
        refine wpQuiet_nil ?_
        intro x
        have HB2 := Lib.hid (HB.out.trans (x.below.mono HB.out.size))
        clear q0 q1
        go_wp2_with fail
        go_ret
        exact ⟨by rw [HF.out]; rfl, HB2.out⟩
      · have z1 : ((cl : Int) == 0) = false := by rw [beq_eq_false_iff_ne]; omega
        have hcl : decide (0 < cl) = true := by simp; omega
        cases R with
        | false =>
          have HF := Lib.hid (HNo.out (by rw [HOK.out, hcl]; rfl))
          clear hprev2 HO HNo HOK HL HE hc0
          refine region_likes (by kernel_rfl) (by kernel_rfl) ?_
          repeat (first
            | (go_big_quiet_step (first
                | (go_at_call 28; exact calls_likes (Like.size _) (HV.out _)))))
          refine wpQuiet_nil ?_
          intro x
          have HB2 := Lib.hid (HB.out.trans (x.below.mono HB.out.size))
          clear q0 q1
          go_wp2_with fail
          go_ret
          exact ⟨by rw [HF.out]; rfl, HB2.out⟩
        | true =>
          by_cases hi0 : i = 0
          · have HF := Lib.hid (HO.out (by rw [HOK.out, hcl, hi0]; rfl))
            have z2 : decide ((0 : Int) < (i : Int)) = false := by simp; omega
            have z3 : decide (0 < i) = false := by simp; omega
            have HI := Lib.hid hi0
            clear hprev2 HO HNo HOK HL HE hc0 hi0
            refine region_likes (by kernel_rfl) (by kernel_rfl) ?_
            repeat (first
              | (go_big_quiet_step (first
                  | (go_at_call 28; exact calls_likes (Like.size _) (HV.out _)))))
            refine wpQuiet_nil ?_
            intro x
            have HB2 := Lib.hid (HB.out.trans (x.below.mono HB.out.size))
            clear q0 q1
            go_wp2_with fail
            go_roundg g
            case measure => omega
            case rel => exact ⟨i + 1, by omega, by go_num, HB2, HF⟩
          · obtain ⟨k, hw1, hkl, hk0', hkz, ck⟩ := hprev2 (by omega)
            have z2 : decide ((0 : Int) < (i : Int)) = true := by simp; omega
            have z3 : decide (0 < i) = true := by simp; omega
            have hLs := HL.out
            have hEs := HE.out
            have hi1 : decide (i = 0) = false := by simpa using hi0
            have hOK := HOK.out
            rw [hcl, hi1] at hOK
            have HOK2 := Lib.hid hOK
            clear hprev2 HL HE hc0 HOK hOK hi0 hi1
            cases L with
            | true =>
              have HF := Lib.hid (HNo.out (by rw [HOK2.out]; rfl))
              clear HO HNo HOK2
              refine region_likes (by kernel_rfl) (by kernel_rfl) ?_
              repeat (first
                | (go_big_quiet_step (first
                    | (go_at_call 28; exact calls_likes (Like.size _) (HV.out _)))))
              refine wpQuiet_nil ?_
              intro x
              have HB2 := Lib.hid (HB.out.trans (x.below.mono HB.out.size))
              clear q0 q1 ck
              go_wp2_with fail
              go_ret
              exact ⟨by rw [HF.out]; rfl, HB2.out⟩
            | false =>
              cases E with
              | true =>
                have HF := Lib.hid (HNo.out (by rw [HOK2.out]; rfl))
                clear HO HNo HOK2
                refine region_likes (by kernel_rfl) (by kernel_rfl) ?_
                repeat (first
                  | (go_big_quiet_step (first
                      | (go_at_call 28; exact calls_likes (Like.size _) (HV.out _)))))
                refine wpQuiet_nil ?_
                intro x
                have HB2 := Lib.hid (HB.out.trans (x.below.mono HB.out.size))
                clear q0 q1 ck
                go_wp2_with fail
                go_ret
                exact ⟨by rw [HF.out]; rfl, HB2.out⟩
              | false =>
                have HF := Lib.hid (HO.out (by rw [HOK2.out]; rfl))
                clear HO HNo HOK2
                refine region_likes (by kernel_rfl) (by kernel_rfl) ?_
                repeat (first
                  | (go_big_quiet_step (first
                      | (go_at_call 28; exact calls_likes (Like.size _) (HV.out _)))))
                refine wpQuiet_nil ?_
                intro x
                have HB2 := Lib.hid (HB.out.trans (x.below.mono HB.out.size))
                clear q0 q1 ck
                go_wp2_with fail
                go_roundg g
                case measure => omega
                case rel => exact ⟨i + 1, by omega, by go_num, HB2, HF⟩
end Go.Proofs.Ytplobffkelmokaa
