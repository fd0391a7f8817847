/-
  PartFirst from what is asked of the program's participant: its first loop.
-/
import Derived.Test.YthcomfcbdlobpaaSet22
import Derived.Test.YthcomfcbdlobpaaSet23
import Derived.Test.YthcomfcbdlobpaaSet24
import Derived.Carry
namespace Go.Proofs.Ythcomfcbdlobpaa
open Go.RowKit Go.Maps
set_option linter.unusedVariables false
set_option linter.unnecessarySimpa false
set_option linter.unusedSimpArgs false
set_option maxRecDepth 100000

set_option maxHeartbeats 4000000 in
theorem partFirst_no (C : PrtC) (a : Option Addr) (len cap : Nat) (L : List Oq) (w : World) (hz : IsOqs w a len cap L) (hf : fewO L 40 = false) :
    Calls Try.prog 4 #[.slice a len cap] w fun e w' => e = .returned (.bool true) ∧ Below w.heap.size w w' := by
  have haw := Lib.hid (pawake_any C)
  have HF := Lib.hid (fun W (hb : Below w.heap.size w W) => pfew_any a len cap 40 L W (hz.below hb) (by omega))
  rw [hf, show ((40 : Nat) : Int) = 40 from rfl] at HF
  clear hz hf
  go_enter Try.func4, Try.ntmps4
  go_upto_region 2 with (first
    | (go_at_call 5; (with_reducible refine (haw.out _).mono ?_); rintro e w1 ⟨rfl, hb1⟩; have HB1 := Lib.hid hb1; clear hb1)
    | (go_at_call 6; (with_reducible refine (HF.out _ HB1.out).mono ?_); rintro e w2 ⟨rfl, rfl⟩))
  go_wp2_with (go_at_call 5; (with_reducible refine (haw.out _).mono ?_); rintro e w3 ⟨rfl, hb3⟩; have HB3 := Lib.hid (HB1.out.trans (hb3.mono HB1.out.size)); clear hb3)
  go_ret
  exact ⟨rfl, HB3.out⟩

/-- The operations of a region. -/
noncomputable def opsAtF (id : Nat) : Code → Option (List Oper)
  | .region i ops _ => if i = id then some ops.toList else none
  | .seq a b => match opsAtF id a with
    | some l => some l
    | none => opsAtF id b
  | .cond _ a b => match opsAtF id a with
    | some l => some l
    | none => opsAtF id b
  | .block _ b => opsAtF id b
  | .loop b => opsAtF id b
  | _ => none
theorem wp_assign {P : Program} {o : Oper} {a : Act} {w : World} {K : Act → World → Prop} {Q : Exit → Act → World → Prop} (x : Operand) (ho : o.op = .assign x) (v : Value) (hx : a.eval x = v) (h : K (a.put o.dst v) w) : o.wp P a w K Q := by
  unfold Oper.wp execOp
  simp [ho, hx, Oper.upon]
  exact h
/-- What slots hold while one more has committed. -/
def psiE (B g11 : Nat) (now : Nat) (slv : Value) (D : List Dn) (d : Dn) (dl : Value) : Nat → Value → World → Prop
  | 5 => fun v _ => v = slv
  | 6 => fun v _ => v = .int .u64 (now : Int)
  | 11 => fun v _ => v = .pointer (some ⟨g11, 0, none⟩)
  | 82 => fun v w => DRow B true [] v w
  | 83 => fun v _ => v = slv
  | 84 => fun v w => DRow B (D.length == 0) D v w
  | 85 => fun v _ => v = .pointer (some ⟨g11, 0, none⟩)
  | 86 => fun v _ => v = .int .u64 (d.start : Int)
  | 87 => fun v _ => v = .int .u64 (now : Int)
  | 88 => fun v _ => v = .pointer (some ⟨g11, 2, none⟩)
  | 89 => fun v _ => v = .slice d.a d.n d.c
  | 90 => fun v _ => v = .agg #[.int .u64 (d.start : Int), .int .u64 (now : Int), .slice d.a d.n d.c]
  | 91 => fun v w => DRow B true [d] v w
  | 92 => fun v w => DRow B false (D ++ [d]) v w
  | _ => fun _ _ => True
theorem psiE_stable (B g11 now : Nat) (slv : Value) (D : List Dn) (d : Dn) (dl : Value) : ∀ t v w w', psiE B g11 now slv D d dl t v w → DKeep B D d w w' → psiE B g11 now slv D d dl t v w' := by
  intro t v w w' hp hk
  unfold psiE at *
  split at hp <;> first
    | exact hp
    | exact hk.k0 _ hp
    | exact hk.k1 _ hp
    | exact hk.k2 _ hp
    | exact hk.k3 _ hp

/-- The block of the call that is looked at. -/
def XO (g : Nat) (oc : Array Value) : Nat → Obj → Prop := fun j q => j = g ∧ q = .cells oc 40 (0, 0)
theorem FiSt.opc {C : PrtC} {w wx : World} {r rs : Addr} {S : List Im} {P : List Pd} {D : List Dn} {M n : Nat} {DM : DataW Value} {a : Option Addr} {k g : Nat} {oc : Array Value} (h : FiSt C w (XO g oc) r rs S P D M n DM a k wx) (j : Nat) : wx.cell? ⟨g, j, none⟩ = oc[j]? := cell_of_row _ _ _ _ _ _ (h.ext g _ ⟨rfl, rfl⟩)

theorem atN_t {t : Tn} : ∀ {P : List Pd}, atN t P < P.length → (P.getD (atN t P) pd0).t = t
  | [], h => by simp at h
  | p :: l, h => by
    unfold atN at h ⊢
    split
    · rename_i e
      simpa using e
    · rename_i e
      rw [if_neg e] at h
      have := atN_t (P := l) (by simpa using h)
      simpa using this
noncomputable def firstOps : List Oper := (opsAtF 21 (Try.f4.body.getD .skip)).getD []
set_option maxHeartbeats 4000000 in
theorem first_steps {C : PrtC} {w w9 : World} {X : Nat → Obj → Prop} {r rs : Addr} {S : List Im} {P : List Pd} {D : List Dn} {M nm : Nat} {DM : DataW Value} {ad : Option Addr} {kd B g11 T : Nat} {p : Pd} {d : Dn} (hg11B : g11 < B)
    (HROW : Hid (w9.heap[g11]? = some (.cells #[.int .u64 (p.start : Int), .int .u64 0, .slice p.a p.n p.c] 63 (0, 0)))) (HB : Hid (B = w9.heap.size)) (HDE : Hid (d = ⟨p.start, T, p.a, p.n, p.c, p.w⟩)) (HR9 : Hid (FiSt C w X r rs S P D M nm DM ad kd w9)) (HD40 : Hid (D.length ≤ 40)) :
    AllStepsL Try.prog (DKeep B D d) w9 (psiE B g11 T (.slice ad D.length kd) D d .nilIface) (fun _ _ => True) 11 0 firstOps := by
  repeat' (first | exact AllStepsL.nil | refine AllStepsL.cons ?_ ?_)
  all_goals
    intro hik
    first
      | (exfalso; revert hik; decide)
      | (intro a' w' K' Q' hRl hP hK'
         have hB1 : B ≤ w'.heap.size := by rw [HB.out]; exact hRl.size
         have box0 := (hRl.block g11 hg11B).trans HROW.out
         have c0' : w'.cell? ⟨g11, 0, none⟩ = some (.int .u64 (d.start : Int)) := by rw [cell_of_row _ _ _ _ _ _ box0, HDE.out]; rfl
         have c2' : w'.cell? ⟨g11, 2, none⟩ = some (.slice d.a d.n d.c) := by rw [cell_of_row _ _ _ _ _ _ box0, HDE.out]; rfl
         clear box0
         first
           | (refine dwp_bs0 rfl ?_
              refine hK' _ _ (DKeep.of hB1 ((Below.refl _ _).alloc (Nat.le_refl _) _)) trivial ?_
              intro d hd; cases hd
              exact drow_empty w' hB1)
           | (obtain ⟨h53, _⟩ := hP
              refine dwp_bs1 _ d rfl (by simp only [Act.eval, Array.getD_eq_getD_getElem?]; rw [show _ = _ from h53, HDE.out]; rfl) ?_
              refine hK' _ _ (DKeep.of hB1 ((Below.refl _ _).alloc (Nat.le_refl _) _)) trivial ?_
              intro d hd; cases hd
              exact drow_one w' _ hB1)
           | (obtain ⟨h47, h49, _⟩ := hP
              obtain ⟨v', w3, hr, hb2, hrow⟩ := dapp_first (B := B) w' _ ad D.length kd D h47 ((HR9.out.later (by rw [← HB.out]; exact DKeep.below (by rw [HB.out]; exact Nat.le_refl _) hRl)).dv) (by have := HD40.out; omega) (fun _ => HR9.out.nil) hB1
              refine dwp_app _ _ rfl rfl _ _ v' w3 (by simp only [Act.eval, Array.getD_eq_getD_getElem?]) (by simp only [Act.eval, Array.getD_eq_getD_getElem?]; exact h49) hr ?_
              refine hK' _ _ (DKeep.of hB1 hb2) trivial ?_
              intro d hd; cases hd
              exact hrow)
           | (obtain ⟨h50, h54, _⟩ := hP
              obtain ⟨v', w3, hr, hk2, hrow⟩ := dapp_second (B := B) w' _ _ D d h50 h54 (by have := HD40.out; omega) hB1
              refine dwp_app _ _ rfl rfl _ _ v' w3 (by simp only [Act.eval, Array.getD_eq_getD_getElem?]) (by simp only [Act.eval, Array.getD_eq_getD_getElem?]) hr ?_
              refine hK' _ _ hk2 trivial ?_
              intro d hd; cases hd
              exact hrow)
           | (repeat (obtain ⟨h, hP⟩ := hP; conv at h => whnf)
              go_simp
              refine hK' _ _ DKeep.refl trivial ?_
              intro d hd; cases hd; first | rfl | exact h))
theorem aboR_len (P : List Pd) (t : Tn) : (aboR P t).1.length ≤ P.length := by
  unfold aboR
  split
  · exact outP_len P _
  · exact Nat.le_refl _
set_option maxHeartbeats 40000000 in
theorem partFirst_yes (C : PrtC) (a : Option Addr) (len cap : Nat) (L : List Oq) (w : World) (hz : IsOqs w a len cap L) (hf : fewO L 40 = true) :
    Calls Try.prog 4 #[.slice a len cap] w fun e w' => e = .returned (.bool true) ∧ Below w.heap.size w w' := by
  have haw := Lib.hid (pawake_any C)
  have HF := Lib.hid (fun W (hb : Below w.heap.size w W) => pfew_any a len cap 40 L W (hz.below hb) (by omega))
  rw [hf, show ((40 : Nat) : Int) = 40 from rfl] at HF
  have hl40 : len ≤ 40 := by rw [← hz.1]; exact (fewO_true.1 hf).2
  have HFW := Lib.hid (few_in hf (by omega))
  have HZ := Lib.hid hz
  have hel := Lib.hid hz.1
  clear hz hf
  have hmm := @run_makeMap Try.prog
  go_enter Try.func4, Try.ntmps4
  go_upto_region 3 with (first
    | (go_at_call 5; (with_reducible refine (haw.out _).mono ?_); rintro e w1 ⟨rfl, hb1⟩; have HB1 := Lib.hid hb1; clear hb1)
    | (go_at_call 6; (with_reducible refine (HF.out _ HB1.out).mono ?_); rintro e w2 ⟨rfl, rfl⟩))
  clear HF haw
  have HN := Lib.hid (mst_new C.M HB1.out HB1.out.size (far := fun _ => False) (fun k hk => hk.elim))
  have HN2 := Lib.hid (fun rs W (h : MSt C.M w w.heap.size (fun _ => False) rs [] W) => pst_new C h)
  go_upto_region 4 with (first
    | (go_at_call 8; (with_reducible refine HN.out.mono ?_); rintro e w3 ⟨rs, rfl, hs3, _⟩; have HS3 := Lib.hid (HN2.out _ _ hs3); clear hs3)
    | (go_at_call 7; (with_reducible refine HS3.out.mono ?_); rintro e w4 ⟨r, rfl, hs4, _⟩; have HS4 := Lib.hid (FiSt.start hs4); clear hs4))
  go_upto_region 5 with fail
  clear hmm
  obtain ⟨w5, hw5⟩ : ∃ w5, w5 = w4.alloc (.map #[] 0) := ⟨_, rfl⟩
  obtain ⟨M, hM⟩ : ∃ M, M = w4.heap.size := ⟨_, rfl⟩
  rw [← hw5, ← hM] at HS4
  rw [← hw5, ← hM]
  clear hw5 hM HN HN2 HB1
  go_wp2_with fail
  go_loopg [5, 6, 7] len (fun q s5 s6 s7 wx => ∃ (i now : Nat) (S : List Im) (P : List Pd) (D : List Dn) (nm : Nat) (DM : DataW Value) (ad : Option Addr) (kd : Nat), i + q = len ∧ s5 = .slice ad D.length kd ∧ s6 = .int .u64 (now : Int) ∧ s7 = .int .i64 i ∧ (now ≤ i ∧ S.length ≤ 8 * i ∧ P.length ≤ i ∧ D.length ≤ i ∧ nm ≤ i) ∧
    Hid (FiSt C w (fun _ _ => False) r rs S P D M nm DM ad kd wx) ∧ Hid (FLog w S P now D DM))
  case atStart => exact ⟨0, 0, [], [], [], 0, .map [], none, 0, by omega, rfl, rfl, rfl, by simp, HS4, Lib.hid FLog.zero⟩
  case round =>
    obtain ⟨i, now, S, P, D, nm, DM, ad, kd, hig, rfl, rfl, rfl, hbn, HS, HLG⟩ := hrel
    clear HS4
    cases gk with
    | succ g =>
      have hil : i < len := by omega
      have hiz : (i : Int) < (len : Int) := by omega
      obtain ⟨b, off, rfl, hbl, q1, q2, q3, q4, k0, k1, k2, k3, k4, k5, k6⟩ := (HZ.out.below HS.out.below).2.2.2 i hil
      obtain ⟨o, ho⟩ : ∃ o, o = L.getD i oq0 := ⟨_, rfl⟩
      rw [← ho] at q1 q2 q3 q4 k0 k1 k2 k3 k4 k5 k6
      have HW20 := Lib.hid (show o.n ≤ 20 by rw [ho, ← ((HZ.out).2.2.2 i hil).choose_spec.choose_spec.2.2.2.2.2.1.1]; exact HFW.out i (by rw [hel.out]; exact hil))
      have HWQ := Lib.hid (show ∀ W, Below w.heap.size w W → IsWqs W o.a o.n o.c o.w from fun W hb => by
        obtain ⟨_, _, _, _, _, _, _, h, _⟩ := (HZ.out.below hb).2.2.2 i hil
        rw [← ho] at h
        exact h)
      have HO := Lib.hid ho
      have HTM := Lib.hid q3
      have HOK := Lib.hid q2.2
      have HBN := Lib.hid hbn
      clear ho q1 q2 q3 q4 hbl hbn
      go_upto_region 11 with fail
      have HR0 : Hid (FiSt C w (XO wr.heap.size #[.int .u8 (o.kind : Int), .int .i64 o.t.node, .int .i64 o.t.life, .int .i64 o.t.seq, .string o.key, .int .u64 (o.time : Int), .slice o.a o.n o.c]) r rs S P D M nm DM ad kd (wr.alloc (.cells #[.int .u8 (o.kind : Int), .int .i64 o.t.node, .int .i64 o.t.life, .int .i64 o.t.seq, .string o.key, .int .u64 (o.time : Int), .slice o.a o.n o.c] 40))) :=
        Lib.hid ((HS.out.add _).sub (fun j q h => .inr h))
      obtain ⟨w6, hw6⟩ : ∃ w6, w6 = wr.alloc (.cells #[.int .u8 (o.kind : Int), .int .i64 o.t.node, .int .i64 o.t.life, .int .i64 o.t.seq, .string o.key, .int .u64 (o.time : Int), .slice o.a o.n o.c] 40) := ⟨_, rfl⟩
      obtain ⟨g8, hg8⟩ : ∃ g8, g8 = wr.heap.size := ⟨_, rfl⟩
      rw [← hw6, ← hg8] at HR0
      rw [← hw6, ← hg8]
      clear hw6 hg8 k0 k1 k2 k3 k4 k5 k6 HS
      have o0 := HR0.out.opc 0
      have o1 := HR0.out.opc 1
      have o2 := HR0.out.opc 2
      have o3 := HR0.out.opc 3
      have o5 := HR0.out.opc 5
      have o6 := HR0.out.opc 6
      simp only [List.getElem?_toArray, List.getElem?_cons_zero, List.getElem?_cons_succ] at o0 o1 o2 o3 o5 o6
      have HPP := Lib.hid (fi_prepared HR0.out o.t HOK.out)
      unfold Tn.cells at HPP
      obtain ⟨PB, hPB⟩ : ∃ PB, PB = decide (atN o.t P < P.length) := ⟨_, rfl⟩
      rw [← hPB] at HPP
      have HPB := Lib.hid hPB
      clear hPB
      go_upto_region 12 with (go_at_call 19; (with_reducible refine HPP.out.mono ?_); rintro e w7 ⟨rfl, hs7⟩; have HR7 := Lib.hid hs7; clear hs7)
      clear o0 o1 o2 o3 o5 o6 HPP HR0
      have o0 := HR7.out.opc 0
      have o1 := HR7.out.opc 1
      have o2 := HR7.out.opc 2
      have o3 := HR7.out.opc 3
      have o5 := HR7.out.opc 5
      have o6 := HR7.out.opc 6
      simp only [List.getElem?_toArray, List.getElem?_cons_zero, List.getElem?_cons_succ] at o0 o1 o2 o3 o5 o6
      go_upto_block 2 with fail
      obtain ⟨m, hm⟩ : ∃ m, m = o.kind % 6 := ⟨_, rfl⟩
      have hm6 : m = 2 ∨ m = 3 ∨ m = 4 ∨ (m ≠ 2 ∧ m ≠ 3 ∧ m ≠ 4) := by omega
      obtain ⟨z, hzz⟩ : ∃ z : Int, z = (o.kind : Int) % 6 := ⟨_, rfl⟩
      have HZM := Lib.hid (show z = (m : Int) by rw [hzz]; omega)
      rw [← hzz]
      clear hm hzz
      rcases hm6 with rfl | rfl | rfl | ⟨h2, h3, h4⟩
      · have t2 : (z == 2) = true := by rw [HZM.out]; rfl
        have HNW := Lib.hid HBN.out.1
        obtain ⟨st, hst⟩ : ∃ st, st = o.time % (now + 1) := ⟨_, rfl⟩
        have hstn : st ≤ now := by rw [hst]; have := Nat.mod_lt o.time (show 0 < now + 1 by omega); omega
        have hnow : now ≤ 40 := by have := HNW.out; omega
        have f1 : ((now : Int) + 1) % 18446744073709551616 = ((now + 1 : Nat) : Int) := by omega
        have f2 : IntKind.u64.wrap ((now : Int) + 1) = ((now + 1 : Nat) : Int) := by rw [IntWalk.u64_in _ (by omega)]; rfl
        have f4 : (((now + 1 : Nat) : Int) == 0) = false := by rw [beq_eq_false_iff_ne]; omega
        have f5 : (o.time : Int) % ((now + 1 : Nat) : Int) = (st : Int) := by rw [hst]; rfl
        have f6 : (o.time : Int).tmod ((now + 1 : Nat) : Int) = (st : Int) := by rw [hst]; rfl
        have f7 : (o.time : Int) % ((now : Int) + 1) = (st : Int) := by rw [hst]; rfl
        have f8 : (o.time : Int).tmod ((now : Int) + 1) = (st : Int) := by rw [hst]; rfl
        have f9 : (((now : Int) + 1) == 0) = false := by rw [beq_eq_false_iff_ne]; omega
        have HSN := Lib.hid hstn
        have HST := Lib.hid (show st < 18446744073709551616 by omega)
        have HPR := Lib.hid (fi_prepare HR7.out ⟨o.t, st, o.a, o.n, o.c, o.w⟩ HOK.out (HWQ.out _ HR7.out.below) HST.out (show o.n ≤ 1000 by have := HW20.out; omega) (by have := HBN.out; omega) (by have := HBN.out; omega))
        simp only at HPR
        unfold Tn.cells at HPR
        clear hst hstn HZM
        obtain ⟨E, hE⟩ : ∃ E, E = mayN S P o.t st o.w := ⟨_, rfl⟩
        have HE := Lib.hid hE
        rw [← hE] at HPR
        have HPP : Hid (prepP S P ⟨o.t, st, o.a, o.n, o.c, o.w⟩ = if E = 0 ∧ ¬ atN o.t P < P.length then P ++ [⟨o.t, st, o.a, o.n, o.c, o.w⟩] else P) := Lib.hid (by unfold prepP; rw [hE])
        clear hE hnow
        by_cases hE0 : E = 0
        · subst hE0
          cases PB with
          | true =>
            have hno : prepP S P ⟨o.t, st, o.a, o.n, o.c, o.w⟩ = P := by rw [HPP.out, if_neg (fun h => h.2 (of_decide_eq_true HPB.out.symm))]
            rw [hno] at HPR
            clear hno
            go_wp2_with (go_at_call 11; (with_reducible refine HPR.out.mono ?_); rintro e w8 ⟨rfl, hs8⟩; have HR8 := Lib.hid hs8; clear hs8)
            go_roundg g
            case measure => omega
            case rel => exact ⟨i + 1, now, S, P, D, nm, DM, ad, kd, by omega, rfl, rfl, by go_num, by have := HBN.out; omega, Lib.hid (HR8.out.sub (fun j q h => h.elim)), HLG⟩
          | false =>
            have hnp : ¬ atN o.t P < P.length := of_decide_eq_false HPB.out.symm
            have hyes : prepP S P ⟨o.t, st, o.a, o.n, o.c, o.w⟩ = P ++ [⟨o.t, st, o.a, o.n, o.c, o.w⟩] := by rw [HPP.out, if_pos ⟨rfl, hnp⟩]
            rw [hyes] at HPR
            have HNP := Lib.hid hnp
            clear hyes hnp
            go_upto_region 16 with (go_at_call 11; (with_reducible refine HPR.out.mono ?_); rintro e w8 ⟨rfl, hs8⟩; have HR8 := Lib.hid hs8; clear hs8)
            clear o0 o1 o2 o3 o5 o6
            have o0 := HR8.out.opc 0
            have o1 := HR8.out.opc 1
            have o2 := HR8.out.opc 2
            have o3 := HR8.out.opc 3
            have o5 := HR8.out.opc 5
            have o6 := HR8.out.opc 6
            simp only [List.getElem?_toArray, List.getElem?_cons_zero, List.getElem?_cons_succ] at o0 o1 o2 o3 o5 o6
            obtain ⟨w9, DM', hrun, hm9, hg9, hs1, hs2⟩ := HR8.out.map.update (show nm < maxLen by have := HBN.out; unfold maxLen; omega) ⟨o.t, st, o.a, o.n, o.c, o.w⟩ HOK.out
            unfold dnV Tn.cells at hrun
            simp only at hrun
            rw [show ((0 : Nat) : Int) = 0 from rfl] at hrun
            have HM9 := Lib.hid hm9
            have HG9 := Lib.hid hg9
            have HS1 := Lib.hid hs1
            have HS2 := Lib.hid hs2
            clear hm9 hg9 hs1 hs2 f1 f2 f4 f5 f6 f7 f8 f9
            go_wp2_with fail
            go_roundg g
            case measure => omega
            case rel => exact ⟨i + 1, now, S, P ++ [⟨o.t, st, o.a, o.n, o.c, o.w⟩], D, nm + 1, DM', ad, kd, by omega, rfl, rfl, by go_num, by have := HBN.out; rw [List.length_append]; simp only [List.length_cons, List.length_nil]; omega, Lib.hid ((HR8.out.update HM9.out HG9.out).sub (fun j q h => h.elim)),
              Lib.hid (HLG.out.prepYes ⟨o.t, st, o.a, o.n, o.c, o.w⟩ HSN.out ⟨HE.out.symm, HNP.out⟩ HST.out HWQ.out HS1.out HS2.out)⟩
        · have hno : prepP S P ⟨o.t, st, o.a, o.n, o.c, o.w⟩ = P := by rw [HPP.out, if_neg (fun h => hE0 h.1)]
          rw [hno] at HPR
          have e1 : ((E : Int) == 0) = false := by rw [beq_eq_false_iff_ne]; omega
          clear hno hE0
          go_wp2_with (go_at_call 11; (with_reducible refine HPR.out.mono ?_); rintro e w8 ⟨rfl, hs8⟩; have HR8 := Lib.hid hs8; clear hs8)
          go_roundg g
          case measure => omega
          case rel => exact ⟨i + 1, now, S, P, D, nm, DM, ad, kd, by omega, rfl, rfl, by go_num, by have := HBN.out; omega, Lib.hid (HR8.out.sub (fun j q h => h.elim)), HLG⟩
      · have t2 : (z == 2) = false := by rw [HZM.out]; rfl
        have t3 : (z == 3) = true := by rw [HZM.out]; rfl
        have hnow : now ≤ 40 := by have := HBN.out; omega
        obtain ⟨T, hT⟩ : ∃ T, T = now + 1 := ⟨_, rfl⟩
        have f1 : ((now : Int) + 1) % 18446744073709551616 = (T : Int) := by omega
        have f2 : IntKind.u64.wrap ((now : Int) + 1) = (T : Int) := by rw [IntWalk.u64_in _ (by omega)]; omega
        have HT64 := Lib.hid (show T < 18446744073709551616 by omega)
        have HT := Lib.hid hT
        have HC := Lib.hid (fi_commit HR7.out o.t T HOK.out HT64.out (by have := HBN.out; omega) (by have := HBN.out; omega) (fun p hp => (HLG.out.nst p hp).2.2))
        unfold Tn.cells at HC
        clear HZM hT hnow
        cases PB with
        | false =>
          have hnp : ¬ atN o.t P < P.length := of_decide_eq_false HPB.out.symm
          have hcr : comR S P o.t T = ((S, P), 9) := by unfold comR; rw [if_neg hnp]
          rw [hcr] at HC
          simp only at HC
          rw [show ((9 : Nat) : Int) = 9 from rfl] at HC
          clear hcr hnp
          go_wp2_with (go_at_call 12; (with_reducible refine HC.out.mono ?_); rintro e w8 ⟨rfl, hs8⟩; have HR8 := Lib.hid hs8; clear hs8)
          go_roundg g
          case measure => omega
          case rel => exact ⟨i + 1, T, S, P, D, nm, DM, ad, kd, by omega, rfl, rfl, by go_num, by have := HBN.out; have := HT.out; omega, Lib.hid (HR8.out.sub (fun j q h => h.elim)), Lib.hid (HLG.out.later (by have := HT.out; omega))⟩
        | true =>
          have hpr : atN o.t P < P.length := of_decide_eq_true HPB.out.symm
          obtain ⟨p, hp⟩ : ∃ p, p = P.getD (atN o.t P) pd0 := ⟨_, rfl⟩
          have hpm : p ∈ P := by rw [hp, List.getD, List.getElem?_eq_getElem hpr]; exact List.getElem_mem hpr
          have hpt : p.t = o.t := by rw [hp]; exact atN_t hpr
          have hcr : comR S P o.t T = ((insAll S T p.w, outP P (atN o.t P)), 0) := by
            unfold comR
            rw [if_pos hpr, ← hp, if_neg (by have h1 := HLG.out.inv.start p hpm; have h2 := HT.out; omega)]
          rw [hcr] at HC
          simp only at HC
          rw [show ((0 : Nat) : Int) = 0 from rfl] at HC
          have HLC : Hid (FLog w (insAll S T p.w) (outP P (atN o.t P)) T (D ++ [⟨p.start, T, p.a, p.n, p.c, p.w⟩]) DM) := Lib.hid (by rw [HT.out]; exact HLG.out.commit hpr hp.symm)
          have HST := Lib.hid (HLG.out.sta p hpm)
          have HNP := Lib.hid (HLG.out.nst p hpm)
          have HLN := Lib.hid (show (insAll S T p.w).length ≤ S.length + 8 ∧ (outP P (atN o.t P)).length ≤ P.length by
            have h1 := insAll_len T p.w S
            have h2 := HNP.out.2.2
            have h3 := outP_len P (atN o.t P)
            omega)
          have HPT := Lib.hid hpt
          clear hcr hpr hp hpm hpt
          go_upto_region 20 with (go_at_call 12; (with_reducible refine HC.out.mono ?_); rintro e w8 ⟨rfl, hs8⟩; have HR8 := Lib.hid hs8; clear hs8)
          clear o0 o1 o2 o3 o5 o6 f1 f2
          have o0 := HR8.out.opc 0
          have o1 := HR8.out.opc 1
          have o2 := HR8.out.opc 2
          have o3 := HR8.out.opc 3
          simp only [List.getElem?_toArray, List.getElem?_cons_zero, List.getElem?_cons_succ] at o0 o1 o2 o3
          have hrun := HR8.out.map.look p HST.out
          rw [HPT.out] at hrun
          unfold dnV Tn.cells at hrun
          rw [show ((0 : Nat) : Int) = 0 from rfl] at hrun
          go_upto_region 21 with fail
          clear hrun o0 o1 o2 o3
          have hrow := heap_alloc_new w8 (.cells #[.int .u64 (p.start : Int), .int .u64 0, .slice p.a p.n p.c] 63)
          have HR9 := Lib.hid (HR8.out.later ((Below.refl w8.heap.size w8).alloc (Nat.le_refl _) (.cells #[.int .u64 (p.start : Int), .int .u64 0, .slice p.a p.n p.c] 63)))
          obtain ⟨w9, hw9⟩ : ∃ w9, w9 = w8.alloc (.cells #[.int .u64 (p.start : Int), .int .u64 0, .slice p.a p.n p.c] 63) := ⟨_, rfl⟩
          obtain ⟨g11, hg11⟩ : ∃ g11, g11 = w8.heap.size := ⟨_, rfl⟩
          rw [← hg11] at hrow
          rw [← hw9] at hrow HR9
          rw [← hw9, ← hg11]
          clear hw9 hg11
          obtain ⟨d, hd⟩ : ∃ d : Dn, d = ⟨p.start, T, p.a, p.n, p.c, p.w⟩ := ⟨_, rfl⟩
          rw [← hd] at HLC
          have HDE := Lib.hid hd
          clear hd
          obtain ⟨B, hB⟩ : ∃ B, B = w9.heap.size := ⟨_, rfl⟩
          have hg11B : g11 < B := by rw [hB]; exact (Array.getElem?_eq_some_iff.1 hrow).1
          have HB := Lib.hid hB
          have HROW := Lib.hid hrow
          have HD40 := Lib.hid (show D.length ≤ 40 by have := HBN.out; omega)
          clear hB hrow
          refine wp_region_tailK [5, 6, 11] [92] (DKeep B D d) (psiE B g11 T (.slice ad D.length kd) D d .nilIface) 147 11 (some 5) (.assign (.tmp 92)) (by kernel_rfl) (by kernel_rfl) (by kernel_rfl) (by kernel_rfl) (by kernel_rfl) rfl (by kernel_rfl) (by kernel_rfl)
            (DKeep.of (by rw [HB.out]; exact Nat.le_refl _) ((Below.refl _ _).drew)) (fun _ _ _ => DKeep.trans) (psiE_stable _ _ _ _ _ _ _) ?_ ?_ [82, 83, 84, 85, 86, 87, 88, 89, 90, 91, 92] (by kernel_rfl) ?_
          · intro t ht w' _
            simp only [List.mem_cons, List.not_mem_nil, or_false] at ht
            rcases ht with rfl | rfl | rfl <;> rfl
          · exact first_steps hg11B HROW HB HDE HR9 HD40
          · intro f w' hRl hf ok hd ho
            obtain ⟨g92, cp, cur, h92, hr1, hr2, hr3⟩ := hf 92 (by simp)
            have hrow92 : DRow B false (D ++ [d]) (f 92) w' := hf 92 (by simp)
            have hb9 : Below w9.heap.size w9 w' := by rw [← HB.out]; exact DKeep.below (by rw [HB.out]; exact Nat.le_refl _) hRl
            have HB9 := Lib.hid hb9
            obtain ⟨nn, hnn⟩ : ∃ nn, nn = (D ++ [d]).length := ⟨_, rfl⟩
            have hown := hrow92.own
            rw [← hnn] at h92 hown
            rw [h92] at hown
            have HND : Hid (NstD w (D ++ [d])) := Lib.hid (fun q hq => by
              rcases List.mem_append.1 hq with hq | hq
              · exact HR9.out.nst q hq
              · rw [List.mem_singleton.1 hq, HDE.out]
                exact ⟨HNP.out.1, HT64.out, HNP.out.2.1⟩)
            have HDV := Lib.hid (dns_own hown hnn.symm (by have := HD40.out; rw [hnn, List.length_append]; simp only [List.length_cons, List.length_nil]; omega) (fun q hq => ⟨(HND.out q hq).1, (HND.out q hq).2.1, (HND.out q hq).2.2 w' (HR9.out.below.trans (hb9.mono HR9.out.below.size))⟩))
            have HG := Lib.hid (show w9.heap.size ≤ g92 by rw [← HB.out]; exact hr1)
            have HNN := Lib.hid hnn
            clear hnn hown hrow92 hr1 hr2 hr3 hb9 hRl hf
            simp only [putAll, List.foldl_cons, List.foldl_nil, h92]
            clear h92
            dsimp only [Act.put]
            simp only [List.setIfInBounds_toArray]
            simp only [List.set_cons_succ, List.set_cons_zero]
            refine wp_assign (.tmp 92) ho (.slice (some ⟨g92, 0, none⟩) nn cp) rfl ?_
            rw [hd]
            dsimp only [Act.put]
            simp only [List.setIfInBounds_toArray]
            simp only [List.set_cons_succ, List.set_cons_zero]
            go_wp2_with fail
            go_roundg g
            case measure => omega
            case rel => exact ⟨i + 1, T, insAll S T p.w, outP P (atN o.t P), D ++ [d], nm, DM, some ⟨g92, 0, none⟩, cp, by omega, by rw [HNN.out], rfl, by go_num,
              by have h1 := HBN.out; have h2 := HT.out; have h3 := HLN.out; rw [List.length_append]; simp only [List.length_cons, List.length_nil]; omega,
              Lib.hid ((HR9.out.append HB9.out (by have := HDV.out; rwa [HNN.out] at this) HND.out ⟨g92, rfl, HG.out⟩).sub (fun j q h => h.elim)), HLC⟩
      · have t2 : (z == 2) = false := by rw [HZM.out]; rfl
        have t3 : (z == 3) = false := by rw [HZM.out]; rfl
        have t4 : (z == 4) = true := by rw [HZM.out]; rfl
        have HC := Lib.hid (fi_abort HR7.out o.t HOK.out (by have := HBN.out; omega))
        unfold Tn.cells at HC
        clear HZM
        go_wp2_with (go_at_call 13; (with_reducible refine HC.out.mono ?_); rintro e w8 ⟨rfl, hs8⟩; have HR8 := Lib.hid hs8; clear hs8)
        go_roundg g
        case measure => omega
        case rel => exact ⟨i + 1, now, S, (aboR P o.t).1, D, nm, DM, ad, kd, by omega, rfl, rfl, by go_num, by have := HBN.out; have := aboR_len P o.t; omega, Lib.hid (HR8.out.sub (fun j q h => h.elim)), Lib.hid (HLG.out.abort o.t)⟩
      · have t2 : (z == 2) = false := by rw [HZM.out, beq_eq_false_iff_ne]; omega
        have t3 : (z == 3) = false := by rw [HZM.out, beq_eq_false_iff_ne]; omega
        have t4 : (z == 4) = false := by rw [HZM.out, beq_eq_false_iff_ne]; omega
        clear HZM h2 h3 h4
        go_wp2_with fail
        go_roundg g
        case measure => omega
        case rel => exact ⟨i + 1, now, S, P, D, nm, DM, ad, kd, by omega, rfl, rfl, by go_num, by have := HBN.out; omega, Lib.hid (HR7.out.sub (fun j q h => h.elim)), HLG⟩
    | zero =>
      obtain rfl : i = len := by omega
      have hDn : D.length ≤ 40 := by omega
      have HFI := Lib.hid HLG.out.inv.first
      clear hbn hig HFW HZ hel
      go_wp2_with fail
      go_loopg [12] D.length (fun q s12 wx => ∃ (j : Nat), j + q = D.length ∧ s12 = .int .i64 j ∧ Hid (FiSt C w (fun _ _ => False) r rs S P D M nm DM ad kd wx))
      case atStart => exact ⟨0, by omega, rfl, HS⟩
      case round =>
        obtain ⟨j, hjq, rfl, HS2⟩ := hrel
        clear HS
        cases gk with
        | zero =>
          obtain rfl : j = D.length := by omega
          have hjn : ¬ (D.length : Int) < (D.length : Int) := by omega
          go_wp2_with fail
          go_ret
          exact ⟨rfl, HS2.out.below⟩
        | succ q =>
          have hjn : j < D.length := by omega
          have hjz : (j : Int) < (D.length : Int) := by omega
          have hj0 : (0 : Int) ≤ (j : Int) := by omega
          go_wp2_with fail
          go_loopg [13] j (fun q2 s13 wx => ∃ (k : Nat), k + q2 = j ∧ s13 = .int .i64 k ∧ Hid (FiSt C w (fun _ _ => False) r rs S P D M nm DM ad kd wx))
          case atStart => exact ⟨0, by omega, rfl, HS2⟩
          case round =>
            obtain ⟨k, hkq, rfl, HS3⟩ := hrel
            clear HS2
            cases gk with
            | zero =>
              obtain rfl : k = j := by omega
              have hkn : ¬ (k : Int) < (k : Int) := by omega
              go_wp2_with fail
              go_roundg q
              case measure => omega
              case rel => exact ⟨k + 1, by omega, by go_num, HS3⟩
            | succ q2 =>
              have hkj : k < j := by omega
              have hkz : (k : Int) < (j : Int) := by omega
              have hkd : (k : Int) < (D.length : Int) := by omega
              have hk0 : (0 : Int) ≤ (k : Int) := by omega
              obtain ⟨b, off, rfl, hb1, e1, e2, e3, x0, x1, x2⟩ := HS3.out.dv.2.2.2 j hjn
              obtain ⟨b', off', hab', _, d1, d2, d3, y0, y1, y2⟩ := HS3.out.dv.2.2.2 k (by omega)
              simp only [Option.some.injEq, Addr.mk.injEq, and_true] at hab'
              obtain ⟨rfl, rfl⟩ := hab'
              obtain ⟨e, he⟩ : ∃ e, e = D.getD j dn0 := ⟨_, rfl⟩
              obtain ⟨d, hd⟩ : ∃ d, d = D.getD k dn0 := ⟨_, rfl⟩
              have hfst : shareW d.w e.w = true → d.time ≤ e.start := by
                have h1 := List.pairwise_iff_getElem.1 HFI.out k j (by omega) hjn hkj
                rw [List.getD, List.getElem?_eq_getElem hjn] at he
                rw [List.getD, List.getElem?_eq_getElem (show k < D.length by omega)] at hd
                rw [he, hd]
                exact h1
              rw [← he] at e1 e2 e3 x0 x1 x2
              rw [← hd] at d1 d2 d3 y0 y1 y2
              have HSH := Lib.hid (fun W (hb : Below wr.heap.size wr W) => pshares_any e.a e.n e.c e.w d.a d.n d.c d.w W (e3.below hb) (d3.below hb))
              have HFS := Lib.hid hfst
              clear he hd e1 e2 e3 d1 d2 d3 hfst
              by_cases c1 : d.start < e.time
              · by_cases c2 : e.start < d.time
                · have hsh : shareW e.w d.w = false := by
                    rw [← Bool.not_eq_true]
                    intro h
                    obtain ⟨m, h1, m', h2, h3⟩ := shareW_dis.1 h
                    have := HFS.out (shareW_dis.2 ⟨m', h2, m, h1, sameK_sy h3⟩)
                    omega
                  have g1 : decide ((d.start : Int) < (e.time : Int)) = true := by rw [decide_eq_true_eq]; omega
                  have g1b : decide (d.start < e.time) = true := by rw [decide_eq_true_eq]; exact c1
                  have g2 : decide ((e.start : Int) < (d.time : Int)) = true := by rw [decide_eq_true_eq]; omega
                  have g2b : decide (e.start < d.time) = true := by rw [decide_eq_true_eq]; exact c2
                  have g3 : (d.start : Int) < (e.time : Int) := by omega
                  have g4 : (e.start : Int) < (d.time : Int) := by omega
                  have HSN : Hid (∀ W, Below wr.heap.size wr W → Calls Try.prog 21 #[.slice e.a e.n e.c, .slice d.a d.n d.c] W fun e w' => e = .returned (.bool false) ∧ Below W.heap.size W w') := Lib.hid (fun W hb => by have := HSH.out W hb; rwa [hsh] at this)
                  clear hsh HSH
                  go_upto_region 30 with fail
                  go_region_held3 (fun w' => w'.cell? ⟨b, off + j * 3, none⟩ = some (.int .u64 (e.start : Int)) ∧ w'.cell? ⟨b, off + j * 3 + 1, none⟩ = some (.int .u64 (e.time : Int)) ∧ w'.cell? ⟨b, off + j * 3 + 2, none⟩ = some (.slice e.a e.n e.c) ∧ w'.cell? ⟨b, off + k * 3, none⟩ = some (.int .u64 (d.start : Int)) ∧ w'.cell? ⟨b, off + k * 3 + 1, none⟩ = some (.int .u64 (d.time : Int)) ∧ w'.cell? ⟨b, off + k * 3 + 2, none⟩ = some (.slice d.a d.n d.c))
                    (first | go_keep | (go_split_ands; refine ⟨?_, ?_, ?_, ?_, ?_, ?_⟩ <;> exact keep_cell hb12 (by assumption)))
                    (((go_at_call 21; (with_reducible refine (HSN.out _ (Below.refl _ _).drew).mono ?_); rintro e' w12 ⟨rfl, hb12⟩; have HS12 := Lib.hid ((HS3.out.later (Below.refl _ _).drew).later hb12))))
                  all_goals
                    go_wp2_with fail
                    go_roundg q2
                    case measure => omega
                    case rel => exact ⟨k + 1, by omega, by go_num, HS12⟩
                · have g1 : decide ((d.start : Int) < (e.time : Int)) = true := by rw [decide_eq_true_eq]; omega
                  have g1b : decide (d.start < e.time) = true := by rw [decide_eq_true_eq]; exact c1
                  have g2 : decide ((e.start : Int) < (d.time : Int)) = false := by rw [decide_eq_false_iff_not]; omega
                  have g2b : decide (e.start < d.time) = false := by rw [decide_eq_false_iff_not]; exact c2
                  clear c1 c2 HSH
                  go_upto_region 30 with fail
                  go_quiet (fail)
                  revert nq; intro n1
                  have HS12 := Lib.hid (HS3.out.later (below_drewN (Below.refl _ _) n1))
                  go_wp2_with fail
                  go_roundg q2
                  case measure => omega
                  case rel => exact ⟨k + 1, by omega, by go_num, HS12⟩
              · have g1 : decide ((d.start : Int) < (e.time : Int)) = false := by rw [decide_eq_false_iff_not]; omega
                have g1b : decide (d.start < e.time) = false := by rw [decide_eq_false_iff_not]; exact c1
                clear c1 HSH
                go_upto_region 30 with fail
                go_quiet (fail)
                revert nq; intro n1
                have HS12 := Lib.hid (HS3.out.later (below_drewN (Below.refl _ _) n1))
                go_wp2_with fail
                go_roundg q2
                case measure => omega
                case rel => exact ⟨k + 1, by omega, by go_num, HS12⟩
end Go.Proofs.Ythcomfcbdlobpaa
