/-
  PartPlays from what is asked of the program's participant.
-/
import Derived.Test.YthcomfcbdlobpaaSet19
import Derived.Deep.RegionHeld3
import Derived.Deep.RegionWith
import Derived.BigRegion
import Derived.IntWalk
namespace Go.Proofs.Ythcomfcbdlobpaa
open Go.RowKit
set_option linter.unusedVariables false
set_option linter.unnecessarySimpa false
set_option linter.unusedSimpArgs false
set_option maxRecDepth 100000

set_option maxHeartbeats 4000000 in
theorem partPlays_no (C : PrtC) (a : Option Addr) (len cap : Nat) (L : List Oq) (w : World) (hz : IsOqs w a len cap L) (hf : fewO L 80 = false) :
    Calls Try.prog 3 #[.slice a len cap] w fun e w' => e = .returned (.bool true) ∧ Below w.heap.size w w' := by
  have haw := Lib.hid (pawake_any C)
  have HF := Lib.hid (fun W (hb : Below w.heap.size w W) => pfew_any a len cap 80 L W (hz.below hb) (by omega))
  rw [hf, show ((80 : Nat) : Int) = 80 from rfl] at HF
  clear hz hf
  go_enter Try.func3, Try.ntmps3
  go_upto_region 2 with (first
    | (go_at_call 5; (with_reducible refine (haw.out _).mono ?_); rintro e w1 ⟨rfl, hb1⟩; have HB1 := Lib.hid hb1; clear hb1)
    | (go_at_call 6; (with_reducible refine (HF.out _ HB1.out).mono ?_); rintro e w2 ⟨rfl, rfl⟩))
  go_wp2_with (go_at_call 5; (with_reducible refine (haw.out _).mono ?_); rintro e w3 ⟨rfl, hb3⟩; have HB3 := Lib.hid (HB1.out.trans (hb3.mono HB1.out.size)); clear hb3)
  go_ret
  exact ⟨rfl, HB3.out⟩

theorem likes_cellP {w : World} {p : Addr} {v : Value} (hp : p.block < w.heap.size) (h : w.cell? p = some v) : ∀ x : Like w.heap.size w, x.val.cell? p = some v := fun x => (x.below.cell hp).trans h
theorem byteArray_beqP (s : ByteArray) : (s == s) = true := by
  obtain ⟨d⟩ := s
  show (d == d) = true
  simp
theorem ver_ne (t : Nat) (g : Bool) (v : ByteArray) (w : World) : (binOp .neq 42 (.agg #[.int .u64 (t : Int), .bool g, .string v]) (.agg #[.int .u64 (t : Int), .bool g, .string v])).run Try.prog w = .ok (.bool false) w := by
  have h := run_equalIn_struct (P := Try.prog) w 9999 42 #[.int .u64 (t : Int), .bool g, .string v] #[.int .u64 (t : Int), .bool g, .string v] (by kernel_rfl) (by kernel_rfl)
  have hp : Try.prog.plainKey 37 = true := by kernel_rfl
  have hp1 : Try.prog.plainKey 4 = true := by kernel_rfl
  have hp2 : Try.prog.plainKey 9 = true := by kernel_rfl
  have e0 : (Op.equalIn 9999 37 (.int .u64 (t : Int)) (.int .u64 (t : Int))).run Try.prog w = .ok true w := by rw [Op.equalIn]; simp
  have e1 : (Op.equalIn 9999 4 (.bool g) (.bool g)).run Try.prog w = .ok true w := by rw [Op.equalIn]; simp
  have e2 : (Op.equalIn 9999 9 (.string v) (.string v)).run Try.prog w = .ok true w := by rw [Op.equalIn]; simp; exact byteArray_beqP v
  have h0 : (part 37 #[.int .u64 (t : Int), .bool g, .string v] 0).run Try.prog w = .ok (.int .u64 (t : Int)) w := run_part_plain (P := Try.prog) w hp rfl
  have h1 : (part 4 #[.int .u64 (t : Int), .bool g, .string v] 1).run Try.prog w = .ok (.bool g) w := run_part_plain (P := Try.prog) w hp1 rfl
  have h2 : (part 9 #[.int .u64 (t : Int), .bool g, .string v] 2).run Try.prog w = .ok (.string v) w := run_part_plain (P := Try.prog) w hp2 rfl
  have hq : (Op.equal 42 (.agg #[.int .u64 (t : Int), .bool g, .string v]) (.agg #[.int .u64 (t : Int), .bool g, .string v])).run Try.prog w = .ok true w := by
    refine h.trans ?_
    unfold Program.fieldsOf
    rw [Try.underlying42]
    simp [Op.eqFields, h0, h1, h2, e0, e1, e2, Result.andThen]
  unfold binOp
  simp [Sem.run_bind, hq, Result.andThen]
theorem few_in {L : List Oq} {n : Nat} (h : fewO L n = true) (hn : n ≤ 300) (i : Nat) (hi : i < L.length) : (L.getD i oq0).w.length ≤ 20 := by
  have := (fewO_true.1 h)
  exact (this.1 i hi (by have := this.2; omega)).2.1
set_option maxHeartbeats 40000000 in
theorem partPlays_yes (C : PrtC) (a : Option Addr) (len cap : Nat) (L : List Oq) (w : World) (hz : IsOqs w a len cap L) (hf : fewO L 80 = true) :
    Calls Try.prog 3 #[.slice a len cap] w fun e w' => e = .returned (.bool true) ∧ Below w.heap.size w w' := by
  have haw := Lib.hid (pawake_any C)
  have HF := Lib.hid (fun W (hb : Below w.heap.size w W) => pfew_any a len cap 80 L W (hz.below hb) (by omega))
  rw [hf, show ((80 : Nat) : Int) = 80 from rfl] at HF
  have hl80 : len ≤ 80 := by rw [← hz.1]; exact (fewO_true.1 hf).2
  have HFW := Lib.hid (few_in hf (by omega))
  have HZ := Lib.hid hz
  have hel := Lib.hid hz.1
  clear hz hf
  go_enter Try.func3, Try.ntmps3
  go_upto_region 3 with (first
    | (go_at_call 5; (with_reducible refine (haw.out _).mono ?_); rintro e w1 ⟨rfl, hb1⟩; have HB1 := Lib.hid hb1; clear hb1)
    | (go_at_call 6; (with_reducible refine (HF.out _ HB1.out).mono ?_); rintro e w2 ⟨rfl, rfl⟩))
  clear HF haw
  have HN := Lib.hid (mst_new C.M HB1.out HB1.out.size (far := fun _ => False) (fun k hk => hk.elim))
  have HN2 := Lib.hid (fun rs W (h : MSt C.M w w.heap.size (fun _ => False) rs [] W) => pst_new C h)
  go_upto_region 4 with (first
    | (go_at_call 8; (with_reducible refine HN.out.mono ?_); rintro e w3 ⟨rs, rfl, hs3, _⟩; have HS3 := Lib.hid (HN2.out _ _ hs3); clear hs3)
    | (go_at_call 7; (with_reducible refine HS3.out.mono ?_); rintro e w4 ⟨r, rfl, hs4, _⟩; have HS4 := Lib.hid (PlSt.start hs4); clear hs4))
  have HS5 : Hid (PlSt C w (XA w4.heap.size (.slice none 0 0) (.slice none 0 0)) r rs [] [] [] [] (.slice none 0 0) none 0 (w4.alloc (.cells #[.slice none 0 0, .slice none 0 0] 34))) :=
    Lib.hid ((HS4.out.add (.cells #[.slice none 0 0, .slice none 0 0] 34)).sub (fun j o hj => .inr hj))
  obtain ⟨w5, hw5⟩ : ∃ w5, w5 = w4.alloc (.cells #[.slice none 0 0, .slice none 0 0] 34) := ⟨_, rfl⟩
  obtain ⟨g4, hg4⟩ : ∃ g4, g4 = w4.heap.size := ⟨_, rfl⟩
  rw [← hw5, ← hg4] at HS5
  rw [← hw5, ← hg4]
  clear hw5 hg4 HS4 HN HN2 HB1
  go_wp2_with fail
  go_loopg [5] len (fun g s5 wx => ∃ (i : Nat) (S : List Im) (P : List Pd) (s : Value) (ap : Option Addr) (k : Nat), i + g = len ∧ s5 = .int .i64 i ∧ S.length ≤ 8 * i ∧ P.length ≤ i ∧ Hid (PlSt C w (XA g4 s (.slice ap P.length k)) r rs S P S P s ap k wx))
  case atStart => exact ⟨0, [], [], .slice none 0 0, none, 0, by omega, rfl, by simp, by simp, HS5⟩
  case round =>
    obtain ⟨i, S, P, s, ap, k, hig, rfl, hS8, hP1, HS⟩ := hrel
    clear HS5
    cases gk with
    | succ g =>
      have hil : i < len := by omega
      have hiz : (i : Int) < (len : Int) := by omega
      obtain ⟨b, off, rfl, hbl, q1, q2, q3, q4, k0, k1, k2, k3, k4, k5, k6⟩ := (HZ.out.below HS.out.below).2.2.2 i hil
      obtain ⟨o, ho⟩ : ∃ o, o = L.getD i oq0 := ⟨_, rfl⟩
      rw [← ho] at q1 q2 q3 q4 k0 k1 k2 k3 k4 k5 k6
      have HW20 := Lib.hid (show o.n ≤ 20 by rw [ho, ← ((HZ.out).2.2.2 i hil).choose_spec.choose_spec.2.2.2.2.2.1.1]; exact HFW.out i (by rw [hel.out]; exact hil))
      have HWQ := Lib.hid (show ∀ W, Below w.heap.size w W → IsWqs W o.a o.n o.c o.w from fun W hb => by
        obtain ⟨_, _, _, _, _, _, _, h, _⟩ := (HZ.out.below hb).2.2.2 i hil
        rw [← ho] at h
        exact h)
      have HO := Lib.hid ho
      have HKS := Lib.hid q1
      have HTM := Lib.hid q3
      have HOK := Lib.hid q2.2
      have HRT := Lib.hid (And.intro hS8 hP1)
      clear ho q1 q2 q3 q4 hbl
      go_upto_region 10 with fail
      have HR0 := Lib.hid (HS.out.openR #[.int .u8 (o.kind : Int), .int .i64 o.t.node, .int .i64 o.t.life, .int .i64 o.t.seq, .string o.key, .int .u64 (o.time : Int), .slice o.a o.n o.c])
      have hX4 := HS.out.st.far_lt g4 (.inl ⟨_, rfl, rfl⟩)
      obtain ⟨w6, hw6⟩ : ∃ w6, w6 = (wr.alloc (.cells #[.int .u8 (o.kind : Int), .int .i64 o.t.node, .int .i64 o.t.life, .int .i64 o.t.seq, .string o.key, .int .u64 (o.time : Int), .slice o.a o.n o.c] 40)).alloc (.cells #[.int .u64 0, .bool false, .string ⟨#[]⟩] 42) := ⟨_, rfl⟩
      obtain ⟨g7, hg7⟩ : ∃ g7, g7 = wr.heap.size + 1 := ⟨_, rfl⟩
      obtain ⟨g6, hg6⟩ : ∃ g6, g6 = wr.heap.size := ⟨_, rfl⟩
      have n46 : g4 ≠ g6 := by omega
      have n47 : g4 ≠ g7 := by omega
      have n67 : g6 ≠ g7 := by omega
      have m46 : g6 ≠ g4 := by omega
      have m47 : g7 ≠ g4 := by omega
      have m67 : g7 ≠ g6 := by omega
      rw [← hw6, ← hg7, ← hg6] at HR0
      rw [← hw6, ← hg7, ← hg6]
      clear hw6 hg6 hg7 hX4 k0 k1 k2 k3 k4 k5 k6
      have HDO := Lib.hid (fun W (h : DocV w S P s ap k W) (hb : Below w.heap.size w W) => pdo_any s S ap P.length k P o W h.sv (by have := HRT.out; omega) h.pv (by have := HRT.out; omega) h.nil (HWQ.out W hb) HTM.out (fun p hp => (h.nst p hp).2.2))
      have HNX := Lib.hid (docP_nst (S := S) (o := o) HS.out.doc.nst HTM.out HWQ.out)
      have HLN := Lib.hid (And.intro (docS_len S P o (fun p hp => (HS.out.doc.nst p hp).2.2)) (docP_len S P o))
      obtain ⟨S', hS'⟩ : ∃ S', S' = docS S P o := ⟨_, rfl⟩
      obtain ⟨P', hP'⟩ : ∃ P', P' = docP S P o := ⟨_, rfl⟩
      obtain ⟨V, hV⟩ : ∃ V, V = docV S P o := ⟨_, rfl⟩
      obtain ⟨E, hE⟩ : ∃ E, E = docE S P o := ⟨_, rfl⟩
      have HSE := Lib.hid hS'
      have HPE := Lib.hid hP'
      have HVE := Lib.hid hV
      have HEE := Lib.hid hE
      rw [← hS', ← hP', ← hV, ← hE] at HDO
      rw [← hP'] at HNX
      rw [← hS', ← hP'] at HLN
      clear hS' hP' hV hE HS
      have o0 := HR0.out.opc 0
      have o1 := HR0.out.opc 1
      have o2 := HR0.out.opc 2
      have o3 := HR0.out.opc 3
      have o4 := HR0.out.opc 4
      have o5 := HR0.out.opc 5
      have o6 := HR0.out.opc 6
      simp only [List.getElem?_toArray, List.getElem?_cons_zero, List.getElem?_cons_succ] at o0 o1 o2 o3 o4 o5 o6
      go_upto_block 2 with fail
      obtain ⟨m, hm⟩ : ∃ m, m = o.kind % 6 := ⟨_, rfl⟩
      have hm6 : m = 0 ∨ m = 1 ∨ m = 2 ∨ m = 3 ∨ m = 4 ∨ m = 5 := by omega
      obtain ⟨z, hzz⟩ : ∃ z : Int, z = (o.kind : Int) % 6 := ⟨_, rfl⟩
      have HZM := Lib.hid (show z = (m : Int) by rw [hzz]; omega)
      have HM := Lib.hid hm
      rw [← hzz]
      clear hm hzz
      go_cut [8] (fun s8 wc => s8 = .int .i64 (E : Int) ∧ Hid (PlSt C w (XB g4 s (.slice ap P.length k) g6 #[.int .u8 (o.kind : Int), .int .i64 o.t.node, .int .i64 o.t.life, .int .i64 o.t.seq, .string o.key, .int .u64 (o.time : Int), .slice o.a o.n o.c] g7 V) r rs S' P' S P s ap k wc))
      case first =>
        obtain ⟨p0, p1, pf⟩ := HR0.out.part
        obtain ⟨v0, v1, v2, vf⟩ := HR0.out.ver
        have HRT2 := Lib.hid (show S.length ≤ 900 ∧ P.length ≤ 1000 ∧ o.n ≤ 1000 by have h1 := HRT.out; have h2 := HW20.out; omega)
        have t0 : (z == 0) = decide (m = 0) := by rw [HZM.out]; rcases hm6 with rfl | rfl | rfl | rfl | rfl | rfl <;> rfl
        have t1 : (z == 1) = decide (m = 1) := by rw [HZM.out]; rcases hm6 with rfl | rfl | rfl | rfl | rfl | rfl <;> rfl
        have t2 : (z == 2) = decide (m = 2) := by rw [HZM.out]; rcases hm6 with rfl | rfl | rfl | rfl | rfl | rfl <;> rfl
        have t3 : (z == 3) = decide (m = 3) := by rw [HZM.out]; rcases hm6 with rfl | rfl | rfl | rfl | rfl | rfl <;> rfl
        have t4 : (z == 4) = decide (m = 4) := by rw [HZM.out]; rcases hm6 with rfl | rfl | rfl | rfl | rfl | rfl <;> rfl
        have hwv : m ≠ 0 → V = vr0 := fun h => by rw [HVE.out]; exact doc_vr0 S P o (by rw [← HM.out]; exact h)
        have HWV := Lib.hid hwv
        clear hwv
        rcases hm6 with rfl | rfl | rfl | rfl | rfl | rfl
        · have HC := Lib.hid (pl_read HR0.out o HM.out.symm HKS.out HTM.out)
          rw [← HSE.out, ← HPE.out, ← HVE.out, ← HEE.out] at HC
          obtain ⟨vt, vg, vv⟩ := V
          simp only at HC
          clear HM HZM
          go_upto_region 15 with (go_at_call 9; (with_reducible refine HC.out.mono ?_); rintro e w7 ⟨rfl, hs7⟩; have HS7 := Lib.hid hs7; clear hs7)
          have hb8 : Below w7.heap.size w7 (w7.alloc (.cells #[.int .u64 (vt : Int), .bool vg, .string vv] 42)) := (Below.refl w7.heap.size w7).alloc (Nat.le_refl _) _
          have hrow := heap_alloc_new w7 (.cells #[.int .u64 (vt : Int), .bool vg, .string vv] 42)
          have HS8 := Lib.hid (HS7.out.later hb8)
          obtain ⟨w8, hw8⟩ : ∃ w8, w8 = w7.alloc (.cells #[.int .u64 (vt : Int), .bool vg, .string vv] 42) := ⟨_, rfl⟩
          obtain ⟨g9, hg9⟩ : ∃ g9, g9 = w7.heap.size := ⟨_, rfl⟩
          rw [← hg9] at hrow
          rw [← hw8] at hrow HS8
          rw [← hw8, ← hg9]
          have x0 : w8.cell? ⟨g9, 0, none⟩ = some (.int .u64 (vt : Int)) := by rw [cell_of_row _ _ _ _ _ _ hrow]; rfl
          have x1 : w8.cell? ⟨g9, 1, none⟩ = some (.bool vg) := by rw [cell_of_row _ _ _ _ _ _ hrow]; rfl
          have x2 : w8.cell? ⟨g9, 2, none⟩ = some (.string vv) := by rw [cell_of_row _ _ _ _ _ _ hrow]; rfl
          obtain ⟨y0, y1, y2, yf⟩ := HS8.out.ver
          clear hw8 hg9 hb8 hrow HS7
          go_wp2_with fail
          go_meet
          case rel => exact ⟨rfl, Lib.hid (HS8.out.putV n47 n67 ⟨vt, vg, vv⟩)⟩
        · have HC := Lib.hid (pl_may HR0.out o HM.out.symm HOK.out (HWQ.out _ HR0.out.below) HTM.out HRT2.out.2.2 (by have := HRT2.out; omega))
          rw [← HSE.out, ← HPE.out, ← HEE.out] at HC
          unfold Tn.cells at HC
          clear HM HZM
          go_wp2_with (go_at_call 10; (with_reducible refine HC.out.mono ?_); rintro e w7 ⟨rfl, hs7⟩; have HS7 := Lib.hid hs7; clear hs7)
          go_meet
          case rel => exact ⟨rfl, by rw [HWV.out (by decide)]; exact HS7⟩
        · have HC := Lib.hid (pl_prepare HR0.out o HM.out.symm HOK.out (HWQ.out _ HR0.out.below) HTM.out HRT2.out.2.2 (by have := HRT2.out; omega) HRT2.out.2.1)
          rw [← HSE.out, ← HPE.out, ← HEE.out] at HC
          unfold Tn.cells at HC
          clear HM HZM
          go_wp2_with (go_at_call 11; (with_reducible refine HC.out.mono ?_); rintro e w7 ⟨rfl, hs7⟩; have HS7 := Lib.hid hs7; clear hs7)
          go_meet
          case rel => exact ⟨rfl, by rw [HWV.out (by decide)]; exact HS7⟩
        · have HC := Lib.hid (pl_commit HR0.out o HM.out.symm HOK.out HTM.out HRT2.out.1 HRT2.out.2.1)
          rw [← HSE.out, ← HPE.out, ← HEE.out] at HC
          unfold Tn.cells at HC
          clear HM HZM
          go_wp2_with (go_at_call 12; (with_reducible refine HC.out.mono ?_); rintro e w7 ⟨rfl, hs7⟩; have HS7 := Lib.hid hs7; clear hs7)
          go_meet
          case rel => exact ⟨rfl, by rw [HWV.out (by decide)]; exact HS7⟩
        · have HC := Lib.hid (pl_abort HR0.out o HM.out.symm HOK.out HRT2.out.2.1)
          rw [← HSE.out, ← HPE.out, ← HEE.out] at HC
          unfold Tn.cells at HC
          clear HM HZM
          go_wp2_with (go_at_call 13; (with_reducible refine HC.out.mono ?_); rintro e w7 ⟨rfl, hs7⟩; have HS7 := Lib.hid hs7; clear hs7)
          go_meet
          case rel => exact ⟨rfl, by rw [HWV.out (by decide)]; exact HS7⟩
        · by_cases hn : o.n < 1
          · obtain ⟨f1, f2, f3⟩ := doc_none S P o HM.out.symm (.inl hn)
            rw [← HSE.out] at f1
            rw [← HPE.out] at f2
            rw [← HEE.out] at f3
            subst f1 f2 f3
            have e1 : decide (0 < (o.n : Int)) = false := by rw [decide_eq_false_iff_not]; omega
            have e2 : decide (0 < o.n) = false := by rw [decide_eq_false_iff_not]; omega
            clear HM HZM
            go_upto_region 11 with fail
            go_quiet (fail)
            revert nq; intro n1
            have HS7 := Lib.hid (HR0.out.later (below_drewN (Below.refl _ _) n1))
            go_wp2_with fail
            go_meet
            case rel => exact ⟨rfl, by rw [HWV.out (by decide)]; exact HS7⟩
          · have hn0 : 0 < o.n := by omega
            have hn0z : (0 : Int) < (o.n : Int) := by omega
            have e1 : decide (0 < (o.n : Int)) = true := by rw [decide_eq_true_eq]; omega
            have e2 : decide (0 < o.n) = true := by rw [decide_eq_true_eq]; omega
            obtain ⟨b2, off2, hoa, hbl2, hz1, hz2, j0, j1, j2⟩ := (HWQ.out _ HR0.out.below).2.2.2 0 hn0
            rw [Nat.zero_mul, Nat.add_zero] at j0 j1 j2
            obtain ⟨zq, hzq⟩ : ∃ zq, zq = o.w.getD 0 wq0 := ⟨_, rfl⟩
            rw [← hzq] at j0 j1 j2 hz1 hz2
            have HZQ := Lib.hid hzq
            have HLK := Lib.hid (fun W (h : DocV w S P s ap k W) => plocked_any s ap P.length k P zq.key W h.pv)
            have HSTO := Lib.hid (fun W (h : PlSt C w (XB g4 s (.slice ap P.length k) g6 #[.int .u8 (o.kind : Int), .int .i64 o.t.node, .int .i64 o.t.life, .int .i64 o.t.seq, .string o.key, .int .u64 (o.time : Int), .slice o.a o.n o.c] g7 vr0) r rs S P S P s ap k W) => pl_store h)
            have HB2 := Lib.hid hbl2
            have HZ12 := Lib.hid (And.intro hz1 hz2)
            clear hzq hz1 hz2 hbl2
            rw [hoa] at o6 HR0 HSTO
            obtain ⟨LB, hLB⟩ : ∃ LB, LB = lockedP zq.key P := ⟨_, rfl⟩
            rw [← hLB] at HLK
            have HLB := Lib.hid hLB
            clear hLB
            go_upto_region 11 with fail
            go_region_held3 (fun w' => w'.cell? ⟨g4, 0, none⟩ = some s ∧ w'.cell? ⟨g4, 1, none⟩ = some (.slice ap P.length k) ∧ w'.cell? ⟨g6, 5, none⟩ = some (.int .u64 (o.time : Int)) ∧ w'.cell? ⟨g6, 6, none⟩ = some (.slice (some ⟨b2, off2, none⟩) o.n o.c) ∧ w'.cell? ⟨b2, off2, none⟩ = some (.string zq.key) ∧ w'.cell? ⟨b2, off2 + 2, none⟩ = some (.string zq.val))
              (first | go_keep | (go_split_ands; refine ⟨?_, ?_, ?_, ?_, ?_, ?_⟩ <;> exact keep_cell hb7 (by assumption)))
              (((go_at_call 14; (with_reducible refine (HLK.out _ (HR0.out.later (Below.refl _ _).drew).doc).mono ?_); rintro e w7 ⟨rfl, hb7⟩; have HS7 := Lib.hid ((HR0.out.later (Below.refl _ _).drew).later hb7))))
            all_goals
              clear hb7
              have HL1 := Lib.hid (HZQ.out)
              cases LB with
              | true =>
                obtain ⟨f1, f2, f3⟩ := doc_none S P o HM.out.symm (.inr (by rw [← HZQ.out]; exact HLB.out.symm))
                rw [← HSE.out] at f1
                rw [← HPE.out] at f2
                rw [← HEE.out] at f3
                subst f1 f2 f3
                clear HM HZM
                go_wp2_with fail
                go_meet
                case rel => exact ⟨rfl, by rw [HWV.out (by decide), hoa]; exact HS7⟩
              | false =>
                have HIN := Lib.hid (fun W (h : PlSt C w (XB g4 s (.slice ap P.length k) g6 #[.int .u8 (o.kind : Int), .int .i64 o.t.node, .int .i64 o.t.life, .int .i64 o.t.seq, .string o.key, .int .u64 (o.time : Int), .slice (some ⟨b2, off2, none⟩) o.n o.c] g7 vr0) r rs S P S P s ap k W) => pl_install h o HM.out.symm hn (by rw [← HZQ.out]; exact HLB.out.symm) HTM.out (by have := HRT2.out; omega) (by rw [← HZQ.out]; exact HZ12.out.1) (by rw [← HZQ.out]; exact HZ12.out.2))
                rw [← HSE.out, ← HPE.out, ← HEE.out, ← HZQ.out] at HIN
                have HQC := Lib.hid (show ∀ W, Below w.heap.size w W → W.cell? ⟨b2, off2, none⟩ = some (.string zq.key) ∧ W.cell? ⟨b2, off2 + 2, none⟩ = some (.string zq.val) from fun W hb => by
                  obtain ⟨b3, off3, h3, _, _, _, c0, _, c2⟩ := (HWQ.out _ hb).2.2.2 0 hn0
                  rw [hoa] at h3
                  simp only [Option.some.injEq, Addr.mk.injEq, and_true] at h3
                  obtain ⟨rfl, rfl⟩ := h3
                  rw [Nat.zero_mul, Nat.add_zero, ← HZQ.out] at c0 c2
                  exact ⟨c0, c2⟩)
                clear o0 o1 o2 o3 o4 o5 o6 j0 j1 j2 p0 p1 pf v0 v1 v2 vf HM HZM
                have o5 := HS7.out.opc 5
                have o6 := HS7.out.opc 6
                simp only [List.getElem?_toArray, List.getElem?_cons_zero, List.getElem?_cons_succ] at o5 o6
                obtain ⟨j0, j2⟩ := HQC.out _ HS7.out.below
                go_upto_region 12 with fail
                go_region_held3 (fun w' => w'.cell? ⟨g6, 5, none⟩ = some (.int .u64 (o.time : Int)) ∧ w'.cell? ⟨g6, 6, none⟩ = some (.slice (some ⟨b2, off2, none⟩) o.n o.c) ∧ w'.cell? ⟨b2, off2, none⟩ = some (.string zq.key) ∧ w'.cell? ⟨b2, off2 + 2, none⟩ = some (.string zq.val))
                  (first | go_keep | (go_split_ands; refine ⟨?_, ?_, ?_, ?_⟩ <;> exact keep_cell hb8 (by assumption)) | (go_split_ands; refine ⟨?_, ?_, ?_, ?_⟩ <;> assumption))
                  ((first
                    | (go_at_call 15; (with_reducible refine (HSTO.out _ (HS7.out.later (Below.refl _ _).drew)).mono ?_); rintro e w8 ⟨rfl, hs8, hb8⟩; have HS8 := Lib.hid hs8; clear hs8)
                    | (go_at_call 16; (with_reducible refine (HIN.out _ HS8.out).mono ?_); rintro e w9 ⟨rfl, hs9⟩; have HS9 := Lib.hid hs9; have x5 := hs9.opc 5; have x6 := hs9.opc 6; simp only [List.getElem?_toArray, List.getElem?_cons_zero, List.getElem?_cons_succ] at x5 x6; obtain ⟨x7, x8⟩ := HQC.out _ hs9.below; clear hs9)))
                all_goals
                  go_wp2_with fail
                  go_meet
                  case rel => exact ⟨rfl, by rw [HWV.out (by decide), hoa]; exact HS9⟩
      case rest =>
        obtain ⟨rfl, HS7⟩ := hcut
        clear HR0 o0 o1 o2 o3 o4 o5 o6 HM HZM hm6
        obtain ⟨p0, p1, pf⟩ := HS7.out.part
        have o0 := HS7.out.opc 0
        have o1 := HS7.out.opc 1
        have o2 := HS7.out.opc 2
        have o3 := HS7.out.opc 3
        have o4 := HS7.out.opc 4
        have o5 := HS7.out.opc 5
        have o6 := HS7.out.opc 6
        simp only [List.getElem?_toArray, List.getElem?_cons_zero, List.getElem?_cons_succ] at o0 o1 o2 o3 o4 o5 o6
        unfold opCells DoRes at HDO
        have HSM := Lib.hid HS7.out.doc.sv
        obtain ⟨vt, vg, vv⟩ := V
        simp only at HDO
        go_upto_region 26 with (go_at_call 17; (with_reducible refine (HDO.out _ HS7.out.doc HS7.out.below).mono ?_); rintro e w8 ⟨s', a', n', k', rfl, ⟨a3, k3, rfl, hi3, hn3⟩, hp', hb8, hnl, hn1, hn2⟩; obtain rfl : P'.length = n' := hp'.1; have HD8 : Hid (PlSt C w (XB g4 s (.slice ap P.length k) g6 #[.int .u8 (o.kind : Int), .int .i64 o.t.node, .int .i64 o.t.life, .int .i64 o.t.seq, .string o.key, .int .u64 (o.time : Int), .slice o.a o.n o.c] g7 ⟨vt, vg, vv⟩) r rs S' P' S' P' (.slice a3 S'.length k3) a' k' w8) := Lib.hid (HS7.out.take hb8 ⟨⟨a3, k3, rfl, hi3, hn3⟩, hp', hnl, HNX.out⟩ hn1 hn2); clear hi3 hn3 hp' hb8 hnl hn1 hn2)
        have hb9 : Below w8.heap.size w8 ((w8.alloc (.cells #[.slice a3 S'.length k3, .slice a' P'.length k'] 34)).alloc (.cells #[.int .u64 (vt : Int), .bool vg, .string vv] 42)) := ((Below.refl w8.heap.size w8).alloc (Nat.le_refl _) _).alloc (by simp) _
        have hr11 : ((w8.alloc (.cells #[.slice a3 S'.length k3, .slice a' P'.length k'] 34)).alloc (.cells #[.int .u64 (vt : Int), .bool vg, .string vv] 42)).heap[w8.heap.size]? = some (.cells #[.slice a3 S'.length k3, .slice a' P'.length k'] 34 (0, 0)) := by
          show ((w8.heap.push _).push _)[w8.heap.size]? = _
          rw [Array.getElem?_push, if_neg (by simp), Array.getElem?_push, if_pos rfl]
        have hr12 : ((w8.alloc (.cells #[.slice a3 S'.length k3, .slice a' P'.length k'] 34)).alloc (.cells #[.int .u64 (vt : Int), .bool vg, .string vv] 42)).heap[w8.heap.size + 1]? = some (.cells #[.int .u64 (vt : Int), .bool vg, .string vv] 42 (0, 0)) := by
          show ((w8.heap.push _).push _)[w8.heap.size + 1]? = _
          rw [Array.getElem?_push, if_pos (by simp)]
        have HS9 := Lib.hid (HD8.out.later hb9)
        have hg48 := HD8.out.st.far_lt g4 (.inl ⟨_, .inl ⟨rfl, rfl⟩⟩)
        obtain ⟨w9, hw9⟩ : ∃ w9, w9 = (w8.alloc (.cells #[.slice a3 S'.length k3, .slice a' P'.length k'] 34)).alloc (.cells #[.int .u64 (vt : Int), .bool vg, .string vv] 42) := ⟨_, rfl⟩
        obtain ⟨g12, hg12⟩ : ∃ g12, g12 = w8.heap.size + 1 := ⟨_, rfl⟩
        obtain ⟨g11, hg11⟩ : ∃ g11, g11 = w8.heap.size := ⟨_, rfl⟩
        have n124 : g12 ≠ g4 := by omega
        have n412 : g4 ≠ g12 := by omega
        rw [← hw9, ← hg12] at hr12
        rw [← hw9, ← hg11] at hr11
        rw [← hw9] at HS9
        rw [← hw9, ← hg12, ← hg11]
        have x0 : w9.cell? ⟨g11, 0, none⟩ = some (.slice a3 S'.length k3) := by rw [cell_of_row _ _ _ _ _ _ hr11]; rfl
        have x1 : w9.cell? ⟨g11, 1, none⟩ = some (.slice a' P'.length k') := by rw [cell_of_row _ _ _ _ _ _ hr11]; rfl
        have HR12 := Lib.hid hr12
        clear hw9 hg12 hg11 hg48 hb9 hr11 hr12 HS7 HSM p0 p1 pf o0 o1 o2 o3 o4 o5 o6 HDO HNX
        obtain ⟨p0, p1, pf⟩ := HS9.out.part
        go_upto_region 27 with fail
        have HS10 := Lib.hid (HS9.out.putP n47 n46 (.slice a3 S'.length k3) (.slice a' P'.length k'))
        have hr12 : ((w9.setCell ⟨g4, 0, none⟩ (.slice a3 S'.length k3)).setCell ⟨g4, 1, none⟩ (.slice a' P'.length k')).heap[g12]? = some (.cells #[.int .u64 (vt : Int), .bool vg, .string vv] 42 (0, 0)) := by
          rw [Below.heap_setCell _ _ _ _ n124, Below.heap_setCell _ _ _ _ n124]; exact HR12.out
        obtain ⟨w10, hw10⟩ : ∃ w10, w10 = (w9.setCell ⟨g4, 0, none⟩ (.slice a3 S'.length k3)).setCell ⟨g4, 1, none⟩ (.slice a' P'.length k') := ⟨_, rfl⟩
        rw [← hw10] at HS10 hr12
        rw [← hw10]
        clear hw10 HS9 p0 p1 pf x0 x1 HR12
        obtain ⟨p0, p1, pf⟩ := HS10.out.part
        obtain ⟨v0, v1, v2, vf⟩ := HS10.out.ver
        simp only at v0 v1 v2
        have y0 : w10.cell? ⟨g12, 0, none⟩ = some (.int .u64 (vt : Int)) := by rw [cell_of_row _ _ _ _ _ _ hr12]; rfl
        have y1 : w10.cell? ⟨g12, 1, none⟩ = some (.bool vg) := by rw [cell_of_row _ _ _ _ _ _ hr12]; rfl
        have y2 : w10.cell? ⟨g12, 2, none⟩ = some (.string vv) := by rw [cell_of_row _ _ _ _ _ _ hr12]; rfl
        clear hr12
        have hBE := fun W => ver_ne vt vg vv W
        have HAL := Lib.hid (fun W (h : PlSt C w (XB g4 (.slice a3 S'.length k3) (.slice a' P'.length k') g6 #[.int .u8 (o.kind : Int), .int .i64 o.t.node, .int .i64 o.t.life, .int .i64 o.t.seq, .string o.key, .int .u64 (o.time : Int), .slice o.a o.n o.c] g7 ⟨vt, vg, vv⟩) r rs S' P' S' P' (.slice a3 S'.length k3) a' k' W) => h.st.all (by have h1 := HLN.out.2; have h2 := HRT.out; omega))
        go_region_held3 (fun w' => w'.cell? ⟨g7, 0, none⟩ = some (.int .u64 (vt : Int)) ∧ w'.cell? ⟨g7, 1, none⟩ = some (.bool vg) ∧ w'.cell? ⟨g7, 2, none⟩ = some (.string vv) ∧ w'.cell? ⟨g12, 0, none⟩ = some (.int .u64 (vt : Int)) ∧ w'.cell? ⟨g12, 1, none⟩ = some (.bool vg) ∧ w'.cell? ⟨g12, 2, none⟩ = some (.string vv) ∧ w'.cell? ⟨g4, 1, none⟩ = some (.slice a' P'.length k'))
          (first | go_keep | (go_split_ands; refine ⟨?_, ?_, ?_, ?_, ?_, ?_, ?_⟩ <;> exact keep_cell hb11 (by assumption)))
          (((go_at_call 18; (with_reducible refine (HAL.out _ (HS10.out.later (Below.refl _ _).drew)).mono ?_); rintro e w11 ⟨a4, k4, L4, rfl, _, _, _, _, hb11⟩; have HS11 := Lib.hid ((HS10.out.later (Below.refl _ _).drew).later hb11))))
        all_goals
          clear hBE
          go_wp2_with fail
          go_roundg g
          case measure => omega
          case rel => exact ⟨i + 1, S', P', .slice a3 S'.length k3, a', k', by omega, by go_num, by have h1 := HLN.out.1; have h2 := HRT.out; omega, by have h1 := HLN.out.2; have h2 := HRT.out; omega, Lib.hid HS11.out.closeR⟩
    | zero =>
      obtain rfl : i = len := by omega
      have HRT := Lib.hid (show P.length ≤ 1000 by omega)
      have HSB := Lib.hid HS.out.below
      have HAL := Lib.hid (HS.out.st.all HRT.out)
      have hst0 := HS
      clear hS8 hP1 hig HFW HZ hel
      go_upto_region 30 with (go_at_call 18; (with_reducible refine HAL.out.mono ?_); rintro e w11 ⟨a4, k4, L4, rfl, ht4, hso, hpr, hs11, hb11⟩; have HT := Lib.hid ht4; have HSO := Lib.hid hso; have HPR := Lib.hid hpr; have HS11 := Lib.hid hs11; clear ht4 hso hpr hs11 hb11)
      clear hst0 HS HAL HSB
      have hPm := HRT.out
      obtain ⟨N, hN⟩ : ∃ N, N = P.length := ⟨_, rfl⟩
      rw [← hN] at HT HPR hPm ⊢
      have HNE := Lib.hid hN
      clear hN
      go_wp2_with fail
      go_loopg [15] N (fun q s15 wx => ∃ (j : Nat), j + q = N ∧ s15 = .int .i64 j ∧ Hid (PSt C w w.heap.size (farPl (XA g4 s (.slice ap P.length k)) S P s ap) r rs S P wx) ∧ Hid (IsTns wx a4 N L4))
      case atStart => exact ⟨0, by omega, rfl, HS11, HT⟩
      case round =>
        obtain ⟨j, hjq, rfl, HS, HT2⟩ := hrel
        clear HS11 HT
        cases gk with
        | zero =>
          obtain rfl : j = N := by omega
          go_wp2_with fail
          go_ret
          exact ⟨rfl, HS.out.below⟩
        | succ q =>
          have hjn : j < N := by omega
          have hjz : (j : Int) < (N : Int) := by omega
          have HPQ := Lib.hid (HPR.out j hjn)
          obtain ⟨b4, off4, rfl, hb4, y0, y1, y2⟩ := HT2.out.2.2 j hjn
          obtain ⟨t, ht⟩ : ∃ t, t = L4.getD j tn0 := ⟨_, rfl⟩
          rw [← ht] at y0 y1 y2 HPQ
          have HTE := Lib.hid ht
          have HB4 := Lib.hid hb4
          clear ht hb4
          obtain ⟨tn, tl, ts⟩ := t
          simp only at y0 y1 y2
          have HPP := Lib.hid (fun W (h : PSt C w w.heap.size (farPl (XA g4 s (.slice ap P.length k)) S P s ap) r rs S P W) => (show Calls Try.prog 19 #[.pointer (some r), .agg #[.int .i64 tn, .int .i64 tl, .int .i64 ts]] W fun e w' => e = .returned (.bool true) ∧ PSt C w w.heap.size (farPl (XA g4 s (.slice ap P.length k)) S P s ap) r rs S P w' ∧ Below W.heap.size W w' from by
            have := h.prepared ⟨tn, tl, ts⟩ HPQ.out.2
            rw [decide_eq_true (by have h1 := HPQ.out.1; have h2 := HNE.out; omega)] at this
            exact this))
          have g6' : (0 : Int) ≤ (j : Int) := by omega
          by_cases hj0 : j = 0
          · have g1 : decide ((0 : Int) < (j : Int)) = false := by rw [decide_eq_false_iff_not]; omega
            have g2 : decide (0 < j) = false := by rw [decide_eq_false_iff_not]; omega
            clear hj0
            go_upto_region 33 with fail
            have hq0 := likes_cellP (p := ⟨b4, off4 + j * 3, none⟩) HB4.out y0
            have hq1 := likes_cellP (p := ⟨b4, off4 + j * 3 + 1, none⟩) HB4.out y1
            have hq2 := likes_cellP (p := ⟨b4, off4 + j * 3 + 2, none⟩) HB4.out y2
            have HPL := Lib.hid (show ∀ x : Like wr.heap.size wr, Calls Try.prog 19 #[.pointer (some r), .agg #[.int .i64 tn, .int .i64 tl, .int .i64 ts]] x.val fun e w' => e = .returned (.bool true) ∧ Below x.val.heap.size x.val w' from fun x => (HPP.out _ (HS.out.later x.below).1).mono fun e w' h => ⟨h.1, h.2.2⟩)
            clear y0 y1 y2
            refine region_likes (by kernel_rfl) (by kernel_rfl) ?_
            repeat (first
              | (go_big_quiet_step (first
                  | (go_at_call 19; with_reducible exact calls_likes (Like.size _) (HPL.out _)))))
            refine wpQuiet_nil ?_
            intro x1
            have HS12 := Lib.hid (HS.out.later x1.below).1
            have HT12 := Lib.hid (HT2.out.below x1.below)
            clear hq0 hq1 hq2 HPL
            go_wp2_with fail
            go_roundg q
            case measure => omega
            case rel => exact ⟨j + 1, by omega, by go_num, HS12, HT12⟩
          · obtain ⟨b5, off5, e5, hb5, z0, z1, z2⟩ := HT2.out.2.2 (j - 1) (by omega)
            simp only [Option.some.injEq, Addr.mk.injEq, and_true] at e5
            obtain ⟨rfl, rfl⟩ := e5
            obtain ⟨u, hu⟩ : ∃ u, u = L4.getD (j - 1) tn0 := ⟨_, rfl⟩
            rw [← hu] at z0 z1 z2
            obtain ⟨un, ul, us⟩ := u
            simp only at z0 z1 z2
            obtain ⟨i, hi⟩ : ∃ i, i = j - 1 := ⟨_, rfl⟩
            rw [← hi] at z0 z1 z2 hu
            have HLT := Lib.hid (fun W => (show Calls Try.prog 20 #[.agg #[.int .i64 un, .int .i64 ul, .int .i64 us], .agg #[.int .i64 tn, .int .i64 tl, .int .i64 ts]] W fun e w' => e = .returned (.bool true) ∧ Below W.heap.size W w' from by
              have h1 := pless_any ⟨un, ul, us⟩ ⟨tn, tl, ts⟩ W
              have h2 := HSO.out i (by have h1 := HT2.out.1; omega)
              rw [show i + 1 = j by omega, ← hu, ← HTE.out] at h2
              rw [h2] at h1
              exact h1))
            have w1 : IntKind.i64.wrap ((j : Int) - 1) = (i : Int) := by rw [IntWalk.i64_in _ (by omega)]; omega
            have g1 : decide ((0 : Int) < (j : Int)) = true := by rw [decide_eq_true_eq]; omega
            have g2 : decide (0 < j) = true := by rw [decide_eq_true_eq]; omega
            have g3 : (0 : Int) ≤ (i : Int) := by omega
            have g5 : (i : Int) < (N : Int) := by omega
            clear hu hb5 hi hj0
            go_upto_region 33 with fail
            go_region_held3 (fun w' => w'.cell? ⟨b4, off4 + j * 3, none⟩ = some (.int .i64 tn) ∧ w'.cell? ⟨b4, off4 + j * 3 + 1, none⟩ = some (.int .i64 tl) ∧ w'.cell? ⟨b4, off4 + j * 3 + 2, none⟩ = some (.int .i64 ts) ∧ w'.cell? ⟨b4, off4 + i * 3, none⟩ = some (.int .i64 un) ∧ w'.cell? ⟨b4, off4 + i * 3 + 1, none⟩ = some (.int .i64 ul) ∧ w'.cell? ⟨b4, off4 + i * 3 + 2, none⟩ = some (.int .i64 us))
              (first | go_keep | (go_split_ands; refine ⟨?_, ?_, ?_, ?_, ?_, ?_⟩ <;> exact keep_cell hb12 (by assumption)) | (go_split_ands; refine ⟨?_, ?_, ?_, ?_, ?_, ?_⟩ <;> exact keep_cell hb13 (by assumption)))
              ((first
                | (go_at_call 19; (with_reducible refine (HPP.out _ (HS.out.later (Below.refl _ _).drew).1).mono ?_); rintro e w12 ⟨rfl, hs12, hb12⟩; have HS12 := Lib.hid hs12; have HT12 := Lib.hid ((HT2.out.below (Below.refl _ _).drew).below hb12))
                | (go_at_call 20; (with_reducible refine (HLT.out _).mono ?_); rintro e w13 ⟨rfl, hb13⟩; have HS13 := Lib.hid ((HS12.out.later hb13).1); have HT13 := Lib.hid (HT12.out.below hb13))))
            all_goals
              clear w1
              go_wp2_with fail
              go_roundg q
              case measure => omega
              case rel => exact ⟨j + 1, by omega, by go_num, HS13, HT13⟩
end Go.Proofs.Ythcomfcbdlobpaa
