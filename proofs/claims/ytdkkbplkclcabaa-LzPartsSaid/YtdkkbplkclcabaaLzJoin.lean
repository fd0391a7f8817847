/-
  The walks of the document's Text and Join.
-/
import Derived.Test.YtdkkbplkclcabaaConvert
import Derived.Test.YtdkkbplkclcabaaLzOps
import Derived.Test.YtdkkbplkclcabaaRefUnpack
import Derived.Test.YtdkkbplkclcabaaRefUintB
import Derived.Test.YtdkkbplkclcabaaClass
namespace Go.Proofs.Ytdkkbplkclcabaa
open Go.RowKit
set_option linter.unnecessarySimpa false
set_option linter.unusedVariables false
set_option linter.unusedSimpArgs false
set_option maxRecDepth 100000

theorem ub_size (n : Nat) (h : n < 18446744073709551616) : (⟨(ub n).toArray⟩ : ByteArray).size ≤ 10 := by
  show (ub n).toArray.size ≤ 10; rw [List.size_toArray]; exact ub_len10 h
theorem ba_append (a b : List UInt8) : (⟨a.toArray⟩ : ByteArray) ++ ⟨b.toArray⟩ = ⟨(a ++ b).toArray⟩ := by apply ByteArray.ext; simp

set_option maxHeartbeats 1000000 in
theorem refText_any (s : ByteArray) (hs : s.size ≤ 100000) (w : World) :
    Calls Try.prog 20 #[.string s] w fun e w' => e = .returned (.string ⟨(ub s.size ++ s.data.toList).toArray⟩) ∧ Below w.heap.size w w' := by
  have hu := Lib.hid (refUint_any s.size (by omega))
  have hsz := ub_size s.size (by omega)
  have hw : IntKind.u64.wrap (s.size : Int) = (s.size : Int) := by simp [IntKind.wrap, IntKind.bits, IntKind.signed]; omega
  obtain ⟨U, hU⟩ : ∃ U : ByteArray, U = ⟨(ub s.size).toArray⟩ := ⟨_, rfl⟩
  have hadd := Lib.hid (show U ++ s = ⟨(ub s.size ++ s.data.toList).toArray⟩ by rw [hU]; apply ByteArray.ext; simp)
  rw [← hU] at hu hsz
  have hss : U.size + s.size ≤ 9223372036854775807 := by omega
  clear hU
  go_enter Try.func20, Try.ntmps20
  go_wp2_with (go_at_call 21; refine (hu.out _).mono ?_; rintro e w1 ⟨rfl, hb1⟩)
  go_ret
  exact ⟨by rw [← hadd.out]; rfl, hb1⟩

/-- Parts, as plain data. -/
abbrev Prt := ByteArray × Nat × Nat
def prt0 : Prt := (ByteArray.empty, 0, 0)
def PartsAt (W : World) (a : Option Addr) (len : Nat) (zs : List Prt) : Prop :=
  zs.length = len ∧ ∀ i, i < len → ∃ b off, a = some ⟨b, off, none⟩ ∧ b < W.heap.size ∧ (zs.getD i prt0).2.1 < 65536 ∧ (zs.getD i prt0).2.2 < 65536 ∧
    W.cell? ⟨b, off + i * 3, none⟩ = some (.string (zs.getD i prt0).1) ∧ W.cell? ⟨b, off + i * 3 + 1, none⟩ = some (.int .u16 (zs.getD i prt0).2.1) ∧ W.cell? ⟨b, off + i * 3 + 2, none⟩ = some (.int .u16 (zs.getD i prt0).2.2)
theorem PartsAt.below {W W' : World} {a : Option Addr} {len : Nat} {zs : List Prt} (h : PartsAt W a len zs) (hb : Below W.heap.size W W') : PartsAt W' a len zs :=
  ⟨h.1, fun i hi => by
    obtain ⟨b, off, ha, hlt, h1, h2, c0, c1, c2⟩ := h.2 i hi
    exact ⟨b, off, ha, Nat.lt_of_lt_of_le hlt hb.size, h1, h2, (hb.cell hlt).trans c0, (hb.cell hlt).trans c1, (hb.cell hlt).trans c2⟩⟩

/-- The end of Join: what is handed back. -/
theorem joined_bytes (n : Nat) (S : ByteArray) (l : List LOp) (hS : S = ⟨(encs l).toArray⟩) : ((⟨(ub n).toArray⟩ : ByteArray) ++ ⟨#[1]⟩) ++ S = ⟨(ub n ++ 1 :: encs l).toArray⟩ := by
  rw [hS]; apply ByteArray.ext; simp

set_option maxRecDepth 100000 in
set_option maxHeartbeats 8000000 in
theorem refJoin_any (a : Option Addr) (len cap : Nat) (zs : List Prt) (hl : len ≤ 12) (ht : ∀ i, i < len → (zs.getD i prt0).1.size ≤ 100) (w : World) (hz : PartsAt w a len zs) :
    Calls Try.prog 11 #[.slice a len cap] w fun e w' => ∃ l : List LOp, alt false l ∧ (apps l []).length ≤ 6000 ∧ (encs l).length ≤ 6000 ∧
      e = .returned (.tuple #[.string ⟨(ub (apps l []).length ++ 1 :: encs l).toArray⟩, .string ⟨(apps l []).toArray⟩]) ∧ Below w.heap.size w w' := by
  obtain ⟨i0, hi, hz0, hz1, hz2⟩ := info_parts u8info
  have HZ := Lib.hid hz
  have HT := Lib.hid ht
  clear hz ht
  go_enter Try.func11, Try.ntmps11
  go_wp2_with fail
  go_loopg [4, 5, 6] len (fun q s4 s5 s6 wx => ∃ (i : Nat) (ops : List LOp) (S : ByteArray) (out : List UInt8), i + q = len ∧ s6 = .int .i64 i ∧ s4 = .string S ∧ Hid (S = ⟨(encs ops).toArray⟩) ∧ S.size ≤ 200 * i ∧
    Hid (out = apps ops []) ∧ out.length ≤ 5000 ∧ Hid (alt false ops ∧ nxt false ops = false) ∧ Hid (wx.ownsRow w.heap.size 5 1 s5 out.length (Lib.byteCells out)) ∧ Hid (Below w.heap.size w wx))
  case atStart => exact ⟨0, [], ⟨#[]⟩, [], by omega, rfl, rfl, Lib.hid rfl, Nat.zero_le _, Lib.hid rfl, Nat.zero_le _, Lib.hid ⟨trivial, rfl⟩, Lib.hid (World.ownsRow_nil _ _ _ _), Lib.hid (Below.refl _ _)⟩
  case round =>
    obtain ⟨i, ops, S, out, hiq, rfl, rfl, hS, hSs, hout, hol, halt, ho, hb⟩ := hrel
    by_cases hlt : i < len
    · obtain ⟨q, rfl⟩ : ∃ q, gk = q + 1 := ⟨gk - 1, by omega⟩
      have hiz : (i : Int) < (len : Int) := by omega
      obtain ⟨b, off, rfl, hbl, hd16, hn16, c0', c1', c2'⟩ := HZ.out.2 i hlt
      have htx := HT.out i hlt
      obtain ⟨z, ez⟩ : ∃ z, z = zs.getD i prt0 := ⟨_, rfl⟩
      rw [← ez] at hd16 hn16 c0' c1' c2' htx
      obtain ⟨p, d, n⟩ := z
      simp only at hd16 hn16 c0' c1' c2' htx
      have c0 := (hb.out.cell (p := ⟨b, off + i * 3, none⟩) hbl).trans c0'
      have K0 := Lib.hid c0'
      have K1 := Lib.hid c1'
      have K2 := Lib.hid c2'
      clear ez c0' c1' c2'
      have htext := Lib.hid (refText_any p (by omega))
      obtain ⟨T, hT⟩ : ∃ T : ByteArray, T = ⟨(ub p.size ++ p.data.toList).toArray⟩ := ⟨_, rfl⟩
      have hTs : T.size ≤ 110 := by
        rw [hT]; show (ub p.size ++ p.data.toList).toArray.size ≤ 110
        rw [List.size_toArray, List.length_append, ← Lib.size_eq]
        have := ub_len10 (n := p.size) (by omega)
        omega
      have hST := Lib.hid (show S ++ T = ⟨(encs (ops ++ [.lit p.data.toList])).toArray⟩ by
        have e1 : encs [.lit p.data.toList] = ub p.size ++ p.data.toList := by
          show (ub p.data.toList.length ++ p.data.toList) ++ [] = _
          rw [List.append_nil, ← Lib.size_eq]
        rw [hS.out, hT, encs_append, e1, ba_append])
      rw [← hT] at htext
      have hST2 : (S ++ T).size ≤ 200 * i + 110 := by rw [ByteArray.size_append]; omega
      have hss : S.size + T.size ≤ 9223372036854775807 := by omega
      have hout2 := Lib.hid (show out ++ p.data.toList = apps (ops ++ [.lit p.data.toList]) [] by rw [apps_append, ← hout.out]; rfl)
      have halt2 := Lib.hid (alt_lit ops false p.data.toList halt.out.1 halt.out.2 (by rw [← Lib.size_eq]; omega))
      clear hT
      go_upto_region 7 with (go_at_call 20; refine (htext.out _).mono ?_; rintro e w2 ⟨rfl, hb2⟩)
      have B2 := Lib.hid (hb.out.trans (hb2.mono hb.out.size))
      have O2 := Lib.hid (own_below ho.out hb2)
      have C0 := (B2.out.cell (p := ⟨b, off + i * 3, none⟩) hbl).trans K0.out
      clear c0 hb2
      go_upto_region 8 with (at_builtin; refine Lib.wpList_append_own_string _ rfl _ _ 34 9 rfl w.heap.size 5 i0 Try.underlying34 Try.underlying9 hi hz0 hz1 hz2 _ out.length (Lib.byteCells out) rfl O2.out p rfl (by unfold maxLen; omega) (by omega) B2.out.size ?_)
      intro v' w3 hown3 hg3 _
      have e2 : Lib.byteCells (out ++ p.data.toList) = Lib.byteCells out ++ Lib.strCells p := by simp [Lib.byteCells, Lib.strCells]
      have e3 : (out ++ p.data.toList).length = out.length + p.size := by rw [List.length_append, ← Lib.size_eq]
      rw [← e2, ← e3] at hown3
      obtain ⟨out2, ho2⟩ : ∃ out2, out2 = out ++ p.data.toList := ⟨_, rfl⟩
      rw [← ho2] at hown3 hout2
      have hol2 : out2.length ≤ 5100 := by rw [ho2, e3]; omega
      have B3 := Lib.hid (B2.out.grown hg3 B2.out.size (fun k hk => (O2.out.lt k hk).1))
      have O3 := Lib.hid hown3
      have D1 := (B3.out.cell (p := ⟨b, off + i * 3 + 1, none⟩) hbl).trans K1.out
      have D2 := (B3.out.cell (p := ⟨b, off + i * 3 + 2, none⟩) hbl).trans K2.out
      clear hown3 hg3 C0 e2 e3 O2 B2 htext ho2
      go_upto_region 8 with fail
      go_quiet (fail)
      go_upto_region 9 with fail
      obtain ⟨w4, hw4⟩ : ∃ w4, w4 = w3.drewN nq := ⟨_, rfl⟩
      have B4 : Below w.heap.size w w4 := by rw [hw4]; exact ⟨B3.out.os, B3.out.tape, B3.out.output, B3.out.size, B3.out.block⟩
      have O4 : w4.ownsRow w.heap.size 5 1 v' out2.length (Lib.byteCells out2) := by rw [hw4]; exact O3.out
      rw [← hw4]
      clear hw4 D1 D2 O3 B3
      have B4 := Lib.hid B4
      have O4 := Lib.hid O4
      obtain ⟨a8, cap8, hform⟩ := own_form O4.out
      subst hform
      go_cut [68] (fun s68 wc => s68 = .bool (decide (¬ (1 ≤ d ∧ d ≤ out2.length ∧ 4 ≤ n ∧ out2.length + n ≤ 5000 ∧ ¬ i + 1 = len))) ∧ wc = w4)
      case first =>
        by_cases e1 : 1 ≤ d
        · have f1 : decide ((d : Int) < 1) = false := decide_eq_false (by omega)
          by_cases e2 : d ≤ out2.length
          · have f2 : decide (out2.length < d) = false := decide_eq_false (by omega)
            by_cases e3 : 4 ≤ n
            · have f3 : decide ((n : Int) < 4) = false := decide_eq_false (by omega)
              by_cases e4 : out2.length + n ≤ 5000
              · have f4 : decide ((5000 : Int) < (out2.length : Int) + (n : Int)) = false := decide_eq_false (by omega)
                by_cases e5 : i + 1 = len
                · have f5 : ((i : Int) == (len : Int) - 1) = true := by rw [beq_iff_eq]; omega
                  have HR := Lib.hid (show decide (¬ (1 ≤ d ∧ d ≤ out2.length ∧ 4 ≤ n ∧ out2.length + n ≤ 5000 ∧ ¬ i + 1 = len)) = true from decide_eq_true (by omega))
                  clear e1 e2 e3 e4 e5
                  go_wp2_with fail
                  go_meet
                  case rel => exact ⟨by rw [HR.out], rfl⟩
                · have f5 : ((i : Int) == (len : Int) - 1) = false := by rw [beq_eq_false_iff_ne]; omega
                  have HR := Lib.hid (show decide (¬ (1 ≤ d ∧ d ≤ out2.length ∧ 4 ≤ n ∧ out2.length + n ≤ 5000 ∧ ¬ i + 1 = len)) = false from decide_eq_false (by omega))
                  clear e1 e2 e3 e4 e5
                  go_wp2_with fail
                  go_meet
                  case rel => exact ⟨by rw [HR.out], rfl⟩
              · have f4 : decide ((5000 : Int) < (out2.length : Int) + (n : Int)) = true := decide_eq_true (by omega)
                have HR := Lib.hid (show decide (¬ (1 ≤ d ∧ d ≤ out2.length ∧ 4 ≤ n ∧ out2.length + n ≤ 5000 ∧ ¬ i + 1 = len)) = true from decide_eq_true (by omega))
                clear e1 e2 e3 e4
                go_wp2_with fail
                go_meet
                case rel => exact ⟨by rw [HR.out], rfl⟩
            · have f3 : decide ((n : Int) < 4) = true := decide_eq_true (by omega)
              have HR := Lib.hid (show decide (¬ (1 ≤ d ∧ d ≤ out2.length ∧ 4 ≤ n ∧ out2.length + n ≤ 5000 ∧ ¬ i + 1 = len)) = true from decide_eq_true (by omega))
              clear e1 e2 e3
              go_wp2_with fail
              go_meet
              case rel => exact ⟨by rw [HR.out], rfl⟩
          · have f2 : decide (out2.length < d) = true := decide_eq_true (by omega)
            have HR := Lib.hid (show decide (¬ (1 ≤ d ∧ d ≤ out2.length ∧ 4 ≤ n ∧ out2.length + n ≤ 5000 ∧ ¬ i + 1 = len)) = true from decide_eq_true (by omega))
            clear e1 e2
            go_wp2_with fail
            go_meet
            case rel => exact ⟨by rw [HR.out], rfl⟩
        · have f1 : decide ((d : Int) < 1) = true := decide_eq_true (by omega)
          have HR := Lib.hid (show decide (¬ (1 ≤ d ∧ d ≤ out2.length ∧ 4 ≤ n ∧ out2.length + n ≤ 5000 ∧ ¬ i + 1 = len)) = true from decide_eq_true (by omega))
          clear e1
          go_wp2_with fail
          go_meet
          case rel => exact ⟨by rw [HR.out], rfl⟩
      case rest =>
        obtain ⟨rfl, rfl⟩ := hcut
        by_cases hgood : 1 ≤ d ∧ d ≤ out2.length ∧ 4 ≤ n ∧ out2.length + n ≤ 5000 ∧ ¬ i + 1 = len
        · rw [decide_eq_false (by intro h; exact h hgood)]
          obtain ⟨q1, q2, q3, q4, q5⟩ := hgood
          have hu1 := Lib.hid (refUint_any d (by omega))
          have hu2 := Lib.hid (refUint_any n (by omega))
          have hz1' := ub_size d (by omega)
          have hz2' := ub_size n (by omega)
          obtain ⟨U1, hU1⟩ : ∃ U : ByteArray, U = ⟨(ub d).toArray⟩ := ⟨_, rfl⟩
          obtain ⟨U2, hU2⟩ : ∃ U : ByteArray, U = ⟨(ub n).toArray⟩ := ⟨_, rfl⟩
          rw [← hU1] at hu1 hz1'
          rw [← hU2] at hu2 hz2'
          have hwd : IntKind.u64.wrap (d : Int) = (d : Int) := by simp [IntKind.wrap, IntKind.bits, IntKind.signed]; omega
          have hwn : IntKind.u64.wrap (n : Int) = (n : Int) := by simp [IntKind.wrap, IntKind.bits, IntKind.signed]; omega
          have hsA : U1.size + U2.size ≤ 9223372036854775807 := by omega
          have hsB : (S ++ T).size + (U1 ++ U2).size ≤ 9223372036854775807 := by rw [ByteArray.size_append (a := U1)]; omega
          have hSn := Lib.hid (show (S ++ T) ++ (U1 ++ U2) = ⟨(encs ((ops ++ [.lit p.data.toList]) ++ [.cpy d n])).toArray⟩ by
            rw [hST.out, hU1, hU2, ba_append (ub d) (ub n), ba_append, encs_append (ops ++ [LOp.lit p.data.toList]) [LOp.cpy d n]]
            have : encs [.cpy d n] = ub d ++ ub n := by show (ub d ++ ub n) ++ [] = _; rw [List.append_nil]
            rw [this])
          have hSz : ((S ++ T) ++ (U1 ++ U2)).size ≤ 200 * (i + 1) := by rw [ByteArray.size_append, ByteArray.size_append (a := U1)]; omega
          have halt3 := Lib.hid (alt_cpy (ops ++ [.lit p.data.toList]) false d n halt2.out.1 halt2.out.2 (by omega) (by omega))
          have hout3 := Lib.hid (show copyTo n d out2 = apps ((ops ++ [.lit p.data.toList]) ++ [.cpy d n]) [] by rw [apps_append (ops ++ [LOp.lit p.data.toList]) [LOp.cpy d n], ← hout2.out]; rfl)
          have HQ := Lib.hid (show 1 ≤ d ∧ d ≤ out2.length ∧ 4 ≤ n ∧ out2.length + n ≤ 5000 from ⟨q1, q2, q3, q4⟩)
          have HI := Lib.hid (show i + 1 ≤ len by omega)
          clear hU1 hU2 q1 q2 q3 q4 q5
          go_wp2_with (first
            | (go_at_call 21; with_reducible refine (hu1.out _).mono ?_; rintro e w5 ⟨rfl, hb5⟩)
            | (go_at_call 21; with_reducible refine (hu2.out _).mono ?_; rintro e w6 ⟨rfl, hb6⟩))
          have B6 := Lib.hid ((B4.out.trans (hb5.mono B4.out.size)).trans (hb6.mono (Nat.le_trans B4.out.size hb5.size)))
          have O6 := Lib.hid (own_below (own_below O4.out hb5) hb6)
          clear hb5 hb6 hwd hwn hsA hsB hz1' hz2'
          go_loopg [5, 9] n (fun q s5 s9 wx => ∃ j : Nat, j + q = n ∧ s9 = .int .i64 j ∧ Hid (wx.ownsRow w.heap.size 5 1 s5 (out2.length + j) (Lib.byteCells (copyTo j d out2))) ∧ Hid (Below w.heap.size w wx))
          case atStart => exact ⟨0, by omega, rfl, O6, B6⟩
          case round =>
            obtain ⟨j, hjq, rfl, ho3, hb3⟩ := hrel
            obtain ⟨g9, cap9, rfl, hg9, hg9'⟩ := own_slice ho3.out (by have := HQ.out; omega)
            by_cases hjn : j < n
            · obtain ⟨c1, c2, c3, c4⟩ := HQ.out
              obtain ⟨q, rfl⟩ : ∃ q, gk = q + 1 := ⟨gk - 1, by omega⟩
              have hq1 : 0 < d := by omega
              have hq2 : d ≤ out2.length + j := by omega
              have hap3 := Lib.hid (show out2.length + j + 1 ≤ 60000 by omega)
              have hjz : (j : Int) < (n : Int) := by omega
              have hPl : (copyTo j d out2).length = out2.length + j := copyTo_len j d out2
              obtain ⟨P, hP⟩ : ∃ P, P = copyTo j d out2 := ⟨_, rfl⟩
              have hnext : copyTo (j + 1) d out2 = P ++ [P.getD (P.length - d) 0] := by rw [copyTo, ← hP]
              rw [← hP] at hPl ho3
              have hat : (Lib.byteCells P)[out2.length + j - d]? = some (.int .u8 ((P.getD (P.length - d) 0).toNat : Nat)) := by
                unfold Lib.byteCells
                rw [List.getElem?_map, hPl, List.getElem?_eq_getElem (by omega)]
                simp [List.getD, List.getElem?_eq_getElem (show out2.length + j - d < P.length by omega)]
              have hcl := ho3.out.cellAt (out2.length + j - d) (by omega)
              rw [hat] at hcl
              obtain ⟨y, hy⟩ : ∃ y, y = P.getD (P.length - d) 0 := ⟨_, rfl⟩
              rw [← hy] at hcl hnext
              have HNX := Lib.hid hnext
              have hone := Lib.hid (cell_one_new wr (.int .u8 (y.toNat : Int)) 5)
              have hsub3 : wrap64 ((out2.length : Int) + (j : Int) - (d : Int)) = ((out2.length + j - d : Nat) : Int) := by unfold wrap64; omega
              have hs3 := hb3.out.size
              clear hP hat hnext hy c1 c2 c3 c4
              go_wp2_with (at_builtin; refine wpList_append_own _ rfl _ _ 34 rfl w.heap.size 5 i0 (.int .u8 0) 1 1 Try.underlying34 hi hz0 hz1 hz2 rfl (by decide) _ _ _ rfl (ho3.out.alloc _) ⟨wr.heap.size, 0, none⟩ 1 1 [.int .u8 (y.toNat : Int)] rfl rfl hone.out (by simp [Value.oneCell']) (Nat.le_trans hap3.out (by decide)) (by have := hap3.out; omega) (by simp; omega) ?_)
              intro v' w3 hown3 hg3 _
              have B3 := Lib.hid ((hb3.out.alloc hs3 (.cells #[.int .u8 (y.toNat : Int)] 5)).grown hg3 (by simp; omega) (fun q hq => (ho3.out.lt q hq).1))
              have O3 := Lib.hid (show w3.ownsRow w.heap.size 5 1 v' (out2.length + (j + 1)) (Lib.byteCells (copyTo (j + 1) d out2)) by
                rw [HNX.out]
                have e : Lib.byteCells (P ++ [y]) = Lib.byteCells P ++ [.int .u8 (y.toNat : Int)] := by simp [Lib.byteCells]
                rw [e]; exact hown3)
              clear hown3 hg3
              go_wp2_with fail
              go_roundg q
              case measure => omega
              case rel => exact ⟨j + 1, by omega, by simp, O3, B3⟩
            · obtain rfl : j = n := by omega
              have hjz : ¬ (j : Int) < (j : Int) := by omega
              have O5 := Lib.hid (show wr.ownsRow w.heap.size 5 1 (.slice (some ⟨g9, 0, none⟩) (out2.length + j) cap9) (copyTo j d out2).length (Lib.byteCells (copyTo j d out2)) by rw [copyTo_len]; exact ho3.out)
              have hcl4 := copyTo_len j d out2
              clear ho3
              go_wp2_with fail
              go_roundg q
              case measure => omega
              case rel => exact ⟨i + 1, (ops ++ [.lit p.data.toList]) ++ [.cpy d j], (S ++ T) ++ (U1 ++ U2), copyTo j d out2, by omega, by simp, rfl, hSn, hSz, hout3, by have := HQ.out; omega, halt3, O5, hb3⟩
        · rw [decide_eq_true hgood]
          clear hgood
          have hu := Lib.hid (refUint_any out2.length (by omega))
          have hU10 := ub_size out2.length (by omega)
          obtain ⟨U, hU⟩ : ∃ U : ByteArray, U = ⟨(ub out2.length).toArray⟩ := ⟨_, rfl⟩
          rw [← hU] at hu hU10
          have hw8 : IntKind.u64.wrap ((out2.length : Nat) : Int) = ((out2.length : Nat) : Int) := by simp [IntKind.wrap, IntKind.bits, IntKind.signed]; omega
          have hone1 : (⟨#[1]⟩ : ByteArray).size = 1 := rfl
          have hsA : U.size + (⟨#[1]⟩ : ByteArray).size ≤ 9223372036854775807 := by rw [hone1]; omega
          have hsB : (U ++ ⟨#[1]⟩).size + (S ++ T).size ≤ 9223372036854775807 := by rw [ByteArray.size_append, hone1]; omega
          have hjoin := Lib.hid (show (U ++ ⟨#[1]⟩) ++ (S ++ T) = ⟨(ub out2.length ++ 1 :: encs (ops ++ [.lit p.data.toList])).toArray⟩ by rw [hU]; exact joined_bytes _ _ _ hST.out)
          have hlen1 := Lib.hid (show (apps (ops ++ [.lit p.data.toList]) []).length ≤ 6000 by rw [← hout2.out]; omega)
          have hlen2 := Lib.hid (show (encs (ops ++ [.lit p.data.toList])).length ≤ 6000 by
            have hz := congrArg ByteArray.size hST.out
            have hq : (⟨(encs (ops ++ [.lit p.data.toList])).toArray⟩ : ByteArray).size = (encs (ops ++ [.lit p.data.toList])).length := by show (encs (ops ++ [.lit p.data.toList])).toArray.size = _; rw [List.size_toArray]
            rw [hq] at hz
            rw [← hz]; omega)
          have hcvx : ∀ x : Like wc.heap.size wc, (convert 34 9 (.slice a8 out2.length cap8)).run Try.prog x.val = .ok (.string ⟨(out2).toArray⟩) x.val := fun x => convert_row (own_below O4.out x.below)
          clear hU
          go_upto_region 15 with fail
          refine region_likes (by kernel_rfl) (by kernel_rfl) ?_
          repeat (go_big_quiet_step ((go_at_call 21; exact calls_likes (Like.size _) (hu.out _))))
          refine wpQuiet_nil ?_
          intro x
          have hbx := Lib.hid (show Below w.heap.size w x.val from B4.out.trans (x.below.mono B4.out.size))
          go_wp2_with fail
          go_ret2
          exact ⟨(ops ++ [.lit p.data.toList]), halt2.out.1, hlen1.out, hlen2.out, by rw [← hout2.out, ← hjoin.out]; rfl, hbx.out⟩
    · have hiz : ¬ (i : Int) < (len : Int) := by omega
      obtain ⟨a8, cap8, hform⟩ := own_form ho.out
      subst hform
      have hu := Lib.hid (refUint_any out.length (by omega))
      have hU10 := ub_size out.length (by omega)
      obtain ⟨U, hU⟩ : ∃ U : ByteArray, U = ⟨(ub out.length).toArray⟩ := ⟨_, rfl⟩
      rw [← hU] at hu hU10
      have hw8 : IntKind.u64.wrap ((out.length : Nat) : Int) = ((out.length : Nat) : Int) := by simp [IntKind.wrap, IntKind.bits, IntKind.signed]; omega
      have hone1 : (⟨#[1]⟩ : ByteArray).size = 1 := rfl
      have hsA : U.size + (⟨#[1]⟩ : ByteArray).size ≤ 9223372036854775807 := by rw [hone1]; omega
      have hsB : (U ++ ⟨#[1]⟩).size + (S).size ≤ 9223372036854775807 := by rw [ByteArray.size_append, hone1]; omega
      have hjoin := Lib.hid (show (U ++ ⟨#[1]⟩) ++ (S) = ⟨(ub out.length ++ 1 :: encs ops).toArray⟩ by rw [hU]; exact joined_bytes _ _ _ hS.out)
      have hlen1 := Lib.hid (show (apps ops []).length ≤ 6000 by rw [← hout.out]; omega)
      have hlen2 := Lib.hid (show (encs ops).length ≤ 6000 by
        have hz := congrArg ByteArray.size hS.out
        have hq : (⟨(encs ops).toArray⟩ : ByteArray).size = (encs ops).length := by show (encs ops).toArray.size = _; rw [List.size_toArray]
        rw [hq] at hz
        rw [← hz]; omega)
      have hcvx : ∀ x : Like wr.heap.size wr, (convert 34 9 (.slice a8 out.length cap8)).run Try.prog x.val = .ok (.string ⟨(out).toArray⟩) x.val := fun x => convert_row (own_below ho.out x.below)
      clear hU
      go_upto_region 15 with fail
      refine region_likes (by kernel_rfl) (by kernel_rfl) ?_
      repeat (go_big_quiet_step ((go_at_call 21; exact calls_likes (Like.size _) (hu.out _))))
      refine wpQuiet_nil ?_
      intro x
      have hbx := Lib.hid (show Below w.heap.size w x.val from hb.out.trans (x.below.mono hb.out.size))
      go_wp2_with fail
      go_ret2
      exact ⟨ops, halt.out.1, hlen1.out, hlen2.out, by rw [← hout.out, ← hjoin.out]; rfl, hbx.out⟩
end Go.Proofs.Ytdkkbplkclcabaa
