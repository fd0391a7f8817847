/-
  LogStands, from what is asked of the program's log and disk.
-/
import Derived.Test.YtlkifliaaaomeaaLogWrites
import Derived.Test.YtlkifliaaaomeaaOwnS
import Derived.StillTailTactics
namespace Go.Proofs.Ytlkifliaaaomeaa
open Go.RowKit
set_option linter.unusedVariables false
set_option linter.unnecessarySimpa false
set_option linter.unusedSimpArgs false
set_option maxRecDepth 100000

theorem strs_ok {w w1 : World} {a : Option Addr} {len cap n : Nat} {zs : List ByteArray} (hz : IsStrs w a len cap zs) (hb : Below w.heap.size w w1) : IsStrs w1 a len cap zs :=
  isStrs_below hz hb (fun b off s e h0 => by obtain ⟨b', off', e', hlt, _⟩ := hz.2.2.2 h0; rw [e] at e'; cases e'; exact hlt)

set_option maxHeartbeats 2000000 in
theorem logStands_no {S : Dsk} (L : LogC S) (a : Option Addr) (len cap : Nat) (zs : List ByteArray) (t : ByteArray) (x y : Value) (w : World) (hz : IsStrs w a len cap zs) (ht : t.size ≤ maxLen) (hf : ¬ FewStrs zs 8 100 ∨ (FewStrs zs 8 100 ∧ 500 < t.size)) :
    Calls Try.prog 4 #[.slice a len cap, .string t, .agg #[x, y]] w fun e w' => e = .returned (.bool true) ∧ Below w.heap.size w w' := by
  have haw := Lib.hid (lawake_any L)
  unfold maxLen at ht
  have ht2 : t.size ≤ 9223372036854775807 := ht
  rcases hf with hf | ⟨hf, hbig⟩
  · have HF := Lib.hid (fun w1 (hb : Below w.heap.size w w1) => lfew_no a len cap 8 100 zs w1 (strs_ok (n := 0) hz hb) (by decide) (by decide) hf)
    clear hz hf
    go_enter Try.func4, Try.ntmps4
    go_upto_region 2 with (first
      | (go_at_call 5; refine (haw.out _).mono ?_; rintro e w1 ⟨rfl, hb1⟩; have hb1 := Lib.hid (((Below.refl _ _).alloc (Nat.le_refl _) _).trans (hb1.mono (show w.heap.size ≤ _ by simp))))
      | (go_at_call 6; refine (HF.out _ hb1.out).mono ?_; rintro e w2 ⟨rfl, rfl⟩))
    go_wp2_with (go_at_call 5; refine (haw.out _).mono ?_; rintro e w3 ⟨rfl, hb3⟩)
    go_ret
    exact ⟨rfl, hb1.out.trans (hb3.mono hb1.out.size)⟩
  · have HF := Lib.hid (fun w1 (hb : Below w.heap.size w w1) => lfew_yes a len cap 8 100 zs w1 (strs_ok (n := 0) hz hb) (by decide) (by decide) hf)
    have hbz : (500 : Int) < (t.size : Int) := by omega
    clear hz hf hbig
    go_enter Try.func4, Try.ntmps4
    go_upto_region 2 with (first
      | (go_at_call 5; refine (haw.out _).mono ?_; rintro e w1 ⟨rfl, hb1⟩; have hb1 := Lib.hid (((Below.refl _ _).alloc (Nat.le_refl _) _).trans (hb1.mono (show w.heap.size ≤ _ by simp))))
      | (go_at_call 6; refine (HF.out _ hb1.out).mono ?_; rintro e w2 ⟨rfl, rfl⟩))
    go_wp2_with (go_at_call 5; refine (haw.out _).mono ?_; rintro e w3 ⟨rfl, hb3⟩)
    go_ret
    exact ⟨rfl, hb1.out.trans (hb3.mono hb1.out.size)⟩

theorem standsF_small : ∀ (k : Nat) (b r : List UInt8), r ∈ standsF k b → 1 ≤ r.length ∧ r.length ≤ 4000
  | 0, b, r, h => by cases h
  | k + 1, b, r, h => by
    rw [standsF] at h
    cases hn : nextR b with
    | none => rw [hn] at h; cases h
    | some r0 =>
      rw [hn] at h
      have h0 := nextR_some hn
      have h1 := nextR_len hn
      rcases List.mem_cons.1 h with rfl | h
      · omega
      · exact standsF_small k _ r h
/-- What is told of what stands, as the walk wants it. -/
theorem standsOut_strs {w w' : World} {l : List UInt8} {e : Ending} {ws : List (List UInt8)} (hws : ws = stands l) (h : StandsOut w l e w') :
    ∃ a c, e = .returned (.tuple #[.slice a ws.length c, .int .i64 (endOf ws : Int)]) ∧ IsStrs w' a ws.length c (ws.map fun x => ⟨x.toArray⟩) ∧ Below w.heap.size w w' := by
  obtain ⟨v, he, ho, hb⟩ := h
  rw [← hws] at he ho
  obtain ⟨a, c, rfl, hi⟩ := own_isStrs ho (fun s hs => Nat.le_trans (standsF_small _ _ s (by rw [hws] at hs; exact hs)).2 (by decide))
  exact ⟨a, c, he, hi, hb⟩
theorem bend_ok (l : List UInt8) (q y : Nat) (hq : q < l.length) (hy : y < 256) : ∃ u : UInt8, bits BinOp.xor IntKind.u8 ((l[q]'hq).toNat : Int) (y : Int) = (u.toNat : Int) :=
  ⟨UInt8.ofNat ((l[q]'hq).toNat ^^^ y), by
    have hx := UInt8.toNat_lt (l[q]'hq)
    have hl : (l[q]'hq).toNat ^^^ y < 256 := Nat.xor_lt_two_pow (n := 8) hx hy
    rw [u8_xor_nat _ _ hx hy, UInt8.toNat_ofNat', Nat.mod_eq_of_lt hl]⟩
theorem byteCells_set (l : List UInt8) (q : Nat) (u : UInt8) : (Lib.byteCells l).set q (.int .u8 (u.toNat : Int)) = Lib.byteCells (l.set q u) := by simp [Lib.byteCells, List.map_set]
theorem byteCells_snoc (l : List UInt8) (u : UInt8) : Lib.byteCells l ++ [.int .u8 (u.toNat : Int)] = Lib.byteCells (l ++ [u]) := by simp [Lib.byteCells]

/-- What the last region's slots hold. -/
def psiS (d x : Addr) (n E z k : Nat) (P1 Zs : ByteArray) (a9 a11 a5 : Option Addr) (c9 c11 c5 : Nat) (ZR : Array Value) : Nat → Value → World → Prop := fun t v w =>
  match t with
  | 9 => v = .slice a9 n c9 | 11 => v = .slice a5 k c5 | 12 => v = .int .i64 (E : Int) | 15 => v = .pointer (some d) | 17 => v = .pointer (some x) | 18 => v = .slice a11 k c11 | 19 => v = .int .i64 0
  | 124 => v = .int .i64 0 | 125 => v = .bool true | 126 => v = .bool true | 127 => v = .slice a11 k c11 | 128 => v = .slice a5 k c5 | 129 => v = .bool true | 130 => v = .bool true | 131 => v = .bool true
  | 132 => v = .pointer (some x) | 133 => v = .int .i64 (E : Int) | 134 => v = .int .i64 (E : Int) | 135 => v = .bool true | 136 => v = .bool true | 137 => v = .bool true
  | 138 => v = .pointer (some d) | 139 => v = .string (P1 ++ Zs) | 140 => v = .slice a9 n c9 | 141 => v = .int .i64 (E : Int) | 142 => v = .slice a9 E c9 | 143 => v = .string P1 | 144 => v = .slice a9 n c9 | 145 => v = .int .i64 (n : Int)
  | 146 => v = .int .i64 (E : Int) | 147 => v = .int .i64 (z : Int) | 148 => ∃ g, v = .slice (some ⟨g, 0, none⟩) z z ∧ w.heap[g]? = some (.cells ZR 5 (0, 0)) | 149 => v = .string Zs | 150 => v = .string (P1 ++ Zs)
  | 151 => v = .bool true | 152 => v = .bool true | 153 => v = .bool true | 154 => v = .pointer (some d) | 155 => v = .int .i64 0 | 156 => v = .bool true | 157 => v = .bool true | 6 => v = .bool true
  | _ => True
theorem psiS_stable (d x : Addr) (n E z k : Nat) (P1 Zs : ByteArray) (a9 a11 a5 : Option Addr) (c9 c11 c5 : Nat) (ZR : Array Value) : ∀ t v w w', psiS d x n E z k P1 Zs a9 a11 a5 c9 c11 c5 ZR t v w → Below w.heap.size w w' → psiS d x n E z k P1 Zs a9 a11 a5 c9 c11 c5 ZR t v w' := by
  intro t v w w' h hb
  by_cases ht : t = 148
  · subst ht
    obtain ⟨g, hv, hg⟩ := h
    exact ⟨g, hv, (hb.block g (Array.getElem?_eq_some_iff.1 hg).1).trans hg⟩
  · unfold psiS at h ⊢
    split at h <;> first | exact h | exact absurd rfl ht | trivial

/-- What the last region's calls answer. -/
theorem stands_facts {S : Dsk} {L : LogC S} {W7 w11 : World} {B7 : Nat} {d x : Addr} {D11 : DK} {l : List UInt8} {E N k : Nat} {far : Nat → Prop} {P1 Zs : ByteArray} {zs : List ByteArray} {a11 a5 : Option Addr} {c11 c5 : Nat}
    (hl11 : LSt S L W7 B7 d x D11 (l.take E) far w11) (hh11 : Holds D11 (l.take E)) (hn11 : D11.seen.length = N) (hc11 : Calm D11 0) (hN : N ≤ 22) (hE : (l.take E).length = E) (hE2 : E ≤ 300000)
    (hY : (⟨((l.take E) ++ List.replicate (64 * N - (l.take E).length) 0).toArray⟩ : ByteArray) = P1 ++ Zs) (hI11 : IsStrs w11 a11 k c11 zs) (hI5 : ∀ W, Below B7 W7 W → IsStrs W a5 k c5 zs) :
    Hid (∀ W, Below w11.heap.size w11 W → Calls Try.prog 13 #[.pointer (some d)] W fun e w' => e = .returned (.string (P1 ++ Zs)) ∧ Below W.heap.size W w') ∧
    Hid (∀ W, Below w11.heap.size w11 W → Calls Try.prog 14 #[.slice a11 k c11, .slice a5 k c5] W fun e w' => e = .returned (.bool true) ∧ ∃ n, w' = W.drewN n) ∧
    Hid (∀ W, Below w11.heap.size w11 W → Calls Try.prog 10 #[.pointer (some x)] W fun e w' => e = .returned (.int .i64 (E : Int)) ∧ Below W.heap.size W w') ∧
    Hid (∀ W, Below w11.heap.size w11 W → Calls Try.prog 20 #[.pointer (some d)] W fun e w' => e = .returned (.int .i64 0) ∧ Below W.heap.size W w') := by
  refine ⟨Lib.hid fun W hb => ?_, Lib.hid fun W hb => ?_, Lib.hid fun W hb => ?_, Lib.hid fun W hb => ?_⟩
  · obtain ⟨O3, hd3⟩ := (hl11.stay hb).disk
    have := bytes_any hd3 hc11.fuse (by rw [hn11]; omega)
    rw [hh11.bytes, hn11, hY] at this
    exact this
  · exact same_yes a11 a5 k c11 c5 zs W (strs_ok (n := 0) hI11 hb) (hI5 W (hl11.below.trans (hb.mono hl11.size)))
  · have := (hl11.stay hb).endd (by rw [hE]; exact hE2)
    rw [hE] at this
    exact this
  · obtain ⟨O3, hd3⟩ := (hl11.stay hb).disk
    have := S.waits hd3
    rw [show D11.waits.length = 0 from Nat.le_zero.1 hc11.waits] at this
    exact this
/-- The operations of a region. -/
noncomputable def opsAt (id : Nat) : Code → Option (List Oper)
  | .region i ops _ => if i = id then some ops.toList else none
  | .seq a b => match opsAt id a with
    | some l => some l
    | none => opsAt id b
  | .cond _ a b => match opsAt id a with
    | some l => some l
    | none => opsAt id b
  | .block _ b => opsAt id b
  | .loop b => opsAt id b
  | _ => none
noncomputable def standsOps : List Oper := (opsAt 24 (Try.f4.body.getD .skip)).getD []
set_option maxHeartbeats 4000000 in
theorem stands_steps {w11 : World} {d xl : Addr} {n E z k : Nat} {P1 Zs : ByteArray} {a9 a11 a5 : Option Addr} {c9 c11 c5 : Nat} {ZR : Array Value}
    (HBy : Hid (∀ W, Below w11.heap.size w11 W → Calls Try.prog 13 #[.pointer (some d)] W fun e w' => e = .returned (.string (P1 ++ Zs)) ∧ Below W.heap.size W w'))
    (HSm : Hid (∀ W, Below w11.heap.size w11 W → Calls Try.prog 14 #[.slice a11 k c11, .slice a5 k c5] W fun e w' => e = .returned (.bool true) ∧ ∃ n, w' = W.drewN n))
    (HEn : Hid (∀ W, Below w11.heap.size w11 W → Calls Try.prog 10 #[.pointer (some xl)] W fun e w' => e = .returned (.int .i64 (E : Int)) ∧ Below W.heap.size W w'))
    (HWt : Hid (∀ W, Below w11.heap.size w11 W → Calls Try.prog 20 #[.pointer (some d)] W fun e w' => e = .returned (.int .i64 0) ∧ Below W.heap.size W w'))
    (HCW : Hid (∀ W, Below w11.heap.size w11 W → (convert 39 9 (.slice a9 E c9)).run Try.prog W = .ok (.string P1) W))
    (hform : (a9 = none ∧ E = 0 ∧ n = 0 ∧ c9 = 0) ∨ (∃ g9, a9 = some ⟨g9, 0, none⟩))
    (hmk0 : ∀ w : World, (Instr.makeSlice 39 (.int .i64 (z : Int)) (.int .i64 (z : Int))).run Try.prog w = .ok (.slice (some ⟨w.heap.size, 0, none⟩) z z) (w.alloc (.cells ZR 5)))
    (HCZ : Hid (∀ (w : World) (g : Nat), w.heap[g]? = some (.cells ZR 5 (0, 0)) → (convert 39 9 (.slice (some ⟨g, 0, none⟩) z z)).run Try.prog w = .ok (.string Zs) w))
    (hzr : IntKind.i64.wrap ((n : Int) - (E : Int)) = (z : Int)) (hXZ : ¬ 9223372036854775807 < P1.size + Zs.size) (hEz : (E : Int) ≤ (n : Int)) (hEc : (E : Int) ≤ (c9 : Int)) :
    AllSteps Try.prog w11 (psiS d xl n E z k P1 Zs a9 a11 a5 c9 c11 c5 ZR) standsOps := by
  repeat' (first | exact AllSteps.nil | refine AllSteps.cons ?_ ?_)
  all_goals
    first
    | (intro a' w' K Q hB hP hK
       obtain ⟨⟨gz, h, hz⟩, hP⟩ := hP
       have hcz := HCZ.out w' gz hz
       go_simp
       refine hK _ _ (Below.refl _ _) ?_
       intro d hd; cases hd; rfl)
    | (intro a' w' K Q hB hP hK
       repeat (obtain ⟨h, hP⟩ := hP; conv at h => whnf)
       have HB := Lib.hid hB
       have hce := HCW.out w' hB
       try go_simp
       first
        | (refine hK _ _ (Below.refl _ _) ?_; intro d hd; cases hd; first | rfl | exact h | trivial)
        | (refine hK _ _ ((Below.refl _ _).alloc (Nat.le_refl _) _) ?_; intro d hd; cases hd; exact ⟨_, rfl, heap_alloc_new _ _⟩)
        | (go_at_call 13; refine (HBy.out _ HB.out).mono ?_; rintro e w'' ⟨rfl, hb⟩; refine hK _ _ hb ?_; intro d hd; cases hd; rfl)
        | (go_at_call 14; refine (HSm.out _ HB.out).mono ?_; rintro e w'' ⟨rfl, m, rfl⟩; refine hK _ _ (below_drewL (Below.refl _ _) m) ?_; intro d hd; cases hd; rfl)
        | (go_at_call 10; refine (HEn.out _ HB.out).mono ?_; rintro e w'' ⟨rfl, hb⟩; refine hK _ _ hb ?_; intro d hd; cases hd; rfl)
        | (go_at_call 20; refine (HWt.out _ HB.out).mono ?_; rintro e w'' ⟨rfl, hb⟩; refine hK _ _ hb ?_; intro d hd; cases hd; rfl)
        | (rcases hform with ⟨e1, e2, e3, e4⟩ | ⟨g9, e1⟩ <;> first | (subst e1 e2 e4; go_simp; refine hK _ _ (Below.refl _ _) ?_; intro d hd; cases hd; rfl) | (subst e1; go_simp; refine hK _ _ (Below.refl _ _) ?_; intro d hd; cases hd; rfl))
        | (trace_state; fail))

set_option maxHeartbeats 8000000 in
theorem logStands_yes {S : Dsk} (L : LogC S) (a : Option Addr) (len cap : Nat) (zs : List ByteArray) (t : ByteArray) (x y : Nat) (hx : x < 256) (hy : y < 256) (w : World) (hz : IsStrs w a len cap zs) (hf : FewStrs zs 8 100) (ht : t.size ≤ 500) :
    Calls Try.prog 4 #[.slice a len cap, .string t, .agg #[.int .u8 (x : Int), .int .u8 (y : Int)]] w fun e w' => e = .returned (.bool true) ∧ Below w.heap.size w w' := by
  have haw := Lib.hid (lawake_any L)
  have hmk := Lib.hid make_any
  have hl8 : len ≤ 8 := by rw [← hz.1]; exact hf.2
  have HF := Lib.hid (fun w1 (hb : Below w.heap.size w w1) => lfew_yes a len cap 8 100 zs w1 (strs_ok (n := 0) hz hb) (by decide) (by decide) hf)
  have HZ := Lib.hid hz
  have HFS := Lib.hid hf
  have htz : ¬ (500 : Int) < (t.size : Int) := by omega
  clear hz hf
  go_enter Try.func4, Try.ntmps4
  go_upto_region 3 with (first
    | (go_at_call 5; refine (haw.out _).mono ?_; rintro e w1 ⟨rfl, hb1⟩; have hbx := Lib.hid (hb1.block w.heap.size (by simp)); have hb1 := Lib.hid (((Below.refl _ _).alloc (Nat.le_refl _) _).trans (hb1.mono (show w.heap.size ≤ _ by simp))))
    | (go_at_call 6; refine (HF.out _ hb1.out).mono ?_; rintro e w1 ⟨rfl, rfl⟩))
  have hbend := Lib.hid (hbx.out.trans (heap_alloc_last w _))
  obtain ⟨gp, hgp⟩ : ∃ gp, gp = w.heap.size := ⟨_, rfl⟩
  have hgpl := Lib.hid (Array.getElem?_eq_some_iff.1 hbend.out).1
  rw [← hgp] at hbend hgpl ⊢
  have H1 := Lib.hid (show Below w.heap.size w w1 from hb1.out)
  clear hbx hb1 hgp HF
  go_wp2_with fail
  go_loopg [7, 8] len (fun g s7 s8 wx => ∃ (i : Nat) (A : ByteArray), i + g = len ∧ s7 = .string A ∧ A.size ≤ 106 * i ∧ s8 = .int .i64 i ∧ Hid (Below w1.heap.size w1 wx))
  case atStart => exact ⟨0, ⟨#[]⟩, by omega, rfl, by decide, rfl, Lib.hid (Below.refl _ _)⟩
  case round =>
    obtain ⟨i, A, hig, rfl, hA, rfl, hb⟩ := hrel
    cases gk with
    | succ g =>
      have hil : i < len := by omega
      have hiz : (i : Int) < (len : Int) := by omega
      obtain ⟨b, off, rfl, hbl, hop⟩ := HZ.out.2.2.2 (by omega)
      have hci := hop i hil
      have hps := HFS.out.1 i (by rw [HZ.out.1]; exact hil) (by omega)
      obtain ⟨p, hp⟩ : ∃ p, p = zs.getD i ByteArray.empty := ⟨_, rfl⟩
      rw [← hp] at hci hps
      have c := (H1.out.trans (hb.out.mono H1.out.size)).cell (p := ⟨b, off + i, none⟩) hbl
      rw [hci] at c
      have HM := Lib.hid (made_any p (by omega))
      have hRs := recS_size p
      obtain ⟨R, hR⟩ : ∃ R, R = recS p := ⟨_, rfl⟩
      rw [← hR] at HM hRs
      have hAR : A.size + R.size ≤ 9223372036854775807 := by omega
      have hsz : A.size + R.size ≤ 106 * (i + 1) := by omega
      clear hci hop hp hR hRs
      go_wp2_with (go_at_call 12; refine (HM.out _).mono ?_; rintro e w2 ⟨rfl, hb2⟩; have hb2 := Lib.hid (hb.out.trans (hb2.mono hb.out.size)))
      go_roundg g
      case measure => omega
      case rel => exact ⟨i + 1, A ++ R, by omega, rfl, by rw [ByteArray.size_append]; exact hsz, by go_num, hb2⟩
    | zero =>
      obtain rfl : i = len := by omega
      have hAt : A.size + t.size ≤ 9223372036854775807 := by omega
      have hATs : (A ++ t).size ≤ 1348 := by rw [ByteArray.size_append]; omega
      have hB := Lib.hid hb.out.size
      clear HZ HFS
      go_upto_region 9 with (refine wpList_bytes_of rfl _ 9 39 5 rfl Try.underlying9 Try.underlying39 Try.underlying5 (A ++ t) rfl (by omega) w1.heap.size hb.out.size ?_; intro v2 w2 hown2 hb2; obtain ⟨av, cv, rfl⟩ := hown2.form; have hown2 := Lib.hid hown2; have hb2 := Lib.hid (hb.out.trans (hb2.mono hb.out.size)))
      obtain ⟨l, hl⟩ : ∃ l, l = (A ++ t).data.toList := ⟨_, rfl⟩
      obtain ⟨m, hm⟩ : ∃ m, m = l.length := ⟨_, rfl⟩
      have hlen : m = A.size + t.size := by rw [hm, hl, ← Lib.size_eq, ByteArray.size_append]
      have hm13 : m ≤ 1348 := by rw [hlen, ← ByteArray.size_append]; exact hATs
      have HO := Lib.hid (show OwnsM w2 w1.heap.size 5 (.slice av m cv) m (Lib.byteCells l) by have := hown2.out; rw [ByteArray.size_append, ← hlen] at this; rw [hl]; exact this)
      obtain ⟨B, hBe⟩ : ∃ B, B = w1.heap.size := ⟨_, rfl⟩
      rw [← hBe] at HO hb2 hgpl
      have hwB := Lib.hid (show w.heap.size ≤ B by rw [hBe]; exact H1.out.size)
      have hbB := Lib.hid (show B ≤ w1.heap.size by rw [hBe]; exact Nat.le_refl _)
      have hB2 := Lib.hid (show B ≤ w2.heap.size by rw [hBe]; exact hb2.out.size)
      rw [← hlen]
      have HM := Lib.hid hm
      clear hl hlen hATs hAt hown2 hA hB hBe hb hm
      go_upto_if 52 with fail
      go_cut [] (fun wc => Hid (∃ l' : List UInt8, l'.length = m ∧ OwnsM wc B 5 (.slice av m cv) m (Lib.byteCells l')) ∧ Hid (Below B w1 wc))
      case first =>
        by_cases h0 : m = 0
        · subst h0
          go_wp2_with fail
          go_meet
          case rel => exact ⟨Lib.hid ⟨l, HM.out.symm, HO.out⟩, hb2⟩
        · have hz : (0 : Int) < (m : Int) := by omega
          have hzn : 0 < m := by omega
          have hz2 : ((m : Int) == 0) = false := by rw [beq_eq_false_iff_ne]; omega
          obtain ⟨g9, c9, e9, hg9, hg9l, hnc⟩ := HO.out.slice (by omega)
          injection e9 with e1 e2 e3
          subst e1 e3
          obtain ⟨q, hq⟩ : ∃ q, q = x % m := ⟨_, rfl⟩
          have hql : q < m := by rw [hq]; exact Nat.mod_lt _ (by omega)
          have hqL : q < l.length := by rw [← HM.out]; exact hql
          have hqz : (x : Int) % (m : Int) = (q : Int) := by rw [hq]; rfl
          have hqt : (x : Int).tmod (m : Int) = (q : Int) := by rw [hq]; rfl
          have hqi : (q : Int) < (m : Int) := by omega
          have hq0 : (0 : Int) ≤ (q : Int) := by omega
          have hwx : IntKind.i64.wrap (x : Int) = (x : Int) := IntWalk.i64_in _ (by omega)
          have hwq : IntKind.i64.wrap (q : Int) = (q : Int) := IntWalk.i64_in _ (by omega)
          obtain ⟨u, hu⟩ := bend_ok l q y hqL hy
          have hcq := HO.out.cellAt hql
          rw [show (Lib.byteCells l)[q]? = some (.int .u8 ((l[q]'hqL).toNat : Int)) by simp [Lib.byteCells, List.getElem?_eq_getElem hqL]] at hcq
          have hfq := HO.out.frozenAt hql
          have hbw := (hb2.out.block gp hgpl.out).trans hbend.out
          have hc0 : w2.cell? ⟨gp, 0, none⟩ = some (.int .u8 (x : Int)) := by rw [cell_of_row _ _ _ _ _ _ hbw]; rfl
          have hc1 : w2.cell? ⟨gp, 1, none⟩ = some (.int .u8 (y : Int)) := by rw [cell_of_row _ _ _ _ _ _ hbw]; rfl
          have HU := Lib.hid (show OwnsM (w2.drew.setCell ⟨g9, q, none⟩ (.int .u8 (u.toNat : Int))) B 5 (.slice (some ⟨g9, 0, none⟩) m cv) m (Lib.byteCells (l.set q u)) by
            have := (HO.out.below (w' := w2.drew) (Below.refl _ _).drew).stored q (.int .u8 (u.toNat : Int)); rwa [byteCells_set] at this)
          have HX := Lib.hid (show Below B w1 (w2.drew.setCell ⟨g9, q, none⟩ (.int .u8 (u.toNat : Int))) from (hb2.out.drew).setCell hg9 _)
          obtain ⟨k, hk⟩ : ∃ k, k = (l[q]'hqL).toNat := ⟨_, rfl⟩
          rw [← hk] at hcq hu
          clear hk hq hbw
          go_upto_region 10 with fail
          go_still_tail 13, (by kernel_rfl)
          change wpList _ _ _ _ _ w2.drew
          go_wp2_with fail
          go_meet
          case rel => exact ⟨Lib.hid ⟨l.set q u, by rw [List.length_set]; exact HM.out.symm, HU.out⟩, HX⟩
      case rest =>
        obtain ⟨HL, hbc⟩ := hcut
        obtain ⟨l1, hl1, ho1⟩ := HL.out
        have HO1 := Lib.hid ho1
        have HL1 := Lib.hid hl1
        obtain ⟨i0, hi, hz0, hz1, hz2⟩ := info_parts u8info
        clear HO HL hl1 ho1 hb2 hB2 HM hgpl hbend
        go_wp2_with fail
        go_loopg [9] ((64 - m % 64) % 64) (fun g s9 wx => ∃ (l : List UInt8) (n : Nat) (a9 : Option Addr) (c9 : Nat), s9 = .slice a9 n c9 ∧ (n + g) % 64 = 0 ∧ g < 64 ∧ n + g ≤ 1411 ∧ Hid (l.length = n) ∧ Hid (OwnsM wx B 5 (.slice a9 n c9) n (Lib.byteCells l)) ∧ Hid (Below B w1 wx))
        case atStart => exact ⟨l1, m, av, cv, rfl, by omega, by omega, by omega, HL1, HO1, hbc⟩
        case round =>
          obtain ⟨l, n, a9, c9, rfl, hmod, hg64, hnle, HLn, HOn, hbn⟩ := hrel
          cases gk with
          | succ g =>
            have h1 : ((n : Int) % 64 == 0) = false := by rw [beq_eq_false_iff_ne]; omega
            have h2 : ((n : Int) % 64 != 0) = true := by rw [bne_iff_ne]; omega
            have hBn := Lib.hid (show B ≤ wr.heap.size by
              rcases HOn.out.2 with ⟨e, h0⟩ | ⟨g', _, _, _, _, hb', hg', _⟩
              · exact Nat.le_trans (by first | exact hbB.out) hbn.out.size
              · exact Nat.le_trans hb' (Nat.le_of_lt (Array.getElem?_eq_some_iff.1 hg').1))
            go_wp2_with (at_builtin; refine wpList_append_sliceM rfl _ _ 39 rfl B 5 i0 (.int .u8 0) 1 Try.underlying39 hi hz0 hz1 hz2 rfl (.slice a9 n c9) n (Lib.byteCells l) rfl (HOn.out.below ((Below.refl _ _).alloc (Nat.le_refl _) _)) ⟨wr.heap.size, 0, none⟩ 1 1 [.int .u8 0] rfl rfl (cell_one_new wr (.int .u8 0) 5) (by simp [Value.oneCell']) (by unfold maxLen; omega) (by omega) (Nat.le_trans hBn.out (by simp)) ?_; intro v2 w2 hown2 hg2 hn2; obtain ⟨av2, cv2, rfl⟩ := hown2.form; have hown2 := Lib.hid hown2; have hb2 := Lib.hid (show Below B w1 w2 from (hbn.out.alloc hBn.out _).grown hg2 (Nat.le_trans hBn.out (by simp)) (fun k hk => (HOn.out.lt k hk).1)))
            go_roundg g
            case measure => omega
            case rel => exact ⟨l ++ [0], n + 1, av2, cv2, rfl, by omega, by omega, by omega, Lib.hid (by rw [List.length_append, HLn.out]; rfl), Lib.hid (by have := hown2.out; rwa [show ([Value.int IntKind.u8 0] : List Value) = [.int .u8 (((0 : UInt8).toNat : Nat) : Int)] from rfl, byteCells_snoc] at this), hb2⟩
          | zero =>
            have h1 : ((n : Int) % 64 == 0) = true := by rw [beq_iff_eq]; omega
            have h2 : ((n : Int) % 64 != 0) = false := by rw [bne_eq_false_iff_eq]; omega
            obtain ⟨N, hN⟩ : ∃ N, N = n / 64 := ⟨_, rfl⟩
            have hN64 : n = 64 * N := by omega
            have hN22 : N ≤ 22 := by omega
            have hNz : (n : Int) / 64 = (N : Int) := by omega
            have hzt := (zero_of_info (P := Try.prog) tableInfo).1
            obtain ⟨T, hT⟩ : ∃ T : ByteArray, T = ⟨l.toArray⟩ := ⟨_, rfl⟩
            have hTl : T.data.toList = l := by rw [hT]
            obtain ⟨ws, hws⟩ : ∃ ws, ws = stands l := ⟨_, rfl⟩
            have HSt := Lib.hid (fun W => (refStands_any T (by rw [Lib.size_eq, hTl, HLn.out]; omega) W).mono fun e w' h => standsOut_strs (ws := ws) (l := T.data.toList) (by rw [hTl]; exact hws) h)
            have HLo := Lib.hid (fun W => (L.told T W (by rw [Lib.size_eq, hTl, HLn.out]; omega)).mono fun e w' h => standsOut_strs (ws := ws) (l := T.data.toList) (by rw [hTl]; exact hws) h)
            obtain ⟨k, hk⟩ : ∃ k, k = ws.length := ⟨_, rfl⟩
            obtain ⟨E, hE⟩ : ∃ E, E = endOf ws := ⟨_, rfl⟩
            rw [← hk, ← hE] at HSt HLo
            have hEn := Lib.hid (show E ≤ n by rw [hE, hws, ← HLn.out]; exact endOf_stands l)
            have hEi : (E : Int) ≤ 1411 := by have := hEn.out; omega
            have HCV := Lib.hid (fun W (hb : Below wr.heap.size wr W) => convert_rowM (HOn.out.below hb))
            rw [← hT] at HCV
            have HT := Lib.hid hT
            have HK := Lib.hid hk
            have HE := Lib.hid hE
            have HWS := Lib.hid hws
            have HBn := Lib.hid (show B ≤ wr.heap.size from Nat.le_trans hbB.out hbn.out.size)
            have HN64 := Lib.hid hN64
            clear hT hTl hk hE hws hN hN64
            go_upto_region 18 with (first
              | (go_at_call 8; refine (hmk.out _).mono ?_; rintro e w3 ⟨rfl, hb3⟩; have hrow3 := Lib.hid (heap_alloc_last w3 (.cells tab 29)); have hb4 := Lib.hid (show Below wr.heap.size wr (w3.alloc (.cells tab 29)) from hb3.alloc hb3.size _); have hcv4 := HCV.out _ hb4.out)
              | (refine wpList_store_row rfl 29 _ _ rfl w3.heap.size tab rfl rfl 29 (Array.replicate 256 (.int .u32 0)) (heap_alloc_last w3 _) tableSize zeroTable_size tab_one ?_; rw [World.setRow_alloc_new]; dsimp only [Act.put])
              | (go_at_call 16; refine (HSt.out _).mono ?_; rintro e w5 ⟨a5, c5, rfl, hI5, hb5⟩; have hI5 := Lib.hid hI5; have hrow5 := Lib.hid ((hb5.block w3.heap.size (by simp)).trans hrow3.out); have hb5 := Lib.hid (hb4.out.trans (hb5.mono hb4.out.size)); have hcv5 := HCV.out _ hb5.out)
              | (refine wpList_load_row rfl 29 _ rfl w3.heap.size rfl 29 tab (0, 0) _ hrow5.out Try.underlying29 rfl tableSize ?_; dsimp only [Act.put])
              | (go_at_call 17; refine (HLo.out _).mono ?_; rintro e w6 ⟨a6, c6, rfl, hI6, hb6⟩; have hI6 := Lib.hid hI6; have hI56 := Lib.hid (strs_ok (n := 0) hI5.out hb6); have hrow6 := Lib.hid ((hb6.block w3.heap.size (Array.getElem?_eq_some_iff.1 hrow5.out).1).trans hrow5.out); have hb6 := Lib.hid (hb5.out.trans (hb6.mono hb5.out.size)))
              | (go_at_call 14; refine (same_yes a6 a5 k c6 c5 _ w6 hI6.out hI56.out).mono ?_; rintro e w7 ⟨rfl, j7, rfl⟩; have hb7 := Lib.hid (below_drewL hb6.out j7); have hI57 := Lib.hid (strs_ok (n := 0) hI56.out (below_drewL (Below.refl _ _) j7)); have hrow7 := Lib.hid (show (w6.drewN j7).heap[w3.heap.size]? = some (.cells tab 29 (0, 0)) from hrow6.out)))
            obtain ⟨W7, hW7⟩ : ∃ W7, W7 = w6.drewN j7 := ⟨_, rfl⟩
            rw [← hW7] at hb7 hI57 hrow7 ⊢
            obtain ⟨g0, hg0⟩ : ∃ g0, g0 = w3.heap.size := ⟨_, rfl⟩
            rw [← hg0] at hrow7 ⊢
            have hNew := Lib.hid (show Calls Try.prog 7 #[.int .i64 (N : Int)] W7 fun e w' => ∃ r, e = .returned (.pointer (some r)) ∧ St S W7 W7.heap.size r (DK.new N) w' by
              have := st_new S (N : Int) W7 (by omega) (by omega)
              rwa [show clampD (N : Int) = N by unfold clampD; rw [if_neg (by omega), if_neg (by omega)]; omega] at this)
            have HO7 := Lib.hid (HOn.out.below hb7.out)
            have hBW := Lib.hid (show Below w.heap.size w W7 from (H1.out.trans (hbn.out.mono hwB.out)).trans (hb7.out.mono (Nat.le_trans hwB.out HBn.out)))
            clear hW7 hg0 hcv4 hcv5 hrow3 hb4 hI5 hI6 hI56 hrow5 hrow6 hb5 hb6 HSt HLo HCV
            go_upto_region 19 with (go_at_call 7; refine hNew.out.mono ?_; rintro e w8 ⟨d, rfl, hst⟩; have hst := Lib.hid hst)
            obtain ⟨B7, hB7⟩ : ∃ B7, B7 = W7.heap.size := ⟨_, rfl⟩
            have hgl := Lib.hid (show g0 < B7 by rw [hB7]; exact (Array.getElem?_eq_some_iff.1 hrow7.out).1)
            have h7w := Lib.hid (show w.heap.size ≤ B7 by rw [hB7]; exact hBW.out.size)
            have HI7 := Lib.hid (fun W (hb : Below B7 W7 W) => strs_ok (n := 0) hI57.out (show Below W7.heap.size W7 W by rw [← hB7]; exact hb))
            have HO8 := Lib.hid (fun W (hb : Below B7 W7 W) => HO7.out.below (w' := W) (show Below W7.heap.size W7 W by rw [← hB7]; exact hb))
            rw [← hB7] at hst
            clear hB7 hNew HO7 hI57
            go_wp2_with fail
            go_loopg [16] N (fun g s16 wx => ∃ (i : Nat) (D : DK), i + g = N ∧ s16 = .int .i64 i ∧ Hid (St S W7 B7 d D wx) ∧ Hid (D.fuse = -1) ∧ Hid (D.waits.length = i) ∧ Hid (D.seen.length = N) ∧ Hid ((D.seen.take i).flatten = l.take (64 * i)))
            case atStart => exact ⟨0, DK.new N, by omega, rfl, hst, Lib.hid rfl, Lib.hid rfl, Lib.hid (new_len N), Lib.hid rfl⟩
            case round =>
              obtain ⟨i, D, hig, rfl, hsx, hfu, hwt, hsl, hfl⟩ := hrel
              have hSec := Lib.hid (by have := hsx.out.sectors; rw [hsl.out] at this; exact this)
              cases gk with
              | succ g =>
                have hiN : i < N := by omega
                have hiz : (i : Int) < (N : Int) := by omega
                obtain ⟨g9, cc9, e9, _, hg9l, hnc⟩ := HOn.out.slice (by have := HN64.out; omega)
                injection e9 with e1 e2 e3
                subst e1 e3
                have hn64 := HN64.out
                have hk1 : IntKind.i64.wrap (64 * (i : Int)) = 64 * (i : Int) := IntWalk.i64_in _ (by omega)
                have hk2 : IntKind.i64.wrap (64 * (i : Int) + 64) = 64 * (i : Int) + 64 := IntWalk.i64_in _ (by omega)
                have hk3 : (64 * (i : Int)).toNat = 64 * i := by omega
                have hk4 : (64 * (i : Int) + 64).toNat = 64 * i + 64 := by omega
                have hk5 : (0 : Int) ≤ 64 * (i : Int) := by omega
                have hk6 : 64 * (i : Int) ≤ 64 * (i : Int) + 64 := by omega
                have hk7 : 64 * (i : Int) + 64 ≤ (c9 : Int) := by omega
                have hk8 : ¬ c9 = 64 * i := by omega
                have hk9 : 64 * i + 64 - 64 * i = 64 := by omega
                obtain ⟨bs, hbs⟩ : ∃ bs, bs = (l.drop (64 * i)).take 64 := ⟨_, rfl⟩
                have hbl : bs.length = 64 := by rw [hbs, List.length_take, List.length_drop, HLn.out]; omega
                have HCi := Lib.hid (fun W (hb : Below B7 W7 W) => convert_midM (HO8.out W hb) (64 * i) 64 (c9 - 64 * i) (by omega))
                rw [← hbs] at HCi
                have HBS := Lib.hid hbs
                have HBL := Lib.hid hbl
                have hc0 := HCi.out wr hsx.out.below
                clear hn64 hbs hbl hnc
                go_wp2_with (first
                  | (go_at_call 18; refine hSec.out.mono ?_; rintro e w9 ⟨rfl, hs9⟩; have hs9 := Lib.hid hs9; have hc9 := HCi.out w9 hs9.out.below)
                  | (go_at_call 19; refine (hs9.out.write i ⟨bs.toArray⟩ (by rw [hfu.out]; decide) (by rw [hsl.out]; exact hiN) (by show bs.toArray.size = 64; rw [List.size_toArray]; exact HBL.out) (by rw [hwt.out]; omega)).mono ?_; rintro e w10 ⟨rfl, hs10⟩; have hs10 := Lib.hid hs10))
                go_roundg g
                case measure => omega
                case rel =>
                  refine ⟨i + 1, D.wrote i bs, by omega, by go_num, hs10, Lib.hid (by show (if 0 < D.fuse then D.fuse - 1 else D.fuse) = -1; rw [hfu.out]; rfl), Lib.hid (by show (D.waits ++ [_]).length = _; rw [List.length_append, hwt.out]; rfl), Lib.hid (by show (D.seen.set i bs).length = N; rw [List.length_set]; exact hsl.out), Lib.hid ?_⟩
                  show ((D.seen.set i bs).take (i + 1)).flatten = _
                  have hi2 : i < D.seen.length := by rw [hsl.out]; exact hiN
                  rw [List.take_succ_eq_append_getElem (by rw [List.length_set]; exact hi2), List.take_set_of_le (Nat.le_refl _), List.getElem_set_self, List.flatten_append, hfl.out, HBS.out, Nat.mul_succ, List.take_add]
                  simp
              | zero =>
                obtain rfl : i = N := by omega
                have hflat : D.seen.flatten = l := by
                  have := hfl.out
                  rw [List.take_of_length_le (Nat.le_of_eq hsl.out), ← HN64.out, List.take_of_length_le (Nat.le_of_eq HLn.out)] at this
                  exact this
                have hop := fun W (h : St S W7 B7 d D W) => lst_open L (DSt.of_st h) ⟨hfu.out, by rw [hwt.out]; omega⟩ (by rw [hsl.out]; omega)
                rw [hflat, ← HWS.out, ← HE.out, hsl.out] at hop
                have HOp := Lib.hid hop
                have hEn := hEn.out
                obtain ⟨P1, hP1⟩ : ∃ P1 : ByteArray, P1 = ⟨(l.take E).toArray⟩ := ⟨_, rfl⟩
                obtain ⟨z, hz⟩ : ∃ z, z = n - E := ⟨_, rfl⟩
                have hzr : IntKind.i64.wrap ((n : Int) - (E : Int)) = (z : Int) := by rw [IntWalk.i64_in _ (by omega)]; omega
                have hz3 : z ≤ 300000 := by omega
                obtain ⟨ZR, hZR⟩ : ∃ ZR, ZR = (Lib.byteCells (List.replicate z 0)).toArray := ⟨_, rfl⟩
                obtain ⟨Zs, hZs⟩ : ∃ Zs : ByteArray, Zs = ⟨(List.replicate z (0 : UInt8)).toArray⟩ := ⟨_, rfl⟩
                have hmk0 := fun w => lmk_zero (z : Int) (by omega) (by omega) w
                have hcv0 := fun (w : World) (g : Nat) h => lconvert_zero z hz3 w g h
                simp only [Int.toNat_natCast] at hmk0
                rw [← hZR] at hmk0
                rw [← hZR, ← hZs] at hcv0
                have HCZ := Lib.hid hcv0
                have hZsz : Zs.size = z := by rw [hZs]; show (List.replicate z (0 : UInt8)).toArray.size = _; simp
                have hPsz : P1.size = E := by rw [hP1]; show (l.take E).toArray.size = E; rw [List.size_toArray, List.length_take, HLn.out]; omega
                have hXZ : ¬ 9223372036854775807 < P1.size + Zs.size := by omega
                have hlE : (l.take E).length = E := by rw [List.length_take, HLn.out]; omega
                have HY := Lib.hid (show (⟨((l.take E) ++ List.replicate (64 * i - (l.take E).length) 0).toArray⟩ : ByteArray) = P1 ++ Zs by rw [hlE, ← HN64.out, ← hz, hP1, hZs, ba_append_list])
                have HLE := Lib.hid hlE
                have hEz : (E : Int) ≤ (n : Int) := by omega
                have hEc : (E : Int) ≤ (c9 : Int) := by
                  rcases HOn.out.2 with ⟨e, h0⟩ | ⟨g', c', _, _, e, _, _, _, hnc, _⟩
                  · omega
                  · injection e with _ _ e3; omega
                have HP1 := Lib.hid hP1
                clear hP1 hz hZR hZs hZsz hPsz hlE hcv0 hop hflat hfl
                go_upto_region 24 with (first
                  | (go_at_call 18; refine hSec.out.mono ?_; rintro e w9 ⟨rfl, hs9⟩; have hs9 := Lib.hid hs9; have hrow := Lib.hid ((hs9.out.below.block g0 hgl.out).trans hrow7.out))
                  | (refine wpList_load_row rfl 29 _ rfl g0 rfl 29 tab (0, 0) _ hrow.out Try.underlying29 rfl tableSize ?_; dsimp only [Act.put])
                  | (go_at_call 9; refine (HOp.out w9 hs9.out).mono ?_; rintro e w11 ⟨xl, v11, rfl, hv11, ⟨D11, hl11, hh11, hn11, hc11⟩, _⟩; obtain ⟨a11, c11, rfl, hI11⟩ := own_isStrs hv11 (fun s hs => Nat.le_trans (standsF_small _ _ s (by rw [HWS.out] at hs; exact hs)).2 (by decide)); have hI11 := Lib.hid hI11; have hl11 := Lib.hid hl11; have hh11 := Lib.hid hh11; have hn11 := Lib.hid hn11; have hc11 := Lib.hid hc11))
                rw [← HK.out]
                have HCE := Lib.hid (show ∀ W, Below B7 W7 W → (convert 39 9 (.slice a9 E c9)).run Try.prog W = .ok (.string P1) W from fun W hb => by
                  have h := HO8.out W hb
                  rw [HP1.out]
                  rcases h.2 with ⟨e, h0⟩ | ⟨g', c', _, _, e, _⟩
                  · injection e with e1 e2 e3
                    subst e1 e3
                    have hE0 : E = 0 := by omega
                    subst hE0
                    simp [convert, Conv.bytesToString]
                    rfl
                  · injection e with e1 e2 e3
                    subst e1 e3
                    have := convert_midM h 0 E c9 (by omega)
                    rwa [List.drop_zero] at this)
                have hform : (a9 = none ∧ E = 0 ∧ n = 0 ∧ c9 = 0) ∨ (∃ g9, a9 = some ⟨g9, 0, none⟩) := by
                  rcases HOn.out.2 with ⟨e, h0⟩ | ⟨g', c', _, _, e, _⟩
                  · injection e with e1 e2 e3
                    exact .inl ⟨e1, by omega, h0, e3⟩
                  · injection e with e1 e2 e3
                    exact .inr ⟨g', e1⟩
                have hI11k := hI11.out
                rw [← HK.out] at hI11k
                obtain ⟨HBy, HSm, HEn, HWt⟩ := stands_facts hl11.out hh11.out hn11.out hc11.out hN22 HLE.out (by omega) HY.out hI11k HI7.out
                have HCW := Lib.hid (fun W (hb : Below w11.heap.size w11 W) => HCE.out W (hl11.out.below.trans (hb.mono hl11.out.size)))
                have H3 := Lib.hid (show Below w.heap.size w w11 from hBW.out.trans (hl11.out.below.mono h7w.out))
                refine wp_region_flowG [9, 11, 12, 15, 17, 18, 19] [6] [(126, true), (131, true), (137, true), (153, true)] (psiS d xl n E z k P1 Zs a9 a11 a5 c9 c11 c5 ZR) 158 (by kernel_rfl) (by kernel_rfl) rfl (by kernel_rfl) (by kernel_rfl) (by kernel_rfl) ?_ (psiS_stable _ _ _ _ _ _ _ _ _ _ _ _ _ _ _) ?_ ?_ ?_
                · intro x hx v w hv
                  simp only [List.mem_cons, List.not_mem_nil, or_false] at hx
                  rcases hx with rfl | rfl | rfl | rfl <;> exact hv
                · intro t ht w' _
                  simp only [List.mem_cons, List.not_mem_nil, or_false] at ht
                  rcases ht with rfl | rfl | rfl | rfl | rfl | rfl | rfl <;> rfl
                · exact stands_steps HBy HSm HEn HWt HCW hform hmk0 HCZ hzr hXZ hEz hEc
                · intro a' w' hb hsz hdf hold hnew
                  have h6 : a'.tmps.getD 6 undef = .bool true := hnew 6 (by simp)
                  go_wp2_with fail
                  refine bodyPost_ret (results_tmp rfl _ _ _) hdf ?_
                  rw [h6]
                  exact ⟨rfl, H3.out.trans (hb.mono H3.out.size)⟩
end Go.Proofs.Ytlkifliaaaomeaa
