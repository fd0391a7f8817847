/-
  Joined: OpenVers, Class, MvcMath, MvcAt.
-/
import Derived.Test.YtdcefhhmddjodaaSet01
import Derived.Test.YtdcefhhmddjodaaRows
import Derived.OpenShut
import Derived.Deep.Slices
import Derived.Deep.Strs
import Derived.WalkKit
import Derived.Below
import Derived.BigQuiet
import Derived.Deep.QuietTactic
import Derived.Laws.Rows
import Derived.Deep.LoopGhost
import Derived.Deep.DeepCutAuto
import Derived.Deep.CutBlock
import Derived.Laws.ResultCell
import Derived.RegionTactic
namespace Go.Proofs.Ytdcefhhmddjodaa
open Go.RowKit Go.ChangeShapes Go.WideShapes Go.Deep
set_option linter.unnecessarySimpa false
set_option linter.unusedVariables false
set_option linter.unusedSimpArgs false
set_option maxRecDepth 100000

/-- Versions that a slice has. -/
def VersAt (W : World) (a : Option Addr) (len : Nat) (zs : List Vr) : Prop :=
  zs.length = len ∧ ∀ i, i < len → ∃ b off, a = some ⟨b, off, none⟩ ∧ b < W.heap.size ∧ (zs.getD i vr0).time < 18446744073709551616 ∧ (zs.getD i vr0).val.size ≤ maxLen ∧
    W.cell? ⟨b, off + i * 3, none⟩ = some (.int .u64 ((zs.getD i vr0).time : Int)) ∧ W.cell? ⟨b, off + i * 3 + 1, none⟩ = some (.bool (zs.getD i vr0).gone) ∧ W.cell? ⟨b, off + i * 3 + 2, none⟩ = some (.string (zs.getD i vr0).val)
def IsVers (W : World) (a : Option Addr) (len _cap : Nat) (zs : List Vr) : Prop := VersAt W a len zs ∧ len ≤ maxLen

theorem ver_cells : Try.prog.cellsOf 35 = 3 := by kernel_rfl
theorem v_str_cells : Try.prog.cellsOf 9 = 1 := by kernel_rfl
theorem v_u64_cells : Try.prog.cellsOf 33 = 1 := by kernel_rfl
theorem v_bool_cells : Try.prog.cellsOf 4 = 1 := by kernel_rfl

theorem v_cut3 {α : Type} {cs : List α} {x y z : α} (h0 : (cs.drop 0).take 1 = [x]) (h1 : (cs.drop 1).take 1 = [y]) (h2 : (cs.drop 2).take 1 = [z]) : cs[0]? = some x ∧ cs[1]? = some y ∧ cs[2]? = some z := by
  refine ⟨?_, ?_, ?_⟩
  · have := congrArg (·[0]?) h0; simpa using this
  · have := congrArg (·[0]?) h1; simpa using this
  · have := congrArg (·[0]?) h2; simpa using this

theorem open_IsVers {H : Type} {enc : TypeId × Value → H} {W : World} {a : Option Addr} {len cap : Nat} {d : DataW H} {p : List MemPlace}
    (h : DataW.Trod enc Try.prog W 0 (fun _ => true) true 71 (.slice a len cap) d p) : ∃ zs, IsVers W a len cap zs := by
  obtain ⟨fuel, hf⟩ := h
  rcases open_slice Try.underlying71 hf with ⟨hcs, _⟩ | ⟨a', len', cap', m, n, D, Pl, hcs, _, hl, hm, hmm, _, hi⟩
  · simp [Value.cells] at hcs
    obtain ⟨rfl, rfl, rfl⟩ := hcs
    exact ⟨[], ⟨rfl, fun i hi => by omega⟩, Nat.zero_le _⟩
  · simp [Value.cells] at hcs
    obtain ⟨rfl, rfl, rfl⟩ := hcs
    simp only [if_true] at hmm
    have key : ∀ i, ∃ z : Vr, i < len → ∃ b off, some a' = some ⟨b, off, none⟩ ∧ b < W.heap.size ∧ z.time < 18446744073709551616 ∧ z.val.size ≤ maxLen ∧ W.cell? ⟨b, off + i * 3, none⟩ = some (.int .u64 (z.time : Int)) ∧
        W.cell? ⟨b, off + i * 3 + 1, none⟩ = some (.bool z.gone) ∧ W.cell? ⟨b, off + i * 3 + 2, none⟩ = some (.string z.val) := by
      intro i
      by_cases hil : i < len
      · obtain ⟨cs', hc, ht⟩ := hi i (by omega)
        rw [ver_cells] at hc
        obtain ⟨_, hcl, hat⟩ := World.cells?_some hc
        obtain ⟨y0, y1, y2, n', _, _, g0, g1, g2⟩ := trod_struct3 Try.underlying35 ht
        simp only [v_str_cells, v_u64_cells, v_bool_cells] at g0 g1 g2
        obtain ⟨k1, e0, _, wk1⟩ := DataW.trod_int Try.underlying33 g0
        obtain ⟨k2, e1, _⟩ := DataW.trod_bool Try.underlying4 g1
        obtain ⟨s, e2, _, hsz⟩ := DataW.trod_string Try.underlying9 g2
        obtain ⟨x0, x1, x2⟩ := v_cut3 e0 e1 e2
        have b1 := bounds_u64 wk1
        obtain ⟨d1, rfl⟩ := Int.eq_ofNat_of_zero_le b1.1
        have q0 := (hat 0 (by omega)).trans x0
        have q1 := (hat 1 (by omega)).trans x1
        have q2 := (hat 2 (by omega)).trans x2
        obtain ⟨b, off, spot⟩ := a'
        obtain ⟨cs0, hc0, _⟩ := hi 0 (by omega)
        rw [ver_cells] at hc0
        obtain ⟨_, hcl0, hat0⟩ := World.cells?_some hc0
        have q00 := hat0 0 (by omega)
        rw [List.getElem?_eq_getElem (show 0 < cs0.length by omega)] at q00
        have hspot : spot = none := by simpa [Addr.add] using World.cell?_spot q00
        subst hspot
        simp only [Addr.add_lit, Nat.add_zero] at q0 q1 q2
        exact ⟨⟨d1, k2, s⟩, fun _ => ⟨b, off, rfl, World.block_lt_of_cell? W _ q0, by simp only; omega, by simp only; exact hsz, q0, q1, q2⟩⟩
      · exact ⟨vr0, fun h => absurd h hil⟩
    obtain ⟨f, hfz⟩ := Classical.skolem.1 key
    refine ⟨(List.range len).map f, ⟨by simp, fun i hil => ?_⟩, by omega⟩
    have e : ((List.range len).map f).getD i vr0 = f i := by simp [List.getD, hil]
    rw [e]
    exact hfz i hil
end Go.Proofs.Ytdcefhhmddjodaa

namespace Go.Proofs.Ytdcefhhmddjodaa
open Go.RowKit
set_option linter.unnecessarySimpa false
set_option linter.unusedVariables false
set_option linter.unusedSimpArgs false
set_option maxRecDepth 100000

/-- A world that is as w was, below B. -/
structure Like (B : Nat) (w : World) where
  val : World
  below : Below B w val
instance likeInhabited (B : Nat) (w : World) : Inhabited (Like B w) := ⟨⟨w, Below.refl B w⟩⟩
/-- The class. -/
def Likes (B : Nat) (w : World) : World → Prop := fun w' => ∃ x : Like B w, w' = x.val
theorem Likes.of {B : Nat} {w w' : World} (h : Below B w w') : Likes B w w' := ⟨⟨w', h⟩, rfl⟩

/-- A region that draws its order, at the class. -/
theorem region_likes {P : Program} {id : Nat} {Q : Exit → Act → World → Prop} {a : Act} {w : World} {l : List Oper} (hm : P.follows .mixedOrders = true) (hB : Region.lexB .any l.toArray = true)
    (h : wpQuiet P l.toArray (fun w' => ∃ x : Like w.heap.size w, w' = x.val) (fun a' => ∀ x : Like w.heap.size w, Q .normal a' x.val) l a) : (Code.region id l.toArray true).wp P Q a w :=
  wp_region_quiet (C := fun w' => ∃ x : Like w.heap.size w, w' = x.val) hm hB ⟨⟨w.drew, (Below.refl _ _).drew⟩, rfl⟩ (by
    have e : (fun a' => ∀ w', (∃ x : Like w.heap.size w, w' = x.val) → Q .normal a' w') = (fun a' => ∀ x : Like w.heap.size w, Q .normal a' x.val) := by
      funext a'; apply propext; exact ⟨fun h x => h _ ⟨x, rfl⟩, fun h _ ⟨x, hx⟩ => hx ▸ h x⟩
    rw [e]
    exact h)

/-- A callee's contract, met in a world of the class. -/
theorem calls_likes {P : Program} {f : FuncId} {args : Array Value} {B : Nat} {w : World} {x : Like B w} {v : Value} (hB : B ≤ x.val.heap.size)
    (h : Calls P f args x.val fun e w' => e = .returned v ∧ Below x.val.heap.size x.val w') : Calls P f args x.val fun e w'' => e = .returned v ∧ ∃ y : Like B w, w'' = y.val :=
  h.mono fun _ w' ⟨he, hb⟩ => ⟨he, ⟨w', x.below.trans (hb.mono hB)⟩, rfl⟩
/-- .. of a callee that leaves the world as it is. -/
theorem calls_likes_same {P : Program} {f : FuncId} {args : Array Value} {B : Nat} {w : World} {x : Like B w} {v : Value}
    (h : Calls P f args x.val fun e w' => e = .returned v ∧ w' = x.val) : Calls P f args x.val fun e w'' => e = .returned v ∧ ∃ y : Like B w, w'' = y.val :=
  h.mono fun _ _ ⟨he, hb⟩ => ⟨he, x, hb⟩

theorem Like.size {w : World} (x : Like w.heap.size w) : w.heap.size ≤ x.val.heap.size := x.below.size

/-- A whole array (or struct) is loaded: in every world of the class. -/
theorem quiet_row {P : Program} {o : Oper} {a : Act} {C : World → Prop} {K : Act → Prop} (ty : TypeId) (x : Operand) (ho : o.op = .load ty x)
    (g : Nat) (hx : a.eval x = .pointer (some ⟨g, 0, none⟩)) (t : TypeId) (cs : Array Value) (fr : Nat × Nat) (d : TypeDesc) (hg : ∀ w, C w → w.heap[g]? = some (.cells cs t fr))
    (hu : P.underlying ty = some d) (hd : (match d with | .struct _ | .array _ _ => true | _ => false) = true) (hi : (P.info? ty).map (·.size) = some cs.size)
    (h : K (a.put o.dst (.agg cs))) : o.quiet P a C K :=
  ⟨.agg cs, fun w hw => by
    unfold Oper.quietAt execOp
    simp only [ho, hx, Instr.loadAt, Instr.sureAddr, Sem.run_bind, Sem.run_pure, Result.andThen_ok, run_loadVar_row w g t ty cs fr d (hg w hw) hu hd hi, Oper.quietUpon, and_self], h⟩
/-- The row of a block below the bound stays. -/
theorem likes_row {w : World} {g : Nat} {o : Obj} (h : w.heap[g]? = some o) : ∀ w', (∃ x : Like w.heap.size w, w' = x.val) → w'.heap[g]? = some o := fun _ ⟨x, hx⟩ => by
  rw [hx, x.below.block g (Array.getElem?_eq_some_iff.1 h).1, h]
end Go.Proofs.Ytdcefhhmddjodaa

namespace Go.Proofs.Ytdcefhhmddjodaa
open Go.RowKit
set_option linter.unusedVariables false
set_option linter.unnecessarySimpa false
set_option linter.unusedSimpArgs false
set_option maxRecDepth 100000

/-- A version of a key. -/
structure Im where
  key : ByteArray
  v : Vr
def im0 : Im := ⟨⟨#[]⟩, vr0⟩
def ItmAt (W : World) (b off : Nat) (m : Im) : Prop :=
  b < W.heap.size ∧ m.key.size ≤ maxLen ∧ m.v.val.size ≤ maxLen ∧ m.v.time < 18446744073709551616 ∧ W.cell? ⟨b, off, none⟩ = some (.string m.key) ∧ W.cell? ⟨b, off + 1, none⟩ = some (.int .u64 (m.v.time : Int)) ∧
    W.cell? ⟨b, off + 1 + 1, none⟩ = some (.bool m.v.gone) ∧ W.cell? ⟨b, off + 1 + 2, none⟩ = some (.string m.v.val)
def IsItms (W : World) (a : Option Addr) (len _cap : Nat) (L : List Im) : Prop := L.length = len ∧ len ≤ maxLen ∧ ∀ i, i < len → ∃ b off, a = some ⟨b, off, none⟩ ∧ ItmAt W b (off + i * 4) (L.getD i im0)
theorem ItmAt.below {W W' : World} {b off : Nat} {m : Im} (h : ItmAt W b off m) (hb : Below W.heap.size W W') : ItmAt W' b off m := by
  obtain ⟨h1, h2, h3, h4, k0, k1, k2, k3⟩ := h
  exact ⟨Nat.lt_of_lt_of_le h1 hb.size, h2, h3, h4, (hb.cell (p := ⟨b, off, none⟩) h1).trans k0, (hb.cell (p := ⟨b, off + 1, none⟩) h1).trans k1, (hb.cell (p := ⟨b, off + 1 + 1, none⟩) h1).trans k2, (hb.cell (p := ⟨b, off + 1 + 2, none⟩) h1).trans k3⟩
theorem IsItms.below {W W' : World} {a : Option Addr} {len cap : Nat} {L : List Im} (h : IsItms W a len cap L) (hb : Below W.heap.size W W') : IsItms W' a len cap L :=
  ⟨h.1, h.2.1, fun i hi => by obtain ⟨b, off, ha, he⟩ := h.2.2 i hi; exact ⟨b, off, ha, he.below hb⟩⟩

def fewIm (m : Im) : Prop := m.key.size ≤ 300 ∧ m.v.val.size ≤ 700
def FewIms (L : List Im) (n : Nat) : Prop := (∀ i, i < L.length → i < 500 → fewIm (L.getD i im0)) ∧ L.length ≤ n
open Classical in
noncomputable def fewM (L : List Im) (n : Nat) : Bool := decide (FewIms L n)
theorem fewM_true {L : List Im} {n : Nat} : fewM L n = true ↔ FewIms L n := by unfold fewM; simp

set_option maxHeartbeats 2000000 in
theorem mfew_any (a : Option Addr) (len cap n : Nat) (L : List Im) (w : World) (hz : IsItms w a len cap L) (hn : n < 400) :
    Calls Try.prog 8 #[.slice a len cap, .int .i64 (n : Int)] w fun e w' => e = .returned (.bool (fewM L n)) ∧ w = w' := by
  have HZ := Lib.hid hz
  have hlm := hz.2.1
  unfold maxLen at hlm
  have hel := Lib.hid hz.1
  clear hz
  go_enter Try.func8, Try.ntmps8
  go_wp2_with fail
  go_loopg [5] (min len 500) (fun g s5 wx => ∃ i : Nat, i + g = min len 500 ∧ s5 = .int .i64 i ∧ w = wx ∧ Hid (∀ j, j < i → fewIm (L.getD j im0)))
  case atStart => exact ⟨0, by omega, rfl, rfl, Lib.hid (fun j hj => by omega)⟩
  case round =>
    obtain ⟨i, hig, rfl, rfl, HA⟩ := hrel
    cases gk with
    | zero =>
      have hfin : Hid (fewM L n = decide (len ≤ n)) := Lib.hid (by
        have h1 : ∀ j, j < L.length → j < 500 → fewIm (L.getD j im0) := fun j hj h => HA.out j (by rw [hel.out] at hj; omega)
        by_cases h : len ≤ n
        · rw [fewM_true.2 ⟨h1, by rw [hel.out]; exact h⟩]; simp [h]
        · have : ¬ FewIms L n := fun h2 => h (by rw [← hel.out]; exact h2.2)
          rw [show fewM L n = false by rw [← Bool.not_eq_true, fewM_true]; exact this]; simp [h])
      have hcs : (i = len) ∨ (i < len ∧ i = 500) := by omega
      clear hig HA
      rcases hcs with rfl | ⟨h5, rfl⟩
      · go_wp2_with fail
        go_ret
        exact ⟨by rw [hfin.out]; simp, rfl⟩
      · have h6 : (500 : Int) < (len : Int) := by omega
        go_wp2_with fail
        go_ret
        exact ⟨by rw [hfin.out]; simp, rfl⟩
    | succ g =>
      have hil : i < len := by omega
      have hiz : (i : Int) < (len : Int) := by omega
      have hi3 : (i : Int) < 500 := by omega
      obtain ⟨b, off, rfl, hbl, hm1, hm2, _, k0, k1, k2, k3⟩ := HZ.out.2.2 i hil
      have HO := Lib.hid (show fewIm (L.getD i im0) → (∀ j, j < i + 1 → fewIm (L.getD j im0)) from fun h j hj => by
        by_cases hji : j < i
        · exact HA.out j hji
        · obtain rfl : j = i := by omega
          exact h)
      have HNo := Lib.hid (show ¬ fewIm (L.getD i im0) → fewM L n = false from fun h => by
        rw [← Bool.not_eq_true, fewM_true]
        exact fun h2 => h (h2.1 i (by rw [hel.out]; exact hil) (by omega)))
      unfold fewIm at HO HNo
      obtain ⟨K, hK⟩ : ∃ K, K = (L.getD i im0).key := ⟨_, rfl⟩
      obtain ⟨V, hV⟩ : ∃ V, V = (L.getD i im0).v.val := ⟨_, rfl⟩
      rw [← hK] at k0 hm1 HO HNo
      rw [← hV] at k3 hm2 HO HNo
      unfold maxLen at hm1 hm2
      clear hK hV k1 k2
      by_cases h1 : K.size ≤ 300
      · have hb2 : ¬ (300 : Int) < (K.size : Int) := by omega
        have hb3 : decide (300 < K.size) = false := by rw [decide_eq_false_iff_not]; omega
        by_cases h2 : V.size ≤ 700
        · have hb4 : ¬ (700 : Int) < (V.size : Int) := by omega
          have hb5 : decide (700 < V.size) = false := by rw [decide_eq_false_iff_not]; omega
          have HO2 := Lib.hid (HO.out ⟨h1, h2⟩)
          clear h1 h2 hbl HO HNo HA
          go_wp2_with fail
          go_roundg g
          case measure => omega
          case rel => exact ⟨i + 1, by omega, by go_num, rfl, HO2⟩
        · have hb4 : (700 : Int) < (V.size : Int) := by omega
          have hb5 : decide (700 < V.size) = true := by rw [decide_eq_true_iff]; omega
          have HN := Lib.hid (HNo.out (fun h => h2 h.2))
          clear h1 h2 hbl HO HNo HA
          go_wp2_with fail
          go_ret
          exact ⟨by rw [HN.out]; rfl, rfl⟩
      · have hb2 : (300 : Int) < (K.size : Int) := by omega
        have hb3 : decide (300 < K.size) = true := by rw [decide_eq_true_iff]; omega
        have HN := Lib.hid (HNo.out (fun h => h1 h.1))
        clear h1 hbl HO HNo HA
        go_wp2_with fail
        go_ret
        exact ⟨by rw [HN.out]; rfl, rfl⟩

/-! The last time of a key, and how many versions it has. -/
def sameK (a b : ByteArray) : Bool := a.toList == b.toList
def lastOf (key : ByteArray) : List Im → Nat × Nat
  | [] => (0, 0)
  | m :: L => let r := lastOf key L; if sameK m.key key then (max m.v.time r.1, r.2 + 1) else r
def lastStep (key : ByteArray) (r : Nat × Nat) (m : Im) : Nat × Nat := if sameK m.key key then (max r.1 m.v.time, r.2 + 1) else r
theorem lastOf_snoc (key : ByteArray) : ∀ (L : List Im) (m : Im), lastOf key (L ++ [m]) = lastStep key (lastOf key L) m
  | [], m => by
    show (if sameK m.key key then (max m.v.time 0, 0 + 1) else ((0, 0) : Nat × Nat)) = _
    unfold lastStep
    split <;> simp [lastOf]
  | x :: L, m => by
    rw [List.cons_append]
    simp only [lastOf]
    rw [lastOf_snoc key L m]
    unfold lastStep
    by_cases h1 : sameK x.key key = true <;> by_cases h2 : sameK m.key key = true <;> simp [h1, h2, Nat.max_assoc]
theorem lastOf_le (key : ByteArray) : ∀ L : List Im, (lastOf key L).2 ≤ L.length
  | [] => Nat.le_refl _
  | m :: L => by
    have := lastOf_le key L
    simp only [lastOf, List.length_cons]
    split
    · simp only; omega
    · omega
theorem takeI_succ (L : List Im) {i : Nat} (h : i < L.length) : L.take (i + 1) = L.take i ++ [L.getD i im0] := by rw [List.take_add_one, List.getD, List.getElem?_eq_getElem h]; rfl

set_option maxHeartbeats 2000000 in
theorem mlast_any (a : Option Addr) (len cap : Nat) (L : List Im) (key : ByteArray) (w : World) (hz : IsItms w a len cap L) (hl : len ≤ 100000) :
    Calls Try.prog 14 #[.agg #[.slice a len cap], .string key] w fun e w' => e = .returned (.tuple #[.int .u64 (lastOf key L).1, .int .i64 (lastOf key L).2]) ∧ Below w.heap.size w w' := by
  have HZ := Lib.hid hz
  have hel := Lib.hid hz.1
  clear hz
  go_enter Try.func14, Try.ntmps14
  go_wp2_with fail
  go_loopg [6, 7, 8] len (fun g s6 s7 s8 wx => ∃ (i t n : Nat), i + g = len ∧ s6 = .int .u64 t ∧ s7 = .int .i64 n ∧ s8 = .int .i64 i ∧ n ≤ i ∧ Hid (lastOf key (L.take i) = (t, n)) ∧ w.alloc (.cells #[.slice a len cap] 29) = wx)
  case atStart => exact ⟨0, 0, 0, by omega, rfl, rfl, rfl, by omega, Lib.hid rfl, rfl⟩
  case round =>
    obtain ⟨i, t, n, hig, rfl, rfl, rfl, hni, HL, rfl⟩ := hrel
    cases gk with
    | zero =>
      obtain rfl : i = len := by omega
      have hfin := HL.out
      rw [List.take_of_length_le (Nat.le_of_eq hel.out)] at hfin
      have HFin := Lib.hid hfin
      clear hfin
      go_wp2_with fail
      go_ret2
      exact ⟨by rw [HFin.out]; rfl, (Below.refl _ _).alloc (Nat.le_refl _) _⟩
    | succ g =>
      have hil : i < len := by omega
      have hiz : (i : Int) < (len : Int) := by omega
      have hie : i < L.length := by rw [hel.out]; exact hil
      obtain ⟨b, off, rfl, hbl, _, _, ht64, k0, k1, _, _⟩ := (HZ.out).2.2 i hil
      have HS := Lib.hid (lastOf_snoc key (L.take i) (L.getD i im0))
      rw [← takeI_succ L hie, HL.out] at HS
      unfold lastStep sameK at HS
      obtain ⟨K, hK⟩ : ∃ K, K = (L.getD i im0).key := ⟨_, rfl⟩
      obtain ⟨T, hT⟩ : ∃ T, T = (L.getD i im0).v.time := ⟨_, rfl⟩
      rw [← hK, ← hT] at HS
      rw [← hK] at k0
      rw [← hT] at k1 ht64
      obtain ⟨E, hE⟩ : ∃ E, E = (K.toList == key.toList) := ⟨_, rfl⟩
      rw [← hE] at HS
      have hE2 := hE.symm
      clear hE hK hT HL
      cases E with
      | false =>
        have HS2 := Lib.hid (show lastOf key (L.take (i + 1)) = (t, n) by rw [HS.out]; rfl)
        clear HS
        go_wp2_with fail
        go_roundg g
        case measure => omega
        case rel => exact ⟨i + 1, t, n, by omega, rfl, rfl, by go_num, by omega, HS2, rfl⟩
      | true =>
        have HS2 := Lib.hid (show lastOf key (L.take (i + 1)) = (max t T, n + 1) by rw [HS.out]; rfl)
        have hmx : (max (t : Int) (T : Int)) = ((max t T : Nat) : Int) := by omega
        clear HS
        go_wp2_with fail
        all_goals
          go_roundg g
          case measure => omega
          case rel => exact ⟨i + 1, max t T, n + 1, by omega, by first | rfl | (congr 1; omega), by go_num, by go_num, by omega, HS2, rfl⟩
end Go.Proofs.Ytdcefhhmddjodaa

namespace Go.Proofs.Ytdcefhhmddjodaa
open Go.RowKit
set_option linter.unusedVariables false
set_option linter.unnecessarySimpa false
set_option linter.unusedSimpArgs false
set_option maxRecDepth 100000

def bestStep (key : ByteArray) (t : Nat) (r : Vr × Bool) (m : Im) : Vr × Bool := if sameK m.key key && (decide (m.v.time ≤ t) && decide (r.1.time < m.v.time)) then (m.v, true) else r
def bestOf (key : ByteArray) (t : Nat) (L : List Im) : Vr × Bool := L.foldl (bestStep key t) (vr0, false)
theorem bestOf_snoc (key : ByteArray) (t : Nat) (L : List Im) (m : Im) : bestOf key t (L ++ [m]) = bestStep key t (bestOf key t L) m := by unfold bestOf; rw [List.foldl_append]; rfl
theorem results_row_tmpM {P : Program} {fn : Func} {p u : Tmp} {ty : TypeId} (h : fn.results = #[.cell p ty, .tmp u]) (tmps : Array Value) (w : World) (g : Nat) (t : TypeId) (cs : Array Value) (fr : Nat × Nat) (d : TypeDesc) (v : Value)
    (hp : tmps.getD p undef = .pointer (some ⟨g, 0, none⟩)) (hg : w.heap[g]? = some (.cells cs t fr))
    (hu : P.underlying ty = some d) (hd : (match d with | .struct _ | .array _ _ => true | _ => false) = true) (hi : (P.info? ty).map (·.size) = some cs.size) (hv : tmps.getD u undef = v) :
    (results fn tmps).run P w = .ok (.tuple #[.agg cs, v]) w := by
  rw [results_cell_tmp h, hp, hv]
  simp [asAddr, run_loadVar_row w g t ty cs fr d hg hu hd hi, Result.andThen]
theorem verSizeM : (Try.prog.info? 35).map (·.size) = some 3 := by kernel_rfl
/-- The world of the call: the store's box, the result's cell, the best one. -/
structure AtW (w : World) (a : Option Addr) (len cap : Nat) (v : Vr) (wx : World) : Prop where
  below : Below w.heap.size w wx
  box : wx.heap[w.heap.size]? = some (.cells #[.slice a len cap] 29 (0, 0))
  res : wx.heap[w.heap.size + 1]? = some (.cells #[.int .u64 0, .bool false, .string ⟨#[]⟩] 35 (0, 0))
  best : wx.heap[w.heap.size + 1 + 1]? = some (.cells #[.int .u64 (v.time : Int), .bool v.gone, .string v.val] 35 (0, 0))
theorem AtW.start (w : World) (a : Option Addr) (len cap : Nat) : AtW w a len cap vr0 (((w.alloc (.cells #[.slice a len cap] 29)).alloc (.cells #[.int .u64 0, .bool false, .string ⟨#[]⟩] 35)).alloc (.cells #[.int .u64 0, .bool false, .string ⟨#[]⟩] 35)) := by
  refine ⟨(((Below.refl w.heap.size w).alloc (Nat.le_refl _) _).alloc (by simp) _).alloc (by simp; omega) _, ?_, ?_, ?_⟩
  · show (((w.heap.push _).push _).push _)[w.heap.size]? = _
    rw [Array.getElem?_push, if_neg (by simp; omega), Array.getElem?_push, if_neg (by simp), Array.getElem?_push, if_pos rfl]
  · show (((w.heap.push _).push _).push _)[w.heap.size + 1]? = _
    rw [Array.getElem?_push, if_neg (by simp), Array.getElem?_push, if_pos (by simp)]
  · show (((w.heap.push _).push _).push _)[w.heap.size + 1 + 1]? = _
    rw [Array.getElem?_push, if_pos (by simp)]
    rfl
theorem AtW.drewN {w wx : World} {a : Option Addr} {len cap : Nat} {v : Vr} (h : AtW w a len cap v wx) (n : Nat) : AtW w a len cap v (wx.drewN n) := ⟨⟨h.below.os, h.below.tape, h.below.output, h.below.size, h.below.block⟩, h.box, h.res, h.best⟩
theorem AtW.put {w wx : World} {a : Option Addr} {len cap : Nat} {v : Vr} (h : AtW w a len cap v wx) (z : Vr) :
    AtW w a len cap z (((wx.setCell ⟨w.heap.size + 1 + 1, 0, none⟩ (.int .u64 (z.time : Int))).setCell ⟨w.heap.size + 1 + 1, 1, none⟩ (.bool z.gone)).setCell ⟨w.heap.size + 1 + 1, 2, none⟩ (.string z.val)) := by
  refine ⟨((h.below.setCell (by simp; omega) _).setCell (by simp; omega) _).setCell (by simp; omega) _, ?_, ?_, ?_⟩
  · rw [Below.heap_setCell _ _ _ _ (by simp; omega), Below.heap_setCell _ _ _ _ (by simp; omega), Below.heap_setCell _ _ _ _ (by simp; omega)]; exact h.box
  · rw [Below.heap_setCell _ _ _ _ (by simp), Below.heap_setCell _ _ _ _ (by simp), Below.heap_setCell _ _ _ _ (by simp)]; exact h.res
  · rw [heap_setCell_same _ _ 2 _ _ _ (heap_setCell_same _ _ 1 _ _ _ (heap_setCell_same _ _ 0 _ _ _ h.best))]; rfl
theorem AtW.cells {w wx : World} {a : Option Addr} {len cap : Nat} {v : Vr} (h : AtW w a len cap v wx) :
    wx.cell? ⟨w.heap.size, 0, none⟩ = some (.slice a len cap) ∧ wx.cell? ⟨w.heap.size + 1 + 1, 0, none⟩ = some (.int .u64 (v.time : Int)) ∧ wx.cell? ⟨w.heap.size + 1 + 1, 1, none⟩ = some (.bool v.gone) ∧ wx.cell? ⟨w.heap.size + 1 + 1, 2, none⟩ = some (.string v.val) ∧
      (∀ j, wx.frozen? ⟨w.heap.size + 1 + 1, j, none⟩ = false) ∧ (∀ j, wx.frozen? ⟨w.heap.size + 1, j, none⟩ = false) ∧
      wx.cell? ⟨w.heap.size + 1, 0, none⟩ = some (.int .u64 0) ∧ wx.cell? ⟨w.heap.size + 1, 1, none⟩ = some (.bool false) ∧ wx.cell? ⟨w.heap.size + 1, 2, none⟩ = some (.string ⟨#[]⟩) := by
  refine ⟨?_, ?_, ?_, ?_, fun j => frozen_of_row _ _ _ _ _ h.best, fun j => frozen_of_row _ _ _ _ _ h.res, ?_, ?_, ?_⟩
  · rw [cell_of_row _ _ _ _ _ _ h.box]; rfl
  · rw [cell_of_row _ _ _ _ _ _ h.best]; rfl
  · rw [cell_of_row _ _ _ _ _ _ h.best]; rfl
  · rw [cell_of_row _ _ _ _ _ _ h.best]; rfl
  · rw [cell_of_row _ _ _ _ _ _ h.res]; rfl
  · rw [cell_of_row _ _ _ _ _ _ h.res]; rfl
  · rw [cell_of_row _ _ _ _ _ _ h.res]; rfl

set_option maxHeartbeats 4000000 in
theorem mat_any (a : Option Addr) (len cap : Nat) (L : List Im) (key : ByteArray) (t : Nat) (ht : t < 18446744073709551616) (w : World) (hz : IsItms w a len cap L) (hl : len ≤ 100000) :
    Calls Try.prog 13 #[.agg #[.slice a len cap], .string key, .int .u64 (t : Int)] w fun e w' => e = .returned (.tuple #[.agg (bestOf key t L).1.cells, .bool (bestOf key t L).2]) ∧ Below w.heap.size w w' := by
  have HZ := Lib.hid hz
  have hel := Lib.hid hz.1
  clear hz
  go_enter Try.func13, Try.ntmps13
  go_wp2_with fail
  have HW0 := Lib.hid (AtW.start w a len cap)
  go_loopg [9, 10] len (fun g s9 s10 wx => ∃ (i : Nat) (v : Vr) (ok : Bool), i + g = len ∧ s9 = .bool ok ∧ s10 = .int .i64 i ∧ Hid (bestOf key t (L.take i) = (v, ok)) ∧ Hid (AtW w a len cap v wx))
  case atStart => exact ⟨0, vr0, false, by omega, rfl, rfl, Lib.hid rfl, HW0⟩
  case round =>
    obtain ⟨i, v, ok, hig, rfl, rfl, HL, HW⟩ := hrel
    clear HW0
    obtain ⟨b0, m0, m1, m2, mf, rf, r0, r1, r2⟩ := HW.out.cells
    cases gk with
    | zero =>
      obtain rfl : i = len := by omega
      have hfin := HL.out
      rw [List.take_of_length_le (Nat.le_of_eq hel.out)] at hfin
      have HFin := Lib.hid hfin
      clear hfin
      go_wp2_with fail
      refine bodyPost_ret (v := .tuple #[.agg #[.int .u64 (v.time : Int), .bool v.gone, .string v.val], .bool ok]) ?_ rfl ⟨by rw [HFin.out]; rfl, ((HW.out.below.setCell (by simp) _).setCell (by simp) _).setCell (by simp) _⟩
      refine results_row_tmpM rfl _ _ (w.heap.size + 1) 35 _ (0, 0) _ _ rfl ?_ Try.underlying35 rfl verSizeM rfl
      rw [heap_setCell_same _ _ 2 _ _ _ (heap_setCell_same _ _ 1 _ _ _ (heap_setCell_same _ _ 0 _ _ _ HW.out.res))]
      rfl
    | succ g =>
      have hil : i < len := by omega
      have hiz : (i : Int) < (len : Int) := by omega
      have hie : i < L.length := by rw [hel.out]; exact hil
      obtain ⟨b, off, rfl, hbl, _, _, ht64, k0, k1, k2, k3⟩ := (HZ.out.below HW.out.below).2.2 i hil
      have HS := Lib.hid (bestOf_snoc key t (L.take i) (L.getD i im0))
      rw [← takeI_succ L hie, HL.out] at HS
      unfold bestStep sameK at HS
      obtain ⟨K, hK⟩ : ∃ K, K = (L.getD i im0).key := ⟨_, rfl⟩
      obtain ⟨z, hz⟩ : ∃ z, z = (L.getD i im0).v := ⟨_, rfl⟩
      rw [← hK, ← hz] at HS
      rw [← hK] at k0
      rw [← hz] at k1 k2 k3 ht64
      obtain ⟨E, hE⟩ : ∃ E, E = (K.toList == key.toList) := ⟨_, rfl⟩
      rw [← hE] at HS
      have hE2 := hE.symm
      clear hE hK hz HL
      cases E with
      | false =>
        have HS2 := Lib.hid (show bestOf key t (L.take (i + 1)) = (v, ok) by rw [HS.out]; rfl)
        clear HS k1 k2 k3
        go_wp2_with fail
        go_quiet (fail)
        go_wp2_with fail
        go_roundg g
        case measure => omega
        case rel => exact ⟨i + 1, v, ok, by omega, rfl, by go_num, HS2, Lib.hid (HW.out.drewN _)⟩
      | true =>
        by_cases h1 : z.time ≤ t
        · have c1 : (z.time : Int) ≤ (t : Int) := by omega
          have c1b : decide ((z.time : Int) ≤ (t : Int)) = true := by simpa using h1
          have c1c : decide (z.time ≤ t) = true := by simpa using h1
          by_cases h2 : v.time < z.time
          · have c2 : (v.time : Int) < (z.time : Int) := by omega
            have c2b : decide ((v.time : Int) < (z.time : Int)) = true := by simpa using h2
            have c2c : decide (v.time < z.time) = true := by simpa using h2
            have HS2 := Lib.hid (show bestOf key t (L.take (i + 1)) = (z, true) by rw [HS.out, c1c, c2c]; rfl)
            clear HS h1 h2
            go_wp2_with fail
            go_quiet (fail)
            go_wp2_with fail
            go_roundg g
            case measure => omega
            case rel => exact ⟨i + 1, z, true, by omega, rfl, by go_num, HS2, Lib.hid ((HW.out.drewN _).put z)⟩
          · have c2b : decide ((v.time : Int) < (z.time : Int)) = false := by simpa using h2
            have c2c : decide (v.time < z.time) = false := by simpa using h2
            have HS2 := Lib.hid (show bestOf key t (L.take (i + 1)) = (v, ok) by rw [HS.out, c1c, c2c]; rfl)
            clear HS h1 h2
            go_wp2_with fail
            go_quiet (fail)
            go_wp2_with fail
            go_roundg g
            case measure => omega
            case rel => exact ⟨i + 1, v, ok, by omega, rfl, by go_num, HS2, Lib.hid (HW.out.drewN _)⟩
        · have c1b : decide ((z.time : Int) ≤ (t : Int)) = false := by simpa using h1
          have c1c : decide (z.time ≤ t) = false := by simpa using h1
          have HS2 := Lib.hid (show bestOf key t (L.take (i + 1)) = (v, ok) by rw [HS.out, c1c]; rfl)
          clear HS h1
          go_wp2_with fail
          go_quiet (fail)
          go_wp2_with fail
          go_roundg g
          case measure => omega
          case rel => exact ⟨i + 1, v, ok, by omega, rfl, by go_num, HS2, Lib.hid (HW.out.drewN _)⟩
end Go.Proofs.Ytdcefhhmddjodaa
