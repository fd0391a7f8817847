/-
  Joined: RefUintB, RefText, Class.
-/
import Derived.Test.YtplobffkelmokaaSet03
import Derived.ProofKit
import Derived.WalkSpells
import Derived.WalkLawsBesides
import Derived.Lib.Hide
import Derived.Test.YtplobffkelmokaaRows
import Derived.WalkKit
import Derived.Below
import Derived.BigQuiet
import Derived.Deep.QuietTactic
import Derived.Laws.Rows
namespace Go.Proofs.Ytplobffkelmokaa
open Go.RowKit
set_option linter.unnecessarySimpa false
set_option linter.unusedVariables false
set_option linter.unusedSimpArgs false
set_option maxRecDepth 100000

set_option maxRecDepth 100000 in
set_option maxHeartbeats 800000 in
theorem refUint_any (n : Nat) (hn : n < 18446744073709551616) (w : World) :
    Calls Try.prog 18 #[.int .u64 n] w fun e w' => e = .returned (.string ⟨(ub n).toArray⟩) ∧ Below w.heap.size w w' := by
  obtain ⟨i0, hi, hz0, hz1, hz2⟩ := info_parts u8info
  have hlen := Lib.hid (ub_len10 hn)
  have HN := Lib.hid hn
  clear hn
  go_enter Try.func18, Try.ntmps18
  go_wp2_with fail
  go_loopw [0, 3] (fun t v wr => ∃ (m : Nat) (done : List UInt8), t = .int .u64 m ∧ Hid (m < 18446744073709551616) ∧ wr.ownsRow w.heap.size 5 1 v done.length (Lib.byteCells done) ∧ Hid (done ++ ub m = ub n) ∧ Below w.heap.size w wr) (fun t _ _ => (intOf t).toNat)
  case atStart => exact ⟨n, [], rfl, HN, World.ownsRow_nil _ _ _ _, Lib.hid rfl, Below.refl _ _⟩
  case round =>
    obtain ⟨m, done, rfl, hm, hown, hd, hb⟩ := hrel
    have hl := congrArg List.length hd.out
    rw [List.length_append] at hl
    have hp := ub_pos m
    have hll := hlen.out
    have hdl : done.length ≤ 9 := by omega
    clear hl hll hp
    have hor := Lib.hid (show (m : Int) % 128 + 128 = ((UInt8.ofNat (m % 128 + 128)).toNat : Int) by simp only [UInt8.toNat_ofNat']; omega)
    have hone := Lib.hid (cell_one_new wr (.int .u8 ((m : Int) % 128 + 128)) 5)
    by_cases h : 128 ≤ m
    · have hm64 : (m : Int) ≤ 18446744073709551615 := by have := hm.out; omega
      have hub := Lib.hid (ub_big (n := m) (by omega))
      go_wp2_with (at_builtin; refine wpList_append_own _ rfl _ _ 43 rfl w.heap.size 5 i0 (.int .u8 0) 1 1 Try.underlying43 hi hz0 hz1 hz2 rfl (by decide) _ _ _ rfl (hown.alloc _) ⟨wr.heap.size, 0, none⟩ 1 1 [.int .u8 ((m : Int) % 128 + 128)] rfl rfl ?c1 ?c2 ?c3 ?c4 ?c5 ?c6)
      case c1 => exact hone.out
      case c2 => simp [Value.oneCell']
      case c3 => simp [maxLen]; omega
      case c4 => simp; omega
      case c5 => have := hb.size; simp; omega
      case c6 =>
        intro v' w1 hown1 hg1 _
        rw [hor.out, cells_snoc] at hown1
        go_wp2_with fail
        clear hone hor
        refine ⟨⟨m / 128, done ++ [UInt8.ofNat (m % 128 + 128)], by go_num, Lib.hid (by have := hm.out; omega), by rw [List.length_append]; exact hown1, Lib.hid ?_, (hb.alloc hb.size _).grown hg1 (by have := hb.size; simp; omega) (fun k hk => (hown.lt k hk).1)⟩, ?_⟩
        · have h1 := hd.out
          rw [hub.out] at h1
          simpa using h1
        · simp [intOf]; omega
    · have hm' : m ≤ 127 := by omega
      have hub := Lib.hid (ub_small (n := m) (by omega))
      have hone2 := Lib.hid (cell_one_new wr (.int .u8 (m : Int)) 5)
      have e256 := Lib.hid (show (m : Int) = ((UInt8.ofNat m).toNat : Int) by simp only [UInt8.toNat_ofNat']; omega)
      go_wp2_with (at_builtin; refine wpList_append_own _ rfl _ _ 43 rfl w.heap.size 5 i0 (.int .u8 0) 1 1 Try.underlying43 hi hz0 hz1 hz2 rfl (by decide) _ _ _ rfl (hown.alloc _) ⟨wr.heap.size, 0, none⟩ 1 1 [.int .u8 (m : Int)] rfl rfl ?c1 ?c2 ?c3 ?c4 ?c5 ?c6)
      case c1 => exact hone2.out
      case c2 => simp [Value.oneCell']
      case c3 => simp [maxLen]; omega
      case c4 => simp; omega
      case c5 => have := hb.size; simp; omega
      case c6 =>
        intro v' w1 hown1 hg1 hnil
        have hown2 : w1.ownsRow w.heap.size 5 1 v' (done.length + 1) (Lib.byteCells (done ++ [UInt8.ofNat m])) := by rw [← cells_snoc, ← e256.out]; exact hown1
        have hnn : ¬ v' = .slice none 0 0 := hnil
        have hcv := convert_own (P := Try.prog) (src := 43) (dst := 9) hown2 hnn Try.underlying43 Try.underlying5 Try.underlying9
        have hfin : done ++ [UInt8.ofNat m] = ub n := by have h1 := hd.out; rw [hub.out] at h1; exact h1
        rw [hfin] at hcv
        have HB := (hb.alloc hb.size (.cells #[.int .u8 (m : Int)] 5)).grown hg1 (by have := hb.size; simp; omega) (fun k hk => (hown.lt k hk).1)
        clear hone hor hone2 e256 hnil hfin hown1 hown2
        go_wp2_with fail
        go_ret
        exact ⟨rfl, HB⟩
end Go.Proofs.Ytplobffkelmokaa

namespace Go.Proofs.Ytplobffkelmokaa
open Go.RowKit
set_option linter.unusedVariables false
set_option linter.unnecessarySimpa false
set_option linter.unusedSimpArgs false
set_option maxRecDepth 100000

theorem ub_size' (n : Nat) (h : n < 18446744073709551616) : (⟨(ub n).toArray⟩ : ByteArray).size ≤ 10 := by
  show (ub n).toArray.size ≤ 10; rw [List.size_toArray]; exact ub_len10 h
set_option maxHeartbeats 1000000 in
theorem refTextB_any (s : ByteArray) (hs : s.size ≤ 300000) (w : World) :
    Calls Try.prog 29 #[.string s] w fun e w' => e = .returned (.string ⟨(ub s.size ++ s.data.toList).toArray⟩) ∧ Below w.heap.size w w' := by
  have hu := Lib.hid (refUint_any s.size (by omega))
  have hsz := ub_size' s.size (by omega)
  have hw : IntKind.u64.wrap (s.size : Int) = (s.size : Int) := by simp [IntKind.wrap, IntKind.bits, IntKind.signed]; omega
  obtain ⟨U, hU⟩ : ∃ U : ByteArray, U = ⟨(ub s.size).toArray⟩ := ⟨_, rfl⟩
  have hadd := Lib.hid (show U ++ s = ⟨(ub s.size ++ s.data.toList).toArray⟩ by rw [hU]; apply ByteArray.ext; simp)
  rw [← hU] at hu hsz
  have hss : U.size + s.size ≤ 9223372036854775807 := by omega
  clear hU
  go_enter Try.func29, Try.ntmps29
  go_wp2_with (go_at_call 18; refine (hu.out _).mono ?_; rintro e w1 ⟨rfl, hb1⟩)
  go_ret
  exact ⟨by rw [← hadd.out]; rfl, hb1⟩
end Go.Proofs.Ytplobffkelmokaa

namespace Go.Proofs.Ytplobffkelmokaa
open Go.RowKit
set_option linter.unnecessarySimpa false
set_option linter.unusedVariables false
set_option linter.unusedSimpArgs false
set_option maxRecDepth 100000

/-- A world that is as w was, below B. -/
structure Like (B : Nat) (w : World) where
  val : World
  below : Below B w val
instance likeInhabited (B : Nat) (w : World) : Inhabited (Like B w) := ⟨⟨w, Below.refl B w⟩⟩
/-- The class. -/
def Likes (B : Nat) (w : World) : World → Prop := fun w' => ∃ x : Like B w, w' = x.val
theorem Likes.of {B : Nat} {w w' : World} (h : Below B w w') : Likes B w w' := ⟨⟨w', h⟩, rfl⟩

/-- A region that draws its order, at the class. -/
theorem region_likes {P : Program} {id : Nat} {Q : Exit → Act → World → Prop} {a : Act} {w : World} {l : List Oper} (hm : P.follows .mixedOrders = true) (hB : Region.lexB .any l.toArray = true)
    (h : wpQuiet P l.toArray (fun w' => ∃ x : Like w.heap.size w, w' = x.val) (fun a' => ∀ x : Like w.heap.size w, Q .normal a' x.val) l a) : (Code.region id l.toArray true).wp P Q a w :=
  wp_region_quiet (C := fun w' => ∃ x : Like w.heap.size w, w' = x.val) hm hB ⟨⟨w.drew, (Below.refl _ _).drew⟩, rfl⟩ (by
    have e : (fun a' => ∀ w', (∃ x : Like w.heap.size w, w' = x.val) → Q .normal a' w') = (fun a' => ∀ x : Like w.heap.size w, Q .normal a' x.val) := by
      funext a'; apply propext; exact ⟨fun h x => h _ ⟨x, rfl⟩, fun h _ ⟨x, hx⟩ => hx ▸ h x⟩
    rw [e]
    exact h)

/-- A callee's contract, met in a world of the class. -/
theorem calls_likes {P : Program} {f : FuncId} {args : Array Value} {B : Nat} {w : World} {x : Like B w} {v : Value} (hB : B ≤ x.val.heap.size)
    (h : Calls P f args x.val fun e w' => e = .returned v ∧ Below x.val.heap.size x.val w') : Calls P f args x.val fun e w'' => e = .returned v ∧ ∃ y : Like B w, w'' = y.val :=
  h.mono fun _ w' ⟨he, hb⟩ => ⟨he, ⟨w', x.below.trans (hb.mono hB)⟩, rfl⟩
/-- .. of a callee that leaves the world as it is. -/
theorem calls_likes_same {P : Program} {f : FuncId} {args : Array Value} {B : Nat} {w : World} {x : Like B w} {v : Value}
    (h : Calls P f args x.val fun e w' => e = .returned v ∧ w' = x.val) : Calls P f args x.val fun e w'' => e = .returned v ∧ ∃ y : Like B w, w'' = y.val :=
  h.mono fun _ _ ⟨he, hb⟩ => ⟨he, x, hb⟩

theorem Like.size {w : World} (x : Like w.heap.size w) : w.heap.size ≤ x.val.heap.size := x.below.size

/-- A whole array (or struct) is loaded: in every world of the class. -/
theorem quiet_row {P : Program} {o : Oper} {a : Act} {C : World → Prop} {K : Act → Prop} (ty : TypeId) (x : Operand) (ho : o.op = .load ty x)
    (g : Nat) (hx : a.eval x = .pointer (some ⟨g, 0, none⟩)) (t : TypeId) (cs : Array Value) (fr : Nat × Nat) (d : TypeDesc) (hg : ∀ w, C w → w.heap[g]? = some (.cells cs t fr))
    (hu : P.underlying ty = some d) (hd : (match d with | .struct _ | .array _ _ => true | _ => false) = true) (hi : (P.info? ty).map (·.size) = some cs.size)
    (h : K (a.put o.dst (.agg cs))) : o.quiet P a C K :=
  ⟨.agg cs, fun w hw => by
    unfold Oper.quietAt execOp
    simp only [ho, hx, Instr.loadAt, Instr.sureAddr, Sem.run_bind, Sem.run_pure, Result.andThen_ok, run_loadVar_row w g t ty cs fr d (hg w hw) hu hd hi, Oper.quietUpon, and_self], h⟩
/-- The row of a block below the bound stays. -/
theorem likes_row {w : World} {g : Nat} {o : Obj} (h : w.heap[g]? = some o) : ∀ w', (∃ x : Like w.heap.size w, w' = x.val) → w'.heap[g]? = some o := fun _ ⟨x, hx⟩ => by
  rw [hx, x.below.block g (Array.getElem?_eq_some_iff.1 h).1, h]
end Go.Proofs.Ytplobffkelmokaa
