/-
  Regions that draw their order, whose operations and callees make at most new memory: one walk of the text's order serves every order (Derived/Deep/Quiet.lean's theorem at the class of worlds 'as this one was, below a bound').
-/
import Derived.Test.YtbekgmcchecnkaaRows
import Derived.WalkKit
import Derived.Below
import Derived.BigQuiet
import Derived.Deep.QuietTactic
import Derived.Laws.Rows
namespace Go.Proofs.Ytbekgmcchecnkaa
open Go.RowKit
set_option linter.unnecessarySimpa false
set_option linter.unusedVariables false
set_option linter.unusedSimpArgs false
set_option maxRecDepth 100000

/-- A world that is as w was, below B. -/
structure Like (B : Nat) (w : World) where
  val : World
  below : Below B w val
instance likeInhabited (B : Nat) (w : World) : Inhabited (Like B w) := ⟨⟨w, Below.refl B w⟩⟩
/-- The class. -/
def Likes (B : Nat) (w : World) : World → Prop := fun w' => ∃ x : Like B w, w' = x.val
theorem Likes.of {B : Nat} {w w' : World} (h : Below B w w') : Likes B w w' := ⟨⟨w', h⟩, rfl⟩

/-- A region that draws its order, at the class. -/
theorem region_likes {P : Program} {id : Nat} {Q : Exit → Act → World → Prop} {a : Act} {w : World} {l : List Oper} (hm : P.follows .mixedOrders = true) (hB : Region.lexB .any l.toArray = true)
    (h : wpQuiet P l.toArray (fun w' => ∃ x : Like w.heap.size w, w' = x.val) (fun a' => ∀ x : Like w.heap.size w, Q .normal a' x.val) l a) : (Code.region id l.toArray true).wp P Q a w :=
  wp_region_quiet (C := fun w' => ∃ x : Like w.heap.size w, w' = x.val) hm hB ⟨⟨w.drew, (Below.refl _ _).drew⟩, rfl⟩ (by
    have e : (fun a' => ∀ w', (∃ x : Like w.heap.size w, w' = x.val) → Q .normal a' w') = (fun a' => ∀ x : Like w.heap.size w, Q .normal a' x.val) := by
      funext a'; apply propext; exact ⟨fun h x => h _ ⟨x, rfl⟩, fun h _ ⟨x, hx⟩ => hx ▸ h x⟩
    rw [e]
    exact h)

/-- A callee's contract, met in a world of the class. -/
theorem calls_likes {P : Program} {f : FuncId} {args : Array Value} {B : Nat} {w : World} {x : Like B w} {v : Value} (hB : B ≤ x.val.heap.size)
    (h : Calls P f args x.val fun e w' => e = .returned v ∧ Below x.val.heap.size x.val w') : Calls P f args x.val fun e w'' => e = .returned v ∧ ∃ y : Like B w, w'' = y.val :=
  h.mono fun _ w' ⟨he, hb⟩ => ⟨he, ⟨w', x.below.trans (hb.mono hB)⟩, rfl⟩
/-- .. of a callee that leaves the world as it is. -/
theorem calls_likes_same {P : Program} {f : FuncId} {args : Array Value} {B : Nat} {w : World} {x : Like B w} {v : Value}
    (h : Calls P f args x.val fun e w' => e = .returned v ∧ w' = x.val) : Calls P f args x.val fun e w'' => e = .returned v ∧ ∃ y : Like B w, w'' = y.val :=
  h.mono fun _ _ ⟨he, hb⟩ => ⟨he, x, hb⟩

theorem Like.size {w : World} (x : Like w.heap.size w) : w.heap.size ≤ x.val.heap.size := x.below.size

/-- A whole array (or struct) is loaded: in every world of the class. -/
theorem quiet_row {P : Program} {o : Oper} {a : Act} {C : World → Prop} {K : Act → Prop} (ty : TypeId) (x : Operand) (ho : o.op = .load ty x)
    (g : Nat) (hx : a.eval x = .pointer (some ⟨g, 0, none⟩)) (t : TypeId) (cs : Array Value) (fr : Nat × Nat) (d : TypeDesc) (hg : ∀ w, C w → w.heap[g]? = some (.cells cs t fr))
    (hu : P.underlying ty = some d) (hd : (match d with | .struct _ | .array _ _ => true | _ => false) = true) (hi : (P.info? ty).map (·.size) = some cs.size)
    (h : K (a.put o.dst (.agg cs))) : o.quiet P a C K :=
  ⟨.agg cs, fun w hw => by
    unfold Oper.quietAt execOp
    simp only [ho, hx, Instr.loadAt, Instr.sureAddr, Sem.run_bind, Sem.run_pure, Result.andThen_ok, run_loadVar_row w g t ty cs fr d (hg w hw) hu hd hi, Oper.quietUpon, and_self], h⟩
/-- The row of a block below the bound stays. -/
theorem likes_row {w : World} {g : Nat} {o : Obj} (h : w.heap[g]? = some o) : ∀ w', (∃ x : Like w.heap.size w, w' = x.val) → w'.heap[g]? = some o := fun _ ⟨x, hx⟩ => by
  rw [hx, x.below.block g (Array.getElem?_eq_some_iff.1 h).1, h]
end Go.Proofs.Ytbekgmcchecnkaa
