/-
  Items as Go's values, compared with themselves.
-/
import Derived.Test.YtnjbeemahfoaiaaDoorKeyValue
import Derived.Test.YtnjbeemahfoaiaaDoorClass
namespace Go.Proofs.YtnjbeemahfoaiaaDoor
open Go.RowKit
set_option linter.unnecessarySimpa false
set_option linter.unusedVariables false
set_option linter.unusedSimpArgs false
set_option maxRecDepth 100000

theorem byteArray_beq (s : ByteArray) : (s == s) = true := by
  obtain ⟨l⟩ := s
  show (l == l) = true
  simp
theorem cmp_bool : Tryd.t4.comparable = true := rfl
theorem cmp_i64 : Tryd.t2.comparable = true := rfl
theorem cmp_u64 : Tryd.t34.comparable = true := rfl
theorem cmp_str : Tryd.t9.comparable = true := rfl
theorem cmp_down : Tryd.t44.comparable = true := rfl

theorem equal_plain (d : Nat) (v : KV) (w : World) : (Op.equalIn (d + 2) 20 (anyV v) (anyV v)).run Tryd.prog w = .ok true w := by
  cases v with
  | nil => unfold anyV; rw [Op.equalIn]; simp
  | bool b =>
    have h : (Op.equalIn (d + 1) 4 (.bool b) (.bool b)).run Tryd.prog w = .ok true w := by rw [Op.equalIn]; simp
    unfold anyV; rw [Op.equalIn]; simp [h, cmp_bool]
  | int n =>
    have h : (Op.equalIn (d + 1) 2 (.int .i64 n) (.int .i64 n)).run Tryd.prog w = .ok true w := by rw [Op.equalIn]; simp
    unfold anyV; rw [Op.equalIn]; simp [h, cmp_i64]
  | uint n =>
    have h : (Op.equalIn (d + 1) 34 (.int .u64 n) (.int .u64 n)).run Tryd.prog w = .ok true w := by rw [Op.equalIn]; simp
    unfold anyV; rw [Op.equalIn]; simp [h, cmp_u64]
  | text s =>
    have h : (Op.equalIn (d + 1) 9 (.string s) (.string s)).run Tryd.prog w = .ok true w := by rw [Op.equalIn]; simp; exact byteArray_beq s
    unfold anyV; rw [Op.equalIn]; simp [h, cmp_str]

theorem equal_item (d : Nat) (i : KV × Bool) (w : World) : (Op.equalIn (d + 4) 20 (anyI i) (anyI i)).run Tryd.prog w = .ok true w := by
  obtain ⟨v, k⟩ := i
  cases k
  · exact equal_plain (d + 2) v w
  · have h := equal_plain d v w
    have h1 : (Op.equalIn (d + 3) 44 (.agg #[anyV v]) (.agg #[anyV v])).run Tryd.prog w = .ok true w := by
      rw [Op.equalIn]
      simp [part]
      rw [h]
      rfl
    unfold anyI
    simp only [if_true]
    rw [Op.equalIn]
    simp [h1, cmp_down]

theorem neq_item (i : KV × Bool) (w : World) : (binOp .neq 20 (anyI i) (anyI i)).run Tryd.prog w = .ok (.bool false) w := by
  have h : (Op.equal 20 (anyI i) (anyI i)).run Tryd.prog w = .ok true w := equal_item 9996 i w
  obtain ⟨v, k⟩ := i
  cases k <;> cases v
  all_goals
    unfold anyI anyV at h ⊢
    simp only [if_true, if_false, Bool.false_eq_true] at h ⊢
    simp only [binOp]
    rw [Sem.run_bind, h]
    rfl
theorem guard_item (x y : Operand) (i : KV × Bool) (w : World) : (eqGuard .neq 20 x y (anyI i) (anyI i)).run Tryd.prog w = .ok () w := by
  obtain ⟨v, k⟩ := i
  cases k <;> cases v
  all_goals
    unfold anyI anyV
    simp only [if_true, if_false, Bool.false_eq_true]
    first | rfl | skip
  have h : (Op.eqGuardIn Op.maxDepth 20 .nilIface .nilIface).run Tryd.prog w = .ok false w := by
    show (Op.eqGuardIn (9999 + 1) 20 .nilIface .nilIface).run Tryd.prog w = .ok false w
    rw [Op.eqGuardIn]
    simp
  unfold eqGuard
  cases x <;> cases y <;> first | (simp [Sem.run_bind, h]; done) | rfl

theorem quiet_neq_any {o : Oper} {a : Act} {C : World → Prop} {K : Act → Prop} (x y : Operand) (ho : o.op = .binOp .neq 20 x y 20) (i : KV × Bool) (u : Value) (hu : u = anyI i)
    (hx : a.eval x = u) (hy : a.eval y = u) (h : K (a.put o.dst (.bool false))) : o.quiet Tryd.prog a C K :=
  ⟨.bool false, fun w _ => by
    subst hu
    unfold Oper.quietAt execOp
    simp only [ho, hx, hy]
    simp [Sem.run_bind, guard_item, neq_item, Oper.quietUpon], h⟩
end Go.Proofs.YtnjbeemahfoaiaaDoor
