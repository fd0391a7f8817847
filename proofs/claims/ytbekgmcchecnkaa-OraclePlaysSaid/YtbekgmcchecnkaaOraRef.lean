/-
  The document's oracle: its Do, whatever the call.
-/
import Derived.Test.YtbekgmcchecnkaaOraContracts
import Derived.Test.YtbekgmcchecnkaaClass
import Derived.Laws.ResultCell
import Derived.Laws.Rows
import Derived.RegionTactic
namespace Go.Proofs.Ytbekgmcchecnkaa
open Go.RowKit
set_option linter.unusedVariables false
set_option linter.unnecessarySimpa false
set_option linter.unusedSimpArgs false
set_option maxRecDepth 100000

def oA (k a b : Nat) : Nat := if k = 0 then oNextA a b else if k = 3 then b else a
def oB (k a b n : Nat) : Nat := if k = 2 then max b n else b
def oV (k a b : Nat) : Nat := if k = 0 then oNextV a b else if k = 1 then oWantV a b else 0
def oR (k a b : Nat) : Bool := if k = 0 then oNextR a b else if k = 1 then oWantR a b else false
def oraV (a b : Nat) : Value := .agg #[.int .u64 a, .int .u64 b]
def oraC (a b : Nat) : Array Value := #[.int .u64 a, .int .u64 b]

theorem results_row_tmp2 {P : Program} {fn : Func} {p u u2 : Tmp} {ty : TypeId} (h : fn.results = #[.cell p ty, .tmp u, .tmp u2]) (tmps : Array Value) (w : World) (g : Nat) (t : TypeId) (cs : Array Value) (fr : Nat × Nat) (d : TypeDesc) (v v2 : Value)
    (hp : tmps.getD p undef = .pointer (some ⟨g, 0, none⟩)) (hg : w.heap[g]? = some (.cells cs t fr))
    (hu : P.underlying ty = some d) (hd : (match d with | .struct _ | .array _ _ => true | _ => false) = true) (hi : (P.info? ty).map (·.size) = some cs.size) (hv : tmps.getD u undef = v) (hv2 : tmps.getD u2 undef = v2) :
    (results fn tmps).run P w = .ok (.tuple #[.agg cs, v, v2]) w := by
  have hp' : tmps[p]?.getD undef = .pointer (some ⟨g, 0, none⟩) := by simpa using hp
  have hv' : tmps[u]?.getD undef = v := by simpa using hv
  have hv2' : tmps[u2]?.getD undef = v2 := by simpa using hv2
  simp [results, h, hp', hv', hv2', asAddr, run_loadVar_row w g t ty cs fr d hg hu hd hi, Sem.run_bind]
theorem oraSize : (Try.prog.info? 28).map (·.size) = some 2 := by kernel_rfl
/-- What Do answers. -/
def DoOut (a b v : Nat) (r : Bool) (w : World) (e : Ending) (w' : World) : Prop := e = .returned (.tuple #[oraV a b, .int .u64 v, .bool r]) ∧ Below w.heap.size w w'
theorem do_end {w w' : World} {x y : Nat} {v : Nat} {r : Bool} {a : Act} {cs : Array Value} (h : a.defers = []) (hg : w'.heap[w.heap.size + 1 + 1]? = some (.cells cs 28 (0, 0))) (hc : cs = oraC x y) (hb : Below w.heap.size w w')
    (hp : a.tmps.getD 4 undef = .pointer (some ⟨w.heap.size + 1 + 1, 0, none⟩)) (h5 : a.tmps.getD 5 undef = .int .u64 v) (h6 : a.tmps.getD 6 undef = .bool r) :
    bodyPost Try.prog Try.f10 (DoOut x y v r w) .ret a w' := by
  refine bodyPost_ret (v := .tuple #[oraV x y, .int .u64 v, .bool r]) ?_ h ⟨rfl, hb⟩
  subst hc
  exact results_row_tmp2 rfl _ _ (w.heap.size + 1 + 1) 28 _ (0, 0) _ _ _ hp hg Try.underlying28 rfl oraSize h5 h6
theorem o3_heap (w : World) (o1 o2 o3 : Obj) : (((w.alloc o1).alloc o2).alloc o3).heap[w.heap.size + 1 + 1]? = some o3 := by
  show (((w.heap.push o1).push o2).push o3)[w.heap.size + 1 + 1]? = _
  rw [Array.getElem?_push, if_pos (by simp)]
theorem o3_below (w : World) (o1 o2 o3 : Obj) : Below w.heap.size w (((w.alloc o1).alloc o2).alloc o3) := (((Below.refl _ _).alloc (Nat.le_refl _) _).alloc (by simp) _).alloc (by simp; omega) _

set_option maxHeartbeats 4000000 in
theorem do_next (a b n k : Nat) (hk : (k : Int) % 4 = 0) (ha : a ≤ b) (hb : b ≤ oMax) (w : World) :
    Calls Try.prog 10 #[oraV a b, .agg #[.int .u8 k, .int .u64 n]] w (DoOut (oNextA a b) b (oNextV a b) (oNextR a b) w) := by
  unfold oMax at hb
  unfold oraV
  by_cases h : a = b
  · subst h
    have e1 : oNextA a a = a := by simp [oNextA]
    have e2 : oNextV a a = 0 := by simp [oNextV]
    have e3 : oNextR a a = false := by simp [oNextR]
    rw [e1, e2, e3]
    clear e1 e2 e3
    go_enter Try.func10, Try.ntmps10
    go_wp2_with fail
    exact do_end rfl (o3_heap _ _ _ _) rfl (o3_below _ _ _ _) rfl rfl rfl
  · have e1 : oNextA a b = a + 1 := by simp [oNextA, h]
    have e2 : oNextV a b = a + 1 := by simp [oNextV, h]
    have e3 : oNextR a b = true := by simp [oNextR, h]
    rw [e1, e2, e3]
    have hne : ((a : Int) == (b : Int)) = false := by rw [beq_eq_false_iff_ne]; omega
    have hw1 : ((a : Int) + 1) % 18446744073709551616 = (a : Int) + 1 := by omega
    have hw2 : IntKind.u64.wrap ((a : Int) + 1) = (a : Int) + 1 := by simp [IntKind.wrap, IntKind.bits, IntKind.signed]; omega
    clear e1 e2 e3 h
    go_enter Try.func10, Try.ntmps10
    go_wp2_with fail
    go_region
    all_goals
      go_wp2_with fail
      exact do_end rfl (o3_heap _ _ _ _) (by unfold oraC; push_cast; rfl) (o3_below _ _ _ _).drew rfl (by push_cast; rfl) rfl
set_option maxHeartbeats 4000000 in
theorem do_want (a b n k : Nat) (hk : (k : Int) % 4 = 1) (ha : a ≤ b) (hb : b ≤ oMax) (w : World) :
    Calls Try.prog 10 #[oraV a b, .agg #[.int .u8 k, .int .u64 n]] w (DoOut a b (oWantV a b) (oWantR a b) w) := by
  unfold oraV
  by_cases h : a = b
  · subst h
    by_cases h2 : a < oMax
    · have e3 : oWantR a a = true := by simp [oWantR, h2]
      have hne : ((a : Int) == 18446744073709551615) = false := by rw [beq_eq_false_iff_ne]; unfold oMax at h2; omega
      have hw1 : (18446744073709551615 - (a : Int)) % 18446744073709551616 = 18446744073709551615 - (a : Int) := by unfold oMax at h2; omega
      by_cases h3 : oMax - a < 100
      · have e2 : oWantV a a = oMax := by simp [oWantV, h2]; omega
        rw [e2, e3]
        unfold oMax at h2 h3 hb ⊢
        have hlt : 18446744073709551615 - (a : Int) < 100 := by omega
        clear e2 e3
        go_enter Try.func10, Try.ntmps10
        go_wp2_with fail
        exact do_end rfl (o3_heap _ _ _ _) rfl (o3_below _ _ _ _) rfl rfl rfl
      · have e2 : oWantV a a = a + 100 := by simp [oWantV, h2]; omega
        rw [e2, e3]
        unfold oMax at h2 h3 hb
        have hlt : ¬ 18446744073709551615 - (a : Int) < 100 := by omega
        have hw2 : ((a : Int) + 100) % 18446744073709551616 = (a : Int) + 100 := by omega
        clear e2 e3
        go_enter Try.func10, Try.ntmps10
        go_wp2_with fail
        go_region
        all_goals
          go_wp2_with fail
          exact do_end rfl (o3_heap _ _ _ _) rfl (o3_below _ _ _ _).drew rfl (by push_cast; rfl) rfl
    · have e3 : oWantR a a = false := by simp [oWantR, h2]
      have e2 : oWantV a a = 0 := by simp [oWantV, h2]
      rw [e2, e3]
      obtain rfl : a = 18446744073709551615 := by unfold oMax at h2 hb; omega
      clear e2 e3 h2
      go_enter Try.func10, Try.ntmps10
      go_wp2_with fail
      exact do_end rfl (o3_heap _ _ _ _) rfl (o3_below _ _ _ _) rfl rfl rfl
  · have e3 : oWantR a b = false := by simp [oWantR, h]
    have e2 : oWantV a b = 0 := by simp [oWantV, h]
    rw [e2, e3]
    have hne : ((a : Int) == (b : Int)) = false := by rw [beq_eq_false_iff_ne]; omega
    have hne2 : ((a : Int) != (b : Int)) = true := by rw [bne_iff_ne]; omega
    clear e2 e3 h
    go_enter Try.func10, Try.ntmps10
    go_wp2_with fail
    exact do_end rfl (o3_heap _ _ _ _) rfl (o3_below _ _ _ _) rfl rfl rfl
set_option maxHeartbeats 4000000 in
theorem do_noted (a b n k : Nat) (hk : (k : Int) % 4 = 2) (w : World) :
    Calls Try.prog 10 #[oraV a b, .agg #[.int .u8 k, .int .u64 n]] w (DoOut a (max b n) 0 false w) := by
  unfold oraV
  by_cases h : b < n
  · have e1 : max b n = n := by omega
    rw [e1]
    have hlt : (b : Int) < (n : Int) := by omega
    clear e1
    go_enter Try.func10, Try.ntmps10
    go_wp2_with fail
    exact do_end rfl (o3_heap _ _ _ _) rfl (o3_below _ _ _ _) rfl rfl rfl
  · have e1 : max b n = b := by omega
    rw [e1]
    have hlt : ¬ (b : Int) < (n : Int) := by omega
    clear e1
    go_enter Try.func10, Try.ntmps10
    go_wp2_with fail
    exact do_end rfl (o3_heap _ _ _ _) rfl (o3_below _ _ _ _) rfl rfl rfl
set_option maxHeartbeats 4000000 in
theorem do_life (a b n k : Nat) (hk : (k : Int) % 4 = 3) (w : World) :
    Calls Try.prog 10 #[oraV a b, .agg #[.int .u8 k, .int .u64 n]] w (DoOut b b 0 false w) := by
  unfold oraV
  go_enter Try.func10, Try.ntmps10
  go_wp2_with fail
  exact do_end rfl (o3_heap _ _ _ _) rfl (o3_below _ _ _ _) rfl rfl rfl
/-- Do, whatever the call. -/
theorem do_any (a b n k : Nat) (ha : a ≤ b) (hb : b ≤ oMax) (w : World) :
    Calls Try.prog 10 #[oraV a b, .agg #[.int .u8 k, .int .u64 n]] w (DoOut (oA (k % 4) a b) (oB (k % 4) a b n) (oV (k % 4) a b) (oR (k % 4) a b) w) := by
  obtain ⟨q, hq⟩ : ∃ q, q = k % 4 := ⟨_, rfl⟩
  have h4 : q = 0 ∨ q = 1 ∨ q = 2 ∨ q = 3 := by omega
  rw [← hq]
  rcases h4 with rfl | rfl | rfl | rfl
  · exact do_next a b n k (by omega) ha hb w
  · exact do_want a b n k (by omega) ha hb w
  · exact do_noted a b n k (by omega) w
  · exact do_life a b n k (by omega) w
end Go.Proofs.Ytbekgmcchecnkaa
