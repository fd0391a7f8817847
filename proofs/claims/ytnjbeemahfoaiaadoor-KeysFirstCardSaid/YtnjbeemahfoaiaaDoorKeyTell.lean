/-
  The walks of the program's tellPlain, tell, isNone: what an item is told to be.
-/
import Derived.Test.YtnjbeemahfoaiaaDoorKeyBad
import Derived.ProofKit
import Derived.WalkSpells
import Derived.WalkLawsBesides
namespace Go.Proofs.YtnjbeemahfoaiaaDoor
open Go.RowKit
set_option linter.unusedVariables false
set_option linter.unusedSimpArgs false
set_option linter.unnecessarySimpa false
set_option maxRecDepth 100000

/-- What is told of an item: the first byte, the number, the text. -/
def tFirst : KV → Nat
  | .nil => 16
  | .bool false => 32
  | .bool true => 33
  | .int _ => 48
  | .uint _ => 64
  | .text _ => 80
def tNum : KV → Nat
  | .int n => up63 n
  | .uint n => n
  | _ => 0
def tText : KV → ByteArray
  | .text s => s
  | _ => ByteArray.empty
def told (x : KV × Bool) : Array Value := #[.bool x.2, .int .u8 (tFirst x.1), .int .u64 (tNum x.1), .string (tText x.1)]
def noTold (d : Bool) : Array Value := #[.bool d, .int .u8 0, .int .u64 0, .string ByteArray.empty]

theorem up63_wrap {n : Int} (h : -9223372036854775808 ≤ n ∧ n < 9223372036854775808) : IntKind.u64.wrap (IntKind.u64.wrap n + 9223372036854775808) = ((up63 n : Nat) : Int) := by
  rw [IntKind.wrap_u64, IntKind.wrap_u64]; unfold up63; omega

/-! What each assertion says of a value of each dynamic type. -/
@[go_sem] theorem as_nil_bool (w : World) : (Instr.typeAssert .nilIface 20 4 true).run Tryd.prog w = .ok (.tuple #[.bool false, .bool false]) w := by kernel_rfl
@[go_sem] theorem as_bool_bool (v : Value) (w : World) : (Instr.typeAssert (.iface 4 v) 20 4 true).run Tryd.prog w = .ok (.tuple #[v, .bool true]) w := by kernel_rfl
@[go_sem] theorem as_i64_bool (v : Value) (w : World) : (Instr.typeAssert (.iface 2 v) 20 4 true).run Tryd.prog w = .ok (.tuple #[.bool false, .bool false]) w := by kernel_rfl
@[go_sem] theorem as_u64_bool (v : Value) (w : World) : (Instr.typeAssert (.iface 34 v) 20 4 true).run Tryd.prog w = .ok (.tuple #[.bool false, .bool false]) w := by kernel_rfl
@[go_sem] theorem as_str_bool (v : Value) (w : World) : (Instr.typeAssert (.iface 9 v) 20 4 true).run Tryd.prog w = .ok (.tuple #[.bool false, .bool false]) w := by kernel_rfl
@[go_sem] theorem as_down_bool (v : Value) (w : World) : (Instr.typeAssert (.iface 44 v) 20 4 true).run Tryd.prog w = .ok (.tuple #[.bool false, .bool false]) w := by kernel_rfl
@[go_sem] theorem as_int_bool (v : Value) (w : World) : (Instr.typeAssert (.iface 3 v) 20 4 true).run Tryd.prog w = .ok (.tuple #[.bool false, .bool false]) w := by kernel_rfl
@[go_sem] theorem as_bts_bool (v : Value) (w : World) : (Instr.typeAssert (.iface 42 v) 20 4 true).run Tryd.prog w = .ok (.tuple #[.bool false, .bool false]) w := by kernel_rfl
@[go_sem] theorem as_i32_bool (v : Value) (w : World) : (Instr.typeAssert (.iface 21 v) 20 4 true).run Tryd.prog w = .ok (.tuple #[.bool false, .bool false]) w := by kernel_rfl
@[go_sem] theorem as_ptr_bool (v : Value) (w : World) : (Instr.typeAssert (.iface 45 v) 20 4 true).run Tryd.prog w = .ok (.tuple #[.bool false, .bool false]) w := by kernel_rfl
@[go_sem] theorem as_nil_i64 (w : World) : (Instr.typeAssert .nilIface 20 2 true).run Tryd.prog w = .ok (.tuple #[.int .i64 0, .bool false]) w := by kernel_rfl
@[go_sem] theorem as_bool_i64 (v : Value) (w : World) : (Instr.typeAssert (.iface 4 v) 20 2 true).run Tryd.prog w = .ok (.tuple #[.int .i64 0, .bool false]) w := by kernel_rfl
@[go_sem] theorem as_i64_i64 (v : Value) (w : World) : (Instr.typeAssert (.iface 2 v) 20 2 true).run Tryd.prog w = .ok (.tuple #[v, .bool true]) w := by kernel_rfl
@[go_sem] theorem as_u64_i64 (v : Value) (w : World) : (Instr.typeAssert (.iface 34 v) 20 2 true).run Tryd.prog w = .ok (.tuple #[.int .i64 0, .bool false]) w := by kernel_rfl
@[go_sem] theorem as_str_i64 (v : Value) (w : World) : (Instr.typeAssert (.iface 9 v) 20 2 true).run Tryd.prog w = .ok (.tuple #[.int .i64 0, .bool false]) w := by kernel_rfl
@[go_sem] theorem as_down_i64 (v : Value) (w : World) : (Instr.typeAssert (.iface 44 v) 20 2 true).run Tryd.prog w = .ok (.tuple #[.int .i64 0, .bool false]) w := by kernel_rfl
@[go_sem] theorem as_int_i64 (v : Value) (w : World) : (Instr.typeAssert (.iface 3 v) 20 2 true).run Tryd.prog w = .ok (.tuple #[.int .i64 0, .bool false]) w := by kernel_rfl
@[go_sem] theorem as_bts_i64 (v : Value) (w : World) : (Instr.typeAssert (.iface 42 v) 20 2 true).run Tryd.prog w = .ok (.tuple #[.int .i64 0, .bool false]) w := by kernel_rfl
@[go_sem] theorem as_i32_i64 (v : Value) (w : World) : (Instr.typeAssert (.iface 21 v) 20 2 true).run Tryd.prog w = .ok (.tuple #[.int .i64 0, .bool false]) w := by kernel_rfl
@[go_sem] theorem as_ptr_i64 (v : Value) (w : World) : (Instr.typeAssert (.iface 45 v) 20 2 true).run Tryd.prog w = .ok (.tuple #[.int .i64 0, .bool false]) w := by kernel_rfl
@[go_sem] theorem as_nil_u64 (w : World) : (Instr.typeAssert .nilIface 20 34 true).run Tryd.prog w = .ok (.tuple #[.int .u64 0, .bool false]) w := by kernel_rfl
@[go_sem] theorem as_bool_u64 (v : Value) (w : World) : (Instr.typeAssert (.iface 4 v) 20 34 true).run Tryd.prog w = .ok (.tuple #[.int .u64 0, .bool false]) w := by kernel_rfl
@[go_sem] theorem as_i64_u64 (v : Value) (w : World) : (Instr.typeAssert (.iface 2 v) 20 34 true).run Tryd.prog w = .ok (.tuple #[.int .u64 0, .bool false]) w := by kernel_rfl
@[go_sem] theorem as_u64_u64 (v : Value) (w : World) : (Instr.typeAssert (.iface 34 v) 20 34 true).run Tryd.prog w = .ok (.tuple #[v, .bool true]) w := by kernel_rfl
@[go_sem] theorem as_str_u64 (v : Value) (w : World) : (Instr.typeAssert (.iface 9 v) 20 34 true).run Tryd.prog w = .ok (.tuple #[.int .u64 0, .bool false]) w := by kernel_rfl
@[go_sem] theorem as_down_u64 (v : Value) (w : World) : (Instr.typeAssert (.iface 44 v) 20 34 true).run Tryd.prog w = .ok (.tuple #[.int .u64 0, .bool false]) w := by kernel_rfl
@[go_sem] theorem as_int_u64 (v : Value) (w : World) : (Instr.typeAssert (.iface 3 v) 20 34 true).run Tryd.prog w = .ok (.tuple #[.int .u64 0, .bool false]) w := by kernel_rfl
@[go_sem] theorem as_bts_u64 (v : Value) (w : World) : (Instr.typeAssert (.iface 42 v) 20 34 true).run Tryd.prog w = .ok (.tuple #[.int .u64 0, .bool false]) w := by kernel_rfl
@[go_sem] theorem as_i32_u64 (v : Value) (w : World) : (Instr.typeAssert (.iface 21 v) 20 34 true).run Tryd.prog w = .ok (.tuple #[.int .u64 0, .bool false]) w := by kernel_rfl
@[go_sem] theorem as_ptr_u64 (v : Value) (w : World) : (Instr.typeAssert (.iface 45 v) 20 34 true).run Tryd.prog w = .ok (.tuple #[.int .u64 0, .bool false]) w := by kernel_rfl
@[go_sem] theorem as_nil_str (w : World) : (Instr.typeAssert .nilIface 20 9 true).run Tryd.prog w = .ok (.tuple #[.string ByteArray.empty, .bool false]) w := by kernel_rfl
@[go_sem] theorem as_bool_str (v : Value) (w : World) : (Instr.typeAssert (.iface 4 v) 20 9 true).run Tryd.prog w = .ok (.tuple #[.string ByteArray.empty, .bool false]) w := by kernel_rfl
@[go_sem] theorem as_i64_str (v : Value) (w : World) : (Instr.typeAssert (.iface 2 v) 20 9 true).run Tryd.prog w = .ok (.tuple #[.string ByteArray.empty, .bool false]) w := by kernel_rfl
@[go_sem] theorem as_u64_str (v : Value) (w : World) : (Instr.typeAssert (.iface 34 v) 20 9 true).run Tryd.prog w = .ok (.tuple #[.string ByteArray.empty, .bool false]) w := by kernel_rfl
@[go_sem] theorem as_str_str (v : Value) (w : World) : (Instr.typeAssert (.iface 9 v) 20 9 true).run Tryd.prog w = .ok (.tuple #[v, .bool true]) w := by kernel_rfl
@[go_sem] theorem as_down_str (v : Value) (w : World) : (Instr.typeAssert (.iface 44 v) 20 9 true).run Tryd.prog w = .ok (.tuple #[.string ByteArray.empty, .bool false]) w := by kernel_rfl
@[go_sem] theorem as_int_str (v : Value) (w : World) : (Instr.typeAssert (.iface 3 v) 20 9 true).run Tryd.prog w = .ok (.tuple #[.string ByteArray.empty, .bool false]) w := by kernel_rfl
@[go_sem] theorem as_bts_str (v : Value) (w : World) : (Instr.typeAssert (.iface 42 v) 20 9 true).run Tryd.prog w = .ok (.tuple #[.string ByteArray.empty, .bool false]) w := by kernel_rfl
@[go_sem] theorem as_i32_str (v : Value) (w : World) : (Instr.typeAssert (.iface 21 v) 20 9 true).run Tryd.prog w = .ok (.tuple #[.string ByteArray.empty, .bool false]) w := by kernel_rfl
@[go_sem] theorem as_ptr_str (v : Value) (w : World) : (Instr.typeAssert (.iface 45 v) 20 9 true).run Tryd.prog w = .ok (.tuple #[.string ByteArray.empty, .bool false]) w := by kernel_rfl
@[go_sem] theorem as_nil_down (w : World) : (Instr.typeAssert .nilIface 20 44 true).run Tryd.prog w = .ok (.tuple #[.agg #[.nilIface], .bool false]) w := by kernel_rfl
@[go_sem] theorem as_bool_down (v : Value) (w : World) : (Instr.typeAssert (.iface 4 v) 20 44 true).run Tryd.prog w = .ok (.tuple #[.agg #[.nilIface], .bool false]) w := by kernel_rfl
@[go_sem] theorem as_i64_down (v : Value) (w : World) : (Instr.typeAssert (.iface 2 v) 20 44 true).run Tryd.prog w = .ok (.tuple #[.agg #[.nilIface], .bool false]) w := by kernel_rfl
@[go_sem] theorem as_u64_down (v : Value) (w : World) : (Instr.typeAssert (.iface 34 v) 20 44 true).run Tryd.prog w = .ok (.tuple #[.agg #[.nilIface], .bool false]) w := by kernel_rfl
@[go_sem] theorem as_str_down (v : Value) (w : World) : (Instr.typeAssert (.iface 9 v) 20 44 true).run Tryd.prog w = .ok (.tuple #[.agg #[.nilIface], .bool false]) w := by kernel_rfl
@[go_sem] theorem as_down_down (v : Value) (w : World) : (Instr.typeAssert (.iface 44 v) 20 44 true).run Tryd.prog w = .ok (.tuple #[v, .bool true]) w := by kernel_rfl
@[go_sem] theorem as_int_down (v : Value) (w : World) : (Instr.typeAssert (.iface 3 v) 20 44 true).run Tryd.prog w = .ok (.tuple #[.agg #[.nilIface], .bool false]) w := by kernel_rfl
@[go_sem] theorem as_bts_down (v : Value) (w : World) : (Instr.typeAssert (.iface 42 v) 20 44 true).run Tryd.prog w = .ok (.tuple #[.agg #[.nilIface], .bool false]) w := by kernel_rfl
@[go_sem] theorem as_i32_down (v : Value) (w : World) : (Instr.typeAssert (.iface 21 v) 20 44 true).run Tryd.prog w = .ok (.tuple #[.agg #[.nilIface], .bool false]) w := by kernel_rfl
@[go_sem] theorem as_ptr_down (v : Value) (w : World) : (Instr.typeAssert (.iface 45 v) 20 44 true).run Tryd.prog w = .ok (.tuple #[.agg #[.nilIface], .bool false]) w := by kernel_rfl

set_option maxHeartbeats 4000000 in
theorem plain_nil (w : World) :
    Calls Tryd.prog 30 #[.nilIface] w fun e w' => e = .returned (.tuple #[.agg #[.bool false, .int .u8 16, .int .u64 0, .string ByteArray.empty], .bool true]) ∧ Below w.heap.size w w' := by
  have hB := Lib.hid (fun (o : Obj) => (Below.refl w.heap.size w).alloc (Nat.le_refl _) o)
  go_enter Tryd.func30, Tryd.ntmps30
  go_wp2
  exact bodyPost_ret (v := .tuple #[.agg #[.bool false, .int .u8 16, .int .u64 0, .string ByteArray.empty], .bool true]) (by simp [results, Tryd.results30, go_sem]; rfl) rfl ⟨rfl, hB.out _⟩
set_option maxHeartbeats 4000000 in
theorem plain_false (w : World) :
    Calls Tryd.prog 30 #[.iface 4 (.bool false)] w fun e w' => e = .returned (.tuple #[.agg #[.bool false, .int .u8 32, .int .u64 0, .string ByteArray.empty], .bool true]) ∧ Below w.heap.size w w' := by
  have hB := Lib.hid (fun (o : Obj) => (Below.refl w.heap.size w).alloc (Nat.le_refl _) o)
  go_enter Tryd.func30, Tryd.ntmps30
  go_wp2
  exact bodyPost_ret (v := .tuple #[.agg #[.bool false, .int .u8 32, .int .u64 0, .string ByteArray.empty], .bool true]) (by simp [results, Tryd.results30, go_sem]; rfl) rfl ⟨rfl, hB.out _⟩
set_option maxHeartbeats 4000000 in
theorem plain_true (w : World) :
    Calls Tryd.prog 30 #[.iface 4 (.bool true)] w fun e w' => e = .returned (.tuple #[.agg #[.bool false, .int .u8 33, .int .u64 0, .string ByteArray.empty], .bool true]) ∧ Below w.heap.size w w' := by
  have hB := Lib.hid (fun (o : Obj) => (Below.refl w.heap.size w).alloc (Nat.le_refl _) o)
  go_enter Tryd.func30, Tryd.ntmps30
  go_wp2
  exact bodyPost_ret (v := .tuple #[.agg #[.bool false, .int .u8 33, .int .u64 0, .string ByteArray.empty], .bool true]) (by simp [results, Tryd.results30, go_sem]; rfl) rfl ⟨rfl, hB.out _⟩
set_option maxHeartbeats 4000000 in
theorem plain_int (n : Int) (h1 : -9223372036854775808 ≤ n) (h2 : n < 9223372036854775808) (w : World) :
    Calls Tryd.prog 30 #[.iface 2 (.int .i64 n)] w fun e w' => e = .returned (.tuple #[.agg #[.bool false, .int .u8 48, .int .u64 (up63 n : Nat), .string ByteArray.empty], .bool true]) ∧ Below w.heap.size w w' := by
  have hB := Lib.hid (fun (o : Obj) => (Below.refl w.heap.size w).alloc (Nat.le_refl _) o)
  have HU := Lib.hid (up63_wrap ⟨h1, h2⟩)
  go_enter Tryd.func30, Tryd.ntmps30
  go_wp2
  exact bodyPost_ret (v := .tuple #[.agg #[.bool false, .int .u8 48, .int .u64 (up63 n : Nat), .string ByteArray.empty], .bool true]) (by simp [results, Tryd.results30, go_sem]; exact ⟨HU.out, rfl⟩) rfl ⟨rfl, hB.out _⟩
set_option maxHeartbeats 4000000 in
theorem plain_uint (n : Nat) (h1 : n < 18446744073709551616) (w : World) :
    Calls Tryd.prog 30 #[.iface 34 (.int .u64 n)] w fun e w' => e = .returned (.tuple #[.agg #[.bool false, .int .u8 64, .int .u64 n, .string ByteArray.empty], .bool true]) ∧ Below w.heap.size w w' := by
  have hB := Lib.hid (fun (o : Obj) => (Below.refl w.heap.size w).alloc (Nat.le_refl _) o)
  go_enter Tryd.func30, Tryd.ntmps30
  go_wp2
  exact bodyPost_ret (v := .tuple #[.agg #[.bool false, .int .u8 64, .int .u64 n, .string ByteArray.empty], .bool true]) (by simp [results, Tryd.results30, go_sem]; rfl) rfl ⟨rfl, hB.out _⟩
set_option maxHeartbeats 4000000 in
theorem plain_text (s : ByteArray) (w : World) :
    Calls Tryd.prog 30 #[.iface 9 (.string s)] w fun e w' => e = .returned (.tuple #[.agg #[.bool false, .int .u8 80, .int .u64 0, .string s], .bool true]) ∧ Below w.heap.size w w' := by
  have hB := Lib.hid (fun (o : Obj) => (Below.refl w.heap.size w).alloc (Nat.le_refl _) o)
  go_enter Tryd.func30, Tryd.ntmps30
  go_wp2
  exact bodyPost_ret (v := .tuple #[.agg #[.bool false, .int .u8 80, .int .u64 0, .string s], .bool true]) (by simp [results, Tryd.results30, go_sem]) rfl ⟨rfl, hB.out _⟩
set_option maxHeartbeats 4000000 in
theorem plain_bad1 (n : Int) (w : World) :
    Calls Tryd.prog 30 #[.iface 3 (.int .i64 n)] w fun e w' => e = .returned (.tuple #[.agg #[.bool false, .int .u8 0, .int .u64 0, .string ByteArray.empty], .bool false]) ∧ Below w.heap.size w w' := by
  have hB := Lib.hid (fun (o : Obj) => (Below.refl w.heap.size w).alloc (Nat.le_refl _) o)
  go_enter Tryd.func30, Tryd.ntmps30
  go_wp2
  exact bodyPost_ret (v := .tuple #[.agg #[.bool false, .int .u8 0, .int .u64 0, .string ByteArray.empty], .bool false]) (by simp [results, Tryd.results30, go_sem]; rfl) rfl ⟨rfl, hB.out _⟩
set_option maxHeartbeats 4000000 in
theorem plain_bad2 (a : Option Addr) (l c : Nat) (w : World) :
    Calls Tryd.prog 30 #[.iface 42 (.slice a l c)] w fun e w' => e = .returned (.tuple #[.agg #[.bool false, .int .u8 0, .int .u64 0, .string ByteArray.empty], .bool false]) ∧ Below w.heap.size w w' := by
  have hB := Lib.hid (fun (o : Obj) => (Below.refl w.heap.size w).alloc (Nat.le_refl _) o)
  go_enter Tryd.func30, Tryd.ntmps30
  go_wp2
  exact bodyPost_ret (v := .tuple #[.agg #[.bool false, .int .u8 0, .int .u64 0, .string ByteArray.empty], .bool false]) (by simp [results, Tryd.results30, go_sem]; rfl) rfl ⟨rfl, hB.out _⟩
set_option maxHeartbeats 4000000 in
theorem plain_bad3 (x : Value) (w : World) :
    Calls Tryd.prog 30 #[.iface 44 x] w fun e w' => e = .returned (.tuple #[.agg #[.bool false, .int .u8 0, .int .u64 0, .string ByteArray.empty], .bool false]) ∧ Below w.heap.size w w' := by
  have hB := Lib.hid (fun (o : Obj) => (Below.refl w.heap.size w).alloc (Nat.le_refl _) o)
  go_enter Tryd.func30, Tryd.ntmps30
  go_wp2
  exact bodyPost_ret (v := .tuple #[.agg #[.bool false, .int .u8 0, .int .u64 0, .string ByteArray.empty], .bool false]) (by simp [results, Tryd.results30, go_sem]; rfl) rfl ⟨rfl, hB.out _⟩
set_option maxHeartbeats 4000000 in
theorem plain_bad4 (n : Int) (w : World) :
    Calls Tryd.prog 30 #[.iface 21 (.int .i32 n)] w fun e w' => e = .returned (.tuple #[.agg #[.bool false, .int .u8 0, .int .u64 0, .string ByteArray.empty], .bool false]) ∧ Below w.heap.size w w' := by
  have hB := Lib.hid (fun (o : Obj) => (Below.refl w.heap.size w).alloc (Nat.le_refl _) o)
  go_enter Tryd.func30, Tryd.ntmps30
  go_wp2
  exact bodyPost_ret (v := .tuple #[.agg #[.bool false, .int .u8 0, .int .u64 0, .string ByteArray.empty], .bool false]) (by simp [results, Tryd.results30, go_sem]; rfl) rfl ⟨rfl, hB.out _⟩
set_option maxHeartbeats 4000000 in
theorem plain_bad5 (a : Option Addr) (w : World) :
    Calls Tryd.prog 30 #[.iface 45 (.pointer a)] w fun e w' => e = .returned (.tuple #[.agg #[.bool false, .int .u8 0, .int .u64 0, .string ByteArray.empty], .bool false]) ∧ Below w.heap.size w w' := by
  have hB := Lib.hid (fun (o : Obj) => (Below.refl w.heap.size w).alloc (Nat.le_refl _) o)
  go_enter Tryd.func30, Tryd.ntmps30
  go_wp2
  exact bodyPost_ret (v := .tuple #[.agg #[.bool false, .int .u8 0, .int .u64 0, .string ByteArray.empty], .bool false]) (by simp [results, Tryd.results30, go_sem]; rfl) rfl ⟨rfl, hB.out _⟩

theorem tellPlain_any (v : KV) (hv : v.ok) (w : World) :
    Calls Tryd.prog 30 #[anyV v] w fun e w' => e = .returned (.tuple #[.agg (told (v, false)), .bool true]) ∧ Below w.heap.size w w' := by
  cases v with
  | nil => exact plain_nil w
  | bool b => cases b; exact plain_false w; exact plain_true w
  | int n => exact plain_int n hv.1 hv.2 w
  | uint n => exact plain_uint n hv w
  | text s => exact plain_text s w

/-- What tellPlain answers. -/
def Tells (u : Value) (a : Int) (n : Int) (s : ByteArray) (ok : Bool) : Prop :=
  ∀ w, Calls Tryd.prog 30 #[u] w fun e w' => e = .returned (.tuple #[.agg #[.bool false, .int .u8 a, .int .u64 n, .string s], .bool ok]) ∧ Below w.heap.size w w'

theorem bcell {W w1 : World} (hb : Below W.heap.size W w1) : (∀ b o, b < W.heap.size → w1.cell? ⟨b, o, none⟩ = W.cell? ⟨b, o, none⟩) ∧ (∀ b o, b < W.heap.size → w1.frozen? ⟨b, o, none⟩ = W.frozen? ⟨b, o, none⟩) :=
  ⟨fun b o h => hb.cell (p := ⟨b, o, none⟩) h, fun b o h => hb.frozen (p := ⟨b, o, none⟩) h⟩

/-- A struct's cell and a slot, read at the end. -/
theorem results_row_tmp {P : Program} {fn : Func} {p u : Tmp} {ty : TypeId} (h : fn.results = #[.cell p ty, .tmp u]) (tmps : Array Value) (w : World) (g : Nat) (t : TypeId) (cs : Array Value) (fr : Nat × Nat) (d : TypeDesc) (v : Value)
    (hp : tmps.getD p undef = .pointer (some ⟨g, 0, none⟩)) (hg : w.heap[g]? = some (.cells cs t fr))
    (hu : P.underlying ty = some d) (hd : (match d with | .struct _ | .array _ _ => true | _ => false) = true) (hi : (P.info? ty).map (·.size) = some cs.size) (hv : tmps.getD u undef = v) :
    (results fn tmps).run P w = .ok (.tuple #[.agg cs, v]) w := by
  rw [results_cell_tmp h, hp, hv]
  simp [asAddr, run_loadVar_row w g t ty cs fr d hg hu hd hi, Result.andThen]
theorem alloc_two (w : World) (o o' : Obj) : ((w.alloc o).alloc o').heap[w.heap.size]? = some o := by
  rw [((Below.refl _ (w.alloc o)).alloc (Nat.le_refl _) o').block w.heap.size (by simp), heap_alloc_new]
theorem alloc_three (w : World) (o o' o'' : Obj) : (((w.alloc o).alloc o').alloc o'').heap[w.heap.size]? = some o := by
  rw [((Below.refl _ ((w.alloc o).alloc o')).alloc (Nat.le_refl _) o'').block w.heap.size (by simp; omega), alloc_two]
/-- A result's cell, filled field by field. -/
theorem row_filled {w : World} {g : Nat} {d d' : Bool} {a a' n n' : Int} {s s' : ByteArray} (h : w.heap[g]? = some (.cells #[.bool d, .int .u8 a, .int .u64 n, .string s] 49 (0, 0))) :
    ((((w.setCell ⟨g, 0, none⟩ (.bool d')).setCell ⟨g, 1, none⟩ (.int .u8 a')).setCell ⟨g, 2, none⟩ (.int .u64 n')).setCell ⟨g, 3, none⟩ (.string s')).heap[g]? = some (.cells #[.bool d', .int .u8 a', .int .u64 n', .string s'] 49 (0, 0)) := by
  rw [heap_setCell_same _ _ _ _ _ _ (heap_setCell_same _ _ _ _ _ _ (heap_setCell_same _ _ _ _ _ _ (heap_setCell_same _ _ _ _ _ _ h)))]
  rfl
theorem row_ret {w : World} {g : Nat} {d : Bool} {a n : Int} {s : ByteArray} {fn : Func} {p u : Tmp} {tmps : Array Value} {v : Value} (h : w.heap[g]? = some (.cells #[.bool d, .int .u8 a, .int .u64 n, .string s] 49 (0, 0)))
    (hf : fn.results = #[.cell p 49, .tmp u]) (hp : tmps.getD p undef = .pointer (some ⟨g, 0, none⟩)) (hv : tmps.getD u undef = v) :
    (results fn tmps).run Tryd.prog w = .ok (.tuple #[.agg #[.bool d, .int .u8 a, .int .u64 n, .string s], v]) w :=
  results_row_tmp hf tmps w g _ _ _ _ v hp h Tryd.underlying49 rfl (by kernel_rfl) hv

set_option maxHeartbeats 4000000 in
theorem tell_plain (u : Value) (a n : Int) (s : ByteArray) (ok : Bool) (ht : Tells u a n s ok) (hu : ∀ w, (Instr.typeAssert u 20 44 true).run Tryd.prog w = .ok (.tuple #[.agg #[.nilIface], .bool false]) w) (w : World) :
    Calls Tryd.prog 17 #[u] w fun e w' => e = .returned (.tuple #[.agg #[.bool false, .int .u8 a, .int .u64 n, .string s], .bool ok]) ∧ Below w.heap.size w w' := by
  have HT := Lib.hid ht
  unfold Tells at HT
  clear ht
  go_enter Tryd.func17, Tryd.ntmps17
  go_wp2_with (go_at_call 30; refine (HT.out _).mono ?_; rintro e w1 ⟨rfl, hb1⟩; obtain ⟨hc, hf⟩ := bcell hb1)
  have h0 := (hb1.block w.heap.size (by simp; omega)).trans (alloc_two _ _ _)
  exact bodyPost_ret (row_ret (row_filled h0) rfl rfl rfl) rfl ⟨rfl, (((((((Below.refl _ _).alloc (Nat.le_refl _) _).alloc (by simp) _).trans (hb1.mono (by simp; omega))).setCell (by simp) _).setCell (by simp) _).setCell (by simp) _).setCell (by simp) _⟩

theorem row_kept {w : World} {g : Nat} {o : Obj} (h : w.heap[g]? = some o) (o' : Obj) : (w.alloc o').heap[g]? = some o := by
  rw [((Below.refl _ w).alloc (Nat.le_refl _) o').block g (Array.getElem?_eq_some_iff.1 h).1, h]
set_option maxHeartbeats 4000000 in
theorem tell_down0 (a n : Int) (s : ByteArray) (ok : Bool) (ht : Tells .nilIface a n s ok) (w : World) :
    Calls Tryd.prog 17 #[.iface 44 (.agg #[.nilIface])] w fun e w' => e = .returned (.tuple #[.agg #[.bool true, .int .u8 a, .int .u64 n, .string s], .bool ok]) ∧ Below w.heap.size w w' := by
  have HT := Lib.hid ht
  unfold Tells at HT
  clear ht
  go_enter Tryd.func17, Tryd.ntmps17
  go_wp2_with (go_at_call 30; refine (HT.out _).mono ?_; rintro e w1 ⟨rfl, hb1⟩; obtain ⟨hc, hf⟩ := bcell hb1; have hz : w.heap.size + 1 < w1.heap.size := (by have := hb1.size; simp at this; omega); have hz0 : w.heap.size < w1.heap.size := (by omega))
  have h0 := (hb1.block w.heap.size (by simp; omega)).trans (alloc_two _ _ _)
  exact bodyPost_ret (row_ret (row_kept (row_filled h0) _) rfl rfl rfl) rfl ⟨rfl, ((((((((Below.refl _ _).alloc (Nat.le_refl _) _).alloc (by simp) _).trans (hb1.mono (by simp; omega))).setCell (by simp) _).setCell (by simp) _).setCell (by simp) _).setCell (by simp) _).alloc (by simp; omega) _⟩

set_option maxHeartbeats 4000000 in
theorem tell_down1 (t : TypeId) (v : Value) (a n : Int) (s : ByteArray) (ok : Bool) (ht : Tells (.iface t v) a n s ok) (w : World) :
    Calls Tryd.prog 17 #[.iface 44 (.agg #[.iface t v])] w fun e w' => e = .returned (.tuple #[.agg #[.bool true, .int .u8 a, .int .u64 n, .string s], .bool ok]) ∧ Below w.heap.size w w' := by
  have HT := Lib.hid ht
  unfold Tells at HT
  clear ht
  go_enter Tryd.func17, Tryd.ntmps17
  go_wp2_with (go_at_call 30; refine (HT.out _).mono ?_; rintro e w1 ⟨rfl, hb1⟩; obtain ⟨hc, hf⟩ := bcell hb1; have hz : w.heap.size + 1 < w1.heap.size := (by have := hb1.size; simp at this; omega); have hz0 : w.heap.size < w1.heap.size := (by omega))
  have h0 := (hb1.block w.heap.size (by simp; omega)).trans (alloc_two _ _ _)
  exact bodyPost_ret (row_ret (row_kept (row_filled h0) _) rfl rfl rfl) rfl ⟨rfl, ((((((((Below.refl _ _).alloc (Nat.le_refl _) _).alloc (by simp) _).trans (hb1.mono (by simp; omega))).setCell (by simp) _).setCell (by simp) _).setCell (by simp) _).setCell (by simp) _).alloc (by simp; omega) _⟩

end Go.Proofs.YtnjbeemahfoaiaaDoor
