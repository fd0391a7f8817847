/-
  Joined: DskMath, AppKeep, FrmMakeP, AppOwn.
-/
import Derived.Test.YtbhlgceicfjncaaSet01
import Derived.Below
import Derived.Test.YtbhlgceicfjncaaRows
import Derived.WalkKit
import Derived.Laws.AppendOwn
import Derived.Laws.CopyOwn
import Derived.Laws.Tables
import Derived.Test.YtbhlgceicfjncaaSet10
import Derived.OwnWalk
import Derived.Deep.RegionLaw
namespace Go.Proofs.Ytbhlgceicfjncaa
open Go.RowKit
set_option linter.unusedVariables false
set_option linter.unnecessarySimpa false
set_option linter.unusedSimpArgs false
set_option maxRecDepth 100000

structure DK where
  sure : List (List UInt8)
  seen : List (List UInt8)
  waits : List (Nat × List UInt8)
  fuse : Int

def fullB (c : UInt8) : List UInt8 := List.replicate 64 c
theorem fullB_length (c : UInt8) : (fullB c).length = 64 := by simp [fullB]
def clampD (n : Int) : Nat := if n < 0 then 0 else if 4096 < n then 4096 else n.toNat
def DK.new (n : Nat) : DK := ⟨List.replicate n (fullB 0), List.replicate n (fullB 0), [], -1⟩
def DK.wrote (D : DK) (i : Nat) (b : List UInt8) : DK := ⟨D.sure, D.seen.set i b, D.waits ++ [(i, b)], if 0 < D.fuse then D.fuse - 1 else D.fuse⟩
def DK.synced (D : DK) : DK := ⟨D.seen, D.seen, [], D.fuse⟩
def DK.lit (D : DK) (n : Int) : DK := ⟨D.sure, D.seen, D.waits, if D.fuse = 0 then 0 else max n (-1)⟩
def tear (f : UInt8) : Nat := if f = 255 then 64 else f.toNat % 64
def tornOne (s : List (List UInt8)) (x : Nat × List UInt8) (f : UInt8) : List (List UInt8) := s.set x.1 (x.2.take (tear f) ++ (s.getD x.1 []).drop (tear f))
def torn : List (List UInt8) → List (Nat × List UInt8) → List UInt8 → List (List UInt8)
  | s, x :: l, f :: fs => torn (tornOne s x f) l fs
  | s, _, _ => s
def DK.crashed (D : DK) (fates : List UInt8) : DK := ⟨torn D.sure D.waits fates, torn D.sure D.waits fates, [], -1⟩
structure DK.ok (D : DK) : Prop where
  len : D.sure.length = D.seen.length
  sure : ∀ s ∈ D.sure, s.length = 64
  seen : ∀ s ∈ D.seen, s.length = 64
  waits : ∀ x ∈ D.waits, x.1 < D.seen.length ∧ x.2.length = 64
  fuse : -1 ≤ D.fuse ∧ D.fuse ≤ 9223372036854775807
  small : D.seen.length ≤ 4096

theorem tornOne_length (s : List (List UInt8)) (x : Nat × List UInt8) (f : UInt8) : (tornOne s x f).length = s.length := by simp [tornOne]
theorem tear_le (f : UInt8) : tear f ≤ 64 := by unfold tear; split <;> omega
theorem tornOne_64 {s : List (List UInt8)} {x : Nat × List UInt8} {f : UInt8} (hs : ∀ t ∈ s, t.length = 64) (hx : x.1 < s.length) (h64 : x.2.length = 64) : ∀ t ∈ tornOne s x f, t.length = 64 := by
  intro t ht
  unfold tornOne at ht
  rcases List.mem_or_eq_of_mem_set ht with h | h
  · exact hs t h
  · have h1 : (s.getD x.1 []).length = 64 := by
      rw [List.getD, List.getElem?_eq_getElem hx]; exact hs _ (List.getElem_mem _)
    have := tear_le f
    rw [h, List.length_append, List.length_take, List.length_drop, h64, h1]
    omega
theorem torn_length : ∀ (s : List (List UInt8)) (l : List (Nat × List UInt8)) (fs : List UInt8), (torn s l fs).length = s.length
  | s, [], _ => by cases ‹List UInt8› <;> rfl
  | s, _ :: _, [] => rfl
  | s, x :: l, f :: fs => by rw [torn, torn_length, tornOne_length]
theorem torn_64 : ∀ (s : List (List UInt8)) (l : List (Nat × List UInt8)) (fs : List UInt8), (∀ t ∈ s, t.length = 64) → (∀ x ∈ l, x.1 < s.length ∧ x.2.length = 64) → ∀ t ∈ torn s l fs, t.length = 64
  | s, [], fs, h, _ => by cases fs <;> exact h
  | s, _ :: _, [], h, _ => h
  | s, x :: l, f :: fs, h, hx => by
    rw [torn]
    have h0 := hx x (by simp)
    exact torn_64 _ l fs (tornOne_64 h h0.1 h0.2) (fun y hy => by rw [tornOne_length]; exact hx y (by simp [hy]))

theorem DK.new_ok {n : Nat} (h : n ≤ 4096) : (DK.new n).ok :=
  ⟨rfl, fun s hs => by rw [List.eq_of_mem_replicate hs]; exact fullB_length 0, fun s hs => by rw [List.eq_of_mem_replicate hs]; exact fullB_length 0, fun x hx => absurd hx (by simp [DK.new]), by simp [DK.new], by simpa [DK.new] using h⟩
theorem DK.wrote_ok {D : DK} (h : D.ok) {i : Nat} {b : List UInt8} (hi : i < D.seen.length) (hb : b.length = 64) : (D.wrote i b).ok :=
  ⟨by simp [DK.wrote, h.len], h.sure, fun s hs => (List.mem_or_eq_of_mem_set hs).elim (h.seen s) (fun e => by rw [e, hb]),
    fun x hx => by
      simp only [DK.wrote, List.mem_append, List.mem_singleton, List.length_set] at hx ⊢
      rcases hx with hx | rfl
      · exact h.waits x hx
      · exact ⟨hi, hb⟩,
    by have := h.fuse; show -1 ≤ (if 0 < D.fuse then D.fuse - 1 else D.fuse) ∧ (if 0 < D.fuse then D.fuse - 1 else D.fuse) ≤ 9223372036854775807; split <;> omega, by simpa [DK.wrote] using h.small⟩
theorem DK.synced_ok {D : DK} (h : D.ok) : D.synced.ok := ⟨rfl, h.seen, h.seen, fun x hx => absurd hx (by simp [DK.synced]), h.fuse, h.small⟩
theorem DK.lit_ok {D : DK} (h : D.ok) (n : Int) (hn : n ≤ 9223372036854775807) : (D.lit n).ok :=
  ⟨h.len, h.sure, h.seen, h.waits, by show -1 ≤ (if D.fuse = 0 then 0 else max n (-1)) ∧ (if D.fuse = 0 then 0 else max n (-1)) ≤ 9223372036854775807; split <;> omega, h.small⟩
theorem DK.crashed_ok {D : DK} (h : D.ok) (fs : List UInt8) : (D.crashed fs).ok :=
  ⟨rfl, torn_64 _ _ _ h.sure (fun x hx => by rw [h.len]; exact h.waits x hx), torn_64 _ _ _ h.sure (fun x hx => by rw [h.len]; exact h.waits x hx), fun x hx => absurd hx (by simp [DK.crashed]), by simp [DK.crashed],
    by show (torn _ _ _).length ≤ 4096; rw [torn_length, h.len]; exact h.small⟩

/-- w' is as w, but for what O owned of it; what O' owns is of O, or new. -/
structure Moves (O O' : Nat → Prop) (w w' : World) : Prop where
  os : w'.os = w.os
  tape : w'.tape = w.tape
  output : w'.output = w.output
  size : w.heap.size ≤ w'.heap.size
  block : ∀ k, k < w.heap.size → ¬ O k → w'.heap[k]? = w.heap[k]?
  own : ∀ k, O' k → O k ∨ w.heap.size ≤ k
section
variable {O O' O'' : Nat → Prop} {w w' w'' : World} {B : Nat}
theorem Moves.same (O : Nat → Prop) (w : World) : Moves O O w w := ⟨rfl, rfl, rfl, Nat.le_refl _, fun _ _ _ => rfl, fun _ h => .inl h⟩
theorem Moves.of_below (h : Below w.heap.size w w') : Moves O O w w' := ⟨h.os, h.tape, h.output, h.size, fun k hk _ => h.block k hk, fun _ h => .inl h⟩
theorem Moves.trans (h : Moves O O' w w') (k : Moves O' O'' w' w'') : Moves O O'' w w'' :=
  ⟨k.os.trans h.os, k.tape.trans h.tape, k.output.trans h.output, Nat.le_trans h.size k.size,
    fun i hi hO => (k.block i (Nat.lt_of_lt_of_le hi h.size) (fun hO' => (h.own i hO').elim hO (fun h2 => by omega))).trans (h.block i hi hO),
    fun i hi => (k.own i hi).elim (fun h2 => h.own i h2) (fun h2 => .inr (Nat.le_trans h.size h2))⟩
theorem Moves.below (h : Moves O O' w w') (hO : ∀ k, O k → B ≤ k) (hB : B ≤ w.heap.size) : Below B w w' :=
  ⟨h.os, h.tape, h.output, h.size, fun k hk => h.block k (by omega) (fun hk' => by have := hO k hk'; omega)⟩
theorem Moves.from (h : Moves O O' w w') (hO : ∀ k, O k → B ≤ k) (hB : B ≤ w.heap.size) : ∀ k, O' k → B ≤ k :=
  fun k hk => (h.own k hk).elim (hO k) (fun h2 => Nat.le_trans hB h2)
end
/-- Bytes that a slice has. -/
def BytesAt (w : World) (a : Option Addr) (len : Nat) (l : List UInt8) : Prop :=
  l.length = len ∧ (0 < len → ∃ b off, a = some ⟨b, off, none⟩ ∧ b < w.heap.size ∧ ∀ i, i < len → w.cell? ⟨b, off + i, none⟩ = some (.int .u8 ((l.getD i 0).toNat : Int)))
end Go.Proofs.Ytbhlgceicfjncaa

namespace Go.Proofs.Ytbhlgceicfjncaa
open Go.RowKit
set_option linter.unusedVariables false
set_option linter.unnecessarySimpa false
set_option linter.unusedSimpArgs false
set_option maxRecDepth 100000

structure KeepG (e : TypeId) (s n m : Nat) (xs ys : List Value) (row : Option Nat) (w w' : World) : Prop where
  os : w'.os = w.os
  tape : w'.tape = w.tape
  output : w'.output = w.output
  size : w.heap.size ≤ w'.heap.size
  block : ∀ k, k < w.heap.size → some k ≠ row → w'.heap[k]? = w.heap[k]?
  k2 : ∀ v, w.ownsRow 0 e s v n xs → w'.ownsRow 0 e s v n xs
  k3 : ∀ v, w.ownsRow 0 e s v m ys → w'.ownsRow 0 e s v m ys
theorem own_later {w w' : World} {B e s n : Nat} {v : Value} {xs : List Value} (h : w.ownsRow B e s v n xs) (hb : Below w.heap.size w w') : w'.ownsRow B e s v n xs := by
  refine ⟨h.1, ?_⟩
  rcases h.2 with h2 | ⟨g, cap, cur, e1, h1, h2, h3⟩
  · exact .inl h2
  · exact .inr ⟨g, cap, cur, e1, h1, (hb.block g (Array.getElem?_eq_some_iff.1 h2).1).trans h2, h3⟩
section
variable {e : TypeId} {s n m : Nat} {xs ys : List Value} {row : Option Nat} {w w' w2 : World}
theorem KeepG.refl : KeepG e s n m xs ys row w w := ⟨rfl, rfl, rfl, Nat.le_refl _, fun _ _ _ => rfl, fun _ h => h, fun _ h => h⟩
theorem KeepG.of (hb : Below w.heap.size w w') : KeepG e s n m xs ys row w w' := ⟨hb.os, hb.tape, hb.output, hb.size, fun k hk _ => hb.block k hk, fun _ h => own_later h hb, fun _ h => own_later h hb⟩
theorem KeepG.trans (h : KeepG e s n m xs ys row w w') (g : KeepG e s n m xs ys row w' w2) : KeepG e s n m xs ys row w w2 :=
  ⟨g.os.trans h.os, g.tape.trans h.tape, g.output.trans h.output, Nat.le_trans h.size g.size, fun k hk hn => (g.block k (Nat.lt_of_lt_of_le hk h.size) hn).trans (h.block k hk hn), fun v x => g.k2 v (h.k2 v x), fun v x => g.k3 v (h.k3 v x)⟩
end
theorem run_append_keep {P : Program} (w : World) (t ty e : TypeId) (i : TypeInfo) (z : Value) (size bytes : Nat) (ht : P.underlying t = some (.slice e)) (hi : P.info? e = some i) (hz : i.zero = some z)
    (hsize : i.size = size) (hby : i.bytes = bytes) (hzs : z.cells.size = size) (hsz : 0 < size)
    (v : Value) (n : Nat) (xs : List Value) (hown : w.ownsRow 0 e size v n xs)
    (a : Addr) (m c : Nat) (news : List Value) (hl : news.length = m * size) (hnews : ∀ j u, news[j]? = some u → w.cell? (a.add j) = some u) (h1 : ∀ u ∈ news, u.oneCell' = true)
    (h63 : n + m ≤ maxLen) (hbytes : (n + m) * bytes ≤ 140737488355328) :
    ∃ v' w', (Builtin.append_ #[t, t] ty #[v, .slice (some a) m c]).run P w = .ok v' w' ∧ w'.ownsRow 0 e size v' (n + m) (xs ++ news) ∧ KeepG e size n (n + m) xs (xs ++ news) v.ownBlock w w' ∧
      (∀ k, v'.ownBlock = some k → v.ownBlock = some k ∨ w.heap.size ≤ k) := by
  rcases hown.2 with ⟨rfl, rfl⟩ | ⟨g, cap, cur, rfl, hbg, hg, hnc, hcm, hcs, htake⟩
  · obtain ⟨v', w', hr, h2, h3, _⟩ := run_append_own (P := P) w w.heap.size t ty e i z size bytes ht hi hz hsize hby hzs hsz (.slice none 0 0) 0 xs ⟨hown.1, .inl ⟨rfl, rfl⟩⟩ a m c news hl hnews h1 h63 hbytes (Nat.le_refl _)
    have hb : Below w.heap.size w w' := ⟨h3.os, h3.tape, h3.output, h3.size, fun k hk => h3.block k hk (by simp [Value.ownBlock])⟩
    refine ⟨v', w', hr, ⟨h2.1, ?_⟩, .of hb, fun k hk => .inr (h2.lt k hk).1⟩
    rcases h2.2 with h | ⟨g, cap, cur, hv, _, rest⟩
    · exact .inl h
    · exact .inr ⟨g, cap, cur, hv, Nat.zero_le _, rest⟩
  · subst hsize hby
    have hsmall : n + m ≤ 9223372036854775807 := by simp only [maxLen] at h63; omega
    have hxl : xs.length = n * i.size := hown.1
    have hlen : (xs ++ news).length = (n + m) * i.size := by rw [List.length_append, hxl, hl, Nat.add_mul]
    by_cases hroom : n + m ≤ cap
    · have hfit : n * i.size + news.length ≤ cur.size := by rw [hl, hcs, ← Nat.add_mul]; exact Nat.mul_le_mul_right _ hroom
      have hr := run_append_room (P := P) w t ty e i ht hi g n cap cur hg a m c news hl hnews h1 hroom hfit
      have hcl : cur.toList.length = cur.size := Array.length_toList
      obtain ⟨N, hN⟩ : ∃ N, N = (cur.toList.take (n * i.size) ++ news ++ cur.toList.drop (n * i.size + news.length)).toArray := ⟨_, rfl⟩
      rw [← hN] at hr
      have hNs : N.size = cur.size := by
        rw [hN, List.size_toArray, List.length_append, List.length_append, List.length_take, List.length_drop, hcl]
        omega
      have hN4 : N.toList.take (n * i.size) = xs := by
        rw [hN]
        simp only [List.append_assoc]
        rw [htake, ← hxl]
        exact List.take_left
      have hN5 : N.toList.take ((n + m) * i.size) = xs ++ news := by
        rw [hN, htake, ← hlen]
        exact List.take_left
      have hset := setRow_heap w g cur N _ _ hg
      have kp : ∀ (k : Nat) (zs : List Value) (x : Value), N.toList.take (k * i.size) = zs → w.ownsRow 0 e i.size x k zs → (w.setRow g N).ownsRow 0 e i.size x k zs := fun k zs x hz hx => by
        refine ⟨hx.1, ?_⟩
        rcases hx.2 with hx | ⟨g', c', cur', e1, e2, e3, e4, e5, e6, e7⟩
        · exact .inl hx
        · by_cases hgg : g' = g
          · subst hgg
            rw [hg] at e3
            injection e3 with e3
            injection e3 with e3 _ _
            subst e3
            exact .inr ⟨g', c', N, e1, e2, hset, e4, e5, by rw [hNs]; exact e6, hz⟩
          · exact .inr ⟨g', c', cur', e1, e2, by rw [setRow_other _ _ _ _ hgg]; exact e3, e4, e5, e6, e7⟩
      refine ⟨_, _, hr, ⟨hlen, .inr ⟨g, cap, N, rfl, Nat.zero_le _, hset, hroom, hcm, by rw [hNs]; exact hcs, hN5⟩⟩, ⟨rfl, rfl, rfl, by simp, fun k hk hn => setRow_other _ _ _ _ (fun e => hn (by rw [e]; rfl)), fun x => kp _ _ x hN4, fun x => kp _ _ x hN5⟩, fun k hk => .inl hk⟩
    · have hr := run_append_grow (P := P) w t ty e i z ht hi hz ⟨g, 0, none⟩ n cap xs hxl (hown.cells (g := g) rfl) a m c news hl hnews (by omega) (by omega) (growslice_fits (by omega) hbytes)
      have hge := grownCap_ge w (n + m) cap e
      have hcm2 := grownCap_le_maxLen w (n + m) cap e h63
      have hb : Below w.heap.size w (w.drew.alloc (.cells (xs.toArray ++ news.toArray ++ Builtin.zeroCells z.cells (grownCap w (n + m) cap e - (n + m))) e)) := ((Below.refl _ _).drew).alloc (Nat.le_refl _) _
      refine ⟨_, _, hr, ⟨hlen, .inr ⟨w.heap.size, _, _, rfl, Nat.zero_le _, heap_alloc_new w.drew _, hge, hcm2, ?_, ?_⟩⟩, .of hb, fun k hk => ?_⟩
      · simp only [Array.size_append, List.size_toArray, size_zeroCells, hzs, hxl, hl]
        rw [← Nat.add_mul, ← Nat.add_mul]
        congr 1
        omega
      · simp only [Array.toList_append]
        rw [← hlen]
        exact List.take_left
      · simp only [Value.ownBlock, Option.some.injEq] at hk
        exact .inr (Nat.le_of_eq hk)
/-- 'append(row, x..)' as an operation. -/
theorem wp_appG {P : Program} {op : Oper} {a : Act} {w : World} {K : Act → World → Prop} {Q : Exit → Act → World → Prop} (t : TypeId) (x y : Operand) (ho : op.op = .call { callee := .builtin .append, args := #[x, y], argTypes := #[t, t] })
    (u v v' : Value) (w' : World) (hx : a.eval x = u) (hy : a.eval y = v)
    (hr : (Builtin.append_ #[t, t] op.type #[u, v]).run P w = .ok v' w') (h : K (a.put op.dst v') w') : op.wp P a w K Q := by
  unfold Oper.wp execOp
  simp only [ho, resolve, invoke, builtin, Sem.run_bind, Sem.run_pure, Result.andThen_ok, List.map_toArray, List.map_cons, List.map_nil, hx, hy, hr]
  exact h
theorem cells_one1K {v : Value} (h : v.oneCell' = true) : v.cells = #[v] := by
  cases v <;> first | rfl | simp [Value.oneCell'] at h
theorem wp_store1K {P : Program} {op : Oper} {a : Act} {w : World} {K : Act → World → Prop} {Q : Exit → Act → World → Prop} (ty : TypeId) (x y : Operand) (ho : op.op = .store ty x y) (p : Addr) (v old : Value) (hx : a.eval x = .pointer (some p)) (hy : a.eval y = v)
    (hv : v.oneCell' = true) (hc : w.cell? p = some old) (hf : w.frozen? p = false) (hi : (P.info? ty).map (·.size) = some 1) (h : K (a.put op.dst undef) (w.setCell p v)) : op.wp P a w K Q := by
  have hr : (storeVar ty p v).run P w = .ok () (w.setCell p v) := by
    cases hq : P.info? ty with
    | none => simp [hq] at hi
    | some i =>
      have hs : i.size = 1 := by simpa [hq] using hi
      simp [storeVar, cells_one1K hv, sizeOf, typeInfo, hq, hs, storeCells, run_store P _ _ v _ hv, Addr.add_zero', hc, hf, Result.andThen]
  unfold Oper.wp execOp
  simp only [ho, hx, hy, Instr.storeAt, Instr.sureAddr, Sem.run_bind, Sem.run_pure, Result.andThen_ok, hr]
  exact h
end Go.Proofs.Ytbhlgceicfjncaa

namespace Go.Proofs.Ytbhlgceicfjncaa
open Go.RowKit
set_option linter.unusedVariables false
set_option linter.unnecessarySimpa false
set_option linter.unusedSimpArgs false
set_option maxRecDepth 100000

theorem fixed4 (n : Nat) (w : World) : Calls Try.prog 38 #[.int .u64 n, .int .i64 4, .bool true] w fun e w' => e = .returned (.string ⟨(fx n 4 true).toArray⟩) ∧ Below w.heap.size w w' :=
  fixed_any n 4 true w (by omega) (by omega)

/-- May a payload have so many bytes? -/
def lenOK (n : Nat) : Bool := decide (1 ≤ n) && decide (n ≤ 4000)
set_option maxHeartbeats 800000 in
theorem isLength_yes (n : Nat) (h1 : 1 ≤ n) (h2 : n ≤ 4000) (w : World) : Calls Try.prog 36 #[.int .u64 n] w fun e w' => e = .returned (.bool true) ∧ w = w' := by
  have e1 : (1 : Int) ≤ (n : Int) := by omega
  have e2 : (n : Int) ≤ 4000 := by omega
  clear h1 h2
  go_enter Try.func36, Try.ntmps36
  go_wp2_with fail
  go_ret
  exact ⟨rfl, rfl⟩
set_option maxHeartbeats 800000 in
theorem isLength_no (n : Nat) (h : n < 1 ∨ 4000 < n) (w : World) : Calls Try.prog 36 #[.int .u64 n] w fun e w' => e = .returned (.bool false) ∧ w = w' := by
  rcases h with h | h
  · have e1 : ¬ (1 : Int) ≤ (n : Int) := by omega
    clear h
    go_enter Try.func36, Try.ntmps36
    go_wp2_with fail
    go_ret
    exact ⟨rfl, rfl⟩
  · have e1 : (1 : Int) ≤ (n : Int) := by omega
    have e2 : ¬ (n : Int) ≤ 4000 := by omega
    clear h
    go_enter Try.func36, Try.ntmps36
    go_wp2_with fail
    go_ret
    exact ⟨rfl, rfl⟩

set_option maxHeartbeats 2000000 in
theorem makeLong : MakeLong := fun p w hp hs => by
  have H := Lib.hid (isLength_no p.size hp)
  have hm : (p.size : Int) % 18446744073709551616 = p.size := by omega
  clear hp
  go_enter Try.func22, Try.ntmps22
  go_wp2_with (go_at_call 36; refine (H.out _).mono ?_; rintro e w1 ⟨rfl, rfl⟩)
  go_ret2
  exact ⟨rfl, (Below.refl _ _).alloc (Nat.le_refl _) _⟩

set_option maxHeartbeats 2000000 in
theorem makeOK : MakeOK := fun p w hp1 hp2 => by
  have H := Lib.hid (isLength_yes p.size hp1 hp2)
  have hm : (p.size : Int) % 18446744073709551616 = p.size := by omega
  have H1 := Lib.hid (fixed4 p.size)
  have H2 := Lib.hid (fixed4 (sumB p.data.toList))
  have H3 := Lib.hid (sum_any p (by omega))
  have he := Lib.hid (frmS_eq p)
  have hs := sumB_lt p.data.toList
  obtain ⟨S, hS⟩ : ∃ S, S = sumB p.data.toList := ⟨_, rfl⟩
  rw [← hS] at H2 H3 he hs
  clear hS
  have f1 := fx_length p.size 4 true
  have f2 := fx_length S 4 true
  obtain ⟨F1, hF1⟩ : ∃ F1 : ByteArray, F1 = ⟨(fx p.size 4 true).toArray⟩ := ⟨_, rfl⟩
  obtain ⟨F2, hF2⟩ : ∃ F2 : ByteArray, F2 = ⟨(fx S 4 true).toArray⟩ := ⟨_, rfl⟩
  have g1 : F1.size = 4 := by rw [hF1]; show (fx p.size 4 true).toArray.size = 4; rw [List.size_toArray, f1]
  have g2 : F2.size = 4 := by rw [hF2]; show (fx S 4 true).toArray.size = 4; rw [List.size_toArray, f2]
  rw [← hF1] at H1 he
  rw [← hF2] at H2 he
  have hsz : F1.size + F2.size ≤ 9223372036854775807 := by omega
  have hsz2 : F1.size + F2.size + p.size ≤ 9223372036854775807 := by omega
  clear hF1 hF2 f1 f2 g1 g2 hp1
  have hz : (S : Int) < 4294967296 := by omega
  have hrow := Lib.hid (heap_alloc_last w (.cells tab 28))
  go_enter Try.func22, Try.ntmps22
  go_wp2_with (first
    | (go_at_call 36; refine (H.out _).mono ?_; rintro e w1 ⟨rfl, rfl⟩)
    | (refine wpList_load_row rfl 28 _ rfl w.heap.size rfl 28 tab (0, 0) _ hrow.out Try.underlying28 rfl tableSize ?_; dsimp only [Act.put])
    | (go_at_call 37; refine (H3.out _).mono ?_; rintro e w2 ⟨rfl, hb2⟩)
    | (go_at_call 38; (with_reducible refine (H1.out _).mono ?_); rintro e w3 ⟨rfl, hb3⟩)
    | (go_at_call 38; (with_reducible refine (H2.out _).mono ?_); rintro e w4 ⟨rfl, hb4⟩))
  go_ret2
  have k2 : Below w.heap.size w w2 := ((Below.refl _ _).alloc (Nat.le_refl _) _).trans (hb2.mono (by simp))
  have k3 : Below w.heap.size w w3 := k2.trans (hb3.mono k2.size)
  exact ⟨congrArg (fun x => Ending.returned (Value.tuple #[Value.string x, Value.int .i64 0])) he.out, k3.trans (hb4.mono k3.size)⟩
end Go.Proofs.Ytbhlgceicfjncaa

namespace Go.Proofs.Ytbhlgceicfjncaa
open Go.RowKit
set_option linter.unusedVariables false
set_option linter.unnecessarySimpa false
set_option linter.unusedSimpArgs false
set_option maxRecDepth 100000

theorem run_append_own2 {P : Program} (w : World) (base : Nat) (t ty e : TypeId) (i : TypeInfo) (z : Value) (size bytes : Nat) (ht : P.underlying t = some (.slice e)) (hi : P.info? e = some i) (hz : i.zero = some z)
    (hsize : i.size = size) (hby : i.bytes = bytes) (hzs : z.cells.size = size) (hsz : 0 < size)
    (v : Value) (n : Nat) (xs : List Value) (hown : w.ownsRow base e size v n xs)
    (a : Addr) (m c : Nat) (news : List Value) (hl : news.length = m * size) (hnews : ∀ j u, news[j]? = some u → w.cell? (a.add j) = some u) (h1 : ∀ u ∈ news, u.oneCell' = true)
    (h63 : n + m ≤ maxLen) (hbytes : (n + m) * bytes ≤ 140737488355328) (hbase : base ≤ w.heap.size) :
    ∃ v' w', (Builtin.append_ #[t, t] ty #[v, .slice (some a) m c]).run P w = .ok v' w' ∧ w'.ownsRow base e size v' (n + m) (xs ++ news) ∧ w.grownBy w' v.ownBlock ∧
      (∀ k, v'.ownBlock = some k → v.ownBlock = some k ∨ w.heap.size ≤ k) := by
  rcases hown.2 with ⟨rfl, rfl⟩ | ⟨g, cap, cur, rfl, hbg, hg, hnc, hcm, hcs, htake⟩
  · obtain ⟨v', w', hr, h2, h3, _⟩ := run_append_own (P := P) w w.heap.size t ty e i z size bytes ht hi hz hsize hby hzs hsz (.slice none 0 0) 0 xs ⟨hown.1, .inl ⟨rfl, rfl⟩⟩ a m c news hl hnews h1 h63 hbytes (Nat.le_refl _)
    refine ⟨v', w', hr, ⟨h2.1, ?_⟩, h3, fun k hk => .inr (h2.lt k hk).1⟩
    rcases h2.2 with h | ⟨g, cap, cur, hv, hb, rest⟩
    · exact .inl h
    · exact .inr ⟨g, cap, cur, hv, Nat.le_trans hbase hb, rest⟩
  · obtain ⟨v', w', hr, h2, h3, _⟩ := run_append_own (P := P) w base t ty e i z size bytes ht hi hz hsize hby hzs hsz _ n xs hown a m c news hl hnews h1 h63 hbytes hbase
    refine ⟨v', w', hr, h2, h3, fun k hk => ?_⟩
    subst hsize hby
    have hsmall : n + m ≤ 9223372036854775807 := by simp only [maxLen] at h63; omega
    by_cases hroom : n + m ≤ cap
    · have hfit : n * i.size + news.length ≤ cur.size := by rw [hl, hcs, ← Nat.add_mul]; exact Nat.mul_le_mul_right _ hroom
      have hr2 := run_append_room (P := P) w t ty e i ht hi g n cap cur hg a m c news hl hnews h1 hroom hfit
      rw [hr] at hr2
      injection hr2 with hv _
      subst hv
      exact .inl hk
    · have hr2 := run_append_grow (P := P) w t ty e i z ht hi hz ⟨g, 0, none⟩ n cap xs hown.1 (hown.cells (g := g) rfl) a m c news hl hnews (by omega) (by omega) (growslice_fits (by omega) hbytes)
      rw [hr] at hr2
      injection hr2 with hv _
      subst hv
      simp only [Value.ownBlock, Option.some.injEq] at hk
      subst hk
      exact .inr (Nat.le_refl _)

theorem step_append_own {P : Program} {ops : Array Oper} {o : Oper} {a : Act} {w : World} {K : Act → World → Prop} {Q : Exit → Act → World → Prop} {E : Prop} (hg : o.guard = none) (s x : Operand) (t : TypeId)
    (ho : o.op = .call { callee := .builtin .append, args := #[s, x], argTypes := #[t, t] })
    (base : Nat) (e : TypeId) (i : TypeInfo) (z : Value) (size bytes : Nat) (ht : P.underlying t = some (.slice e)) (hi : P.info? e = some i) (hz : i.zero = some z)
    (hsize : i.size = size) (hby : i.bytes = bytes) (hzs : z.cells.size = size) (hsz : 0 < size)
    (v : Value) (n : Nat) (xs : List Value) (hs : a.eval s = v) (hown : w.ownsRow base e size v n xs)
    (ad : Addr) (m c : Nat) (news : List Value) (hx : a.eval x = .slice (some ad) m c) (hl : news.length = m * size) (hnews : ∀ j u, news[j]? = some u → w.cell? (ad.add j) = some u) (h1 : ∀ u ∈ news, u.oneCell' = true)
    (h63 : n + m ≤ maxLen) (hbytes : (n + m) * bytes ≤ 140737488355328) (hbase : base ≤ w.heap.size)
    (h : ∀ v' w', w'.ownsRow base e size v' (n + m) (xs ++ news) → w.grownBy w' v.ownBlock → (∀ k, v'.ownBlock = some k → v.ownBlock = some k ∨ w.heap.size ≤ k) → K (a.put o.dst v') w') :
    if Region.wanted o (yielded ops a.tmps) = true then Oper.wp P o a w K Q else E := by
  have hw : Region.wanted o (yielded ops a.tmps) = true := by simp [Region.wanted, hg]
  rw [if_pos hw]
  obtain ⟨v', w', hr, h2, h3, h4⟩ := run_append_own2 (P := P) w base t o.type e i z size bytes ht hi hz hsize hby hzs hsz v n xs hown ad m c news hl hnews h1 h63 hbytes hbase
  unfold Oper.wp execOp
  simp only [ho, resolve, invoke, builtin, Sem.run_bind, Sem.run_pure, Result.andThen_ok, List.map_toArray, List.map_cons, List.map_nil, hs, hx, hr]
  exact h v' w' h2 h3 h4
theorem wpList_append_own2 {P : Program} {ops : Array Oper} {rest : List Oper} {o : Oper} {a : Act} {w : World} {Q : Exit → Act → World → Prop} (hgd : o.guard = none) (s x : Operand) (t : TypeId)
    (ho : o.op = .call { callee := .builtin .append, args := #[s, x], argTypes := #[t, t] })
    (base : Nat) (e : TypeId) (i : TypeInfo) (z : Value) (size bytes : Nat) (ht : P.underlying t = some (.slice e)) (hi : P.info? e = some i) (hz : i.zero = some z)
    (hsize : i.size = size) (hby : i.bytes = bytes) (hzs : z.cells.size = size) (hsz : 0 < size)
    (v : Value) (n : Nat) (xs : List Value) (hs : a.eval s = v) (hown : w.ownsRow base e size v n xs)
    (ad : Addr) (m c : Nat) (news : List Value) (hx : a.eval x = .slice (some ad) m c) (hl : news.length = m * size) (hnews : ∀ j u, news[j]? = some u → w.cell? (ad.add j) = some u) (h1 : ∀ u ∈ news, u.oneCell' = true)
    (h63 : n + m ≤ maxLen) (hbytes : (n + m) * bytes ≤ 140737488355328) (hbase : base ≤ w.heap.size)
    (h : ∀ v' w', w'.ownsRow base e size v' (n + m) (xs ++ news) → w.grownBy w' v.ownBlock → (∀ k, v'.ownBlock = some k → v.ownBlock = some k ∨ w.heap.size ≤ k) → wpList P ops Q rest (a.put o.dst v') w') :
    wpList P ops Q (o :: rest) a w := by
  refine wpList_plain hgd fun K hK => ?_
  obtain ⟨v', w', hr, h2, h3, h4⟩ := run_append_own2 (P := P) w base t o.type e i z size bytes ht hi hz hsize hby hzs hsz v n xs hown ad m c news hl hnews h1 h63 hbytes hbase
  unfold Oper.wp execOp
  simp only [ho, resolve, invoke, builtin, Sem.run_bind, Sem.run_pure, Result.andThen_ok, List.map_toArray, List.map_cons, List.map_nil, hs, hx, hr]
  exact hK _ _ (h v' w' h2 h3 h4)
end Go.Proofs.Ytbhlgceicfjncaa
