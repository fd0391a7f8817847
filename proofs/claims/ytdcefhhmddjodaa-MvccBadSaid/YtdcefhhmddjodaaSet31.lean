/-
  Joined: MvcPSmall, MvcPInsert.
-/
import Derived.Test.YtdcefhhmddjodaaSet30
import Derived.Test.YtdcefhhmddjodaaSet26
import Derived.Laws.ResultCell
import Derived.Test.YtdcefhhmddjodaaSet22
import Derived.Test.YtdcefhhmddjodaaSet07
import Derived.Lib.AppendZerosOnto
import Derived.Lib.Overlaps
import Derived.Lib.SlBuf
import Derived.Laws.CopyRow
import Derived.Laws.NewBlocks
import Derived.Deep.RegionLaw
namespace Go.Proofs.Ytdcefhhmddjodaa
open Go.RowKit
set_option linter.unusedVariables false
set_option linter.unnecessarySimpa false
set_option linter.unusedSimpArgs false
set_option maxRecDepth 100000

set_option maxHeartbeats 1000000 in
theorem snew_any (w : World) : Calls Try.prog 9 #[] w fun e w' => ∃ r O, e = .returned (.pointer (some r)) ∧ StAt w' r [] O ∧ Moves (fun _ => False) O w w' := by
  have hb := (Below.refl w.heap.size w).alloc (Nat.le_refl _) (.cells #[.slice none 0 0] 78)
  have hr := heap_alloc_new w (.cells #[.slice none 0 0] 78)
  have HS := Lib.hid (show StM (w.alloc (.cells #[.slice none 0 0] 78)) ⟨w.heap.size, 0, none⟩ w.heap.size none 0 0 [] from
    ⟨rfl, hr, World.ownsRow_nil _ _ _ _, rfl, by omega, fun x hx => (by cases hx), List.Pairwise.nil, by simp [Value.ownBlock]⟩)
  have HB := Lib.hid hb
  clear hb hr
  go_enter Try.func9, Try.ntmps9
  go_wp2_with fail
  go_ret
  refine ⟨_, stO w.heap.size none 0 0 [], rfl, ⟨_, _, _, _, _, HS.out, rfl, good_nil, rfl⟩, ⟨HB.out.os, HB.out.tape, HB.out.output, HB.out.size, fun k hk _ => HB.out.block k hk, ?_⟩⟩
  rintro k (rfl | hk | ⟨x, hx, _⟩)
  · exact .inr (Nat.le_refl _)
  · cases hk
  · cases hx

set_option maxHeartbeats 1000000 in
theorem tooLong_any (key val : ByteArray) (t : Int) (gone : Bool) (w : World) (h1 : key.size ≤ maxLen) (h2 : val.size ≤ maxLen) :
    Calls Try.prog 31 #[.string key, .agg #[.int .u64 t, .bool gone, .string val]] w fun e w' => e = .returned (.bool (decide (100 < key.size) || decide (500 < val.size))) ∧ Below w.heap.size w w' := by
  have HB := Lib.hid ((Below.refl w.heap.size w).alloc (Nat.le_refl _) (.cells #[.int .u64 t, .bool gone, .string val] 35))
  unfold maxLen at h1 h2
  obtain ⟨x, hx⟩ : ∃ x, x = decide (100 < key.size) := ⟨_, rfl⟩
  obtain ⟨y, hy⟩ : ∃ y, y = decide (500 < val.size) := ⟨_, rfl⟩
  have hxz : decide ((100 : Int) < (key.size : Int)) = x := by rw [hx, decide_eq_decide]; omega
  have hyz : decide ((500 : Int) < (val.size : Int)) = y := by rw [hy, decide_eq_decide]; omega
  rw [← hx, ← hy]
  have hx2 := hx.symm
  have hy2 := hy.symm
  clear hx hy
  cases x with
  | true =>
    go_enter Try.func31, Try.ntmps31
    go_wp2_with fail
    go_ret
    exact ⟨rfl, HB.out⟩
  | false =>
    go_enter Try.func31, Try.ntmps31
    go_wp2_with fail
    go_ret
    exact ⟨rfl, HB.out⟩

set_option maxHeartbeats 2000000 in
theorem chainOf_any {w : World} {r : Addr} {b n c : Nat} {a : Option Addr} {l : List EP} {L : List Im} (h : StM w r b a n c l) (ha : accE l = entsM L) (hg : GoodL L) (key : ByteArray) (hk : key.size ≤ maxLen) :
    Calls Try.prog 34 #[.pointer (some r), .string key] w fun e w' => ∃ a' n' c', e = .returned (.slice a' n' c') ∧ IsVers w' a' n' c' (chainOf key L) ∧ Below w.heap.size w w' := by
  have HF := Lib.hid (find_any a n c (entsM L) key w (h.ents ha hg) (by have := h.big; omega) (ents_right hg))
  have hp := h.ptr
  subst hp
  have k0 := h.cell
  have HS := Lib.hid h
  cases hok : fOk (entsM L) key with
  | false =>
    have HC := Lib.hid (find_no hok).2
    rw [hok] at HF
    obtain ⟨i, hi⟩ : ∃ i, i = fAt (entsM L) key := ⟨_, rfl⟩
    rw [← hi] at HF
    clear hi h hok
    go_enter Try.func34, Try.ntmps34
    go_wp2_with (go_at_call 35; (with_reducible refine HF.out.mono ?_); rintro e w1 ⟨rfl, hb1⟩; have HB1 := Lib.hid hb1; clear hb1)
    go_ret
    exact ⟨none, 0, 0, rfl, by rw [HC.out]; exact none_vers _, HB1.out⟩
  | true =>
    obtain ⟨h1, h2⟩ := find_yes hok
    rw [hok] at HF
    obtain ⟨i, hi⟩ : ∃ i, i = fAt (entsM L) key := ⟨_, rfl⟩
    rw [← hi] at HF h1 h2
    rw [acc_len ha] at h1
    rw [acc_get ha h1] at h2
    have hil : i < n := by rw [← h.len]; exact h1
    have hiz : (i : Int) < (n : Int) := by omega
    have HSt := Lib.hid (fun W (hb : Below w.heap.size w W) => And.intro (h.below hb).cell ((h.below hb).at_ h1))
    have HV := Lib.hid (fun W (hb : Below w.heap.size w W) => (h.below hb).vers ha hg (List.getElem_mem h1))
    have HE := Lib.hid (show (l[i]).e.ch = chainOf key L by rw [h2])
    obtain ⟨z, hz⟩ : ∃ z, z = l[i] := ⟨_, rfl⟩
    rw [← hz] at HSt HV HE
    clear hi h hok h2 hz
    go_enter Try.func34, Try.ntmps34
    go_upto_region 2 with (go_at_call 35; (with_reducible refine HF.out.mono ?_); rintro e w1 ⟨rfl, hb1⟩; have HB1 := Lib.hid hb1; clear hb1)
    obtain ⟨d0, g, rfl, hgl, d1, d2, d3⟩ := HSt.out _ HB1.out
    have HVE := Lib.hid (HV.out _ HB1.out)
    clear HSt HV k0 d1 d3
    go_wp2_with fail
    go_ret
    exact ⟨_, _, _, rfl, by rw [← HE.out]; exact HVE.out, HB1.out⟩
theorem chain_right {L : List Im} (hg : GoodL L) (k : ByteArray) : rightB (chainOf k L) = true := by
  unfold rightB
  rw [hg.rise k, Bool.true_and, decide_eq_true_eq]
  exact hg.many k

set_option maxHeartbeats 2000000 in
theorem slast_any {w : World} {r : Addr} {L : List Im} {O : Nat → Prop} (h : StAt w r L O) (key : ByteArray) (hk : key.size ≤ maxLen) :
    Calls Try.prog 16 #[.pointer (some r), .string key] w fun e w' => e = .returned (.int .u64 ((lastOf key L).1 : Int)) ∧ Below w.heap.size w w' := by
  obtain ⟨b, a, n, c, l, h, ha, hg, _⟩ := h
  have HC := Lib.hid (chainOf_any h ha hg key hk)
  have hm := hg.many key
  have hl := Lib.hid (last_end hg key)
  obtain ⟨zs, hzs⟩ : ∃ zs, zs = chainOf key L := ⟨_, rfl⟩
  rw [← hzs] at HC hm hl
  have HVO := Lib.hid (show ∀ (e : Ending) (w' : World), (∃ a' n' c', e = .returned (.slice a' n' c') ∧ IsVers w' a' n' c' zs ∧ Below w.heap.size w w') → ∃ a' c' z, e = .returned (.slice a' zs.length c') ∧ Hid (Below w.heap.size w w') ∧ z = zs.length ∧
      (z = 0 ∨ (0 < z ∧ ∃ g off, a' = some ⟨g, off, none⟩ ∧ w'.cell? ⟨g, off + (z - 1) * 3, none⟩ = some (.int .u64 ((zs.getD (z - 1) vr0).time : Int)))) from fun e w' h => by
    obtain ⟨a', n', c', rfl, hv, hb⟩ := h
    have hn := hv.1.1
    subst hn
    refine ⟨a', c', _, rfl, Lib.hid hb, rfl, ?_⟩
    rcases Nat.eq_zero_or_pos zs.length with h0 | h0
    · exact .inl h0
    · obtain ⟨g, off, e, _, _, _, k0, _, _⟩ := hv.1.2 (zs.length - 1) (by omega)
      exact .inr ⟨h0, g, off, e, k0⟩)
  clear h ha hg hzs
  go_enter Try.func16, Try.ntmps16
  go_upto_region 2 with (go_at_call 34; (with_reducible refine HC.out.mono ?_); intro e w1 h1; obtain ⟨a', c', z, rfl, HB1, hz, hor⟩ := HVO.out e w1 h1; clear h1)
  rcases hor with h0 | ⟨h0, g, off, rfl, k0⟩
  · have hzs : zs = [] := List.eq_nil_of_length_eq_zero (by omega)
    subst hzs
    clear HC HVO hm h0 hz
    go_wp2_with fail
    go_ret
    exact ⟨by rw [hl.out]; rfl, HB1.out⟩
  · have hne : zs ≠ [] := fun e => by rw [e] at hz; simp at hz; omega
    have HT := Lib.hid (endT_last zs 0 hne)
    rw [← hz] at HT hm ⊢
    obtain ⟨T, hT⟩ : ∃ T, T = (zs.getD (z - 1) vr0).time := ⟨_, rfl⟩
    rw [← hT] at HT k0
    have z1 : ((z : Int) == 0) = false := by rw [beq_eq_false_iff_ne]; omega
    have z2 : (z : Int) - 1 = ((z - 1 : Nat) : Int) := by omega
    have z3 : IntKind.i64.wrap ((z : Int) - 1) = ((z - 1 : Nat) : Int) := by rw [z2]; exact IntWalk.i64_in _ (by omega)
    have z4 : ((z - 1 : Nat) : Int) < (z : Int) := by omega
    have z5 : z - 1 < z := by omega
    have z6 : (0 : Int) ≤ ((z - 1 : Nat) : Int) := by omega
    obtain ⟨u, hu⟩ : ∃ u, u = z - 1 := ⟨_, rfl⟩
    rw [← hu] at z2 z3 z4 z5 z6 k0
    clear HC HVO hm h0 hz hne hT hu z2
    go_wp2_with fail
    go_ret
    exact ⟨by rw [hl.out, HT.out]; rfl, HB1.out⟩

set_option maxHeartbeats 2000000 in
theorem sroom_any {w : World} {r : Addr} {L : List Im} {O : Nat → Prop} (h : StAt w r L O) (key : ByteArray) (hk : key.size ≤ maxLen) :
    Calls Try.prog 15 #[.pointer (some r), .string key] w fun e w' => e = .returned (.bool (decide ((lastOf key L).2 < 200))) ∧ Below w.heap.size w w' := by
  obtain ⟨b, a, n, c, l, h, ha, hg, _⟩ := h
  have HC := Lib.hid (chainOf_any h ha hg key hk)
  have hm := hg.many key
  have hl := Lib.hid (lastOf_chain key L).1
  obtain ⟨zs, hzs⟩ : ∃ zs, zs = chainOf key L := ⟨_, rfl⟩
  rw [← hzs] at HC hm hl
  have HVO := Lib.hid (show ∀ (e : Ending) (w' : World), (∃ a' n' c', e = .returned (.slice a' n' c') ∧ IsVers w' a' n' c' zs ∧ Below w.heap.size w w') → ∃ a' c' z, e = .returned (.slice a' z c') ∧ Hid (Below w.heap.size w w') ∧ z = zs.length from fun e w' h => by
    obtain ⟨a', n', c', rfl, hv, hb⟩ := h
    exact ⟨a', c', n', rfl, Lib.hid hb, hv.1.1.symm⟩)
  clear h ha hg hzs
  go_enter Try.func15, Try.ntmps15
  go_wp2_with (go_at_call 34; (with_reducible refine HC.out.mono ?_); intro e w1 h1; obtain ⟨a', c', z, rfl, HB1, hz⟩ := HVO.out e w1 h1; clear h1)
  go_ret
  have hzd : decide ((z : Int) < 200) = decide (z < 200) := by rw [decide_eq_decide]; omega
  exact ⟨by rw [hl.out, ← hz, ← hzd]; rfl, HB1.out⟩

theorem below_setRow {B P : Nat} {w w' : World} {cs : Array Value} (h : Below B w w') (hP : B ≤ P) : Below B w (w'.setRow P cs) :=
  ⟨h.os, h.tape, h.output, by simpa using h.size, fun k hk => (setRow_other w' P k cs (by omega)).trans (h.block k hk)⟩
theorem sat_ret {w : World} {g : Nat} {cs : Array Value} {tmps : Array Value} {ok : Bool} (h : w.heap[g]? = some (.cells cs 35 (0, 0))) (hcs : (Try.prog.info? 35).map (·.size) = some cs.size)
    (hp : tmps.getD 6 undef = .pointer (some ⟨g, 0, none⟩)) (hv : tmps.getD 7 undef = .bool ok) : (results Try.f12 tmps).run Try.prog w = .ok (.tuple #[.agg cs, .bool ok]) w :=
  results_row_tmpM rfl tmps w g 35 cs (0, 0) _ _ hp h Try.underlying35 rfl hcs hv

set_option maxHeartbeats 2000000 in
theorem sat_any {w : World} {r : Addr} {L : List Im} {O : Nat → Prop} (h : StAt w r L O) (key : ByteArray) (t : Nat) (hk : key.size ≤ maxLen) (ht : t < 18446744073709551616) :
    Calls Try.prog 12 #[.pointer (some r), .string key, .int .u64 (t : Int)] w fun e w' => e = .returned (.tuple #[.agg (bestOf key t L).1.cells, .bool (bestOf key t L).2]) ∧ Below w.heap.size w w' := by
  obtain ⟨b, a, n, c, l, h, ha, hg, _⟩ := h
  have hb0 := (Below.refl w.heap.size w).alloc (Nat.le_refl _) (.cells #[.int .u64 0, .bool false, .string ⟨#[]⟩] 35)
  have hr0 := heap_alloc_new w (.cells #[.int .u64 0, .bool false, .string ⟨#[]⟩] 35)
  obtain ⟨w1, hw1⟩ : ∃ w1, w1 = w.alloc (.cells #[.int .u64 0, .bool false, .string ⟨#[]⟩] 35) := ⟨_, rfl⟩
  rw [← hw1] at hb0 hr0
  have HC := Lib.hid (chainOf_any (h.below hb0) ha hg key hk)
  have hr := chain_right hg key
  have hv := fun v hv => (chain_good hg key v hv).1
  have hbest := best_at hg key t
  obtain ⟨zs, hzs⟩ : ∃ zs, zs = chainOf key L := ⟨_, rfl⟩
  rw [← hzs] at HC hr hv hbest
  have HA := Lib.hid (fun a' n' c' W (hz : IsVers W a' n' c' zs) => at_any a' n' c' zs t W hz hr (fun v h2 => by have := hv v h2; omega) ht)
  have hout : atOut (atV zs t) = .tuple #[.agg (bestOf key t L).1.cells, .bool (bestOf key t L).2] := by
    rw [hbest]
    cases atV zs t <;> rfl
  rw [hout] at HA
  obtain ⟨⟨⟨vt, vg, vv⟩, ok⟩, hV⟩ : ∃ V, V = bestOf key t L := ⟨_, rfl⟩
  rw [← hV] at HA ⊢
  unfold Vr.cells at HA ⊢
  have HB0 := Lib.hid hb0
  have hg1 : w.heap.size < w1.heap.size := by rw [hw1]; simp
  obtain ⟨P, hP⟩ : ∃ P, P = w.heap.size := ⟨_, rfl⟩
  rw [← hP] at hr0 hg1
  have HR0 := Lib.hid (fun W (hb : Below w1.heap.size w1 W) => (hb.block P hg1).trans hr0)
  have HPw := Lib.hid (Nat.le_of_eq hP.symm)
  clear h ha hg hr hv hbest hout hV hzs hb0 hr0 hg1
  go_enter Try.func12, Try.ntmps12
  go_upto_region 1 with fail
  rw [← hw1, ← hP]
  clear hw1 hP
  go_wp2_with (first
    | (go_at_call 34; (with_reducible refine HC.out.mono ?_); rintro e w2 ⟨a', n', c', rfl, hv2, hb2⟩; have HV2 := Lib.hid hv2; have HB2 := Lib.hid hb2; clear hv2 hb2)
    | (go_at_call 33; (with_reducible refine (HA.out _ _ _ _ HV2.out).mono ?_); rintro e w3 ⟨rfl, hb3⟩; have HB3 := Lib.hid (HB2.out.trans (hb3.mono HB2.out.size)); have RR := Lib.hid (HR0.out _ HB3.out); clear hb3)
    | (refine wpList_store_row rfl 35 _ _ rfl P #[.int .u64 (vt : Int), .bool vg, .string vv] rfl rfl 35 #[.int .u64 0, .bool false, .string ⟨#[]⟩] RR.out verSizeM rfl (by simp [Value.oneCell']) ?_))
  refine bodyPost_ret (sat_ret (setRow_heap _ _ _ _ _ _ RR.out) verSizeM rfl rfl) rfl ⟨rfl, ?_⟩
  exact below_setRow (HB0.out.trans (HB3.out.mono HB0.out.size)) HPw.out
end Go.Proofs.Ytdcefhhmddjodaa

namespace Go.Proofs.Ytdcefhhmddjodaa
open Go.RowKit
set_option linter.unusedVariables false
set_option linter.unnecessarySimpa false
set_option linter.unusedSimpArgs false
set_option maxRecDepth 100000

theorem run_copy_rowK {P : Program} (w : World) (dT sT ty elem : TypeId) (size : Nat) (g o dLen dCap : Nat) (a : Addr) (sLen sCap m : Nat) (cur : Array Value) (t : TypeId) (cs : List Value)
    (hu : P.underlying dT = some (.slice elem)) (hs : (P.info? elem).map (·.size) = some size)
    (hg : w.heap[g]? = some (.cells cur t (0, 0))) (hm : Nat.min sLen dLen = m) (hn : cs.length = m * size)
    (hsrc : ∀ j v, cs[j]? = some v → w.cell? (a.add j) = some v) (hfit : o + cs.length ≤ cur.size) (h1 : ∀ v ∈ cs, v.oneCell' = true) :
    (Builtin.copy_ #[dT, sT] ty #[.slice (some ⟨g, o, none⟩) dLen dCap, .slice (some a) sLen sCap]).run P w =
      .ok (goInt m) (w.setRow g (cur.toList.take o ++ cs ++ cur.toList.drop (o + cs.length)).toArray) := by
  have hl := run_firstCells_some (P := P) w size m a sLen sCap cs hn hsrc
  have hst := run_storeCells_at P g o t cs 0 cur w hg (by simpa using hfit) h1
  cases hq : P.info? elem with
  | none => simp [hq] at hs
  | some i =>
    have hi : i.size = size := by simpa [hq] using hs
    simp [Builtin.copy_, run_underlying hu, Builtin.lenOf, sizeOf, typeInfo, hq, hi, hm, hl, hst]
/-- 'copy' as one step of a region that draws its order. -/
theorem step_copy_run {P : Program} {ops : Array Oper} {o : Oper} {a : Act} {w : World} {K : Act → World → Prop} {Q : Exit → Act → World → Prop} {E : Prop}
    (hg : o.guard = none) (d x : Operand) (dT sT : TypeId) (hop : o.op = Op.call { callee := Callee.builtin Builtin.copy, args := #[d, x], argTypes := #[dT, sT] })
    (v u : Value) (hd : a.eval d = v) (hx : a.eval x = u) {v' : Value} {w' : World} (hr : (Builtin.copy_ #[dT, sT] o.type #[v, u]).run P w = .ok v' w') (hK : K (a.put o.dst v') w') :
    if Region.wanted o (yielded ops a.tmps) = true then Oper.wp P o a w K Q else E := by
  rw [if_pos (show Region.wanted o (yielded ops a.tmps) = true by simp [Region.wanted, hg])]
  unfold Oper.wp
  simp [execOp, hop, resolve, invoke, builtin, hd, hx, hr, Result.andThen]
  exact hK

theorem entSz : ∀ w, (sizeOf 73).run Try.prog w = .ok 2 w := fun w => by
  obtain ⟨i, hi, h0, h1, h2⟩ := info_parts entInfoP
  simp [sizeOf, typeInfo, hi, h1]
theorem entSz2 : (Try.prog.info? 73).map (·.size) = some 2 := by kernel_rfl
theorem shape_row {w : World} {g : Nat} {cs : Array Value} {t : TypeId} (h : w.heap[g]? = some (.cells cs t (0, 0))) : w.shape? g = some (t, cs.size) := by simp [World.shape?, h]
theorem overlaps_no (w : World) (vb g o : Nat) (vs cur : Array Value) (la ca lb cb : Nat) (hne : vb ≠ g) (hv : w.heap[vb]? = some (.cells vs 73 (0, 0))) (hg : w.heap[g]? = some (.cells cur 73 (0, 0))) (h0 : cur.size ≠ 0) :
    (callFunc 66 #[.slice (some ⟨vb, 0, none⟩) la ca, .slice (some ⟨g, o, none⟩) lb cb]).run Try.prog w = .ok (.value (.bool false)) w := by
  rw [run_callFunc_extern Try.func66 (by kernel_rfl) (by kernel_rfl) (by kernel_rfl) (e := Extern.SlicesOverlaps.overlaps #[59, 59] #[4]) (by kernel_rfl),
    Lib.run_overlaps_apart w 59 4 73 Try.underlying59 2 entSz ⟨vb, 0, none⟩ ⟨g, o, none⟩ la ca lb cb hne _ _ _ _ (shape_row hv) (shape_row hg) h0 (frozen_of_row _ _ _ _ _ hv) (frozen_of_row _ _ _ _ _ hv)]
  rfl
theorem take_seg {xs cur vs : List Value} {i n : Nat} (hi : i ≤ n) (hx : cur.take (n * 2) = xs) (hv : vs.length = 2) (hc : n * 2 ≤ cur.length) :
    let R1 := cur.take ((i + 1) * 2) ++ xs.drop (i * 2) ++ cur.drop ((i + 1) * 2 + (xs.drop (i * 2)).length)
    let R2 := R1.take (i * 2) ++ vs ++ R1.drop (i * 2 + vs.length)
    (n + 1) * 2 ≤ cur.length → R1.length = cur.length ∧ R2.length = cur.length ∧ R2.take ((n + 1) * 2) = xs.take (i * 2) ++ vs ++ xs.drop (i * 2) := by
  intro R1 R2 hr
  have hxl : xs.length = n * 2 := by rw [← hx, List.length_take]; omega
  have hdl : (xs.drop (i * 2)).length = n * 2 - i * 2 := by rw [List.length_drop, hxl]
  have h1 : (cur.take ((i + 1) * 2)).length = (i + 1) * 2 := by rw [List.length_take]; omega
  have l1 : R1.length = cur.length := by
    show (cur.take ((i + 1) * 2) ++ xs.drop (i * 2) ++ cur.drop ((i + 1) * 2 + (xs.drop (i * 2)).length)).length = _
    rw [List.length_append, List.length_append, h1, hdl, List.length_drop]; omega
  have t1 : R1.take (i * 2) = xs.take (i * 2) := by
    show (cur.take ((i + 1) * 2) ++ xs.drop (i * 2) ++ _).take (i * 2) = _
    rw [List.append_assoc, List.take_append_of_le_length (by rw [h1]; omega), List.take_take, ← hx, List.take_take]
    congr 1; omega
  have d1 : R1.drop (i * 2 + vs.length) = xs.drop (i * 2) ++ cur.drop ((i + 1) * 2 + (xs.drop (i * 2)).length) := by
    show (cur.take ((i + 1) * 2) ++ xs.drop (i * 2) ++ _).drop (i * 2 + vs.length) = _
    rw [List.append_assoc, hv, show i * 2 + 2 = (cur.take ((i + 1) * 2)).length by rw [h1]; omega, List.drop_left]
  refine ⟨l1, ?_, ?_⟩
  · show (R1.take (i * 2) ++ vs ++ R1.drop (i * 2 + vs.length)).length = _
    rw [List.length_append, List.length_append, List.length_take, List.length_drop, l1]; omega
  · show (R1.take (i * 2) ++ vs ++ R1.drop (i * 2 + vs.length)).take ((n + 1) * 2) = _
    rw [t1, d1, ← List.append_assoc]
    have hl : (xs.take (i * 2) ++ vs ++ xs.drop (i * 2)).length = (n + 1) * 2 := by
      rw [List.length_append, List.length_append, hdl, List.length_take, hxl, hv]; omega
    rw [← hl]
    exact List.take_left

set_option maxHeartbeats 4000000 in
/-- There is room, and the place is ahead of the end. -/
theorem insert_shift (B g n cap i vb vc : Nat) (xs vs : List Value) (w : World) (hi : i < n) (hn : n ≤ 100000) (hroom : n + 1 ≤ cap) (hown : w.ownsRow B 73 2 (.slice (some ⟨g, 0, none⟩) n cap) n xs) (hx1 : ∀ u ∈ xs, u.oneCell' = true)
    (hvb : vb ≠ g) (hvr : w.heap[vb]? = some (.cells vs.toArray 73 (0, 0))) (hvl : vs.length = 2) (hv1 : ∀ u ∈ vs, u.oneCell' = true) :
    Calls Try.prog 47 #[.slice (some ⟨g, 0, none⟩) n cap, .int .i64 (i : Int), .slice (some ⟨vb, 0, none⟩) 1 vc] w fun e w' =>
      e = .returned (.slice (some ⟨g, 0, none⟩) (n + 1) cap) ∧ w'.ownsRow B 73 2 (.slice (some ⟨g, 0, none⟩) (n + 1) cap) (n + 1) (xs.take (i * 2) ++ vs ++ xs.drop (i * 2)) ∧ w.grownBy w' (some g) := by
  rcases hown.2 with ⟨h', _⟩ | ⟨g', cap', cur, h', hbg, hg, hnc, hcm, hcs, htake⟩
  · cases h'
  injection h' with e1 e2 e3
  injection e1 with e1
  injection e1 with e1
  subst e1 e3
  have hcl : cur.toList.length = cap * 2 := by simpa using hcs
  have hxl : xs.length = n * 2 := hown.1
  obtain ⟨l1, l2, l3⟩ := take_seg (i := i) (by omega) htake hvl (by omega) (by omega)
  obtain ⟨R1, hR1⟩ : ∃ R1, R1 = cur.toList.take ((i + 1) * 2) ++ xs.drop (i * 2) ++ cur.toList.drop ((i + 1) * 2 + (xs.drop (i * 2)).length) := ⟨_, rfl⟩
  rw [← hR1] at l1 l2 l3
  obtain ⟨R2, hR2⟩ : ∃ R2, R2 = R1.take (i * 2) ++ vs ++ R1.drop (i * 2 + vs.length) := ⟨_, rfl⟩
  rw [← hR2] at l2 l3
  have hdl : (xs.drop (i * 2)).length = (n - i) * 2 := by rw [List.length_drop, hxl]; omega
  have hga : ∀ (j k : Nat), (⟨g, j, none⟩ : Addr).add k = ⟨g, j + k, none⟩ := fun j k => by unfold Addr.add; split <;> simp_all
  have hva : ∀ (k : Nat), (⟨vb, 0, none⟩ : Addr).add k = ⟨vb, k, none⟩ := fun k => by unfold Addr.add; split <;> simp_all
  have hcp1 := Lib.hid (show ∀ ty dc sc, (Builtin.copy_ #[59, 59] ty #[.slice (some ⟨g, (i + 1) * 2, none⟩) (n - i) dc, .slice (some ⟨g, i * 2, none⟩) (n + 1 - i) sc]).run Try.prog w.drew = .ok (goInt ((n - i : Nat) : Int)) (w.drew.setRow g R1.toArray) from fun ty dc sc => by
    rw [hR1]
    exact run_copy_rowK w.drew _ _ ty 73 2 g ((i + 1) * 2) _ dc ⟨g, i * 2, none⟩ _ sc (n - i) cur 73 (xs.drop (i * 2)) Try.underlying59 entSz2 hg (by simp only [Nat.min_def]; split <;> omega) hdl
      (fun j v hj => by
        rw [hga]
        show w.cell? _ = _
        rw [cell_of_row _ _ _ _ _ _ hg]
        rw [List.getElem?_drop, ← htake, List.getElem?_take] at hj
        split at hj
        · simpa using hj
        · cases hj)
      (by rw [hdl, hcs]; omega) (fun v hv => hx1 v (List.mem_of_mem_drop hv)))
  have hg1 : (w.drew.setRow g R1.toArray).heap[g]? = some (.cells R1.toArray 73 (0, 0)) := setRow_heap w.drew g cur _ _ _ hg
  have hv1r : (w.drew.setRow g R1.toArray).heap[vb]? = some (.cells vs.toArray 73 (0, 0)) := (setRow_other w.drew g vb _ hvb).trans hvr
  have hcp2 := Lib.hid (show ∀ ty dc, (Builtin.copy_ #[59, 59] ty #[.slice (some ⟨g, i * 2, none⟩) (n + 1 - i) dc, .slice (some ⟨vb, 0, none⟩) 1 vc]).run Try.prog (w.drew.setRow g R1.toArray) = .ok (goInt 1) ((w.drew.setRow g R1.toArray).setRow g R2.toArray) from fun ty dc => by
    rw [hR2]
    exact run_copy_rowK _ _ _ ty 73 2 g (i * 2) _ dc ⟨vb, 0, none⟩ 1 vc 1 R1.toArray 73 vs Try.underlying59 entSz2 hg1 (by simp only [Nat.min_def]; split <;> omega) (by omega)
      (fun j v hj => by rw [hva, cell_of_row _ _ _ _ _ _ hv1r]; simpa using hj) (by simp only [List.size_toArray]; omega) hv1)
  have hov := fun lb cb => overlaps_no w vb g ((i + 1) * 2) vs.toArray cur 1 vc lb cb hvb hvr hg (by omega)
  have HE := Lib.hid (show ((w.drew.setRow g R1.toArray).setRow g R2.toArray).ownsRow B 73 2 (.slice (some ⟨g, 0, none⟩) (n + 1) cap) (n + 1) (xs.take (i * 2) ++ vs ++ xs.drop (i * 2)) ∧ w.grownBy ((w.drew.setRow g R1.toArray).setRow g R2.toArray) (some g) from by
    refine ⟨⟨?_, .inr ⟨g, cap, R2.toArray, rfl, hbg, setRow_heap _ g _ _ _ _ hg1, hroom, hcm, by simp only [List.size_toArray]; omega, by simpa using l3⟩⟩, ⟨rfl, rfl, rfl, by simp, fun k hk hne => ?_⟩⟩
    · rw [← l3, List.length_take, l2]; omega
    · have hk2 : k ≠ g := fun e => hne (by rw [e])
      rw [setRow_other _ g k _ hk2, setRow_other _ g k _ hk2]; rfl)
  have hz2 : ¬ ((i : Int) = (n : Int)) := by omega
  have hz3 : ¬ ((cap : Int) < (n : Int) + 1) := by omega
  have hw1 : IntKind.i64.wrap ((i : Int) + 1) = (i : Int) + 1 := by rw [IntKind.wrap_i64]; omega
  have hb1 : (0 : Int) ≤ (i : Int) + 1 := by omega
  have hin : i ≤ n := by omega
  have htn : ((i : Int) + 1).toNat = i + 1 := by omega
  have hb2 : ¬ (cap = i + 1) := by omega
  have hb3 : (i : Int) ≤ (n : Int) + 1 := by omega
  have hb4 : ¬ (cap = i) := by omega
  clear hown hcs htake hcl hxl hR1 hR2 hdl l1 l2 l3 hg1 hv1r hg hvr hx1 hv1 hga hva hnc hcm hbg
  go_enter Try.func47, Try.ntmps47
  go_wp2_with (simp only [hov])
  go_region_law (refine step_copy_run rfl _ _ 59 59 rfl _ _ (by simp [Act.eval, Act.put]) (by simp [Act.eval, Act.put]) (hcp1.out _ (cap - (i + 1)) (cap - i)) ?_)
  go_wp2_with (refine Lib.wpList_copy_run _ rfl (.tmp 80) (.tmp 81) 59 59 rfl _ _ rfl rfl (hcp2.out _ (cap - i)) ?_; dsimp only [Act.put]; simp only [Array.setIfInBounds_def]; go_simp)
  go_ret
  exact ⟨rfl, HE.out⟩
end Go.Proofs.Ytdcefhhmddjodaa
