/-
  Joined: MsgFieldVer, MsgFieldWs.
-/
import Derived.Test.YtbhlgceicfjncaaSet04
namespace Go.Proofs.Ytbhlgceicfjncaa
open Go.RowKit
set_option linter.unusedVariables false
set_option linter.unnecessarySimpa false
set_option linter.unusedSimpArgs false
set_option maxRecDepth 100000

set_option maxHeartbeats 8000000 in
theorem field_8 (m : Mg) (sl : Value) (hm : m.sane) (w : World) : Calls Try.prog 45 #[.agg (m.cells sl), .int .i64 8] w (FieldIs m 8 w.heap.size w) := by
  have hx := field_ix8
  have ht64 := hm.fits.time
  have hvs := hm.few.val
  have hX : fldX m 8 = ub m.time ++ bl m.gone ++ m.val.data.toList := by unfold fldX; rw [if_pos rfl]
  have hS : (fld m 8).isSome = !verZeroM m := by rw [fld_8]; cases verZeroM m <;> rfl
  obtain ⟨X, hX0⟩ : ∃ X, X = fldX m 8 := ⟨_, rfl⟩
  unfold FieldIs
  rw [← hX0, hS]
  rw [← hX0] at hX
  unfold verZeroM
  clear hS hX0 hm
  obtain ⟨kind, frm, to_, node, life, seq, a, b, key, found, time, gone, val, ws, note, hint, must⟩ := m
  simp only at hX ht64 hvs
  have hu := Lib.hid (refUint_any time ht64)
  have hgn := Lib.hid (gone_any gone)
  have hs1 := ub_size' time ht64
  obtain ⟨U, hU⟩ : ∃ U : ByteArray, U = ⟨(ub time).toArray⟩ := ⟨_, rfl⟩
  obtain ⟨G, hG⟩ : ∃ U : ByteArray, U = ⟨(bl gone).toArray⟩ := ⟨_, rfl⟩
  have hs2 : G.size = 1 := by rw [hG]; cases gone <;> rfl
  have hadd := Lib.hid (show U ++ G ++ val = ⟨X.toArray⟩ by rw [hX, hU, hG]; apply ByteArray.ext; simp)
  rw [← hU] at hu hs1
  rw [← hG] at hgn
  have ha1 : U.size + G.size ≤ 9223372036854775807 := by omega
  have ha2 : (U ++ G).size + val.size ≤ 9223372036854775807 := by rw [ByteArray.size_append]; omega
  clear hX hU hG hs2
  by_cases h1 : time = 0
  · subst h1
    cases gone
    · by_cases h2 : val.size = 0
      · obtain rfl := ba_empty h2
        clear h2
        show Calls _ _ _ w fun e w' => e = .returned (.tuple #[.string ⟨X.toArray⟩, .bool false]) ∧ Below w.heap.size w w'
        have hcells : ∀ x : Like (w.alloc (.cells #[.int .i64 kind, .int .i64 frm, .int .i64 to_, .int .i64 node, .int .i64 life, .int .i64 seq, .int .u64 a, .int .u64 b, .string key, .bool found, .int .u64 0, .bool false, .string ByteArray.empty, sl, .string note, .int .u64 hint, .int .u64 must] 38)).heap.size (w.alloc (.cells #[.int .i64 kind, .int .i64 frm, .int .i64 to_, .int .i64 node, .int .i64 life, .int .i64 seq, .int .u64 a, .int .u64 b, .string key, .bool found, .int .u64 0, .bool false, .string ByteArray.empty, sl, .string note, .int .u64 hint, .int .u64 must] 38)), x.val.cell? ⟨w.heap.size, 10, none⟩ = some (.int .u64 0) ∧ x.val.cell? ⟨w.heap.size, 11, none⟩ = some (.bool false) ∧ x.val.cell? ⟨w.heap.size, 12, none⟩ = some (.string ByteArray.empty) := fun x => by
          have hb := x.below.block w.heap.size (by simp)
          rw [heap_alloc_new] at hb
          simp [World.cell?, hb]
        have hc10 := fun x => (hcells x).1
        have hc11 := fun x => (hcells x).2.1
        have hc12 := fun x => (hcells x).2.2
        clear hcells
        show Calls _ _ #[.agg #[.int .i64 kind, .int .i64 frm, .int .i64 to_, .int .i64 node, .int .i64 life, .int .i64 seq, .int .u64 a, .int .u64 b, .string key, .bool found, .int .u64 0, .bool false, .string ByteArray.empty, sl, .string note, .int .u64 hint, .int .u64 must], .int .i64 8] w _
        go_enter Try.func45, Try.ntmps45
        go_upto_region 14 with fail
        refine region_likes (by kernel_rfl) (by kernel_rfl) ?_
        repeat (go_big_quiet_step (first
          | (go_at_call 44; exact calls_likes (Like.size _) (hu.out _))
          | (go_at_call 71; exact calls_likes_same ((hgn.out _).mono fun _ _ hh => ⟨hh.1, hh.2.symm⟩))))
        refine wpQuiet_nil ?_
        intro x
        have hbx := Lib.hid (show Below w.heap.size w x.val from ((Below.refl _ _).alloc (Nat.le_refl _) _).trans (x.below.mono (by simp)))
        go_wp2_with fail
        go_ret2
        exact ⟨congrArg (fun z => Ending.returned (.tuple #[.string z, .bool false])) (by simpa using hadd.out), hbx.out⟩
      · obtain ⟨k1, k2, k3⟩ := ba_some h2
        have hr : (!((0 : Nat) == 0 && !false && val.size == 0)) = true := by simp [h2]
        show Calls _ _ _ w fun e w' => e = .returned (.tuple #[.string ⟨X.toArray⟩, .bool (!((0 : Nat) == 0 && !false && val.size == 0))]) ∧ Below w.heap.size w w'
        rw [hr]
        clear h2 hr
        have hcells : ∀ x : Like (w.alloc (.cells #[.int .i64 kind, .int .i64 frm, .int .i64 to_, .int .i64 node, .int .i64 life, .int .i64 seq, .int .u64 a, .int .u64 b, .string key, .bool found, .int .u64 0, .bool false, .string val, sl, .string note, .int .u64 hint, .int .u64 must] 38)).heap.size (w.alloc (.cells #[.int .i64 kind, .int .i64 frm, .int .i64 to_, .int .i64 node, .int .i64 life, .int .i64 seq, .int .u64 a, .int .u64 b, .string key, .bool found, .int .u64 0, .bool false, .string val, sl, .string note, .int .u64 hint, .int .u64 must] 38)), x.val.cell? ⟨w.heap.size, 10, none⟩ = some (.int .u64 0) ∧ x.val.cell? ⟨w.heap.size, 11, none⟩ = some (.bool false) ∧ x.val.cell? ⟨w.heap.size, 12, none⟩ = some (.string val) := fun x => by
          have hb := x.below.block w.heap.size (by simp)
          rw [heap_alloc_new] at hb
          simp [World.cell?, hb]
        have hc10 := fun x => (hcells x).1
        have hc11 := fun x => (hcells x).2.1
        have hc12 := fun x => (hcells x).2.2
        clear hcells
        show Calls _ _ #[.agg #[.int .i64 kind, .int .i64 frm, .int .i64 to_, .int .i64 node, .int .i64 life, .int .i64 seq, .int .u64 a, .int .u64 b, .string key, .bool found, .int .u64 0, .bool false, .string val, sl, .string note, .int .u64 hint, .int .u64 must], .int .i64 8] w _
        go_enter Try.func45, Try.ntmps45
        go_upto_region 14 with fail
        refine region_likes (by kernel_rfl) (by kernel_rfl) ?_
        repeat (go_big_quiet_step (first
          | (go_at_call 44; exact calls_likes (Like.size _) (hu.out _))
          | (go_at_call 71; exact calls_likes_same ((hgn.out _).mono fun _ _ hh => ⟨hh.1, hh.2.symm⟩))))
        refine wpQuiet_nil ?_
        intro x
        have hbx := Lib.hid (show Below w.heap.size w x.val from ((Below.refl _ _).alloc (Nat.le_refl _) _).trans (x.below.mono (by simp)))
        go_wp2_with fail
        go_ret2
        exact ⟨congrArg (fun z => Ending.returned (.tuple #[.string z, .bool true])) hadd.out, hbx.out⟩
    · show Calls _ _ _ w fun e w' => e = .returned (.tuple #[.string ⟨X.toArray⟩, .bool true]) ∧ Below w.heap.size w w'
      have hcells : ∀ x : Like (w.alloc (.cells #[.int .i64 kind, .int .i64 frm, .int .i64 to_, .int .i64 node, .int .i64 life, .int .i64 seq, .int .u64 a, .int .u64 b, .string key, .bool found, .int .u64 0, .bool true, .string val, sl, .string note, .int .u64 hint, .int .u64 must] 38)).heap.size (w.alloc (.cells #[.int .i64 kind, .int .i64 frm, .int .i64 to_, .int .i64 node, .int .i64 life, .int .i64 seq, .int .u64 a, .int .u64 b, .string key, .bool found, .int .u64 0, .bool true, .string val, sl, .string note, .int .u64 hint, .int .u64 must] 38)), x.val.cell? ⟨w.heap.size, 10, none⟩ = some (.int .u64 0) ∧ x.val.cell? ⟨w.heap.size, 11, none⟩ = some (.bool true) ∧ x.val.cell? ⟨w.heap.size, 12, none⟩ = some (.string val) := fun x => by
        have hb := x.below.block w.heap.size (by simp)
        rw [heap_alloc_new] at hb
        simp [World.cell?, hb]
      have hc10 := fun x => (hcells x).1
      have hc11 := fun x => (hcells x).2.1
      have hc12 := fun x => (hcells x).2.2
      clear hcells
      show Calls _ _ #[.agg #[.int .i64 kind, .int .i64 frm, .int .i64 to_, .int .i64 node, .int .i64 life, .int .i64 seq, .int .u64 a, .int .u64 b, .string key, .bool found, .int .u64 0, .bool true, .string val, sl, .string note, .int .u64 hint, .int .u64 must], .int .i64 8] w _
      go_enter Try.func45, Try.ntmps45
      go_upto_region 14 with fail
      refine region_likes (by kernel_rfl) (by kernel_rfl) ?_
      repeat (go_big_quiet_step (first
        | (go_at_call 44; exact calls_likes (Like.size _) (hu.out _))
        | (go_at_call 71; exact calls_likes_same ((hgn.out _).mono fun _ _ hh => ⟨hh.1, hh.2.symm⟩))))
      refine wpQuiet_nil ?_
      intro x
      have hbx := Lib.hid (show Below w.heap.size w x.val from ((Below.refl _ _).alloc (Nat.le_refl _) _).trans (x.below.mono (by simp)))
      go_wp2_with fail
      go_ret2
      exact ⟨congrArg (fun z => Ending.returned (.tuple #[.string z, .bool true])) hadd.out, hbx.out⟩
  · have hr : (!(time == 0 && !gone && val.size == 0)) = true := by simp [h1]
    have hq : ((time : Int) != 0) = true := by rw [bne_iff_ne]; omega
    show Calls _ _ _ w fun e w' => e = .returned (.tuple #[.string ⟨X.toArray⟩, .bool (!(time == 0 && !gone && val.size == 0))]) ∧ Below w.heap.size w w'
    rw [hr]
    clear h1 hr
    have hcells : ∀ x : Like (w.alloc (.cells #[.int .i64 kind, .int .i64 frm, .int .i64 to_, .int .i64 node, .int .i64 life, .int .i64 seq, .int .u64 a, .int .u64 b, .string key, .bool found, .int .u64 time, .bool gone, .string val, sl, .string note, .int .u64 hint, .int .u64 must] 38)).heap.size (w.alloc (.cells #[.int .i64 kind, .int .i64 frm, .int .i64 to_, .int .i64 node, .int .i64 life, .int .i64 seq, .int .u64 a, .int .u64 b, .string key, .bool found, .int .u64 time, .bool gone, .string val, sl, .string note, .int .u64 hint, .int .u64 must] 38)), x.val.cell? ⟨w.heap.size, 10, none⟩ = some (.int .u64 time) ∧ x.val.cell? ⟨w.heap.size, 11, none⟩ = some (.bool gone) ∧ x.val.cell? ⟨w.heap.size, 12, none⟩ = some (.string val) := fun x => by
      have hb := x.below.block w.heap.size (by simp)
      rw [heap_alloc_new] at hb
      simp [World.cell?, hb]
    have hc10 := fun x => (hcells x).1
    have hc11 := fun x => (hcells x).2.1
    have hc12 := fun x => (hcells x).2.2
    clear hcells
    show Calls _ _ #[.agg #[.int .i64 kind, .int .i64 frm, .int .i64 to_, .int .i64 node, .int .i64 life, .int .i64 seq, .int .u64 a, .int .u64 b, .string key, .bool found, .int .u64 time, .bool gone, .string val, sl, .string note, .int .u64 hint, .int .u64 must], .int .i64 8] w _
    go_enter Try.func45, Try.ntmps45
    go_upto_region 14 with fail
    refine region_likes (by kernel_rfl) (by kernel_rfl) ?_
    repeat (go_big_quiet_step (first
      | (go_at_call 44; exact calls_likes (Like.size _) (hu.out _))
      | (go_at_call 71; exact calls_likes_same ((hgn.out _).mono fun _ _ hh => ⟨hh.1, hh.2.symm⟩))))
    refine wpQuiet_nil ?_
    intro x
    have hbx := Lib.hid (show Below w.heap.size w x.val from ((Below.refl _ _).alloc (Nat.le_refl _) _).trans (x.below.mono (by simp)))
    go_wp2_with fail
    go_ret2
    exact ⟨congrArg (fun z => Ending.returned (.tuple #[.string z, .bool true])) hadd.out, hbx.out⟩
end Go.Proofs.Ytbhlgceicfjncaa

namespace Go.Proofs.Ytbhlgceicfjncaa
open Go.RowKit
set_option linter.unusedVariables false
set_option linter.unnecessarySimpa false
set_option linter.unusedSimpArgs false
set_option maxRecDepth 100000

theorem wsB_upto {l : List Wr} {i : Nat} (h : i < l.length) : wsB (l.take (i + 1)) = wsB (l.take i) ++ wrB (l.getD i wr0) := by
  unfold wsB
  rw [List.take_add_one, List.getElem?_eq_getElem h, List.flatMap_append]
  simp only [Option.toList_some, List.flatMap_cons, List.flatMap_nil, List.append_nil]
  simp [List.getD, List.getElem?_eq_getElem h]
theorem wsB_len (l : List Wr) (h : ∀ w ∈ l, w.key.size ≤ 5000 ∧ w.val.size ≤ 5000) : (wsB l).length ≤ 10021 * l.length := by
  induction l with
  | nil => simp [wsB]
  | cons x l ih =>
    have h1 := h x (by simp)
    have h2 := ih (fun w hw => h w (by simp [hw]))
    have u1 := ub_len10 (n := x.key.size) (by omega)
    have u2 := ub_len10 (n := x.val.size) (by omega)
    have e : wsB (x :: l) = wrB x ++ wsB l := rfl
    rw [e, List.length_append, List.length_cons]
    simp only [wrB, txB, bl, List.length_append, List.length_cons, List.length_nil, ← Lib.size_eq]
    omega
theorem getD_memM {l : List Wr} {i : Nat} (h : i < l.length) : l.getD i wr0 ∈ l := by
  simp only [List.getD, List.getElem?_eq_getElem h]
  exact List.getElem_mem h

set_option maxHeartbeats 8000000 in
theorem field_9 (m : Mg) (sl : Value) (hm : m.sane) (w : World) (hw : WsAt w sl m.ws) : Calls Try.prog 45 #[.agg (m.cells sl), .int .i64 9] w (FieldIs m 9 w.heap.size w) := by
  have hx := field_ix9
  have hX : fldX m 9 = ub m.ws.length ++ wsB m.ws := by unfold fldX; rw [if_neg (by decide), if_pos rfl]
  have hS : (fld m 9).isSome = decide (0 < m.ws.length) := by
    rw [fld_9]
    by_cases h : m.ws.length = 0
    · rw [if_pos h, h]; rfl
    · rw [if_neg h, decide_eq_true (by omega)]; rfl
  have hlen := hm.few.ws
  have hall := hm.few.all
  obtain ⟨X, hX0⟩ : ∃ X, X = fldX m 9 := ⟨_, rfl⟩
  unfold FieldIs
  rw [← hX0, hS]
  rw [← hX0] at hX
  clear hS hX0 hm
  obtain ⟨p, len, cap, rfl, hl, hc⟩ := hw
  obtain ⟨kind, frm, to_, node, life, seq, a, b, key, found, time, gone, val, ws, note, hint, must⟩ := m
  simp only at hX hl hlen hall hc
  subst hl
  obtain ⟨len, hl⟩ : ∃ len, len = ws.length := ⟨_, rfl⟩
  have HC := Lib.hid hc
  have HX := Lib.hid hX
  have HL := Lib.hid hl
  have HA := Lib.hid hall
  rw [← hl] at HC hlen
  show Calls _ _ #[.agg #[.int .i64 kind, .int .i64 frm, .int .i64 to_, .int .i64 node, .int .i64 life, .int .i64 seq, .int .u64 a, .int .u64 b, .string key, .bool found, .int .u64 time, .bool gone, .string val, .slice p ws.length cap, .string note, .int .u64 hint, .int .u64 must], .int .i64 9] w fun e w' => e = .returned (.tuple #[.string ⟨X.toArray⟩, .bool (decide (0 < ws.length))]) ∧ Below w.heap.size w w'
  rw [← hl]
  have hu := Lib.hid (refUint_any len (by omega))
  have hs1 := ub_size' len (by omega)
  obtain ⟨U, hU⟩ : ∃ U : ByteArray, U = ⟨(ub len).toArray⟩ := ⟨_, rfl⟩
  have HU := Lib.hid hU
  rw [← hU] at hu hs1
  have hwl : IntKind.u64.wrap (len : Int) = (len : Int) := by simp [IntKind.wrap, IntKind.bits, IntKind.signed]; omega
  clear hX hl hc hU hall
  go_enter Try.func45, Try.ntmps45
  go_upto_region 17 with (go_at_call 44; refine (hu.out _).mono ?_; rintro e w1 ⟨rfl, hb1⟩)
  obtain ⟨W1, hW1⟩ : ∃ W1, W1 = w.alloc (.cells #[.int .i64 kind, .int .i64 frm, .int .i64 to_, .int .i64 node, .int .i64 life, .int .i64 seq, .int .u64 a, .int .u64 b, .string key, .bool found, .int .u64 time, .bool gone, .string val, .slice p len cap, .string note, .int .u64 hint, .int .u64 must] 38) := ⟨_, rfl⟩
  have hbox : W1.heap[w.heap.size]? = some (.cells #[.int .i64 kind, .int .i64 frm, .int .i64 to_, .int .i64 node, .int .i64 life, .int .i64 seq, .int .u64 a, .int .u64 b, .string key, .bool found, .int .u64 time, .bool gone, .string val, .slice p len cap, .string note, .int .u64 hint, .int .u64 must] 38 (0, 0)) := by rw [hW1]; exact heap_alloc_new w _
  have HB0 := Lib.hid (show Below w.heap.size w W1 by rw [hW1]; exact (Below.refl _ _).alloc (Nat.le_refl _) _)
  have hz1 := Lib.hid (show W1.heap.size = w.heap.size + 1 by rw [hW1]; simp)
  rw [← hW1] at hb1
  have HB1 := Lib.hid hb1
  have HBX := Lib.hid hbox
  clear hW1 hb1 hbox hu
  go_wp2_with fail
  go_loopg [7, 8] len (fun q s7 s8 wx => ∃ (i : Nat) (S : ByteArray), i + q = len ∧ s8 = .int .i64 i ∧ s7 = .string S ∧ Hid (S = ⟨(ub len ++ wsB (ws.take i)).toArray⟩) ∧ S.size ≤ 10 + 10021 * i ∧ Hid (Below W1.heap.size W1 wx))
  case atStart => exact ⟨0, U, by omega, rfl, rfl, Lib.hid (by rw [HU.out]; simp [wsB]), by omega, HB1⟩
  case round =>
    obtain ⟨i, S, hiq, rfl, rfl, hS, hSs, hb⟩ := hrel
    have hrow := hb.out.block w.heap.size (by rw [hz1.out]; omega)
    rw [HBX.out] at hrow
    have c13 : wr.cell? ⟨w.heap.size, 13, none⟩ = some (.slice p len cap) := by simp [World.cell?, hrow]
    by_cases hlt : i < len
    · obtain ⟨q, rfl⟩ : ∃ q, gk = q + 1 := ⟨gk - 1, by omega⟩
      have hiz : (i : Int) < (len : Int) := by omega
      obtain ⟨bq, off, rfl, hbl, d0', d1', d2'⟩ := HC.out i hlt
      have hbw := HB0.out.trans (hb.out.mono HB0.out.size)
      have hmem := HA.out _ (getD_memM (l := ws) (i := i) (by rw [← HL.out]; exact hlt))
      have hup := wsB_upto (l := ws) (i := i) (by rw [← HL.out]; exact hlt)
      obtain ⟨z, hz⟩ : ∃ z, z = ws.getD i wr0 := ⟨_, rfl⟩
      rw [← hz] at d0' d1' d2' hmem hup
      obtain ⟨zk, zg, zv⟩ := z
      simp only at d0' d1' d2' hmem
      have d0 := (hbw.cell (p := ⟨bq, off + i * 3, none⟩) hbl).trans d0'
      have d1 := (hbw.cell (p := ⟨bq, off + i * 3 + 1, none⟩) hbl).trans d1'
      have d2 := (hbw.cell (p := ⟨bq, off + i * 3 + 2, none⟩) hbl).trans d2'
      have HUP := Lib.hid hup
      clear hz d0' d1' d2' hbw hup
      have hgn := Lib.hid (gone_any zg)
      have ht1 := Lib.hid (refTextB_any zk (by omega))
      have ht2 := Lib.hid (refTextB_any zv (by omega))
      obtain ⟨G, hG⟩ : ∃ U : ByteArray, U = ⟨(bl zg).toArray⟩ := ⟨_, rfl⟩
      obtain ⟨T1, hT1⟩ : ∃ U : ByteArray, U = ⟨(ub zk.size ++ zk.data.toList).toArray⟩ := ⟨_, rfl⟩
      obtain ⟨T2, hT2⟩ : ∃ U : ByteArray, U = ⟨(ub zv.size ++ zv.data.toList).toArray⟩ := ⟨_, rfl⟩
      have hs2 : G.size = 1 := by rw [hG]; cases zg <;> rfl
      have hs3 : T1.size ≤ 5010 := by rw [hT1]; show (ub zk.size ++ zk.data.toList).toArray.size ≤ _; rw [List.size_toArray, List.length_append, ← Lib.size_eq]; have := ub_len10 (n := zk.size) (by omega); omega
      have hs4 : T2.size ≤ 5010 := by rw [hT2]; show (ub zv.size ++ zv.data.toList).toArray.size ≤ _; rw [List.size_toArray, List.length_append, ← Lib.size_eq]; have := ub_len10 (n := zv.size) (by omega); omega
      have hadd := Lib.hid (show S ++ (G ++ T1 ++ T2) = ⟨(ub len ++ wsB (ws.take (i + 1))).toArray⟩ by
        rw [HUP.out, hS.out, hG, hT1, hT2]; apply ByteArray.ext; simp [wrB, txB])
      have hnsz := Lib.hid (show (S ++ (G ++ T1 ++ T2)).size ≤ 10 + 10021 * (i + 1) by rw [ByteArray.size_append, ByteArray.size_append, ByteArray.size_append]; omega)
      have hq6 : S.size ≤ 300000 := by omega
      have ha1 : G.size + T1.size ≤ 9223372036854775807 := by omega
      have ha2 : (G ++ T1).size + T2.size ≤ 9223372036854775807 := by rw [ByteArray.size_append]; omega
      have ha3 : S.size + (G ++ T1 ++ T2).size ≤ 9223372036854775807 := by rw [ByteArray.size_append, ByteArray.size_append]; omega
      rw [← hG] at hgn
      rw [← hT1] at ht1
      rw [← hT2] at ht2
      clear hG hT1 hT2 hs2 hs3 hs4
      have hcells : ∀ x : Like (wr.alloc (.cells #[.string zk, .bool zg, .string zv] 64)).heap.size (wr.alloc (.cells #[.string zk, .bool zg, .string zv] 64)), x.val.cell? ⟨wr.heap.size, 0, none⟩ = some (.string zk) ∧ x.val.cell? ⟨wr.heap.size, 1, none⟩ = some (.bool zg) ∧ x.val.cell? ⟨wr.heap.size, 2, none⟩ = some (.string zv) := fun x => by
        have hbb := x.below.block wr.heap.size (by simp)
        rw [heap_alloc_new] at hbb
        simp [World.cell?, hbb]
      have hc0 := fun x => (hcells x).1
      have hc1 := fun x => (hcells x).2.1
      have hc2 := fun x => (hcells x).2.2
      clear hcells
      go_upto_region 21 with fail
      refine region_likes (by kernel_rfl) (by kernel_rfl) ?_
      repeat (go_big_quiet_step (first
        | (go_at_call 71; exact calls_likes_same ((hgn.out _).mono fun _ _ hh => ⟨hh.1, hh.2.symm⟩))
        | (go_at_call 46; with_reducible exact calls_likes (Like.size _) (ht1.out _))
        | (go_at_call 46; with_reducible exact calls_likes (Like.size _) (ht2.out _))))
      refine wpQuiet_nil ?_
      intro x
      have hbx := Lib.hid (show Below W1.heap.size W1 x.val from (hb.out.alloc hb.out.size _).trans (x.below.mono (Nat.le_trans hb.out.size (by simp))))
      clear hc0 hc1 hc2 d0 d1 d2 c13 hrow hgn ht1 ht2
      go_wp2_with fail
      go_roundg q
      case measure => omega
      case rel => exact ⟨i + 1, _, by omega, by simp, rfl, hadd, hnsz.out, hbx⟩
    · obtain rfl : i = len := by omega
      have hiz : ¬ (i : Int) < (i : Int) := by omega
      have hfin := Lib.hid (show S = ⟨X.toArray⟩ by rw [hS.out, HX.out, ← HL.out, List.take_of_length_le (by rw [← HL.out]; exact Nat.le_refl _)])
      have hd : decide ((0 : Int) < (i : Int)) = decide (0 < i) := by
        by_cases h : 0 < i
        · rw [decide_eq_true h, decide_eq_true (by omega)]
        · rw [decide_eq_false h, decide_eq_false (by omega)]
      have hbw := Lib.hid (HB0.out.trans (hb.out.mono HB0.out.size))
      go_upto_region 22 with fail
      go_quiet (fail)
      go_wp2_with fail
      go_ret2
      exact ⟨congrArg (fun z => Ending.returned (.tuple #[.string z, .bool (decide (0 < i))])) hfin.out, below_drewN' hbw.out nq⟩
end Go.Proofs.Ytbhlgceicfjncaa
