/-
  The walks of the program's plainValue, value and Decode.
-/
import Derived.Test.YtnjbeemahfoaiaaDoorKeyTakeItem
import Derived.Test.YtnjbeemahfoaiaaDoorKeyContracts
import Derived.Test.YtnjbeemahfoaiaaDoorKeyFuncs
namespace Go.Proofs.YtnjbeemahfoaiaaDoor
open Go.RowKit
set_option linter.unusedVariables false
set_option linter.unusedSimpArgs false
set_option linter.unnecessarySimpa false
set_option maxRecDepth 100000

theorem down63 {n : Int} (h : -9223372036854775808 ≤ n ∧ n < 9223372036854775808) : wrap64 (IntKind.u64.wrap ((up63 n : Nat) - 9223372036854775808 : Int)) = n := by
  rw [IntKind.wrap_u64]; unfold wrap64 up63; omega

set_option maxHeartbeats 4000000 in
theorem plainValue_any (v : KV) (hv : v.ok) (d : Bool) (w : World) :
    Calls Tryd.prog 38 #[.agg (told (v, d))] w fun e w' => e = .returned (anyV v) ∧ Below w.heap.size w w' := by
  have hB := Lib.hid (fun (o : Obj) => (Below.refl w.heap.size w).alloc (Nat.le_refl _) o)
  unfold told
  cases v with
  | nil =>
    show Calls _ _ #[.agg #[.bool d, .int .u8 16, .int .u64 0, .string ByteArray.empty]] w fun e w' => e = .returned .nilIface ∧ _
    go_enter Tryd.func38, Tryd.ntmps38
    go_wp2
    go_ret
    exact ⟨rfl, hB.out _⟩
  | bool b =>
    cases b
    · show Calls _ _ #[.agg #[.bool d, .int .u8 32, .int .u64 0, .string ByteArray.empty]] w fun e w' => e = .returned (.iface 4 (.bool false)) ∧ _
      go_enter Tryd.func38, Tryd.ntmps38
      go_wp2
      go_ret
      exact ⟨rfl, hB.out _⟩
    · show Calls _ _ #[.agg #[.bool d, .int .u8 33, .int .u64 0, .string ByteArray.empty]] w fun e w' => e = .returned (.iface 4 (.bool true)) ∧ _
      go_enter Tryd.func38, Tryd.ntmps38
      go_wp2
      go_ret
      exact ⟨rfl, hB.out _⟩
  | int n =>
    have HU := Lib.hid (down63 hv)
    obtain ⟨m, hm⟩ : ∃ m, m = up63 n := ⟨_, rfl⟩
    rw [← hm] at HU
    show Calls _ _ #[.agg #[.bool d, .int .u8 48, .int .u64 (up63 n : Nat), .string ByteArray.empty]] w fun e w' => e = .returned (.iface 2 (.int .i64 n)) ∧ _
    rw [← hm]
    clear hm hv
    go_enter Tryd.func38, Tryd.ntmps38
    go_wp2
    go_ret
    exact ⟨congrArg (fun z => Ending.returned (.iface 2 (.int .i64 z))) HU.out, hB.out _⟩
  | uint n =>
    show Calls _ _ #[.agg #[.bool d, .int .u8 64, .int .u64 n, .string ByteArray.empty]] w fun e w' => e = .returned (.iface 34 (.int .u64 n)) ∧ _
    go_enter Tryd.func38, Tryd.ntmps38
    go_wp2
    go_ret
    exact ⟨rfl, hB.out _⟩
  | text s =>
    show Calls _ _ #[.agg #[.bool d, .int .u8 80, .int .u64 0, .string s]] w fun e w' => e = .returned (.iface 9 (.string s)) ∧ _
    go_enter Tryd.func38, Tryd.ntmps38
    go_wp2
    go_ret
    exact ⟨rfl, hB.out _⟩

set_option maxHeartbeats 4000000 in
theorem itemValue_plain (u : Value) (f n : Int) (s : ByteArray) (hp : ∀ w, Calls Tryd.prog 38 #[.agg #[.bool false, .int .u8 f, .int .u64 n, .string s]] w fun e w' => e = .returned u ∧ Below w.heap.size w w') (w : World) :
    Calls Tryd.prog 22 #[.agg #[.bool false, .int .u8 f, .int .u64 n, .string s]] w fun e w' => e = .returned u ∧ Below w.heap.size w w' := by
  have HP := Lib.hid hp
  have hB := Lib.hid (fun (o : Obj) => (Below.refl w.heap.size w).alloc (Nat.le_refl _) o)
  clear hp
  go_enter Tryd.func22, Tryd.ntmps22
  go_wp2_with fail
  refine (HP.out _).mono ?_
  rintro e w1 ⟨rfl, hb1⟩
  go_wp2_with fail
  go_ret
  exact ⟨rfl, (hB.out _).trans (hb1.mono (by simp))⟩
set_option maxHeartbeats 4000000 in
theorem itemValue_down (u : Value) (hu : u = .nilIface ∨ ∃ t x, u = .iface t x) (f n : Int) (s : ByteArray) (hp : ∀ w, Calls Tryd.prog 38 #[.agg #[.bool true, .int .u8 f, .int .u64 n, .string s]] w fun e w' => e = .returned u ∧ Below w.heap.size w w') (w : World) :
    Calls Tryd.prog 22 #[.agg #[.bool true, .int .u8 f, .int .u64 n, .string s]] w fun e w' => e = .returned (.iface 44 (.agg #[u])) ∧ Below w.heap.size w w' := by
  have HP := Lib.hid hp
  have hB := Lib.hid (fun (o : Obj) => (Below.refl w.heap.size w).alloc (Nat.le_refl _) o)
  clear hp
  rcases hu with rfl | ⟨t, x, rfl⟩
  · go_enter Tryd.func22, Tryd.ntmps22
    go_wp2_with fail
    refine (HP.out _).mono ?_
    rintro e w1 ⟨rfl, hb1⟩
    go_wp2_with fail
    go_ret
    exact ⟨rfl, (hB.out _).trans (hb1.mono (by simp))⟩
  · go_enter Tryd.func22, Tryd.ntmps22
    go_wp2_with fail
    refine (HP.out _).mono ?_
    rintro e w1 ⟨rfl, hb1⟩
    go_wp2_with fail
    go_ret
    exact ⟨rfl, (hB.out _).trans (hb1.mono (by simp))⟩
theorem itemValue_any (x : KV × Bool) (hx : x.1.ok) (w : World) :
    Calls Tryd.prog 22 #[.agg (told x)] w fun e w' => e = .returned (anyI x) ∧ Below w.heap.size w w' := by
  obtain ⟨v, d⟩ := x
  cases d
  · exact itemValue_plain (anyV v) _ _ _ (plainValue_any v hx false) w
  · exact itemValue_down (anyV v) (anyV_form v) _ _ _ (plainValue_any v hx true) w

/-- What Decode tells. -/
def DecOut (b : List UInt8) (e : Ending) (w' : World) : Prop :=
  (∃ v xs, (∀ x ∈ xs, x.1.ok) ∧ b = encL xs ∧ e = .returned (.tuple #[v, .int .i64 0]) ∧ AnysAt w' v (xs.map anyI)) ∨
  ((∀ xs : List (KV × Bool), (∀ x ∈ xs, x.1.ok) → b ≠ encL xs) ∧ ∃ a cap, e = .returned (.tuple #[.slice a 0 cap, .int .i64 2]))

set_option maxHeartbeats 8000000 in
theorem decode_any (s : ByteArray) (w : World) (hs : s.size ≤ 60000) :
    Calls Tryd.prog 12 #[.string s] w fun e w' => Hid (Below w.heap.size w w') ∧ DecOut s.data.toList e w' := by
  obtain ⟨ia, hia, ha0, ha1, ha2⟩ := info_parts anyinfo
  have HS : Hid (s.data.toList.length ≤ 60000) := Lib.hid (by rw [← Lib.size_eq]; exact hs)
  have hN := Lib.hid (new_any s w)
  obtain ⟨L, hL⟩ : ∃ L, L = s.data.toList := ⟨_, rfl⟩
  rw [← hL] at HS
  rw [← hL]
  have HL := Lib.hid hL
  clear hs hL
  go_enter Tryd.func12, Tryd.ntmps12
  go_wp2_with (go_at_call 19; refine hN.out.mono ?_; rintro e w1 ⟨rfl, hc1, hb1⟩)
  obtain ⟨g, hg⟩ : ∃ g, g = w.heap.size := ⟨_, rfl⟩
  have hC1 : CurL w1 g L false := by rw [hg, HL.out]; exact hc1
  have hs1 : g < w1.heap.size := CurAt.lt hC1
  have HB1 := Lib.hid hb1
  have HC1 := Lib.hid hC1
  rw [← hg]
  have hgw : w.heap.size ≤ g := by omega
  clear hc1 hb1 hC1 hg hN
  go_loopg [4, 6, 7] L.length (fun k s4 s6 s7 wx => ∃ (done : List (KV × Bool)) (rest : List UInt8), rest.length ≤ k ∧ Hid (L = encL done ++ rest) ∧ Hid (∀ x ∈ done, x.1.ok) ∧ Hid (done.length + rest.length ≤ L.length) ∧ Hid (CurL wx g rest false) ∧
    Hid (wx.ownsRow (g + 1) 20 1 s4 done.length (done.map anyI)) ∧ Hid (Below w.heap.size w wx))
  case atStart => exact ⟨[], L, by omega, Lib.hid rfl, Lib.hid (fun x hx => by cases hx), Lib.hid (by simp), HC1, Lib.hid (World.ownsRow_nil _ _ _ _), HB1⟩
  case round =>
    obtain ⟨done, rest, hrk, HE, HOK, HLEN, HC, HO, HB⟩ := hrel
    have hlen := HLEN.out
    have hleft := Lib.hid (left_list g rest false wr (by have := HS.out; omega) HC.out)
    have hgr : g < wr.heap.size := CurAt.lt HC.out
    cases rest with
    | nil =>
      go_wp2_with (go_at_call 20; refine hleft.out.mono ?_; rintro e w2 ⟨rfl, rfl⟩)
      go_ret2
      exact ⟨HB, .inl ⟨_, done, HOK.out, by rw [HE.out, List.append_nil], rfl, anys_own HO.out⟩⟩
    | cons b rest =>
      obtain ⟨k, rfl⟩ : ∃ k, gk = k + 1 := ⟨gk - 1, by simp at hrk; omega⟩
      have hrl : rest.length ≤ k := by simp at hrk; omega
      have hlz : (0 : Int) < ((b :: rest).length : Int) := by rw [List.length_cons]; omega
      have htk := Lib.hid (takeItem_any g b rest (by have := HS.out; simp at hlen; omega) wr hgr HC.out)
      cases ht : tkI (b :: rest) with
      | none =>
        have hno := Lib.hid (fun xs hx => no_tuple (xs := xs) HOK.out ht (by simp) hx)
        have HBW := Lib.hid (fun w2 (h : wr.grownBy w2 (some g)) => below_grown HB.out h hgw)
        clear hrk hrl
        go_wp2_with (first
          | (go_at_call 20; refine hleft.out.mono ?_; rintro e w2 ⟨rfl, rfl⟩)
          | (go_at_call 21; refine htk.out.mono ?_; rintro e w3 ⟨ho, hg3⟩; unfold ItemOut at ho; rw [ht] at ho; obtain ⟨d3, f3, n3, s3, rfl⟩ := ho))
        go_ret2
        exact ⟨Lib.hid ((HBW.out _ hg3.out).alloc (by have := hg3.out.size; omega) _), .inr ⟨by rw [HE.out]; exact hno.out, _, _, rfl⟩⟩
      | some p =>
        obtain ⟨x, r⟩ := p
        obtain ⟨hxok, hxe⟩ := tkI_some ht
        have hxl : 1 ≤ (encI x).length := by
          have := List.length_pos_iff.2 (encI_ne x); omega
        have hrr : r.length ≤ rest.length := by
          have := congrArg List.length hxe
          rw [List.length_cons, List.length_append] at this
          omega
        have HE2 := Lib.hid (show L = encL (done ++ [x]) ++ r by rw [HE.out, hxe, encL_append, List.append_assoc]; simp [encL])
        have HOK2 := Lib.hid (show ∀ y ∈ done ++ [x], y.1.ok by
          intro y hy
          rcases List.mem_append.1 hy with hy | hy
          · exact HOK.out y hy
          · rw [List.mem_singleton.1 hy]; exact hxok)
        have HLEN2 := Lib.hid (show (done ++ [x]).length + r.length ≤ L.length by
          rw [List.length_append]; simp at hlen ⊢; omega)
        have hval := Lib.hid (itemValue_any x hxok)
        have HSN := Lib.hid (show (anyI x).oneCell' = true from anyI_one x)
        obtain ⟨u, hu⟩ : ∃ u, u = anyI x := ⟨_, rfl⟩
        have HOM : Hid ((done ++ [x]).map anyI = done.map anyI ++ [u]) := Lib.hid (by rw [hu]; simp)
        rw [← hu] at hval HSN
        have hu1 := HSN.out
        have HBW := Lib.hid (fun w2 (h : wr.grownBy w2 (some g)) => below_grown HB.out h hgw)
        unfold told at hval
        have hdl : done.length ≤ 60000 := by have := HS.out; omega
        have hone := Lib.hid (show ∀ v ∈ [u], v.oneCell' = true by simp [hu1])
        clear hrk hxok hxe hu HLEN HE HOK
        go_upto_region 7 with (first
          | (go_at_call 20; refine hleft.out.mono ?_; rintro e w2 ⟨rfl, rfl⟩)
          | (go_at_call 21; refine htk.out.mono ?_; rintro e w3 ⟨ho, hg3⟩; unfold ItemOut at ho; rw [ht] at ho; obtain ⟨rfl, hc3⟩ := ho; unfold told))
        have hb3a := (Below.refl w3.heap.size w3).alloc (Nat.le_refl _) (.cells #[.bool x.2, .int .u8 (tFirst x.1), .int .u64 (tNum x.1), .string (tText x.1)] 49)
        have HO4 := Lib.hid (own_below (own_grown HO.out hg3.out (Nat.lt_succ_self g)) hb3a)
        have HC4 := Lib.hid (hc3.grownAlloc hb3a)
        have hgs := hg3.out.size
        have HB4 := Lib.hid ((HBW.out _ hg3.out).trans (hb3a.mono (by omega)))
        have hsz4 : g < (w3.alloc (.cells #[.bool x.2, .int .u8 (tFirst x.1), .int .u64 (tNum x.1), .string (tText x.1)] 49)).heap.size := by simp; omega
        clear hb3a hc3 hg3 HO HC HB HBW
        go_wp2_with (first
          | (go_at_call 22; refine (hval.out _).mono ?_; rintro e w5 ⟨rfl, hb5⟩)
          | (refine wpList_plain rfl fun K hK => wp_buildSlice_one 28 20 _ rfl .nilIface u rfl Tryd.underlying28 anyinfo2 rfl hu1 ?_; go_simp)
          | (at_builtin; refine wpList_append_own _ rfl _ _ 28 rfl (g + 1) 20 ia .nilIface 1 16 Tryd.underlying28 hia ha0 ha1 ha2 rfl (by decide) _ _ _ rfl ((own_below HO4.out hb5).alloc _) ⟨w5.heap.size, 0, none⟩ 1 1 [u] rfl rfl (cell_one_new w5 u 20) hone.out (by unfold maxLen; omega) (by omega) (by have := hb5.size; simp; omega) ?_))
        intro v7 w7 hown7 hg7 _
        have hs5 := hb5.size
        have HO7 : Hid (w7.ownsRow (g + 1) 20 1 v7 (done ++ [x]).length ((done ++ [x]).map anyI)) := Lib.hid (by rw [HOM.out, List.length_append]; exact hown7)
        have HB7 := Lib.hid (((HB4.out.trans (hb5.mono (by omega))).alloc (by omega) (.cells #[u] 20)).grown hg7 (by simp; omega) (fun k hk => by have := (((own_below HO4.out hb5).alloc (.cells #[u] 20)).lt k hk).1; omega))
        have HC7 := Lib.hid (((HC4.out.grownAlloc hb5).alloc (.cells #[u] 20)).grown ((own_below HO4.out hb5).alloc _) (Nat.lt_succ_self g) hg7)
        clear hown7 hg7 hb5 hs5
        go_wp2_with fail
        go_roundg k
        case measure => omega
        case rel => exact ⟨done ++ [x], r, by omega, HE2, HOK2, HLEN2, HC7, HO7, HB7⟩
theorem decOK : DecOK := fun b w hs => (decode_any b w hs).mono fun e w' ⟨h1, h2⟩ => ⟨h1.out, h2⟩
end Go.Proofs.YtnjbeemahfoaiaaDoor
