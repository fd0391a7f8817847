/-
  Joined: MsgTexts, MsgDelete.
-/
import Derived.Test.YtbhlgceicfjncaaSet32
import Derived.Test.YtbhlgceicfjncaaSet05
import Derived.Test.YtbhlgceicfjncaaSet31
import Derived.Lib.SliceRun
namespace Go.Proofs.Ytbhlgceicfjncaa
open Go.RowKit
set_option linter.unusedVariables false
set_option linter.unnecessarySimpa false
set_option linter.unusedSimpArgs false
set_option maxRecDepth 100000

theorem ret_str {a b : List UInt8} (h : a = b) : Ending.returned (.string ⟨a.toArray⟩) = .returned (.string ⟨b.toArray⟩) := by rw [h]
/-- A slice of numbers, in memory. -/
def IntsAt (W : World) (v : Value) (ns : List Nat) : Prop :=
  ∃ g cap, v = .slice (some ⟨g, 0, none⟩) ns.length cap ∧ g < W.heap.size ∧ ∀ i, i < ns.length → W.cell? ⟨g, i, none⟩ = some (.int .i64 (ns.getD i 0 : Nat))
theorem IntsAt.below {W W' : World} {v : Value} {ns : List Nat} (h : IntsAt W v ns) (hb : Below W.heap.size W W') : IntsAt W' v ns := by
  obtain ⟨g, cap, h1, h2, h3⟩ := h
  exact ⟨g, cap, h1, Nat.lt_of_lt_of_le h2 hb.size, fun i hi => (hb.cell h2).trans (h3 i hi)⟩
theorem flat_take {l : List Nat} {i : Nat} (h : i < l.length) : (l.take (i + 1)).flatMap ub = (l.take i).flatMap ub ++ ub (l.getD i 0) := by
  rw [List.take_add_one, List.getElem?_eq_getElem h, List.flatMap_append]
  simp [List.getD, List.getElem?_eq_getElem h]
theorem ints_le {l : List Nat} {i : Nat} (h : ∀ n ∈ l, n ≤ 2147483647) : l.getD i 0 ≤ 2147483647 := by
  by_cases hi : i < l.length
  · simp only [List.getD, List.getElem?_eq_getElem hi]
    exact h _ (List.getElem_mem hi)
  · simp [List.getD, List.getElem?_eq_none (by omega : l.length ≤ i)]
theorem flat_len (l : List Nat) (h : ∀ n ∈ l, n ≤ 2147483647) : (l.flatMap ub).length ≤ 10 * l.length := by
  induction l with
  | nil => simp
  | cons x l ih =>
    have h1 := h x (by simp)
    have h2 := ih (fun w hw => h w (by simp [hw]))
    have u1 := ub_len10 (n := x) (by omega)
    rw [List.flatMap_cons, List.length_append, List.length_cons]
    omega

set_option maxHeartbeats 4000000 in
theorem numbers_any (ns : List Nat) (hn : ∀ n ∈ ns, n ≤ 2147483647) (hl : ns.length ≤ 5) (v : Value) (w : World) (hv : IntsAt w v ns) :
    Calls Try.prog 72 #[v] w fun e w' => e = .returned (.string ⟨(ns.flatMap ub).toArray⟩) ∧ Below w.heap.size w w' := by
  obtain ⟨i0, hi, hz0, hz1, hz2⟩ := info_parts u8info
  obtain ⟨g, cap, rfl, hg, hc⟩ := hv
  obtain ⟨len, hlen⟩ : ∃ len, len = ns.length := ⟨_, rfl⟩
  rw [← hlen] at hl
  have HL := Lib.hid hlen
  have HC := Lib.hid hc
  have HN := Lib.hid hn
  rw [← hlen]
  clear hc hn hlen
  go_enter Try.func72, Try.ntmps72
  go_wp2_with fail
  go_loopg [3, 5, 8] len (fun q s3 s5 s8 wx => ∃ (i : Nat) (out : List UInt8), i + q = len ∧ s8 = .int .i64 i ∧ Hid (out = (ns.take i).flatMap ub) ∧ out.length ≤ 10 * i ∧ Hid (wx.ownsRow w.heap.size 5 1 s3 out.length (Lib.byteCells out)) ∧ Hid (Below w.heap.size w wx))
  case atStart => exact ⟨0, [], by omega, rfl, Lib.hid rfl, by simp, Lib.hid (World.ownsRow_nil _ _ _ _), Lib.hid (Below.refl _ _)⟩
  case round =>
    obtain ⟨i, out, hiq, rfl, hO, hol, HR, HB⟩ := hrel
    by_cases hlt : i < len
    · obtain ⟨q, rfl⟩ : ∃ q, gk = q + 1 := ⟨gk - 1, by omega⟩
      have hiz : (i : Int) < (len : Int) := by omega
      have c0 := (HB.out.cell (p := ⟨g, i, none⟩) hg).trans (HC.out i (by rw [← HL.out]; exact hlt))
      have hup := flat_take (l := ns) (i := i) (by rw [← HL.out]; exact hlt)
      have hnl := ints_le (i := i) HN.out
      obtain ⟨n, en⟩ : ∃ n, n = ns.getD i 0 := ⟨_, rfl⟩
      rw [← en] at c0 hup hnl
      clear en
      have HU := Lib.hid (uint_any n (by omega))
      have hul := ub_len10 (n := n) (by omega)
      have hwn : IntKind.u64.wrap (n : Int) = (n : Int) := by simp [IntKind.wrap, IntKind.bits, IntKind.signed]; omega
      obtain ⟨U, hU⟩ : ∃ U : ByteArray, U = ⟨(ub n).toArray⟩ := ⟨_, rfl⟩
      have hUs : U.size ≤ 10 := by rw [hU]; show (ub n).toArray.size ≤ 10; rw [List.size_toArray]; exact hul
      have e2 := Lib.hid (show Lib.byteCells (out ++ ub n) = Lib.byteCells out ++ Lib.strCells U by rw [hU]; simp [Lib.byteCells, Lib.strCells])
      have e3 := Lib.hid (show (out ++ ub n).length = out.length + U.size by rw [List.length_append, hU]; rfl)
      have hO2 := Lib.hid (show out ++ ub n = (ns.take (i + 1)).flatMap ub by rw [hup, hO.out])
      have hol2 : (out ++ ub n).length ≤ 10 * (i + 1) := by rw [List.length_append]; omega
      rw [← hU] at HU
      clear hup hU hul
      go_upto_region 6 with (first
        | (go_at_call 50; refine (HU.out _).mono ?_; rintro e w1 ⟨rfl, hb1⟩)
        | (at_builtin; refine Lib.wpList_append_own_string _ rfl _ _ 91 9 rfl w.heap.size 5 i0 Try.underlying91 Try.underlying9 hi hz0 hz1 hz2 _ out.length (Lib.byteCells out) rfl (own_below HR.out hb1) U rfl (by unfold maxLen; omega) (by omega) (Nat.le_trans HB.out.size hb1.size) ?_))
      intro v2 w2 hown hg2 _
      rw [← e2.out, ← e3.out] at hown
      have B2 := Lib.hid ((HB.out.trans (hb1.mono HB.out.size)).grown hg2 (Nat.le_trans HB.out.size hb1.size) (fun j hj => ((own_below HR.out hb1).lt j hj).1))
      have R2 := Lib.hid hown
      clear hown hg2 hb1 HR HB e2 e3 HU c0
      go_wp2_with fail
      go_roundg q
      case measure => omega
      case rel => exact ⟨i + 1, _, by omega, by simp, hO2, hol2, R2, B2⟩
    · obtain rfl : i = len := by omega
      have hiz : ¬ (i : Int) < (i : Int) := by omega
      have hfin := Lib.hid (show out = ns.flatMap ub by rw [hO.out, List.take_of_length_le (by rw [← HL.out]; exact Nat.le_refl _)])
      have hcv := convert_row HR.out
      go_wp2_with fail
      go_ret
      exact ⟨ret_str hfin.out, HB.out⟩

set_option maxHeartbeats 2000000 in
theorem version_any (time : Nat) (gone : Bool) (val : ByteArray) (ht : time < 18446744073709551616) (hv : val.size ≤ 12000) (w : World) :
    Calls Try.prog 73 #[.agg #[.int .u64 time, .bool gone, .string val]] w fun e w' => e = .returned (.string ⟨(ub time ++ bl gone ++ val.data.toList).toArray⟩) ∧ Below w.heap.size w w' := by
  have HU := Lib.hid (uint_any time ht)
  have HG := Lib.hid (goneText_any gone)
  have hul := ub_len10 ht
  obtain ⟨U, hU⟩ : ∃ U : ByteArray, U = ⟨(ub time).toArray⟩ := ⟨_, rfl⟩
  obtain ⟨G, hG⟩ : ∃ G : ByteArray, G = ⟨(bl gone).toArray⟩ := ⟨_, rfl⟩
  have hUs : U.size ≤ 10 := by rw [hU]; show (ub time).toArray.size ≤ 10; rw [List.size_toArray]; exact hul
  have hGs : G.size = 1 := by rw [hG]; cases gone <;> rfl
  have hfin := Lib.hid (show U ++ G ++ val = ⟨(ub time ++ bl gone ++ val.data.toList).toArray⟩ by rw [hU, hG]; apply ByteArray.ext; simp)
  rw [← hU] at HU
  rw [← hG] at HG
  have hw1 : (G.size : Int) ≤ 10 := by omega
  have ha1 : U.size + G.size ≤ 9223372036854775807 := by omega
  have ha2 : (U ++ G).size + val.size ≤ 9223372036854775807 := by rw [ByteArray.size_append]; omega
  clear hU hG hul ht hw1
  have hcells : ∀ x : Like (w.alloc (.cells #[.int .u64 time, .bool gone, .string val] 35)).heap.size (w.alloc (.cells #[.int .u64 time, .bool gone, .string val] 35)), x.val.cell? ⟨w.heap.size, 0, none⟩ = some (.int .u64 time) ∧ x.val.cell? ⟨w.heap.size, 1, none⟩ = some (.bool gone) ∧ x.val.cell? ⟨w.heap.size, 2, none⟩ = some (.string val) := fun x => by
    have hbb := x.below.block w.heap.size (by simp)
    rw [heap_alloc_new] at hbb
    simp [World.cell?, hbb]
  have hc0 := fun x => (hcells x).1
  have hc1 := fun x => (hcells x).2.1
  have hc2 := fun x => (hcells x).2.2
  clear hcells
  go_enter Try.func73, Try.ntmps73
  go_upto_region 1 with fail
  refine region_likes (by kernel_rfl) (by kernel_rfl) ?_
  repeat (go_big_quiet_step (first
    | (go_at_call 99; exact calls_likes_same ((HG.out _).mono fun _ _ hh => ⟨hh.1, hh.2.symm⟩))
    | (go_at_call 50; exact calls_likes (Like.size _) (HU.out _))))
  refine wpQuiet_nil ?_
  intro x
  have hbx := Lib.hid (show Below w.heap.size w x.val from ((Below.refl _ _).alloc (Nat.le_refl _) _).trans (x.below.mono (by simp)))
  clear hc0 hc1 hc2
  go_wp2_with fail
  go_ret
  exact ⟨congrArg (fun z => Ending.returned (.string z)) hfin.out, hbx.out⟩

theorem tx_of (z : ByteArray) (hz : z.size ≤ 5000) : ∃ T : ByteArray, T.data.toList = txB z ∧ T.size ≤ 5010 ∧ ∀ W, Calls Try.prog 52 #[.string z] W fun e w' => e = .returned (.string T) ∧ Below W.heap.size W w' := by
  refine ⟨⟨(txB z).toArray⟩, rfl, ?_, fun W => ?_⟩
  · show (txB z).toArray.size ≤ _
    rw [List.size_toArray]
    unfold txB
    rw [List.length_append, ← Lib.size_eq]
    have := ub_len10 (n := z.size) (by omega)
    omega
  · exact text_any z (by omega) W

/-- A block that a row is not, while the row grows. -/
theorem block_grown {w w' : World} {v : Value} {g : Nat} {o : Obj} (hg : w.grownBy w' v.ownBlock) (h : w.heap[g]? = some o) (hne : v.ownBlock ≠ some g) : w'.heap[g]? = some o := by
  rw [hg.block g (Array.getElem?_eq_some_iff.1 h).1 (fun e => hne e.symm)]; exact h
theorem below_ownM {w w' : World} {B n e : Nat} {v : Value} {xs : List Value} {w0 : World} (hB : B ≤ w.heap.size) (hb : Below B w0 w) (h : OwnsM w B e v n xs) (hg : w.grownBy w' v.ownBlock) : Below B w0 w' :=
  hb.grown hg hB (fun j hj => (h.lt j hj).1)
theorem cells_app (l r : List UInt8) (R : ByteArray) (h : R.data.toList = r) : Lib.byteCells l ++ Lib.strCells R = Lib.byteCells (l ++ r) := by
  rw [← h]; simp [Lib.byteCells, Lib.strCells]
theorem len_app (l r : List UInt8) (R : ByteArray) (h : R.data.toList = r) : l.length + R.size = (l ++ r).length := by
  rw [List.length_append, ← h, ← Lib.size_eq]
theorem ownM_app {w : World} {B e : Nat} {v : Value} {l r : List UInt8} {R : ByteArray} (h : OwnsM w B e v (l.length + R.size) (Lib.byteCells l ++ Lib.strCells R)) (hr : R.data.toList = r) : OwnsM w B e v (l ++ r).length (Lib.byteCells (l ++ r)) := by
  rw [cells_app l r R hr, len_app l r R hr] at h; exact h

set_option maxHeartbeats 8000000 in
theorem writes_any (ws : List Wr) (sl : Value) (hl : ws.length ≤ 20) (ha : ∀ x ∈ ws, x.key.size ≤ 5000 ∧ x.val.size ≤ 5000) (w : World) (hw : WsAt w sl ws) :
    Calls Try.prog 74 #[sl] w fun e w' => e = .returned (.string ⟨(ub ws.length ++ wsB ws).toArray⟩) ∧ Below w.heap.size w w' := by
  obtain ⟨i0, hi, hz0, hz1, hz2⟩ := info_parts u8info
  obtain ⟨p, len, cap, rfl, hlen, hc⟩ := hw
  have HL := Lib.hid hlen
  have HC := Lib.hid hc
  have HA := Lib.hid ha
  rw [hlen] at hl
  rw [hlen]
  have HU := Lib.hid (uint_any len (by omega))
  have hul := ub_len10 (n := len) (by omega)
  have hwn : IntKind.u64.wrap (len : Int) = (len : Int) := by simp [IntKind.wrap, IntKind.bits, IntKind.signed]; omega
  obtain ⟨U, hU⟩ : ∃ U : ByteArray, U = ⟨(ub len).toArray⟩ := ⟨_, rfl⟩
  have hUd : U.data.toList = ub len := by rw [hU]
  have hUs : U.size ≤ 10 := by rw [Lib.size_eq, hUd]; exact hul
  rw [← hU] at HU
  have HUD := Lib.hid hUd
  clear hc ha hlen hul hU hUd
  go_enter Try.func74, Try.ntmps74
  go_upto_region 2 with (first
    | (go_at_call 50; refine (HU.out _).mono ?_; rintro e w1 ⟨rfl, hb1⟩)
    | (refine wpList_bytes_of rfl _ 9 91 5 rfl Try.underlying9 Try.underlying91 Try.underlying5 U rfl (by omega) w.heap.size hb1.size ?_))
  intro v2 w2 hown2 hb2
  have hown3 : OwnsM w2 w.heap.size 5 v2 (ub len ++ wsB (ws.take 0)).length (Lib.byteCells (ub len ++ wsB (ws.take 0))) := by
    have := ownM_app (l := []) (R := U) (r := ub len ++ wsB (ws.take 0)) (by simpa [Lib.byteCells] using hown2) (by rw [HUD.out]; simp [wsB])
    simpa using this
  have hl0 : (ub len ++ wsB (ws.take 0)).length ≤ 10 := by rw [show ub len ++ wsB (ws.take 0) = U.data.toList by rw [HUD.out]; simp [wsB], ← Lib.size_eq]; exact hUs
  have R2 := Lib.hid hown3
  have B2 := Lib.hid (hb1.trans (hb2.mono hb1.size))
  have hz2' := B2.out.size
  have HL0 := Lib.hid hl0
  clear hown2 hown3 hb1 hb2 HU hl0
  go_wp2_with fail
  go_loopg [3, 5, 13] len (fun q s3 s5 s13 wx => ∃ (i : Nat) (out : List UInt8), i + q = len ∧ s13 = .int .i64 i ∧ Hid (out = ub len ++ wsB (ws.take i)) ∧ out.length ≤ 10 + 10021 * i ∧ Hid (OwnsM wx w.heap.size 5 s3 out.length (Lib.byteCells out)) ∧ Hid (Below w.heap.size w wx))
  case atStart => exact ⟨0, _, by omega, rfl, Lib.hid rfl, by have := HL0.out; omega, R2, B2⟩
  case round =>
    obtain ⟨i, out, hiq, rfl, hO, hol, HR, HB⟩ := hrel
    by_cases hlt : i < len
    · obtain ⟨q, rfl⟩ : ∃ q, gk = q + 1 := ⟨gk - 1, by omega⟩
      have hiz : (i : Int) < (len : Int) := by omega
      obtain ⟨bq, off, rfl, hbl, d0', d1', d2'⟩ := HC.out i hlt
      have hmem := HA.out _ (getD_memM (l := ws) (i := i) (by rw [HL.out]; exact hlt))
      have hup := wsB_upto (l := ws) (i := i) (by rw [HL.out]; exact hlt)
      obtain ⟨z, hz⟩ : ∃ z, z = ws.getD i wr0 := ⟨_, rfl⟩
      rw [← hz] at d0' d1' d2' hmem hup
      obtain ⟨zk, zg, zv⟩ := z
      simp only at d0' d1' d2' hmem
      have d0 := (HB.out.cell (p := ⟨bq, off + i * 3, none⟩) hbl).trans d0'
      have d1 := (HB.out.cell (p := ⟨bq, off + i * 3 + 1, none⟩) hbl).trans d1'
      have d2 := (HB.out.cell (p := ⟨bq, off + i * 3 + 2, none⟩) hbl).trans d2'
      have HUP := Lib.hid hup
      clear hz d0' d1' d2' hup
      obtain ⟨T1, hT1, hT1s, ht1⟩ := tx_of zk hmem.1
      obtain ⟨T2, hT2, hT2s, ht2⟩ := tx_of zv hmem.2
      obtain ⟨G, hG⟩ : ∃ G : ByteArray, G = ⟨(bl zg).toArray⟩ := ⟨_, rfl⟩
      have hGd : G.data.toList = bl zg := by rw [hG]
      have hGs : G.size ≤ 1 := by rw [hG]; cases zg <;> exact Nat.le_refl 1
      have hgn := goneText_any zg
      rw [← hG] at hgn
      have HG := Lib.hid hgn
      have H1 := Lib.hid ht1
      have H2 := Lib.hid ht2
      have D1 := Lib.hid hT1
      have D2 := Lib.hid hT2
      have DG := Lib.hid hGd
      have hq6 : out.length ≤ 300000 := by omega
      clear hgn ht1 ht2 hT1 hT2 hGd hG hmem
      go_upto_region 5 with fail
      obtain ⟨P5, hP5⟩ : ∃ P5, P5 = wr.heap.size := ⟨_, rfl⟩
      obtain ⟨W1, hW1⟩ : ∃ W1, W1 = wr.alloc (.cells #[.string zk, .bool zg, .string zv] 64) := ⟨_, rfl⟩
      have hrow : W1.heap[P5]? = some (.cells #[.string zk, .bool zg, .string zv] 64 (0, 0)) := by rw [hW1, hP5]; exact heap_alloc_new wr _
      have hbx : Below wr.heap.size wr W1 := by rw [hW1]; exact (Below.refl _ _).alloc (Nat.le_refl _) _
      have R1 := HR.out.below hbx
      have B1 := HB.out.trans (hbx.mono HB.out.size)
      have hne : u3.ownBlock ≠ some P5 := fun e => by have := (HR.out.lt _ e).2; omega
      rw [← hW1, ← hP5]
      have e1 : W1.cell? ⟨P5, 1, none⟩ = some (.bool zg) := by simp [World.cell?, hrow]
      have hs1 := B1.size
      have R1' := Lib.hid R1
      have B1' := Lib.hid B1
      have ROW := Lib.hid hrow
      have NE := Lib.hid hne
      have hP5z := Lib.hid hP5
      clear hW1 hrow hbx R1 B1 hne d0 d1 d2 HR HB hP5
      go_upto_region 6 with (first
        | (go_at_call 99; refine (HG.out _).mono ?_; rintro e w1 ⟨rfl, rfl⟩)
        | (at_builtin; refine wpList_append_stringM rfl _ _ 91 9 rfl w.heap.size 5 i0 Try.underlying91 Try.underlying9 hi hz0 hz1 hz2 _ out.length (Lib.byteCells out) rfl R1'.out G rfl (by unfold maxLen; omega) (by omega) hs1 ?_))
      intro v3 w3 hown3 hg3 hat3
      have R3 := Lib.hid (ownM_app hown3 DG.out)
      have B3 := Lib.hid (below_ownM hs1 B1'.out R1'.out hg3)
      have ROW3 := Lib.hid (block_grown hg3 ROW.out NE.out)
      have NE3 := Lib.hid (hat3 P5 (Array.getElem?_eq_some_iff.1 ROW.out).1 NE.out)
      have hs3 := B3.out.size
      have e0 : w3.cell? ⟨P5, 0, none⟩ = some (.string zk) := by simp [World.cell?, ROW3.out]
      have hl3 : (out ++ bl zg).length ≤ 300001 := by rw [← len_app _ _ _ DG.out]; omega
      have e3 := Lib.hid (rfl : out ++ bl zg = out ++ bl zg)
      obtain ⟨o3, ho3⟩ : ∃ o3, o3 = out ++ bl zg := ⟨_, rfl⟩
      rw [← ho3] at R3 hl3
      have HO3 := Lib.hid ho3
      clear hown3 hg3 hat3 e1 hs1 R1' B1' ROW NE e3 ho3 HG hGs hq6
      go_upto_region 7 with (first
        | (go_at_call 52; refine (H1.out _).mono ?_; rintro e w4 ⟨rfl, hb4⟩)
        | (at_builtin; refine wpList_append_stringM rfl _ _ 91 9 rfl w.heap.size 5 i0 Try.underlying91 Try.underlying9 hi hz0 hz1 hz2 _ o3.length (Lib.byteCells o3) rfl (R3.out.below hb4) T1 rfl (by unfold maxLen; omega) (by omega) (Nat.le_trans hs3 hb4.size) ?_))
      intro v5 w5 hown5 hg5 hat5
      have hs4 := Nat.le_trans hs3 hb4.size
      have hr4 := (hb4.block P5 (Array.getElem?_eq_some_iff.1 ROW3.out).1).trans ROW3.out
      have R5 := Lib.hid (ownM_app hown5 D1.out)
      have B5 := Lib.hid (below_ownM hs4 (B3.out.trans (hb4.mono hs3)) (R3.out.below hb4) hg5)
      have ROW5 := Lib.hid (block_grown hg5 hr4 NE3.out)
      have hs5 := B5.out.size
      have e2 : w5.cell? ⟨P5, 2, none⟩ = some (.string zv) := by simp [World.cell?, ROW5.out]
      have hl5 : (o3 ++ txB zk).length ≤ 306000 := by rw [← len_app _ _ _ D1.out]; omega
      obtain ⟨o5, ho5⟩ : ∃ o5, o5 = o3 ++ txB zk := ⟨_, rfl⟩
      rw [← ho5] at R5 hl5
      have HO5 := Lib.hid ho5
      clear hown5 hg5 hat5 e0 hs3 R3 B3 ROW3 NE3 ho5 H1 hb4 hs4 hr4 hl3
      go_wp2_with (first
        | (go_at_call 52; refine (H2.out _).mono ?_; rintro e w6 ⟨rfl, hb6⟩)
        | (at_builtin; refine wpList_append_stringM rfl _ _ 91 9 rfl w.heap.size 5 i0 Try.underlying91 Try.underlying9 hi hz0 hz1 hz2 _ o5.length (Lib.byteCells o5) rfl (R5.out.below hb6) T2 rfl (by unfold maxLen; omega) (by omega) (Nat.le_trans hs5 hb6.size) ?_))
      intro v7 w7 hown7 hg7 _
      have hs6 := Nat.le_trans hs5 hb6.size
      have R7 := Lib.hid (ownM_app hown7 D2.out)
      have B7 := Lib.hid (below_ownM hs6 (B5.out.trans (hb6.mono hs5)) (R5.out.below hb6) hg7)
      have hfin := Lib.hid (show o5 ++ txB zv = ub len ++ wsB (ws.take (i + 1)) by rw [HUP.out, HO5.out, HO3.out, hO.out]; simp [wrB])
      have hln := Lib.hid (show (o5 ++ txB zv).length ≤ 10 + 10021 * (i + 1) by
        rw [HO5.out, HO3.out, List.length_append, List.length_append, List.length_append, ← D1.out, ← D2.out, ← Lib.size_eq, ← Lib.size_eq]
        have : (bl zg).length = 1 := rfl
        omega)
      clear hown7 hg7 e2 hs5 R5 B5 ROW5 H2 hb6 hs6 hl5
      go_wp2_with fail
      go_roundg q
      case measure => omega
      case rel => exact ⟨i + 1, _, by omega, by simp, hfin, hln.out, R7, B7⟩
    · obtain rfl : i = len := by omega
      have hiz : ¬ (i : Int) < (i : Int) := by omega
      have hfin := Lib.hid (show out = ub i ++ wsB ws by rw [hO.out, List.take_of_length_le (by rw [HL.out]; exact Nat.le_refl _)])
      have hcv := convert_rowM HR.out
      go_wp2_with fail
      go_ret
      exact ⟨ret_str hfin.out, HB.out⟩
end Go.Proofs.Ytbhlgceicfjncaa

namespace Go.Proofs.Ytbhlgceicfjncaa
open Go.RowKit
set_option linter.unusedVariables false
set_option linter.unnecessarySimpa false
set_option linter.unusedSimpArgs false
set_option maxRecDepth 100000

/-! ### A row of fields -/
def rowF (l : List F3) : Array Value := (l.flatMap F3.cells).toArray
theorem rowF_size (l : List F3) : (rowF l).size = l.length * 3 := by
  unfold rowF
  rw [List.size_toArray]
  induction l with
  | nil => rfl
  | cons x l ih => rw [List.flatMap_cons, List.length_append, ih, List.length_cons]; show 3 + _ = _; omega
theorem flat_atM : ∀ (l : List F3) (j k : Nat), k < 3 → (l.flatMap F3.cells)[j * 3 + k]? = (l[j]?).bind fun f => f.cells[k]?
  | [], j, k, hk => by simp
  | x :: l, 0, k, hk => by
    rw [List.flatMap_cons, List.getElem?_append_left (by show 0 * 3 + k < 3; omega)]
    simp
  | x :: l, j + 1, k, hk => by
    rw [List.flatMap_cons, List.getElem?_append_right (by show 3 ≤ _; omega)]
    rw [show (j + 1) * 3 + k - x.cells.length = j * 3 + k by show (j + 1) * 3 + k - 3 = _; omega]
    rw [flat_atM l j k hk]
    simp
theorem rowF_at {l : List F3} {j : Nat} {f : F3} (h : l[j]? = some f) : (rowF l)[j * 3]? = some (.int .u64 f.tag) ∧ (rowF l)[j * 3 + 1]? = some (.bool f.is) ∧ (rowF l)[j * 3 + 2]? = some (.string ⟨f.text.toArray⟩) := by
  unfold rowF
  refine ⟨?_, ?_, ?_⟩
  · have := flat_atM l j 0 (by omega)
    rw [h] at this
    simpa [F3.cells] using this
  · have := flat_atM l j 1 (by omega)
    rw [h] at this
    simpa [F3.cells] using this
  · have := flat_atM l j 2 (by omega)
    rw [h] at this
    simpa [F3.cells] using this
/-- A row of fields, in memory. -/
def RowAtM (w : World) (g : Nat) (l : List F3) : Prop := w.heap[g]? = some (.cells (rowF l) 106 (0, 0))
theorem RowAtM.lt {w : World} {g : Nat} {l : List F3} (h : RowAtM w g l) : g < w.heap.size := (Array.getElem?_eq_some_iff.1 h).1
theorem RowAtM.at {w : World} {g : Nat} {l : List F3} (h : RowAtM w g l) {j : Nat} {f : F3} (hj : l[j]? = some f) :
    w.cell? ⟨g, j * 3, none⟩ = some (.int .u64 f.tag) ∧ w.cell? ⟨g, j * 3 + 1, none⟩ = some (.bool f.is) ∧ w.cell? ⟨g, j * 3 + 2, none⟩ = some (.string ⟨f.text.toArray⟩) := by
  obtain ⟨h0, h1, h2⟩ := rowF_at hj
  unfold RowAtM at h
  simp [World.cell?, h, h0, h1, h2]
theorem RowAtM.free {w : World} {g : Nat} {l : List F3} (h : RowAtM w g l) (k : Nat) : w.frozen? ⟨g, k, none⟩ = false := by
  unfold RowAtM at h
  simp [World.frozen?, h]
theorem RowAtM.below {w w' : World} {g : Nat} {l : List F3} (h : RowAtM w g l) (hb : Below w.heap.size w w') : RowAtM w' g l := (hb.block g h.lt).trans h
theorem set_flat : ∀ (l : List F3) (i : Nat) (x : F3), i < l.length → (((l.flatMap F3.cells).set (i * 3) (.int .u64 x.tag)).set (i * 3 + 1) (.bool x.is)).set (i * 3 + 2) (.string ⟨x.text.toArray⟩) = (l.set i x).flatMap F3.cells
  | [], i, x, h => by simp at h
  | y :: l, 0, x, h => by
    simp [F3.cells]
  | y :: l, i + 1, x, h => by
    have ih := set_flat l i x (by simpa using h)
    rw [List.set_cons_succ, List.flatMap_cons, List.flatMap_cons, ← ih]
    rw [List.set_append_right _ _ (by show 3 ≤ _; omega), show (i + 1) * 3 - y.cells.length = i * 3 by show (i + 1) * 3 - 3 = _; omega]
    rw [List.set_append_right _ _ (by show 3 ≤ _; omega), show (i + 1) * 3 + 1 - y.cells.length = i * 3 + 1 by show (i + 1) * 3 + 1 - 3 = _; omega]
    rw [List.set_append_right _ _ (by show 3 ≤ _; omega), show (i + 1) * 3 + 2 - y.cells.length = i * 3 + 2 by show (i + 1) * 3 + 2 - 3 = _; omega]
theorem heap_set {w : World} {g k : Nat} {cur : Array Value} {t : TypeId} {fr : Nat × Nat} (h : w.heap[g]? = some (.cells cur t fr)) (v : Value) : (w.setCell ⟨g, k, none⟩ v).heap[g]? = some (.cells (cur.setIfInBounds k v) t fr) := by
  simp [World.setCell, Array.getElem?_modify, h]
theorem RowAtM.set {w : World} {g : Nat} {l : List F3} (h : RowAtM w g l) {i : Nat} (hi : i < l.length) (x : F3) :
    RowAtM (((w.setCell ⟨g, i * 3, none⟩ (.int .u64 x.tag)).setCell ⟨g, i * 3 + 1, none⟩ (.bool x.is)).setCell ⟨g, i * 3 + 2, none⟩ (.string ⟨x.text.toArray⟩)) g (l.set i x) := by
  unfold RowAtM at *
  rw [heap_set (heap_set (heap_set h _) _) _]
  refine congrArg (fun c => some (Obj.cells c 106 (0, 0))) ?_
  unfold rowF
  rw [← set_flat l i x hi]
  simp
theorem grown_set {w : World} {g k : Nat} {v : Value} : w.grownBy (w.setCell ⟨g, k, none⟩ v) (some g) := grownBy_setCell w g k v
theorem grown_three {w : World} {g i j k : Nat} {a b c : Value} : w.grownBy (((w.setCell ⟨g, i, none⟩ a).setCell ⟨g, j, none⟩ b).setCell ⟨g, k, none⟩ c) (some g) :=
  grownBy_trans (grownBy_trans grown_set grown_set) grown_set
theorem grown_of_belowM {w w' : World} {g : Nat} (h : Below w.heap.size w w') : w.grownBy w' (some g) := ⟨h.os, h.tape, h.output, h.size, fun k hk _ => h.block k hk⟩

/-! ### The function that is handed over -/
set_option maxHeartbeats 400000 in
theorem isNot_any (f : F3) (w : World) : Calls Try.prog 76 #[.agg #[.int .u64 f.tag, .bool f.is, .string ⟨f.text.toArray⟩]] w fun e w' => e = .returned (.bool (!f.is)) ∧ Below w.heap.size w w' := by
  go_enter Try.func76, Try.ntmps76
  go_wp2_with fail
  go_ret
  exact ⟨rfl, (Below.refl _ _).alloc (Nat.le_refl _) _⟩

/-- The place of the first field that is zero; -1: there is none. -/
def fidx : List F3 → Int
  | [] => -1
  | f :: l => if f.is then (if fidx l = -1 then -1 else fidx l + 1) else 0
theorem fidx_none : ∀ {l : List F3}, (∀ f ∈ l, f.is = true) → fidx l = -1
  | [], _ => rfl
  | f :: l, h => by
    unfold fidx
    rw [h f (by simp), fidx_none (fun g hg => h g (by simp [hg]))]
    simp
theorem fidx_some : ∀ {l : List F3} {i : Nat}, (∀ j, j < i → ∀ f, l[j]? = some f → f.is = true) → (∃ f, l[i]? = some f ∧ f.is = false) → fidx l = (i : Int)
  | [], i, _, ⟨f, h, _⟩ => by simp at h
  | x :: l, 0, _, ⟨f, h, hf⟩ => by
    simp at h
    subst h
    unfold fidx
    rw [hf]
    rfl
  | x :: l, i + 1, h, ⟨f, hf, hz⟩ => by
    have ih := fidx_some (l := l) (i := i) (fun j hj f hf => h (j + 1) (by omega) f (by simpa using hf)) ⟨f, by simpa using hf, hz⟩
    unfold fidx
    rw [h 0 (by omega) x (by simp), ih, if_pos rfl, if_neg (by omega)]
    omega
theorem all_of {l : List F3} {i : Nat} (h : ∀ j, j < i → ∀ f, l[j]? = some f → f.is = true) (hi : l.length ≤ i) : ∀ f ∈ l, f.is = true := fun f hf => by
  obtain ⟨j, hj, e⟩ := List.getElem_of_mem hf
  exact h j (by omega) f (by rw [List.getElem?_eq_getElem hj, e])

set_option maxHeartbeats 4000000 in
theorem indexFunc_any (l : List F3) (g cap : Nat) (hl : l.length ≤ 1000) (w : World) (h : RowAtM w g l) :
    Calls Try.prog 100 #[.slice (some ⟨g, 0, none⟩) l.length cap, (.func (.func 76) #[] #[])] w fun e w' => e = .returned (.int .i64 (fidx l)) ∧ Below w.heap.size w w' := by
  obtain ⟨len, hlen⟩ : ∃ len, len = l.length := ⟨_, rfl⟩
  have HL := Lib.hid hlen
  have HR := Lib.hid h
  rw [← hlen] at hl
  rw [← hlen]
  clear hlen h
  go_enter Try.func100, Try.ntmps100
  go_wp2_with fail
  go_loopg [5, 8] len (fun k s5 s8 wx => ∃ i : Nat, i + k = len ∧ s8 = .int .i64 i ∧ Hid (∀ j, j < i → ∀ f, l[j]? = some f → f.is = true) ∧ Hid (Below w.heap.size w wx))
  case atStart => exact ⟨0, by omega, rfl, Lib.hid (fun j hj => by omega), Lib.hid (Below.refl _ _)⟩
  case round =>
    obtain ⟨i, hig, rfl, HJ, HB⟩ := hrel
    by_cases hlt : i < len
    · obtain ⟨k, rfl⟩ : ∃ k, gk = k + 1 := ⟨gk - 1, by omega⟩
      have hiz : (i : Int) < (len : Int) := by omega
      obtain ⟨f, hf⟩ : ∃ f, l[i]? = some f := ⟨_, List.getElem?_eq_getElem (by rw [← HL.out]; exact hlt)⟩
      obtain ⟨c0, c1, c2⟩ := (HR.out.below HB.out).at hf
      have HF := Lib.hid hf
      have HI := isNot_any f
      obtain ⟨t, b, s⟩ := f
      simp only at c0 c1 c2 HI
      clear hf
      cases b with
      | true =>
        rw [show (!true) = false from rfl] at HI
        have HI := Lib.hid HI
        go_wp2_with (go_at_call 76; refine (HI.out _).mono ?_; rintro e w1 ⟨rfl, hb1⟩)
        go_roundg k
        case measure => omega
        case rel =>
          refine ⟨i + 1, by omega, by simp, Lib.hid (fun j hj f hf => ?_), Lib.hid (HB.out.trans (hb1.mono HB.out.size))⟩
          by_cases hji : j = i
          · subst hji
            rw [HF.out] at hf
            injection hf with hf
            rw [← hf]
          · exact HJ.out j (by omega) f hf
      | false =>
        rw [show (!false) = true from rfl] at HI
        have HI := Lib.hid HI
        have hfin := Lib.hid (fidx_some HJ.out ⟨_, HF.out, rfl⟩)
        go_wp2_with (go_at_call 76; refine (HI.out _).mono ?_; rintro e w1 ⟨rfl, hb1⟩)
        go_ret
        exact ⟨ret_int hfin.out.symm, HB.out.trans (hb1.mono HB.out.size)⟩
    · have hiz : ¬ (i : Int) < (len : Int) := by omega
      have hfin := Lib.hid (fidx_none (all_of HJ.out (by rw [← HL.out]; omega)))
      go_wp2_with fail
      go_ret
      exact ⟨ret_int hfin.out.symm, HB.out⟩
end Go.Proofs.Ytbhlgceicfjncaa
