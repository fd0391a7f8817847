/-
  Joined: MsgSame, MsgWith, MsgWithMath.
-/
import Derived.Test.YtkcbbcabfbkclaaMsgProjOK
namespace Go.Proofs.Ytkcbbcabfbkclaa
open Go.RowKit
set_option linter.unusedVariables false
set_option linter.unnecessarySimpa false
set_option linter.unusedSimpArgs false
set_option maxRecDepth 100000

theorem refProject_any (v : Int) (hv : -9223372036854775808 ≤ v ∧ v ≤ 9223372036854775807) (m : Mg) (sl : Value) (hf : m.fits) (hw : m.few) (w : World) (hws : WsAt w sl m.ws) :
    Calls Try.prog 12 #[.int .i64 v, .agg (m.cells sl)] w (MsgOut (projB v m).1 (projB v m).2 w) := by
  unfold projB
  by_cases h0 : lastOf v = 0
  · rw [if_pos (.inl h0)]
    exact refProject_none v hv h0 m sl w
  · cases hr : rightB m
    · rw [if_pos (.inr rfl)]
      exact refProject_wrong v hv h0 m sl hf hw hr w hws
    · rw [if_neg (by rintro (h | h); exact h0 h; cases h)]
      have h3 : v = 1 ∨ v = 2 ∨ v = 3 := by
        by_cases h : v = 1 ∨ v = 2 ∨ v = 3
        · exact h
        · exact absurd (lastOf_zero.2 h) h0
      by_cases hm : m.must = 0
      · rw [if_neg (fun h => h.2 hm)]
        rcases h3 with rfl | rfl | rfl
        · exact refProject_ok1 m sl hf hw hr hm w hws
        · exact refProject_ok2 m sl hf hw hr hm w hws
        · exact refProject_ok3 m sl hf hw hr trivial w hws
      · rcases h3 with rfl | rfl | rfl
        · rw [if_pos ⟨by decide, hm⟩]; exact refProject_crit1 m sl hf hw hr hm w hws
        · rw [if_pos ⟨by decide, hm⟩]; exact refProject_crit2 m sl hf hw hr hm w hws
        · rw [if_neg (by rintro ⟨h, _⟩; omega)]; exact refProject_ok3 m sl hf hw hr trivial w hws

set_option maxHeartbeats 8000000 in
theorem refSame_yes (m n : Mg) (sl1 sl2 : Value) (hm : m.sane) (hn : n.sane) (he : msgB m 12 = msgB n 12) (w : World) (h1 : WsAt w sl1 m.ws) (h2 : WsAt w sl2 n.ws) :
    Calls Try.prog 15 #[.agg (m.cells sl1), .agg (n.cells sl2)] w fun e w' => e = .returned (.bool true) ∧ Below w.heap.size w w' := by
  have HB1 := Lib.hid (fun (W : World) (hW : WsAt W sl1 m.ws) => refBytes_any m sl1 hm 12 (by decide) W hW)
  have HB2 := Lib.hid (fun (W : World) (hW : WsAt W sl2 n.ws) => refBytes_any n sl2 hn 12 (by decide) W hW)
  obtain ⟨Z, hZ⟩ : ∃ Z : ByteArray, Z = ⟨(msgB n 12).toArray⟩ := ⟨_, rfl⟩
  rw [he, ← hZ] at HB1
  rw [← hZ] at HB2
  have H1 := Lib.hid h1
  have H2 := Lib.hid h2
  unfold Mg.cells at HB1 HB2
  obtain ⟨kind1, frm1, to_1, node1, life1, seq1, a1, b1, key1, found1, time1, gone1, val1, ws1, note1, hint1, must1⟩ := m
  obtain ⟨kind2, frm2, to_2, node2, life2, seq2, a2, b2, key2, found2, time2, gone2, val2, ws2, note2, hint2, must2⟩ := n
  simp only at HB1 HB2 H1 H2
  clear h1 h2 hZ he hm hn
  show Calls _ _ #[.agg #[.int .i64 kind1, .int .i64 frm1, .int .i64 to_1, .int .i64 node1, .int .i64 life1, .int .i64 seq1, .int .u64 a1, .int .u64 b1, .string key1, .bool found1, .int .u64 time1, .bool gone1, .string val1, sl1, .string note1, .int .u64 hint1, .int .u64 must1], .agg #[.int .i64 kind2, .int .i64 frm2, .int .i64 to_2, .int .i64 node2, .int .i64 life2, .int .i64 seq2, .int .u64 a2, .int .u64 b2, .string key2, .bool found2, .int .u64 time2, .bool gone2, .string val2, sl2, .string note2, .int .u64 hint2, .int .u64 must2]] w _
  go_enter Try.func15, Try.ntmps15
  go_upto_region 1 with fail
  obtain ⟨W2, hW2⟩ : ∃ W2, W2 = (w.alloc (.cells #[.int .i64 kind1, .int .i64 frm1, .int .i64 to_1, .int .i64 node1, .int .i64 life1, .int .i64 seq1, .int .u64 a1, .int .u64 b1, .string key1, .bool found1, .int .u64 time1, .bool gone1, .string val1, sl1, .string note1, .int .u64 hint1, .int .u64 must1] 29)).alloc (.cells #[.int .i64 kind2, .int .i64 frm2, .int .i64 to_2, .int .i64 node2, .int .i64 life2, .int .i64 seq2, .int .u64 a2, .int .u64 b2, .string key2, .bool found2, .int .u64 time2, .bool gone2, .string val2, sl2, .string note2, .int .u64 hint2, .int .u64 must2] 29) := ⟨_, rfl⟩
  have HB := Lib.hid (show Below w.heap.size w W2 by rw [hW2]; exact two_below _ _ _)
  have HR1 := Lib.hid (show W2.heap[w.heap.size]? = some (.cells #[.int .i64 kind1, .int .i64 frm1, .int .i64 to_1, .int .i64 node1, .int .i64 life1, .int .i64 seq1, .int .u64 a1, .int .u64 b1, .string key1, .bool found1, .int .u64 time1, .bool gone1, .string val1, sl1, .string note1, .int .u64 hint1, .int .u64 must1] 29 (0, 0)) by rw [hW2, Below.heap_alloc _ _ _ (by simp)]; exact heap_alloc_new w _)
  have HR2 := Lib.hid (show W2.heap[w.heap.size + 1]? = some (.cells #[.int .i64 kind2, .int .i64 frm2, .int .i64 to_2, .int .i64 node2, .int .i64 life2, .int .i64 seq2, .int .u64 a2, .int .u64 b2, .string key2, .bool found2, .int .u64 time2, .bool gone2, .string val2, sl2, .string note2, .int .u64 hint2, .int .u64 must2] 29 (0, 0)) by rw [hW2]; exact two_second _ _ _)
  rw [← hW2]
  clear hW2
  refine region_likes (by kernel_rfl) (by kernel_rfl) ?_
  repeat (first
    | (go_big_quiet_want; refine quiet_row 29 _ rfl w.heap.size rfl 29 #[.int .i64 kind1, .int .i64 frm1, .int .i64 to_1, .int .i64 node1, .int .i64 life1, .int .i64 seq1, .int .u64 a1, .int .u64 b1, .string key1, .bool found1, .int .u64 time1, .bool gone1, .string val1, sl1, .string note1, .int .u64 hint1, .int .u64 must1] (0, 0) _ (likes_row HR1.out) Try.underlying29 rfl msg_size ?_; go_simp; go_big_quiet_on)
    | (go_big_quiet_want; refine quiet_row 29 _ rfl (w.heap.size + 1) rfl 29 #[.int .i64 kind2, .int .i64 frm2, .int .i64 to_2, .int .i64 node2, .int .i64 life2, .int .i64 seq2, .int .u64 a2, .int .u64 b2, .string key2, .bool found2, .int .u64 time2, .bool gone2, .string val2, sl2, .string note2, .int .u64 hint2, .int .u64 must2] (0, 0) _ (likes_row HR2.out) Try.underlying29 rfl msg_size ?_; go_simp; go_big_quiet_on)
    | (go_big_quiet_step (first
        | (go_at_call 13; with_reducible exact calls_likes (Like.size _) (HB1.out _ (H1.out.below (HB.out.trans ((Like.below _).mono HB.out.size)))))
        | (go_at_call 13; with_reducible exact calls_likes (Like.size _) (HB2.out _ (H2.out.below (HB.out.trans ((Like.below _).mono HB.out.size)))))))
    )
  refine wpQuiet_nil ?_
  intro x
  have hbx := Lib.hid (show Below w.heap.size w x.val from HB.out.trans (x.below.mono HB.out.size))
  go_wp2_with fail
  go_ret
  exact ⟨rfl, hbx.out⟩
end Go.Proofs.Ytkcbbcabfbkclaa

namespace Go.Proofs.Ytkcbbcabfbkclaa
open Go.RowKit
set_option linter.unusedVariables false
set_option linter.unnecessarySimpa false
set_option linter.unusedSimpArgs false
set_option maxRecDepth 100000

/-- Fields more, as plain data: a head, a text. -/
abbrev Ex := Nat × ByteArray
def ex0 : Ex := (0, ByteArray.empty)
def ExAt (W : World) (a : Option Addr) (len : Nat) (zs : List Ex) : Prop :=
  zs.length = len ∧ ∀ i, i < len → ∃ b off, a = some ⟨b, off, none⟩ ∧ b < W.heap.size ∧ (zs.getD i ex0).1 < 65536 ∧
    W.cell? ⟨b, off + i * 2, none⟩ = some (.int .u16 (zs.getD i ex0).1) ∧ W.cell? ⟨b, off + i * 2 + 1, none⟩ = some (.string (zs.getD i ex0).2)
theorem ExAt.below {W W' : World} {a : Option Addr} {len : Nat} {zs : List Ex} (h : ExAt W a len zs) (hb : Below W.heap.size W W') : ExAt W' a len zs :=
  ⟨h.1, fun i hi => by
    obtain ⟨b, off, ha, hlt, h1, c0, c1⟩ := h.2 i hi
    exact ⟨b, off, ha, Nat.lt_of_lt_of_le hlt hb.size, h1, (hb.cell hlt).trans c0, (hb.cell hlt).trans c1⟩⟩
/-- One field more: the tag, the bytes, whether one is critical. -/
structure Wst where
  tag : Nat
  bytes : List UInt8
  crit : Bool
def wstep (s : Wst) (x : Ex) : Wst := ⟨s.tag + (1 + x.1 / 2 % 100), s.bytes ++ (ub (2 * (s.tag + (1 + x.1 / 2 % 100)) + x.1 % 2) ++ txB x.2), s.crit || x.1 % 2 == 1⟩
def wst0 : Wst := ⟨12, [], false⟩
def wrun (l : List Ex) : Wst := l.foldl wstep wst0
theorem wrun_next {l : List Ex} {i : Nat} (h : i < l.length) : wrun (l.take (i + 1)) = wstep (wrun (l.take i)) (l.getD i ex0) := by
  unfold wrun
  rw [List.take_add_one, List.getElem?_eq_getElem h, List.foldl_append]
  simp only [Option.toList_some, List.foldl_cons, List.foldl_nil]
  simp [List.getD, List.getElem?_eq_getElem h]

/-- What With answers. -/
def WithOut (s : ByteArray) (zs : List Ex) (len : Nat) (w : World) (e : Ending) (w' : World) : Prop :=
  e = .returned (.tuple #[.string (s ++ ⟨(wrun (zs.take 6)).bytes.toArray⟩), .int .i64 (min len 6 : Nat), .bool (wrun (zs.take 6)).crit]) ∧ Below w.heap.size w w'
theorem WithOut.mk {s S : ByteArray} {zs : List Ex} {len n : Nat} {c : Bool} {w w' : World} (h1 : S = s ++ ⟨(wrun (zs.take 6)).bytes.toArray⟩) (h2 : n = min len 6) (h3 : c = (wrun (zs.take 6)).crit) (h4 : Below w.heap.size w w') :
    WithOut s zs len w (.returned (.tuple #[.string S, .int .i64 n, .bool c])) w' := ⟨by rw [h1, h2, h3], h4⟩

set_option maxHeartbeats 8000000 in
theorem refWith_any (s : ByteArray) (hs : s.size ≤ 100000) (a : Option Addr) (len cap : Nat) (zs : List Ex) (hln : len ≤ 20) (hts : ∀ i, i < len → (zs.getD i ex0).2.size ≤ 50) (w : World) (hz : ExAt w a len zs) :
    Calls Try.prog 18 #[.string s, .slice a len cap] w (WithOut s zs len w) := by
  have HZ := Lib.hid hz
  have HT := Lib.hid hts
  have HL := Lib.hid hz.1
  have HS0 := Lib.hid (show s ++ ⟨(wrun (zs.take 0)).bytes.toArray⟩ = s by apply ByteArray.ext; simp [wrun, wst0])
  clear hz hts
  go_enter Try.func18, Try.ntmps18
  go_wp2_with fail
  go_loopg [0, 7, 8, 9, 10] 7 (fun q s0 s7 s8 s9 s10 wx => ∃ (i tag : Nat) (S : ByteArray) (c : Bool), i + q = 7 ∧ i ≤ 6 ∧ i ≤ len ∧ s10 = .int .i64 i ∧ s8 = .int .i64 i ∧ s7 = .int .i64 tag ∧ s0 = .string S ∧ s9 = .bool c ∧ tag ≤ 12 + 100 * i ∧ S.size ≤ 100000 + 100 * i ∧
    Hid (S = s ++ ⟨(wrun (zs.take i)).bytes.toArray⟩) ∧ Hid (tag = (wrun (zs.take i)).tag) ∧ Hid (c = (wrun (zs.take i)).crit) ∧ Hid (Below w.heap.size w wx))
  case atStart => exact ⟨0, 12, s, false, by omega, by omega, by omega, rfl, rfl, rfl, rfl, rfl, by omega, by omega, Lib.hid HS0.out.symm, Lib.hid rfl, Lib.hid rfl, Lib.hid (Below.refl _ _)⟩
  case round =>
    obtain ⟨i, tag, S, c, hiq, hi6, hil, rfl, rfl, rfl, rfl, rfl, htag, hSs, hS, hTg, hC, hb⟩ := hrel
    by_cases hlt : i < len
    · have hiz : (i : Int) < (len : Int) := by omega
      by_cases h6 : i < 6
      · have hiz6 : (i : Int) < 6 := by omega
        obtain ⟨q, rfl⟩ : ∃ q, gk = q + 1 := ⟨gk - 1, by omega⟩
        obtain ⟨bq, off, rfl, hbl, hx6, d0', d1'⟩ := HZ.out.2 i hlt
        have htx := HT.out i hlt
        have hnx := wrun_next (l := zs) (i := i) (by rw [HL.out]; exact hlt)
        obtain ⟨z, hz⟩ : ∃ z, z = zs.getD i ex0 := ⟨_, rfl⟩
        rw [← hz] at d0' d1' hx6 htx hnx
        obtain ⟨hd, tx⟩ := z
        simp only at d0' d1' hx6 htx
        have d0 := (hb.out.cell (p := ⟨bq, off + i * 2, none⟩) hbl).trans d0'
        have d1 := (hb.out.cell (p := ⟨bq, off + i * 2 + 1, none⟩) hbl).trans d1'
        clear hz d0' d1'
        obtain ⟨t, ht⟩ : ∃ t, t = tag + (1 + hd / 2 % 100) := ⟨_, rfl⟩
        have htq : (tag : Int) + (1 + (hd : Int) / 2 % 100) = (t : Int) := by omega
        have ht1 : t ≤ 12 + 100 * (i + 1) := by omega
        have HTT := Lib.hid ht
        clear ht
        go_upto_region 7 with fail
        have hu := refUint_any (2 * t + hd % 2) (by omega)
        rw [show ((2 * t + hd % 2 : Nat) : Int) = 2 * (t : Int) + (hd : Int) % 2 by omega] at hu
        have hus := ub_size' (2 * t + hd % 2) (by omega)
        have htt := refTextB_any tx (by omega)
        obtain ⟨U, hU⟩ : ∃ U : ByteArray, U = ⟨(ub (2 * t + hd % 2)).toArray⟩ := ⟨_, rfl⟩
        rw [← hU] at hus
        obtain ⟨T, hT⟩ : ∃ U : ByteArray, U = ⟨(ub tx.size ++ tx.data.toList).toArray⟩ := ⟨_, rfl⟩
        have hTs : T.size ≤ 60 := by rw [hT]; show (ub tx.size ++ tx.data.toList).toArray.size ≤ _; rw [List.size_toArray, List.length_append, ← Lib.size_eq]; have := ub_len10 (n := tx.size) (by omega); omega
        have hadd := Lib.hid (show S ++ (U ++ T) = s ++ ⟨(wrun (zs.take (i + 1))).bytes.toArray⟩ by
          rw [hnx, hS.out, hU, hT]
          apply ByteArray.ext
          simp [wstep, txB, ← hTg.out, ← HTT.out])
        have hnt := Lib.hid (show t = (wrun (zs.take (i + 1))).tag by rw [hnx, HTT.out]; show _ = (wrun (zs.take i)).tag + (1 + hd / 2 % 100); rw [← hTg.out])
        have hnc := Lib.hid (show (c || hd % 2 == 1) = (wrun (zs.take (i + 1))).crit by rw [hnx]; show _ = ((wrun (zs.take i)).crit || hd % 2 == 1); rw [← hC.out])
        have hns := Lib.hid (show (S ++ (U ++ T)).size ≤ 100000 + 100 * (i + 1) by rw [ByteArray.size_append, ByteArray.size_append]; omega)
        have ha1 : U.size + T.size ≤ 9223372036854775807 := by omega
        have ha2 : S.size + (U ++ T).size ≤ 9223372036854775807 := by rw [ByteArray.size_append]; omega
        rw [← hU] at hu
        rw [← hT] at htt
        have HU := Lib.hid hu
        have HTX := Lib.hid htt
        have hblr : bq < wr.heap.size := Nat.lt_of_lt_of_le hbl hb.out.size
        have hc0 : ∀ x : Like wr.heap.size wr, x.val.cell? ⟨bq, off + i * 2, none⟩ = some (.int .u16 hd) := fun x => (x.below.cell (p := ⟨bq, off + i * 2, none⟩) hblr).trans d0
        have hc1 : ∀ x : Like wr.heap.size wr, x.val.cell? ⟨bq, off + i * 2 + 1, none⟩ = some (.string tx) := fun x => (x.below.cell (p := ⟨bq, off + i * 2 + 1, none⟩) hblr).trans d1
        have q1 : IntKind.i64.wrap (2 * (t : Int)) = 2 * (t : Int) := by simp [IntKind.wrap, IntKind.bits, IntKind.signed]; omega
        have q1b : wrap64 (2 * (t : Int)) = 2 * (t : Int) := by unfold wrap64; omega
        have q2 : IntKind.u64.wrap (2 * (t : Int)) = 2 * (t : Int) := by simp [IntKind.wrap, IntKind.bits, IntKind.signed]; omega
        have q3 : IntKind.u64.wrap ((hd : Int) % 2) = (hd : Int) % 2 := by simp [IntKind.wrap, IntKind.bits, IntKind.signed]; omega
        have q4 : IntKind.u64.wrap (2 * (t : Int) + (hd : Int) % 2) = 2 * (t : Int) + (hd : Int) % 2 := by simp [IntKind.wrap, IntKind.bits, IntKind.signed]; omega
        clear hU hT hTs hnx hu htt hus
        refine region_likes (by kernel_rfl) (by kernel_rfl) ?_
        repeat (go_big_quiet_step (first
          | (go_at_call 26; exact calls_likes (Like.size _) (HU.out _))
          | (go_at_call 28; exact calls_likes (Like.size _) (HTX.out _))))
        refine wpQuiet_nil ?_
        intro x
        have e0 := hc0 x
        have hbx := Lib.hid (hb.out.trans (x.below.mono hb.out.size))
        obtain ⟨w5, hw5⟩ : ∃ w5, w5 = x.val := ⟨_, rfl⟩
        rw [← hw5] at e0 hbx
        rw [← hw5]
        clear hw5 hc0 hc1 d0 d1 q1 q1b q2 q3 q4 ha1 ha2 htq
        clear x
        have hm : (hd : Int) % 2 = 0 ∨ (hd : Int) % 2 = 1 := by omega
        cases c
        · rcases hm with hm | hm
          · have hb0 : ((hd : Int) % 2 == 1) = false := by rw [hm]; rfl
            have HNC := Lib.hid (show false = (wrun (zs.take (i + 1))).crit by rw [← hnc.out, show (hd % 2 == 1) = false by rw [beq_eq_false_iff_ne]; omega]; rfl)
            clear hm
            go_wp2_with fail
            go_roundg q
            case measure => omega
            case rel => exact ⟨i + 1, t, _, false, by omega, by omega, by omega, by simp, by simp, rfl, rfl, rfl, ht1, hns.out, hadd, hnt, HNC, hbx⟩
          · have hb0 : ((hd : Int) % 2 == 1) = true := by rw [hm]; rfl
            have HNC := Lib.hid (show true = (wrun (zs.take (i + 1))).crit by rw [← hnc.out, show (hd % 2 == 1) = true by rw [beq_iff_eq]; omega]; rfl)
            clear hm
            go_wp2_with fail
            go_roundg q
            case measure => omega
            case rel => exact ⟨i + 1, t, _, true, by omega, by omega, by omega, by simp, by simp, rfl, rfl, rfl, ht1, hns.out, hadd, hnt, HNC, hbx⟩
        · have HNC := Lib.hid (show true = (wrun (zs.take (i + 1))).crit by rw [← hnc.out]; rfl)
          clear hm
          go_wp2_with fail
          go_roundg q
          case measure => omega
          case rel => exact ⟨i + 1, t, _, true, by omega, by omega, by omega, by simp, by simp, rfl, rfl, rfl, ht1, hns.out, hadd, hnt, HNC, hbx⟩
      · obtain rfl : i = 6 := by omega
        have hiz6 : ¬ ((6 : Nat) : Int) < 6 := by omega
        have H6 := Lib.hid (show 6 = min len 6 by omega)
        go_wp2_with fail
        go_ret3
        exact WithOut.mk hS.out H6.out hC.out hb.out
    · obtain rfl : i = len := by omega
      have hiz : ¬ (i : Int) < (i : Int) := by omega
      have htk : zs.take i = zs.take 6 := by
        have := HL.out
        rw [List.take_of_length_le (by omega), List.take_of_length_le (by omega)]
      rw [htk] at hS hC
      have H6 := Lib.hid (show i = min i 6 by omega)
      clear htk
      go_wp2_with fail
      go_ret3
      exact WithOut.mk hS.out H6.out hC.out hb.out
end Go.Proofs.Ytkcbbcabfbkclaa

namespace Go.Proofs.Ytkcbbcabfbkclaa
open Go.RowKit
set_option linter.unusedVariables false
set_option linter.unnecessarySimpa false
set_option linter.unusedSimpArgs false
set_option maxRecDepth 100000

def exB : Nat → List Ex → List UInt8
  | _, [] => []
  | t, x :: l => ub (2 * (t + (1 + x.1 / 2 % 100)) + x.1 % 2) ++ txB x.2 ++ exB (t + (1 + x.1 / 2 % 100)) l
def exC (l : List Ex) : Bool := l.any fun x => x.1 % 2 == 1
theorem wrun_go : ∀ (l : List Ex) (s : Wst), (l.foldl wstep s).bytes = s.bytes ++ exB s.tag l ∧ (l.foldl wstep s).crit = (s.crit || exC l)
  | [], s => ⟨by simp [exB], by simp [exC]⟩
  | x :: l, s => by
    have ih := wrun_go l (wstep s x)
    rw [List.foldl_cons]
    refine ⟨?_, ?_⟩
    · rw [ih.1]
      simp [wstep, exB]
    · rw [ih.2]
      simp [wstep, exC, Bool.or_assoc]
theorem wrun_bytes (l : List Ex) : (wrun l).bytes = exB 12 l ∧ (wrun l).crit = exC l := by
  have := wrun_go l wst0
  unfold wrun
  rw [this.1, this.2]
  exact ⟨by simp [wst0], by simp [wst0]⟩
end Go.Proofs.Ytkcbbcabfbkclaa
