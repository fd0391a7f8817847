/-
  Joined: MsgSame, MsgWith, MsgWithMath, MsgLaws, CrcMath, FrmMath, CrcSmall.
-/
import Derived.Test.YtbhlgceicfjncaaSet08
import Derived.Test.YtbhlgceicfjncaaSet03
import Derived.Test.YtbhlgceicfjncaaRows
import Derived.WalkKit
import Derived.Laws.BitsAllLaws
import Derived.Test.YtbhlgceicfjncaaSet01
import Derived.ProofKit
import Derived.WalkSpells
import Derived.WalkLawsBesides
import Derived.Lib.Hide
import Derived.Deep.LoopGhost
namespace Go.Proofs.Ytbhlgceicfjncaa
open Go.RowKit
set_option linter.unusedVariables false
set_option linter.unnecessarySimpa false
set_option linter.unusedSimpArgs false
set_option maxRecDepth 100000

theorem refProject_any (v : Int) (hv : -9223372036854775808 ≤ v ∧ v ≤ 9223372036854775807) (m : Mg) (sl : Value) (hf : m.fits) (hw : m.few) (w : World) (hws : WsAt w sl m.ws) :
    Calls Try.prog 29 #[.int .i64 v, .agg (m.cells sl)] w (MsgOut (projB v m).1 (projB v m).2 w) := by
  unfold projB
  by_cases h0 : lastOfM v = 0
  · rw [if_pos (.inl h0)]
    exact refProject_none v hv h0 m sl w
  · cases hr : rightBM m
    · rw [if_pos (.inr rfl)]
      exact refProject_wrong v hv h0 m sl hf hw hr w hws
    · rw [if_neg (by rintro (h | h); exact h0 h; cases h)]
      have h3 : v = 1 ∨ v = 2 ∨ v = 3 := by
        by_cases h : v = 1 ∨ v = 2 ∨ v = 3
        · exact h
        · exact absurd (lastOf_zero.2 h) h0
      by_cases hm : m.must = 0
      · rw [if_neg (fun h => h.2 hm)]
        rcases h3 with rfl | rfl | rfl
        · exact refProject_ok1 m sl hf hw hr hm w hws
        · exact refProject_ok2 m sl hf hw hr hm w hws
        · exact refProject_ok3 m sl hf hw hr trivial w hws
      · rcases h3 with rfl | rfl | rfl
        · rw [if_pos ⟨by decide, hm⟩]; exact refProject_crit1 m sl hf hw hr hm w hws
        · rw [if_pos ⟨by decide, hm⟩]; exact refProject_crit2 m sl hf hw hr hm w hws
        · rw [if_neg (by rintro ⟨h, _⟩; omega)]; exact refProject_ok3 m sl hf hw hr trivial w hws

set_option maxHeartbeats 8000000 in
theorem refSame_yes (m n : Mg) (sl1 sl2 : Value) (hm : m.sane) (hn : n.sane) (he : msgB m 12 = msgB n 12) (w : World) (h1 : WsAt w sl1 m.ws) (h2 : WsAt w sl2 n.ws) :
    Calls Try.prog 15 #[.agg (m.cells sl1), .agg (n.cells sl2)] w fun e w' => e = .returned (.bool true) ∧ Below w.heap.size w w' := by
  have HB1 := Lib.hid (fun (W : World) (hW : WsAt W sl1 m.ws) => refBytes_any m sl1 hm 12 (by decide) W hW)
  have HB2 := Lib.hid (fun (W : World) (hW : WsAt W sl2 n.ws) => refBytes_any n sl2 hn 12 (by decide) W hW)
  obtain ⟨Z, hZ⟩ : ∃ Z : ByteArray, Z = ⟨(msgB n 12).toArray⟩ := ⟨_, rfl⟩
  rw [he, ← hZ] at HB1
  rw [← hZ] at HB2
  have H1 := Lib.hid h1
  have H2 := Lib.hid h2
  unfold Mg.cells at HB1 HB2
  obtain ⟨kind1, frm1, to_1, node1, life1, seq1, a1, b1, key1, found1, time1, gone1, val1, ws1, note1, hint1, must1⟩ := m
  obtain ⟨kind2, frm2, to_2, node2, life2, seq2, a2, b2, key2, found2, time2, gone2, val2, ws2, note2, hint2, must2⟩ := n
  simp only at HB1 HB2 H1 H2
  clear h1 h2 hZ he hm hn
  show Calls _ _ #[.agg #[.int .i64 kind1, .int .i64 frm1, .int .i64 to_1, .int .i64 node1, .int .i64 life1, .int .i64 seq1, .int .u64 a1, .int .u64 b1, .string key1, .bool found1, .int .u64 time1, .bool gone1, .string val1, sl1, .string note1, .int .u64 hint1, .int .u64 must1], .agg #[.int .i64 kind2, .int .i64 frm2, .int .i64 to_2, .int .i64 node2, .int .i64 life2, .int .i64 seq2, .int .u64 a2, .int .u64 b2, .string key2, .bool found2, .int .u64 time2, .bool gone2, .string val2, sl2, .string note2, .int .u64 hint2, .int .u64 must2]] w _
  go_enter Try.func15, Try.ntmps15
  go_upto_region 1 with fail
  obtain ⟨W2, hW2⟩ : ∃ W2, W2 = (w.alloc (.cells #[.int .i64 kind1, .int .i64 frm1, .int .i64 to_1, .int .i64 node1, .int .i64 life1, .int .i64 seq1, .int .u64 a1, .int .u64 b1, .string key1, .bool found1, .int .u64 time1, .bool gone1, .string val1, sl1, .string note1, .int .u64 hint1, .int .u64 must1] 38)).alloc (.cells #[.int .i64 kind2, .int .i64 frm2, .int .i64 to_2, .int .i64 node2, .int .i64 life2, .int .i64 seq2, .int .u64 a2, .int .u64 b2, .string key2, .bool found2, .int .u64 time2, .bool gone2, .string val2, sl2, .string note2, .int .u64 hint2, .int .u64 must2] 38) := ⟨_, rfl⟩
  have HB := Lib.hid (show Below w.heap.size w W2 by rw [hW2]; exact two_below _ _ _)
  have HR1 := Lib.hid (show W2.heap[w.heap.size]? = some (.cells #[.int .i64 kind1, .int .i64 frm1, .int .i64 to_1, .int .i64 node1, .int .i64 life1, .int .i64 seq1, .int .u64 a1, .int .u64 b1, .string key1, .bool found1, .int .u64 time1, .bool gone1, .string val1, sl1, .string note1, .int .u64 hint1, .int .u64 must1] 38 (0, 0)) by rw [hW2, Below.heap_alloc _ _ _ (by simp)]; exact heap_alloc_new w _)
  have HR2 := Lib.hid (show W2.heap[w.heap.size + 1]? = some (.cells #[.int .i64 kind2, .int .i64 frm2, .int .i64 to_2, .int .i64 node2, .int .i64 life2, .int .i64 seq2, .int .u64 a2, .int .u64 b2, .string key2, .bool found2, .int .u64 time2, .bool gone2, .string val2, sl2, .string note2, .int .u64 hint2, .int .u64 must2] 38 (0, 0)) by rw [hW2]; exact two_second _ _ _)
  rw [← hW2]
  clear hW2
  refine region_likes (by kernel_rfl) (by kernel_rfl) ?_
  repeat (first
    | (go_big_quiet_want; refine quiet_row 38 _ rfl w.heap.size rfl 38 #[.int .i64 kind1, .int .i64 frm1, .int .i64 to_1, .int .i64 node1, .int .i64 life1, .int .i64 seq1, .int .u64 a1, .int .u64 b1, .string key1, .bool found1, .int .u64 time1, .bool gone1, .string val1, sl1, .string note1, .int .u64 hint1, .int .u64 must1] (0, 0) _ (likes_row HR1.out) Try.underlying38 rfl msg_size ?_; go_simp; go_big_quiet_on)
    | (go_big_quiet_want; refine quiet_row 38 _ rfl (w.heap.size + 1) rfl 38 #[.int .i64 kind2, .int .i64 frm2, .int .i64 to_2, .int .i64 node2, .int .i64 life2, .int .i64 seq2, .int .u64 a2, .int .u64 b2, .string key2, .bool found2, .int .u64 time2, .bool gone2, .string val2, sl2, .string note2, .int .u64 hint2, .int .u64 must2] (0, 0) _ (likes_row HR2.out) Try.underlying38 rfl msg_size ?_; go_simp; go_big_quiet_on)
    | (go_big_quiet_step (first
        | (go_at_call 31; with_reducible exact calls_likes (Like.size _) (HB1.out _ (H1.out.below (HB.out.trans ((Like.below _).mono HB.out.size)))))
        | (go_at_call 31; with_reducible exact calls_likes (Like.size _) (HB2.out _ (H2.out.below (HB.out.trans ((Like.below _).mono HB.out.size)))))))
    )
  refine wpQuiet_nil ?_
  intro x
  have hbx := Lib.hid (show Below w.heap.size w x.val from HB.out.trans (x.below.mono HB.out.size))
  go_wp2_with fail
  go_ret
  exact ⟨rfl, hbx.out⟩
end Go.Proofs.Ytbhlgceicfjncaa

namespace Go.Proofs.Ytbhlgceicfjncaa
open Go.RowKit
set_option linter.unusedVariables false
set_option linter.unnecessarySimpa false
set_option linter.unusedSimpArgs false
set_option maxRecDepth 100000

/-- Fields more, as plain data: a head, a text. -/
abbrev Ex := Nat × ByteArray
def ex0 : Ex := (0, ByteArray.empty)
def ExAt (W : World) (a : Option Addr) (len : Nat) (zs : List Ex) : Prop :=
  zs.length = len ∧ ∀ i, i < len → ∃ b off, a = some ⟨b, off, none⟩ ∧ b < W.heap.size ∧ (zs.getD i ex0).1 < 65536 ∧
    W.cell? ⟨b, off + i * 2, none⟩ = some (.int .u16 (zs.getD i ex0).1) ∧ W.cell? ⟨b, off + i * 2 + 1, none⟩ = some (.string (zs.getD i ex0).2)
theorem ExAt.below {W W' : World} {a : Option Addr} {len : Nat} {zs : List Ex} (h : ExAt W a len zs) (hb : Below W.heap.size W W') : ExAt W' a len zs :=
  ⟨h.1, fun i hi => by
    obtain ⟨b, off, ha, hlt, h1, c0, c1⟩ := h.2 i hi
    exact ⟨b, off, ha, Nat.lt_of_lt_of_le hlt hb.size, h1, (hb.cell hlt).trans c0, (hb.cell hlt).trans c1⟩⟩
/-- One field more: the tag, the bytes, whether one is critical. -/
structure Wst where
  tag : Nat
  bytes : List UInt8
  crit : Bool
def wstep (s : Wst) (x : Ex) : Wst := ⟨s.tag + (1 + x.1 / 2 % 100), s.bytes ++ (ub (2 * (s.tag + (1 + x.1 / 2 % 100)) + x.1 % 2) ++ txB x.2), s.crit || x.1 % 2 == 1⟩
def wst0 : Wst := ⟨12, [], false⟩
def wrun (l : List Ex) : Wst := l.foldl wstep wst0
theorem wrun_next {l : List Ex} {i : Nat} (h : i < l.length) : wrun (l.take (i + 1)) = wstep (wrun (l.take i)) (l.getD i ex0) := by
  unfold wrun
  rw [List.take_add_one, List.getElem?_eq_getElem h, List.foldl_append]
  simp only [Option.toList_some, List.foldl_cons, List.foldl_nil]
  simp [List.getD, List.getElem?_eq_getElem h]

/-- What With answers. -/
def WithOut (s : ByteArray) (zs : List Ex) (len : Nat) (w : World) (e : Ending) (w' : World) : Prop :=
  e = .returned (.tuple #[.string (s ++ ⟨(wrun (zs.take 6)).bytes.toArray⟩), .int .i64 (min len 6 : Nat), .bool (wrun (zs.take 6)).crit]) ∧ Below w.heap.size w w'
theorem WithOut.mk {s S : ByteArray} {zs : List Ex} {len n : Nat} {c : Bool} {w w' : World} (h1 : S = s ++ ⟨(wrun (zs.take 6)).bytes.toArray⟩) (h2 : n = min len 6) (h3 : c = (wrun (zs.take 6)).crit) (h4 : Below w.heap.size w w') :
    WithOut s zs len w (.returned (.tuple #[.string S, .int .i64 n, .bool c])) w' := ⟨by rw [h1, h2, h3], h4⟩

end Go.Proofs.Ytbhlgceicfjncaa

namespace Go.Proofs.Ytbhlgceicfjncaa
open Go.RowKit
set_option linter.unusedVariables false
set_option linter.unnecessarySimpa false
set_option linter.unusedSimpArgs false
set_option maxRecDepth 100000

def exB : Nat → List Ex → List UInt8
  | _, [] => []
  | t, x :: l => ub (2 * (t + (1 + x.1 / 2 % 100)) + x.1 % 2) ++ txB x.2 ++ exB (t + (1 + x.1 / 2 % 100)) l
def exC (l : List Ex) : Bool := l.any fun x => x.1 % 2 == 1
theorem wrun_go : ∀ (l : List Ex) (s : Wst), (l.foldl wstep s).bytes = s.bytes ++ exB s.tag l ∧ (l.foldl wstep s).crit = (s.crit || exC l)
  | [], s => ⟨by simp [exB], by simp [exC]⟩
  | x :: l, s => by
    have ih := wrun_go l (wstep s x)
    rw [List.foldl_cons]
    refine ⟨?_, ?_⟩
    · rw [ih.1]
      simp [wstep, exB]
    · rw [ih.2]
      simp [wstep, exC, Bool.or_assoc]
theorem wrun_bytes (l : List Ex) : (wrun l).bytes = exB 12 l ∧ (wrun l).crit = exC l := by
  have := wrun_go l wst0
  unfold wrun
  rw [this.1, this.2]
  exact ⟨by simp [wst0], by simp [wst0]⟩
end Go.Proofs.Ytbhlgceicfjncaa

namespace Go.Proofs.Ytbhlgceicfjncaa
open Go.RowKit
set_option linter.unusedVariables false
set_option linter.unnecessarySimpa false
set_option linter.unusedSimpArgs false
set_option maxRecDepth 100000

/-- What the end of the fields gives. -/
def finB (x : Option Dst) : Mg × Nat × Int := match x with
  | none => (mg0, 0, 2)
  | some s => if rightBM s.m = false then (mg0, 0, 2) else if s.crit = true then (mg0, 0, 4) else (s.m, s.left, 0)
theorem decB_fin {v : Int} {b : List UInt8} {kind k : Nat} (h1 : ¬ lastOfM v = 0) (h2 : b.length ≤ 4000) (h3 : tk b = some (kind, k)) : decB v b = finB (dAll (lastOfM v) (dst0 kind) (b.drop k)) := by
  unfold decB
  rw [if_neg h1, if_neg (by omega), h3]
  simp only
  unfold finB
  cases dAll (lastOfM v) (dst0 kind) (b.drop k) <;> rfl
theorem last_ne {v : Int} (h : v = 1 ∨ v = 2 ∨ v = 3) : ¬ lastOfM v = 0 := by rcases h with rfl | rfl | rfl <;> decide
theorem last_912 {v : Int} (h : v = 1 ∨ v = 2 ∨ v = 3) : lastOfM v = 9 ∨ lastOfM v = 10 ∨ lastOfM v = 12 := by
  rcases h with rfl | rfl | rfl
  · exact .inl rfl
  · exact .inr (.inl rfl)
  · exact .inr (.inr rfl)
theorem kind_of {m : Mg} (h : rightBM m = true) : 1 ≤ m.kind ∧ m.kind ≤ 9 := of_decide_eq_true (right_partsM h).2.1

theorem dec_front {m : Mg} (hr : rightBM m = true) (hf : m.fits) (hw : m.few) {lo hi : Int} (hlo : lo = 1 ∨ lo = 2 ∨ lo = 3) (hhi : hi = 1 ∨ hi = 2 ∨ hi = 3) (hle : lo ≤ hi) (R : List UInt8) (hl : (msgB m (lastOfM hi) ++ R).length ≤ 4000) :
    ∃ p, p ≤ lastOfM hi ∧ decB lo (msgB m (lastOfM hi) ++ R) = finB (dAll (lastOfM lo) ⟨p, upto m (lastOfM lo), lostB m lo hi, decide (lo < 3 ∧ hi = 3 ∧ m.must ≠ 0)⟩ R) := by
  obtain ⟨p, hp, e⟩ := run_all hr hf hw hlo hhi hle R
  have hk := kind_of hr
  have hs : msgB m (lastOfM hi) ++ R = ub m.kind.toNat ++ (fldsB m (lastOfM hi) ++ R) := by unfold msgB; rw [List.append_assoc]
  have h3 : tk (msgB m (lastOfM hi) ++ R) = some (m.kind.toNat, (ub m.kind.toNat).length) := by rw [hs]; exact tk_front' _ _ (by omega)
  refine ⟨p, hp, ?_⟩
  rw [decB_fin (last_ne hlo) hl h3, hs, List.drop_left, ← e]
  have : dst0 m.kind.toNat = ⟨0, upto m 0, 0, false⟩ := by
    unfold dst0
    rw [show ((m.kind.toNat : Nat) : Int) = m.kind by omega]
    rfl
  rw [this]
theorem msgB_le (m : Mg) {v : Int} (h : v = 1 ∨ v = 2 ∨ v = 3) : (msgB m (lastOfM v)).length ≤ (msgB m 12).length := by
  have := fldsB_mono m (j := lastOfM v) (k := 12) (by rcases h with rfl | rfl | rfl <;> decide)
  unfold msgB
  rw [List.length_append, List.length_append]
  omega
/-- A message's bytes are decoded, in the version or a lesser one. -/
theorem dec_enc {m : Mg} (hr : rightBM m = true) (hf : m.fits) (hw : m.few) {lo hi : Int} (hlo : lo = 1 ∨ lo = 2 ∨ lo = 3) (hhi : hi = 1 ∨ hi = 2 ∨ hi = 3) (hle : lo ≤ hi) (hmu : hi = 3 ∨ m.must = 0) :
    decB lo (msgB m (lastOfM hi)) = if lo < 3 ∧ m.must ≠ 0 then (mg0, 0, 4) else (cut lo m, lostB m lo hi, 0) := by
  have hl := msgB_le m hhi
  have h4 := (right_partsM hr).2.2.2.2.2
  obtain ⟨p, _, e⟩ := dec_front hr hf hw hlo hhi hle [] (by rw [List.append_nil]; omega)
  rw [List.append_nil] at e
  rw [e, dAll_nil]
  unfold finB
  simp only
  rw [if_neg (by rw [upto_right hr (last_912 hlo)]; decide)]
  by_cases hc : lo < 3 ∧ m.must ≠ 0
  · rw [if_pos hc, decide_eq_true (show lo < 3 ∧ hi = 3 ∧ m.must ≠ 0 by
      rcases hmu with h | h
      · exact ⟨hc.1, h, hc.2⟩
      · exact absurd h hc.2), if_pos rfl]
  · rw [if_neg hc, decide_eq_false (fun h => hc ⟨h.1, h.2.2⟩), if_neg (by decide), upto_cut hlo (by omega)]
/-- One byte behind a message is none's. -/
theorem dec_behind {m : Mg} (hr : rightBM m = true) (hf : m.fits) (hw : m.few) (c : UInt8) : (decB 3 (msgB m 12 ++ [c])).2.2 ≠ 0 := by
  by_cases hl : (msgB m (lastOfM 3) ++ [c]).length ≤ 4000
  · obtain ⟨p, _, e⟩ := dec_front hr hf hw (lo := 3) (hi := 3) (by omega) (by omega) (by omega) [c] hl
    have h1 : oneS [c] = none := by
      unfold oneS
      cases h : tk [c] with
      | none => rfl
      | some q =>
        obtain ⟨n, k⟩ := q
        have := tk_some h
        have hk : k = 1 := by simp at this; omega
        subst hk
        rfl
    rw [dAll_none (by simp) h1] at e
    show (decB 3 (msgB m (lastOfM 3) ++ [c])).2.2 ≠ 0
    rw [e]
    unfold finB
    decide
  · unfold decB
    rw [if_neg (by decide), if_pos (by show 4000 < (msgB m (lastOfM 3) ++ [c]).length; omega)]
    decide
theorem dec_empty : (decB 3 []).2.2 ≠ 0 := by
  unfold decB
  rw [if_neg (by decide), if_neg (by simp)]
  decide
/-- Fields more, of no version's tags. -/
theorem ex_run {last : Nat} (hlast : last ≤ 12) : ∀ (l : List Ex) (t p : Nat) (M : Mg) (L : Nat) (C : Bool), p ≤ t → last ≤ t → t + 101 * l.length < 1000000 → (∀ x ∈ l, x.2.size < 18446744073709551616) →
    ∃ p', dAll last ⟨p, M, L, C⟩ (exB t l) = some ⟨p', M, L + l.length, C || exC l⟩
  | [], t, p, M, L, C, _, _, _, _ => ⟨p, by show dAll last _ [] = _; rw [dAll_nil]; simp [exC]⟩
  | x :: l, t, p, M, L, C, h1, h2, h3, h4 => by
    obtain ⟨hd, tx⟩ := x
    have h5 := h4 (hd, tx) (by simp)
    simp only at h5
    rw [List.length_cons] at h3
    obtain ⟨t', ht'⟩ : ∃ t', t' = t + (1 + hd / 2 % 100) := ⟨_, rfl⟩
    have e0 : exB t ((hd, tx) :: l) = ub (2 * t' + hd % 2) ++ (ub tx.data.toList.length ++ tx.data.toList) ++ exB t' l := by
      rw [ht', exB]
      simp only [txB, Lib.size_eq]
    have e1 := oneS_enc (r := exB t' l) (h := 2 * t' + hd % 2) (t := tx.data.toList) (by omega) (by rw [← Lib.size_eq]; exact h5)
    have e2 : dstep last ⟨p, M, L, C⟩ (2 * t' + hd % 2) tx.data.toList = some ⟨t', M, L + 1, C || hd % 2 == 1⟩ := by
      unfold dstep
      rw [show (2 * t' + hd % 2) / 2 = t' by omega, show (2 * t' + hd % 2) % 2 = hd % 2 by omega, if_neg (by simp only; omega), if_pos (by omega)]
    obtain ⟨p', e3⟩ := ex_run hlast l t' t' M (L + 1) (C || hd % 2 == 1) (Nat.le_refl _) (by omega) (by omega) (fun y hy => h4 y (by simp [hy]))
    refine ⟨p', ?_⟩
    rw [e0, dAll_step e1 e2, e3]
    congr 2
    · rw [List.length_cons]; omega
    · simp [exC, Bool.or_assoc]
/-- A message with fields more behind it. -/
theorem dec_more {m : Mg} (hr : rightBM m = true) (hf : m.fits) (hw : m.few) {v : Int} (hv : v = 1 ∨ v = 2 ∨ v = 3) (hmu : v = 3 ∨ m.must = 0) (l : List Ex) (hl : l.length ≤ 6) (hx : ∀ x ∈ l, x.2.size ≤ 50) (hlen : (msgB m (lastOfM v) ++ exB 12 l).length ≤ 4000) :
    decB v (msgB m (lastOfM v) ++ exB 12 l) = if exC l = true then (mg0, 0, 4) else (cut v m, l.length, 0) := by
  obtain ⟨p, hp, e⟩ := dec_front hr hf hw hv hv (Int.le_refl _) (exB 12 l) hlen
  have h12 : lastOfM v ≤ 12 := by rcases hv with rfl | rfl | rfl <;> decide
  have hl0 : lostB m v v = 0 := by unfold lostB; rw [if_neg (by omega), if_neg (by omega), if_neg (by omega)]
  obtain ⟨p', e2⟩ := ex_run h12 l 12 p (upto m (lastOfM v)) 0 false (by omega) h12 (by omega) (fun x h => by have := hx x h; omega)
  rw [e, hl0, decide_eq_false (by omega), e2]
  unfold finB
  simp only
  rw [if_neg (by rw [upto_right hr (last_912 hv)]; decide), Bool.false_or, Nat.zero_add, upto_cut hv (by omega)]
theorem exB_len : ∀ (l : List Ex) (t : Nat), t + 101 * l.length < 8000 → (∀ x ∈ l, x.2.size ≤ 50) → (exB t l).length ≤ 60 * l.length
  | [], _, _, _ => Nat.le_refl _
  | x :: l, t, h1, h2 => by
    have h3 := h2 x (by simp)
    rw [List.length_cons] at h1
    have ih := exB_len l (t + (1 + x.1 / 2 % 100)) (by omega) (fun y hy => h2 y (by simp [hy]))
    have u1 := ub_len 1 (2 * (t + (1 + x.1 / 2 % 100)) + x.1 % 2) (by omega)
    have u2 := ub_len 0 x.2.size (by omega)
    rw [exB]
    simp only [txB, List.length_append, List.length_cons, ← Lib.size_eq]
    omega
end Go.Proofs.Ytbhlgceicfjncaa

namespace Go.Proofs.Ytbhlgceicfjncaa
set_option linter.unnecessarySimpa false
set_option linter.unusedVariables false
set_option linter.unusedSimpArgs false
set_option maxRecDepth 100000

theorem xor_zero_eq {x y : Nat} (h : x ^^^ y = 0) : x = y := by
  have h1 : x ^^^ (x ^^^ y) = x := by rw [h, Nat.xor_zero]
  rw [← Nat.xor_assoc, Nat.xor_self, Nat.zero_xor] at h1
  exact h1.symm

/-- One step: halved, and, if a one was lost, the polynomial by an exclusive or. -/
def half (n : Nat) : Nat := if n % 2 = 1 then (n / 2) ^^^ 2197175160 else n / 2
def halves : Nat → Nat → Nat
  | 0, n => n
  | k + 1, n => halves k (half n)

theorem half_odd {n : Nat} (h : n % 2 = 1) : half n = (n / 2) ^^^ 2197175160 := if_pos h
theorem half_even {n : Nat} (h : ¬ n % 2 = 1) : half n = n / 2 := if_neg h

theorem half_xor (x y : Nat) : half (x ^^^ y) = half x ^^^ half y := by
  have hm := @Nat.xor_mod_two_eq_one x y
  by_cases hx : x % 2 = 1 <;> by_cases hy : y % 2 = 1
  · rw [half_even (by rw [hm]; simp [hx, hy]), half_odd hx, half_odd hy, Nat.xor_div_two,
      Nat.xor_assoc, ← Nat.xor_assoc 2197175160, Nat.xor_comm 2197175160, Nat.xor_assoc (y / 2), Nat.xor_self, Nat.xor_zero]
  · rw [half_odd (by rw [hm]; simp [hx, hy]), half_odd hx, half_even hy, Nat.xor_div_two, Nat.xor_assoc, Nat.xor_assoc, Nat.xor_comm (y / 2)]
  · rw [half_odd (by rw [hm]; simp [hx, hy]), half_even hx, half_odd hy, Nat.xor_div_two, Nat.xor_assoc]
  · rw [half_even (by rw [hm]; simp [hx, hy]), half_even hx, half_even hy, Nat.xor_div_two]

theorem half_lt {n : Nat} (h : n < 4294967296) : half n < 4294967296 := by
  by_cases hn : n % 2 = 1
  · rw [half_odd hn]
    exact Nat.xor_lt_two_pow (n := 32) (by omega) (by decide)
  · rw [half_even hn]; omega

theorem half_zero {n : Nat} (h : n < 4294967296) (h0 : half n = 0) : n = 0 := by
  by_cases hn : n % 2 = 1
  · rw [half_odd hn] at h0
    have := xor_zero_eq h0
    omega
  · rw [half_even hn] at h0; omega

theorem half_inj {x y : Nat} (hx : x < 4294967296) (hy : y < 4294967296) (h : half x = half y) : x = y := by
  refine xor_zero_eq (half_zero (Nat.xor_lt_two_pow (n := 32) hx hy) ?_)
  rw [half_xor, h, Nat.xor_self]

theorem halves_xor : ∀ (k x y : Nat), halves k (x ^^^ y) = halves k x ^^^ halves k y
  | 0, _, _ => rfl
  | k + 1, x, y => by rw [halves, halves, halves, half_xor, halves_xor k]
theorem halves_lt : ∀ (k : Nat) {n : Nat}, n < 4294967296 → halves k n < 4294967296
  | 0, _, h => h
  | k + 1, _, h => by rw [halves]; exact halves_lt k (half_lt h)
theorem halves_inj : ∀ (k : Nat) {x y : Nat}, x < 4294967296 → y < 4294967296 → halves k x = halves k y → x = y
  | 0, _, _, _, _, h => h
  | k + 1, _, _, hx, hy, h => half_inj hx hy (halves_inj k (half_lt hx) (half_lt hy) h)
theorem halves_snoc : ∀ (k n : Nat), halves (k + 1) n = half (halves k n)
  | 0, _ => rfl
  | k + 1, n => by rw [halves, halves_snoc k, halves]
theorem halves_mul : ∀ (k n : Nat), halves k (2 ^ k * n) = n
  | 0, n => by simp [halves]
  | k + 1, n => by
    have e : 2 ^ (k + 1) * n = 2 * (2 ^ k * n) := by rw [Nat.pow_succ, Nat.mul_comm (2 ^ k) 2, Nat.mul_assoc]
    rw [halves, e, half_even (by omega), Nat.mul_div_cancel_left _ (by decide), halves_mul k]

theorem split256 (s : Nat) : s = (256 * (s / 256)) ^^^ (s % 256) := by
  apply Nat.eq_of_testBit_eq
  intro i
  rw [Nat.testBit_xor, show (256 : Nat) = 2 ^ 8 from rfl, Nat.testBit_mod_two_pow, Nat.mul_comm, Nat.testBit_mul_two_pow, Nat.testBit_div_two_pow]
  by_cases h : i < 8
  · have h' : ¬ 8 ≤ i := by omega
    simp [h, h']
  · have h' : 8 ≤ i := by omega
    simp [h, h', Nat.sub_add_cancel h']

/-- A byte more. -/
def stepB (s : Nat) (b : UInt8) : Nat := halves 8 (s ^^^ b.toNat)
/-- The table's way to it. -/
theorem stepB_table (s : Nat) (b : UInt8) : stepB s b = (s / 256) ^^^ halves 8 ((s % 256) ^^^ b.toNat) := by
  unfold stepB
  conv => lhs; rw [split256 s]
  rw [Nat.xor_assoc, halves_xor, show (256 : Nat) = 2 ^ 8 from rfl, halves_mul]
theorem stepB_lt {s : Nat} (h : s < 4294967296) (b : UInt8) : stepB s b < 4294967296 :=
  halves_lt 8 (Nat.xor_lt_two_pow (n := 32) h (by have := UInt8.toNat_lt b; omega))
theorem stepB_state {s t : Nat} (hs : s < 4294967296) (ht : t < 4294967296) (b : UInt8) (h : stepB s b = stepB t b) : s = t := by
  have hb := UInt8.toNat_lt b
  have h1 := halves_inj 8 (Nat.xor_lt_two_pow (n := 32) hs (by omega)) (Nat.xor_lt_two_pow (n := 32) ht (by omega)) h
  have h2 : (s ^^^ b.toNat) ^^^ b.toNat = (t ^^^ b.toNat) ^^^ b.toNat := by rw [h1]
  simpa [Nat.xor_assoc] using h2
theorem stepB_byte {s : Nat} (hs : s < 4294967296) {b c : UInt8} (h : stepB s b = stepB s c) : b = c := by
  have hb := UInt8.toNat_lt b
  have hc := UInt8.toNat_lt c
  have h1 := halves_inj 8 (Nat.xor_lt_two_pow (n := 32) hs (by omega)) (Nat.xor_lt_two_pow (n := 32) hs (by omega)) h
  have h2 : s ^^^ (s ^^^ b.toNat) = s ^^^ (s ^^^ c.toNat) := by rw [h1]
  rw [← Nat.xor_assoc, ← Nat.xor_assoc, Nat.xor_self, Nat.zero_xor, Nat.zero_xor] at h2
  exact UInt8.toNat_inj.1 h2

/-- The state behind bytes. -/
def moreB (s : Nat) (l : List UInt8) : Nat := l.foldl stepB s
theorem moreB_nil (s : Nat) : moreB s [] = s := rfl
theorem moreB_append (s : Nat) (l m : List UInt8) : moreB s (l ++ m) = moreB (moreB s l) m := List.foldl_append ..
theorem moreB_lt : ∀ (l : List UInt8) {s : Nat}, s < 4294967296 → moreB s l < 4294967296
  | [], _, h => h
  | b :: l, _, h => moreB_lt l (stepB_lt h b)
theorem moreB_state : ∀ (l : List UInt8) {s t : Nat}, s < 4294967296 → t < 4294967296 → moreB s l = moreB t l → s = t
  | [], _, _, _, _, h => h
  | b :: l, _, _, hs, ht, h => stepB_state hs ht b (moreB_state l (stepB_lt hs b) (stepB_lt ht b) h)
/-- Bytes that differ in one place alone make other states. -/
theorem moreB_bent (l m : List UInt8) {b c : UInt8} (h : b ≠ c) {s : Nat} (hs : s < 4294967296) : moreB s (l ++ b :: m) ≠ moreB s (l ++ c :: m) := by
  intro e
  rw [moreB_append, moreB_append] at e
  have hl := moreB_lt l hs
  exact h (stepB_byte hl (moreB_state m (stepB_lt hl b) (stepB_lt hl c) e))

/-- The sum. -/
def sumB (l : List UInt8) : Nat := 4294967295 - moreB 4294967295 l
theorem flip32 {s : Nat} (h : s < 4294967296) : s ^^^ 4294967295 = 4294967295 - s := by
  rw [show (4294967295 : Nat) = 2 ^ 32 - 1 from rfl]
  have := Nat.xor_lt_two_pow (n := 32) h (show (4294967295 : Nat) < 2 ^ 32 by decide)
  apply Nat.eq_of_testBit_eq
  intro i
  rw [Nat.testBit_xor, Nat.testBit_two_pow_sub_one, show 2 ^ 32 - 1 - s = 2 ^ 32 - (s + 1) by omega, Nat.testBit_two_pow_sub_succ (n := 32) h]
  by_cases hi : i < 32
  · simp [hi]
  · have : s.testBit i = false := Nat.testBit_lt_two_pow (Nat.lt_of_lt_of_le h (Nat.pow_le_pow_right (n := 2) (by decide) (show 32 ≤ i by omega)))
    simp [hi, this]
theorem sumB_lt (l : List UInt8) : sumB l < 4294967296 := by unfold sumB; omega
theorem sumB_bent (l m : List UInt8) {b c : UInt8} (h : b ≠ c) : sumB (l ++ b :: m) ≠ sumB (l ++ c :: m) := by
  intro e
  have h1 := moreB_bent l m h (s := 4294967295) (by decide)
  have h2 := moreB_lt (l ++ b :: m) (s := 4294967295) (by decide)
  have h3 := moreB_lt (l ++ c :: m) (s := 4294967295) (by decide)
  unfold sumB at e
  omega

/-- The table, as an array's cells. -/
def tab : Array Value := (Array.range 256).map fun i => .int .u32 (halves 8 i)
theorem tab_size : tab.size = 256 := by simp [tab]
theorem tab_at {i : Nat} (h : i < 256) : tab[i]? = some (.int .u32 (halves 8 i)) := by simp [tab, h]
theorem tab_one : tab.all (·.oneCell') = true := by
  rw [Array.all_eq_true_iff_forall_mem]
  intro v hv
  obtain ⟨j, _, rfl⟩ := Array.mem_map.1 hv
  rfl
/-- The table's first k places, noughts behind them. -/
def tabTo (k : Nat) : Array Value := (Array.range 256).map fun i => .int .u32 (if i < k then (halves 8 i : Int) else 0)
theorem tabTo_size (k : Nat) : (tabTo k).size = 256 := by simp [tabTo]
theorem tabTo_zero : tabTo 0 = Array.replicate 256 (.int .u32 0) := by
  apply Array.ext
  · simp [tabTo]
  · intro i h1 h2; simp [tabTo]
theorem tabTo_all : tabTo 256 = tab := by
  apply Array.ext
  · simp [tabTo, tab]
  · intro i h1 h2
    have : i < 256 := by simpa [tabTo_size] using h1
    simp [tabTo, tab, this]
theorem tabTo_cur {k : Nat} (h : k < 256) : (tabTo k)[k]? = some (.int .u32 0) := by simp [tabTo, h]
theorem tabTo_succ (k : Nat) : (tabTo k).setIfInBounds k (.int .u32 (halves 8 k)) = tabTo (k + 1) := by
  apply Array.ext
  · simp [tabTo]
  · intro i h1 h2
    rw [Array.getElem_setIfInBounds (by simpa [tabTo_size] using h1)]
    by_cases h : k = i
    · subst h; simp [tabTo]
    · have h3 : (i < k + 1) = (i < k) := by apply propext; omega
      simp [tabTo, h, h3]

/-! The model's spellings. -/
theorem and1 {n : Nat} (h : n < 4294967296) : bits BinOp.and IntKind.u32 (n : Int) 1 = ((n % 2 : Nat) : Int) := by
  rw [show (1 : Int) = ((1 : Nat) : Int) from rfl, u32_and_nat n 1 h (by decide), nat_mask1]
theorem xorP32 {n : Nat} (h : n < 4294967296) : bits BinOp.xor IntKind.u32 (n : Int) 2197175160 = ((n ^^^ 2197175160 : Nat) : Int) := by
  rw [show (2197175160 : Int) = ((2197175160 : Nat) : Int) from rfl, u32_xor_nat n _ h (by decide)]
theorem xorP64 {n : Nat} (h : n < 18446744073709551616) : bits BinOp.xor IntKind.u64 (n : Int) 2197175160 = ((n ^^^ 2197175160 : Nat) : Int) := by
  rw [show (2197175160 : Int) = ((2197175160 : Nat) : Int) from rfl, u64_xor_nat n _ h (by decide)]
theorem xorEnd {n : Nat} (h : n < 4294967296) : bits BinOp.xor IntKind.u32 (n : Int) 4294967295 = ((4294967295 - n : Nat) : Int) := by
  rw [show (4294967295 : Int) = ((4294967295 : Nat) : Int) from rfl, u32_xor_nat n _ h (by decide), flip32 h]
end Go.Proofs.Ytbhlgceicfjncaa

namespace Go.Proofs.Ytbhlgceicfjncaa
set_option linter.unusedVariables false
set_option linter.unnecessarySimpa false
set_option linter.unusedSimpArgs false
set_option maxRecDepth 100000

theorem fx_length (n size : Nat) (big : Bool) : (fx n size big).length = size := by rw [fx, cellsF_length]

/-- A frame: how many bytes, their sum, they. -/
def frmB (l : List UInt8) : List UInt8 := fx l.length 4 true ++ fx (sumB l) 4 true ++ l
theorem frmB_length (l : List UInt8) : (frmB l).length = l.length + 8 := by
  unfold frmB
  rw [List.length_append, List.length_append, fx_length, fx_length]; omega

/-- A payload that has a frame. -/
def good (s : ByteArray) : Bool := decide (1 ≤ s.size) && decide (s.size ≤ 4000)
theorem good_iff (s : ByteArray) : good s = true ↔ 1 ≤ s.size ∧ s.size ≤ 4000 := by simp [good]
theorem good_no (s : ByteArray) : good s = false ↔ s.size < 1 ∨ 4000 < s.size := by
  unfold good; rw [Bool.and_eq_false_iff, decide_eq_false_iff_not, decide_eq_false_iff_not]; omega
/-- What is told of payloads. -/
def goods (l : List ByteArray) : List ByteArray := l.filter good
theorem goods_snoc_yes {l : List ByteArray} {s : ByteArray} (h : good s = true) : goods (l ++ [s]) = goods l ++ [s] := by simp [goods, h]
theorem goods_snoc_no {l : List ByteArray} {s : ByteArray} (h : good s = false) : goods (l ++ [s]) = goods l := by simp [goods, h]
theorem goods_cons_yes {l : List ByteArray} {s : ByteArray} (h : good s = true) : goods (s :: l) = s :: goods l := by simp [goods, h]
theorem goods_cons_no {l : List ByteArray} {s : ByteArray} (h : good s = false) : goods (s :: l) = goods l := by simp [goods, h]
theorem goods_le (l : List ByteArray) : (goods l).length ≤ l.length := List.length_filter_le _ _
theorem take_snocD {α : Type} (l : List α) (d : α) {i : Nat} (h : i < l.length) : l.take (i + 1) = l.take i ++ [l.getD i d] := by
  rw [List.take_add_one, List.getD, List.getElem?_eq_getElem h]; rfl
theorem drop_consD {α : Type} (l : List α) (d : α) {i : Nat} (h : i < l.length) : l.drop i = l.getD i d :: l.drop (i + 1) := by
  rw [List.getD, List.getElem?_eq_getElem h]; exact List.drop_eq_getElem_cons h
end Go.Proofs.Ytbhlgceicfjncaa

namespace Go.Proofs.Ytbhlgceicfjncaa
open Go.RowKit
set_option linter.unnecessarySimpa false
set_option linter.unusedVariables false
set_option linter.unusedSimpArgs false
set_option maxRecDepth 100000

theorem crc_ret_int {k : IntKind} {a b : Int} (h : a = b) : Ending.returned (.int k a) = .returned (.int k b) := by rw [h]

theorem begin_any (w : World) : Calls Try.prog 55 #[] w fun e w' => e = .returned (.int .u32 4294967295) ∧ w' = w := by
  go_enter Try.func55, Try.ntmps55
  go_wp2
  go_ret
  exact ⟨rfl, rfl⟩

theorem end_any (n : Nat) (hn : n < 4294967296) (w : World) : Calls Try.prog 53 #[.int .u32 n] w fun e w' => e = .returned (.int .u32 ((4294967295 - n : Nat) : Int)) ∧ w' = w := by
  have hx := Lib.hid (xorEnd hn)
  clear hn
  go_enter Try.func53, Try.ntmps53
  go_wp2
  go_ret
  exact ⟨crc_ret_int hx.out, rfl⟩

set_option maxHeartbeats 1000000 in
theorem divided_any (n : Nat) (hn : n < 4294967296) (w : World) : Calls Try.prog 19 #[.int .u32 n] w fun e w' => e = .returned (.int .u32 (halves 8 n)) ∧ w' = w := by
  have HN := Lib.hid hn
  clear hn
  go_enter Try.func19, Try.ntmps19
  go_wp2
  go_loopg [0, 3, 4] 8 (fun g s0 s3 s4 wx => ∃ i : Nat, i + g = 8 ∧ s0 = .int .u32 (halves i n) ∧ s4 = .int .i64 i ∧ wx = w)
  case atStart => exact ⟨0, by omega, rfl, rfl, rfl⟩
  case round =>
    obtain ⟨i, hig, rfl, rfl, rfl⟩ := hrel
    cases gk with
    | zero =>
      obtain rfl : i = 8 := by omega
      go_wp2
      go_ret
      exact ⟨rfl, rfl⟩
    | succ g =>
      have hi : (i : Int) < 8 := by omega
      obtain ⟨m, hm⟩ : ∃ m, m = halves i n := ⟨_, rfl⟩
      have hml : m < 4294967296 := by rw [hm]; exact halves_lt i HN.out
      have hs := Lib.hid (halves_snoc i n)
      have HM := Lib.hid hm
      rw [← hm]
      clear hm
      have hdiv := Lib.hid (show m / 2 < 4294967296 by omega)
      have ha := Lib.hid (and1 hml)
      have hx := Lib.hid (xorP32 hdiv.out)
      by_cases h : m % 2 = 1
      · have he := Lib.hid (half_odd h)
        have ht : (bits BinOp.and IntKind.u32 (m : Int) 1 == 1) = true := by rw [ha.out, h]; rfl
        clear hml
        go_wp2
        go_roundg g
        case measure => omega
        case rel => exact ⟨i + 1, by omega, congrArg (Value.int .u32) (by rw [show (m : Int) / 2 = ((m / 2 : Nat) : Int) by omega, hx.out, hs.out, ← HM.out, he.out]), by simp, rfl⟩
      · have he := Lib.hid (half_even h)
        have ht : (bits BinOp.and IntKind.u32 (m : Int) 1 == 1) = false := by rw [ha.out]; have : m % 2 = 0 := by omega
                                                                              rw [this]; rfl
        clear hml
        go_wp2
        go_roundg g
        case measure => omega
        case rel => exact ⟨i + 1, by omega, congrArg (Value.int .u32) (by rw [show (m : Int) / 2 = ((m / 2 : Nat) : Int) by omega, hs.out, ← HM.out, he.out]), by simp, rfl⟩

end Go.Proofs.Ytbhlgceicfjncaa
