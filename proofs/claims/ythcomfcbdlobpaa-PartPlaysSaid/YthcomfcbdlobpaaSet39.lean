/-
  Joined: PrtPRead, PrtPFunc.
-/
import Derived.Test.YthcomfcbdlobpaaSet26
import Derived.Test.YthcomfcbdlobpaaSet28
import Derived.Laws.ResultCell
import Derived.Test.YthcomfcbdlobpaaSet38
import Derived.Shelf.Abstract
namespace Go.Proofs.Ythcomfcbdlobpaa
open Go.RowKit Go.Maps
set_option linter.unusedVariables false
set_option linter.unnecessarySimpa false
set_option linter.unusedSimpArgs false
set_option maxRecDepth 100000

section
variable {M : MvcC} {w : World} {r rs : Addr} {b : Nat} {mp ml : Option Nat} {S : List Im} {P : List Pd} {OS R : Nat → Prop}
set_option maxHeartbeats 4000000 in
theorem gprep_any (h : PtM M w r rs b mp ml S P OS R) (t : Tn) (ht : t.ok) :
    Calls Try.prog 19 #[.pointer (some r), .agg t.cells] w fun e w' => e = .returned (.bool (decide (atN t P < P.length))) ∧ Below w.heap.size w w' := by
  have hb0 := (Below.refl w.heap.size w).alloc (Nat.le_refl _) (.cells t.cells 36)
  have hr0 := heap_alloc_new w (.cells t.cells 36)
  obtain ⟨w1, hw1⟩ : ∃ w1, w1 = w.alloc (.cells t.cells 36) := ⟨_, rfl⟩
  rw [← hw1] at hb0 hr0
  have h1 := h.below hb0
  obtain ⟨c0, c1, c2, fr⟩ := h1.cells
  have hp := h.ptr
  subst hp
  obtain ⟨st, a, n, c, _, _, hk⟩ := look_prep h1.maps t ht
  obtain ⟨B, hB⟩ : ∃ B, B = decide (atN t P < P.length) := ⟨_, rfl⟩
  rw [← hB] at hk ⊢
  have q0 := cells3 hr0
  have HK := Lib.hid (fun W hb => (hk W hb).1)
  have HB1 := Lib.hid hb0
  obtain ⟨tn, tl, ts⟩ := t
  unfold Tn.cells at *
  simp only at *
  obtain ⟨g, hg⟩ : ∃ g, g = w.heap.size := ⟨_, rfl⟩
  have hgl : g < w1.heap.size := by rw [hg]; exact (Array.getElem?_eq_some_iff.1 hr0).1
  rw [← hg] at q0 
  obtain ⟨q0, q1, q2⟩ := q0
  have hbl : b < w1.heap.size := h1.blt
  have hl1 := HK.out w1.drew (Below.refl w1.heap.size w1).drew
  have hl2 := HK.out (w1.alloc (.cells #[.int .u64 0, .slice none 0 0] 81)).drew (((Below.refl w1.heap.size w1).alloc (Nat.le_refl _) _).drew)
  unfold workV at hl1 hl2
  have hbz := (Below.refl w1.heap.size w1).alloc (Nat.le_refl _) (.cells #[.int .u64 0, .slice none 0 0] 81)
  have e0 := (hbz.cell (p := ⟨g, 0, none⟩) hgl).trans q0
  have e1 := (hbz.cell (p := ⟨g, 1, none⟩) hgl).trans q1
  have e2 := (hbz.cell (p := ⟨g, 2, none⟩) hgl).trans q2
  have e3 := (hbz.cell (p := ⟨b, 1, none⟩) hbl).trans c1
  clear hbz hk hB ht h h1 hr0 hb0
  go_enter Try.func19, Try.ntmps19
  go_upto_region 1 with fail
  rw [← hw1, ← hg]
  clear hw1 hg
  go_region
  all_goals
    go_wp2_with fail
    go_ret
    exact ⟨rfl, HB1.out.trans (((((Below.refl _ _).alloc (Nat.le_refl _) _).drew)).mono HB1.out.size)⟩
theorem pread_ret {tmps : Array Value} {w : World} {g : Nat} {cs : Array Value} {v : Value} (h : w.heap[g]? = some (.cells cs 42 (0, 0))) (hcs : (Try.prog.info? 42).map (·.size) = some cs.size) (hp : tmps.getD 6 undef = .pointer (some ⟨g, 0, none⟩)) (hv : tmps.getD 7 undef = v) :
    (results Try.f9 tmps).run Try.prog w = .ok (.tuple #[.agg cs, v]) w :=
  results_row_tmpV rfl tmps w g 42 cs (0, 0) _ _ hp h Try.underlying42 rfl hcs hv
set_option maxHeartbeats 4000000 in
theorem gread_any (h : PtM M w r rs b mp ml S P OS R) (key : ByteArray) (t : Nat) (hk : key.size ≤ maxLen) (ht : t < 18446744073709551616) :
    Calls Try.prog 9 #[.pointer (some r), .string key, .int .u64 (t : Int)] w fun e w' => e = .returned (.tuple #[.agg #[.int .u64 ((readV S P key t).time : Int), .bool (readV S P key t).gone, .string (readV S P key t).val], .int .i64 (readE S P key t : Int)]) ∧ Below w.heap.size w w' := by
  have hb0 := (Below.refl w.heap.size w).alloc (Nat.le_refl _) (.cells #[.int .u64 0, .bool false, .string ⟨#[]⟩] 42)
  have hr0 := heap_alloc_new w (.cells #[.int .u64 0, .bool false, .string ⟨#[]⟩] 42)
  obtain ⟨w1, hw1⟩ : ∃ w1, w1 = w.alloc (.cells #[.int .u64 0, .bool false, .string ⟨#[]⟩] 42) := ⟨_, rfl⟩
  rw [← hw1] at hb0 hr0
  have HL := Lib.hid (glocked_any (h.below hb0) key hk)
  have HH := Lib.hid (fun W (hb : Below w1.heap.size w1 W) => (h.below hb0).below hb)
  have HST := Lib.hid (fun W (hb : Below w1.heap.size w1 W) => gstore_any (HH.out W hb))
  have HAT := Lib.hid (fun W (hb : Below w1.heap.size w1 W) => M.at_ (HH.out W hb).store key t hk ht)
  obtain ⟨⟨⟨vt, vg, vv⟩, ok⟩, hV⟩ : ∃ V, V = bestOf key t S := ⟨_, rfl⟩
  obtain ⟨lk, hlk⟩ : ∃ lk, lk = lockedP key P := ⟨_, rfl⟩
  rw [← hV] at HAT
  rw [← hlk] at HL
  unfold readV readE
  rw [← hV, ← hlk]
  unfold Vr.cells at HAT
  have HB0 := Lib.hid hb0
  have hg1 : w.heap.size < w1.heap.size := by rw [hw1]; simp
  obtain ⟨G, hG⟩ : ∃ G, G = w.heap.size := ⟨_, rfl⟩
  rw [← hG] at hr0 hg1
  have HR0 := Lib.hid (fun W (hb : Below w1.heap.size w1 W) => (hb.block G hg1).trans hr0)
  have HGw := Lib.hid (Nat.le_of_eq hG.symm)
  clear h hb0 hr0 hg1 hV hlk HH
  cases lk with
  | true =>
    clear HST HAT
    go_enter Try.func9, Try.ntmps9
    go_upto_region 1 with fail
    rw [← hw1, ← hG]
    clear hw1 hG
    go_wp2_with (first
      | (go_at_call 22; (with_reducible refine HL.out.mono ?_); rintro e w2 ⟨rfl, hb2⟩; have HB2 := Lib.hid hb2; have RR := Lib.hid (HR0.out _ hb2); clear hb2)
      | (refine wpList_store_row rfl 42 _ _ rfl G #[.int .u64 0, .bool false, .string ⟨#[]⟩] rfl rfl 42 #[.int .u64 0, .bool false, .string ⟨#[]⟩] RR.out verSizeM rfl (by simp [Value.oneCell']) ?_))
    refine bodyPost_ret (pread_ret (setRow_heap _ _ _ _ _ _ RR.out) verSizeM rfl rfl) rfl ⟨rfl, ?_⟩
    exact below_setRow (HB0.out.trans (HB2.out.mono HB0.out.size)) HGw.out
  | false =>
    cases ok with
    | true =>
      go_enter Try.func9, Try.ntmps9
      go_upto_region 1 with fail
      rw [← hw1, ← hG]
      clear hw1 hG
      go_wp2_with (first
        | (go_at_call 22; (with_reducible refine HL.out.mono ?_); rintro e w2 ⟨rfl, hb2⟩; have HS2 := Lib.hid (HST.out _ hb2); have HA2 := Lib.hid (HAT.out _ hb2); have HB2 := Lib.hid hb2; clear hb2)
        | (go_at_call 15; (with_reducible refine HS2.out.mono ?_); rintro e w3 ⟨rfl, rfl⟩)
        | (go_at_call 23; (with_reducible refine HA2.out.mono ?_); rintro e w4 ⟨rfl, hb4⟩; have HB4 := Lib.hid (HB2.out.trans (hb4.mono HB2.out.size)); have RR := Lib.hid (HR0.out _ (HB4.out.alloc HB4.out.size (.cells #[.int .u64 (vt : Int), .bool vg, .string vv] 42))); clear hb4)
        | (refine wpList_store_row rfl 42 _ _ rfl G #[.int .u64 (vt : Int), .bool vg, .string vv] rfl rfl 42 #[.int .u64 0, .bool false, .string ⟨#[]⟩] RR.out verSizeM rfl (by simp [Value.oneCell']) ?_))
      refine bodyPost_ret (pread_ret (setRow_heap _ _ _ _ _ _ RR.out) verSizeM rfl rfl) rfl ⟨rfl, ?_⟩
      exact below_setRow (HB0.out.trans ((HB4.out.alloc HB4.out.size _).mono HB0.out.size)) HGw.out
    | false =>
      go_enter Try.func9, Try.ntmps9
      go_upto_region 1 with fail
      rw [← hw1, ← hG]
      clear hw1 hG
      go_wp2_with (first
        | (go_at_call 22; (with_reducible refine HL.out.mono ?_); rintro e w2 ⟨rfl, hb2⟩; have HS2 := Lib.hid (HST.out _ hb2); have HA2 := Lib.hid (HAT.out _ hb2); have HB2 := Lib.hid hb2; clear hb2)
        | (go_at_call 15; (with_reducible refine HS2.out.mono ?_); rintro e w3 ⟨rfl, rfl⟩)
        | (go_at_call 23; (with_reducible refine HA2.out.mono ?_); rintro e w4 ⟨rfl, hb4⟩; have HB4 := Lib.hid (HB2.out.trans (hb4.mono HB2.out.size)); have RR := Lib.hid (HR0.out _ (HB4.out.alloc HB4.out.size (.cells #[.int .u64 (vt : Int), .bool vg, .string vv] 42))); clear hb4)
        | (refine wpList_store_row rfl 42 _ _ rfl G #[.int .u64 0, .bool false, .string ⟨#[]⟩] rfl rfl 42 #[.int .u64 0, .bool false, .string ⟨#[]⟩] RR.out verSizeM rfl (by simp [Value.oneCell']) ?_))
      refine bodyPost_ret (pread_ret (setRow_heap _ _ _ _ _ _ RR.out) verSizeM rfl rfl) rfl ⟨rfl, ?_⟩
      exact below_setRow (HB0.out.trans ((HB4.out.alloc HB4.out.size _).mono HB0.out.size)) HGw.out
end
end Go.Proofs.Ythcomfcbdlobpaa

namespace Go.Proofs.Ythcomfcbdlobpaa
open Go.RowKit Go.Maps Go.Shelf
set_option linter.unusedVariables false
set_option linter.unnecessarySimpa false
set_option linter.unusedSimpArgs false
set_option maxRecDepth 100000

def wqV (m : Wq) : Value := .agg #[.string m.key, .bool m.gone, .string m.val]
/-- A function value tells f of each of the writes, wherever what lay in w lies as it lay. -/
def TellsW (g : Nat) (lb : Array Value) (f : Wq → Bool) (ws : List Wq) (w : World) : Prop :=
  ∀ W i, i < ws.length → Below w.heap.size w W → Calls Try.prog g (#[wqV (ws.getD i wq0)] ++ lb) W fun e w' => e = .returned (.bool (f (ws.getD i wq0))) ∧ Below W.heap.size W w'
theorem IsWqs.take {w : World} {a : Option Addr} {n c : Nat} {ws : List Wq} (h : IsWqs w a n c ws) {i : Nat} (hi : i ≤ n) : IsWqs w a i c (ws.take i) := by
  have hl := h.1
  refine ⟨by rw [List.length_take]; omega, Nat.le_trans hi h.2.1, Nat.le_trans hi h.2.2.1, fun j hj => ?_⟩
  obtain ⟨b, off, e, q⟩ := h.2.2.2 j (by omega)
  refine ⟨b, off, e, ?_⟩
  rw [show (ws.take i).getD j wq0 = ws.getD j wq0 by rw [List.getD, List.getD, List.getElem?_take, if_pos hj]]
  exact q
theorem IsWqs.getSize {w : World} {a : Option Addr} {n c : Nat} {ws : List Wq} (h : IsWqs w a n c ws) {i : Nat} (hi : i < ws.length) : (ws.getD i wq0).key.size ≤ maxLen ∧ (ws.getD i wq0).val.size ≤ maxLen := by
  obtain ⟨b, off, e, q1, q2, q3, _⟩ := h.2.2.2 i (by have := h.1; omega)
  exact ⟨q2, q3⟩

set_option maxHeartbeats 4000000 in
theorem gindex_any (g : Nat) (lb : Array Value) (eg : ∀ args w, (callFunc g args).run Try.prog w = .ok (.enter g args) w) (f : Wq → Bool) (a : Option Addr) (n c : Nat) (ws : List Wq) (w : World) (h : IsWqs w a n c ws) (hp : TellsW g lb f ws w) (hn : n ≤ 1000) :
    Calls Try.prog 48 #[.slice a n c, .func (.func g) #[] lb] w fun e w' => ∃ k : Int, e = .returned (.int .i64 k) ∧ decide (0 ≤ k) = ws.any f ∧ Below w.heap.size w w' := by
  have HZ := Lib.hid h
  have HP := Lib.hid hp
  have HL := Lib.hid h.1
  clear h hp
  go_enter Try.func48, Try.ntmps48
  go_wp2_with fail
  go_loopg [5, 8] n (fun gg _ s8 wr => ∃ i : Nat, i + gg = n ∧ s8 = .int .i64 i ∧ Hid (Below w.heap.size w wr) ∧ Hid (∀ j, j < i → f (ws.getD j wq0) = false))
  case atStart => exact ⟨0, by omega, rfl, Lib.hid (Below.refl _ w), Lib.hid (fun j hj => absurd hj (Nat.not_lt_zero _))⟩
  case round =>
    obtain ⟨i, hg, rfl, HB, HA⟩ := hrel
    by_cases hlt : i < n
    · obtain ⟨k, rfl⟩ : ∃ k, gk = k + 1 := ⟨gk - 1, by omega⟩
      have hltz : (i : Int) < (n : Int) := by omega
      obtain ⟨b, off, rfl, hbl, hk1, hk2, q0, q1, q2⟩ := (HZ.out.below HB.out).2.2.2 i hlt
      have hcall := HP.out wr i (by have := HL.out; omega) HB.out
      obtain ⟨m, hm⟩ : ∃ m, m = ws.getD i wq0 := ⟨_, rfl⟩
      rw [← hm] at hk1 hk2 q0 q1 q2 hcall
      have HM := Lib.hid hm
      clear hm hk1 hk2
      unfold wqV at hcall
      obtain ⟨K, G, V⟩ := m
      simp only at q0 q1 q2 hcall
      cases hq : f ⟨K, G, V⟩ with
      | true =>
        rw [hq] at hcall
        have HQ := Lib.hid hq
        clear hq
        go_wp2_with (go_at_fn g; refine hcall.mono ?_; rintro e w' ⟨rfl, hb'⟩)
        go_ret
        refine ⟨(i : Int), rfl, ?_, HB.out.trans (hb'.mono HB.out.size)⟩
        rw [decide_eq_true (by omega)]
        exact (any_getD (d := wq0) (i := i) (by have := HL.out; omega) (by rw [← HM.out]; exact HQ.out)).symm
      | false =>
        rw [hq] at hcall
        have HQ := Lib.hid hq
        clear hq
        go_wp2_with (go_at_fn g; refine hcall.mono ?_; rintro e w' ⟨rfl, hb'⟩)
        go_roundg k
        case measure => omega
        case rel =>
          refine ⟨i + 1, by omega, by go_num, Lib.hid (HB.out.trans (hb'.mono HB.out.size)), Lib.hid (fun j hj => ?_)⟩
          by_cases e : j = i
          · subst e
            rw [← HM.out]; exact HQ.out
          · exact HA.out j (by omega)
    · have hltz : ¬ (i : Int) < (n : Int) := by omega
      have hin : i = n := by omega
      go_wp2_with fail
      go_ret
      refine ⟨-1, rfl, ?_, HB.out⟩
      rw [decide_eq_false (by omega)]
      exact (any_none (d := wq0) (fun j hj => HA.out j (by have := HL.out; omega))).symm

theorem gcontains_any (g : Nat) (lb : Array Value) (eg : ∀ args w, (callFunc g args).run Try.prog w = .ok (.enter g args) w) (f : Wq → Bool) (a : Option Addr) (n c : Nat) (ws : List Wq) (w : World) (h : IsWqs w a n c ws) (hp : TellsW g lb f ws w) (hn : n ≤ 1000) :
    Calls Try.prog 29 #[.slice a n c, .func (.func g) #[] lb] w fun e w' => e = .returned (.bool (ws.any f)) ∧ Below w.heap.size w w' := by
  have H := Lib.hid (gindex_any g lb eg f a n c ws w h hp hn)
  obtain ⟨B, hB⟩ : ∃ B, B = ws.any f := ⟨_, rfl⟩
  rw [← hB] at H ⊢
  clear h hp hB eg
  go_enter Try.func29, Try.ntmps29
  go_wp2_with (go_at_call 48; refine H.out.mono ?_; rintro e w1 ⟨k, rfl, hk, hb1⟩)
  go_ret
  exact ⟨rfl, hb1⟩

/-! The function values. -/
set_option maxHeartbeats 1000000 in
theorem gsame_any (m : Wq) (key : ByteArray) (gone : Bool) (val : ByteArray) (G : Nat) (w : World) (hG : w.heap[G]? = some (.cells #[.string key, .bool gone, .string val] 51 (0, 0))) :
    Calls Try.prog 47 (#[wqV m] ++ #[.pointer (some ⟨G, 0, none⟩)]) w fun e w' => e = .returned (.bool (sameK m.key key)) ∧ Below w.heap.size w w' := by
  have HB := Lib.hid ((Below.refl w.heap.size w).alloc (Nat.le_refl _) (.cells #[.string m.key, .bool m.gone, .string m.val] 51))
  have hGl : G < w.heap.size := (Array.getElem?_eq_some_iff.1 hG).1
  obtain ⟨q0, q1, q2⟩ := cells3 hG
  clear hG
  unfold wqV sameK
  obtain ⟨K, g, V⟩ := m
  simp only at *
  show Calls Try.prog 47 #[.agg #[.string K, .bool g, .string V], .pointer (some ⟨G, 0, none⟩)] w _
  go_enter Try.func47, Try.ntmps47
  go_wp2_with fail
  go_ret
  exact ⟨rfl, HB.out⟩
section
variable {M : MvcC} {w : World} {r rs : Addr} {b : Nat} {mp ml : Option Nat} {S : List Im} {P : List Pd} {OS R : Nat → Prop}
set_option maxHeartbeats 2000000 in
theorem gbusy_any (h : PtM M w r rs b mp ml S P OS R) (m : Wq) (hk : m.key.size ≤ maxLen) (G : Nat) (hG : w.heap[G]? = some (.cells #[.pointer (some r)] 25 (0, 0))) :
    Calls Try.prog 31 (#[wqV m] ++ #[.pointer (some ⟨G, 0, none⟩)]) w fun e w' => e = .returned (.bool (lockedP m.key P)) ∧ Below w.heap.size w w' := by
  have hb0 := (Below.refl w.heap.size w).alloc (Nat.le_refl _) (.cells #[.string m.key, .bool m.gone, .string m.val] 51)
  have HB := Lib.hid hb0
  have hGl : G < w.heap.size := (Array.getElem?_eq_some_iff.1 hG).1
  have q0 : w.cell? ⟨G, 0, none⟩ = some (.pointer (some r)) := by rw [cell_of_row _ _ _ _ _ _ hG]; rfl
  have HL := Lib.hid (glocked_any (h.below hb0) m.key hk)
  obtain ⟨B, hB⟩ : ∃ B, B = lockedP m.key P := ⟨_, rfl⟩
  rw [← hB] at HL ⊢
  clear hG h hb0 hB
  unfold wqV
  obtain ⟨K, g, V⟩ := m
  simp only at *
  show Calls Try.prog 31 #[.agg #[.string K, .bool g, .string V], .pointer (some ⟨G, 0, none⟩)] w _
  go_enter Try.func31, Try.ntmps31
  go_wp2_with (go_at_call 22; (with_reducible refine HL.out.mono ?_); rintro e w1 ⟨rfl, hb1⟩)
  go_ret
  exact ⟨rfl, HB.out.trans (hb1.mono HB.out.size)⟩
end
end Go.Proofs.Ythcomfcbdlobpaa
