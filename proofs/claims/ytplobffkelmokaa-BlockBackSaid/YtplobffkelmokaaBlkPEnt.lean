/-
  The program's takeEntry.
-/
import Derived.Test.YtplobffkelmokaaBlkPTake
namespace Go.Proofs.Ytplobffkelmokaa
open Go.RowKit
set_option linter.unusedVariables false
set_option linter.unnecessarySimpa false
set_option linter.unusedSimpArgs false
set_option maxRecDepth 100000

theorem tkEnt_no1 {es : List En} {l : List UInt8} (h : tkKey es l = none) : tkEnt es l = none := by unfold tkEnt; rw [h]
theorem tkEnt_no2 {es : List En} {l r : List UInt8} {key : ByteArray} (h : tkKey es l = some (key, r)) (h2 : tkTxt r = none) : tkEnt es l = none := by unfold tkEnt; rw [h]; simp only; rw [h2]
theorem tkEnt_dec {es : List En} {l r vs r2 : List UInt8} {key : ByteArray} (h : tkKey es l = some (key, r)) (h2 : tkTxt r = some (vs, r2)) : tkEnt es l = match decB vs with
      | .form => none
      | .long => some (⟨key, []⟩, true, r2)
      | .all [] _ => none
      | .all (z :: zs) _ => some (⟨key, z :: zs⟩, false, r2) := by unfold tkEnt; rw [h]; simp only; rw [h2]; rfl

/-- What is told of an entry. -/
def EntOut (g n : Nat) (x : Option (En × Bool × List UInt8)) (w : World) (e : Ending) (w' : World) : Prop :=
  ∃ (s : ByteArray) (a : Option Addr) (m c : Nat) (k : Int), e = .returned (.tuple #[.agg #[.string s, .slice a m c], .int .i64 k]) ∧ w.grownBy w' (some g) ∧
    ((k = 2 ∧ x = none) ∨ ∃ (ch : List Vr) (lg : Bool) (X : ByteArray), ((lg = true ∧ k = 3) ∨ (lg = false ∧ k = 0)) ∧ x = some (⟨s, ch⟩, lg, X.data.toList) ∧ CurAt w' g X false ∧ X.size ≤ n ∧ IsVers w' a m c ch ∧ ∀ p : Addr, a = some p → w.heap.size ≤ p.block ∧ p.block < w'.heap.size)
theorem entSize : (Try.prog.info? 48).map (·.size) = some 2 := by kernel_rfl
theorem ent_ret {w : World} {g : Nat} {cs : Array Value} {tmps : Array Value} {k : Int} (h : w.heap[g]? = some (.cells cs 48 (0, 0))) (hcs : (Try.prog.info? 48).map (·.size) = some cs.size)
    (hp : tmps.getD 4 undef = .pointer (some ⟨g, 0, none⟩)) (hv : tmps.getD 5 undef = .int .i64 k) : (results Try.f53 tmps).run Try.prog w = .ok (.tuple #[.agg cs, .int .i64 k]) w :=
  results_row_tmpV rfl tmps w g 48 cs (0, 0) _ _ hp h Try.underlying48 rfl hcs hv
theorem ent_no {g n P : Nat} {x : Option (En × Bool × List UInt8)} {w w' : World} {s : ByteArray} {a : Option Addr} {m c : Nat} (hx : x = none) (hg : w.grownBy w' (some g)) (hP : w.heap.size ≤ P) {cs : Array Value} :
    EntOut g n x w (.returned (.tuple #[.agg #[.string s, .slice a m c], .int .i64 2])) (w'.setRow P cs) :=
  ⟨s, a, m, c, 2, rfl, grown_over hg grown_setRow hP, .inl ⟨rfl, hx⟩⟩
theorem vers_setRow {w : World} {P : Nat} {x y : Value} {t : TypeId} (hr : w.heap[P]? = some (.cells #[x, y] t (0, 0))) (hx : ∀ n, x ≠ .int .u64 n) (hy : ∀ n, y ≠ .int .u64 n) {cs : Array Value} {a : Option Addr} {len cap : Nat} {zs : List Vr} (h : IsVers w a len cap zs) : IsVers (w.setRow P cs) a len cap zs := by
  refine ⟨⟨h.1.1, fun i hi => ?_⟩, h.2⟩
  obtain ⟨b, off, ha, hlt, h1, h2, h3, h4, h5⟩ := h.1.2 i hi
  have hne : b ≠ P := fun e => by
    subst e
    rw [cell_of_row _ _ _ _ _ _ hr] at h3
    generalize off + i * 3 = k at h3
    match k, h3 with
    | 0, h3 => exact hx _ (by simpa using h3)
    | 1, h3 => exact hy _ (by simpa using h3)
    | k + 2, h3 => simp at h3
  have hb : (w.setRow P cs).heap[b]? = w.heap[b]? := setRow_other w P b cs hne
  have key : ∀ k, (w.setRow P cs).cell? ⟨b, k, none⟩ = w.cell? ⟨b, k, none⟩ := fun k => by unfold World.cell?; rw [hb]
  exact ⟨b, off, ha, by simpa using hlt, h1, h2, (key _).trans h3, (key _).trans h4, (key _).trans h5⟩
theorem ent_yes {g n P : Nat} {x : Option (En × Bool × List UInt8)} {w w' : World} {s X : ByteArray} {a : Option Addr} {m c : Nat} {ch : List Vr} {lg : Bool} {k : Int} {y z : Value} {t : TypeId} (hk : (lg = true ∧ k = 3) ∨ (lg = false ∧ k = 0)) (hx : x = some (⟨s, ch⟩, lg, X.data.toList)) (hc : CurAt w' g X false) (hs : X.size ≤ n) (hv : IsVers w' a m c ch)
    (hf : ∀ p : Addr, a = some p → w.heap.size ≤ p.block ∧ p.block < w'.heap.size) (hg : w.grownBy w' (some g)) (hP : w.heap.size ≤ P) (hgP : g < P) (hr : w'.heap[P]? = some (.cells #[y, z] t (0, 0))) (hy : ∀ n, y ≠ .int .u64 n) (hz : ∀ n, z ≠ .int .u64 n) {cs : Array Value} :
    EntOut g n x w (.returned (.tuple #[.agg #[.string s, .slice a m c], .int .i64 k])) (w'.setRow P cs) :=
  ⟨s, a, m, c, k, rfl, grown_over hg grown_setRow hP, .inr ⟨ch, lg, X, hk, hx, cur_setRow hc hgP, hs, vers_setRow hr hy hz hv, fun p hp => ⟨(hf p hp).1, by have := (hf p hp).2; simpa using this⟩⟩⟩

set_option maxHeartbeats 8000000 in
theorem takeEntry_any (g : Nat) (a : Option Addr) (len cap : Nat) (es : List En) (l : List UInt8) (w : World) (hz : IsEnts w a len cap es) (hs : (lastS es).size ≤ 60000) (hl : l.length ≤ 60000) (hc : CurL w g l false) :
    Calls Try.prog 53 #[.pointer (some ⟨g, 0, none⟩), .slice a len cap] w (EntOut g l.length (tkEnt es l) w) := by
  have hgl := CurL.lt hc
  obtain ⟨P, hP⟩ : ∃ P, P = w.heap.size := ⟨_, rfl⟩
  obtain ⟨w1, hw1⟩ : ∃ w1, w1 = w.alloc (.cells #[.string ⟨#[]⟩, .slice none 0 0] 48) := ⟨_, rfl⟩
  have r1 : w1.heap[P]? = some (.cells #[.string ⟨#[]⟩, .slice none 0 0] 48 (0, 0)) := by rw [hw1, hP]; exact heap_alloc_new w _
  have hbel : Below w.heap.size w w1 := by rw [hw1]; exact (Below.refl _ _).alloc (Nat.le_refl _) _
  have hgP : g < P := by rw [hP]; exact hgl
  have hPw : w.heap.size ≤ P := by omega
  have HK := Lib.hid (takeKey_any g a len cap es l w1 (hz.below hbel) hs hl (CurAt.kept hc hbel hgl))
  have R1 := Lib.hid (fun W (h : w1.grownBy W (some g)) => (h.block P (Array.getElem?_eq_some_iff.1 r1).1 (fun e => by injection e with e; omega)).trans r1)
  have G1 := Lib.hid (grown_of_below (r := some g) hbel)
  have HN1 := Lib.hid (tkEnt_no1 (es := es) (l := l))
  have HN2 := Lib.hid (fun key r => tkEnt_no2 (es := es) (l := l) (key := key) (r := r))
  have HDc := Lib.hid (fun key r vs r2 => tkEnt_dec (es := es) (l := l) (key := key) (r := r) (vs := vs) (r2 := r2))
  obtain ⟨x, hx⟩ : ∃ x, x = tkEnt es l := ⟨_, rfl⟩
  obtain ⟨kx, hkx⟩ : ∃ kx, kx = tkKey es l := ⟨_, rfl⟩
  obtain ⟨n, hn⟩ : ∃ n, n = l.length := ⟨_, rfl⟩
  rw [← hx] at HN1 HN2 HDc ⊢
  rw [← hkx] at HN1 HN2 HDc HK
  rw [← hn] at HK hl ⊢
  clear hz hc hgl r1 hbel hx hkx hn hs
  go_enter Try.func53, Try.ntmps53
  go_upto_region 1 with fail
  rw [← hw1, ← hP]
  clear hw1 hP
  go_upto_region 2 with (go_at_call 73; (with_reducible refine HK.out.mono ?_); intro e w4 h4; obtain ⟨s, X, ok, bd, rfl, hc4, hX4, hg4, hor⟩ := h4; have HC4 := Lib.hid hc4; have HG4 := Lib.hid hg4; have HOR := Lib.hid hor; clear hc4 hg4 hor)
  have hk2 := Lib.hid (cur_text g X bd w4 (by unfold maxLen; omega) HC4.out)
  clear HK
  rcases HOR.out with ⟨rfl, hkn⟩ | ⟨rfl, rfl, hks⟩
  · have HX := Lib.hid (HN1.out hkn)
    obtain ⟨vs, X2, b2, f2⟩ : ∃ vs X2 b2, cText X bd = (vs, X2, b2) := ⟨_, _, _, rfl⟩
    rw [f2] at hk2
    clear HOR hkn HN1 HN2 HDc f2
    go_upto_region 3 with (go_at_call 74; (with_reducible refine hk2.out.mono ?_); rintro e w5 ⟨rfl, hc5, hg5⟩)
    have HG5 := Lib.hid (grownBy_trans HG4.out hg5)
    have RR := Lib.hid (R1.out _ HG5.out)
    have HGW := Lib.hid (grownBy_trans G1.out HG5.out)
    clear hc5 hg5 hk2 R1 G1
    go_wp2_with (refine wpList_store_row rfl 48 _ _ rfl P #[.string ⟨#[]⟩, .slice none 0 0] rfl rfl 48 #[.string ⟨#[]⟩, .slice none 0 0] RR.out entSize rfl (by simp [Value.oneCell']) ?_)
    exact bodyPost_ret (ent_ret (setRow_heap _ _ _ _ _ _ RR.out) entSize rfl rfl) rfl (ent_no HX.out HGW.out hPw)
  · obtain ⟨vs, X2, b2, f2, hX2, hvs, hTn, hTy⟩ := text_tells X
    rw [f2] at hk2
    cases b2 with
    | true =>
      have HX := Lib.hid (HN2.out _ _ hks (hTn rfl))
      clear HOR hks HN1 HN2 HDc f2 hTn hTy
      go_upto_region 3 with (go_at_call 74; (with_reducible refine hk2.out.mono ?_); rintro e w5 ⟨rfl, hc5, hg5⟩)
      have HG5 := Lib.hid (grownBy_trans HG4.out hg5)
      have RR := Lib.hid (R1.out _ HG5.out)
      have HGW := Lib.hid (grownBy_trans G1.out HG5.out)
      have HBad := Lib.hid (bad_any g X2 true w5 hc5)
      clear hc5 hg5 hk2 R1 G1
      go_wp2_with (first
        | (go_at_call 50; (with_reducible refine HBad.out.mono ?_); rintro e w6 ⟨rfl, rfl⟩)
        | (refine wpList_store_row rfl 48 _ _ rfl P #[.string ⟨#[]⟩, .slice none 0 0] rfl rfl 48 #[.string ⟨#[]⟩, .slice none 0 0] RR.out entSize rfl (by simp [Value.oneCell']) ?_))
      exact bodyPost_ret (ent_ret (setRow_heap _ _ _ _ _ _ RR.out) entSize rfl rfl) rfl (ent_no HX.out HGW.out hPw)
    | false =>
      have hxd := HDc.out _ _ _ _ hks (hTy rfl)
      have HD := Lib.hid (fun W => decode_any vs (by omega) W)
      obtain ⟨F, hF⟩ : ∃ F, F = decB vs.data.toList := ⟨_, rfl⟩
      rw [← hF] at hxd HD
      have HXD := Lib.hid hxd
      have hX2n : X2.size ≤ n := by omega
      clear HOR hks HN1 HN2 HDc f2 hTn hTy hF hxd
      go_upto_region 3 with (go_at_call 74; (with_reducible refine hk2.out.mono ?_); rintro e w5 ⟨rfl, hc5, hg5⟩)
      have HG5 := Lib.hid (grownBy_trans HG4.out hg5)
      have HBad := Lib.hid (bad_any g X2 false w5 hc5)
      have HC5 := Lib.hid hc5
      clear hc5 hg5 hk2
      have HVO := Lib.hid (show ∀ e w', DecEnd F w5 e w' → ∃ (a7 : Option Addr) (m7 c7 : Nat) (k7 : Int), e = .returned (.tuple #[.slice a7 m7 c7, .int .i64 k7]) ∧ Hid (Below w5.heap.size w5 w' ∧ ∀ p : Addr, a7 = some p → w5.heap.size ≤ p.block ∧ p.block < w'.heap.size) ∧
          ((k7 = 2 ∧ Hid (x = none)) ∨ (k7 = 3 ∧ Hid (x = some (⟨s, []⟩, true, X2.data.toList) ∧ IsVers w' a7 m7 c7 [])) ∨ (k7 = 0 ∧ m7 = 0 ∧ Hid (x = none)) ∨ (k7 = 0 ∧ 0 < m7 ∧ ∃ ch, Hid (x = some (⟨s, ch⟩, false, X2.data.toList) ∧ IsVers w' a7 m7 c7 ch))) from fun e w' h => by
        have hx := HXD.out
        cases F with
        | form =>
          obtain ⟨a7, c7, rfl, hv, hb, hf⟩ := h
          exact ⟨a7, _, c7, 2, rfl, Lib.hid ⟨hb, hf⟩, .inl ⟨rfl, Lib.hid hx⟩⟩
        | long =>
          obtain ⟨a7, c7, rfl, hv, hb, hf⟩ := h
          exact ⟨a7, _, c7, 3, rfl, Lib.hid ⟨hb, hf⟩, .inr (.inl ⟨rfl, Lib.hid ⟨hx, hv⟩⟩)⟩
        | all zs q =>
          obtain ⟨a7, c7, rfl, hv, hb, hf⟩ := h
          cases zs with
          | nil => exact ⟨a7, _, c7, 0, rfl, Lib.hid ⟨hb, hf⟩, .inr (.inr (.inl ⟨rfl, rfl, Lib.hid hx⟩))⟩
          | cons z zs => exact ⟨a7, _, c7, 0, rfl, Lib.hid ⟨hb, hf⟩, .inr (.inr (.inr ⟨rfl, by simp, _, Lib.hid ⟨hx, hv⟩⟩))⟩)
      go_upto_region 6 with (first
        | (go_at_call 50; (with_reducible refine HBad.out.mono ?_); rintro e w6 ⟨rfl, rfl⟩)
        | (go_at_call 75; (with_reducible refine (HD.out _).mono ?_); intro e w7 h7; obtain ⟨a7, m7, c7, k7, rfl, hb7, hor7⟩ := HVO.out e w7 h7; clear h7))
      have HG7 := Lib.hid (grownBy_trans HG5.out (grown_of_below (r := some g) hb7.out.1))
      have RR := Lib.hid (R1.out _ HG7.out)
      have HGW := Lib.hid (grownBy_trans G1.out HG7.out)
      have HC7 := Lib.hid (CurAt.kept HC5.out hb7.out.1 (CurAt.lt HC5.out))
      have HF7 := Lib.hid (show ∀ p : Addr, a7 = some p → w.heap.size ≤ p.block ∧ p.block < w7.heap.size from fun p hp => by
        have h1 := hb7.out.2 p hp
        have h2 := (grownBy_trans G1.out HG5.out).size
        omega)
      clear HD HVO R1 G1 HBad
      rcases hor7 with ⟨rfl, HX⟩ | ⟨rfl, HX⟩ | ⟨rfl, rfl, HX⟩ | ⟨rfl, hm0, ch, HX⟩
      · go_wp2_with (refine wpList_store_row rfl 48 _ _ rfl P #[.string s, .slice a7 m7 c7] rfl rfl 48 #[.string ⟨#[]⟩, .slice none 0 0] RR.out entSize rfl (by simp [Value.oneCell']) ?_)
        exact bodyPost_ret (ent_ret (setRow_heap _ _ _ _ _ _ RR.out) entSize rfl rfl) rfl (ent_no HX.out HGW.out hPw)
      · go_wp2_with (refine wpList_store_row rfl 48 _ _ rfl P #[.string s, .slice a7 m7 c7] rfl rfl 48 #[.string ⟨#[]⟩, .slice none 0 0] RR.out entSize rfl (by simp [Value.oneCell']) ?_)
        exact bodyPost_ret (ent_ret (setRow_heap _ _ _ _ _ _ RR.out) entSize rfl rfl) rfl (ent_yes (.inl ⟨rfl, rfl⟩) HX.out.1 HC7.out hX2n HX.out.2 HF7.out HGW.out hPw hgP RR.out (fun _ h => by cases h) (fun _ h => by cases h))
      · go_wp2_with (refine wpList_store_row rfl 48 _ _ rfl P #[.string ⟨#[]⟩, .slice none 0 0] rfl rfl 48 #[.string ⟨#[]⟩, .slice none 0 0] RR.out entSize rfl (by simp [Value.oneCell']) ?_)
        exact bodyPost_ret (ent_ret (setRow_heap _ _ _ _ _ _ RR.out) entSize rfl rfl) rfl (ent_no HX.out HGW.out hPw)
      · have hmz : ((m7 : Int) == 0) = false := by rw [beq_eq_false_iff_ne]; omega
        go_wp2_with (refine wpList_store_row rfl 48 _ _ rfl P #[.string s, .slice a7 m7 c7] rfl rfl 48 #[.string ⟨#[]⟩, .slice none 0 0] RR.out entSize rfl (by simp [Value.oneCell']) ?_)
        exact bodyPost_ret (ent_ret (setRow_heap _ _ _ _ _ _ RR.out) entSize rfl rfl) rfl (ent_yes (.inr ⟨rfl, rfl⟩) HX.out.1 HC7.out hX2n HX.out.2 HF7.out HGW.out hPw hgP RR.out (fun _ h => by cases h) (fun _ h => by cases h))
end Go.Proofs.Ytplobffkelmokaa
