/-
  The program's Append; the program's log keeps what is asked of it.
-/
import Derived.Test.YtlkifliaaaomeaaLogPWrite
namespace Go.Proofs.Ytlkifliaaaomeaa
open Go.RowKit
set_option linter.unusedVariables false
set_option linter.unnecessarySimpa false
set_option linter.unusedSimpArgs false
set_option maxRecDepth 100000

/-- What is written, where noughts stood behind the end. -/
theorem whole_math {D : DK} {all r : List UInt8} (hs : ∀ s ∈ D.seen, s.length = 64) (hh : Holds D all) (hr1 : 1 ≤ r.length) (hr : all.length + r.length ≤ 64 * D.seen.length) :
    D.seen.flatten.take (64 * (all.length / 64)) ++ (wholeB (D.seen.getD (all.length / 64) []) r all.length ((all.length % 64 + r.length + 63) / 64) ++ D.seen.flatten.drop (64 * (all.length / 64 + (all.length % 64 + r.length + 63) / 64))) =
      (all ++ r) ++ List.replicate (64 * D.seen.length - (all ++ r).length) 0 := by
  obtain ⟨n, hn⟩ : ∃ n, n = all.length := ⟨_, rfl⟩
  obtain ⟨fs, hfs⟩ : ∃ fs, fs = n / 64 := ⟨_, rfl⟩
  obtain ⟨q, hq⟩ : ∃ q, q = n % 64 := ⟨_, rfl⟩
  obtain ⟨m, hm⟩ : ∃ m, m = (n % 64 + r.length + 63) / 64 := ⟨_, rfl⟩
  obtain ⟨N, hN⟩ : ∃ N, N = D.seen.length := ⟨_, rfl⟩
  rw [← hn, ← hm, ← hfs, ← hN]
  rw [← hn, ← hN] at hr
  have hb := hh.bytes
  rw [← hn, ← hN] at hb
  have hfsN : fs < D.seen.length := by rw [← hN]; omega
  have e1 : D.seen.flatten.take (64 * fs) = all.take (64 * fs) := by
    rw [hb, List.take_append_of_le_length (by omega)]
  have e2 : (D.seen.getD fs []).take q = all.drop (64 * fs) := by
    rw [← flat_at D.seen fs hs hfsN, hb, List.take_take, Nat.min_eq_left (by omega), Nat.mul_comm fs 64, List.drop_append_of_le_length (by omega)]
    have : (all.drop (64 * fs)).length = q := by rw [List.length_drop]; omega
    rw [← this, List.take_left']
    rfl
  have e3 : D.seen.flatten.drop (64 * (fs + m)) = List.replicate (64 * N - 64 * (fs + m)) 0 := by
    have := zeros_cut (N := 64 * N - n) (k := 64 * (fs + m)) hb (by omega) (by omega)
    rw [this]
    congr 1; omega
  unfold wholeB
  rw [← hq, e1, e2, e3, List.length_append, ← hn]
  rw [show all ++ r = all.take (64 * fs) ++ (all.drop (64 * fs) ++ r) by rw [← List.append_assoc, List.take_append_drop]]
  simp only [List.append_assoc]
  congr 3
  rw [List.replicate_append_replicate]
  congr 1; omega

section
variable {w : World} {g n : Nat} {d : Addr} {D : DK} {O : Nat → Prop}
set_option maxHeartbeats 1000000 in
theorem lp_appendLong (h : LpAt w g d n true) (p : ByteArray) (hp : p.size < 1 ∨ 4000 < p.size) (hm : p.size ≤ 100000) :
    Calls Try.prog 11 #[.pointer (some ⟨g, 0, none⟩), .string p] w fun e w' => e = .returned (.int .i64 3) ∧ w = w' := by
  have HO := Lib.hid (lp_over h)
  have HL := Lib.hid (lp_len_no p.size hp)
  have hz : (p.size : Int) % 18446744073709551616 = p.size := by omega
  clear h hp
  go_enter Try.func11, Try.ntmps11
  go_wp2_with (first
    | (go_at_call 15; refine HO.out.mono ?_; rintro e w1 ⟨rfl, rfl⟩)
    | (go_at_call 26; refine (HL.out _).mono ?_; rintro e w2 ⟨rfl, rfl⟩))
  go_ret
  exact ⟨rfl, rfl⟩

set_option maxHeartbeats 1000000 in
theorem lp_appendFull (h : LpAt w g d n true) (hd : PAt w d D O) (p : ByteArray) (h1 : 1 ≤ p.size) (h2 : p.size ≤ 4000) (hN : D.seen.length ≤ 4096) (hn : n ≤ 64 * D.seen.length) (hf : 64 * D.seen.length < n + (p.size + 6)) :
    Calls Try.prog 11 #[.pointer (some ⟨g, 0, none⟩), .string p] w fun e w' => e = .returned (.int .i64 5) ∧ Below w.heap.size w w' := by
  have HO := Lib.hid (lp_over h)
  have HL := Lib.hid (lp_len_yes p.size h1 h2)
  have HS := Lib.hid (dsk.sectors (w := w) hd)
  have c1 := h.cn
  have c2 := h.cd
  obtain ⟨N, hNN⟩ : ∃ N, N = D.seen.length := ⟨_, rfl⟩
  rw [← hNN] at HS hN hn hf
  have hz : (p.size : Int) % 18446744073709551616 = p.size := by omega
  have k1 : IntKind.i64.wrap ((n : Int) + 6) = (n : Int) + 6 := IntWalk.i64_in _ (by omega)
  have k2 : IntKind.i64.wrap ((n : Int) + 6 + (p.size : Int)) = (n : Int) + 6 + (p.size : Int) := IntWalk.i64_in _ (by omega)
  have k3 : IntKind.i64.wrap ((N : Int) * 64) = (N : Int) * 64 := IntWalk.i64_in _ (by omega)
  have k4 : (N : Int) * 64 < (n : Int) + 6 + (p.size : Int) := by omega
  clear h hd hNN hf h1 hn
  go_enter Try.func11, Try.ntmps11
  go_wp2_with (first
    | (go_at_call 15; refine HO.out.mono ?_; rintro e w1 ⟨rfl, rfl⟩)
    | (go_at_call 26; refine (HL.out _).mono ?_; rintro e w2 ⟨rfl, rfl⟩)
    | (go_at_call 18; refine HS.out.mono ?_; rintro e w3 ⟨rfl, hb3⟩))
  go_ret
  exact ⟨rfl, hb3⟩

set_option maxHeartbeats 2000000 in
theorem lp_append (h : LpAt w g d n true) (hd : PAt w d D O) (hg : ¬ O g) (hf : D.fuse = -1) (hN : D.seen.length ≤ 100) (hw : D.waits.length ≤ 100000) (all : List UInt8) (hall : all.length = n) (hh : Holds D all) (p : ByteArray) (h1 : 1 ≤ p.size) (h2 : p.size ≤ 4000) (hr : n + (p.size + 6) ≤ 64 * D.seen.length) :
    Calls Try.prog 11 #[.pointer (some ⟨g, 0, none⟩), .string p] w fun e w' => ∃ D' O', e = .returned (.int .i64 0) ∧ PAt w' d D' O' ∧ Holds D' (all ++ recB p.data.toList) ∧ D'.seen.length = D.seen.length ∧ Calm D' (D.waits.length + 100) ∧
      LpAt w' g d ((n + (p.size + 6) : Nat) : Int) true ∧ Moves (fun k => O k ∨ k = g) (fun k => O' k ∨ k = g) w w' ∧ ¬ O' g := by
  have hrl : (recB p.data.toList).length = p.size + 6 := by rw [recB_length, ← Lib.size_eq]
  have hmath := whole_math (r := recB p.data.toList) hd.1.seen hh (by omega) (by rw [hall, hrl]; exact hr)
  have hrs : (recS p).size = p.size + 6 := recS_size p
  have HO := Lib.hid (lp_over h)
  have HL := Lib.hid (lp_len_yes p.size h1 h2)
  have HS := Lib.hid (dsk.sectors (w := w) hd)
  have HB := Lib.hid (lp_bytesOf p (by omega))
  have HWr := Lib.hid (fun (W : World) (hl : LpAt W g d n true) (hp : PAt W d D O) => lp_write hl hp hg hf (by omega) (by omega) (recS p) (by omega) (by rw [hrs]; exact hr))
  have HP := Lib.hid hd
  have HLg := Lib.hid h
  have c1 := h.cn
  have c2 := h.cd
  have hgl := h.lt
  have htab := Lib.hid h.table
  have htz := Lib.hid (show (Try.prog.info? 29).map (·.size) = some tab.toList.length by rw [Array.length_toList, tab_size]; exact (zero_of_info (P := Try.prog) tableInfo).2)
  obtain ⟨N, hNN⟩ : ∃ N, N = D.seen.length := ⟨_, rfl⟩
  have HNN := Lib.hid hNN
  rw [← hNN] at HS hN hr
  have Hrs := Lib.hid hrs
  have Hf := Lib.hid hf
  have Hall := Lib.hid hall
  have Hg := Lib.hid hg
  have Hrl := Lib.hid hrl
  have Hmath := Lib.hid hmath
  have hz : (p.size : Int) % 18446744073709551616 = p.size := by omega
  have k1 : IntKind.i64.wrap ((n : Int) + 6) = (n : Int) + 6 := IntWalk.i64_in _ (by omega)
  have k2 : IntKind.i64.wrap ((n : Int) + 6 + (p.size : Int)) = (n : Int) + 6 + (p.size : Int) := IntWalk.i64_in _ (by omega)
  have k3 : IntKind.i64.wrap ((N : Int) * 64) = (N : Int) * 64 := IntWalk.i64_in _ (by omega)
  have k4 : ¬ (N : Int) * 64 < (n : Int) + 6 + (p.size : Int) := by omega
  obtain ⟨R, hR⟩ : ∃ R, R = recS p := ⟨_, rfl⟩
  have HR := Lib.hid (show R.data.toList = recB p.data.toList by rw [hR]; rfl)
  have HRs := Lib.hid (show R.size = p.size + 6 by rw [hR]; exact hrs)
  rw [← hR] at HB HWr
  have hcast := Lib.hid (show ((n : Int) + 6 + (p.size : Int)) = ((n + (p.size + 6) : Nat) : Int) by omega)
  clear h hd hNN hrl hmath hrs hf hall hR h1 hg hh hw hr
  go_enter Try.func11, Try.ntmps11
  go_upto_region 8 with (first
    | (go_at_call 15; refine HO.out.mono ?_; rintro e w1 ⟨rfl, rfl⟩)
    | (go_at_call 26; refine (HL.out _).mono ?_; rintro e w2 ⟨rfl, rfl⟩)
    | (go_at_call 18; refine HS.out.mono ?_; rintro e w3 ⟨rfl, hb3⟩; have HB3 := Lib.hid hb3; clear hb3))
  have HL3 := Lib.hid (HLg.out.stay (HB3.out.block g hgl))
  have ht3 := Lib.hid HL3.out.table
  clear c1 c2
  go_wp2_with (first
    | (refine wpList_load_mid rfl 29 _ rfl g 0 rfl tab.toList _ ht3.out Try.underlying29 rfl htz.out ?_; dsimp only [Act.put])
    | (go_at_call 28; refine (HB.out _).mono ?_; rintro e w4 ⟨rfl, hb4⟩; have HB4 := Lib.hid (HB3.out.trans (hb4.mono HB3.out.size)); have HL4 := Lib.hid (HLg.out.stay (HB4.out.block g hgl)); have HP4 := Lib.hid (HP.out.stay (fun k hk => HB4.out.block k (HP.out.lt k hk))); clear hb4)
    | (go_at_call 27; refine (HWr.out _ HL4.out HP4.out).mono ?_; rintro e w5 ⟨D5, O5, rfl, hp5, hm5, hq5⟩; have HP5 := Lib.hid hp5; have HM5 := Lib.hid ((Moves.of_below (O := O) HB4.out).trans hm5); have HQ5 := Lib.hid hq5; have HL5 := Lib.hid (HLg.out.stay (HM5.out.block g hgl Hg.out)); have c5 := HL5.out.cn; have f5 := HL5.out.fz 257; clear hp5 hm5 hq5))
  go_ret
  rw [hcast.out]
  have hg5 : ¬ O5 g := fun hk => (HM5.out.own g hk).elim Hg.out (fun h => by omega)
  obtain ⟨q1, q2, q3, q4⟩ := HQ5.out
  rw [HR.out] at q1
  refine ⟨D5, O5, rfl, HP5.out.stay (fun k hk => Below.heap_setCell _ _ _ _ (fun e => hg5 (by subst e; exact hk))), ⟨?_, ?_⟩, q2, ⟨q3, ?_⟩, HL5.out.setn _, ?_, hg5⟩
  · rw [q1, q2, ← Hmath.out, Hall.out, Hrl.out, HRs.out]
  · rw [List.length_append, Hall.out, Hrl.out, q2, ← HNN.out]; omega
  · refine Nat.le_trans q4 ?_
    rw [HRs.out]; omega
  · have m5 : Moves (fun k => O k ∨ k = g) (fun k => O5 k ∨ k = g) w w5 := ⟨HM5.out.os, HM5.out.tape, HM5.out.output, HM5.out.size, fun k hk hn => HM5.out.block k hk (fun h => hn (.inl h)), fun k hk => hk.elim (fun h => (HM5.out.own k h).imp .inl id) (fun h => .inl (.inr h))⟩
    exact m5.cellP (.inl (.inr rfl)) _
end

/-- The program's log. -/
noncomputable def logC : LogC dsk where
  At := fun w r d N all ov O => ∃ g, r = ⟨g, 0, none⟩ ∧ LpAt w g d all.length (!ov) ∧ ∀ k, O k ↔ k = g
  lt := fun ⟨g, _, h, hO⟩ k hk => by rw [(hO k).1 hk]; exact h.lt
  stay := fun ⟨g, hr, h, hO⟩ hk => ⟨g, hr, h.stay (hk g ((hO g).2 rfl)), hO⟩
  endd := fun ⟨g, hr, h, hO⟩ ha => by
    subst hr
    exact (lp_end h).mono fun e w' ⟨he, hw⟩ => ⟨he, hw ▸ Below.refl _ _⟩
  over := fun {w r d N all ov O} ⟨g, hr, h, hO⟩ => by
    subst hr
    exact (lp_over h).mono fun e w' ⟨he, hw⟩ => ⟨by rw [he, Bool.not_not], hw ▸ Below.refl _ _⟩
  told := fun b w hb => lp_stands b hb w
  open_ := fun {w d D O} h hc hN => by
    refine (lp_open (w := w) h hc hN).mono ?_
    rintro e w' ⟨g, v, D', O', rfl, hv, hp, hl, hb, hn, hf, hwt, hm, hge, hno⟩
    have hle : endOf (stands D.seen.flatten) ≤ D.seen.flatten.length := endOf_stands _
    have h64 := flat_length64 D.seen (dsk.good (w := w) h).seen
    have htl : (D.seen.flatten.take (endOf (stands D.seen.flatten))).length = endOf (stands D.seen.flatten) := by rw [List.length_take]; omega
    refine ⟨⟨g, 0, none⟩, v, D', O', fun k => k = g, rfl, hv, hp, ⟨?_, ?_⟩, hn, ⟨hf, by rw [hwt]; exact Nat.le_refl _⟩, ⟨g, rfl, ?_, fun k => Iff.rfl⟩, hm, fun k hk => by subst hk; exact ⟨hno, hge⟩⟩
    · rw [hb, htl, hn]
    · rw [htl, hn]; omega
    · rw [htl]; exact hl
  appendLong := fun {w r d N all O} ⟨g, hr, h, hO⟩ p hp hm => by
    subst hr
    exact (lp_appendLong h p hp hm).mono fun e w' ⟨he, hw⟩ => ⟨he, hw ▸ Below.refl _ _⟩
  appendFull := fun {w r d D O all Ol} hd ⟨g, hr, h, hO⟩ hN p h1 h2 ha hf => by
    subst hr
    exact lp_appendFull (w := w) h hd p h1 h2 (by omega) ha hf
  append := fun {w r d D O all Ol} hd ⟨g, hr, h, hO⟩ hdis hh hc hN p h1 h2 ha => by
    subst hr
    refine (lp_append (w := w) h hd (hdis g ((hO g).2 rfl)) hc.fuse hN hc.waits all rfl hh p h1 h2 ha).mono ?_
    rintro e w' ⟨D', O', rfl, hp, hh', hn, hc', hl, hm, hno⟩
    have eO : Ol = fun k => k = g := by funext k; exact propext (hO k)
    subst eO
    refine ⟨D', O', fun k => k = g, rfl, hp, hh', hn, hc', ⟨g, rfl, ?_, fun k => Iff.rfl⟩, hm, fun k hk => by subst hk; exact hno⟩
    rw [List.length_append, recB_length, ← Lib.size_eq]
    exact hl
end Go.Proofs.Ytlkifliaaaomeaa
