/-
  The program's Inside, Encode of blocks.
-/
import Derived.Test.YtplobffkelmokaaSet21
namespace Go.Proofs.Ytplobffkelmokaa
open Go.RowKit
set_option linter.unusedVariables false
set_option linter.unnecessarySimpa false
set_option linter.unusedSimpArgs false
set_option maxRecDepth 100000

theorem ents_step (es : List En) {i : Nat} (h : i < es.length) : entsB [] (es.take (i + 1)) = entsB [] (es.take i) ++ entB (lastKey [] (es.take i)) (es.getD i en0) := by
  rw [takeE_succ es h, entsB_snoc]
theorem lastS_small {es : List En} (h : SmallE es) (i : Nat) : (lastS (es.take i)).size ≤ 60000 := by
  unfold lastS
  rcases Nat.lt_or_ge ((es.take i).length - 1) (es.take i).length with h1 | h1
  · rw [List.getD, List.getElem?_eq_getElem h1]
    exact (h _ (List.mem_of_mem_take (List.getElem_mem h1))).1
  · rw [List.getD, List.getElem?_eq_none h1]
    exact Nat.zero_le _

set_option maxHeartbeats 8000000 in
theorem inside_any (a : Option Addr) (len cap : Nat) (es : List En) (w : World) (hz : IsEnts w a len cap es) (hl : len ≤ 1000) (hs : SmallE es) :
    Calls Try.prog 9 #[.slice a len cap] w fun e w' => ((rightE es = true ∧ e = .returned (.tuple #[.string (insideS es), .int .i64 0])) ∨ (rightE es = false ∧ e = .returned (.tuple #[.string ⟨#[]⟩, .int .i64 1]))) ∧ Below w.heap.size w w' := by
  have HZ := Lib.hid hz
  have hel := Lib.hid hz.1.1
  have hcap := hz.2.2
  have HS := Lib.hid hs
  have HU := Lib.hid (uint_any len (by omega))
  have hm0 : (len : Int) % 18446744073709551616 = len := by omega
  have hul := ub_len10 (n := len) (by omega)
  obtain ⟨U, hU⟩ : ∃ U : ByteArray, U = ⟨(ub len).toArray⟩ := ⟨_, rfl⟩
  have hUl : U.data.toList = ub len := by rw [hU]
  have hUs : U.size ≤ 10 := by rw [hU, arr_size]; exact hul
  rw [← hU] at HU
  clear hz hs hU hul
  go_enter Try.func9, Try.ntmps9
  go_upto_region 2 with fail
  obtain ⟨B, hB⟩ : ∃ B, B = w.heap.size := ⟨_, rfl⟩
  have hn := EncAt.new (Below.refl w.heap.size w)
  obtain ⟨w2, hw2⟩ : ∃ w2, w2 = w.alloc (.cells #[.pointer none, .slice none 0 0] 56) := ⟨_, rfl⟩
  rw [← hw2, ← hB] at hn ⊢
  have HN := Lib.hid hn
  clear hn hw2 hB
  go_upto_region 3 with (first
    | (go_at_call 23; (with_reducible refine (HU.out _).mono ?_); rintro e w3 ⟨rfl, hb3⟩; have H3 := Lib.hid ((HN.out.stay hb3).write U (by simp; omega)))
    | (go_at_call 22; (with_reducible refine H3.out.mono ?_); rintro e w4 ⟨rfl, h4, _⟩))
  rw [List.nil_append, hUl] at h4
  have H4 := Lib.hid h4
  clear h4 HN H3 hb3 hUl hUs HU hm0
  go_wp2_with fail
  go_loopg [16] len (fun g s16 wx => ∃ (i : Nat) (l : List UInt8), i + g = len ∧ s16 = .int .i64 i ∧ l.length ≤ 10 + i * 300000 ∧ Hid (l = ub len ++ entsB [] (es.take i)) ∧ Hid (EncAt w B l wx) ∧ Hid (∀ j, j < i → entOk es j = true))
  case atStart => exact ⟨0, ub len, by omega, rfl, by have := ub_len10 (n := len) (by omega); omega, Lib.hid (by simp [entsB]), H4, Lib.hid (fun j h => absurd h (by omega))⟩
  case round =>
    obtain ⟨i, l, hig, rfl, hll, hl, he, hok⟩ := hrel
    cases gk with
    | zero =>
      obtain rfl : i = len := by omega
      have hfin := Lib.hid (show (⟨l.toArray⟩ : ByteArray) = insideS es by rw [hl.out, List.take_of_length_le (Nat.le_of_eq hel.out)]; unfold insideS insideB; rw [hel.out])
      have HR := Lib.hid (show rightE es = true from rightE_true.2 (fun j hj => hok.out j (by rw [← hel.out]; exact hj)))
      have HSt := Lib.hid he.out.string
      go_wp2_with (go_at_call 25; (with_reducible refine HSt.out.mono ?_); rintro e w6 ⟨rfl, hb6⟩)
      go_ret2
      exact ⟨.inl ⟨HR.out, by rw [hfin.out]; rfl⟩, hb6⟩
    | succ g =>
      have hil : i < len := by omega
      have hiz : (i : Int) < (len : Int) := by omega
      have hi0 : (0 : Int) ≤ (i : Int) := by omega
      have hicz : (i : Int) ≤ (cap : Int) := by omega
      have hic : i ≤ cap := by omega
      have hil2 : i < es.length := by rw [hel.out]; exact hil
      obtain ⟨b, off, rfl, hbl, hkm, k0, ca, cl, cc, k1, hv⟩ := (HZ.out.below he.out.below).1.2 i hil
      have hsm := HS.out (es.getD i en0) (by rw [List.getD, List.getElem?_eq_getElem hil2]; exact List.getElem_mem _)
      have HST := Lib.hid (ents_step es hil2)
      have hls := lastS_small HS.out i
      have hent := entR1_ok hil2
      obtain ⟨z, hz⟩ : ∃ z, z = es.getD i en0 := ⟨_, rfl⟩
      rw [← hz] at k0 hv hsm HST hent
      obtain ⟨K, hK⟩ : ∃ K, K = z.key := ⟨_, rfl⟩
      rw [← hK] at k0
      obtain ⟨cs, hcs⟩ : ∃ cs : Array Value, cs = #[.string K, .slice ca cl cc] := ⟨_, rfl⟩
      have hcsz : (Try.prog.info? 48).map (·.size) = some cs.size := by rw [hcs]; exact (by kernel_rfl : (Try.prog.info? 48).map (·.size) = some 2)
      have hbel8 := (Below.refl wr.heap.size wr).alloc (Nat.le_refl _) (.cells cs 48)
      have hN8 := he.out.alloc (.cells cs 48)
      have hr8 := heap_alloc_new wr (.cells cs 48)
      obtain ⟨w8, hw8⟩ : ∃ w8, w8 = wr.alloc (.cells cs 48) := ⟨_, rfl⟩
      obtain ⟨v, hvv⟩ : ∃ v, v = wr.heap.size := ⟨_, rfl⟩
      rw [← hw8] at hN8 hr8 hbel8
      rw [← hvv] at hr8
      have hv8 := vers_bel hv hbel8
      have hz8 : IsEnts w8 (some ⟨b, off, none⟩) i cap (es.take i) := ents_take (HZ.out.below hN8.below) (by omega)
      have HNo := Lib.hid (fun (x : Like w8.heap.size w8) (h : entR1 (es.take i) z = false) => bbytesOf_no z ca cl cc (some ⟨b, off, none⟩) i cap (es.take i) x.val (vers_bel hv8 x.below) (hz8.below x.below) h)
      have HYes := Lib.hid (fun (x : Like w8.heap.size w8) (h : entR1 (es.take i) z = true) => bbytesOf_yes z ca cl cc (some ⟨b, off, none⟩) i cap (es.take i) x.val (vers_bel hv8 x.below) (hz8.below x.below) h hsm.1 hls hsm.2.1 hsm.2.2)
      have hXs := entB_len (lastKey [] (es.take i)) z hsm.1 hsm.2.1
      obtain ⟨Xl, hXl⟩ : ∃ Xl, Xl = entB (lastKey [] (es.take i)) z := ⟨_, rfl⟩
      rw [← hXl] at HYes HST hXs
      obtain ⟨X, hX⟩ : ∃ X : ByteArray, X = ⟨Xl.toArray⟩ := ⟨_, rfl⟩
      have hXz : X.size ≤ 300000 := by rw [hX, arr_size]; exact hXs
      have HXl := Lib.hid (show X.data.toList = Xl by rw [hX])
      rw [← hX] at HYes
      rw [← hK, ← hcs] at HNo HYes
      rw [hcs] at hw8
      have N8 := Lib.hid hN8
      have R8 := Lib.hid hr8
      clear hz hK hcs hN8 hr8 hbel8 hv8 hz8 hXl hX hXs hsm hls hv he hkm
      go_upto_region 6 with fail
      rw [← hw8, ← hvv]
      clear hw8 hvv
      cases hR : entR1 (es.take i) z with
      | false =>
        have HR := Lib.hid (show rightE es = false from rightE_false hil2 (by rw [hent, hR]))
        have HC := Lib.hid (fun x => HNo.out x hR)
        clear hent hR HNo HYes
        refine region_likes (by kernel_rfl) (by kernel_rfl) ?_
        repeat (first
          | (go_big_quiet_want; refine quiet_row 48 _ rfl v rfl 48 cs (0, 0) _ (likes_row R8.out) Try.underlying48 rfl hcsz ?_; go_simp; go_big_quiet_on)
          | (go_big_quiet_step ((go_at_call 24; with_reducible exact calls_likes (Like.size _) (HC.out _)))))
        refine wpQuiet_nil ?_
        intro x
        have hb9 := Lib.hid (N8.out.stay x.below).below
        go_wp2_with fail
        go_ret2
        exact ⟨.inr ⟨HR.out, rfl⟩, hb9.out⟩
      | true =>
        have HOK := Lib.hid (show ∀ j, j < i + 1 → entOk es j = true from fun j hj => by
          rcases Nat.lt_or_ge j i with h1 | h1
          · exact hok.out j h1
          · have : j = i := by omega
            rw [this, hent, hR])
        have HC := Lib.hid (fun x => HYes.out x hR)
        clear hent hR HNo HYes
        refine region_likes (by kernel_rfl) (by kernel_rfl) ?_
        repeat (first
          | (go_big_quiet_want; refine quiet_row 48 _ rfl v rfl 48 cs (0, 0) _ (likes_row R8.out) Try.underlying48 rfl hcsz ?_; go_simp; go_big_quiet_on)
          | (go_big_quiet_step ((go_at_call 24; with_reducible exact calls_likes (Like.size _) (HC.out _)))))
        refine wpQuiet_nil ?_
        intro x
        have N9 := Lib.hid ((N8.out.stay x.below).write X (by omega))
        go_wp2_with (go_at_call 22; (with_reducible refine N9.out.mono ?_); rintro e w10 ⟨rfl, h10, hk10⟩; have N10 := Lib.hid h10; clear h10 hk10)
        go_roundg g
        case measure => omega
        case rel => exact ⟨i + 1, l ++ X.data.toList, by omega, by go_num, by rw [List.length_append, c_size]; omega, Lib.hid (by rw [hl.out, HXl.out, HST.out, List.append_assoc]), N10, HOK⟩

theorem none_ents (w : World) : IsEnts w none 0 0 [] := ⟨⟨rfl, fun i hi => absurd hi (by omega)⟩, Nat.zero_le _, Nat.le_refl _⟩
theorem insideS_none : insideS [] = ⟨#[0]⟩ := by
  unfold insideS insideB
  rw [show ([] : List En).length = 0 from rfl, ub_small (by decide)]
  rfl

set_option maxHeartbeats 4000000 in
theorem bencode_no (a : Option Addr) (len cap : Nat) (es : List En) (w : World) (hz : IsEnts w a len cap es) (hl : len ≤ 1000) (hs : SmallE es) (hr : rightE es = false) :
    Calls Try.prog 10 #[.agg tab, .slice a len cap] w fun e w' => e = .returned (.tuple #[.string ⟨#[]⟩, .int .i64 1]) ∧ Below w.heap.size w w' := by
  have hb0 := (Below.refl w.heap.size w).alloc (Nat.le_refl _) (.cells tab 27)
  have HI := Lib.hid (show Calls Try.prog 9 #[.slice a len cap] (w.alloc (.cells tab 27)) fun e w' => e = .returned (.tuple #[.string ⟨#[]⟩, .int .i64 1]) ∧ Below (w.alloc (.cells tab 27)).heap.size (w.alloc (.cells tab 27)) w' from
    (inside_any a len cap es _ (hz.below hb0) hl hs).mono fun e w' h => by
      rcases h.1 with h1 | h1
      · rw [hr] at h1; cases h1.1
      · exact ⟨h1.2, h.2⟩)
  obtain ⟨w1, hw1⟩ : ∃ w1, w1 = w.alloc (.cells tab 27) := ⟨_, rfl⟩
  rw [← hw1] at HI hb0
  have HB0 := Lib.hid hb0
  clear hz hs hr hb0
  go_enter Try.func10, Try.ntmps10
  go_upto_region 1 with fail
  rw [← hw1]
  clear hw1
  go_wp2_with (go_at_call 9; (with_reducible refine HI.out.mono ?_); rintro e w2 ⟨rfl, hb2⟩)
  go_ret2
  exact ⟨rfl, HB0.out.trans (hb2.mono HB0.out.size)⟩

/-- As Encode's contract, with what Pack made told behind the call. -/
def EncOut (es : List En) (w : World) (e : Ending) (w' : World) : Prop := ∃ p : ByteArray, p.size ≤ 90000 ∧ unp p.data.toList = (insideB es, 0) ∧ e = .returned (.tuple #[.string (blkS p), .int .i64 0]) ∧ Below w.heap.size w w'
set_option maxHeartbeats 4000000 in
theorem bencode_yes (a : Option Addr) (len cap : Nat) (es : List En) (w : World) (hz : IsEnts w a len cap es) (hl : len ≤ 1000) (hs : SmallE es) (hr : rightE es = true) (hi : (insideB es).length ≤ 60000) :
    Calls Try.prog 10 #[.agg tab, .slice a len cap] w (EncOut es w) := by
  have hb0 := (Below.refl w.heap.size w).alloc (Nat.le_refl _) (.cells tab 27)
  have HI := Lib.hid (show Calls Try.prog 9 #[.slice a len cap] (w.alloc (.cells tab 27)) fun e w' => e = .returned (.tuple #[.string (insideS es), .int .i64 0]) ∧ Below (w.alloc (.cells tab 27)).heap.size (w.alloc (.cells tab 27)) w' from
    (inside_any a len cap es _ (hz.below hb0) hl hs).mono fun e w' h => by
      rcases h.1 with h1 | h1
      · exact ⟨h1.2, h.2⟩
      · rw [hr] at h1; cases h1.1)
  have hr0 := heap_alloc_new w (.cells tab 27)
  obtain ⟨w1, hw1⟩ : ∃ w1, w1 = w.alloc (.cells tab 27) := ⟨_, rfl⟩
  rw [← hw1] at HI hb0 hr0
  have HB0 := Lib.hid hb0
  have HR0 := Lib.hid hr0
  obtain ⟨I, hI⟩ : ∃ I, I = insideS es := ⟨_, rfl⟩
  have hIs : I.size ≤ 60000 := by rw [hI]; unfold insideS; rw [arr_size]; exact hi
  have HIl := Lib.hid (show I.data.toList = insideB es by rw [hI]; rfl)
  rw [← hI] at HI
  have HP := Lib.hid (fun W => packOK I W hIs)
  have HSm := Lib.hid sumOf_any
  have his := Lib.hid tableSize
  clear hz hs hr hi hI hb0 hr0
  go_enter Try.func10, Try.ntmps10
  go_upto_region 1 with fail
  rw [← hw1]
  clear hw1
  go_upto_region 7 with (first
    | (go_at_call 9; (with_reducible refine HI.out.mono ?_); rintro e w2 ⟨rfl, hb2⟩)
    | (go_at_call 26; (with_reducible refine (HP.out _).mono ?_); rintro e w3 ⟨p, rfl, hpu, hps, hb3⟩))
  have hps2 : p.size ≤ 60004 := by omega
  have HPU := Lib.hid hpu
  have h3 := hb2.trans (hb3.mono hb2.size)
  have HB3 := Lib.hid h3
  have HR3 := Lib.hid ((h3.block _ (Array.getElem?_eq_some_iff.1 HR0.out).1).trans HR0.out)
  have HC := Lib.hid (fun W => HSm.out p (by omega) W)
  have hfx : (sumS p).length = 4 := by unfold sumS fx; exact cellsF_length _ _
  obtain ⟨S, hS⟩ : ∃ S : ByteArray, S = ⟨(sumS p).toArray⟩ := ⟨_, rfl⟩
  rw [← hS] at HC
  have hSs : S.size = 4 := by rw [hS, arr_size]; exact hfx
  have HF := Lib.hid (show p ++ S = blkS p by rw [hS]; exact c_ba_ext (by simp [blkS, ByteArray.data_append]))
  have hx : ¬ 9223372036854775807 < p.size + S.size := by omega
  clear hpu hb2 hb3 h3 hS hfx hps HSm HI HP HR0
  go_wp2_with (first
    | (refine wpList_load_row rfl 27 _ rfl w.heap.size rfl 27 tab (0, 0) _ HR3.out Try.underlying27 rfl his.out ?_; dsimp only [Act.put])
    | (go_at_call 27; (with_reducible refine (HC.out _).mono ?_); rintro e w4 ⟨rfl, hb4⟩))
  go_ret2
  have h4 := HB3.out.trans (hb4.mono HB3.out.size)
  exact ⟨p, by omega, by rw [HPU.out, HIl.out], by rw [← HF.out]; rfl, HB0.out.trans (h4.mono HB0.out.size)⟩
end Go.Proofs.Ytplobffkelmokaa
