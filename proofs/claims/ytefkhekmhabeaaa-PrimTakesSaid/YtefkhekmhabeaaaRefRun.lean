/-
  The walk of the document's Run.
-/
import Derived.Test.YtefkhekmhabeaaaSteps
import Derived.Test.YtefkhekmhabeaaaRefTake
import Derived.Test.YtefkhekmhabeaaaRefValue
import Derived.Deep.LoopGhost
import Derived.Deep.DeepCutAuto
import Derived.Deep.CutBlock
import Derived.Deep.QuietTactic
import Derived.BigQuiet
namespace Go.Proofs.Ytefkhekmhabeaaa
open Go.RowKit

/-- A slice of steps, as it lies in memory. -/
def StepsAt (w : World) (a : Option Addr) (len : Nat) (zs : List Stp) : Prop :=
  zs.length = len ∧ ∀ i, i < len → ∃ b off, a = some ⟨b, off, none⟩ ∧ b < w.heap.size ∧ (zs.getD i dflt).1 < 256 ∧ w.cell? ⟨b, off + i * 3, none⟩ = some (.int .u8 (zs.getD i dflt).1) ∧
    w.cell? ⟨b, off + i * 3 + 1, none⟩ = some (.int .i64 (zs.getD i dflt).2.1) ∧ w.cell? ⟨b, off + i * 3 + 2, none⟩ = some (.bool (zs.getD i dflt).2.2)

theorem StepsAt.below {w w' : World} {a : Option Addr} {len : Nat} {zs : List Stp} (h : StepsAt w a len zs) (hb : Below w.heap.size w w') : StepsAt w' a len zs := by
  refine ⟨h.1, fun i hi => ?_⟩
  obtain ⟨b, off, ha, hl, hk, c0, c1, c2⟩ := h.2 i hi
  exact ⟨b, off, ha, Nat.lt_of_lt_of_le hl hb.size, hk, (hb.cell (p := ⟨b, _, none⟩) hl).trans c0, (hb.cell (p := ⟨b, _, none⟩) hl).trans c1, (hb.cell (p := ⟨b, _, none⟩) hl).trans c2⟩

theorem u64info : (Try.prog.info? 22).map (fun i => (i.zero, i.size, i.bytes)) = some (some (.int .u64 0), 1, 8) := by kernel_rfl
theorem strinfo : (Try.prog.info? 9).map (fun i => (i.zero, i.size, i.bytes)) = some (some (.string ⟨#[]⟩), 1, 16) := by kernel_rfl

theorem results_tmp4 {fn : Func} {t u v x : Tmp} (h : fn.results = #[.tmp t, .tmp u, .tmp v, .tmp x]) (tmps : Array Value) (P : Program) (w : World) :
    (results fn tmps).run P w = .ok (.tuple #[tmps.getD t undef, tmps.getD u undef, tmps.getD v undef, tmps.getD x undef]) w := by
  simp [results, h]

/-- What the first append leaves, for the second. -/
theorem tail_one {w W w1 : World} {k n : Nat} {X : Int} {u8 u9 v8' : Value} {xs ys : List Value} (h8 : W.ownsRow w.heap.size 22 1 u8 n xs) (h9 : W.ownsRow w.heap.size 9 1 u9 k ys) (hb : Below w.heap.size w W)
    (hown1 : w1.ownsRow w.heap.size 22 1 v8' (n + 1) (xs ++ [.int .u64 X])) (hg1 : (W.alloc (.cells #[.int .u64 X] 22)).grownBy w1 u8.ownBlock) (Y : ByteArray) :
    Hid (w1.ownsRow w.heap.size 22 1 v8' (n + 1) (xs ++ [.int .u64 X])) ∧ Hid (w1.ownsRow w.heap.size 9 1 u9 k ys) ∧ Hid (Below w.heap.size w w1) ∧
      Hid ((∀ (j : Nat) (u : Value), [Value.string Y][j]? = some u → (w1.alloc (.cells #[.string Y] 9)).cell? ((⟨w1.heap.size, 0, none⟩ : Addr).add j) = some u) ∧ ∀ u ∈ [Value.string Y], u.oneCell' = true) ∧
      Hid (w.heap.size ≤ (w1.alloc (.cells #[.string Y] 9)).heap.size) := by
  have hB : Below w.heap.size w w1 := (hb.alloc hb.size (.cells #[.int .u64 X] 22)).grown hg1 (by have := hb.size; simp; omega) (fun k hk => (h8.lt k hk).1)
  exact ⟨Lib.hid hown1, Lib.hid ((h9.alloc (.cells #[.int .u64 X] 22)).kept hg1 (own_ne h9 h8 (by decide))), Lib.hid hB, Lib.hid ⟨cell_one_new w1 (.string Y) 9, by simp [Value.oneCell']⟩, Lib.hid (by have := hB.size; simp; omega)⟩

theorem tail_two {w w1 w2 : World} {k n : Nat} {Y : ByteArray} {v8' u9 v9' : Value} {xs ys : List Value} (h8 : w1.ownsRow w.heap.size 22 1 v8' n xs) (h9 : w1.ownsRow w.heap.size 9 1 u9 k ys) (hb : Below w.heap.size w w1)
    (hown2 : w2.ownsRow w.heap.size 9 1 v9' (k + 1) (ys ++ [.string Y])) (hg2 : (w1.alloc (.cells #[.string Y] 9)).grownBy w2 u9.ownBlock) :
    Hid (w2.ownsRow w.heap.size 9 1 v9' (k + 1) (ys ++ [.string Y])) ∧ Hid (w2.ownsRow w.heap.size 22 1 v8' n xs) ∧ Hid (Below w.heap.size w w2) :=
  ⟨Lib.hid hown2, Lib.hid ((h8.alloc (.cells #[.string Y] 9)).kept hg2 (own_ne h8 h9 (by decide))),
    Lib.hid ((hb.alloc hb.size (.cells #[.string Y] 9)).grown hg2 (by have := hb.size; simp; omega) (fun k hk => (h9.lt k hk).1))⟩

set_option maxRecDepth 100000 in
set_option maxHeartbeats 3200000 in
theorem run_any (s : ByteArray) (a : Option Addr) (len cap : Nat) (zs : List Stp) (hs : s.size ≤ 200) (hl : len ≤ 40) (w : World) (hz : StepsAt w a len zs) :
    Calls Try.prog 15 #[.string s, .slice a len cap] w fun e w' => ∃ v8 v9, e = .returned (.tuple #[v8, v9, .int .i64 ((stAt s zs len).1.size : Nat), .bool (stAt s zs len).2]) ∧
      w'.ownsRow w.heap.size 22 1 v8 len (nums s zs len) ∧ w'.ownsRow w.heap.size 9 1 v9 len (strs s zs len) ∧ Below w.heap.size w w' := by
  obtain ⟨iu, hiu, hu0, hu1, hu2⟩ := info_parts u64info
  obtain ⟨it, hit, ht0, ht1, ht2⟩ := info_parts strinfo
  have HZ := Lib.hid hz
  clear hz
  go_enter Try.func15, Try.ntmps15
  go_wp2_with fail
  go_loopg [0, 8, 9, 10, 11] len (fun gk t v8 v9 bb i wr => ∃ (k : Nat) (sk : ByteArray) (bk : Bool), k ≤ len ∧ gk = len - k ∧ i = .int .i64 k ∧ t = .string sk ∧ bb = .bool bk ∧ Hid (stAt s zs k = (sk, bk)) ∧ sk.size ≤ s.size ∧
    wr.ownsRow w.heap.size 22 1 v8 k (nums s zs k) ∧ wr.ownsRow w.heap.size 9 1 v9 k (strs s zs k) ∧ Below w.heap.size w wr)
  case atStart => exact ⟨0, s, false, Nat.zero_le _, rfl, rfl, rfl, rfl, Lib.hid rfl, Nat.le_refl _, World.ownsRow_nil _ _ _ _, World.ownsRow_nil _ _ _ _, Below.refl _ _⟩
  case round =>
    obtain ⟨k, sk, bk, hk, rfl, rfl, rfl, rfl, hst, hsk, ho8, ho9, hb⟩ := hrel
    by_cases hlt : k < len
    · obtain ⟨b, off, rfl, hbl, hk256, c0, c1, c2⟩ := (HZ.out.below hb).2 k hlt
      obtain ⟨⟨kd, sz, bg⟩, ez⟩ : ∃ z, zs.getD k dflt = z := ⟨_, rfl⟩
      rw [ez] at c0 c1 c2 hk256
      have EZ := Lib.hid ez
      have hszk : sk.size ≤ 200 := by omega
      have hmx : sk.size ≤ maxLen := by unfold maxLen; omega
      have HM := Lib.hid hmx
      have HO8 := Lib.hid ho8
      have HO9 := Lib.hid ho9
      have HB := Lib.hid hb
      clear ez ho8 ho9 hb hmx
      go_upto_block 2 with fail
      go_cut [12, 13, 14] (fun x y kk wc => ∃ (X : Nat) (Y : ByteArray) (KK : Int), x = .int .u64 X ∧ y = .string Y ∧ kk = .int .i64 KK ∧ Hid (Found sk (kd, sz, bg) X Y KK) ∧ Hid (∃ q, wc = wr.drewN q))
      case first =>
        have hkl := tkK_le sk.data.toList
        rw [list_size] at hkl
        by_cases h0 : kd % 4 = 0
        · have t0 : ((kd : Int) % 4 == 0) = true := by simp; omega
          by_cases hK : tkK sk.data.toList = 0
          · have HF := Lib.hid (found_uint_no (s := sk) (z := (kd, sz, bg)) h0 hK)
            have HK := Lib.hid hK
            have g0 : ¬ 0 < tkK sk.data.toList := by omega
            clear h0 hK
            go_wp2_with (go_at_call 27; refine (refTake_any sk HM.out _).mono ?_; rintro e w' ⟨rfl, rfl⟩)
            go_meet
            case rel => exact ⟨_, _, _, rfl, rfl, rfl, HF, Lib.hid ⟨0, rfl⟩⟩
          · have HF := Lib.hid (found_uint (s := sk) (z := (kd, sz, bg)) h0 hK)
            have g0 : 0 < tkK sk.data.toList := by omega
            clear h0 hK
            go_wp2_with (go_at_call 27; refine (refTake_any sk HM.out _).mono ?_; rintro e w' ⟨rfl, rfl⟩)
            go_meet
            case rel => exact ⟨_, _, _, rfl, rfl, rfl, HF, Lib.hid ⟨0, rfl⟩⟩
        · have f0 : ((kd : Int) % 4 == 0) = false := by simp; omega
          by_cases h1 : kd % 4 = 1
          · have t1 : ((kd : Int) % 4 == 1) = true := by simp; omega
            by_cases hs1 : 1 ≤ sz ∧ sz ≤ 8 ∧ sz ≤ sk.size
            · obtain ⟨K, rfl⟩ := Int.eq_ofNat_of_zero_le (show 0 ≤ sz by omega)
              have HF := Lib.hid (found_fixed (s := sk) (z := (kd, (K : Int), bg)) h1 rfl (by omega))
              obtain ⟨q1, q2, q3⟩ := hs1
              have hx : (sk.extract 0 K).size ≤ 8 := by simp; omega
              clear h0 h1
              go_upto_region 17 with fail
              go_quiet ((go_at_call 28; exact Calls.quiet_of_same ((refValue_any _ bg hx _).mono fun _ _ hh => ⟨hh.1, hh.2.symm⟩)))
              go_wp2_with fail
              go_meet
              case rel => exact ⟨_, _, _, rfl, rfl, rfl, HF, Lib.hid ⟨_, rfl⟩⟩
            · have HF := Lib.hid (found_fixed_no (s := sk) (z := (kd, sz, bg)) h1 hs1)
              by_cases q1 : 1 ≤ sz
              · by_cases q2 : sz ≤ 8
                · have q3 : ¬ sz ≤ sk.size := by omega
                  clear h0 h1 hs1
                  go_wp2_with fail
                  go_meet
                  case rel => exact ⟨_, _, _, rfl, rfl, rfl, HF, Lib.hid ⟨0, rfl⟩⟩
                · clear h0 h1 hs1
                  go_wp2_with fail
                  go_meet
                  case rel => exact ⟨_, _, _, rfl, rfl, rfl, HF, Lib.hid ⟨0, rfl⟩⟩
              · clear h0 h1 hs1
                go_wp2_with fail
                go_meet
                case rel => exact ⟨_, _, _, rfl, rfl, rfl, HF, Lib.hid ⟨0, rfl⟩⟩
          · have f1 : ((kd : Int) % 4 == 1) = false := by simp; omega
            by_cases h2 : kd % 4 = 2
            · have t2 : ((kd : Int) % 4 == 2) = true := by simp; omega
              by_cases hs1 : 0 ≤ sz ∧ sz ≤ sk.size
              · obtain ⟨K, rfl⟩ := Int.eq_ofNat_of_zero_le hs1.1
                have HF := Lib.hid (found_bytes (s := sk) (z := (kd, (K : Int), bg)) h2 rfl (by omega))
                obtain ⟨q1, q2⟩ := hs1
                clear h0 h1 h2
                go_wp2_with fail
                go_meet
                case rel => exact ⟨_, _, _, rfl, rfl, rfl, HF, Lib.hid ⟨0, rfl⟩⟩
              · have HF := Lib.hid (found_bytes_no (s := sk) (z := (kd, sz, bg)) h2 hs1)
                by_cases q1 : 0 ≤ sz
                · have q2 : ¬ sz ≤ sk.size := by omega
                  clear h0 h1 h2 hs1
                  go_wp2_with fail
                  go_meet
                  case rel => exact ⟨_, _, _, rfl, rfl, rfl, HF, Lib.hid ⟨0, rfl⟩⟩
                · clear h0 h1 h2 hs1
                  go_wp2_with fail
                  go_meet
                  case rel => exact ⟨_, _, _, rfl, rfl, rfl, HF, Lib.hid ⟨0, rfl⟩⟩
            · have f2 : ((kd : Int) % 4 == 2) = false := by simp; omega
              have t3 : ((kd : Int) % 4 == 3) = true := by simp; omega
              have h3 : kd % 4 = 3 := by omega
              by_cases hK : tkK sk.data.toList = 0
              · have HF := Lib.hid (found_text_no (s := sk) (z := (kd, sz, bg)) h3 (.inl hK))
                have g0 : ¬ 0 < tkK sk.data.toList := by omega
                clear h0 h1 h2 h3 hK
                go_wp2_with (go_at_call 27; refine (refTake_any sk HM.out _).mono ?_; rintro e w' ⟨rfl, rfl⟩)
                go_meet
                case rel => exact ⟨_, _, _, rfl, rfl, rfl, HF, Lib.hid ⟨0, rfl⟩⟩
              · have g0 : 0 < tkK sk.data.toList := by omega
                by_cases hN : tkN sk.data.toList ≤ sk.size - tkK sk.data.toList
                · have HF := Lib.hid (found_text (s := sk) (z := (kd, sz, bg)) h3 hK hN)
                  clear h0 h1 h2 h3 hK
                  go_wp2_with (go_at_call 27; refine (refTake_any sk HM.out _).mono ?_; rintro e w' ⟨rfl, rfl⟩)
                  go_meet
                  case rel => exact ⟨_, _, _, rfl, rfl, rfl, HF, Lib.hid ⟨0, rfl⟩⟩
                · have HF := Lib.hid (found_text_no (s := sk) (z := (kd, sz, bg)) h3 (.inr (by omega)))
                  clear h0 h1 h2 h3 hK
                  go_wp2_with (go_at_call 27; refine (refTake_any sk HM.out _).mono ?_; rintro e w' ⟨rfl, rfl⟩)
                  go_meet
                  case rel => exact ⟨_, _, _, rfl, rfl, rfl, HF, Lib.hid ⟨0, rfl⟩⟩
      case rest =>
        obtain ⟨X, Y, KK, rfl, rfl, rfl, HF, HW⟩ := hcut
        obtain ⟨q, rfl⟩ := HW.out
        have HO8' : Hid ((wr.drewN q).ownsRow w.heap.size 22 1 u8 k (nums s zs k)) := HO8
        have HO9' : Hid ((wr.drewN q).ownsRow w.heap.size 9 1 u9 k (strs s zs k)) := HO9
        have HB' : Hid (Below w.heap.size w (wr.drewN q)) := Lib.hid ⟨HB.out.os, HB.out.tape, HB.out.output, HB.out.size, HB.out.block⟩
        clear HW c0 c1 c2 HO8 HO9 HB
        obtain ⟨W, eW⟩ : ∃ W, wr.drewN q = W := ⟨_, rfl⟩
        rw [eW] at HO8' HO9' HB' ⊢
        have HO8 := HO8'
        have HO9 := HO9'
        have HB := HB'
        clear eW HO8' HO9' HB'
        have esk : sk.extract 0 sk.size = sk := by apply ByteArray.ext; simp
        have hc3 := Lib.hid (show k + 1 ≤ maxLen by simp [maxLen]; omega)
        have hc4 := Lib.hid (show (k + 1) * 8 ≤ 140737488355328 by omega)
        have hd4 := Lib.hid (show (k + 1) * 16 ≤ 140737488355328 by omega)
        cases bk
        · rcases HF.out with ⟨e1, e2⟩ | ⟨K, e1, e2, e3⟩
          · subst e1
            have HA := Lib.hid e2
            clear e2
            have HX := Lib.hid (step_next hst.out EZ.out HA.out)
            have hnew := Lib.hid (cell_one_new W (.int .u64 0) 22)
            have hc2 := Lib.hid (show ∀ u ∈ [Value.int .u64 0], u.oneCell' = true by simp [Value.oneCell'])
            have hc5 := Lib.hid (show w.heap.size ≤ (W.alloc (.cells #[.int .u64 0] 22)).heap.size by have := HB.out.size; simp; omega)
            go_wp2_with (first
              | (at_builtin; refine wpList_append_own _ rfl (.tmp 123) (.tmp 125) 30 rfl w.heap.size 22 iu (.int .u64 0) 1 8 Try.underlying30 hiu hu0 hu1 hu2 rfl (by decide) _ _ _ rfl (HO8.out.alloc _) ⟨W.heap.size, 0, none⟩ 1 1 [.int .u64 0] rfl rfl hnew.out hc2.out hc3.out hc4.out hc5.out ?_; intro v8' w1 hown1 hg1 _; obtain ⟨HW1, HT1, HB1, hnew2, hd5⟩ := tail_one HO8.out HO9.out HB.out hown1 hg1 ⟨#[]⟩; clear hown1 hg1)
              | (at_builtin; refine wpList_append_own _ rfl (.tmp 127) (.tmp 129) 31 rfl w.heap.size 9 it (.string ⟨#[]⟩) 1 16 Try.underlying31 hit ht0 ht1 ht2 rfl (by decide) _ _ _ rfl (HT1.out.alloc _) ⟨w1.heap.size, 0, none⟩ 1 1 [.string ⟨#[]⟩] rfl rfl hnew2.out.1 hnew2.out.2 hc3.out hd4.out hd5.out ?_; intro v9' w2 hown2 hg2 _; obtain ⟨HW2, HN1, HB2⟩ := tail_two HW1.out HT1.out HB1.out hown2 hg2; clear hown2 hg2))
            go_roundg (len - (k + 1))
            case measure => omega
            case rel => exact ⟨k + 1, sk, true, by omega, rfl, by go_num, rfl, rfl, Lib.hid HX.out.1, hsk, by rw [HX.out.2.1]; exact HN1.out, by rw [HX.out.2.2]; exact HW2.out, HB2.out⟩
          · subst e1
            have HA := Lib.hid e3
            clear e3
            have HX := Lib.hid (step_next hst.out EZ.out HA.out)
            have hnew := Lib.hid (cell_one_new W (.int .u64 X) 22)
            have hc2 := Lib.hid (show ∀ u ∈ [Value.int .u64 X], u.oneCell' = true by simp [Value.oneCell'])
            have hc5 := Lib.hid (show w.heap.size ≤ (W.alloc (.cells #[.int .u64 X] 22)).heap.size by have := HB.out.size; simp; omega)
            go_wp2_with (first
              | (at_builtin; refine wpList_append_own _ rfl (.tmp 123) (.tmp 125) 30 rfl w.heap.size 22 iu (.int .u64 0) 1 8 Try.underlying30 hiu hu0 hu1 hu2 rfl (by decide) _ _ _ rfl (HO8.out.alloc _) ⟨W.heap.size, 0, none⟩ 1 1 [.int .u64 X] rfl rfl hnew.out hc2.out hc3.out hc4.out hc5.out ?_; intro v8' w1 hown1 hg1 _; obtain ⟨HW1, HT1, HB1, hnew2, hd5⟩ := tail_one HO8.out HO9.out HB.out hown1 hg1 Y; clear hown1 hg1)
              | (at_builtin; refine wpList_append_own _ rfl (.tmp 127) (.tmp 129) 31 rfl w.heap.size 9 it (.string ⟨#[]⟩) 1 16 Try.underlying31 hit ht0 ht1 ht2 rfl (by decide) _ _ _ rfl (HT1.out.alloc _) ⟨w1.heap.size, 0, none⟩ 1 1 [.string Y] rfl rfl hnew2.out.1 hnew2.out.2 hc3.out hd4.out hd5.out ?_; intro v9' w2 hown2 hg2 _; obtain ⟨HW2, HN1, HB2⟩ := tail_two HW1.out HT1.out HB1.out hown2 hg2; clear hown2 hg2))
            go_roundg (len - (k + 1))
            case measure => omega
            case rel => exact ⟨k + 1, (sk.extract K sk.size), false, by omega, rfl, by go_num, rfl, rfl, Lib.hid HX.out.1, by simp; omega, by rw [HX.out.2.1]; exact HN1.out, by rw [HX.out.2.2]; exact HW2.out, HB2.out⟩
        · have HA := Lib.hid (stepA_bad sk (kd, sz, bg))
          have HX := Lib.hid (step_next hst.out EZ.out HA.out)
          have hnew := Lib.hid (cell_one_new W (.int .u64 0) 22)
          have hc2 := Lib.hid (show ∀ u ∈ [Value.int .u64 0], u.oneCell' = true by simp [Value.oneCell'])
          have hc5 := Lib.hid (show w.heap.size ≤ (W.alloc (.cells #[.int .u64 0] 22)).heap.size by have := HB.out.size; simp; omega)
          go_wp2_with (first
            | (at_builtin; refine wpList_append_own _ rfl (.tmp 123) (.tmp 125) 30 rfl w.heap.size 22 iu (.int .u64 0) 1 8 Try.underlying30 hiu hu0 hu1 hu2 rfl (by decide) _ _ _ rfl (HO8.out.alloc _) ⟨W.heap.size, 0, none⟩ 1 1 [.int .u64 0] rfl rfl hnew.out hc2.out hc3.out hc4.out hc5.out ?_; intro v8' w1 hown1 hg1 _; obtain ⟨HW1, HT1, HB1, hnew2, hd5⟩ := tail_one HO8.out HO9.out HB.out hown1 hg1 ⟨#[]⟩; clear hown1 hg1)
            | (at_builtin; refine wpList_append_own _ rfl (.tmp 127) (.tmp 129) 31 rfl w.heap.size 9 it (.string ⟨#[]⟩) 1 16 Try.underlying31 hit ht0 ht1 ht2 rfl (by decide) _ _ _ rfl (HT1.out.alloc _) ⟨w1.heap.size, 0, none⟩ 1 1 [.string ⟨#[]⟩] rfl rfl hnew2.out.1 hnew2.out.2 hc3.out hd4.out hd5.out ?_; intro v9' w2 hown2 hg2 _; obtain ⟨HW2, HN1, HB2⟩ := tail_two HW1.out HT1.out HB1.out hown2 hg2; clear hown2 hg2))
          go_roundg (len - (k + 1))
          case measure => omega
          case rel => exact ⟨k + 1, sk, true, by omega, rfl, by go_num, rfl, rfl, Lib.hid HX.out.1, hsk, by rw [HX.out.2.1]; exact HN1.out, by rw [HX.out.2.2]; exact HW2.out, HB2.out⟩
    · obtain rfl : k = len := by omega
      have HO8 := Lib.hid ho8
      have HO9 := Lib.hid ho9
      have HB := Lib.hid hb
      clear ho8 ho9 hb
      go_wp2_with fail
      try simp only [Exit.inBlock, Exit.then]
      refine bodyPost_ret (results_tmp4 rfl _ _ _) rfl ?_
      refine ⟨_, _, ?_, HO8.out, HO9.out, HB.out⟩
      rw [hst.out]
      rfl
end Go.Proofs.Ytefkhekmhabeaaa
