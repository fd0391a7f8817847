/-
  The program's Find: a search that halves.
-/
import Derived.Test.YtplobffkelmokaaSet15
import Derived.Test.YtplobffkelmokaaSet16
import Derived.Deep.LoopGhost
namespace Go.Proofs.Ytplobffkelmokaa
open Go.RowKit
set_option linter.unusedVariables false
set_option linter.unnecessarySimpa false
set_option linter.unusedSimpArgs false
set_option maxRecDepth 100000

set_option maxHeartbeats 1000000 in
theorem cmpKey_any (K key : ByteArray) (c : Value) (w : World) :
    Calls Try.prog 38 #[.agg #[.string K, c], .string key] w fun e w' => e = .returned (.int .i64 (Lib.compareBytes K.data.toList key.data.toList)) ∧ Below w.heap.size w w' := by
  have hb0 := (Below.refl w.heap.size w).alloc (Nat.le_refl _) (.cells #[.string K, c] 48)
  have hr0 := heap_alloc_new w (.cells #[.string K, c] 48)
  obtain ⟨w1, hw1⟩ : ∃ w1, w1 = w.alloc (.cells #[.string K, c] 48) := ⟨_, rfl⟩
  rw [← hw1] at hb0 hr0
  obtain ⟨c0, c1⟩ := cells2 hr0
  have HB0 := Lib.hid hb0
  have HC := Lib.hid (Try.strings_Compare K key w1)
  obtain ⟨r, hr⟩ : ∃ r, r = Lib.compareBytes K.data.toList key.data.toList := ⟨_, rfl⟩
  rw [← hr] at HC ⊢
  clear hb0 hr0 hr
  go_enter Try.func38, Try.ntmps38
  go_upto_region 1 with fail
  rw [← hw1]
  clear hw1
  go_wp2_with (go_at_call 39; (with_reducible refine HC.out.mono ?_); rintro e w2 ⟨rfl, rfl⟩)
  go_ret
  exact ⟨rfl, HB0.out⟩

theorem lt_step {es : List En} (hr : rightE es = true) {i : Nat} (hi : i + 1 < es.length) : ltS (es.getD i en0).key (es.getD (i + 1) en0).key = true := by
  have h := rightE_true.1 hr (i + 1) hi
  unfold entOk at h
  simp only [Bool.and_eq_true] at h
  have h2 := h.2
  rw [Nat.add_sub_cancel, decide_eq_false (by omega), Bool.false_or] at h2
  unfold ltS eqS at h2
  rw [lb_not] at h2
  exact h2
theorem lt_mono {es : List En} (hr : rightE es = true) (key : ByteArray) : ∀ d a, a + d < es.length → ltS (es.getD (a + d) en0).key key = true → ltS (es.getD a en0).key key = true := by
  intro d
  induction d with
  | zero => intro a _ h; exact h
  | succ d ih =>
    intro a ha h
    refine ih a (by omega) ?_
    exact lb_trans _ _ _ (lt_step hr (i := a + d) (by omega)) h
theorem fAt_is {es : List En} {key : ByteArray} {i : Nat} (hi : i ≤ es.length) (h1 : ∀ j, j < i → ltS (es.getD j en0).key key = true) (h2 : i < es.length → ltS (es.getD i en0).key key = false) : fAt es key = i := by
  rcases Nat.lt_trichotomy (fAt es key) i with h | h | h
  · have a1 := h1 _ h
    have a2 := fAt_end es key (by omega)
    rw [a1] at a2; cases a2
  · exact h
  · have a1 := fAt_lt es key i h
    have := fAt_le es key
    rw [h2 (by omega)] at a1; cases a1

set_option maxHeartbeats 4000000 in
theorem bfind_any (a : Option Addr) (len cap : Nat) (es : List En) (key : ByteArray) (w : World) (hz : IsEnts w a len cap es) (hl : len ≤ 1000000) (hr : rightE es = true) :
    Calls Try.prog 37 #[.slice a len cap, .string key, .func (.func 38) #[] #[]] w fun e w' => e = .returned (.tuple #[.int .i64 (fAt es key), .bool (fOk es key)]) ∧ Below w.heap.size w w' := by
  have HZ := Lib.hid hz
  have hel := Lib.hid hz.1.1
  have HM := Lib.hid (fun x d => lt_mono hr key d x)
  have HC := Lib.hid (fun K c W => cmpKey_any K key c W)
  clear hz hr
  go_enter Try.func37, Try.ntmps37
  go_wp2_with fail
  go_loopg [9, 10] len (fun g s9 s10 wx => ∃ lo hi : Nat, s9 = .int .i64 lo ∧ s10 = .int .i64 hi ∧ lo ≤ hi ∧ hi ≤ len ∧ hi - lo ≤ g ∧ Hid (∀ j, j < lo → ltS (es.getD j en0).key key = true) ∧ Hid (hi < len → ltS (es.getD hi en0).key key = false) ∧ Hid (Below w.heap.size w wx))
  case atStart => exact ⟨0, len, rfl, rfl, by omega, by omega, by omega, Lib.hid (fun j h => absurd h (by omega)), Lib.hid (fun h1 => absurd h1 (by omega)), Lib.hid (Below.refl _ _)⟩
  case round =>
    obtain ⟨lo, hi, rfl, rfl, hlh, hin, hg, hlo, hhi, hb⟩ := hrel
    by_cases hlt : lo < hi
    · have hltz : (lo : Int) < (hi : Int) := by omega
      obtain ⟨m, hm⟩ : ∃ m, m = (lo + hi) / 2 := ⟨_, rfl⟩
      have hmz : ((lo : Int) + (hi : Int)) / 2 = (m : Int) := by omega
      have hm1 : lo ≤ m := by omega
      have hm2 : m < hi := by omega
      have hm3 : (m : Int) < (len : Int) := by omega
      have hm4 : m < len := by omega
      obtain ⟨b, off, rfl, hbl, hkm, k0, ca, cl, cc, k1, hv⟩ := (HZ.out.below hb.out).1.2 m hm4
      obtain ⟨K, hK⟩ : ∃ K, K = (es.getD m en0).key := ⟨_, rfl⟩
      rw [← hK] at k0
      have HK := Lib.hid (HC.out K (.slice ca cl cc) wr)
      have hcn := cmp_neg K.data.toList key.data.toList
      have hlts : ltS K key = Op.bytesLess K.data.toList key.data.toList := by unfold ltS; rw [Lib.toList_data, Lib.toList_data]
      rw [← hlts] at hcn
      obtain ⟨r, hrr⟩ : ∃ r, r = Lib.compareBytes K.data.toList key.data.toList := ⟨_, rfl⟩
      rw [← hrr] at HK hcn
      cases hp : ltS K key with
      | true =>
        rw [hp] at hcn
        have HL := Lib.hid (show ∀ j, j < m + 1 → ltS (es.getD j en0).key key = true from fun j hj => by
          refine HM.out j (m - j) (by rw [hel.out]; omega) ?_
          rw [show j + (m - j) = m by omega, ← hK]; exact hp)
        have hr0 : r < 0 := by simpa using hcn
        clear hp hm hlo hK hrr hcn hlts hkm hv
        go_wp2_with (go_at_call 38; (with_reducible refine HK.out.mono ?_); rintro e w1 ⟨rfl, hb1⟩; have HB1 := Lib.hid (hb.out.trans (hb1.mono hb.out.size)))
        go_roundg (hi - (m + 1))
        case measure => omega
        case rel => exact ⟨m + 1, hi, by go_num, rfl, by omega, hin, by omega, HL, hhi, HB1⟩
      | false =>
        rw [hp] at hcn
        have HL := Lib.hid (show m < len → ltS (es.getD m en0).key key = false from fun _ => by rw [← hK]; exact hp)
        have hr0 : ¬ r < 0 := by simpa using hcn
        clear hp hm hhi hK hrr hcn hlts hkm hv
        go_wp2_with (go_at_call 38; (with_reducible refine HK.out.mono ?_); rintro e w1 ⟨rfl, hb1⟩; have HB1 := Lib.hid (hb.out.trans (hb1.mono hb.out.size)))
        go_roundg (m - lo)
        case measure => omega
        case rel => exact ⟨lo, m, rfl, by go_num, by omega, by omega, by omega, hlo, HL, HB1⟩
    · obtain rfl : lo = hi := by omega
      have hltz : ¬ (lo : Int) < (lo : Int) := by omega
      have hF := Lib.hid (fAt_is (by rw [hel.out]; exact hin) hlo.out (by rw [hel.out]; exact hhi.out))
      have hO := Lib.hid (show fOk es key = (decide (lo < len) && eqS (es.getD lo en0).key key) by unfold fOk; rw [hF.out, hel.out])
      by_cases hll : lo < len
      · have hllz : (lo : Int) < (len : Int) := by omega
        obtain ⟨b, off, rfl, hbl, hkm, k0, ca, cl, cc, k1, hv⟩ := (HZ.out.below hb.out).1.2 lo hll
        obtain ⟨K, hK⟩ : ∃ K, K = (es.getD lo en0).key := ⟨_, rfl⟩
        rw [← hK] at k0 hO
        have HK := Lib.hid (HC.out K (.slice ca cl cc) wr)
        have hcz := cmp_zero K.data.toList key.data.toList
        have heqs : eqS K key = (K.data.toList == key.data.toList) := by unfold eqS; rw [Lib.toList_data, Lib.toList_data]
        rw [← heqs] at hcz
        obtain ⟨r, hrr⟩ : ∃ r, r = Lib.compareBytes K.data.toList key.data.toList := ⟨_, rfl⟩
        rw [← hrr] at HK hcz
        have HO := Lib.hid (show fOk es key = (r == 0) by rw [hO.out, hcz, decide_eq_true hll, Bool.true_and])
        clear hK hrr hcz heqs hkm hv hO hll
        go_wp2_with (go_at_call 38; (with_reducible refine HK.out.mono ?_); rintro e w1 ⟨rfl, hb1⟩; have HB1 := Lib.hid (hb.out.trans (hb1.mono hb.out.size)))
        go_ret2
        exact ⟨by rw [hF.out, HO.out]; rfl, HB1.out⟩
      · have hllz : ¬ (lo : Int) < (len : Int) := by omega
        have HO := Lib.hid (show fOk es key = false by rw [hO.out, decide_eq_false hll, Bool.false_and])
        clear hO
        go_wp2_with fail
        go_ret2
        exact ⟨by rw [hF.out, HO.out]; rfl, hb.out⟩

set_option maxHeartbeats 1000000 in
theorem find_any (a : Option Addr) (len cap : Nat) (es : List En) (key : ByteArray) (w : World) (hz : IsEnts w a len cap es) (hl : len ≤ 1000000) (hr : rightE es = true) :
    Calls Try.prog 19 #[.slice a len cap, .string key] w fun e w' => e = .returned (.tuple #[.int .i64 (fAt es key), .bool (fOk es key)]) ∧ Below w.heap.size w w' := by
  have H := Lib.hid (bfind_any a len cap es key w hz hl hr)
  clear hz
  obtain ⟨n, hn⟩ : ∃ n : Nat, n = fAt es key := ⟨_, rfl⟩
  obtain ⟨o, ho⟩ : ∃ o, o = fOk es key := ⟨_, rfl⟩
  rw [← hn, ← ho] at H ⊢
  clear hn ho hr
  go_enter Try.func19, Try.ntmps19
  go_wp2_with (go_at_call 37; (with_reducible refine H.out.mono ?_); rintro e w1 ⟨rfl, hb1⟩)
  go_ret2
  exact ⟨rfl, hb1⟩
end Go.Proofs.Ytplobffkelmokaa
