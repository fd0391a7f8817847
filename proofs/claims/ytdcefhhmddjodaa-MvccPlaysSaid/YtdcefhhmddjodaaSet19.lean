/-
  Joined: FixedB, BlkPSmall, BlkPFind.
-/
import Derived.Test.YtdcefhhmddjodaaSet01
import Derived.Test.YtdcefhhmddjodaaSet15
import Derived.Test.YtdcefhhmddjodaaSet16
import Derived.BigQuiet
import Derived.Test.YtdcefhhmddjodaaSet17
import Derived.Test.YtdcefhhmddjodaaShelf
import Derived.Deep.LoopGhost
namespace Go.Proofs.Ytdcefhhmddjodaa
open Go.RowKit
set_option linter.unnecessarySimpa false
set_option linter.unusedVariables false
set_option linter.unusedSimpArgs false
set_option maxRecDepth 100000

set_option maxHeartbeats 800000 in
theorem isSize_yes (n : Int) (w : World) (h : 1 ≤ n ∧ n ≤ 8) : Calls Try.prog 69 #[.int .i64 n] w fun e w' => e = .returned (.bool true) ∧ w = w' := by
  obtain ⟨h1, h2⟩ := h
  go_enter Try.func69, Try.ntmps69
  go_wp2
  go_ret
  exact ⟨rfl, rfl⟩

set_option maxHeartbeats 800000 in
theorem isSize_no (n : Int) (w : World) (h : n < 1 ∨ 8 < n) : Calls Try.prog 69 #[.int .i64 n] w fun e w' => e = .returned (.bool false) ∧ w = w' := by
  rcases h with h | h
  · have h1 : ¬ 1 ≤ n := by omega
    go_enter Try.func69, Try.ntmps69
    go_wp2
    go_ret
    exact ⟨rfl, rfl⟩
  · have h1 : 1 ≤ n := by omega
    have h2 : ¬ n ≤ 8 := by omega
    go_enter Try.func69, Try.ntmps69
    go_wp2
    go_ret
    exact ⟨rfl, rfl⟩

set_option maxHeartbeats 800000 in
theorem place_little (i size : Nat) (w : World) (h1 : i < size) (h2 : size ≤ 8) : Calls Try.prog 70 #[.int .i64 i, .int .i64 size, .bool false] w fun e w' => e = .returned (.int .u64 (8 * (i : Int))) ∧ w = w' := by
  go_enter Try.func70, Try.ntmps70
  go_wp2
  go_ret
  exact ⟨rfl, rfl⟩

set_option maxHeartbeats 800000 in
theorem place_big (i size : Nat) (w : World) (h1 : i < size) (h2 : size ≤ 8) : Calls Try.prog 70 #[.int .i64 i, .int .i64 size, .bool true] w fun e w' => e = .returned (.int .u64 (8 * ((size - 1 - i : Nat) : Int))) ∧ w = w' := by
  go_enter Try.func70, Try.ntmps70
  go_wp2
  go_ret
  exact ⟨ret_int (by omega), rfl⟩

theorem place_any (i size : Nat) (big : Bool) (w : World) (h1 : i < size) (h2 : size ≤ 8) : Calls Try.prog 70 #[.int .i64 i, .int .i64 size, .bool big] w fun e w' => e = .returned (.int .u64 (8 * ((pl size big i : Nat) : Int))) ∧ w = w' := by
  cases big
  · exact place_little i size w h1 h2
  · exact place_big i size w h1 h2

theorem fixed_none (n : Nat) (size : Int) (big : Bool) (w : World) (h : size < 1 ∨ 8 < size) :
    Calls Try.prog 54 #[.int .u64 n, .int .i64 size, .bool big] w fun e w' => e = .returned (.string ⟨#[]⟩) ∧ w = w' := by
  go_enter Try.func54, Try.ntmps54
  go_wp2_with (go_at_call 69; refine (isSize_no _ _ h).mono ?_; rintro e w' ⟨rfl, rfl⟩)
  go_ret
  exact ⟨rfl, rfl⟩

set_option maxHeartbeats 800000 in
theorem fixed_any (n size : Nat) (big : Bool) (w : World) (h1 : 1 ≤ size) (h2 : size ≤ 8) :
    Calls Try.prog 54 #[.int .u64 n, .int .i64 size, .bool big] w fun e w' => e = .returned (.string ⟨(fx n size big).toArray⟩) ∧ Below w.heap.size w w' := by
  obtain ⟨i0, hi, hz0, hz1, hz2⟩ := info_parts u8info
  go_enter Try.func54, Try.ntmps54
  go_wp2_with (first | (go_at_call 69; refine (isSize_yes _ _ (by omega)).mono ?_; rintro e w' ⟨rfl, rfl⟩) | (at_make; refine wpList_make_full _ rfl _ _ 70 rfl w.heap.size 5 i0 (.int .u8 0) 1 Try.underlying70 hi hz0 hz1 _ _ _ _ size rfl rfl rfl rfl ?c1 ?c2 ?c3 ?c4))
  case c1 => rw [hz2]; omega
  case c2 => simp [maxLen]; omega
  case c3 => exact Nat.le_refl _
  case c4 =>
    intro w1 hown1 hg1
    rw [zeros_cellsF] at hown1
    have hb1 : Below w.heap.size w w1 := (Below.refl _ _).grown hg1 (Nat.le_refl _) (by simp)
    clear hg1
    go_wp2_with fail
    go_loopw [8, 16] (fun _ t wr => ∃ (k : Nat), k ≤ size ∧ t = .int .i64 k ∧ wr.ownsRow w.heap.size 5 1 (.slice (some ⟨w.heap.size, 0, none⟩) size size) size (Lib.byteCells (cellsF size fun j => if j < k then fxAt n size big j else 0)) ∧ Below w.heap.size w wr) (fun _ t _ => size - (intOf t).toNat)
    case atStart => exact ⟨0, Nat.zero_le _, rfl, by simpa using hown1, hb1⟩
    case round =>
      obtain ⟨k, hk, rfl, hown, hb⟩ := hrel
      by_cases hlt : k < size
      · have hfz := hown.frozenAt k
        have hcl := hown.cellAt k (by omega)
        have hpl := pl_lt big hlt
        have hgl : (Lib.byteCells (cellsF size fun j => if j < k then fxAt n size big j else 0))[k]? = some (.int .u8 0) := by simp [Lib.byteCells, cellsF, hlt]
        rw [hgl] at hcl
        clear hgl
        go_wp2_with (go_at_call 70; refine (place_any k size big _ hlt h2).mono ?_; rintro e w' ⟨rfl, rfl⟩)
        have hst := hown.stored k (.int .u8 ((n : Int) / 2 ^ (8 * pl size big k) % 256))
        refine ⟨⟨k + 1, by omega, by go_num, ?_, hb.setCell (Nat.le_refl _) _⟩, by simp [intOf]; omega⟩
        have h3 := hst.1
        rw [fxAt_shift, cellsF_next (P := fun j => j < k) (P' := fun j => j < k + 1) (p := k) (g := fxAt n size big) (fun j _ => by omega)] at h3
        rw [fxAt_shift]
        exact h3
      · have hcv := convert_own (P := Try.prog) (src := 70) (dst := 9) hown (by simp) Try.underlying70 Try.underlying5 Try.underlying9
        have hfin : (cellsF size fun j => if j < k then fxAt n size big j else 0) = fx n size big := cellsF_congr fun j hj => by rw [if_pos (by omega)]
        rw [hfin] at hcv
        clear hfin
        go_wp2_with fail
        go_ret
        exact ⟨rfl, hb⟩
end Go.Proofs.Ytdcefhhmddjodaa

namespace Go.Proofs.Ytdcefhhmddjodaa
open Go.RowKit
set_option linter.unusedVariables false
set_option linter.unnecessarySimpa false
set_option linter.unusedSimpArgs false
set_option maxRecDepth 100000

set_option maxHeartbeats 4000000 in
theorem bshared_any (v b : ByteArray) (hv : v.size ≤ 1000000000) (hb : b.size ≤ 1000000000) (w : World) :
    Calls Try.prog 84 #[.string v, .string b] w fun e w' => e = .returned (.int .i64 (pre b.data.toList v.data.toList : Nat)) ∧ ∃ n, w' = w.drewN n := by
  have HA := fun i => head_at (b := b.data.toList) (v := v.data.toList) (i := i)
  have HE := head_end (b := b.data.toList) (v := v.data.toList)
  have hle := pre_le b.data.toList v.data.toList
  rw [c_size, c_size] at hle HE
  simp only [show headN b.data.toList v.data.toList = pre b.data.toList v.data.toList from rfl] at HA HE
  obtain ⟨H, hH⟩ : ∃ H, H = pre b.data.toList v.data.toList := ⟨_, rfl⟩
  simp only [← hH] at HA HE hle ⊢
  replace HA := Lib.hid HA
  replace HE := Lib.hid HE
  clear hH
  go_enter Try.func84, Try.ntmps84
  go_wp2_with fail
  go_loopg [5] H (fun g s5 wx => ∃ i : Nat, i + g = H ∧ s5 = .int .i64 i ∧ ∃ n, wx = w.drewN n)
  case atStart => exact ⟨0, by omega, rfl, 0, rfl⟩
  case round =>
    obtain ⟨i, hig, rfl, n1, rfl⟩ := hrel
    cases gk with
    | succ g =>
      have i1 : i < v.size := by omega
      have i2 : i < b.size := by omega
      have i3 : (i : Int) < (v.size : Int) := by omega
      have i4 : (i : Int) < (b.size : Int) := by omega
      have hi := HA.out i (by omega)
      rw [ba_getD v i i1, ba_getD b i i2] at hi
      obtain ⟨x, hx⟩ : ∃ x : Nat, v[i].toNat = x := ⟨_, rfl⟩
      have hy : b[i].toNat = x := by rw [← hi]; exact hx
      have hd : decide ((i : Int) < (v.size : Int)) = true := by simpa using i3
      have hd2 : decide ((i : Int) < (b.size : Int)) = true := by simpa using i4
      clear hi
      go_wp2_with fail
      go_quiet (fail)
      go_wp2_with fail
      go_roundg g
      case measure => omega
      case rel => exact ⟨i + 1, by omega, by go_num, _, rfl⟩
    | zero =>
      obtain rfl : i = H := by omega
      rcases Nat.lt_or_ge i v.size with i1 | i1
      · have i3 : (i : Int) < (v.size : Int) := by omega
        have hd : decide ((i : Int) < (v.size : Int)) = true := by simpa using i3
        rcases Nat.lt_or_ge i b.size with i2 | i2
        · have i4 : (i : Int) < (b.size : Int) := by omega
          have hd2 : decide ((i : Int) < (b.size : Int)) = true := by simpa using i4
          have hi := HE.out (by omega) (by omega)
          rw [ba_getD v i i1, ba_getD b i i2] at hi
          obtain ⟨x, hx⟩ : ∃ x : Nat, v[i].toNat = x := ⟨_, rfl⟩
          obtain ⟨y, hy⟩ : ∃ y : Nat, b[i].toNat = y := ⟨_, rfl⟩
          have hxy : ((x : Int) == (y : Int)) = false := by
            rw [beq_eq_false_iff_ne]
            intro e
            exact hi (UInt8.toNat_inj.1 (by rw [hx, hy]; omega))
          clear hi
          go_wp2_with fail
          go_quiet (fail)
          go_wp2_with fail
          go_ret
          exact ⟨rfl, n1 + nq, by rw [World.drewN_drewN]⟩
        · have i4 : ¬ (i : Int) < (b.size : Int) := by omega
          have hd2 : decide ((i : Int) < (b.size : Int)) = false := by simpa using i4
          have hd3 : decide (i < b.size) = false := by simp; omega
          go_wp2_with fail
          go_quiet (fail)
          go_wp2_with fail
          go_ret
          exact ⟨rfl, n1 + nq, by rw [World.drewN_drewN]⟩
      · have i3 : ¬ (i : Int) < (v.size : Int) := by omega
        have hd : decide ((i : Int) < (v.size : Int)) = false := by simpa using i3
        have hd3 : decide (i < v.size) = false := by simp; omega
        go_wp2_with fail
        go_quiet (fail)
        go_wp2_with fail
        go_ret
        exact ⟨rfl, n1 + nq, by rw [World.drewN_drewN]⟩

theorem ents_take {w : World} {a : Option Addr} {len cap : Nat} {es : List En} (h : IsEnts w a len cap es) {i : Nat} (hi : i ≤ len) : IsEnts w a i cap (es.take i) := by
  have hl := h.1.1
  refine ⟨⟨by rw [List.length_take]; omega, fun j hj => ?_⟩, by have := h.2.1; omega, by have := h.2.2; omega⟩
  obtain ⟨b, off, ha, he⟩ := h.1.2 j (by omega)
  refine ⟨b, off, ha, ?_⟩
  have : (es.take i).getD j en0 = es.getD j en0 := by simp only [List.getD, List.getElem?_take, if_pos hj]
  rw [this]
  exact he

set_option maxHeartbeats 1000000 in
theorem blast_any (a : Option Addr) (len cap : Nat) (es : List En) (w : World) (hz : IsEnts w a len cap es) :
    Calls Try.prog 85 #[.slice a len cap] w fun e w' => e = .returned (.string (lastS es)) ∧ w = w' := by
  have hlm := hz.2.1
  unfold maxLen at hlm
  have hel := hz.1.1
  rcases Nat.eq_zero_or_pos len with rfl | h0
  · have he := Lib.hid (show lastS es = ⟨#[]⟩ by rw [List.eq_nil_of_length_eq_zero hel]; rfl)
    clear hz hel
    go_enter Try.func85, Try.ntmps85
    go_wp2_with fail
    go_ret
    exact ⟨by rw [he.out]; rfl, rfl⟩
  · obtain ⟨b, off, rfl, hbl, hm, k0, _⟩ := hz.1.2 (len - 1) (by omega)
    have he := Lib.hid (show lastS es = (es.getD (len - 1) en0).key by unfold lastS; rw [hel])
    obtain ⟨K, hK⟩ : ∃ K, K = (es.getD (len - 1) en0).key := ⟨_, rfl⟩
    rw [← hK] at he k0
    obtain ⟨j, hj⟩ : ∃ j, j = len - 1 := ⟨_, rfl⟩
    rw [← hj] at k0
    have h1 : (len : Int) - 1 = (j : Int) := by omega
    have h2 : ((len : Int) == 0) = false := by rw [beq_eq_false_iff_ne]; omega
    have h3 : (j : Int) < (len : Int) := by omega
    have h4 : (0 : Int) ≤ (j : Int) := by omega
    have h5 : j < len := by omega
    clear hz hel hK hj
    go_enter Try.func85, Try.ntmps85
    go_wp2_with fail
    go_ret
    exact ⟨by rw [he.out]; rfl, rfl⟩

set_option maxHeartbeats 1000000 in
theorem brises_any (key : ByteArray) (a : Option Addr) (len cap : Nat) (es : List En) (w : World) (hz : IsEnts w a len cap es) :
    Calls Try.prog 82 #[.string key, .slice a len cap] w fun e w' => e = .returned (.bool (risesS es key)) ∧ w = w' := by
  have hlm := hz.2.1
  unfold maxLen at hlm
  have hel := hz.1.1
  have HL := Lib.hid (blast_any a len cap es w hz)
  rcases Nat.eq_zero_or_pos len with rfl | h0
  · have he := Lib.hid (show risesS es key = true by unfold risesS; rw [hel]; rfl)
    clear hz hel
    go_enter Try.func82, Try.ntmps82
    go_wp2_with fail
    go_ret
    exact ⟨by rw [he.out]; rfl, rfl⟩
  · have he := Lib.hid (show risesS es key = ltS (lastS es) key by unfold risesS; rw [hel, decide_eq_false (by omega)]; rfl)
    have h2 : ((len : Int) == 0) = false := by rw [beq_eq_false_iff_ne]; omega
    obtain ⟨K, hK⟩ : ∃ K, K = lastS es := ⟨_, rfl⟩
    rw [← hK] at he HL
    clear hz hel hK
    go_enter Try.func82, Try.ntmps82
    go_wp2_with (go_at_call 85; (with_reducible refine HL.out.mono ?_); rintro e w1 ⟨rfl, rfl⟩)
    go_ret
    exact ⟨by rw [he.out]; rfl, rfl⟩

set_option maxHeartbeats 1000000 in
theorem sumOf_any (p : ByteArray) (hp : p.size < 4000000000) (w : World) :
    Calls Try.prog 38 #[.agg tab, .string p] w fun e w' => e = .returned (.string ⟨(sumS p).toArray⟩) ∧ Below w.heap.size w w' := by
  have hs := Lib.hid (sum_any p hp)
  have hlt : sumB p.data.toList < 4294967296 := by unfold sumB; omega
  have hf := Lib.hid (show ∀ W, Calls Try.prog 54 #[.int .u64 (sumB p.data.toList : Nat), .int .i64 4, .bool true] W fun e w' => e = .returned (.string ⟨(fx (sumB p.data.toList) 4 true).toArray⟩) ∧ Below W.heap.size W w' from fun W => fixed_any (sumB p.data.toList) 4 true W (by decide) (by decide))
  unfold sumS
  obtain ⟨m, hm⟩ : ∃ m, m = sumB p.data.toList := ⟨_, rfl⟩
  rw [← hm] at hs hlt hf ⊢
  have hmz : (m : Int) % 18446744073709551616 = (m : Int) := by omega
  have hb0 := (Below.refl w.heap.size w).alloc (Nat.le_refl _) (.cells tab 55)
  have hr0 := heap_alloc_new w (.cells tab 55)
  obtain ⟨w1, hw1⟩ : ∃ w1, w1 = w.alloc (.cells tab 55) := ⟨_, rfl⟩
  rw [← hw1] at hb0 hr0
  have HB0 := Lib.hid hb0
  have HR0 := Lib.hid hr0
  have his := Lib.hid tableSize
  clear hm hp hb0 hr0
  go_enter Try.func38, Try.ntmps38
  go_upto_region 1 with fail
  rw [← hw1]
  clear hw1
  go_wp2_with (first
    | (refine wpList_load_row rfl 55 _ rfl w.heap.size rfl 55 tab (0, 0) _ HR0.out Try.underlying55 rfl his.out ?_; dsimp only [Act.put])
    | (go_at_call 55; (with_reducible refine (hs.out _).mono ?_); rintro e w2 ⟨rfl, hb2⟩)
    | (go_at_call 54; (with_reducible refine (hf.out _).mono ?_); rintro e w3 ⟨rfl, hb3⟩))
  go_ret
  have h2 := HB0.out.trans (hb2.mono HB0.out.size)
  exact ⟨rfl, h2.trans (hb3.mono h2.size)⟩
end Go.Proofs.Ytdcefhhmddjodaa

namespace Go.Proofs.Ytdcefhhmddjodaa
open Go.RowKit
set_option linter.unusedVariables false
set_option linter.unnecessarySimpa false
set_option linter.unusedSimpArgs false
set_option maxRecDepth 100000

set_option maxHeartbeats 1000000 in
theorem cmpKey_any (K key : ByteArray) (c : Value) (w : World) :
    Calls Try.prog 51 #[.agg #[.string K, c], .string key] w fun e w' => e = .returned (.int .i64 (Lib.compareBytes K.data.toList key.data.toList)) ∧ Below w.heap.size w w' := by
  have hb0 := (Below.refl w.heap.size w).alloc (Nat.le_refl _) (.cells #[.string K, c] 73)
  have hr0 := heap_alloc_new w (.cells #[.string K, c] 73)
  obtain ⟨w1, hw1⟩ : ∃ w1, w1 = w.alloc (.cells #[.string K, c] 73) := ⟨_, rfl⟩
  rw [← hw1] at hb0 hr0
  obtain ⟨c0, c1⟩ := cells2 hr0
  have HB0 := Lib.hid hb0
  have HC := Lib.hid (Try.strings_Compare K key w1)
  obtain ⟨r, hr⟩ : ∃ r, r = Lib.compareBytes K.data.toList key.data.toList := ⟨_, rfl⟩
  rw [← hr] at HC ⊢
  clear hb0 hr0 hr
  go_enter Try.func51, Try.ntmps51
  go_upto_region 1 with fail
  rw [← hw1]
  clear hw1
  go_wp2_with (go_at_call 52; (with_reducible refine HC.out.mono ?_); rintro e w2 ⟨rfl, rfl⟩)
  go_ret
  exact ⟨rfl, HB0.out⟩

theorem lt_step {es : List En} (hr : rightE es = true) {i : Nat} (hi : i + 1 < es.length) : ltS (es.getD i en0).key (es.getD (i + 1) en0).key = true := by
  have h := rightE_true.1 hr (i + 1) hi
  unfold entOk at h
  simp only [Bool.and_eq_true] at h
  have h2 := h.2
  rw [Nat.add_sub_cancel, decide_eq_false (by omega), Bool.false_or] at h2
  unfold ltS eqS at h2
  rw [lb_not] at h2
  exact h2
theorem lt_mono {es : List En} (hr : rightE es = true) (key : ByteArray) : ∀ d a, a + d < es.length → ltS (es.getD (a + d) en0).key key = true → ltS (es.getD a en0).key key = true := by
  intro d
  induction d with
  | zero => intro a _ h; exact h
  | succ d ih =>
    intro a ha h
    refine ih a (by omega) ?_
    exact lb_trans _ _ _ (lt_step hr (i := a + d) (by omega)) h
theorem fAt_is {es : List En} {key : ByteArray} {i : Nat} (hi : i ≤ es.length) (h1 : ∀ j, j < i → ltS (es.getD j en0).key key = true) (h2 : i < es.length → ltS (es.getD i en0).key key = false) : fAt es key = i := by
  rcases Nat.lt_trichotomy (fAt es key) i with h | h | h
  · have a1 := h1 _ h
    have a2 := fAt_end es key (by omega)
    rw [a1] at a2; cases a2
  · exact h
  · have a1 := fAt_lt es key i h
    have := fAt_le es key
    rw [h2 (by omega)] at a1; cases a1

set_option maxHeartbeats 4000000 in
theorem bfind_any (a : Option Addr) (len cap : Nat) (es : List En) (key : ByteArray) (w : World) (hz : IsEnts w a len cap es) (hl : len ≤ 1000000) (hr : rightE es = true) :
    Calls Try.prog 50 #[.slice a len cap, .string key, .func (.func 51) #[] #[]] w fun e w' => e = .returned (.tuple #[.int .i64 (fAt es key), .bool (fOk es key)]) ∧ Below w.heap.size w w' := by
  have HZ := Lib.hid hz
  have hel := Lib.hid hz.1.1
  have HM := Lib.hid (fun x d => lt_mono hr key d x)
  have HC := Lib.hid (fun K c W => cmpKey_any K key c W)
  clear hz hr
  go_enter Try.func50, Try.ntmps50
  go_wp2_with fail
  go_loopg [9, 10] len (fun g s9 s10 wx => ∃ lo hi : Nat, s9 = .int .i64 lo ∧ s10 = .int .i64 hi ∧ lo ≤ hi ∧ hi ≤ len ∧ hi - lo ≤ g ∧ Hid (∀ j, j < lo → ltS (es.getD j en0).key key = true) ∧ Hid (hi < len → ltS (es.getD hi en0).key key = false) ∧ Hid (Below w.heap.size w wx))
  case atStart => exact ⟨0, len, rfl, rfl, by omega, by omega, by omega, Lib.hid (fun j h => absurd h (by omega)), Lib.hid (fun h1 => absurd h1 (by omega)), Lib.hid (Below.refl _ _)⟩
  case round =>
    obtain ⟨lo, hi, rfl, rfl, hlh, hin, hg, hlo, hhi, hb⟩ := hrel
    by_cases hlt : lo < hi
    · have hltz : (lo : Int) < (hi : Int) := by omega
      obtain ⟨m, hm⟩ : ∃ m, m = (lo + hi) / 2 := ⟨_, rfl⟩
      have hmz : ((lo : Int) + (hi : Int)) / 2 = (m : Int) := by omega
      have hm1 : lo ≤ m := by omega
      have hm2 : m < hi := by omega
      have hm3 : (m : Int) < (len : Int) := by omega
      have hm4 : m < len := by omega
      obtain ⟨b, off, rfl, hbl, hkm, k0, ca, cl, cc, k1, hv⟩ := (HZ.out.below hb.out).1.2 m hm4
      obtain ⟨K, hK⟩ : ∃ K, K = (es.getD m en0).key := ⟨_, rfl⟩
      rw [← hK] at k0
      have HK := Lib.hid (HC.out K (.slice ca cl cc) wr)
      have hcn := cmp_neg K.data.toList key.data.toList
      have hlts : ltS K key = Op.bytesLess K.data.toList key.data.toList := by unfold ltS; rw [Lib.toList_data, Lib.toList_data]
      rw [← hlts] at hcn
      obtain ⟨r, hrr⟩ : ∃ r, r = Lib.compareBytes K.data.toList key.data.toList := ⟨_, rfl⟩
      rw [← hrr] at HK hcn
      cases hp : ltS K key with
      | true =>
        rw [hp] at hcn
        have HL := Lib.hid (show ∀ j, j < m + 1 → ltS (es.getD j en0).key key = true from fun j hj => by
          refine HM.out j (m - j) (by rw [hel.out]; omega) ?_
          rw [show j + (m - j) = m by omega, ← hK]; exact hp)
        have hr0 : r < 0 := by simpa using hcn
        clear hp hm hlo hK hrr hcn hlts hkm hv
        go_wp2_with (go_at_call 51; (with_reducible refine HK.out.mono ?_); rintro e w1 ⟨rfl, hb1⟩; have HB1 := Lib.hid (hb.out.trans (hb1.mono hb.out.size)))
        go_roundg (hi - (m + 1))
        case measure => omega
        case rel => exact ⟨m + 1, hi, by go_num, rfl, by omega, hin, by omega, HL, hhi, HB1⟩
      | false =>
        rw [hp] at hcn
        have HL := Lib.hid (show m < len → ltS (es.getD m en0).key key = false from fun _ => by rw [← hK]; exact hp)
        have hr0 : ¬ r < 0 := by simpa using hcn
        clear hp hm hhi hK hrr hcn hlts hkm hv
        go_wp2_with (go_at_call 51; (with_reducible refine HK.out.mono ?_); rintro e w1 ⟨rfl, hb1⟩; have HB1 := Lib.hid (hb.out.trans (hb1.mono hb.out.size)))
        go_roundg (m - lo)
        case measure => omega
        case rel => exact ⟨lo, m, rfl, by go_num, by omega, by omega, by omega, hlo, HL, HB1⟩
    · obtain rfl : lo = hi := by omega
      have hltz : ¬ (lo : Int) < (lo : Int) := by omega
      have hF := Lib.hid (fAt_is (by rw [hel.out]; exact hin) hlo.out (by rw [hel.out]; exact hhi.out))
      have hO := Lib.hid (show fOk es key = (decide (lo < len) && eqS (es.getD lo en0).key key) by unfold fOk; rw [hF.out, hel.out])
      by_cases hll : lo < len
      · have hllz : (lo : Int) < (len : Int) := by omega
        obtain ⟨b, off, rfl, hbl, hkm, k0, ca, cl, cc, k1, hv⟩ := (HZ.out.below hb.out).1.2 lo hll
        obtain ⟨K, hK⟩ : ∃ K, K = (es.getD lo en0).key := ⟨_, rfl⟩
        rw [← hK] at k0 hO
        have HK := Lib.hid (HC.out K (.slice ca cl cc) wr)
        have hcz := cmp_zero K.data.toList key.data.toList
        have heqs : eqS K key = (K.data.toList == key.data.toList) := by unfold eqS; rw [Lib.toList_data, Lib.toList_data]
        rw [← heqs] at hcz
        obtain ⟨r, hrr⟩ : ∃ r, r = Lib.compareBytes K.data.toList key.data.toList := ⟨_, rfl⟩
        rw [← hrr] at HK hcz
        have HO := Lib.hid (show fOk es key = (r == 0) by rw [hO.out, hcz, decide_eq_true hll, Bool.true_and])
        clear hK hrr hcz heqs hkm hv hO hll
        go_wp2_with (go_at_call 51; (with_reducible refine HK.out.mono ?_); rintro e w1 ⟨rfl, hb1⟩; have HB1 := Lib.hid (hb.out.trans (hb1.mono hb.out.size)))
        go_ret2
        exact ⟨by rw [hF.out, HO.out]; rfl, HB1.out⟩
      · have hllz : ¬ (lo : Int) < (len : Int) := by omega
        have HO := Lib.hid (show fOk es key = false by rw [hO.out, decide_eq_false hll, Bool.false_and])
        clear hO
        go_wp2_with fail
        go_ret2
        exact ⟨by rw [hF.out, HO.out]; rfl, hb.out⟩

set_option maxHeartbeats 1000000 in
theorem find_any (a : Option Addr) (len cap : Nat) (es : List En) (key : ByteArray) (w : World) (hz : IsEnts w a len cap es) (hl : len ≤ 1000000) (hr : rightE es = true) :
    Calls Try.prog 35 #[.slice a len cap, .string key] w fun e w' => e = .returned (.tuple #[.int .i64 (fAt es key), .bool (fOk es key)]) ∧ Below w.heap.size w w' := by
  have H := Lib.hid (bfind_any a len cap es key w hz hl hr)
  clear hz
  obtain ⟨n, hn⟩ : ∃ n : Nat, n = fAt es key := ⟨_, rfl⟩
  obtain ⟨o, ho⟩ : ∃ o, o = fOk es key := ⟨_, rfl⟩
  rw [← hn, ← ho] at H ⊢
  clear hn ho hr
  go_enter Try.func35, Try.ntmps35
  go_wp2_with (go_at_call 50; (with_reducible refine H.out.mono ?_); rintro e w1 ⟨rfl, hb1⟩)
  go_ret2
  exact ⟨rfl, hb1⟩
end Go.Proofs.Ytdcefhhmddjodaa
