/-
  DiskFuses, from what is asked of the program's disk.
-/
import Derived.Test.YtmgdjnkdnakmhaaDskTears
import Derived.Deep.LoopGhost
namespace Go.Proofs.Ytmgdjnkdnakmhaa
open Go.RowKit
set_option linter.unusedVariables false
set_option linter.unnecessarySimpa false
set_option linter.unusedSimpArgs false
set_option maxRecDepth 100000

/-- A byte, kept as it is written. -/
def b8 (n : Nat) : UInt8 := UInt8.ofNat n
theorem b8_toNat (n : Nat) : (b8 n).toNat = n % 256 := UInt8.toNat_ofNat'
/-- The disk behind m writes. -/
def fzD (k m : Nat) : DK := ⟨[fullB 0], [fullB (b8 m)], (List.range m).map (fun j => (0, fullB (b8 (j + 1)))), (k : Int) - m⟩
theorem fzD_start (k : Nat) : (DK.new 1).lit k = fzD k 0 := by
  show DK.mk _ _ _ (if (-1 : Int) = 0 then 0 else max (k : Int) (-1)) = _
  unfold fzD
  rw [if_neg (by omega)]
  congr 1
  omega
theorem fzD_next {k m : Nat} (h : m < k) : (fzD k m).wrote 0 (fullB (b8 (m + 1))) = fzD k (m + 1) := by
  unfold fzD DK.wrote
  simp only [List.set_cons_zero]
  rw [if_pos (by omega), List.range_succ, List.map_append]
  congr 1
  omega
theorem fzD_lit (k : Nat) (n : Int) : (fzD k k).lit n = fzD k k := by
  unfold fzD DK.lit
  simp only
  rw [if_pos (by omega)]
  congr 1
  omega
theorem torn_all : ∀ (k a : Nat) (s : List UInt8), s.length = 64 → torn [s] ((List.range k).map fun j => (0, fullB (b8 (a + j + 1)))) (List.replicate k 255) = [if k = 0 then s else fullB (b8 (a + k))]
  | 0, a, s, _ => by simp [torn]
  | k + 1, a, s, hs => by
    rw [List.range_succ_eq_map, List.map_cons, List.map_map, List.replicate_succ, torn]
    have e : tornOne [s] (0, fullB (b8 (a + 0 + 1))) 255 = [fullB (b8 (a + 1))] := by
      unfold tornOne
      have h64 : tear 255 = 64 := rfl
      have hf : (fullB (b8 (a + 0 + 1))).take 64 = fullB (b8 (a + 1)) := List.take_of_length_le (by rw [fullB_length]; omega)
      have hd : s.drop 64 = [] := List.drop_of_length_le (by omega)
      simp only [List.set_cons_zero, h64, hf, List.getD_cons_zero, hd, List.append_nil]
    rw [e]
    have ih := torn_all k (a + 1) (fullB (b8 (a + 1))) (fullB_length _)
    rw [show (fun j => ((0 : Nat), fullB (b8 (a + j + 1)))) ∘ Nat.succ = fun j => (0, fullB (b8 (a + 1 + j + 1))) from funext fun j => by simp only [Function.comp]; congr 3; omega, ih]
    rw [if_neg (by omega : ¬ k + 1 = 0)]
    by_cases hk : k = 0
    · subst hk; simp
    · rw [if_neg hk]; congr 3; omega
theorem fzD_kept (k : Nat) : ((fzD k k).crashed (List.replicate k 255)).seen[0]? = some (fullB (b8 k)) := by
  show (torn [fullB 0] ((List.range k).map fun j => (0, fullB (b8 (j + 1)))) (List.replicate k 255))[0]? = _
  have := torn_all k 0 (fullB 0) (fullB_length 0)
  simp only [Nat.zero_add] at this
  rw [this]
  by_cases hk : k = 0
  · subst hk; rfl
  · rw [if_neg hk]; rfl
theorem fzD_gone (k : Nat) : ((fzD k k).crashed []).seen[0]? = some (fullB 0) := by
  show (torn [fullB 0] ((List.range k).map fun j => (0, fullB (b8 (j + 1)))) [])[0]? = _
  cases k with
  | zero => rfl
  | succ k => rw [List.range_succ_eq_map]; rfl
theorem fzD_waits (k m : Nat) : (fzD k m).waits.length = m := by simp [fzD]

theorem bytes_own {w : World} {B n : Nat} {v : Value} {l : List UInt8} (h : w.ownsRow B 5 1 v n (Lib.byteCells l)) : ∃ a cap, v = .slice a n cap ∧ BytesAt w a n l ∧ ∀ b off s, a = some ⟨b, off, s⟩ → B ≤ b := by
  have hl : l.length = n := by have := h.1; simpa [Lib.byteCells] using this
  rcases h.2 with ⟨rfl, rfl⟩ | ⟨g, cap, cur, rfl, hb, hg, h1, h2, h3, h4⟩
  · exact ⟨none, 0, rfl, ⟨hl, fun h => absurd h (by omega)⟩, fun b off s e => by cases e⟩
  · refine ⟨_, cap, rfl, ⟨hl, fun _ => ⟨g, 0, rfl, (Array.getElem?_eq_some_iff.1 hg).1, fun i hi => ?_⟩⟩, fun b off s e => by simp only [Option.some.injEq, Addr.mk.injEq] at e; omega⟩
    have hil : i < l.length := by rw [hl]; exact hi
    have := h.cells (g := g) rfl i (.int .u8 ((l.getD i 0).toNat : Int)) (by rw [List.getD, List.getElem?_eq_getElem hil]; simp [Lib.byteCells, List.getElem?_eq_getElem hil])
    rw [Addr.add_lit] at this
    exact this
theorem crash_own (S : Dsk) {w0 w w' : World} {B n : Nat} {r : Addr} {D : DK} (h : St S w0 B r D w) (hb : Below w.heap.size w w') {v : Value} {l : List UInt8} (hown : w'.ownsRow w.heap.size 5 1 v n (Lib.byteCells l)) (hn : n ≤ 1000000) :
    Calls Try.prog 14 #[.pointer (some r), v] w' fun e w' => e = .returned (.tuple #[]) ∧ St S w0 B r (D.crashed l) w' := by
  obtain ⟨a, cap, rfl, hby, hfar⟩ := bytes_own hown
  exact h.crash hb a n cap l hby hn (fun b off s e => .inl (hfar b off s e))

structure FuseSteps (S : Dsk) (w0 : World) (B : Nat) (r : Addr) (k : Nat) (D : Nat → DK) (D0 D7 D8 : DK) : Prop where
  f0 : ∀ w, St S w0 B r D0 w → Calls Try.prog 13 #[.pointer (some r), .int .i64 k] w fun e w' => e = .returned (.tuple #[]) ∧ St S w0 B r (D 0) w'
  wr : ∀ m w, m < k → St S w0 B r (D m) w → Calls Try.prog 10 #[.pointer (some r), .int .i64 0, .string (fullS (b8 (m + 1)))] w fun e w' => e = .returned (.int .i64 0) ∧ St S w0 B r (D (m + 1)) w'
  wl : ∀ w b, St S w0 B r (D k) w → Calls Try.prog 10 #[.pointer (some r), .int .i64 0, .string b] w fun e w' => e = .returned (.int .i64 6) ∧ St S w0 B r (D k) w'
  f9 : ∀ w, St S w0 B r (D k) w → Calls Try.prog 13 #[.pointer (some r), .int .i64 9] w fun e w' => e = .returned (.tuple #[]) ∧ St S w0 B r (D k) w'
  rl : ∀ w, St S w0 B r (D k) w → Calls Try.prog 11 #[.pointer (some r), .int .i64 0] w fun e w' => e = .returned (.tuple #[.string ⟨#[]⟩, .int .i64 6]) ∧ St S w0 B r (D k) w'
  sl : ∀ w, St S w0 B r (D k) w → Calls Try.prog 12 #[.pointer (some r)] w fun e w' => e = .returned (.int .i64 6) ∧ St S w0 B r (D k) w'
  wa : ∀ w, St S w0 B r (D k) w → Calls Try.prog 16 #[.pointer (some r)] w fun e w' => e = .returned (.int .i64 k) ∧ St S w0 B r (D k) w'
  c7 : ∀ w w' v, St S w0 B r (D k) w → Below w.heap.size w w' → w'.ownsRow w.heap.size 5 1 v k (Lib.byteCells (List.replicate k 255)) →
    Calls Try.prog 14 #[.pointer (some r), v] w' fun e w' => e = .returned (.tuple #[]) ∧ St S w0 B r D7 w'
  c8 : ∀ w, St S w0 B r (D k) w → Calls Try.prog 14 #[.pointer (some r), .slice none 0 0] w fun e w' => e = .returned (.tuple #[]) ∧ St S w0 B r D8 w'
  r7 : ∀ w, St S w0 B r D7 w → Calls Try.prog 11 #[.pointer (some r), .int .i64 0] w fun e w' => e = .returned (.tuple #[.string (fullS (b8 k)), .int .i64 0]) ∧ St S w0 B r D7 w'
  r8 : ∀ w, St S w0 B r D8 w → Calls Try.prog 11 #[.pointer (some r), .int .i64 0] w fun e w' => e = .returned (.tuple #[.string (fullS 0), .int .i64 0]) ∧ St S w0 B r D8 w'

theorem fuse_steps (S : Dsk) (w0 : World) (B : Nat) (r : Addr) (k : Nat) (hk : k < 40) : FuseSteps S w0 B r k (fzD k) (DK.new 1) ((fzD k k).crashed (List.replicate k 255)) ((fzD k k).crashed []) where
  f0 := fun w h => by have := h.fuse k (by omega) (by omega); rw [fzD_start] at this; exact this
  wr := fun m w hm h => by
    have := write_zero S h (b8 (m + 1)) (by show ((k : Int) - m) ≠ 0; omega) (by simp [fzD]) (by rw [fzD_waits]; omega)
    rw [fzD_next hm] at this
    exact this
  wl := fun w b h => h.writeLost 0 b (by show ((k : Int) - k) = 0; omega)
  f9 := fun w h => by have := h.fuse 9 (by omega) (by omega); rw [fzD_lit] at this; exact this
  rl := fun w h => h.readLost 0 (by show ((k : Int) - k) = 0; omega)
  sl := fun w h => h.syncLost (by show ((k : Int) - k) = 0; omega)
  wa := fun w h => waits_one S h (by rw [fzD_waits])
  c7 := fun w w' v h hb hown => crash_own S h hb hown (by omega)
  c8 := fun w h => h.crash (Below.refl _ _) none 0 0 [] ⟨rfl, fun h => absurd h (by omega)⟩ (by omega) (fun b off s e => by cases e)
  r7 := fun w h => read_0 S h (by simp [DK.crashed]) (fzD_kept k)
  r8 := fun w h => read_0 S h (by simp [DK.crashed]) (fzD_gone k)

theorem full_next (i : Nat) (hi : i < 200) (w : World) : Calls Try.prog 18 #[.int .u8 ((i : Int) + 1)] w fun e w' => e = .returned (.string (fullS (b8 (i + 1)))) ∧ Below w.heap.size w w' := by
  have := full_s (b8 (i + 1)) w
  rw [show (((b8 (i + 1)).toNat : Nat) : Int) = (i : Int) + 1 by rw [b8_toNat]; omega] at this
  exact this
theorem full_at (i : Nat) (hi : i < 200) (w : World) : Calls Try.prog 18 #[.int .u8 (i : Int)] w fun e w' => e = .returned (.string (fullS (b8 i))) ∧ Below w.heap.size w w' := by
  have := full_s (b8 i) w
  rw [show (((b8 i).toNat : Nat) : Int) = (i : Int) by rw [b8_toNat]; omega] at this
  exact this

theorem full_0 (w : World) : Calls Try.prog 18 #[.int .u8 0] w fun e w' => e = .returned (.string (fullS 0)) ∧ Below w.heap.size w w' := full_s 0 w

set_option maxHeartbeats 4000000 in
theorem diskFuses_of (S : Dsk) (a0 : Int) (h0 : (Lit.int .u8 a0).wf = true) (keep : Bool) (w : World) :
    Calls Try.prog 5 #[.int .u8 a0, .bool keep] w fun e w' => e = .returned (.bool true) ∧ Below w.heap.size w w' := by
  have hbd := bounds_u8 h0
  obtain ⟨n, rfl⟩ : ∃ n : Nat, a0 = n := ⟨a0.toNat, by omega⟩
  obtain ⟨k, hk⟩ : ∃ k, k = n % 40 := ⟨_, rfl⟩
  have hkz : (n : Int) % 40 = (k : Int) := by omega
  have hk40 : k < 40 := by omega
  clear hk h0
  have haw := Lib.hid (dskAwake_any S)
  go_enter Try.func5, Try.ntmps5
  go_upto_region 5 with (first
    | (go_at_call 8; refine (new_one S _).mono ?_; rintro e w1 ⟨r, rfl, hst⟩)
    | (go_at_call 6; refine (haw.out _).mono ?_; rintro e w2 ⟨rfl, hb2⟩; have hst2 := hst.stay hb2))
  have hT := fuse_steps S w w.heap.size r k hk40
  obtain ⟨D, hD⟩ : ∃ D, D = fzD k := ⟨_, rfl⟩
  obtain ⟨D0, hD0⟩ : ∃ D0, D0 = DK.new 1 := ⟨_, rfl⟩
  rw [← hD] at hT
  rw [← hD0] at hT hst2
  obtain ⟨D7, hD7⟩ : ∃ D7, D7 = (D k).crashed (List.replicate k 255) := ⟨_, rfl⟩
  obtain ⟨D8, hD8⟩ : ∃ D8, D8 = (D k).crashed [] := ⟨_, rfl⟩
  rw [← hD7, ← hD8] at hT
  have HT := Lib.hid hT
  clear hD hD0 hD7 hD8 hT hst hb2
  go_wp2_with (go_at_call 13; (with_reducible refine (HT.out.f0 _ (by assumption)).mono ?_); rintro e w3 ⟨rfl, hst3⟩)
  have H3 := Lib.hid hst3
  clear hst2 hst3
  go_loopg [7, 8] (k + 3) (fun g s7 s8 wx => ∃ i m : Nat, i + g = k + 3 ∧ ((i < k ∧ m = i) ∨ (k ≤ i ∧ m = k)) ∧ s7 = .int .i64 m ∧ s8 = .int .i64 i ∧ Hid (St S w w.heap.size r (D m) wx))
  case atStart => exact ⟨0, 0, by omega, by omega, rfl, rfl, H3⟩
  case round =>
    obtain ⟨i, m, hig, hmi, rfl, rfl, hst⟩ := hrel
    cases gk with
    | zero =>
      obtain rfl : m = k := by omega
      obtain rfl : i = m + 3 := by omega
      have hst := hst.out
      have hkm : ((m : Int) + 3) = (m : Int) + 3 := rfl
      clear hkm hmi hig
      go_upto_region 16 with (first
        | (go_at_call 13; (with_reducible refine (HT.out.f9 _ (by assumption)).mono ?_); rintro e w4 ⟨rfl, hs4⟩)
        | (go_at_call 11; (with_reducible refine (HT.out.rl _ (by assumption)).mono ?_); rintro e w5 ⟨rfl, hs5⟩)
        | (go_at_call 12; (with_reducible refine (HT.out.sl _ (by assumption)).mono ?_); rintro e w6 ⟨rfl, hs6⟩)
        | (go_at_call 16; (with_reducible refine (HT.out.wa _ (by assumption)).mono ?_); rintro e w7 ⟨rfl, hs7⟩))
      have H7 := Lib.hid hs7
      clear hs4 hs5 hs6 hs7 hst
      obtain ⟨i0, hi, hz0, hz1, hz2⟩ := info_parts u8info
      have hfz := Lib.hid (full_at 0 (by omega))
      have hfk := Lib.hid (full_at m (by omega))
      have hm40 : (m : Int) < 40 := by omega
      cases keep with
      | false =>
        go_wp2_with fail
        go_loopg [11, 12] 0 (fun g s11 s12 wx => s11 = .slice none 0 0 ∧ s12 = .int .i64 0 ∧ wx = w7)
        case atStart => exact ⟨rfl, rfl, rfl⟩
        case round =>
          obtain ⟨rfl, rfl, rfl⟩ := hrel
          have hst := H7.out
          go_wp2_with (first
            | (go_at_call 14; (with_reducible refine (HT.out.c8 _ (by assumption)).mono ?_); rintro e w8 ⟨rfl, hs8⟩)
            | (go_at_call 11; (with_reducible refine (HT.out.r8 _ (by assumption)).mono ?_); rintro e w9 ⟨rfl, hs9⟩)
            | (go_at_call 18; refine (full_0 _).mono ?_; rintro e wf ⟨rfl, hbf⟩))
          all_goals
            go_ret
            exact ⟨rfl, hs9.below.trans (hbf.mono hs9.below.size)⟩
      | true =>
        go_wp2_with fail
        go_loopg [11, 12] m (fun g s11 s12 wx => ∃ j : Nat, j + g = m ∧ s12 = .int .i64 j ∧ wx.ownsRow w7.heap.size 5 1 s11 j (Lib.byteCells (List.replicate j 255)) ∧ Below w7.heap.size w7 wx)
        case atStart => exact ⟨0, by omega, rfl, ⟨rfl, .inl ⟨rfl, rfl⟩⟩, Below.refl _ _⟩
        case round =>
          obtain ⟨j, hjg, rfl, hown, hb⟩ := hrel
          cases gk with
          | zero =>
            obtain rfl : m = j := by omega
            have hst := H7.out
            have hcr := Lib.hid (HT.out.c7 _ _ _ hst hb hown)
            go_wp2_with (first
              | (go_at_call 14; (with_reducible refine (hcr.out).mono ?_); rintro e w8 ⟨rfl, hs8⟩)
              | (go_at_call 11; (with_reducible refine (HT.out.r7 _ (by assumption)).mono ?_); rintro e w9 ⟨rfl, hs9⟩)
              | (go_at_call 18; refine (hfk.out _).mono ?_; rintro e wf ⟨rfl, hbf⟩))
            go_ret
            exact ⟨rfl, hs9.below.trans (hbf.mono hs9.below.size)⟩
          | succ g =>
            have hjz : (j : Int) < (m : Int) := by omega
            have hone := Lib.hid (cell_one_new wr (.int .u8 255) 5)
            have hj40 : j < 40 := by omega
            go_wp2_with (at_builtin; refine wpList_append_own _ rfl _ _ 30 rfl w7.heap.size 5 i0 (.int .u8 0) 1 1 Try.underlying30 hi hz0 hz1 hz2 rfl (by decide) _ _ _ rfl (hown.alloc _) ⟨wr.heap.size, 0, none⟩ 1 1 [.int .u8 255] rfl rfl ?c1 ?c2 ?c3 ?c4 ?c5 ?c6)
            case c1 => exact hone.out
            case c2 => simp [Value.oneCell']
            case c3 => simp [maxLen]; omega
            case c4 => omega
            case c5 => have := hb.size; simp; omega
            case c6 =>
              intro v' w1 hown1 hg1 _
              have hown2 : w1.ownsRow w7.heap.size 5 1 v' (j + 1) (Lib.byteCells (List.replicate (j + 1) 255)) := by
                rw [List.replicate_succ', ← cells_snoc]; exact hown1
              have HB := (hb.alloc hb.size (.cells #[.int .u8 255] 5)).grown hg1 (by have := hb.size; simp; omega) (fun k hk => (hown.lt k hk).1)
              clear hown1 hg1 hown hb hone
              go_wp2_with fail
              go_roundg g
              case measure => omega
              case rel => exact ⟨j + 1, by omega, by go_num, hown2, HB⟩

    | succ g =>
      have hiz : (i : Int) < (k : Int) + 3 := by omega
      have hst := hst.out
      rcases hmi with ⟨h1, rfl⟩ | ⟨h1, rfl⟩
      · have hff := Lib.hid (full_next m (by omega))
        go_wp2_with (first
          | (go_at_call 18; (with_reducible refine (hff.out _).mono ?_); rintro e wf ⟨rfl, hbf⟩; have hsf := St.stay (S := S) (by assumption) hbf)
          | (go_at_call 10; (with_reducible refine (HT.out.wr _ _ h1 (by assumption)).mono ?_); rintro e wz ⟨rfl, hsz⟩))
        go_roundg g
        case measure => omega
        case rel => exact ⟨m + 1, m + 1, by omega, by omega, by go_num, by go_num, Lib.hid hsz⟩
      · have hff := Lib.hid (full_next i (by omega))
        go_wp2_with (first
          | (go_at_call 18; (with_reducible refine (hff.out _).mono ?_); rintro e wf ⟨rfl, hbf⟩; have hsf := St.stay (S := S) (by assumption) hbf)
          | (go_at_call 10; (with_reducible refine (HT.out.wl _ _ (by assumption)).mono ?_); rintro e wz ⟨rfl, hsz⟩))
        go_roundg g
        case measure => omega
        case rel => exact ⟨i + 1, m, by omega, by omega, rfl, by go_num, Lib.hid hsz⟩
end Go.Proofs.Ytmgdjnkdnakmhaa
