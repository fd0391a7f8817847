/-
  Joined: ChnContracts, Leading, Cursor, UintB, CursorTextB.
-/
import Derived.Test.YtdcefhhmddjodaaSet10
import Derived.Test.YtdcefhhmddjodaaSet01
import Derived.ProofKit
import Derived.WalkSpells
import Derived.WalkLawsBesides
import Derived.Lib.Hide
namespace Go.Proofs.Ytdcefhhmddjodaa
open Go.RowKit
set_option linter.unusedVariables false
set_option linter.unnecessarySimpa false
set_option linter.unusedSimpArgs false
set_option maxRecDepth 100000

/-- A chain whose times are numbers. -/
def okV (zs : List Vr) : Prop := rightB zs = true ∧ ∀ v ∈ zs, v.time < 18446744073709551616
def chainS (zs : List Vr) : ByteArray := ⟨(chainB zs).toArray⟩
/-- Versions handed back, beside an error. -/
def VersOut (zs : List Vr) (k : Int) (w : World) (e : Ending) (w' : World) : Prop := ∃ a c, e = .returned (.tuple #[.slice a zs.length c, .int .i64 k]) ∧ IsVers w' a zs.length c zs ∧ Below w.heap.size w w'

structure ChnC : Prop where
  encYes : ∀ (a : Option Addr) (len cap : Nat) (zs : List Vr) (w : World), IsVers w a len cap zs → rightB zs = true → (∀ v ∈ zs, v.val.size ≤ 60000) →
    Calls Try.prog 83 #[.slice a len cap] w fun e w' => e = .returned (.tuple #[.string (chainS zs), .int .i64 0]) ∧ Below w.heap.size w w'
  encNo : ∀ (a : Option Addr) (len cap : Nat) (zs : List Vr) (w : World), IsVers w a len cap zs → rightB zs = false → (∀ v ∈ zs, v.val.size ≤ 60000) → len ≤ 1000 →
    Calls Try.prog 83 #[.slice a len cap] w fun e w' => e = .returned (.tuple #[.string ⟨#[]⟩, .int .i64 1]) ∧ Below w.heap.size w w'
  right : ∀ (a : Option Addr) (len cap : Nat) (zs : List Vr) (w : World), IsVers w a len cap zs → (∀ v ∈ zs, v.val.size ≤ 60000) → len ≤ 1000 →
    Calls Try.prog 98 #[.slice a len cap] w fun e w' => e = .returned (.bool (rightB zs)) ∧ Below w.heap.size w w'
  at_ : ∀ (a : Option Addr) (len cap : Nat) (zs : List Vr) (t : Nat) (w : World), IsVers w a len cap zs → rightB zs = true → (∀ v ∈ zs, v.val.size ≤ 60000) → t < 18446744073709551616 →
    Calls Try.prog 33 #[.slice a len cap, .int .u64 (t : Int)] w fun e w' => e = .returned (atOut (atV zs t)) ∧ Below w.heap.size w w'
  decYes : ∀ (zs : List Vr) (w : World), okV zs → allN zs ≤ 60000 → Calls Try.prog 80 #[.string (chainS zs)] w (VersOut zs 0 w)
  decLong : ∀ (zs : List Vr) (w : World), okV zs → 60000 < allN zs → (∀ v ∈ zs, v.val.size ≤ 60000) → Calls Try.prog 80 #[.string (chainS zs)] w (VersOut [] 3 w)
  decNo : ∀ (b : ByteArray) (w : World), b.size ≤ 100000 → (¬ ∃ zs, okV zs ∧ allN zs ≤ 60000 ∧ b = chainS zs) →
    Calls Try.prog 80 #[.string b] w fun e w' => VersOut [] 2 w e w' ∨ VersOut [] 3 w e w'

theorem vers_below {w w' : World} {a : Option Addr} {len cap : Nat} {zs : List Vr} (h : IsVers w a len cap zs) (hb : Below w.heap.size w w') : IsVers w' a len cap zs := by
  refine ⟨⟨h.1.1, fun i hi => ?_⟩, h.2⟩
  obtain ⟨b, off, ha, hlt, h1, h2, h3, h4, h5⟩ := h.1.2 i hi
  exact ⟨b, off, ha, Nat.lt_of_lt_of_le hlt hb.size, h1, h2, (hb.cell (p := ⟨b, off + i * 3, none⟩) hlt).trans h3, (hb.cell (p := ⟨b, off + i * 3 + 1, none⟩) hlt).trans h4, (hb.cell (p := ⟨b, off + i * 3 + 2, none⟩) hlt).trans h5⟩
theorem below_drewV {B : Nat} {w w' : World} (h : Below B w w') (n : Nat) : Below B w (w'.drewN n) := ⟨h.os, h.tape, h.output, h.size, h.block⟩
theorem vers_mem {w : World} {a : Option Addr} {len cap : Nat} {zs : List Vr} (h : IsVers w a len cap zs) : ∀ v ∈ zs, v.time < 18446744073709551616 := fun v hv => by
  obtain ⟨i, hi, rfl⟩ := List.mem_iff_getElem.1 hv
  obtain ⟨_, _, _, _, h1, _⟩ := h.1.2 i (by rw [← h.1.1]; exact hi)
  rwa [List.getD, List.getElem?_eq_getElem hi] at h1
theorem few_mem {zs : List Vr} {n : Nat} (h : FewVers zs n) (hn : n < 500) : (∀ v ∈ zs, v.val.size ≤ 500) ∧ allN zs ≤ 500 * n := by
  have h1 : ∀ v ∈ zs, v.val.size ≤ 500 := fun v hv => by
    obtain ⟨i, hi, rfl⟩ := List.mem_iff_getElem.1 hv
    have := h.1 i hi (by have := h.2; omega)
    rwa [List.getD, List.getElem?_eq_getElem hi] at this
  refine ⟨h1, ?_⟩
  have h2 : ∀ l : List Vr, (∀ v ∈ l, v.val.size ≤ 500) → allN l ≤ 500 * l.length := by
    intro l
    induction l with
    | nil => intro _; simp [allN]
    | cons v l ih =>
      intro hl
      have a1 := hl v (by simp)
      have a2 := ih (fun x hx => hl x (by simp [hx]))
      unfold allN at a2 ⊢
      rw [List.map_cons, List.sum_cons, List.length_cons]
      omega
  have h3 := h2 zs h1
  have h4 := h.2
  have : 500 * zs.length ≤ 500 * n := Nat.mul_le_mul_left _ h4
  omega
theorem allN_mem : ∀ (l : List Vr) (v : Vr), v ∈ l → v.val.size ≤ allN l
  | x :: l, v, h => by
    unfold allN
    rw [List.map_cons, List.sum_cons]
    rcases List.mem_cons.1 h with rfl | h
    · omega
    · have := allN_mem l v h
      unfold allN at this
      omega
theorem right_parts {zs : List Vr} (h : rightB zs = true) : risesB 0 zs = true ∧ zs.length ≤ 200 := by
  unfold rightB at h
  simpa using h

def vrAB : Vr := ⟨5, false, ⟨#[97, 98]⟩⟩
theorem chain_ab : chainS [vrAB] = ⟨#[1, 5, 0, 0, 0, 2, 97, 98]⟩ := by
  have : chainB [vrAB] = [1, 5, 0, 0, 0, 2, 97, 98] := by
    show ub 1 ++ (ub 5 ++ (0 :: (ub 0 ++ ub 0 ++ (ub 2 ++ [97, 98])) ++ [])) = _
    rw [ub_small (by decide), ub_small (by decide), ub_small (by decide), ub_small (by decide)]
    rfl
  unfold chainS
  rw [this]

end Go.Proofs.Ytdcefhhmddjodaa

namespace Go.Proofs.Ytdcefhhmddjodaa
open Go.RowKit
set_option linter.unnecessarySimpa false
set_option linter.unusedVariables false
set_option linter.unusedSimpArgs false
set_option maxRecDepth 100000

set_option maxRecDepth 100000 in
set_option maxHeartbeats 1600000 in
theorem leading_any (s : ByteArray) (hs : s.size ≤ maxLen) (w : World) :
    Calls Try.prog 74 #[.string s] w fun e w' => e = .returned (.tuple #[.int .u64 (tkN s.data.toList : Nat), .int .i64 (tkK s.data.toList : Nat)]) ∧ w = w' := by
  unfold maxLen at hs
  go_enter Try.func74, Try.ntmps74
  go_wp2_with fail
  go_loop [4, 5, 6, 9] (fun t _ _ i => ∃ k n : Nat, k ≤ s.size ∧ k ≤ 9 ∧ i = .int .i64 k ∧ t = .int .u64 n ∧ Hid (n < 2 ^ (7 * k)) ∧ Hid (tk s.data.toList = tkAux k n (s.data.toList.drop k))) (fun _ _ _ i => s.size - (intOf i).toNat)
  case atStart => exact ⟨0, 0, Nat.zero_le _, Nat.zero_le _, rfl, rfl, Lib.hid (by simp), Lib.hid rfl⟩
  case round =>
    obtain ⟨k, n, hk, hk9, rfl, rfl, hn, ht⟩ := hrel
    have hls : s.data.toList.length = s.size := by rw [Array.length_toList]; rfl
    by_cases hlt : k < s.size
    · obtain ⟨b, hb⟩ : ∃ b : Nat, s[k].toNat = b := ⟨_, rfl⟩
      have hb256 : b < 256 := by have := s[k].toNat_lt; omega
      have hst := tkAux_step s.data.toList k n b (by omega) hb
      rw [← ht.out] at hst
      have HST := Lib.hid hst
      clear hst ht hls
      by_cases e9 : k = 9
      · subst e9
        have HO := Lib.hid (fun h9 => or_step n b 9 hb256 hn.out (by omega) h9)
        by_cases h1 : 1 < b
        · have HZ := Lib.hid (tk_is_none (by rw [HST.out, if_pos ⟨rfl, h1⟩]))
          go_wp2_with fail
          go_ret2
          exact ⟨ret_two (by rw [HZ.out.1]; rfl) (by rw [HZ.out.2]; rfl), rfl⟩
        · have hno := and128_no b hb256 (by omega)
          by_cases h0 : b = 0
          · have HZ := Lib.hid (tk_is_none (by rw [HST.out, if_neg (by omega), if_neg (by omega), if_pos ⟨h0, by omega⟩]))
            have hb0 : ((b : Int) == 0) = true := by simp; omega
            have h0' := Lib.hid h0
            clear h0
            go_wp2_with fail
            go_ret2
            exact ⟨ret_two (by rw [HZ.out.1]; rfl) (by rw [HZ.out.2]; rfl), rfl⟩
          · have HZ := Lib.hid (tk_is_some (by rw [HST.out, if_neg (by omega), if_neg (by omega), if_neg (by omega)]))
            have hb0 : ((b : Int) == 0) = false := by simp; omega
            go_wp2_with fail
            go_ret2
            exact ⟨ret_two (by rw [HZ.out.1, ← HO.out (by omega)]; rfl) (by rw [HZ.out.2]; rfl), rfl⟩
      · have hne : ((k : Int) == 9) = false := by simp; omega
        have HO := Lib.hid (or_step n b k hb256 hn.out (by omega) (fun h => absurd h e9))
        by_cases h128 : 128 ≤ b
        · have hyes := and128_yes b hb256 h128
          go_wp2_with fail
          refine ⟨⟨k + 1, n + b % 128 * 128 ^ k, by omega, by omega, by go_num, by rw [HO.out], Lib.hid (next_lt n b k hn.out), Lib.hid ?_⟩, by simp [intOf]; omega⟩
          rw [HST.out, if_neg (by omega), if_pos h128]
        · have hno := and128_no b hb256 (by omega)
          by_cases h0 : b = 0
          · have hb0 : ((b : Int) == 0) = true := by simp; omega
            have h0' := Lib.hid h0
            clear h0
            by_cases hk0 : k = 0
            · subst hk0
              have HZ := Lib.hid (tk_is_some (by rw [HST.out, if_neg (by omega), if_neg (by omega), if_neg (by omega)]))
              go_wp2_with fail
              go_ret2
              exact ⟨ret_two (by rw [HZ.out.1, ← HO.out]; simp) (by rw [HZ.out.2]; rfl), rfl⟩
            · have HZ := Lib.hid (tk_is_none (by rw [HST.out, if_neg (by omega), if_neg (by omega), if_pos ⟨h0'.out, by omega⟩]))
              have hk1 : 0 < k := by omega
              go_wp2_with fail
              go_ret2
              exact ⟨ret_two (by rw [HZ.out.1]; rfl) (by rw [HZ.out.2]; rfl), rfl⟩
          · have HZ := Lib.hid (tk_is_some (by rw [HST.out, if_neg (by omega), if_neg (by omega), if_neg (by omega)]))
            have hb0 : ((b : Int) == 0) = false := by simp; omega
            go_wp2_with fail
            go_ret2
            exact ⟨ret_two (by rw [HZ.out.1, ← HO.out]) (by rw [HZ.out.2]; rfl), rfl⟩
    · have hd : s.data.toList.drop k = [] := List.drop_of_length_le (by omega)
      have HZ := Lib.hid (tk_is_none (l := s.data.toList) (by rw [ht.out, hd]; rfl))
      clear hd hls ht
      go_wp2_with fail
      go_ret2
      exact ⟨ret_two (by rw [HZ.out.1]; rfl) (by rw [HZ.out.2]; rfl), rfl⟩
end Go.Proofs.Ytdcefhhmddjodaa

namespace Go.Proofs.Ytdcefhhmddjodaa
open Go.RowKit
set_option linter.unnecessarySimpa false
set_option linter.unusedVariables false
set_option linter.unusedSimpArgs false
set_option maxRecDepth 100000

/-- A cursor in memory: what is left, and whether it is bad. -/
def CurAt (w : World) (g : Nat) (s : ByteArray) (bad : Bool) : Prop := w.heap[g]? = some (.cells #[.string s, .bool bad] 113 (0, 0))

section
variable {w : World} {g : Nat} {s : ByteArray} {bad : Bool}
theorem CurAt.lt (h : CurAt w g s bad) : g < w.heap.size := (Array.getElem?_eq_some_iff.1 h).1
theorem CurAt.c0 (h : CurAt w g s bad) : w.cell? ⟨g, 0, none⟩ = some (.string s) := by unfold CurAt at h; simp [World.cell?, h]
theorem CurAt.c1 (h : CurAt w g s bad) : w.cell? ⟨g, 1, none⟩ = some (.bool bad) := by unfold CurAt at h; simp [World.cell?, h]
theorem CurAt.f0 (h : CurAt w g s bad) : w.frozen? ⟨g, 0, none⟩ = false := by unfold CurAt at h; simp [World.frozen?, h]
theorem CurAt.f1 (h : CurAt w g s bad) : w.frozen? ⟨g, 1, none⟩ = false := by unfold CurAt at h; simp [World.frozen?, h]
theorem CurAt.set0 (h : CurAt w g s bad) (s' : ByteArray) : CurAt (w.setCell ⟨g, 0, none⟩ (.string s')) g s' bad := by
  unfold CurAt at *
  rw [heap_setCell_same w g 0 _ _ _ h]
  rfl
theorem CurAt.set1 (h : CurAt w g s bad) (bad' : Bool) : CurAt (w.setCell ⟨g, 1, none⟩ (.bool bad')) g s bad' := by
  unfold CurAt at *
  rw [heap_setCell_same w g 1 _ _ _ h]
  rfl
theorem grownBy_setCell (w : World) (g j : Nat) (v : Value) : w.grownBy (w.setCell ⟨g, j, none⟩ v) (some g) :=
  ⟨rfl, rfl, rfl, by simp [World.setCell], fun k _ hk => heap_setCell_other w ⟨g, j, none⟩ k v (fun e => hk (by simp [e]))⟩
theorem grownBy_refl (w : World) (row : Option Nat) : w.grownBy w row := ⟨rfl, rfl, rfl, Nat.le_refl _, fun _ _ _ => rfl⟩
theorem grownBy_trans {w w1 w2 : World} {row : Option Nat} (h1 : w.grownBy w1 row) (h2 : w1.grownBy w2 row) : w.grownBy w2 row :=
  ⟨h2.os.trans h1.os, h2.tape.trans h1.tape, h2.output.trans h1.output, Nat.le_trans h1.size h2.size, fun k hk hr => (h2.block k (Nat.lt_of_lt_of_le hk h1.size) hr).trans (h1.block k hk hr)⟩
theorem CurAt.kept {w' : World} {B : Nat} (h : CurAt w g s bad) (hb : Below B w w') (hg : g < B) : CurAt w' g s bad := (hb.block g hg).trans h
end

theorem below_grown {w w1 w2 : World} {g : Nat} (h : Below w.heap.size w w1) (hg : w1.grownBy w2 (some g)) (hl : w.heap.size ≤ g) : Below w.heap.size w w2 :=
  h.grown hg h.size (fun k hk => by cases hk; exact hl)

set_option maxHeartbeats 800000 in
theorem new_any (s : ByteArray) (w : World) :
    Calls Try.prog 41 #[.string s] w fun e w' => e = .returned (.pointer (some ⟨w.heap.size, 0, none⟩)) ∧ CurAt w' w.heap.size s false ∧ Below w.heap.size w w' := by
  have hn : CurAt (w.alloc (.cells #[.string s, .bool false] 113)) w.heap.size s false := heap_alloc_new w _
  go_enter Try.func41, Try.ntmps41
  go_wp2
  go_ret
  exact ⟨rfl, hn, (Below.refl _ _).alloc (Nat.le_refl _) _⟩

set_option maxHeartbeats 800000 in
theorem take_any (g : Nat) (s : ByteArray) (bad : Bool) (n : Nat) (hs : s.size ≤ maxLen) (hn : n ≤ s.size) (w : World) (h : CurAt w g s bad) :
    Calls Try.prog 75 #[.pointer (some ⟨g, 0, none⟩), .int .i64 n] w fun e w' => e = .returned (.string (s.extract 0 n)) ∧ CurAt w' g (s.extract n s.size) bad ∧ w.grownBy w' (some g) := by
  unfold maxLen at hs
  have c0 := h.c0
  have f0 := h.f0
  have hq := Lib.hid (h.set0 (s.extract n s.size))
  clear h
  go_enter Try.func75, Try.ntmps75
  go_wp2
  go_ret
  exact ⟨rfl, hq.out, grownBy_setCell _ _ _ _⟩

set_option maxHeartbeats 800000 in
theorem bad_any (g : Nat) (s : ByteArray) (bad : Bool) (w : World) (h : CurAt w g s bad) :
    Calls Try.prog 57 #[.pointer (some ⟨g, 0, none⟩)] w fun e w' => e = .returned (.bool bad) ∧ w = w' := by
  have c1 := h.c1
  clear h
  go_enter Try.func57, Try.ntmps57
  go_wp2
  go_ret
  exact ⟨rfl, rfl⟩


set_option maxHeartbeats 800000 in
theorem done_any (g : Nat) (s : ByteArray) (bad : Bool) (w : World) (hs : s.size ≤ maxLen) (h : CurAt w g s bad) :
    Calls Try.prog 59 #[.pointer (some ⟨g, 0, none⟩)] w fun e w' => e = .returned (.bool (!bad && s.size == 0)) ∧ w = w' := by
  unfold maxLen at hs
  have c0 := h.c0
  have c1 := h.c1
  clear h
  cases bad
  · by_cases h0 : s.size = 0
    · have hb : ((s.size : Int) == 0) = true := by simp [h0]
      have H0 := Lib.hid h0
      clear h0
      go_enter Try.func59, Try.ntmps59
      go_wp2
      go_ret
      exact ⟨by rw [H0.out]; rfl, rfl⟩
    · have hb : ((s.size : Int) == 0) = false := by simp only [beq_eq_false_iff_ne, ne_eq]; omega
      have H0 : Hid ((s.size == 0) = false) := Lib.hid (by simpa using h0)
      clear h0
      go_enter Try.func59, Try.ntmps59
      go_wp2
      go_ret
      exact ⟨by rw [H0.out]; rfl, rfl⟩
  · go_enter Try.func59, Try.ntmps59
    go_wp2
    go_ret
    exact ⟨rfl, rfl⟩

/-- What Uint tells, and what it leaves. -/
def cUint (s : ByteArray) (bad : Bool) : Nat × ByteArray × Bool :=
  if bad then (0, s, true) else if tkK s.data.toList = 0 then (0, s, true) else (tkN s.data.toList, s.extract (tkK s.data.toList) s.size, false)

theorem tkK_le (l : List UInt8) : tkK l ≤ l.length := by
  unfold tkK
  cases h : tk l with
  | none => simp
  | some p => exact (tk_some (n := p.1) (k := p.2) h).2.2.1

theorem list_size (s : ByteArray) : s.data.toList.length = s.size := by rw [Array.length_toList]; rfl

set_option maxHeartbeats 800000 in
theorem cur_uint (g : Nat) (s : ByteArray) (bad : Bool) (w : World) (hs : s.size ≤ maxLen) (h : CurAt w g s bad) :
    Calls Try.prog 56 #[.pointer (some ⟨g, 0, none⟩)] w fun e w' => e = .returned (.int .u64 (cUint s bad).1) ∧ CurAt w' g (cUint s bad).2.1 (cUint s bad).2.2 ∧ w.grownBy w' (some g) := by
  have HS := Lib.hid hs
  have H := Lib.hid h
  have c0 := h.c0
  have c1 := h.c1
  have f1 := h.f1
  clear h hs
  cases bad
  · have hk := tkK_le s.data.toList
    rw [list_size] at hk
    by_cases h0 : tkK s.data.toList = 0
    · have hb : (((tkK s.data.toList : Nat) : Int) == 0) = true := by simp [h0]
      have hd := Lib.hid (show cUint s false = (0, s, true) by simp [cUint, h0])
      clear h0
      go_enter Try.func56, Try.ntmps56
      go_wp2_with (go_at_call 74; refine (leading_any s HS.out _).mono ?_; rintro e w' ⟨rfl, rfl⟩)
      go_ret
      rw [hd.out]
      exact ⟨rfl, H.out.set1 true, grownBy_setCell _ _ _ _⟩
    · have hb : (((tkK s.data.toList : Nat) : Int) == 0) = false := by simp; omega
      have hd := Lib.hid (show cUint s false = (tkN s.data.toList, s.extract (tkK s.data.toList) s.size, false) by simp [cUint, h0])
      clear h0
      go_enter Try.func56, Try.ntmps56
      go_wp2_with (first | (go_at_call 74; refine (leading_any s HS.out _).mono ?_; rintro e w' ⟨rfl, rfl⟩) | (go_at_call 75; refine (take_any g s false (tkK s.data.toList) HS.out hk _ H.out).mono ?_; rintro e w' ⟨rfl, hc, hg⟩))
      go_ret
      rw [hd.out]
      exact ⟨rfl, hc, hg⟩
  · have hd := Lib.hid (show cUint s true = (0, s, true) by simp [cUint])
    go_enter Try.func56, Try.ntmps56
    go_wp2_with fail
    go_ret
    rw [hd.out]
    exact ⟨rfl, H.out, grownBy_refl _ _⟩
end Go.Proofs.Ytdcefhhmddjodaa

namespace Go.Proofs.Ytdcefhhmddjodaa
open Go.RowKit
set_option linter.unnecessarySimpa false
set_option linter.unusedVariables false
set_option linter.unusedSimpArgs false
set_option maxRecDepth 100000


set_option maxHeartbeats 800000 in
theorem uint_any (n : Nat) (hn : n < 18446744073709551616) (w : World) :
    Calls Try.prog 62 #[.int .u64 n] w fun e w' => e = .returned (.string ⟨(ub n).toArray⟩) ∧ Below w.heap.size w w' := by
  obtain ⟨i0, hi, hz0, hz1, hz2⟩ := info_parts u8info
  have hlen := Lib.hid (ub_len10 hn)
  have HN := Lib.hid hn
  clear hn
  go_enter Try.func62, Try.ntmps62
  go_wp2_with fail
  go_loopw [0, 3] (fun t v wr => ∃ (m : Nat) (done : List UInt8), t = .int .u64 m ∧ Hid (m < 18446744073709551616) ∧ wr.ownsRow w.heap.size 5 1 v done.length (Lib.byteCells done) ∧ Hid (done ++ ub m = ub n) ∧ Below w.heap.size w wr) (fun t _ _ => (intOf t).toNat)
  case atStart => exact ⟨n, [], rfl, HN, World.ownsRow_nil _ _ _ _, Lib.hid rfl, Below.refl _ _⟩
  case round =>
    obtain ⟨m, done, rfl, hm, hown, hd, hb⟩ := hrel
    have hl := congrArg List.length hd.out
    rw [List.length_append] at hl
    have hp := ub_pos m
    have hll := hlen.out
    have hdl : done.length ≤ 9 := by omega
    clear hl hll hp
    have hor := Lib.hid (or80 m)
    have hone := Lib.hid (cell_one_new wr (.int .u8 (bits BinOp.or IntKind.u8 ((m : Int) % 256) 128)) 5)
    by_cases h : 127 < m
    · have hub := Lib.hid (ub_big (n := m) (by omega))
      go_wp2_with (at_builtin; refine wpList_append_own _ rfl _ _ 70 rfl w.heap.size 5 i0 (.int .u8 0) 1 1 Try.underlying70 hi hz0 hz1 hz2 rfl (by decide) _ _ _ rfl (hown.alloc _) ⟨wr.heap.size, 0, none⟩ 1 1 [.int .u8 (bits BinOp.or IntKind.u8 ((m : Int) % 256) 128)] rfl rfl ?c1 ?c2 ?c3 ?c4 ?c5 ?c6)
      case c1 => exact hone.out
      case c2 => simp [Value.oneCell']
      case c3 => simp [maxLen]; omega
      case c4 => simp; omega
      case c5 => have := hb.size; simp; omega
      case c6 =>
        intro v' w1 hown1 hg1 _
        rw [hor.out, cells_snoc] at hown1
        go_wp2_with fail
        clear hone hor
        refine ⟨⟨m / 128, done ++ [UInt8.ofNat (m % 128 + 128)], by go_num, Lib.hid (by have := hm.out; omega), by rw [List.length_append]; exact hown1, Lib.hid ?_, (hb.alloc hb.size _).grown hg1 (by have := hb.size; simp; omega) (fun k hk => (hown.lt k hk).1)⟩, ?_⟩
        · have h1 := hd.out
          rw [hub.out] at h1
          simpa using h1
        · simp [intOf]; omega
    · have hm' : m ≤ 127 := by omega
      have hub := Lib.hid (ub_small (n := m) (by omega))
      have hone2 := Lib.hid (cell_one_new wr (.int .u8 (m : Int)) 5)
      have e256 := Lib.hid (show (m : Int) = ((UInt8.ofNat m).toNat : Int) by simp only [UInt8.toNat_ofNat']; omega)
      go_wp2_with (at_builtin; refine wpList_append_own _ rfl _ _ 70 rfl w.heap.size 5 i0 (.int .u8 0) 1 1 Try.underlying70 hi hz0 hz1 hz2 rfl (by decide) _ _ _ rfl (hown.alloc _) ⟨wr.heap.size, 0, none⟩ 1 1 [.int .u8 (m : Int)] rfl rfl ?c1 ?c2 ?c3 ?c4 ?c5 ?c6)
      case c1 => exact hone2.out
      case c2 => simp [Value.oneCell']
      case c3 => simp [maxLen]; omega
      case c4 => simp; omega
      case c5 => have := hb.size; simp; omega
      case c6 =>
        intro v' w1 hown1 hg1 hnil
        have hown2 : w1.ownsRow w.heap.size 5 1 v' (done.length + 1) (Lib.byteCells (done ++ [UInt8.ofNat m])) := by rw [← cells_snoc, ← e256.out]; exact hown1
        have hnn : ¬ v' = .slice none 0 0 := hnil
        have hcv := convert_own (P := Try.prog) (src := 70) (dst := 9) hown2 hnn Try.underlying70 Try.underlying5 Try.underlying9
        have hfin : done ++ [UInt8.ofNat m] = ub n := by have h1 := hd.out; rw [hub.out] at h1; exact h1
        rw [hfin] at hcv
        have HB := (hb.alloc hb.size (.cells #[.int .u8 (m : Int)] 5)).grown hg1 (by have := hb.size; simp; omega) (fun k hk => (hown.lt k hk).1)
        clear hone hor hone2 e256 hnil hfin hown1 hown2
        go_wp2_with fail
        go_ret
        exact ⟨rfl, HB⟩
end Go.Proofs.Ytdcefhhmddjodaa

namespace Go.Proofs.Ytdcefhhmddjodaa
open Go.RowKit
set_option linter.unnecessarySimpa false
set_option linter.unusedVariables false
set_option linter.unusedSimpArgs false
set_option maxRecDepth 100000

/-- What Bytes tells, and what it leaves. -/
def cBytes (s : ByteArray) (bad : Bool) (n : Int) : ByteArray × ByteArray × Bool :=
  if bad = true ∨ n < 0 ∨ (s.size : Int) < n then (ByteArray.empty, s, true) else (s.extract 0 n.toNat, s.extract n.toNat s.size, false)

set_option maxHeartbeats 1600000 in
theorem cur_bytes (g : Nat) (s : ByteArray) (bad : Bool) (n : Int) (w : World) (hs : s.size ≤ maxLen) (h : CurAt w g s bad) :
    Calls Try.prog 76 #[.pointer (some ⟨g, 0, none⟩), .int .i64 n] w fun e w' => e = .returned (.string (cBytes s bad n).1) ∧ CurAt w' g (cBytes s bad n).2.1 (cBytes s bad n).2.2 ∧ w.grownBy w' (some g) := by
  have HS := Lib.hid hs
  have hs' := hs
  unfold maxLen at hs'
  have H := Lib.hid h
  have c0 := h.c0
  have c1 := h.c1
  have f1 := h.f1
  clear h hs
  cases bad
  · by_cases h0 : n < 0
    · have hd := Lib.hid (show cBytes s false n = (ByteArray.empty, s, true) by simp [cBytes, h0])
      go_enter Try.func76, Try.ntmps76
      go_wp2_with fail
      go_ret
      rw [hd.out]
      exact ⟨rfl, H.out.set1 true, grownBy_setCell _ _ _ _⟩
    · obtain ⟨k, rfl⟩ := Int.eq_ofNat_of_zero_le (show 0 ≤ n by omega)
      by_cases h1 : s.size < k
      · have hd := Lib.hid (show cBytes s false k = (ByteArray.empty, s, true) by simp [cBytes, h1])
        go_enter Try.func76, Try.ntmps76
        go_wp2_with fail
        go_ret
        rw [hd.out]
        exact ⟨rfl, H.out.set1 true, grownBy_setCell _ _ _ _⟩
      · have hd := Lib.hid (show cBytes s false k = (s.extract 0 k, s.extract k s.size, false) by simp [cBytes, h1])
        have hk : k ≤ s.size := by omega
        go_enter Try.func76, Try.ntmps76
        go_wp2_with (go_at_call 75; refine (take_any g s false k HS.out hk _ H.out).mono ?_; rintro e w' ⟨rfl, hc, hg⟩)
        go_ret
        rw [hd.out]
        exact ⟨rfl, hc, hg⟩
  · have hd := Lib.hid (show cBytes s true n = (ByteArray.empty, s, true) by simp [cBytes])
    go_enter Try.func76, Try.ntmps76
    go_wp2_with fail
    go_ret
    rw [hd.out]
    exact ⟨rfl, H.out.set1 true, grownBy_setCell _ _ _ _⟩

/-- What Text tells, and what it leaves. -/
def cText (s : ByteArray) (bad : Bool) : ByteArray × ByteArray × Bool :=
  if bad = true ∨ tkK s.data.toList = 0 ∨ s.size - tkK s.data.toList < tkN s.data.toList then (ByteArray.empty, s, true)
  else ((s.extract (tkK s.data.toList) s.size).extract 0 (tkN s.data.toList), (s.extract (tkK s.data.toList) s.size).extract (tkN s.data.toList) (s.size - tkK s.data.toList), false)

set_option maxHeartbeats 1600000 in
theorem cur_text (g : Nat) (s : ByteArray) (bad : Bool) (w : World) (hs : s.size ≤ maxLen) (h : CurAt w g s bad) :
    Calls Try.prog 79 #[.pointer (some ⟨g, 0, none⟩)] w fun e w' => e = .returned (.string (cText s bad).1) ∧ CurAt w' g (cText s bad).2.1 (cText s bad).2.2 ∧ w.grownBy w' (some g) := by
  have HS := Lib.hid hs
  have hs' := hs
  unfold maxLen at hs'
  have H := Lib.hid h
  have c0 := h.c0
  have c1 := h.c1
  have f1 := h.f1
  clear h hs
  cases bad
  · have hk := tkK_le s.data.toList
    rw [list_size] at hk
    by_cases h0 : tkK s.data.toList = 0
    · have hb : (((tkK s.data.toList : Nat) : Int) == 0) = true := by simp [h0]
      have hd := Lib.hid (show cText s false = (ByteArray.empty, s, true) by simp [cText, h0])
      clear h0
      go_enter Try.func79, Try.ntmps79
      go_wp2_with (go_at_call 74; refine (leading_any s HS.out _).mono ?_; rintro e w' ⟨rfl, rfl⟩)
      go_ret
      rw [hd.out]
      exact ⟨rfl, H.out.set1 true, grownBy_setCell _ _ _ _⟩
    · have hb : (((tkK s.data.toList : Nat) : Int) == 0) = false := by simp; omega
      by_cases h1 : s.size - tkK s.data.toList < tkN s.data.toList
      · have hd := Lib.hid (show cText s false = (ByteArray.empty, s, true) by simp [cText, h1])
        clear h0
        go_enter Try.func79, Try.ntmps79
        go_wp2_with (go_at_call 74; refine (leading_any s HS.out _).mono ?_; rintro e w' ⟨rfl, rfl⟩)
        go_ret
        rw [hd.out]
        exact ⟨rfl, H.out.set1 true, grownBy_setCell _ _ _ _⟩
      · have hd := Lib.hid (show cText s false = ((s.extract (tkK s.data.toList) s.size).extract 0 (tkN s.data.toList), (s.extract (tkK s.data.toList) s.size).extract (tkN s.data.toList) (s.size - tkK s.data.toList), false) by simp [cText, h0, h1])
        have hn : tkN s.data.toList ≤ s.size - tkK s.data.toList := by omega
        obtain ⟨s2, e2⟩ : ∃ s2, s.extract (tkK s.data.toList) s.size = s2 := ⟨_, rfl⟩
        have hz : s2.size = s.size - tkK s.data.toList := by rw [← e2]; simp
        have HZ := Lib.hid hz
        have E2 := Lib.hid e2
        have hn2 : tkN s.data.toList ≤ s2.size := by omega
        have hs2 : s2.size ≤ maxLen := by have := HS.out; omega
        have HS2 := Lib.hid hs2
        clear h0 h1 e2 hz hs2
        go_enter Try.func79, Try.ntmps79
        go_wp2_with (go_at_call 74; refine (leading_any s HS.out _).mono ?_; rintro e w' ⟨rfl, rfl⟩)
        refine (take_any g s false (tkK s.data.toList) HS.out hk _ H.out).mono ?_
        rintro e w1 ⟨rfl, hc, hg⟩
        rw [E2.out] at hc
        have HC := Lib.hid hc
        clear hc c0 c1 f1
        go_wp2_with fail
        refine (take_any g s2 false (tkN s.data.toList) HS2.out hn2 _ HC.out).mono ?_
        rintro e w2 ⟨rfl, hc2, hg2⟩
        rw [HZ.out] at hc2
        have HC2 := Lib.hid hc2
        clear hc2
        go_wp2_with fail
        go_ret
        rw [hd.out, E2.out]
        exact ⟨rfl, HC2.out, grownBy_trans hg hg2⟩
  · have hd := Lib.hid (show cText s true = (ByteArray.empty, s, true) by simp [cText])
    go_enter Try.func79, Try.ntmps79
    go_wp2_with fail
    go_ret
    rw [hd.out]
    exact ⟨rfl, H.out, grownBy_refl _ _⟩

set_option maxHeartbeats 800000 in
theorem text_any (s : ByteArray) (hs : s.size ≤ 140737488355328) (w : World) :
    Calls Try.prog 86 #[.string s] w fun e w' => e = .returned (.string (⟨(ub s.size).toArray⟩ ++ s)) ∧ Below w.heap.size w w' := by
  have HU := Lib.hid (uint_any s.size (by omega) w)
  have hl := ub_len10 (n := s.size) (by omega)
  go_enter Try.func86, Try.ntmps86
  go_wp2_with (go_at_call 62; refine HU.out.mono ?_; rintro e w' ⟨rfl, hb⟩)
  go_ret
  exact ⟨rfl, hb⟩
end Go.Proofs.Ytdcefhhmddjodaa
