/-
  Layer 7's 'awake', DiskTears and DiskFuses, from what is asked of the program's disk.
-/
import Derived.Test.YtmgdjnkdnakmhaaDskContracts
import Derived.Test.YtmgdjnkdnakmhaaClass
import Derived.Lib.Strings
import Derived.Lib.IndexBytes
import Derived.Laws.Rows
import Derived.Laws.Tables
import Derived.Deep.WholeRow
namespace Go.Proofs.Ytmgdjnkdnakmhaa
open Go.RowKit
set_option linter.unusedVariables false
set_option linter.unnecessarySimpa false
set_option linter.unusedSimpArgs false
set_option maxRecDepth 100000

/-- A sector of one byte, as Go's string. -/
def fullS (c : UInt8) : ByteArray := ⟨(fullB c).toArray⟩
theorem fullS_size (c : UInt8) : (fullS c).size = 64 := by show (fullB c).toArray.size = 64; rw [List.size_toArray, fullB_length]
theorem fullS_list (c : UInt8) : (fullS c).data.toList = fullB c := rfl
theorem full_s (c : UInt8) (w : World) : Calls Try.prog 18 #[.int .u8 (c.toNat : Int)] w fun e w' => e = .returned (.string (fullS c)) ∧ Below w.heap.size w w' := full_any c w
theorem full_5 (w : World) : Calls Try.prog 18 #[.int .u8 5] w fun e w' => e = .returned (.string (fullS 5)) ∧ Below w.heap.size w w' := full_any 5 w

theorem new_one (S : Dsk) (w : World) : Calls Try.prog 8 #[.int .i64 1] w fun e w' => ∃ r, e = .returned (.pointer (some r)) ∧ St S w w.heap.size r (DK.new 1) w' := st_new S 1 w (by omega) (by omega)
theorem new_two (S : Dsk) (w : World) : Calls Try.prog 8 #[.int .i64 2] w fun e w' => ∃ r, e = .returned (.pointer (some r)) ∧ St S w w.heap.size r (DK.new 2) w' := st_new S 2 w (by omega) (by omega)

theorem write_one (S : Dsk) {w0 w : World} {B : Nat} {r : Addr} {D : DK} (h : St S w0 B r D w) (c : UInt8) (h0 : D.fuse ≠ 0) (hi : 1 < D.seen.length) (hw : D.waits.length < 1000000) :
    Calls Try.prog 10 #[.pointer (some r), .int .i64 1, .string (fullS c)] w fun e w' => e = .returned (.int .i64 0) ∧ St S w0 B r (D.wrote 1 (fullB c)) w' := h.write 1 (fullS c) h0 hi (fullS_size c) hw
theorem write_zero (S : Dsk) {w0 w : World} {B : Nat} {r : Addr} {D : DK} (h : St S w0 B r D w) (c : UInt8) (h0 : D.fuse ≠ 0) (hi : 0 < D.seen.length) (hw : D.waits.length < 1000000) :
    Calls Try.prog 10 #[.pointer (some r), .int .i64 0, .string (fullS c)] w fun e w' => e = .returned (.int .i64 0) ∧ St S w0 B r (D.wrote 0 (fullB c)) w' := h.write 0 (fullS c) h0 hi (fullS_size c) hw
theorem waits_one (S : Dsk) {w0 w : World} {B : Nat} {r : Addr} {D : DK} (h : St S w0 B r D w) {n : Int} (hn : D.waits.length = n) :
    Calls Try.prog 16 #[.pointer (some r)] w fun e w' => e = .returned (.int .i64 n) ∧ St S w0 B r D w' := by subst hn; exact h.waits
theorem sectors_two (S : Dsk) {w0 w : World} {B : Nat} {r : Addr} {D : DK} (h : St S w0 B r D w) {n : Int} (hn : D.seen.length = n) :
    Calls Try.prog 17 #[.pointer (some r)] w fun e w' => e = .returned (.int .i64 n) ∧ St S w0 B r D w' := by subst hn; exact h.sectors

set_option maxHeartbeats 1000000 in
theorem dskAwake_any (S : Dsk) (w : World) : Calls Try.prog 6 #[] w fun e w' => e = .returned (.bool true) ∧ Below w.heap.size w w' := by
  have hf := Lib.hid full_5
  go_enter Try.func6, Try.ntmps6
  go_wp2_with (first
    | (go_at_call 8; refine (new_two S _).mono ?_; rintro e w1 ⟨r, rfl, hst⟩)
    | (go_at_call 17; refine (sectors_two S (n := 2) (by assumption) rfl).mono ?_; rintro e w2 ⟨rfl, hst2⟩)
    | (go_at_call 18; refine (hf.out _).mono ?_; rintro e w3 ⟨rfl, hb3⟩; have hst3 := hst2.stay hb3)
    | (go_at_call 10; refine (write_one S hst3 5 (by decide) (by decide) (by decide)).mono ?_; rintro e w4 ⟨rfl, hst4⟩)
    | (go_at_call 16; refine (waits_one S (n := 1) hst4 rfl).mono ?_; rintro e w5 ⟨rfl, hst5⟩))
  go_ret
  exact ⟨rfl, hst5.below⟩

theorem sync_any (S : Dsk) {w0 w : World} {B : Nat} {r : Addr} {D : DK} (h : St S w0 B r D w) (h0 : D.fuse ≠ 0) :
    Calls Try.prog 12 #[.pointer (some r)] w fun e w' => e = .returned (.int .i64 0) ∧ St S w0 B r D.synced w' := h.sync h0
theorem crash_one (S : Dsk) {w0 w : World} {B : Nat} {r : Addr} {D : DK} (h : St S w0 B r D w) (f : UInt8) :
    Calls Try.prog 14 #[.pointer (some r), .slice (some ⟨w.heap.size, 0, none⟩) 1 1] (w.alloc (.cells #[.int .u8 (f.toNat : Int)] 5)) fun e w' => e = .returned (.tuple #[]) ∧ St S w0 B r (D.crashed [f]) w' := by
  refine h.crash ((Below.refl _ _).alloc (Nat.le_refl _) _) _ _ _ [f] ⟨rfl, fun _ => ⟨w.heap.size, 0, rfl, by simp, fun i hi => ?_⟩⟩ (by omega) (fun b off s e => by simp only [Option.some.injEq, Addr.mk.injEq] at e; omega)
  obtain rfl : i = 0 := by omega
  have := heap_alloc_last w (.cells #[.int .u8 (f.toNat : Int)] 5)
  rw [cell_of_row _ _ _ _ _ _ this]
  rfl
theorem read_lit (S : Dsk) {w0 w : World} {B : Nat} {r : Addr} {D : DK} (h : St S w0 B r D w) {i : Nat} {l : List UInt8} (h0 : D.fuse ≠ 0) (hl : D.seen[i]? = some l) :
    Calls Try.prog 11 #[.pointer (some r), .int .i64 i] w fun e w' => e = .returned (.tuple #[.string ⟨l.toArray⟩, .int .i64 0]) ∧ St S w0 B r D w' := by
  obtain ⟨hi, e⟩ := List.getElem?_eq_some_iff.1 hl
  have := h.read i h0 hi
  rw [List.getD, hl] at this
  exact this
theorem read_0 (S : Dsk) {w0 w : World} {B : Nat} {r : Addr} {D : DK} (h : St S w0 B r D w) {l : List UInt8} (h0 : D.fuse ≠ 0) (hl : D.seen[0]? = some l) :
    Calls Try.prog 11 #[.pointer (some r), .int .i64 0] w fun e w' => e = .returned (.tuple #[.string ⟨l.toArray⟩, .int .i64 0]) ∧ St S w0 B r D w' := read_lit S (i := 0) h h0 hl
theorem read_1 (S : Dsk) {w0 w : World} {B : Nat} {r : Addr} {D : DK} (h : St S w0 B r D w) {l : List UInt8} (h0 : D.fuse ≠ 0) (hl : D.seen[1]? = some l) :
    Calls Try.prog 11 #[.pointer (some r), .int .i64 1] w fun e w' => e = .returned (.tuple #[.string ⟨l.toArray⟩, .int .i64 0]) ∧ St S w0 B r D w' := read_lit S (i := 1) h h0 hl

/-- What is there behind the tear. -/
def tornS (a b f : UInt8) : ByteArray := ⟨((fullB b).take (tear f) ++ (fullB a).drop (tear f)).toArray⟩
theorem tornS_eq (a b f : UInt8) : (fullS b).extract 0 (tear f) ++ (fullS a).extract (tear f) (fullS a).size = tornS a b f := by
  have h : ∀ a b : ByteArray, a.data.toList = b.data.toList → a = b := fun a b h => by
    cases a; cases b; simp only [ByteArray.mk.injEq]; exact Array.toList_inj.1 h
  apply h
  have h1 := Lib.extract_to_end (fullS a) (tear f)
  have h2 : ((fullS b).extract 0 (tear f)).data.toList = (fullB b).take (tear f) := by rw [Lib.extract_data]; simp [fullS_list]
  rw [ByteArray.data_append, Array.toList_append, h1, h2]
  rfl

def tearsD (a b f : UInt8) : DK := (((((DK.new 2).wrote 0 (fullB a)).wrote 1 (fullB a)).synced).wrote 0 (fullB b)).crashed [f]
theorem tearsD_0 (a b f : UInt8) : (tearsD a b f).seen[0]? = some ((fullB b).take (tear f) ++ (fullB a).drop (tear f)) := rfl
theorem tearsD_1 (a b f : UInt8) : (tearsD a b f).seen[1]? = some (fullB a) := rfl

theorem u8_of {a : Int} (h : (Lit.int .u8 a).wf = true) : ∃ c : UInt8, a = (c.toNat : Int) := by
  have hb := bounds_u8 h
  obtain ⟨n, rfl⟩ : ∃ n : Nat, a = n := ⟨a.toNat, by omega⟩
  exact ⟨UInt8.ofNat n, by rw [UInt8.toNat_ofNat']; omega⟩
theorem below_false {B : Nat} {w w' : World} (h : Below B w w') (hB : B = w.heap.size) : Below w.heap.size w w' := hB ▸ h

/-- The steps of DiskTears, each as a contract of its own, the disks behind names. -/
structure TearSteps (S : Dsk) (w0 : World) (B : Nat) (r : Addr) (a b f : UInt8) (D1 D2 D3 D4 D5 D6 : DK) : Prop where
  w1 : ∀ w, St S w0 B r D1 w → Calls Try.prog 10 #[.pointer (some r), .int .i64 0, .string (fullS a)] w fun e w' => e = .returned (.int .i64 0) ∧ St S w0 B r D2 w'
  w2 : ∀ w, St S w0 B r D2 w → Calls Try.prog 10 #[.pointer (some r), .int .i64 1, .string (fullS a)] w fun e w' => e = .returned (.int .i64 0) ∧ St S w0 B r D3 w'
  s3 : ∀ w, St S w0 B r D3 w → Calls Try.prog 12 #[.pointer (some r)] w fun e w' => e = .returned (.int .i64 0) ∧ St S w0 B r D4 w'
  w4 : ∀ w, St S w0 B r D4 w → Calls Try.prog 10 #[.pointer (some r), .int .i64 0, .string (fullS b)] w fun e w' => e = .returned (.int .i64 0) ∧ St S w0 B r D5 w'
  c5 : ∀ w, St S w0 B r D5 w → Calls Try.prog 14 #[.pointer (some r), .slice (some ⟨w.heap.size, 0, none⟩) 1 1] (w.alloc (.cells #[.int .u8 (f.toNat : Int)] 5)) fun e w' => e = .returned (.tuple #[]) ∧ St S w0 B r D6 w'
  r6 : ∀ w, St S w0 B r D6 w → Calls Try.prog 11 #[.pointer (some r), .int .i64 0] w fun e w' => e = .returned (.tuple #[.string (tornS a b f), .int .i64 0]) ∧ St S w0 B r D6 w'
  r7 : ∀ w, St S w0 B r D6 w → Calls Try.prog 11 #[.pointer (some r), .int .i64 1] w fun e w' => e = .returned (.tuple #[.string (fullS a), .int .i64 0]) ∧ St S w0 B r D6 w'

theorem tear_steps (S : Dsk) (w0 : World) (B : Nat) (r : Addr) (a b f : UInt8) : ∃ D2 D3 D4 D5 D6, TearSteps S w0 B r a b f (DK.new 2) D2 D3 D4 D5 D6 :=
  ⟨_, _, _, _, tearsD a b f,
    fun w h => write_zero S h a (by decide) (by decide) (by decide),
    fun w h => write_one S h a (by simp [DK.wrote, DK.new]) (by simp [DK.wrote, DK.new]) (by simp [DK.wrote, DK.new]),
    fun w h => sync_any S h (by simp [DK.wrote, DK.new]),
    fun w h => write_zero S h b (by simp [DK.wrote, DK.synced, DK.new]) (by simp [DK.wrote, DK.synced, DK.new]) (by simp [DK.wrote, DK.synced, DK.new]),
    fun w h => crash_one S h f,
    fun w h => read_0 S h (by simp [tearsD, DK.crashed]) (tearsD_0 a b f),
    fun w h => read_1 S h (by simp [tearsD, DK.crashed]) (tearsD_1 a b f)⟩

set_option maxHeartbeats 4000000 in
theorem diskTears_of (S : Dsk) (a0 : Int) (h0 : (Lit.int .u8 a0).wf = true) (a1 : Int) (h1 : (Lit.int .u8 a1).wf = true) (a2 : Int) (h2 : (Lit.int .u8 a2).wf = true) (w : World) :
    Calls Try.prog 4 #[.int .u8 a0, .int .u8 a1, .int .u8 a2] w fun e w' => e = .returned (.bool true) ∧ Below w.heap.size w w' := by
  obtain ⟨a, rfl⟩ := u8_of h0
  obtain ⟨b, rfl⟩ := u8_of h1
  obtain ⟨f, rfl⟩ := u8_of h2
  clear h0 h1 h2
  have hfa := Lib.hid (full_s a)
  have hfb := Lib.hid (full_s b)
  have haw := Lib.hid (dskAwake_any S)
  go_enter Try.func4, Try.ntmps4
  go_upto_region 4 with (first
    | (go_at_call 8; refine (new_two S _).mono ?_; rintro e w1 ⟨r, rfl, hst⟩)
    | (go_at_call 6; refine (haw.out _).mono ?_; rintro e w2 ⟨rfl, hb2⟩; have hst2 := hst.stay hb2))
  obtain ⟨D2, D3, D4, D5, D6, hT⟩ := tear_steps S w w.heap.size r a b f
  obtain ⟨D1, hD1⟩ : ∃ D1, D1 = DK.new 2 := ⟨_, rfl⟩
  rw [← hD1] at hT hst2
  have HT := Lib.hid hT
  clear hD1 hst hb2 hT
  go_upto_region 6 with (first
    | (go_at_call 18; (with_reducible refine (hfa.out _).mono ?_); rintro e wf ⟨rfl, hbf⟩; have hsf := St.stay (S := S) (by assumption) hbf)
    | (go_at_call 18; (with_reducible refine (hfb.out _).mono ?_); rintro e wg ⟨rfl, hbg⟩; have hsg := St.stay (S := S) (by assumption) hbg)
    | (go_at_call 10; (with_reducible refine (HT.out.w1 _ (by assumption)).mono ?_); rintro e wz ⟨rfl, hsz⟩)
    | (go_at_call 10; (with_reducible refine (HT.out.w2 _ (by assumption)).mono ?_); rintro e wo ⟨rfl, hso⟩)
    | (go_at_call 10; (with_reducible refine (HT.out.w4 _ (by assumption)).mono ?_); rintro e wu ⟨rfl, hsu⟩)
    | (go_at_call 12; refine (HT.out.s3 _ (by assumption)).mono ?_; rintro e ws ⟨rfl, hss⟩))
  have hst5 := hsu
  clear hst2 hsz hso hss hsg
  obtain ⟨n, hn⟩ : ∃ n, n = tear f := ⟨_, rfl⟩
  have hn64 : n ≤ 64 := by rw [hn]; exact tear_le f
  have hTS := Lib.hid (show (fullS b).extract 0 n ++ (fullS a).extract n (fullS a).size = tornS a b f by rw [hn]; exact tornS_eq a b f)
  have hcase : (((f.toNat : Int) == 255) = true ∧ n = 64) ∨ (((f.toNat : Int) == 255) = false ∧ (f.toNat : Int) % 64 = (n : Int)) := by
    by_cases hf : f = 255
    · exact .inl ⟨by rw [hf]; rfl, by rw [hn, hf]; rfl⟩
    · right
      refine ⟨?_, by rw [hn, tear, if_neg hf]; rfl⟩
      rw [beq_eq_false_iff_ne]
      intro e
      exact hf (UInt8.toNat_inj.1 (by rw [show (255 : UInt8).toNat = 255 from rfl]; omega))
  clear hn
  have hA : 64 ≤ (fullS a).size ∧ (fullS a).size ≤ 64 := by have := fullS_size a; omega
  have hB : 64 ≤ (fullS b).size ∧ (fullS b).size ≤ 64 := by have := fullS_size b; omega
  obtain ⟨hA1, hA2⟩ := hA
  obtain ⟨hB1, hB2⟩ := hB
  obtain ⟨X, hX⟩ : ∃ X, X = tornS a b f := ⟨_, rfl⟩
  rw [← hX] at hTS
  have HX := Lib.hid hX
  have hr6 := Lib.hid HT.out.r6
  rw [← hX] at hr6
  clear hX
  rcases hcase with ⟨hf, hn⟩ | ⟨hf1, hf2⟩
  · subst hn
    have hfl : (f.toNat : Int) < 256 := by have := UInt8.toNat_lt f; omega
    go_upto_region 12 with (first
      | (go_at_call 14; (with_reducible refine (HT.out.c5 _ (by assumption)).mono ?_); rintro e wc ⟨rfl, hsc⟩)
      | (go_at_call 11; (with_reducible refine (hr6.out _ (by assumption)).mono ?_); rintro e wr ⟨rfl, hsr⟩)
      | (go_at_call 11; (with_reducible refine (HT.out.r7 _ (by assumption)).mono ?_); rintro e wq ⟨rfl, hsq⟩))
    have hW := Lib.hid hsq.below
    have hts := hTS.out
    have hz1 : ((fullS b).extract 0 64).size + ((fullS a).extract 64 (fullS a).size).size ≤ 9223372036854775807 := by rw [ByteArray.size_extract, ByteArray.size_extract]; omega
    refine region_likes (by kernel_rfl) (by kernel_rfl) ?_
    repeat (go_big_quiet_step (first
        | (go_at_call 18; with_reducible exact calls_likes (Like.size _) (hfa.out _))
        | (go_at_call 18; with_reducible exact calls_likes (Like.size _) (hfb.out _))))
    refine wpQuiet_nil ?_
    intro x
    have hx := Lib.hid (show Below w.heap.size w x.val from hW.out.trans (x.below.mono hW.out.size))
    go_wp2_with fail
    go_ret
    exact ⟨rfl, hx.out⟩
  · have HF2 := Lib.hid hf2
    clear hf2
    have hfl : (f.toNat : Int) < 256 := by have := UInt8.toNat_lt f; omega
    go_upto_region 12 with (first
      | (go_at_call 14; (with_reducible refine (HT.out.c5 _ (by assumption)).mono ?_); rintro e wc ⟨rfl, hsc⟩)
      | (go_at_call 11; (with_reducible refine (hr6.out _ (by assumption)).mono ?_); rintro e wr ⟨rfl, hsr⟩)
      | (go_at_call 11; (with_reducible refine (HT.out.r7 _ (by assumption)).mono ?_); rintro e wq ⟨rfl, hsq⟩))
    rw [HF2.out]
    have hW := Lib.hid hsq.below
    have hts := hTS.out
    have hz1 : ((fullS b).extract 0 n).size + ((fullS a).extract n (fullS a).size).size ≤ 9223372036854775807 := by rw [ByteArray.size_extract, ByteArray.size_extract]; omega
    refine region_likes (by kernel_rfl) (by kernel_rfl) ?_
    repeat (go_big_quiet_step (first
        | (go_at_call 18; with_reducible exact calls_likes (Like.size _) (hfa.out _))
        | (go_at_call 18; with_reducible exact calls_likes (Like.size _) (hfb.out _))))
    refine wpQuiet_nil ?_
    intro x
    have hx := Lib.hid (show Below w.heap.size w x.val from hW.out.trans (x.below.mono hW.out.size))
    go_wp2_with fail
    go_ret
    exact ⟨rfl, hx.out⟩
end Go.Proofs.Ytmgdjnkdnakmhaa
