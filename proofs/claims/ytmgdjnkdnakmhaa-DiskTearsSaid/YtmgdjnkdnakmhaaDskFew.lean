/-
  Calls as data in memory; the document's Few.
-/
import Derived.Test.YtmgdjnkdnakmhaaDskRef
import Derived.Deep.LoopGhost
namespace Go.Proofs.Ytmgdjnkdnakmhaa
open Go.RowKit
set_option linter.unusedVariables false
set_option linter.unnecessarySimpa false
set_option linter.unusedSimpArgs false
set_option maxRecDepth 100000

/-- A call as data: its arguments, and what the fates are. -/
structure Opz where
  o : Opn
  fates : List UInt8
def opz0 : Opz := ⟨⟨0, 0, 0, ByteArray.empty, none, 0, 0⟩, []⟩
/-- A call lies at a place. -/
structure OpAt (W : World) (b at_ : Nat) (z : Opz) : Prop where
  kind : z.o.kind < 256
  i : -9223372036854775808 ≤ z.o.i ∧ z.o.i ≤ 9223372036854775807
  n : -9223372036854775808 ≤ z.o.n ∧ z.o.n ≤ 9223372036854775807
  fl : z.o.fl ≤ 9223372036854775807
  sz : z.o.b.size ≤ 9223372036854775807
  c0 : W.cell? ⟨b, at_, none⟩ = some (.int .u8 (z.o.kind : Int))
  c1 : W.cell? ⟨b, at_ + 1, none⟩ = some (.int .i64 z.o.i)
  c2 : W.cell? ⟨b, at_ + 2, none⟩ = some (.int .i64 z.o.n)
  c3 : W.cell? ⟨b, at_ + 3, none⟩ = some (.string z.o.b)
  c4 : W.cell? ⟨b, at_ + 4, none⟩ = some (.slice z.o.fa z.o.fl z.o.fc)
  fates : BytesAt W z.o.fa z.o.fl z.fates
/-- A slice of calls that came in. -/
def IsOps (W : World) (a : Option Addr) (len _cap : Nat) (zs : List Opz) : Prop :=
  zs.length = len ∧ len ≤ maxLen ∧ (0 < len → ∃ b off, a = some ⟨b, off, none⟩ ∧ b < W.heap.size ∧ ∀ i, i < len → OpAt W b (off + i * 5) (zs.getD i opz0))

def smallOp (z : Opz) : Prop := z.o.b.size ≤ 200 ∧ z.o.fl ≤ 200
def FewOps (zs : List Opz) (n : Nat) : Prop := (∀ i, i < zs.length → i < 300 → smallOp (zs.getD i opz0)) ∧ zs.length ≤ n

set_option maxHeartbeats 2000000 in
theorem few_yes (a : Option Addr) (len cap n : Nat) (zs : List Opz) (w : World) (hz : IsOps w a len cap zs) (hn : n < 300) (hf : FewOps zs n) :
    Calls Try.prog 7 #[.slice a len cap, .int .i64 (n : Int)] w fun e w' => e = .returned (.bool true) ∧ w' = w := by
  have HZ := Lib.hid hz
  have HF := Lib.hid hf
  have hln : len ≤ n := by rw [← hz.1]; exact hf.2
  have hlz : ((len : Int) ≤ (n : Int)) := by omega
  clear hz hf
  go_enter Try.func7, Try.ntmps7
  go_wp2_with fail
  go_loopg [5] len (fun g s5 wx => ∃ i : Nat, i + g = len ∧ s5 = .int .i64 i ∧ wx = w)
  case atStart => exact ⟨0, by omega, rfl, rfl⟩
  case round =>
    obtain ⟨i, hig, rfl, rfl⟩ := hrel
    cases gk with
    | zero =>
      obtain rfl : len = i := by omega
      go_wp2_with fail
      go_ret
      exact ⟨rfl, rfl⟩
    | succ g =>
      have hil : i < len := by omega
      have hiz : (i : Int) < (len : Int) := by omega
      have hi3 : (i : Int) < 300 := by omega
      obtain ⟨b, off, rfl, hbl, hop⟩ := HZ.out.2.2 (by omega)
      have h1 := hop i hil
      have h2 := HF.out.1 i (by rw [HZ.out.1]; exact hil) (by omega)
      obtain ⟨z, hzz⟩ : ∃ z, z = zs.getD i opz0 := ⟨_, rfl⟩
      rw [← hzz] at h1 h2
      have c3 := h1.c3
      have c4 := h1.c4
      have hb2 : ¬ (200 : Int) < (z.o.b.size : Int) := by have := h2.1; omega
      have hb3 : ¬ (200 : Int) < (z.o.fl : Int) := by have := h2.2; omega
      clear hop h1 h2 hzz hbl
      go_wp2_with fail
      go_roundg g
      case measure => omega
      case rel => exact ⟨i + 1, by omega, by go_num, rfl⟩

set_option maxHeartbeats 2000000 in
theorem few_no (a : Option Addr) (len cap n : Nat) (zs : List Opz) (w : World) (hz : IsOps w a len cap zs) (hn : n < 300) (hf : ¬ FewOps zs n) :
    Calls Try.prog 7 #[.slice a len cap, .int .i64 (n : Int)] w fun e w' => e = .returned (.bool false) ∧ w' = w := by
  have HZ := Lib.hid hz
  have hlm := hz.2.1
  unfold maxLen at hlm
  have hcase : (∃ i0, i0 < len ∧ i0 < 300 ∧ ¬ smallOp (zs.getD i0 opz0) ∧ ∀ i, i < i0 → smallOp (zs.getD i opz0)) ∨ (n < len ∧ ∀ i, i < len → i < 300 → smallOp (zs.getD i opz0)) := by
    by_cases h : ∀ i, i < len → i < 300 → smallOp (zs.getD i opz0)
    · refine .inr ⟨?_, h⟩
      have : ¬ zs.length ≤ n := fun h2 => hf ⟨fun i h3 h4 => h i (by rw [← hz.1]; exact h3) h4, h2⟩
      rw [hz.1] at this
      omega
    · left
      have key : ∀ k, (∀ i, i < k → i < len → i < 300 → smallOp (zs.getD i opz0)) ∨ ∃ i0, i0 < len ∧ i0 < 300 ∧ ¬ smallOp (zs.getD i0 opz0) ∧ ∀ i, i < i0 → smallOp (zs.getD i opz0) := by
        intro k
        induction k with
        | zero => exact .inl fun i h0 => absurd h0 (by omega)
        | succ k ih =>
          rcases ih with ih | ih
          · by_cases hk : k < len ∧ k < 300 ∧ ¬ smallOp (zs.getD k opz0)
            · exact .inr ⟨k, hk.1, hk.2.1, hk.2.2, fun i hi => ih i hi (by omega) (by omega)⟩
            · refine .inl fun i hi h1 h2 => ?_
              by_cases hik : i < k
              · exact ih i hik h1 h2
              · obtain rfl : i = k := by omega
                exact Classical.byContradiction fun h3 => hk ⟨h1, h2, h3⟩
          · exact .inr ih
      rcases key len with h2 | h2
      · exact absurd (fun i hi h3 => h2 i hi hi h3) h
      · exact h2
  clear hz hf
  rcases hcase with ⟨i0, h1, h2, h3, h4⟩ | ⟨h1, h2⟩
  · have H3 := Lib.hid h3
    have H4 := Lib.hid h4
    clear h3 h4
    go_enter Try.func7, Try.ntmps7
    go_wp2_with fail
    go_loopg [5] i0 (fun g s5 wx => ∃ i : Nat, i + g = i0 ∧ s5 = .int .i64 i ∧ wx = w)
    case atStart => exact ⟨0, by omega, rfl, rfl⟩
    case round =>
      obtain ⟨i, hig, rfl, rfl⟩ := hrel
      have hil : i < len := by omega
      have hiz : (i : Int) < (len : Int) := by omega
      have hi3 : (i : Int) < 300 := by omega
      obtain ⟨b, off, rfl, hbl, hop⟩ := HZ.out.2.2 (by omega)
      have hq := hop i hil
      cases gk with
      | zero =>
        obtain rfl : i = i0 := by omega
        have hs := H3.out
        obtain ⟨z, hzz⟩ : ∃ z, z = zs.getD i opz0 := ⟨_, rfl⟩
        rw [← hzz] at hq hs
        have c3 := hq.c3
        have c4 := hq.c4
        have hcs : (200 : Int) < (z.o.b.size : Int) ∨ (¬ (200 : Int) < (z.o.b.size : Int) ∧ (200 : Int) < (z.o.fl : Int)) := by
          by_cases h5 : z.o.b.size ≤ 200
          · have : ¬ z.o.fl ≤ 200 := fun h6 => hs ⟨h5, h6⟩
            omega
          · omega
        clear hop hq hzz hbl hs
        rcases hcs with h5 | ⟨h5, h6⟩
        all_goals
          go_wp2_with fail
          go_ret
          exact ⟨rfl, rfl⟩
      | succ g =>
        have hs := H4.out i (by omega)
        obtain ⟨z, hzz⟩ : ∃ z, z = zs.getD i opz0 := ⟨_, rfl⟩
        rw [← hzz] at hq hs
        have c3 := hq.c3
        have c4 := hq.c4
        have hb2 : ¬ (200 : Int) < (z.o.b.size : Int) := by have := hs.1; omega
        have hb3 : ¬ (200 : Int) < (z.o.fl : Int) := by have := hs.2; omega
        clear hop hq hzz hbl hs
        go_wp2_with fail
        go_roundg g
        case measure => omega
        case rel => exact ⟨i + 1, by omega, by go_num, rfl⟩
  · have H2 := Lib.hid h2
    have hnz : ¬ ((len : Int) ≤ (n : Int)) := by omega
    have hnd : decide ((len : Int) ≤ (n : Int)) = false := by simpa using h1
    have hnd2 : decide (len ≤ n) = false := by simpa using h1
    clear h2
    go_enter Try.func7, Try.ntmps7
    go_wp2_with fail
    go_loopg [5] (min len 300) (fun g s5 wx => ∃ i : Nat, i + g = min len 300 ∧ s5 = .int .i64 i ∧ wx = w)
    case atStart => exact ⟨0, by omega, rfl, rfl⟩
    case round =>
      obtain ⟨i, hig, rfl, rfl⟩ := hrel
      cases gk with
      | zero =>
        have hcs : (i = len) ∨ (i < len ∧ i = 300) := by omega
        clear hig
        rcases hcs with rfl | ⟨h5, rfl⟩
        · go_wp2_with fail
          go_ret
          exact ⟨rfl, rfl⟩
        · have h6 : (300 : Int) < (len : Int) := by omega
          go_wp2_with fail
          go_ret
          exact ⟨rfl, rfl⟩
      | succ g =>
        have hil : i < len := by omega
        have hiz : (i : Int) < (len : Int) := by omega
        have hi3 : (i : Int) < 300 := by omega
        obtain ⟨b, off, rfl, hbl, hop⟩ := HZ.out.2.2 (by omega)
        have hq := hop i hil
        have hs := H2.out i hil (by omega)
        obtain ⟨z, hzz⟩ : ∃ z, z = zs.getD i opz0 := ⟨_, rfl⟩
        rw [← hzz] at hq hs
        have c3 := hq.c3
        have c4 := hq.c4
        have hb2 : ¬ (200 : Int) < (z.o.b.size : Int) := by have := hs.1; omega
        have hb3 : ¬ (200 : Int) < (z.o.fl : Int) := by have := hs.2; omega
        clear hop hq hzz hbl hs
        go_wp2_with fail
        go_roundg g
        case measure => omega
        case rel => exact ⟨i + 1, by omega, by go_num, rfl⟩
end Go.Proofs.Ytmgdjnkdnakmhaa
