/-
  The program's disk keeps what is asked of it.
-/
import Derived.Test.YtlkifliaaaomeaaDskPNew
import Derived.Test.YtlkifliaaaomeaaDskPWrite
import Derived.Test.YtlkifliaaaomeaaDskPSync
namespace Go.Proofs.Ytlkifliaaaomeaa
open Go.RowKit
set_option linter.unusedVariables false
set_option linter.unnecessarySimpa false
set_option linter.unusedSimpArgs false
set_option maxRecDepth 100000

section
variable {w : World} {r : Addr} {D : DK} {O : Nat → Prop}
theorem lostP {D : DK} (hok : D.ok) : ((decide (0 ≤ D.fuse)) && (max D.fuse 0 == 0)) = decide (D.fuse = 0) := by
  have := hok.fuse
  by_cases h : D.fuse = 0
  · simp [h]
  · have h2 : D.fuse = -1 ∨ 0 < D.fuse := by omega
    rcases h2 with h2 | h2
    · simp [h2]
    · have h3 : max D.fuse 0 = D.fuse := by omega
      rw [h3]
      simp [h]
theorem lostYes {D : DK} (hok : D.ok) (h : D.fuse = 0) : ((decide (0 ≤ D.fuse)) && (max D.fuse 0 == 0)) = true := by rw [lostP hok]; simpa using h
theorem lostNo {D : DK} (hok : D.ok) (h : D.fuse ≠ 0) : ((decide (0 ≤ D.fuse)) && (max D.fuse 0 == 0)) = false := by rw [lostP hok]; simpa using h
theorem noSec {i : Int} {n : Nat} (h : i < 0 ∨ (n : Int) ≤ i) : (decide (0 ≤ i) && decide (i < (n : Int))) = false := by
  rcases h with h | h
  · simp [show ¬ 0 ≤ i by omega]
  · simp [show ¬ i < (n : Int) by omega]
theorem Moves.onto {O O' : Nat → Prop} {w w' : World} {g gs : Nat} {vb : Value} (hO : ∀ k, O k ↔ pOwn g gs vb k) (h : Moves (pOwn g gs vb) O' w w') : Moves O O' w w' := by
  have : O = pOwn g gs vb := by funext k; exact propext (hO k)
  rw [this]; exact h
theorem same_below {w w' : World} (h : w = w') : Below w.heap.size w w' := by subst h; exact Below.refl _ _

theorem dsk_read (h : PAt w r D O) (i : Nat) (h0 : D.fuse ≠ 0) (hi : i < D.seen.length) :
    Calls Try.prog 32 #[.pointer (some r), .int .i64 i] w fun e w' => e = .returned (.tuple #[.string ⟨(D.seen.getD i []).toArray⟩, .int .i64 0]) ∧ Below w.heap.size w w' := by
  obtain ⟨hok, g, gs, vb, P, rfl, hp, hO⟩ := h
  have hl := hp.len
  have hsm := hok.small
  refine (p_read w g gs _ vb P _ _ _ hp.mem i (lostNo hok h0) (by omega) (by omega) _ (hp.getP hi)).mono ?_
  rintro e w' ⟨rfl, rfl⟩
  exact ⟨rfl, Below.refl _ _⟩
theorem dsk_write (h : PAt w r D O) (i : Nat) (b : ByteArray) (h0 : D.fuse ≠ 0) (hi : i < D.seen.length) (hb : b.size = 64) (hw : D.waits.length < 1000000) :
    Calls Try.prog 19 #[.pointer (some r), .int .i64 i, .string b] w fun e w' => ∃ O', e = .returned (.int .i64 0) ∧ PAt w' r (D.wrote i b.data.toList) O' ∧ Moves O O' w w' := by
  obtain ⟨hok, g, gs, vb, P, rfl, hp, hO⟩ := h
  have hl := hp.len
  have hsm := hok.small
  have hfu := hok.fuse
  have hbl : b.data.toList.length = 64 := by rw [← Lib.size_eq]; exact hb
  have hpi := hp.getP hi
  refine (p_write w g gs _ vb P _ _ _ hp.mem i b (lostNo hok h0) (by omega) (by omega) _ hpi hb hw (by omega)).mono ?_
  rintro e w' ⟨vb', rfl, hd, hm⟩
  refine ⟨_, rfl, ⟨DK.wrote_ok hok hi hbl, g, gs, vb', P.set i (b.data.toList, (D.seen.getD i [], D.sure.getD i []).2), rfl, ⟨?_, ?_, ?_, ?_, ?_⟩, fun k => Iff.rfl⟩, Moves.onto hO hm⟩
  · have e1 : decide (0 ≤ (D.wrote i b.data.toList).fuse) = decide (0 ≤ D.fuse) := by
      show decide (0 ≤ if 0 < D.fuse then D.fuse - 1 else D.fuse) = _
      congr 1
      apply propext
      split <;> omega
    have e2 : max (D.wrote i b.data.toList).fuse 0 = if decide (0 ≤ D.fuse) = true then max D.fuse 0 - 1 else max D.fuse 0 := by
      show max (if 0 < D.fuse then D.fuse - 1 else D.fuse) 0 = _
      by_cases h1 : 0 ≤ D.fuse
      · rw [if_pos (show 0 < D.fuse by omega), if_pos (by simpa using h1)]; omega
      · rw [if_neg (show ¬ 0 < D.fuse by omega), if_neg (by simpa using h1)]
    rw [e1, e2, List.length_set]
    exact hd
  · show D.seen.set i b.data.toList = _
    rw [List.map_set, hp.seen]
  · show D.sure = _
    rw [List.map_set, hp.sure]
    apply List.ext_getElem?
    intro j
    rw [List.getElem?_set]
    split
    · rename_i e
      subst e
      split
      · rename_i h2
        rw [hp.sure] at hpi
        rw [List.getElem?_map, hpi]
        rfl
      · rename_i h2
        rw [List.getElem?_eq_none (by omega)]
    · rfl
  · show D.seen.set i b.data.toList = madeAll D.sure (D.waits ++ [(i, b.data.toList)])
    rw [madeAll_snoc, ← hp.made]
  · show (D.waits ++ [(i, b.data.toList)]).length ≤ 1000000
    rw [List.length_append, List.length_singleton]; omega
theorem dsk_sync (h : PAt w r D O) (h0 : D.fuse ≠ 0) :
    Calls Try.prog 25 #[.pointer (some r)] w fun e w' => ∃ O', e = .returned (.int .i64 0) ∧ PAt w' r D.synced O' ∧ Moves O O' w w' := by
  obtain ⟨hok, g, gs, vb, P, rfl, hp, hO⟩ := h
  have hl := hp.len
  have hsm := hok.small
  refine (p_sync w g gs _ vb P _ _ _ hp.mem (lostNo hok h0) (by omega) (fun x hx => by have := hok.waits x hx; omega) hp.few).mono ?_
  rintro e w' ⟨rfl, hd, hm⟩
  have e0 : (syncP P D.waits).length = P.length := by have := hd.len; exact this
  refine ⟨_, rfl, ⟨DK.synced_ok hok, g, gs, _, syncP P D.waits, rfl, ⟨?_, ?_, ?_, rfl, by show 0 ≤ 1000000; omega⟩, fun k => Iff.rfl⟩, Moves.onto hO hm⟩
  · rw [e0]; exact hd
  · show D.seen = _
    rw [syncP_fst, hp.seen]
  · show D.seen = _
    rw [syncP_snd, ← hp.sure, hp.made]
end

/-- The program's disk. -/
noncomputable def dsk : Dsk where
  At := PAt
  lt := fun h => h.lt
  good := fun h => h.1
  stay := fun h hk => h.stay hk
  new := fun n w h1 h2 => by
    refine (p_new n h1 h2 w).mono ?_
    rintro e w' ⟨g, gs, rfl, hd, hm⟩
    have hle := p_clamp_le n
    refine ⟨⟨g, 0, none⟩, _, rfl, ⟨DK.new_ok hle, g, gs, _, List.replicate (clampD n) (fullB 0, fullB 0), rfl, ⟨?_, ?_, ?_, rfl, by show 0 ≤ 1000000; omega⟩, fun k => Iff.rfl⟩, hm⟩
    · rw [List.length_replicate]; exact hd
    · show List.replicate _ _ = _
      rw [List.map_replicate]
    · show List.replicate _ _ = _
      rw [List.map_replicate]
  sectors := fun {w r D O} h => by
    obtain ⟨hok, g, gs, vb, P, rfl, hp, hO⟩ := h
    refine (p_sectors w g gs _ vb P _ _ _ hp.mem).mono ?_
    rintro e w' ⟨rfl, rfl⟩
    exact ⟨by rw [hp.len], Below.refl _ _⟩
  waits := fun {w r D O} h => by
    obtain ⟨hok, g, gs, vb, P, rfl, hp, hO⟩ := h
    refine (p_waits w g gs _ vb P _ _ _ hp.mem).mono ?_
    rintro e w' ⟨rfl, rfl⟩
    exact ⟨rfl, Below.refl _ _⟩
  readLost := fun {w r D O} h i h0 => by
    obtain ⟨hok, g, gs, vb, P, rfl, hp, hO⟩ := h
    refine (p_readLost w g gs _ vb P _ _ _ hp.mem i (lostYes hok h0)).mono ?_
    rintro e w' ⟨rfl, rfl⟩
    exact ⟨rfl, Below.refl _ _⟩
  readNone := fun {w r D O} h i h0 hi => by
    obtain ⟨hok, g, gs, vb, P, rfl, hp, hO⟩ := h
    refine (p_readNone w g gs _ vb P _ _ _ hp.mem i (lostNo hok h0) (noSec (by rw [hp.len]; exact hi))).mono ?_
    rintro e w' ⟨rfl, rfl⟩
    exact ⟨rfl, Below.refl _ _⟩
  read := fun h i h0 hi => dsk_read h i h0 hi
  writeLost := fun {w r D O} h i b h0 => by
    obtain ⟨hok, g, gs, vb, P, rfl, hp, hO⟩ := h
    refine (p_writeLost w g gs _ vb P _ _ _ hp.mem i b (lostYes hok h0)).mono ?_
    rintro e w' ⟨rfl, rfl⟩
    exact ⟨rfl, Below.refl _ _⟩
  writeNone := fun {w r D O} h i b h0 hi => by
    obtain ⟨hok, g, gs, vb, P, rfl, hp, hO⟩ := h
    refine (p_writeNone w g gs _ vb P _ _ _ hp.mem i b (lostNo hok h0) ?_).mono ?_
    · rcases hi with hi | hi | hi
      · exact .inl (noSec (.inl hi))
      · exact .inl (noSec (.inr (by rw [hp.len]; exact hi)))
      · exact .inr hi
    · rintro e w' ⟨rfl, rfl⟩
      exact ⟨rfl, Below.refl _ _⟩
  write := fun h i b h0 hi hb hw => dsk_write h i b h0 hi hb hw
  syncLost := fun {w r D O} h h0 => by
    obtain ⟨hok, g, gs, vb, P, rfl, hp, hO⟩ := h
    refine (p_syncLost w g gs _ vb P _ _ _ hp.mem (lostYes hok h0)).mono ?_
    rintro e w' ⟨rfl, rfl⟩
    exact ⟨rfl, Below.refl _ _⟩
  sync := fun h h0 => dsk_sync h h0
end Go.Proofs.Ytlkifliaaaomeaa
