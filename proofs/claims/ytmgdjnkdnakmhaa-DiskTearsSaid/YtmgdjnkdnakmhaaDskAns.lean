/-
  What a call of a disk answers, as mathematics; the document's Do answers that.
-/
import Derived.Test.YtmgdjnkdnakmhaaDskRefX
import Derived.Test.YtmgdjnkdnakmhaaDskRefN
import Derived.Test.YtmgdjnkdnakmhaaDskFew
namespace Go.Proofs.Ytmgdjnkdnakmhaa
open Go.RowKit
set_option linter.unusedVariables false
set_option linter.unnecessarySimpa false
set_option linter.unusedSimpArgs false
set_option maxRecDepth 100000

def badAt (D : DK) (z : Opz) : Prop := z.o.kind % 5 < 2 ∧ (z.o.i < 0 ∨ (D.seen.length : Int) ≤ z.o.i ∨ (z.o.kind % 5 = 0 ∧ z.o.b.size ≠ 64))
instance (D : DK) (z : Opz) : Decidable (badAt D z) := by unfold badAt; infer_instance
/-- What is answered, and the disk behind it. -/
def ansD (D : DK) (z : Opz) : (List UInt8 × Int) × DK :=
  if z.o.kind % 5 < 3 ∧ D.fuse = 0 then (([], 6), D) else if badAt D z then (([], 1), D)
  else if z.o.kind % 5 = 0 then (([], 0), D.wrote z.o.i.toNat z.o.b.data.toList)
  else if z.o.kind % 5 = 1 then ((D.seen.getD z.o.i.toNat [], 0), D)
  else if z.o.kind % 5 = 2 then (([], 0), D.synced)
  else if z.o.kind % 5 = 3 then (([], 0), D.lit z.o.n) else (([], 0), D.crashed z.fates)

theorem RefD.own {w w' : World} {r : Addr} {D' : DK} {O : Nat → Prop} {g N gs gn : Nat} {va vb va' vb' : Value} (hr : r = ⟨g, 0, none⟩) (hO : ∀ k, O k ↔ refOwn g gs gn va vb k) (hok : D'.ok) (h : RefAt w' g D' N gs gn va' vb')
    (hm : Moves (refOwn g gs gn va vb) (refOwn g gs gn va' vb') w w') : ∃ O', RefD w' r D' O' ∧ Moves O O' w w' := by
  refine ⟨refOwn g gs gn va' vb', ⟨hok, g, N, gs, gn, va', vb', hr, h, fun _ => Iff.rfl⟩, ⟨hm.os, hm.tape, hm.output, hm.size, fun k hk hn => hm.block k hk (fun e => hn ((hO k).2 e)), fun k hk => (hm.own k hk).elim (fun e => .inl ((hO k).2 e)) .inr⟩⟩
theorem RefD.same {w w' : World} {r : Addr} {D : DK} {O : Nat → Prop} (h : RefD w r D O) (hb : Below w.heap.size w w') : ∃ O', RefD w' r D O' ∧ Moves O O' w w' :=
  ⟨O, h.stay (fun k hk => hb.block k (h.lt k hk)), Moves.of_below hb⟩

set_option maxHeartbeats 1000000 in
theorem refDo_any (w : World) (r : Addr) (D : DK) (O : Nat → Prop) (h : RefD w r D O) (z : Opz) (hn : z.o.n ≤ 9223372036854775807) (hfa : BytesAt w z.o.fa z.o.fl z.fates) (hfar : 0 < z.o.fl → ∀ b off s, z.o.fa = some ⟨b, off, s⟩ → ¬ O b) (hmany : D.waits.length < 1000000) (hfl : z.o.fl ≤ 1000000) :
    Calls Try.prog 15 #[.pointer (some r), .agg z.o.cells] w fun e w' => ∃ O', e = .returned (.tuple #[.string ⟨(ansD D z).1.1.toArray⟩, .int .i64 (ansD D z).1.2]) ∧ RefD w' r (ansD D z).2 O' ∧ Moves O O' w w' := by
  have h' := h
  obtain ⟨hok, g, N, gs, gn, va, vb, hr, hat, hO⟩ := h'
  subst hr
  by_cases h1 : z.o.kind % 5 < 3 ∧ D.fuse = 0
  · have e : ansD D z = (([], 6), D) := by unfold ansD; rw [if_pos h1]
    rw [e]
    refine (do_lost w g D N gs gn va vb hat z.o h1.1 h1.2).mono fun e w' ⟨he, hb⟩ => ?_
    obtain ⟨O', h2, h3⟩ := h.same hb
    exact ⟨O', he, h2, h3⟩
  by_cases h2 : badAt D z
  · have e : ansD D z = (([], 1), D) := by unfold ansD; rw [if_neg h1, if_pos h2]
    rw [e]
    have hf : D.fuse ≠ 0 := fun e => h1 ⟨by have := h2.1; omega, e⟩
    have hb : badOp ((z.o.kind : Int) % 5) z.o.i D.seen.length z.o.b := by
      obtain ⟨h3, h4⟩ := h2
      by_cases h5 : z.o.i < 0
      · exact .inl ⟨by omega, .inl h5⟩
      · by_cases h6 : (D.seen.length : Int) ≤ z.o.i
        · exact .inl ⟨by omega, .inr ⟨h5, h6⟩⟩
        · rcases h4 with h4 | h4 | h4
          · exact absurd h4 h5
          · exact absurd h4 h6
          · exact .inr ⟨by omega, h5, h6, by omega, h4.2⟩
    refine (do_none w g D N gs gn va vb hat hok z.o hf hb).mono fun e w' ⟨he, hb⟩ => ?_
    obtain ⟨O', h3, h4⟩ := h.same hb
    exact ⟨O', he, h3, h4⟩
  by_cases k0 : z.o.kind % 5 = 0
  · have e : ansD D z = (([], 0), D.wrote z.o.i.toNat z.o.b.data.toList) := by unfold ansD; rw [if_neg h1, if_neg h2, if_pos k0]
    rw [e]
    have hf : D.fuse ≠ 0 := fun e => h1 ⟨by omega, e⟩
    have hi1 : ¬ z.o.i < 0 := fun h => h2 ⟨by omega, .inl h⟩
    have hi2 : ¬ (D.seen.length : Int) ≤ z.o.i := fun h => h2 ⟨by omega, .inr (.inl h)⟩
    have hi3 : z.o.b.size = 64 := Decidable.byContradiction fun h => h2 ⟨by omega, .inr (.inr ⟨k0, h⟩)⟩
    have hj : z.o.i.toNat < D.seen.length := by omega
    refine (do_write w g D N gs gn va vb hat hok z.o (by omega) hf z.o.i.toNat (by omega) hj hi3 hmany).mono fun e w' ⟨he, va', vb', hp, hm⟩ => ?_
    have hw := RefP.whole (D := D.wrote z.o.i.toNat z.o.b.data.toList) (by simpa [DK.wrote] using hp) (by rw [hat.size]; simp [DK.wrote])
    obtain ⟨O', h3, h4⟩ := RefD.own rfl hO (DK.wrote_ok hok hj (by rw [← Lib.size_eq]; exact hi3)) hw hm
    exact ⟨O', he, h3, h4⟩
  by_cases k1 : z.o.kind % 5 = 1
  · have e : ansD D z = ((D.seen.getD z.o.i.toNat [], 0), D) := by unfold ansD; rw [if_neg h1, if_neg h2, if_neg k0, if_pos k1]
    rw [e]
    have hf : D.fuse ≠ 0 := fun e => h1 ⟨by omega, e⟩
    have hi1 : ¬ z.o.i < 0 := fun h => h2 ⟨by omega, .inl h⟩
    have hi2 : ¬ (D.seen.length : Int) ≤ z.o.i := fun h => h2 ⟨by omega, .inr (.inl h)⟩
    refine (do_read w g D N gs gn va vb hat hok z.o (by omega) hf z.o.i.toNat (by omega) (by omega)).mono fun e w' ⟨he, hb⟩ => ?_
    obtain ⟨O', h3, h4⟩ := h.same hb
    exact ⟨O', he, h3, h4⟩
  by_cases k2 : z.o.kind % 5 = 2
  · have e : ansD D z = (([], 0), D.synced) := by unfold ansD; rw [if_neg h1, if_neg h2, if_neg k0, if_neg k1, if_pos k2]
    rw [e]
    have hf : D.fuse ≠ 0 := fun e => h1 ⟨by omega, e⟩
    refine (do_sync w g D N gs gn va vb hat hok z.o (by omega) hf).mono fun e w' ⟨he, hh⟩ => ?_
    have hw := RefP.whole (D := D.synced) hh.out.1 (by rw [hat.size]; rfl)
    obtain ⟨O', h3, h4⟩ := RefD.own rfl hO (DK.synced_ok hok) hw hh.out.2
    exact ⟨O', he, h3, h4⟩
  by_cases k3 : z.o.kind % 5 = 3
  · have e : ansD D z = (([], 0), D.lit z.o.n) := by unfold ansD; rw [if_neg h1, if_neg h2, if_neg k0, if_neg k1, if_neg k2, if_pos k3]
    rw [e]
    by_cases hf : D.fuse = 0
    · have e2 : D.lit z.o.n = D := by
        unfold DK.lit; rw [if_pos hf, ← hf]
      rw [e2]
      refine (do_fuse0 w g D N gs gn va vb hat z.o (by omega) hf).mono fun e w' ⟨he, hb⟩ => ?_
      obtain ⟨O', h3, h4⟩ := h.same hb
      exact ⟨O', he, h3, h4⟩
    · refine (do_fuse1 w g D N gs gn va vb hat z.o (by omega) hf).mono fun e w' ⟨he, hh⟩ => ?_
      obtain ⟨hg, hm⟩ := hh.out
      have e3 : D.lit z.o.n = ⟨D.sure, D.seen, D.waits, max z.o.n (-1)⟩ := by unfold DK.lit; rw [if_neg hf]
      have hw := set_fuse hat (max z.o.n (-1)) hg (fun k hk hne => hm.block k (hat.lt k hk) hne)
      rw [← e3] at hw
      have hm2 : Moves (refOwn g gs gn va vb) (refOwn g gs gn va vb) w w' := ⟨hm.os, hm.tape, hm.output, hm.size, fun k hk hn => hm.block k hk (fun e => hn (.inl e)), fun k hk => .inl hk⟩
      obtain ⟨O', h3, h4⟩ := RefD.own rfl hO (DK.lit_ok hok _ hn) hw hm2
      exact ⟨O', he, h3, h4⟩
  · have e : ansD D z = (([], 0), D.crashed z.fates) := by unfold ansD; rw [if_neg h1, if_neg h2, if_neg k0, if_neg k1, if_neg k2, if_neg k3]
    rw [e]
    refine (do_crash w g D N gs gn va vb hat hok z.o (by omega) z.fates hfa (fun h0 b off s e hb => hfar h0 b off s e ((hO b).2 hb)) hmany hfl).mono fun e w' ⟨he, hh⟩ => ?_
    have hw := RefP.whole (D := D.crashed z.fates) hh.out.1 (by rw [hat.size]; show _ = 64 * (torn _ _ _).length; rw [torn_length, hok.len])
    obtain ⟨O', h3, h4⟩ := RefD.own rfl hO (DK.crashed_ok hok _) hw hh.out.2
    exact ⟨O', he, h3, h4⟩
end Go.Proofs.Ytmgdjnkdnakmhaa
