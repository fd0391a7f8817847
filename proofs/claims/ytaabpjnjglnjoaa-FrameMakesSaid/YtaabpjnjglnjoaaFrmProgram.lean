/-
  The program's frames keep what is asked of them.
-/
import Derived.Test.YtaabpjnjglnjoaaFrmSplE
import Derived.Test.YtaabpjnjglnjoaaFrmBack
namespace Go.Proofs.Ytaabpjnjglnjoaa
open Go.RowKit
set_option linter.unusedVariables false
set_option linter.unnecessarySimpa false
set_option linter.unusedSimpArgs false
set_option maxRecDepth 100000

/-- None was told. -/
def AtF (B : Nat) (w : World) (r : Addr) (ps : List ByteArray) : Prop :=
  ∃ g v, r = ⟨g, 0, none⟩ ∧ B ≤ g ∧ SpAt w g (.slice none 0 0) v false ∧ w.ownsRow B 9 1 v ps.length (ps.map Value.string)
/-- Some may have been told. -/
def AtS (B : Nat) (w : World) (r : Addr) (ps : List ByteArray) : Prop :=
  ∃ g a c, r = ⟨g, 0, none⟩ ∧ B ≤ g ∧ SpAt w g (.slice none 0 0) (.slice a ps.length c) false ∧ Told B w a c ps ∧ c ≤ maxLen

theorem at_tell {B : Nat} {w : World} {r : Addr} {ps : List ByteArray} (h : AtF B w r ps) : AtS B w r ps := by
  obtain ⟨g, v, rfl, hB, hs, ho⟩ := h
  have hl : (ps.map Value.string).length = ps.length := List.length_map _
  rcases ho.2 with ⟨rfl, h0⟩ | ⟨k, cap, cur, rfl, hb, hk, hnc, hcm, hcs, htake⟩
  · refine ⟨g, none, 0, rfl, hB, ?_, fun hne => absurd (List.length_eq_zero_iff.1 h0) hne, by decide⟩
    rw [h0]; exact hs
  · refine ⟨g, _, cap, rfl, hB, hs, fun _ => ⟨k, 0, cur, rfl, hb, hk, hnc, by omega, fun j p hp => ?_⟩, hcm⟩
    have : (ps.map Value.string)[j]? = some (.string p) := by rw [List.getElem?_map, hp]; rfl
    rw [← htake, List.getElem?_take] at this
    split at this
    · rw [Nat.zero_add]; simpa using this
    · cases this

set_option maxHeartbeats 1000000 in
theorem feed_none {w : World} {g : Nat} {p q : Value} {b : Bool} (hs : SpAt w g p q b) :
    Calls Try.prog 10 #[.pointer (some ⟨g, 0, none⟩), .string ⟨#[]⟩] w fun e w' => e = .returned (.tuple #[]) ∧ w = w' := by
  have cb := hs.cb
  clear hs
  go_enter Try.func10, Try.ntmps10
  go_wp2_with fail
  go_loopg [1, 4] 0 (fun gk s1 s4 wx => s1 = .string ⟨#[]⟩ ∧ wx = w)
  case atStart => exact ⟨rfl, rfl⟩
  case round =>
    obtain ⟨rfl, rfl⟩ := hrel
    go_wp2_with fail
    refine bodyPost_none rfl rfl ?_
    exact ⟨rfl, rfl⟩

/-- The program's splitter. -/
def spl : Spl where
  At := AtF
  new := fun w => (splNew w).mono fun e w' ⟨he, hs, hb⟩ => ⟨_, he, ⟨w.heap.size + 1, _, rfl, by omega, hs, World.ownsRow_nil _ _ _ _⟩, hb⟩
  stay := fun {B w w' r ps} ⟨g, v, hr, hB, hs, ho⟩ hb => ⟨g, v, hr, hB, hs.kept hb, own_belowS ho hb⟩
  feed := fun {B w r ps p} ⟨g, v, hr, hB, hs, ho⟩ hp hl hBw => by
    subst hr
    have hg := (good_iff p).1 hp
    exact (feed_ok hB hs ho hg.1 hg.2 hl).mono fun e w' ⟨he, v', hs', ho', hb⟩ => ⟨he, ⟨g, v', rfl, hB, hs', by rw [List.length_append]; exact ho'⟩, hb⟩
  feed0 := fun {B w r ps} ⟨g, v, hr, hB, hs, ho⟩ hBw => by
    subst hr
    exact (feed_none hs).mono fun e w' ⟨he, hw⟩ => by subst hw; exact ⟨he, ⟨g, v, rfl, hB, hs, ho⟩, Below.refl _ _⟩
  AtT := AtS
  tell := at_tell
  next := fun {B w r p ps} ⟨g, a, c, hr, hB, hs, ht, hc⟩ hBw => by
    subst hr
    exact (splNext hs hB rfl hc ht).mono fun e w' ⟨he, ⟨a', c', hs', ht', hc'⟩, hb⟩ => ⟨he, ⟨g, a', c', rfl, hB, hs', ht', hc'⟩, hb⟩
  next0 := fun {B w r} ⟨g, a, c, hr, hB, hs, ht, hc⟩ hBw => by
    subst hr
    exact (splNext0 hs).mono fun e w' ⟨he, hw⟩ => by subst hw; exact ⟨he, ⟨g, a, c, rfl, hB, hs, ht, hc⟩, Below.refl _ _⟩
  broken := fun {B w r ps} ⟨g, a, c, hr, hB, hs, ht, hc⟩ hBw => by
    subst hr
    exact (splBroken hs).mono fun e w' ⟨he, hw⟩ => by subst hw; exact ⟨he, ⟨g, a, c, rfl, hB, hs, ht, hc⟩, Below.refl _ _⟩
  waiting := fun {B w r ps} ⟨g, a, c, hr, hB, hs, ht, hc⟩ hBw => by
    subst hr
    exact (splWaiting hs (by decide)).mono fun e w' ⟨he, hw⟩ => by subst hw; exact ⟨he, ⟨g, a, c, rfl, hB, hs, ht, hc⟩, Below.refl _ _⟩
end Go.Proofs.Ytaabpjnjglnjoaa
