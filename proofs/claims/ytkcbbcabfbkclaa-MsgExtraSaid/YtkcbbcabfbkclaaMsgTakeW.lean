/-
  The walk of the program's takeWrites.
-/
import Derived.Test.YtkcbbcabfbkclaaSet14
namespace Go.Proofs.Ytkcbbcabfbkclaa
open Go.RowKit
set_option linter.unusedVariables false
set_option linter.unnecessarySimpa false
set_option linter.unusedSimpArgs false
set_option maxRecDepth 100000
set_option linter.unusedSectionVars false

theorem writeInfo : (Try.prog.info? 56).map (fun i => (i.zero, i.size, i.bytes)) = some (some (.agg #[.string ⟨#[]⟩, .bool false, .string ⟨#[]⟩]), 3, 40) := by kernel_rfl
def tx (r : ByteArray × Bool) : ByteArray := (cText r.1 r.2).1
def txT (r : ByteArray × Bool) : ByteArray × Bool := (cText r.1 r.2).2
theorem txT_size (r : ByteArray × Bool) : (txT r).1.size ≤ r.1.size := (cText_size r.1 r.2).2
/-- Writes off a cursor: whether all are there, which, what is left. -/
def cWA : List Wr → Nat → ByteArray × Bool → Bool × List Wr × (ByteArray × Bool)
  | acc, 0, r => (true, acc, r)
  | acc, n + 1, r => if goneK (byt r) = false then (false, [], bytT r) else cWA (acc ++ [⟨tx (bytT r), goneB (byt r), tx (txT (bytT r))⟩]) n (txT (txT (bytT r)))
def cnt (r : ByteArray × Bool) : Nat := min (cUint r.1 r.2).1 9
def cWr (r : ByteArray × Bool) : Bool × List Wr × (ByteArray × Bool) := cWA [] (cnt r) (nxt r)
def wCells (l : List Wr) : List Value := l.flatMap fun z => [.string z.key, .bool z.gone, .string z.val]
theorem wCells_len (l : List Wr) : (wCells l).length = l.length * 3 := by
  induction l with
  | nil => rfl
  | cons x l ih =>
    have e : wCells (x :: l) = [.string x.key, .bool x.gone, .string x.val] ++ wCells l := rfl
    have e3 : ([.string x.key, .bool x.gone, .string x.val] : List Value).length = 3 := rfl
    rw [e, List.length_append, ih, e3, List.length_cons]; omega
theorem wCells_snoc (l : List Wr) (z : Wr) : wCells l ++ [.string z.key, .bool z.gone, .string z.val] = wCells (l ++ [z]) := by
  unfold wCells
  rw [List.flatMap_append]
  simp
theorem wCells_at : ∀ (l : List Wr) (j k : Nat), k < 3 → (wCells l)[j * 3 + k]? = (l[j]?).bind fun z => ([.string z.key, .bool z.gone, .string z.val] : List Value)[k]?
  | [], j, k, hk => by simp [wCells]
  | x :: l, 0, k, hk => by
    unfold wCells
    rw [List.flatMap_cons, List.getElem?_append_left (by show 0 * 3 + k < 3; omega)]
    simp
  | x :: l, j + 1, k, hk => by
    have ih := wCells_at l j k hk
    unfold wCells at *
    rw [List.flatMap_cons, List.getElem?_append_right (by show 3 ≤ _; omega)]
    rw [show (j + 1) * 3 + k - ([.string x.key, .bool x.gone, .string x.val] : List Value).length = j * 3 + k by show (j + 1) * 3 + k - 3 = _; omega]
    rw [ih]
    simp
theorem wsAt_own {w : World} {B e : Nat} {v : Value} {l : List Wr} (h : w.ownsRow B e 3 v l.length (wCells l)) : WsAt w v l := by
  rcases h.2 with ⟨rfl, h0⟩ | ⟨g, cap, cur, rfl, hB, hg, h1, h2, h3, h4⟩
  · exact ⟨none, 0, 0, rfl, h0, fun i hi => by omega⟩
  · refine ⟨_, l.length, cap, rfl, rfl, fun i hi => ⟨g, 0, rfl, (Array.getElem?_eq_some_iff.1 hg).1, ?_⟩⟩
    have hz : l[i]? = some l[i] := List.getElem?_eq_getElem hi
    have hd : l.getD i wr0 = l[i] := by simp [List.getD, hz]
    rw [hd]
    have at_ : ∀ k, k < 3 → ∀ u, ([.string l[i].key, .bool l[i].gone, .string l[i].val] : List Value)[k]? = some u → w.cell? ⟨g, 0 + i * 3 + k, none⟩ = some u := fun k hk u hu => by
      have hc := wCells_at l i k hk
      rw [hz] at hc
      simp only [Option.bind_some] at hc
      rw [hu, ← h4, List.getElem?_take] at hc
      split at hc
      · simp only [World.cell?, hg]
        rw [Nat.zero_add]
        simpa using hc
      · cases hc
    exact ⟨at_ 0 (by omega) _ rfl, at_ 1 (by omega) _ rfl, at_ 2 (by omega) _ rfl⟩
theorem three_new (w : World) (a b c : Value) (t : TypeId) : ∀ j u, ([a, b, c] : List Value)[j]? = some u → (w.alloc (.cells #[a, b, c] t)).cell? ((⟨w.heap.size, 0, none⟩ : Addr).add j) = some u := fun j u hu => by
  have hr := heap_alloc_new w (.cells #[a, b, c] t)
  have hadd : (⟨w.heap.size, 0, none⟩ : Addr).add j = ⟨w.heap.size, j, none⟩ := by unfold Addr.add; split <;> simp_all
  rw [hadd]
  simp only [World.cell?, hr]
  simpa using hu

/-- Changed: block g, a block made since, and nothing else that was there ahead of w. -/
theorem grown_fresh {w w1 w2 : World} {g : Nat} {b : Option Nat} (h : w.grownBy w1 (some g)) (hg : w1.grownBy w2 b) (hb : ∀ k, b = some k → w.heap.size ≤ k) : w.grownBy w2 (some g) :=
  ⟨hg.os.trans h.os, hg.tape.trans h.tape, hg.output.trans h.output, Nat.le_trans h.size hg.size, fun k hk hkg => (hg.block k (Nat.lt_of_lt_of_le hk h.size) (fun e => by have := hb k e.symm; omega)).trans (h.block k hk hkg)⟩

/-- What takeWrites answers. -/
def TwOut (g : Nat) (R : Bool × List Wr × (ByteArray × Bool)) (w : World) (e : Ending) (w' : World) : Prop :=
  ∃ sl, e = .returned (.tuple #[sl, .bool R.1]) ∧ WsAt w' sl R.2.1 ∧ CurTo g R.2.2 w w' ∧ ∀ k, sl.ownBlock = some k → w.heap.size ≤ k ∧ k < w'.heap.size

set_option maxHeartbeats 8000000 in
theorem takeWrites_any (g : Nat) (r : ByteArray × Bool) (hs : r.1.size ≤ 1000000) (w : World) (h : CurAt w g r.1 r.2) :
    Calls Try.prog 50 #[.pointer (some ⟨g, 0, none⟩)] w (TwOut g (cWr r) w) := by
  obtain ⟨iw, hi, hz0, hz1, hz2⟩ := info_parts writeInfo
  have hs1 := nxt_size r
  have hmx : r.1.size ≤ maxLen := by unfold maxLen; omega
  have HU := Lib.hid (cur_uint g r.1 r.2 w hmx h)
  have hgl := h.lt
  have hlt := cUint_lt r.1 r.2
  obtain ⟨u, hu⟩ : ∃ u, u = (cUint r.1 r.2).1 := ⟨_, rfl⟩
  obtain ⟨n, hn⟩ : ∃ n, n = cnt r := ⟨_, rfl⟩
  have hnu : n = min u 9 := by rw [hn, hu]; rfl
  obtain ⟨F, hF⟩ : ∃ F, F = cWr r := ⟨_, rfl⟩
  have HF := Lib.hid (show F = cWA [] n (nxt r) by rw [hF, hn]; rfl)
  have HU' : Hid (Calls Try.prog 42 #[.pointer (some ⟨g, 0, none⟩)] w fun e w' => e = .returned (.int .u64 (u : Nat)) ∧ CurTo g (nxt r) w w') := Lib.hid (by rw [hu]; exact HU.out)
  rw [← hF]
  have hsz : (nxt r).1.size ≤ 1000000 := by omega
  obtain ⟨r0, hr0⟩ : ∃ r0, r0 = nxt r := ⟨_, rfl⟩
  rw [← hr0] at HF HU' hsz
  have hmin : min (u : Int) 9 = (n : Int) := by omega
  have hn9 : n ≤ 9 := by omega
  clear HU hu hn hnu hF hs hs1 hmx hlt hr0 h
  go_enter Try.func50, Try.ntmps50
  go_wp2_with (go_at_call 42; refine HU'.out.mono ?_; rintro e w1 ⟨rfl, hc1, hg1⟩)
  have C1 := Lib.hid hc1
  have G1 := Lib.hid hg1
  clear hc1 hg1 HU'
  go_loopg [4, 5, 6, 7, 8, 12] n (fun q s4 s5 s6 s7 s8 s12 wx => ∃ (i : Nat) (acc : List Wr) (r1 : ByteArray × Bool), i + q = n ∧ s12 = .int .u64 i ∧ Hid (F = cWA acc q r1) ∧ acc.length = i ∧ r1.1.size ≤ 1000000 ∧
    Hid (wx.ownsRow w.heap.size 56 3 s4 acc.length (wCells acc)) ∧ Hid (CurAt wx g r1.1 r1.2) ∧ Hid (w.grownBy wx (some g)))
  case atStart => exact ⟨0, [], r0, by omega, rfl, HF, rfl, hsz, Lib.hid (World.ownsRow_nil _ _ _ _), C1, G1⟩
  case round =>
    obtain ⟨i, acc, r1, hiq, rfl, HFx, hal, hsz1, HR, HC, HG⟩ := hrel
    clear hmin HF C1 G1 hsz
    cases gk with
    | zero =>
      obtain rfl : i = n := by omega
      have hiz : ¬ (i : Int) < (i : Int) := by omega
      have hfin := Lib.hid (show TwOut g F w (.returned (.tuple #[u4, .bool true])) wr by
        rw [HFx.out]
        exact ⟨_, rfl, wsAt_own HR.out, ⟨HC.out, HG.out⟩, fun k hk => HR.out.lt k hk⟩)
      go_wp2_with fail
      go_ret2
      exact hfin.out
    | succ q =>
      have hiz : (i : Int) < (n : Int) := by omega
      have hg2 := takeGone_any g r1.1 r1.2 hsz1 wr HC.out
      have hb1 := bytT_size r1
      have hb2 := txT_size (bytT r1)
      have hb3 := txT_size (txT (bytT r1))
      have ht2 := fun (W : World) (hc : CurAt W g (bytT r1).1 (bytT r1).2) => takeText_any g (bytT r1).1 (bytT r1).2 (by omega) W hc
      have ht3 := fun (W : World) (hc : CurAt W g (txT (bytT r1)).1 (txT (bytT r1)).2) => takeText_any g (txT (bytT r1)).1 (txT (bytT r1)).2 (by omega) W hc
      have hFs : F = if goneK (byt r1) = false then (false, [], bytT r1) else cWA (acc ++ [⟨tx (bytT r1), goneB (byt r1), tx (txT (bytT r1))⟩]) q (txT (txT (bytT r1))) := HFx.out
      obtain ⟨gb, egb⟩ : ∃ gb, gb = goneB (byt r1) := ⟨_, rfl⟩
      obtain ⟨gk, egk⟩ : ∃ gk, gk = goneK (byt r1) := ⟨_, rfl⟩
      obtain ⟨kx, ekx⟩ : ∃ kx, kx = tx (bytT r1) := ⟨_, rfl⟩
      obtain ⟨vx, evx⟩ : ∃ vx, vx = tx (txT (bytT r1)) := ⟨_, rfl⟩
      have HGN : Hid (Calls Try.prog 72 #[.pointer (some ⟨g, 0, none⟩)] wr fun e w' => e = .returned (.tuple #[.bool gb, .bool gk]) ∧ CurTo g (bytT r1) wr w') := Lib.hid (by rw [egb, egk]; exact hg2)
      have HT2 : Hid (∀ W, CurAt W g (bytT r1).1 (bytT r1).2 → Calls Try.prog 73 #[.pointer (some ⟨g, 0, none⟩)] W fun e w' => e = .returned (.string kx) ∧ CurTo g (txT (bytT r1)) W w') := Lib.hid (fun W hc => by rw [ekx]; exact ht2 W hc)
      have HT3 : Hid (∀ W, CurAt W g (txT (bytT r1)).1 (txT (bytT r1)).2 → Calls Try.prog 73 #[.pointer (some ⟨g, 0, none⟩)] W fun e w' => e = .returned (.string vx) ∧ CurTo g (txT (txT (bytT r1))) W w') := Lib.hid (fun W hc => by rw [evx]; exact ht3 W hc)
      rw [← egb, ← egk, ← ekx, ← evx] at hFs
      have hszn : (txT (txT (bytT r1))).1.size ≤ 1000000 := by omega
      have hacc : acc.length ≤ 9 := by omega
      clear hg2 ht2 ht3 egb egk ekx evx hb1 hb2 hb3 HFx
      cases gk with
      | false =>
        rw [if_pos rfl] at hFs
        have HFf := Lib.hid hFs
        clear hFs HT2 HT3 HC
        go_wp2_with (go_at_call 72; refine HGN.out.mono ?_; rintro e w2 ⟨rfl, hc2, hg2⟩)
        go_ret2
        rw [HFf.out]
        exact ⟨.slice none 0 0, rfl, WsAt.nil _, ⟨hc2, grownBy_trans HG.out hg2⟩, fun k hk => by simp [Value.ownBlock] at hk⟩
      | true =>
        rw [if_neg (by decide)] at hFs
        have HFf := Lib.hid hFs
        clear hFs HC
        go_upto_region 7 with (go_at_call 72; refine HGN.out.mono ?_; rintro e w2 ⟨rfl, hc2, hg2⟩)
        have HT2' := Lib.hid (HT2.out w2 hc2)
        have R2 := Lib.hid (HR.out.kept hg2 (by cases hv : u4.ownBlock with | none => exact .inl rfl | some k => exact .inr (fun e => by injection e with e; have := (HR.out.lt k hv).1; omega)))
        have G2 := Lib.hid (grownBy_trans HG.out hg2)
        clear hc2 hg2 HT2 HR HG HGN
        go_upto_region 8 with (go_at_call 73; refine HT2'.out.mono ?_; rintro e w3 ⟨rfl, hc3, hg3⟩)
        have HT3' := Lib.hid (HT3.out w3 hc3)
        have R3 := Lib.hid (R2.out.kept hg3 (by cases hv : u4.ownBlock with | none => exact .inl rfl | some k => exact .inr (fun e => by injection e with e; have := (R2.out.lt k hv).1; omega)))
        have G3 := Lib.hid (grownBy_trans G2.out hg3)
        clear hc3 hg3 HT3 R2 G2 HT2'
        go_upto_region 9 with (go_at_call 73; refine HT3'.out.mono ?_; rintro e w4 ⟨rfl, hc4, hg4⟩)
        have C4 := Lib.hid hc4
        have R4 := Lib.hid (R3.out.kept hg4 (by cases hv : u4.ownBlock with | none => exact .inl rfl | some k => exact .inr (fun e => by injection e with e; have := (R3.out.lt k hv).1; omega)))
        have G4 := Lib.hid (grownBy_trans G3.out hg4)
        have hs4 := G4.out.size
        have hnew := Lib.hid (three_new w4 (.string kx) (.bool gb) (.string vx) 56)
        clear hc4 hg4 R3 G3 HT3'
        go_wp2_with (at_builtin; refine wpList_append_own _ rfl _ _ 27 rfl w.heap.size 56 iw (.agg #[.string ⟨#[]⟩, .bool false, .string ⟨#[]⟩]) 3 40 Try.underlying27 hi hz0 hz1 hz2 rfl (by decide) _ _ _ rfl (R4.out.alloc _) ⟨w4.heap.size, 0, none⟩ 1 1 [.string kx, .bool gb, .string vx] rfl rfl hnew.out (by simp [Value.oneCell']) (by unfold maxLen; omega) (by omega) (by simp; omega) ?_)
        intro v5 w5 hown5 hg5 _
        have G5 := Lib.hid (grown_fresh (grownBy_trans G4.out (grown_of_below (g := g) ((Below.refl _ _).alloc (Nat.le_refl _) _))) hg5 (fun k hk => (R4.out.lt k hk).1))
        have R5 : Hid (w5.ownsRow w.heap.size 56 3 v5 (acc ++ [(⟨kx, gb, vx⟩ : Wr)]).length (wCells (acc ++ [(⟨kx, gb, vx⟩ : Wr)]))) := Lib.hid (by rw [← wCells_snoc, List.length_append, hal]; exact hown5)
        have C5 := Lib.hid (show CurAt w5 g (txT (txT (bytT r1))).1 (txT (txT (bytT r1))).2 from by
          have h1 := C4.out
          have h2 := h1.lt
          unfold CurAt at h1 ⊢
          rw [hg5.block g (by simp; omega) (fun e => by have := (R4.out.lt g e.symm).1; omega), Below.heap_alloc _ _ _ h2]
          exact h1)
        have hl2 : (acc ++ [(⟨kx, gb, vx⟩ : Wr)]).length = i + 1 := by rw [List.length_append, hal]; rfl
        clear hown5 hg5 R4 G4 C4 hnew
        go_wp2_with fail
        go_roundg q
        case measure => omega
        case rel => exact ⟨i + 1, _, _, by omega, by simp, HFf, hl2, hszn, R5, C5, G5⟩
end Go.Proofs.Ytkcbbcabfbkclaa
