/-
  Joined: FrmSplC, FrmSplD.
-/
import Derived.Test.YtbhlgceicfjncaaSet18
namespace Go.Proofs.Ytbhlgceicfjncaa
open Go.RowKit
set_option linter.unusedVariables false
set_option linter.unnecessarySimpa false
set_option linter.unusedSimpArgs false
set_option maxRecDepth 100000

set_option maxHeartbeats 800000 in
theorem missing_short {w : World} {g n c : Nat} {a : Option Addr} {q : Value} {b : Bool} (h : SpAt w g (.slice a n c) q b) (hn : n < 4) :
    Calls Try.prog 39 #[.pointer (some ⟨g, 0, none⟩)] w fun e w' => e = .returned (.int .i64 ((4 : Int) - n)) ∧ w = w' := by
  have c := h.cp
  have hz : (n : Int) < 4 := by omega
  clear h hn
  go_enter Try.func39, Try.ntmps39
  go_wp2_with fail
  go_ret
  exact ⟨rfl, rfl⟩

set_option maxHeartbeats 1600000 in
theorem missing_at {w : World} {g B n cap h L : Nat} {q : Value} {b : Bool} {l : List UInt8} (hs : SpAt w g (.slice (some ⟨h, 0, none⟩) n cap) q b)
    (ho : w.ownsRow B 5 1 (.slice (some ⟨h, 0, none⟩) n cap) n (Lib.byteCells l)) (h4 : 4 ≤ n) (hl : l.take 4 = fx L 4 true) (h1 : 1 ≤ L) (h2 : L ≤ 4000) (hn : n ≤ 4008) :
    Calls Try.prog 39 #[.pointer (some ⟨g, 0, none⟩)] w fun e w' => e = .returned (.int .i64 ((8 : Int) + L - n)) ∧ Below w.heap.size w w' := by
  have hcap : n ≤ cap := by
    rcases ho.2 with ⟨h', _⟩ | ⟨g', cap', cur, h', _, _, hnc, _⟩
    · simp at h'
    · simp only [Value.slice.injEq, Option.some.injEq, Addr.mk.injEq, and_true, true_and] at h'
      omega
  have hcv := Lib.hid (show (convert 91 9 (.slice (some ⟨h, 0, none⟩) 4 cap)).run Try.prog w = .ok (.string ⟨(fx L 4 true).toArray⟩) w by
    have := own_take ho h4
    rw [show (Lib.byteCells l).take 4 = Lib.byteCells (fx L 4 true) by rw [← hl]; simp [Lib.byteCells, List.map_take]] at this
    exact convert_row this)
  have HS := Lib.hid hs
  have cp := hs.cp
  have hk := Lib.hid (fun (g : Nat) (w : World) => k_fixed4 (X := ⟨(fx L 4 true).toArray⟩) (n := L) (R := []) (by omega) (by simp) (by show (fx L 4 true).toArray.size ≤ _; rw [List.size_toArray, fx_length]; decide) g w)
  have HY := Lib.hid (isLength_yes L h1 h2)
  have e4 : (4 : Int) ≤ (n : Int) := by omega
  have e4n : ¬ (n : Int) < 4 := by omega
  have ec : (4 : Int) ≤ (cap : Int) := by omega
  have eL : (L : Int) ≤ 4000 := by omega
  have en : (n : Int) ≤ 4008 := by omega
  have hcv := hcv.out
  obtain ⟨F, hF⟩ : ∃ F : ByteArray, F = ⟨(fx L 4 true).toArray⟩ := ⟨_, rfl⟩
  rw [← hF] at hcv hk
  have hFs : F.size ≤ 4 := by rw [hF]; show (fx L 4 true).toArray.size ≤ 4; rw [List.size_toArray, fx_length]; omega
  clear hs ho hl hF hcap h1 h2 hn h4
  go_enter Try.func39, Try.ntmps39
  go_wp2_with (first
    | (go_at_call 58; refine (new_anyB _ _).mono ?_; rintro e w1 ⟨rfl, hc1, hb1⟩; have hc1 := Lib.hid hc1; have hb1 := Lib.hid hb1)
    | (go_at_call 59; refine (hk.out _ _ hc1.out).mono ?_; rintro e w2 ⟨rfl, _, hg2⟩; have hb2 := Lib.hid (below_grownB hb1.out hg2 (Nat.le_refl _)); have cp2 := (HS.out.kept hb2.out).cp; clear hg2)
    | (go_at_call 36; refine (HY.out _).mono ?_; rintro e w3 ⟨rfl, rfl⟩))
  go_ret
  exact ⟨rfl, hb2.out⟩

set_option maxHeartbeats 2000000 in
theorem payloadOf_ok (p : ByteArray) (hp1 : 1 ≤ p.size) (hp2 : p.size ≤ 4000) (w : World) :
    Calls Try.prog 60 #[.agg tab, .string (frmS p)] w fun e w' => e = .returned (.tuple #[.string p, .bool true]) ∧ Below w.heap.size w w' := by
  have HY := Lib.hid (isLength_yes p.size hp1 hp2)
  have H3 := Lib.hid (sum_any p (by omega))
  have hs := sumB_lt p.data.toList
  have hsz := frmS_size p
  have hx1 : (frmS p).data.toList = fx p.size 4 true ++ (fx (sumB p.data.toList) 4 true ++ p.data.toList) := by
    show (frmB p.data.toList) = _
    unfold frmB
    rw [← Lib.size_eq, List.append_assoc]
  obtain ⟨S, hS⟩ : ∃ S, S = sumB p.data.toList := ⟨_, rfl⟩
  rw [← hS] at H3 hs hx1
  clear hS
  have hk1 := Lib.hid (fun (g : Nat) (w : World) => k_fixed4 (n := p.size) (by omega) hx1 (by rw [hsz]; unfold maxLen; omega) g w)
  have hk2 := Lib.hid (fun (g : Nat) (w : World) => k_fixed4 (X := ⟨(fx S 4 true ++ p.data.toList).toArray⟩) (n := S) (R := p.data.toList) (by omega) (by simp) (by show (fx S 4 true ++ p.data.toList).toArray.size ≤ _; rw [List.size_toArray, List.length_append, fx_length, list_sizeB]; unfold maxLen; omega) g w)
  have hk3 := Lib.hid (fun (g : Nat) (w : World) => k_bytes (X := ⟨p.data.toList.toArray⟩) (p := p) (by cases p; simp) (by show p.data.toList.toArray.size ≤ _; rw [List.size_toArray, list_sizeB]; unfold maxLen; omega) g w)
  have hk4 := Lib.hid (fun (g : Nat) (w : World) (h : CurAtB w g ⟨p.data.toList.toArray⟩ false) => by have := left_anyB g _ _ w (by show p.data.toList.toArray.size ≤ _; rw [List.size_toArray, list_sizeB]; unfold maxLen; omega) h; rwa [show (⟨p.data.toList.toArray⟩ : ByteArray).size = p.size by show p.data.toList.toArray.size = _; rw [List.size_toArray, list_sizeB]] at this)
  have hz : (S : Int) < 4294967296 := by omega
  have hzm : (S : Int) % 4294967296 = S := by omega
  have hrow := Lib.hid (heap_alloc_last w (.cells tab 28))
  obtain ⟨F, hF⟩ : ∃ F, F = frmS p := ⟨_, rfl⟩
  rw [← hF] at hk1 ⊢
  clear hx1 hsz hF hp1 hs
  have hb0 := Lib.hid ((Below.refl w.heap.size w).alloc (Nat.le_refl _) (.cells tab 28))
  go_enter Try.func60, Try.ntmps60
  go_wp2_with (first
    | (go_at_call 58; refine (new_anyB _ _).mono ?_; rintro e w1 ⟨rfl, hc1, hb1⟩; have hc1 := Lib.hid (show CurAtB w1 (w.heap.size + 1) F false by simpa using hc1); have hb1 := Lib.hid hb1; have hr1 := Lib.hid ((hb1.out.block w.heap.size (by simp)).trans hrow.out); have hs1 := hc1.out.lt)
    | (go_at_call 59; (with_reducible refine (hk1.out _ _ hc1.out).mono ?_); rintro e w2 ⟨rfl, hc2, hg2⟩; have hc2 := Lib.hid hc2; have hg2 := Lib.hid hg2)
    | (go_at_call 59; (with_reducible refine (hk2.out _ _ hc2.out).mono ?_); rintro e w3 ⟨rfl, hc3, hg3⟩; have hc3 := Lib.hid hc3; have hg3 := Lib.hid hg3)
    | (go_at_call 63; refine (hk4.out _ _ hc3.out).mono ?_; rintro e w4 ⟨rfl, rfl⟩)
    | (go_at_call 78; refine (hk3.out _ _ hc3.out).mono ?_; rintro e w5 ⟨rfl, _, hg5⟩; have hg5 := Lib.hid (grownByB_trans (grownByB_trans hg2.out hg3.out) hg5); have hr5 := Lib.hid ((hg5.out.block w.heap.size (by omega) (by simp)).trans hr1.out))
    | (go_at_call 36; refine (HY.out _).mono ?_; rintro e w6 ⟨rfl, rfl⟩)
    | (refine wpList_load_rowG rfl 28 _ rfl w.heap.size rfl 28 tab (0, 0) _ hr5.out Try.underlying28 rfl tableSize ?_; dsimp only [Act.put])
    | (go_at_call 37; refine (H3.out _).mono ?_; rintro e w7 ⟨rfl, hb7⟩))
  go_ret2
  have k1 : Below w.heap.size w w5 := below_grownB (hb0.out.trans (hb1.out.mono (by simp))) hg5.out (by simp)
  exact ⟨rfl, k1.trans (hb7.mono k1.size)⟩
end Go.Proofs.Ytbhlgceicfjncaa

namespace Go.Proofs.Ytbhlgceicfjncaa
open Go.RowKit
set_option linter.unusedVariables false
set_option linter.unnecessarySimpa false
set_option linter.unusedSimpArgs false
set_option maxRecDepth 100000

theorem strInfoF : (Try.prog.info? 9).map (fun i => (i.zero, i.size, i.bytes)) = some (some (.string ByteArray.empty), 1, 16) := by kernel_rfl
theorem info_partsF {P : Program} {t : TypeId} {z : Value} {s b : Nat} (h : (P.info? t).map (fun i => (i.zero, i.size, i.bytes)) = some (some z, s, b)) : ∃ i, P.info? t = some i ∧ i.zero = some z ∧ i.size = s ∧ i.bytes = b := by
  cases hi : P.info? t with
  | none => simp [hi] at h
  | some i => simp [hi] at h; exact ⟨i, rfl, h.1, h.2.1, h.2.2⟩
theorem cell_one_newF (w : World) (v : Value) (t : TypeId) : ∀ j u, [v][j]? = some u → (w.alloc (.cells #[v] t)).cell? ((⟨w.heap.size, 0, none⟩ : Addr).add j) = some u := fun j u h => by
  have hj : j = 0 := by have := (List.getElem?_eq_some_iff.1 h).1; simpa using this
  subst hj
  simp at h
  subst h
  rw [Addr.add_mid, cell_of_row _ _ _ _ _ _ (heap_alloc_new w _)]
  rfl
theorem own_sliceF {w : World} {base e n : Nat} {v : Value} {xs : List Value} (h : w.ownsRow base e 1 v n xs) (hn : 0 < n) : ∃ g cap, v = .slice (some ⟨g, 0, none⟩) n cap := by
  rcases h.2 with ⟨_, h0⟩ | ⟨g, cap, cur, rfl, _⟩
  · omega
  · exact ⟨g, cap, rfl⟩
theorem bodyPost_none {P : Program} {fn : Func} {R : Ending → World → Prop} {a : Act} {w : World} (hr : fn.results = #[]) (hd : a.defers = []) (hR : R (.returned (.tuple #[])) w) : bodyPost P fn R .normal a w :=
  bodyPost_end (v := .tuple #[]) (by simp [results, hr]) hd hR
theorem frmB_size (p : ByteArray) : (frmB p.data.toList).length = p.size + 8 := by rw [frmB_length, list_sizeB]

set_option maxHeartbeats 4000000 in
theorem judge_ok {w : World} {B g h n cap : Nat} {v : Value} {p : ByteArray} {ps : List ByteArray} (hB : B ≤ g) (hs : SpAt w g (.slice (some ⟨h, 0, none⟩) n cap) v false)
    (ho : w.ownsRow B 5 1 (.slice (some ⟨h, 0, none⟩) n cap) n (Lib.byteCells (frmB p.data.toList))) (hw : w.ownsRow B 9 1 v ps.length (ps.map Value.string))
    (hp1 : 1 ≤ p.size) (hp2 : p.size ≤ 4000) (hps : ps.length ≤ 8) :
    Calls Try.prog 40 #[.pointer (some ⟨g, 0, none⟩)] w fun e w' => e = .returned (.tuple #[]) ∧
      (∃ v', SpAt w' g (.slice none 0 0) v' false ∧ w'.ownsRow B 9 1 v' (ps.length + 1) ((ps ++ [p]).map Value.string)) ∧ Below B w w' := by
  have hpo := Lib.hid (payloadOf_ok p hp1 hp2)
  have hln := hps
  have HS := Lib.hid hs
  have hg := hs.lt
  have hBw := Lib.hid (show B ≤ w.heap.size by omega)
  have hcvx := Lib.hid (fun (x : Like w.heap.size w) => convert_row (own_belowS ho x.below))
  have hckx := Lib.hid (fun (x : Like w.heap.size w) => (hs.kept x.below).cp)
  have htab := Lib.hid (show ∀ w', (∃ x : Like w.heap.size w, w' = x.val) → w'.rangeAt g 0 tab.toList from fun w' ⟨x, hx⟩ => by rw [hx]; exact (hs.kept x.below).table)
  have hF : (⟨(frmB p.data.toList).toArray⟩ : ByteArray) = frmS p := rfl
  rw [hF] at hcvx
  obtain ⟨F, hF2⟩ : ∃ F, F = frmS p := ⟨_, rfl⟩
  rw [← hF2] at hcvx hpo
  obtain ⟨L, hL⟩ : ∃ L, L = ps.map Value.string := ⟨_, rfl⟩
  rw [← hL] at hw
  have HW := Lib.hid hw
  have HL := Lib.hid hL
  clear hF hF2 hL hw ho hs hp1 hp2
  obtain ⟨N, hN⟩ : ∃ N, N = ps.length := ⟨_, rfl⟩
  rw [← hN] at HW hln ⊢
  have HN := Lib.hid hN
  clear hN hps
  go_enter Try.func40, Try.ntmps40
  go_wp2_with fail
  have hcvx := hcvx.out
  have hckx := hckx.out
  refine region_likes (by kernel_rfl) (by kernel_rfl) ?_
  repeat (first
    | (go_big_quiet_want; refine quiet_mid 28 _ rfl g 0 rfl tab.toList _ htab.out Try.underlying28 rfl tabSizeL ?_; go_simp; go_big_quiet_on)
    | (go_big_quiet_step (first
        | (go_at_call 60; exact calls_likes (Like.size _) (hpo.out _)))))
  refine wpQuiet_nil ?_
  intro x
  have HS1 := Lib.hid (HS.out.kept x.below)
  have HW1 := Lib.hid (own_belowS HW.out x.below)
  have HB1 := Lib.hid (show Below B w x.val from x.below.mono hBw.out)
  obtain ⟨w1, hw1⟩ : ∃ w1, w1 = x.val := ⟨_, rfl⟩
  rw [← hw1] at HS1 HW1 HB1 ⊢
  clear hw1 hcvx hckx htab HS HW
  have c1 := HS1.out.cp
  have f1 := HS1.out.fz 256
  have hg1 := HS1.out.lt
  go_upto_region 4 with fail
  have hW2 := Lib.hid (show (w1.setCell ⟨g, 256, none⟩ (.slice none 0 0)).ownsRow B 9 1 v N L from own_grownS HW1.out (grownByB_setCell w1 g 256 _) (.inr (own_ne_row HW1.out HS1.out (by decide))))
  have hS2 := Lib.hid (HS1.out.setp (.slice none 0 0))
  have hB2 := Lib.hid (HB1.out.setCell (p := ⟨g, 256, none⟩) hB (.slice none 0 0))
  have hs2 : (w1.setCell ⟨g, 256, none⟩ (.slice none 0 0)).heap.size = w1.heap.size := by simp
  obtain ⟨w2, hw2⟩ : ∃ w2, w2 = w1.setCell ⟨g, 256, none⟩ (.slice none 0 0) := ⟨_, rfl⟩
  rw [← hw2] at hW2 hS2 hB2 hs2 ⊢
  clear hw2 c1 f1 HS1 HW1 HB1
  have c2 := hS2.out.cq
  have f2 := hS2.out.fz 257
  have hBw2 := Lib.hid (show B ≤ w2.heap.size by omega)
  have HG := Lib.hid (show g < w2.heap.size by omega)
  obtain ⟨i0, hi, hz0, hz1, hz2⟩ := info_partsF strInfoF
  clear hs2 hg1 hg
  go_wp2_with (at_builtin; refine wpList_append_own _ rfl _ _ 92 rfl B 9 i0 (.string ByteArray.empty) 1 16 Try.underlying92 hi hz0 hz1 hz2 rfl (by decide) v N L rfl (hW2.out.alloc _) ⟨w2.heap.size, 0, none⟩ 1 1 [.string p] rfl rfl (cell_one_newF w2 (.string p) 9) (by simp [Value.oneCell']) (by unfold maxLen; omega) (by omega) (Nat.le_trans hBw2.out (by simp)) ?_; intro v3 w3 hown3 hg3 hn3; obtain ⟨gv, cv, rfl⟩ := own_sliceF hown3 (by omega); have HO3 := Lib.hid hown3; have HG3 := Lib.hid hg3; have HS3 := Lib.hid (show SpAt w3 g (.slice none 0 0) v false from (HG3.out.block g (by simp; have := HG.out; omega) (fun e => own_ne_row hW2.out hS2.out (by decide) e.symm)).trans (hS2.out.kept ((Below.refl _ _).alloc (Nat.le_refl _) _))); have c3 := HS3.out.cq; have f3 := HS3.out.fz 257; clear hown3 hg3 hn3)
  refine bodyPost_none rfl rfl ?_
  refine ⟨rfl, ⟨_, HS3.out.setq _, ?_⟩, ?_⟩
  · have := own_grownS HO3.out (grownByB_setCell w3 g 257 (.slice (some ⟨gv, 0, none⟩) (N + 1) cv)) (.inr (own_ne_row HO3.out HS3.out (by decide)))
    rw [HL.out, show ps.map Value.string ++ [Value.string p] = (ps ++ [p]).map Value.string by simp] at this
    exact this
  · refine Below.setCell ?_ hB _
    exact (hB2.out.alloc hBw2.out _).grown HG3.out (Nat.le_trans hBw2.out (by simp)) (fun k hk => (hW2.out.lt k hk).1)
end Go.Proofs.Ytbhlgceicfjncaa
