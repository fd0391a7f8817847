/-
  LogWrites, from what is asked of the program's log and disk.
-/
import Derived.Test.YtlkifliaaaomeaaLogAwake
import Derived.Test.YtlkifliaaaomeaaRegionG
namespace Go.Proofs.Ytlkifliaaaomeaa
open Go.RowKit
set_option linter.unusedVariables false
set_option linter.unnecessarySimpa false
set_option linter.unusedSimpArgs false
set_option maxRecDepth 100000

theorem own_belowL {w w' : World} {base e n : Nat} {v : Value} {xs : List Value} (h : w.ownsRow base e 1 v n xs) (hb : Below w.heap.size w w') : w'.ownsRow base e 1 v n xs := by
  refine ⟨h.1, ?_⟩
  rcases h.2 with hn | ⟨g, cap, cur, rfl, hb0, hgg, rest⟩
  · exact .inl hn
  · exact .inr ⟨g, cap, cur, rfl, hb0, (hb.block g (Array.getElem?_eq_some_iff.1 hgg).1).trans hgg, rest⟩
theorem own_keepL {w w' : World} {base e n : Nat} {v : Value} {xs : List Value} (h : w.ownsRow base e 1 v n xs) (hk : ∀ k, v.ownBlock = some k → w'.heap[k]? = w.heap[k]?) : w'.ownsRow base e 1 v n xs := by
  refine ⟨h.1, ?_⟩
  rcases h.2 with hn | ⟨g, cap, cur, rfl, hb0, hgg, rest⟩
  · exact .inl hn
  · exact .inr ⟨g, cap, cur, rfl, hb0, (hk g rfl).trans hgg, rest⟩
theorem own_ne_rowL {w : World} {base e n g : Nat} {v : Value} {xs : List Value} {cs : Array Value} {t : TypeId} {fz : Nat × Nat} (h : w.ownsRow base e 1 v n xs) (hg : w.heap[g]? = some (.cells cs t fz)) (hne : e ≠ t) : v.ownBlock ≠ some g := by
  intro hk
  rcases h.2 with ⟨rfl, _⟩ | ⟨g', cap, cur, rfl, hb, hgg, _⟩
  · simp [Value.ownBlock] at hk
  · simp only [Value.ownBlock, Option.some.injEq] at hk
    subst hk
    rw [hgg] at hg
    simp only [Option.some.injEq, Obj.cells.injEq] at hg
    exact hne hg.2.1
theorem below_drewL {B : Nat} {w w' : World} (h : Below B w w') (n : Nat) : Below B w (w'.drewN n) := ⟨h.os, h.tape, h.output, h.size, h.block⟩
set_option maxHeartbeats 4000000 in
theorem logWrites_no {S : Dsk} (L : LogC S) (s : Int) (a : Option Addr) (len cap : Nat) (zs : List ByteArray) (w : World) (hz : IsStrs w a len cap zs) (hf : ¬ FewStrs zs 20 200) :
    Calls Try.prog 3 #[.int .u8 s, .slice a len cap] w fun e w' => e = .returned (.bool true) ∧ Below w.heap.size w w' := by
  have haw := Lib.hid (lawake_any L)
  have HF := Lib.hid (fun w1 (hb : Below w.heap.size w w1) => lfew_no a len cap 20 200 zs w1 (isStrs_below hz hb (fun b off s e h0 => by obtain ⟨b', off', e', hlt, _⟩ := hz.2.2.2 h0; rw [e] at e'; cases e'; exact hlt)) (by decide) (by decide) hf)
  clear hz hf
  go_enter Try.func3, Try.ntmps3
  go_upto_region 2 with (first
    | (go_at_call 5; refine (haw.out _).mono ?_; rintro e w1 ⟨rfl, hb1⟩; have hb1 := Lib.hid hb1)
    | (go_at_call 6; refine (HF.out _ hb1.out).mono ?_; rintro e w2 ⟨rfl, rfl⟩))
  go_wp2_with (go_at_call 5; refine (haw.out _).mono ?_; rintro e w3 ⟨rfl, hb3⟩)
  go_ret
  exact ⟨rfl, hb1.out.trans (hb3.mono hb1.out.size)⟩

/-- Where the loop stands. -/
structure WAt (S : Dsk) (L : LogC S) (w1 : World) (B n : Nat) (d x : Addr) (g0 : Nat) (i : Nat) (ws : List (List UInt8)) (v : Value) (D : DK) (wx : World) : Prop where
  st : LSt S L w1 B d x D (recsB ws) (fun k => k = g0 ∨ v.ownBlock = some k) wx
  holds : Holds D (recsB ws)
  len : D.seen.length = n
  calm : Calm D (100 * i)
  own : wx.ownsRow B 9 1 v ws.length (strCells ws)
  row : wx.heap[g0]? = some (.cells tab 29 (0, 0))
  few : ws.length ≤ i
  small : ∀ r ∈ ws, 1 ≤ r.length ∧ r.length ≤ 200

theorem WAt.stay {S : Dsk} {L : LogC S} {w1 : World} {B n : Nat} {d x : Addr} {g0 i : Nat} {ws : List (List UInt8)} {v : Value} {D : DK} {wx w' : World} (h : WAt S L w1 B n d x g0 i ws v D wx) (hb : Below wx.heap.size wx w') : WAt S L w1 B n d x g0 (i + 1) ws v D w' :=
  ⟨h.st.stay hb, h.holds, h.len, calm_up h.calm (by omega), own_belowL h.own hb, (hb.block g0 (Array.getElem?_eq_some_iff.1 h.row).1).trans h.row, by have := h.few; omega, h.small⟩
theorem flat_stands {D : DK} {ws : List (List UInt8)} (h : Holds D (recsB ws)) (hs : ∀ r ∈ ws, 1 ≤ r.length ∧ r.length ≤ 200) : stands D.seen.flatten = ws ∧ D.seen.flatten.take (endOf ws) = recsB ws := by
  rw [h.bytes]
  refine ⟨stands_recs _ ws (fun r hr => ⟨(hs r hr).1, Nat.le_trans (hs r hr).2 (by decide)⟩), ?_⟩
  rw [← recsB_length]
  exact List.take_left
/-- Opened again, once all was appended. -/
theorem WAt.again {S : Dsk} {L : LogC S} {w1 : World} {B n : Nat} {d x : Addr} {g0 i : Nat} {ws : List (List UInt8)} {a12 : Option Addr} {c12 : Nat} {D : DK} {wx : World} (h : WAt S L w1 B n d x g0 i ws (.slice a12 ws.length c12) D wx) (hn : n ≤ 40) (hi : i ≤ 20) :
    Calls Try.prog 9 #[.agg tab, .pointer (some d)] wx fun e w' => ∃ y a c D', e = .returned (.tuple #[.pointer (some y), .slice a ws.length c, .int .i64 0]) ∧
      IsStrs w' a ws.length c (ws.map fun x => ⟨x.toArray⟩) ∧ IsStrs w' a12 ws.length c12 (ws.map fun x => ⟨x.toArray⟩) ∧ LSt S L w1 B d y D' (recsB ws) (fun _ => False) w' ∧
      D'.seen.flatten = recsB ws ++ List.replicate (64 * n - (recsB ws).length) 0 ∧ D'.fuse = -1 ∧ D'.seen.length = n ∧ ∃ Ol, L.At w' x d n (recsB ws) false Ol := by
  obtain ⟨hst, hen⟩ := flat_stands h.holds h.small
  refine (lst_again L h.st (calm_up h.calm (by omega)) (by rw [h.len]; omega)).mono fun e w' hx => ?_
  rw [hst, hen] at hx
  obtain ⟨y, v, he, hv, ⟨D', hl, hh, hn', hc'⟩, hk, hx0⟩ := hx
  have hsm : ∀ s ∈ ws, s.length ≤ 1000000 := fun s hs => Nat.le_trans (h.small s hs).2 (by decide)
  obtain ⟨a, c, rfl, ha⟩ := own_isStrs hv hsm
  have hown : w'.ownsRow B 9 1 (.slice a12 ws.length c12) ws.length (strCells ws) := own_keepL h.own (fun k hk' => hk k (.inr hk') (h.own.lt k hk').2)
  obtain ⟨a2, c2, e2, ha2⟩ := own_isStrs hown hsm
  injection e2 with e3 e4 e5
  subst e3 e5
  rw [h.len] at hn' hx0
  exact ⟨y, a, c, D', he, ha, ha2, hl.less (fun _ hf => hf.elim), by rw [← hn']; exact hh.bytes, hc'.fuse, hn', hx0⟩
/-- What the last region's slots hold. -/
def psiW (d x y : Addr) (n z : Nat) (X Zs : ByteArray) (a3 a12 : Option Addr) (k c3 c12 : Nat) (ZR : Array Value) : Nat → Value → World → Prop := fun t v w =>
  match t with
  | 5 => v = .int .i64 (n : Int) | 6 => v = .pointer (some d) | 8 => v = .pointer (some x) | 11 => v = .string X | 12 => v = .slice a12 k c12 | 16 => v = .pointer (some y) | 17 => v = .slice a3 k c3 | 18 => v = .int .i64 0
  | 112 => v = .pointer (some d) | 113 => v = .string (X ++ Zs) | 114 => v = .string X | 115 => v = .int .i64 (n : Int) | 116 => v = .int .i64 (64 * (n : Int)) | 117 => v = .string X | 118 => v = .int .i64 (X.size : Int)
  | 119 => v = .int .i64 (z : Int) | 120 => ∃ g, v = .slice (some ⟨g, 0, none⟩) z z ∧ w.heap[g]? = some (.cells ZR 5 (0, 0)) | 121 => v = .string Zs | 122 => v = .string (X ++ Zs)
  | 123 => v = .bool true | 124 => v = .bool true | 125 => v = .int .i64 0 | 126 => v = .bool true | 127 => v = .bool true | 128 => v = .bool true | 129 => v = .slice a3 k c3 | 130 => v = .slice a12 k c12
  | 131 => v = .bool true | 132 => v = .bool true | 133 => v = .bool true | 134 => v = .pointer (some y) | 135 => v = .int .i64 (X.size : Int) | 136 => v = .string X | 137 => v = .int .i64 (X.size : Int)
  | 138 => v = .bool true | 139 => v = .bool true | 140 => v = .bool true | 141 => v = .pointer (some x) | 142 => v = .bool false | 143 => v = .bool true | 144 => v = .bool true | 4 => v = .bool true
  | _ => True
theorem psiW_stable (d x y : Addr) (n z : Nat) (X Zs : ByteArray) (a3 a12 : Option Addr) (k c3 c12 : Nat) (ZR : Array Value) : ∀ t v w w', psiW d x y n z X Zs a3 a12 k c3 c12 ZR t v w → Below w.heap.size w w' → psiW d x y n z X Zs a3 a12 k c3 c12 ZR t v w' := by
  intro t v w w' h hb
  by_cases ht : t = 120
  · subst ht
    obtain ⟨g, hv, hg⟩ := h
    exact ⟨g, hv, (hb.block g (Array.getElem?_eq_some_iff.1 hg).1).trans hg⟩
  · unfold psiW at h ⊢
    split at h <;> first | exact h | exact absurd rfl ht | trivial
theorem logTabSize : (Try.prog.info? 29).map (·.size) = some tab.size := tableSize

set_option maxHeartbeats 8000000 in
theorem logWrites_yes {S : Dsk} (L : LogC S) (s : Nat) (hs1 : s < 256) (a : Option Addr) (len cap : Nat) (zs : List ByteArray) (w : World) (hz : IsStrs w a len cap zs) (hf : FewStrs zs 20 200) :
    Calls Try.prog 3 #[.int .u8 (s : Int), .slice a len cap] w fun e w' => e = .returned (.bool true) ∧ Below w.heap.size w w' := by
  have haw := Lib.hid (lawake_any L)
  have hmk := Lib.hid make_any
  have hzt := (zero_of_info (P := Try.prog) tableInfo).1
  have hl20 : len ≤ 20 := by rw [← hz.1]; exact hf.2
  have HF := Lib.hid (fun w1 (hb : Below w.heap.size w w1) => lfew_yes a len cap 20 200 zs w1 (isStrs_below hz hb (fun b off s e h0 => by obtain ⟨b', off', e', hlt, _⟩ := hz.2.2.2 h0; rw [e] at e'; cases e'; exact hlt)) (by decide) (by decide) hf)
  have HZ := Lib.hid hz
  have HFS := Lib.hid hf
  obtain ⟨n, hn⟩ : ∃ n : Nat, (s : Int) % 41 = (n : Int) := ⟨s % 41, by omega⟩
  have hn40 : n ≤ 40 := by omega
  have hcl : clampD (n : Int) = n := by unfold clampD; rw [if_neg (by omega), if_neg (by omega)]; omega
  have HN := Lib.hid (fun w => st_new S (n : Int) w (by omega) (by omega))
  rw [hcl] at HN
  clear hz hf hcl hs1
  go_enter Try.func3, Try.ntmps3
  go_upto_region 9 with (first
    | (go_at_call 5; refine (haw.out _).mono ?_; rintro e w1 ⟨rfl, hb1⟩; have hb1 := Lib.hid hb1)
    | (go_at_call 6; refine (HF.out _ hb1.out).mono ?_; rintro e w1 ⟨rfl, rfl⟩)
    | (go_at_call 7; refine (HN.out _).mono ?_; rintro e w2 ⟨d, rfl, hst⟩; have hst := Lib.hid (DSt.of_st hst))
    | (go_at_call 8; refine (hmk.out _).mono ?_; rintro e w3 ⟨rfl, hb3⟩; have hst3 := Lib.hid (DSt.stay (far' := fun k => k = w3.heap.size) hst.out (hb3.alloc hb3.size (.cells tab 29)) (fun k hk => by rw [hk]; exact .inr hb3.size)); have hrow3 := Lib.hid (heap_alloc_last w3 (.cells tab 29)))
    | (refine wpList_store_row rfl 29 _ _ rfl w3.heap.size tab rfl rfl 29 (Array.replicate 256 (.int .u32 0)) (heap_alloc_last w3 _) tableSize zeroTable_size tab_one ?_; rw [World.setRow_alloc_new]; dsimp only [Act.put])
    | (refine wpList_load_row rfl 29 _ rfl w3.heap.size rfl 29 tab (0, 0) _ hrow3.out Try.underlying29 rfl tableSize ?_; dsimp only [Act.put])
    | (go_at_call 9; refine (lst_new L hst3.out (by omega)).mono ?_; rintro e w5 ⟨x, a5, c5, rfl, ⟨D5, hl5, hh5, hn5, hc5⟩, hr5⟩; have hl5 := Lib.hid hl5; have hh5 := Lib.hid hh5; have hn5 := Lib.hid hn5; have hc5 := Lib.hid hc5; have hr5 := Lib.hid ((hr5 w3.heap.size rfl (by simp)).trans hrow3.out); have hE := Lib.hid (hl5.out.endd (by decide)))
    | (go_at_call 10; refine hE.out.mono ?_; rintro e w6 ⟨rfl, hb6⟩; have hb6 := Lib.hid hb6))
  have hstr := Lib.hid logStrInfo
  obtain ⟨B, hB⟩ : ∃ B, B = w1.heap.size := ⟨_, rfl⟩
  have hr6 := Lib.hid ((hb6.out.block w3.heap.size (Array.getElem?_eq_some_iff.1 hr5.out).1).trans hr5.out)
  have hB3 := Lib.hid (show B ≤ w3.heap.size by rw [hB]; exact Nat.le_trans hst.out.size hb3.size)
  have hw1 := Lib.hid (show Below w.heap.size w w1 from hb1.out)
  have hw1B := Lib.hid (show w.heap.size ≤ B by rw [hB]; exact hb1.out.size)
  have hl6 := Lib.hid (LSt.less (far' := fun k => k = w3.heap.size) (hl5.out.stay hb6.out) (fun k hk => ⟨hk, by rw [hk]; simp⟩))
  obtain ⟨g0, hg0⟩ : ∃ g0, g0 = w3.heap.size := ⟨_, rfl⟩
  rw [← hg0] at hr6 hB3 hl6 ⊢
  rw [← hB] at hl6
  have hat := Lib.hid (show WAt S L w1 B n d x g0 0 [] (.slice none 0 0) D5 w6 from ⟨hl6.out.less (fun k hk => hk.elim id (fun h => by cases h)), hh5.out, hn5.out, calm_up hc5.out (by decide), World.ownsRow_nil _ _ _ _, hr6.out, Nat.zero_le _, fun r hr => by cases hr⟩)
  clear hst hst3 hl5 hh5 hn5 hc5 hr5 hE hl6 hr6 hb6 hB hg0 hrow3 hb3 hzt HN HF
  go_wp2_with fail
  go_loopg [11, 12, 13, 14, 15, 81, 89] len (fun g s11 s12 s13 s14 s15 s81 s89 wx => ∃ (i : Nat) (ws : List (List UInt8)) (a12 : Option Addr) (c12 : Nat) (D : DK), i + g = len ∧ s11 = .string ⟨(recsB ws).toArray⟩ ∧ s12 = .slice a12 ws.length c12 ∧ s13 = .int .i64 i ∧ Hid (WAt S L w1 B n d x g0 i ws (.slice a12 ws.length c12) D wx))
  case atStart => exact ⟨0, [], none, 0, D5, by omega, rfl, rfl, rfl, hat⟩
  case round =>
    obtain ⟨i, ws, a12, c12, D, hig, rfl, rfl, rfl, hat⟩ := hrel
    cases gk with
    | zero =>
      obtain rfl : i = len := by omega
      have HO := Lib.hid (hat.out.again hn40 hl20)
      have hrow := Lib.hid hat.out.row
      have hle := Lib.hid (show (recsB ws).length ≤ 64 * n by rw [← hat.out.len]; exact hat.out.holds.le)
      clear hat HZ HFS
      go_upto_region 29 with (first
        | (refine wpList_load_row rfl 29 _ rfl g0 rfl 29 tab (0, 0) _ hrow.out Try.underlying29 rfl tableSize ?_; dsimp only [Act.put])
        | (go_at_call 9; refine HO.out.mono ?_; rintro e w3 ⟨y, a3, c3, D3, rfl, hI1, hI2, hl3, hf3, hu3, hn3, Ol3, hx3⟩; have hI1 := Lib.hid hI1; have hI2 := Lib.hid hI2; have hl3 := Lib.hid hl3; have hf3 := Lib.hid hf3; have hu3 := Lib.hid hu3; have hn3 := Lib.hid hn3; have hx3 := Lib.hid hx3))
      obtain ⟨X, hX⟩ : ∃ X : ByteArray, X = ⟨(recsB ws).toArray⟩ := ⟨_, rfl⟩
      have hXs : X.size = (recsB ws).length := by rw [hX]; show (recsB ws).toArray.size = _; rw [List.size_toArray]
      obtain ⟨z, hz⟩ : ∃ z, z = 64 * n - (recsB ws).length := ⟨_, rfl⟩
      have hle := hle.out
      have hk1 : IntKind.i64.wrap (64 * (n : Int)) = 64 * (n : Int) := IntWalk.i64_in _ (by omega)
      have hzr : IntKind.i64.wrap (64 * (n : Int) - (X.size : Int)) = (z : Int) := by rw [IntWalk.i64_in _ (by omega)]; omega
      have hz3 : z ≤ 300000 := by omega
      obtain ⟨ZR, hZR⟩ : ∃ ZR, ZR = (Lib.byteCells (List.replicate z 0)).toArray := ⟨_, rfl⟩
      obtain ⟨Zs, hZs⟩ : ∃ Zs : ByteArray, Zs = ⟨(List.replicate z (0 : UInt8)).toArray⟩ := ⟨_, rfl⟩
      have hmk0 := fun w => lmk_zero (z : Int) (by omega) (by omega) w
      have hcv0 := fun (w : World) (g : Nat) h => lconvert_zero z hz3 w g h
      simp only [Int.toNat_natCast] at hmk0
      rw [← hZR] at hmk0
      rw [← hZR, ← hZs] at hcv0
      have hZsz : Zs.size = z := by rw [hZs]; show (List.replicate z (0 : UInt8)).toArray.size = _; simp
      have hXZ : ¬ 9223372036854775807 < X.size + Zs.size := by omega
      have HCV := Lib.hid hcv0
      clear hcv0
      have HBy := Lib.hid (fun W (hb : Below w3.heap.size w3 W) => by
        obtain ⟨O3, hd3⟩ := (hl3.out.stay hb).disk
        have := bytes_any hd3 hu3.out (by rw [hn3.out]; omega)
        rwa [hf3.out, ← hz, ← ba_append_list, ← hX, ← hZs] at this)
      have HSm := Lib.hid (fun W (hb : Below w3.heap.size w3 W) => by
        have hk := fun (a : Option Addr) (c : Nat) (h : IsStrs w3 a ws.length c (ws.map fun x => ⟨x.toArray⟩)) => isStrs_below h hb (fun b off s e h0 => by obtain ⟨b', off', e', hlt, _⟩ := h.2.2.2 h0; rw [e] at e'; cases e'; exact hlt)
        exact same_yes a3 a12 ws.length c3 c12 _ W (hk _ _ hI1.out) (hk _ _ hI2.out))
      have HEn := Lib.hid (fun W (hb : Below w3.heap.size w3 W) => by
        have := (hl3.out.stay hb).endd (by omega)
        rwa [← hXs] at this)
      have HOv := Lib.hid (fun W (hb : Below w3.heap.size w3 W) => L.over (L.stay hx3.out (fun k hk => hb.block k (L.lt hx3.out k hk))))
      have H3 := Lib.hid (hw1.out.trans (hl3.out.below.mono hw1B.out))
      rw [← hX]
      clear hX hXs hz hle hz3 hZR hZs hI1 hI2 hf3 hu3 hn3 hl3 hx3 hZsz
      refine wp_region_flowG [5, 6, 8, 11, 12, 16, 17, 18] [4] [(124, true), (128, true), (133, true), (140, true)] (psiW d x y n z X Zs a3 a12 ws.length c3 c12 ZR) 145 (by kernel_rfl) (by kernel_rfl) rfl (by kernel_rfl) (by kernel_rfl) (by kernel_rfl) ?_ (psiW_stable _ _ _ _ _ _ _ _ _ _ _ _ _) ?_ ?_ ?_
      · intro x hx v w hv
        simp only [List.mem_cons, List.not_mem_nil, or_false] at hx
        rcases hx with rfl | rfl | rfl | rfl <;> exact hv
      · intro t ht w' _
        simp only [List.mem_cons, List.not_mem_nil, or_false] at ht
        rcases ht with rfl | rfl | rfl | rfl | rfl | rfl | rfl | rfl <;> rfl
      · repeat' (first | exact AllSteps.nil | refine AllSteps.cons ?_ ?_)
        all_goals
          first
          | (intro a' w' K Q hB hP hK
             obtain ⟨⟨gz, h, hz⟩, hP⟩ := hP
             have hcz := HCV.out w' gz hz
             go_simp
             refine hK _ _ (Below.refl _ _) ?_
             intro d hd; cases hd; rfl)
          | (intro a' w' K Q hB hP hK
             repeat (obtain ⟨h, hP⟩ := hP; conv at h => whnf)
             have HB := Lib.hid hB
             try go_simp
             first
              | (refine hK _ _ (Below.refl _ _) ?_; intro d hd; cases hd; first | rfl | exact h | trivial)
              | (refine hK _ _ ((Below.refl _ _).alloc (Nat.le_refl _) _) ?_; intro d hd; cases hd; exact ⟨_, rfl, heap_alloc_new _ _⟩)
              | (go_at_call 13; refine (HBy.out _ HB.out).mono ?_; rintro e w'' ⟨rfl, hb⟩; refine hK _ _ hb ?_; intro d hd; cases hd; rfl)
              | (go_at_call 14; refine (HSm.out _ HB.out).mono ?_; rintro e w'' ⟨rfl, m, rfl⟩; refine hK _ _ (below_drewL (Below.refl _ _) m) ?_; intro d hd; cases hd; rfl)
              | (go_at_call 10; refine (HEn.out _ HB.out).mono ?_; rintro e w'' ⟨rfl, hb⟩; refine hK _ _ hb ?_; intro d hd; cases hd; rfl)
              | (go_at_call 15; refine (HOv.out _ HB.out).mono ?_; rintro e w'' ⟨rfl, hb⟩; refine hK _ _ hb ?_; intro d hd; cases hd; rfl))
      · intro a' w' hb hsz hdf hold hnew
        have h4 : a'.tmps.getD 4 undef = .bool true := hnew 4 (by simp)
        go_wp2_with fail
        refine bodyPost_ret (results_tmp rfl _ _ _) hdf ?_
        rw [h4]
        exact ⟨rfl, H3.out.trans (hb.mono H3.out.size)⟩
    | succ g =>
      have hil : i < len := by omega
      have hiz : (i : Int) < (len : Int) := by omega
      obtain ⟨b, off, rfl, hbl, hop⟩ := HZ.out.2.2.2 (by omega)
      have hci := hop i hil
      have hps := HFS.out.1 i (by rw [HZ.out.1]; exact hil) (by omega)
      obtain ⟨p, hp⟩ : ∃ p, p = zs.getD i ByteArray.empty := ⟨_, rfl⟩
      rw [← hp] at hci hps
      have hW := Lib.hid (hw1.out.trans (hat.out.st.below.mono hw1B.out))
      have c := hW.out.cell (p := ⟨b, off + i, none⟩) hbl
      rw [hci] at c
      have HCI := Lib.hid hci
      have hbW := Lib.hid (show b < wr.heap.size from Nat.lt_of_lt_of_le hbl hW.out.size)
      have HM := Lib.hid (made_any p (by omega))
      have hRs := recS_size p
      obtain ⟨R, hR⟩ : ∃ R, R = recS p := ⟨_, rfl⟩
      rw [← hR] at HM hRs
      obtain ⟨A, hA⟩ : ∃ A : ByteArray, A = ⟨(recsB ws).toArray⟩ := ⟨_, rfl⟩
      have hAs : A.size = (recsB ws).length := by rw [hA]; show (recsB ws).toArray.size = _; rw [List.size_toArray]
      have hAm : A.size ≤ 64 * n := by rw [hAs, ← hat.out.len]; exact hat.out.holds.le
      rw [← hA]
      have HE := Lib.hid (fun w' (hb : Below wr.heap.size wr w') => (hat.out.st.stay hb).endd (by rw [← hAs]; omega))
      rw [← hAs] at HE
      have HA := Lib.hid hA
      have HRR := Lib.hid hR
      have HP := Lib.hid hp
      clear hci hop hp hA hR
      have hpos : p.size < 1 ∨ (1 ≤ p.size ∧ 64 * n < A.size + (p.size + 6)) ∨ (1 ≤ p.size ∧ A.size + (p.size + 6) ≤ 64 * n) := by omega
      rcases hpos with h0 | ⟨h1, h2⟩ | ⟨h1, h2⟩
      · have he : p = ⟨#[]⟩ := by apply l_ba_ext; exact List.length_eq_zero_iff.1 (by rw [← Lib.size_eq]; omega)
        have HL := Lib.hid (hat.out.st.appendLong p (.inl h0) (by omega))
        subst he
        have hRm : R.size ≤ 206 := by omega
        clear hRs
        go_wp2_with (first
          | (go_at_call 11; refine HL.out.mono ?_; rintro e w7 ⟨rfl, hb7⟩; have hb7 := Lib.hid hb7; have c7 := (hb7.out.cell (p := ⟨b, off + i, none⟩) hbW.out).trans c)
          | (go_at_call 12; refine (HM.out _).mono ?_; rintro e w8 ⟨rfl, hb8⟩; have hb8 := Lib.hid (hb7.out.trans (hb8.mono hb7.out.size)); have c8 := (hb8.out.cell (p := ⟨b, off + i, none⟩) hbW.out).trans c)
          | (go_at_call 10; refine (HE.out _ hb8.out).mono ?_; rintro e w9 ⟨rfl, hb9⟩; have hb9 := Lib.hid (hb8.out.trans (hb9.mono hb8.out.size))))
        go_roundg g
        case measure => omega
        case rel => exact ⟨i + 1, ws, a12, c12, D, by omega, by rw [HA.out], rfl, by go_num, Lib.hid (hat.out.stay hb9.out)⟩
      · have HL := Lib.hid (hat.out.st.appendFull (by rw [hat.out.len]; omega) p h1 (by omega) hat.out.holds.le (by rw [hat.out.len, ← hAs]; omega))
        obtain ⟨hpe1, hpe2, hpe3⟩ := lba_some (s := p) (by omega)
        have hbig : (64 : Int) * (n : Int) < (A.size : Int) + (R.size : Int) := by omega
        have hRm : R.size ≤ 206 := by omega
        clear hRs
        go_wp2_with (first
          | (go_at_call 11; refine HL.out.mono ?_; rintro e w7 ⟨rfl, hb7⟩; have hb7 := Lib.hid hb7; have c7 := (hb7.out.cell (p := ⟨b, off + i, none⟩) hbW.out).trans c)
          | (go_at_call 12; refine (HM.out _).mono ?_; rintro e w8 ⟨rfl, hb8⟩; have hb8 := Lib.hid (hb7.out.trans (hb8.mono hb7.out.size)); have c8 := (hb8.out.cell (p := ⟨b, off + i, none⟩) hbW.out).trans c)
          | (go_at_call 10; refine (HE.out _ hb8.out).mono ?_; rintro e w9 ⟨rfl, hb9⟩; have hb9 := Lib.hid (hb8.out.trans (hb9.mono hb8.out.size))))
        go_roundg g
        case measure => omega
        case rel => exact ⟨i + 1, ws, a12, c12, D, by omega, by rw [HA.out], rfl, by go_num, Lib.hid (hat.out.stay hb9.out)⟩
      · have HL := Lib.hid (hat.out.st.append hat.out.holds (calm_up hat.out.calm (by omega)) (by rw [hat.out.len]; omega) p h1 (by omega) (by rw [hat.out.len, ← hAs]; omega))
        obtain ⟨hpe1, hpe2, hpe3⟩ := lba_some (s := p) (by omega)
        have hfit : ¬ (64 : Int) * (n : Int) < (A.size : Int) + (R.size : Int) := by omega
        have hXY : A.size + R.size ≤ 9223372036854775807 := by omega
        have hRm : R.size ≤ 206 := by omega
        have HCAT := Lib.hid (show A ++ R = ⟨(recsB (ws ++ [p.data.toList])).toArray⟩ by rw [HA.out, HRR.out, recsB_snoc]; exact ba_append_list _ _)
        have HLEN := Lib.hid (show ((recsB (ws ++ [p.data.toList])).length : Int) = (A.size : Int) + (R.size : Int) by rw [recsB_snoc, List.length_append, ← hAs, show R.size = (recB p.data.toList).length by rw [HRR.out]; show (recB _).toArray.size = _; exact List.size_toArray]; simp)
        have hwl : ws.length ≤ 20 := Nat.le_trans hat.out.few (by omega)
        have hVl := Lib.hid hat.out.own.lt
        have hg0l := Lib.hid (Array.getElem?_eq_some_iff.1 hat.out.row).1
        obtain ⟨i0, hi, hz0, hz1, hz2⟩ := info_parts hstr.out
        clear hRs hAs
        go_wp2_with (first
          | (go_at_call 11; refine HL.out.mono ?_; rintro e w7 ⟨rfl, D7, hl7, hh7, hn7, hc7, hr7⟩; have hl7 := Lib.hid hl7; have hh7 := Lib.hid hh7; have hn7 := Lib.hid hn7; have hc7 := Lib.hid hc7; have hr7 := Lib.hid hr7; have c7 := ((hw1.out.trans (hl7.out.below.mono hw1B.out)).cell (p := ⟨b, off + i, none⟩) hbl).trans HCI.out)
          | (go_at_call 12; refine (HM.out _).mono ?_; rintro e w8 ⟨rfl, hb8⟩; have hl8 := Lib.hid (hl7.out.stay hb8); have HO8 := Lib.hid (own_belowL (own_keepL hat.out.own (fun k hk => hr7.out k (.inr hk) (hVl.out k hk).2)) hb8); have hr8 := Lib.hid ((hb8.block g0 (by have := hl7.out.size; exact Nat.lt_of_lt_of_le (Array.getElem?_eq_some_iff.1 ((hr7.out g0 (.inl rfl) hg0l.out).trans hat.out.row)).1 (Nat.le_refl _))).trans ((hr7.out g0 (.inl rfl) hg0l.out).trans hat.out.row)); have c8 := ((hw1.out.trans (hl8.out.below.mono hw1B.out)).cell (p := ⟨b, off + i, none⟩) hbl).trans HCI.out)
          | (at_builtin; refine wpList_append_own2 rfl _ _ 22 rfl B 9 i0 (.string ByteArray.empty) 1 16 Try.underlying22 hi hz0 hz1 hz2 rfl (by decide) (.slice a12 ws.length c12) ws.length (strCells ws) rfl (HO8.out.alloc _) ⟨w8.heap.size, 0, none⟩ 1 1 [.string p] rfl rfl (cell_one_new w8 (.string p) 9) (by simp [Value.oneCell']) (by unfold maxLen; omega) (by omega) (Nat.le_trans hl8.out.size (by simp)) ?_; intro v9 w9 hown9 hg9 hn9; obtain ⟨gv, cv, rfl, _, _⟩ := own_slice hown9 (by omega); have hown9 := Lib.hid hown9; have hg9 := Lib.hid hg9; have hn9 := Lib.hid hn9)
          | (go_at_call 10; have HL9 := Lib.hid (LSt.grown (far' := fun k => k = g0 ∨ (Value.slice (some ⟨gv, 0, none⟩) (ws.length + 1) cv).ownBlock = some k) (hl8.out.stay ((Below.refl _ _).alloc (Nat.le_refl _) _)) hg9.out (fun k hk => ⟨⟨.inr hk, (hVl.out k hk).2⟩, (hVl.out k hk).1⟩) (fun k hk => hk.elim (fun e => .inl ⟨.inl e, by rw [e]; exact hg0l.out⟩) (fun e => (hn9.out k e).elim (fun h => .inl ⟨.inr h, (hVl.out k h).2⟩) .inr))); rw [← recsB_snoc] at HL9; have HE9 := Lib.hid (HL9.out.endd (by have := HLEN.out; omega)); rw [HLEN.out] at HE9; refine HE9.out.mono ?_; rintro e w10 ⟨rfl, hb10⟩; have hb10 := Lib.hid hb10))
        have hr9 := Lib.hid (show w9.heap[g0]? = some (.cells tab 29 (0, 0)) from (hg9.out.block g0 (by have := (Array.getElem?_eq_some_iff.1 hr8.out).1; simp; omega) (fun e => own_ne_rowL HO8.out hr8.out (by decide) e.symm)).trans (((Below.refl w8.heap.size w8).alloc (Nat.le_refl _) _).block g0 (Array.getElem?_eq_some_iff.1 hr8.out).1 |>.trans hr8.out))
        have hh9 := Lib.hid (show Holds D7 (recsB (ws ++ [p.data.toList])) by rw [recsB_snoc]; exact hh7.out)
        have hfin := Lib.hid (show WAt S L w1 B n d x g0 (i + 1) (ws ++ [p.data.toList]) (.slice (some ⟨gv, 0, none⟩) (ws.length + 1) cv) D7 w10 from
          ⟨HL9.out.stay hb10.out, hh9.out, hn7.out.trans hat.out.len, calm_up hc7.out (by have := hat.out.calm.waits; omega),
            by have := own_belowL hown9.out hb10.out; rw [List.length_append, show strCells (ws ++ [p.data.toList]) = strCells ws ++ [Value.string p] by cases p; simp [strCells]]; exact this,
            (hb10.out.block g0 (Array.getElem?_eq_some_iff.1 hr9.out).1).trans hr9.out, by rw [List.length_append]; have := hat.out.few; simp; omega,
            fun r hr => (List.mem_append.1 hr).elim (hat.out.small r) (fun h => by rw [List.mem_singleton.1 h, ← Lib.size_eq]; exact ⟨h1, hps⟩)⟩)
        go_roundg g
        case measure => omega
        case rel => exact ⟨i + 1, ws ++ [p.data.toList], some ⟨gv, 0, none⟩, cv, D7, by omega, congrArg Value.string HCAT.out, by rw [List.length_append]; rfl, by go_num, by rw [List.length_append]; exact hfin⟩
end Go.Proofs.Ytlkifliaaaomeaa
