/-
  Joined: MvcRefK, MvcRefKeys.
-/
import Derived.Test.YtdcefhhmddjodaaSet06
import Derived.Test.YtdcefhhmddjodaaSet07
import Derived.Laws.AppendOwnNone
import Derived.Maps.AppendAt
namespace Go.Proofs.Ytdcefhhmddjodaa
open Go.RowKit
set_option linter.unusedVariables false
set_option linter.unnecessarySimpa false
set_option linter.unusedSimpArgs false
set_option maxRecDepth 100000

theorem posK_le (k : ByteArray) : ∀ l : List ByteArray, posK k l ≤ l.length
  | [] => Nat.le_refl _
  | x :: l => by unfold posK; have := posK_le k l; split <;> simp <;> omega
theorem posK_before (k : ByteArray) : ∀ (l : List ByteArray) (i : Nat), i < posK k l → ltK (l.getD i ⟨#[]⟩) k = true
  | [], i, h => by simp [posK] at h
  | x :: l, i, h => by
    unfold posK at h
    split at h
    · rename_i hx
      cases i with
      | zero => simpa using hx
      | succ i => simpa using posK_before k l i (by omega)
    · omega
theorem posK_at (k : ByteArray) : ∀ (l : List ByteArray), posK k l < l.length → ltK (l.getD (posK k l) ⟨#[]⟩) k = false
  | [], h => by simp at h
  | x :: l, h => by
    unfold posK at h ⊢
    by_cases hx : ltK x k = true
    · rw [if_pos hx] at h ⊢
      simpa using posK_at k l (by simpa using h)
    · rw [if_neg hx]
      simpa using hx
def kCells (l : List ByteArray) : List Value := l.map Value.string
/-- The keys so far: nil, or a row of the call's own. -/
def KOwn (w : World) (B : Nat) (v : Value) (l : List ByteArray) : Prop := w.ownsRow B 9 1 v l.length (kCells l)
theorem KOwn.below {w w' : World} {B : Nat} {v : Value} {l : List ByteArray} (h : KOwn w B v l) (hb : Below w.heap.size w w') : KOwn w' B v l := by
  refine ⟨h.1, ?_⟩
  rcases h.2 with hn | ⟨g, cap, cur, rfl, h2, h3, rest⟩
  · exact .inl hn
  · exact .inr ⟨g, cap, cur, rfl, h2, (hb.block g (Array.getElem?_eq_some_iff.1 h3).1).trans h3, rest⟩
theorem KOwn.cell {w : World} {B : Nat} {a : Option Addr} {n c : Nat} {l : List ByteArray} (h : KOwn w B (.slice a n c) l) {i : Nat} (hi : i < n) : ∃ g, a = some ⟨g, 0, none⟩ ∧ w.cell? ⟨g, i, none⟩ = some (.string (l.getD i ⟨#[]⟩)) := by
  rcases h.2 with ⟨e, h0⟩ | ⟨g, cap, cur, e, h2, h3, h4, h5, h6, h7⟩
  · injection e with e1 e2 e3; omega
  · injection e with e1 e2 e3
    subst e1 e2 e3
    refine ⟨g, rfl, ?_⟩
    rw [cell_of_row _ _ _ _ _ _ h3]
    have hl : i < cur.size := by omega
    have : (cur.toList.take (l.length * 1))[i]? = (kCells l)[i]? := by rw [h7]
    rw [List.getElem?_take, if_pos (by omega)] at this
    simp only [Array.getElem?_toList] at this
    rw [this]
    simp [kCells, List.getD, hi]
theorem kInfo : (Try.prog.info? 9).map (fun i => (i.zero, i.size, i.bytes)) = some (some (.string ByteArray.empty), 1, 16) := by kernel_rfl
theorem kI : ∃ i, Try.prog.info? 9 = some i ∧ i.zero = some (.string ByteArray.empty) ∧ i.size = 1 ∧ i.bytes = 16 := by
  have h := kInfo
  cases hq : Try.prog.info? 9 with
  | none => rw [hq] at h; simp at h
  | some i =>
    rw [hq] at h
    simp only [Option.map_some, Option.some.injEq, Prod.mk.injEq] at h
    exact ⟨i, rfl, h.1, h.2.1, h.2.2⟩
theorem run_ks0 (w : World) : (Instr.buildSlice 50 0 #[]).run Try.prog w = .ok (.slice (some ⟨w.heap.size, 0, none⟩) 0 0) (w.alloc (.cells #[] 9)) := by
  obtain ⟨i, hi, hz0, hz2, hz3⟩ := kI
  unfold Instr.buildSlice
  have hr : Array.range 0 = #[] := rfl
  simp [run_underlying Try.underlying50, sizeOf, typeInfo, zeroValue, hi, hz2, Instr.fill, newRow, Sem.run_bind, hr]
theorem wpList_ks0 {ops : Array Oper} {rest : List Oper} {op : Oper} {a : Act} {w : World} {Q : Exit → Act → World → Prop} (hgd : op.guard = none) (ho : op.op = .buildSlice 50 0 #[])
    (h : wpList Try.prog ops Q rest (a.put op.dst (.slice (some ⟨w.heap.size, 0, none⟩) 0 0)) (w.alloc (.cells #[] 9))) : wpList Try.prog ops Q (op :: rest) a w :=
  wpList_plain hgd fun _ hK => by
    unfold Oper.wp execOp
    simp [ho, run_ks0 w, Oper.upon]
    exact hK _ _ h
theorem keys_take (L : List Im) {i : Nat} (h : i < L.length) : keysM (L.take (i + 1)) = keyStep (keysM (L.take i)) (L.getD i im0).key := by rw [takeI_succ L h, keysM_snoc]
structure KeyW (w : World) (a : Option Addr) (len cap : Nat) (wx : World) : Prop where
  below : Below w.heap.size w wx
  box : wx.heap[w.heap.size]? = some (.cells #[.slice a len cap] 29 (0, 0))
theorem KeyW.later {w wx w' : World} {a : Option Addr} {len cap : Nat} (h : KeyW w a len cap wx) (hb : Below wx.heap.size wx w') : KeyW w a len cap w' :=
  ⟨h.below.trans (hb.mono h.below.size), (hb.block _ (Array.getElem?_eq_some_iff.1 h.box).1).trans h.box⟩

end Go.Proofs.Ytdcefhhmddjodaa

namespace Go.Proofs.Ytdcefhhmddjodaa
open Go.RowKit
set_option linter.unusedVariables false
set_option linter.unnecessarySimpa false
set_option linter.unusedSimpArgs false
set_option maxRecDepth 100000

theorem KOwn.base {w : World} {B B' : Nat} {v : Value} {l : List ByteArray} (h : KOwn w B v l) (hb : B' ≤ B) : KOwn w B' v l := by
  refine ⟨h.1, ?_⟩
  rcases h.2 with hn | ⟨g, cap, cur, h1, h2, rest⟩
  · exact .inl hn
  · exact .inr ⟨g, cap, cur, h1, by omega, rest⟩
/-- The keys so far, and nil where there are none. -/
structure KSo (w : World) (B : Nat) (v : Value) (l : List ByteArray) : Prop where
  own : KOwn w B v l
  nil : l = [] → v = .slice none 0 0
theorem KSo.form {w : World} {B : Nat} {v : Value} {l : List ByteArray} (h : KSo w B v l) : (l = [] ∧ v = .slice none 0 0) ∨ (0 < l.length ∧ ∃ g c, v = .slice (some ⟨g, 0, none⟩) l.length c ∧ l.length ≤ c ∧ B ≤ g ∧ g < w.heap.size ∧ ∀ i, i < l.length → w.cell? ⟨g, i, none⟩ = some (.string (l.getD i ⟨#[]⟩))) := by
  rcases Nat.eq_zero_or_pos l.length with h0 | h0
  · have hl := List.eq_nil_of_length_eq_zero h0
    exact .inl ⟨hl, h.nil hl⟩
  · refine .inr ⟨h0, ?_⟩
    have ho := h.own
    rcases ho.2 with ⟨_, h1⟩ | ⟨g, cap, cur, h1, h2, h3, h4, _⟩
    · omega
    · refine ⟨g, cap, h1, h4, h2, (Array.getElem?_eq_some_iff.1 h3).1, fun i hi => ?_⟩
      rw [h1] at ho
      obtain ⟨g', e, hc⟩ := ho.cell hi
      injection e with e
      injection e with e
      subst e
      exact hc
theorem kCells_len (l : List ByteArray) : (kCells l).length = l.length := by simp [kCells]
theorem kCells_app (l m : List ByteArray) : kCells (l ++ m) = kCells l ++ kCells m := by simp [kCells]
theorem kCells_one (l : List ByteArray) : ∀ u ∈ kCells l, u.oneCell' = true := fun u hu => by
  simp only [kCells, List.mem_map] at hu
  obtain ⟨x, _, rfl⟩ := hu
  rfl
/-- A piece of the keys' row, as append takes it. -/
theorem keys_piece {w : World} {g : Nat} {l : List ByteArray} (h : ∀ i, i < l.length → w.cell? ⟨g, i, none⟩ = some (.string (l.getD i ⟨#[]⟩))) (p m : Nat) (hpm : p + m ≤ l.length) :
    ∀ j u, (kCells ((l.drop p).take m))[j]? = some u → w.cell? ((⟨g, p, none⟩ : Addr).add j) = some u := fun j u hu => by
  have hj : j < m := by
    have := (List.getElem?_eq_some_iff.1 hu).1
    rw [kCells_len, List.length_take] at this
    omega
  rw [Addr.add_lit, h (p + j) (by omega), ← hu]
  simp only [kCells, List.getElem?_map, List.getElem?_take, if_pos hj, List.getElem?_drop, List.getD]
  rw [List.getElem?_eq_getElem (show p + j < l.length by omega)]
  rfl
theorem keys_row {w' : World} {B : Nat} {v : Value} {n : Nat} {l : List ByteArray} (h : w'.ownsRow B 9 1 v n (kCells l)) (hn : n = l.length) : KOwn w' B v l := by subst hn; exact h

set_option maxHeartbeats 8000000 in
theorem mkeys_any (a : Option Addr) (len cap : Nat) (L : List Im) (w : World) (hz : IsItms w a len cap L) (hl : len ≤ 1000) :
    Calls Try.prog 21 #[.agg #[.slice a len cap]] w fun e w' => ∃ v, e = .returned v ∧ KSo w' w.heap.size v (keysM L) ∧ Below w.heap.size w w' := by
  have HZ := Lib.hid hz
  have hel := Lib.hid hz.1
  clear hz
  obtain ⟨ki, hki, hkz, hks, hkb⟩ := kI
  go_enter Try.func21, Try.ntmps21
  go_wp2_with fail
  have HK0 := Lib.hid (show KeyW w a len cap (w.alloc (.cells #[.slice a len cap] 29)) from ⟨(Below.refl _ _).alloc (Nat.le_refl _) _, heap_alloc_new w _⟩)
  go_loopg [3, 4, 5, 6] len (fun g s3 s4 s5 s6 wx => ∃ (i : Nat), i + g = len ∧ s4 = .int .i64 i ∧ (keysM (L.take i)).length ≤ i ∧ Hid (KSo wx w.heap.size s3 (keysM (L.take i))) ∧ Hid (KeyW w a len cap wx))
  case atStart => exact ⟨0, by omega, rfl, by simp [keysM], Lib.hid ⟨⟨rfl, .inl ⟨rfl, rfl⟩⟩, fun _ => rfl⟩, HK0⟩
  case round =>
    obtain ⟨i, hig, rfl, hkl, HO, HW⟩ := hrel
    clear HK0
    have b0 : wr.cell? ⟨w.heap.size, 0, none⟩ = some (.slice a len cap) := by rw [cell_of_row _ _ _ _ _ _ HW.out.box]; rfl
    cases gk with
    | zero =>
      obtain rfl : i = len := by omega
      have hfin := HO.out
      rw [List.take_of_length_le (Nat.le_of_eq hel.out)] at hfin
      have HFin := Lib.hid hfin
      clear hfin
      go_wp2_with fail
      go_ret
      exact ⟨_, rfl, HFin.out, HW.out.below⟩
    | succ g =>
      have hil : i < len := by omega
      have hiz : (i : Int) < (len : Int) := by omega
      have hie : i < L.length := by rw [hel.out]; exact hil
      have HKT := Lib.hid (keys_take L hie)
      obtain ⟨K, hK⟩ : ∃ K, K = (L.getD i im0).key := ⟨_, rfl⟩
      obtain ⟨l, hlK⟩ : ∃ l, l = keysM (L.take i) := ⟨_, rfl⟩
      rw [← hK, ← hlK] at HKT
      rw [← hlK] at HO hkl
      have HPB := Lib.hid (posK_before K l)
      have hpl := posK_le K l
      have hpa := posK_at K l
      obtain ⟨p, hp⟩ : ∃ p, p = posK K l := ⟨_, rfl⟩
      have HST : Hid (keyStep l K = if decide (p < l.length) && sameK (l.getD p ⟨#[]⟩) K then l else l.take p ++ [K] ++ l.drop p) := Lib.hid (by rw [hp]; rfl)
      rw [← hp] at HPB hpl hpa
      obtain ⟨b, off, rfl, hbl, hm1, _, _, k0, _⟩ := (HZ.out.below HW.out.below).2.2 i hil
      rw [← hK] at k0
      have HBW := Lib.hid (fun W (hb : Below wr.heap.size wr W) => HW.out.later hb)
      have hbx : w.heap.size < wr.heap.size := (Array.getElem?_eq_some_iff.1 HW.out.box).1
      have HC0 := Lib.hid (fun W (hb : Below wr.heap.size wr W) => show W.cell? ⟨w.heap.size, 0, none⟩ = some (.slice (some ⟨b, off, none⟩) len cap) ∧ W.cell? ⟨b, off + i * 4, none⟩ = some (.string K) from ⟨(hb.cell (p := ⟨w.heap.size, 0, none⟩) hbx).trans b0, (hb.cell (p := ⟨b, off + i * 4, none⟩) hbl).trans k0⟩)
      have HWS := Lib.hid (show w.heap.size ≤ wr.heap.size by omega)
      rcases HO.out.form with ⟨rfl, hs3⟩ | ⟨h0, g3, c3, hs3, hc3, hg3, hg3l, hcells⟩
      · subst hs3
        obtain rfl : p = 0 := by simpa using hpl
        have HKN := Lib.hid (show keysM (L.take (i + 1)) = [K] by rw [HKT.out, HST.out]; rfl)
        clear HST HKT hpa hp hlK hK HPB HO hpl hkl
        go_upto_region 5 with fail
        go_wp2_with fail
        go_loopg [5] 0 (fun q s5 wx => s5 = .int .i64 0 ∧ ∃ n, wx = wr.drewN n)
        case atStart => exact ⟨rfl, 0, rfl⟩
        case round =>
          obtain ⟨rfl, nd, rfl⟩ := hrel
          go_wp2_with fail
          go_quiet (fail)
          revert nq; intro n1
          go_wp2_with fail
          go_quiet (fail)
          go_upto_region 9 with fail
          have hB0 : Below wr.heap.size wr (((wr.drewN nd).drewN n1).drewN nq) := ⟨rfl, rfl, rfl, Nat.le_refl _, fun _ _ => rfl⟩
          have hs0 : (((wr.drewN nd).drewN n1).drewN nq).heap.size = wr.heap.size := rfl
          obtain ⟨W0, hW0⟩ : ∃ W0, W0 = (((wr.drewN nd).drewN n1).drewN nq) := ⟨_, rfl⟩
          rw [← hW0] at hB0 hs0 ⊢
          have B1 := Lib.hid (hB0.alloc hB0.size (.cells #[] 9))
          have hown1 : (W0.alloc (.cells #[] 9)).ownsRow wr.heap.size 9 1 (.slice (some ⟨W0.heap.size, 0, none⟩) 0 0) 0 [] := World.ownsRow_made W0 #[] 0 (by omega) (by unfold maxLen; omega) rfl
          have HO1 := Lib.hid hown1
          have hE1 := heap_alloc_new W0 (.cells #[] 9)
          obtain ⟨W1, hW1⟩ : ∃ W1, W1 = W0.alloc (.cells #[] 9) := ⟨_, rfl⟩
          obtain ⟨E, hE⟩ : ∃ E, E = W0.heap.size := ⟨_, rfl⟩
          rw [← hW1] at B1 HO1
          rw [← hE] at HO1
          have HEw := Lib.hid (show wr.heap.size ≤ E by omega)
          clear hB0 hown1 hE1 hs0 b0 k0 hW0
          go_upto_region 10 with (first
            | (refine wpList_ks0 rfl rfl ?_; rw [← hW1, ← hE]; clear hW1 hE)
            | (at_builtin; refine wpList_append_own_none rfl _ _ 50 rfl wr.heap.size 9 ki 1 Try.underlying50 hki (.slice (some ⟨E, 0, none⟩) 0 0) 0 [] rfl HO1.out rfl ?_))
          obtain ⟨e0, e1⟩ := HC0.out W1 B1.out
          have B2 := Lib.hid (B1.out.alloc B1.out.size (.cells #[.string K] 9))
          have HO2 := Lib.hid (HO1.out.alloc (.cells #[.string K] 9))
          have hc2 := Lib.hid (cell_one_new W1 (.string K) 9)
          have hs2 := Lib.hid (show wr.heap.size ≤ (W1.alloc (.cells #[.string K] 9)).heap.size from B2.out.size)
          have q3 := Lib.hid (show ∀ u ∈ [Value.string K], u.oneCell' = true by simp [Value.oneCell'])
          go_upto_region 11 with (at_builtin; refine wpList_append_own2 rfl _ _ 50 rfl wr.heap.size 9 ki (.string ByteArray.empty) 1 16 Try.underlying50 hki hkz hks hkb rfl (by decide) (.slice (some ⟨E, 0, none⟩) 0 0) 0 [] rfl HO2.out ⟨W1.heap.size, 0, none⟩ 1 1 [.string K] rfl rfl hc2.out q3.out (by unfold maxLen; omega) (by omega) hs2.out ?_; intro v3 W3 hown3 hg3 hk3; have HO3 := Lib.hid hown3; have B3 := Lib.hid (B2.out.grown hg3 B2.out.size (fun k hk => by cases hk; exact HEw.out)); clear hown3 hg3 hk3)
          clear e0 e1 HO1 HO2 hc2 hs2 q3 B1 B2
          go_upto_region 12 with (at_builtin; refine wpList_append_own_none rfl _ _ 50 rfl wr.heap.size 9 ki 1 Try.underlying50 hki v3 1 [.string K] rfl HO3.out rfl ?_)
          go_wp2_with fail
          go_roundg g
          case measure => omega
          case rel => exact ⟨i + 1, by omega, by go_num, by rw [HKN.out]; simp, Lib.hid (by rw [HKN.out]; exact ⟨(keys_row (l := [K]) HO3.out rfl).base HWS.out, fun h => by cases h⟩), Lib.hid (HBW.out _ B3.out)⟩
      · subst hs3
        have HCL := Lib.hid hcells
        have hcs : (p = l.length) ∨ (p < l.length ∧ sameK (l.getD p ⟨#[]⟩) K = true) ∨ (p < l.length ∧ sameK (l.getD p ⟨#[]⟩) K = false) := by
          by_cases h : p = l.length
          · exact .inl h
          · cases hb : sameK (l.getD p ⟨#[]⟩) K with
            | true => exact .inr (.inl ⟨by omega, rfl⟩)
            | false => exact .inr (.inr ⟨by omega, rfl⟩)
        have HCS := Lib.hid hcs
        obtain ⟨n3, hn3⟩ : ∃ n3, n3 = l.length := ⟨_, rfl⟩
        rw [← hn3] at hpl hkl h0 hc3 hpa HCL HCS HST HO ⊢
        have HN3 := Lib.hid hn3
        have HPA := Lib.hid hpa
        have HG3 := Lib.hid hg3l
        clear hn3 hp hlK hK hcs hpa hcells hg3l
        go_upto_region 5 with fail
        go_wp2_with fail
        go_loopg [5] p (fun q s5 wx => ∃ (j n : Nat), j + q = p ∧ s5 = .int .i64 j ∧ wx = wr.drewN n)
        case atStart => exact ⟨0, 0, by omega, rfl, rfl⟩
        case round =>
          obtain ⟨j, nd, hjq, rfl, rfl⟩ := hrel
          cases gk with
          | succ q =>
            have hjn : j < n3 := by omega
            have hjz : (j : Int) < (n3 : Int) := by omega
            have hjd : decide ((j : Int) < (n3 : Int)) = true := by simpa using hjn
            have hjb : decide (j < n3) = true := by simpa using hjn
            have kc := HCL.out j hjn
            have hlt := HPB.out j (by omega)
            unfold ltK at hlt
            obtain ⟨X, hX⟩ : ∃ X, X = l.getD j ⟨#[]⟩ := ⟨_, rfl⟩
            rw [← hX] at kc hlt
            clear hX hjn
            go_wp2_with fail
            go_quiet (fail)
            go_wp2_with fail
            go_roundg q
            case measure => omega
            case rel => exact ⟨j + 1, nd + nq, by omega, by go_num, rfl⟩
          | zero =>
            obtain rfl : j = p := by omega
            have hcs := HCS.out
            rcases hcs with hj | ⟨h1, h2⟩ | ⟨h1, h2⟩
            focus
              have hjd : decide ((j : Int) < (n3 : Int)) = false := by simp; omega
              have hjb : decide (j < n3) = false := by simp; omega
              have hjz : ¬ (j : Int) < (n3 : Int) := by omega
              have HKN := Lib.hid (show keysM (L.take (i + 1)) = l.take j ++ [K] ++ l.drop j by rw [HKT.out, HST.out, decide_eq_false (by omega)]; rfl)
              clear hj
              go_wp2_with fail
              go_quiet (fail)
              revert nq; intro n1
              go_wp2_with fail
              go_quiet (fail)
              clear hjd hjb hjz
              go_upto_region 9 with fail
            rotate_left
            focus
              have hjd : decide ((j : Int) < (n3 : Int)) = true := by simpa using h1
              have hjb : decide (j < n3) = true := by simpa using h1
              have hjz : (j : Int) < (n3 : Int) := by omega
              have kc := HCL.out j h1
              have hlt := HPA.out h1
              have HKN := Lib.hid (show keysM (L.take (i + 1)) = l by rw [HKT.out, HST.out, decide_eq_true h1, h2]; rfl)
              unfold ltK at hlt
              unfold sameK at h2
              obtain ⟨X, hX⟩ : ∃ X, X = l.getD j ⟨#[]⟩ := ⟨_, rfl⟩
              rw [← hX] at kc hlt h2
              have HK2 := Lib.hid h2
              clear hX h1
              go_wp2_with fail
              go_quiet (fail)
              revert nq; intro n1
              go_wp2_with fail
              go_quiet (fail)
              go_wp2_with fail
              go_roundg g
              case measure => omega
              case rel => exact ⟨i + 1, by omega, by go_num, by rw [HKN.out, ← HN3.out]; omega, Lib.hid (by rw [HKN.out]; exact ⟨HO.out.own.below ⟨rfl, rfl, rfl, Nat.le_refl _, fun _ _ => rfl⟩, HO.out.nil⟩), Lib.hid (HBW.out _ ⟨rfl, rfl, rfl, Nat.le_refl _, fun _ _ => rfl⟩)⟩
            focus
              have hjd : decide ((j : Int) < (n3 : Int)) = true := by simpa using h1
              have hjb : decide (j < n3) = true := by simpa using h1
              have hjz : (j : Int) < (n3 : Int) := by omega
              have kc := HCL.out j h1
              have hlt := HPA.out h1
              have HKN := Lib.hid (show keysM (L.take (i + 1)) = l.take j ++ [K] ++ l.drop j by rw [HKT.out, HST.out, decide_eq_true h1, h2]; rfl)
              unfold ltK at hlt
              unfold sameK at h2
              obtain ⟨X, hX⟩ : ∃ X, X = l.getD j ⟨#[]⟩ := ⟨_, rfl⟩
              rw [← hX] at kc hlt h2
              clear hX h1
              go_wp2_with fail
              go_quiet (fail)
              revert nq; intro n1
              go_wp2_with fail
              go_quiet (fail)
              clear hjd hjb hjz kc hlt h2
              go_upto_region 9 with fail
            all_goals
              have hB0 : Below wr.heap.size wr (((wr.drewN nd).drewN n1).drewN nq) := ⟨rfl, rfl, rfl, Nat.le_refl _, fun _ _ => rfl⟩
              have hs0 : (((wr.drewN nd).drewN n1).drewN nq).heap.size = wr.heap.size := rfl
              obtain ⟨W0, hW0⟩ : ∃ W0, W0 = (((wr.drewN nd).drewN n1).drewN nq) := ⟨_, rfl⟩
              rw [← hW0] at hB0 hs0 ⊢
              have B1 := Lib.hid (hB0.alloc hB0.size (.cells #[] 9))
              have hown1 : (W0.alloc (.cells #[] 9)).ownsRow wr.heap.size 9 1 (.slice (some ⟨W0.heap.size, 0, none⟩) 0 0) 0 [] := World.ownsRow_made W0 #[] 0 (by omega) (by unfold maxLen; omega) rfl
              have HO1 := Lib.hid hown1
              obtain ⟨W1, hW1⟩ : ∃ W1, W1 = W0.alloc (.cells #[] 9) := ⟨_, rfl⟩
              obtain ⟨E, hE⟩ : ∃ E, E = W0.heap.size := ⟨_, rfl⟩
              rw [← hW1] at B1 HO1
              rw [← hE] at HO1
              have HEw := Lib.hid (show wr.heap.size ≤ E by omega)
              have HCW := Lib.hid (fun W (hb : Below wr.heap.size wr W) => show ∀ i, i < l.length → W.cell? ⟨g3, i, none⟩ = some (.string (l.getD i ⟨#[]⟩)) from fun i hi => (hb.cell (p := ⟨g3, i, none⟩) HG3.out).trans (HCL.out i (by rw [HN3.out]; exact hi)))
              have hp1 := Lib.hid (keys_piece (HCW.out W1 B1.out) 0 j (by rw [← HN3.out]; omega))
              simp only [List.drop_zero] at hp1
              have hln := Lib.hid (show (kCells (l.take j)).length = j * 1 by rw [kCells_len, List.length_take, ← HN3.out]; omega)
              have hon := Lib.hid (kCells_one (l.take j))
              have z1 : (0 : Int) ≤ (j : Int) := by omega
              have z2 : (j : Int) ≤ (c3 : Int) := by omega
              have z3 : j ≤ c3 := by omega
              have HJ1 := Lib.hid (show 0 + j ≤ maxLen by unfold maxLen; omega)
              have HJ2 := Lib.hid (show (0 + j) * 16 ≤ 140737488355328 by omega)
              clear hB0 hown1 hs0 b0 k0 hW0
              go_upto_region 10 with (first
                | (refine wpList_ks0 rfl rfl ?_; rw [← hW1, ← hE]; clear hW1 hE)
                | (at_builtin; refine wpList_append_own2 rfl _ _ 50 rfl wr.heap.size 9 ki (.string ByteArray.empty) 1 16 Try.underlying50 hki hkz hks hkb rfl (by decide) (.slice (some ⟨E, 0, none⟩) 0 0) 0 [] rfl HO1.out ⟨g3, 0, none⟩ j c3 (kCells (l.take j)) rfl hln.out hp1.out hon.out HJ1.out HJ2.out B1.out.size ?_; intro v2 W2 hown2 hg2 hk2; have HO2 := Lib.hid hown2; have B2 := Lib.hid (B1.out.grown hg2 B1.out.size (fun k hk => by cases hk; exact HEw.out)); clear hown2 hg2 hk2))
              have HO2b := Lib.hid (show W2.ownsRow wr.heap.size 9 1 v2 j (kCells (l.take j)) by simpa using HO2.out)
              obtain ⟨e0, e1⟩ := HC0.out W2 B2.out
              have B3 := Lib.hid (B2.out.alloc B2.out.size (.cells #[.string K] 9))
              have HO3 := Lib.hid (HO2b.out.alloc (.cells #[.string K] 9))
              have hc3c := Lib.hid (cell_one_new W2 (.string K) 9)
              have q3 := Lib.hid (show ∀ u ∈ [Value.string K], u.oneCell' = true by simp [Value.oneCell'])
              have HJ3 := Lib.hid (show j + 1 ≤ maxLen by unfold maxLen; omega)
              have HJ4 := Lib.hid (show (j + 1) * 16 ≤ 140737488355328 by omega)
              have HLT := Lib.hid (fun k hk => (HO3.out.lt k hk).1)
              clear HO1 HO2 hp1 hln hon z1 z2 z3 HJ1 HJ2
              go_upto_region 11 with (at_builtin; refine wpList_append_own2 rfl _ _ 50 rfl wr.heap.size 9 ki (.string ByteArray.empty) 1 16 Try.underlying50 hki hkz hks hkb rfl (by decide) v2 j (kCells (l.take j)) rfl HO3.out ⟨W2.heap.size, 0, none⟩ 1 1 [.string K] rfl rfl hc3c.out q3.out HJ3.out HJ4.out B3.out.size ?_; intro v4 W4 hown4 hg4 hk4; have HO4 := Lib.hid hown4; have B4 := Lib.hid (B3.out.grown hg4 B3.out.size (fun k hk => HLT.out k hk)); clear hown4 hg4 hk4)
              clear e0 e1 HO2b HO3 hc3c q3 HJ3 HJ4 HLT B1 B2 B3
              have z1 : (0 : Int) ≤ (j : Int) := by omega
              have z4 : (j : Int) ≤ (n3 : Int) := by omega
              have z5 : (n3 : Int) ≤ (c3 : Int) := by omega
              have z6 : (n3 : Int) - (j : Int) = ((n3 - j : Nat) : Int) := by omega
              have z7 : (c3 : Int) - (j : Int) = ((c3 - j : Nat) : Int) := by omega
              have z8 : n3 ≤ c3 := hc3
              have hln := Lib.hid (show (kCells (l.drop j)).length = (n3 - j) * 1 by rw [kCells_len, List.length_drop, ← HN3.out]; omega)
              have hon := Lib.hid (kCells_one (l.drop j))
              have HJ5 := Lib.hid (show j + 1 + (n3 - j) ≤ maxLen by unfold maxLen; omega)
              have HJ6 := Lib.hid (show (j + 1 + (n3 - j)) * 16 ≤ 140737488355328 by omega)
              have HLT := Lib.hid (fun k hk => (HO4.out.lt k hk).1)
              have HFin := Lib.hid (fun v6 (W6 : World) (h : W6.ownsRow wr.heap.size 9 1 v6 (j + 1 + (n3 - j)) (kCells (l.take j) ++ [.string K] ++ kCells (l.drop j))) => show KSo W6 w.heap.size v6 (keysM (L.take (i + 1))) from by
                rw [HKN.out]
                have e : kCells (l.take j) ++ [.string K] ++ kCells (l.drop j) = kCells (l.take j ++ [K] ++ l.drop j) := by rw [kCells_app, kCells_app]; rfl
                rw [e] at h
                exact ⟨(keys_row h (by simp only [List.length_append, List.length_take, List.length_drop, List.length_singleton]; rw [← HN3.out]; omega)).base HWS.out, fun h => by simp at h⟩)
              have HLN := Lib.hid (show (keysM (L.take (i + 1))).length ≤ i + 1 by rw [HKN.out]; simp only [List.length_append, List.length_take, List.length_drop, List.length_singleton]; rw [← HN3.out]; omega)
              by_cases hcj : c3 = j
              focus
                have hnw := Lib.hid (show ∀ q u, (kCells (l.drop j))[q]? = some u → W4.cell? ((⟨g3, 0, none⟩ : Addr).add q) = some u from fun q u hu => by
                  have := (List.getElem?_eq_some_iff.1 hu).1
                  rw [kCells_len, List.length_drop, ← HN3.out] at this
                  omega)
                go_upto_region 12 with (at_builtin; refine wpList_append_own2 rfl _ _ 50 rfl wr.heap.size 9 ki (.string ByteArray.empty) 1 16 Try.underlying50 hki hkz hks hkb rfl (by decide) v4 (j + 1) (kCells (l.take j) ++ [.string K]) rfl HO4.out ⟨g3, 0, none⟩ (n3 - j) 0 (kCells (l.drop j)) rfl hln.out hnw.out hon.out HJ5.out HJ6.out B4.out.size ?_; intro v6 W6 hown6 hg6 hk6; have HF := Lib.hid (HFin.out v6 W6 hown6); have B6 := Lib.hid (B4.out.grown hg6 B4.out.size (fun k hk => HLT.out k hk)); clear hown6 hg6 hk6)
                clear hcj z1 z4 z5 z6 z7 z8 hln hon HJ5 HJ6 HLT HFin hnw
                go_wp2_with fail
                go_roundg g
                case measure => omega
                case rel => exact ⟨i + 1, by omega, by go_num, HLN.out, HF, Lib.hid (HBW.out _ B6.out)⟩
              have hnw := Lib.hid (keys_piece (HCW.out W4 B4.out) j (n3 - j) (by rw [← HN3.out]; omega))
              rw [List.take_of_length_le (show (l.drop j).length ≤ n3 - j by rw [List.length_drop, ← HN3.out]; exact Nat.le_refl _)] at hnw
              go_upto_region 12 with (at_builtin; refine wpList_append_own2 rfl _ _ 50 rfl wr.heap.size 9 ki (.string ByteArray.empty) 1 16 Try.underlying50 hki hkz hks hkb rfl (by decide) v4 (j + 1) (kCells (l.take j) ++ [.string K]) rfl HO4.out ⟨g3, j, none⟩ (n3 - j) (c3 - j) (kCells (l.drop j)) rfl hln.out hnw.out hon.out HJ5.out HJ6.out B4.out.size ?_; intro v6 W6 hown6 hg6 hk6; have HF := Lib.hid (HFin.out v6 W6 hown6); have B6 := Lib.hid (B4.out.grown hg6 B4.out.size (fun k hk => HLT.out k hk)); clear hown6 hg6 hk6)
              clear hcj z1 z4 z5 z6 z7 z8 hln hon HJ5 HJ6 HLT HFin hnw
              go_wp2_with fail
              go_roundg g
              case measure => omega
              case rel => exact ⟨i + 1, by omega, by go_num, HLN.out, HF, Lib.hid (HBW.out _ B6.out)⟩
end Go.Proofs.Ytdcefhhmddjodaa
