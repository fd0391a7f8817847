/-
  The walks of the program's takeByte, takeNumber, takeText.
-/
import Derived.Test.YtnjbeemahfoaiaaDoorKeyTakeMath
import Derived.Test.YtnjbeemahfoaiaaDoorKeyTurn
import Derived.Test.YtnjbeemahfoaiaaDoorConvert
namespace Go.Proofs.YtnjbeemahfoaiaaDoor
open Go.RowKit
set_option linter.unusedVariables false
set_option linter.unusedSimpArgs false
set_option linter.unnecessarySimpa false
set_option maxRecDepth 100000

theorem row_kept' {w : World} {g : Nat} {o : Obj} (h : w.heap[g]? = some o) (o' : Obj) : (w.alloc o').heap[g]? = some o := by
  rw [((Below.refl _ w).alloc (Nat.le_refl _) o').block g (Array.getElem?_eq_some_iff.1 h).1, h]
theorem ba_ext {a b : ByteArray} (h : a.data.toList = b.data.toList) : a = b := by
  obtain ⟨⟨a⟩⟩ := a
  obtain ⟨⟨b⟩⟩ := b
  simp at h
  rw [h]
/-- A cursor that stands ahead of these bytes. -/
def CurL (w : World) (g : Nat) (l : List UInt8) (bad : Bool) : Prop := CurAt w g ⟨l.toArray⟩ bad
theorem arr_size (l : List UInt8) : (⟨l.toArray⟩ : ByteArray).size = l.length := List.size_toArray
theorem arr_drop (l : List UInt8) (k : Nat) : (⟨l.toArray⟩ : ByteArray).extract k (⟨l.toArray⟩ : ByteArray).size = ⟨(l.drop k).toArray⟩ := ba_ext (Lib.extract_to_end _ _)
theorem arr_take (l : List UInt8) (k : Nat) : (⟨l.toArray⟩ : ByteArray).extract 0 k = ⟨(l.take k).toArray⟩ := ba_ext (by rw [Lib.extract_data]; simp)

theorem cB_full {l : List UInt8} {k : Nat} (h : k ≤ l.length) : cBytes ⟨l.toArray⟩ false k = (⟨(l.take k).toArray⟩, ⟨(l.drop k).toArray⟩, false) := by
  unfold cBytes
  rw [if_neg (by rw [arr_size]; simp; omega), Int.toNat_natCast, arr_take, arr_drop]
theorem cB_short {l : List UInt8} {k : Nat} (h : l.length < k) : cBytes ⟨l.toArray⟩ false k = (ByteArray.empty, ⟨l.toArray⟩, true) := by
  unfold cBytes
  rw [if_pos (by rw [arr_size]; right; right; omega)]
theorem cF_full {l : List UInt8} {k : Nat} (h : k ≤ l.length) (h1 : 1 ≤ k) (h8 : k ≤ 8) : cFixed ⟨l.toArray⟩ false k true = (valB (l.take k) true, ⟨(l.drop k).toArray⟩, false) := by
  unfold cFixed
  rw [if_neg (by omega), cB_full h]
theorem cF_short {l : List UInt8} {k : Nat} (h : l.length < k) (h8 : k ≤ 8) : cFixed ⟨l.toArray⟩ false k true = (0, ⟨l.toArray⟩, true) := by
  unfold cFixed
  rw [if_neg (by omega), cB_short h]
  rfl
theorem valB_one (b : UInt8) (l : List UInt8) : valB ((b :: l).take 1) true = b.toNat := by
  show le [b] = _
  simp [le]
theorem not64 (n : Nat) (h : n < 18446744073709551616) : bits BinOp.xor IntKind.u64 IntKind.u64.max (n : Int) = ((18446744073709551615 - n : Nat) : Int) := by
  show bits BinOp.xor IntKind.u64 ((18446744073709551615 : Nat) : Int) (n : Int) = _
  rw [u64_xor_nat _ _ (by decide) h]
  congr 1
  have e : (~~~ (BitVec.ofNat 64 n)).toNat = 18446744073709551615 - n := by
    rw [BitVec.toNat_not, BitVec.toNat_ofNat, Nat.mod_eq_of_lt (by simpa using h)]
  rw [← BitVec.allOnes_xor, BitVec.toNat_xor, BitVec.toNat_ofNat, Nat.mod_eq_of_lt (by simpa using h)] at e
  exact e

set_option maxHeartbeats 1600000 in
theorem takeByte_cons (g : Nat) (b : UInt8) (l : List UInt8) (d : Bool) (hl : l.length ≤ 100000) (w : World) (h : CurL w g (b :: l) false) :
    Calls Tryd.prog 34 #[.pointer (some ⟨g, 0, none⟩), .bool d] w fun e w' => e = .returned (.int .u8 (fl d b).toNat) ∧ CurL w' g l false ∧ w.grownBy w' (some g) := by
  have hF := cur_fixed g ⟨(b :: l).toArray⟩ false 1 true w (by rw [arr_size]; unfold maxLen; simp; omega) h
  rw [show (1 : Int) = ((1 : Nat) : Int) from rfl, cF_full (k := 1) (by simp) (by decide) (by decide), valB_one] at hF
  have HF := Lib.hid hF
  have hb := UInt8.toNat_lt b
  have hx := xor_flip b
  clear hF h
  cases d
  · go_enter Tryd.func34, Tryd.ntmps34
    go_wp2_with fail
    refine HF.out.mono ?_
    rintro e w1 ⟨rfl, hc, hg⟩
    go_wp2_with fail
    go_ret
    exact ⟨rfl, hc, hg⟩
  · go_enter Tryd.func34, Tryd.ntmps34
    go_wp2_with fail
    refine HF.out.mono ?_
    rintro e w1 ⟨rfl, hc, hg⟩
    go_wp2_with fail
    go_ret
    exact ⟨rfl, hc, hg⟩

set_option maxHeartbeats 1600000 in
theorem takeByte_nil (g : Nat) (d : Bool) (w : World) (h : CurL w g [] false) :
    Calls Tryd.prog 34 #[.pointer (some ⟨g, 0, none⟩), .bool d] w fun e w' => e = .returned (.int .u8 (fl d 0).toNat) ∧ CurL w' g [] true ∧ w.grownBy w' (some g) := by
  have hF := cur_fixed g ⟨([] : List UInt8).toArray⟩ false 1 true w (by rw [arr_size]; unfold maxLen; simp) h
  rw [show (1 : Int) = ((1 : Nat) : Int) from rfl, cF_short (k := 1) (by simp) (by decide)] at hF
  have HF := Lib.hid hF
  have hx : bits BinOp.xor IntKind.u8 IntKind.u8.max 0 = ((fl true 0).toNat : Int) := xor_flip 0
  clear hF h
  cases d
  · go_enter Tryd.func34, Tryd.ntmps34
    go_wp2_with fail
    refine HF.out.mono ?_
    rintro e w1 ⟨rfl, hc, hg⟩
    go_wp2_with fail
    go_ret
    exact ⟨rfl, hc, hg⟩
  · go_enter Tryd.func34, Tryd.ntmps34
    go_wp2_with fail
    refine HF.out.mono ?_
    rintro e w1 ⟨rfl, hc, hg⟩
    go_wp2_with fail
    go_ret
    exact ⟨rfl, hc, hg⟩

set_option maxHeartbeats 1600000 in
theorem takeNumber_full (g : Nat) (l : List UInt8) (d : Bool) (hl : l.length ≤ 100000) (h8 : 8 ≤ l.length) (w : World) (h : CurL w g l false) :
    Calls Tryd.prog 35 #[.pointer (some ⟨g, 0, none⟩), .bool d] w fun e w' => e = .returned (.int .u64 (valB ((l.take 8).map (fl d)) true)) ∧ CurL w' g (l.drop 8) false ∧ w.grownBy w' (some g) := by
  have hF := cur_fixed g ⟨l.toArray⟩ false 8 true w (by rw [arr_size]; unfold maxLen; omega) h
  rw [show (8 : Int) = ((8 : Nat) : Int) from rfl, cF_full (k := 8) h8 (by decide) (by decide)] at hF
  have hlen : (l.take 8).length = 8 := by rw [List.length_take]; omega
  have hlt := valB_lt hlen
  have hx := not64 _ hlt
  have hfl : valB ((l.take 8).map (fl true)) true = 18446744073709551615 - valB (l.take 8) true := by rw [map_fl_true, valB_flip hlen]
  have hfl0 : valB ((l.take 8).map (fl false)) true = valB (l.take 8) true := by rw [map_fl_false]
  have HF := Lib.hid hF
  have HL1 := Lib.hid hfl
  have HL0 := Lib.hid hfl0
  clear hF h hfl hfl0 hlen
  obtain ⟨n, hn⟩ : ∃ n, n = valB (l.take 8) true := ⟨_, rfl⟩
  rw [← hn] at HF hlt hx HL1 HL0
  clear hn
  cases d
  · go_enter Tryd.func35, Tryd.ntmps35
    go_wp2_with fail
    refine HF.out.mono ?_
    rintro e w1 ⟨rfl, hc, hg⟩
    go_wp2_with fail
    go_ret
    exact ⟨ret_int (by rw [HL0.out]), hc, hg⟩
  · go_enter Tryd.func35, Tryd.ntmps35
    go_wp2_with fail
    refine HF.out.mono ?_
    rintro e w1 ⟨rfl, hc, hg⟩
    go_wp2_with fail
    go_ret
    exact ⟨ret_int (by first | rw [← List.map_take, HL1.out] | rw [HL1.out]), hc, hg⟩

/-- Some number. -/
def SomeU (e : Ending) : Prop := ∃ n : Nat, e = .returned (.int .u64 n)
set_option maxHeartbeats 1600000 in
theorem takeNumber_short (g : Nat) (l : List UInt8) (d : Bool) (h8 : l.length < 8) (w : World) (h : CurL w g l false) :
    Calls Tryd.prog 35 #[.pointer (some ⟨g, 0, none⟩), .bool d] w fun e w' => SomeU e ∧ CurL w' g l true ∧ w.grownBy w' (some g) := by
  have hF := cur_fixed g ⟨l.toArray⟩ false 8 true w (by rw [arr_size]; unfold maxLen; omega) h
  rw [show (8 : Int) = ((8 : Nat) : Int) from rfl, cF_short (k := 8) h8 (by decide)] at hF
  have HF := Lib.hid hF
  have hx : bits BinOp.xor IntKind.u64 IntKind.u64.max 0 = ((18446744073709551615 : Nat) : Int) := not64 0 (by decide)
  clear hF h
  cases d
  · go_enter Tryd.func35, Tryd.ntmps35
    go_wp2_with fail
    refine HF.out.mono ?_
    rintro e w1 ⟨rfl, hc, hg⟩
    go_wp2_with fail
    go_ret
    exact ⟨⟨0, rfl⟩, hc, hg⟩
  · go_enter Tryd.func35, Tryd.ntmps35
    go_wp2_with fail
    refine HF.out.mono ?_
    rintro e w1 ⟨rfl, hc, hg⟩
    go_wp2_with fail
    go_ret
    exact ⟨⟨18446744073709551615, rfl⟩, hc, hg⟩

theorem left_list (g : Nat) (l : List UInt8) (bad : Bool) (w : World) (hl : l.length ≤ 100000) (h : CurL w g l bad) :
    Calls Tryd.prog 20 #[.pointer (some ⟨g, 0, none⟩)] w fun e w' => e = .returned (.int .i64 l.length) ∧ w = w' := by
  have := left_any g ⟨l.toArray⟩ bad w (by rw [arr_size]; unfold maxLen; omega) h
  rw [arr_size] at this
  exact this

/-- What takeText tells. -/
def TextOut (l : List UInt8) (d : Bool) (g : Nat) (w : World) (e : Ending) (w' : World) : Prop :=
  match tx (l.map (fl d)) with
  | some p => e = .returned (.tuple #[.string ⟨p.1.toArray⟩, .bool true]) ∧ CurL w' g (p.2.map (fl d)) false
  | none => e = .returned (.tuple #[.string ⟨#[]⟩, .bool false])
theorem TextOut.some' {l : List UInt8} {d : Bool} {g : Nat} {w w' : World} {e : Ending} {t r : List UInt8} (h : tx (l.map (fl d)) = some (t, r)) (he : e = .returned (.tuple #[.string ⟨t.toArray⟩, .bool true])) (hc : CurL w' g (r.map (fl d)) false) : TextOut l d g w e w' := by
  unfold TextOut; rw [h]; exact ⟨he, hc⟩
theorem TextOut.none' {l : List UInt8} {d : Bool} {g : Nat} {w w' : World} {e : Ending} (h : tx (l.map (fl d)) = none) (he : e = .returned (.tuple #[.string ⟨#[]⟩, .bool false])) : TextOut l d g w e w' := by
  unfold TextOut; rw [h]; exact he

theorem flt_lt (d : Bool) (b : UInt8) : (fl d b).toNat < 256 := UInt8.toNat_lt _

theorem own_grown {W W' : World} {B e size n g : Nat} {v : Value} {xs : List Value} (h : W.ownsRow B e size v n xs) (hg : W.grownBy W' (some g)) (hB : g < B) : W'.ownsRow B e size v n xs := by
  refine ⟨h.1, ?_⟩
  rcases h.2 with h2 | ⟨g', cap, cur, hv, hb, hc, h3⟩
  · exact .inl h2
  · exact .inr ⟨g', cap, cur, hv, hb, by rw [hg.block g' (Array.getElem?_eq_some_iff.1 hc).1 (by simp; omega)]; exact hc, h3⟩
/-- A row that is grown, beside a cursor. -/
theorem grown_row {W W' W'' : World} {B n g : Nat} {e size : Nat} {v : Value} {xs : List Value} (h : W.grownBy W' (some g)) (ho : W'.ownsRow B e size v n xs) (hB : W.heap.size ≤ B) (hg : W'.grownBy W'' v.ownBlock) : W.grownBy W'' (some g) :=
  ⟨hg.os.trans h.os, hg.tape.trans h.tape, hg.output.trans h.output, Nat.le_trans h.size hg.size, fun k hk hr => (hg.block k (Nat.lt_of_lt_of_le hk h.size) (fun e => by have := (ho.lt k e.symm).1; omega)).trans (h.block k hk hr)⟩
theorem grown_alloc {W W' : World} {g : Nat} (h : W.grownBy W' (some g)) (o : Obj) : W.grownBy (W'.alloc o) (some g) :=
  ⟨h.os, h.tape, h.output, Nat.le_trans h.size (by simp), fun k hk hr => (((Below.refl _ W').alloc (Nat.le_refl _) o).block k (Nat.lt_of_lt_of_le hk h.size)).trans (h.block k hk hr)⟩
theorem CurL.alloc {W : World} {g : Nat} {l : List UInt8} {bad : Bool} (h : CurL W g l bad) (o : Obj) : CurL (W.alloc o) g l bad := row_kept' h o
theorem CurL.grown {W W' : World} {B n g : Nat} {e size : Nat} {v : Value} {xs : List Value} {l : List UInt8} {bad : Bool} (h : CurL W g l bad) (ho : W.ownsRow B e size v n xs) (hB : g < B) (hg : W.grownBy W' v.ownBlock) : CurL W' g l bad :=
  (hg.block g (CurAt.lt h) (fun e => by have := (ho.lt g e.symm).1; omega)).trans h

set_option maxHeartbeats 8000000 in
theorem takeText_any (g : Nat) (l : List UInt8) (d : Bool) (hl : l.length ≤ 100000) (w : World) (hg : g < w.heap.size) (h : CurL w g l false) :
    Calls Tryd.prog 36 #[.pointer (some ⟨g, 0, none⟩), .bool d] w fun e w' => TextOut l d g w e w' ∧ Hid (w.grownBy w' (some g)) := by
  obtain ⟨i0, hi, hz0, hz1, hz2⟩ := info_parts u8info
  have H := Lib.hid h
  clear h
  go_enter Tryd.func36, Tryd.ntmps36
  go_wp2_with fail
  go_loopg [6, 7, 8] l.length (fun k s6 s7 s8 wx => ∃ m acc : List UInt8, m.length ≤ k ∧ acc.length + m.length ≤ l.length ∧ Hid (wx.ownsRow w.heap.size 5 1 s6 acc.length (Lib.byteCells acc)) ∧ Hid (CurL wx g m false) ∧ Hid (w.grownBy wx (some g)) ∧
    Hid (tx (l.map (fl d)) = (tx (m.map (fl d))).map fun p => (acc ++ p.1, p.2)))
  case atStart => exact ⟨l, [], by omega, by simp, Lib.hid (World.ownsRow_nil _ _ _ _), H, Lib.hid (grownBy_refl _ _), Lib.hid (by cases tx (l.map (fl d)) <;> rfl)⟩
  case round =>
    obtain ⟨m, acc, hmk, hal, HO, HC, HG, HX⟩ := hrel
    have hleft := Lib.hid (left_list g m false wr (by omega) HC.out)
    have hgl : g < wr.heap.size := by have := HG.out.size; omega
    cases m with
    | nil =>
      have hno := Lib.hid (show tx (l.map (fl d)) = none by rw [HX.out]; rfl)
      go_wp2_with (go_at_call 20; refine hleft.out.mono ?_; rintro e w1 ⟨rfl, rfl⟩)
      go_ret2
      exact ⟨.none' hno.out rfl, HG⟩
    | cons b m =>
      obtain ⟨k, rfl⟩ : ∃ k, gk = k + 1 := ⟨gk - 1, by simp at hmk; omega⟩
      have hml : m.length ≤ k := by simp at hmk; omega
      have hal2 : acc.length + (m.length + 1) ≤ l.length := by simpa using hal
      have hlz : (0 : Int) < ((b :: m).length : Int) := by rw [List.length_cons]; omega
      have hby := Lib.hid (takeByte_cons g b m d (by omega) wr HC.out)
      rw [List.map_cons] at HX
      obtain ⟨y, hy⟩ : ∃ y, y = fl d b := ⟨_, rfl⟩
      rw [← hy] at HX hby
      have hyl := UInt8.toNat_lt y
      clear hy hmk hal
      obtain ⟨n, hn⟩ : ∃ n, n = (b :: m).length := ⟨_, rfl⟩
      rw [← hn] at hlz hleft
      clear hn
      by_cases hy0 : y = 0
      · subst hy0
        have hy0 : ((0 : UInt8).toNat : Int) = 0 := rfl
        rw [hy0] at hby
        clear hy0 hyl
        go_upto_region 5 with (first
          | (go_at_call 20; refine hleft.out.mono ?_; rintro e w1 ⟨rfl, rfl⟩)
          | (go_at_call 34; refine hby.out.mono ?_; rintro e w2 ⟨rfl, hc2, hg2⟩))
        have HG2 := Lib.hid (grownBy_trans HG.out hg2)
        have HO2 := Lib.hid (own_grown HO.out hg2 hg)
        have HC2 := Lib.hid hc2
        clear hc2 hg2 HO HG hby hleft HC
        cases m with
        | nil =>
          have hno := Lib.hid (show tx (l.map (fl d)) = none by rw [HX.out]; show Option.map _ (tx [0]) = none; rw [tx_zero_nil]; rfl)
          have hb2 := Lib.hid (takeByte_nil g d w2 HC2.out)
          clear HX HC2
          go_upto_region 6 with (go_at_call 34; refine hb2.out.mono ?_; rintro e w3 ⟨rfl, hc3, hg3⟩)
          have hbad := Lib.hid (bad_any g ⟨([] : List UInt8).toArray⟩ true w3 hc3)
          have HG3 := Lib.hid (grownBy_trans HG2.out hg3)
          clear hc3 hg3
          go_wp2_with (go_at_call 37; refine hbad.out.mono ?_; rintro e w4 ⟨rfl, rfl⟩)
          go_ret2
          exact ⟨.none' hno.out rfl, HG3⟩
        | cons c m =>
          obtain ⟨k, rfl⟩ : ∃ q, k = q + 1 := ⟨k - 1, by simp at hml; omega⟩
          have hml2 : m.length ≤ k := by simp at hml; omega
          have hal3 : acc.length + (m.length + 2) ≤ l.length := by simp at hal2; omega
          have hb2 := Lib.hid (takeByte_cons g c m d (by omega) w2 HC2.out)
          rw [List.map_cons] at HX
          obtain ⟨z, hz⟩ : ∃ z, z = fl d c := ⟨_, rfl⟩
          rw [← hz] at HX hb2
          have hzl := UInt8.toNat_lt z
          clear hz hml hal2 HC2
          go_upto_region 6 with (go_at_call 34; refine hb2.out.mono ?_; rintro e w3 ⟨rfl, hc3, hg3⟩)
          have hbad := Lib.hid (bad_any g ⟨m.toArray⟩ false w3 hc3)
          have HG3 := Lib.hid (grownBy_trans HG2.out hg3)
          have HO3 := Lib.hid (own_grown HO2.out hg3 hg)
          have HC3 := Lib.hid hc3
          have hs3 : w.heap.size ≤ w3.heap.size := HG3.out.size
          clear hc3 hg3 HO2 HG2 hb2
          by_cases hz0 : z = 0
          · subst hz0
            have hyes := Lib.hid (show tx (l.map (fl d)) = some (acc, m.map (fl d)) by rw [HX.out, tx_zero_zero]; simp)
            have hback := Lib.hid (map_fl_fl d m)
            have z0 : ((0 : UInt8).toNat : Int) = 0 := rfl
            rw [z0]
            clear HX z0 hzl
            obtain ⟨a6, cap6, rfl⟩ := own_form HO3.out
            have hcv := convert_row HO3.out
            go_wp2_with (go_at_call 37; refine hbad.out.mono ?_; rintro e w4 ⟨rfl, rfl⟩)
            go_ret2
            exact ⟨.some' hyes.out rfl (by rw [hback.out]; exact HC3.out), HG3⟩
          · have tz : ((z.toNat : Int) == 0) = false := by
              rw [beq_eq_false_iff_ne]; intro e; apply hz0; apply UInt8.toNat_inj.1; have : (0 : UInt8).toNat = 0 := rfl; omega
            have tz' : ((z.toNat : Int) != 0) = true := by rw [bne, tz]; rfl
            by_cases hzf : z = 255
            · subst hzf
              have HX2 := Lib.hid (show tx (l.map (fl d)) = (tx (m.map (fl d))).map fun p => ((acc ++ [0]) ++ p.1, p.2) by
                rw [HX.out, tx_zero_ff, Option.map_map]
                congr 1
                funext p
                simp)
              have z0 : ((255 : UInt8).toNat : Int) = 255 := rfl
              rw [z0]
              have hone := Lib.hid (cell_one_new w3 (.int .u8 0) 5)
              have hacc : acc.length ≤ 100000 := by omega
              clear HX z0 hzl tz tz' hz0
              go_wp2_with (first
                | (go_at_call 37; refine hbad.out.mono ?_; rintro e w4 ⟨rfl, rfl⟩)
                | (at_builtin; refine wpList_append_own _ rfl _ _ 42 rfl w.heap.size 5 i0 (.int .u8 0) 1 1 Tryd.underlying42 hi hz0 hz1 hz2 rfl (by decide) _ _ _ rfl ((HO3.out).alloc _) ⟨w3.heap.size, 0, none⟩ 1 1 [.int .u8 0] rfl rfl (hone.out) (by simp [Value.oneCell']) (by unfold maxLen; omega) (by omega) (by simp; omega) ?_))
              intro v5 w5 hown5 hg5 _
              have HO5 : Hid (w5.ownsRow w.heap.size 5 1 v5 (acc ++ [0]).length (Lib.byteCells (acc ++ [0]))) := Lib.hid (by simpa [Lib.byteCells] using hown5)
              have HC5 := Lib.hid ((HC3.out.alloc (.cells #[.int .u8 0] 5)).grown (HO3.out.alloc _) hg hg5)
              have HG5 := Lib.hid (grown_row (grown_alloc HG3.out (.cells #[.int .u8 0] 5)) (HO3.out.alloc _) (Nat.le_refl _) hg5)
              clear hown5 hg5 HO3 HG3 HC3 hone
              go_wp2_with fail
              go_roundg k
              case measure => omega
              case rel => exact ⟨m, acc ++ [0], hml2, by rw [List.length_append]; simp; omega, HO5, HC5, HG5, HX2⟩
            · have tf : ((z.toNat : Int) != 255) = true := by
                rw [bne, show ((z.toNat : Int) == 255) = false by
                  rw [beq_eq_false_iff_ne]; intro e; apply hzf; apply UInt8.toNat_inj.1; have : (255 : UInt8).toNat = 255 := rfl; omega]
                rfl
              have hno := Lib.hid (show tx (l.map (fl d)) = none by rw [HX.out, tx_zero_other hz0 hzf]; rfl)
              have i1 : ((⟨#[0, 255]⟩ : ByteArray)[1]'(by decide)).toNat = 255 := rfl
              have i2 : ((⟨#[0, 0]⟩ : ByteArray)[1]'(by decide)).toNat = 0 := rfl
              clear HX hz0 hzf
              go_wp2_with (go_at_call 37; refine hbad.out.mono ?_; rintro e w4 ⟨rfl, rfl⟩)
              go_ret2
              exact ⟨.none' hno.out rfl, HG3⟩
      · have ty : ((y.toNat : Int) == 0) = false := by
          rw [beq_eq_false_iff_ne]; intro e; apply hy0; apply UInt8.toNat_inj.1; have : (0 : UInt8).toNat = 0 := rfl; omega
        have HX2 := Lib.hid (show tx (l.map (fl d)) = (tx (m.map (fl d))).map fun p => ((acc ++ [y]) ++ p.1, p.2) by
          rw [HX.out, tx_other hy0, Option.map_map]
          congr 1
          funext p
          simp)
        clear hy0 HX
        go_upto_region 10 with (first
          | (go_at_call 20; refine hleft.out.mono ?_; rintro e w1 ⟨rfl, rfl⟩)
          | (go_at_call 34; refine hby.out.mono ?_; rintro e w2 ⟨rfl, hc2, hg2⟩))
        have HO2 := Lib.hid (own_grown HO.out hg2 hg)
        have HG2 := Lib.hid (grownBy_trans HG.out hg2)
        have HC2 := Lib.hid hc2
        have hs2 : w.heap.size ≤ w2.heap.size := HG2.out.size
        have hone := Lib.hid (cell_one_new w2 (.int .u8 (y.toNat : Int)) 5)
        have hacc : acc.length ≤ 100000 := by omega
        clear hc2 hg2
        go_wp2_with (at_builtin; refine wpList_append_own _ rfl _ _ 42 rfl w.heap.size 5 i0 (.int .u8 0) 1 1 Tryd.underlying42 hi hz0 hz1 hz2 rfl (by decide) _ _ _ rfl ((HO2.out).alloc _) ⟨w2.heap.size, 0, none⟩ 1 1 [.int .u8 (y.toNat : Int)] rfl rfl (hone.out) (by simp [Value.oneCell']) (by unfold maxLen; omega) (by omega) (by simp; omega) ?_)
        intro v3 w3 hown3 hg3 _
        have HO3 : Hid (w3.ownsRow w.heap.size 5 1 v3 (acc ++ [y]).length (Lib.byteCells (acc ++ [y]))) := Lib.hid (by simpa [Lib.byteCells] using hown3)
        have HC3 := Lib.hid ((HC2.out.alloc (.cells #[.int .u8 (y.toNat : Int)] 5)).grown (HO2.out.alloc _) hg hg3)
        have HG3 := Lib.hid (grown_row (grown_alloc HG2.out (.cells #[.int .u8 (y.toNat : Int)] 5)) (HO2.out.alloc _) (Nat.le_refl _) hg3)
        clear hown3 hg3 HO2 HG2 HC2 hone
        go_wp2_with fail
        go_roundg k
        case measure => omega
        case rel => exact ⟨m, acc ++ [y], hml, by rw [List.length_append]; simp; omega, HO3, HC3, HG3, HX2⟩
end Go.Proofs.YtnjbeemahfoaiaaDoor
