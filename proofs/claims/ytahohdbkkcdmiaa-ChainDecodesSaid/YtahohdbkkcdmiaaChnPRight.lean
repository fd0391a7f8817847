/-
  The program's Right.
-/
import Derived.Test.YtahohdbkkcdmiaaChnPBytes
namespace Go.Proofs.Ytahohdbkkcdmiaa
open Go.RowKit
set_option linter.unusedVariables false
set_option linter.unnecessarySimpa false
set_option linter.unusedSimpArgs false
set_option maxRecDepth 100000

theorem okAt_step {zs : List Vr} {i : Nat} (h : ∀ j, j < i → okAt 0 zs j) (hi : okAt 0 zs i) : ∀ j, j < i + 1 → okAt 0 zs j := fun j hj => by
  rcases Nat.lt_or_ge j i with h1 | h1
  · exact h j h1
  · have : j = i := by omega
    rw [this]; exact hi
theorem not_right {zs : List Vr} {i : Nat} (hi : i < zs.length) (h : ¬ okAt 0 zs i) : rightB zs = false := by
  unfold rightB
  have : risesB 0 zs = false := by
    rw [← Bool.not_eq_true]; intro h2; exact h ((rises_iff zs 0).1 h2 i hi)
  rw [this, Bool.false_and]
/-- A version in a slice, in a world where it stands yet. -/
theorem ver_at {w wx : World} {a : Option Addr} {len cap : Nat} {zs : List Vr} (h : IsVers w a len cap zs) (hb : Below w.heap.size w wx) {i : Nat} (hi : i < len) :
    ∃ b off, a = some ⟨b, off, none⟩ ∧ b < w.heap.size ∧ (zs.getD i vr0).time < 18446744073709551616 ∧ wx.cell? ⟨b, off + i * 3, none⟩ = some (.int .u64 ((zs.getD i vr0).time : Int)) ∧ wx.cell? ⟨b, off + i * 3 + 1, none⟩ = some (.bool (zs.getD i vr0).gone) ∧ wx.cell? ⟨b, off + i * 3 + 2, none⟩ = some (.string (zs.getD i vr0).val) := by
  obtain ⟨b, off, ha, hbl, h1, _, h2, h3, h4⟩ := h.1.2 i hi
  exact ⟨b, off, ha, hbl, h1, (hb.cell (p := ⟨b, off + i * 3, none⟩) hbl).trans h2, (hb.cell (p := ⟨b, off + i * 3 + 1, none⟩) hbl).trans h3, (hb.cell (p := ⟨b, off + i * 3 + 2, none⟩) hbl).trans h4⟩

set_option maxHeartbeats 4000000 in
theorem right_any (a : Option Addr) (len cap : Nat) (zs : List Vr) (w : World) (hz : IsVers w a len cap zs) :
    Calls Try.prog 10 #[.slice a len cap] w fun e w' => e = .returned (.bool (rightB zs)) ∧ Below w.heap.size w w' := by
  have HZ := Lib.hid hz
  have hlm := hz.2
  unfold maxLen at hlm
  have hzl := Lib.hid hz.1.1
  clear hz
  by_cases h200 : len ≤ 200
  · have hlz : ¬ (200 : Int) < (len : Int) := by omega
    go_enter Try.func10, Try.ntmps10
    go_wp2_with fail
    go_loopg [3, 11] len (fun g s3 s11 wx => ∃ i : Nat, i + g = len ∧ s3 = .int .u64 (prevT 0 zs i : Int) ∧ s11 = .int .i64 i ∧ Hid (∀ j, j < i → okAt 0 zs j) ∧ Hid (Below w.heap.size w wx))
    case atStart => exact ⟨0, by omega, rfl, rfl, Lib.hid (fun j hj => absurd hj (by omega)), Lib.hid (Below.refl _ _)⟩
    case round =>
      obtain ⟨i, hig, rfl, rfl, hok, hb⟩ := hrel
      cases gk with
      | zero =>
        obtain rfl : i = len := by omega
        have HR := Lib.hid (show rightB zs = true by
          unfold rightB
          rw [(rises_iff zs 0).2 (fun j hj => hok.out j (by rw [← hzl.out]; exact hj)), hzl.out]; simpa using h200)
        go_wp2_with fail
        go_ret
        exact ⟨by rw [HR.out]; rfl, hb.out⟩
      | succ g =>
        have hil : i < len := by omega
        have hiz : (i : Int) < (len : Int) := by omega
        obtain ⟨b, off, rfl, hbl, ht1, c0, c1, c2⟩ := ver_at HZ.out hb.out hil
        have HBx := Lib.hid (fun (o : Obj) => show Below w.heap.size w (wr.alloc o) from hb.out.alloc hb.out.size o)
        have hil2 := Lib.hid (show i < zs.length by rw [hzl.out]; exact hil)
        have hnx := Lib.hid (show prevT 0 zs (i + 1) = (zs.getD i vr0).time by unfold prevT; rw [if_neg (by omega)]; rfl)
        have HO := Lib.hid (show okAt 0 zs i ↔ (prevT 0 zs i < (zs.getD i vr0).time ∧ ((zs.getD i vr0).gone = true → (zs.getD i vr0).val.size = 0)) from Iff.rfl)
        obtain ⟨p, hp⟩ : ∃ p, p = prevT 0 zs i := ⟨_, rfl⟩
        obtain ⟨z, hzz⟩ : ∃ z, z = zs.getD i vr0 := ⟨_, rfl⟩
        rw [← hzz] at c0 c1 c2 ht1 hnx HO
        rw [← hp] at HO ⊢
        clear hzz hp
        obtain ⟨zt, zg, zv⟩ := z
        simp only at c0 c1 c2 ht1 hnx HO
        by_cases hlt : p < zt
        · have hle : ¬ (zt : Int) ≤ (p : Int) := by omega
          cases zg with
          | false =>
            have HN := Lib.hid (okAt_step hok.out (HO.out.2 ⟨hlt, fun h => by cases h⟩))
            clear hlt
            go_wp2_with fail
            go_roundg g
            case measure => omega
            case rel => exact ⟨i + 1, by omega, by rw [hnx.out], by go_num, HN, HBx.out _⟩
          | true =>
            by_cases hv : zv.size = 0
            · obtain rfl := str_none hv
              have HN := Lib.hid (okAt_step hok.out (HO.out.2 ⟨hlt, fun _ => rfl⟩))
              clear hlt hv
              go_wp2_with fail
              go_roundg g
              case measure => omega
              case rel => exact ⟨i + 1, by omega, by rw [hnx.out], by go_num, HN, HBx.out _⟩
            · obtain ⟨e1, e2, e3⟩ := str_some hv
              have HR := Lib.hid (not_right hil2.out (fun h => hv ((HO.out.1 h).2 rfl)))
              clear hlt hv
              go_wp2_with fail
              go_ret
              exact ⟨by rw [HR.out]; rfl, HBx.out _⟩
        · have hle : (zt : Int) ≤ (p : Int) := by omega
          have HR := Lib.hid (not_right hil2.out (fun h => hlt (HO.out.1 h).1))
          clear hlt
          go_wp2_with fail
          go_ret
          exact ⟨by rw [HR.out]; rfl, HBx.out _⟩
  · have HR := Lib.hid (show rightB zs = false by
      unfold rightB
      rw [hzl.out, Bool.and_eq_false_iff]
      exact .inr (by simpa using h200))
    have hlz : (200 : Int) < (len : Int) := by omega
    go_enter Try.func10, Try.ntmps10
    go_wp2_with fail
    go_ret
    exact ⟨by rw [HR.out]; rfl, Below.refl _ _⟩
end Go.Proofs.Ytahohdbkkcdmiaa
