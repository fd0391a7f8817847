/-
  Joined: OpenEnts, ChnContracts, Leading.
-/
import Derived.Test.YtplobffkelmokaaSet05
import Derived.Test.YtplobffkelmokaaSet02
import Derived.ProofKit
import Derived.OpenShut
import Derived.Deep.Slices
import Derived.Deep.Strs
import Derived.Test.YtplobffkelmokaaChnBytes
import Derived.Test.YtplobffkelmokaaSet01
import Derived.WalkSpells
import Derived.WalkLawsBesides
import Derived.Lib.Hide
namespace Go.Proofs.Ytplobffkelmokaa
open Go.RowKit Go.ChangeShapes Go.WideShapes Go.Deep
set_option linter.unusedVariables false
set_option linter.unnecessarySimpa false
set_option linter.unusedSimpArgs false
set_option maxRecDepth 100000

theorem e_ent_cells : Try.prog.cellsOf 48 = 2 := by kernel_rfl
theorem e_vs_cells : Try.prog.cellsOf 46 = 1 := by kernel_rfl
theorem e_cut2 {α : Type} {cs : List α} {x y : α} (h0 : (cs.drop 0).take 1 = [x]) (h1 : (cs.drop 1).take 1 = [y]) : cs[0]? = some x ∧ cs[1]? = some y := by
  refine ⟨?_, ?_⟩
  · have := congrArg (·[0]?) h0; simpa using this
  · have := congrArg (·[0]?) h1; simpa using this
theorem slice_form {H : Type} {enc : TypeId × Value → H} {W : World} {fuel : Nat} {cs : List Value} {x : DataW H × List MemPlace} (h : DataW.trod enc Try.prog W 0 (fun _ => true) true fuel 46 cs = some x) :
    ∃ a len cap, cs = [.slice a len cap] := by
  rcases open_slice Try.underlying46 h with ⟨rfl, _⟩ | ⟨a', len', cap', m, n, D, Pl, rfl, _⟩
  · exact ⟨none, 0, 0, rfl⟩
  · exact ⟨_, _, _, rfl⟩
theorem vers_open {H : Type} {enc : TypeId × Value → H} {W : World} {fuel : Nat} {cs : List Value} {x : DataW H × List MemPlace} (h : DataW.trod enc Try.prog W 0 (fun _ => true) true fuel 46 cs = some x) :
    ∃ a len cap zs, cs = [.slice a len cap] ∧ IsVers W a len cap zs := by
  obtain ⟨a, len, cap, rfl⟩ := slice_form h
  obtain ⟨d, p⟩ := x
  have h2 : DataW.Trod enc Try.prog W 0 (fun _ => true) true 46 (.slice a len cap) d p := ⟨fuel, h⟩
  obtain ⟨zs, hz⟩ := open_IsVers h2
  exact ⟨a, len, cap, zs, rfl, hz⟩
theorem open_IsEnts {H : Type} {enc : TypeId × Value → H} {W : World} {a : Option Addr} {len cap : Nat} {d : DataW H} {p : List MemPlace}
    (h : DataW.Trod enc Try.prog W 0 (fun _ => true) true 22 (.slice a len cap) d p) : ∃ es, IsEnts W a len cap es := by
  obtain ⟨fuel, hf⟩ := h
  rcases open_slice Try.underlying22 hf with ⟨hcs, _⟩ | ⟨a', len', cap', m, n, D, Pl, hcs, _, hl, hm, hmm, _, hi⟩
  · simp [Value.cells] at hcs
    obtain ⟨rfl, rfl, rfl⟩ := hcs
    exact ⟨[], ⟨rfl, fun i hi => by omega⟩, Nat.zero_le _, Nat.le_refl _⟩
  · simp [Value.cells] at hcs
    obtain ⟨rfl, rfl, rfl⟩ := hcs
    simp only [if_true] at hmm
    have key : ∀ i, ∃ z : En, i < len → ∃ b off, some a' = some ⟨b, off, none⟩ ∧ EntAt W b (off + i * 2) z := by
      intro i
      by_cases hil : i < len
      · obtain ⟨cs', hc, ht⟩ := hi i (by omega)
        rw [e_ent_cells] at hc
        obtain ⟨_, hcl, hat⟩ := World.cells?_some hc
        obtain ⟨y0, y1, n', _, _, g0, g1⟩ := trod_struct2 Try.underlying48 ht
        simp only [v_str_cells, e_vs_cells] at g0 g1
        obtain ⟨s, e0, _, hsz⟩ := DataW.trod_string Try.underlying9 g0
        obtain ⟨ca, cl, cc, zs, e1, hv⟩ := vers_open g1
        obtain ⟨x0, x1⟩ := e_cut2 e0 e1
        have q0 := (hat 0 (by omega)).trans x0
        have q1 := (hat 1 (by omega)).trans x1
        obtain ⟨b, off, spot⟩ := a'
        obtain ⟨cs0, hc0, _⟩ := hi 0 (by omega)
        rw [e_ent_cells] at hc0
        obtain ⟨_, hcl0, hat0⟩ := World.cells?_some hc0
        have q00 := hat0 0 (by omega)
        rw [List.getElem?_eq_getElem (show 0 < cs0.length by omega)] at q00
        have hspot : spot = none := by simpa [Addr.add] using World.cell?_spot q00
        subst hspot
        simp only [Addr.add_lit, Nat.add_zero] at q0 q1
        exact ⟨⟨s, zs⟩, fun _ => ⟨b, off, rfl, World.block_lt_of_cell? W _ q0, hsz, q0, ca, cl, cc, q1, hv⟩⟩
      · exact ⟨en0, fun h => absurd h hil⟩
    obtain ⟨f, hfz⟩ := Classical.skolem.1 key
    refine ⟨(List.range len).map f, ⟨by simp, fun i hil => ?_⟩, by omega, hl⟩
    have e : ((List.range len).map f).getD i en0 = f i := by simp [List.getD, hil]
    rw [e]
    exact hfz i hil
end Go.Proofs.Ytplobffkelmokaa

namespace Go.Proofs.Ytplobffkelmokaa
open Go.RowKit
set_option linter.unusedVariables false
set_option linter.unnecessarySimpa false
set_option linter.unusedSimpArgs false
set_option maxRecDepth 100000

/-- A chain whose times are numbers. -/
def okV (zs : List Vr) : Prop := rightB zs = true ∧ ∀ v ∈ zs, v.time < 18446744073709551616
def chainS (zs : List Vr) : ByteArray := ⟨(chainB zs).toArray⟩
/-- Versions handed back, beside an error. -/
def VersOut (zs : List Vr) (k : Int) (w : World) (e : Ending) (w' : World) : Prop := ∃ a c, e = .returned (.tuple #[.slice a zs.length c, .int .i64 k]) ∧ IsVers w' a zs.length c zs ∧ Below w.heap.size w w'

structure ChnC : Prop where
  encYes : ∀ (a : Option Addr) (len cap : Nat) (zs : List Vr) (w : World), IsVers w a len cap zs → rightB zs = true → (∀ v ∈ zs, v.val.size ≤ 60000) →
    Calls Try.prog 42 #[.slice a len cap] w fun e w' => e = .returned (.tuple #[.string (chainS zs), .int .i64 0]) ∧ Below w.heap.size w w'
  encNo : ∀ (a : Option Addr) (len cap : Nat) (zs : List Vr) (w : World), IsVers w a len cap zs → rightB zs = false → (∀ v ∈ zs, v.val.size ≤ 60000) → len ≤ 1000 →
    Calls Try.prog 42 #[.slice a len cap] w fun e w' => e = .returned (.tuple #[.string ⟨#[]⟩, .int .i64 1]) ∧ Below w.heap.size w w'
  right : ∀ (a : Option Addr) (len cap : Nat) (zs : List Vr) (w : World), IsVers w a len cap zs → (∀ v ∈ zs, v.val.size ≤ 60000) → len ≤ 1000 →
    Calls Try.prog 56 #[.slice a len cap] w fun e w' => e = .returned (.bool (rightB zs)) ∧ Below w.heap.size w w'
  decYes : ∀ (zs : List Vr) (w : World), okV zs → allN zs ≤ 60000 → Calls Try.prog 75 #[.string (chainS zs)] w (VersOut zs 0 w)
  decLong : ∀ (zs : List Vr) (w : World), okV zs → 60000 < allN zs → (∀ v ∈ zs, v.val.size ≤ 60000) → Calls Try.prog 75 #[.string (chainS zs)] w (VersOut [] 3 w)
  decNo : ∀ (b : ByteArray) (w : World), b.size ≤ 100000 → (¬ ∃ zs, okV zs ∧ allN zs ≤ 60000 ∧ b = chainS zs) →
    Calls Try.prog 75 #[.string b] w fun e w' => VersOut [] 2 w e w' ∨ VersOut [] 3 w e w'

theorem vers_below {w w' : World} {a : Option Addr} {len cap : Nat} {zs : List Vr} (h : IsVers w a len cap zs) (hb : Below w.heap.size w w') : IsVers w' a len cap zs := by
  refine ⟨⟨h.1.1, fun i hi => ?_⟩, h.2⟩
  obtain ⟨b, off, ha, hlt, h1, h2, h3, h4, h5⟩ := h.1.2 i hi
  exact ⟨b, off, ha, Nat.lt_of_lt_of_le hlt hb.size, h1, h2, (hb.cell (p := ⟨b, off + i * 3, none⟩) hlt).trans h3, (hb.cell (p := ⟨b, off + i * 3 + 1, none⟩) hlt).trans h4, (hb.cell (p := ⟨b, off + i * 3 + 2, none⟩) hlt).trans h5⟩
theorem below_drewV {B : Nat} {w w' : World} (h : Below B w w') (n : Nat) : Below B w (w'.drewN n) := ⟨h.os, h.tape, h.output, h.size, h.block⟩
theorem vers_mem {w : World} {a : Option Addr} {len cap : Nat} {zs : List Vr} (h : IsVers w a len cap zs) : ∀ v ∈ zs, v.time < 18446744073709551616 := fun v hv => by
  obtain ⟨i, hi, rfl⟩ := List.mem_iff_getElem.1 hv
  obtain ⟨_, _, _, _, h1, _⟩ := h.1.2 i (by rw [← h.1.1]; exact hi)
  rwa [List.getD, List.getElem?_eq_getElem hi] at h1
theorem few_mem {zs : List Vr} {n : Nat} (h : FewVers zs n) (hn : n < 500) : (∀ v ∈ zs, v.val.size ≤ 500) ∧ allN zs ≤ 500 * n := by
  have h1 : ∀ v ∈ zs, v.val.size ≤ 500 := fun v hv => by
    obtain ⟨i, hi, rfl⟩ := List.mem_iff_getElem.1 hv
    have := h.1 i hi (by have := h.2; omega)
    rwa [List.getD, List.getElem?_eq_getElem hi] at this
  refine ⟨h1, ?_⟩
  have h2 : ∀ l : List Vr, (∀ v ∈ l, v.val.size ≤ 500) → allN l ≤ 500 * l.length := by
    intro l
    induction l with
    | nil => intro _; simp [allN]
    | cons v l ih =>
      intro hl
      have a1 := hl v (by simp)
      have a2 := ih (fun x hx => hl x (by simp [hx]))
      unfold allN at a2 ⊢
      rw [List.map_cons, List.sum_cons, List.length_cons]
      omega
  have h3 := h2 zs h1
  have h4 := h.2
  have : 500 * zs.length ≤ 500 * n := Nat.mul_le_mul_left _ h4
  omega
theorem allN_mem : ∀ (l : List Vr) (v : Vr), v ∈ l → v.val.size ≤ allN l
  | x :: l, v, h => by
    unfold allN
    rw [List.map_cons, List.sum_cons]
    rcases List.mem_cons.1 h with rfl | h
    · omega
    · have := allN_mem l v h
      unfold allN at this
      omega
theorem right_parts {zs : List Vr} (h : rightB zs = true) : risesB 0 zs = true ∧ zs.length ≤ 200 := by
  unfold rightB at h
  simpa using h

def vrAB : Vr := ⟨5, false, ⟨#[97, 98]⟩⟩
theorem chain_ab : chainS [vrAB] = ⟨#[1, 5, 0, 0, 0, 2, 97, 98]⟩ := by
  have : chainB [vrAB] = [1, 5, 0, 0, 0, 2, 97, 98] := by
    show ub 1 ++ (ub 5 ++ (0 :: (ub 0 ++ ub 0 ++ (ub 2 ++ [97, 98])) ++ [])) = _
    rw [ub_small (by decide), ub_small (by decide), ub_small (by decide), ub_small (by decide)]
    rfl
  unfold chainS
  rw [this]

end Go.Proofs.Ytplobffkelmokaa

namespace Go.Proofs.Ytplobffkelmokaa
open Go.RowKit
set_option linter.unnecessarySimpa false
set_option linter.unusedVariables false
set_option linter.unusedSimpArgs false
set_option maxRecDepth 100000

set_option maxRecDepth 100000 in
set_option maxHeartbeats 1600000 in
theorem leading_any (s : ByteArray) (hs : s.size ≤ maxLen) (w : World) :
    Calls Try.prog 68 #[.string s] w fun e w' => e = .returned (.tuple #[.int .u64 (tkN s.data.toList : Nat), .int .i64 (tkK s.data.toList : Nat)]) ∧ w = w' := by
  unfold maxLen at hs
  go_enter Try.func68, Try.ntmps68
  go_wp2_with fail
  go_loop [4, 5, 6, 9] (fun t _ _ i => ∃ k n : Nat, k ≤ s.size ∧ k ≤ 9 ∧ i = .int .i64 k ∧ t = .int .u64 n ∧ Hid (n < 2 ^ (7 * k)) ∧ Hid (tk s.data.toList = tkAux k n (s.data.toList.drop k))) (fun _ _ _ i => s.size - (intOf i).toNat)
  case atStart => exact ⟨0, 0, Nat.zero_le _, Nat.zero_le _, rfl, rfl, Lib.hid (by simp), Lib.hid rfl⟩
  case round =>
    obtain ⟨k, n, hk, hk9, rfl, rfl, hn, ht⟩ := hrel
    have hls : s.data.toList.length = s.size := by rw [Array.length_toList]; rfl
    by_cases hlt : k < s.size
    · obtain ⟨b, hb⟩ : ∃ b : Nat, s[k].toNat = b := ⟨_, rfl⟩
      have hb256 : b < 256 := by have := s[k].toNat_lt; omega
      have hst := tkAux_step s.data.toList k n b (by omega) hb
      rw [← ht.out] at hst
      have HST := Lib.hid hst
      clear hst ht hls
      by_cases e9 : k = 9
      · subst e9
        have HO := Lib.hid (fun h9 => or_step n b 9 hb256 hn.out (by omega) h9)
        by_cases h1 : 1 < b
        · have HZ := Lib.hid (tk_is_none (by rw [HST.out, if_pos ⟨rfl, h1⟩]))
          go_wp2_with fail
          go_ret2
          exact ⟨ret_two (by rw [HZ.out.1]; rfl) (by rw [HZ.out.2]; rfl), rfl⟩
        · have hno := and128_no b hb256 (by omega)
          by_cases h0 : b = 0
          · have HZ := Lib.hid (tk_is_none (by rw [HST.out, if_neg (by omega), if_neg (by omega), if_pos ⟨h0, by omega⟩]))
            have hb0 : ((b : Int) == 0) = true := by simp; omega
            have h0' := Lib.hid h0
            clear h0
            go_wp2_with fail
            go_ret2
            exact ⟨ret_two (by rw [HZ.out.1]; rfl) (by rw [HZ.out.2]; rfl), rfl⟩
          · have HZ := Lib.hid (tk_is_some (by rw [HST.out, if_neg (by omega), if_neg (by omega), if_neg (by omega)]))
            have hb0 : ((b : Int) == 0) = false := by simp; omega
            go_wp2_with fail
            go_ret2
            exact ⟨ret_two (by rw [HZ.out.1, ← HO.out (by omega)]; rfl) (by rw [HZ.out.2]; rfl), rfl⟩
      · have hne : ((k : Int) == 9) = false := by simp; omega
        have HO := Lib.hid (or_step n b k hb256 hn.out (by omega) (fun h => absurd h e9))
        by_cases h128 : 128 ≤ b
        · have hyes := and128_yes b hb256 h128
          go_wp2_with fail
          refine ⟨⟨k + 1, n + b % 128 * 128 ^ k, by omega, by omega, by go_num, by rw [HO.out], Lib.hid (next_lt n b k hn.out), Lib.hid ?_⟩, by simp [intOf]; omega⟩
          rw [HST.out, if_neg (by omega), if_pos h128]
        · have hno := and128_no b hb256 (by omega)
          by_cases h0 : b = 0
          · have hb0 : ((b : Int) == 0) = true := by simp; omega
            have h0' := Lib.hid h0
            clear h0
            by_cases hk0 : k = 0
            · subst hk0
              have HZ := Lib.hid (tk_is_some (by rw [HST.out, if_neg (by omega), if_neg (by omega), if_neg (by omega)]))
              go_wp2_with fail
              go_ret2
              exact ⟨ret_two (by rw [HZ.out.1, ← HO.out]; simp) (by rw [HZ.out.2]; rfl), rfl⟩
            · have HZ := Lib.hid (tk_is_none (by rw [HST.out, if_neg (by omega), if_neg (by omega), if_pos ⟨h0'.out, by omega⟩]))
              have hk1 : 0 < k := by omega
              go_wp2_with fail
              go_ret2
              exact ⟨ret_two (by rw [HZ.out.1]; rfl) (by rw [HZ.out.2]; rfl), rfl⟩
          · have HZ := Lib.hid (tk_is_some (by rw [HST.out, if_neg (by omega), if_neg (by omega), if_neg (by omega)]))
            have hb0 : ((b : Int) == 0) = false := by simp; omega
            go_wp2_with fail
            go_ret2
            exact ⟨ret_two (by rw [HZ.out.1, ← HO.out]) (by rw [HZ.out.2]; rfl), rfl⟩
    · have hd : s.data.toList.drop k = [] := List.drop_of_length_le (by omega)
      have HZ := Lib.hid (tk_is_none (l := s.data.toList) (by rw [ht.out, hd]; rfl))
      clear hd hls ht
      go_wp2_with fail
      go_ret2
      exact ⟨ret_two (by rw [HZ.out.1]; rfl) (by rw [HZ.out.2]; rfl), rfl⟩
end Go.Proofs.Ytplobffkelmokaa
