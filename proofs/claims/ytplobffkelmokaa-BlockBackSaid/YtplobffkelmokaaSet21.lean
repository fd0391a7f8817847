/-
  Joined: LzLong, LzPack, BlkPEnc.
-/
import Derived.Test.YtplobffkelmokaaSet20
import Derived.Test.YtplobffkelmokaaLzPartsOf
import Derived.Test.YtplobffkelmokaaLzTake
import Derived.Test.YtplobffkelmokaaSet15
import Derived.Test.YtplobffkelmokaaSet18
namespace Go.Proofs.Ytplobffkelmokaa
open Go.RowKit
set_option linter.unnecessarySimpa false
set_option linter.unusedVariables false
set_option linter.unusedSimpArgs false
set_option maxRecDepth 100000

def filled (k i : Nat) (c : UInt8) : List UInt8 := cellsF k fun j => if j < i then c else 0
theorem filled_len (k i : Nat) (c : UInt8) : (filled k i c).length = k := cellsF_length _ _

end Go.Proofs.Ytplobffkelmokaa

namespace Go.Proofs.Ytplobffkelmokaa
open Go.RowKit
set_option linter.unusedVariables false
set_option linter.unnecessarySimpa false
set_option linter.unusedSimpArgs false
set_option maxRecDepth 100000

set_option maxHeartbeats 1000000 in
theorem packLong : PackLong := fun b w h1 h2 => by
  have hz : (60000 : Int) < (b.size : Int) := by omega
  go_enter Try.func26, Try.ntmps26
  go_wp2_with fail
  go_ret2
  exact ⟨rfl, Below.refl _ _⟩

theorem packed_in (b : ByteArray) (P : List UInt8) : (((⟨(ub b.size).toArray⟩ : ByteArray) ++ ⟨#[1]⟩) ++ ⟨P.toArray⟩).data.toList = ub b.size ++ 1 :: P := by simp
theorem packed_as (b : ByteArray) : (((⟨(ub b.size).toArray⟩ : ByteArray) ++ ⟨#[0]⟩) ++ b).data.toList = ub b.size ++ 0 :: b.data.toList := by simp

set_option maxHeartbeats 4000000 in
theorem packOK : PackOK := fun b w hb => by
  have hz : ¬ (60000 : Int) < (b.size : Int) := by omega
  have hu := Lib.hid (fun W => uint_any b.size (by omega) W)
  have hp := Lib.hid (fun W => partsOf_any b hb W)
  have hul : (⟨(ub b.size).toArray⟩ : ByteArray).size ≤ 3 := by rw [arr_size]; exact ub_len 2 b.size (by omega)
  have HIN := Lib.hid (packed_in b)
  have HAS := Lib.hid (packed_as b)
  have hwb : IntKind.u64.wrap (b.size : Int) = (b.size : Int) := by simp [IntKind.wrap, IntKind.bits, IntKind.signed]; omega
  obtain ⟨U, hU⟩ : ∃ U : ByteArray, U = ⟨(ub b.size).toArray⟩ := ⟨_, rfl⟩
  rw [← hU] at hu hul HIN HAS
  clear hU
  go_enter Try.func26, Try.ntmps26
  go_upto_region 5 with (first
    | (go_at_call 23; refine (hu.out _).mono ?_; rintro e w1 ⟨rfl, hb1⟩)
    | (go_at_call 46; refine (hp.out _).mono ?_; rintro e w2 ⟨P, rfl, hg, hb2⟩))
  have HB := Lib.hid (hb1.trans (hb2.mono hb1.size))
  have hPs : (⟨P.toArray⟩ : ByteArray).size = P.length := arr_size P
  have hPl := hg.out.1
  obtain ⟨Q, hQ⟩ : ∃ Q : ByteArray, Q = ⟨P.toArray⟩ := ⟨_, rfl⟩
  have HIN2 := Lib.hid (HIN.out P)
  rw [← hQ] at hPs HIN2
  rw [← hQ]
  have HPS := Lib.hid hPs
  have hQ6 : Q.size ≤ 600000 := by omega
  clear hPs hPl hQ hb1 hb2 hp hu HIN
  by_cases hsh : Q.size < b.size
  · have hsz : (Q.size : Int) < (b.size : Int) := by omega
    have ha1 : U.size + 1 ≤ 9223372036854775807 := by omega
    have ha2 : (U ++ (⟨#[1]⟩ : ByteArray)).size + Q.size ≤ 9223372036854775807 := by rw [ByteArray.size_append]; show U.size + 1 + Q.size ≤ _; omega
    go_wp2_with fail
    go_ret2
    refine ⟨(U ++ ⟨#[1]⟩) ++ Q, rfl, ?_, ?_, HB.out⟩
    · rw [HIN2.out]; exact hg.out.2 (by omega)
    · rw [ByteArray.size_append, ByteArray.size_append]; show U.size + 1 + Q.size ≤ _; omega
  · have hsz : ¬ (Q.size : Int) < (b.size : Int) := by omega
    have ha1 : U.size + 1 ≤ 9223372036854775807 := by omega
    have ha2 : (U ++ (⟨#[0]⟩ : ByteArray)).size + b.size ≤ 9223372036854775807 := by rw [ByteArray.size_append]; show U.size + 1 + b.size ≤ _; omega
    go_wp2_with fail
    go_ret2
    refine ⟨(U ++ ⟨#[0]⟩) ++ b, rfl, ?_, ?_, HB.out⟩
    · rw [HAS.out, Lib.size_eq]; exact unp_stored (by rw [← Lib.size_eq]; exact hb)
    · rw [ByteArray.size_append, ByteArray.size_append]; show U.size + 1 + b.size ≤ _; omega

end Go.Proofs.Ytplobffkelmokaa

namespace Go.Proofs.Ytplobffkelmokaa
open Go.RowKit
set_option linter.unusedVariables false
set_option linter.unnecessarySimpa false
set_option linter.unusedSimpArgs false
set_option maxRecDepth 100000

/-- An entry that may stand behind entries. -/
def entR1 (es : List En) (e : En) : Bool := risesS es e.key && (decide (0 < e.ch.length) && rightB e.ch)
theorem entR1_ok {es : List En} {i : Nat} (hi : i < es.length) : entOk es i = entR1 (es.take i) (es.getD i en0) := by
  rw [entOk_is hi]; unfold entR1
  cases risesS (es.take i) (es.getD i en0).key <;> simp

set_option maxHeartbeats 4000000 in
theorem bbytesOf_no (e : En) (a2 : Option Addr) (n2 c2 : Nat) (a : Option Addr) (len cap : Nat) (es : List En) (w : World) (hv : IsVers w a2 n2 c2 e.ch) (hz : IsEnts w a len cap es) (h : entR1 es e = false) :
    Calls Try.prog 24 #[.agg #[.string e.key, .slice a2 n2 c2], .slice a len cap] w fun x w' => x = .returned (.tuple #[.string ⟨#[]⟩, .int .i64 1]) ∧ Below w.heap.size w w' := by
  have hb0 := (Below.refl w.heap.size w).alloc (Nat.le_refl _) (.cells #[.string e.key, .slice a2 n2 c2] 48)
  have hr0 := heap_alloc_new w (.cells #[.string e.key, .slice a2 n2 c2] 48)
  obtain ⟨w1, hw1⟩ : ∃ w1, w1 = w.alloc (.cells #[.string e.key, .slice a2 n2 c2] 48) := ⟨_, rfl⟩
  rw [← hw1] at hb0 hr0
  obtain ⟨c0, c1⟩ := cells2 hr0
  have HB0 := Lib.hid hb0
  have HR := Lib.hid (brises_any e.key a len cap es w1 (hz.below hb0))
  have hl2 := hv.1.1
  have hlm := hv.2
  unfold maxLen at hlm
  have HEnc := Lib.hid (fun (h : rightB e.ch = false) => encode_no a2 n2 c2 e.ch w1 (vers_below hv hb0) h)
  unfold entR1 at h
  obtain ⟨R, hR⟩ : ∃ R, R = risesS es e.key := ⟨_, rfl⟩
  obtain ⟨K, hK⟩ : ∃ K, K = e.key := ⟨_, rfl⟩
  rw [← hR] at HR h
  rw [← hK] at HR hw1 c0 ⊢
  cases R with
  | false =>
    clear h hR hK hr0 hb0 hl2 hv hz
    go_enter Try.func24, Try.ntmps24
    go_upto_region 1 with fail
    rw [← hw1]
    clear hw1
    go_wp2_with (go_at_call 41; (with_reducible refine HR.out.mono ?_); rintro e w2 ⟨rfl, rfl⟩)
    go_ret2
    exact ⟨rfl, HB0.out⟩
  | true =>
    rcases Nat.eq_zero_or_pos n2 with rfl | h0
    · clear h hR hK hr0 hb0 hl2 hv hz
      go_enter Try.func24, Try.ntmps24
      go_upto_region 1 with fail
      rw [← hw1]
      clear hw1
      go_wp2_with (go_at_call 41; (with_reducible refine HR.out.mono ?_); rintro e w2 ⟨rfl, rfl⟩)
      go_ret2
      exact ⟨rfl, HB0.out⟩
    · have hz2 : ((n2 : Int) == 0) = false := by rw [beq_eq_false_iff_ne]; omega
      have hrb : rightB e.ch = false := by simpa [hl2, h0] using h
      have HE := Lib.hid (HEnc.out hrb)
      clear h hR hK hr0 hb0 hl2 hv hz hrb HEnc
      go_enter Try.func24, Try.ntmps24
      go_upto_region 1 with fail
      rw [← hw1]
      clear hw1
      go_wp2_with (first
        | (go_at_call 41; (with_reducible refine HR.out.mono ?_); rintro e w2 ⟨rfl, rfl⟩)
        | (go_at_call 42; (with_reducible refine HE.out.mono ?_); rintro e w3 ⟨rfl, hb3⟩))
      go_ret2
      exact ⟨rfl, HB0.out.trans (hb3.mono HB0.out.size)⟩

set_option maxHeartbeats 4000000 in
theorem bbytesOf_yes (e : En) (a2 : Option Addr) (n2 c2 : Nat) (a : Option Addr) (len cap : Nat) (es : List En) (w : World) (hv : IsVers w a2 n2 c2 e.ch) (hz : IsEnts w a len cap es) (h : entR1 es e = true)
    (hk : e.key.size ≤ 60000) (hl : (lastS es).size ≤ 60000) (hc : (chainB e.ch).length ≤ 200000) (hvv : ∀ v ∈ e.ch, v.val.size ≤ 60000) :
    Calls Try.prog 24 #[.agg #[.string e.key, .slice a2 n2 c2], .slice a len cap] w fun x w' => x = .returned (.tuple #[.string ⟨(entB (lastKey [] es) e).toArray⟩, .int .i64 0]) ∧ Below w.heap.size w w' := by
  have hb0 := (Below.refl w.heap.size w).alloc (Nat.le_refl _) (.cells #[.string e.key, .slice a2 n2 c2] 48)
  have hr0 := heap_alloc_new w (.cells #[.string e.key, .slice a2 n2 c2] 48)
  obtain ⟨w1, hw1⟩ : ∃ w1, w1 = w.alloc (.cells #[.string e.key, .slice a2 n2 c2] 48) := ⟨_, rfl⟩
  rw [← hw1] at hb0 hr0
  obtain ⟨c0, c1⟩ := cells2 hr0
  have HB0 := Lib.hid hb0
  have HR0 := Lib.hid hr0
  have HR := Lib.hid (brises_any e.key a len cap es w1 (hz.below hb0))
  have hl2 := hv.1.1
  have hlm := hv.2
  unfold maxLen at hlm
  unfold entR1 at h
  simp only [Bool.and_eq_true, decide_eq_true_eq] at h
  obtain ⟨h1, h2, h3⟩ := h
  rw [h1] at HR
  have HE := Lib.hid (encode_yes a2 n2 c2 e.ch w1 (vers_below hv hb0) h3 hvv)
  have HZ := Lib.hid (fun w2 (hb : Below w1.heap.size w1 w2) => blast_any a len cap es w2 ((hz.below hb0).below hb))
  have HS := Lib.hid (bshared_any e.key (lastS es) (by omega) (by omega))
  have hp := pre_le (lastS es).data.toList e.key.data.toList
  rw [c_size, c_size] at hp
  have HF := Lib.hid (show entB (lastKey [] es) e = ub (pre (lastS es).data.toList e.key.data.toList) ++ txtB (e.key.data.toList.drop (pre (lastS es).data.toList e.key.data.toList)) ++ txtB (chainB e.ch) by rw [← lastS_list]; rfl)
  obtain ⟨L, hL⟩ : ∃ L, L = lastS es := ⟨_, rfl⟩
  obtain ⟨K, hK⟩ : ∃ K, K = e.key := ⟨_, rfl⟩
  obtain ⟨H, hH⟩ : ∃ H, H = pre L.data.toList K.data.toList := ⟨_, rfl⟩
  rw [← hK] at HR hw1 c0 HS hp HF hk HR0 ⊢
  rw [← hL] at HZ HS hp HF
  rw [← hH] at HS hp HF
  obtain ⟨C, hC⟩ : ∃ C, C = chainS e.ch := ⟨_, rfl⟩
  have hCs : C.size ≤ 200000 := by rw [hC]; unfold chainS; rw [arr_size]; exact hc
  have hCl : C.data.toList = chainB e.ch := by rw [hC]; rfl
  rw [← hC] at HE
  have hz2 : ((n2 : Int) == 0) = false := by rw [beq_eq_false_iff_ne]; omega
  obtain ⟨X, hX⟩ : ∃ X, X = K.extract H K.size := ⟨_, rfl⟩
  have hXs : X.size ≤ 60000 := by rw [hX, ByteArray.size_extract]; omega
  have hXl : X.data.toList = K.data.toList.drop H := by rw [hX, ext_list, List.take_of_length_le (by rw [List.length_drop, c_size]; omega)]
  have HU := Lib.hid (uint_any H (by omega))
  have HT1 := Lib.hid (text_any X (by omega))
  have HT2 := Lib.hid (text_any C (by omega))
  obtain ⟨U, hU⟩ : ∃ U : ByteArray, U = ⟨(ub H).toArray⟩ := ⟨_, rfl⟩
  obtain ⟨T1, hT1⟩ : ∃ T1, T1 = (⟨(ub X.size).toArray⟩ : ByteArray) ++ X := ⟨_, rfl⟩
  obtain ⟨T2, hT2⟩ : ∃ T2, T2 = (⟨(ub C.size).toArray⟩ : ByteArray) ++ C := ⟨_, rfl⟩
  have u1 : U.size ≤ 10 := by rw [hU, arr_size]; exact ub_len10 (by omega)
  have u2 : T1.size ≤ 60010 := by rw [hT1, ByteArray.size_append, arr_size]; have := ub_len10 (n := X.size) (by omega); omega
  have u3 : T2.size ≤ 200010 := by rw [hT2, ByteArray.size_append, arr_size]; have := ub_len10 (n := C.size) (by omega); omega
  rw [← hU] at HU
  rw [← hT1] at HT1
  rw [← hT2] at HT2
  have HFin := Lib.hid (show (U ++ T1) ++ T2 = ⟨(entB (lastKey [] es) e).toArray⟩ by
    apply c_ba_ext
    have l1 : (K.data.toList.drop H).length = X.size := by rw [← hXl, c_size]
    have l2 : (chainB e.ch).length = C.size := by rw [← hCl, c_size]
    rw [HF.out, hU, hT1, hT2]
    unfold txtB
    rw [l1, l2]
    simp [ByteArray.data_append, hXl, hCl])
  have hx1 : ¬ 9223372036854775807 < U.size + T1.size := by omega
  have hx2 : ¬ 9223372036854775807 < U.size + T1.size + T2.size := by omega
  have hm1 : (H : Int) % 18446744073709551616 = (H : Int) := by omega
  have hn0z : (0 : Int) ≤ (H : Int) := by omega
  have hnKz : (H : Int) ≤ (K.size : Int) := by omega
  have hnK : H ≤ K.size := by omega
  have hXr := hX.symm
  clear hH hL hK hC hCl hU hT1 hT2 hX hXl HF hr0 hb0 h1 h2 h3 hv hz hc hvv hl2 hp
  go_enter Try.func24, Try.ntmps24
  go_upto_region 1 with fail
  rw [← hw1]
  clear hw1
  go_upto_region 6 with (first
    | (go_at_call 41; (with_reducible refine HR.out.mono ?_); rintro e w2 ⟨rfl, rfl⟩)
    | (go_at_call 42; (with_reducible refine HE.out.mono ?_); rintro e w3 ⟨rfl, hb3⟩))
  have hr3 := (hb3.block _ (Array.getElem?_eq_some_iff.1 HR0.out).1).trans HR0.out
  obtain ⟨d0, d1⟩ := cells2 hr3
  have HB3 := Lib.hid hb3
  have HL := Lib.hid (show ∀ x : Like w3.heap.size w3, Calls Try.prog 44 #[.slice a len cap] x.val fun e w' => e = .returned (.string L) ∧ w' = x.val from fun x => (HZ.out x.val (HB3.out.trans (x.below.mono HB3.out.size))).mono fun _ _ h => ⟨h.1, h.2.symm⟩)
  have HS2 := Lib.hid (show ∀ x : Like w3.heap.size w3, Calls Try.prog 43 #[.string K, .string L] x.val fun e w' => e = .returned (.int .i64 (H : Nat)) ∧ Below x.val.heap.size x.val w' from fun x => (HS.out x.val).mono fun _ _ h => ⟨h.1, by obtain ⟨n, rfl⟩ := h.2; exact drewN_below _ n⟩)
  have hbl : w.heap.size < w3.heap.size := (Array.getElem?_eq_some_iff.1 hr3).1
  have q0 := likes_cell hbl d0
  clear hb3 hr3 d0 d1 c0 c1 HZ HS
  refine region_likes (by kernel_rfl) (by kernel_rfl) ?_
  repeat (first
    | (go_big_quiet_step (first
        | (go_at_call 44; with_reducible exact calls_likes_same (HL.out _))
        | (go_at_call 43; with_reducible exact calls_likes (Like.size _) (HS2.out _)))))
  refine wpQuiet_nil ?_
  intro x
  have hb4 := Lib.hid (HB3.out.trans (x.below.mono HB3.out.size))
  have q1 := likes_cell (w := x.val) (Nat.lt_of_lt_of_le hbl x.below.size) (q0 x)
  clear q0 HL
  go_upto_region 7 with fail
  refine region_likes (by kernel_rfl) (by kernel_rfl) ?_
  repeat (first
    | (go_big_quiet_step (first
        | (go_at_call 23; exact calls_likes (Like.size _) (HU.out _))
        | (go_at_call 45; with_reducible exact calls_likes (Like.size _) (HT1.out _))
        | (go_at_call 45; with_reducible exact calls_likes (Like.size _) (HT2.out _)))))
  refine wpQuiet_nil ?_
  intro y
  have hb5 := Lib.hid (HB0.out.trans ((hb4.out.trans (y.below.mono hb4.out.size)).mono HB0.out.size))
  go_wp2_with fail
  go_ret2
  exact ⟨by rw [← HFin.out]; rfl, hb5.out⟩
end Go.Proofs.Ytplobffkelmokaa
