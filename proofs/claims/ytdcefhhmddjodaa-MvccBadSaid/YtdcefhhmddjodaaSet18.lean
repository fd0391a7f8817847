/-
  Joined: ChnPEnc, ChnPAt.
-/
import Derived.Test.YtdcefhhmddjodaaSet17
import Derived.Test.YtdcefhhmddjodaaShelf
import Derived.Lib.OthersKept
import Derived.Laws.Tables
import Derived.Deep.LoopGhost
namespace Go.Proofs.Ytdcefhhmddjodaa
open Go.RowKit
set_option linter.unusedVariables false
set_option linter.unnecessarySimpa false
set_option linter.unusedSimpArgs false
set_option maxRecDepth 100000

/-- A builder stays, where its blocks do. -/
theorem builder_stays {w w' : World} {B b : Nat} {bs : List Value} (h : Lib.IsBuilderF 116 5 B b bs w)
    (hk : ∀ (k : Nat) (cs : Array Value) (t : TypeId) (fz : Nat × Nat), w.heap[k]? = some (Obj.cells cs t fz) → (t = 5 ∨ t = 116) → w'.heap[k]? = w.heap[k]?) : Lib.IsBuilderF 116 5 B b bs w' := by
  have key : ∀ p, Lib.BuilderAtF 116 5 B b p bs w → Lib.BuilderAtF 116 5 B b p bs w' := by
    rintro p ⟨hB, v, hb, hown, hne⟩
    refine ⟨hB, v, (hk b _ _ _ hb (.inr rfl)).trans hb, ⟨hown.1, ?_⟩, hne⟩
    rcases hown.2 with h2 | ⟨g, cap, cur, fz, rfl, hb0, hg, rest⟩
    · exact .inl h2
    · exact .inr ⟨g, cap, cur, fz, rfl, hb0, (hk g _ _ _ hg (.inl rfl)).trans hg, rest⟩
  exact h.elim (fun x => .inl (key _ x)) (fun x => .inr (key _ x))
theorem builder_lt {w : World} {B b : Nat} {bs : List Value} (h : Lib.IsBuilderF 116 5 B b bs w) : b < w.heap.size := by
  rcases h with ⟨_, v, hb, _⟩ | ⟨_, v, hb, _⟩
  · exact (Array.getElem?_eq_some_iff.1 hb).1
  · exact (Array.getElem?_eq_some_iff.1 hb).1
theorem builder_type {w : World} {B b : Nat} {bs : List Value} (h : Lib.IsBuilderF 116 5 B b bs w) : ∃ cs, w.heap[b]? = some (.cells cs 116 (0, 0)) := by
  rcases h with ⟨_, v, hb, _⟩ | ⟨_, v, hb, _⟩
  · exact ⟨_, hb⟩
  · exact ⟨_, hb⟩

/-- A builder at B, of the call's own. -/
structure EncAt (w0 : World) (B : Nat) (l : List UInt8) (w : World) : Prop where
  build : Lib.IsBuilderF 116 5 B B (Lib.byteCells l) w
  below : Below w0.heap.size w0 w
  base : w0.heap.size ≤ B
section
variable {w0 w w' : World} {B : Nat} {l : List UInt8}
theorem EncAt.new (hb : Below w0.heap.size w0 w) : EncAt w0 w.heap.size [] (w.alloc (.cells #[.pointer none, .slice none 0 0] 116)) :=
  ⟨Lib.IsBuilderF.of (Lib.fresh_isBuilder _ _ _), hb.alloc hb.size _, hb.size⟩
theorem EncAt.stay (h : EncAt w0 B l w) (hb : Below w.heap.size w w') : EncAt w0 B l w' :=
  ⟨builder_stays h.build (fun k cs t fz hk _ => hb.block k (Array.getElem?_eq_some_iff.1 hk).1), h.below.trans (hb.mono h.below.size), h.base⟩
theorem EncAt.alloc (h : EncAt w0 B l w) (o : Obj) : EncAt w0 B l (w.alloc o) := h.stay ((Below.refl _ _).alloc (Nat.le_refl _) o)
theorem EncAt.set (h : EncAt w0 B l w) {p : Nat} {cs cs' : Array Value} (hp : w.heap[p]? = some (.cells cs 147 (0, 0))) (hB : w0.heap.size ≤ p) : EncAt w0 B l (w.setRow p cs') := by
  refine ⟨builder_stays h.build (fun k cs t fz hk ht => setRow_other w p k _ (fun e => ?_)), below_setRow h.below hB _, h.base⟩
  subst e
  rw [hp] at hk
  injection hk with e
  injection e with _ e
  subst e
  rcases ht with ht | ht <;> exact absurd ht (by decide)
theorem EncAt.write (h : EncAt w0 B l w) (s : ByteArray) (hl : l.length + s.size ≤ 140737488355328) :
    Calls Try.prog 61 #[.pointer (some ⟨B, 0, none⟩), .string s] w fun e w' => e = .returned (.tuple #[.int .i64 s.size, .nilIface]) ∧ EncAt w0 B (l ++ s.data.toList) w' ∧
      ∀ (k : Nat) (cs : Array Value) (t : TypeId), w.heap[k]? = some (Obj.cells cs t (0, 0)) → t ≠ 5 → t ≠ 116 → w'.heap[k]? = some (Obj.cells cs t (0, 0)) :=
  (Try.Builder_WriteString_k B B _ s w h.build (by simpa [Lib.byteCells] using hl) (Nat.le_of_lt (builder_lt h.build))).mono fun e w' ⟨he, h1, h2, h3⟩ => by
    refine ⟨he, ⟨.inr ?_, h.below.trans (h2.mono h.base), h.base⟩, fun k cs t hk n1 n2 => ?_⟩
    · have e1 : Lib.byteCells (l ++ s.data.toList) = Lib.byteCells l ++ Lib.strCells s := by simp [Lib.byteCells, Lib.strCells, Lib.toList_data]
      rw [e1]; exact h1
    · refine h3 k _ hk (fun e => ?_) (fun c fz e => ?_)
      · injection e with e
        subst e
        obtain ⟨cs2, hb⟩ := builder_type h.build
        rw [hb] at hk
        injection hk with e
        injection e with _ e
        exact n2 e.symm
      · injection e with _ e
        exact n1 e
theorem EncAt.string (h : EncAt w0 B l w) : Calls Try.prog 64 #[.pointer (some ⟨B, 0, none⟩)] w fun e w' => e = .returned (.string ⟨l.toArray⟩) ∧ Below w0.heap.size w0 w' :=
  (Try.Builder_String_any_k B B l w h.build (Nat.le_of_lt (builder_lt h.build))).mono fun e w' ⟨he, h1, h2, h3⟩ => ⟨he, h.below.trans (h2.mono h.base)⟩
end
theorem verB_len {t : Nat} {b : List UInt8} {v : Vr} (hb : b.length ≤ 60000) (hv : v.time < 18446744073709551616) (hs : v.val.size ≤ 60000) : (verB t b v).length ≤ 60100 := by
  have h1 := ub_len10 (n := v.time - t) (by omega)
  have h2 := tailN_le b v.val.data.toList
  rw [c_size] at h2
  have h3 := ub_len10 (n := headN b v.val.data.toList) (by omega)
  have h4 := ub_len10 (n := tailN b v.val.data.toList) (by omega)
  have h5 : (midB b v.val.data.toList).length ≤ 60000 := by unfold midB; rw [List.length_take, List.length_drop, c_size]; omega
  have h6 := ub_len10 (n := (midB b v.val.data.toList).length) (by omega)
  unfold verB
  rw [List.length_append]
  split
  · simp; omega
  · rw [valB_body, List.length_cons]
    unfold bodyB
    simp only [List.length_append]
    omega
theorem vers_step (zs : List Vr) {i : Nat} (h : i < zs.length) : versB 0 [] (zs.take (i + 1)) = versB 0 [] (zs.take i) ++ verB (prevT 0 zs i) (baseOf [] (zs.take i)) (zs.getD i vr0) := by
  rw [takeV_succ zs h, versB_snoc, endT_prev zs i (Nat.le_of_lt h)]
  rfl
theorem base_step (zs : List Vr) {i : Nat} (h : i < zs.length) : (⟨(baseOf [] (zs.take (i + 1))).toArray⟩ : ByteArray) = nextS ⟨(baseOf [] (zs.take i)).toArray⟩ (zs.getD i vr0) := by
  rw [takeV_succ zs h, baseOf_snoc]
  unfold nextS
  split <;> rfl

set_option maxHeartbeats 4000000 in
theorem encode_no (a : Option Addr) (len cap : Nat) (zs : List Vr) (w : World) (hz : IsVers w a len cap zs) (hr : rightB zs = false) :
    Calls Try.prog 83 #[.slice a len cap] w fun e w' => e = .returned (.tuple #[.string ⟨#[]⟩, .int .i64 1]) ∧ Below w.heap.size w w' := by
  have HR := Lib.hid (right_any a len cap zs w hz)
  rw [hr] at HR
  go_enter Try.func83, Try.ntmps83
  go_wp2_with (go_at_call 98; (with_reducible refine HR.out.mono ?_); rintro e w1 ⟨rfl, hb1⟩)
  go_ret2
  exact ⟨rfl, hb1⟩

set_option maxHeartbeats 4000000 in
theorem encode_yes (a : Option Addr) (len cap : Nat) (zs : List Vr) (w : World) (hz : IsVers w a len cap zs) (hr : rightB zs = true) (hv : ∀ v ∈ zs, v.val.size ≤ 60000) :
    Calls Try.prog 83 #[.slice a len cap] w fun e w' => e = .returned (.tuple #[.string (chainS zs), .int .i64 0]) ∧ Below w.heap.size w w' := by
  have HR := Lib.hid (right_any a len cap zs w hz)
  rw [hr] at HR
  have HZ := Lib.hid hz
  have hzl := Lib.hid hz.1.1
  have hl200 : len ≤ 200 := by rw [← hz.1.1]; exact (right_parts hr).2
  have HOK := Lib.hid ((rises_iff zs 0).1 (right_parts hr).1)
  have HV := Lib.hid hv
  have HU := Lib.hid (uint_any len (by omega))
  have hm0 : (len : Int) % 18446744073709551616 = len := by omega
  have hul := ub_len10 (n := len) (by omega)
  obtain ⟨U, hU⟩ : ∃ U : ByteArray, U = ⟨(ub len).toArray⟩ := ⟨_, rfl⟩
  have hUl : U.data.toList = ub len := by rw [hU]
  have hUs : U.size ≤ 10 := by rw [hU, arr_size]; exact hul
  rw [← hU] at HU
  clear hz hr hv hU hul
  go_enter Try.func83, Try.ntmps83
  go_upto_region 4 with (go_at_call 98; (with_reducible refine HR.out.mono ?_); rintro e w1 ⟨rfl, hb1⟩)
  obtain ⟨B, hB⟩ : ∃ B, B = w1.heap.size := ⟨_, rfl⟩
  have hn := EncAt.new hb1
  obtain ⟨w2, hw2⟩ : ∃ w2, w2 = w1.alloc (.cells #[.pointer none, .slice none 0 0] 116) := ⟨_, rfl⟩
  rw [← hw2, ← hB] at hn ⊢
  have HN := Lib.hid hn
  clear hn hw2 hB hb1
  go_upto_region 5 with (first
    | (go_at_call 62; (with_reducible refine (HU.out _).mono ?_); rintro e w3 ⟨rfl, hb3⟩; have H3 := Lib.hid ((HN.out.stay hb3).write U (by simp; omega)))
    | (go_at_call 61; (with_reducible refine H3.out.mono ?_); rintro e w4 ⟨rfl, h4, _⟩))
  rw [List.nil_append, hUl] at h4
  have H4 := Lib.hid h4
  clear h4 HN H3 hb3 hUl hUs HU HR hm0
  go_upto_region 6 with fail
  obtain ⟨p, hp⟩ : ∃ p, p = w4.heap.size := ⟨_, rfl⟩
  have hrow := heap_alloc_new w4 (.cells (plc 0 ⟨#[]⟩) 147)
  have hpB := H4.out.below.size
  have he := H4.out.alloc (.cells (plc 0 ⟨#[]⟩) 147)
  obtain ⟨w5, hw5⟩ : ∃ w5, w5 = w4.alloc (.cells (plc 0 ⟨#[]⟩) 147) := ⟨_, rfl⟩
  rw [← hw5] at he hrow
  unfold plc at hw5
  simp only [Int.natCast_zero] at hw5
  rw [← hp] at hrow hpB ⊢
  rw [← hw5]
  have HE := Lib.hid he
  have HROW := Lib.hid hrow
  clear he hrow hw5 hp H4
  go_wp2_with fail
  go_loopg [18] len (fun g s18 wx => ∃ (i : Nat) (l : List UInt8), i + g = len ∧ s18 = .int .i64 i ∧ l.length ≤ 10 + i * 60100 ∧ Hid (l = ub len ++ versB 0 [] (zs.take i)) ∧ Hid (EncAt w B l wx) ∧
    Hid (wx.heap[p]? = some (.cells (plc (prevT 0 zs i) ⟨(baseOf [] (zs.take i)).toArray⟩) 147 (0, 0))))
  case atStart => exact ⟨0, ub len, by omega, rfl, by have := ub_len10 (n := len) (by omega); omega, Lib.hid (by simp [versB]), HE, HROW⟩
  case round =>
    obtain ⟨i, l, hig, rfl, hll, hl, he, hrow⟩ := hrel
    cases gk with
    | zero =>
      obtain rfl : i = len := by omega
      have hfin := Lib.hid (show (⟨l.toArray⟩ : ByteArray) = chainS zs by rw [hl.out, List.take_of_length_le (Nat.le_of_eq hzl.out)]; unfold chainS chainB; rw [hzl.out])
      have HS := Lib.hid he.out.string
      go_wp2_with (go_at_call 64; (with_reducible refine HS.out.mono ?_); rintro e w6 ⟨rfl, hb6⟩)
      go_ret2
      exact ⟨by rw [hfin.out]; rfl, hb6⟩
    | succ g =>
      have hil : i < len := by omega
      have hiz : (i : Int) < (len : Int) := by omega
      have hil2 : i < zs.length := by rw [hzl.out]; exact hil
      obtain ⟨b, off, rfl, hbl, ht1, c0, c1, c2⟩ := ver_at HZ.out he.out.below hil
      have hlt := (HOK.out i hil2).1
      have hvs := HV.out (zs.getD i vr0) (by rw [List.getD, List.getElem?_eq_getElem hil2]; exact List.getElem_mem _)
      have hnx := Lib.hid (show prevT 0 zs (i + 1) = (zs.getD i vr0).time by unfold prevT; rw [if_neg (by omega)]; rfl)
      have HVS := Lib.hid (vers_step zs hil2)
      have HBS := Lib.hid (base_step zs hil2)
      have hbs := base_small (zs.take i) [] (by decide) (fun v h => HV.out v (List.mem_of_mem_take h))
      obtain ⟨q, hq⟩ : ∃ q, q = prevT 0 zs i := ⟨_, rfl⟩
      obtain ⟨z, hzz⟩ : ∃ z, z = zs.getD i vr0 := ⟨_, rfl⟩
      obtain ⟨bl, hbl2⟩ : ∃ bl, bl = baseOf [] (zs.take i) := ⟨_, rfl⟩
      obtain ⟨bs, hbs2⟩ : ∃ bs : ByteArray, bs = ⟨bl.toArray⟩ := ⟨_, rfl⟩
      rw [← hzz] at c0 c1 c2 ht1 hlt hvs hnx HVS HBS
      rw [← hq] at hlt HVS hrow
      rw [← hbl2] at HVS HBS hbs hrow
      rw [← hbs2] at HBS hrow
      have hbss : bs.size ≤ 60000 := by rw [hbs2, arr_size]; exact hbs
      have hbsl : bs.data.toList = bl := by rw [hbs2]
      have HBY := Lib.hid (fun W => bytesOf_any q bs z W (Nat.le_of_lt hlt) ht1 hbss hvs)
      rw [hbsl] at HBY
      have hvl := verB_len (t := q) hbs ht1 hvs
      obtain ⟨X, hX⟩ : ∃ X : ByteArray, X = ⟨(verB q bl z).toArray⟩ := ⟨_, rfl⟩
      rw [← hX] at HBY
      have hXs : X.size ≤ 60100 := by rw [hX, arr_size]; exact hvl
      have HXL := Lib.hid (show X.data.toList = verB q bl z by rw [hX])
      have HBE := Lib.hid (fun W => behind_any q bs z W)
      obtain ⟨ps, hps⟩ : ∃ ps, ps = plc q bs := ⟨_, rfl⟩
      obtain ⟨ns, hns⟩ : ∃ ns, ns = plc z.time (nextS bs z) := ⟨_, rfl⟩
      have hpsz : (Try.prog.info? 147).map (·.size) = some ps.size := by rw [hps]; exact plc_size
      have hnsz : (Try.prog.info? 147).map (·.size) = some ns.size := by rw [hns]; exact plc_size
      have hpn : ps.size = ns.size := by rw [hps, hns]; rfl
      have hone : ns.all (·.oneCell') = true := by rw [hns]; simp [plc, Value.oneCell']
      rw [← hps] at hrow HBY HBE
      rw [← hns] at HBE
      have HNS := Lib.hid hns
      obtain ⟨cs, hcs⟩ : ∃ cs, cs = z.cells := ⟨_, rfl⟩
      have hcsz : (Try.prog.info? 35).map (·.size) = some cs.size := by rw [hcs]; exact (by kernel_rfl : (Try.prog.info? 35).map (·.size) = some 3)
      rw [← hcs] at HBY HBE
      unfold Vr.cells at hcs
      have hN8 := he.out.alloc (.cells cs 35)
      have hr8 := heap_alloc_new wr (.cells cs 35)
      have hplt : p < wr.heap.size := (Array.getElem?_eq_some_iff.1 hrow.out).1
      have hp8 := (heap_alloc_old wr (.cells cs 35) hplt).trans hrow.out
      obtain ⟨w8, hw8⟩ : ∃ w8, w8 = wr.alloc (.cells cs 35) := ⟨_, rfl⟩
      obtain ⟨v, hv⟩ : ∃ v, v = wr.heap.size := ⟨_, rfl⟩
      rw [← hw8] at hN8 hr8 hp8
      rw [← hv] at hr8
      rw [hcs] at hw8
      have N8 := Lib.hid hN8
      have R8 := Lib.hid hr8
      have P8 := Lib.hid hp8
      clear hq hzz hbl2 hbs2 hbsl hX hps hns hcs hN8 hr8 hp8 hrow he hvl hbss hvs hlt ht1
      go_upto_region 9 with fail
      rw [← hw8, ← hv]
      clear hw8 hv
      go_wp2_with (first
        | (refine wpList_load_row rfl 35 _ rfl v rfl 35 cs (0, 0) _ R8.out Try.underlying35 rfl hcsz ?_; dsimp only [Act.put])
        | (refine wpList_load_row rfl 147 _ rfl p rfl 147 ps (0, 0) _ P8.out Try.underlying147 rfl hpsz ?_; dsimp only [Act.put])
        | (go_at_call 99; (with_reducible refine (HBY.out _).mono ?_); rintro e w9 ⟨rfl, hb9⟩; have N9 := Lib.hid ((N8.out.stay hb9).write X (by omega)); have R9 := Lib.hid ((hb9.block v (Array.getElem?_eq_some_iff.1 R8.out).1).trans R8.out); have P9 := Lib.hid ((hb9.block p (Array.getElem?_eq_some_iff.1 P8.out).1).trans P8.out); clear hb9)
        | (go_at_call 61; (with_reducible refine N9.out.mono ?_); rintro e w10 ⟨rfl, h10, hk10⟩; have N10 := Lib.hid h10; have R10 := Lib.hid (hk10 v _ _ R9.out (by decide) (by decide)); have P10 := Lib.hid (hk10 p _ _ P9.out (by decide) (by decide)); clear h10 hk10)
        | (refine wpList_load_row rfl 147 _ rfl p rfl 147 ps (0, 0) _ P10.out Try.underlying147 rfl hpsz ?_; dsimp only [Act.put])
        | (refine wpList_load_row rfl 35 _ rfl v rfl 35 cs (0, 0) _ R10.out Try.underlying35 rfl hcsz ?_; dsimp only [Act.put])
        | (go_at_call 96; (with_reducible refine (HBE.out _).mono ?_); rintro e w11 ⟨rfl, hb11⟩; have N11 := Lib.hid (N10.out.stay hb11); have P11 := Lib.hid ((hb11.block p (Array.getElem?_eq_some_iff.1 P10.out).1).trans P10.out); clear hb11)
        | (refine wpList_store_row rfl 147 _ _ rfl p ns rfl rfl 147 ps P11.out hnsz hpn hone ?_))
      go_roundg g
      case measure => omega
      case rel =>
        refine ⟨i + 1, _, by omega, by go_num, ?_, Lib.hid ?_, Lib.hid (N11.out.set P11.out hpB), Lib.hid ?_⟩
        · rw [List.length_append, c_size]; omega
        · rw [HXL.out, HVS.out, hl.out, List.append_assoc]
        · rw [setRow_heap _ _ _ _ _ _ P11.out, HNS.out, hnx.out, HBS.out]
end Go.Proofs.Ytdcefhhmddjodaa

namespace Go.Proofs.Ytdcefhhmddjodaa
open Go.RowKit
set_option linter.unusedVariables false
set_option linter.unnecessarySimpa false
set_option linter.unusedSimpArgs false
set_option maxRecDepth 100000

/-- The function value that At hands on. -/
def cbV (ba bx : Nat) : Array Value := #[.pointer (some ⟨ba, 0, none⟩), .pointer (some ⟨bx, 0, none⟩)]

set_option maxHeartbeats 4000000 in
theorem search_any (n ba bx : Nat) (p : Nat → Bool) (hn : n ≤ 1000000000) (w : World)
    (hf : ∀ W, Below w.heap.size w W → ∀ i : Nat, i < n → Calls Try.prog 49 #[.int .i64 i, .pointer (some ⟨ba, 0, none⟩), .pointer (some ⟨bx, 0, none⟩)] W fun e w' => e = .returned (.bool (p i)) ∧ Below W.heap.size W w')
    (hmono : ∀ a b, a ≤ b → b < n → p a = true → p b = true) :
    Calls Try.prog 48 #[.int .i64 n, .func (.func 49) #[] #[.pointer (some ⟨ba, 0, none⟩), .pointer (some ⟨bx, 0, none⟩)]] w fun e w' => ∃ k : Nat, e = .returned (.int .i64 k) ∧ k ≤ n ∧ (∀ j, j < k → p j = false) ∧ (∀ j, k ≤ j → j < n → p j = true) ∧ Below w.heap.size w w' := by
  have HF := Lib.hid hf
  have HM := Lib.hid hmono
  clear hf hmono
  go_enter Try.func48, Try.ntmps48
  go_wp2_with fail
  go_loopg [5, 6] n (fun g s5 s6 wx => ∃ lo hi : Nat, s5 = .int .i64 lo ∧ s6 = .int .i64 hi ∧ lo ≤ hi ∧ hi ≤ n ∧ hi - lo ≤ g ∧ Hid (∀ j, j < lo → p j = false) ∧ Hid (∀ j, hi ≤ j → j < n → p j = true) ∧ Hid (Below w.heap.size w wx))
  case atStart => exact ⟨0, n, rfl, rfl, by omega, by omega, by omega, Lib.hid (fun j h => absurd h (by omega)), Lib.hid (fun j h1 h2 => absurd h1 (by omega)), Lib.hid (Below.refl _ _)⟩
  case round =>
    obtain ⟨lo, hi, rfl, rfl, hlh, hin, hg, hlo, hhi, hb⟩ := hrel
    by_cases hlt : lo < hi
    · have hltz : (lo : Int) < (hi : Int) := by omega
      obtain ⟨m, hm⟩ : ∃ m, m = (lo + hi) / 2 := ⟨_, rfl⟩
      have hmz : ((lo : Int) + (hi : Int)) / 2 = (m : Int) := by omega
      have hm1 : lo ≤ m := by omega
      have hm2 : m < hi := by omega
      have HC := Lib.hid (HF.out wr hb.out m (by omega))
      cases hp : p m with
      | false =>
        rw [hp] at HC
        have HL := Lib.hid (show ∀ j, j < m + 1 → p j = false from fun j hj => by
          cases h : p j with
          | false => rfl
          | true => have := HM.out j m (by omega) (by omega) h; rw [hp] at this; cases this)
        clear hp hm hlo
        go_wp2_with (go_at_call 49; (with_reducible refine HC.out.mono ?_); rintro e w1 ⟨rfl, hb1⟩; have HB1 := Lib.hid (hb.out.trans (hb1.mono hb.out.size)))
        go_roundg (hi - (m + 1))
        case measure => omega
        case rel => exact ⟨m + 1, hi, by go_num, rfl, by omega, hin, by omega, HL, hhi, HB1⟩
      | true =>
        rw [hp] at HC
        have HL := Lib.hid (show ∀ j, m ≤ j → j < n → p j = true from fun j h1 h2 => HM.out m j h1 h2 hp)
        clear hp hm hhi
        go_wp2_with (go_at_call 49; (with_reducible refine HC.out.mono ?_); rintro e w1 ⟨rfl, hb1⟩; have HB1 := Lib.hid (hb.out.trans (hb1.mono hb.out.size)))
        go_roundg (m - lo)
        case measure => omega
        case rel => exact ⟨lo, m, rfl, by go_num, by omega, by omega, by omega, hlo, HL, HB1⟩
    · obtain rfl : lo = hi := by omega
      have hltz : ¬ (lo : Int) < (lo : Int) := by omega
      go_wp2_with fail
      go_ret
      exact ⟨lo, rfl, hin, hlo.out, hhi.out, hb.out⟩

set_option maxHeartbeats 1000000 in
theorem above_any (i ba bx b off len cap t z : Nat) (W : World) (hi : i < len) (h1 : W.cell? ⟨ba, 0, none⟩ = some (.slice (some ⟨b, off, none⟩) len cap)) (h2 : W.cell? ⟨bx, 0, none⟩ = some (.int .u64 (t : Int))) (h3 : W.cell? ⟨b, off + i * 3, none⟩ = some (.int .u64 (z : Int))) :
    Calls Try.prog 49 #[.int .i64 i, .pointer (some ⟨ba, 0, none⟩), .pointer (some ⟨bx, 0, none⟩)] W fun e w' => e = .returned (.bool (decide (t < z))) ∧ Below W.heap.size W w' := by
  have hiz : (i : Int) < (len : Int) := by omega
  go_enter Try.func49, Try.ntmps49
  go_wp2_with fail
  go_quiet (fail)
  go_wp2_with fail
  go_ret
  exact ⟨by simp, below_drewV (Below.refl _ _) nq⟩

theorem clone_anyC (s : ByteArray) (w : World) (h : s.size ≤ 281474976710656) : Calls Try.prog 36 #[.string s] w fun e w' => e = .returned (.string s) ∧ Below w.heap.size w w' := by
  have H := Lib.hid (Try.stringslite_Clone s w h)
  go_enter Try.func36, Try.ntmps36
  go_wp2_with (go_at_call 53; refine H.out.mono ?_; rintro e w1 ⟨rfl, hb1⟩)
  go_ret
  exact ⟨rfl, hb1⟩

theorem time_mono {zs : List Vr} (h : risesB 0 zs = true) : ∀ d a, a + d < zs.length → (zs.getD a vr0).time ≤ (zs.getD (a + d) vr0).time := by
  intro d
  induction d with
  | zero => intro a _; exact Nat.le_refl _
  | succ d ih =>
    intro a ha
    have h1 := ih a (by omega)
    have h2 := ((rises_iff zs 0).1 h (a + d + 1) (by omega)).1
    unfold prevT at h2
    rw [if_neg (by omega), Nat.add_sub_cancel] at h2
    rw [show a + (d + 1) = a + d + 1 by omega]
    omega
theorem atV_none : ∀ (l : List Vr) (t : Nat), (∀ v ∈ l, t < v.time) → atV l t = none
  | [], _, _ => rfl
  | v :: l, t, h => by
    rw [atV, atV_none l t (fun x hx => h x (by simp [hx]))]
    simp only
    rw [if_neg (by have := h v (by simp); omega)]
theorem atV_split {zs : List Vr} {t k : Nat} (hk : k ≤ zs.length) (h1 : ∀ j, j < k → decide (t < (zs.getD j vr0).time) = false) (h2 : ∀ j, k ≤ j → j < zs.length → decide (t < (zs.getD j vr0).time) = true) :
    (k = 0 → atV zs t = none) ∧ ∀ j, k = j + 1 → atV zs t = some (zs.getD j vr0) := by
  have hd : atV (zs.drop k) t = none := atV_none _ _ fun v hv => by
    obtain ⟨i, hi, rfl⟩ := List.mem_iff_getElem.1 hv
    rw [List.length_drop] at hi
    have := h2 (k + i) (by omega) (by omega)
    rw [List.getD, List.getElem?_eq_getElem (by omega), Option.getD_some, decide_eq_true_iff] at this
    rw [List.getElem_drop]
    exact this
  refine ⟨fun h0 => by rw [h0] at hd; exact hd, fun j hj => atV_found (by omega) (by rw [← hj]; exact hd) ?_⟩
  have := h1 j (by omega)
  rw [decide_eq_false_iff_not] at this
  omega

theorem verSize : (Try.prog.info? 35).map (·.size) = some 3 := by kernel_rfl
set_option maxHeartbeats 4000000 in
theorem at_any (a : Option Addr) (len cap : Nat) (zs : List Vr) (t : Nat) (w : World) (hz : IsVers w a len cap zs) (hr : rightB zs = true) (hv : ∀ v ∈ zs, v.val.size ≤ 60000) (ht : t < 18446744073709551616) :
    Calls Try.prog 33 #[.slice a len cap, .int .u64 (t : Int)] w fun e w' => e = .returned (atOut (atV zs t)) ∧ Below w.heap.size w w' := by
  have hl200 : len ≤ 200 := by rw [← hz.1.1]; exact (right_parts hr).2
  have hrs := (right_parts hr).1
  have hzl := hz.1.1
  obtain ⟨A, hA⟩ : ∃ A, A = w.heap.size := ⟨_, rfl⟩
  obtain ⟨w1, hw1⟩ : ∃ w1, w1 = ((w.alloc (.cells #[.slice a len cap] 71)).alloc (.cells #[.int .u64 (t : Int)] 33)).alloc (.cells #[.int .u64 0, .bool false, .string ⟨#[]⟩] 35) := ⟨_, rfl⟩
  have r0 : w1.heap[A]? = some (.cells #[.slice a len cap] 71 (0, 0)) := by
    rw [hw1, hA, heap_alloc_old _ _ (by simp; omega)]; exact heap_alloc2_old _ _ _
  have r1 : w1.heap[A + 1]? = some (.cells #[.int .u64 (t : Int)] 33 (0, 0)) := by
    rw [hw1, hA, heap_alloc_old _ _ (by simp)]; exact heap_alloc2_new _ _ _
  have r2 : w1.heap[A + 1 + 1]? = some (.cells #[.int .u64 0, .bool false, .string ⟨#[]⟩] 35 (0, 0)) := by
    rw [hw1, hA]; have := heap_alloc_new ((w.alloc (.cells #[.slice a len cap] 71)).alloc (.cells #[.int .u64 (t : Int)] 33)) (.cells #[.int .u64 0, .bool false, .string ⟨#[]⟩] 35); simpa using this
  have hbel : Below w.heap.size w w1 := by rw [hw1]; exact (((Below.refl _ _).alloc (Nat.le_refl _) _).alloc (by simp) _).alloc (by simp; omega) _
  have hcell0 : ∀ W, Below w1.heap.size w1 W → W.cell? ⟨A, 0, none⟩ = some (.slice a len cap) := fun W hW => by
    rw [cell_of_row _ _ _ _ _ _ ((hW.block A (Array.getElem?_eq_some_iff.1 r0).1).trans r0)]; rfl
  have hcell1 : ∀ W, Below w1.heap.size w1 W → W.cell? ⟨A + 1, 0, none⟩ = some (.int .u64 (t : Int)) := fun W hW => by
    rw [cell_of_row _ _ _ _ _ _ ((hW.block (A + 1) (Array.getElem?_eq_some_iff.1 r1).1).trans r1)]; rfl
  have HS := Lib.hid (search_any len A (A + 1) (fun j => decide (t < (zs.getD j vr0).time)) (by omega) w1 (fun W hW i hi => by
      obtain ⟨b, off, rfl, hbl, h1, c0, c1, c2⟩ := ver_at hz (hbel.trans (hW.mono hbel.size)) hi
      exact above_any i A (A + 1) b off len cap t _ W hi (hcell0 W hW) (hcell1 W hW) c0)
    (fun x y hxy hy h => by
      simp only [decide_eq_true_iff] at h ⊢
      obtain ⟨d, rfl⟩ : ∃ d, y = x + d := ⟨y - x, by omega⟩
      exact Nat.lt_of_lt_of_le h (time_mono hrs d x (by omega))))
  have HC0 := Lib.hid hcell0
  have HZ := Lib.hid hz
  have HV := Lib.hid hv
  have HB := Lib.hid hbel
  have R2 := Lib.hid (fun W (hW : Below w1.heap.size w1 W) => (hW.block (A + 1 + 1) (Array.getElem?_eq_some_iff.1 r2).1).trans r2)
  have HA2 := Lib.hid (show w.heap.size ≤ A + 1 + 1 by omega)
  have hl2 : (len : Int) % 18446744073709551616 = len := by omega
  have c0 := hcell0 w1 (Below.refl _ _)
  clear hz hr hrs hv r0 r1 r2 hbel hcell0 hcell1
  go_enter Try.func33, Try.ntmps33
  go_upto_region 1 with fail
  rw [← hw1, ← hA]
  clear hw1 hA
  go_upto_region 2 with (go_at_call 48; (with_reducible refine HS.out.mono ?_); rintro e w2 ⟨k, rfl, hk, hk1, hk2, hb2⟩)
  have c2 := HC0.out w2 hb2
  obtain ⟨hat0, hat1⟩ := atV_split (t := t) (by rw [hzl]; exact hk) hk1 (by rw [hzl]; exact hk2)
  have HB2 := Lib.hid hb2
  clear hk1 hk2 hb2 HC0 HS c0
  rcases Nat.eq_zero_or_pos k with rfl | hpos
  · have he := Lib.hid (hat0 rfl)
    clear hat0 hat1
    have RR := Lib.hid (R2.out _ HB2.out)
    have hone : (#[Value.int .u64 0, .bool false, .string ⟨#[]⟩]).all (·.oneCell') = true := by simp [Value.oneCell']
    go_wp2_with (refine wpList_store_row rfl 35 _ _ rfl (A + 1 + 1) #[.int .u64 0, .bool false, .string ⟨#[]⟩] rfl rfl 35 #[.int .u64 0, .bool false, .string ⟨#[]⟩] RR.out verSize rfl hone ?_)
    refine bodyPost_ret (results_row_tmpV rfl _ _ (A + 1 + 1) 35 _ (0, 0) _ _ rfl (setRow_heap _ _ _ _ _ _ RR.out) Try.underlying35 rfl verSize rfl) rfl ⟨by rw [he.out]; rfl, below_setRow (HB.out.trans (HB2.out.mono HB.out.size)) HA2.out _⟩
  · obtain ⟨j, rfl⟩ : ∃ j, k = j + 1 := ⟨k - 1, by omega⟩
    have he := Lib.hid (hat1 j rfl)
    clear hat0 hat1
    have hil : j < len := by omega
    obtain ⟨b, off, rfl, hbl, ht1, c0, c1, cv⟩ := ver_at HZ.out (HB.out.trans (HB2.out.mono HB.out.size)) hil
    have hvs : (zs.getD j vr0).val.size ≤ 60000 := HV.out _ (by rw [List.getD, List.getElem?_eq_getElem (by omega)]; exact List.getElem_mem _)
    obtain ⟨z, hzz⟩ : ∃ z, z = zs.getD j vr0 := ⟨_, rfl⟩
    rw [← hzz] at he c0 c1 cv hvs
    obtain ⟨zt, zg, zv⟩ := z
    simp only at c0 c1 cv hvs
    obtain ⟨k, hk⟩ : ∃ k, k = j + 1 := ⟨_, rfl⟩
    rw [← hk]
    have hkj : (k : Int) - 1 = (j : Int) := by omega
    have hk0 : ((k : Int) == 0) = false := by rw [beq_eq_false_iff_ne]; omega
    have hjz : (j : Int) < (len : Int) := by omega
    have hj0 : (0 : Int) ≤ (j : Int) := by omega
    have hkz : (k : Int) ≤ 200 := by omega
    have HC := Lib.hid (clone_anyC zv)
    obtain ⟨cs, hcs⟩ : ∃ cs : Array Value, cs = #[.int .u64 (zt : Int), .bool zg, .string zv] := ⟨_, rfl⟩
    have hcsz : (Try.prog.info? 35).map (·.size) = some cs.size := by rw [hcs]; exact verSize
    have hone : cs.all (·.oneCell') = true := by rw [hcs]; simp [Value.oneCell']
    have r4 := heap_alloc_new w2 (.cells cs 35)
    have b4 := (Below.refl w2.heap.size w2).alloc (Nat.le_refl _) (.cells cs 35)
    obtain ⟨v, hv⟩ : ∃ v, v = w2.heap.size := ⟨_, rfl⟩
    obtain ⟨w4, hw4⟩ : ∃ w4, w4 = w2.alloc (.cells cs 35) := ⟨_, rfl⟩
    rw [← hw4] at r4 b4
    rw [← hv] at r4
    have hcs2 := hcs
    rw [hcs] at hw4
    have B4 := Lib.hid (HB2.out.trans (b4.mono HB2.out.size))
    have hvA : A + 1 + 1 < v := by
      have := (Array.getElem?_eq_some_iff.1 (R2.out _ (Below.refl _ _))).1
      have h3 := HB2.out.size
      omega
    have R4 := Lib.hid r4
    have HVW := Lib.hid (show w1.heap.size ≤ v by rw [hv]; exact HB2.out.size)
    have hcs0 := Lib.hid hcs
    clear hzz hk hcs hcs2 b4 r4
    go_upto_region 5 with fail
    rw [← hw4, ← hv]
    clear hw4 hv
    have HR2 := Lib.hid (fun W (h : Below w4.heap.size w4 W) => R2.out W (B4.out.trans (h.mono B4.out.size)))
    have cv4 := (cells3 (hcs0.out ▸ R4.out)).2.2
    go_upto_region 6 with (go_at_call 36; (with_reducible refine (HC.out _ (by omega)).mono ?_); rintro e w5 ⟨rfl, hb5⟩; have hr5 := (hb5.block v (Array.getElem?_eq_some_iff.1 R4.out).1).trans R4.out; have hf5 : w5.frozen? ⟨v, 2, none⟩ = false := (by simp [World.frozen?, hr5]); have R5 := Lib.hid hr5; have hc5 := (cells3 (hcs0.out ▸ hr5)).2.2; clear hr5)
    have hr6 : (w5.setCell ⟨v, 2, none⟩ (.string zv)).heap[v]? = some (.cells cs 35 (0, 0)) := by
      rw [heap_setCell_same w5 v 2 _ _ _ R5.out, hcs0.out]; rfl
    have hB5 := B4.out.trans (hb5.mono B4.out.size)
    have hB6 : Below w1.heap.size w1 (w5.setCell ⟨v, 2, none⟩ (.string zv)) := hB5.setCell HVW.out _
    obtain ⟨w6, hw6⟩ : ∃ w6, w6 = w5.setCell ⟨v, 2, none⟩ (.string zv) := ⟨_, rfl⟩
    rw [← hw6] at hr6 hB6 ⊢
    have R6 := Lib.hid hr6
    have B6 := Lib.hid hB6
    have RR := Lib.hid (R2.out _ hB6)
    clear hw6 hr6 hB5 hB6 hf5 hc5 cv4
    go_wp2_with (first
      | (refine wpList_load_row rfl 35 _ rfl v rfl 35 cs (0, 0) _ R6.out Try.underlying35 rfl hcsz ?_; dsimp only [Act.put])
      | (refine wpList_store_row rfl 35 _ _ rfl (A + 1 + 1) cs rfl rfl 35 #[.int .u64 0, .bool false, .string ⟨#[]⟩] RR.out hcsz (by rw [hcs0.out]; rfl) hone ?_))
    refine bodyPost_ret (results_row_tmpV rfl _ _ (A + 1 + 1) 35 _ (0, 0) _ _ rfl (setRow_heap _ _ _ _ _ _ RR.out) Try.underlying35 rfl hcsz rfl) rfl ⟨?_, below_setRow (HB.out.trans (B6.out.mono HB.out.size)) HA2.out _⟩
    rw [he.out, hcs0.out]
    rfl
end Go.Proofs.Ytdcefhhmddjodaa
