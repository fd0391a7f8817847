/-
  Joined: ChnPEnc, ChnPAt.
-/
import Derived.Test.YtplobffkelmokaaSet16
import Derived.Lib.OthersKept
import Derived.Laws.Tables
import Derived.Deep.LoopGhost
namespace Go.Proofs.Ytplobffkelmokaa
open Go.RowKit
set_option linter.unusedVariables false
set_option linter.unnecessarySimpa false
set_option linter.unusedSimpArgs false
set_option maxRecDepth 100000

/-- A builder stays, where its blocks do. -/
theorem builder_stays {w w' : World} {B b : Nat} {bs : List Value} (h : Lib.IsBuilderF 56 5 B b bs w)
    (hk : ∀ (k : Nat) (cs : Array Value) (t : TypeId) (fz : Nat × Nat), w.heap[k]? = some (Obj.cells cs t fz) → (t = 5 ∨ t = 56) → w'.heap[k]? = w.heap[k]?) : Lib.IsBuilderF 56 5 B b bs w' := by
  have key : ∀ p, Lib.BuilderAtF 56 5 B b p bs w → Lib.BuilderAtF 56 5 B b p bs w' := by
    rintro p ⟨hB, v, hb, hown, hne⟩
    refine ⟨hB, v, (hk b _ _ _ hb (.inr rfl)).trans hb, ⟨hown.1, ?_⟩, hne⟩
    rcases hown.2 with h2 | ⟨g, cap, cur, fz, rfl, hb0, hg, rest⟩
    · exact .inl h2
    · exact .inr ⟨g, cap, cur, fz, rfl, hb0, (hk g _ _ _ hg (.inl rfl)).trans hg, rest⟩
  exact h.elim (fun x => .inl (key _ x)) (fun x => .inr (key _ x))
theorem builder_lt {w : World} {B b : Nat} {bs : List Value} (h : Lib.IsBuilderF 56 5 B b bs w) : b < w.heap.size := by
  rcases h with ⟨_, v, hb, _⟩ | ⟨_, v, hb, _⟩
  · exact (Array.getElem?_eq_some_iff.1 hb).1
  · exact (Array.getElem?_eq_some_iff.1 hb).1
theorem builder_type {w : World} {B b : Nat} {bs : List Value} (h : Lib.IsBuilderF 56 5 B b bs w) : ∃ cs, w.heap[b]? = some (.cells cs 56 (0, 0)) := by
  rcases h with ⟨_, v, hb, _⟩ | ⟨_, v, hb, _⟩
  · exact ⟨_, hb⟩
  · exact ⟨_, hb⟩

/-- A builder at B, of the call's own. -/
structure EncAt (w0 : World) (B : Nat) (l : List UInt8) (w : World) : Prop where
  build : Lib.IsBuilderF 56 5 B B (Lib.byteCells l) w
  below : Below w0.heap.size w0 w
  base : w0.heap.size ≤ B
section
variable {w0 w w' : World} {B : Nat} {l : List UInt8}
theorem EncAt.new (hb : Below w0.heap.size w0 w) : EncAt w0 w.heap.size [] (w.alloc (.cells #[.pointer none, .slice none 0 0] 56)) :=
  ⟨Lib.IsBuilderF.of (Lib.fresh_isBuilder _ _ _), hb.alloc hb.size _, hb.size⟩
theorem EncAt.stay (h : EncAt w0 B l w) (hb : Below w.heap.size w w') : EncAt w0 B l w' :=
  ⟨builder_stays h.build (fun k cs t fz hk _ => hb.block k (Array.getElem?_eq_some_iff.1 hk).1), h.below.trans (hb.mono h.below.size), h.base⟩
theorem EncAt.alloc (h : EncAt w0 B l w) (o : Obj) : EncAt w0 B l (w.alloc o) := h.stay ((Below.refl _ _).alloc (Nat.le_refl _) o)
theorem EncAt.set (h : EncAt w0 B l w) {p : Nat} {cs cs' : Array Value} (hp : w.heap[p]? = some (.cells cs 94 (0, 0))) (hB : w0.heap.size ≤ p) : EncAt w0 B l (w.setRow p cs') := by
  refine ⟨builder_stays h.build (fun k cs t fz hk ht => setRow_other w p k _ (fun e => ?_)), below_setRow h.below hB _, h.base⟩
  subst e
  rw [hp] at hk
  injection hk with e
  injection e with _ e
  subst e
  rcases ht with ht | ht <;> exact absurd ht (by decide)
theorem EncAt.write (h : EncAt w0 B l w) (s : ByteArray) (hl : l.length + s.size ≤ 140737488355328) :
    Calls Try.prog 22 #[.pointer (some ⟨B, 0, none⟩), .string s] w fun e w' => e = .returned (.tuple #[.int .i64 s.size, .nilIface]) ∧ EncAt w0 B (l ++ s.data.toList) w' ∧
      ∀ (k : Nat) (cs : Array Value) (t : TypeId), w.heap[k]? = some (Obj.cells cs t (0, 0)) → t ≠ 5 → t ≠ 56 → w'.heap[k]? = some (Obj.cells cs t (0, 0)) :=
  (Try.Builder_WriteString_k B B _ s w h.build (by simpa [Lib.byteCells] using hl) (Nat.le_of_lt (builder_lt h.build))).mono fun e w' ⟨he, h1, h2, h3⟩ => by
    refine ⟨he, ⟨.inr ?_, h.below.trans (h2.mono h.base), h.base⟩, fun k cs t hk n1 n2 => ?_⟩
    · have e1 : Lib.byteCells (l ++ s.data.toList) = Lib.byteCells l ++ Lib.strCells s := by simp [Lib.byteCells, Lib.strCells, Lib.toList_data]
      rw [e1]; exact h1
    · refine h3 k _ hk (fun e => ?_) (fun c fz e => ?_)
      · injection e with e
        subst e
        obtain ⟨cs2, hb⟩ := builder_type h.build
        rw [hb] at hk
        injection hk with e
        injection e with _ e
        exact n2 e.symm
      · injection e with _ e
        exact n1 e
theorem EncAt.string (h : EncAt w0 B l w) : Calls Try.prog 25 #[.pointer (some ⟨B, 0, none⟩)] w fun e w' => e = .returned (.string ⟨l.toArray⟩) ∧ Below w0.heap.size w0 w' :=
  (Try.Builder_String_any_k B B l w h.build (Nat.le_of_lt (builder_lt h.build))).mono fun e w' ⟨he, h1, h2, h3⟩ => ⟨he, h.below.trans (h2.mono h.base)⟩
end
theorem verB_len {t : Nat} {b : List UInt8} {v : Vr} (hb : b.length ≤ 60000) (hv : v.time < 18446744073709551616) (hs : v.val.size ≤ 60000) : (verB t b v).length ≤ 60100 := by
  have h1 := ub_len10 (n := v.time - t) (by omega)
  have h2 := tailN_le b v.val.data.toList
  rw [c_size] at h2
  have h3 := ub_len10 (n := headN b v.val.data.toList) (by omega)
  have h4 := ub_len10 (n := tailN b v.val.data.toList) (by omega)
  have h5 : (midB b v.val.data.toList).length ≤ 60000 := by unfold midB; rw [List.length_take, List.length_drop, c_size]; omega
  have h6 := ub_len10 (n := (midB b v.val.data.toList).length) (by omega)
  unfold verB
  rw [List.length_append]
  split
  · simp; omega
  · rw [valB_body, List.length_cons]
    unfold bodyB
    simp only [List.length_append]
    omega
theorem vers_step (zs : List Vr) {i : Nat} (h : i < zs.length) : versB 0 [] (zs.take (i + 1)) = versB 0 [] (zs.take i) ++ verB (prevT 0 zs i) (baseOf [] (zs.take i)) (zs.getD i vr0) := by
  rw [takeV_succ zs h, versB_snoc, endT_prev zs i (Nat.le_of_lt h)]
  rfl
theorem base_step (zs : List Vr) {i : Nat} (h : i < zs.length) : (⟨(baseOf [] (zs.take (i + 1))).toArray⟩ : ByteArray) = nextS ⟨(baseOf [] (zs.take i)).toArray⟩ (zs.getD i vr0) := by
  rw [takeV_succ zs h, baseOf_snoc]
  unfold nextS
  split <;> rfl

set_option maxHeartbeats 4000000 in
theorem encode_no (a : Option Addr) (len cap : Nat) (zs : List Vr) (w : World) (hz : IsVers w a len cap zs) (hr : rightB zs = false) :
    Calls Try.prog 42 #[.slice a len cap] w fun e w' => e = .returned (.tuple #[.string ⟨#[]⟩, .int .i64 1]) ∧ Below w.heap.size w w' := by
  have HR := Lib.hid (right_any a len cap zs w hz)
  rw [hr] at HR
  go_enter Try.func42, Try.ntmps42
  go_wp2_with (go_at_call 56; (with_reducible refine HR.out.mono ?_); rintro e w1 ⟨rfl, hb1⟩)
  go_ret2
  exact ⟨rfl, hb1⟩

set_option maxHeartbeats 4000000 in
theorem encode_yes (a : Option Addr) (len cap : Nat) (zs : List Vr) (w : World) (hz : IsVers w a len cap zs) (hr : rightB zs = true) (hv : ∀ v ∈ zs, v.val.size ≤ 60000) :
    Calls Try.prog 42 #[.slice a len cap] w fun e w' => e = .returned (.tuple #[.string (chainS zs), .int .i64 0]) ∧ Below w.heap.size w w' := by
  have HR := Lib.hid (right_any a len cap zs w hz)
  rw [hr] at HR
  have HZ := Lib.hid hz
  have hzl := Lib.hid hz.1.1
  have hl200 : len ≤ 200 := by rw [← hz.1.1]; exact (right_parts hr).2
  have HOK := Lib.hid ((rises_iff zs 0).1 (right_parts hr).1)
  have HV := Lib.hid hv
  have HU := Lib.hid (uint_any len (by omega))
  have hm0 : (len : Int) % 18446744073709551616 = len := by omega
  have hul := ub_len10 (n := len) (by omega)
  obtain ⟨U, hU⟩ : ∃ U : ByteArray, U = ⟨(ub len).toArray⟩ := ⟨_, rfl⟩
  have hUl : U.data.toList = ub len := by rw [hU]
  have hUs : U.size ≤ 10 := by rw [hU, arr_size]; exact hul
  rw [← hU] at HU
  clear hz hr hv hU hul
  go_enter Try.func42, Try.ntmps42
  go_upto_region 4 with (go_at_call 56; (with_reducible refine HR.out.mono ?_); rintro e w1 ⟨rfl, hb1⟩)
  obtain ⟨B, hB⟩ : ∃ B, B = w1.heap.size := ⟨_, rfl⟩
  have hn := EncAt.new hb1
  obtain ⟨w2, hw2⟩ : ∃ w2, w2 = w1.alloc (.cells #[.pointer none, .slice none 0 0] 56) := ⟨_, rfl⟩
  rw [← hw2, ← hB] at hn ⊢
  have HN := Lib.hid hn
  clear hn hw2 hB hb1
  go_upto_region 5 with (first
    | (go_at_call 23; (with_reducible refine (HU.out _).mono ?_); rintro e w3 ⟨rfl, hb3⟩; have H3 := Lib.hid ((HN.out.stay hb3).write U (by simp; omega)))
    | (go_at_call 22; (with_reducible refine H3.out.mono ?_); rintro e w4 ⟨rfl, h4, _⟩))
  rw [List.nil_append, hUl] at h4
  have H4 := Lib.hid h4
  clear h4 HN H3 hb3 hUl hUs HU HR hm0
  go_upto_region 6 with fail
  obtain ⟨p, hp⟩ : ∃ p, p = w4.heap.size := ⟨_, rfl⟩
  have hrow := heap_alloc_new w4 (.cells (plc 0 ⟨#[]⟩) 94)
  have hpB := H4.out.below.size
  have he := H4.out.alloc (.cells (plc 0 ⟨#[]⟩) 94)
  obtain ⟨w5, hw5⟩ : ∃ w5, w5 = w4.alloc (.cells (plc 0 ⟨#[]⟩) 94) := ⟨_, rfl⟩
  rw [← hw5] at he hrow
  unfold plc at hw5
  simp only [Int.natCast_zero] at hw5
  rw [← hp] at hrow hpB ⊢
  rw [← hw5]
  have HE := Lib.hid he
  have HROW := Lib.hid hrow
  clear he hrow hw5 hp H4
  go_wp2_with fail
  go_loopg [18] len (fun g s18 wx => ∃ (i : Nat) (l : List UInt8), i + g = len ∧ s18 = .int .i64 i ∧ l.length ≤ 10 + i * 60100 ∧ Hid (l = ub len ++ versB 0 [] (zs.take i)) ∧ Hid (EncAt w B l wx) ∧
    Hid (wx.heap[p]? = some (.cells (plc (prevT 0 zs i) ⟨(baseOf [] (zs.take i)).toArray⟩) 94 (0, 0))))
  case atStart => exact ⟨0, ub len, by omega, rfl, by have := ub_len10 (n := len) (by omega); omega, Lib.hid (by simp [versB]), HE, HROW⟩
  case round =>
    obtain ⟨i, l, hig, rfl, hll, hl, he, hrow⟩ := hrel
    cases gk with
    | zero =>
      obtain rfl : i = len := by omega
      have hfin := Lib.hid (show (⟨l.toArray⟩ : ByteArray) = chainS zs by rw [hl.out, List.take_of_length_le (Nat.le_of_eq hzl.out)]; unfold chainS chainB; rw [hzl.out])
      have HS := Lib.hid he.out.string
      go_wp2_with (go_at_call 25; (with_reducible refine HS.out.mono ?_); rintro e w6 ⟨rfl, hb6⟩)
      go_ret2
      exact ⟨by rw [hfin.out]; rfl, hb6⟩
    | succ g =>
      have hil : i < len := by omega
      have hiz : (i : Int) < (len : Int) := by omega
      have hil2 : i < zs.length := by rw [hzl.out]; exact hil
      obtain ⟨b, off, rfl, hbl, ht1, c0, c1, c2⟩ := ver_at HZ.out he.out.below hil
      have hlt := (HOK.out i hil2).1
      have hvs := HV.out (zs.getD i vr0) (by rw [List.getD, List.getElem?_eq_getElem hil2]; exact List.getElem_mem _)
      have hnx := Lib.hid (show prevT 0 zs (i + 1) = (zs.getD i vr0).time by unfold prevT; rw [if_neg (by omega)]; rfl)
      have HVS := Lib.hid (vers_step zs hil2)
      have HBS := Lib.hid (base_step zs hil2)
      have hbs := base_small (zs.take i) [] (by decide) (fun v h => HV.out v (List.mem_of_mem_take h))
      obtain ⟨q, hq⟩ : ∃ q, q = prevT 0 zs i := ⟨_, rfl⟩
      obtain ⟨z, hzz⟩ : ∃ z, z = zs.getD i vr0 := ⟨_, rfl⟩
      obtain ⟨bl, hbl2⟩ : ∃ bl, bl = baseOf [] (zs.take i) := ⟨_, rfl⟩
      obtain ⟨bs, hbs2⟩ : ∃ bs : ByteArray, bs = ⟨bl.toArray⟩ := ⟨_, rfl⟩
      rw [← hzz] at c0 c1 c2 ht1 hlt hvs hnx HVS HBS
      rw [← hq] at hlt HVS hrow
      rw [← hbl2] at HVS HBS hbs hrow
      rw [← hbs2] at HBS hrow
      have hbss : bs.size ≤ 60000 := by rw [hbs2, arr_size]; exact hbs
      have hbsl : bs.data.toList = bl := by rw [hbs2]
      have HBY := Lib.hid (fun W => bytesOf_any q bs z W (Nat.le_of_lt hlt) ht1 hbss hvs)
      rw [hbsl] at HBY
      have hvl := verB_len (t := q) hbs ht1 hvs
      obtain ⟨X, hX⟩ : ∃ X : ByteArray, X = ⟨(verB q bl z).toArray⟩ := ⟨_, rfl⟩
      rw [← hX] at HBY
      have hXs : X.size ≤ 60100 := by rw [hX, arr_size]; exact hvl
      have HXL := Lib.hid (show X.data.toList = verB q bl z by rw [hX])
      have HBE := Lib.hid (fun W => behind_any q bs z W)
      obtain ⟨ps, hps⟩ : ∃ ps, ps = plc q bs := ⟨_, rfl⟩
      obtain ⟨ns, hns⟩ : ∃ ns, ns = plc z.time (nextS bs z) := ⟨_, rfl⟩
      have hpsz : (Try.prog.info? 94).map (·.size) = some ps.size := by rw [hps]; exact plc_size
      have hnsz : (Try.prog.info? 94).map (·.size) = some ns.size := by rw [hns]; exact plc_size
      have hpn : ps.size = ns.size := by rw [hps, hns]; rfl
      have hone : ns.all (·.oneCell') = true := by rw [hns]; simp [plc, Value.oneCell']
      rw [← hps] at hrow HBY HBE
      rw [← hns] at HBE
      have HNS := Lib.hid hns
      obtain ⟨cs, hcs⟩ : ∃ cs, cs = z.cells := ⟨_, rfl⟩
      have hcsz : (Try.prog.info? 78).map (·.size) = some cs.size := by rw [hcs]; exact (by kernel_rfl : (Try.prog.info? 78).map (·.size) = some 3)
      rw [← hcs] at HBY HBE
      unfold Vr.cells at hcs
      have hN8 := he.out.alloc (.cells cs 78)
      have hr8 := heap_alloc_new wr (.cells cs 78)
      have hplt : p < wr.heap.size := (Array.getElem?_eq_some_iff.1 hrow.out).1
      have hp8 := (heap_alloc_old wr (.cells cs 78) hplt).trans hrow.out
      obtain ⟨w8, hw8⟩ : ∃ w8, w8 = wr.alloc (.cells cs 78) := ⟨_, rfl⟩
      obtain ⟨v, hv⟩ : ∃ v, v = wr.heap.size := ⟨_, rfl⟩
      rw [← hw8] at hN8 hr8 hp8
      rw [← hv] at hr8
      rw [hcs] at hw8
      have N8 := Lib.hid hN8
      have R8 := Lib.hid hr8
      have P8 := Lib.hid hp8
      clear hq hzz hbl2 hbs2 hbsl hX hps hns hcs hN8 hr8 hp8 hrow he hvl hbss hvs hlt ht1
      go_upto_region 9 with fail
      rw [← hw8, ← hv]
      clear hw8 hv
      go_wp2_with (first
        | (refine wpList_load_row rfl 78 _ rfl v rfl 78 cs (0, 0) _ R8.out Try.underlying78 rfl hcsz ?_; dsimp only [Act.put])
        | (refine wpList_load_row rfl 94 _ rfl p rfl 94 ps (0, 0) _ P8.out Try.underlying94 rfl hpsz ?_; dsimp only [Act.put])
        | (go_at_call 57; (with_reducible refine (HBY.out _).mono ?_); rintro e w9 ⟨rfl, hb9⟩; have N9 := Lib.hid ((N8.out.stay hb9).write X (by omega)); have R9 := Lib.hid ((hb9.block v (Array.getElem?_eq_some_iff.1 R8.out).1).trans R8.out); have P9 := Lib.hid ((hb9.block p (Array.getElem?_eq_some_iff.1 P8.out).1).trans P8.out); clear hb9)
        | (go_at_call 22; (with_reducible refine N9.out.mono ?_); rintro e w10 ⟨rfl, h10, hk10⟩; have N10 := Lib.hid h10; have R10 := Lib.hid (hk10 v _ _ R9.out (by decide) (by decide)); have P10 := Lib.hid (hk10 p _ _ P9.out (by decide) (by decide)); clear h10 hk10)
        | (refine wpList_load_row rfl 94 _ rfl p rfl 94 ps (0, 0) _ P10.out Try.underlying94 rfl hpsz ?_; dsimp only [Act.put])
        | (refine wpList_load_row rfl 78 _ rfl v rfl 78 cs (0, 0) _ R10.out Try.underlying78 rfl hcsz ?_; dsimp only [Act.put])
        | (go_at_call 58; (with_reducible refine (HBE.out _).mono ?_); rintro e w11 ⟨rfl, hb11⟩; have N11 := Lib.hid (N10.out.stay hb11); have P11 := Lib.hid ((hb11.block p (Array.getElem?_eq_some_iff.1 P10.out).1).trans P10.out); clear hb11)
        | (refine wpList_store_row rfl 94 _ _ rfl p ns rfl rfl 94 ps P11.out hnsz hpn hone ?_))
      go_roundg g
      case measure => omega
      case rel =>
        refine ⟨i + 1, _, by omega, by go_num, ?_, Lib.hid ?_, Lib.hid (N11.out.set P11.out hpB), Lib.hid ?_⟩
        · rw [List.length_append, c_size]; omega
        · rw [HXL.out, HVS.out, hl.out, List.append_assoc]
        · rw [setRow_heap _ _ _ _ _ _ P11.out, HNS.out, hnx.out, HBS.out]
end Go.Proofs.Ytplobffkelmokaa

namespace Go.Proofs.Ytplobffkelmokaa
open Go.RowKit
set_option linter.unusedVariables false
set_option linter.unnecessarySimpa false
set_option linter.unusedSimpArgs false
set_option maxRecDepth 100000

/-- The function value that At hands on. -/
def cbV (ba bx : Nat) : Array Value := #[.pointer (some ⟨ba, 0, none⟩), .pointer (some ⟨bx, 0, none⟩)]

theorem time_mono {zs : List Vr} (h : risesB 0 zs = true) : ∀ d a, a + d < zs.length → (zs.getD a vr0).time ≤ (zs.getD (a + d) vr0).time := by
  intro d
  induction d with
  | zero => intro a _; exact Nat.le_refl _
  | succ d ih =>
    intro a ha
    have h1 := ih a (by omega)
    have h2 := ((rises_iff zs 0).1 h (a + d + 1) (by omega)).1
    unfold prevT at h2
    rw [if_neg (by omega), Nat.add_sub_cancel] at h2
    rw [show a + (d + 1) = a + d + 1 by omega]
    omega
theorem atV_none : ∀ (l : List Vr) (t : Nat), (∀ v ∈ l, t < v.time) → atV l t = none
  | [], _, _ => rfl
  | v :: l, t, h => by
    rw [atV, atV_none l t (fun x hx => h x (by simp [hx]))]
    simp only
    rw [if_neg (by have := h v (by simp); omega)]
theorem atV_split {zs : List Vr} {t k : Nat} (hk : k ≤ zs.length) (h1 : ∀ j, j < k → decide (t < (zs.getD j vr0).time) = false) (h2 : ∀ j, k ≤ j → j < zs.length → decide (t < (zs.getD j vr0).time) = true) :
    (k = 0 → atV zs t = none) ∧ ∀ j, k = j + 1 → atV zs t = some (zs.getD j vr0) := by
  have hd : atV (zs.drop k) t = none := atV_none _ _ fun v hv => by
    obtain ⟨i, hi, rfl⟩ := List.mem_iff_getElem.1 hv
    rw [List.length_drop] at hi
    have := h2 (k + i) (by omega) (by omega)
    rw [List.getD, List.getElem?_eq_getElem (by omega), Option.getD_some, decide_eq_true_iff] at this
    rw [List.getElem_drop]
    exact this
  refine ⟨fun h0 => by rw [h0] at hd; exact hd, fun j hj => atV_found (by omega) (by rw [← hj]; exact hd) ?_⟩
  have := h1 j (by omega)
  rw [decide_eq_false_iff_not] at this
  omega

theorem verSize : (Try.prog.info? 78).map (·.size) = some 3 := by kernel_rfl
end Go.Proofs.Ytplobffkelmokaa
