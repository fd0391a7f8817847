/-
  Joined: RegionL, CrdDoC.
-/
import Derived.Test.YtdldplhfpianhaaSet12
import Derived.Test.YtdldplhfpianhaaSet13
import Derived.Test.YtdldplhfpianhaaSet09
import Derived.BigQuiet
namespace Go.Proofs.Ytdldplhfpianhaa
open Go.RowKit
set_option linter.unusedVariables false
set_option linter.unnecessarySimpa false
set_option linter.unusedSimpArgs false
set_option maxRecDepth 100000

section
variable {P : Program} {ops : Array Oper} {md : Region.Mode}

/-- The last operation waits for all others. -/
def lateB (md : Region.Mode) (ops : Array Oper) (k : Nat) : Bool := decide (k + 1 = ops.size) && match ops[k]? with
  | none => false
  | some o => (List.range k).all fun i => o.after.any fun e => Region.binds md e && decide (e.on = i)

variable {Rl : World → World → Prop} {w0 : World} {a0 : Act} {S : Nat → Value → World → Prop} {T : Nat → World → Prop} {outer : List Tmp} {Q : Exit → Act → World → Prop}

theorem wpAny_tail {k : Nat} {ok : Oper} (hok : ops[k]? = some ok) (hk : k + 1 = ops.size) (late : ∀ i, i < k → ∃ e ∈ ok.after, Region.binds md e = true ∧ e.on = i)
    (hf : Flow md ops outer) (trans : ∀ x y z, Rl x y → Rl y z → Rl x z) (stable : ∀ t v w w', S t v w → Rl w w' → S t v w') (stableT : ∀ i w w', T i w → Rl w w' → T i w')
    (hout : ∀ t ∈ outer, ∀ w, Rl w0 w → S t (a0.tmps.getD t undef) w)
    (hsize : ∀ (i : Nat) (o : Oper) (d : Tmp), ops[i]? = some o → o.dst = some d → d < a0.tmps.size)
    (hstep : ∀ (i : Nat) (o : Oper), i < k → ops[i]? = some o → StepR P Rl w0 S T (o.looksAt ops) i o)
    (hdone : ∀ a w listed, (∀ j, j < k → listed.getD j false = true) → listed.getD k true = false → listed.size = ops.size → RegR ops Rl w0 a0 S T listed a w → ok.wp P a w (fun a' w' => Q .normal a' w') Q) :
    ∀ (fuel : Nat) (listed : Array Bool) (a : Act) (w : World), listed.size = ops.size → ops.size ≤ fuel + listed.toList.countP id → listed.getD k true = false → RegR ops Rl w0 a0 S T listed a w → wpAny P md ops Q fuel listed a w
  | 0, listed, a, w, hsz, hfu, hkf, hI => by
    exfalso
    have hle := List.countP_le_length (p := id) (l := listed.toList)
    have hl : listed.toList.length = ops.size := by simpa using hsz
    have heq : listed.toList.countP id = listed.toList.length := by omega
    rw [List.countP_eq_length] at heq
    have hm : listed[k]'(by omega) ∈ listed.toList := by simp
    have := heq _ hm
    rw [Array.getD_eq_getD_getElem?, Array.getElem?_eq_getElem (by omega)] at hkf
    simp at hkf
    rw [hkf] at this
    cases this
  | fuel + 1, listed, a, w, hsz, hfu, hkf, hI => by
    refine ⟨fun hn => ?_, fun i hi => ?_⟩
    · exfalso
      have := ready_nil hf hsz hn k (by omega)
      rw [Array.getD_eq_getD_getElem?, Array.getElem?_eq_getElem (by omega)] at hkf this
      simp at hkf this
      rw [hkf] at this
      cases this
    · obtain ⟨h0, o, ho, hall⟩ := mem_ready.1 hi
      have hlt : i < ops.size := (Array.getElem?_eq_some_iff.1 ho).1
      unfold wpOp
      rw [ho]
      simp only
      have hw : Region.wanted o (yielded ops a.tmps) = true := by
        unfold Region.wanted
        rw [hf.plain i o ho]
      rw [if_pos hw]
      have hl0 : listed[i]'(by omega) = false := by
        rw [Array.getD_eq_getD_getElem?, Array.getElem?_eq_getElem (by omega)] at h0
        simpa using h0
      have hc : (listed.setIfInBounds i true).toList.countP id = listed.toList.countP id + 1 := by
        rw [Array.toList_setIfInBounds, List.countP_set (by simpa using (show i < listed.size by omega))]
        simp [hl0]
      by_cases hik : i = k
      · subst hik
        rw [hok] at ho
        injection ho with ho
        subst ho
        have hpre : ∀ j, j < i → listed.getD j false = true := fun j hj => by
          obtain ⟨e, he, hb, rfl⟩ := late j hj
          exact hall e he hb
        refine .inl (Oper.wp_mono ?_ (hdone a w listed hpre hkf hsz hI))
        intro a' w' hq
        have hall2 : ∀ j, j < ops.size → (listed.setIfInBounds i true).getD j false = true := fun j hj => by
          by_cases hji : j = i
          · subst hji
            rw [Array.getD_eq_getD_getElem?, Array.getElem?_setIfInBounds_self_of_lt (by omega)]
            rfl
          · rw [getD_set_ne false (Ne.symm hji)]
            exact hpre j (by omega)
        have hrn : Region.ready md ops (listed.setIfInBounds i true) = [] := by
          rw [List.eq_nil_iff_forall_not_mem]
          intro j hj
          obtain ⟨h0, o2, ho2, _⟩ := mem_ready.1 hj
          have hlt2 : j < ops.size := (Array.getElem?_eq_some_iff.1 ho2).1
          have := hall2 j hlt2
          rw [Array.getD_eq_getD_getElem?, Array.getElem?_eq_getElem (by simp; omega)] at h0 this
          simp at h0 this
          rw [h0] at this
          cases this
        exact wpAny_done hrn hq fuel
      · have hik2 : i < k := by omega
        refine .inl (hstep i o hik2 ho a w _ Q hI.rel ?_ ?_)
        · intro t ht
          rcases hf.reads i o ho t ht with h | ⟨e, he, hb, o', ho', hd'⟩
          · rw [hI.rest t (fun j o2 ho2 => hf.out t h j o2 ho2)]
            exact hout t h w hI.rel
          · exact hI.done e.on o' t ho' (hall e he hb) hd'
        · intro v w' hb hT hS
          refine wpAny_tail hok hk late hf trans stable stableT hout hsize hstep hdone fuel _ _ _ (by simpa using hsz) (by omega) (by rw [getD_set_ne true hik]; exact hkf) ?_
          refine ⟨trans _ _ _ hI.rel hb, by rw [put_size]; exact hI.size, by rw [put_defers']; exact hI.defers, ?_, ?_, ?_⟩
          · intro t ht
            rw [put_other (ht i o ho)]
            exact hI.rest t ht
          · intro j o' d ho' hj hd
            by_cases hji : i = j
            · subst hji
              rw [ho] at ho'
              injection ho' with ho'
              subst ho'
              rw [hd, put_self (by rw [hI.size]; exact hsize i o d ho hd)]
              exact hS d hd
            · rw [getD_set_ne false hji] at hj
              rw [put_other (fun e => hji (hf.once i j o o' d ho ho' e hd))]
              exact stable _ _ _ _ (hI.done j o' d ho' hj hd) hb
          · intro j hj hjl
            by_cases hji : i = j
            · subst hji; exact hT
            · rw [getD_set_ne false hji] at hjl
              exact stableT _ _ _ (hI.facts j hj hjl) hb

/-- All steps of a list but those from the k-th on. -/
def AllStepsL (P : Program) (Rl : World → World → Prop) (w0 : World) (S : Nat → Value → World → Prop) (T : Nat → World → Prop) (k : Nat) : Nat → List Oper → Prop
  | _, [] => True
  | i, o :: l => (i < k → StepAtR P Rl w0 S T i o.dst o.op o.type) ∧ AllStepsL P Rl w0 S T k (i + 1) l
theorem AllStepsL.nil {k i : Nat} : AllStepsL P Rl w0 S T k i [] := trivial
theorem AllStepsL.cons {k i : Nat} {d : Option Tmp} {op : Op} {ty : TypeId} {pos : String} {af : Array Edge} {gd : Option (Nat × Bool)} {l : List Oper} (h : i < k → StepAtR P Rl w0 S T i d op ty) (hl : AllStepsL P Rl w0 S T k (i + 1) l) :
    AllStepsL P Rl w0 S T k i ({ dst := d, op := op, type := ty, pos := pos, after := af, guard := gd } :: l) := ⟨h, hl⟩
theorem AllStepsL.at {k : Nat} {l : List Oper} : ∀ {n : Nat} (h : AllStepsL P Rl w0 S T k n l) (i : Nat) (o : Oper), n + i < k → l[i]? = some o → StepR P Rl w0 S T (tmpsOf o.op) (n + i) o := by
  induction l with
  | nil => intro n h i o _ ho; simp at ho
  | cons x l ih =>
    intro n h i o hlt ho
    cases i with
    | zero =>
      simp at ho
      subst ho
      exact fun a w K Q hB hr hK => h.1 (by omega) a w K Q hB (Reads.of hr) hK
    | succ i =>
      have := ih h.2 i o (by omega) (by simpa using ho)
      rw [show n + (i + 1) = n + 1 + i by omega]
      exact this

/-- A region that draws its order, whose last operation waits for all others. -/
theorem wp_region_tail {id : Nat} {l : List Oper} {a : Act} {w : World} (outer outs : List Tmp) (Rl : World → World → Prop) (S : Nat → Value → World → Prop) (T : Nat → World → Prop) (n k : Nat) (od : Option Tmp) (oo : Op) (hok0 : (l[k]?).map (fun o => (o.dst, o.op)) = some (od, oo)) (hm : P.follows .mixedOrders = true) (hf : flowB .any l.toArray outer = true) (hlate : lateB .any l.toArray k = true)
    (hn : a.tmps.size = n) (hd : dstsIn n l.toArray = true) (ho : outsIn outs (l.take k).toArray = true) (hdrew : Rl w w.drew) (trans : ∀ x y z, Rl x y → Rl y z → Rl x z)
    (stable : ∀ t v w w', S t v w → Rl w w' → S t v w') (stableT : ∀ i w w', T i w → Rl w w' → T i w')
    (hout : ∀ t ∈ outer, ∀ w', Rl w w' → S t (a.tmps.getD t undef) w')
    (hstep : AllStepsL P Rl w S T k 0 l)
    (W : List Nat) (hW : dstsOf l = W)
    (hdone : ∀ (f : Nat → Value) w', Rl w w' → (∀ t ∈ outs, S t (f t) w') → (∀ i, i < k → T i w') → ∀ ok : Oper, ok.dst = od → ok.op = oo → ok.wp P (putAll f W a) w' (fun a2 w2 => Q .normal a2 w2) Q) :
    (Code.region id l.toArray true).wp P Q a w := by
  refine wp_region_any hm ?_
  have hfl := flow_of hf
  unfold lateB at hlate
  rw [Bool.and_eq_true, decide_eq_true_eq] at hlate
  obtain ⟨hk, hlate⟩ := hlate
  obtain ⟨ok, hok⟩ : ∃ ok, l[k]? = some ok := by
    cases h : l[k]? with
    | none => rw [h] at hok0; cases hok0
    | some o => exact ⟨o, rfl⟩
  rw [hok] at hok0
  simp only [Option.map_some, Option.some.injEq, Prod.mk.injEq] at hok0
  have hok' : l.toArray[k]? = some ok := by simpa using hok
  rw [hok'] at hlate
  simp only [List.all_eq_true, List.mem_range] at hlate
  refine wpAny_tail (w0 := w) (a0 := a) (Rl := Rl) (S := S) (T := T) hok' hk (fun i hi => ?_) hfl trans stable stableT hout ?_ ?_ ?_ _ _ _ _ (by simp) (by omega) ?_ ?_
  · have := hlate i hi
    rw [Array.any_eq_true] at this
    obtain ⟨j, hj, e⟩ := this
    rw [Bool.and_eq_true, decide_eq_true_eq] at e
    exact ⟨_, Array.getElem_mem hj, e.1, e.2⟩
  · intro i o d ho hdo
    unfold dstsIn at hd
    rw [Array.all_eq_true_iff_forall_mem] at hd
    have := hd o (Array.mem_of_getElem? ho)
    rw [hdo] at this
    simpa [hn] using this
  · intro i o hik ho
    rw [looksAt_plain (hfl.plain i o ho)]
    have := hstep.at i o (by omega) (by simpa using ho)
    rw [Nat.zero_add] at this
    exact this
  · intro a' w' listed hpre hkf hsz h
    have e := act_puts (W := W) h.size h.defers (fun k hk => by rw [hn]; exact dst_in hd k (by rw [hW]; exact hk)) (fun t ht => h.rest t (fun j o ho => not_dst (by rw [hW]; exact ht) j o ho))
    rw [e]
    refine hdone _ w' h.rel (fun t ht => ?_) (fun i hi => h.facts i (by omega) (hpre i hi)) ok hok0.1 hok0.2
    · unfold outsIn at ho
      rw [List.all_eq_true] at ho
      have := ho t ht
      rw [Array.any_eq_true] at this
      obtain ⟨j, hj, e⟩ := this
      have hjk : j < k := by
        rw [List.size_toArray, List.length_take] at hj
        omega
      have hjl : j < l.length := by
        rw [List.size_toArray, List.length_take] at hj
        omega
      have e2 : (l.take k).toArray[j] = l[j] := by simp
      rw [e2] at e
      exact h.done j l[j] t (by simp [List.getElem?_eq_getElem hjl]) (hpre j hjk) (by simpa using e)
  · rw [Array.getD_eq_getD_getElem?, Array.getElem?_replicate]
    rw [if_pos (by omega)]
    rfl
  · refine ⟨hdrew, rfl, rfl, fun _ _ => rfl, ?_, ?_⟩
    · intro j o d ho hj
      rw [Array.getD_eq_getD_getElem?] at hj
      have hlt : j < l.toArray.size := (Array.getElem?_eq_some_iff.1 ho).1
      rw [Array.getElem?_eq_getElem (by simpa using hlt)] at hj
      simp at hj
    · intro j hj hjl
      rw [Array.getD_eq_getD_getElem?, Array.getElem?_eq_getElem (by simpa using hj)] at hjl
      simp at hjl
end
end Go.Proofs.Ytdldplhfpianhaa

namespace Go.Proofs.Ytdldplhfpianhaa
open Go.RowKit
set_option linter.unusedVariables false
set_option linter.unnecessarySimpa false
set_option linter.unusedSimpArgs false
set_option maxRecDepth 100000

theorem CrR.drewN {w wx : World} {X : Nat → Obj → Prop} {H R : Nat} {b z : Array Value} (h : CrR w X H R b z wx) (k : Nat) : CrR w X H R b z (wx.drewN k) := h.later (crd_drewN (Below.refl _ _))
theorem cells_one1 {v : Value} (h : v.oneCell' = true) : v.cells = #[v] := by
  cases v <;> first | rfl | simp [Value.oneCell'] at h
/-- A store of one cell. -/
theorem wp_store1C {P : Program} {op : Oper} {a : Act} {w : World} {K : Act → World → Prop} {Q : Exit → Act → World → Prop} (ty : TypeId) (x y : Operand) (ho : op.op = .store ty x y) (p : Addr) (v old : Value) (hx : a.eval x = .pointer (some p)) (hy : a.eval y = v)
    (hv : v.oneCell' = true) (hc : w.cell? p = some old) (hf : w.frozen? p = false) (hi : (P.info? ty).map (·.size) = some 1) (h : K (a.put op.dst undef) (w.setCell p v)) : op.wp P a w K Q := by
  have hr : (storeVar ty p v).run P w = .ok () (w.setCell p v) := by
    cases hq : P.info? ty with
    | none => simp [hq] at hi
    | some i =>
      have hs : i.size = 1 := by simpa [hq] using hi
      simp [storeVar, cells_one1 hv, sizeOf, typeInfo, hq, hs, storeCells, run_store P _ _ v _ hv, Addr.add_zero', hc, hf, Result.andThen]
  unfold Oper.wp execOp
  simp only [ho, hx, hy, Instr.storeAt, Instr.sureAddr, Sem.run_bind, Sem.run_pure, Result.andThen_ok, hr]
  exact h
set_option maxHeartbeats 8000000 in
theorem cdo_took_stage (p : Pg) (n : Nat) (x : Rn) (da : Option Addr) (dc : Nat) (va : Option Addr) (vc : Nat) (o : Cq) (w : World) (hi : DoIn w p n x da dc va vc) (ho : o.ok) (hk : o.kind % 5 = 1) (hc : ¬ x.stage = 2) :
    Calls Try.prog 11 #[.agg (runQ p n x da dc va vc), .agg o.cells] w (CdoRes w p n da va (tellR ⟨p.R, p.W, n⟩ x o)) := by
  have HY : tellR ⟨p.R, p.W, n⟩ x o = x := by
    unfold tellR
    rw [if_neg (by omega), if_pos (by omega)]
    unfold tookR
    rw [if_neg (fun h => hc h.1)]
  have HRO := Lib.hid (hi.ok.tellR o ho)
  obtain ⟨y, hy⟩ : ∃ y, y = tellR ⟨p.R, p.W, n⟩ x o := ⟨_, rfl⟩
  rw [← hy] at HRO ⊢
  have HYY := Lib.hid (hy.trans HY)
  clear hy HY
  have HI := Lib.hid hi
  have HO := Lib.hid ho
  have HW00 := Lib.hid (CrR.start3 w (runQ p n x da dc va vc) o.cells)
  obtain ⟨ra, rn, rc, R, wa, wn, kw, Ws⟩ := p
  obtain ⟨st, sa, co, L, V⟩ := x
  obtain ⟨kind, time, ⟨xk, xf, ⟨vt, vg, vv⟩⟩, node, good⟩ := o
  unfold runQ zeroRun runCells Cq.cells at HW00
  unfold runQ runCells Cq.cells
  simp only at HW00 hk HRO HYY ⊢
  simp only at hc
  have e0 : ((st : Int) == 2) = false := by rw [beq_eq_false_iff_ne]; omega
  clear hc
  have hz : (kind : Int) % 5 = 1 := by omega
  obtain ⟨dn, hdn⟩ : ∃ dn, dn = L.length := ⟨_, rfl⟩
  obtain ⟨vn, hvn⟩ : ∃ vn, vn = V.length := ⟨_, rfl⟩
  rw [← hdn, ← hvn] at HW00 ⊢
  have HDN := Lib.hid hdn
  have HVN := Lib.hid hvn
  clear hdn hvn hi ho hk
  go_enter Try.func11, Try.ntmps11
  go_upto_region 1 with fail
  obtain ⟨W0, hW0⟩ : ∃ W0, W0 = ((w.alloc (.cells #[.slice ra rn rc, .slice wa wn kw, .int .i64 (n : Int), .int .i64 (st : Int), .int .u64 (sa : Int), .int .u64 (co : Int), .slice da dn dc, .slice va vn vc] 40)).alloc (.cells #[.int .u8 (kind : Int), .int .u64 (time : Int), .string xk, .bool xf, .int .u64 (vt : Int), .bool vg, .string vv, .int .i64 node, .bool good] 47)).alloc (.cells #[.slice none 0 0, .slice none 0 0, .int .i64 0, .int .i64 0, .int .u64 0, .int .u64 0, .slice none 0 0, .slice none 0 0] 40) := ⟨_, rfl⟩
  obtain ⟨Z, hZ⟩ : ∃ Z, Z = w.heap.size + 1 + 1 := ⟨_, rfl⟩
  obtain ⟨H1, hH1⟩ : ∃ H1, H1 = w.heap.size + 1 := ⟨_, rfl⟩
  obtain ⟨H, hH⟩ : ∃ H, H = w.heap.size := ⟨_, rfl⟩
  have HW0 : Hid (CrR w (OpX H1 #[.int .u8 (kind : Int), .int .u64 (time : Int), .string xk, .bool xf, .int .u64 (vt : Int), .bool vg, .string vv, .int .i64 node, .bool good]) H Z #[.slice ra rn rc, .slice wa wn kw, .int .i64 (n : Int), .int .i64 (st : Int), .int .u64 (sa : Int), .int .u64 (co : Int), .slice da dn dc, .slice va vn vc] #[.slice none 0 0, .slice none 0 0, .int .i64 0, .int .i64 0, .int .u64 0, .int .u64 0, .slice none 0 0, .slice none 0 0] W0) := by
    rw [hH, hH1, hZ, hW0]; exact HW00
  rw [← hW0, ← hZ, ← hH1, ← hH]
  clear hW0 hZ hH1 hH HW00
  obtain ⟨c0, c1, c2, c3, c4, c5, c6, c7, f0⟩ := HW0.out.cells
  obtain ⟨o0, o1, o2, o3, o4, o5, o6, o7, o8⟩ := HW0.out.opc
  obtain ⟨ne1, ne2⟩ := HW0.out.nes
  go_upto_region 8 with fail
  go_quiet (fail)
  have HW1 := Lib.hid (HW0.out.drewN nq)
  obtain ⟨W1, hW1⟩ : ∃ W1, W1 = W0.drewN nq := ⟨_, rfl⟩
  rw [← hW1] at HW1
  rw [← hW1]
  clear c0 c1 c2 c3 c4 c5 c6 c7 f0 o0 o1 o2 o3 o4 o5 o6 o7 o8
  obtain ⟨c0, c1, c2, c3, c4, c5, c6, c7, f0⟩ := HW1.out.cells
  obtain ⟨o0, o1, o2, o3, o4, o5, o6, o7, o8⟩ := HW1.out.opc
  clear hW1 HW0
  go_wp2_with (refine wpList_store_row rfl 40 _ _ rfl Z #[.slice ra rn rc, .slice wa wn kw, .int .i64 (n : Int), .int .i64 (st : Int), .int .u64 (sa : Int), .int .u64 (co : Int), .slice da dn dc, .slice va vn vc] rfl rfl 40 _ HW1.out.r runSize rfl (by simp [Value.oneCell']) ?_)
  refine crun_ret (fn := Try.f11) (p := 4) rfl (HW1.out.res _) (by rfl) (by rfl) (by rfl) ?_
  exact ⟨da, dc, va, vc, (by rw [HYY.out, HDN.out, HVN.out]; rfl), (HI.out.below (HW1.out.res _).below).chg HRO.out (by rw [HYY.out]) (by rw [HYY.out]), (HW1.out.res _).below, .inl rfl, .inl rfl⟩
set_option maxHeartbeats 8000000 in
theorem cdo_took_key (p : Pg) (n : Nat) (x : Rn) (da : Option Addr) (dc : Nat) (va : Option Addr) (vc : Nat) (o : Cq) (w : World) (hi : DoIn w p n x da dc va vc) (ho : o.ok) (hk : o.kind % 5 = 1) (hc : x.stage = 2 ∧ sameK (p.R.getD x.read.length ⟨#[]⟩) o.x.key = false) :
    Calls Try.prog 11 #[.agg (runQ p n x da dc va vc), .agg o.cells] w (CdoRes w p n da va (tellR ⟨p.R, p.W, n⟩ x o)) := by
  have HY : tellR ⟨p.R, p.W, n⟩ x o = x := by
    unfold tellR
    rw [if_neg (by omega), if_pos (by omega)]
    unfold tookR
    rw [if_neg (fun h => by rw [hc.2] at h; cases h.2)]
  have HRO := Lib.hid (hi.ok.tellR o ho)
  obtain ⟨y, hy⟩ : ∃ y, y = tellR ⟨p.R, p.W, n⟩ x o := ⟨_, rfl⟩
  rw [← hy] at HRO ⊢
  have HYY := Lib.hid (hy.trans HY)
  clear hy HY
  have HI := Lib.hid hi
  have HO := Lib.hid ho
  have HW00 := Lib.hid (CrR.start3 w (runQ p n x da dc va vc) o.cells)
  obtain ⟨ra, rn, rc, R, wa, wn, kw, Ws⟩ := p
  obtain ⟨st, sa, co, L, V⟩ := x
  obtain ⟨kind, time, ⟨xk, xf, ⟨vt, vg, vv⟩⟩, node, good⟩ := o
  unfold runQ zeroRun runCells Cq.cells at HW00
  unfold runQ runCells Cq.cells
  simp only at HW00 hk HRO HYY ⊢
  obtain ⟨hs2, hkk⟩ := hc
  have hdl := HI.out.ok.left hs2
  have hrl : R.length = rn := HI.out.pg.1.1
  simp only at hs2 hkk hdl hrl
  have e0 : ((st : Int) == 2) = true := by rw [beq_iff_eq]; omega
  have hdr : L.length < rn := by omega
  obtain ⟨b1, off1, hra, hbl1, hks, j0⟩ := (HI.out.pg.1).2.2 L.length hdr
  simp only at hra j0
  obtain ⟨K, hK⟩ : ∃ K, K = R.getD L.length ⟨#[]⟩ := ⟨_, rfl⟩
  rw [← hK] at hkk j0
  have HRA := Lib.hid hra
  clear hs2 hdl hks hK hra
  have e1 : (K.toList == xk.toList) = false := hkk
  clear hkk
  have hz : (kind : Int) % 5 = 1 := by omega
  obtain ⟨dn, hdn⟩ : ∃ dn, dn = L.length := ⟨_, rfl⟩
  obtain ⟨vn, hvn⟩ : ∃ vn, vn = V.length := ⟨_, rfl⟩
  rw [← hdn, ← hvn] at HW00 ⊢
  have HDN := Lib.hid hdn
  have HVN := Lib.hid hvn
  clear hdn hvn hi ho hk
  go_enter Try.func11, Try.ntmps11
  go_upto_region 1 with fail
  obtain ⟨W0, hW0⟩ : ∃ W0, W0 = ((w.alloc (.cells #[.slice ra rn rc, .slice wa wn kw, .int .i64 (n : Int), .int .i64 (st : Int), .int .u64 (sa : Int), .int .u64 (co : Int), .slice da dn dc, .slice va vn vc] 40)).alloc (.cells #[.int .u8 (kind : Int), .int .u64 (time : Int), .string xk, .bool xf, .int .u64 (vt : Int), .bool vg, .string vv, .int .i64 node, .bool good] 47)).alloc (.cells #[.slice none 0 0, .slice none 0 0, .int .i64 0, .int .i64 0, .int .u64 0, .int .u64 0, .slice none 0 0, .slice none 0 0] 40) := ⟨_, rfl⟩
  obtain ⟨Z, hZ⟩ : ∃ Z, Z = w.heap.size + 1 + 1 := ⟨_, rfl⟩
  obtain ⟨H1, hH1⟩ : ∃ H1, H1 = w.heap.size + 1 := ⟨_, rfl⟩
  obtain ⟨H, hH⟩ : ∃ H, H = w.heap.size := ⟨_, rfl⟩
  have HW0 : Hid (CrR w (OpX H1 #[.int .u8 (kind : Int), .int .u64 (time : Int), .string xk, .bool xf, .int .u64 (vt : Int), .bool vg, .string vv, .int .i64 node, .bool good]) H Z #[.slice ra rn rc, .slice wa wn kw, .int .i64 (n : Int), .int .i64 (st : Int), .int .u64 (sa : Int), .int .u64 (co : Int), .slice da dn dc, .slice va vn vc] #[.slice none 0 0, .slice none 0 0, .int .i64 0, .int .i64 0, .int .u64 0, .int .u64 0, .slice none 0 0, .slice none 0 0] W0) := by
    rw [hH, hH1, hZ, hW0]; exact HW00
  rw [← hW0, ← hZ, ← hH1, ← hH]
  clear hW0 hZ hH1 hH HW00
  obtain ⟨c0, c1, c2, c3, c4, c5, c6, c7, f0⟩ := HW0.out.cells
  obtain ⟨o0, o1, o2, o3, o4, o5, o6, o7, o8⟩ := HW0.out.opc
  obtain ⟨ne1, ne2⟩ := HW0.out.nes
  rw [← HDN.out] at j0 hdr
  have j1 : W0.cell? ⟨b1, off1 + dn, none⟩ = some (.string K) := (HW0.out.below.cell (p := ⟨b1, off1 + dn, none⟩) hbl1).trans j0
  have hdz : (dn : Int) < (rn : Int) := by omega
  have hra := HRA.out
  subst hra
  clear j0
  go_upto_region 8 with fail
  go_quiet (fail)
  have HW1 := Lib.hid (HW0.out.drewN nq)
  obtain ⟨W1, hW1⟩ : ∃ W1, W1 = W0.drewN nq := ⟨_, rfl⟩
  rw [← hW1] at HW1
  rw [← hW1]
  clear c0 c1 c2 c3 c4 c5 c6 c7 f0 o0 o1 o2 o3 o4 o5 o6 o7 o8
  obtain ⟨c0, c1, c2, c3, c4, c5, c6, c7, f0⟩ := HW1.out.cells
  obtain ⟨o0, o1, o2, o3, o4, o5, o6, o7, o8⟩ := HW1.out.opc
  clear hW1 HW0 j1
  go_wp2_with (refine wpList_store_row rfl 40 _ _ rfl Z #[.slice (some ⟨b1, off1, none⟩) rn rc, .slice wa wn kw, .int .i64 (n : Int), .int .i64 (st : Int), .int .u64 (sa : Int), .int .u64 (co : Int), .slice da dn dc, .slice va vn vc] rfl rfl 40 _ HW1.out.r runSize rfl (by simp [Value.oneCell']) ?_)
  refine crun_ret (fn := Try.f11) (p := 4) rfl (HW1.out.res _) (by rfl) (by rfl) (by rfl) ?_
  exact ⟨da, dc, va, vc, (by rw [HYY.out, HDN.out, HVN.out]; rfl), (HI.out.below (HW1.out.res _).below).chg HRO.out (by rw [HYY.out]) (by rw [HYY.out]), (HW1.out.res _).below, .inl rfl, .inl rfl⟩
end Go.Proofs.Ytdldplhfpianhaa
