/-
  A block's inside read back, as mathematics: a key, an entry, entries off the head of bytes; what is read has just these bytes.
-/
import Derived.Test.YthcomfcbdlobpaaSet31
import Derived.Test.YthcomfcbdlobpaaSet28
namespace Go.Proofs.Ythcomfcbdlobpaa
open Go.RowKit
set_option linter.unusedVariables false
set_option linter.unnecessarySimpa false
set_option linter.unusedSimpArgs false
set_option maxRecDepth 100000

/-! Keys in order. -/
theorem lb_self (a : List UInt8) : Op.bytesLess a a = false := by
  induction a with
  | nil => rfl
  | cons x a ih => show (decide (x < x) || (x == x && Op.bytesLess a a)) = false; have : ¬ x < x := UInt8.lt_irrefl x; simp [this, ih]
theorem lb_total : ∀ (a b : List UInt8), Op.bytesLess a b = false → Op.bytesLess b a = false → a = b
  | [], [], _, _ => rfl
  | [], _ :: _, h, _ => by simp [Op.bytesLess] at h
  | _ :: _, [], _, h => by simp [Op.bytesLess] at h
  | x :: a, y :: b, h, k => by
    have h : (decide (x < y) || (x == y && Op.bytesLess a b)) = false := h
    have k : (decide (y < x) || (y == x && Op.bytesLess b a)) = false := k
    simp only [Bool.or_eq_false_iff, decide_eq_false_iff_not] at h k
    have e : x = y := by
      apply UInt8.toNat_inj.1
      have h1 := h.1; have k1 := k.1
      rw [UInt8.lt_iff_toNat_lt] at h1 k1
      omega
    subst e
    have h2 := h.2; have k2 := k.2
    simp at h2 k2
    rw [lb_total a b h2 k2]
theorem lb_asymm : ∀ (a b : List UInt8), Op.bytesLess a b = true → Op.bytesLess b a = false
  | [], [], _ => rfl
  | [], _ :: _, _ => rfl
  | _ :: _, [], h => by simp [Op.bytesLess] at h
  | x :: a, y :: b, h => by
    have h0 : (decide (x < y) || (x == y && Op.bytesLess a b)) = true := h
    clear h
    show (decide (y < x) || (y == x && Op.bytesLess b a)) = false
    simp only [Bool.or_eq_true, decide_eq_true_eq, Bool.and_eq_true, beq_iff_eq] at h0
    rcases h0 with h | ⟨rfl, h⟩
    · have h1 : ¬ y < x := fun k => UInt8.lt_irrefl _ (UInt8.lt_trans h k)
      have h2 : ¬ y = x := fun e => by subst e; exact UInt8.lt_irrefl _ h
      simp [h1, h2]
    · have := lb_asymm a b h
      have h1 : ¬ x < x := UInt8.lt_irrefl x
      simp [h1, this]
theorem lb_not (a b : List UInt8) : (!(Op.bytesLess a b || a == b)) = Op.bytesLess b a := by
  cases h : Op.bytesLess a b with
  | true => rw [lb_asymm _ _ h]; rfl
  | false =>
    cases h2 : Op.bytesLess b a with
    | true =>
      have : ¬ a = b := fun e => by rw [e, lb_self] at h2; cases h2
      simp [this]
    | false => simp [lb_total _ _ h h2]
theorem lb_trans : ∀ (a b c : List UInt8), Op.bytesLess a b = true → Op.bytesLess b c = true → Op.bytesLess a c = true
  | [], _, [], h1, h2 => by
    rename_i b
    cases b <;> simp [Op.bytesLess] at h1 h2
  | [], _, _ :: _, _, _ => rfl
  | _ :: _, [], _, h, _ => by simp [Op.bytesLess] at h
  | _ :: _, _ :: _, [], _, h => by simp [Op.bytesLess] at h
  | x :: a, y :: b, z :: c, h1, h2 => by
    have h1 : (decide (x < y) || (x == y && Op.bytesLess a b)) = true := h1
    have h2 : (decide (y < z) || (y == z && Op.bytesLess b c)) = true := h2
    show (decide (x < z) || (x == z && Op.bytesLess a c)) = true
    simp only [Bool.or_eq_true, decide_eq_true_eq, Bool.and_eq_true, beq_iff_eq] at h1 h2 ⊢
    rcases h1 with g1 | ⟨rfl, g1⟩
    · rcases h2 with g2 | ⟨rfl, g2⟩
      · exact .inl (UInt8.lt_trans g1 g2)
      · exact .inl g1
    · rcases h2 with g2 | ⟨rfl, g2⟩
      · exact .inl g2
      · exact .inr ⟨rfl, lb_trans a b c g1 g2⟩
theorem cmp_cons (x y : UInt8) (a b : List UInt8) : Lib.compareBytes (x :: a) (y :: b) = if x < y then -1 else if y < x then 1 else Lib.compareBytes a b := rfl
theorem cmp_neg : ∀ (a b : List UInt8), decide (Lib.compareBytes a b < 0) = Op.bytesLess a b
  | [], [] => rfl
  | [], _ :: _ => rfl
  | _ :: _, [] => rfl
  | x :: a, y :: b => by
    show _ = (decide (x < y) || (x == y && Op.bytesLess a b))
    rw [← cmp_neg a b]
    rw [cmp_cons]
    by_cases h1 : x < y
    · simp [h1]
    · by_cases h2 : y < x
      · have h3 : ¬ x = y := fun e => by subst e; exact h1 h2
        simp [h1, h2, h3]
      · have h3 : x = y := by
          apply UInt8.toNat_inj.1
          rw [UInt8.lt_iff_toNat_lt] at h1 h2
          omega
        subst h3
        simp [h1]
theorem cmp_zero : ∀ (a b : List UInt8), (Lib.compareBytes a b == 0) = (a == b)
  | [], [] => rfl
  | [], _ :: _ => rfl
  | _ :: _, [] => rfl
  | x :: a, y :: b => by
    have ih := cmp_zero a b
    rw [cmp_cons]
    by_cases h1 : x < y
    · have h3 : ¬ x = y := fun e => by subst e; exact UInt8.lt_irrefl _ h1
      simp [h1, h3]
    · by_cases h2 : y < x
      · have h3 : ¬ x = y := fun e => by subst e; exact h1 h2
        simp [h1, h2, h3]
      · have h3 : x = y := by
          apply UInt8.toNat_inj.1
          rw [UInt8.lt_iff_toNat_lt] at h1 h2
          omega
        subst h3
        simp [h1]
        simpa using ih

/-! The last key, and what may stand behind entries. -/
def lastS (es : List En) : ByteArray := (es.getD (es.length - 1) en0).key
theorem lastS_snoc (es : List En) (e : En) : lastS (es ++ [e]) = e.key := by
  unfold lastS
  rw [List.length_append, List.length_singleton, Nat.add_sub_cancel, List.getD, List.getElem?_append_right (Nat.le_refl _)]
  simp
theorem lastS_list (es : List En) : (lastS es).data.toList = lastKey [] es := by
  rcases List.eq_nil_or_concat es with rfl | ⟨l, e, rfl⟩
  · rfl
  · rw [List.concat_eq_append, lastS_snoc, lastKey_snoc]
def risesS (es : List En) (k : ByteArray) : Bool := decide (es.length = 0) || ltS (lastS es) k
theorem entOk_is {es : List En} {i : Nat} (hi : i < es.length) : entOk es i = (decide (0 < (es.getD i en0).ch.length) && rightB (es.getD i en0).ch && risesS (es.take i) (es.getD i en0).key) := by
  unfold entOk risesS
  congr 1
  have hl : (es.take i).length = i := by rw [List.length_take]; omega
  rw [hl]
  rcases Nat.eq_zero_or_pos i with rfl | h0
  · rfl
  · congr 1
    unfold ltS eqS
    rw [lb_not]
    unfold lastS
    have e : (es.take i).getD (i - 1) en0 = es.getD (i - 1) en0 := by simp only [List.getD, List.getElem?_take, if_pos (show i - 1 < i by omega)]
    rw [hl, e]
theorem getD_appL (a b : List En) {i : Nat} (h : i < a.length) : (a ++ b).getD i en0 = a.getD i en0 := by simp only [List.getD, List.getElem?_append_left h]
theorem rightE_snoc {es : List En} {e : En} : rightE (es ++ [e]) = true ↔ rightE es = true ∧ 0 < e.ch.length ∧ rightB e.ch = true ∧ risesS es e.key = true := by
  have hge : (es ++ [e]).getD es.length en0 = e := by rw [List.getD, List.getElem?_append_right (Nat.le_refl _)]; simp
  have hle : entOk (es ++ [e]) es.length = (decide (0 < e.ch.length) && rightB e.ch && risesS es e.key) := by
    rw [entOk_is (by simp), hge, List.take_left]
  have hj : ∀ j, j < es.length → entOk (es ++ [e]) j = entOk es j := fun j h => by
    rw [entOk_is (by simp; omega), entOk_is h, getD_appL _ _ h, List.take_append_of_le_length (Nat.le_of_lt h)]
  rw [rightE_true, rightE_true]
  constructor
  · intro h
    have h1 := h es.length (by simp)
    rw [hle] at h1
    simp only [Bool.and_eq_true, decide_eq_true_eq] at h1
    exact ⟨fun i hi => by rw [← hj i hi]; exact h i (by simp; omega), h1.1.1, h1.1.2, h1.2⟩
  · rintro ⟨h, h1, h2, h3⟩ i hi
    rw [List.length_append, List.length_singleton] at hi
    rcases Nat.lt_or_ge i es.length with h4 | h4
    · rw [hj i h4]; exact h i h4
    · have : i = es.length := by omega
      rw [this, hle, h2, h3]
      simp [h1]

/-! A text off the head. -/
def tkTxt (l : List UInt8) : Option (List UInt8 × List UInt8) :=
  match tk l with
  | none => none
  | some (n, k) => if n ≤ (l.drop k).length then some ((l.drop k).take n, (l.drop k).drop n) else none
theorem tkTxt_some {l t r : List UInt8} (h : tkTxt l = some (t, r)) : l = txtB t ++ r ∧ t.length + r.length < l.length := by
  unfold tkTxt at h
  split at h
  · cases h
  rename_i n k h1
  split at h
  case isFalse => cases h
  rename_i hn
  injection h with h
  injection h with h2 h3
  have e1 := ub_split h1
  have hk := (tk_some h1).2.2
  have hl : t.length = n := by rw [← h2, List.length_take]; omega
  constructor
  · unfold txtB
    rw [hl, ← h2, ← h3, List.append_assoc, List.take_append_drop]
    exact e1
  · rw [hl, ← h3, List.length_drop, List.length_drop]
    rw [List.length_drop] at hn
    omega
theorem tkTxt_txt {t r : List UInt8} (h : t.length < 18446744073709551616) : tkTxt (txtB t ++ r) = some (t, r) := by
  unfold tkTxt txtB
  rw [List.append_assoc, tk_ub _ h]
  simp only
  rw [drop_ub, if_pos (by simp), List.take_left, List.drop_left]
theorem cT_txt_none {l : List UInt8} (h : tkTxt l = none) : cText ⟨l.toArray⟩ false = (ByteArray.empty, ⟨l.toArray⟩, true) := by
  unfold tkTxt at h
  split at h
  · rename_i h1; exact cT_none h1
  · rename_i n k h1
    split at h
    · cases h
    · rename_i h2; exact cT_short h1 (by omega)
theorem cT_txt_some {l t r : List UInt8} (h : tkTxt l = some (t, r)) : cText ⟨l.toArray⟩ false = (⟨t.toArray⟩, ⟨r.toArray⟩, false) := by
  unfold tkTxt at h
  split at h
  · cases h
  · rename_i n k h1
    split at h
    · rename_i h2
      injection h with h
      injection h with h3 h4
      rw [cT_full h1 h2, h3, h4]
    · cases h

/-! A key off the head. -/
def keyIs (es : List En) (b : Nat) (o : List UInt8) : ByteArray := ⟨((lastS es).data.toList.take b ++ o).toArray⟩
def keyOk (es : List En) (b : Nat) (o : List UInt8) : Bool := decide (b ≤ (lastS es).size) && (risesS es (keyIs es b o) && decide (pre (lastS es).data.toList (keyIs es b o).data.toList = b))
def tkKey (es : List En) (l : List UInt8) : Option (ByteArray × List UInt8) :=
  match tk l with
  | none => none
  | some (b, k) => match tkTxt (l.drop k) with
    | none => none
    | some (o, r) => if keyOk es b o = true then some (keyIs es b o, r) else none
/-- A key's bytes, behind the last one. -/
def keyB (p : List UInt8) (k : ByteArray) : List UInt8 := ub (pre p k.data.toList) ++ txtB (k.data.toList.drop (pre p k.data.toList))
theorem entB_key (p : List UInt8) (e : En) : entB p e = keyB p e.key ++ txtB (chainB e.ch) := rfl
theorem tkKey_some {es : List En} {l r : List UInt8} {key : ByteArray} (h : tkKey es l = some (key, r)) : l = keyB (lastS es).data.toList key ++ r ∧ risesS es key = true ∧ key.size + r.length < (lastS es).size + l.length ∧ r.length < l.length := by
  unfold tkKey at h
  split at h
  · cases h
  rename_i b k h1
  split at h
  · cases h
  rename_i o r' h2
  split at h
  case isFalse => cases h
  rename_i hc
  injection h with h
  injection h with hk hr
  subst hr
  unfold keyOk at hc
  simp only [Bool.and_eq_true, decide_eq_true_eq] at hc
  obtain ⟨c1, c2, c3⟩ := hc
  have e1 := ub_split h1
  obtain ⟨e2, e3⟩ := tkTxt_some h2
  have hkk := (tk_some h1).2.2
  have hks : key.size = b + o.length := by
    rw [← hk]; unfold keyIs; rw [arr_size, List.length_append, List.length_take, c_size]; omega
  rw [List.length_drop] at e3
  rw [hk] at c2 c3
  refine ⟨?_, c2, by omega, by omega⟩
  unfold keyB
  rw [c3]
  have hd : key.data.toList.drop b = o := by
    rw [← hk]
    show ((lastS es).data.toList.take b ++ o).drop b = o
    have : ((lastS es).data.toList.take b).length = b := by rw [List.length_take, c_size]; omega
    rw [List.drop_left' this]
  rw [hd, List.append_assoc, ← e2]
  exact e1
theorem tkKey_key {es : List En} {r : List UInt8} {key : ByteArray} (h : risesS es key = true) (h1 : (lastS es).size < 4294967296) (h2 : key.size < 4294967296) : tkKey es (keyB (lastS es).data.toList key ++ r) = some (key, r) := by
  have hp := pre_le (lastS es).data.toList key.data.toList
  rw [c_size, c_size] at hp
  unfold tkKey keyB
  rw [List.append_assoc, tk_ub _ (by omega)]
  simp only
  rw [drop_ub, tkTxt_txt (by rw [List.length_drop, c_size]; omega)]
  simp only
  have hk : keyIs es (pre (lastS es).data.toList key.data.toList) (key.data.toList.drop (pre (lastS es).data.toList key.data.toList)) = key := by
    apply c_ba_ext
    show (lastS es).data.toList.take _ ++ key.data.toList.drop _ = _
    rw [pre_take, List.take_append_drop]
  rw [hk, if_pos]
  unfold keyOk
  rw [hk, h]
  simp only [Bool.true_and, Bool.and_eq_true, decide_eq_true_eq]
  exact ⟨hp.1, trivial⟩

/-! An entry off the head: with it, whether its chain's values are too long. -/
def tkEnt (es : List En) (l : List UInt8) : Option (En × Bool × List UInt8) :=
  match tkKey es l with
  | none => none
  | some (key, r) => match tkTxt r with
    | none => none
    | some (vs, r2) => match decB vs with
      | .form => none
      | .long => some (⟨key, []⟩, true, r2)
      | .all [] _ => none
      | .all (z :: zs) _ => some (⟨key, z :: zs⟩, false, r2)
theorem tkEnt_len {es : List En} {l r : List UInt8} {e : En} {lg : Bool} (h : tkEnt es l = some (e, lg, r)) : e.key.size + r.length < (lastS es).size + l.length ∧ r.length < l.length ∧ risesS es e.key = true := by
  unfold tkEnt at h
  split at h
  · cases h
  rename_i key r1 h1
  obtain ⟨_, k1, k2, k3⟩ := tkKey_some h1
  split at h
  · cases h
  rename_i vs r2 h2
  have h3 := (tkTxt_some h2).2
  split at h
  · cases h
  · cases h; exact ⟨by simp only; omega, by omega, k1⟩
  · cases h
  · cases h; exact ⟨by simp only; omega, by omega, k1⟩
theorem tkEnt_all {es : List En} {l r : List UInt8} {e : En} (h : tkEnt es l = some (e, false, r)) : l = entB (lastKey [] es) e ++ r ∧ risesS es e.key = true ∧ 0 < e.ch.length ∧ okV e.ch ∧ allN e.ch ≤ 60000 := by
  unfold tkEnt at h
  split at h
  · cases h
  rename_i key r1 h1
  obtain ⟨e1, k1, _, _⟩ := tkKey_some h1
  split at h
  · cases h
  rename_i vs r2 h2
  have e2 := (tkTxt_some h2).1
  split at h
  · cases h
  · cases h
  · cases h
  · rename_i z zs q h3
    obtain ⟨a1, a2, a3, _⟩ := decB_all h3
    cases h
    refine ⟨?_, k1, by simp, a2, a3⟩
    rw [entB_key, List.append_assoc, ← lastS_list, ← a1, ← e2]
    exact e1
theorem tkEnt_ent {es : List En} {e : En} {r : List UInt8} (h : risesS es e.key = true) (h0 : 0 < e.ch.length) (hk : okV e.ch) (ha : allN e.ch ≤ 60000) (h1 : (lastS es).size < 4294967296) (h2 : e.key.size < 4294967296) (h3 : (chainB e.ch).length < 4294967296) :
    tkEnt es (entB (lastKey [] es) e ++ r) = some (e, false, r) := by
  unfold tkEnt
  rw [entB_key, List.append_assoc, ← lastS_list, tkKey_key h h1 h2]
  simp only
  rw [tkTxt_txt (by omega)]
  simp only
  rw [decB_chain hk (fun v hv => Nat.le_trans (allN_mem _ _ hv) ha), if_pos ha]
  obtain ⟨key, ch⟩ := e
  cases ch with
  | nil => simp at h0
  | cons z zs => rfl

/-! Entries off the head, and an inside. -/
def entR : Nat → List En → Bool → List UInt8 → Option (List En × Bool × List UInt8)
  | 0, es, lg, l => some (es, lg, l)
  | n + 1, es, lg, l => match tkEnt es l with
    | none => none
    | some (e, lg', r) => entR n (es ++ [e]) (lg || lg') r
inductive InsO where
  | form : InsO
  | long : InsO
  | all : List En → InsO
def finE : Option (List En × Bool × List UInt8) → InsO
  | none => .form
  | some (es, lg, []) => if lg then .long else .all es
  | some (_, _, _ :: _) => .form
def insD (l : List UInt8) : InsO :=
  match tk l with
  | none => .form
  | some (n, k) => finE (entR n [] false (l.drop k))
theorem lastS_key (es : List En) (e : En) : lastKey [] (es ++ [e]) = e.key.data.toList := lastKey_snoc _ _ _
theorem entR_ents : ∀ (l es : List En) (r : List UInt8), rightE (es ++ l) = true → OkE l → (lastS es).size < 4294967296 → (∀ e ∈ l, e.key.size < 4294967296 ∧ (chainB e.ch).length < 4294967296) →
    entR l.length es false (entsB (lastKey [] es) l ++ r) = some (es ++ l, false, r)
  | [], es, r, _, _, _, _ => by simp [entR, entsB]
  | e :: l, es, r, hr, ho, hs, hm => by
    have hr2 : rightE (es ++ [e]) = true := by
      rw [show es ++ e :: l = (es ++ [e]) ++ l by simp] at hr
      refine rightE_true.2 fun i hi => ?_
      have := rightE_true.1 hr i (by rw [List.length_append]; omega)
      rw [entOk_is (by rw [List.length_append]; omega), getD_appL _ _ hi, List.take_append_of_le_length (Nat.le_of_lt hi)] at this
      rw [entOk_is hi]
      exact this
    obtain ⟨_, g1, g2, g3⟩ := rightE_snoc.1 hr2
    have hm1 := hm e (by simp)
    have ho1 := ho e (by simp)
    rw [entsB, List.append_assoc, List.length_cons, entR, tkEnt_ent g3 g1 ⟨g2, ho1.2⟩ ho1.1 hs hm1.1 hm1.2]
    simp only [Bool.or_self]
    have ih := entR_ents l (es ++ [e]) r (by simpa using hr) (fun x hx => ho x (by simp [hx])) (by rw [lastS_snoc]; exact hm1.1) (fun x hx => hm x (by simp [hx]))
    rw [lastS_key] at ih
    rw [ih]
    simp
theorem entR_all : ∀ (n : Nat) (es : List En) (lg : Bool) (l : List UInt8) (zs : List En) (r : List UInt8), entR n es lg l = some (zs, false, r) →
    lg = false ∧ ∃ new, zs = es ++ new ∧ l = entsB (lastKey [] es) new ++ r ∧ new.length = n ∧ (rightE es = true → rightE zs = true) ∧ OkE new
  | 0, es, lg, l, zs, r, h => by
    rw [entR] at h
    injection h with h
    injection h with h1 h2
    injection h2 with h2 h3
    subst h1 h2 h3
    exact ⟨rfl, [], by simp, by simp [entsB], rfl, fun h => h, fun e he => by cases he⟩
  | n + 1, es, lg, l, zs, r, h => by
    rw [entR] at h
    split at h
    · cases h
    rename_i e lg' q h1
    obtain ⟨k1, new, k2, k3, k4, k5, k6⟩ := entR_all n (es ++ [e]) (lg || lg') q zs r h
    rw [Bool.or_eq_false_iff] at k1
    obtain ⟨rfl, rfl⟩ := k1
    obtain ⟨g1, g2, g3, g4, g5⟩ := tkEnt_all h1
    refine ⟨rfl, e :: new, by rw [k2]; simp, ?_, by simp [k4], fun hr => k5 (rightE_snoc.2 ⟨hr, g3, g4.1, g2⟩), ?_⟩
    · rw [entsB, List.append_assoc]
      rw [lastS_key] at k3
      rw [← k3]
      exact g1
    · intro x hx
      rcases List.mem_cons.1 hx with rfl | hx
      · exact ⟨g5, g4.2⟩
      · exact k6 x hx
theorem insD_all {l : List UInt8} {es : List En} (h : insD l = .all es) : rightE es = true ∧ OkE es ∧ insideB es = l := by
  unfold insD at h
  split at h
  · cases h
  rename_i n k h1
  cases h2 : entR n [] false (l.drop k) with
  | none => rw [h2] at h; cases h
  | some p =>
    obtain ⟨zs, lg, r⟩ := p
    rw [h2] at h
    cases r with
    | cons x r => cases h
    | nil =>
      cases lg with
      | true => cases h
      | false =>
        injection h with h
        subst h
        obtain ⟨_, new, k1, k2, k3, k4, k5⟩ := entR_all _ _ _ _ _ _ h2
        rw [List.nil_append] at k1
        subst k1
        refine ⟨k4 rfl, k5, ?_⟩
        unfold insideB
        rw [k3]
        rw [List.append_nil] at k2
        rw [show entsB [] zs = l.drop k from k2.symm]
        exact (ub_split h1).symm
theorem insD_ins {es : List En} (hr : rightE es = true) (ho : OkE es) (hl : (insideB es).length ≤ 60000) : insD (insideB es) = .all es := by
  have hs := inside_small hl (Nat.le_refl _) ho
  have hm : ∀ e ∈ es, e.key.size < 4294967296 ∧ (chainB e.ch).length < 4294967296 := fun e he => by
    have := hs.2 e he
    exact ⟨by omega, by omega⟩
  have h1 := entR_ents es [] [] hr ho (by decide) hm
  rw [List.append_nil, List.nil_append] at h1
  unfold insD
  have hi : insideB es = ub es.length ++ entsB [] es := rfl
  rw [hi, tk_ub _ (by omega)]
  simp only
  rw [drop_ub]
  rw [show entsB (lastKey [] []) es = entsB [] es from rfl] at h1
  rw [h1]
  rfl

/-! How long what is unpacked may be. -/
theorem uRun_size : ∀ (f n t : Nat) (out rest o : List UInt8), out.length ≤ n → uRun f n t out rest = some o → o.length ≤ n
  | 0, n, t, out, rest, o, _, h => by simp [uRun] at h
  | f + 1, n, t, out, rest, o, hn, h => by
    by_cases hc : t = 0 ∨ out.length < n
    · rw [uRun_go hc] at h
      split at h
      · cases h
      · rename_i o' r' hs
        exact uRun_size f n (t + 1) o' r' o (uStep_less hs hn).2 h
    · rw [uRun_end hc] at h
      split at h
      · cases h; exact hn
      · cases h
theorem unp_size {s l : List UInt8} {k : Int} (h : unp s = (l, k)) : l.length ≤ 60000 := by
  unfold unp at h
  split at h
  · cases h; simp
  rename_i n m h1
  split at h
  · cases h; simp
  rename_i h2
  split at h
  · cases h; simp
  · split at h
    · rename_i h3
      cases h
      omega
    · rename_i how rest hd h3
      by_cases h5 : how = 1
      · rw [if_neg (not_not_intro h5)] at h
        cases h4 : uRun (rest.length + 1) n 0 [] rest with
        | none => rw [h4] at h; cases h; simp
        | some o =>
          rw [h4] at h
          cases h
          have := uRun_size _ _ _ _ _ _ (by simp) h4
          omega
      · rw [if_pos h5] at h
        cases h; simp
end Go.Proofs.Ythcomfcbdlobpaa
