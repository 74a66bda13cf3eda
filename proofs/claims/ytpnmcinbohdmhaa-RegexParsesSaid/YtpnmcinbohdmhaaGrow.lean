/-
  A region that draws its order, whose operations make memory: one plain condition for each operation serves every order. Conditions: every operation but the last has a successor, no two operations write one slot, what an operation looks at is written before it or after it by the region's own edges.
-/
import Derived.Below
import Derived.Orders
import Derived.Maps.AppendAt
namespace Go.Proofs.Ytpnmcinbohdmhaa.Kit
open Go Go.RowKit
/-- How memory may turn: one step behind another is such a step. -/
structure Pre (G : World → World → Prop) : Prop where
  refl : ∀ w, G w w
  trans : ∀ {a b c}, G a b → G b c → G a c

/-- What an operation hands on. -/
def Ups (P : Program) (R : Value → World → Prop) : Result Next → Prop
  | .ok (.value v) w' => R v w'
  | .ok .skip w' => R undef w'
  | .ok (.enter f args) w' => Calls P f args w' fun e w'' => ∃ v, e = .returned v ∧ R v w''
  | _ => False

theorem wp_of_ups {P : Program} {o : Oper} {a : Act} {w : World} {K : Act → World → Prop} {Q : Exit → Act → World → Prop} {R : Value → World → Prop}
    (h : Ups P R ((execOp a.eval o).run P w)) (hK : ∀ v w', R v w' → K (a.put o.dst v) w') : o.wp P a w K Q := by
  unfold Oper.wp
  generalize (execOp a.eval o).run P w = r at *
  cases r with
  | ok n w' =>
    cases n <;> simp only [Ups] at h <;> simp only [Oper.upon]
    case value u => exact hK _ _ h
    case skip => exact hK _ _ h
    case enter f args => exact h.mono fun e w'' ⟨v, he, hw''⟩ => by subst he; exact hK _ _ hw''
  | halt x w' => simp only [Ups] at h

/-- The operation j is bound to come before i. -/
def bef (ops : Array Oper) (i j : Nat) : Bool := (ops[i]?).any fun o => o.after.toList.any fun e => Region.binds .any e && e.on == j

def wantR (ops : Array Oper) (ρ : Operand → Value) (o : Oper) : Bool :=
  match o.guard with
  | none => true
  | some (g, want) => (match (ops[g]?).bind (·.dst) with
    | some t => (match ρ (.tmp t) with | .bool b => some b | _ => none)
    | none => none) == some want

theorem wantR_eq (ops : Array Oper) (a : Act) (o : Oper) : Region.wanted o (yielded ops a.tmps) = wantR ops a.eval o := by
  unfold Region.wanted wantR
  cases o.guard with
  | none => rfl
  | some gw =>
    obtain ⟨g, want⟩ := gw
    simp only [yielded]
    congr 1
    cases h : (ops[g]?).bind (·.dst) with
    | none => rfl
    | some t =>
      simp only [Option.bind_some, Act.eval, Array.getD]
      rcases Nat.lt_or_ge t a.tmps.size with hlt | hge
      · simp [hlt]
        cases a.tmps[t] <;> rfl
      · simp [Nat.not_lt.2 hge, undef]

def okB (ops : Array Oper) (sz : Nat) : Bool :=
  Region.noSelect ops &&
  (List.range ops.size).all fun i => match ops[i]? with
    | none => true
    | some o =>
      (o.after.all (fun e => decide (e.on < i)) &&
      (match o.dst with | some d => decide (d < sz) | none => true)) &&
      (List.range ops.size).all fun j => match ops[j]? with
        | none => true
        | some oj =>
          (i == j || match o.dst, oj.dst with | some d, some d' => d != d' | _, _ => true) &&
          (match oj.dst with | some d => !(o.looksAt ops).contains d || (bef ops i j || bef ops j i) | none => true)

def lastB (ops : Array Oper) : Bool :=
  (List.range (ops.size - 1)).all fun j => (List.range ops.size).any fun i => bef ops i j

def srcOf (ops : Array Oper) (i : Nat) (t : Tmp) : Option Nat :=
  (List.range ops.size).find? fun j => bef ops i j && (ops[j]?).any fun o => o.dst == some t

def Fact (ops : Array Oper) (V : Nat → Value → World → Prop) (a0 : Act) (i : Nat) (t : Tmp) (v : Value) (w : World) : Prop :=
  match srcOf ops i t with
  | some j => V j v w
  | none => v = a0.eval (.tmp t)

/-- What is asked of operation i: 'End' is what it owes. -/
def Step (P : Program) (ops : Array Oper) (V : Nat → Value → World → Prop) (a0 : Act) (W0 : World) (G : World → World → Prop) (End : Value → World → World → Prop) (i : Nat) (o : Oper) : Prop :=
  ∀ (ρ : Operand → Value) (w : World), G W0 w → (∀ t ∈ o.looksAt ops, Fact ops V a0 i t (ρ (.tmp t)) w) → (∀ x, (∀ t, x ≠ .tmp t) → ρ x = a0.eval x) →
    if wantR ops ρ o then Ups P (fun v w' => End v w w') ((execOp ρ o).run P w) else End undef w w

def StepsL (P : Program) (ops : Array Oper) (V : Nat → Value → World → Prop) (a0 : Act) (W0 : World) (G : World → World → Prop) (Last : Value → World → Prop) : Nat → List Oper → Prop
  | _, [] => True
  | k, [o] => Step P ops V a0 W0 G (fun v _ w' => Last v w') k o
  | k, o :: o' :: r => Step P ops V a0 W0 G (fun v w w' => V k v w' ∧ G w w') k o ∧ StepsL P ops V a0 W0 G Last (k + 1) (o' :: r)

section
variable {P : Program} {ops : Array Oper} {V : Nat → Value → World → Prop} {a0 : Act} {W0 : World} {G : World → World → Prop} {Last : Value → World → Prop}

theorem StepsL.mid : ∀ (l : List Oper) (k j : Nat) (o : Oper), StepsL P ops V a0 W0 G Last k l → l[j]? = some o → j + 1 < l.length → Step P ops V a0 W0 G (fun v w w' => V (k + j) v w' ∧ G w w') (k + j) o
  | [], _, _, _, _, h, _ => by simp at h
  | [_], _, _, _, _, _, h => by simp at h
  | o :: o' :: r, k, 0, o1, hs, h, _ => by
    simp only [List.getElem?_cons_zero, Option.some.injEq] at h
    subst h
    exact hs.1
  | o :: o' :: r, k, j + 1, o1, hs, h, hl => by
    have := StepsL.mid (o' :: r) (k + 1) j o1 hs.2 (by simpa using h) (by simpa using hl)
    rw [show k + 1 + j = k + (j + 1) from by omega] at this
    exact this

theorem StepsL.last : ∀ (l : List Oper) (k j : Nat) (o : Oper), StepsL P ops V a0 W0 G Last k l → l[j]? = some o → j + 1 = l.length → Step P ops V a0 W0 G (fun v _ w' => Last v w') (k + j) o
  | [], _, _, _, _, h, _ => by simp at h
  | [o], k, 0, o1, hs, h, _ => by
    simp only [List.getElem?_cons_zero, Option.some.injEq] at h
    subst h
    exact hs
  | [_], _, j + 1, _, _, h, _ => by simp at h
  | o :: o' :: r, k, 0, o1, hs, h, hl => by simp at hl
  | o :: o' :: r, k, j + 1, o1, hs, h, hl => by
    have := StepsL.last (o' :: r) (k + 1) j o1 hs.2 (by simpa using h) (by simpa using hl)
    rw [show k + 1 + j = k + (j + 1) from by omega] at this
    exact this

/-- What holds on the way. -/
structure Way (ops : Array Oper) (V : Nat → Value → World → Prop) (a0 : Act) (W0 : World) (G : World → World → Prop) (listed : Array Bool) (a : Act) (w : World) : Prop where
  size : listed.size = ops.size
  tsize : a.tmps.size = a0.tmps.size
  defers : a.defers = a0.defers
  grown : G W0 w
  shut : ∀ (i j : Nat), listed[i]? = some true → bef ops i j = true → listed[j]? = some true
  vals : ∀ (j : Nat) (o : Oper) (d : Tmp), ops[j]? = some o → o.dst = some d → listed[j]? = some true → V j (a.eval (.tmp d)) w
  rest : ∀ (t : Tmp), (∀ (j : Nat) (o : Oper), ops[j]? = some o → o.dst = some t → listed[j]? ≠ some true) → a.eval (.tmp t) = a0.eval (.tmp t)

theorem eval_put_same {a : Act} {d : Tmp} {v : Value} (h : d < a.tmps.size) : (a.put (some d) v).eval (.tmp d) = v := by
  simp [Act.put, Act.eval, Array.getD, h]

theorem listed_set {listed : Array Bool} {i j : Nat} (h : (listed.setIfInBounds i true)[j]? = some true) : j = i ∨ listed[j]? = some true := by
  by_cases e : i = j
  · exact .inl e.symm
  · rw [Array.getElem?_setIfInBounds_ne e] at h; exact .inr h

theorem srcOf_some {i : Nat} {t : Tmp} {j : Nat} (h : srcOf ops i t = some j) : bef ops i j = true ∧ ∃ o, ops[j]? = some o ∧ o.dst = some t := by
  have := List.find?_some h
  simp only [Bool.and_eq_true, Option.any_eq_true] at this
  obtain ⟨h1, o, h2, h3⟩ := this
  exact ⟨h1, o, h2, by simpa using h3⟩

theorem srcOf_none {i : Nat} {t : Tmp} (h : srcOf ops i t = none) (j : Nat) (o : Oper) (hj : ops[j]? = some o) (hd : o.dst = some t) : bef ops i j = false := by
  unfold srcOf at h
  rw [List.find?_eq_none] at h
  have := h j (List.mem_range.2 (Array.getElem?_eq_some_iff.1 hj).1)
  simp only [Bool.and_eq_true, not_and, Option.any_eq_true, not_exists] at this
  by_cases hb : bef ops i j = true
  · exact absurd (by simpa using hd) (this hb o hj)
  · simpa using hb

structure Ok (ops : Array Oper) (sz : Nat) : Prop where
  sel : Region.noSelect ops = true
  lt : ∀ (i : Nat) (o : Oper), ops[i]? = some o → ∀ e ∈ o.after, e.on < i
  dst : ∀ (i : Nat) (o : Oper) (d : Tmp), ops[i]? = some o → o.dst = some d → d < sz
  one : ∀ (i j : Nat) (o oj : Oper) (d : Tmp), ops[i]? = some o → ops[j]? = some oj → o.dst = some d → oj.dst = some d → i = j
  looks : ∀ (i j : Nat) (o oj : Oper) (d : Tmp), ops[i]? = some o → ops[j]? = some oj → oj.dst = some d → d ∈ o.looksAt ops → bef ops i j = true ∨ bef ops j i = true

theorem ok_of {sz : Nat} (h : okB ops sz = true) : Ok ops sz := by
  simp only [okB, Bool.and_eq_true, List.all_eq_true, List.mem_range] at h
  obtain ⟨hsel, h⟩ := h
  have key : ∀ (i : Nat) (o : Oper), ops[i]? = some o → i < ops.size := fun i o hi => (Array.getElem?_eq_some_iff.1 hi).1
  refine ⟨hsel, fun i o hi e he => ?_, fun i o d hi hd => ?_, fun i j o oj d hi hj hd hd' => ?_, fun i j o oj d hi hj hd hl => ?_⟩
  · have := h i (key i o hi)
    simp only [hi, Bool.and_eq_true, List.all_eq_true] at this
    have h1 := this.1.1
    rw [Array.all_eq_true_iff_forall_mem] at h1
    simpa using h1 e he
  · have := h i (key i o hi)
    simp only [hi, Bool.and_eq_true] at this
    have h1 := this.1.2
    rw [hd] at h1
    simpa using h1
  · have := h i (key i o hi)
    simp only [hi, Bool.and_eq_true, List.all_eq_true, List.mem_range] at this
    have h1 := this.2 j (key j oj hj)
    simp only [hj, hd, hd', Bool.and_eq_true, Bool.or_eq_true, bne_self_eq_false, Bool.false_eq_true, or_false, beq_iff_eq] at h1
    exact h1.1
  · have := h i (key i o hi)
    simp only [hi, Bool.and_eq_true, List.all_eq_true, List.mem_range] at this
    have h1 := this.2 j (key j oj hj)
    simp only [hj, hd, Bool.and_eq_true, Bool.or_eq_true] at h1
    rcases h1.2 with h2 | h2
    · simp [hl] at h2
    · exact h2

theorem bef_lt {sz : Nat} (hok : Ok ops sz) {i j : Nat} (h : bef ops i j = true) : j < i := by
  simp only [bef, Option.any_eq_true, List.any_eq_true, Bool.and_eq_true, beq_iff_eq] at h
  obtain ⟨o, ho, e, he, _, rfl⟩ := h
  exact hok.lt i o ho e (Array.mem_toList_iff.1 he)

theorem ready_bef {listed : Array Bool} {i j : Nat} (h : i ∈ Region.ready .any ops listed) (hb : bef ops i j = true) : listed[j]? = some true := by
  obtain ⟨_, o, ho, hall⟩ := mem_ready.1 h
  simp only [bef, ho, Option.any_some, List.any_eq_true, Bool.and_eq_true, beq_iff_eq] at hb
  obtain ⟨e, he, hbd, rfl⟩ := hb
  have := hall e (Array.mem_toList_iff.1 he) hbd
  rw [Array.getD_eq_getD_getElem?] at this
  cases hj : listed[e.on]? <;> simp_all

theorem ready_not {listed : Array Bool} {i : Nat} (h : i ∈ Region.ready .any ops listed) : listed[i]? ≠ some true := by
  have := (mem_ready.1 h).1
  rw [Array.getD_eq_getD_getElem?] at this
  intro e
  simp [e] at this

theorem Way.facts {sz : Nat} (hok : Ok ops sz) {listed : Array Bool} {a : Act} {w : World} {i : Nat} {o : Oper} (hw : Way ops V a0 W0 G listed a w) (hi : ops[i]? = some o) (hr : i ∈ Region.ready .any ops listed) :
    ∀ t ∈ o.looksAt ops, Fact ops V a0 i t (a.eval (.tmp t)) w := by
  intro t ht
  unfold Fact
  cases hs : srcOf ops i t with
  | some j =>
    obtain ⟨hb, oj, hoj, hd⟩ := srcOf_some hs
    exact hw.vals j oj t hoj hd (ready_bef hr hb)
  | none =>
    refine hw.rest t fun j oj hoj hd hl => ?_
    rcases hok.looks i j o oj t hi hoj hd ht with hb | hb
    · rw [srcOf_none hs j oj hoj hd] at hb; cases hb
    · exact ready_not hr (hw.shut j i hl hb)

theorem eval_other (a : Act) (x : Operand) (h : ∀ t, x ≠ .tmp t) : a.eval x = a0.eval x := by
  cases x <;> first | rfl | exact absurd rfl (h _)

theorem Way.next {sz : Nat} (hG : Pre G) (hok : Ok ops sz) (hsz : a0.tmps.size = sz) (hst : ∀ j u w w', G w w' → V j u w → V j u w') {listed : Array Bool} {a : Act} {w w' : World} {i : Nat} {o : Oper} {v : Value} (hw : Way ops V a0 W0 G listed a w)
    (hi : ops[i]? = some o) (hr : i ∈ Region.ready .any ops listed) (hv : V i v w') (hg : G w w') : Way ops V a0 W0 G (listed.setIfInBounds i true) (a.put o.dst v) w' := by
  have hil : i < listed.size := by rw [hw.size]; exact (Array.getElem?_eq_some_iff.1 hi).1
  refine ⟨by simp [hw.size], ?_, ?_, hG.trans hw.grown hg, fun x y hx hb => ?_, fun j oj d hj hd hl => ?_, fun t ht => ?_⟩
  · cases o.dst <;> simp [Act.put, hw.tsize]
  · cases o.dst <;> simp [Act.put, hw.defers]
  · have keep : listed[y]? = some true → (listed.setIfInBounds i true)[y]? = some true := fun h => by
      by_cases e : i = y
      · subst e; simp [hil]
      · rw [Array.getElem?_setIfInBounds_ne e]; exact h
    rcases listed_set hx with rfl | hx
    · exact keep (ready_bef hr hb)
    · exact keep (hw.shut x y hx hb)
  · by_cases e : j = i
    · subst e
      rw [hi] at hj
      cases hj
      rw [hd, eval_put_same (by rw [hw.tsize, hsz]; exact hok.dst j o d hi hd)]
      exact hv
    · have hlj : listed[j]? = some true := (listed_set hl).resolve_left e
      have hne : ∀ d', o.dst = some d' → (Operand.tmp d) ≠ .tmp d' := fun d' hd' he => by
        injection he with he
        subst he
        exact e (hok.one j i oj o d hj hi hd hd')
      rw [Act.eval_put hne]
      exact hst _ _ _ _ hg (hw.vals j oj d hj hd hlj)
  · have hne : ∀ d', o.dst = some d' → (Operand.tmp t) ≠ .tmp d' := fun d' hd' he => by
      injection he with he
      subst he
      exact ht i o hi hd' (by simp [hil])
    rw [Act.eval_put hne]
    refine hw.rest t fun j oj hj hd hl => ht j oj hj hd ?_
    by_cases e : i = j
    · subst e; simp [hil]
    · rw [Array.getElem?_setIfInBounds_ne e]; exact hl

/-- What the region leaves: the frame before the last operation. -/
structure Left (ops : Array Oper) (a0 a : Act) : Prop where
  tsize : a.tmps.size = a0.tmps.size
  defers : a.defers = a0.defers
  rest : ∀ t, (∀ o ∈ ops.toList, o.dst ≠ some t) → a.eval (.tmp t) = a0.eval (.tmp t)

theorem wpAny_grow {Q : Exit → Act → World → Prop} {sz : Nat} (hG : Pre G) (hok : Ok ops sz) (hsz : a0.tmps.size = sz) (hL : lastB ops = true) (hpos : 0 < ops.size) (hst : ∀ j u w w', G w w' → V j u w → V j u w')
    (hs : StepsL P ops V a0 W0 G Last 0 ops.toList) (hQ : ∀ a o v w', Left ops a0 a → ops[ops.size - 1]? = some o → Last v w' → Q .normal (a.put o.dst v) w') :
    ∀ (fuel : Nat) (listed : Array Bool) (a : Act) (w : World), Way ops V a0 W0 G listed a w → (listed[ops.size - 1]? ≠ some true) → ops.size ≤ fuel + listed.count true → wpAny P .any ops Q fuel listed a w := by
  have hready : ∀ (listed : Array Bool) a w, Way ops V a0 W0 G listed a w → listed[ops.size - 1]? ≠ some true → Region.ready .any ops listed ≠ [] := by
    intro listed a w hw hnl he
    -- the least operation that has not come up
    have : ∀ n i, i < n → i < ops.size → listed[i]? = some true := by
      intro n
      induction n with
      | zero => intro i h; omega
      | succ n ih =>
        intro i hin hi
        by_cases hlt : i < n
        · exact ih i hlt hi
        · obtain rfl : i = n := by omega
          cases hli : listed[i]? with
          | none => have := Array.getElem?_eq_none_iff.1 hli; rw [hw.size] at this; omega
          | some b =>
            cases b with
            | true => rfl
            | false =>
              have hm : i ∈ Region.ready .any ops listed := mem_ready.2 ⟨by rw [Array.getD_eq_getD_getElem?, hli]; rfl, ops[i], Array.getElem?_eq_getElem hi, fun e he hb => by
                have h1 := hok.lt i ops[i] (Array.getElem?_eq_getElem hi) e he
                rw [Array.getD_eq_getD_getElem?, ih e.on h1 (by omega)]
                rfl⟩
              rw [he] at hm
              cases hm
    exact hnl (this ops.size _ (by omega) (by omega))
  intro fuel
  induction fuel with
  | zero =>
    intro listed a w hw hnl hf
    exfalso
    have hle : listed.count true ≤ listed.size := Array.count_le_size
    have heq : listed.count true = listed.size := by rw [hw.size] at hle ⊢; omega
    rw [Array.count_eq_size] at heq
    have hlt : ops.size - 1 < listed.size := by rw [hw.size]; omega
    exact hnl (by rw [Array.getElem?_eq_getElem hlt]; exact congrArg some (heq _ (Array.getElem_mem hlt)).symm)
  | succ fuel ih =>
    intro listed a w hw hnl hf
    refine ⟨fun h => absurd h (hready listed a w hw hnl), fun i hi => ?_⟩
    obtain ⟨_, o, ho, _⟩ := mem_ready.1 hi
    have hio : i < ops.size := (Array.getElem?_eq_some_iff.1 ho).1
    have hfacts := hw.facts hok ho hi
    have hl : ops.toList[i]? = some o := by simpa using ho
    unfold wpOp
    simp only [ho, wantR_eq]
    by_cases hlast : i = ops.size - 1
    · -- the last one: all others have come up
      have hstep := StepsL.last ops.toList 0 i o hs hl (by simp; omega)
      rw [Nat.zero_add] at hstep
      have hst' := hstep a.eval w hw.grown hfacts (fun x hx => eval_other a x hx)
      have hall : ∀ n i', ops.size - 1 - i' < n → i' + 1 < ops.size → listed[i']? = some true := by
        intro n
        induction n with
        | zero => intro i' h; omega
        | succ n ihn =>
          intro i' hin hi'
          simp only [lastB, List.all_eq_true, List.mem_range, List.any_eq_true] at hL
          obtain ⟨k, hk, hbk⟩ := hL i' (by omega)
          have hlt := bef_lt hok hbk
          by_cases hkl : k = ops.size - 1
          · subst hkl; rw [← hlast] at hbk; exact ready_bef hi hbk
          · exact hw.shut k i' (ihn k (by omega) (by omega)) hbk
      have hcount : ops.size ≤ fuel + (listed.setIfInBounds i true).count true := by
        have : (listed.setIfInBounds i true).count true = (listed.setIfInBounds i true).size := by
          rw [Array.count_eq_size]
          intro b hb
          obtain ⟨k, hk, rfl⟩ := Array.mem_iff_getElem.1 hb
          simp only [Array.size_setIfInBounds] at hk
          rw [Array.getElem_setIfInBounds]
          split
          · rfl
          · have hk' : k < ops.size := by rw [← hw.size]; exact hk
            have := hall (ops.size) k (by omega) (by omega)
            rw [Array.getElem?_eq_getElem hk] at this
            injection this with this
            exact this.symm
        rw [this]
        simp [hw.size]
      have hdone : Region.ready .any ops (listed.setIfInBounds i true) = [] := by
        rw [List.eq_nil_iff_forall_not_mem]
        intro k hk
        obtain ⟨h1, o', ho', _⟩ := mem_ready.1 hk
        have hko : k < ops.size := (Array.getElem?_eq_some_iff.1 ho').1
        refine ready_not hk ?_
        by_cases e : i = k
        · subst e; simp [hw.size, hio]
        · rw [Array.getElem?_setIfInBounds_ne e]; exact hall ops.size k (by omega) (by omega)
      have hLeft : Left ops a0 a := ⟨hw.tsize, hw.defers, fun t ht => hw.rest t fun j oj hj hd _ => ht oj (by simpa using Array.mem_of_getElem? hj) hd⟩
      have fin : ∀ v w', Last v w' → wpAny P .any ops Q fuel (listed.setIfInBounds i true) (a.put o.dst v) w' := fun v w' hlv => by
        have hq := hQ a o v w' hLeft (by rw [← hlast]; exact ho) hlv
        cases fuel with
        | zero => exact ⟨hdone, hq⟩
        | succ f => exact ⟨fun _ => hq, fun k hk => by rw [hdone] at hk; cases hk⟩
      split
      · rename_i hwant
        simp only [hwant, if_true] at hst'
        exact .inl (wp_of_ups hst' fin)
      · rename_i hwant
        simp only [hwant] at hst'
        exact fin _ _ hst'
    · have hstep := StepsL.mid ops.toList 0 i o hs hl (by simp; omega)
      rw [Nat.zero_add] at hstep
      have hst' := hstep a.eval w hw.grown hfacts (fun x hx => eval_other a x hx)
      have hcount : ops.size ≤ fuel + (listed.setIfInBounds i true).count true := by
        have hil : i < listed.size := by rw [hw.size]; exact hio
        have hf' : listed[i] = false := by
          have := ready_not hi
          rw [Array.getElem?_eq_getElem hil] at this
          simpa using this
        have : (listed.setIfInBounds i true).count true = listed.count true + 1 := by
          rw [Array.setIfInBounds, dif_pos hil, Array.count_set]
          simp [hf']
        omega
      have fin : ∀ v w', V i v w' ∧ G w w' → wpAny P .any ops Q fuel (listed.setIfInBounds i true) (a.put o.dst v) w' := fun v w' hlv =>
        ih _ _ _ (hw.next hG hok hsz hst ho hi hlv.1 hlv.2) (fun h => by
          rcases listed_set h with h | h
          · exact hlast h.symm
          · exact hnl h) hcount
      split
      · rename_i hwant
        simp only [hwant, if_true] at hst'
        exact .inl (wp_of_ups hst' fin)
      · rename_i hwant
        simp only [hwant] at hst'
        exact fin _ _ hst'

theorem wp_region_grow {id : Nat} {l : List Oper} {Q : Exit → Act → World → Prop} {w : World} (G : World → World → Prop) (hG : Pre G) (V : Nat → Value → World → Prop) (Last : Value → World → Prop) (hm : P.follows .mixedOrders = true) (sz : Nat) (hsz : a0.tmps.size = sz) (hB : okB l.toArray sz = true) (hL : lastB l.toArray = true) (hpos : 0 < l.length)
    (hst : ∀ j u w w', G w w' → V j u w → V j u w') (hs : StepsL P l.toArray V a0 w.drew G Last 0 l)
    (hQ : ∀ a o v w', Left l.toArray a0 a → l[l.length - 1]? = some o → Last v w' → Q .normal (a.put o.dst v) w') : (Code.region id l.toArray true).wp P Q a0 w := by
  refine wp_region_any hm (wpAny_grow hG (ok_of hB) hsz hL (by simpa using hpos) hst (by simpa using hs) (fun a o v w' h1 h2 h3 => hQ a o v w' h1 (by simpa using h2) h3) _ _ _ _ ?_ ?_ ?_)
  · have hn : ∀ j : Nat, (Array.replicate l.toArray.size false)[j]? ≠ some true := fun j => by
      rw [Array.getElem?_replicate]; split <;> simp
    exact ⟨by simp, rfl, rfl, hG.refl _, fun i j h => absurd h (hn i), fun j o d _ _ h => absurd h (hn j), fun t _ => rfl⟩
  · rw [Array.getElem?_replicate]; split <;> simp
  · simp
end
/-- Where what each operation looks at comes from; which slot decides whether it runs. -/
def plan (ops : Array Oper) : List (List (Tmp × Option Nat) × Option (Tmp × Bool)) := (List.range ops.size).map fun i => match ops[i]? with
  | some o => ((o.looksAt ops).map fun t => (t, srcOf ops i t), o.guard.map fun gw => (((ops[gw.1]?).bind (·.dst)).getD 0, gw.2))
  | none => ([], none)

def Need (V : Nat → Value → World → Prop) (a0 : Act) (ρ : Operand → Value) (w : World) : List (Tmp × Option Nat) → Prop
  | [] => True
  | (t, some j) :: r => V j (ρ (.tmp t)) w ∧ Need V a0 ρ w r
  | (t, none) :: r => ρ (.tmp t) = a0.eval (.tmp t) ∧ Need V a0 ρ w r

def wantP (ρ : Operand → Value) : Option (Tmp × Bool) → Bool
  | none => true
  | some (t, want) => (match ρ (.tmp t) with | .bool b => some b | _ => none) == some want

/-- A step, by what the plan says. -/
def StepP (P : Program) (V : Nat → Value → World → Prop) (a0 : Act) (W0 : World) (G : World → World → Prop) (End : Value → World → World → Prop) (ns : List (Tmp × Option Nat) × Option (Tmp × Bool)) (o : Oper) : Prop :=
  ∀ (ρ : Operand → Value) (w : World), G W0 w → Need V a0 ρ w ns.1 → (∀ v, ρ (.const v) = v) → (∀ f, ρ (.func f) = .func (.func f) #[] #[]) → (∀ g, ρ (.global g) = .pointer (some ⟨g, 0, none⟩)) →
    if wantP ρ ns.2 then Ups P (fun v w' => End v w w') ((execOp ρ o).run P w) else End undef w w

def StepsP (P : Program) (V : Nat → Value → World → Prop) (a0 : Act) (W0 : World) (G : World → World → Prop) (Last : Value → World → Prop) : Nat → List Oper → List (List (Tmp × Option Nat) × Option (Tmp × Bool)) → Prop
  | _, [], _ => True
  | _, _ :: _, [] => False
  | _, [o], n :: _ => StepP P V a0 W0 G (fun v _ w' => Last v w') n o
  | k, o :: o' :: r, n :: ns => StepP P V a0 W0 G (fun v w w' => V k v w' ∧ G w w') n o ∧ StepsP P V a0 W0 G Last (k + 1) (o' :: r) ns

/-- Each guard's operation writes a slot. -/
def guardB (ops : Array Oper) : Bool := ops.toList.all fun o => match o.guard with
  | none => true
  | some gw => ((ops[gw.1]?).bind (·.dst)).isSome

section
variable {P : Program} {ops : Array Oper} {V : Nat → Value → World → Prop} {a0 : Act} {W0 : World} {G : World → World → Prop} {Last : Value → World → Prop}
theorem need_of {ρ : Operand → Value} {w : World} {i : Nat} : ∀ (l : List Tmp), (∀ t ∈ l, Fact ops V a0 i t (ρ (.tmp t)) w) → Need V a0 ρ w (l.map fun t => (t, srcOf ops i t))
  | [], _ => trivial
  | t :: l, h => by
    have h0 := h t (by simp)
    have hr := need_of l fun t ht => h t (by simp [ht])
    unfold Fact at h0
    simp only [List.map_cons]
    cases hs : srcOf ops i t with
    | none => rw [hs] at h0; exact ⟨h0, hr⟩
    | some j => rw [hs] at h0; exact ⟨h0, hr⟩

theorem want_eq (hg : guardB ops = true) {o : Oper} (ho : o ∈ ops.toList) (ρ : Operand → Value) : wantR ops ρ o = wantP ρ (o.guard.map fun gw => (((ops[gw.1]?).bind (·.dst)).getD 0, gw.2)) := by
  simp only [guardB, List.all_eq_true] at hg
  have := hg o ho
  unfold wantR wantP
  cases hgu : o.guard with
  | none => rfl
  | some gw =>
    obtain ⟨g, want⟩ := gw
    rw [hgu] at this
    simp only [Option.isSome_iff_exists] at this
    obtain ⟨t, ht⟩ := this
    simp only [ht, Option.map_some, Option.getD_some]

theorem StepP.step (hg : guardB ops = true) {End : Value → World → World → Prop} {i : Nat} {o : Oper} (ho : o ∈ ops.toList)
    (h : StepP P V a0 W0 G End ((o.looksAt ops).map fun t => (t, srcOf ops i t), o.guard.map fun gw => (((ops[gw.1]?).bind (·.dst)).getD 0, gw.2)) o) : Step P ops V a0 W0 G End i o :=
  fun ρ w hgr hf hx => by
    rw [want_eq hg ho]
    exact h ρ w hgr (need_of _ hf) (fun v => hx _ (by simp)) (fun f => hx _ (by simp)) (fun g => hx _ (by simp))

theorem StepsP.steps (hg : guardB ops = true) : ∀ (l : List Oper) (k : Nat) (ns : List (List (Tmp × Option Nat) × Option (Tmp × Bool))), (∀ o ∈ l, o ∈ ops.toList) → (∀ (j : Nat) (o : Oper), l[j]? = some o → ns[j]? = some ((o.looksAt ops).map fun t => (t, srcOf ops (k + j) t), o.guard.map fun gw => (((ops[gw.1]?).bind (·.dst)).getD 0, gw.2))) → StepsP P V a0 W0 G Last k l ns → StepsL P ops V a0 W0 G Last k l
  | [], _, _, _, _, _ => trivial
  | _ :: _, _, [], _, _, h => by unfold StepsP at h; exact h.elim
  | [o], k, n :: ns, hm, hn, h => by
    have := hn 0 o rfl
    simp only [List.getElem?_cons_zero, Option.some.injEq, Nat.add_zero] at this
    subst this
    exact StepP.step hg (hm o (by simp)) h
  | o :: o' :: r, k, n :: ns, hm, hn, h => by
    have := hn 0 o rfl
    simp only [List.getElem?_cons_zero, Option.some.injEq, Nat.add_zero] at this
    subst this
    exact ⟨StepP.step hg (hm o (by simp)) h.1, StepsP.steps hg (o' :: r) (k + 1) ns (fun x hx => hm x (List.mem_cons_of_mem _ hx)) (fun j o1 hj => by
      have := hn (j + 1) o1 (by simpa using hj)
      rw [show k + 1 + j = k + (j + 1) from by omega]
      simpa using this) h.2⟩

/-- The region, by the plan. -/
theorem wp_region_plan {id : Nat} {l : List Oper} {Q : Exit → Act → World → Prop} {w : World} (G : World → World → Prop) (hG : Pre G) (V : Nat → Value → World → Prop) (Last : Value → World → Prop) (ns : List (List (Tmp × Option Nat) × Option (Tmp × Bool))) (hm : P.follows .mixedOrders = true) (sz : Nat) (hsz : a0.tmps.size = sz) (hB : (okB l.toArray sz && (lastB l.toArray && guardB l.toArray)) = true) (hpl : plan l.toArray = ns) (hpos : 0 < l.length)
    (hst : ∀ j u w w', G w w' → V j u w → V j u w') (hs : StepsP P V a0 w.drew G Last 0 l ns)
    (hQ : ∀ a o v w', Left l.toArray a0 a → l[l.length - 1]? = some o → Last v w' → Q .normal (a.put o.dst v) w') : (Code.region id l.toArray true).wp P Q a0 w := by
  simp only [Bool.and_eq_true] at hB
  refine wp_region_grow G hG V Last hm sz hsz hB.1 hB.2.1 hpos hst (StepsP.steps hB.2.2 l 0 ns (fun o ho => by simpa using ho) (fun j o hj => ?_) hs) hQ
  subst hpl
  have hjl : j < l.length := (List.getElem?_eq_some_iff.1 hj).1
  simp only [plan, List.size_toArray, List.getElem?_map, List.getElem?_range hjl, Option.map_some, List.getElem?_toArray, hj, Nat.zero_add]

/-- The facts of a region, one for each operation. -/
def vat (l : List (Value → World → Prop)) (j : Nat) : Value → World → Prop := l.getD j (fun _ _ => True)
/-- The value is known. -/
def isv (x : Value) : Value → World → Prop := fun v _ => v = x
/-- It stays while memory grows. -/
def Stays (G : World → World → Prop) (p : Value → World → Prop) : Prop := ∀ u w w', G w w' → p u w → p u w'
theorem stays_isv (G : World → World → Prop) (x : Value) : Stays G (isv x) := fun _ _ _ _ h => h
theorem stays_vat (G : World → World → Prop) (l : List (Value → World → Prop)) (h : ∀ p ∈ l, Stays G p) : ∀ j u w w', G w w' → vat l j u w → vat l j u w' := by
  intro j u w w' hg hv
  unfold vat at *
  rw [List.getD_eq_getElem?_getD] at *
  cases hj : l[j]? with
  | none => simp
  | some p => simp only [hj, Option.getD_some] at hv ⊢; exact h p (List.mem_of_getElem? hj) u w w' hg hv
theorem grown_refl (w : World) (row : Option Nat) : w.grownBy w row := ⟨rfl, rfl, rfl, Nat.le_refl _, fun _ _ _ => rfl⟩
end
/-- A result in a slot, behind a region. -/
theorem ret_slot {P : Program} {fn : Func} {R : Ending → World → Prop} {a : Act} {w : World} {u : Value} {d : Tmp} (hres : fn.results = #[.tmp d]) (hd : d < a.tmps.size) (hdef : a.defers = []) (h : R (.returned u) w) :
    Code.wp P Code.ret (bodyPost P fn R) (a.put (some d) u) w := by
  refine wp_ret ⟨hdef, u, ?_, h⟩
  simp [results, hres, Act.put, hd, go_sem]
/-- What follows hangs on a few slots alone. -/
theorem wp_abs {P : Program} {c : Code} {Q : Exit → Act → World → Prop} {a : Act} {w : World} (F : Act → Prop) (hF : F a) (h : ∀ a', F a' → c.wp P Q a' w) : c.wp P Q a w := h a hF
/-- A result in a cell, behind a region. -/
theorem ret_cell {P : Program} {fn : Func} {R : Ending → World → Prop} {a : Act} {w : World} {v : Value} {d : Tmp} {t : TypeId} {k : Nat} (hres : fn.results = #[.cell d t]) (hd : a.eval (.tmp d) = .pointer (some ⟨k, 0, none⟩)) (hdef : a.defers = []) (hl : (loadVar t ⟨k, 0, none⟩).run P w = .ok v w) (h : R (.returned v) w) :
    Code.wp P Code.ret (bodyPost P fn R) a w := by
  refine wp_ret ⟨hdef, v, ?_, h⟩
  simp only [Act.eval, Array.getD_eq_getD_getElem?] at hd
  simp [results, hres, hd, hl, asAddr]
end Go.Proofs.Ytpnmcinbohdmhaa.Kit
