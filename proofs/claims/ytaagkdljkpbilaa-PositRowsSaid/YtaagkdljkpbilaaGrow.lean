/-
  A region that draws its order, whose operations make memory: one plain condition for each operation serves every order. Conditions: every operation but the last has a successor, no two operations write one slot, what an operation looks at is written before it or after it by the region's own edges.
-/
import Derived.Below
import Derived.Orders
import Derived.Maps.AppendAt
namespace Go.Proofs.Ytaagkdljkpbilaa.Kit
open Go Go.RowKit
/-- How memory may turn: one step behind another is such a step. -/
structure Pre (G : World → World → Prop) : Prop where
  refl : ∀ w, G w w
  trans : ∀ {a b c}, G a b → G b c → G a c

/-- What an operation hands on. -/
def Ups (P : Program) (R : Value → World → Prop) : Result Next → Prop
  | .ok (.value v) w' => R v w'
  | .ok .skip w' => R undef w'
  | .ok (.enter f args) w' => Calls P f args w' fun e w'' => ∃ v, e = .returned v ∧ R v w''
  | _ => False

theorem wp_of_ups {P : Program} {o : Oper} {a : Act} {w : World} {K : Act → World → Prop} {Q : Exit → Act → World → Prop} {R : Value → World → Prop}
    (h : Ups P R ((execOp a.eval o).run P w)) (hK : ∀ v w', R v w' → K (a.put o.dst v) w') : o.wp P a w K Q := by
  unfold Oper.wp
  generalize (execOp a.eval o).run P w = r at *
  cases r with
  | ok n w' =>
    cases n <;> simp only [Ups] at h <;> simp only [Oper.upon]
    case value u => exact hK _ _ h
    case skip => exact hK _ _ h
    case enter f args => exact h.mono fun e w'' ⟨v, he, hw''⟩ => by subst he; exact hK _ _ hw''
  | halt x w' => simp only [Ups] at h

/-- The operation j is bound to come before i. -/
def bef (ops : Array Oper) (i j : Nat) : Bool := (ops[i]?).any fun o => o.after.toList.any fun e => Region.binds .any e && e.on == j

def wantR (ops : Array Oper) (ρ : Operand → Value) (o : Oper) : Bool :=
  match o.guard with
  | none => true
  | some (g, want) => (match (ops[g]?).bind (·.dst) with
    | some t => (match ρ (.tmp t) with | .bool b => some b | _ => none)
    | none => none) == some want

theorem wantR_eq (ops : Array Oper) (a : Act) (o : Oper) : Region.wanted o (yielded ops a.tmps) = wantR ops a.eval o := by
  unfold Region.wanted wantR
  cases o.guard with
  | none => rfl
  | some gw =>
    obtain ⟨g, want⟩ := gw
    simp only [yielded]
    congr 1
    cases h : (ops[g]?).bind (·.dst) with
    | none => rfl
    | some t =>
      simp only [Option.bind_some, Act.eval, Array.getD]
      rcases Nat.lt_or_ge t a.tmps.size with hlt | hge
      · simp [hlt]
        cases a.tmps[t] <;> rfl
      · simp [Nat.not_lt.2 hge, undef]

def okB (ops : Array Oper) (sz : Nat) : Bool :=
  Region.noSelect ops &&
  (List.range ops.size).all fun i => match ops[i]? with
    | none => true
    | some o =>
      (o.after.all (fun e => !Region.binds .any e || decide (e.on < i)) &&
      (match o.dst with | some d => decide (d < sz) | none => true)) &&
      (List.range ops.size).all fun j => match ops[j]? with
        | none => true
        | some oj =>
          (i == j || match o.dst, oj.dst with | some d, some d' => d != d' | _, _ => true) &&
          (match oj.dst with | some d => !(o.looksAt ops).contains d || (bef ops i j || bef ops j i) | none => true)

def lastB (ops : Array Oper) : Bool :=
  (List.range (ops.size - 1)).all fun j => (List.range ops.size).any fun i => bef ops i j

def srcOf (ops : Array Oper) (i : Nat) (t : Tmp) : Option Nat :=
  (List.range ops.size).find? fun j => bef ops i j && (ops[j]?).any fun o => o.dst == some t

def Fact (ops : Array Oper) (V : Nat → Value → World → Prop) (a0 : Act) (i : Nat) (t : Tmp) (v : Value) (w : World) : Prop :=
  match srcOf ops i t with
  | some j => V j v w
  | none => v = a0.eval (.tmp t)

/-- What is asked of operation i: 'End' is what it owes. -/
def Step (P : Program) (ops : Array Oper) (V : Nat → Value → World → Prop) (a0 : Act) (W0 : World) (G : World → World → Prop) (End : Value → World → World → Prop) (i : Nat) (o : Oper) : Prop :=
  ∀ (ρ : Operand → Value) (w : World), G W0 w → (∀ t ∈ o.looksAt ops, Fact ops V a0 i t (ρ (.tmp t)) w) → (∀ x, (∀ t, x ≠ .tmp t) → ρ x = a0.eval x) →
    if wantR ops ρ o then Ups P (fun v w' => End v w w') ((execOp ρ o).run P w) else End undef w w

def StepsL (P : Program) (ops : Array Oper) (V : Nat → Value → World → Prop) (a0 : Act) (W0 : World) (G : World → World → Prop) (Last : Value → World → Prop) : Nat → List Oper → Prop
  | _, [] => True
  | k, [o] => Step P ops V a0 W0 G (fun v _ w' => Last v w') k o
  | k, o :: o' :: r => Step P ops V a0 W0 G (fun v w w' => V k v w' ∧ G w w') k o ∧ StepsL P ops V a0 W0 G Last (k + 1) (o' :: r)

section
variable {P : Program} {ops : Array Oper} {V : Nat → Value → World → Prop} {a0 : Act} {W0 : World} {G : World → World → Prop} {Last : Value → World → Prop}

theorem StepsL.last : ∀ (l : List Oper) (k j : Nat) (o : Oper), StepsL P ops V a0 W0 G Last k l → l[j]? = some o → j + 1 = l.length → Step P ops V a0 W0 G (fun v _ w' => Last v w') (k + j) o
  | [], _, _, _, _, h, _ => by simp at h
  | [o], k, 0, o1, hs, h, _ => by
    simp only [List.getElem?_cons_zero, Option.some.injEq] at h
    subst h
    exact hs
  | [_], _, j + 1, _, _, h, _ => by simp at h
  | o :: o' :: r, k, 0, o1, hs, h, hl => by simp at hl
  | o :: o' :: r, k, j + 1, o1, hs, h, hl => by
    have := StepsL.last (o' :: r) (k + 1) j o1 hs.2 (by simpa using h) (by simpa using hl)
    rw [show k + 1 + j = k + (j + 1) from by omega] at this
    exact this

/-- What holds on the way. -/
structure Way (ops : Array Oper) (V : Nat → Value → World → Prop) (a0 : Act) (W0 : World) (G : World → World → Prop) (listed : Array Bool) (a : Act) (w : World) : Prop where
  size : listed.size = ops.size
  tsize : a.tmps.size = a0.tmps.size
  defers : a.defers = a0.defers
  grown : G W0 w
  shut : ∀ (i j : Nat), listed[i]? = some true → bef ops i j = true → listed[j]? = some true
  vals : ∀ (j : Nat) (o : Oper) (d : Tmp), ops[j]? = some o → o.dst = some d → listed[j]? = some true → V j (a.eval (.tmp d)) w
  rest : ∀ (t : Tmp), (∀ (j : Nat) (o : Oper), ops[j]? = some o → o.dst = some t → listed[j]? ≠ some true) → a.eval (.tmp t) = a0.eval (.tmp t)

theorem eval_put_same {a : Act} {d : Tmp} {v : Value} (h : d < a.tmps.size) : (a.put (some d) v).eval (.tmp d) = v := by
  simp [Act.put, Act.eval, Array.getD, h]

theorem listed_set {listed : Array Bool} {i j : Nat} (h : (listed.setIfInBounds i true)[j]? = some true) : j = i ∨ listed[j]? = some true := by
  by_cases e : i = j
  · exact .inl e.symm
  · rw [Array.getElem?_setIfInBounds_ne e] at h; exact .inr h

theorem srcOf_some {i : Nat} {t : Tmp} {j : Nat} (h : srcOf ops i t = some j) : bef ops i j = true ∧ ∃ o, ops[j]? = some o ∧ o.dst = some t := by
  have := List.find?_some h
  simp only [Bool.and_eq_true, Option.any_eq_true] at this
  obtain ⟨h1, o, h2, h3⟩ := this
  exact ⟨h1, o, h2, by simpa using h3⟩

theorem srcOf_none {i : Nat} {t : Tmp} (h : srcOf ops i t = none) (j : Nat) (o : Oper) (hj : ops[j]? = some o) (hd : o.dst = some t) : bef ops i j = false := by
  unfold srcOf at h
  rw [List.find?_eq_none] at h
  have := h j (List.mem_range.2 (Array.getElem?_eq_some_iff.1 hj).1)
  simp only [Bool.and_eq_true, not_and, Option.any_eq_true, not_exists] at this
  by_cases hb : bef ops i j = true
  · exact absurd (by simpa using hd) (this hb o hj)
  · simpa using hb

structure Ok (ops : Array Oper) (sz : Nat) : Prop where
  sel : Region.noSelect ops = true
  lt : ∀ (i : Nat) (o : Oper), ops[i]? = some o → ∀ e ∈ o.after, Region.binds .any e = true → e.on < i
  dst : ∀ (i : Nat) (o : Oper) (d : Tmp), ops[i]? = some o → o.dst = some d → d < sz
  one : ∀ (i j : Nat) (o oj : Oper) (d : Tmp), ops[i]? = some o → ops[j]? = some oj → o.dst = some d → oj.dst = some d → i = j
  looks : ∀ (i j : Nat) (o oj : Oper) (d : Tmp), ops[i]? = some o → ops[j]? = some oj → oj.dst = some d → d ∈ o.looksAt ops → bef ops i j = true ∨ bef ops j i = true

theorem ok_of {sz : Nat} (h : okB ops sz = true) : Ok ops sz := by
  simp only [okB, Bool.and_eq_true, List.all_eq_true, List.mem_range] at h
  obtain ⟨hsel, h⟩ := h
  have key : ∀ (i : Nat) (o : Oper), ops[i]? = some o → i < ops.size := fun i o hi => (Array.getElem?_eq_some_iff.1 hi).1
  refine ⟨hsel, fun i o hi e he hbd => ?_, fun i o d hi hd => ?_, fun i j o oj d hi hj hd hd' => ?_, fun i j o oj d hi hj hd hl => ?_⟩
  · have := h i (key i o hi)
    simp only [hi, Bool.and_eq_true, List.all_eq_true] at this
    have h1 := this.1.1
    rw [Array.all_eq_true_iff_forall_mem] at h1
    simpa [hbd] using h1 e he
  · have := h i (key i o hi)
    simp only [hi, Bool.and_eq_true] at this
    have h1 := this.1.2
    rw [hd] at h1
    simpa using h1
  · have := h i (key i o hi)
    simp only [hi, Bool.and_eq_true, List.all_eq_true, List.mem_range] at this
    have h1 := this.2 j (key j oj hj)
    simp only [hj, hd, hd', Bool.and_eq_true, Bool.or_eq_true, bne_self_eq_false, Bool.false_eq_true, or_false, beq_iff_eq] at h1
    exact h1.1
  · have := h i (key i o hi)
    simp only [hi, Bool.and_eq_true, List.all_eq_true, List.mem_range] at this
    have h1 := this.2 j (key j oj hj)
    simp only [hj, hd, Bool.and_eq_true, Bool.or_eq_true] at h1
    rcases h1.2 with h2 | h2
    · simp [hl] at h2
    · exact h2

theorem bef_lt {sz : Nat} (hok : Ok ops sz) {i j : Nat} (h : bef ops i j = true) : j < i := by
  simp only [bef, Option.any_eq_true, List.any_eq_true, Bool.and_eq_true, beq_iff_eq] at h
  obtain ⟨o, ho, e, he, hbd, rfl⟩ := h
  exact hok.lt i o ho e (Array.mem_toList_iff.1 he) hbd

theorem ready_bef {listed : Array Bool} {i j : Nat} (h : i ∈ Region.ready .any ops listed) (hb : bef ops i j = true) : listed[j]? = some true := by
  obtain ⟨_, o, ho, hall⟩ := mem_ready.1 h
  simp only [bef, ho, Option.any_some, List.any_eq_true, Bool.and_eq_true, beq_iff_eq] at hb
  obtain ⟨e, he, hbd, rfl⟩ := hb
  have := hall e (Array.mem_toList_iff.1 he) hbd
  rw [Array.getD_eq_getD_getElem?] at this
  cases hj : listed[e.on]? <;> simp_all

theorem ready_not {listed : Array Bool} {i : Nat} (h : i ∈ Region.ready .any ops listed) : listed[i]? ≠ some true := by
  have := (mem_ready.1 h).1
  rw [Array.getD_eq_getD_getElem?] at this
  intro e
  simp [e] at this

theorem Way.facts {sz : Nat} (hok : Ok ops sz) {listed : Array Bool} {a : Act} {w : World} {i : Nat} {o : Oper} (hw : Way ops V a0 W0 G listed a w) (hi : ops[i]? = some o) (hr : i ∈ Region.ready .any ops listed) :
    ∀ t ∈ o.looksAt ops, Fact ops V a0 i t (a.eval (.tmp t)) w := by
  intro t ht
  unfold Fact
  cases hs : srcOf ops i t with
  | some j =>
    obtain ⟨hb, oj, hoj, hd⟩ := srcOf_some hs
    exact hw.vals j oj t hoj hd (ready_bef hr hb)
  | none =>
    refine hw.rest t fun j oj hoj hd hl => ?_
    rcases hok.looks i j o oj t hi hoj hd ht with hb | hb
    · rw [srcOf_none hs j oj hoj hd] at hb; cases hb
    · exact ready_not hr (hw.shut j i hl hb)

theorem eval_other (a : Act) (x : Operand) (h : ∀ t, x ≠ .tmp t) : a.eval x = a0.eval x := by
  cases x <;> first | rfl | exact absurd rfl (h _)

theorem Way.next {sz : Nat} (hG : Pre G) (hok : Ok ops sz) (hsz : a0.tmps.size = sz) (hst : ∀ j u w w', G w w' → V j u w → V j u w') {listed : Array Bool} {a : Act} {w w' : World} {i : Nat} {o : Oper} {v : Value} (hw : Way ops V a0 W0 G listed a w)
    (hi : ops[i]? = some o) (hr : i ∈ Region.ready .any ops listed) (hv : V i v w') (hg : G w w') : Way ops V a0 W0 G (listed.setIfInBounds i true) (a.put o.dst v) w' := by
  have hil : i < listed.size := by rw [hw.size]; exact (Array.getElem?_eq_some_iff.1 hi).1
  refine ⟨by simp [hw.size], ?_, ?_, hG.trans hw.grown hg, fun x y hx hb => ?_, fun j oj d hj hd hl => ?_, fun t ht => ?_⟩
  · cases o.dst <;> simp [Act.put, hw.tsize]
  · cases o.dst <;> simp [Act.put, hw.defers]
  · have keep : listed[y]? = some true → (listed.setIfInBounds i true)[y]? = some true := fun h => by
      by_cases e : i = y
      · subst e; simp [hil]
      · rw [Array.getElem?_setIfInBounds_ne e]; exact h
    rcases listed_set hx with rfl | hx
    · exact keep (ready_bef hr hb)
    · exact keep (hw.shut x y hx hb)
  · by_cases e : j = i
    · subst e
      rw [hi] at hj
      cases hj
      rw [hd, eval_put_same (by rw [hw.tsize, hsz]; exact hok.dst j o d hi hd)]
      exact hv
    · have hlj : listed[j]? = some true := (listed_set hl).resolve_left e
      have hne : ∀ d', o.dst = some d' → (Operand.tmp d) ≠ .tmp d' := fun d' hd' he => by
        injection he with he
        subst he
        exact e (hok.one j i oj o d hj hi hd hd')
      rw [Act.eval_put hne]
      exact hst _ _ _ _ hg (hw.vals j oj d hj hd hlj)
  · have hne : ∀ d', o.dst = some d' → (Operand.tmp t) ≠ .tmp d' := fun d' hd' he => by
      injection he with he
      subst he
      exact ht i o hi hd' (by simp [hil])
    rw [Act.eval_put hne]
    refine hw.rest t fun j oj hj hd hl => ht j oj hj hd ?_
    by_cases e : i = j
    · subst e; simp [hil]
    · rw [Array.getElem?_setIfInBounds_ne e]; exact hl

end
/-- Where what each operation looks at comes from; which slot decides whether it runs. -/
def plan (ops : Array Oper) : List (List (Tmp × Option Nat) × Option (Tmp × Bool)) := (List.range ops.size).map fun i => match ops[i]? with
  | some o => ((o.looksAt ops).map fun t => (t, srcOf ops i t), o.guard.map fun gw => (((ops[gw.1]?).bind (·.dst)).getD 0, gw.2))
  | none => ([], none)

def Need (V : Nat → Value → World → Prop) (a0 : Act) (ρ : Operand → Value) (w : World) : List (Tmp × Option Nat) → Prop
  | [] => True
  | (t, some j) :: r => V j (ρ (.tmp t)) w ∧ Need V a0 ρ w r
  | (t, none) :: r => ρ (.tmp t) = a0.eval (.tmp t) ∧ Need V a0 ρ w r

def wantP (ρ : Operand → Value) : Option (Tmp × Bool) → Bool
  | none => true
  | some (t, want) => (match ρ (.tmp t) with | .bool b => some b | _ => none) == some want

/-- A step, by what the plan says. -/
def StepP (P : Program) (V : Nat → Value → World → Prop) (a0 : Act) (W0 : World) (G : World → World → Prop) (End : Value → World → World → Prop) (ns : List (Tmp × Option Nat) × Option (Tmp × Bool)) (o : Oper) : Prop :=
  ∀ (ρ : Operand → Value) (w : World), G W0 w → Need V a0 ρ w ns.1 → (∀ v, ρ (.const v) = v) → (∀ f, ρ (.func f) = .func (.func f) #[] #[]) → (∀ g, ρ (.global g) = .pointer (some ⟨g, 0, none⟩)) →
    if wantP ρ ns.2 then Ups P (fun v w' => End v w w') ((execOp ρ o).run P w) else End undef w w

/-- Each guard's operation writes a slot. -/
def guardB (ops : Array Oper) : Bool := ops.toList.all fun o => match o.guard with
  | none => true
  | some gw => ((ops[gw.1]?).bind (·.dst)).isSome

section
variable {P : Program} {ops : Array Oper} {V : Nat → Value → World → Prop} {a0 : Act} {W0 : World} {G : World → World → Prop} {Last : Value → World → Prop}
theorem need_of {ρ : Operand → Value} {w : World} {i : Nat} : ∀ (l : List Tmp), (∀ t ∈ l, Fact ops V a0 i t (ρ (.tmp t)) w) → Need V a0 ρ w (l.map fun t => (t, srcOf ops i t))
  | [], _ => trivial
  | t :: l, h => by
    have h0 := h t (by simp)
    have hr := need_of l fun t ht => h t (by simp [ht])
    unfold Fact at h0
    simp only [List.map_cons]
    cases hs : srcOf ops i t with
    | none => rw [hs] at h0; exact ⟨h0, hr⟩
    | some j => rw [hs] at h0; exact ⟨h0, hr⟩

theorem want_eq (hg : guardB ops = true) {o : Oper} (ho : o ∈ ops.toList) (ρ : Operand → Value) : wantR ops ρ o = wantP ρ (o.guard.map fun gw => (((ops[gw.1]?).bind (·.dst)).getD 0, gw.2)) := by
  simp only [guardB, List.all_eq_true] at hg
  have := hg o ho
  unfold wantR wantP
  cases hgu : o.guard with
  | none => rfl
  | some gw =>
    obtain ⟨g, want⟩ := gw
    rw [hgu] at this
    simp only [Option.isSome_iff_exists] at this
    obtain ⟨t, ht⟩ := this
    simp only [ht, Option.map_some, Option.getD_some]

theorem StepP.step (hg : guardB ops = true) {End : Value → World → World → Prop} {i : Nat} {o : Oper} (ho : o ∈ ops.toList)
    (h : StepP P V a0 W0 G End ((o.looksAt ops).map fun t => (t, srcOf ops i t), o.guard.map fun gw => (((ops[gw.1]?).bind (·.dst)).getD 0, gw.2)) o) : Step P ops V a0 W0 G End i o :=
  fun ρ w hgr hf hx => by
    rw [want_eq hg ho]
    exact h ρ w hgr (need_of _ hf) (fun v => hx _ (by simp)) (fun f => hx _ (by simp)) (fun g => hx _ (by simp))

theorem grown_refl (w : World) (row : Option Nat) : w.grownBy w row := ⟨rfl, rfl, rfl, Nat.le_refl _, fun _ _ _ => rfl⟩
end
end Go.Proofs.Ytaagkdljkpbilaa.Kit
