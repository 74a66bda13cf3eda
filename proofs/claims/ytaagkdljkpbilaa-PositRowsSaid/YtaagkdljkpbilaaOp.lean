/-
  What comes in, read into the model's memory as it lies: numbers, bools, strings, slices, structs and arrays of these, of whatever depth. Conditions: none.
-/
import Derived.Test.YtaagkdljkpbilaaSw
import Derived.Deep.Slices
import Derived.Deep.Strs
import Derived.OpenShut
import Derived.DataReads
import Derived.ChangeArms
set_option linter.unusedSimpArgs false
set_option linter.unusedVariables false
namespace Go.Proofs.Ytaagkdljkpbilaa.Ev
open Go Go.Deep
def TypedFs (T : TypeId → List MV → Prop) : List Field → List MV → Prop
  | [], cs => cs = []
  | f :: fs, cs => ∃ a b, cs = a ++ b ∧ T f.type a ∧ TypedFs T fs b
def TypedN (T : TypeId → List MV → Prop) (e : TypeId) : Nat → List MV → Prop
  | 0, cs => cs = []
  | n + 1, cs => ∃ a b, cs = a ++ b ∧ T e a ∧ TypedN T e n b
/-- Cells that read as a value of a type. -/
def Typed (P : Program) (M : MH) : Nat → TypeId → List MV → Prop
  | 0, _, _ => False
  | n + 1, t, cs => match P.underlying t with
    | some .bool => ∃ b, cs = [.b b]
    | some (.int k) => ∃ z, cs = [.i k z] ∧ (Lit.int k z).wf = true
    | some .string => ∃ s, cs = [.s s] ∧ s.size ≤ maxLen
    | some (.slice e) => ∃ v es, cs = [v] ∧ RowAt M (P.cellsOf e) v es ∧ es.length ≤ maxLen ∧ ∀ x ∈ es, Typed P M n e x
    | some (.struct fs) => TypedFs (Typed P M n) fs.toList cs
    | some (.array m e) => TypedN (Typed P M n) e m cs
    | _ => False
theorem TypedFs.mono {T T' : TypeId → List MV → Prop} (h : ∀ t cs, T t cs → T' t cs) : ∀ {fs : List Field} {cs : List MV}, TypedFs T fs cs → TypedFs T' fs cs
  | [], cs, k => k
  | f :: fs, cs, ⟨a, b, h1, h2, h3⟩ => ⟨a, b, h1, h _ _ h2, TypedFs.mono h h3⟩
theorem TypedN.mono {T T' : TypeId → List MV → Prop} (h : ∀ t cs, T t cs → T' t cs) {e : TypeId} : ∀ {n : Nat} {cs : List MV}, TypedN T e n cs → TypedN T' e n cs
  | 0, cs, k => k
  | n + 1, cs, ⟨a, b, h1, h2, h3⟩ => ⟨a, b, h1, h _ _ h2, TypedN.mono h h3⟩
theorem Typed.ext {P : Program} {M M' : MH} (k : Ext M M') : ∀ {n : Nat} {t : TypeId} {cs : List MV}, Typed P M n t cs → Typed P M' n t cs
  | 0, t, cs, h => h
  | n + 1, t, cs, h => by
    have ih : ∀ t cs, Typed P M n t cs → Typed P M' n t cs := fun t cs h => Typed.ext k h
    unfold Typed at h ⊢
    cases hu : P.underlying t with
    | none => rw [hu] at h; exact h.elim
    | some d =>
      rw [hu] at h
      cases d <;> simp only at h ⊢ <;> first | exact h | skip
      · obtain ⟨v, es, h1, h2, h3, h4⟩ := h
        exact ⟨v, es, h1, h2.ext k, h3, fun x hx => ih _ _ (h4 x hx)⟩
      · exact h.mono ih
      · exact h.mono ih
/-- Types that hold no more than these. -/
def fieldsOk (P : Program) (S : List TypeId) : List Field → Nat → Bool
  | [], _ => true
  | f :: r, o => (S.contains f.type && Nat.beq f.offset o) && fieldsOk P S r (o + P.cellsOf f.type)
def sumF (P : Program) : List Field → Nat → Nat
  | [], o => o
  | f :: r, o => sumF P r (o + P.cellsOf f.type)
def typeOk (P : Program) (S : List TypeId) (t : TypeId) : Bool := match P.underlying t with
  | some .bool => Nat.beq (P.cellsOf t) 1
  | some (.int _) => Nat.beq (P.cellsOf t) 1
  | some .string => Nat.beq (P.cellsOf t) 1
  | some (.slice e) => (S.contains e && Nat.blt 0 (P.cellsOf e)) && Nat.beq (P.cellsOf t) 1
  | some (.struct fs) => fieldsOk P S fs.toList 0 && Nat.beq (sumF P fs.toList 0) (P.cellsOf t)
  | some (.array m e) => S.contains e && Nat.beq (m * P.cellsOf e) (P.cellsOf t)
  | _ => false
def Closed (P : Program) (S : List TypeId) : Prop := ∀ t ∈ S, typeOk P S t = true
/-- What is read is there. -/
structure Opened (P : Program) (w : World) (β : BM) (M : MH) : Prop where
  inv : Inv β M w
  glob : GlobOk β
  ro : ∀ id o, M.get id = some o → o.rw = false
  lo : M.lo ≤ M.n
  zero : 0 < w.heap.size ∨ (M.get 0 = some thinO ∧ 0 < M.n ∧ β 0 = some ⟨0, 0, 0⟩)
theorem DenL.take {β : BM} {l : List MV} {vs : List Value} (h : DenL β l vs) (n : Nat) : DenL β (l.take n) (vs.take n) := by
  refine ⟨by rw [List.length_take, List.length_take, h.1], fun j x hj => ?_⟩
  rw [List.getElem?_take] at hj
  split at hj
  · rename_i hlt
    obtain ⟨v, h1, h2⟩ := h.2 j x hj
    exact ⟨v, by rw [List.getElem?_take, if_pos hlt]; exact h1, h2⟩
  · cases hj
/-- A row of cells that is only read comes in. -/
theorem Opened.push {P : Program} {w : World} {β : BM} {M : MH} (h : Opened P w β M) (sz : Nat) (c : T MV) (B : Bl) (hB : B.blk < w.heap.size) (hc : ∀ i x, cget c i = some x → ∃ v, w.cell? ⟨B.blk, B.off + i, none⟩ = some v ∧ Den β x v) :
    ∃ β', Opened P w β' (M.push (.cs true sz c)) ∧ β.le β' ∧ β' M.n = some B := by
  have hle : β.le fun id => if id = M.n then some B else β id := fun id B' e => by
    by_cases h1 : id = M.n
    · subst h1; rw [h.inv.fresh M.n (Nat.le_refl _)] at e; cases e
    · show (if id = M.n then some B else β id) = some B'
      rw [if_neg h1]; exact e
  refine ⟨fun id => if id = M.n then some B else β id, ⟨⟨fun id hid => ?_, fun id B' e => ?_, fun id o ho => ?_, fun id id' o o' B1 B2 ho ho' hr e1 e2 hne => ?_⟩, h.glob.mono hle, fun id o ho => ?_, ?_, ?_⟩, hle, if_pos rfl⟩
  · have hid : M.n + 1 ≤ id := hid
    show (if id = M.n then some B else β id) = none
    rw [if_neg (by omega)]
    exact h.inv.fresh id (by omega)
  · by_cases h1 : id = M.n
    · have e' : some B = some B' := by rw [← e]; exact (if_pos h1).symm
      injection e' with e'; subst e'; exact .inl hB
    · have e' : β id = some B' := by rw [← e]; exact (if_neg h1).symm
      rcases h.inv.old id B' e' with h2 | ⟨rfl, h2⟩
      · exact .inl h2
      · exact .inr ⟨rfl, by rw [MH.get_push, if_neg fun x => h1 x.symm]; exact h2⟩
  · rw [MH.get_push] at ho
    by_cases h1 : M.n = id
    · rw [if_pos h1] at ho
      injection ho with ho
      subst ho
      exact ⟨B, if_pos h1.symm, fun i x hx => let ⟨v, a, b⟩ := hc i x hx; ⟨v, a, b.mono hle⟩⟩
    · rw [if_neg h1] at ho
      obtain ⟨B', e, hk⟩ := h.inv.obj id o ho
      exact ⟨B', hle _ _ e, hk.mono hle rfl⟩
  · exfalso
    rw [MH.get_push] at ho
    by_cases h1 : M.n = id
    · rw [if_pos h1] at ho; injection ho with ho; subst ho; cases hr
    · rw [if_neg h1] at ho; rw [h.ro id o ho] at hr; cases hr
  · rw [MH.get_push] at ho
    by_cases h1 : M.n = id
    · rw [if_pos h1] at ho; injection ho with ho; subst ho; rfl
    · rw [if_neg h1] at ho; exact h.ro id o ho
  · exact Nat.le_succ_of_le h.lo
  · exact .inl (Nat.lt_of_le_of_lt (Nat.zero_le _) hB)
/-- What a value of a type is in the model. -/
def OpenAs (P : Program) (w : World) (n : Nat) (t : TypeId) (vs : List Value) : Prop := ∀ β M, Opened P w β M → ∃ β' M' cs, Opened P w β' M' ∧ β.le β' ∧ Ext M M' ∧ DenL β' cs vs ∧ Typed P M' n t cs
variable {H : Type} {enc : TypeId × Value → H} {P : Program} {w : World} {held : Bool}
theorem open_fields {T : TypeId → List Value → Prop} {n : Nat} {S : List TypeId} (hT : ∀ t vs, t ∈ S → T t vs → OpenAs P w n t vs) : ∀ (fs : List Field) (o : Nat) (vs : List Value), fieldsOk P S fs o = true → o + vs.length = sumF P fs o → (∀ f ∈ fs, T f.type (((vs.drop (f.offset - o)).take (P.cellsOf f.type)))) →
    ∀ β M, Opened P w β M → ∃ β' M' cs, Opened P w β' M' ∧ β.le β' ∧ Ext M M' ∧ DenL β' cs vs ∧ TypedFs (Typed P M' n) fs cs
  | [], o, vs, hk, hl, hf, β, M, hO => by
    have : vs = [] := List.length_eq_zero_iff.1 (by have : o + vs.length = o := hl; omega)
    subst this
    exact ⟨β, M, [], hO, .refl β, .refl M, .nil β, rfl⟩
  | f :: fs, o, vs, hk, hl, hf, β, M, hO => by
    simp only [fieldsOk, Bool.and_eq_true] at hk
    obtain ⟨⟨hS, ho⟩, hr⟩ := hk
    have ho : f.offset = o := Nat.eq_of_beq_eq_true ho
    have hS : f.type ∈ S := by simpa using hS
    have hle : ∀ (fs : List Field) (o : Nat), o ≤ sumF P fs o := by
      intro fs
      induction fs with
      | nil => exact fun o => Nat.le_refl _
      | cons f fs ih => exact fun o => Nat.le_trans (Nat.le_add_right _ _) (ih (o + P.cellsOf f.type))
    have hl' : o + vs.length = sumF P fs (o + P.cellsOf f.type) := hl
    have h0 := hle fs (o + P.cellsOf f.type)
    have hoff : ∀ (fs : List Field) (o : Nat), fieldsOk P S fs o = true → ∀ f ∈ fs, o ≤ f.offset := by
      intro fs
      induction fs with
      | nil => exact fun o _ f hf => by cases hf
      | cons f fs ih =>
        intro o hk g hg
        simp only [fieldsOk, Bool.and_eq_true] at hk
        rcases List.mem_cons.1 hg with rfl | hg
        · exact Nat.le_of_eq (Nat.eq_of_beq_eq_true hk.1.2).symm
        · exact Nat.le_trans (Nat.le_add_right _ _) (ih _ hk.2 g hg)
    have h1 := hf f List.mem_cons_self
    rw [ho, Nat.sub_self, List.drop_zero] at h1
    obtain ⟨β1, M1, a, hO1, hb1, hx1, hd1, ht1⟩ := hT _ _ hS h1 β M hO
    obtain ⟨β2, M2, b, hO2, hb2, hx2, hd2, ht2⟩ := open_fields hT fs (o + P.cellsOf f.type) (vs.drop (P.cellsOf f.type)) hr (by rw [List.length_drop]; omega) (fun g hg => by
      have := hf g (List.mem_cons_of_mem _ hg)
      have hge := hoff fs _ hr g hg
      rw [List.drop_drop, show P.cellsOf f.type + (g.offset - (o + P.cellsOf f.type)) = g.offset - o from by omega]
      exact this) β1 M1 hO1
    refine ⟨β2, M2, a ++ b, hO2, hb1.trans hb2, hx1.trans hx2, ?_, a, b, rfl, Typed.ext hx2 ht1, ht2⟩
    have := (hd1.mono hb2).append hd2
    rwa [List.take_append_drop] at this
theorem open_cells {T : TypeId → List Value → Prop} {n : Nat} {e : TypeId} (hT : ∀ vs, T e vs → OpenAs P w n e vs) : ∀ (m : Nat) (vs : List Value), vs.length = m * P.cellsOf e → (∀ i, i < m → T e ((vs.drop (i * P.cellsOf e)).take (P.cellsOf e))) →
    ∀ β M, Opened P w β M → ∃ β' M' cs, Opened P w β' M' ∧ β.le β' ∧ Ext M M' ∧ DenL β' cs vs ∧ TypedN (Typed P M' n) e m cs
  | 0, vs, hl, hf, β, M, hO => by
    have : vs = [] := List.length_eq_zero_iff.1 (by rw [hl, Nat.zero_mul])
    subst this
    exact ⟨β, M, [], hO, .refl β, .refl M, .nil β, rfl⟩
  | m + 1, vs, hl, hf, β, M, hO => by
    have h1 := hf 0 (Nat.succ_pos _)
    rw [Nat.zero_mul, List.drop_zero] at h1
    rw [Nat.succ_mul] at hl
    obtain ⟨β1, M1, a, hO1, hb1, hx1, hd1, ht1⟩ := hT _ h1 β M hO
    obtain ⟨β2, M2, b, hO2, hb2, hx2, hd2, ht2⟩ := open_cells hT m (vs.drop (P.cellsOf e)) (by rw [List.length_drop]; omega) (fun i hi => by
      have := hf (i + 1) (by omega)
      rw [List.drop_drop, show P.cellsOf e + i * P.cellsOf e = (i + 1) * P.cellsOf e from by rw [Nat.succ_mul]; omega]
      exact this) β1 M1 hO1
    refine ⟨β2, M2, a ++ b, hO2, hb1.trans hb2, hx1.trans hx2, ?_, a, b, rfl, Typed.ext hx2 ht1, ht2⟩
    have := (hd1.mono hb2).append hd2
    rwa [List.take_append_drop] at this
/-- The elements of a slice, one behind the other. -/
theorem open_elems {n L : Nat} {e : TypeId} {a : Addr} (hT : ∀ i, i < L → OpenAs P w n e ((w.cells? 0 (a.add (i * P.cellsOf e)) (P.cellsOf e)).getD [])) : ∀ (m i : Nat), i + m ≤ L → ∀ β M, Opened P w β M → ∃ (β' : BM) (M' : MH) (es : List (List MV)), Opened P w β' M' ∧ β.le β' ∧ Ext M M' ∧ es.length = m ∧ (∀ x ∈ es, Typed P M' n e x) ∧ ∀ j x, es[j]? = some x → DenL β' x ((w.cells? 0 (a.add ((i + j) * P.cellsOf e)) (P.cellsOf e)).getD [])
  | 0, i, _, β, M, hO => ⟨β, M, [], hO, .refl β, .refl M, rfl, fun x hx => (by cases hx), fun j x hj => (by simp at hj)⟩
  | m + 1, i, hL, β, M, hO => by
    obtain ⟨β1, M1, c, hO1, hb1, hx1, hd1, ht1⟩ := hT i (by omega) β M hO
    obtain ⟨β2, M2, es, hO2, hb2, hx2, hl2, ht2, hd2⟩ := open_elems hT m (i + 1) (by omega) β1 M1 hO1
    refine ⟨β2, M2, c :: es, hO2, hb1.trans hb2, hx1.trans hx2, by rw [List.length_cons, hl2], fun x hx => ?_, fun j x hj => ?_⟩
    · rcases List.mem_cons.1 hx with rfl | hx
      · exact Typed.ext hx2 ht1
      · exact ht2 x hx
    · cases j with
      | zero =>
        simp only [List.getElem?_cons_zero, Option.some.injEq] at hj
        subst hj
        exact hd1.mono hb2
      | succ j =>
        rw [show i + (j + 1) = i + 1 + j from by omega]
        exact hd2 j x (by simpa using hj)
theorem add_at (a : Addr) (k : Nat) (h : a.spot = none) : a.add k = ⟨a.block, a.off + k, none⟩ := by
  obtain ⟨b, o, s⟩ := a
  simp only at h
  subst h
  unfold Addr.add
  split
  · rename_i hk; subst hk; rfl
  · rfl
theorem spot_none {a : Addr} {v : Value} (h : w.cell? a = some v) : a.spot = none := by
  obtain ⟨B, o, sp⟩ := a
  cases sp with
  | none => rfl
  | some q =>
    simp only [World.cell?, Option.isSome_some, if_true] at h
    split at h <;> simp at h
theorem Sized.at {sz : Nat} : ∀ {es : List (List MV)} {i : Nat} {x : MV}, Sized sz es → es.flatten[i]? = some x → ∃ j r c, i = j * sz + r ∧ r < sz ∧ es[j]? = some c ∧ c[r]? = some x
  | [], i, x, hs, h => by simp at h
  | e :: es, i, x, hs, h => by
    have he : e.length = sz := hs e List.mem_cons_self
    rw [List.flatten_cons] at h
    by_cases hi : i < e.length
    · rw [List.getElem?_append_left hi] at h
      exact ⟨0, i, e, by omega, by omega, rfl, h⟩
    · rw [List.getElem?_append_right (by omega)] at h
      obtain ⟨j, r, c, h1, h2, h3, h4⟩ := Sized.at (fun y hy => hs y (List.mem_cons_of_mem _ hy)) h
      exact ⟨j + 1, r, c, by rw [Nat.succ_mul]; omega, h2, by simpa using h3, h4⟩
/-- Whatever comes in is read. -/
theorem open_any {S : List TypeId} (hS : Closed P S) : ∀ (n : Nat) (t : TypeId) (vs : List Value) (x : DataW H × List MemPlace), t ∈ S → DataW.trod enc P w 0 (fun _ => true) held n t vs = some x → OpenAs P w n t vs
  | 0, t, vs, x, ht, h => by simp [DataW.trod] at h
  | n + 1, t, vs, x, ht, h => by
    have ih : ∀ t vs x, t ∈ S → DataW.trod enc P w 0 (fun _ => true) held n t vs = some x → OpenAs P w n t vs := open_any hS n
    have hk := hS t ht
    unfold typeOk at hk
    intro β M hO
    cases hu : P.underlying t with
    | none => rw [hu] at hk; cases hk
    | some d =>
      rw [hu] at hk
      cases d <;> simp only [Bool.and_eq_true] at hk <;> first | (cases hk; done) | skip
      · obtain ⟨b, rfl, _⟩ := DataW.trod_bool hu h
        exact ⟨β, M, [.b b], hO, .refl β, .refl M, .cons (.b b) (.nil β), by simp only [Typed, hu]; exact ⟨b, rfl⟩⟩
      · obtain ⟨z, rfl, _, hz⟩ := DataW.trod_int hu h
        exact ⟨β, M, [.i _ z], hO, .refl β, .refl M, .cons (.i _ z) (.nil β), by simp only [Typed, hu]; exact ⟨z, rfl, hz⟩⟩
      · obtain ⟨s, rfl, _, hs⟩ := DataW.trod_string hu h
        exact ⟨β, M, [.s s], hO, .refl β, .refl M, .cons (.s s) (.nil β), by simp only [Typed, hu]; exact ⟨s, rfl, hs⟩⟩
      · rename_i e
        obtain ⟨⟨hc, hz⟩, h1⟩ := hk
        have hc : e ∈ S := by simpa using hc
        have hz : 0 < P.cellsOf e := Nat.le_of_ble_eq_true hz
        rcases DataW.trod_slice hu h with ⟨rfl, _⟩ | ⟨a, len, cap, elems, rest, q, e1, rfl, _, hb, hl, hm, hlen, hel, hsp, hns⟩
        · exact ⟨β, M, [.nils], hO, .refl β, .refl M, .cons .nils (.nil β), by simp only [Typed, hu]; exact ⟨.nils, [], rfl, ⟨fun x hx => (by cases hx), .inl ⟨rfl, rfl⟩⟩, Nat.zero_le _, fun x hx => (by cases hx)⟩⟩
        injection e1 with e1
        subst e1
        have hone : ∀ i, i < len → ∃ cs, w.cells? 0 (a.add (i * P.cellsOf e)) (P.cellsOf e) = some cs ∧ OpenAs P w n e cs := fun i hi => by
          have := hel i hi
          rw [List.getElem?_eq_getElem (by omega), Option.bind_eq_some_iff] at this
          obtain ⟨cs, g1, g2⟩ := this
          exact ⟨cs, g1, ih e cs _ hc g2⟩
        have hcap : 0 < cap → a.spot = none ∧ a.block < w.heap.size := fun hcap => by
          have hfirst : ∃ cs, w.cells? 0 a (P.cellsOf e) = some cs := by
            by_cases h0 : 0 < len
            · obtain ⟨cs, g, _⟩ := hone 0 h0
              rw [Nat.zero_mul] at g
              exact ⟨cs, g⟩
            · have := (hsp rfl).2 0 (by omega)
              rw [List.getElem?_eq_getElem (by have := (hsp rfl).1; omega), Option.bind_eq_some_iff] at this
              obtain ⟨cs, g, _⟩ := this
              rw [show len + 0 = 0 from by omega, Nat.zero_mul] at g
              exact ⟨cs, g⟩
          obtain ⟨cs, g⟩ := hfirst
          obtain ⟨_, gl, gat⟩ := World.cells?_some g
          have g0 := gat 0 hz
          have : cs[0]? = some cs[0] := List.getElem?_eq_getElem (by omega)
          rw [this] at g0
          exact ⟨spot_none (a := a) g0, World.block_lt_of_cell? w a g0⟩
        obtain ⟨β1, M1, es, hO1, hb1, hx1, hl1, ht1, hd1⟩ := open_elems (P := P) (w := w) (n := n) (L := len) (e := e) (a := a) (fun i hi => by
          obtain ⟨cs, g1, g2⟩ := hone i hi
          rw [g1]
          exact g2) len 0 (by omega) β M hO
        have hsz : Sized (P.cellsOf e) es := fun x hx => by
          obtain ⟨j, hj, rfl⟩ := List.mem_iff_getElem.1 hx
          obtain ⟨cs, g1, g2⟩ := hone j (by omega)
          have := hd1 j _ (List.getElem?_eq_getElem hj)
          rw [Nat.zero_add, g1] at this
          rw [this.1]
          exact (World.cells?_some g1).2.1
        have hcell : ∀ i x, cget (ofL es.flatten 0) i = some x → ∃ v, w.cell? ⟨a.block, a.off + i, none⟩ = some v ∧ Den β1 x v := fun i x hx => by
          rw [cget_ofL, if_pos (Nat.zero_le _), Nat.sub_zero] at hx
          obtain ⟨j, r, c, rfl, hr, hj, hcr⟩ := hsz.at hx
          have hjl : j < len := by have := (List.getElem?_eq_some_iff.1 hj).1; omega
          obtain ⟨cs, g1, g2⟩ := hone j hjl
          have hd := hd1 j c hj
          rw [Nat.zero_add, g1] at hd
          obtain ⟨v, g3, g4⟩ := hd.2 r x hcr
          obtain ⟨_, gl, gat⟩ := World.cells?_some g1
          have g5 := gat r hr
          have hsp0 := (hcap (by omega)).1
          rw [add_at a _ hsp0, add_at _ _ rfl] at g5
          rw [← Nat.add_assoc]
          exact ⟨v, g5.trans g3, g4⟩
        by_cases h0 : 0 < cap
        · obtain ⟨hsp0, hblk⟩ := hcap h0
          obtain ⟨β2, hO2, hb2, hβ⟩ := hO1.push (P.cellsOf e) (ofL es.flatten 0) ⟨a.block, a.off, cap⟩ hblk hcell
          refine ⟨β2, _, [.sl M1.n 0 len 0], hO2, hb1.trans hb2, hx1.trans (.push M1 _), .cons (.sl M1.n 0 len 0 _ a hβ (by simpa using hl) fun _ => ?_) (.nil _), ?_⟩
          · obtain ⟨b, o, sp⟩ := a
            simp only at hsp0
            subst hsp0
            rfl
          · simp only [Typed, hu]
            refine ⟨_, es, rfl, ⟨hsz, .inr ⟨M1.n, 0, 0, true, _, _, by rw [hl1], push_new _, Nat.lt_succ_self _, at_ofL _⟩⟩, by rw [hl1]; omega, fun x hx => Typed.ext (.push M1 _) (ht1 x hx)⟩
        · have hc0 : cap = 0 := by omega
          have hl0 : len = 0 := by omega
          subst hc0 hl0
          have he0 : es = [] := List.length_eq_zero_iff.1 hl1
          subst he0
          rcases hO1.zero with hw | ⟨z1, z2, z3⟩
          · obtain ⟨β2, hO2, hb2, hβ⟩ := hO1.push (P.cellsOf e) (ofL [] 0) ⟨0, 0, 0⟩ hw (fun i x hx => by rw [cget_ofL] at hx; simp at hx)
            refine ⟨β2, _, [.sl M1.n 0 0 0], hO2, hb1.trans hb2, hx1.trans (.push M1 _), .cons (.sl M1.n 0 0 0 _ a hβ (Nat.le_refl _) fun h => absurd h (Nat.lt_irrefl _)) (.nil _), ?_⟩
            simp only [Typed, hu]
            exact ⟨_, [], rfl, ⟨hsz, .inr ⟨M1.n, 0, 0, true, _, _, rfl, push_new _, Nat.lt_succ_self _, at_ofL _⟩⟩, Nat.zero_le _, fun x hx => (by cases hx)⟩
          · refine ⟨β1, M1, [.sl 0 0 0 0], hO1, hb1, hx1, .cons (.sl 0 0 0 0 ⟨0, 0, 0⟩ a z3 (Nat.le_refl _) fun h => absurd h (Nat.lt_irrefl _)) (.nil _), ?_⟩
            simp only [Typed, hu]
            exact ⟨_, [], rfl, ⟨hsz, .inr ⟨0, 0, 0, true, 0, .lf, rfl, z1, z2, .nil _ _⟩⟩, Nat.zero_le _, fun x hx => (by cases hx)⟩
      · rename_i m e
        obtain ⟨hc, hz⟩ := hk
        obtain ⟨xs, q, e1, _, hl, hlen, hf⟩ := DataW.trod_array hu h
        injection e1 with e1
        subst e1
        have hz := Nat.eq_of_beq_eq_true hz
        have hc : e ∈ S := by simpa using hc
        obtain ⟨β', M', cs, k1, k2, k3, k4, k5⟩ := open_cells (P := P) (w := w) (n := n) (e := e) (T := fun t vs => ∃ x, DataW.trod enc P w 0 (fun _ => true) held n t vs = some x) (fun vs ⟨x, hx⟩ => ih e vs x hc hx) m vs (by rw [hl, hz]) (fun i hi => by
          have := hf i hi
          rw [List.getElem?_eq_getElem (by omega)] at this
          exact ⟨_, this⟩) β M hO
        exact ⟨β', M', cs, k1, k2, k3, k4, by simp only [Typed, hu]; exact k5⟩
      · rename_i fs
        obtain ⟨hf, hz⟩ := hk
        have hz := Nat.eq_of_beq_eq_true hz
        obtain ⟨xs, q, e1, _, hl, hlen, hg⟩ := DataW.trod_struct hu h
        injection e1 with e1
        subst e1
        obtain ⟨β', M', cs, k1, k2, k3, k4, k5⟩ := open_fields (P := P) (w := w) (n := n) (S := S) (T := fun t vs => ∃ x, DataW.trod enc P w 0 (fun _ => true) held n t vs = some x) (fun t vs ht ⟨x, hx⟩ => ih t vs x ht hx) fs.toList 0 vs hf (by rw [Nat.zero_add, hl, hz]) (fun f hf => by
          obtain ⟨i, hi, rfl⟩ := List.mem_iff_getElem.1 hf
          have := hg i fs.toList[i] (by simp)
          rw [List.getElem?_eq_getElem (by rw [hlen]; simpa using hi)] at this
          rw [Nat.sub_zero]
          exact ⟨_, this⟩) β M hO
        exact ⟨β', M', cs, k1, k2, k3, k4, by simp only [Typed, hu]; exact k5⟩
end Go.Proofs.Ytaagkdljkpbilaa.Ev
