/-
  A region that draws its order, walked operation by operation: each operation is asked once, in any memory that may be there by then; behind the region every slot's value is known. Conditions: no two operations write one slot, what an operation looks at is written before it or after it by the region's own edges.
-/
import Derived.Test.YtjlhopfmhhafoaaGrow
namespace Go.Proofs.Ytjlhopfmhhafoaa.Kit
open Go Go.RowKit
/-- What is known of a value. -/
inductive Fct where
  | is (x : Value)
  | so (p : Value → World → Prop)
def Fct.hold : Fct → Value → World → Prop
  | .is x, v, _ => v = x
  | .so p, v, w => p v w
def Fct.Stab (G : World → World → Prop) (f : Fct) : Prop := ∀ u w w', G w w' → f.hold u w → f.hold u w'
theorem Fct.stab_is (G : World → World → Prop) (x : Value) : (Fct.is x).Stab G := fun _ _ _ _ h => h
def fat (fs : List Fct) (j : Nat) : Value → World → Prop := (fs.getD j (.so fun _ _ => True)).hold

abbrev NS := List (Tmp × Option Nat) × Option (Tmp × Bool)

def GoSteps (P : Program) (G : World → World → Prop) (a0 : Act) (W0 : World) (K : List Fct → Prop) : List Fct → List Oper → List NS → Prop
  | fs, [], _ => K fs
  | _, _ :: _, [] => False
  | fs, o :: os, n :: ns => ∃ p : Fct, p.Stab G ∧ StepP P (fat fs) a0 W0 G (fun v w w' => p.hold v w' ∧ G w w') n o ∧ GoSteps P G a0 W0 K (fs ++ [p]) os ns

/-- What is left behind the region. -/
def Post : List Oper → List Fct → Act → World → (Act → Prop) → Prop
  | o :: os, f :: fs, a, w, K => match o.dst with
    | none => Post os fs a w K
    | some d => match f with
      | .is x => Post os fs (a.put (some d) x) w K
      | .so p => ∀ u, p u w → Post os fs (a.put (some d) u) w K
  | _, _, a, _, K => K a

section
variable {P : Program} {ops : Array Oper} {V : Nat → Value → World → Prop} {a0 : Act} {W0 : World} {G : World → World → Prop}

theorem all_of_done {sz : Nat} (hok : Ok ops sz) {listed : Array Bool} {a : Act} {w : World} (hw : Way ops V a0 W0 G listed a w) (he : Region.ready .any ops listed = []) : ∀ n i, i < n → i < ops.size → listed[i]? = some true := by
  intro n
  induction n with
  | zero => intro i h; omega
  | succ n ih =>
    intro i hin hi
    by_cases hlt : i < n
    · exact ih i hlt hi
    · obtain rfl : i = n := by omega
      cases hli : listed[i]? with
      | none => have := Array.getElem?_eq_none_iff.1 hli; rw [hw.size] at this; omega
      | some b =>
        cases b with
        | true => rfl
        | false =>
          have hm : i ∈ Region.ready .any ops listed := mem_ready.2 ⟨by rw [Array.getD_eq_getD_getElem?, hli]; rfl, ops[i], Array.getElem?_eq_getElem hi, fun e he hb => by
            have h1 := hok.lt i ops[i] (Array.getElem?_eq_getElem hi) e he hb
            rw [Array.getD_eq_getD_getElem?, ih e.on h1 (by omega)]
            rfl⟩
          rw [he] at hm
          cases hm

theorem wpAny_all {Q : Exit → Act → World → Prop} {sz : Nat} (hG : Pre G) (hok : Ok ops sz) (hsz : a0.tmps.size = sz) (hst : ∀ j u w w', G w w' → V j u w → V j u w')
    (hs : ∀ i o, ops[i]? = some o → Step P ops V a0 W0 G (fun v w w' => V i v w' ∧ G w w') i o)
    (hQ : ∀ listed a w, Way ops V a0 W0 G listed a w → (∀ i, i < ops.size → listed[i]? = some true) → Q .normal a w) :
    ∀ (fuel : Nat) (listed : Array Bool) (a : Act) (w : World), Way ops V a0 W0 G listed a w → ops.size ≤ fuel + listed.count true → wpAny P .any ops Q fuel listed a w := by
  intro fuel
  induction fuel with
  | zero =>
    intro listed a w hw hf
    have hle : listed.count true ≤ listed.size := Array.count_le_size
    have heq : listed.count true = listed.size := by rw [hw.size] at hle ⊢; omega
    rw [Array.count_eq_size] at heq
    have hall : ∀ i, i < ops.size → listed[i]? = some true := fun i hi => by
      have hlt : i < listed.size := by rw [hw.size]; exact hi
      rw [Array.getElem?_eq_getElem hlt]
      exact congrArg some (heq _ (Array.getElem_mem hlt)).symm
    refine ⟨?_, hQ listed a w hw hall⟩
    rw [List.eq_nil_iff_forall_not_mem]
    intro k hk
    obtain ⟨_, o', ho', _⟩ := mem_ready.1 hk
    exact ready_not hk (hall k (Array.getElem?_eq_some_iff.1 ho').1)
  | succ fuel ih =>
    intro listed a w hw hf
    refine ⟨fun h => hQ listed a w hw fun i hi => all_of_done hok hw h _ i hi hi, fun i hi => ?_⟩
    obtain ⟨_, o, ho, _⟩ := mem_ready.1 hi
    have hio : i < ops.size := (Array.getElem?_eq_some_iff.1 ho).1
    have hfacts := hw.facts hok ho hi
    unfold wpOp
    simp only [ho, wantR_eq]
    have hst' := hs i o ho a.eval w hw.grown hfacts (fun x hx => eval_other a x hx)
    have hcount : ops.size ≤ fuel + (listed.setIfInBounds i true).count true := by
      have hil : i < listed.size := by rw [hw.size]; exact hio
      have hf' : listed[i] = false := by
        have := ready_not hi
        rw [Array.getElem?_eq_getElem hil] at this
        simpa using this
      have : (listed.setIfInBounds i true).count true = listed.count true + 1 := by
        rw [Array.setIfInBounds, dif_pos hil, Array.count_set]
        simp [hf']
      omega
    have fin : ∀ v w', V i v w' ∧ G w w' → wpAny P .any ops Q fuel (listed.setIfInBounds i true) (a.put o.dst v) w' := fun v w' hlv =>
      ih _ _ _ (hw.next hG hok hsz hst ho hi hlv.1 hlv.2) hcount
    split
    · rename_i hwant
      simp only [hwant, if_true] at hst'
      exact .inl (wp_of_ups hst' fin)
    · rename_i hwant
      simp only [hwant] at hst'
      exact fin _ _ hst'

def putsOf (a : Act) : List Oper → Act → Act
  | [], b => b
  | o :: os, b => match o.dst with
    | none => putsOf a os b
    | some d => putsOf a os (b.put (some d) (a.eval (.tmp d)))

theorem putsOf_defers (a : Act) : ∀ (l : List Oper) (b : Act), (putsOf a l b).defers = b.defers
  | [], _ => rfl
  | o :: os, b => by
    unfold putsOf
    split
    · exact putsOf_defers a os b
    · rw [putsOf_defers a os]; rfl
theorem putsOf_size (a : Act) : ∀ (l : List Oper) (b : Act), (putsOf a l b).tmps.size = b.tmps.size
  | [], _ => rfl
  | o :: os, b => by
    unfold putsOf
    split
    · exact putsOf_size a os b
    · rw [putsOf_size a os]; simp [Act.put]
theorem putsOf_get (a : Act) (t : Nat) (ht : t < a.tmps.size) : ∀ (l : List Oper) (b : Act), b.tmps.size = a.tmps.size → (b.tmps[t]? = a.tmps[t]? ∨ ∃ o ∈ l, o.dst = some t) → (putsOf a l b).tmps[t]? = a.tmps[t]?
  | [], b, _, h => h.elim id fun ⟨o, h, _⟩ => by cases h
  | o :: os, b, hsz, h => by
    unfold putsOf
    split
    · rename_i hd
      exact putsOf_get a t ht os b hsz (h.imp id fun ⟨o', hm, he⟩ => by
        rcases List.mem_cons.1 hm with rfl | hm
        · rw [hd] at he; cases he
        · exact ⟨o', hm, he⟩)
    · rename_i d hd
      refine putsOf_get a t ht os _ (by simp [Act.put, hsz]) ?_
      by_cases e : d = t
      · subst e
        left
        have : d < b.tmps.size := by rw [hsz]; exact ht
        simp [Act.put, Act.eval, this, ht, Array.getD]
      · rcases h with h | ⟨o', hm, he⟩
        · left; simp [Act.put, Array.getElem?_setIfInBounds_ne e, h]
        · rcases List.mem_cons.1 hm with rfl | hm
          · rw [hd] at he; exact absurd (Option.some.inj he) e
          · exact .inr ⟨o', hm, he⟩

theorem post_puts {a : Act} {w : World} {K : Act → Prop} : ∀ (l : List Oper) (fs : List Fct) (b : Act), l.length = fs.length → (∀ (j : Nat) (o : Oper) (f : Fct) (d : Tmp), l[j]? = some o → fs[j]? = some f → o.dst = some d → f.hold (a.eval (.tmp d)) w) → Post l fs b w K → K (putsOf a l b)
  | [], [], b, _, _, h => h
  | o :: os, f :: fs, b, hl, hv, h => by
    unfold Post at h
    unfold putsOf
    have hv' := fun (j : Nat) (o' : Oper) (f' : Fct) (d : Tmp) h1 h2 h3 => hv (j + 1) o' f' d (by simpa using h1) (by simpa using h2) h3
    have h0 := hv 0 o f
    revert h
    cases hd : o.dst with
    | none => exact fun h => post_puts os fs b (by simpa using hl) hv' h
    | some d =>
      have h0 := h0 d rfl rfl hd
      intro h
      cases f with
      | is x =>
        simp only [Fct.hold] at h0
        show K (putsOf a os (b.put (some d) (a.eval (.tmp d))))
        rw [h0]
        exact post_puts os fs _ (by simpa using hl) hv' h
      | so p => exact post_puts os fs _ (by simpa using hl) hv' (h _ h0)
  | [], _ :: _, _, hl, _, _ => by simp at hl
  | _ :: _, [], _, hl, _, _ => by simp at hl

theorem fat_app {fs gs : List Fct} {j : Nat} (h : j < fs.length) : fat (fs ++ gs) j = fat fs j := by
  unfold fat
  simp only [List.getD_eq_getElem?_getD]
  rw [List.getElem?_append_left h]

theorem Need.mono {V V' : Nat → Value → World → Prop} {ρ : Operand → Value} {w : World} : ∀ (l : List (Tmp × Option Nat)), (∀ t j, (t, some j) ∈ l → V' j = V j) → Need V' a0 ρ w l → Need V a0 ρ w l
  | [], _, _ => trivial
  | (t, some j) :: r, h, hn => ⟨by have := hn.1; rw [h t j (by simp)] at this; exact this, Need.mono r (fun t j hm => h t j (by simp [hm])) hn.2⟩
  | (t, none) :: r, h, hn => ⟨hn.1, Need.mono r (fun t j hm => h t j (by simp [hm])) hn.2⟩

theorem GoSteps.all {K : List Fct → Prop} : ∀ (l : List Oper) (ns : List NS) (fs : List Fct), (∀ (i : Nat) (n : NS), ns[i]? = some n → ∀ t j, (t, some j) ∈ n.1 → j < fs.length + i) → GoSteps P G a0 W0 K fs l ns →
    ∃ gs, gs.length = l.length ∧ (∀ g ∈ gs, g.Stab G) ∧ K (fs ++ gs) ∧ ∀ (i : Nat) (o : Oper), l[i]? = some o → ∃ n, ns[i]? = some n ∧ StepP P (fat (fs ++ gs)) a0 W0 G (fun v w w' => fat (fs ++ gs) (fs.length + i) v w' ∧ G w w') n o
  | [], _, fs, _, h => ⟨[], rfl, (fun g hg => by cases hg), (by rw [List.append_nil]; exact h), (fun i o hi => by simp at hi)⟩
  | _ :: _, [], _, _, h => h.elim
  | o :: os, n :: ns, fs, hn, ⟨p, hp, hstep, hrest⟩ => by
    obtain ⟨gs, h1, h2, h3, h4⟩ := GoSteps.all os ns (fs ++ [p]) (fun i n' hi t j hm => by
      have := hn (i + 1) n' (by simpa using hi) t j hm
      simp only [List.length_append, List.length_singleton]
      omega) hrest
    refine ⟨p :: gs, by simp [h1], fun g hg => ?_, by simpa using h3, fun i o' hi => ?_⟩
    · rcases List.mem_cons.1 hg with rfl | hg
      · exact hp
      · exact h2 g hg
    · cases i with
      | zero =>
        simp only [List.getElem?_cons_zero, Option.some.injEq] at hi
        subst hi
        refine ⟨n, rfl, fun ρ w hg hne hc hf hgl => ?_⟩
        have key := hstep ρ w hg (Need.mono n.1 (fun t j hm => fat_app (by simpa using hn 0 n rfl t j hm)) hne) hc hf hgl
        have e : fat (fs ++ p :: gs) (fs.length + 0) = p.hold := by
          unfold fat
          simp [List.getD_eq_getElem?_getD]
        rw [e]
        exact key
      | succ i =>
        obtain ⟨n', hn', hs'⟩ := h4 i o' (by simpa using hi)
        refine ⟨n', by simpa using hn', ?_⟩
        simp only [List.length_append, List.length_singleton, List.append_assoc, List.singleton_append] at hs'
        rw [show fs.length + (i + 1) = fs.length + 1 + i from by omega]
        exact hs'

/-- The region, operation by operation. -/
theorem wp_region_go {id : Nat} {l : List Oper} {Q : Exit → Act → World → Prop} {w : World} (G : World → World → Prop) (hG : Pre G) (ns : List NS) (hm : P.follows .mixedOrders = true) (sz : Nat) (hsz : a0.tmps.size = sz) (hB : (okB l.toArray sz && guardB l.toArray) = true) (hpl : plan l.toArray = ns)
    (h : GoSteps P G a0 w.drew (fun fs => ∀ w', G w.drew w' → Post l fs a0 w' (fun a => Q .normal a w')) [] l ns) : (Code.region id l.toArray true).wp P Q a0 w := by
  simp only [Bool.and_eq_true] at hB
  have hok := ok_of hB.1
  have hns : ∀ (i : Nat) (o : Oper), l[i]? = some o → ns[i]? = some ((o.looksAt l.toArray).map fun t => (t, srcOf l.toArray i t), o.guard.map fun gw => (((l.toArray[gw.1]?).bind (·.dst)).getD 0, gw.2)) := fun j o hj => by
    subst hpl
    have hjl : j < l.length := (List.getElem?_eq_some_iff.1 hj).1
    simp only [plan, List.size_toArray, List.getElem?_map, List.getElem?_range hjl, Option.map_some, List.getElem?_toArray, hj]
  have hlen : ns.length = l.length := by subst hpl; simp [plan]
  obtain ⟨gs, h1, h2, h3, h4⟩ := GoSteps.all l ns [] (fun i n hi t j hmem => by
    have hil : i < l.length := by rw [← hlen]; exact (List.getElem?_eq_some_iff.1 hi).1
    have := hns i l[i] (List.getElem?_eq_getElem hil)
    rw [hi] at this
    injection this with this
    subst this
    simp only [List.mem_map] at hmem
    obtain ⟨t', _, he⟩ := hmem
    injection he with he1 he2
    have := bef_lt hok (srcOf_some he2).1
    simpa using this) h
  simp only [List.nil_append, List.length_nil, Nat.zero_add] at h3 h4
  refine wp_region_any hm (wpAny_all (V := fat gs) (W0 := w.drew) hG hok hsz (fun j u x y hg hv => ?_) (fun i o hi => ?_) (fun listed a w' hw hall => ?_) _ _ _ _ ?_ ?_)
  · unfold fat at *
    rw [List.getD_eq_getElem?_getD] at *
    cases hj : gs[j]? with
    | none => simp [Fct.hold]
    | some p => simp only [hj, Option.getD_some] at hv ⊢; exact h2 p (List.mem_of_getElem? hj) u x y hg hv
  · have hi' : l[i]? = some o := by simpa using hi
    obtain ⟨n, hn, hs⟩ := h4 i o hi'
    rw [hns i o hi'] at hn
    injection hn with hn
    subst hn
    exact StepP.step hB.2 (by simpa using List.mem_of_getElem? hi') hs
  · have hp := post_puts (a := a) l gs a0 h1.symm (fun j o f d ho hf hd => by
      have := hw.vals j o d (by simpa using ho) hd (hall j (by simpa using (List.getElem?_eq_some_iff.1 ho).1))
      unfold fat at this
      rw [List.getD_eq_getElem?_getD, hf] at this
      exact this) (h3 w' hw.grown)
    have e : putsOf a l a0 = a := by
      have e1 : (putsOf a l a0).tmps = a.tmps := by
        apply Array.ext_getElem?
        intro t
        by_cases ht : t < a.tmps.size
        · refine putsOf_get a t ht l a0 hw.tsize.symm ?_
          by_cases hex : ∃ o ∈ l, o.dst = some t
          · exact .inr hex
          · left
            have := hw.rest t fun j o ho hd _ => hex ⟨o, List.mem_of_getElem? (by simpa using ho), hd⟩
            simp only [Act.eval, Array.getD_eq_getD_getElem?] at this
            have h5 : t < a0.tmps.size := by rw [← hw.tsize]; exact ht
            simp only [Array.getElem?_eq_getElem ht, Array.getElem?_eq_getElem h5, Option.getD_some] at this ⊢
            rw [this]
        · rw [Array.getElem?_eq_none (xs := a.tmps) (by omega), Array.getElem?_eq_none (by rw [putsOf_size, ← hw.tsize]; omega)]
      have e2 : (putsOf a l a0).defers = a.defers := by rw [putsOf_defers, hw.defers]
      cases a; cases h : putsOf _ l a0; simp_all
    rw [e] at hp
    exact hp
  · have hn : ∀ j : Nat, (Array.replicate l.toArray.size false)[j]? ≠ some true := fun j => by
      rw [Array.getElem?_replicate]; split <;> simp
    exact ⟨by simp, rfl, rfl, hG.refl _, fun i j h => absurd h (hn i), fun j o d _ _ h => absurd h (hn j), fun t _ => rfl⟩
  · simp

theorem wpAny_fin {Q : Exit → Act → World → Prop} {sz : Nat} (hG : Pre G) (hok : Ok ops sz) (hsz : a0.tmps.size = sz) (hL : lastB ops = true) (hpos : 0 < ops.size) (hst : ∀ j u w w', G w w' → V j u w → V j u w')
    (hs : ∀ i o, i + 1 < ops.size → ops[i]? = some o → Step P ops V a0 W0 G (fun v w w' => V i v w' ∧ G w w') i o)
    (hgd : ∀ o, ops[ops.size - 1]? = some o → o.guard = none)
    (hQ : ∀ listed a w o, Way ops V a0 W0 G listed a w → (∀ i, i + 1 < ops.size → listed[i]? = some true) → listed[ops.size - 1]? ≠ some true → ops[ops.size - 1]? = some o → o.wp P a w (fun a w => Q .normal a w) Q) :
    ∀ (fuel : Nat) (listed : Array Bool) (a : Act) (w : World), Way ops V a0 W0 G listed a w → listed[ops.size - 1]? ≠ some true → ops.size ≤ fuel + listed.count true → wpAny P .any ops Q fuel listed a w := by
  intro fuel
  induction fuel with
  | zero =>
    intro listed a w hw hnl hf
    exfalso
    have hle : listed.count true ≤ listed.size := Array.count_le_size
    have heq : listed.count true = listed.size := by rw [hw.size] at hle ⊢; omega
    rw [Array.count_eq_size] at heq
    have hlt : ops.size - 1 < listed.size := by rw [hw.size]; omega
    exact hnl (by rw [Array.getElem?_eq_getElem hlt]; exact congrArg some (heq _ (Array.getElem_mem hlt)).symm)
  | succ fuel ih =>
    intro listed a w hw hnl hf
    refine ⟨fun h => absurd (all_of_done hok hw h ops.size (ops.size - 1) (by omega) (by omega)) hnl, fun i hi => ?_⟩
    obtain ⟨_, o, ho, _⟩ := mem_ready.1 hi
    have hio : i < ops.size := (Array.getElem?_eq_some_iff.1 ho).1
    have hil : i < listed.size := by rw [hw.size]; exact hio
    unfold wpOp
    simp only [ho, wantR_eq]
    by_cases hlast : i = ops.size - 1
    · have hall : ∀ n i', ops.size - 1 - i' < n → i' + 1 < ops.size → listed[i']? = some true := by
        intro n
        induction n with
        | zero => intro i' h; omega
        | succ n ihn =>
          intro i' hin hi'
          simp only [lastB, List.all_eq_true, List.mem_range, List.any_eq_true] at hL
          obtain ⟨k, hk, hbk⟩ := hL i' (by omega)
          have hlt := bef_lt hok hbk
          by_cases hkl : k = ops.size - 1
          · subst hkl; rw [← hlast] at hbk; exact ready_bef hi hbk
          · exact hw.shut k i' (ihn k (by omega) (by omega)) hbk
      have hdone : Region.ready .any ops (listed.setIfInBounds i true) = [] := by
        rw [List.eq_nil_iff_forall_not_mem]
        intro k hk
        obtain ⟨h1, o', ho', _⟩ := mem_ready.1 hk
        have hko : k < ops.size := (Array.getElem?_eq_some_iff.1 ho').1
        refine ready_not hk ?_
        by_cases e : i = k
        · subst e; simp [hw.size, hio]
        · rw [Array.getElem?_setIfInBounds_ne e]; exact hall ops.size k (by omega) (by omega)
      have hw1 : wantR ops a.eval o = true := by
        unfold wantR
        rw [hgd o (by rw [← hlast]; exact ho)]
      rw [hw1, if_pos rfl]
      refine .inl (Oper.wp_mono ?_ (hQ listed a w o hw (fun i' hi' => hall ops.size i' (by omega) hi') hnl (by rw [← hlast]; exact ho)))
      intro a' w' hq
      cases fuel with
      | zero => exact ⟨hdone, hq⟩
      | succ f => exact ⟨fun _ => hq, fun k hk => by rw [hdone] at hk; cases hk⟩
    · have hfacts := hw.facts hok ho hi
      have hst' := hs i o (by omega) ho a.eval w hw.grown hfacts (fun x hx => eval_other a x hx)
      have hcount : ops.size ≤ fuel + (listed.setIfInBounds i true).count true := by
        have hf' : listed[i] = false := by
          have := ready_not hi
          rw [Array.getElem?_eq_getElem hil] at this
          simpa using this
        have : (listed.setIfInBounds i true).count true = listed.count true + 1 := by
          rw [Array.setIfInBounds, dif_pos hil, Array.count_set]
          simp [hf']
        omega
      have fin : ∀ v w', V i v w' ∧ G w w' → wpAny P .any ops Q fuel (listed.setIfInBounds i true) (a.put o.dst v) w' := fun v w' hlv =>
        ih _ _ _ (hw.next hG hok hsz hst ho hi hlv.1 hlv.2) (fun h => by
          rcases listed_set h with h | h
          · exact hlast h.symm
          · exact hnl h) hcount
      split
      · rename_i hwant
        simp only [hwant, if_true] at hst'
        exact .inl (wp_of_ups hst' fin)
      · rename_i hwant
        simp only [hwant] at hst'
        exact fin _ _ hst'

/-- The region whose last operation may do anything: it runs behind all others. -/
theorem wp_region_fin {id : Nat} {l : List Oper} {o : Oper} {Q : Exit → Act → World → Prop} {w : World} (G : World → World → Prop) (hG : Pre G) (ns : List NS) (hm : P.follows .mixedOrders = true) (sz : Nat) (hsz : a0.tmps.size = sz) (hB : (okB (l ++ [o]).toArray sz && (lastB (l ++ [o]).toArray && guardB (l ++ [o]).toArray)) = true) (hpl : plan (l ++ [o]).toArray = ns) (hgd : o.guard = none)
    (h : GoSteps P G a0 w.drew (fun fs => ∀ w', G w.drew w' → Post l fs a0 w' (fun a => o.wp P a w' (fun a w => Q .normal a w) Q)) [] l ns) : (Code.region id (l ++ [o]).toArray true).wp P Q a0 w := by
  simp only [Bool.and_eq_true] at hB
  obtain ⟨hB1, hB2, hB3⟩ := hB
  have hok := ok_of hB1
  have hns : ∀ (i : Nat) (q : Oper), (l ++ [o])[i]? = some q → ns[i]? = some ((q.looksAt (l ++ [o]).toArray).map fun t => (t, srcOf (l ++ [o]).toArray i t), q.guard.map fun gw => ((((l ++ [o]).toArray[gw.1]?).bind (·.dst)).getD 0, gw.2)) := fun j q hj => by
    subst hpl
    have hjl : j < (l ++ [o]).length := (List.getElem?_eq_some_iff.1 hj).1
    simp only [plan, List.size_toArray, List.getElem?_map, List.getElem?_range hjl, Option.map_some, List.getElem?_toArray, hj]
  have hlen : ns.length = (l ++ [o]).length := by subst hpl; simp [plan]
  obtain ⟨gs, h1, h2, h3, h4⟩ := GoSteps.all l ns [] (fun i n hi t j hmem => by
    have hil : i < (l ++ [o]).length := by rw [← hlen]; exact (List.getElem?_eq_some_iff.1 hi).1
    have := hns i (l ++ [o])[i] (List.getElem?_eq_getElem hil)
    rw [hi] at this
    injection this with this
    subst this
    simp only [List.mem_map] at hmem
    obtain ⟨t', _, he⟩ := hmem
    injection he with he1 he2
    have := bef_lt hok (srcOf_some he2).1
    simpa using this) h
  simp only [List.nil_append, List.length_nil, Nat.zero_add] at h3 h4
  have hsize : (l ++ [o]).toArray.size = l.length + 1 := by simp
  refine wp_region_any hm (wpAny_fin (V := fat gs) (W0 := w.drew) hG hok hsz hB2 (by rw [hsize]; omega) (fun j u x y hg hv => ?_) (fun i q hil hi => ?_) (fun q hq => ?_) (fun listed a w' q hw hall hnl hq => ?_) _ _ _ _ ?_ ?_ ?_)
  · unfold fat at *
    rw [List.getD_eq_getElem?_getD] at *
    cases hj : gs[j]? with
    | none => simp [Fct.hold]
    | some p => simp only [hj, Option.getD_some] at hv ⊢; exact h2 p (List.mem_of_getElem? hj) u x y hg hv
  · rw [hsize] at hil
    have hi' : (l ++ [o])[i]? = some q := by simpa using hi
    have hi2 : l[i]? = some q := by rw [List.getElem?_append_left (by omega)] at hi'; exact hi'
    obtain ⟨n, hn, hs⟩ := h4 i q hi2
    rw [hns i q hi'] at hn
    injection hn with hn
    subst hn
    exact StepP.step hB3 (by simpa using List.mem_of_getElem? hi') hs
  · have : q = o := by simpa using hq.symm
    rw [this]
    exact hgd
  · have hqo : q = o := by simpa using hq.symm
    subst hqo
    rw [hsize] at hall hnl
    have hp := post_puts (a := a) l gs a0 h1.symm (fun j o' f d ho hf hd => by
      have hjl : j < l.length := (List.getElem?_eq_some_iff.1 ho).1
      have ho' : (l ++ [q]).toArray[j]? = some o' := by simp [List.getElem?_append_left hjl, ho]
      have := hw.vals j o' d ho' hd (hall j (by omega))
      unfold fat at this
      rw [List.getD_eq_getElem?_getD, hf] at this
      exact this) (h3 w' hw.grown)
    have e : putsOf a l a0 = a := by
      have e1 : (putsOf a l a0).tmps = a.tmps := by
        apply Array.ext_getElem?
        intro t
        by_cases ht : t < a.tmps.size
        · refine putsOf_get a t ht l a0 hw.tsize.symm ?_
          by_cases hex : ∃ o ∈ l, o.dst = some t
          · exact .inr hex
          · left
            have := hw.rest t fun j o' ho hd hlj => by
              have hj : (l ++ [q])[j]? = some o' := by simpa using ho
              rcases Nat.lt_or_ge j l.length with hjl | hjl
              · rw [List.getElem?_append_left hjl] at hj
                exact hex ⟨o', List.mem_of_getElem? hj, hd⟩
              · have hj2 : j < l.length + 1 := by have := (List.getElem?_eq_some_iff.1 hj).1; simpa using this
                obtain rfl : j = l.length := by omega
                exact hnl (by simpa using hlj)
            simp only [Act.eval, Array.getD_eq_getD_getElem?] at this
            have h5 : t < a0.tmps.size := by rw [← hw.tsize]; exact ht
            simp only [Array.getElem?_eq_getElem ht, Array.getElem?_eq_getElem h5, Option.getD_some] at this ⊢
            rw [this]
        · rw [Array.getElem?_eq_none (xs := a.tmps) (by omega), Array.getElem?_eq_none (by rw [putsOf_size, ← hw.tsize]; omega)]
      have e2 : (putsOf a l a0).defers = a.defers := by rw [putsOf_defers, hw.defers]
      cases a; cases h : putsOf _ l a0; simp_all
    rw [e] at hp
    exact hp
  · have hn : ∀ j : Nat, (Array.replicate (l ++ [o]).toArray.size false)[j]? ≠ some true := fun j => by
      rw [Array.getElem?_replicate]; split <;> simp
    exact ⟨by simp, rfl, rfl, hG.refl _, fun i j h => absurd h (hn i), fun j o d _ _ h => absurd h (hn j), fun t _ => rfl⟩
  · rw [Array.getElem?_replicate]; split <;> simp
  · simp

theorem wp_region_fin' {id : Nat} {ops l : List Oper} {o : Oper} {Q : Exit → Act → World → Prop} {w : World} (hl : ops.dropLast = l) (ho : ops.getLast? = some o) (G : World → World → Prop) (hG : Pre G) (ns : List NS) (hm : P.follows .mixedOrders = true) (sz : Nat) (hsz : a0.tmps.size = sz) (hB : (okB ops.toArray sz && (lastB ops.toArray && guardB ops.toArray)) = true) (hpl : plan ops.toArray = ns) (hgd : o.guard = none)
    (h : GoSteps P G a0 w.drew (fun fs => ∀ w', G w.drew w' → Post l fs a0 w' (fun a => o.wp P a w' (fun a w => Q .normal a w) Q)) [] l ns) : (Code.region id ops.toArray true).wp P Q a0 w := by
  have e : ops = l ++ [o] := by
    have hne : ops ≠ [] := fun e => by rw [e] at ho; cases ho
    have h1 := List.dropLast_concat_getLast hne
    rw [List.getLast?_eq_some_getLast hne] at ho
    injection ho with ho
    rw [ho, hl] at h1
    exact h1.symm
  subst e
  exact wp_region_fin G hG ns hm sz hsz hB hpl hgd h

/-- Where the operation stands. -/
def Cx (fs : List Fct) (a0 : Act) (W0 : World) (G : World → World → Prop) (n : NS) (ρ : Operand → Value) (w : World) : Prop :=
  G W0 w ∧ Need (fat fs) a0 ρ w n.1 ∧ (∀ v, ρ (.const v) = v) ∧ (∀ f, ρ (.func f) = .func (.func f) #[] #[]) ∧ (∀ g, ρ (.global g) = .pointer (some ⟨g, 0, none⟩))

variable {K : List Fct → Prop} {fs : List Fct} {o : Oper} {os : List Oper} {n : NS} {ns : List NS}
/-- An operation that leaves memory alone. -/
theorem go_val (hG : Pre G) {x : Value} (h : ∀ ρ w, Cx fs a0 W0 G n ρ w → wantP ρ n.2 = true ∧ (execOp ρ o).run P w = .ok (.value x) w) (k : GoSteps P G a0 W0 K (fs ++ [.is x]) os ns) : GoSteps P G a0 W0 K fs (o :: os) (n :: ns) :=
  ⟨.is x, Fct.stab_is _ _, fun ρ w h1 h2 h3 h4 h5 => by
    obtain ⟨hw, hr⟩ := h ρ w ⟨h1, h2, h3, h4, h5⟩
    rw [hw, if_pos rfl, hr]
    exact ⟨rfl, hG.refl _⟩, k⟩
/-- An operation that does not run. -/
theorem go_not (hG : Pre G) (h : ∀ ρ w, Cx fs a0 W0 G n ρ w → wantP ρ n.2 = false) (k : GoSteps P G a0 W0 K (fs ++ [.is undef]) os ns) : GoSteps P G a0 W0 K fs (o :: os) (n :: ns) :=
  ⟨.is undef, Fct.stab_is _ _, fun ρ w h1 h2 h3 h4 h5 => by
    have hw := h ρ w ⟨h1, h2, h3, h4, h5⟩
    rw [hw]
    exact ⟨rfl, hG.refl _⟩, k⟩
/-- A call's promise: it returns a value of which p is known, memory goes on as G allows. -/
def Ret (G : World → World → Prop) (p : Value → World → Prop) (w : World) (e : Ending) (w' : World) : Prop := ∃ v, e = .returned v ∧ p v w' ∧ G w w'
/-- A call whose value is known. -/
theorem go_callv {x : Value} (h : ∀ ρ w, Cx fs a0 W0 G n ρ w → wantP ρ n.2 = true ∧ ∃ f args, (execOp ρ o).run P w = .ok (.enter f args) w ∧ Calls P f args w (Ret G (fun v _ => v = x) w)) (k : GoSteps P G a0 W0 K (fs ++ [.is x]) os ns) : GoSteps P G a0 W0 K fs (o :: os) (n :: ns) :=
  ⟨.is x, Fct.stab_is _ _, fun ρ w h1 h2 h3 h4 h5 => by
    obtain ⟨hw, f, args, hr, hc⟩ := h ρ w ⟨h1, h2, h3, h4, h5⟩
    rw [hw, if_pos rfl, hr]
    exact hc, k⟩
end
theorem Ret.imp {G G' : World → World → Prop} {p p' : Value → World → Prop} {w : World} {e : Ending} {w' : World} (h : Ret G p w e w') (hG : G w w' → G' w w') (hp : ∀ v, p v w' → G w w' → p' v w') : Ret G' p' w e w' := by
  obtain ⟨v, he, hv, hg⟩ := h
  exact ⟨v, he, hp v hv hg, hG hg⟩
end Go.Proofs.Ytjlhopfmhhafoaa.Kit
