/-
  More of the regions: calls whose value is known in part, the last operations. Conditions: none.
-/
import Derived.Test.YtjlhopfmhhafoaaReg
namespace Go.Proofs.Ytjlhopfmhhafoaa.Kit
open Go Go.RowKit
section
variable {P : Program} {ops : Array Oper} {V : Nat → Value → World → Prop} {a0 : Act} {W0 : World} {G : World → World → Prop}

/-- The last two operations run behind all others, one behind the other. -/
def twoB (ops : Array Oper) : Bool :=
  bef ops (ops.size - 1) (ops.size - 2) && (List.range (ops.size - 2)).all fun j => (List.range (ops.size - 1)).any fun i => bef ops i j

theorem wpAny_two {Q : Exit → Act → World → Prop} {sz : Nat} (hG : Pre G) (hok : Ok ops sz) (hsz : a0.tmps.size = sz) (hL : twoB ops = true) (hpos : 2 ≤ ops.size) (hst : ∀ j u w w', G w w' → V j u w → V j u w')
    (hs : ∀ i o, i + 2 < ops.size → ops[i]? = some o → Step P ops V a0 W0 G (fun v w w' => V i v w' ∧ G w w') i o)
    (hgd : ∀ o, (ops[ops.size - 1]? = some o ∨ ops[ops.size - 2]? = some o) → o.guard = none)
    (hQ : ∀ listed a w o o', Way ops V a0 W0 G listed a w → (∀ i, i + 2 < ops.size → listed[i]? = some true) → listed[ops.size - 1]? ≠ some true → listed[ops.size - 2]? ≠ some true → ops[ops.size - 2]? = some o → ops[ops.size - 1]? = some o' → o.wp P a w (fun a w => o'.wp P a w (fun a w => Q .normal a w) Q) Q) :
    ∀ (fuel : Nat) (listed : Array Bool) (a : Act) (w : World), Way ops V a0 W0 G listed a w → listed[ops.size - 2]? ≠ some true → ops.size ≤ fuel + listed.count true → wpAny P .any ops Q fuel listed a w := by
  simp only [twoB, Bool.and_eq_true] at hL
  obtain ⟨hL1, hL2⟩ := hL
  intro fuel
  induction fuel with
  | zero =>
    intro listed a w hw hnl hf
    exfalso
    have hle : listed.count true ≤ listed.size := Array.count_le_size
    have heq : listed.count true = listed.size := by rw [hw.size] at hle ⊢; omega
    rw [Array.count_eq_size] at heq
    have hlt : ops.size - 2 < listed.size := by rw [hw.size]; omega
    exact hnl (by rw [Array.getElem?_eq_getElem hlt]; exact congrArg some (heq _ (Array.getElem_mem hlt)).symm)
  | succ fuel ih =>
    intro listed a w hw hnl hf
    have hnl1 : listed[ops.size - 1]? ≠ some true := fun h => hnl (hw.shut _ _ h hL1)
    refine ⟨fun h => absurd (all_of_done hok hw h ops.size (ops.size - 2) (by omega) (by omega)) hnl, fun i hi => ?_⟩
    obtain ⟨_, o, ho, _⟩ := mem_ready.1 hi
    have hio : i < ops.size := (Array.getElem?_eq_some_iff.1 ho).1
    have hil : i < listed.size := by rw [hw.size]; exact hio
    have hcount : ops.size ≤ fuel + (listed.setIfInBounds i true).count true := by
      have hf' : listed[i] = false := by
        have := ready_not hi
        rw [Array.getElem?_eq_getElem hil] at this
        simpa using this
      have : (listed.setIfInBounds i true).count true = listed.count true + 1 := by
        rw [Array.setIfInBounds, dif_pos hil, Array.count_set]
        simp [hf']
      omega
    by_cases hlast : i = ops.size - 2
    · have hall : ∀ n i', ops.size - 2 - i' < n → i' + 2 < ops.size → listed[i']? = some true := by
        intro n
        induction n with
        | zero => intro i' h; omega
        | succ n ihn =>
          intro i' hin hi'
          simp only [List.all_eq_true, List.mem_range, List.any_eq_true] at hL2
          obtain ⟨k, hk, hbk⟩ := hL2 i' (by omega)
          have hlt := bef_lt hok hbk
          by_cases hkl : k = ops.size - 2
          · subst hkl; rw [← hlast] at hbk; exact ready_bef hi hbk
          · exact hw.shut k i' (ihn k (by omega) (by omega)) hbk
      have ho2 : ops[ops.size - 2]? = some o := by rw [← hlast]; exact ho
      obtain ⟨o', ho'⟩ : ∃ o', ops[ops.size - 1]? = some o' := ⟨_, Array.getElem?_eq_getElem (by omega : ops.size - 1 < ops.size)⟩
      unfold wpOp
      simp only [ho, wantR_eq]
      have hw1 : wantR ops a.eval o = true := by
        unfold wantR
        rw [hgd o (.inr ho2)]
      rw [hw1, if_pos rfl]
      refine .inl (Oper.wp_mono ?_ (hQ listed a w o o' hw (fun i' hi' => hall ops.size i' (by omega) hi') hnl1 hnl ho2 ho'))
      intro a' w' hq
      cases fuel with
      | zero =>
        exfalso
        have hle : (listed.setIfInBounds i true).count true ≤ (listed.setIfInBounds i true).size := Array.count_le_size
        have heq : (listed.setIfInBounds i true).count true = (listed.setIfInBounds i true).size := by
          rw [Array.size_setIfInBounds, hw.size] at hle ⊢; omega
        rw [Array.count_eq_size] at heq
        have hlt : ops.size - 1 < (listed.setIfInBounds i true).size := by rw [Array.size_setIfInBounds, hw.size]; omega
        have h1 : (listed.setIfInBounds i true)[ops.size - 1]? = some true := by
          rw [Array.getElem?_eq_getElem hlt]; exact congrArg some (heq _ (Array.getElem_mem hlt)).symm
        rw [Array.getElem?_setIfInBounds_ne (by omega)] at h1
        exact hnl1 h1
      | succ f =>
        have hone : ∀ k ∈ Region.ready .any ops (listed.setIfInBounds i true), k = ops.size - 1 := by
          intro k hk
          obtain ⟨h1, o'', ho'', _⟩ := mem_ready.1 hk
          have hko : k < ops.size := (Array.getElem?_eq_some_iff.1 ho'').1
          rcases Nat.lt_or_ge k (ops.size - 2) with hlt | hge
          · exfalso
            refine ready_not hk ?_
            rw [Array.getElem?_setIfInBounds_ne (by omega)]
            exact hall ops.size k (by omega) (by omega)
          · by_cases e : k = ops.size - 2
            · exfalso
              refine ready_not hk ?_
              subst e
              simp [← hlast, hw.size, hio]
            · omega
        refine ⟨fun h => ?_, fun k hk => ?_⟩
        · exfalso
          have hm : ops.size - 1 ∈ Region.ready .any ops (listed.setIfInBounds i true) := by
            refine mem_ready.2 ⟨?_, o', ho', fun e he hb => ?_⟩
            · rw [Array.getD_eq_getD_getElem?, Array.getElem?_setIfInBounds_ne (by omega)]
              have hlt : ops.size - 1 < listed.size := by rw [hw.size]; omega
              rw [Array.getElem?_eq_getElem hlt] at hnl1 ⊢
              cases hb2 : listed[ops.size - 1] with
              | true => rw [hb2] at hnl1; exact absurd rfl hnl1
              | false => rfl
            · have h1 := hok.lt _ o' ho' e he hb
              rw [Array.getD_eq_getD_getElem?]
              by_cases e2 : e.on = ops.size - 2
              · rw [e2, ← hlast]; simp [hw.size, hio]
              · rw [Array.getElem?_setIfInBounds_ne (by omega), hall ops.size e.on (by omega) (by omega)]
                rfl
          rw [h] at hm
          cases hm
        · obtain rfl := hone k hk
          unfold wpOp
          simp only [ho', wantR_eq]
          have hw2 : wantR ops a'.eval o' = true := by
            unfold wantR
            rw [hgd o' (.inl ho')]
          rw [hw2, if_pos rfl]
          refine .inl (Oper.wp_mono ?_ hq)
          intro a2 w2 hq2
          have hdone : Region.ready .any ops ((listed.setIfInBounds i true).setIfInBounds (ops.size - 1) true) = [] := by
            rw [List.eq_nil_iff_forall_not_mem]
            intro k hk
            obtain ⟨h1, o'', ho'', _⟩ := mem_ready.1 hk
            have hko : k < ops.size := (Array.getElem?_eq_some_iff.1 ho'').1
            refine ready_not hk ?_
            by_cases e1 : ops.size - 1 = k
            · subst e1; simp [hw.size, hko]
            · rw [Array.getElem?_setIfInBounds_ne e1]
              by_cases e2 : i = k
              · subst e2; simp [hw.size, hio]
              · rw [Array.getElem?_setIfInBounds_ne e2]; exact hall ops.size k (by omega) (by omega)
          cases f with
          | zero => exact ⟨hdone, hq2⟩
          | succ f => exact ⟨fun _ => hq2, fun k hk => by rw [hdone] at hk; cases hk⟩
    · have hi1 : i ≠ ops.size - 1 := fun e => by
        subst e
        exact hnl (ready_bef hi hL1)
      unfold wpOp
      simp only [ho, wantR_eq]
      have hfacts := hw.facts hok ho hi
      have hst' := hs i o (by omega) ho a.eval w hw.grown hfacts (fun x hx => eval_other a x hx)
      have fin : ∀ v w', V i v w' ∧ G w w' → wpAny P .any ops Q fuel (listed.setIfInBounds i true) (a.put o.dst v) w' := fun v w' hlv =>
        ih _ _ _ (hw.next hG hok hsz hst ho hi hlv.1 hlv.2) (fun h => by
          rcases listed_set h with h | h
          · exact hlast h.symm
          · exact hnl h) hcount
      split
      · rename_i hwant
        simp only [hwant, if_true] at hst'
        exact .inl (wp_of_ups hst' fin)
      · rename_i hwant
        simp only [hwant] at hst'
        exact fin _ _ hst'

/-- The region whose last two operations may do anything: they run behind all others. -/
theorem wp_region_two {id : Nat} {ops l : List Oper} {o o' : Oper} {Q : Exit → Act → World → Prop} {w : World} (hl : ops = l ++ [o, o']) (G : World → World → Prop) (hG : Pre G) (ns : List NS) (hm : P.follows .mixedOrders = true) (sz : Nat) (hsz : a0.tmps.size = sz) (hB : (okB ops.toArray sz && (twoB ops.toArray && guardB ops.toArray)) = true) (hpl : plan ops.toArray = ns) (hgd : o.guard = none) (hgd' : o'.guard = none)
    (h : GoSteps P G a0 w.drew (fun fs => ∀ w', G w.drew w' → Post l fs a0 w' (fun a => o.wp P a w' (fun a w => o'.wp P a w (fun a w => Q .normal a w) Q) Q)) [] l ns) : (Code.region id ops.toArray true).wp P Q a0 w := by
  subst hl
  simp only [Bool.and_eq_true] at hB
  obtain ⟨hB1, hB2, hB3⟩ := hB
  have hok := ok_of hB1
  have hns : ∀ (i : Nat) (q : Oper), (l ++ [o, o'])[i]? = some q → ns[i]? = some ((q.looksAt (l ++ [o, o']).toArray).map fun t => (t, srcOf (l ++ [o, o']).toArray i t), q.guard.map fun gw => ((((l ++ [o, o']).toArray[gw.1]?).bind (·.dst)).getD 0, gw.2)) := fun j q hj => by
    subst hpl
    have hjl : j < (l ++ [o, o']).length := (List.getElem?_eq_some_iff.1 hj).1
    simp only [plan, List.size_toArray, List.getElem?_map, List.getElem?_range hjl, Option.map_some, List.getElem?_toArray, hj]
  have hlen : ns.length = (l ++ [o, o']).length := by subst hpl; simp [plan]
  obtain ⟨gs, h1, h2, h3, h4⟩ := GoSteps.all l ns [] (fun i n hi t j hmem => by
    have hil : i < (l ++ [o, o']).length := by rw [← hlen]; exact (List.getElem?_eq_some_iff.1 hi).1
    have := hns i (l ++ [o, o'])[i] (List.getElem?_eq_getElem hil)
    rw [hi] at this
    injection this with this
    subst this
    simp only [List.mem_map] at hmem
    obtain ⟨t', _, he⟩ := hmem
    injection he with he1 he2
    have := bef_lt hok (srcOf_some he2).1
    simpa using this) h
  simp only [List.nil_append, List.length_nil, Nat.zero_add] at h3 h4
  have hsize : (l ++ [o, o']).toArray.size = l.length + 2 := by simp
  have hat1 : (l ++ [o, o']).toArray[l.length + 2 - 1]? = some o' := by simp
  have hat2 : (l ++ [o, o']).toArray[l.length + 2 - 2]? = some o := by simp
  refine wp_region_any hm (wpAny_two (V := fat gs) (W0 := w.drew) hG hok hsz hB2 (by rw [hsize]; omega) (fun j u x y hg hv => ?_) (fun i q hil hi => ?_) (fun q hq => ?_) (fun listed a w' q q' hw hall hnl hnl2 hq hq' => ?_) _ _ _ _ ?_ ?_ ?_)
  · unfold fat at *
    rw [List.getD_eq_getElem?_getD] at *
    cases hj : gs[j]? with
    | none => simp [Fct.hold]
    | some p => simp only [hj, Option.getD_some] at hv ⊢; exact h2 p (List.mem_of_getElem? hj) u x y hg hv
  · rw [hsize] at hil
    have hi' : (l ++ [o, o'])[i]? = some q := by simpa using hi
    have hi2 : l[i]? = some q := by rw [List.getElem?_append_left (by omega)] at hi'; exact hi'
    obtain ⟨n, hn, hs⟩ := h4 i q hi2
    rw [hns i q hi'] at hn
    injection hn with hn
    subst hn
    exact StepP.step hB3 (by simpa using List.mem_of_getElem? hi') hs
  · rw [hsize, hat1, hat2] at hq
    rcases hq with hq | hq
    · injection hq with hq; rw [← hq]; exact hgd'
    · injection hq with hq; rw [← hq]; exact hgd
  · rw [hsize] at hall hnl hnl2 hq hq'
    rw [hat2] at hq
    rw [hat1] at hq'
    injection hq with hq
    injection hq' with hq'
    subst hq hq'
    have hp := post_puts (a := a) l gs a0 h1.symm (fun j o1 f d ho hf hd => by
      have hjl : j < l.length := (List.getElem?_eq_some_iff.1 ho).1
      have ho' : (l ++ [o, o']).toArray[j]? = some o1 := by simp [List.getElem?_append_left hjl, ho]
      have := hw.vals j o1 d ho' hd (hall j (by omega))
      unfold fat at this
      rw [List.getD_eq_getElem?_getD, hf] at this
      exact this) (h3 w' hw.grown)
    have e : putsOf a l a0 = a := by
      have e1 : (putsOf a l a0).tmps = a.tmps := by
        apply Array.ext_getElem?
        intro t
        by_cases ht : t < a.tmps.size
        · refine putsOf_get a t ht l a0 hw.tsize.symm ?_
          by_cases hex : ∃ o ∈ l, o.dst = some t
          · exact .inr hex
          · left
            have := hw.rest t fun j o1 ho hd hlj => by
              have hj : (l ++ [o, o'])[j]? = some o1 := by simpa using ho
              rcases Nat.lt_or_ge j l.length with hjl | hjl
              · rw [List.getElem?_append_left hjl] at hj
                exact hex ⟨o1, List.mem_of_getElem? hj, hd⟩
              · have hj2 : j < l.length + 2 := by have := (List.getElem?_eq_some_iff.1 hj).1; simpa using this
                rcases (by omega : j = l.length ∨ j = l.length + 1) with rfl | rfl
                · exact hnl2 (by simpa using hlj)
                · exact hnl (by simpa using hlj)
            simp only [Act.eval, Array.getD_eq_getD_getElem?] at this
            have h5 : t < a0.tmps.size := by rw [← hw.tsize]; exact ht
            simp only [Array.getElem?_eq_getElem ht, Array.getElem?_eq_getElem h5, Option.getD_some] at this ⊢
            rw [this]
        · rw [Array.getElem?_eq_none (xs := a.tmps) (by omega), Array.getElem?_eq_none (by rw [putsOf_size, ← hw.tsize]; omega)]
      have e2 : (putsOf a l a0).defers = a.defers := by rw [putsOf_defers, hw.defers]
      cases a; cases h : putsOf _ l a0; simp_all
    rw [e] at hp
    exact hp
  · have hn : ∀ j : Nat, (Array.replicate (l ++ [o, o']).toArray.size false)[j]? ≠ some true := fun j => by
      rw [Array.getElem?_replicate]; split <;> simp
    exact ⟨by simp, rfl, rfl, hG.refl _, fun i j h => absurd h (hn i), fun j o d _ _ h => absurd h (hn j), fun t _ => rfl⟩
  · rw [Array.getElem?_replicate]; split <;> simp
  · simp

theorem wp_region_two' {id : Nat} {ops l : List Oper} {o o' : Oper} {Q : Exit → Act → World → Prop} {w : World} (hl : ops.dropLast.dropLast = l) (ho : ops.getLast? = some o') (ho2 : ops.dropLast.getLast? = some o) (G : World → World → Prop) (hG : Pre G) (ns : List NS) (hm : P.follows .mixedOrders = true) (sz : Nat) (hsz : a0.tmps.size = sz) (hB : (okB ops.toArray sz && (twoB ops.toArray && guardB ops.toArray)) = true) (hpl : plan ops.toArray = ns) (hgd : o.guard = none) (hgd' : o'.guard = none)
    (h : GoSteps P G a0 w.drew (fun fs => ∀ w', G w.drew w' → Post l fs a0 w' (fun a => o.wp P a w' (fun a w => o'.wp P a w (fun a w => Q .normal a w) Q) Q)) [] l ns) : (Code.region id ops.toArray true).wp P Q a0 w := by
  have key : ∀ (x : List Oper) (y : Oper), x.getLast? = some y → x = x.dropLast ++ [y] := fun x y hy => by
    have hne : x ≠ [] := fun e => by rw [e] at hy; cases hy
    have h1 := List.dropLast_concat_getLast hne
    rw [List.getLast?_eq_some_getLast hne] at hy
    injection hy with hy
    rw [hy] at h1
    exact h1.symm
  refine wp_region_two (l := l) (o := o) (o' := o') ?_ G hG ns hm sz hsz hB hpl hgd hgd' h
  have e1 := key _ _ ho
  have e2 := key _ _ ho2
  rw [e1, e2, hl]
  simp

variable {K : List Fct → Prop} {fs : List Fct} {o : Oper} {os : List Oper} {n : NS} {ns : List NS}
/-- Any operation. -/
theorem go_any {p : Value → World → Prop} (hp : ∀ u w w', G w w' → p u w → p u w') (h : ∀ ρ w, Cx fs a0 W0 G n ρ w → wantP ρ n.2 = true ∧ Ups P (fun v w' => p v w' ∧ G w w') ((execOp ρ o).run P w)) (k : GoSteps P G a0 W0 K (fs ++ [.so p]) os ns) : GoSteps P G a0 W0 K fs (o :: os) (n :: ns) :=
  ⟨.so p, hp, fun ρ w h1 h2 h3 h4 h5 => by
    obtain ⟨hw, hr⟩ := h ρ w ⟨h1, h2, h3, h4, h5⟩
    rw [hw, if_pos rfl]
    exact hr, k⟩
/-- An operation that leaves memory alone, whose value is known by what it reads as. -/
theorem go_so (hG : Pre G) {p : Value → World → Prop} (hp : ∀ u w w', G w w' → p u w → p u w') (h : ∀ ρ w, Cx fs a0 W0 G n ρ w → wantP ρ n.2 = true ∧ ∃ v, (execOp ρ o).run P w = .ok (.value v) w ∧ p v w) (k : GoSteps P G a0 W0 K (fs ++ [.so p]) os ns) : GoSteps P G a0 W0 K fs (o :: os) (n :: ns) :=
  ⟨.so p, hp, fun ρ w h1 h2 h3 h4 h5 => by
    obtain ⟨hw, v, hr, hv⟩ := h ρ w ⟨h1, h2, h3, h4, h5⟩
    rw [hw, if_pos rfl, hr]
    exact ⟨hv, hG.refl _⟩, k⟩
/-- A call. -/
theorem go_call {p : Value → World → Prop} (hp : ∀ u w w', G w w' → p u w → p u w') (h : ∀ ρ w, Cx fs a0 W0 G n ρ w → wantP ρ n.2 = true ∧ ∃ f args, (execOp ρ o).run P w = .ok (.enter f args) w ∧ Calls P f args w (Ret G p w)) (k : GoSteps P G a0 W0 K (fs ++ [.so p]) os ns) : GoSteps P G a0 W0 K fs (o :: os) (n :: ns) :=
  ⟨.so p, hp, fun ρ w h1 h2 h3 h4 h5 => by
    obtain ⟨hw, f, args, hr, hc⟩ := h ρ w ⟨h1, h2, h3, h4, h5⟩
    rw [hw, if_pos rfl, hr]
    exact hc, k⟩
end
end Go.Proofs.Ytjlhopfmhhafoaa.Kit
