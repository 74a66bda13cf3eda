/-
  A region that draws its order, one of whose operations turns more than the others do: each operation has its own relation between memories. Conditions: as in the text before.
-/
import Derived.Test.YtjlhopfmhhafoaaReg2
import Derived.Test.YtjlhopfmhhafoaaBytes
namespace Go.Proofs.Ytjlhopfmhhafoaa.Kit
open Go Go.RowKit
section
variable {P : Program} {ops : Array Oper} {V : Nat → Value → World → Prop} {a0 : Act} {W0 : World} {G : World → World → Prop}
theorem Way.nextI {sz : Nat} (hG : Pre G) (hok : Ok ops sz) (hsz : a0.tmps.size = sz)  {listed : Array Bool} {a : Act} {w w' : World} {i : Nat} {o : Oper} {v : Value} (hw : Way ops V a0 W0 G listed a w)
    (hi : ops[i]? = some o) (hr : i ∈ Region.ready .any ops listed) (hst : ∀ j u, j ≠ i → V j u w → V j u w') (hv : V i v w') (hg : G w w') : Way ops V a0 W0 G (listed.setIfInBounds i true) (a.put o.dst v) w' := by
  have hil : i < listed.size := by rw [hw.size]; exact (Array.getElem?_eq_some_iff.1 hi).1
  refine ⟨by simp [hw.size], ?_, ?_, hG.trans hw.grown hg, fun x y hx hb => ?_, fun j oj d hj hd hl => ?_, fun t ht => ?_⟩
  · cases o.dst <;> simp [Act.put, hw.tsize]
  · cases o.dst <;> simp [Act.put, hw.defers]
  · have keep : listed[y]? = some true → (listed.setIfInBounds i true)[y]? = some true := fun h => by
      by_cases e : i = y
      · subst e; simp [hil]
      · rw [Array.getElem?_setIfInBounds_ne e]; exact h
    rcases listed_set hx with rfl | hx
    · exact keep (ready_bef hr hb)
    · exact keep (hw.shut x y hx hb)
  · by_cases e : j = i
    · subst e
      rw [hi] at hj
      cases hj
      rw [hd, eval_put_same (by rw [hw.tsize, hsz]; exact hok.dst j o d hi hd)]
      exact hv
    · have hlj : listed[j]? = some true := (listed_set hl).resolve_left e
      have hne : ∀ d', o.dst = some d' → (Operand.tmp d) ≠ .tmp d' := fun d' hd' he => by
        injection he with he
        subst he
        exact e (hok.one j i oj o d hj hi hd hd')
      rw [Act.eval_put hne]
      exact hst _ _ e (hw.vals j oj d hj hd hlj)
  · have hne : ∀ d', o.dst = some d' → (Operand.tmp t) ≠ .tmp d' := fun d' hd' he => by
      injection he with he
      subst he
      exact ht i o hi hd' (by simp [hil])
    rw [Act.eval_put hne]
    refine hw.rest t fun j oj hj hd hl => ht j oj hj hd ?_
    by_cases e : i = j
    · subst e; simp [hil]
    · rw [Array.getElem?_setIfInBounds_ne e]; exact hl
theorem wpAny_finI {Gi : Nat → World → World → Prop} (hGi : ∀ i w w', Gi i w w' → G w w') {Q : Exit → Act → World → Prop} {sz : Nat} (hG : Pre G) (hok : Ok ops sz) (hsz : a0.tmps.size = sz) (hL : lastB ops = true) (hpos : 0 < ops.size) (hst : ∀ i j u w w', i ≠ j → Gi i w w' → V j u w → V j u w')
    (hs : ∀ i o, i + 1 < ops.size → ops[i]? = some o → Step P ops V a0 W0 G (fun v w w' => V i v w' ∧ Gi i w w') i o)
    (hgd : ∀ o, ops[ops.size - 1]? = some o → o.guard = none)
    (hQ : ∀ listed a w o, Way ops V a0 W0 G listed a w → (∀ i, i + 1 < ops.size → listed[i]? = some true) → listed[ops.size - 1]? ≠ some true → ops[ops.size - 1]? = some o → o.wp P a w (fun a w => Q .normal a w) Q) :
    ∀ (fuel : Nat) (listed : Array Bool) (a : Act) (w : World), Way ops V a0 W0 G listed a w → listed[ops.size - 1]? ≠ some true → ops.size ≤ fuel + listed.count true → wpAny P .any ops Q fuel listed a w := by
  intro fuel
  induction fuel with
  | zero =>
    intro listed a w hw hnl hf
    exfalso
    have hle : listed.count true ≤ listed.size := Array.count_le_size
    have heq : listed.count true = listed.size := by rw [hw.size] at hle ⊢; omega
    rw [Array.count_eq_size] at heq
    have hlt : ops.size - 1 < listed.size := by rw [hw.size]; omega
    exact hnl (by rw [Array.getElem?_eq_getElem hlt]; exact congrArg some (heq _ (Array.getElem_mem hlt)).symm)
  | succ fuel ih =>
    intro listed a w hw hnl hf
    refine ⟨fun h => absurd (all_of_done hok hw h ops.size (ops.size - 1) (by omega) (by omega)) hnl, fun i hi => ?_⟩
    obtain ⟨_, o, ho, _⟩ := mem_ready.1 hi
    have hio : i < ops.size := (Array.getElem?_eq_some_iff.1 ho).1
    have hil : i < listed.size := by rw [hw.size]; exact hio
    unfold wpOp
    simp only [ho, wantR_eq]
    by_cases hlast : i = ops.size - 1
    · have hall : ∀ n i', ops.size - 1 - i' < n → i' + 1 < ops.size → listed[i']? = some true := by
        intro n
        induction n with
        | zero => intro i' h; omega
        | succ n ihn =>
          intro i' hin hi'
          simp only [lastB, List.all_eq_true, List.mem_range, List.any_eq_true] at hL
          obtain ⟨k, hk, hbk⟩ := hL i' (by omega)
          have hlt := bef_lt hok hbk
          by_cases hkl : k = ops.size - 1
          · subst hkl; rw [← hlast] at hbk; exact ready_bef hi hbk
          · exact hw.shut k i' (ihn k (by omega) (by omega)) hbk
      have hdone : Region.ready .any ops (listed.setIfInBounds i true) = [] := by
        rw [List.eq_nil_iff_forall_not_mem]
        intro k hk
        obtain ⟨h1, o', ho', _⟩ := mem_ready.1 hk
        have hko : k < ops.size := (Array.getElem?_eq_some_iff.1 ho').1
        refine ready_not hk ?_
        by_cases e : i = k
        · subst e; simp [hw.size, hio]
        · rw [Array.getElem?_setIfInBounds_ne e]; exact hall ops.size k (by omega) (by omega)
      have hw1 : wantR ops a.eval o = true := by
        unfold wantR
        rw [hgd o (by rw [← hlast]; exact ho)]
      rw [hw1, if_pos rfl]
      refine .inl (Oper.wp_mono ?_ (hQ listed a w o hw (fun i' hi' => hall ops.size i' (by omega) hi') hnl (by rw [← hlast]; exact ho)))
      intro a' w' hq
      cases fuel with
      | zero => exact ⟨hdone, hq⟩
      | succ f => exact ⟨fun _ => hq, fun k hk => by rw [hdone] at hk; cases hk⟩
    · have hfacts := hw.facts hok ho hi
      have hst' := hs i o (by omega) ho a.eval w hw.grown hfacts (fun x hx => eval_other a x hx)
      have hcount : ops.size ≤ fuel + (listed.setIfInBounds i true).count true := by
        have hf' : listed[i] = false := by
          have := ready_not hi
          rw [Array.getElem?_eq_getElem hil] at this
          simpa using this
        have : (listed.setIfInBounds i true).count true = listed.count true + 1 := by
          rw [Array.setIfInBounds, dif_pos hil, Array.count_set]
          simp [hf']
        omega
      have fin : ∀ v w', V i v w' ∧ Gi i w w' → wpAny P .any ops Q fuel (listed.setIfInBounds i true) (a.put o.dst v) w' := fun v w' hlv =>
        ih _ _ _ (hw.nextI hG hok hsz ho hi (fun j u hj hv => hst i j u w w' (fun e => hj e.symm) hlv.2 hv) hlv.1 (hGi i w w' hlv.2)) (fun h => by
          rcases listed_set h with h | h
          · exact hlast h.symm
          · exact hnl h) hcount
      split
      · rename_i hwant
        simp only [hwant, if_true] at hst'
        exact .inl (wp_of_ups hst' fin)
      · rename_i hwant
        simp only [hwant] at hst'
        exact fin _ _ hst'
end
def GoStepsI (P : Program) (G : World → World → Prop) (Gi : Nat → World → World → Prop) (a0 : Act) (W0 : World) (K : List Fct → Prop) : List Fct → List Oper → List NS → Prop
  | fs, [], _ => K fs
  | _, _ :: _, [] => False
  | fs, o :: os, n :: ns => ∃ p : Fct, (∀ i, i ≠ fs.length → p.Stab (Gi i)) ∧ StepP P (fat fs) a0 W0 G (fun v w w' => p.hold v w' ∧ Gi fs.length w w') n o ∧ GoStepsI P G Gi a0 W0 K (fs ++ [p]) os ns
section
variable {P : Program} {ops : Array Oper} {V : Nat → Value → World → Prop} {a0 : Act} {W0 : World} {G : World → World → Prop}
theorem GoStepsI.all {Gi : Nat → World → World → Prop} {K : List Fct → Prop} : ∀ (l : List Oper) (ns : List NS) (fs : List Fct), (∀ (i : Nat) (n : NS), ns[i]? = some n → ∀ t j, (t, some j) ∈ n.1 → j < fs.length + i) → GoStepsI P G Gi a0 W0 K fs l ns →
    ∃ gs, gs.length = l.length ∧ (∀ (k : Nat) (g : Fct), gs[k]? = some g → ∀ i, i ≠ fs.length + k → g.Stab (Gi i)) ∧ K (fs ++ gs) ∧ ∀ (i : Nat) (o : Oper), l[i]? = some o → ∃ n, ns[i]? = some n ∧ StepP P (fat (fs ++ gs)) a0 W0 G (fun v w w' => fat (fs ++ gs) (fs.length + i) v w' ∧ Gi (fs.length + i) w w') n o
  | [], _, fs, _, h => ⟨[], rfl, (fun k g hg => by simp at hg), (by rw [List.append_nil]; exact h), (fun i o hi => by simp at hi)⟩
  | _ :: _, [], _, _, h => h.elim
  | o :: os, n :: ns, fs, hn, ⟨p, hp, hstep, hrest⟩ => by
    obtain ⟨gs, h1, h2, h3, h4⟩ := GoStepsI.all os ns (fs ++ [p]) (fun i n' hi t j hm => by
      have := hn (i + 1) n' (by simpa using hi) t j hm
      simp only [List.length_append, List.length_singleton]
      omega) hrest
    refine ⟨p :: gs, by simp [h1], fun k g hg i hi => ?_, by simpa using h3, fun i o' hi => ?_⟩
    · cases k with
      | zero =>
        simp only [List.getElem?_cons_zero, Option.some.injEq] at hg
        subst hg
        exact hp i (by simpa using hi)
      | succ k => exact h2 k g (by simpa using hg) i (by simp only [List.length_append, List.length_singleton]; omega)
    · cases i with
      | zero =>
        simp only [List.getElem?_cons_zero, Option.some.injEq] at hi
        subst hi
        refine ⟨n, rfl, fun ρ w hg hne hc hf hgl => ?_⟩
        have key := hstep ρ w hg (Need.mono n.1 (fun t j hm => fat_app (by simpa using hn 0 n rfl t j hm)) hne) hc hf hgl
        have e : fat (fs ++ p :: gs) (fs.length + 0) = p.hold := by
          unfold fat
          simp [List.getD_eq_getElem?_getD]
        rw [e]
        rw [Nat.add_zero]
        exact key
      | succ i =>
        obtain ⟨n', hn', hs'⟩ := h4 i o' (by simpa using hi)
        refine ⟨n', by simpa using hn', ?_⟩
        simp only [List.length_append, List.length_singleton, List.append_assoc, List.singleton_append] at hs'
        rw [show fs.length + (i + 1) = fs.length + 1 + i from by omega]
        exact hs'
/-- The region whose last operation may do anything: it runs behind all others. -/
theorem wp_region_finI {id : Nat} {l : List Oper} {o : Oper} {Q : Exit → Act → World → Prop} {w : World} (G : World → World → Prop) (hG : Pre G) (Gi : Nat → World → World → Prop) (hGi : ∀ i w w', Gi i w w' → G w w') (ns : List NS) (hm : P.follows .mixedOrders = true) (sz : Nat) (hsz : a0.tmps.size = sz) (hB : (okB (l ++ [o]).toArray sz && (lastB (l ++ [o]).toArray && guardB (l ++ [o]).toArray)) = true) (hpl : plan (l ++ [o]).toArray = ns) (hgd : o.guard = none)
    (h : GoStepsI P G Gi a0 w.drew (fun fs => ∀ w', G w.drew w' → Post l fs a0 w' (fun a => o.wp P a w' (fun a w => Q .normal a w) Q)) [] l ns) : (Code.region id (l ++ [o]).toArray true).wp P Q a0 w := by
  simp only [Bool.and_eq_true] at hB
  obtain ⟨hB1, hB2, hB3⟩ := hB
  have hok := ok_of hB1
  have hns : ∀ (i : Nat) (q : Oper), (l ++ [o])[i]? = some q → ns[i]? = some ((q.looksAt (l ++ [o]).toArray).map fun t => (t, srcOf (l ++ [o]).toArray i t), q.guard.map fun gw => ((((l ++ [o]).toArray[gw.1]?).bind (·.dst)).getD 0, gw.2)) := fun j q hj => by
    subst hpl
    have hjl : j < (l ++ [o]).length := (List.getElem?_eq_some_iff.1 hj).1
    simp only [plan, List.size_toArray, List.getElem?_map, List.getElem?_range hjl, Option.map_some, List.getElem?_toArray, hj]
  have hlen : ns.length = (l ++ [o]).length := by subst hpl; simp [plan]
  obtain ⟨gs, h1, h2, h3, h4⟩ := GoStepsI.all l ns [] (fun i n hi t j hmem => by
    have hil : i < (l ++ [o]).length := by rw [← hlen]; exact (List.getElem?_eq_some_iff.1 hi).1
    have := hns i (l ++ [o])[i] (List.getElem?_eq_getElem hil)
    rw [hi] at this
    injection this with this
    subst this
    simp only [List.mem_map] at hmem
    obtain ⟨t', _, he⟩ := hmem
    injection he with he1 he2
    have := bef_lt hok (srcOf_some he2).1
    simpa using this) h
  simp only [List.nil_append, List.length_nil, Nat.zero_add] at h3 h4
  have hsize : (l ++ [o]).toArray.size = l.length + 1 := by simp
  refine wp_region_any hm (wpAny_finI (V := fat gs) (W0 := w.drew) hGi hG hok hsz hB2 (by rw [hsize]; omega) (fun i j u x y hij hg hv => ?_) (fun i q hil hi => ?_) (fun q hq => ?_) (fun listed a w' q hw hall hnl hq => ?_) _ _ _ _ ?_ ?_ ?_)
  · unfold fat at *
    rw [List.getD_eq_getElem?_getD] at *
    cases hj : gs[j]? with
    | none => simp [Fct.hold]
    | some p => simp only [hj, Option.getD_some] at hv ⊢; exact h2 j p hj i (by simpa using hij) u x y hg hv
  · rw [hsize] at hil
    have hi' : (l ++ [o])[i]? = some q := by simpa using hi
    have hi2 : l[i]? = some q := by rw [List.getElem?_append_left (by omega)] at hi'; exact hi'
    obtain ⟨n, hn, hs⟩ := h4 i q hi2
    rw [hns i q hi'] at hn
    injection hn with hn
    subst hn
    exact StepP.step hB3 (by simpa using List.mem_of_getElem? hi') hs
  · have : q = o := by simpa using hq.symm
    rw [this]
    exact hgd
  · have hqo : q = o := by simpa using hq.symm
    subst hqo
    rw [hsize] at hall hnl
    have hp := post_puts (a := a) l gs a0 h1.symm (fun j o' f d ho hf hd => by
      have hjl : j < l.length := (List.getElem?_eq_some_iff.1 ho).1
      have ho' : (l ++ [q]).toArray[j]? = some o' := by simp [List.getElem?_append_left hjl, ho]
      have := hw.vals j o' d ho' hd (hall j (by omega))
      unfold fat at this
      rw [List.getD_eq_getElem?_getD, hf] at this
      exact this) (h3 w' hw.grown)
    have e : putsOf a l a0 = a := by
      have e1 : (putsOf a l a0).tmps = a.tmps := by
        apply Array.ext_getElem?
        intro t
        by_cases ht : t < a.tmps.size
        · refine putsOf_get a t ht l a0 hw.tsize.symm ?_
          by_cases hex : ∃ o ∈ l, o.dst = some t
          · exact .inr hex
          · left
            have := hw.rest t fun j o' ho hd hlj => by
              have hj : (l ++ [q])[j]? = some o' := by simpa using ho
              rcases Nat.lt_or_ge j l.length with hjl | hjl
              · rw [List.getElem?_append_left hjl] at hj
                exact hex ⟨o', List.mem_of_getElem? hj, hd⟩
              · have hj2 : j < l.length + 1 := by have := (List.getElem?_eq_some_iff.1 hj).1; simpa using this
                obtain rfl : j = l.length := by omega
                exact hnl (by simpa using hlj)
            simp only [Act.eval, Array.getD_eq_getD_getElem?] at this
            have h5 : t < a0.tmps.size := by rw [← hw.tsize]; exact ht
            simp only [Array.getElem?_eq_getElem ht, Array.getElem?_eq_getElem h5, Option.getD_some] at this ⊢
            rw [this]
        · rw [Array.getElem?_eq_none (xs := a.tmps) (by omega), Array.getElem?_eq_none (by rw [putsOf_size, ← hw.tsize]; omega)]
      have e2 : (putsOf a l a0).defers = a.defers := by rw [putsOf_defers, hw.defers]
      cases a; cases h : putsOf _ l a0; simp_all
    rw [e] at hp
    exact hp
  · have hn : ∀ j : Nat, (Array.replicate (l ++ [o]).toArray.size false)[j]? ≠ some true := fun j => by
      rw [Array.getElem?_replicate]; split <;> simp
    exact ⟨by simp, rfl, rfl, hG.refl _, fun i j h => absurd h (hn i), fun j o d _ _ h => absurd h (hn j), fun t _ => rfl⟩
  · rw [Array.getElem?_replicate]; split <;> simp
  · simp
theorem wp_region_finI' {id : Nat} {ops l : List Oper} {o : Oper} {Q : Exit → Act → World → Prop} {w : World} (hl : ops.dropLast = l) (ho : ops.getLast? = some o) (G : World → World → Prop) (hG : Pre G) (Gi : Nat → World → World → Prop) (hGi : ∀ i w w', Gi i w w' → G w w') (ns : List NS) (hm : P.follows .mixedOrders = true) (sz : Nat) (hsz : a0.tmps.size = sz) (hB : (okB ops.toArray sz && (lastB ops.toArray && guardB ops.toArray)) = true) (hpl : plan ops.toArray = ns) (hgd : o.guard = none)
    (h : GoStepsI P G Gi a0 w.drew (fun fs => ∀ w', G w.drew w' → Post l fs a0 w' (fun a => o.wp P a w' (fun a w => Q .normal a w) Q)) [] l ns) : (Code.region id ops.toArray true).wp P Q a0 w := by
  have e : ops = l ++ [o] := by
    have hne : ops ≠ [] := fun e => by rw [e] at ho; cases ho
    have h1 := List.dropLast_concat_getLast hne
    rw [List.getLast?_eq_some_getLast hne] at ho
    injection ho with ho
    rw [ho, hl] at h1
    exact h1.symm
  subst e
  exact wp_region_finI G hG Gi hGi ns hm sz hsz hB hpl hgd h
variable {K : List Fct → Prop} {fs : List Fct} {o : Oper} {os : List Oper} {n : NS} {ns : List NS} {Gi : Nat → World → World → Prop}
theorem goI_val (hG : Gi fs.length = Kept) {x : Value} (h : ∀ ρ w, Cx fs a0 W0 G n ρ w → wantP ρ n.2 = true ∧ (execOp ρ o).run P w = .ok (.value x) w) (k : GoStepsI P G Gi a0 W0 K (fs ++ [.is x]) os ns) : GoStepsI P G Gi a0 W0 K fs (o :: os) (n :: ns) :=
  ⟨.is x, fun i _ => Fct.stab_is _ _, fun ρ w h1 h2 h3 h4 h5 => by
    obtain ⟨hw, hr⟩ := h ρ w ⟨h1, h2, h3, h4, h5⟩
    rw [hw, if_pos rfl, hr]
    exact ⟨rfl, by rw [hG]; exact Kept.refl _⟩, k⟩
theorem goI_not (hG : Gi fs.length = Kept) (h : ∀ ρ w, Cx fs a0 W0 G n ρ w → wantP ρ n.2 = false) (k : GoStepsI P G Gi a0 W0 K (fs ++ [.is undef]) os ns) : GoStepsI P G Gi a0 W0 K fs (o :: os) (n :: ns) :=
  ⟨.is undef, fun i _ => Fct.stab_is _ _, fun ρ w h1 h2 h3 h4 h5 => by
    have hw := h ρ w ⟨h1, h2, h3, h4, h5⟩
    rw [hw]
    exact ⟨rfl, by rw [hG]; exact Kept.refl _⟩, k⟩
/-- Any operation. -/
theorem goI_any {p : Value → World → Prop} (hp : ∀ i, i ≠ fs.length → ∀ u w w', Gi i w w' → p u w → p u w') (h : ∀ ρ w, Cx fs a0 W0 G n ρ w → wantP ρ n.2 = true ∧ Ups P (fun v w' => p v w' ∧ Gi fs.length w w') ((execOp ρ o).run P w)) (k : GoStepsI P G Gi a0 W0 K (fs ++ [.so p]) os ns) : GoStepsI P G Gi a0 W0 K fs (o :: os) (n :: ns) :=
  ⟨.so p, fun i hi => hp i hi, fun ρ w h1 h2 h3 h4 h5 => by
    obtain ⟨hw, hr⟩ := h ρ w ⟨h1, h2, h3, h4, h5⟩
    rw [hw, if_pos rfl]
    exact hr, k⟩
end
end Go.Proofs.Ytjlhopfmhhafoaa.Kit
