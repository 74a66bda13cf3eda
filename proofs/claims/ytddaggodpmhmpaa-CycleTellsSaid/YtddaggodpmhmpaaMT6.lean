/-
  What the claim leans on, part 6: The document's circles: rows of rows of one's own, and a name that stays alone. Conditions: none. The document's circles: does a name of a row stay alone. Conditions: none. The document's circles: one step by one rule. Conditions: none. The document's circles: any number of steps. Conditions: none. The document's Cyclic. Conditions: none. The document's Check. Conditions: none. The law CycleTells in the model. Conditions: none. A grammar that comes in, read into the model. Conditions: none. The law CycleTells, for whatever grammar. Conditions: none.
-/
import Derived.Test.YtddaggodpmhmpaaMT5
import Derived.Test.YtddaggodpmhmpaaMT3
import Derived.Test.YtddaggodpmhmpaaMT4
import Derived.Test.YtddaggodpmhmpaaProg
import Derived.KernelRfl
set_option linter.unusedSimpArgs false
set_option linter.unusedVariables false
namespace Go.Proofs.Ytddaggodpmhmpaa.K
open Go Ev
set_option maxRecDepth 100000
set_option maxHeartbeats 4000000

def setMb (F : List (List Bool)) (a t : Nat) (b : Bool) : List (List Bool) := F.set a ((F.getD a []).set t b)
theorem setMb_at {F : List (List Bool)} {a t K : Nat} {b : Bool} (ha : a < F.length) (hs : ∀ x ∈ F, x.length = K) (ht : t < K) (i u : Nat) : mAt (setMb F a t b) i u = if i = a ∧ u = t then b else mAt F i u := by
  have hl : F[a]? = some F[a] := List.getElem?_eq_getElem ha
  have hFa : F.getD a [] = F[a] := by rw [List.getD_eq_getElem?_getD, hl]; rfl
  have hsz := hs _ (List.getElem_mem ha)
  unfold mAt setMb
  rw [List.getD_eq_getElem?_getD, List.getElem?_set]
  by_cases e : a = i
  · subst e
    rw [if_pos rfl, if_pos ha, Option.getD_some, bAt_set (by rw [hFa]; omega), hFa]
    by_cases e2 : t = u
    · subst e2; rw [if_pos rfl, if_pos ⟨rfl, rfl⟩]
    · rw [if_neg e2, if_neg (fun h => e2 h.2.symm)]
  · rw [if_neg e, if_neg (fun h => e h.1.symm), List.getD_eq_getElem?_getD]
theorem MatOwn.put {M : MH} {lo id : Nat} {ids : List Nat} {F : List (List Bool)} {K : Nat} (h : MatOwn M lo id ids F K) {a j t : Nat} (hj : ids[a]? = some j) (ht : t < K) :
    ∃ c, M.get j = some (.cs false 1 c) ∧ (∀ u, u < K → cget c (u * 1) = some (.b (mAt F a u))) ∧ hasB c 1 (t * 1) = true ∧ ∀ b, MatOwn (M.set j (some (.cs false 1 (setN [.b b] (t * 1) c)))) lo id ids (setMb F a t b) K := by
  have ha : a < ids.length := (List.getElem?_eq_some_iff.1 hj).1
  have haF : a < F.length := by rw [← h.len]; exact ha
  have hl : F[a]? = some F[a] := List.getElem?_eq_getElem haF
  have hFa : F.getD a [] = F[a] := by rw [List.getD_eq_getElem?_getD, hl]; rfl
  have hsz := h.size _ (List.getElem_mem haF)
  obtain ⟨c, c1, c2, c3, c4⟩ := (h.rows a j _ hj hl).read
  have hjm := List.mem_of_getElem? hj
  obtain ⟨n1, n2, n3⟩ := h.ne j hjm
  refine ⟨c, c1, fun u hu => ?_, c3 t (by rw [hsz]; exact ht), fun b => ?_⟩
  · unfold mAt
    rw [hFa]
    exact c2 u _ (bAt_at (by rw [hsz]; exact hu))
  · obtain ⟨tt, t1, t2⟩ := h.top
    refine ⟨⟨tt, by rw [set_ne (Ne.symm n1)]; exact t1, t2⟩, by unfold setMb; rw [List.length_set]; exact h.len, fun i j' l hj' hl' => ?_, fun x hx => ?_, h.ne, h.idl, h.inj⟩
    · unfold setMb at hl'
      rw [List.getElem?_set] at hl'
      by_cases e : a = i
      · subst e
        rw [if_pos rfl, if_pos haF] at hl'
        injection hl' with hl'
        subst hl'
        rw [hj] at hj'
        injection hj' with hj'
        subst hj'
        rw [hFa]
        exact ⟨_, set_same _ _, c4 t b (by rw [hsz]; exact ht)⟩
      · rw [if_neg e] at hl'
        have hne : j ≠ j' := fun e2 => e (h.inj a i j hj (by rw [e2]; exact hj'))
        exact (h.rows i j' l hj' hl').same (by rw [set_ne (Ne.symm hne)])
    · unfold setMb at hx
      rcases List.mem_or_eq_of_mem_set hx with h1 | h1
      · exact h.size x h1
      · rw [h1, List.length_set, hFa]; exact hsz
def alV (N : List Bool) (l : List Int) (k j : Nat) : Bool := decide (0 ≤ l.getD k (-1)) && (List.range j).all fun i => decide (i = k) || oneN N (l.getD i (-1))
theorem alV_zero (N : List Bool) (l : List Int) (k : Nat) : alV N l k 0 = decide (0 ≤ l.getD k (-1)) := by unfold alV; simp
theorem alV_succ (N : List Bool) (l : List Int) (k j : Nat) : alV N l k (j + 1) = (alV N l k j && (decide (j = k) || oneN N (l.getD j (-1)))) := by
  unfold alV
  rw [List.range_succ, List.all_append, Bool.and_assoc]
  simp
theorem alV_stop {N : List Bool} {l : List Int} {k j : Nat} (h : alV N l k j = false) : ∀ d, alV N l k (j + d) = false
  | 0 => h
  | d + 1 => by
    have := alV_stop h d
    rw [← Nat.add_assoc, alV_succ, this, Bool.false_and]
theorem alV_all {N : List Bool} {l : List Int} {k : Nat} {z : Int} (hk : l[k]? = some z) : alV N l k l.length = (decide (0 ≤ z) && stayN N l k) := by
  have hkl := (List.getElem?_eq_some_iff.1 hk).1
  have hg : l.getD k (-1) = z := by rw [List.getD_eq_getElem?_getD, hk]; rfl
  have e : ((List.range l.length).all fun i => decide (i = k) || oneN N (l.getD i (-1))) = stayN N l k := by
    rw [Bool.eq_iff_iff, List.all_eq_true]
    unfold stayN
    rw [Bool.and_eq_true]
    unfold allN
    rw [List.all_eq_true, List.all_eq_true]
    constructor
    · intro h
      refine ⟨fun s hs => ?_, fun s hs => ?_⟩
      · obtain ⟨i, hi⟩ := List.getElem?_of_mem hs
        have hil := (List.getElem?_eq_some_iff.1 hi).1
        rw [List.length_take] at hil
        rw [List.getElem?_take] at hi
        split at hi
        · have := h i (List.mem_range.2 (by omega))
          rw [decide_eq_false (by omega), Bool.false_or, List.getD_eq_getElem?_getD, hi] at this
          exact this
        · cases hi
      · obtain ⟨i, hi⟩ := List.getElem?_of_mem hs
        have hil := (List.getElem?_eq_some_iff.1 hi).1
        rw [List.length_drop] at hil
        rw [List.getElem?_drop] at hi
        have := h (k + 1 + i) (List.mem_range.2 (by omega))
        rw [decide_eq_false (by omega), Bool.false_or, List.getD_eq_getElem?_getD, hi] at this
        exact this
    · rintro ⟨h1, h2⟩ i hi
      have hi := List.mem_range.1 hi
      have hx := List.getElem?_eq_getElem hi
      rw [List.getD_eq_getElem?_getD, hx]
      by_cases e1 : i = k
      · rw [decide_eq_true e1, Bool.true_or]
      · rw [decide_eq_false e1, Bool.false_or]
        by_cases e2 : i < k
        · refine h1 _ (List.mem_of_getElem? (i := i) ?_)
          rw [List.getElem?_take, if_pos e2]
          exact hx
        · refine h2 _ (List.mem_of_getElem? (i := i - (k + 1)) ?_)
          rw [List.getElem?_drop, show k + 1 + (i - (k + 1)) = i from by omega]
          exact hx
  unfold alV
  rw [hg, e]
structure CyF (f : Fr) (n0 nn id i n8 k : Nat) (vn : MV) : Prop where
  h1 : X.ev f (.t q1) = .p n0 0
  h3 : X.ev f (.t q3) = vn
  h4 : X.ev f (.t q4) = .i .i64 (nn : Int)
  h5 : X.ev f (.t q5) = .sl id 0 nn 0
  h7 : X.ev f (.t q7) = .i .i64 (i : Int)
  h8 : X.ev f (.t q8) = .p n8 0
  h9 : X.ev f (.t q9) = .i .i64 (k : Int)
theorem cyc_in {M : MH} {f : Fr} {n0 nn id i n8 k : Nat} {vn ur : MV} {N : List Bool} {ar : List Int} {c : T MV} (h : CyF f n0 nn id i n8 k vn) (hb : M.get n8 = some (.cs false 3 c)) (c1 : cget c 1 = some ur) (hu : IntRow M ur ar) (hN : BRow M vn N) (hs : ∀ s ∈ ar, 0 ≤ s → s.toNat < N.length) (hl : ar.length ≤ 8) (hk : k < ar.length)
    (h10 : X.ev f (.t q10) = .b (alV N ar k 0)) (h11 : X.ev f (.t q11) = .i .i64 0) (Q : Post) (hn : ∀ f', CyF f' n0 nn id i n8 k vn → X.ev f' (.t q10) = .b (alV N ar k ar.length) → Q .norm f' M) : Wp fns (.loop L13_5) f M (blockQ 6 Q) := by
  obtain ⟨u1, u2⟩ := hu.sl
  obtain ⟨n1, n2⟩ := hN.sl
  refine Wp_inv (σ := Nat) (fun j f' M' => M' = M ∧ j ≤ ar.length ∧ CyF f' n0 nn id i n8 k vn ∧ X.ev f' (.t q10) = .b (alV N ar k j) ∧ X.ev f' (.t q11) = .i .i64 (j : Int)) (fun j => ar.length - j) ?_ 0 ?_
  · clear h h10 h11
    rintro j f M' ⟨rfl, hj, h, h10, h11⟩
    have g1 := h.h1
    have g3 := h.h3
    have g4 := h.h4
    have g5 := h.h5
    have g7 := h.h7
    have g8 := h.h8
    have g9 := h.h9
    simp only [q1, q3, q4, q5, q7, q8, q9, q10, q11] at g1 g3 g4 g5 g7 g8 g9 h10 h11
    unfold L13_5
    by_cases hj' : j < ar.length
    · have d1 : decide ((j : Int) < (ar.length : Int)) = true := decide_eq_true (by omega)
      cases ha : alV N ar k j with
      | false =>
        rw [ha] at h10
        have hfin : alV N ar k ar.length = false := by
          have := alV_stop ha (ar.length - j)
          rwa [show j + (ar.length - j) = ar.length from by omega] at this
        simp (maxSteps := 4000000) (disch := first | omega | assumption | (simp only [bxS, bxV, stOk, Nat.reduceBEq, Nat.reduceEqDiff, Nat.reduceAdd]; done) | (simp only [bxU]; omega) | ((try apply has_setN); apply has_ofL; simp only [bxL]; omega)) only [↓bxD, bxP, bxQ, bxQ2, Nat.reduceBEq, reduceCtorEq, Nat.reduceAdd, Nat.reduceSub, Nat.reduceMul, Nat.reduceLeDiff, Nat.reduceLT, bxR, g1, g3, g4, g5, g7, g8, g9, h10, h11, hb, c1, u1, u2, d1]
        exact hn _ ⟨by simp only [bxP, bxQ, bxQ2, reduceCtorEq, g1, g3, g4, g5, g7, g8, g9, h10, h11, hb, c1, u1, u2, d1], by simp only [bxP, bxQ, bxQ2, reduceCtorEq, g1, g3, g4, g5, g7, g8, g9, h10, h11, hb, c1, u1, u2, d1], by simp only [bxP, bxQ, bxQ2, reduceCtorEq, g1, g3, g4, g5, g7, g8, g9, h10, h11, hb, c1, u1, u2, d1], by simp only [bxP, bxQ, bxQ2, reduceCtorEq, g1, g3, g4, g5, g7, g8, g9, h10, h11, hb, c1, u1, u2, d1], by simp only [bxP, bxQ, bxQ2, reduceCtorEq, g1, g3, g4, g5, g7, g8, g9, h10, h11, hb, c1, u1, u2, d1], by simp only [bxP, bxQ, bxQ2, reduceCtorEq, g1, g3, g4, g5, g7, g8, g9, h10, h11, hb, c1, u1, u2, d1], by simp only [bxP, bxQ, bxQ2, reduceCtorEq, g1, g3, g4, g5, g7, g8, g9, h10, h11, hb, c1, u1, u2, d1]⟩ (by rw [hfin]; simp (maxSteps := 4000000) (disch := first | omega | assumption | (simp only [bxS, bxV, stOk, Nat.reduceBEq, Nat.reduceEqDiff, Nat.reduceAdd]; done) | (simp only [bxU]; omega) | ((try apply has_setN); apply has_ofL; simp only [bxL]; omega)) only [↓bxD, bxP, bxQ, bxQ2, Nat.reduceBEq, reduceCtorEq, Nat.reduceAdd, Nat.reduceSub, Nat.reduceMul, Nat.reduceLeDiff, Nat.reduceLT, bxR, g1, g3, g4, g5, g7, g8, g9, h10, h11, hb, c1, u1, u2, d1])
      | true =>
        rw [ha] at h10
        obtain ⟨z, hz⟩ : ∃ z, ar[j]? = some z := ⟨_, List.getElem?_eq_getElem hj'⟩
        have hgd : ar.getD j (-1) = z := by rw [List.getD_eq_getElem?_getD, hz]; rfl
        obtain ⟨ro, s, t, hg, hid, hC⟩ := hu.read hz
        have hsucc := alV_succ N ar k j
        rw [ha, hgd, Bool.true_and] at hsucc
        have wj : wrapF .i64 ((j : Int) + 1) = ((j + 1 : Nat) : Int) := by rw [wrap_in (by omega) (by omega)]; omega
        have fin : ∀ f', X.ev f' (.t (Ky.k1 Dg.d11)) = .i .i64 ((j + 1 : Nat) : Int) → True := fun _ _ => trivial
        by_cases e : j = k
        · have d2 : decide ((j : Int) = (k : Int)) = true := decide_eq_true (by omega)
          rw [decide_eq_true e, Bool.true_or] at hsucc
          simp (maxSteps := 4000000) (disch := first | omega | assumption | (simp only [bxS, bxV, stOk, Nat.reduceBEq, Nat.reduceEqDiff, Nat.reduceAdd]; done) | (simp only [bxU]; omega) | ((try apply has_setN); apply has_ofL; simp only [bxL]; omega)) only [↓bxD, bxP, bxQ, bxQ2, Nat.reduceBEq, reduceCtorEq, Nat.reduceAdd, Nat.reduceSub, Nat.reduceMul, Nat.reduceLeDiff, Nat.reduceLT, bxR, g1, g3, g4, g5, g7, g8, g9, h10, h11, hb, c1, u1, u2, d1, d2, wj]
          show Wp fns K13_4 _ _ _
          unfold K13_4
          simp (maxSteps := 4000000) (disch := first | omega | assumption | (simp only [bxS, bxV, stOk, Nat.reduceBEq, Nat.reduceEqDiff, Nat.reduceAdd]; done) | (simp only [bxU]; omega) | ((try apply has_setN); apply has_ofL; simp only [bxL]; omega)) only [↓bxD, bxP, bxQ, bxQ2, Nat.reduceBEq, reduceCtorEq, Nat.reduceAdd, Nat.reduceSub, Nat.reduceMul, Nat.reduceLeDiff, Nat.reduceLT, bxR, g1, g3, g4, g5, g7, g8, g9, h10, h11, hb, c1, u1, u2, d1, d2, wj]
          show Wp fns K13_3 _ _ _
          unfold K13_3
          simp (maxSteps := 4000000) (disch := first | omega | assumption | (simp only [bxS, bxV, stOk, Nat.reduceBEq, Nat.reduceEqDiff, Nat.reduceAdd]; done) | (simp only [bxU]; omega) | ((try apply has_setN); apply has_ofL; simp only [bxL]; omega)) only [↓bxD, bxP, bxQ, bxQ2, Nat.reduceBEq, reduceCtorEq, Nat.reduceAdd, Nat.reduceSub, Nat.reduceMul, Nat.reduceLeDiff, Nat.reduceLT, bxR, g1, g3, g4, g5, g7, g8, g9, h10, h11, hb, c1, u1, u2, d1, d2, wj]
          exact ⟨j + 1, by omega, by omega, ⟨by simp only [bxP, bxQ, bxQ2, reduceCtorEq, g1, g3, g4, g5, g7, g8, g9, h10, h11, hb, c1, u1, u2, d1, d2, wj], by simp only [bxP, bxQ, bxQ2, reduceCtorEq, g1, g3, g4, g5, g7, g8, g9, h10, h11, hb, c1, u1, u2, d1, d2, wj], by simp only [bxP, bxQ, bxQ2, reduceCtorEq, g1, g3, g4, g5, g7, g8, g9, h10, h11, hb, c1, u1, u2, d1, d2, wj], by simp only [bxP, bxQ, bxQ2, reduceCtorEq, g1, g3, g4, g5, g7, g8, g9, h10, h11, hb, c1, u1, u2, d1, d2, wj], by simp only [bxP, bxQ, bxQ2, reduceCtorEq, g1, g3, g4, g5, g7, g8, g9, h10, h11, hb, c1, u1, u2, d1, d2, wj], by simp only [bxP, bxQ, bxQ2, reduceCtorEq, g1, g3, g4, g5, g7, g8, g9, h10, h11, hb, c1, u1, u2, d1, d2, wj], by simp only [bxP, bxQ, bxQ2, reduceCtorEq, g1, g3, g4, g5, g7, g8, g9, h10, h11, hb, c1, u1, u2, d1, d2, wj]⟩, by rw [hsucc], rfl⟩
        · have d2 : decide ((j : Int) = (k : Int)) = false := decide_eq_false (by omega)
          rw [decide_eq_false e, Bool.false_or] at hsucc
          by_cases z0 : 0 ≤ z
          · have d3 : decide (0 ≤ z) = true := decide_eq_true z0
            obtain ⟨zn, rfl⟩ : ∃ n : Nat, z = n := ⟨z.toNat, by omega⟩
            have hzN := hs _ (List.mem_of_getElem? hz) z0
            rw [Int.toNat_natCast] at hzN
            rw [oneN_at] at hsucc
            obtain ⟨ro2, s2, t2, hg2, hid2, hC2⟩ := hN.read hzN
            simp (maxSteps := 4000000) (disch := first | omega | assumption | (simp only [bxS, bxV, stOk, Nat.reduceBEq, Nat.reduceEqDiff, Nat.reduceAdd]; done) | (simp only [bxU]; omega) | ((try apply has_setN); apply has_ofL; simp only [bxL]; omega)) only [↓bxD, bxP, bxQ, bxQ2, Nat.reduceBEq, reduceCtorEq, Nat.reduceAdd, Nat.reduceSub, Nat.reduceMul, Nat.reduceLeDiff, Nat.reduceLT, bxR, g1, g3, g4, g5, g7, g8, g9, h10, h11, hb, c1, u1, u2, n1, n2, d1, d2, d3, hg, hC, hg2, hC2, wj]
            show Wp fns K13_4 _ _ _
            unfold K13_4
            simp (maxSteps := 4000000) (disch := first | omega | assumption | (simp only [bxS, bxV, stOk, Nat.reduceBEq, Nat.reduceEqDiff, Nat.reduceAdd]; done) | (simp only [bxU]; omega) | ((try apply has_setN); apply has_ofL; simp only [bxL]; omega)) only [↓bxD, bxP, bxQ, bxQ2, Nat.reduceBEq, reduceCtorEq, Nat.reduceAdd, Nat.reduceSub, Nat.reduceMul, Nat.reduceLeDiff, Nat.reduceLT, bxR, g1, g3, g4, g5, g7, g8, g9, h10, h11, hb, c1, u1, u2, n1, n2, d1, d2, d3, hg, hC, hg2, hC2, wj]
            show Wp fns K13_3 _ _ _
            unfold K13_3
            simp (maxSteps := 4000000) (disch := first | omega | assumption | (simp only [bxS, bxV, stOk, Nat.reduceBEq, Nat.reduceEqDiff, Nat.reduceAdd]; done) | (simp only [bxU]; omega) | ((try apply has_setN); apply has_ofL; simp only [bxL]; omega)) only [↓bxD, bxP, bxQ, bxQ2, Nat.reduceBEq, reduceCtorEq, Nat.reduceAdd, Nat.reduceSub, Nat.reduceMul, Nat.reduceLeDiff, Nat.reduceLT, bxR, g1, g3, g4, g5, g7, g8, g9, h10, h11, hb, c1, u1, u2, n1, n2, d1, d2, d3, hg, hC, hg2, hC2, wj]
            exact ⟨j + 1, by omega, by omega, ⟨by simp only [bxP, bxQ, bxQ2, reduceCtorEq, g1, g3, g4, g5, g7, g8, g9, h10, h11, hb, c1, u1, u2, n1, n2, d1, d2, d3, hg, hC, hg2, hC2, wj], by simp only [bxP, bxQ, bxQ2, reduceCtorEq, g1, g3, g4, g5, g7, g8, g9, h10, h11, hb, c1, u1, u2, n1, n2, d1, d2, d3, hg, hC, hg2, hC2, wj], by simp only [bxP, bxQ, bxQ2, reduceCtorEq, g1, g3, g4, g5, g7, g8, g9, h10, h11, hb, c1, u1, u2, n1, n2, d1, d2, d3, hg, hC, hg2, hC2, wj], by simp only [bxP, bxQ, bxQ2, reduceCtorEq, g1, g3, g4, g5, g7, g8, g9, h10, h11, hb, c1, u1, u2, n1, n2, d1, d2, d3, hg, hC, hg2, hC2, wj], by simp only [bxP, bxQ, bxQ2, reduceCtorEq, g1, g3, g4, g5, g7, g8, g9, h10, h11, hb, c1, u1, u2, n1, n2, d1, d2, d3, hg, hC, hg2, hC2, wj], by simp only [bxP, bxQ, bxQ2, reduceCtorEq, g1, g3, g4, g5, g7, g8, g9, h10, h11, hb, c1, u1, u2, n1, n2, d1, d2, d3, hg, hC, hg2, hC2, wj], by simp only [bxP, bxQ, bxQ2, reduceCtorEq, g1, g3, g4, g5, g7, g8, g9, h10, h11, hb, c1, u1, u2, n1, n2, d1, d2, d3, hg, hC, hg2, hC2, wj]⟩, by rw [hsucc], rfl⟩
          · have d3 : decide (0 ≤ z) = false := decide_eq_false z0
            have hone : oneN N z = false := by unfold oneN; rw [d3, Bool.false_and]
            rw [hone] at hsucc
            simp (maxSteps := 4000000) (disch := first | omega | assumption | (simp only [bxS, bxV, stOk, Nat.reduceBEq, Nat.reduceEqDiff, Nat.reduceAdd]; done) | (simp only [bxU]; omega) | ((try apply has_setN); apply has_ofL; simp only [bxL]; omega)) only [↓bxD, bxP, bxQ, bxQ2, Nat.reduceBEq, reduceCtorEq, Nat.reduceAdd, Nat.reduceSub, Nat.reduceMul, Nat.reduceLeDiff, Nat.reduceLT, bxR, g1, g3, g4, g5, g7, g8, g9, h10, h11, hb, c1, u1, u2, d1, d2, d3, hg, hC, wj]
            show Wp fns K13_4 _ _ _
            unfold K13_4
            simp (maxSteps := 4000000) (disch := first | omega | assumption | (simp only [bxS, bxV, stOk, Nat.reduceBEq, Nat.reduceEqDiff, Nat.reduceAdd]; done) | (simp only [bxU]; omega) | ((try apply has_setN); apply has_ofL; simp only [bxL]; omega)) only [↓bxD, bxP, bxQ, bxQ2, Nat.reduceBEq, reduceCtorEq, Nat.reduceAdd, Nat.reduceSub, Nat.reduceMul, Nat.reduceLeDiff, Nat.reduceLT, bxR, g1, g3, g4, g5, g7, g8, g9, h10, h11, hb, c1, u1, u2, d1, d2, d3, hg, hC, wj]
            show Wp fns K13_3 _ _ _
            unfold K13_3
            simp (maxSteps := 4000000) (disch := first | omega | assumption | (simp only [bxS, bxV, stOk, Nat.reduceBEq, Nat.reduceEqDiff, Nat.reduceAdd]; done) | (simp only [bxU]; omega) | ((try apply has_setN); apply has_ofL; simp only [bxL]; omega)) only [↓bxD, bxP, bxQ, bxQ2, Nat.reduceBEq, reduceCtorEq, Nat.reduceAdd, Nat.reduceSub, Nat.reduceMul, Nat.reduceLeDiff, Nat.reduceLT, bxR, g1, g3, g4, g5, g7, g8, g9, h10, h11, hb, c1, u1, u2, d1, d2, d3, hg, hC, wj]
            exact ⟨j + 1, by omega, by omega, ⟨by simp only [bxP, bxQ, bxQ2, reduceCtorEq, g1, g3, g4, g5, g7, g8, g9, h10, h11, hb, c1, u1, u2, d1, d2, d3, hg, hC, wj], by simp only [bxP, bxQ, bxQ2, reduceCtorEq, g1, g3, g4, g5, g7, g8, g9, h10, h11, hb, c1, u1, u2, d1, d2, d3, hg, hC, wj], by simp only [bxP, bxQ, bxQ2, reduceCtorEq, g1, g3, g4, g5, g7, g8, g9, h10, h11, hb, c1, u1, u2, d1, d2, d3, hg, hC, wj], by simp only [bxP, bxQ, bxQ2, reduceCtorEq, g1, g3, g4, g5, g7, g8, g9, h10, h11, hb, c1, u1, u2, d1, d2, d3, hg, hC, wj], by simp only [bxP, bxQ, bxQ2, reduceCtorEq, g1, g3, g4, g5, g7, g8, g9, h10, h11, hb, c1, u1, u2, d1, d2, d3, hg, hC, wj], by simp only [bxP, bxQ, bxQ2, reduceCtorEq, g1, g3, g4, g5, g7, g8, g9, h10, h11, hb, c1, u1, u2, d1, d2, d3, hg, hC, wj], by simp only [bxP, bxQ, bxQ2, reduceCtorEq, g1, g3, g4, g5, g7, g8, g9, h10, h11, hb, c1, u1, u2, d1, d2, d3, hg, hC, wj]⟩, by rw [hsucc], rfl⟩
    · have d1 : decide ((j : Int) < (ar.length : Int)) = false := decide_eq_false (by omega)
      obtain rfl : j = ar.length := by omega
      simp (maxSteps := 4000000) (disch := first | omega | assumption | (simp only [bxS, bxV, stOk, Nat.reduceBEq, Nat.reduceEqDiff, Nat.reduceAdd]; done) | (simp only [bxU]; omega) | ((try apply has_setN); apply has_ofL; simp only [bxL]; omega)) only [↓bxD, bxP, bxQ, bxQ2, Nat.reduceBEq, reduceCtorEq, Nat.reduceAdd, Nat.reduceSub, Nat.reduceMul, Nat.reduceLeDiff, Nat.reduceLT, bxR, g1, g3, g4, g5, g7, g8, g9, h10, h11, hb, c1, u1, u2, d1]
      exact hn _ ⟨by simp only [bxP, bxQ, bxQ2, reduceCtorEq, g1, g3, g4, g5, g7, g8, g9, h10, h11, hb, c1, u1, u2, d1], by simp only [bxP, bxQ, bxQ2, reduceCtorEq, g1, g3, g4, g5, g7, g8, g9, h10, h11, hb, c1, u1, u2, d1], by simp only [bxP, bxQ, bxQ2, reduceCtorEq, g1, g3, g4, g5, g7, g8, g9, h10, h11, hb, c1, u1, u2, d1], by simp only [bxP, bxQ, bxQ2, reduceCtorEq, g1, g3, g4, g5, g7, g8, g9, h10, h11, hb, c1, u1, u2, d1], by simp only [bxP, bxQ, bxQ2, reduceCtorEq, g1, g3, g4, g5, g7, g8, g9, h10, h11, hb, c1, u1, u2, d1], by simp only [bxP, bxQ, bxQ2, reduceCtorEq, g1, g3, g4, g5, g7, g8, g9, h10, h11, hb, c1, u1, u2, d1], by simp only [bxP, bxQ, bxQ2, reduceCtorEq, g1, g3, g4, g5, g7, g8, g9, h10, h11, hb, c1, u1, u2, d1]⟩ (by simp only [bxP, bxQ, bxQ2, reduceCtorEq, g1, g3, g4, g5, g7, g8, g9, h10, h11, hb, c1, u1, u2, d1])
  · exact ⟨rfl, Nat.zero_le _, h, h10, h11⟩
structure CCx (Mb : MH) (g : Gr) (vr vf vc vk : MV) (es : List (List MV)) (n0 nn : Nat) (vn : MV) (N : List Bool) : Prop where
  gr : GrAt Mb vr vf vc vk es g
  ok : GrOk g
  box : Mb.get n0 = some (.cs false 7 (ofL (gcs g vr vf vc vk) 0))
  n0lt : n0 < Mb.n
  lo : Mb.lo ≤ Mb.n
  nul : NulVec g N
  nrow : BRow Mb vn N
  hn : g.names = nn
structure CMt (Mb M : MH) (nn id : Nat) (ids : List Nat) (F : List (List Bool)) : Prop where
  ext : Ext Mb M
  mat : MatOwn M Mb.n id ids F nn
  len : F.length = nn
theorem CMt.step {Mb M M' : MH} {nn id : Nat} {ids : List Nat} {F : List (List Bool)} (h : CMt Mb M nn id ids F) (k : Ext M M') : CMt Mb M' nn id ids F := ⟨h.ext.trans k, h.mat.ext k, h.len⟩
def RelC (N : List Bool) (g : Gr) (i k : Nat) (a : Nat) (ar : List Int) (F : List (List Bool)) (nn : Nat) : Prop := ∀ x y, x < nn → y < nn → mAt F x y = (cyB N (g.rules.take i) x y || (decide (a = x) && aloneB N ar k y))
theorem cyc_row {Mb M : MH} {g : Gr} {vr vf vc vk : MV} {es : List (List MV)} {n0 nn : Nat} {vn : MV} {N : List Bool} (cx : CCx Mb g vr vf vc vk es n0 nn vn N) {id : Nat} {ids : List Nat} {F : List (List Bool)} (h : CMt Mb M nn id ids F) {f : Fr} {i n8 a : Nat} {ur x2 : MV} {ar : List Int} {c : T MV} (hr : M.get n8 = some (.cs false 3 c)) (hC : At c 0 [.i .i64 (a : Int), ur, x2]) (h8n : ∀ j ∈ ids, j ≠ n8) (h8i : id ≠ n8) (h8l : n8 < M.n) (hu : IntRow Mb ur ar) (hsy : ∀ s ∈ ar, symB g s = true) (hl : ar.length ≤ 8) (ha : a < nn)
    (hR : RelC N g i 0 a ar F nn) (hf : CyF f n0 nn id i n8 0 vn) (Q : Post) (hn : ∀ f' M' F' k, CMt Mb M' nn id ids F' → CyF f' n0 nn id i n8 k vn → RelC N g i ar.length a ar F' nn → Q .norm f' M') : Wp fns (.loop L13_9) f M (blockQ 4 Q) := by
  obtain ⟨u1, u2⟩ := hu.sl
  have c0 : cget c 0 = some (.i .i64 (a : Int)) := hC 0 _ rfl
  have c1 : cget c 1 = some ur := hC 1 _ rfl
  have hlo := cx.lo
  have hok := cx.ok
  have hnn := cx.hn
  have hn40 := hok.n2
  have hNl : N.length = nn := by rw [cx.nul.1]; omega
  have hsl : ∀ s ∈ ar, 0 ≤ s → s.toNat < nn := fun s hs h0 => by
    have := symB_lt (hsy s hs) h0
    omega
  refine Wp_inv (σ := Nat × List (List Bool)) (fun s f' M' => s.1 ≤ ar.length ∧ CMt Mb M' nn id ids s.2 ∧ M'.get n8 = some (.cs false 3 c) ∧ n8 < M'.n ∧ RelC N g i s.1 a ar s.2 nn ∧ CyF f' n0 nn id i n8 s.1 vn) (fun s => ar.length - s.1) ?_ (0, F) ?_
  · clear h hr hR hf h8l
    rintro ⟨k, F⟩ f M ⟨hk, h, hr, h8l, hR, hf⟩
    simp only at hk h hR hf
    have g1 := hf.h1
    have g3 := hf.h3
    have g4 := hf.h4
    have g5 := hf.h5
    have g7 := hf.h7
    have g8 := hf.h8
    have g9 := hf.h9
    simp only [q1, q3, q4, q5, q7, q8, q9] at g1 g3 g4 g5 g7 g8 g9
    have hx := h.ext
    have xn := hx.n
    have xl := hx.lo
    unfold L13_9
    by_cases hk' : k < ar.length
    · have d1 : decide ((k : Int) < (ar.length : Int)) = true := decide_eq_true (by omega)
      obtain ⟨z, hz⟩ : ∃ z, ar[k]? = some z := ⟨_, List.getElem?_eq_getElem hk'⟩
      obtain ⟨ro, s, t, hg, hid, hCz⟩ := (hu.ext hx).read hz
      have hgd : ar.getD k (-1) = z := by rw [List.getD_eq_getElem?_getD, hz]; rfl
      simp (maxSteps := 4000000) (disch := first | omega | assumption | (simp only [bxS, bxV, stOk, Nat.reduceBEq, Nat.reduceEqDiff, Nat.reduceAdd]; done) | (simp only [bxU]; omega) | ((try apply has_setN); apply has_ofL; simp only [bxL]; omega)) only [↓bxD, bxP, bxQ, bxQ2, Nat.reduceBEq, reduceCtorEq, Nat.reduceAdd, Nat.reduceSub, Nat.reduceMul, Nat.reduceLeDiff, Nat.reduceLT, bxR, g1, g3, g4, g5, g7, g8, g9, hr, c0, c1, u1, u2, d1, hg, hCz]
      show Wp fns K13_8 _ _ _
      unfold K13_8
      simp (maxSteps := 4000000) (disch := first | omega | assumption | (simp only [bxS, bxV, stOk, Nat.reduceBEq, Nat.reduceEqDiff, Nat.reduceAdd]; done) | (simp only [bxU]; omega) | ((try apply has_setN); apply has_ofL; simp only [bxL]; omega)) only [↓bxD, bxP, bxQ, bxQ2, Nat.reduceBEq, reduceCtorEq, Nat.reduceAdd, Nat.reduceSub, Nat.reduceMul, Nat.reduceLeDiff, Nat.reduceLT, bxR, g1, g3, g4, g5, g7, g8, g9, hr, c0, c1, u1, u2, d1, hg, hCz]
      refine cyc_in (n0 := n0) (nn := nn) (id := id) (i := i) (n8 := n8) (k := k) (vn := vn) (N := N) (ar := ar) (c := c) ?_ hr c1 (hu.ext hx) (cx.nrow.ext hx) (fun s hs h0 => by rw [hNl]; exact hsl s hs h0) hl hk' ?_ ?_ _ ?_
      · exact ⟨by simp only [bxP, bxQ, bxQ2, reduceCtorEq, g1, g3, g4, g5, g7, g8, g9, hr, c0, c1, u1, u2, d1, hg, hCz], by simp only [bxP, bxQ, bxQ2, reduceCtorEq, g1, g3, g4, g5, g7, g8, g9, hr, c0, c1, u1, u2, d1, hg, hCz], by simp only [bxP, bxQ, bxQ2, reduceCtorEq, g1, g3, g4, g5, g7, g8, g9, hr, c0, c1, u1, u2, d1, hg, hCz], by simp only [bxP, bxQ, bxQ2, reduceCtorEq, g1, g3, g4, g5, g7, g8, g9, hr, c0, c1, u1, u2, d1, hg, hCz], by simp only [bxP, bxQ, bxQ2, reduceCtorEq, g1, g3, g4, g5, g7, g8, g9, hr, c0, c1, u1, u2, d1, hg, hCz], by simp only [bxP, bxQ, bxQ2, reduceCtorEq, g1, g3, g4, g5, g7, g8, g9, hr, c0, c1, u1, u2, d1, hg, hCz], by simp only [bxP, bxQ, bxQ2, reduceCtorEq, g1, g3, g4, g5, g7, g8, g9, hr, c0, c1, u1, u2, d1, hg, hCz]⟩
      · rw [alV_zero, hgd]
        simp (maxSteps := 4000000) (disch := first | omega | assumption | (simp only [bxS, bxV, stOk, Nat.reduceBEq, Nat.reduceEqDiff, Nat.reduceAdd]; done) | (simp only [bxU]; omega) | ((try apply has_setN); apply has_ofL; simp only [bxL]; omega)) only [↓bxD, bxP, bxQ, bxQ2, Nat.reduceBEq, reduceCtorEq, Nat.reduceAdd, Nat.reduceSub, Nat.reduceMul, Nat.reduceLeDiff, Nat.reduceLT, bxR, g1, g3, g4, g5, g7, g8, g9, hr, c0, c1, u1, u2, d1, hg, hCz]
      · simp only [bxP, bxQ, bxQ2, reduceCtorEq, g1, g3, g4, g5, g7, g8, g9, hr, c0, c1, u1, u2, d1, hg, hCz] <;> rfl
      intro f2 hf2 h10
      rw [alV_all hz] at h10
      have g1 := hf2.h1
      have g3 := hf2.h3
      have g4 := hf2.h4
      have g5 := hf2.h5
      have g7 := hf2.h7
      have g8 := hf2.h8
      have g9 := hf2.h9
      simp only [q1, q3, q4, q5, q7, q8, q9, q10] at g1 g3 g4 g5 g7 g8 g9 h10
      have hstep : ∀ F', (∀ x y, x < nn → y < nn → mAt F' x y = (mAt F x y || (decide (a = x) && (decide (ar[k]? = some (y : Int)) && stayN N ar k)))) → RelC N g i (k + 1) a ar F' nn := fun F' e x y hx hy => by
        rw [e x y hx hy, hR x y hx hy, aloneB_succ, Bool.and_or_distrib_left, Bool.or_assoc]
      cases hb : decide (0 ≤ z) && stayN N ar k with
      | false =>
        rw [hb] at h10
        show Wp fns K13_6 _ _ _
        unfold K13_6
        simp (maxSteps := 4000000) (disch := first | omega | assumption | (simp only [bxS, bxV, stOk, Nat.reduceBEq, Nat.reduceEqDiff, Nat.reduceAdd]; done) | (simp only [bxU]; omega) | ((try apply has_setN); apply has_ofL; simp only [bxL]; omega)) only [↓bxD, bxP, bxQ, bxQ2, Nat.reduceBEq, reduceCtorEq, Nat.reduceAdd, Nat.reduceSub, Nat.reduceMul, Nat.reduceLeDiff, Nat.reduceLT, bxR, g1, g3, g4, g5, g7, g8, g9, h10]
        show Wp fns K13_7 _ _ _
        unfold K13_7
        simp (maxSteps := 4000000) (disch := first | omega | assumption | (simp only [bxS, bxV, stOk, Nat.reduceBEq, Nat.reduceEqDiff, Nat.reduceAdd]; done) | (simp only [bxU]; omega) | ((try apply has_setN); apply has_ofL; simp only [bxL]; omega)) only [↓bxD, bxP, bxQ, bxQ2, Nat.reduceBEq, reduceCtorEq, Nat.reduceAdd, Nat.reduceSub, Nat.reduceMul, Nat.reduceLeDiff, Nat.reduceLT, bxR, g1, g3, g4, g5, g7, g8, g9, h10]
        refine ⟨(k + 1, F), by simp only; omega, by simp only; omega, h, hr, h8l, hstep F fun x y hx hy => ?_, ⟨by simp only [bxP, bxQ, bxQ2, reduceCtorEq, g1, g3, g4, g5, g7, g8, g9, h10], by simp only [bxP, bxQ, bxQ2, reduceCtorEq, g1, g3, g4, g5, g7, g8, g9, h10], by simp only [bxP, bxQ, bxQ2, reduceCtorEq, g1, g3, g4, g5, g7, g8, g9, h10], by simp only [bxP, bxQ, bxQ2, reduceCtorEq, g1, g3, g4, g5, g7, g8, g9, h10], by simp only [bxP, bxQ, bxQ2, reduceCtorEq, g1, g3, g4, g5, g7, g8, g9, h10], by simp only [bxP, bxQ, bxQ2, reduceCtorEq, g1, g3, g4, g5, g7, g8, g9, h10], by simp only [bxP, bxQ, bxQ2, reduceCtorEq, g1, g3, g4, g5, g7, g8, g9, h10] <;> rfl⟩⟩
        cases hst : stayN N ar k with
        | false => simp
        | true =>
          rw [hst, Bool.and_true] at hb
          simp only [decide_eq_false_iff_not] at hb
          have hd : decide (some z = some (y : Int)) = false := decide_eq_false fun e => by injection e with e; omega
          rw [hz, hd]
          simp
      | true =>
        rw [hb] at h10
        simp only [Bool.and_eq_true, decide_eq_true_eq] at hb
        obtain ⟨z0, hst⟩ := hb
        obtain ⟨zn, rfl⟩ : ∃ n : Nat, z = n := ⟨z.toNat, by omega⟩
        have hzn := hsl _ (List.mem_of_getElem? hz) z0
        rw [Int.toNat_natCast] at hzn
        obtain ⟨tt, tt1, tt2⟩ := h.mat.topr
        have hil : ids.length = nn := h.mat.len.trans h.len
        obtain ⟨j, hj⟩ : ∃ j, ids[a]? = some j := ⟨_, List.getElem?_eq_getElem (by omega)⟩
        have hjm := List.mem_of_getElem? hj
        obtain ⟨jn1, jn2, jn3⟩ := h.mat.ne j hjm
        have hT := tt2 a j hj
        obtain ⟨cj, cj1, cj2, cj3, cj4⟩ := MatOwn.put h.mat hj hzn
        show Wp fns K13_6 _ _ _
        unfold K13_6
        simp (maxSteps := 4000000) (disch := first | omega | assumption | (simp only [bxS, bxV, stOk, Nat.reduceBEq, Nat.reduceEqDiff, Nat.reduceAdd]; done) | (simp only [bxU]; omega) | ((try apply has_setN); apply has_ofL; simp only [bxL]; omega)) only [↓bxD, bxP, bxQ, bxQ2, Nat.reduceBEq, reduceCtorEq, Nat.reduceAdd, Nat.reduceSub, Nat.reduceMul, Nat.reduceLeDiff, Nat.reduceLT, bxR, g1, g3, g4, g5, g7, g8, g9, h10, hr, c0, c1, u1, u2, hg, hCz, tt1, hT, cj1, cj3, ix_slc]
        refine Wp_dreg_of (by omega) ?_
        simp (maxSteps := 4000000) (disch := first | omega | assumption | (simp only [bxS, bxV, stOk, Nat.reduceBEq, Nat.reduceEqDiff, Nat.reduceAdd]; done) | (simp only [bxU]; omega) | ((try apply has_setN); apply has_ofL; simp only [bxL]; omega)) only [↓bxD, bxP, bxQ, bxQ2, Nat.reduceBEq, reduceCtorEq, Nat.reduceAdd, Nat.reduceSub, Nat.reduceMul, Nat.reduceLeDiff, Nat.reduceLT, bxR, g1, g3, g4, g5, g7, g8, g9, h10, hr, c0, c1, u1, u2, hg, hCz, tt1, hT, cj1, cj3, ix_slc]
        show Wp fns K13_7 _ _ _
        unfold K13_7
        simp (maxSteps := 4000000) (disch := first | omega | assumption | (simp only [bxS, bxV, stOk, Nat.reduceBEq, Nat.reduceEqDiff, Nat.reduceAdd]; done) | (simp only [bxU]; omega) | ((try apply has_setN); apply has_ofL; simp only [bxL]; omega)) only [↓bxD, bxP, bxQ, bxQ2, Nat.reduceBEq, reduceCtorEq, Nat.reduceAdd, Nat.reduceSub, Nat.reduceMul, Nat.reduceLeDiff, Nat.reduceLT, bxR, g1, g3, g4, g5, g7, g8, g9, h10, hr, c0, c1, u1, u2, hg, hCz, tt1, hT, cj1, cj3, ix_slc]
        refine ⟨(k + 1, setMb F a zn true), by simp only; omega, by simp only; omega, ⟨hx.set _ (by omega), cj4 true, by unfold setMb; rw [List.length_set]; exact h.len⟩, by rw [set_ne (Ne.symm (h8n j hjm))]; exact hr, h8l, hstep _ fun x y hx' hy => ?_, ⟨by simp only [bxP, bxQ, bxQ2, reduceCtorEq, g1, g3, g4, g5, g7, g8, g9, h10, hr, c0, c1, u1, u2, hg, hCz, tt1, hT, cj1, cj3, ix_slc], by simp only [bxP, bxQ, bxQ2, reduceCtorEq, g1, g3, g4, g5, g7, g8, g9, h10, hr, c0, c1, u1, u2, hg, hCz, tt1, hT, cj1, cj3, ix_slc], by simp only [bxP, bxQ, bxQ2, reduceCtorEq, g1, g3, g4, g5, g7, g8, g9, h10, hr, c0, c1, u1, u2, hg, hCz, tt1, hT, cj1, cj3, ix_slc], by simp only [bxP, bxQ, bxQ2, reduceCtorEq, g1, g3, g4, g5, g7, g8, g9, h10, hr, c0, c1, u1, u2, hg, hCz, tt1, hT, cj1, cj3, ix_slc], by simp only [bxP, bxQ, bxQ2, reduceCtorEq, g1, g3, g4, g5, g7, g8, g9, h10, hr, c0, c1, u1, u2, hg, hCz, tt1, hT, cj1, cj3, ix_slc], by simp only [bxP, bxQ, bxQ2, reduceCtorEq, g1, g3, g4, g5, g7, g8, g9, h10, hr, c0, c1, u1, u2, hg, hCz, tt1, hT, cj1, cj3, ix_slc], by simp only [bxP, bxQ, bxQ2, reduceCtorEq, g1, g3, g4, g5, g7, g8, g9, h10, hr, c0, c1, u1, u2, hg, hCz, tt1, hT, cj1, cj3, ix_slc] <;> rfl⟩⟩
        rw [setMb_at (by rw [h.len]; exact ha) h.mat.size hzn, hst, Bool.and_true, hz]
        by_cases e1 : x = a
        · subst e1
          by_cases e2 : y = zn
          · subst e2
            rw [if_pos ⟨rfl, rfl⟩]; simp
          · have hd : decide (some (zn : Int) = some (y : Int)) = false := decide_eq_false fun e => by injection e with e; omega
            rw [if_neg (fun e => e2 e.2), hd]; simp
        · rw [if_neg (fun e => e1 e.1), decide_eq_false (show ¬ a = x from fun e => e1 e.symm)]; simp
    · have d1 : decide ((k : Int) < (ar.length : Int)) = false := decide_eq_false (by omega)
      obtain rfl : k = ar.length := by omega
      simp (maxSteps := 4000000) (disch := first | omega | assumption | (simp only [bxS, bxV, stOk, Nat.reduceBEq, Nat.reduceEqDiff, Nat.reduceAdd]; done) | (simp only [bxU]; omega) | ((try apply has_setN); apply has_ofL; simp only [bxL]; omega)) only [↓bxD, bxP, bxQ, bxQ2, Nat.reduceBEq, reduceCtorEq, Nat.reduceAdd, Nat.reduceSub, Nat.reduceMul, Nat.reduceLeDiff, Nat.reduceLT, bxR, g1, g3, g4, g5, g7, g8, g9, hr, c0, c1, u1, u2, d1]
      exact hn _ _ F ar.length h ⟨by simp only [bxP, bxQ, bxQ2, reduceCtorEq, g1, g3, g4, g5, g7, g8, g9, hr, c0, c1, u1, u2, d1], by simp only [bxP, bxQ, bxQ2, reduceCtorEq, g1, g3, g4, g5, g7, g8, g9, hr, c0, c1, u1, u2, d1], by simp only [bxP, bxQ, bxQ2, reduceCtorEq, g1, g3, g4, g5, g7, g8, g9, hr, c0, c1, u1, u2, d1], by simp only [bxP, bxQ, bxQ2, reduceCtorEq, g1, g3, g4, g5, g7, g8, g9, hr, c0, c1, u1, u2, d1], by simp only [bxP, bxQ, bxQ2, reduceCtorEq, g1, g3, g4, g5, g7, g8, g9, hr, c0, c1, u1, u2, d1], by simp only [bxP, bxQ, bxQ2, reduceCtorEq, g1, g3, g4, g5, g7, g8, g9, hr, c0, c1, u1, u2, d1], by simp only [bxP, bxQ, bxQ2, reduceCtorEq, g1, g3, g4, g5, g7, g8, g9, hr, c0, c1, u1, u2, d1]⟩ hR
  · exact ⟨Nat.zero_le _, h, hr, h8l, hR, hf⟩
def RelW (U : Nat → Nat → Bool) (k i j : Nat) (F : List (List Bool)) (nn : Nat) : Prop := ∀ x y, x < nn → y < nn → mAt F x y = if x < i ∨ (x = i ∧ y < j) then cyW U k x y else U x y
theorem RelW.here {U : Nat → Nat → Bool} {k i j nn : Nat} {F : List (List Bool)} (h : RelW U k i j F nn) (hi : i < nn) (hj : j < nn) : mAt F i j = U i j := by
  rw [h i j hi hj, if_neg (by omega)]
theorem RelW.to {U : Nat → Nat → Bool} {k i j nn : Nat} {F : List (List Bool)} (h : RelW U k i j F nn) (hi : i < nn) (hk : k < nn) : mAt F i k = U i k := by
  rw [h i k hi hk]
  split
  · exact cyW_to _ _ _
  · rfl
theorem RelW.via {U : Nat → Nat → Bool} {k i j nn : Nat} {F : List (List Bool)} (h : RelW U k i j F nn) (hk : k < nn) (hj : j < nn) : mAt F k j = U k j := by
  rw [h k j hk hj]
  split
  · exact cyW_via _ _ _
  · rfl
theorem RelW.step {U : Nat → Nat → Bool} {k i j nn : Nat} {F : List (List Bool)} (h : RelW U k i j F nn) (hl : F.length = nn) (hs : ∀ x ∈ F, x.length = nn) (hi : i < nn) (hj : j < nn) {b : Bool} (hb : b = cyW U k i j) : RelW U k i (j + 1) (setMb F i j b) nn := fun x y hx hy => by
  rw [setMb_at (by omega) hs hj]
  by_cases e : x = i ∧ y = j
  · rw [if_pos e, if_pos (by omega), hb, e.1, e.2]
  · rw [if_neg e, h x y hx hy]
    by_cases e2 : x < i ∨ (x = i ∧ y < j)
    · rw [if_pos e2, if_pos (by omega)]
    · rw [if_neg e2, if_neg (by omega)]
structure CyG (f : Fr) (nn id k i : Nat) : Prop where
  h4 : X.ev f (.t q4) = .i .i64 (nn : Int)
  h5 : X.ev f (.t q5) = .sl id 0 nn 0
  h12 : X.ev f (.t q12) = .i .i64 (k : Int)
  h13 : X.ev f (.t q13) = .i .i64 (i : Int)
theorem cyc_j {Mb M : MH} {nn id k i : Nat} {ids : List Nat} {F : List (List Bool)} {U : Nat → Nat → Bool} (hlo : Mb.lo ≤ Mb.n) (hn40 : nn ≤ 40) (h : CMt Mb M nn id ids F) {f : Fr} (hf : CyG f nn id k i) (hk : k < nn) (hi : i < nn) (hR : RelW U k i 0 F nn) (h14 : X.ev f (.t q14) = .i .i64 0) (Q : Post) (hn : ∀ f' M' F', CMt Mb M' nn id ids F' → CyG f' nn id k i → RelW U k i nn F' nn → Q .norm f' M') : Wp fns (.loop L13_15) f M (blockQ 12 Q) := by
  refine Wp_inv (σ := Nat × List (List Bool)) (fun s f' M' => s.1 ≤ nn ∧ CMt Mb M' nn id ids s.2 ∧ RelW U k i s.1 s.2 nn ∧ CyG f' nn id k i ∧ X.ev f' (.t q14) = .i .i64 (s.1 : Int)) (fun s => nn - s.1) ?_ (0, F) ?_
  · clear h hf hR h14
    rintro ⟨j, F⟩ f M ⟨hj, h, hR, hf, h14⟩
    simp only at hj h hR h14
    have g4 := hf.h4
    have g5 := hf.h5
    have g12 := hf.h12
    have g13 := hf.h13
    simp only [q4, q5, q12, q13, q14] at g4 g5 g12 g13 h14
    have hx := h.ext
    have xn := hx.n
    have xl := hx.lo
    have hFl := h.len
    unfold L13_15
    by_cases hj' : j < nn
    · have d1 : decide ((j : Int) < (nn : Int)) = true := decide_eq_true (by omega)
      obtain ⟨tt, tt1, tt2⟩ := h.mat.topr
      have hil : ids.length = nn := h.mat.len.trans h.len
      obtain ⟨ji, hji⟩ : ∃ j, ids[i]? = some j := ⟨_, List.getElem?_eq_getElem (by omega)⟩
      obtain ⟨jk, hjk⟩ : ∃ j, ids[k]? = some j := ⟨_, List.getElem?_eq_getElem (by omega)⟩
      obtain ⟨jn1, jn2, jn3⟩ := h.mat.ne ji (List.mem_of_getElem? hji)
      have hTi := tt2 i ji hji
      have hTk := tt2 k jk hjk
      obtain ⟨ci, ci1, ci2, ci3, ci4⟩ := MatOwn.put h.mat hji hj'
      obtain ⟨ck, ck1, ck2, ck3, ck4⟩ := MatOwn.put h.mat hjk hj'
      have a1 := ci2 j hj'
      have a2 := ci2 k hk
      have a3 := ck2 j hj'
      rw [hR.here hi hj'] at a1
      rw [hR.to hi hk] at a2
      rw [hR.via hk hj'] at a3
      have fin : ∀ b, b = cyW U k i j → ∀ f', CyG f' nn id k i → X.ev f' (.t q14) = .i .i64 ((j + 1 : Nat) : Int) → ∃ s' : Nat × List (List Bool), nn - s'.1 < nn - j ∧ s'.1 ≤ nn ∧ CMt Mb (M.set ji (some (.cs false 1 (setN [.b b] (j * 1) ci)))) nn id ids s'.2 ∧ RelW U k i s'.1 s'.2 nn ∧ CyG f' nn id k i ∧ X.ev f' (.t q14) = .i .i64 (s'.1 : Int) := fun b hb f' k1 k2 => ⟨(j + 1, setMb F i j b), by simp only; omega, by simp only; omega, ⟨hx.set _ jn2, ci4 b, by unfold setMb; rw [List.length_set]; exact h.len⟩, hR.step hFl h.mat.size hi hj' hb, k1, k2⟩
      cases b1 : U i j with
      | true =>
        rw [b1] at a1
        simp (maxSteps := 4000000) (disch := first | omega | assumption | (simp only [bxS, bxV, stOk, Nat.reduceBEq, Nat.reduceEqDiff, Nat.reduceAdd]; done) | (simp only [bxU]; omega) | ((try apply has_setN); apply has_ofL; simp only [bxL]; omega)) only [↓bxD, bxP, bxQ, bxQ2, Nat.reduceBEq, reduceCtorEq, Nat.reduceAdd, Nat.reduceSub, Nat.reduceMul, Nat.reduceLeDiff, Nat.reduceLT, bxR, g4, g5, g12, g13, h14, d1, tt1, hTi, hTk, ci1, ck1, a1, a2, a3, ci3, ix_slc]
        show Wp fns K13_14 _ _ _
        unfold K13_14
        simp (maxSteps := 4000000) (disch := first | omega | assumption | (simp only [bxS, bxV, stOk, Nat.reduceBEq, Nat.reduceEqDiff, Nat.reduceAdd]; done) | (simp only [bxU]; omega) | ((try apply has_setN); apply has_ofL; simp only [bxL]; omega)) only [↓bxD, bxP, bxQ, bxQ2, Nat.reduceBEq, reduceCtorEq, Nat.reduceAdd, Nat.reduceSub, Nat.reduceMul, Nat.reduceLeDiff, Nat.reduceLT, bxR, g4, g5, g12, g13, h14, d1, tt1, hTi, hTk, ci1, ck1, a1, a2, a3, ci3, ix_slc]
        refine Wp_dreg_of (by omega) ?_
        simp (maxSteps := 4000000) (disch := first | omega | assumption | (simp only [bxS, bxV, stOk, Nat.reduceBEq, Nat.reduceEqDiff, Nat.reduceAdd]; done) | (simp only [bxU]; omega) | ((try apply has_setN); apply has_ofL; simp only [bxL]; omega)) only [↓bxD, bxP, bxQ, bxQ2, Nat.reduceBEq, reduceCtorEq, Nat.reduceAdd, Nat.reduceSub, Nat.reduceMul, Nat.reduceLeDiff, Nat.reduceLT, bxR, g4, g5, g12, g13, h14, d1, tt1, hTi, hTk, ci1, ck1, a1, a2, a3, ci3, ix_slc]
        show Wp fns K13_13 _ _ _
        unfold K13_13
        simp (maxSteps := 4000000) (disch := first | omega | assumption | (simp only [bxS, bxV, stOk, Nat.reduceBEq, Nat.reduceEqDiff, Nat.reduceAdd]; done) | (simp only [bxU]; omega) | ((try apply has_setN); apply has_ofL; simp only [bxL]; omega)) only [↓bxD, bxP, bxQ, bxQ2, Nat.reduceBEq, reduceCtorEq, Nat.reduceAdd, Nat.reduceSub, Nat.reduceMul, Nat.reduceLeDiff, Nat.reduceLT, bxR, g4, g5, g12, g13, h14, d1, tt1, hTi, hTk, ci1, ck1, a1, a2, a3, ci3, ix_slc]
        refine fin true (by unfold cyW; rw [b1]; rfl) _ ⟨by simp only [bxP, bxQ, bxQ2, reduceCtorEq, g4, g5, g12, g13, h14, d1, tt1, hTi, hTk, ci1, ck1, a1, a2, a3, ci3, ix_slc], by simp only [bxP, bxQ, bxQ2, reduceCtorEq, g4, g5, g12, g13, h14, d1, tt1, hTi, hTk, ci1, ck1, a1, a2, a3, ci3, ix_slc], by simp only [bxP, bxQ, bxQ2, reduceCtorEq, g4, g5, g12, g13, h14, d1, tt1, hTi, hTk, ci1, ck1, a1, a2, a3, ci3, ix_slc], by simp only [bxP, bxQ, bxQ2, reduceCtorEq, g4, g5, g12, g13, h14, d1, tt1, hTi, hTk, ci1, ck1, a1, a2, a3, ci3, ix_slc]⟩ (by simp only [bxP, bxQ, bxQ2, reduceCtorEq, g4, g5, g12, g13, h14, d1, tt1, hTi, hTk, ci1, ck1, a1, a2, a3, ci3, ix_slc] <;> rfl)
      | false =>
        rw [b1] at a1
        cases b2 : U i k with
        | true =>
          rw [b2] at a2
          simp (maxSteps := 4000000) (disch := first | omega | assumption | (simp only [bxS, bxV, stOk, Nat.reduceBEq, Nat.reduceEqDiff, Nat.reduceAdd]; done) | (simp only [bxU]; omega) | ((try apply has_setN); apply has_ofL; simp only [bxL]; omega)) only [↓bxD, bxP, bxQ, bxQ2, Nat.reduceBEq, reduceCtorEq, Nat.reduceAdd, Nat.reduceSub, Nat.reduceMul, Nat.reduceLeDiff, Nat.reduceLT, bxR, g4, g5, g12, g13, h14, d1, tt1, hTi, hTk, ci1, ck1, a1, a2, a3, ci3, ix_slc]
          show Wp fns K13_14 _ _ _
          unfold K13_14
          simp (maxSteps := 4000000) (disch := first | omega | assumption | (simp only [bxS, bxV, stOk, Nat.reduceBEq, Nat.reduceEqDiff, Nat.reduceAdd]; done) | (simp only [bxU]; omega) | ((try apply has_setN); apply has_ofL; simp only [bxL]; omega)) only [↓bxD, bxP, bxQ, bxQ2, Nat.reduceBEq, reduceCtorEq, Nat.reduceAdd, Nat.reduceSub, Nat.reduceMul, Nat.reduceLeDiff, Nat.reduceLT, bxR, g4, g5, g12, g13, h14, d1, tt1, hTi, hTk, ci1, ck1, a1, a2, a3, ci3, ix_slc]
          refine Wp_dreg_of (by omega) ?_
          simp (maxSteps := 4000000) (disch := first | omega | assumption | (simp only [bxS, bxV, stOk, Nat.reduceBEq, Nat.reduceEqDiff, Nat.reduceAdd]; done) | (simp only [bxU]; omega) | ((try apply has_setN); apply has_ofL; simp only [bxL]; omega)) only [↓bxD, bxP, bxQ, bxQ2, Nat.reduceBEq, reduceCtorEq, Nat.reduceAdd, Nat.reduceSub, Nat.reduceMul, Nat.reduceLeDiff, Nat.reduceLT, bxR, g4, g5, g12, g13, h14, d1, tt1, hTi, hTk, ci1, ck1, a1, a2, a3, ci3, ix_slc]
          show Wp fns K13_13 _ _ _
          unfold K13_13
          simp (maxSteps := 4000000) (disch := first | omega | assumption | (simp only [bxS, bxV, stOk, Nat.reduceBEq, Nat.reduceEqDiff, Nat.reduceAdd]; done) | (simp only [bxU]; omega) | ((try apply has_setN); apply has_ofL; simp only [bxL]; omega)) only [↓bxD, bxP, bxQ, bxQ2, Nat.reduceBEq, reduceCtorEq, Nat.reduceAdd, Nat.reduceSub, Nat.reduceMul, Nat.reduceLeDiff, Nat.reduceLT, bxR, g4, g5, g12, g13, h14, d1, tt1, hTi, hTk, ci1, ck1, a1, a2, a3, ci3, ix_slc]
          refine fin (U k j) (by unfold cyW; rw [b1, b2]; rfl) _ ⟨by simp only [bxP, bxQ, bxQ2, reduceCtorEq, g4, g5, g12, g13, h14, d1, tt1, hTi, hTk, ci1, ck1, a1, a2, a3, ci3, ix_slc], by simp only [bxP, bxQ, bxQ2, reduceCtorEq, g4, g5, g12, g13, h14, d1, tt1, hTi, hTk, ci1, ck1, a1, a2, a3, ci3, ix_slc], by simp only [bxP, bxQ, bxQ2, reduceCtorEq, g4, g5, g12, g13, h14, d1, tt1, hTi, hTk, ci1, ck1, a1, a2, a3, ci3, ix_slc], by simp only [bxP, bxQ, bxQ2, reduceCtorEq, g4, g5, g12, g13, h14, d1, tt1, hTi, hTk, ci1, ck1, a1, a2, a3, ci3, ix_slc]⟩ (by simp only [bxP, bxQ, bxQ2, reduceCtorEq, g4, g5, g12, g13, h14, d1, tt1, hTi, hTk, ci1, ck1, a1, a2, a3, ci3, ix_slc] <;> rfl)
        | false =>
          rw [b2] at a2
          simp (maxSteps := 4000000) (disch := first | omega | assumption | (simp only [bxS, bxV, stOk, Nat.reduceBEq, Nat.reduceEqDiff, Nat.reduceAdd]; done) | (simp only [bxU]; omega) | ((try apply has_setN); apply has_ofL; simp only [bxL]; omega)) only [↓bxD, bxP, bxQ, bxQ2, Nat.reduceBEq, reduceCtorEq, Nat.reduceAdd, Nat.reduceSub, Nat.reduceMul, Nat.reduceLeDiff, Nat.reduceLT, bxR, g4, g5, g12, g13, h14, d1, tt1, hTi, hTk, ci1, ck1, a1, a2, a3, ci3, ix_slc]
          show Wp fns K13_14 _ _ _
          unfold K13_14
          simp (maxSteps := 4000000) (disch := first | omega | assumption | (simp only [bxS, bxV, stOk, Nat.reduceBEq, Nat.reduceEqDiff, Nat.reduceAdd]; done) | (simp only [bxU]; omega) | ((try apply has_setN); apply has_ofL; simp only [bxL]; omega)) only [↓bxD, bxP, bxQ, bxQ2, Nat.reduceBEq, reduceCtorEq, Nat.reduceAdd, Nat.reduceSub, Nat.reduceMul, Nat.reduceLeDiff, Nat.reduceLT, bxR, g4, g5, g12, g13, h14, d1, tt1, hTi, hTk, ci1, ck1, a1, a2, a3, ci3, ix_slc]
          refine Wp_dreg_of (by omega) ?_
          simp (maxSteps := 4000000) (disch := first | omega | assumption | (simp only [bxS, bxV, stOk, Nat.reduceBEq, Nat.reduceEqDiff, Nat.reduceAdd]; done) | (simp only [bxU]; omega) | ((try apply has_setN); apply has_ofL; simp only [bxL]; omega)) only [↓bxD, bxP, bxQ, bxQ2, Nat.reduceBEq, reduceCtorEq, Nat.reduceAdd, Nat.reduceSub, Nat.reduceMul, Nat.reduceLeDiff, Nat.reduceLT, bxR, g4, g5, g12, g13, h14, d1, tt1, hTi, hTk, ci1, ck1, a1, a2, a3, ci3, ix_slc]
          show Wp fns K13_13 _ _ _
          unfold K13_13
          simp (maxSteps := 4000000) (disch := first | omega | assumption | (simp only [bxS, bxV, stOk, Nat.reduceBEq, Nat.reduceEqDiff, Nat.reduceAdd]; done) | (simp only [bxU]; omega) | ((try apply has_setN); apply has_ofL; simp only [bxL]; omega)) only [↓bxD, bxP, bxQ, bxQ2, Nat.reduceBEq, reduceCtorEq, Nat.reduceAdd, Nat.reduceSub, Nat.reduceMul, Nat.reduceLeDiff, Nat.reduceLT, bxR, g4, g5, g12, g13, h14, d1, tt1, hTi, hTk, ci1, ck1, a1, a2, a3, ci3, ix_slc]
          refine fin false (by unfold cyW; rw [b1, b2]; rfl) _ ⟨by simp only [bxP, bxQ, bxQ2, reduceCtorEq, g4, g5, g12, g13, h14, d1, tt1, hTi, hTk, ci1, ck1, a1, a2, a3, ci3, ix_slc], by simp only [bxP, bxQ, bxQ2, reduceCtorEq, g4, g5, g12, g13, h14, d1, tt1, hTi, hTk, ci1, ck1, a1, a2, a3, ci3, ix_slc], by simp only [bxP, bxQ, bxQ2, reduceCtorEq, g4, g5, g12, g13, h14, d1, tt1, hTi, hTk, ci1, ck1, a1, a2, a3, ci3, ix_slc], by simp only [bxP, bxQ, bxQ2, reduceCtorEq, g4, g5, g12, g13, h14, d1, tt1, hTi, hTk, ci1, ck1, a1, a2, a3, ci3, ix_slc]⟩ (by simp only [bxP, bxQ, bxQ2, reduceCtorEq, g4, g5, g12, g13, h14, d1, tt1, hTi, hTk, ci1, ck1, a1, a2, a3, ci3, ix_slc] <;> rfl)
    · have d1 : decide ((j : Int) < (nn : Int)) = false := decide_eq_false (by omega)
      obtain rfl : j = nn := by omega
      simp (maxSteps := 4000000) (disch := first | omega | assumption | (simp only [bxS, bxV, stOk, Nat.reduceBEq, Nat.reduceEqDiff, Nat.reduceAdd]; done) | (simp only [bxU]; omega) | ((try apply has_setN); apply has_ofL; simp only [bxL]; omega)) only [↓bxD, bxP, bxQ, bxQ2, Nat.reduceBEq, reduceCtorEq, Nat.reduceAdd, Nat.reduceSub, Nat.reduceMul, Nat.reduceLeDiff, Nat.reduceLT, bxR, g4, g5, g12, g13, h14, d1]
      exact hn _ _ F h ⟨by simp only [bxP, bxQ, bxQ2, reduceCtorEq, g4, g5, g12, g13, h14, d1], by simp only [bxP, bxQ, bxQ2, reduceCtorEq, g4, g5, g12, g13, h14, d1], by simp only [bxP, bxQ, bxQ2, reduceCtorEq, g4, g5, g12, g13, h14, d1], by simp only [bxP, bxQ, bxQ2, reduceCtorEq, g4, g5, g12, g13, h14, d1]⟩ hR
  · exact ⟨Nat.zero_le _, h, hR, hf, h14⟩
theorem cyc_i {Mb M : MH} {nn id k : Nat} {ids : List Nat} {F : List (List Bool)} {U : Nat → Nat → Bool} (hlo : Mb.lo ≤ Mb.n) (hn40 : nn ≤ 40) (h : CMt Mb M nn id ids F) {f : Fr} (hf : CyG f nn id k 0) (hk : k < nn) (hR : ∀ x y, x < nn → y < nn → mAt F x y = U x y) (Q : Post) (hn : ∀ f' M' F' i, CMt Mb M' nn id ids F' → CyG f' nn id k i → (∀ x y, x < nn → y < nn → mAt F' x y = cyW U k x y) → Q .norm f' M') : Wp fns (.loop L13_18) f M (blockQ 10 Q) := by
  refine Wp_inv (σ := Nat × List (List Bool)) (fun s f' M' => s.1 ≤ nn ∧ CMt Mb M' nn id ids s.2 ∧ RelW U k s.1 0 s.2 nn ∧ CyG f' nn id k s.1) (fun s => nn - s.1) ?_ (0, F) ?_
  · clear h hf hR
    rintro ⟨i, F⟩ f M ⟨hi, h, hR, hf⟩
    simp only at hi h hR hf
    have g4 := hf.h4
    have g5 := hf.h5
    have g12 := hf.h12
    have g13 := hf.h13
    simp only [q4, q5, q12, q13] at g4 g5 g12 g13
    unfold L13_18
    by_cases hi' : i < nn
    · have d1 : decide ((i : Int) < (nn : Int)) = true := decide_eq_true (by omega)
      simp (maxSteps := 4000000) (disch := first | omega | assumption | (simp only [bxS, bxV, stOk, Nat.reduceBEq, Nat.reduceEqDiff, Nat.reduceAdd]; done) | (simp only [bxU]; omega) | ((try apply has_setN); apply has_ofL; simp only [bxL]; omega)) only [↓bxD, bxP, bxQ, bxQ2, Nat.reduceBEq, reduceCtorEq, Nat.reduceAdd, Nat.reduceSub, Nat.reduceMul, Nat.reduceLeDiff, Nat.reduceLT, bxR, g4, g5, g12, g13, d1]
      show Wp fns K13_17 _ _ _
      unfold K13_17
      simp (maxSteps := 4000000) (disch := first | omega | assumption | (simp only [bxS, bxV, stOk, Nat.reduceBEq, Nat.reduceEqDiff, Nat.reduceAdd]; done) | (simp only [bxU]; omega) | ((try apply has_setN); apply has_ofL; simp only [bxL]; omega)) only [↓bxD, bxP, bxQ, bxQ2, Nat.reduceBEq, reduceCtorEq, Nat.reduceAdd, Nat.reduceSub, Nat.reduceMul, Nat.reduceLeDiff, Nat.reduceLT, bxR, g4, g5, g12, g13, d1]
      refine cyc_j hlo hn40 h (k := k) (i := i) (U := U) ⟨by simp only [bxP, bxQ, bxQ2, reduceCtorEq, g4, g5, g12, g13, d1], by simp only [bxP, bxQ, bxQ2, reduceCtorEq, g4, g5, g12, g13, d1], by simp only [bxP, bxQ, bxQ2, reduceCtorEq, g4, g5, g12, g13, d1], by simp only [bxP, bxQ, bxQ2, reduceCtorEq, g4, g5, g12, g13, d1]⟩ hk hi' hR (by simp only [bxP, bxQ, bxQ2, reduceCtorEq, g4, g5, g12, g13, d1] <;> rfl) _ ?_
      intro f2 M2 F2 h2 hf2 hR2
      have k4 := hf2.h4
      have k5 := hf2.h5
      have k12 := hf2.h12
      have k13 := hf2.h13
      simp only [q4, q5, q12, q13] at k4 k5 k12 k13
      show Wp fns K13_16 _ _ _
      unfold K13_16
      simp (maxSteps := 4000000) (disch := first | omega | assumption | (simp only [bxS, bxV, stOk, Nat.reduceBEq, Nat.reduceEqDiff, Nat.reduceAdd]; done) | (simp only [bxU]; omega) | ((try apply has_setN); apply has_ofL; simp only [bxL]; omega)) only [↓bxD, bxP, bxQ, bxQ2, Nat.reduceBEq, reduceCtorEq, Nat.reduceAdd, Nat.reduceSub, Nat.reduceMul, Nat.reduceLeDiff, Nat.reduceLT, bxR, g4, g5, g12, g13, d1, k4, k5, k12, k13]
      refine ⟨(i + 1, F2), by simp only; omega, by simp only; omega, h2, fun x y hx hy => ?_, ⟨by simp (maxSteps := 4000000) (disch := first | omega | assumption | (simp only [bxS, bxV, stOk, Nat.reduceBEq, Nat.reduceEqDiff, Nat.reduceAdd]; done) | (simp only [bxU]; omega) | ((try apply has_setN); apply has_ofL; simp only [bxL]; omega)) only [↓bxD, bxP, bxQ, bxQ2, Nat.reduceBEq, reduceCtorEq, Nat.reduceAdd, Nat.reduceSub, Nat.reduceMul, Nat.reduceLeDiff, Nat.reduceLT, bxR, g4, g5, g12, g13, d1, k4], by simp (maxSteps := 4000000) (disch := first | omega | assumption | (simp only [bxS, bxV, stOk, Nat.reduceBEq, Nat.reduceEqDiff, Nat.reduceAdd]; done) | (simp only [bxU]; omega) | ((try apply has_setN); apply has_ofL; simp only [bxL]; omega)) only [↓bxD, bxP, bxQ, bxQ2, Nat.reduceBEq, reduceCtorEq, Nat.reduceAdd, Nat.reduceSub, Nat.reduceMul, Nat.reduceLeDiff, Nat.reduceLT, bxR, g4, g5, g12, g13, d1, k5], by simp (maxSteps := 4000000) (disch := first | omega | assumption | (simp only [bxS, bxV, stOk, Nat.reduceBEq, Nat.reduceEqDiff, Nat.reduceAdd]; done) | (simp only [bxU]; omega) | ((try apply has_setN); apply has_ofL; simp only [bxL]; omega)) only [↓bxD, bxP, bxQ, bxQ2, Nat.reduceBEq, reduceCtorEq, Nat.reduceAdd, Nat.reduceSub, Nat.reduceMul, Nat.reduceLeDiff, Nat.reduceLT, bxR, g4, g5, g12, g13, d1, k12], by simp (maxSteps := 4000000) (disch := first | omega | assumption | (simp only [bxS, bxV, stOk, Nat.reduceBEq, Nat.reduceEqDiff, Nat.reduceAdd]; done) | (simp only [bxU]; omega) | ((try apply has_setN); apply has_ofL; simp only [bxL]; omega)) only [↓bxD, bxP, bxQ, bxQ2, Nat.reduceBEq, reduceCtorEq, Nat.reduceAdd, Nat.reduceSub, Nat.reduceMul, Nat.reduceLeDiff, Nat.reduceLT, bxR, g4, g5, g12, g13, d1, k13] <;> rfl⟩⟩
      simp only
      rw [hR2 x y hx hy]
      by_cases e : x < i ∨ (x = i ∧ y < nn)
      · rw [if_pos e, if_pos (by omega)]
      · rw [if_neg e, if_neg (by omega)]
    · have d1 : decide ((i : Int) < (nn : Int)) = false := decide_eq_false (by omega)
      obtain rfl : i = nn := by omega
      simp (maxSteps := 4000000) (disch := first | omega | assumption | (simp only [bxS, bxV, stOk, Nat.reduceBEq, Nat.reduceEqDiff, Nat.reduceAdd]; done) | (simp only [bxU]; omega) | ((try apply has_setN); apply has_ofL; simp only [bxL]; omega)) only [↓bxD, bxP, bxQ, bxQ2, Nat.reduceBEq, reduceCtorEq, Nat.reduceAdd, Nat.reduceSub, Nat.reduceMul, Nat.reduceLeDiff, Nat.reduceLT, bxR, g4, g5, g12, g13, d1]
      exact hn _ _ F i h ⟨by simp only [bxP, bxQ, bxQ2, reduceCtorEq, g4, g5, g12, g13, d1], by simp only [bxP, bxQ, bxQ2, reduceCtorEq, g4, g5, g12, g13, d1], by simp only [bxP, bxQ, bxQ2, reduceCtorEq, g4, g5, g12, g13, d1], by simp only [bxP, bxQ, bxQ2, reduceCtorEq, g4, g5, g12, g13, d1]⟩ fun x y hx hy => by rw [hR x y hx hy, if_pos (.inl hx)]
  · exact ⟨Nat.zero_le _, h, fun x y hx hy => by simp only; rw [hR x y hx hy, if_neg (by omega)], hf⟩
theorem cyc_k {Mb M : MH} {nn id i : Nat} {ids : List Nat} {F : List (List Bool)} {U : Nat → Nat → Bool} (hlo : Mb.lo ≤ Mb.n) (hn40 : nn ≤ 40) (h : CMt Mb M nn id ids F) {f : Fr} (h4 : X.ev f (.t q4) = .i .i64 (nn : Int)) (h5 : X.ev f (.t q5) = .sl id 0 nn 0) (h12 : X.ev f (.t q12) = .i .i64 0) (hR : ∀ x y, x < nn → y < nn → mAt F x y = U x y) (Q : Post) (hn : ∀ f' M' F', CMt Mb M' nn id ids F' → X.ev f' (.t q4) = .i .i64 (nn : Int) → X.ev f' (.t q5) = .sl id 0 nn 0 → (∀ x y, x < nn → y < nn → mAt F' x y = cyIt U nn x y) → Q .norm f' M') : Wp fns (.loop L13_21) f M (blockQ 8 Q) := by
  refine Wp_inv (σ := Nat × List (List Bool)) (fun s f' M' => s.1 ≤ nn ∧ CMt Mb M' nn id ids s.2 ∧ (∀ x y, x < nn → y < nn → mAt s.2 x y = cyIt U s.1 x y) ∧ X.ev f' (.t q4) = .i .i64 (nn : Int) ∧ X.ev f' (.t q5) = .sl id 0 nn 0 ∧ X.ev f' (.t q12) = .i .i64 (s.1 : Int)) (fun s => nn - s.1) ?_ (0, F) ?_
  · clear h h4 h5 h12 hR
    rintro ⟨k, F⟩ f M ⟨hk, h, hR, h4, h5, h12⟩
    simp only at hk h hR h12
    simp only [q4, q5, q12] at h4 h5 h12
    unfold L13_21
    by_cases hk' : k < nn
    · have d1 : decide ((k : Int) < (nn : Int)) = true := decide_eq_true (by omega)
      simp (maxSteps := 4000000) (disch := first | omega | assumption | (simp only [bxS, bxV, stOk, Nat.reduceBEq, Nat.reduceEqDiff, Nat.reduceAdd]; done) | (simp only [bxU]; omega) | ((try apply has_setN); apply has_ofL; simp only [bxL]; omega)) only [↓bxD, bxP, bxQ, bxQ2, Nat.reduceBEq, reduceCtorEq, Nat.reduceAdd, Nat.reduceSub, Nat.reduceMul, Nat.reduceLeDiff, Nat.reduceLT, bxR, h4, h5, h12, d1]
      show Wp fns K13_20 _ _ _
      unfold K13_20
      simp (maxSteps := 4000000) (disch := first | omega | assumption | (simp only [bxS, bxV, stOk, Nat.reduceBEq, Nat.reduceEqDiff, Nat.reduceAdd]; done) | (simp only [bxU]; omega) | ((try apply has_setN); apply has_ofL; simp only [bxL]; omega)) only [↓bxD, bxP, bxQ, bxQ2, Nat.reduceBEq, reduceCtorEq, Nat.reduceAdd, Nat.reduceSub, Nat.reduceMul, Nat.reduceLeDiff, Nat.reduceLT, bxR, h4, h5, h12, d1]
      refine cyc_i hlo hn40 h (k := k) (U := cyIt U k) ⟨by simp only [bxP, bxQ, bxQ2, reduceCtorEq, h4, h5, h12, d1], by simp only [bxP, bxQ, bxQ2, reduceCtorEq, h4, h5, h12, d1], by simp only [bxP, bxQ, bxQ2, reduceCtorEq, h4, h5, h12, d1], by simp only [bxP, bxQ, bxQ2, reduceCtorEq, h4, h5, h12, d1] <;> rfl⟩ hk' hR _ ?_
      intro f2 M2 F2 i2 h2 hf2 hR2
      have k4 := hf2.h4
      have k5 := hf2.h5
      have k12 := hf2.h12
      simp only [q4, q5, q12] at k4 k5 k12
      show Wp fns K13_19 _ _ _
      unfold K13_19
      simp (maxSteps := 4000000) (disch := first | omega | assumption | (simp only [bxS, bxV, stOk, Nat.reduceBEq, Nat.reduceEqDiff, Nat.reduceAdd]; done) | (simp only [bxU]; omega) | ((try apply has_setN); apply has_ofL; simp only [bxL]; omega)) only [↓bxD, bxP, bxQ, bxQ2, Nat.reduceBEq, reduceCtorEq, Nat.reduceAdd, Nat.reduceSub, Nat.reduceMul, Nat.reduceLeDiff, Nat.reduceLT, bxR, h4, h5, h12, d1, k4, k5, k12]
      exact ⟨(k + 1, F2), by simp only; omega, by simp only; omega, h2, hR2, rfl⟩
    · have d1 : decide ((k : Int) < (nn : Int)) = false := decide_eq_false (by omega)
      obtain rfl : k = nn := by omega
      simp (maxSteps := 4000000) (disch := first | omega | assumption | (simp only [bxS, bxV, stOk, Nat.reduceBEq, Nat.reduceEqDiff, Nat.reduceAdd]; done) | (simp only [bxU]; omega) | ((try apply has_setN); apply has_ofL; simp only [bxL]; omega)) only [↓bxD, bxP, bxQ, bxQ2, Nat.reduceBEq, reduceCtorEq, Nat.reduceAdd, Nat.reduceSub, Nat.reduceMul, Nat.reduceLeDiff, Nat.reduceLT, bxR, h4, h5, h12, d1]
      exact hn _ _ F h (by simp only [bxP, bxQ, bxQ2, reduceCtorEq, h4, h5, h12, d1]) (by simp only [bxP, bxQ, bxQ2, reduceCtorEq, h4, h5, h12, d1]) hR
  · exact ⟨Nat.zero_le _, h, hR, h4, h5, h12⟩
structure CyH (f : Fr) (n0 nn id i : Nat) (vn : MV) : Prop where
  h1 : X.ev f (.t q1) = .p n0 0
  h3 : X.ev f (.t q3) = vn
  h4 : X.ev f (.t q4) = .i .i64 (nn : Int)
  h5 : X.ev f (.t q5) = .sl id 0 nn 0
  h7 : X.ev f (.t q7) = .i .i64 (i : Int)
theorem cyc_rules {Mb M : MH} {g : Gr} {vr vf vc vk : MV} {es : List (List MV)} {n0 nn : Nat} {vn : MV} {N : List Bool} (cx : CCx Mb g vr vf vc vk es n0 nn vn N) {id : Nat} {ids : List Nat} {F : List (List Bool)} (h : CMt Mb M nn id ids F) {f : Fr} (hf : CyH f n0 nn id 0 vn) (hR : ∀ x y, x < nn → y < nn → mAt F x y = false) (Q : Post) (hn : ∀ f' M' F' i, CMt Mb M' nn id ids F' → CyH f' n0 nn id i vn → (∀ x y, x < nn → y < nn → mAt F' x y = cyB N g.rules x y) → Q .norm f' M') : Wp fns (.loop L13_12) f M (blockQ 2 Q) := by
  obtain ⟨hr1, hr2⟩ := cx.gr.rules.row.sl
  rw [cx.gr.rules.len] at hr2
  have hlo := cx.lo
  have hok := cx.ok
  have hrl := hok.rl
  have hnn := cx.hn
  have hn0 := cx.n0lt
  refine Wp_inv (σ := Nat × List (List Bool)) (fun s f' M' => s.1 ≤ g.rules.length ∧ CMt Mb M' nn id ids s.2 ∧ (∀ x y, x < nn → y < nn → mAt s.2 x y = cyB N (g.rules.take s.1) x y) ∧ CyH f' n0 nn id s.1 vn) (fun s => g.rules.length - s.1) ?_ (0, F) ?_
  · clear h hf hR
    rintro ⟨i, F⟩ f M4 ⟨hi, h, hR, hf⟩
    simp only at hi h hR hf
    have g1 := hf.h1
    have g3 := hf.h3
    have g4 := hf.h4
    have g5 := hf.h5
    have g7 := hf.h7
    simp only [q1, q3, q4, q5, q7] at g1 g3 g4 g5 g7
    have hx := h.ext
    have xn := hx.n
    have xl := hx.lo
    have hbox := (hx.old _ cx.n0lt).trans cx.box
    have cg3 : cget (ofL (gcs g vr vf vc vk) 0) 3 = some vr := (at_ofL (gcs g vr vf vc vk)) 3 _ rfl
    unfold L13_12
    by_cases hi' : i < g.rules.length
    · have d1 : decide ((i : Int) < (g.rules.length : Int)) = true := decide_eq_true (by omega)
      obtain ⟨x, hz⟩ : ∃ x, g.rules[i]? = some x := ⟨_, List.getElem?_eq_getElem hi'⟩
      have hmem := List.mem_of_getElem? hz
      have hleft := hok.left _ hmem
      have hsym := hok.sym _ hmem
      have hlen8 := hok.len _ hmem
      obtain ⟨a0, ar, a2⟩ := x
      simp only at hleft hsym hlen8
      obtain ⟨a, rfl⟩ : ∃ n : Nat, a0 = n := ⟨a0.toNat, by omega⟩
      obtain ⟨ua, hua, hura⟩ : ∃ u1, es[i]? = some [.i .i64 (a : Int), u1, .i .i64 a2] ∧ IntRow Mb u1 ar := cx.gr.rules.get hz
      obtain ⟨hsu1, hsu2⟩ := hura.sl
      obtain ⟨ro, s, t, hg, hid, hat⟩ := (cx.gr.ext hx).rules.row.read hua
      have hN : Ev.getN t 3 (soff vr + i * 3) = some [.i .i64 (a : Int), ua, .i .i64 a2] := hat.getN
      have hst : stOk 3 (.ag [.i .i64 (a : Int), ua, .i .i64 a2]) = true := by cases ua <;> first | rfl | cases hsu1
      simp (maxSteps := 4000000) (disch := first | omega | assumption | (simp only [bxS, bxV, stOk, Nat.reduceBEq, Nat.reduceEqDiff, Nat.reduceAdd]; done) | (simp only [bxU]; omega) | ((try apply has_setN); apply has_ofL; simp only [bxL]; omega)) only [↓bxD, bxP, bxQ, bxQ2, Nat.reduceBEq, reduceCtorEq, Nat.reduceAdd, Nat.reduceSub, Nat.reduceMul, Nat.reduceLeDiff, Nat.reduceLT, bxR, g1, g3, g4, g5, g7, hbox, cg3, hr1, hr2, d1, hg, hN, hst]
      show Wp fns K13_11 _ _ _
      unfold K13_11
      simp (maxSteps := 4000000) (disch := first | omega | assumption | (simp only [bxS, bxV, stOk, Nat.reduceBEq, Nat.reduceEqDiff, Nat.reduceAdd]; done) | (simp only [bxU]; omega) | ((try apply has_setN); apply has_ofL; simp only [bxL]; omega)) only [↓bxD, bxP, bxQ, bxQ2, Nat.reduceBEq, reduceCtorEq, Nat.reduceAdd, Nat.reduceSub, Nat.reduceMul, Nat.reduceLeDiff, Nat.reduceLT, bxR, g1, g3, g4, g5, g7, hbox, cg3, hr1, hr2, d1, hg, hN, hst]
      generalize hM5 : (M4.push _).set M4.n _ = M5
      have x5 : Ext M4 M5 := by rw [← hM5]; exact (Ext.push M4 _).set _ (Nat.le_refl _)
      have n5 : M5.n = M4.n + 1 := by rw [← hM5]; rfl
      have l5 := x5.lo
      have g9 : M5.get M4.n = some (.cs false 3 (setN [.i .i64 (a : Int), ua, .i .i64 a2] 0 (ofL [.i .i64 0, .nils, .i .i64 0] 0))) := by rw [← hM5, set_same]
      have c9 : At (setN [.i .i64 (a : Int), ua, .i .i64 a2] 0 (ofL [.i .i64 0, .nils, .i .i64 0] 0)) 0 [.i .i64 (a : Int), ua, .i .i64 a2] := at_setN _ _ _
      generalize setN [.i .i64 (a : Int), ua, .i .i64 a2] 0 (ofL [.i .i64 0, .nils, .i .i64 0] 0) = cc at g9 c9
      clear hM5
      have hidl := h.mat.idl
      refine cyc_row cx (h.step x5) (i := i) (n8 := M4.n) (a := a) (ar := ar) (c := cc) g9 c9 (fun j hj => ?_) (by omega) (by omega) hura hsym hlen8 (by omega) (fun x y hx hy => ?_) ⟨by simp only [bxP, bxQ, bxQ2, reduceCtorEq, g1, g3, g4, g5, g7, hbox, cg3, hr1, hr2, d1, hg, hN, hst], by simp only [bxP, bxQ, bxQ2, reduceCtorEq, g1, g3, g4, g5, g7, hbox, cg3, hr1, hr2, d1, hg, hN, hst], by simp only [bxP, bxQ, bxQ2, reduceCtorEq, g1, g3, g4, g5, g7, hbox, cg3, hr1, hr2, d1, hg, hN, hst], by simp only [bxP, bxQ, bxQ2, reduceCtorEq, g1, g3, g4, g5, g7, hbox, cg3, hr1, hr2, d1, hg, hN, hst], by simp only [bxP, bxQ, bxQ2, reduceCtorEq, g1, g3, g4, g5, g7, hbox, cg3, hr1, hr2, d1, hg, hN, hst], by simp only [bxP, bxQ, bxQ2, reduceCtorEq, g1, g3, g4, g5, g7, hbox, cg3, hr1, hr2, d1, hg, hN, hst], by simp only [bxP, bxQ, bxQ2, reduceCtorEq, g1, g3, g4, g5, g7, hbox, cg3, hr1, hr2, d1, hg, hN, hst] <;> rfl⟩ _ ?_
      · have := (h.mat.ne j hj).2.2
        omega
      · rw [hR x y hx hy]
        simp [aloneB]
      intro f2 M6 F2 k2 h2 hf2 hR2
      have k1 := hf2.h1
      have k3 := hf2.h3
      have k4 := hf2.h4
      have k5 := hf2.h5
      have k7 := hf2.h7
      simp only [q1, q3, q4, q5, q7] at k1 k3 k4 k5 k7
      show Wp fns K13_10 _ _ _
      unfold K13_10
      simp (maxSteps := 4000000) (disch := first | omega | assumption | (simp only [bxS, bxV, stOk, Nat.reduceBEq, Nat.reduceEqDiff, Nat.reduceAdd]; done) | (simp only [bxU]; omega) | ((try apply has_setN); apply has_ofL; simp only [bxL]; omega)) only [↓bxD, bxP, bxQ, bxQ2, Nat.reduceBEq, reduceCtorEq, Nat.reduceAdd, Nat.reduceSub, Nat.reduceMul, Nat.reduceLeDiff, Nat.reduceLT, bxR, g1, g3, g4, g5, g7, hbox, cg3, hr1, hr2, d1, hg, hN, hst, k1, k3, k4, k5, k7]
      refine ⟨(i + 1, F2), by simp only; omega, by simp only; omega, h2, fun x y hx hy => ?_, ⟨by simp (maxSteps := 4000000) (disch := first | omega | assumption | (simp only [bxS, bxV, stOk, Nat.reduceBEq, Nat.reduceEqDiff, Nat.reduceAdd]; done) | (simp only [bxU]; omega) | ((try apply has_setN); apply has_ofL; simp only [bxL]; omega)) only [↓bxD, bxP, bxQ, bxQ2, Nat.reduceBEq, reduceCtorEq, Nat.reduceAdd, Nat.reduceSub, Nat.reduceMul, Nat.reduceLeDiff, Nat.reduceLT, bxR, g1, g3, g4, g5, g7, hbox, cg3, hr1, hr2, d1, hg, hN, hst, k1], by simp (maxSteps := 4000000) (disch := first | omega | assumption | (simp only [bxS, bxV, stOk, Nat.reduceBEq, Nat.reduceEqDiff, Nat.reduceAdd]; done) | (simp only [bxU]; omega) | ((try apply has_setN); apply has_ofL; simp only [bxL]; omega)) only [↓bxD, bxP, bxQ, bxQ2, Nat.reduceBEq, reduceCtorEq, Nat.reduceAdd, Nat.reduceSub, Nat.reduceMul, Nat.reduceLeDiff, Nat.reduceLT, bxR, g1, g3, g4, g5, g7, hbox, cg3, hr1, hr2, d1, hg, hN, hst, k3], by simp (maxSteps := 4000000) (disch := first | omega | assumption | (simp only [bxS, bxV, stOk, Nat.reduceBEq, Nat.reduceEqDiff, Nat.reduceAdd]; done) | (simp only [bxU]; omega) | ((try apply has_setN); apply has_ofL; simp only [bxL]; omega)) only [↓bxD, bxP, bxQ, bxQ2, Nat.reduceBEq, reduceCtorEq, Nat.reduceAdd, Nat.reduceSub, Nat.reduceMul, Nat.reduceLeDiff, Nat.reduceLT, bxR, g1, g3, g4, g5, g7, hbox, cg3, hr1, hr2, d1, hg, hN, hst, k4], by simp (maxSteps := 4000000) (disch := first | omega | assumption | (simp only [bxS, bxV, stOk, Nat.reduceBEq, Nat.reduceEqDiff, Nat.reduceAdd]; done) | (simp only [bxU]; omega) | ((try apply has_setN); apply has_ofL; simp only [bxL]; omega)) only [↓bxD, bxP, bxQ, bxQ2, Nat.reduceBEq, reduceCtorEq, Nat.reduceAdd, Nat.reduceSub, Nat.reduceMul, Nat.reduceLeDiff, Nat.reduceLT, bxR, g1, g3, g4, g5, g7, hbox, cg3, hr1, hr2, d1, hg, hN, hst, k5], by simp (maxSteps := 4000000) (disch := first | omega | assumption | (simp only [bxS, bxV, stOk, Nat.reduceBEq, Nat.reduceEqDiff, Nat.reduceAdd]; done) | (simp only [bxU]; omega) | ((try apply has_setN); apply has_ofL; simp only [bxL]; omega)) only [↓bxD, bxP, bxQ, bxQ2, Nat.reduceBEq, reduceCtorEq, Nat.reduceAdd, Nat.reduceSub, Nat.reduceMul, Nat.reduceLeDiff, Nat.reduceLT, bxR, g1, g3, g4, g5, g7, hbox, cg3, hr1, hr2, d1, hg, hN, hst, k7] <;> rfl⟩⟩
      simp only
      rw [hR2 x y hx hy, cyB_take hz]
      congr 2
      rw [decide_eq_decide]
      simp only
      omega
    · have d1 : decide ((i : Int) < (g.rules.length : Int)) = false := decide_eq_false (by omega)
      obtain rfl : i = g.rules.length := by omega
      rw [List.take_length] at hR
      simp (maxSteps := 4000000) (disch := first | omega | assumption | (simp only [bxS, bxV, stOk, Nat.reduceBEq, Nat.reduceEqDiff, Nat.reduceAdd]; done) | (simp only [bxU]; omega) | ((try apply has_setN); apply has_ofL; simp only [bxL]; omega)) only [↓bxD, bxP, bxQ, bxQ2, Nat.reduceBEq, reduceCtorEq, Nat.reduceAdd, Nat.reduceSub, Nat.reduceMul, Nat.reduceLeDiff, Nat.reduceLT, bxR, g1, g3, g4, g5, g7, hbox, cg3, hr1, hr2, d1]
      exact hn _ _ F g.rules.length h ⟨by simp only [bxP, bxQ, bxQ2, reduceCtorEq, g1, g3, g4, g5, g7, hbox, cg3, hr1, hr2, d1], by simp only [bxP, bxQ, bxQ2, reduceCtorEq, g1, g3, g4, g5, g7, hbox, cg3, hr1, hr2, d1], by simp only [bxP, bxQ, bxQ2, reduceCtorEq, g1, g3, g4, g5, g7, hbox, cg3, hr1, hr2, d1], by simp only [bxP, bxQ, bxQ2, reduceCtorEq, g1, g3, g4, g5, g7, hbox, cg3, hr1, hr2, d1], by simp only [bxP, bxQ, bxQ2, reduceCtorEq, g1, g3, g4, g5, g7, hbox, cg3, hr1, hr2, d1]⟩ hR
  · exact ⟨Nat.zero_le _, h, fun x y hx hy => by simp only; rw [hR x y hx hy]; rfl, hf⟩
theorem set_mid {α : Type} (a b : List α) (x y : α) (n : Nat) (h : a.length = n) (hb : b = List.replicate b.length y) (hl : 0 < b.length) : (a ++ b).set n x = (a ++ [x]) ++ List.replicate (b.length - 1) y := by
  cases b with
  | nil => simp at hl
  | cons z b =>
    rw [List.set_append_right _ _ (by omega), ← h, Nat.sub_self, List.set_cons_zero]
    simp only [List.length_cons, Nat.add_sub_cancel, List.append_assoc, List.singleton_append]
    rw [List.length_cons, List.replicate_succ] at hb
    injection hb with _ hb
    rw [← hb]
structure CIni (Mb : MH) (n0 nn : Nat) (vn : MV) (i : Nat) (ids : List Nat) (f : Fr) (M : MH) : Prop where
  ext : Ext Mb M
  top : ∃ t, M.get Mb.n = some (.cs false 1 t) ∧ At t 0 ((ids.map fun j => MV.sl j 0 nn 0) ++ List.replicate (nn - i) .nils)
  top2 : Mb.n < M.n
  len : ids.length = i
  le : i ≤ nn
  rows : ∀ j ∈ ids, BoolsAt M j (List.replicate nn false)
  ne : ∀ j ∈ ids, j ≠ Mb.n ∧ Mb.n ≤ j ∧ j < M.n
  inj : ∀ (i i' : Nat) j, ids[i]? = some j → ids[i']? = some j → i = i'
  h1 : X.ev f (.t q1) = .p n0 0
  h3 : X.ev f (.t q3) = vn
  h4 : X.ev f (.t q4) = .i .i64 (nn : Int)
  h5 : X.ev f (.t q5) = .sl Mb.n 0 nn 0
  h6 : X.ev f (.t q6) = .i .i64 (i : Int)
theorem rcyclic_any {M : MH} {g : Gr} {vr vf vc vk : MV} {es : List (List MV)} (h : GrAt M vr vf vc vk es g) (hlo : M.lo ≤ M.n) : Cp fns 13 [.ag (gcs g vr vf vc vk)] M (CyPost g M) := by
  have hG : ∀ l, l = gcs g vr vf vc vk → Ev.getN (ofL l 0) 7 0 = some (gcs g vr vf vc vk) := fun l e => by subst e; exact (at_ofL (gcs g vr vf vc vk)).getN
  have hG := hG [MV.i IntKind.i64 g.names, MV.i IntKind.i64 g.kinds, MV.i IntKind.i64 g.start, vr, vf, vc, vk] rfl
  refine Cp_call (fn := F13) (by kernel_rfl) (Nat.le_of_ble_eq_true rfl) ?_
  show Wp fns B13 (T.set q0 (some (.ag (gcs g vr vf vc vk))) T.lf) M _
  unfold B13
  rw [show gcs g vr vf vc vk = [MV.i IntKind.i64 g.names, MV.i IntKind.i64 g.kinds, MV.i IntKind.i64 g.start, vr, vf, vc, vk] from rfl]
  generalize hM1 : M.push (.cs false 7 (ofL [MV.i IntKind.i64 g.names, MV.i IntKind.i64 g.kinds, MV.i IntKind.i64 g.start, vr, vf, vc, vk] 0)) = M1
  have g0 : M1.get M.n = some (.cs false 7 (ofL [MV.i IntKind.i64 g.names, MV.i IntKind.i64 g.kinds, MV.i IntKind.i64 g.start, vr, vf, vc, vk] 0)) := by rw [← hM1]; exact push_new _
  have x1 : Ext M M1 := by rw [← hM1]; exact .push M _
  have n1 : M1.n = M.n + 1 := by rw [← hM1]; rfl
  have l1 := x1.lo
  simp (maxSteps := 4000000) (disch := first | omega | assumption | (simp only [bxS, bxV, stOk, Nat.reduceBEq, Nat.reduceEqDiff, Nat.reduceAdd]; done) | (simp only [bxU]; omega) | ((try apply has_setN); apply has_ofL; simp only [bxL]; omega)) only [↓bxD, bxP, bxQ, bxQ2, Nat.reduceBEq, reduceCtorEq, Nat.reduceAdd, Nat.reduceSub, Nat.reduceMul, Nat.reduceLeDiff, Nat.reduceLT, bxR, hG, hM1, g0]
  refine bindP_call (formed_any (h.ext x1) (by omega)) ?_
  rintro m M2 ⟨rfl, x2⟩
  have n2 := x2.n
  have l2 := x2.lo
  have g2 := (x2.old _ (by omega)).trans g0
  by_cases hz : (formP g).2 = 0
  · have dz : decide ((formP g).2 = 0) = true := decide_eq_true hz
    have hok := form_ok hz
    have hn1 := hok.n1
    have hn40 := hok.n2
    obtain ⟨nn, hnn⟩ : ∃ n : Nat, g.names = n := ⟨g.names.toNat, by omega⟩
    simp (maxSteps := 4000000) (disch := first | omega | assumption | (simp only [bxS, bxV, stOk, Nat.reduceBEq, Nat.reduceEqDiff, Nat.reduceAdd]; done) | (simp only [bxU]; omega) | ((try apply has_setN); apply has_ofL; simp only [bxL]; omega)) only [↓bxD, bxP, bxQ, bxQ2, Nat.reduceBEq, reduceCtorEq, Nat.reduceAdd, Nat.reduceSub, Nat.reduceMul, Nat.reduceLeDiff, Nat.reduceLT, bxR, hG, g2, dz]
    show Wp fns K13_29 _ _ _
    unfold K13_29
    simp (maxSteps := 4000000) (disch := first | omega | assumption | (simp only [bxS, bxV, stOk, Nat.reduceBEq, Nat.reduceEqDiff, Nat.reduceAdd]; done) | (simp only [bxU]; omega) | ((try apply has_setN); apply has_ofL; simp only [bxL]; omega)) only [↓bxD, bxP, bxQ, bxQ2, Nat.reduceBEq, reduceCtorEq, Nat.reduceAdd, Nat.reduceSub, Nat.reduceMul, Nat.reduceLeDiff, Nat.reduceLT, bxR, hG, g2, dz]
    refine bindP_call (nullable_any ((h.ext x1).ext x2) (by omega)) ?_
    rintro vn Mb ⟨x3, ⟨hne, _⟩ | ⟨_, N, hN, hNr⟩⟩
    · exact absurd hz hne
    have n3 := x3.n
    have l3 := x3.lo
    have g3 := (x3.old _ (by omega)).trans g2
    have cx : CCx Mb g vr vf vc vk es M.n nn vn N := ⟨((h.ext x1).ext x2).ext x3, hok, g3, by omega, by omega, hN, hNr, hnn⟩
    have cg0 : cget (ofL [MV.i IntKind.i64 g.names, MV.i IntKind.i64 g.kinds, MV.i IntKind.i64 g.start, vr, vf, vc, vk] 0) 0 = some (.i .i64 (nn : Int)) := by rw [← hnn]; exact (at_ofL _) 0 _ rfl
    simp (maxSteps := 4000000) (disch := first | omega | assumption | (simp only [bxS, bxV, stOk, Nat.reduceBEq, Nat.reduceEqDiff, Nat.reduceAdd]; done) | (simp only [bxU]; omega) | ((try apply has_setN); apply has_ofL; simp only [bxL]; omega)) only [↓bxD, bxP, bxQ, bxQ2, Nat.reduceBEq, reduceCtorEq, Nat.reduceAdd, Nat.reduceSub, Nat.reduceMul, Nat.reduceLeDiff, Nat.reduceLT, bxR, hG, g3, cg0, ev_mks, mks_ok]
    have hx3M : Ext M Mb := (x1.trans x2).trans x3
    generalize hM3 : Mb.push _ = M3
    have hx3 : Ext Mb M3 := by rw [← hM3]; exact Ext.push Mb _
    have hg4 : M3.get Mb.n = some (.cs false 1 (ofL (zrow [.nils] nn) 0)) := by rw [← hM3]; exact push_new _
    have hn3 : M3.n = Mb.n + 1 := by rw [← hM3]; rfl
    clear hM3
    refine Wp_inv (σ := Nat × List Nat) (fun s f1 M4 => CIni Mb M.n nn vn s.1 s.2 f1 M4) (fun s => nn - s.1) ?_ (0, []) ?_
    · rintro ⟨i, ids⟩ f1 M4 ⟨hx, ⟨t, ht1, ht2⟩, ht3, hlen, hi, hrows, hne, hinj, h1, h3, h4, h5, h6⟩
      simp only [q1, q3, q4, q5, q6] at h1 h3 h4 h5 h6
      simp only at ht2 hlen hi hrows hne hinj
      have hel := hx.lo
      have xn4 := hx.n
      unfold L13_2
      by_cases hi' : i < nn
      · have d1 : decide ((i : Int) < (nn : Int)) = true := decide_eq_true (by omega)
        have hH : hasB t 1 (i * 1) = true := has_at ht2 (Nat.zero_le _) (by rw [List.length_append, List.length_map, List.length_replicate]; omega)
        simp (maxSteps := 4000000) (disch := first | omega | assumption | (simp only [bxS, bxV, stOk, Nat.reduceBEq, Nat.reduceEqDiff, Nat.reduceAdd]; done) | (simp only [bxU]; omega) | ((try apply has_setN); apply has_ofL; simp only [bxL]; omega)) only [↓bxD, bxP, bxQ, bxQ2, Nat.reduceBEq, reduceCtorEq, Nat.reduceAdd, Nat.reduceSub, Nat.reduceMul, Nat.reduceLeDiff, Nat.reduceLT, bxR, h1, h3, h4, h5, h6, ht1, d1, ev_mks, mks_ok, ix_slc, len_slc]
        show Wp fns K13_1 _ _ _
        unfold K13_1
        simp (maxSteps := 4000000) (disch := first | omega | assumption | (simp only [bxS, bxV, stOk, Nat.reduceBEq, Nat.reduceEqDiff, Nat.reduceAdd]; done) | (simp only [bxU]; omega) | ((try apply has_setN); apply has_ofL; simp only [bxL]; omega)) only [↓bxD, bxP, bxQ, bxQ2, Nat.reduceBEq, reduceCtorEq, Nat.reduceAdd, Nat.reduceSub, Nat.reduceMul, Nat.reduceLeDiff, Nat.reduceLT, bxR, h1, h3, h4, h5, h6, ht1, d1, ev_mks, mks_ok, ix_slc, len_slc]
        show Wp fns K13_0 _ _ _
        unfold K13_0
        simp (maxSteps := 4000000) (disch := first | omega | assumption | (simp only [bxS, bxV, stOk, Nat.reduceBEq, Nat.reduceEqDiff, Nat.reduceAdd]; done) | (simp only [bxU]; omega) | ((try apply has_setN); apply has_ofL; simp only [bxL]; omega)) only [↓bxD, bxP, bxQ, bxQ2, Nat.reduceBEq, reduceCtorEq, Nat.reduceAdd, Nat.reduceSub, Nat.reduceMul, Nat.reduceLeDiff, Nat.reduceLT, bxR, h1, h3, h4, h5, h6, ht1, d1, ev_mks, mks_ok, ix_slc, len_slc]
        have hset : (((ids.map fun j => MV.sl j 0 nn 0) ++ List.replicate (nn - i) MV.nils).set i (.sl M4.n 0 nn 0)) = ((ids ++ [M4.n]).map fun j => MV.sl j 0 nn 0) ++ List.replicate (nn - (i + 1)) MV.nils := by
          rw [set_mid _ _ _ MV.nils i (by rw [List.length_map]; exact hlen) (by rw [List.length_replicate]) (by rw [List.length_replicate]; omega), List.length_replicate, List.map_append]
          rfl
        have hAt := ht2.set' (k := i * 1) i (.sl M4.n 0 nn 0) (by rw [List.length_append, List.length_map, List.length_replicate]; omega) (by omega)
        rw [hset] at hAt
        have hrow := BoolsAt.new (M := M4) nn
        generalize hM5 : M4.push _ = M5 at hrow
        have hx5 : Ext M4 M5 := by rw [← hM5]; exact Ext.push M4 _
        have hn5 : M5.n = M4.n + 1 := by rw [← hM5]; rfl
        clear hM5
        generalize hM6 : M5.set Mb.n _ = M6
        have hx6 : Ext Mb M6 := by rw [← hM6]; exact (hx.trans hx5).set _ (Nat.le_refl _)
        have hg6 : M6.get Mb.n = some (.cs false 1 (setN [.sl M4.n 0 nn 0] (i * 1) t)) := by rw [← hM6, set_same]; rfl
        have hk6 : ∀ j, j ≠ Mb.n → M6.get j = M5.get j := fun j hj => by rw [← hM6, set_ne hj]
        have hn6 : M6.n = M5.n := by rw [← hM6]; rfl
        clear hM6
        refine ⟨(i + 1, ids ++ [M4.n]), by simp only; omega, ⟨hx6, ⟨_, hg6, hAt⟩, by omega, by simp only; rw [List.length_append, hlen]; rfl, by simp only; omega, fun j hj => ?_, fun j hj => ?_, fun a b j ha hb => ?_, ?_, ?_, ?_, ?_, ?_⟩⟩
        · rcases List.mem_append.1 hj with h6 | h6
          · obtain ⟨z1, z2, z3⟩ := hne j h6
            exact ((hrows j h6).same (hx5.old j z3)).same (hk6 j z1)
          · rw [List.mem_singleton] at h6
            subst h6
            exact hrow.same (hk6 _ (by omega))
        · rcases List.mem_append.1 hj with h6 | h6
          · obtain ⟨z1, z2, z3⟩ := hne j h6
            exact ⟨z1, z2, by omega⟩
          · rw [List.mem_singleton] at h6
            subst h6
            exact ⟨by omega, by omega, by omega⟩
        · simp only at ha hb
          rw [List.getElem?_append] at ha hb
          split at ha
          · split at hb
            · exact hinj a b j ha hb
            · have := (hne j (List.mem_of_getElem? ha)).2.2
              have h7 := List.mem_singleton.1 (List.mem_of_getElem? hb)
              omega
          · have h7 := List.mem_singleton.1 (List.mem_of_getElem? ha)
            have h8 := (List.getElem?_eq_some_iff.1 ha).1
            simp only [List.length_singleton] at h8
            split at hb
            · have := (hne j (List.mem_of_getElem? hb)).2.2
              omega
            · have h9 := (List.getElem?_eq_some_iff.1 hb).1
              simp only [List.length_singleton] at h9
              omega
        · simp only [bxP, bxQ, bxQ2, reduceCtorEq, h1, h3, h4, h5, h6, ht1, d1, ev_mks, mks_ok, ix_slc, len_slc]
        · simp only [bxP, bxQ, bxQ2, reduceCtorEq, h1, h3, h4, h5, h6, ht1, d1, ev_mks, mks_ok, ix_slc, len_slc]
        · simp only [bxP, bxQ, bxQ2, reduceCtorEq, h1, h3, h4, h5, h6, ht1, d1, ev_mks, mks_ok, ix_slc, len_slc]
        · simp only [bxP, bxQ, bxQ2, reduceCtorEq, h1, h3, h4, h5, h6, ht1, d1, ev_mks, mks_ok, ix_slc, len_slc]
        · simp only [bxP, bxQ, bxQ2, reduceCtorEq, h1, h3, h4, h5, h6, ht1, d1, ev_mks, mks_ok, ix_slc, len_slc] <;> rfl
      · have d1 : decide ((i : Int) < (nn : Int)) = false := decide_eq_false (by omega)
        simp (maxSteps := 4000000) (disch := first | omega | assumption | (simp only [bxS, bxV, stOk, Nat.reduceBEq, Nat.reduceEqDiff, Nat.reduceAdd]; done) | (simp only [bxU]; omega) | ((try apply has_setN); apply has_ofL; simp only [bxL]; omega)) only [↓bxD, bxP, bxQ, bxQ2, Nat.reduceBEq, reduceCtorEq, Nat.reduceAdd, Nat.reduceSub, Nat.reduceMul, Nat.reduceLeDiff, Nat.reduceLT, bxR, h1, h3, h4, h5, h6, d1]
        show Wp fns K13_28 _ _ _
        unfold K13_28
        simp (maxSteps := 4000000) (disch := first | omega | assumption | (simp only [bxS, bxV, stOk, Nat.reduceBEq, Nat.reduceEqDiff, Nat.reduceAdd]; done) | (simp only [bxU]; omega) | ((try apply has_setN); apply has_ofL; simp only [bxL]; omega)) only [↓bxD, bxP, bxQ, bxQ2, Nat.reduceBEq, reduceCtorEq, Nat.reduceAdd, Nat.reduceSub, Nat.reduceMul, Nat.reduceLeDiff, Nat.reduceLT, bxR, h1, h3, h4, h5, h6, d1]
        have hie : i = nn := by omega
        subst hie
        have hmat : MatOwn M4 Mb.n Mb.n ids (List.replicate i (List.replicate i false)) i := by
          refine ⟨⟨t, ht1, ?_⟩, by rw [List.length_replicate]; exact hlen, fun a j l ha hl => ?_, fun x hx => ?_, hne, ⟨Nat.le_refl _, ht3⟩, hinj⟩
          · rw [Nat.sub_self, List.replicate_zero, List.append_nil] at ht2
            exact ht2
          · rw [List.getElem?_replicate] at hl
            split at hl
            · injection hl with hl
              subst hl
              exact hrows j (List.mem_of_getElem? ha)
            · cases hl
          · rw [(List.mem_replicate.1 hx).2, List.length_replicate]
        have hz0 : ∀ a t, mAt (List.replicate i (List.replicate i false)) a t = false := fun a t => by
          unfold mAt bAt
          rw [List.getD_eq_getElem?_getD, List.getD_eq_getElem?_getD, List.getElem?_replicate]
          split
          · simp only [Option.getD_some]
            rw [List.getElem?_replicate]
            split <;> rfl
          · rfl
        refine cyc_rules cx (id := Mb.n) (ids := ids) (F := List.replicate i (List.replicate i false)) ⟨hx, hmat, List.length_replicate⟩ ⟨by simp only [bxP, bxQ, bxQ2, reduceCtorEq, h1, h3, h4, h5, h6, d1], by simp only [bxP, bxQ, bxQ2, reduceCtorEq, h1, h3, h4, h5, h6, d1], by simp only [bxP, bxQ, bxQ2, reduceCtorEq, h1, h3, h4, h5, h6, d1], by simp only [bxP, bxQ, bxQ2, reduceCtorEq, h1, h3, h4, h5, h6, d1], by simp only [bxP, bxQ, bxQ2, reduceCtorEq, h1, h3, h4, h5, h6, d1] <;> rfl⟩ (fun x y _ _ => hz0 x y) _ ?_
        intro f2 M5 F5 i5 h5c hf5 hR5
        have k4 := hf5.h4
        have k5 := hf5.h5
        simp only [q4, q5] at k4 k5
        show Wp fns K13_27 _ _ _
        unfold K13_27
        simp (maxSteps := 4000000) (disch := first | omega | assumption | (simp only [bxS, bxV, stOk, Nat.reduceBEq, Nat.reduceEqDiff, Nat.reduceAdd]; done) | (simp only [bxU]; omega) | ((try apply has_setN); apply has_ofL; simp only [bxL]; omega)) only [↓bxD, bxP, bxQ, bxQ2, Nat.reduceBEq, reduceCtorEq, Nat.reduceAdd, Nat.reduceSub, Nat.reduceMul, Nat.reduceLeDiff, Nat.reduceLT, bxR, h1, h3, h4, h5, h6, d1, k4, k5]
        refine cyc_k (i := 0) (by omega) (by omega) h5c (by simp (maxSteps := 4000000) (disch := first | omega | assumption | (simp only [bxS, bxV, stOk, Nat.reduceBEq, Nat.reduceEqDiff, Nat.reduceAdd]; done) | (simp only [bxU]; omega) | ((try apply has_setN); apply has_ofL; simp only [bxL]; omega)) only [↓bxD, bxP, bxQ, bxQ2, Nat.reduceBEq, reduceCtorEq, Nat.reduceAdd, Nat.reduceSub, Nat.reduceMul, Nat.reduceLeDiff, Nat.reduceLT, bxR, h1, h3, h4, h5, h6, d1, k4]) (by simp (maxSteps := 4000000) (disch := first | omega | assumption | (simp only [bxS, bxV, stOk, Nat.reduceBEq, Nat.reduceEqDiff, Nat.reduceAdd]; done) | (simp only [bxU]; omega) | ((try apply has_setN); apply has_ofL; simp only [bxL]; omega)) only [↓bxD, bxP, bxQ, bxQ2, Nat.reduceBEq, reduceCtorEq, Nat.reduceAdd, Nat.reduceSub, Nat.reduceMul, Nat.reduceLeDiff, Nat.reduceLT, bxR, h1, h3, h4, h5, h6, d1, k5]) (by simp (maxSteps := 4000000) (disch := first | omega | assumption | (simp only [bxS, bxV, stOk, Nat.reduceBEq, Nat.reduceEqDiff, Nat.reduceAdd]; done) | (simp only [bxU]; omega) | ((try apply has_setN); apply has_ofL; simp only [bxL]; omega)) only [↓bxD, bxP, bxQ, bxQ2, Nat.reduceBEq, reduceCtorEq, Nat.reduceAdd, Nat.reduceSub, Nat.reduceMul, Nat.reduceLeDiff, Nat.reduceLT, bxR, h1, h3, h4, h5, h6, d1, k4] <;> rfl) hR5 _ ?_
        intro f3 M6 F6 h6c k4 k5 hR6
        simp only [q4, q5] at k4 k5
        show Wp fns K13_26 _ _ _
        unfold K13_26
        simp (maxSteps := 4000000) (disch := first | omega | assumption | (simp only [bxS, bxV, stOk, Nat.reduceBEq, Nat.reduceEqDiff, Nat.reduceAdd]; done) | (simp only [bxU]; omega) | ((try apply has_setN); apply has_ofL; simp only [bxL]; omega)) only [↓bxD, bxP, bxQ, bxQ2, Nat.reduceBEq, reduceCtorEq, Nat.reduceAdd, Nat.reduceSub, Nat.reduceMul, Nat.reduceLeDiff, Nat.reduceLT, bxR, h1, h3, h4, h5, h6, d1, k4, k5]
        have hx6 := h6c.ext
        have hx6n := hx6.n
        have hx6l := hx6.lo
        have hnl : g.names.toNat = i := by omega
        have hcyl := cyL_len g N
        refine Wp_inv (σ := Nat) (fun j f M' => Ext M6 M' ∧ j ≤ i ∧ X.ev f (.t q4) = .i .i64 (i : Int) ∧ X.ev f (.t q5) = .sl Mb.n 0 i 0 ∧ X.ev f (.t q16) = .i .i64 (j : Int) ∧ ∃ v, X.ev f (.t q15) = v ∧ OwnRow M6.n M' 1 v (((cyL g N).take j).map fun b => [.b b])) (fun j => i - j) ?_ 0 ?_
        · rintro j f M' ⟨hxj, hj, h4', h5', h16', v, h15', hv⟩
          simp only [q4, q5, q15, q16] at h4' h5' h15' h16'
          have hl' := hxj.lo
          have hn' := hxj.n
          unfold L13_24
          by_cases hj' : j < i
          · have d2 : decide ((j : Int) < (i : Int)) = true := decide_eq_true (by omega)
            have hm := h6c.mat.ext hxj
            obtain ⟨tt, tt1, tt2⟩ := hm.topr
            have hil : ids.length = i := hm.len.trans h6c.len
            obtain ⟨id, hid⟩ : ∃ k, ids[j]? = some k := ⟨_, List.getElem?_eq_getElem (by omega)⟩
            have hT := tt2 j id hid
            obtain ⟨cj, cj1, cj2, cj3, cj4⟩ := MatOwn.put hm hid hj'
            have hC := cj2 j hj'
            have hval : mAt F6 j j = bAt (cyL g N) j := by rw [hR6 j j hj' hj', cyL_at (by omega), hnl]
            rw [hval] at hC
            have hfill : fillM [(0, 1, MV.b (bAt (cyL g N) j))] [MV.b false] = some [MV.b (bAt (cyL g N) j)] := fill_one rfl rfl
            simp (maxSteps := 4000000) (disch := first | omega | assumption | (simp only [bxS, bxV, stOk, Nat.reduceBEq, Nat.reduceEqDiff, Nat.reduceAdd]; done) | (simp only [bxU]; omega) | ((try apply has_setN); apply has_ofL; simp only [bxL]; omega)) only [↓bxD, bxP, bxQ, bxQ2, Nat.reduceBEq, reduceCtorEq, Nat.reduceAdd, Nat.reduceSub, Nat.reduceMul, Nat.reduceLeDiff, Nat.reduceLT, bxR, h4', h5', h15', h16', d2, tt1, hT, cj1, hC, ix_slc, hfill]
            show Wp fns K13_23 _ _ _
            unfold K13_23
            simp (maxSteps := 4000000) (disch := first | omega | assumption | (simp only [bxS, bxV, stOk, Nat.reduceBEq, Nat.reduceEqDiff, Nat.reduceAdd]; done) | (simp only [bxU]; omega) | ((try apply has_setN); apply has_ofL; simp only [bxL]; omega)) only [↓bxD, bxP, bxQ, bxQ2, Nat.reduceBEq, reduceCtorEq, Nat.reduceAdd, Nat.reduceSub, Nat.reduceMul, Nat.reduceLeDiff, Nat.reduceLT, bxR, h4', h5', h15', h16', d2, tt1, hT, cj1, hC, ix_slc, hfill]
            have ho := hv.ext (.push M' (.cs false 1 (ofL [.b (bAt (cyL g N) j)] 0)))
            obtain ⟨v', M7, e1, e2, e3, e4, e5, e6⟩ := app_row (bytes := 1) ho (row_one (M := M') (sz := 1) (e := [.b (bAt (cyL g N) j)]) rfl) (by rw [push_lo]; omega) (by rw [push_n]; omega) (fun e he => by rw [List.mem_singleton.1 he]; rfl) (by rw [List.length_map, List.length_take, List.length_singleton]; omega) (by rw [List.length_map, List.length_take, List.length_singleton]; omega)
            refine bindP_of e1 ?_
            simp (maxSteps := 4000000) (disch := first | omega | assumption | (simp only [bxS, bxV, stOk, Nat.reduceBEq, Nat.reduceEqDiff, Nat.reduceAdd]; done) | (simp only [bxU]; omega) | ((try apply has_setN); apply has_ofL; simp only [bxL]; omega)) only [↓bxD, bxP, bxQ, bxQ2, Nat.reduceBEq, reduceCtorEq, Nat.reduceAdd, Nat.reduceSub, Nat.reduceMul, Nat.reduceLeDiff, Nat.reduceLT, bxR, h4', h5', h15', h16', d2, tt1, hT, cj1, hC, ix_slc, hfill]
            show Wp fns K13_22 _ _ _
            unfold K13_22
            simp (maxSteps := 4000000) (disch := first | omega | assumption | (simp only [bxS, bxV, stOk, Nat.reduceBEq, Nat.reduceEqDiff, Nat.reduceAdd]; done) | (simp only [bxU]; omega) | ((try apply has_setN); apply has_ofL; simp only [bxL]; omega)) only [↓bxD, bxP, bxQ, bxQ2, Nat.reduceBEq, reduceCtorEq, Nat.reduceAdd, Nat.reduceSub, Nat.reduceMul, Nat.reduceLeDiff, Nat.reduceLT, bxR, h4', h5', h15', h16', d2, tt1, hT, cj1, hC, ix_slc, hfill]
            refine ⟨j + 1, by omega, ⟨by rw [push_n] at e3; omega, by rw [push_lo] at e4; omega, fun id hid => ?_⟩, by omega, rfl, v', rfl, ?_⟩
            · rw [e6 id (by omega) (by rw [push_n]; omega), push_old (by omega), hxj.old id hid]
            · rw [List.take_add_one, bAt_at (by omega)]
              simpa using e2
          · have d2 : decide ((j : Int) < (i : Int)) = false := decide_eq_false (by omega)
            obtain rfl : j = i := by omega
            rw [List.take_of_length_le (by omega)] at hv
            simp (maxSteps := 4000000) (disch := first | omega | assumption | (simp only [bxS, bxV, stOk, Nat.reduceBEq, Nat.reduceEqDiff, Nat.reduceAdd]; done) | (simp only [bxU]; omega) | ((try apply has_setN); apply has_ofL; simp only [bxL]; omega)) only [↓bxD, bxP, bxQ, bxQ2, Nat.reduceBEq, reduceCtorEq, Nat.reduceAdd, Nat.reduceSub, Nat.reduceMul, Nat.reduceLeDiff, Nat.reduceLT, bxR, h4', h5', h15', h16', d2]
            show Wp fns K13_25 _ _ _
            unfold K13_25
            simp (maxSteps := 4000000) (disch := first | omega | assumption | (simp only [bxS, bxV, stOk, Nat.reduceBEq, Nat.reduceEqDiff, Nat.reduceAdd]; done) | (simp only [bxU]; omega) | ((try apply has_setN); apply has_ofL; simp only [bxL]; omega)) only [↓bxD, bxP, bxQ, bxQ2, Nat.reduceBEq, reduceCtorEq, Nat.reduceAdd, Nat.reduceSub, Nat.reduceMul, Nat.reduceLeDiff, Nat.reduceLT, bxR, h4', h5', h15', h16', d2]
            exact ⟨(hx3M.trans hx6).trans hxj, .inr ⟨hz, N, hN, hv.row⟩⟩
        · exact ⟨.refl _, Nat.zero_le _, by simp (maxSteps := 4000000) (disch := first | omega | assumption | (simp only [bxS, bxV, stOk, Nat.reduceBEq, Nat.reduceEqDiff, Nat.reduceAdd]; done) | (simp only [bxU]; omega) | ((try apply has_setN); apply has_ofL; simp only [bxL]; omega)) only [↓bxD, bxP, bxQ, bxQ2, Nat.reduceBEq, reduceCtorEq, Nat.reduceAdd, Nat.reduceSub, Nat.reduceMul, Nat.reduceLeDiff, Nat.reduceLT, bxR, h1, h3, h4, h5, h6, d1, k4], by simp (maxSteps := 4000000) (disch := first | omega | assumption | (simp only [bxS, bxV, stOk, Nat.reduceBEq, Nat.reduceEqDiff, Nat.reduceAdd]; done) | (simp only [bxU]; omega) | ((try apply has_setN); apply has_ofL; simp only [bxL]; omega)) only [↓bxD, bxP, bxQ, bxQ2, Nat.reduceBEq, reduceCtorEq, Nat.reduceAdd, Nat.reduceSub, Nat.reduceMul, Nat.reduceLeDiff, Nat.reduceLT, bxR, h1, h3, h4, h5, h6, d1, k5], by simp (maxSteps := 4000000) (disch := first | omega | assumption | (simp only [bxS, bxV, stOk, Nat.reduceBEq, Nat.reduceEqDiff, Nat.reduceAdd]; done) | (simp only [bxU]; omega) | ((try apply has_setN); apply has_ofL; simp only [bxL]; omega)) only [↓bxD, bxP, bxQ, bxQ2, Nat.reduceBEq, reduceCtorEq, Nat.reduceAdd, Nat.reduceSub, Nat.reduceMul, Nat.reduceLeDiff, Nat.reduceLT, bxR, h1, h3, h4, h5, h6, d1, k4] <;> rfl, .nils, by simp (maxSteps := 4000000) (disch := first | omega | assumption | (simp only [bxS, bxV, stOk, Nat.reduceBEq, Nat.reduceEqDiff, Nat.reduceAdd]; done) | (simp only [bxU]; omega) | ((try apply has_setN); apply has_ofL; simp only [bxL]; omega)) only [↓bxD, bxP, bxQ, bxQ2, Nat.reduceBEq, reduceCtorEq, Nat.reduceAdd, Nat.reduceSub, Nat.reduceMul, Nat.reduceLeDiff, Nat.reduceLT, bxR, h1, h3, h4, h5, h6, d1, k4], OwnRow.nil _ _ _⟩
    · refine ⟨hx3, ⟨_, hg4, ?_⟩, by omega, rfl, Nat.zero_le _, fun j hj => (by cases hj), fun j hj => (by cases hj), fun a b j ha => (by simp at ha), by simp only [bxP, bxQ, bxQ2, reduceCtorEq, hG, g3, cg0], by simp only [bxP, bxQ, bxQ2, reduceCtorEq, hG, g3, cg0], by simp only [bxP, bxQ, bxQ2, reduceCtorEq, hG, g3, cg0], by simp only [bxP, bxQ, bxQ2, reduceCtorEq, hG, g3, cg0], by simp only [bxP, bxQ, bxQ2, reduceCtorEq, hG, g3, cg0] <;> rfl⟩
      simp only [List.map_nil, List.nil_append, Nat.sub_zero]
      rw [← zrow_rep]
      exact at_ofL _
  · have dz : decide ((formP g).2 = 0) = false := decide_eq_false hz
    simp (maxSteps := 4000000) (disch := first | omega | assumption | (simp only [bxS, bxV, stOk, Nat.reduceBEq, Nat.reduceEqDiff, Nat.reduceAdd]; done) | (simp only [bxU]; omega) | ((try apply has_setN); apply has_ofL; simp only [bxL]; omega)) only [↓bxD, bxP, bxQ, bxQ2, Nat.reduceBEq, reduceCtorEq, Nat.reduceAdd, Nat.reduceSub, Nat.reduceMul, Nat.reduceLeDiff, Nat.reduceLT, bxR, hG, g2, dz]
    exact ⟨x1.trans x2, .inl ⟨hz, rfl⟩⟩
theorem rcheck_any {M : MH} {g : Gr} {vr vf vc vk : MV} {es : List (List MV)} (h : GrAt M vr vf vc vk es g) (hlo : M.lo ≤ M.n) : Cp fns 10 [.ag (gcs g vr vf vc vk)] M fun m M' => Ext M M' ∧ ∃ z : Int × Int, ChIs g z ∧ m = .tp [.i .i64 z.1, .i .i64 z.2] := by
  have hG : ∀ l, l = gcs g vr vf vc vk → Ev.getN (ofL l 0) 7 0 = some (gcs g vr vf vc vk) := fun l e => by subst e; exact (at_ofL (gcs g vr vf vc vk)).getN
  have hG := hG [MV.i IntKind.i64 g.names, MV.i IntKind.i64 g.kinds, MV.i IntKind.i64 g.start, vr, vf, vc, vk] rfl
  refine Cp_call (fn := F10) (by kernel_rfl) (Nat.le_of_ble_eq_true rfl) ?_
  show Wp fns B10 (T.set q0 (some (.ag (gcs g vr vf vc vk))) T.lf) M _
  unfold B10
  rw [show gcs g vr vf vc vk = [MV.i IntKind.i64 g.names, MV.i IntKind.i64 g.kinds, MV.i IntKind.i64 g.start, vr, vf, vc, vk] from rfl]
  generalize hM1 : M.push (.cs false 7 (ofL [MV.i IntKind.i64 g.names, MV.i IntKind.i64 g.kinds, MV.i IntKind.i64 g.start, vr, vf, vc, vk] 0)) = M1
  have g0 : M1.get M.n = some (.cs false 7 (ofL [MV.i IntKind.i64 g.names, MV.i IntKind.i64 g.kinds, MV.i IntKind.i64 g.start, vr, vf, vc, vk] 0)) := by rw [← hM1]; exact push_new _
  have x1 : Ext M M1 := by rw [← hM1]; exact .push M _
  have n1 : M1.n = M.n + 1 := by rw [← hM1]; rfl
  have l1 := x1.lo
  simp (maxSteps := 4000000) (disch := first | omega | assumption | (simp only [bxS, bxV, stOk, Nat.reduceBEq, Nat.reduceEqDiff, Nat.reduceAdd]; done) | (simp only [bxU]; omega) | ((try apply has_setN); apply has_ofL; simp only [bxL]; omega)) only [↓bxD, bxP, bxQ, Nat.reduceBEq, reduceCtorEq, Nat.reduceAdd, Nat.reduceSub, Nat.reduceMul, Nat.reduceLeDiff, Nat.reduceLT, bxR, hG, hM1, g0]
  refine bindP_call (form_any (h.ext x1) (by omega)) ?_
  rintro m M2 ⟨rfl, x2⟩
  have n2 := x2.n
  have l2 := x2.lo
  have g2 := (x2.old _ (by omega)).trans g0
  have x02 := x1.trans x2
  by_cases hz : (formP g).2 = 0
  · have dz : decide ((formP g).2 ≠ 0) = false := decide_eq_false (by rw [hz]; simp)
    have hok := form_ok hz
    have hn1 := hok.n1
    have hn40 := hok.n2
    obtain ⟨nn, hnn⟩ : ∃ n : Nat, g.names = n := ⟨g.names.toNat, by omega⟩
    have hnl : g.names.toNat = nn := by omega
    simp (maxSteps := 4000000) (disch := first | omega | assumption | (simp only [bxS, bxV, stOk, Nat.reduceBEq, Nat.reduceEqDiff, Nat.reduceAdd]; done) | (simp only [bxU]; omega) | ((try apply has_setN); apply has_ofL; simp only [bxL]; omega)) only [↓bxD, bxP, bxQ, Nat.reduceBEq, reduceCtorEq, Nat.reduceAdd, Nat.reduceSub, Nat.reduceMul, Nat.reduceLeDiff, Nat.reduceLT, bxR, hG, g2, dz]
    show Wp fns K10_8 _ _ _
    unfold K10_8
    simp (maxSteps := 4000000) (disch := first | omega | assumption | (simp only [bxS, bxV, stOk, Nat.reduceBEq, Nat.reduceEqDiff, Nat.reduceAdd]; done) | (simp only [bxU]; omega) | ((try apply has_setN); apply has_ofL; simp only [bxL]; omega)) only [↓bxD, bxP, bxQ, Nat.reduceBEq, reduceCtorEq, Nat.reduceAdd, Nat.reduceSub, Nat.reduceMul, Nat.reduceLeDiff, Nat.reduceLT, bxR, hG, g2, dz]
    refine bindP_call (reachable_any (h.ext x02) (by omega)) ?_
    rintro m3 M3 ⟨x3, ⟨hne, _⟩ | ⟨_, R, hR, hRr⟩⟩
    · exact absurd hz hne
    have n3 := x3.n
    have l3 := x3.lo
    have g3 := (x3.old M.n (by omega)).trans g2
    have x03 := x02.trans x3
    simp (maxSteps := 4000000) (disch := first | omega | assumption | (simp only [bxS, bxV, stOk, Nat.reduceBEq, Nat.reduceEqDiff, Nat.reduceAdd]; done) | (simp only [bxU]; omega) | ((try apply has_setN); apply has_ofL; simp only [bxL]; omega)) only [↓bxD, bxP, bxQ, Nat.reduceBEq, reduceCtorEq, Nat.reduceAdd, Nat.reduceSub, Nat.reduceMul, Nat.reduceLeDiff, Nat.reduceLT, bxR, hG, g3]
    refine bindP_call (rprod_any (h.ext x03) (by omega)) ?_
    rintro m4 M4 ⟨x4, ⟨hne, _⟩ | ⟨_, S, hS, hSr⟩⟩
    · exact absurd hz hne
    have n4 := x4.n
    have l4 := x4.lo
    have g4 := (x4.old M.n (by omega)).trans g3
    have x04 := x03.trans x4
    simp (maxSteps := 4000000) (disch := first | omega | assumption | (simp only [bxS, bxV, stOk, Nat.reduceBEq, Nat.reduceEqDiff, Nat.reduceAdd]; done) | (simp only [bxU]; omega) | ((try apply has_setN); apply has_ofL; simp only [bxL]; omega)) only [↓bxD, bxP, bxQ, Nat.reduceBEq, reduceCtorEq, Nat.reduceAdd, Nat.reduceSub, Nat.reduceMul, Nat.reduceLeDiff, Nat.reduceLT, bxR, hG, g4]
    refine bindP_call (rcyclic_any (h.ext x04) (by omega)) ?_
    rintro m5 M5 ⟨x5, ⟨hne, _⟩ | ⟨_, N, hN, hNr⟩⟩
    · exact absurd hz hne
    have n5 := x5.n
    have l5 := x5.lo
    have g5 := (x5.old M.n (by omega)).trans g4
    have x05 := x04.trans x5
    have hRr5 := (hRr.ext x4).ext x5
    have hSr5 := hSr.ext x5
    obtain ⟨r1, r2⟩ := hRr5.sl
    obtain ⟨s1, s2⟩ := hSr5.sl
    obtain ⟨c1, c2⟩ := hNr.sl
    have hRl : R.length = nn := by rw [hR.1]; omega
    have hSl : (S.map fun z => decide (0 ≤ z)).length = nn := by rw [List.length_map, (hS.inn hok).len]; omega
    have hCl := cyL_len g N
    have cg0 : cget (ofL [MV.i IntKind.i64 g.names, MV.i IntKind.i64 g.kinds, MV.i IntKind.i64 g.start, vr, vf, vc, vk] 0) 0 = some (.i .i64 (nn : Int)) := by rw [← hnn]; exact (at_ofL _) 0 _ rfl
    simp (maxSteps := 4000000) (disch := first | omega | assumption | (simp only [bxS, bxV, stOk, Nat.reduceBEq, Nat.reduceEqDiff, Nat.reduceAdd]; done) | (simp only [bxU]; omega) | ((try apply has_setN); apply has_ofL; simp only [bxL]; omega)) only [↓bxD, bxP, bxQ, Nat.reduceBEq, reduceCtorEq, Nat.reduceAdd, Nat.reduceSub, Nat.reduceMul, Nat.reduceLeDiff, Nat.reduceLT, bxR, hG, g4]
    refine Wp_inv (σ := Nat) (fun i f M' => M' = M5 ∧ i ≤ nn ∧ (∀ k, k < i → (!(bAt R k) || !(bAt (S.map fun z => decide (0 ≤ z)) k)) = false) ∧ X.ev f (.t q1) = .p M.n 0 ∧ X.ev f (.t q6) = m3 ∧ X.ev f (.t q7) = m4 ∧ X.ev f (.t q8) = m5 ∧ X.ev f (.t q9) = .i .i64 (i : Int)) (fun i => nn - i) ?_ 0 ?_
    · rintro i f M' ⟨rfl, hi, hk, h1, h6, h7, h8, h9⟩
      simp only [q1, q6, q7, q8, q9] at h1 h6 h7 h8 h9
      unfold L10_2
      by_cases hi' : i < nn
      · have d1 : decide ((i : Int) < (nn : Int)) = true := decide_eq_true (by omega)
        obtain ⟨ro, sz, t, hg, hid, hC⟩ := hRr5.read (i := i) (by omega)
        obtain ⟨ro2, sz2, t2, hg2, hid2, hC2⟩ := hSr5.read (i := i) (by omega)
        have use : (!(bAt R i) || !(bAt (S.map fun z => decide (0 ≤ z)) i)) = true → ChIs g ((i : Int), 7) := fun hb => chk_useless hz hR hS hN (firstP_is (Nat.zero_le _) (by omega) hb fun m _ hm => hk m hm)
        cases hb : bAt R i with
        | false =>
          rw [hb] at hC
          have hu := use (by rw [hb]; rfl)
          simp (maxSteps := 4000000) (disch := first | omega | assumption | (simp only [bxS, bxV, stOk, Nat.reduceBEq, Nat.reduceEqDiff, Nat.reduceAdd]; done) | (simp only [bxU]; omega) | ((try apply has_setN); apply has_ofL; simp only [bxL]; omega)) only [↓bxD, bxP, bxQ, Nat.reduceBEq, reduceCtorEq, Nat.reduceAdd, Nat.reduceSub, Nat.reduceMul, Nat.reduceLeDiff, Nat.reduceLT, bxR, h1, h6, h7, h8, h9, d1, g5, cg0, r1, r2, s1, s2, hg, hC]
          show Wp fns K10_1 _ _ _
          unfold K10_1
          simp (maxSteps := 4000000) (disch := first | omega | assumption | (simp only [bxS, bxV, stOk, Nat.reduceBEq, Nat.reduceEqDiff, Nat.reduceAdd]; done) | (simp only [bxU]; omega) | ((try apply has_setN); apply has_ofL; simp only [bxL]; omega)) only [↓bxD, bxP, bxQ, Nat.reduceBEq, reduceCtorEq, Nat.reduceAdd, Nat.reduceSub, Nat.reduceMul, Nat.reduceLeDiff, Nat.reduceLT, bxR, h1, h6, h7, h8, h9, d1, g5, cg0, r1, r2, s1, s2, hg, hC]
          exact ⟨x05, _, hu, rfl⟩
        | true =>
          rw [hb] at hC
          cases hb2 : bAt (S.map fun z => decide (0 ≤ z)) i with
          | false =>
            rw [hb2] at hC2
            have hu := use (by rw [hb2]; simp)
            simp (maxSteps := 4000000) (disch := first | omega | assumption | (simp only [bxS, bxV, stOk, Nat.reduceBEq, Nat.reduceEqDiff, Nat.reduceAdd]; done) | (simp only [bxU]; omega) | ((try apply has_setN); apply has_ofL; simp only [bxL]; omega)) only [↓bxD, bxP, bxQ, Nat.reduceBEq, reduceCtorEq, Nat.reduceAdd, Nat.reduceSub, Nat.reduceMul, Nat.reduceLeDiff, Nat.reduceLT, bxR, h1, h6, h7, h8, h9, d1, g5, cg0, r1, r2, s1, s2, hg, hC, hg2, hC2]
            show Wp fns K10_1 _ _ _
            unfold K10_1
            simp (maxSteps := 4000000) (disch := first | omega | assumption | (simp only [bxS, bxV, stOk, Nat.reduceBEq, Nat.reduceEqDiff, Nat.reduceAdd]; done) | (simp only [bxU]; omega) | ((try apply has_setN); apply has_ofL; simp only [bxL]; omega)) only [↓bxD, bxP, bxQ, Nat.reduceBEq, reduceCtorEq, Nat.reduceAdd, Nat.reduceSub, Nat.reduceMul, Nat.reduceLeDiff, Nat.reduceLT, bxR, h1, h6, h7, h8, h9, d1, g5, cg0, r1, r2, s1, s2, hg, hC, hg2, hC2]
            exact ⟨x05, _, hu, rfl⟩
          | true =>
            rw [hb2] at hC2
            simp (maxSteps := 4000000) (disch := first | omega | assumption | (simp only [bxS, bxV, stOk, Nat.reduceBEq, Nat.reduceEqDiff, Nat.reduceAdd]; done) | (simp only [bxU]; omega) | ((try apply has_setN); apply has_ofL; simp only [bxL]; omega)) only [↓bxD, bxP, bxQ, Nat.reduceBEq, reduceCtorEq, Nat.reduceAdd, Nat.reduceSub, Nat.reduceMul, Nat.reduceLeDiff, Nat.reduceLT, bxR, h1, h6, h7, h8, h9, d1, g5, cg0, r1, r2, s1, s2, hg, hC, hg2, hC2]
            show Wp fns K10_1 _ _ _
            unfold K10_1
            simp (maxSteps := 4000000) (disch := first | omega | assumption | (simp only [bxS, bxV, stOk, Nat.reduceBEq, Nat.reduceEqDiff, Nat.reduceAdd]; done) | (simp only [bxU]; omega) | ((try apply has_setN); apply has_ofL; simp only [bxL]; omega)) only [↓bxD, bxP, bxQ, Nat.reduceBEq, reduceCtorEq, Nat.reduceAdd, Nat.reduceSub, Nat.reduceMul, Nat.reduceLeDiff, Nat.reduceLT, bxR, h1, h6, h7, h8, h9, d1, g5, cg0, r1, r2, s1, s2, hg, hC, hg2, hC2]
            show Wp fns K10_0 _ _ _
            unfold K10_0
            simp (maxSteps := 4000000) (disch := first | omega | assumption | (simp only [bxS, bxV, stOk, Nat.reduceBEq, Nat.reduceEqDiff, Nat.reduceAdd]; done) | (simp only [bxU]; omega) | ((try apply has_setN); apply has_ofL; simp only [bxL]; omega)) only [↓bxD, bxP, bxQ, Nat.reduceBEq, reduceCtorEq, Nat.reduceAdd, Nat.reduceSub, Nat.reduceMul, Nat.reduceLeDiff, Nat.reduceLT, bxR, h1, h6, h7, h8, h9, d1, g5, cg0, r1, r2, s1, s2, hg, hC, hg2, hC2]
            refine ⟨i + 1, by omega, by omega, fun k hk' => ?_, rfl⟩
            by_cases e : k = i
            · subst e; rw [hb, hb2]; rfl
            · exact hk k (by omega)
      · have d1 : decide ((i : Int) < (nn : Int)) = false := decide_eq_false (by omega)
        obtain rfl : i = nn := by omega
        have hnone : firstP (fun i => !(bAt R i) || !(bAt (S.map fun z => decide (0 ≤ z)) i)) g.names.toNat 0 = none := firstP_no fun m _ hm => hk m (by omega)
        simp (maxSteps := 4000000) (disch := first | omega | assumption | (simp only [bxS, bxV, stOk, Nat.reduceBEq, Nat.reduceEqDiff, Nat.reduceAdd]; done) | (simp only [bxU]; omega) | ((try apply has_setN); apply has_ofL; simp only [bxL]; omega)) only [↓bxD, bxP, bxQ, Nat.reduceBEq, reduceCtorEq, Nat.reduceAdd, Nat.reduceSub, Nat.reduceMul, Nat.reduceLeDiff, Nat.reduceLT, bxR, h1, h6, h7, h8, h9, d1, g5, cg0]
        show Wp fns K10_7 _ _ _
        unfold K10_7
        simp (maxSteps := 4000000) (disch := first | omega | assumption | (simp only [bxS, bxV, stOk, Nat.reduceBEq, Nat.reduceEqDiff, Nat.reduceAdd]; done) | (simp only [bxU]; omega) | ((try apply has_setN); apply has_ofL; simp only [bxL]; omega)) only [↓bxD, bxP, bxQ, Nat.reduceBEq, reduceCtorEq, Nat.reduceAdd, Nat.reduceSub, Nat.reduceMul, Nat.reduceLeDiff, Nat.reduceLT, bxR, h1, h6, h7, h8, h9, d1, g5, cg0]
        refine Wp_inv (σ := Nat) (fun j f Mx => Mx = M' ∧ j ≤ i ∧ (∀ k, k < j → bAt (cyL g N) k = false) ∧ X.ev f (.t q1) = .p M.n 0 ∧ X.ev f (.t q8) = m5 ∧ X.ev f (.t q10) = .i .i64 (j : Int)) (fun j => i - j) ?_ 0 ?_
        · clear h1 h6 h7 h8 h9 d1
          rintro j f Mx ⟨rfl, hj, hk2, h1, h8, h10⟩
          simp only [q1, q8, q10] at h1 h8 h10
          unfold L10_5
          by_cases hj' : j < i
          · have d1 : decide ((j : Int) < (i : Int)) = true := decide_eq_true (by omega)
            obtain ⟨ro, sz, t, hg, hid, hC⟩ := hNr.read (i := j) (by omega)
            cases hb : bAt (cyL g N) j with
            | true =>
              rw [hb] at hC
              have hu := chk_cycle hz hR hS hN hnone (i := j) (firstP_is (Nat.zero_le _) (by omega) hb fun m _ hm => hk2 m hm)
              simp (maxSteps := 4000000) (disch := first | omega | assumption | (simp only [bxS, bxV, stOk, Nat.reduceBEq, Nat.reduceEqDiff, Nat.reduceAdd]; done) | (simp only [bxU]; omega) | ((try apply has_setN); apply has_ofL; simp only [bxL]; omega)) only [↓bxD, bxP, bxQ, Nat.reduceBEq, reduceCtorEq, Nat.reduceAdd, Nat.reduceSub, Nat.reduceMul, Nat.reduceLeDiff, Nat.reduceLT, bxR, h1, h8, h10, d1, g5, cg0, c1, c2, hg, hC]
              show Wp fns K10_4 _ _ _
              unfold K10_4
              simp (maxSteps := 4000000) (disch := first | omega | assumption | (simp only [bxS, bxV, stOk, Nat.reduceBEq, Nat.reduceEqDiff, Nat.reduceAdd]; done) | (simp only [bxU]; omega) | ((try apply has_setN); apply has_ofL; simp only [bxL]; omega)) only [↓bxD, bxP, bxQ, Nat.reduceBEq, reduceCtorEq, Nat.reduceAdd, Nat.reduceSub, Nat.reduceMul, Nat.reduceLeDiff, Nat.reduceLT, bxR, h1, h8, h10, d1, g5, cg0, c1, c2, hg, hC]
              exact ⟨x05, _, hu, rfl⟩
            | false =>
              rw [hb] at hC
              simp (maxSteps := 4000000) (disch := first | omega | assumption | (simp only [bxS, bxV, stOk, Nat.reduceBEq, Nat.reduceEqDiff, Nat.reduceAdd]; done) | (simp only [bxU]; omega) | ((try apply has_setN); apply has_ofL; simp only [bxL]; omega)) only [↓bxD, bxP, bxQ, Nat.reduceBEq, reduceCtorEq, Nat.reduceAdd, Nat.reduceSub, Nat.reduceMul, Nat.reduceLeDiff, Nat.reduceLT, bxR, h1, h8, h10, d1, g5, cg0, c1, c2, hg, hC]
              show Wp fns K10_4 _ _ _
              unfold K10_4
              simp (maxSteps := 4000000) (disch := first | omega | assumption | (simp only [bxS, bxV, stOk, Nat.reduceBEq, Nat.reduceEqDiff, Nat.reduceAdd]; done) | (simp only [bxU]; omega) | ((try apply has_setN); apply has_ofL; simp only [bxL]; omega)) only [↓bxD, bxP, bxQ, Nat.reduceBEq, reduceCtorEq, Nat.reduceAdd, Nat.reduceSub, Nat.reduceMul, Nat.reduceLeDiff, Nat.reduceLT, bxR, h1, h8, h10, d1, g5, cg0, c1, c2, hg, hC]
              show Wp fns K10_3 _ _ _
              unfold K10_3
              simp (maxSteps := 4000000) (disch := first | omega | assumption | (simp only [bxS, bxV, stOk, Nat.reduceBEq, Nat.reduceEqDiff, Nat.reduceAdd]; done) | (simp only [bxU]; omega) | ((try apply has_setN); apply has_ofL; simp only [bxL]; omega)) only [↓bxD, bxP, bxQ, Nat.reduceBEq, reduceCtorEq, Nat.reduceAdd, Nat.reduceSub, Nat.reduceMul, Nat.reduceLeDiff, Nat.reduceLT, bxR, h1, h8, h10, d1, g5, cg0, c1, c2, hg, hC]
              refine ⟨j + 1, by omega, by omega, fun k hk' => ?_, rfl⟩
              by_cases e : k = j
              · subst e; exact hb
              · exact hk2 k (by omega)
          · have d1 : decide ((j : Int) < (i : Int)) = false := decide_eq_false (by omega)
            obtain rfl : j = i := by omega
            have hu := chk_fine hz hR hS hN hnone (firstP_no fun m _ hm => hk2 m (by omega))
            simp (maxSteps := 4000000) (disch := first | omega | assumption | (simp only [bxS, bxV, stOk, Nat.reduceBEq, Nat.reduceEqDiff, Nat.reduceAdd]; done) | (simp only [bxU]; omega) | ((try apply has_setN); apply has_ofL; simp only [bxL]; omega)) only [↓bxD, bxP, bxQ, Nat.reduceBEq, reduceCtorEq, Nat.reduceAdd, Nat.reduceSub, Nat.reduceMul, Nat.reduceLeDiff, Nat.reduceLT, bxR, h1, h8, h10, d1, g5, cg0]
            show Wp fns K10_6 _ _ _
            unfold K10_6
            simp (maxSteps := 4000000) (disch := first | omega | assumption | (simp only [bxS, bxV, stOk, Nat.reduceBEq, Nat.reduceEqDiff, Nat.reduceAdd]; done) | (simp only [bxU]; omega) | ((try apply has_setN); apply has_ofL; simp only [bxL]; omega)) only [↓bxD, bxP, bxQ, Nat.reduceBEq, reduceCtorEq, Nat.reduceAdd, Nat.reduceSub, Nat.reduceMul, Nat.reduceLeDiff, Nat.reduceLT, bxR, h1, h8, h10, d1, g5, cg0]
            exact ⟨x05, _, hu, rfl⟩
        · exact ⟨rfl, Nat.zero_le _, fun k hk => absurd hk (Nat.not_lt_zero k), by simp only [bxP, bxQ, reduceCtorEq, h1, h6, h7, h8, h9, d1, g5, cg0], by simp only [bxP, bxQ, reduceCtorEq, h1, h6, h7, h8, h9, d1, g5, cg0], by simp only [bxP, bxQ, reduceCtorEq, h1, h6, h7, h8, h9, d1, g5, cg0] <;> rfl⟩
    · exact ⟨rfl, Nat.zero_le _, fun k hk => absurd hk (Nat.not_lt_zero k), by simp only [bxP, bxQ, reduceCtorEq, hG, g4], by simp only [bxP, bxQ, reduceCtorEq, hG, g4], by simp only [bxP, bxQ, reduceCtorEq, hG, g4], by simp only [bxP, bxQ, reduceCtorEq, hG, g4], by simp only [bxP, bxQ, reduceCtorEq, hG, g4] <;> rfl⟩
  · have dz : decide ((formP g).2 ≠ 0) = true := decide_eq_true hz
    simp (maxSteps := 4000000) (disch := first | omega | assumption | (simp only [bxS, bxV, stOk, Nat.reduceBEq, Nat.reduceEqDiff, Nat.reduceAdd]; done) | (simp only [bxU]; omega) | ((try apply has_setN); apply has_ofL; simp only [bxL]; omega)) only [↓bxD, bxP, bxQ, Nat.reduceBEq, reduceCtorEq, Nat.reduceAdd, Nat.reduceSub, Nat.reduceMul, Nat.reduceLeDiff, Nat.reduceLT, bxR, hG, g2, dz]
    exact ⟨x02, formP g, .inl ⟨hz, rfl⟩, rfl⟩
theorem num_any {M : MH} {z : Int} : Cp fns 14 [.i .i64 z] M fun m M' => m = .i .i64 z ∧ M' = M := by
  refine Cp_call (fn := F14) (by kernel_rfl) (Nat.le_of_ble_eq_true rfl) ?_
  show Wp fns B14 (T.set q0 (some (.i .i64 z)) T.lf) M _
  unfold B14
  simp (maxSteps := 4000000) (disch := first | omega | assumption | (simp only [bxS, bxV, stOk, Nat.reduceBEq, Nat.reduceEqDiff, Nat.reduceAdd]; done) | (simp only [bxU]; omega) | ((try apply has_setN); apply has_ofL; simp only [bxL]; omega)) only [↓bxD, bxP, bxQ, Nat.reduceBEq, reduceCtorEq, Nat.reduceAdd, Nat.reduceSub, Nat.reduceMul, Nat.reduceLeDiff, Nat.reduceLT, bxR]
theorem law_tells {M : MH} {g : Gr} {vr vf vc vk : MV} {es : List (List MV)} (h : GrAt M vr vf vc vk es g) (hlo : M.lo ≤ M.n) (ha : ∀ M', Ext M M' → Cp fns 7 [] M' fun m M2 => m = .b true ∧ M2 = M') : Cp fns 3 [.ag (gcs g vr vf vc vk)] M fun m _ => m = .b true := by
  have hG : ∀ l, l = gcs g vr vf vc vk → Ev.getN (ofL l 0) 7 0 = some (gcs g vr vf vc vk) := fun l e => by subst e; exact (at_ofL (gcs g vr vf vc vk)).getN
  have hG := hG [MV.i IntKind.i64 g.names, MV.i IntKind.i64 g.kinds, MV.i IntKind.i64 g.start, vr, vf, vc, vk] rfl
  refine Cp_call (fn := F3) (by kernel_rfl) (Nat.le_of_ble_eq_true rfl) ?_
  show Wp fns B3 (T.set q0 (some (.ag (gcs g vr vf vc vk))) T.lf) M _
  unfold B3
  rw [show gcs g vr vf vc vk = [MV.i IntKind.i64 g.names, MV.i IntKind.i64 g.kinds, MV.i IntKind.i64 g.start, vr, vf, vc, vk] from rfl]
  simp (maxSteps := 4000000) (disch := first | omega | assumption | (simp only [bxS, bxV, stOk, Nat.reduceBEq, Nat.reduceEqDiff, Nat.reduceAdd]; done) | (simp only [bxU]; omega) | ((try apply has_setN); apply has_ofL; simp only [bxL]; omega)) only [↓bxD, bxP, bxQ, Nat.reduceBEq, reduceCtorEq, Nat.reduceAdd, Nat.reduceSub, Nat.reduceMul, Nat.reduceLeDiff, Nat.reduceLT, bxR, hG]
  refine bindP_call (ha _ (by first | exact .refl _ | exact .push _ _)) ?_
  rintro m M2 ⟨rfl, rfl⟩
  generalize hM1 : M.push _ = M1
  have hg0 : M1.get M.n = some (.cs false 7 (ofL [MV.i IntKind.i64 g.names, MV.i IntKind.i64 g.kinds, MV.i IntKind.i64 g.start, vr, vf, vc, vk] 0)) := by rw [← hM1]; exact push_new _
  have hx1 : Ext M M1 := by rw [← hM1]; exact Ext.push M _
  have hn1 : M1.n = M.n + 1 := by rw [← hM1]; rfl
  have hl1 := hx1.lo
  clear hM1
  simp (maxSteps := 4000000) (disch := first | omega | assumption | (simp only [bxS, bxV, stOk, Nat.reduceBEq, Nat.reduceEqDiff, Nat.reduceAdd]; done) | (simp only [bxU]; omega) | ((try apply has_setN); apply has_ofL; simp only [bxL]; omega)) only [↓bxD, bxP, bxQ, Nat.reduceBEq, reduceCtorEq, Nat.reduceAdd, Nat.reduceSub, Nat.reduceMul, Nat.reduceLeDiff, Nat.reduceLT, bxR, hG, hg0]
  refine bindP_call (few_any (h.ext hx1) (by omega)) ?_
  rintro m M3 ⟨rfl, hx3⟩
  have hn3 := hx3.n
  have hl3 := hx3.lo
  have hg3 := (hx3.old M.n (by omega)).trans hg0
  have hxx := hx1.trans hx3
  cases hf : fewB g with
  | false =>
    simp (maxSteps := 4000000) (disch := first | omega | assumption | (simp only [bxS, bxV, stOk, Nat.reduceBEq, Nat.reduceEqDiff, Nat.reduceAdd]; done) | (simp only [bxU]; omega) | ((try apply has_setN); apply has_ofL; simp only [bxL]; omega)) only [↓bxD, bxP, bxQ, Nat.reduceBEq, reduceCtorEq, Nat.reduceAdd, Nat.reduceSub, Nat.reduceMul, Nat.reduceLeDiff, Nat.reduceLT, bxR, hG, hg3]
  | true =>
    simp (maxSteps := 4000000) (disch := first | omega | assumption | (simp only [bxS, bxV, stOk, Nat.reduceBEq, Nat.reduceEqDiff, Nat.reduceAdd]; done) | (simp only [bxU]; omega) | ((try apply has_setN); apply has_ofL; simp only [bxL]; omega)) only [↓bxD, bxP, bxQ, Nat.reduceBEq, reduceCtorEq, Nat.reduceAdd, Nat.reduceSub, Nat.reduceMul, Nat.reduceLeDiff, Nat.reduceLT, bxR, hG, hg3]
    show Wp fns K3_0 _ _ _
    unfold K3_0
    simp (maxSteps := 4000000) (disch := first | omega | assumption | (simp only [bxS, bxV, stOk, Nat.reduceBEq, Nat.reduceEqDiff, Nat.reduceAdd]; done) | (simp only [bxU]; omega) | ((try apply has_setN); apply has_ofL; simp only [bxL]; omega)) only [↓bxD, bxP, bxQ, Nat.reduceBEq, reduceCtorEq, Nat.reduceAdd, Nat.reduceSub, Nat.reduceMul, Nat.reduceLeDiff, Nat.reduceLT, bxR, hG, hg3]
    refine bindP_call (pcheck_any (h.ext hxx) (by omega)) ?_
    rintro m M4 ⟨x4, z, hz, rfl⟩
    have n4 := x4.n
    have l4 := x4.lo
    have hg4 := (x4.old M.n (by omega)).trans hg3
    have h4 := (h.ext hxx).ext x4
    simp (maxSteps := 4000000) (disch := first | omega | assumption | (simp only [bxS, bxV, stOk, Nat.reduceBEq, Nat.reduceEqDiff, Nat.reduceAdd]; done) | (simp only [bxU]; omega) | ((try apply has_setN); apply has_ofL; simp only [bxL]; omega)) only [↓bxD, bxP, bxQ, Nat.reduceBEq, reduceCtorEq, Nat.reduceAdd, Nat.reduceSub, Nat.reduceMul, Nat.reduceLeDiff, Nat.reduceLT, bxR, hG, hg4]
    refine bindP_call (rcheck_any h4 (by omega)) ?_
    rintro m M5 ⟨x5, z', hz', rfl⟩
    obtain rfl := chis_ext hz hz'
    have n5 := x5.n
    have l5 := x5.lo
    have hg5 := (x5.old M.n (by omega)).trans hg4
    have h5 := h4.ext x5
    simp (maxSteps := 4000000) (disch := first | omega | assumption | (simp only [bxS, bxV, stOk, Nat.reduceBEq, Nat.reduceEqDiff, Nat.reduceAdd]; done) | (simp only [bxU]; omega) | ((try apply has_setN); apply has_ofL; simp only [bxL]; omega)) only [↓bxD, bxP, bxQ, Nat.reduceBEq, reduceCtorEq, Nat.reduceAdd, Nat.reduceSub, Nat.reduceMul, Nat.reduceLeDiff, Nat.reduceLT, bxR, hG, hg5]
    refine Wp_dreg_of (by omega) ?_
    simp (maxSteps := 4000000) (disch := first | omega | assumption | (simp only [bxS, bxV, stOk, Nat.reduceBEq, Nat.reduceEqDiff, Nat.reduceAdd]; done) | (simp only [bxU]; omega) | ((try apply has_setN); apply has_ofL; simp only [bxL]; omega)) only [↓bxD, bxP, bxQ, Nat.reduceBEq, reduceCtorEq, Nat.reduceAdd, Nat.reduceSub, Nat.reduceMul, Nat.reduceLeDiff, Nat.reduceLT, bxR, hG, hg5]
    refine bindP_call (pcyclic_any (gr_lift h5) (Nat.le_refl _)) ?_
    rintro m M7 hm
    obtain ⟨hx7, la, hra, hia, hla⟩ := CyPost.is hm
    have hx67 := ext_dl hx7
    have hn7 := hx67.n
    have hl7 := hx67.lo
    have hg7 := (hx67.old M.n (by omega)).trans hg5
    have hg7' := hg7
    have hgr7 := h5.ext hx67
    rw [down_get] at hg7
    have hra7 : BRow (M7.down M5.lo) m la := hra
    simp (maxSteps := 4000000) (disch := first | omega | assumption | (simp only [bxS, bxV, stOk, Nat.reduceBEq, Nat.reduceEqDiff, Nat.reduceAdd]; done) | (simp only [bxU]; omega) | ((try apply has_setN); apply has_ofL; simp only [bxL]; omega)) only [↓bxD, bxP, bxQ, Nat.reduceBEq, reduceCtorEq, Nat.reduceAdd, Nat.reduceSub, Nat.reduceMul, Nat.reduceLeDiff, Nat.reduceLT, bxR, hG, hg5, hg7, down_get]
    generalize hN7 : M7.down M5.lo = N7 at *
    refine bindP_call (rcyclic_any hgr7 (by omega)) ?_
    rintro m2 M8 hm
    obtain ⟨hx8, lb, hrb, hib, hlb⟩ := CyPost.is hm
    have hn8 := hx8.n
    have hl8 := hx8.lo
    obtain rfl := cyis_ext hia hib
    simp (maxSteps := 4000000) (disch := first | omega | assumption | (simp only [bxS, bxV, stOk, Nat.reduceBEq, Nat.reduceEqDiff, Nat.reduceAdd]; done) | (simp only [bxU]; omega) | ((try apply has_setN); apply has_ofL; simp only [bxL]; omega)) only [↓bxD, bxP, bxQ, Nat.reduceBEq, reduceCtorEq, Nat.reduceAdd, Nat.reduceSub, Nat.reduceMul, Nat.reduceLeDiff, Nat.reduceLT, bxR, hG]
    refine bindP_call (same_bools (hra7.ext hx8) hrb hla (by omega)) ?_
    rintro m3 M8' ⟨rfl, rfl⟩
    simp (maxSteps := 4000000) (disch := first | omega | assumption | (simp only [bxS, bxV, stOk, Nat.reduceBEq, Nat.reduceEqDiff, Nat.reduceAdd]; done) | (simp only [bxU]; omega) | ((try apply has_setN); apply has_ofL; simp only [bxL]; omega)) only [↓bxD, bxP, bxQ, Nat.reduceBEq, reduceCtorEq, Nat.reduceAdd, Nat.reduceSub, Nat.reduceMul, Nat.reduceLeDiff, Nat.reduceLT, bxR, hG, decide_true]
    refine bindP_call num_any ?_
    rintro m4 M8 ⟨rfl, rfl⟩
    simp (maxSteps := 4000000) (disch := first | omega | assumption | (simp only [bxS, bxV, stOk, Nat.reduceBEq, Nat.reduceEqDiff, Nat.reduceAdd]; done) | (simp only [bxU]; omega) | ((try apply has_setN); apply has_ofL; simp only [bxL]; omega)) only [↓bxD, bxP, bxQ, Nat.reduceBEq, reduceCtorEq, Nat.reduceAdd, Nat.reduceSub, Nat.reduceMul, Nat.reduceLeDiff, Nat.reduceLT, bxR, hG, decide_true]
    show Wp fns .ret _ _ _
    simp (maxSteps := 4000000) (disch := first | omega | assumption | (simp only [bxS, bxV, stOk, Nat.reduceBEq, Nat.reduceEqDiff, Nat.reduceAdd]; done) | (simp only [bxU]; omega) | ((try apply has_setN); apply has_ofL; simp only [bxL]; omega)) only [↓bxD, bxP, bxQ, Nat.reduceBEq, reduceCtorEq, Nat.reduceAdd, Nat.reduceSub, Nat.reduceMul, Nat.reduceLeDiff, Nat.reduceLT, bxR, hG]
theorem Cp_true {fns : Nat → Option IFn} {g : Nat} {M : MH} (hg : fns g = some Ftrue) : Cp fns g [] M fun m M' => m = .b true ∧ M' = M := by
  refine Cp_call hg (Nat.le_refl _) ?_
  show Wp fns (.reg [⟨some (.k1 .d0), none, .mov (.c (.b true))⟩]) _ M _
  simp only [Wp_reg_iff, Wl_op_iff, Wl_nil_iff, bindP_some, ev_mov, ev_c, setD_some, retQ_norm, show Ftrue.res = [.tmp (.k1 .d0)] from rfl, resL_1, res_set, if_true, Option.some.injEq, exists_eq_left']
  simp [packM]
end Go.Proofs.Ytddaggodpmhmpaa.K
set_option linter.unusedSimpArgs false
set_option linter.unusedVariables false
set_option maxRecDepth 100000
namespace Go.Proofs.Ytddaggodpmhmpaa.Ev
open Go
theorem wf_of {z : Int} (h : (Lit.int .i64 z).wf = true) : Wf64 z := by
  simp only [Lit.wf, Bool.and_eq_true, decide_eq_true_eq] at h
  exact h
theorem list_of {α : Type} {F : α → List MV} {W : α → Prop} : ∀ {es : List (List MV)}, (∀ x ∈ es, ∃ a, x = F a ∧ W a) → ∃ l : List α, es = l.map F ∧ ∀ a ∈ l, W a
  | [], _ => ⟨[], rfl, fun a ha => by cases ha⟩
  | x :: es, h => by
    obtain ⟨a, rfl, wa⟩ := h x List.mem_cons_self
    obtain ⟨l, rfl, hl⟩ := list_of fun y hy => h y (List.mem_cons_of_mem _ hy)
    exact ⟨a :: l, rfl, fun b hb => (List.mem_cons.1 hb).elim (fun e => e ▸ wa) (hl b)⟩
theorem list_of2 {α : Type} {R : List MV → α → Prop} : ∀ {es : List (List MV)}, (∀ x ∈ es, ∃ a, R x a) → ∃ l : List α, es.length = l.length ∧ (∀ (i : Nat) e a, es[i]? = some e → l[i]? = some a → R e a) ∧ ∀ a ∈ l, ∃ x, R x a
  | [], _ => ⟨[], rfl, fun i e a h => by simp at h, fun a ha => by cases ha⟩
  | x :: es, h => by
    obtain ⟨a, ra⟩ := h x List.mem_cons_self
    obtain ⟨l, hl, hr, hw⟩ := list_of2 fun y hy => h y (List.mem_cons_of_mem _ hy)
    refine ⟨a :: l, by rw [List.length_cons, List.length_cons, hl], fun i e b h1 h2 => ?_, fun b hb => (List.mem_cons.1 hb).elim (fun e => ⟨x, e ▸ ra⟩) (hw b)⟩
    cases i with
    | zero => simp only [List.getElem?_cons_zero, Option.some.injEq] at h1 h2; subst h1 h2; exact ra
    | succ i => exact hr i e b (by simpa using h1) (by simpa using h2)
variable {P : Program} {M : MH}
theorem typed_int {n : Nat} {e : TypeId} (hu : P.underlying e = some (.int .i64)) {x : List MV} (h : Typed P M n e x) : ∃ z, x = [.i .i64 z] ∧ Wf64 z := by
  cases n with
  | zero => exact h.elim
  | succ n =>
    simp only [Typed, hu] at h
    obtain ⟨z, rfl, hz⟩ := h
    exact ⟨z, rfl, wf_of hz⟩
theorem typed_ints {n : Nat} {t e : TypeId} (ht : P.underlying t = some (.slice e)) (hu : P.underlying e = some (.int .i64)) (hc : P.cellsOf e = 1) {x : List MV} (h : Typed P M n t x) : ∃ v l, x = [v] ∧ IntRow M v l ∧ (∀ z ∈ l, Wf64 z) ∧ l.length ≤ 9223372036854775807 := by
  cases n with
  | zero => exact h.elim
  | succ n =>
    simp only [Typed, ht] at h
    obtain ⟨v, es, rfl, hr, hm, hl⟩ := h
    obtain ⟨l, rfl, hw⟩ := list_of (F := fun z => [MV.i .i64 z]) (W := Wf64) fun x hx => typed_int hu (hl x hx)
    rw [hc] at hr
    rw [List.length_map] at hm
    exact ⟨v, l, rfl, hr, hw, hm⟩
end Go.Proofs.Ytddaggodpmhmpaa.Ev
namespace Go.Proofs.Ytddaggodpmhmpaa
open Go Ev
theorem rule_of {M : MH} {n : Nat} {x : List MV} (h : Typed Try.prog M n 39 x) : ∃ r : Int × List Int × Int, RuleAt M x r ∧ Wf64 r.1 ∧ (∀ z ∈ r.2.1, Wf64 z) ∧ Wf64 r.2.2 ∧ r.2.1.length ≤ 9223372036854775807 := by
  cases n with
  | zero => exact h.elim
  | succ n =>
    simp only [Typed, Try.underlying39] at h
    simp only [TypedFs] at h
    obtain ⟨_, _, rfl, h1, _, _, rfl, h2, _, _, rfl, h3, rfl⟩ := h
    obtain ⟨a, rfl, wa⟩ := typed_int Try.underlying3 h1
    obtain ⟨v, l, rfl, hr, hw, hm⟩ := typed_ints Try.underlying24 Try.underlying3 (by kernel_rfl) h2
    obtain ⟨b, rfl, wb⟩ := typed_int Try.underlying3 h3
    exact ⟨(a, l, b), ⟨v, rfl, hr⟩, wa, hw, wb, hm⟩
theorem trip_of {M : MH} {n : Nat} {x : List MV} (h : Typed Try.prog M n 53 x) : ∃ f : Int × Int × Int, x = trip f ∧ Wf64 f.1 ∧ Wf64 f.2.1 ∧ Wf64 f.2.2 := by
  cases n with
  | zero => exact h.elim
  | succ n =>
    simp only [Typed, Try.underlying53] at h
    simp only [TypedN] at h
    obtain ⟨_, _, rfl, h1, _, _, rfl, h2, _, _, rfl, h3, rfl⟩ := h
    obtain ⟨a, rfl, wa⟩ := typed_int Try.underlying3 h1
    obtain ⟨b, rfl, wb⟩ := typed_int Try.underlying3 h2
    obtain ⟨c, rfl, wc⟩ := typed_int Try.underlying3 h3
    exact ⟨(a, b, c), rfl, wa, wb, wc⟩
theorem gram_of {M : MH} {m : MV} (h : ArgTyped Try.prog M 26 m) : ∃ g vr vf vc vk es, m = .ag (gcs g vr vf vc vk) ∧ GrAt M vr vf vc vk es g := by
  obtain ⟨n, cs, h1, h2⟩ := h
  simp only [Try.underlying26] at h2
  subst h2
  cases n with
  | zero => exact h1.elim
  | succ n =>
    simp only [Typed, Try.underlying26] at h1
    simp only [TypedFs] at h1
    obtain ⟨_, _, rfl, k1, _, _, rfl, k2, _, _, rfl, k3, _, _, rfl, k4, _, _, rfl, k5, _, _, rfl, k6, _, _, rfl, k7, rfl⟩ := h1
    obtain ⟨a, rfl, wa⟩ := typed_int Try.underlying3 k1
    obtain ⟨b, rfl, wb⟩ := typed_int Try.underlying3 k2
    obtain ⟨c, rfl, wc⟩ := typed_int Try.underlying3 k3
    obtain ⟨vc, lc, rfl, rc, hwc, hmc⟩ := typed_ints Try.underlying24 Try.underlying3 (by kernel_rfl) k6
    obtain ⟨vk, lk, rfl, rk, hwk, hmk⟩ := typed_ints Try.underlying24 Try.underlying3 (by kernel_rfl) k7
    cases n with
    | zero => exact k4.elim
    | succ n =>
      simp only [Typed, Try.underlying22] at k4
      simp only [Typed, Try.underlying23] at k5
      obtain ⟨vr, es, rfl, hr, hrm, hrl⟩ := k4
      obtain ⟨vf, fs, rfl, hf, hfm, hfl⟩ := k5
      obtain ⟨l, hl1, hl2, hl3⟩ := list_of2 fun x hx => rule_of (hrl x hx)
      obtain ⟨fl, rfl, hfw⟩ := list_of (F := trip) (W := fun f => Wf64 f.1 ∧ Wf64 f.2.1 ∧ Wf64 f.2.2) fun x hx => trip_of (hfl x hx)
      rw [show Try.prog.cellsOf 39 = 3 from by kernel_rfl] at hr
      rw [show Try.prog.cellsOf 53 = 3 from by kernel_rfl] at hf
      rw [List.length_map] at hfm
      refine ⟨⟨a, b, c, l, fl, lc, lk⟩, vr, vf, vc, vk, es, rfl, ⟨⟨hr, hl1, fun i e r h1 h2 => (hl2 i e r h1 h2).1⟩, hf, rc, rk, ⟨wa, wb, wc, fun r hr => ?_, hfw, hwc, hwk, by rw [← hl1]; exact hrm, hfm, hmc, hmk⟩⟩⟩
      obtain ⟨x, hx⟩ := hl3 r hr
      exact hx.2
end Go.Proofs.Ytddaggodpmhmpaa
set_option linter.unusedSimpArgs false
set_option linter.unusedVariables false
namespace Go.Proofs.Ytddaggodpmhmpaa.K
open Go Ev
set_option maxRecDepth 100000
set_option maxHeartbeats 4000000

theorem tells_model (M : MH) (ms : List MV) (hx : Ext Mz M) (hlo : M.lo ≤ M.n) (ha : ArgsTyped Try.prog M [26] ms) : Cp fns 3 ms M fun m _ => m = .b true := by
  obtain ⟨m, r, rfl, h, rfl⟩ := ha
  obtain ⟨g, vr, vf, vc, vk, es, rfl, hg⟩ := gram_of h
  exact law_tells hg hlo fun M' _ => Cp_true (by kernel_rfl)
end Go.Proofs.Ytddaggodpmhmpaa.K
