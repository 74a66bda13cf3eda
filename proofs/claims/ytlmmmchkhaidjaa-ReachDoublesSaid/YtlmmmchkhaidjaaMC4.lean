/-
  What the claim leans on, part 4: The program's Form: what is asked of the whole. Conditions: none. The program's Form gives what chapter 10 asks. Conditions: none. The program's shortest. Conditions: none. The program's shortest, Shortest and Productive. Conditions: none. The document's Reachable. Conditions: none. The program's mark and Reachable. Conditions: none. The document's Shortest: a row. Conditions: none. The document's Shortest. Conditions: none. The document's Shortest and Productive, whole. Conditions: none. Lists that are one: the document's comparisons. Conditions: none. Grammars where the bound of what may be 
-/
import Derived.Test.YtlmmmchkhaidjaaMC3
import Derived.Test.YtlmmmchkhaidjaaProg
import Derived.KernelRfl
set_option linter.unusedSimpArgs false
set_option linter.unusedVariables false
namespace Go.Proofs.Ytlmmmchkhaidjaa.K
open Go Ev
set_option maxRecDepth 100000
set_option maxHeartbeats 4000000

theorem wholeError_any {M : MH} {g : Gr} {vr vf vc vk : MV} {es : List (List MV)} (h : GrAt M vr vf vc vk es g) (hlo : M.lo ≤ M.n) :
    Cp fns 26 [.ag (gcs g vr vf vc vk)] M fun m M' => m = .i .i64 (numE (headE g)) ∧ Ext M M' := by
  obtain ⟨hr1, hr2⟩ := h.rules.row.sl
  rw [h.rules.len] at hr2
  obtain ⟨hf1, hf2⟩ := h.forbid.sl
  rw [List.length_map] at hf2
  obtain ⟨hc1, hc2⟩ := h.rc.sl
  obtain ⟨hk1, hk2⟩ := h.kc.sl
  obtain ⟨hw1, hw2, hw3, hw4⟩ := h.wf.lens
  refine Cp_call (fn := F26) (by kernel_rfl) (Nat.le_of_ble_eq_true rfl) ?_
  show Wp fns B26 (T.set q0 (some (.ag (gcs g vr vf vc vk))) T.lf) M _
  unfold B26
  rw [show gcs g vr vf vc vk = [MV.i IntKind.i64 g.names, MV.i IntKind.i64 g.kinds, MV.i IntKind.i64 g.start, vr, vf, vc, vk] from rfl]
  simp (maxSteps := 4000000) (disch := first | omega | assumption | (simp only [bxS, bxV, stOk, Nat.reduceBEq, Nat.reduceEqDiff, Nat.reduceAdd]; done) | (simp only [bxU]; omega) | ((try apply has_setN); apply has_ofL; simp only [bxL]; omega)) only [↓bxD, bxP, bxQ, Nat.reduceBEq, reduceCtorEq, Nat.reduceAdd, Nat.reduceSub, Nat.reduceMul, Nat.reduceLeDiff, Nat.reduceLT, bxR, hr1, hr2, hf1, hf2, hc1, hc2, hk1, hk2]
  generalize hM1 : M.push _ = M1
  have hb0 : M1.get M.n = some (.cs false 7 (ofL [MV.i IntKind.i64 g.names, MV.i IntKind.i64 g.kinds, MV.i IntKind.i64 g.start, vr, vf, vc, vk] 0)) := by rw [← hM1]; exact push_new _
  have hx1 : Ext M M1 := by rw [← hM1]; exact .push M _
  have hn1 : M1.n = M.n + 1 := by rw [← hM1]; rfl
  have hl1 := hx1.lo
  clear hM1
  have h1 := h.ext hx1
  have hq1 : ∀ (c : Prop) [Decidable c], c → decide c = true := fun c _ h => decide_eq_true h
  by_cases ca0 : g.names < 1
  · have da0 : decide (g.names < 1) = true := decide_eq_true ca0
    simp (maxSteps := 4000000) (disch := first | omega | assumption | (simp only [bxS, bxV, stOk, Nat.reduceBEq, Nat.reduceEqDiff, Nat.reduceAdd]; done) | (simp only [bxU]; omega) | ((try apply has_setN); apply has_ofL; simp only [bxL]; omega)) only [↓bxD, bxP, bxQ, Nat.reduceBEq, reduceCtorEq, Nat.reduceAdd, Nat.reduceSub, Nat.reduceMul, Nat.reduceLeDiff, Nat.reduceLT, bxR, hr1, hr2, hf1, hf2, hc1, hc2, hk1, hk2, hb0, da0]
    show Wp fns K26_1 _ _ _
    unfold K26_1
    simp (maxSteps := 4000000) (disch := first | omega | assumption | (simp only [bxS, bxV, stOk, Nat.reduceBEq, Nat.reduceEqDiff, Nat.reduceAdd]; done) | (simp only [bxU]; omega) | ((try apply has_setN); apply has_ofL; simp only [bxL]; omega)) only [↓bxD, bxP, bxQ, Nat.reduceBEq, reduceCtorEq, Nat.reduceAdd, Nat.reduceSub, Nat.reduceMul, Nat.reduceLeDiff, Nat.reduceLT, bxR, hr1, hr2, hf1, hf2, hc1, hc2, hk1, hk2, hb0, da0]
    exact ⟨by unfold headE; rw [if_pos (by omega)]; rfl, hx1⟩
  have da0 : decide (g.names < 1) = false := decide_eq_false ca0
  by_cases ca1 : 40 < g.names
  · have da1 : decide (40 < g.names) = true := decide_eq_true ca1
    simp (maxSteps := 4000000) (disch := first | omega | assumption | (simp only [bxS, bxV, stOk, Nat.reduceBEq, Nat.reduceEqDiff, Nat.reduceAdd]; done) | (simp only [bxU]; omega) | ((try apply has_setN); apply has_ofL; simp only [bxL]; omega)) only [↓bxD, bxP, bxQ, Nat.reduceBEq, reduceCtorEq, Nat.reduceAdd, Nat.reduceSub, Nat.reduceMul, Nat.reduceLeDiff, Nat.reduceLT, bxR, hr1, hr2, hf1, hf2, hc1, hc2, hk1, hk2, hb0, da0, da1]
    show Wp fns K26_1 _ _ _
    unfold K26_1
    simp (maxSteps := 4000000) (disch := first | omega | assumption | (simp only [bxS, bxV, stOk, Nat.reduceBEq, Nat.reduceEqDiff, Nat.reduceAdd]; done) | (simp only [bxU]; omega) | ((try apply has_setN); apply has_ofL; simp only [bxL]; omega)) only [↓bxD, bxP, bxQ, Nat.reduceBEq, reduceCtorEq, Nat.reduceAdd, Nat.reduceSub, Nat.reduceMul, Nat.reduceLeDiff, Nat.reduceLT, bxR, hr1, hr2, hf1, hf2, hc1, hc2, hk1, hk2, hb0, da0, da1]
    exact ⟨by unfold headE; rw [if_pos (by omega)]; rfl, hx1⟩
  have da1 : decide (40 < g.names) = false := decide_eq_false ca1
  by_cases ca2 : g.kinds < 0
  · have da2 : decide (g.kinds < 0) = true := decide_eq_true ca2
    simp (maxSteps := 4000000) (disch := first | omega | assumption | (simp only [bxS, bxV, stOk, Nat.reduceBEq, Nat.reduceEqDiff, Nat.reduceAdd]; done) | (simp only [bxU]; omega) | ((try apply has_setN); apply has_ofL; simp only [bxL]; omega)) only [↓bxD, bxP, bxQ, Nat.reduceBEq, reduceCtorEq, Nat.reduceAdd, Nat.reduceSub, Nat.reduceMul, Nat.reduceLeDiff, Nat.reduceLT, bxR, hr1, hr2, hf1, hf2, hc1, hc2, hk1, hk2, hb0, da0, da1, da2]
    show Wp fns K26_1 _ _ _
    unfold K26_1
    simp (maxSteps := 4000000) (disch := first | omega | assumption | (simp only [bxS, bxV, stOk, Nat.reduceBEq, Nat.reduceEqDiff, Nat.reduceAdd]; done) | (simp only [bxU]; omega) | ((try apply has_setN); apply has_ofL; simp only [bxL]; omega)) only [↓bxD, bxP, bxQ, Nat.reduceBEq, reduceCtorEq, Nat.reduceAdd, Nat.reduceSub, Nat.reduceMul, Nat.reduceLeDiff, Nat.reduceLT, bxR, hr1, hr2, hf1, hf2, hc1, hc2, hk1, hk2, hb0, da0, da1, da2]
    exact ⟨by unfold headE; rw [if_pos (by omega)]; rfl, hx1⟩
  have da2 : decide (g.kinds < 0) = false := decide_eq_false ca2
  by_cases ca3 : 40 < g.kinds
  · have da3 : decide (40 < g.kinds) = true := decide_eq_true ca3
    simp (maxSteps := 4000000) (disch := first | omega | assumption | (simp only [bxS, bxV, stOk, Nat.reduceBEq, Nat.reduceEqDiff, Nat.reduceAdd]; done) | (simp only [bxU]; omega) | ((try apply has_setN); apply has_ofL; simp only [bxL]; omega)) only [↓bxD, bxP, bxQ, Nat.reduceBEq, reduceCtorEq, Nat.reduceAdd, Nat.reduceSub, Nat.reduceMul, Nat.reduceLeDiff, Nat.reduceLT, bxR, hr1, hr2, hf1, hf2, hc1, hc2, hk1, hk2, hb0, da0, da1, da2, da3]
    show Wp fns K26_1 _ _ _
    unfold K26_1
    simp (maxSteps := 4000000) (disch := first | omega | assumption | (simp only [bxS, bxV, stOk, Nat.reduceBEq, Nat.reduceEqDiff, Nat.reduceAdd]; done) | (simp only [bxU]; omega) | ((try apply has_setN); apply has_ofL; simp only [bxL]; omega)) only [↓bxD, bxP, bxQ, Nat.reduceBEq, reduceCtorEq, Nat.reduceAdd, Nat.reduceSub, Nat.reduceMul, Nat.reduceLeDiff, Nat.reduceLT, bxR, hr1, hr2, hf1, hf2, hc1, hc2, hk1, hk2, hb0, da0, da1, da2, da3]
    exact ⟨by unfold headE; rw [if_pos (by omega)]; rfl, hx1⟩
  have da3 : decide (40 < g.kinds) = false := decide_eq_false ca3
  by_cases ca4 : (60 : Int) < (g.rules.length : Int)
  · have da4 : decide ((60 : Int) < (g.rules.length : Int)) = true := decide_eq_true ca4
    simp (maxSteps := 4000000) (disch := first | omega | assumption | (simp only [bxS, bxV, stOk, Nat.reduceBEq, Nat.reduceEqDiff, Nat.reduceAdd]; done) | (simp only [bxU]; omega) | ((try apply has_setN); apply has_ofL; simp only [bxL]; omega)) only [↓bxD, bxP, bxQ, Nat.reduceBEq, reduceCtorEq, Nat.reduceAdd, Nat.reduceSub, Nat.reduceMul, Nat.reduceLeDiff, Nat.reduceLT, bxR, hr1, hr2, hf1, hf2, hc1, hc2, hk1, hk2, hb0, da0, da1, da2, da3, da4]
    show Wp fns K26_1 _ _ _
    unfold K26_1
    simp (maxSteps := 4000000) (disch := first | omega | assumption | (simp only [bxS, bxV, stOk, Nat.reduceBEq, Nat.reduceEqDiff, Nat.reduceAdd]; done) | (simp only [bxU]; omega) | ((try apply has_setN); apply has_ofL; simp only [bxL]; omega)) only [↓bxD, bxP, bxQ, Nat.reduceBEq, reduceCtorEq, Nat.reduceAdd, Nat.reduceSub, Nat.reduceMul, Nat.reduceLeDiff, Nat.reduceLT, bxR, hr1, hr2, hf1, hf2, hc1, hc2, hk1, hk2, hb0, da0, da1, da2, da3, da4]
    exact ⟨by unfold headE; rw [if_pos (by omega)]; rfl, hx1⟩
  have da4 : decide ((60 : Int) < (g.rules.length : Int)) = false := decide_eq_false ca4
  by_cases ca5 : (200 : Int) < (g.forbid.length : Int)
  · have da5 : decide ((200 : Int) < (g.forbid.length : Int)) = true := decide_eq_true ca5
    simp (maxSteps := 4000000) (disch := first | omega | assumption | (simp only [bxS, bxV, stOk, Nat.reduceBEq, Nat.reduceEqDiff, Nat.reduceAdd]; done) | (simp only [bxU]; omega) | ((try apply has_setN); apply has_ofL; simp only [bxL]; omega)) only [↓bxD, bxP, bxQ, Nat.reduceBEq, reduceCtorEq, Nat.reduceAdd, Nat.reduceSub, Nat.reduceMul, Nat.reduceLeDiff, Nat.reduceLT, bxR, hr1, hr2, hf1, hf2, hc1, hc2, hk1, hk2, hb0, da0, da1, da2, da3, da4, da5]
    show Wp fns K26_1 _ _ _
    unfold K26_1
    simp (maxSteps := 4000000) (disch := first | omega | assumption | (simp only [bxS, bxV, stOk, Nat.reduceBEq, Nat.reduceEqDiff, Nat.reduceAdd]; done) | (simp only [bxU]; omega) | ((try apply has_setN); apply has_ofL; simp only [bxL]; omega)) only [↓bxD, bxP, bxQ, Nat.reduceBEq, reduceCtorEq, Nat.reduceAdd, Nat.reduceSub, Nat.reduceMul, Nat.reduceLeDiff, Nat.reduceLT, bxR, hr1, hr2, hf1, hf2, hc1, hc2, hk1, hk2, hb0, da0, da1, da2, da3, da4, da5]
    exact ⟨by unfold headE; rw [if_pos (by omega)]; rfl, hx1⟩
  have da5 : decide ((200 : Int) < (g.forbid.length : Int)) = false := decide_eq_false ca5
  simp (maxSteps := 4000000) (disch := first | omega | assumption | (simp only [bxS, bxV, stOk, Nat.reduceBEq, Nat.reduceEqDiff, Nat.reduceAdd]; done) | (simp only [bxU]; omega) | ((try apply has_setN); apply has_ofL; simp only [bxL]; omega)) only [↓bxD, bxP, bxQ, Nat.reduceBEq, reduceCtorEq, Nat.reduceAdd, Nat.reduceSub, Nat.reduceMul, Nat.reduceLeDiff, Nat.reduceLT, bxR, hr1, hr2, hf1, hf2, hc1, hc2, hk1, hk2, hb0, da0, da1, da2, da3, da4, da5]
  show Wp fns K26_1 _ _ _
  unfold K26_1
  simp (maxSteps := 4000000) (disch := first | omega | assumption | (simp only [bxS, bxV, stOk, Nat.reduceBEq, Nat.reduceEqDiff, Nat.reduceAdd]; done) | (simp only [bxU]; omega) | ((try apply has_setN); apply has_ofL; simp only [bxL]; omega)) only [↓bxD, bxP, bxQ, Nat.reduceBEq, reduceCtorEq, Nat.reduceAdd, Nat.reduceSub, Nat.reduceMul, Nat.reduceLeDiff, Nat.reduceLT, bxR, hr1, hr2, hf1, hf2, hc1, hc2, hk1, hk2, hb0, da0, da1, da2, da3, da4, da5]
  have hh1 : ¬ (g.names < 1 ∨ 40 < g.names ∨ g.kinds < 0 ∨ 40 < g.kinds ∨ (60 : Int) < (g.rules.length : Int) ∨ (200 : Int) < (g.forbid.length : Int)) := by omega
  refine bindP_call number_any ?_
  rintro m M2 ⟨rfl, rfl⟩
  simp (maxSteps := 4000000) (disch := first | omega | assumption | (simp only [bxS, bxV, stOk, Nat.reduceBEq, Nat.reduceEqDiff, Nat.reduceAdd]; done) | (simp only [bxU]; omega) | ((try apply has_setN); apply has_ofL; simp only [bxL]; omega)) only [↓bxD, bxP, bxQ, Nat.reduceBEq, reduceCtorEq, Nat.reduceAdd, Nat.reduceSub, Nat.reduceMul, Nat.reduceLeDiff, Nat.reduceLT, bxR, hr1, hr2, hf1, hf2, hc1, hc2, hk1, hk2, hb0, da0, da1, da2, da3, da4, da5]
  cases cs : isN g.start g.names with
  | false =>
    simp (maxSteps := 4000000) (disch := first | omega | assumption | (simp only [bxS, bxV, stOk, Nat.reduceBEq, Nat.reduceEqDiff, Nat.reduceAdd]; done) | (simp only [bxU]; omega) | ((try apply has_setN); apply has_ofL; simp only [bxL]; omega)) only [↓bxD, bxP, bxQ, Nat.reduceBEq, reduceCtorEq, Nat.reduceAdd, Nat.reduceSub, Nat.reduceMul, Nat.reduceLeDiff, Nat.reduceLT, bxR, hr1, hr2, hf1, hf2, hc1, hc2, hk1, hk2, hb0, da0, da1, da2, da3, da4, da5, cs]
    unfold isN at cs
    simp only [Bool.and_eq_false_iff, decide_eq_false_iff_not] at cs
    exact ⟨by unfold headE; rw [if_neg hh1, if_pos (by omega)]; rfl, hx1⟩
  | true =>
  simp (maxSteps := 4000000) (disch := first | omega | assumption | (simp only [bxS, bxV, stOk, Nat.reduceBEq, Nat.reduceEqDiff, Nat.reduceAdd]; done) | (simp only [bxU]; omega) | ((try apply has_setN); apply has_ofL; simp only [bxL]; omega)) only [↓bxD, bxP, bxQ, Nat.reduceBEq, reduceCtorEq, Nat.reduceAdd, Nat.reduceSub, Nat.reduceMul, Nat.reduceLeDiff, Nat.reduceLT, bxR, hr1, hr2, hf1, hf2, hc1, hc2, hk1, hk2, hb0, cs]
  unfold isN at cs
  simp only [Bool.and_eq_true, decide_eq_true_eq] at cs
  refine bindP_call (areClasses_any h1.rc hw3) ?_
  rintro m M2 ⟨rfl, hx2⟩
  have hb2 := (hx2.old _ (by omega)).trans hb0
  have hn2 := hx2.n
  simp (maxSteps := 4000000) (disch := first | omega | assumption | (simp only [bxS, bxV, stOk, Nat.reduceBEq, Nat.reduceEqDiff, Nat.reduceAdd]; done) | (simp only [bxU]; omega) | ((try apply has_setN); apply has_ofL; simp only [bxL]; omega)) only [↓bxD, bxP, bxQ, Nat.reduceBEq, reduceCtorEq, Nat.reduceAdd, Nat.reduceSub, Nat.reduceMul, Nat.reduceLeDiff, Nat.reduceLT, bxR, hr1, hr2, hf1, hf2, hc1, hc2, hk1, hk2, hb2]
  have hh2 : headE g = if (g.rules.length : Int) < (g.rc.length : Int) ∨ g.kinds < (g.kc.length : Int) ∨ clsB g.rc = false ∨ clsB g.kc = false then some 1 else none := by
    unfold headE
    rw [if_neg hh1, if_neg (by omega)]
  cases e1 : (decide ((g.rc.length : Int) ≤ (g.rules.length : Int)) && clsB g.rc) with
  | false =>
    simp (maxSteps := 4000000) (disch := first | omega | assumption | (simp only [bxS, bxV, stOk, Nat.reduceBEq, Nat.reduceEqDiff, Nat.reduceAdd]; done) | (simp only [bxU]; omega) | ((try apply has_setN); apply has_ofL; simp only [bxL]; omega)) only [↓bxD, bxP, bxQ, Nat.reduceBEq, reduceCtorEq, Nat.reduceAdd, Nat.reduceSub, Nat.reduceMul, Nat.reduceLeDiff, Nat.reduceLT, bxR, hr1, hr2, hf1, hf2, hc1, hc2, hk1, hk2, hb2, e1]
    show Wp fns K26_0 _ _ _
    unfold K26_0
    simp (maxSteps := 4000000) (disch := first | omega | assumption | (simp only [bxS, bxV, stOk, Nat.reduceBEq, Nat.reduceEqDiff, Nat.reduceAdd]; done) | (simp only [bxU]; omega) | ((try apply has_setN); apply has_ofL; simp only [bxL]; omega)) only [↓bxD, bxP, bxQ, Nat.reduceBEq, reduceCtorEq, Nat.reduceAdd, Nat.reduceSub, Nat.reduceMul, Nat.reduceLeDiff, Nat.reduceLT, bxR, hr1, hr2, hf1, hf2, hc1, hc2, hk1, hk2, hb2]
    simp only [Bool.and_eq_false_iff, decide_eq_false_iff_not] at e1
    exact ⟨by rw [hh2, if_pos (by rcases e1 with e1 | e1; exact .inl (by omega); exact .inr (.inr (.inl e1)))]; rfl, hx1.trans hx2⟩
  | true =>
  simp (maxSteps := 4000000) (disch := first | omega | assumption | (simp only [bxS, bxV, stOk, Nat.reduceBEq, Nat.reduceEqDiff, Nat.reduceAdd]; done) | (simp only [bxU]; omega) | ((try apply has_setN); apply has_ofL; simp only [bxL]; omega)) only [↓bxD, bxP, bxQ, Nat.reduceBEq, reduceCtorEq, Nat.reduceAdd, Nat.reduceSub, Nat.reduceMul, Nat.reduceLeDiff, Nat.reduceLT, bxR, hr1, hr2, hf1, hf2, hc1, hc2, hk1, hk2, hb2, e1]
  refine bindP_call (areClasses_any (h1.kc.ext hx2) hw4) ?_
  rintro m M3 ⟨rfl, hx3⟩
  simp (maxSteps := 4000000) (disch := first | omega | assumption | (simp only [bxS, bxV, stOk, Nat.reduceBEq, Nat.reduceEqDiff, Nat.reduceAdd]; done) | (simp only [bxU]; omega) | ((try apply has_setN); apply has_ofL; simp only [bxL]; omega)) only [↓bxD, bxP, bxQ, Nat.reduceBEq, reduceCtorEq, Nat.reduceAdd, Nat.reduceSub, Nat.reduceMul, Nat.reduceLeDiff, Nat.reduceLT, bxR, hr1, hr2, hf1, hf2, hc1, hc2, hk1, hk2, hb2]
  simp only [Bool.and_eq_true, decide_eq_true_eq] at e1
  cases e2 : (decide ((g.kc.length : Int) ≤ g.kinds) && clsB g.kc) with
  | false =>
    simp (maxSteps := 4000000) (disch := first | omega | assumption | (simp only [bxS, bxV, stOk, Nat.reduceBEq, Nat.reduceEqDiff, Nat.reduceAdd]; done) | (simp only [bxU]; omega) | ((try apply has_setN); apply has_ofL; simp only [bxL]; omega)) only [↓bxD, bxP, bxQ, Nat.reduceBEq, reduceCtorEq, Nat.reduceAdd, Nat.reduceSub, Nat.reduceMul, Nat.reduceLeDiff, Nat.reduceLT, bxR, hr1, hr2, hf1, hf2, hc1, hc2, hk1, hk2, hb2, e2]
    show Wp fns K26_0 _ _ _
    unfold K26_0
    simp (maxSteps := 4000000) (disch := first | omega | assumption | (simp only [bxS, bxV, stOk, Nat.reduceBEq, Nat.reduceEqDiff, Nat.reduceAdd]; done) | (simp only [bxU]; omega) | ((try apply has_setN); apply has_ofL; simp only [bxL]; omega)) only [↓bxD, bxP, bxQ, Nat.reduceBEq, reduceCtorEq, Nat.reduceAdd, Nat.reduceSub, Nat.reduceMul, Nat.reduceLeDiff, Nat.reduceLT, bxR, hr1, hr2, hf1, hf2, hc1, hc2, hk1, hk2, hb2]
    simp only [Bool.and_eq_false_iff, decide_eq_false_iff_not] at e2
    exact ⟨by rw [hh2, if_pos (by rcases e2 with e2 | e2; exact .inr (.inl (by omega)); exact .inr (.inr (.inr e2)))]; rfl, (hx1.trans hx2).trans hx3⟩
  | true =>
  simp (maxSteps := 4000000) (disch := first | omega | assumption | (simp only [bxS, bxV, stOk, Nat.reduceBEq, Nat.reduceEqDiff, Nat.reduceAdd]; done) | (simp only [bxU]; omega) | ((try apply has_setN); apply has_ofL; simp only [bxL]; omega)) only [↓bxD, bxP, bxQ, Nat.reduceBEq, reduceCtorEq, Nat.reduceAdd, Nat.reduceSub, Nat.reduceMul, Nat.reduceLeDiff, Nat.reduceLT, bxR, hr1, hr2, hf1, hf2, hc1, hc2, hk1, hk2, hb2, e2]
  show Wp fns K26_0 _ _ _
  unfold K26_0
  simp (maxSteps := 4000000) (disch := first | omega | assumption | (simp only [bxS, bxV, stOk, Nat.reduceBEq, Nat.reduceEqDiff, Nat.reduceAdd]; done) | (simp only [bxU]; omega) | ((try apply has_setN); apply has_ofL; simp only [bxL]; omega)) only [↓bxD, bxP, bxQ, Nat.reduceBEq, reduceCtorEq, Nat.reduceAdd, Nat.reduceSub, Nat.reduceMul, Nat.reduceLeDiff, Nat.reduceLT, bxR, hr1, hr2, hf1, hf2, hc1, hc2, hk1, hk2, hb2]
  show Wp fns K26_2 _ _ _
  unfold K26_2
  simp (maxSteps := 4000000) (disch := first | omega | assumption | (simp only [bxS, bxV, stOk, Nat.reduceBEq, Nat.reduceEqDiff, Nat.reduceAdd]; done) | (simp only [bxU]; omega) | ((try apply has_setN); apply has_ofL; simp only [bxL]; omega)) only [↓bxD, bxP, bxQ, Nat.reduceBEq, reduceCtorEq, Nat.reduceAdd, Nat.reduceSub, Nat.reduceMul, Nat.reduceLeDiff, Nat.reduceLT, bxR, hr1, hr2, hf1, hf2, hc1, hc2, hk1, hk2, hb2]
  simp only [Bool.and_eq_true, decide_eq_true_eq] at e2
  refine ⟨?_, (hx1.trans hx2).trans hx3⟩
  rw [hh2, if_neg]
  · rfl
  · rintro (x | x | x | x)
    · omega
    · omega
    · rw [e1.2] at x; cases x
    · rw [e2.2] at x; cases x
theorem pform_forb {M0 M : MH} {g : Gr} {vr vf vc vk : MV} {es : List (List MV)} {f : Fr} (h : Rdy M0 M g vr vf vc vk es f) (hh : headE g = none) (hr : findE (ruleE g) g.rules 0 = none) : Wp fns K23_7 f M (retQ F23 (FormPost g M0)) := by
  have hq := h.fr
  have hbox := h.box
  obtain ⟨hf1, hf2⟩ := h.gr.forbid.sl
  rw [List.length_map] at hf2
  simp only [q1] at hq
  unfold gcs at hbox
  unfold K23_7
  simp (maxSteps := 4000000) (disch := first | omega | assumption | (simp only [bxS, bxV, stOk, Nat.reduceBEq, Nat.reduceEqDiff, Nat.reduceAdd]; done) | (simp only [bxU]; omega) | ((try apply has_setN); apply has_ofL; simp only [bxL]; omega)) only [↓bxD, bxP, bxQ, Nat.reduceBEq, reduceCtorEq, Nat.reduceAdd, Nat.reduceSub, Nat.reduceMul, Nat.reduceLeDiff, Nat.reduceLT, bxR, hq, hbox, hf1, hf2]
  refine Wp_inv (σ := Nat) (fun i f M' => Rdy M0 M' g vr vf vc vk es f ∧ i ≤ g.forbid.length ∧ X.ev f (.t q32) = vf ∧ X.ev f (.t q33) = .i .i64 (g.forbid.length : Int) ∧ X.ev f (.t q34) = .i .i64 (i : Int) ∧ (g.forbid.take i).any (badF g) = false) (fun i => g.forbid.length - i) ?_ 0 ?_
  · rintro i f M' ⟨h, hi, h32, h33, h34, hp⟩
    have hq := h.fr
    have hlo := h.lo0
    have hn := h.ext.n
    have hl := h.ext.lo
    have hlt := h.lt
    have hbox := h.box
    obtain ⟨hw1, hw2, _, _⟩ := h.gr.wf.lens
    simp only [q1, q32, q33, q34] at hq h32 h33 h34
    unfold gcs at hbox
    unfold L23_5
    simp (maxSteps := 4000000) (disch := first | omega | assumption | (simp only [bxS, bxV, stOk, Nat.reduceBEq, Nat.reduceEqDiff, Nat.reduceAdd]; done) | (simp only [bxU]; omega) | ((try apply has_setN); apply has_ofL; simp only [bxL]; omega)) only [↓bxD, bxP, bxQ, Nat.reduceBEq, reduceCtorEq, Nat.reduceAdd, Nat.reduceSub, Nat.reduceMul, Nat.reduceLeDiff, Nat.reduceLT, bxR, hq, h32, h33, h34, hf1, hf2]
    refine condP_split (fun hlt2 => ?_) (fun hge => ?_)
    · have hi' : i < g.forbid.length := by omega
      obtain ⟨x, hz⟩ : ∃ x, g.forbid[i]? = some x := ⟨_, List.getElem?_eq_getElem hi'⟩
      obtain ⟨x0, x1, x2⟩ := x
      obtain ⟨ro, s, t, hg, hid, hat⟩ := h.gr.forbid.read (i := i) (e := trip (x0, x1, x2)) (by rw [List.getElem?_map, hz]; rfl)
      have hN : Ev.getN t 3 (soff vf + i * 3) = some (trip (x0, x1, x2)) := hat.getN
      unfold trip at hN
      have hany : g.forbid.any (badF g) = ((g.forbid.take (i + 1)).any (badF g) || (g.forbid.drop (i + 1)).any (badF g)) := by rw [← List.any_append, List.take_append_drop]
      have htk : (g.forbid.take (i + 1)).any (badF g) = badF g (x0, x1, x2) := by rw [List.take_add_one, hz, List.any_append, hp]; simp
      have hbad : badF g (x0, x1, x2) = true → formP g = (-1, 6) := fun e => by unfold formP; rw [hh, hr]; simp only; rw [if_pos (by rw [hany, htk, e]; rfl)]
      have hG : Ev.getN (ofL [MV.i IntKind.i64 g.names, MV.i IntKind.i64 g.kinds, MV.i IntKind.i64 g.start, vr, vf, vc, vk] 0) 7 0 = some (gcs g vr vf vc vk) := (at_ofL (gcs g vr vf vc vk)).getN
      simp (maxSteps := 4000000) (disch := first | omega | assumption | (simp only [bxS, bxV, stOk, Nat.reduceBEq, Nat.reduceEqDiff, Nat.reduceAdd]; done) | (simp only [bxU]; omega) | ((try apply has_setN); apply has_ofL; simp only [bxL]; omega)) only [↓bxD, bxP, bxQ, Nat.reduceBEq, reduceCtorEq, Nat.reduceAdd, Nat.reduceSub, Nat.reduceMul, Nat.reduceLeDiff, Nat.reduceLT, bxR, hq, h32, h33, h34, hf1, hf2, hg, hN, hG]
      show Wp fns K23_4 _ _ _
      unfold K23_4
      simp (maxSteps := 4000000) (disch := first | omega | assumption | (simp only [bxS, bxV, stOk, Nat.reduceBEq, Nat.reduceEqDiff, Nat.reduceAdd]; done) | (simp only [bxU]; omega) | ((try apply has_setN); apply has_ofL; simp only [bxL]; omega)) only [↓bxD, bxP, bxQ, Nat.reduceBEq, reduceCtorEq, Nat.reduceAdd, Nat.reduceSub, Nat.reduceMul, Nat.reduceLeDiff, Nat.reduceLT, bxR, hq, h32, h33, h34, hf1, hf2, hg, hN, hG]
      generalize hM2 : (M'.push _).set M'.n _ = M2
      have hx2 : Ext M' M2 := by rw [← hM2]; exact (Ext.push M' _).set _ (Nat.le_refl _)
      have hn2 := hx2.n
      have hl2 := hx2.lo
      have h9 : M2.get M'.n = some (.cs false 3 (setN [.i .i64 x0, .i .i64 x1, .i .i64 x2] 0 (ofL [.i .i64 0, .i .i64 0, .i .i64 0] 0))) := by rw [← hM2, set_same]
      have hbox2 := (hx2.old _ hlt).trans hbox
      have hgr := h.gr.ext hx2
      clear hM2
      have hxx := h.ext.trans hx2
      simp (maxSteps := 4000000) (disch := first | omega | assumption | (simp only [bxS, bxV, stOk, Nat.reduceBEq, Nat.reduceEqDiff, Nat.reduceAdd]; done) | (simp only [bxU]; omega) | ((try apply has_setN); apply has_ofL; simp only [bxL]; omega)) only [↓bxD, bxP, bxQ, Nat.reduceBEq, reduceCtorEq, Nat.reduceAdd, Nat.reduceSub, Nat.reduceMul, Nat.reduceLeDiff, Nat.reduceLT, bxR, hq, h32, h33, h34, hf1, hf2, hG, hbox, hbox2, h9]
      refine bindP_call (canForbid_any hgr (by omega)) ?_
      rintro m M3 ⟨rfl, hx3⟩
      simp (maxSteps := 4000000) (disch := first | omega | assumption | (simp only [bxS, bxV, stOk, Nat.reduceBEq, Nat.reduceEqDiff, Nat.reduceAdd]; done) | (simp only [bxU]; omega) | ((try apply has_setN); apply has_ofL; simp only [bxL]; omega)) only [↓bxD, bxP, bxQ, Nat.reduceBEq, reduceCtorEq, Nat.reduceAdd, Nat.reduceSub, Nat.reduceMul, Nat.reduceLeDiff, Nat.reduceLT, bxR, hq, h32, h33, h34, hf1, hf2, hG, hbox, hbox2, h9]
      cases hb : badF g (x0, x1, x2) with
      | true =>
        simp (maxSteps := 4000000) (disch := first | omega | assumption | (simp only [bxS, bxV, stOk, Nat.reduceBEq, Nat.reduceEqDiff, Nat.reduceAdd]; done) | (simp only [bxU]; omega) | ((try apply has_setN); apply has_ofL; simp only [bxL]; omega)) only [↓bxD, bxP, bxQ, Nat.reduceBEq, reduceCtorEq, Nat.reduceAdd, Nat.reduceSub, Nat.reduceMul, Nat.reduceLeDiff, Nat.reduceLT, bxR, hq, h32, h33, h34, hf1, hf2, hG, hbox, hbox2, h9, hb]
        have e : formP g = (-1, 6) := hbad hb
        unfold FormPost
        rw [e]
        exact ⟨rfl, hxx.trans hx3⟩
      | false =>
        simp (maxSteps := 4000000) (disch := first | omega | assumption | (simp only [bxS, bxV, stOk, Nat.reduceBEq, Nat.reduceEqDiff, Nat.reduceAdd]; done) | (simp only [bxU]; omega) | ((try apply has_setN); apply has_ofL; simp only [bxL]; omega)) only [↓bxD, bxP, bxQ, Nat.reduceBEq, reduceCtorEq, Nat.reduceAdd, Nat.reduceSub, Nat.reduceMul, Nat.reduceLeDiff, Nat.reduceLT, bxR, hq, h32, h33, h34, hf1, hf2, hG, hbox, hbox2, h9, hb]
        show Wp fns K23_3 _ _ _
        unfold K23_3
        simp (maxSteps := 4000000) (disch := first | omega | assumption | (simp only [bxS, bxV, stOk, Nat.reduceBEq, Nat.reduceEqDiff, Nat.reduceAdd]; done) | (simp only [bxU]; omega) | ((try apply has_setN); apply has_ofL; simp only [bxL]; omega)) only [↓bxD, bxP, bxQ, Nat.reduceBEq, reduceCtorEq, Nat.reduceAdd, Nat.reduceSub, Nat.reduceMul, Nat.reduceLeDiff, Nat.reduceLT, bxR, hq, h32, h33, h34, hf1, hf2, hG, hbox, hbox2, h9]
        have hn3 := hx3.n
        refine ⟨i + 1, by omega, ⟨hgr.ext hx3, hxx.trans hx3, h.lo0, by omega, (hx3.old _ (by omega)).trans hbox2, by simp only [bxP, bxQ, reduceCtorEq, hq, h32, h33, h34, hf1, hf2, hG, hbox, hbox2, h9]⟩, by omega, rfl, by rw [htk, hb]⟩
    · have hi' : i = g.forbid.length := by omega
      subst hi'
      rw [List.take_length] at hp
      simp (maxSteps := 4000000) (disch := first | omega | assumption | (simp only [bxS, bxV, stOk, Nat.reduceBEq, Nat.reduceEqDiff, Nat.reduceAdd]; done) | (simp only [bxU]; omega) | ((try apply has_setN); apply has_ofL; simp only [bxL]; omega)) only [↓bxD, bxP, bxQ, Nat.reduceBEq, reduceCtorEq, Nat.reduceAdd, Nat.reduceSub, Nat.reduceMul, Nat.reduceLeDiff, Nat.reduceLT, bxR, hq, h32, h33, h34, hf1, hf2]
      show Wp fns K23_6 _ _ _
      unfold K23_6
      simp (maxSteps := 4000000) (disch := first | omega | assumption | (simp only [bxS, bxV, stOk, Nat.reduceBEq, Nat.reduceEqDiff, Nat.reduceAdd]; done) | (simp only [bxU]; omega) | ((try apply has_setN); apply has_ofL; simp only [bxL]; omega)) only [↓bxD, bxP, bxQ, Nat.reduceBEq, reduceCtorEq, Nat.reduceAdd, Nat.reduceSub, Nat.reduceMul, Nat.reduceLeDiff, Nat.reduceLT, bxR, hq, h32, h33, h34, hf1, hf2]
      have e : formP g = (-1, 0) := by unfold formP; rw [hh, hr]; simp only; rw [if_neg (by rw [hp]; simp)]
      unfold FormPost
      rw [e]
      exact ⟨rfl, h.ext⟩
  · exact ⟨⟨h.gr, h.ext, h.lo0, h.lt, h.box, by simp only [bxP, bxQ, reduceCtorEq, hq, hbox, hf1, hf2]⟩, Nat.zero_le _, by simp only [bxP, bxQ, reduceCtorEq, hq, hbox, hf1, hf2], by simp only [bxP, bxQ, reduceCtorEq, hq, hbox, hf1, hf2], by simp only [bxP, bxQ, reduceCtorEq, hq, hbox, hf1, hf2] <;> rfl, rfl⟩
theorem pform_rules {M0 M : MH} {g : Gr} {vr vf vc vk : MV} {es : List (List MV)} {f : Fr} (h : Rdy M0 M g vr vf vc vk es f) (hh : headE g = none) : Wp fns K23_8 f M (retQ F23 (FormPost g M0)) := by
  have hq := h.fr
  have hbox := h.box
  obtain ⟨hr1, hr2⟩ := h.gr.rules.row.sl
  rw [h.gr.rules.len] at hr2
  simp only [q1] at hq
  unfold gcs at hbox
  unfold K23_8
  simp (maxSteps := 4000000) (disch := first | omega | assumption | (simp only [bxS, bxV, stOk, Nat.reduceBEq, Nat.reduceEqDiff, Nat.reduceAdd]; done) | (simp only [bxU]; omega) | ((try apply has_setN); apply has_ofL; simp only [bxL]; omega)) only [↓bxD, bxP, bxQ, Nat.reduceBEq, reduceCtorEq, Nat.reduceAdd, Nat.reduceSub, Nat.reduceMul, Nat.reduceLeDiff, Nat.reduceLT, bxR, hq, hbox, hr1, hr2]
  refine Wp_inv (σ := Nat) (fun i f M' => Rdy M0 M' g vr vf vc vk es f ∧ i ≤ g.rules.length ∧ X.ev f (.t q16) = vr ∧ X.ev f (.t q17) = .i .i64 (g.rules.length : Int) ∧ X.ev f (.t q18) = .i .i64 (i : Int) ∧ findE (ruleE g) g.rules 0 = findE (ruleE g) (g.rules.drop i) i) (fun i => g.rules.length - i) ?_ 0 ?_
  · rintro i f M' ⟨h, hi, h16, h17, h18, hp⟩
    have hq := h.fr
    have hlo := h.lo0
    have hn := h.ext.n
    have hl := h.ext.lo
    have hlt := h.lt
    have hbox := h.box
    obtain ⟨hw1, hw2, _, _⟩ := h.gr.wf.lens
    simp only [q1, q16, q17, q18] at hq h16 h17 h18
    unfold gcs at hbox
    unfold L23_2
    simp (maxSteps := 4000000) (disch := first | omega | assumption | (simp only [bxS, bxV, stOk, Nat.reduceBEq, Nat.reduceEqDiff, Nat.reduceAdd]; done) | (simp only [bxU]; omega) | ((try apply has_setN); apply has_ofL; simp only [bxL]; omega)) only [↓bxD, bxP, bxQ, Nat.reduceBEq, reduceCtorEq, Nat.reduceAdd, Nat.reduceSub, Nat.reduceMul, Nat.reduceLeDiff, Nat.reduceLT, bxR, hq, h16, h17, h18, hr1, hr2]
    refine condP_split (fun hlt2 => ?_) (fun hge => ?_)
    · have hi' : i < g.rules.length := by omega
      obtain ⟨x, hz⟩ : ∃ x, g.rules[i]? = some x := ⟨_, List.getElem?_eq_getElem hi'⟩
      obtain ⟨a0, ar, a2⟩ := x
      obtain ⟨ua, hua, hura⟩ : ∃ u1, es[i]? = some [.i .i64 a0, u1, .i .i64 a2] ∧ IntRow _ u1 ar := h.gr.rules.get hz
      obtain ⟨hsu1, hsu2⟩ := hura.sl
      obtain ⟨ro, s, t, hg, hid, hat⟩ := h.gr.rules.row.read hua
      have hN : Ev.getN t 3 (soff vr + i * 3) = some [.i .i64 a0, ua, .i .i64 a2] := hat.getN
      have hone : MV.one ua = true := isSl_one hsu1
      have hwr := h.gr.wf.rules _ (List.mem_of_getElem? hz)
      have hdrop := findE_drop (f := ruleE g) hz
      have hG : Ev.getN (ofL [MV.i IntKind.i64 g.names, MV.i IntKind.i64 g.kinds, MV.i IntKind.i64 g.start, vr, vf, vc, vk] 0) 7 0 = some (gcs g vr vf vc vk) := (at_ofL (gcs g vr vf vc vk)).getN
      have hst : stOk 3 (.ag [.i .i64 a0, ua, .i .i64 a2]) = true := by cases ua <;> first | rfl | cases hsu1
      simp (maxSteps := 4000000) (disch := first | omega | assumption | (simp only [bxS, bxV, stOk, Nat.reduceBEq, Nat.reduceEqDiff, Nat.reduceAdd]; done) | (simp only [bxU]; omega) | ((try apply has_setN); apply has_ofL; simp only [bxL]; omega)) only [↓bxD, bxP, bxQ, Nat.reduceBEq, reduceCtorEq, Nat.reduceAdd, Nat.reduceSub, Nat.reduceMul, Nat.reduceLeDiff, Nat.reduceLT, bxR, hq, h16, h17, h18, hr1, hr2, hg, hN, hG]
      show Wp fns K23_1 _ _ _
      unfold K23_1
      simp (maxSteps := 4000000) (disch := first | omega | assumption | (simp only [bxS, bxV, stOk, Nat.reduceBEq, Nat.reduceEqDiff, Nat.reduceAdd]; done) | (simp only [bxU]; omega) | ((try apply has_setN); apply has_ofL; simp only [bxL]; omega)) only [↓bxD, bxP, bxQ, Nat.reduceBEq, reduceCtorEq, Nat.reduceAdd, Nat.reduceSub, Nat.reduceMul, Nat.reduceLeDiff, Nat.reduceLT, bxR, hq, h16, h17, h18, hr1, hr2, hg, hN, hG]
      generalize hM2 : (M'.push _).set M'.n _ = M2
      have hx2 : Ext M' M2 := by rw [← hM2]; exact (Ext.push M' _).set _ (Nat.le_refl _)
      have hn2 := hx2.n
      have hl2 := hx2.lo
      have h9 : M2.get M'.n = some (.cs false 3 (setN [.i .i64 a0, ua, .i .i64 a2] 0 (ofL [.i .i64 0, .nils, .i .i64 0] 0))) := by rw [← hM2, set_same]
      have hbox2 := (hx2.old _ hlt).trans hbox
      have hgr := h.gr.ext hx2
      clear hM2
      have hxx := h.ext.trans hx2
      simp (maxSteps := 4000000) (disch := first | omega | assumption | (simp only [bxS, bxV, stOk, Nat.reduceBEq, Nat.reduceEqDiff, Nat.reduceAdd]; done) | (simp only [bxU]; omega) | ((try apply has_setN); apply has_ofL; simp only [bxL]; omega)) only [↓bxD, bxP, bxQ, Nat.reduceBEq, reduceCtorEq, Nat.reduceAdd, Nat.reduceSub, Nat.reduceMul, Nat.reduceLeDiff, Nat.reduceLT, bxR, hq, h16, h17, h18, hr1, hr2, hG, hbox, hbox2, h9]
      refine bindP_call (ruleError_any (by omega) (hura.ext hx2) hwr.2.1 hwr.2.2.2) ?_
      rintro m M3 ⟨rfl, hx3⟩
      simp (maxSteps := 4000000) (disch := first | omega | assumption | (simp only [bxS, bxV, stOk, Nat.reduceBEq, Nat.reduceEqDiff, Nat.reduceAdd]; done) | (simp only [bxU]; omega) | ((try apply has_setN); apply has_ofL; simp only [bxL]; omega)) only [↓bxD, bxP, bxQ, Nat.reduceBEq, reduceCtorEq, Nat.reduceAdd, Nat.reduceSub, Nat.reduceMul, Nat.reduceLeDiff, Nat.reduceLT, bxR, hq, h16, h17, h18, hr1, hr2, hG, hbox, hbox2, h9]
      cases hb : ruleE g (a0, ar, a2) with
      | some e =>
        have e0' : e ≠ 0 := by
          unfold ruleE at hb
          split at hb
          · cases hb; decide
          · split at hb
            · cases hb; decide
            · split at hb
              · cases hb; decide
              · cases hb
        rw [hb] at hdrop
        simp (maxSteps := 4000000) (disch := first | omega | assumption | (simp only [bxS, bxV, stOk, Nat.reduceBEq, Nat.reduceEqDiff, Nat.reduceAdd]; done) | (simp only [bxU]; omega) | ((try apply has_setN); apply has_ofL; simp only [bxL]; omega)) only [↓bxD, bxP, bxQ, Nat.reduceBEq, reduceCtorEq, Nat.reduceAdd, Nat.reduceSub, Nat.reduceMul, Nat.reduceLeDiff, Nat.reduceLT, bxR, hq, h16, h17, h18, hr1, hr2, hG, hbox, hbox2, h9, hb, numE]
        refine condP_split (fun _ => ?_) (fun hc => (hc e0').elim)
        simp (maxSteps := 4000000) (disch := first | omega | assumption | (simp only [bxS, bxV, stOk, Nat.reduceBEq, Nat.reduceEqDiff, Nat.reduceAdd]; done) | (simp only [bxU]; omega) | ((try apply has_setN); apply has_ofL; simp only [bxL]; omega)) only [↓bxD, bxP, bxQ, Nat.reduceBEq, reduceCtorEq, Nat.reduceAdd, Nat.reduceSub, Nat.reduceMul, Nat.reduceLeDiff, Nat.reduceLT, bxR, hq, h16, h17, h18, hr1, hr2, hG, hbox, hbox2, h9]
        have e : formP g = ((i : Int), e) := by unfold formP; rw [hh, hp, hdrop]
        unfold FormPost
        rw [e]
        exact ⟨rfl, hxx.trans hx3⟩
      | none =>
        rw [hb] at hdrop
        simp (maxSteps := 4000000) (disch := first | omega | assumption | (simp only [bxS, bxV, stOk, Nat.reduceBEq, Nat.reduceEqDiff, Nat.reduceAdd]; done) | (simp only [bxU]; omega) | ((try apply has_setN); apply has_ofL; simp only [bxL]; omega)) only [↓bxD, bxP, bxQ, Nat.reduceBEq, reduceCtorEq, Nat.reduceAdd, Nat.reduceSub, Nat.reduceMul, Nat.reduceLeDiff, Nat.reduceLT, bxR, hq, h16, h17, h18, hr1, hr2, hG, hbox, hbox2, h9, hb, numE]
        refine condP_split (fun hc => (hc rfl).elim) (fun _ => ?_)
        simp (maxSteps := 4000000) (disch := first | omega | assumption | (simp only [bxS, bxV, stOk, Nat.reduceBEq, Nat.reduceEqDiff, Nat.reduceAdd]; done) | (simp only [bxU]; omega) | ((try apply has_setN); apply has_ofL; simp only [bxL]; omega)) only [↓bxD, bxP, bxQ, Nat.reduceBEq, reduceCtorEq, Nat.reduceAdd, Nat.reduceSub, Nat.reduceMul, Nat.reduceLeDiff, Nat.reduceLT, bxR, hq, h16, h17, h18, hr1, hr2, hG, hbox, hbox2, h9]
        show Wp fns K23_0 _ _ _
        unfold K23_0
        simp (maxSteps := 4000000) (disch := first | omega | assumption | (simp only [bxS, bxV, stOk, Nat.reduceBEq, Nat.reduceEqDiff, Nat.reduceAdd]; done) | (simp only [bxU]; omega) | ((try apply has_setN); apply has_ofL; simp only [bxL]; omega)) only [↓bxD, bxP, bxQ, Nat.reduceBEq, reduceCtorEq, Nat.reduceAdd, Nat.reduceSub, Nat.reduceMul, Nat.reduceLeDiff, Nat.reduceLT, bxR, hq, h16, h17, h18, hr1, hr2, hG, hbox, hbox2, h9]
        have hn3 := hx3.n
        refine ⟨i + 1, by omega, ⟨hgr.ext hx3, hxx.trans hx3, h.lo0, by omega, (hx3.old _ (by omega)).trans hbox2, by simp only [bxP, bxQ, reduceCtorEq, hq, h16, h17, h18, hr1, hr2, hG, hbox, hbox2, h9]⟩, by omega, rfl, hp.trans hdrop⟩
    · have hi' : i = g.rules.length := by omega
      subst hi'
      simp (maxSteps := 4000000) (disch := first | omega | assumption | (simp only [bxS, bxV, stOk, Nat.reduceBEq, Nat.reduceEqDiff, Nat.reduceAdd]; done) | (simp only [bxU]; omega) | ((try apply has_setN); apply has_ofL; simp only [bxL]; omega)) only [↓bxD, bxP, bxQ, Nat.reduceBEq, reduceCtorEq, Nat.reduceAdd, Nat.reduceSub, Nat.reduceMul, Nat.reduceLeDiff, Nat.reduceLT, bxR, hq, h16, h17, h18, hr1, hr2]
      show Wp fns K23_7 _ _ _
      exact pform_forb ⟨h.gr, h.ext, h.lo0, h.lt, h.box, by simp only [bxP, bxQ, reduceCtorEq, hq, h16, h17, h18, hr1, hr2]⟩ hh (by rw [hp, List.drop_length]; rfl)
  · exact ⟨⟨h.gr, h.ext, h.lo0, h.lt, h.box, by simp only [bxP, bxQ, reduceCtorEq, hq, hbox, hr1, hr2]⟩, Nat.zero_le _, by simp only [bxP, bxQ, reduceCtorEq, hq, hbox, hr1, hr2], by simp only [bxP, bxQ, reduceCtorEq, hq, hbox, hr1, hr2], by simp only [bxP, bxQ, reduceCtorEq, hq, hbox, hr1, hr2] <;> rfl, rfl⟩
theorem prog_form {M : MH} {g : Gr} {vr vf vc vk : MV} {es : List (List MV)} (h : GrAt M vr vf vc vk es g) (hlo : M.lo ≤ M.n) : Cp fns 23 [.ag (gcs g vr vf vc vk)] M fun m M' => m = .tp [.i .i64 (formP g).1, .i .i64 (formP g).2] ∧ Ext M M' := by
  have hG : ∀ l, l = gcs g vr vf vc vk → Ev.getN (ofL l 0) 7 0 = some (gcs g vr vf vc vk) := fun l e => by subst e; exact (at_ofL (gcs g vr vf vc vk)).getN
  have hG := hG [MV.i IntKind.i64 g.names, MV.i IntKind.i64 g.kinds, MV.i IntKind.i64 g.start, vr, vf, vc, vk] rfl
  refine Cp_call (fn := F23) (by kernel_rfl) (Nat.le_of_ble_eq_true rfl) ?_
  show Wp fns B23 (T.set q0 (some (.ag (gcs g vr vf vc vk))) T.lf) M _
  unfold B23
  rw [show gcs g vr vf vc vk = [MV.i IntKind.i64 g.names, MV.i IntKind.i64 g.kinds, MV.i IntKind.i64 g.start, vr, vf, vc, vk] from rfl]
  simp (maxSteps := 4000000) (disch := first | omega | assumption | (simp only [bxS, bxV, stOk, Nat.reduceBEq, Nat.reduceEqDiff, Nat.reduceAdd]; done) | (simp only [bxU]; omega) | ((try apply has_setN); apply has_ofL; simp only [bxL]; omega)) only [↓bxD, bxP, bxQ, Nat.reduceBEq, reduceCtorEq, Nat.reduceAdd, Nat.reduceSub, Nat.reduceMul, Nat.reduceLeDiff, Nat.reduceLT, bxR]
  generalize hM1 : M.push _ = M1
  have hb0 : M1.get M.n = some (.cs false 7 (ofL [MV.i IntKind.i64 g.names, MV.i IntKind.i64 g.kinds, MV.i IntKind.i64 g.start, vr, vf, vc, vk] 0)) := by rw [← hM1]; exact push_new _
  have hx1 : Ext M M1 := by rw [← hM1]; exact .push M _
  have hn1 : M1.n = M.n + 1 := by rw [← hM1]; rfl
  have hl1 := hx1.lo
  clear hM1
  have h1 := h.ext hx1
  simp (maxSteps := 4000000) (disch := first | omega | assumption | (simp only [bxS, bxV, stOk, Nat.reduceBEq, Nat.reduceEqDiff, Nat.reduceAdd]; done) | (simp only [bxU]; omega) | ((try apply has_setN); apply has_ofL; simp only [bxL]; omega)) only [↓bxD, bxP, bxQ, Nat.reduceBEq, reduceCtorEq, Nat.reduceAdd, Nat.reduceSub, Nat.reduceMul, Nat.reduceLeDiff, Nat.reduceLT, bxR, hb0, hG]
  refine bindP_call (wholeError_any h1 (by omega)) ?_
  rintro m M2 ⟨rfl, hx2⟩
  simp (maxSteps := 4000000) (disch := first | omega | assumption | (simp only [bxS, bxV, stOk, Nat.reduceBEq, Nat.reduceEqDiff, Nat.reduceAdd]; done) | (simp only [bxU]; omega) | ((try apply has_setN); apply has_ofL; simp only [bxL]; omega)) only [↓bxD, bxP, bxQ, Nat.reduceBEq, reduceCtorEq, Nat.reduceAdd, Nat.reduceSub, Nat.reduceMul, Nat.reduceLeDiff, Nat.reduceLT, bxR, hb0, hG]
  have hn2 := hx2.n
  have hb2 := (hx2.old _ (by omega)).trans hb0
  cases hb : headE g with
  | some e =>
    have e0' : e ≠ 0 := by
      unfold headE at hb
      split at hb
      · cases hb; decide
      · split at hb
        · cases hb; decide
        · split at hb
          · cases hb; decide
          · cases hb
    simp (maxSteps := 4000000) (disch := first | omega | assumption | (simp only [bxS, bxV, stOk, Nat.reduceBEq, Nat.reduceEqDiff, Nat.reduceAdd]; done) | (simp only [bxU]; omega) | ((try apply has_setN); apply has_ofL; simp only [bxL]; omega)) only [↓bxD, bxP, bxQ, Nat.reduceBEq, reduceCtorEq, Nat.reduceAdd, Nat.reduceSub, Nat.reduceMul, Nat.reduceLeDiff, Nat.reduceLT, bxR, hb0, hG, hb, numE]
    refine condP_split (fun _ => ?_) (fun hc => (hc e0').elim)
    simp (maxSteps := 4000000) (disch := first | omega | assumption | (simp only [bxS, bxV, stOk, Nat.reduceBEq, Nat.reduceEqDiff, Nat.reduceAdd]; done) | (simp only [bxU]; omega) | ((try apply has_setN); apply has_ofL; simp only [bxL]; omega)) only [↓bxD, bxP, bxQ, Nat.reduceBEq, reduceCtorEq, Nat.reduceAdd, Nat.reduceSub, Nat.reduceMul, Nat.reduceLeDiff, Nat.reduceLT, bxR, hb0, hG]
    have e : formP g = (-1, e) := by unfold formP; rw [hb]
    rw [e]
    exact ⟨rfl, hx1.trans hx2⟩
  | none =>
    simp (maxSteps := 4000000) (disch := first | omega | assumption | (simp only [bxS, bxV, stOk, Nat.reduceBEq, Nat.reduceEqDiff, Nat.reduceAdd]; done) | (simp only [bxU]; omega) | ((try apply has_setN); apply has_ofL; simp only [bxL]; omega)) only [↓bxD, bxP, bxQ, Nat.reduceBEq, reduceCtorEq, Nat.reduceAdd, Nat.reduceSub, Nat.reduceMul, Nat.reduceLeDiff, Nat.reduceLT, bxR, hb0, hG, hb, numE]
    refine condP_split (fun hc => (hc rfl).elim) (fun _ => ?_)
    simp (maxSteps := 4000000) (disch := first | omega | assumption | (simp only [bxS, bxV, stOk, Nat.reduceBEq, Nat.reduceEqDiff, Nat.reduceAdd]; done) | (simp only [bxU]; omega) | ((try apply has_setN); apply has_ofL; simp only [bxL]; omega)) only [↓bxD, bxP, bxQ, Nat.reduceBEq, reduceCtorEq, Nat.reduceAdd, Nat.reduceSub, Nat.reduceMul, Nat.reduceLeDiff, Nat.reduceLT, bxR, hb0, hG]
    show Wp fns K23_8 _ _ _
    exact pform_rules ⟨h1.ext hx2, hx1.trans hx2, hlo, by omega, hb2, by simp only [bxP, bxQ, reduceCtorEq, hb0, hG]⟩ hb
structure ISt (M0 M : MH) (g : Gr) (vr vf vc vk : MV) (es : List (List MV)) (id : Nat) (l : List Int) (f : Fr) : Prop where
  gr : GrAt M0 vr vf vc vk es g
  ok : GrOk g
  ext : Ext M0 M
  lo0 : M0.lo ≤ M0.n
  b0 : M.get M0.n = some (.cs false 7 (ofL (gcs g vr vf vc vk) 0))
  id1 : M0.n < id
  id2 : id < M.n
  row : IntsAt M id l
  inn : ShIn g l
  q1 : X.ev f (.t q1) = .p M0.n 0
  q3 : X.ev f (.t q3) = .sl id 0 l.length 0
theorem shRnd_take {rs : List (Int × List Int × Int)} {l : List Int} {i : Nat} {r : Int × List Int × Int} (h : rs[i]? = some r) : shRnd (rs.take (i + 1)) l = shStep (shRnd (rs.take i) l) r := by
  unfold shRnd
  rw [List.take_add_one, h, List.foldl_append]
  rfl
theorem short_round {M0 M : MH} {g : Gr} {vr vf vc vk : MV} {es : List (List MV)} {id : Nat} {l0 : List Int} {f : Fr} (h : ISt M0 M g vr vf vc vk es id l0 f) (Q : Post)
    (hn : ∀ f' M' l' more, ISt M0 M' g vr vf vc vk es id l' f' → X.ev f' (.t q4) = .b more → l' = shRnd g.rules l0 → ((more = true ∧ shMu l' < shMu l0) ∨ (more = false ∧ l' = l0 ∧ ShStill g.rules l0)) → Q .norm f' M') : Wp fns K20_3 f M Q := by
  have hq1 := h.q1
  have hq3 := h.q3
  have hbox := h.b0
  obtain ⟨hr1, hr2⟩ := h.gr.rules.row.sl
  rw [h.gr.rules.len] at hr2
  unfold gcs at hbox
  simp only [q1, q3] at hq1 hq3
  unfold K20_3
  simp (maxSteps := 4000000) (disch := first | omega | assumption | (simp only [bxS, bxV, stOk, Nat.reduceBEq, Nat.reduceEqDiff, Nat.reduceAdd]; done) | (simp only [bxU]; omega) | ((try apply has_setN); apply has_ofL; simp only [bxL]; omega)) only [↓bxD, bxP, bxQ, Nat.reduceBEq, reduceCtorEq, Nat.reduceAdd, Nat.reduceSub, Nat.reduceMul, Nat.reduceLeDiff, Nat.reduceLT, bxR, hq1, hq3, hbox, hr1, hr2]
  refine Wp_inv (σ := Nat × List Int × Bool) (fun s f1 M1 => ISt M0 M1 g vr vf vc vk es id s.2.1 f1 ∧ s.1 ≤ g.rules.length ∧ X.ev f1 (.t q14) = vr ∧ X.ev f1 (.t q15) = .i .i64 (g.rules.length : Int) ∧ X.ev f1 (.t q16) = .i .i64 (s.1 : Int) ∧ X.ev f1 (.t q4) = .b s.2.2 ∧ s.2.1 = shRnd (g.rules.take s.1) l0 ∧ ((s.2.2 = true ∧ shMu s.2.1 < shMu l0) ∨ (s.2.2 = false ∧ s.2.1 = l0 ∧ ShStill (g.rules.take s.1) l0))) (fun s => g.rules.length - s.1) ?_ (0, l0, false) ?_
  · rintro ⟨i, l, more⟩ f1 M1 ⟨h, hi, h14, h15, h16, h4, hl, hc⟩
    simp only at h hi h14 h15 h16 h4 hl hc
    clear hq1 hq3 hbox
    have hq1 := h.q1
    have hq3 := h.q3
    have hbox := h.b0
    have hlo := h.lo0
    have hn0 := h.ext.n
    have hl0 := h.ext.lo
    have hid1 := h.id1
    have hid2 := h.id2
    unfold gcs at hbox
    have hrl := h.ok.rl
    simp only [q1, q3, q4, q14, q15, q16] at hq1 hq3 h4 h14 h15 h16
    unfold L20_2
    by_cases hi' : i < g.rules.length
    · have d1 : decide ((i : Int) < (g.rules.length : Int)) = true := decide_eq_true (by omega)
      obtain ⟨r, hr⟩ : ∃ r, g.rules[i]? = some r := ⟨_, List.getElem?_eq_getElem hi'⟩
      have hrt := shRnd_take (l := l0) hr
      rw [← hl] at hrt
      obtain ⟨a0, ar, a2⟩ := r
      have hmem := List.mem_of_getElem? hr
      obtain ⟨ur, hu1, hu2⟩ := h.gr.rules.get hr
      have hrow := h.gr.rules.row.ext h.ext
      obtain ⟨ro3, s3, t3, hg3, hid3, hat3⟩ := hrow.read hu1
      have hN : Ev.getN t3 3 (soff vr + i * 3) = some [.i .i64 a0, ur, .i .i64 a2] := hat3.getN
      obtain ⟨hu3, hu4⟩ := hu2.sl
      have hu6 := isSl_one hu3
      have hst : stOk 3 (.ag [.i .i64 a0, ur, .i .i64 a2]) = true := by simp only [stOk, cells_ag, isU_ag, all_cons, all_nil, one_i, hu6]; rfl
      obtain ⟨ha0, ha1⟩ := h.ok.left _ hmem
      simp only at ha0 ha1
      obtain ⟨an, rfl⟩ : ∃ n : Nat, a0 = n := ⟨a0.toNat, by omega⟩
      have hll := h.inn.len
      have han : an < l.length := by omega
      simp (maxSteps := 4000000) (disch := first | omega | assumption | (simp only [bxS, bxV, stOk, Nat.reduceBEq, Nat.reduceEqDiff, Nat.reduceAdd]; done) | (simp only [bxU]; omega) | ((try apply has_setN); apply has_ofL; simp only [bxL]; omega)) only [↓bxD, bxP, bxQ, Nat.reduceBEq, reduceCtorEq, Nat.reduceAdd, Nat.reduceSub, Nat.reduceMul, Nat.reduceLeDiff, Nat.reduceLT, bxR, hq1, hq3, h4, h14, h15, h16, hr1, hr2, hg3, hN, d1]
      show Wp fns K20_1 _ _ _
      unfold K20_1
      simp (maxSteps := 4000000) (disch := first | omega | assumption | (simp only [bxS, bxV, stOk, Nat.reduceBEq, Nat.reduceEqDiff, Nat.reduceAdd]; done) | (simp only [bxU]; omega) | ((try apply has_setN); apply has_ofL; simp only [bxL]; omega)) only [↓bxD, bxP, bxQ, Nat.reduceBEq, reduceCtorEq, Nat.reduceAdd, Nat.reduceSub, Nat.reduceMul, Nat.reduceLeDiff, Nat.reduceLT, bxR, hq1, hq3, h4, h14, h15, h16, hr1, hr2, hg3, hN, d1]
      generalize hM2 : (M1.push _).set M1.n _ = M2
      have hx2 : Ext M1 M2 := by rw [← hM2]; exact (Ext.push M1 _).set _ (Nat.le_refl _)
      have h9 : M2.get M1.n = some (.cs false 3 (setN [.i .i64 (an : Int), ur, .i .i64 a2] 0 (ofL [.i .i64 0, .nils, .i .i64 0] 0))) := by rw [← hM2, set_same]
      have hn3 : M2.n = M1.n + 1 := by rw [← hM2]; rfl
      clear hM2
      have hC3 : At (setN [MV.i .i64 (an : Int), ur, .i .i64 a2] 0 (ofL [.i .i64 0, .nils, .i .i64 0] 0)) 0 [.i .i64 (an : Int), ur, .i .i64 a2] := at_setN _ _ _
      have c0 : cget (setN [MV.i .i64 (an : Int), ur, .i .i64 a2] 0 (ofL [.i .i64 0, .nils, .i .i64 0] 0)) 0 = some (.i .i64 (an : Int)) := hC3 0 _ rfl
      have c1 : cget (setN [MV.i .i64 (an : Int), ur, .i .i64 a2] 0 (ofL [.i .i64 0, .nils, .i .i64 0] 0)) 1 = some ur := hC3 1 _ rfl
      have hl2 := hx2.lo
      have hrow2 : IntsAt M2 id l := h.row.same (hx2.old _ hid2)
      have hsy := h.ok.sym _ hmem
      have hle := h.ok.len _ hmem
      simp only at hsy hle
      have hb2 : M2.get M0.n = some (.cs false 7 (ofL (gcs g vr vf vc vk) 0)) := (hx2.old _ (by omega)).trans h.b0
      refine bindP_call (row_any (hrow2.row (by omega)) (hu2.ext (h.ext.trans hx2)) h.inn.lo (fun s hs s0 => by have := symB_lt (hsy s hs) s0; omega) hle) ?_
      rintro m M3 ⟨rfl, rfl⟩
      obtain ⟨t, ht1, ht2, ht3, ht4⟩ := hrow2.read
      obtain ⟨z, hz⟩ : ∃ z, l[an]? = some z := ⟨_, List.getElem?_eq_getElem han⟩
      have hR := ht2 _ _ hz
      have hH := ht3 an han
      have hzb := h.inn.lo z (List.mem_of_getElem? hz)
      have hgd : l.getD an (-1) = z := by rw [List.getD_eq_getElem?_getD, hz]; rfl
      have hrb := @shRow_le l ar
      have hcd : shCond l ((an : Int), ar, a2) = (decide (0 ≤ shRow l ar) && (decide (z < 0) || decide (shRow l ar < z))) := by unfold shCond; simp only [Int.toNat_natCast, hgd]
      have stay : shCond l ((an : Int), ar, a2) = false → ISt M0 M3 g vr vf vc vk es id l f1 ∧ l = shRnd (g.rules.take (i + 1)) l0 ∧ ((more = true ∧ shMu l < shMu l0) ∨ (more = false ∧ l = l0 ∧ ShStill (g.rules.take (i + 1)) l0)) := fun e => by
        refine ⟨⟨h.gr, h.ok, h.ext.trans hx2, h.lo0, hb2, h.id1, by omega, hrow2, h.inn, h.q1, h.q3⟩, ?_, ?_⟩
        · rw [hrt]; unfold shStep; rw [e]; rfl
        · rcases hc with hc | ⟨hc1, hc2, hc3⟩
          · exact .inl hc
          · refine .inr ⟨hc1, hc2, fun r hr' => ?_⟩
            rw [List.take_add_one, hr] at hr'
            rcases List.mem_append.1 hr' with h1 | h1
            · exact hc3 r h1
            · simp only [Option.toList_some, List.mem_singleton] at h1
              subst h1
              rw [← hc2]; exact e
      by_cases e1 : shRow l ar = -1
      · have de : decide (shRow l ar ≠ Int.negSucc 0) = false := decide_eq_false (fun h => h e1)
        have hcf : shCond l ((an : Int), ar, a2) = false := by rw [hcd, decide_eq_false (by omega)]; rfl
        obtain ⟨s1, s2, s3⟩ := stay hcf
        simp (maxSteps := 4000000) (disch := first | omega | assumption | (simp only [bxS, bxV, stOk, Nat.reduceBEq, Nat.reduceEqDiff, Nat.reduceAdd]; done) | (simp only [bxU]; omega) | ((try apply has_setN); apply has_ofL; simp only [bxL]; omega)) only [↓bxD, bxP, bxQ, Nat.reduceBEq, reduceCtorEq, Nat.reduceAdd, Nat.reduceSub, Nat.reduceMul, Nat.reduceLeDiff, Nat.reduceLT, bxR, hq1, hq3, h4, h14, h15, h16, h9, c0, c1, ix_slc, ht1, hR, de]
        show Wp fns K20_0 _ _ _
        unfold K20_0
        simp (maxSteps := 4000000) (disch := first | omega | assumption | (simp only [bxS, bxV, stOk, Nat.reduceBEq, Nat.reduceEqDiff, Nat.reduceAdd]; done) | (simp only [bxU]; omega) | ((try apply has_setN); apply has_ofL; simp only [bxL]; omega)) only [↓bxD, bxP, bxQ, Nat.reduceBEq, reduceCtorEq, Nat.reduceAdd, Nat.reduceSub, Nat.reduceMul, Nat.reduceLeDiff, Nat.reduceLT, bxR, hq1, hq3, h4, h14, h15, h16, h9, c0, c1, ix_slc, ht1, hR, de]
        exact ⟨(i + 1, l, more), by simp only; omega, ⟨s1.gr, s1.ok, s1.ext, s1.lo0, s1.b0, s1.id1, s1.id2, s1.row, s1.inn, by simp only [bxP, bxQ, reduceCtorEq, hq1, hq3, h4, h14, h15, h16, h9, c0, c1, ix_slc, ht1, hR, de], by simp only [bxP, bxQ, reduceCtorEq, hq1, hq3, h4, h14, h15, h16, h9, c0, c1, ix_slc, ht1, hR, de]⟩, by simp only; omega, rfl, rfl, s2, s3⟩
      · have de : decide (shRow l ar ≠ Int.negSucc 0) = true := decide_eq_true e1
        have turn : shCond l ((an : Int), ar, a2) = true → Ext M0 (M3.set id (some (.cs false 1 (setN (MV.i .i64 (shRow l ar)).cells (an * 1) t)))) ∧ (M3.set id (some (.cs false 1 (setN (MV.i .i64 (shRow l ar)).cells (an * 1) t)))).get M0.n = some (.cs false 7 (ofL (gcs g vr vf vc vk) 0)) ∧ IntsAt (M3.set id (some (.cs false 1 (setN (MV.i .i64 (shRow l ar)).cells (an * 1) t)))) id (l.set an (shRow l ar)) ∧ ShIn g (l.set an (shRow l ar)) ∧ l.set an (shRow l ar) = shRnd (g.rules.take (i + 1)) l0 ∧ shMu (l.set an (shRow l ar)) < shMu l0 := fun e => by
          have hs := h.inn.step h.ok hmem
          unfold shStep at hs hrt
          rw [e] at hs hrt
          simp only [if_true, Int.toNat_natCast] at hs hrt
          have hmu := shMu_step hll h.ok hmem e
          simp only [Int.toNat_natCast] at hmu
          refine ⟨(h.ext.trans hx2).set _ (by omega), ?_, ⟨_, set_same _ _, ht4 an _ han⟩, hs, hrt.symm, ?_⟩
          · rw [set_ne (by omega)]; exact hb2
          · rcases hc with ⟨_, hc⟩ | ⟨_, rfl, _⟩
            · exact Nat.lt_trans hmu hc
            · exact hmu
        by_cases e2 : z = -1
        · have hcf : shCond l ((an : Int), ar, a2) = true := by rw [hcd, decide_eq_true (show 0 ≤ shRow l ar by omega), decide_eq_true (show z < 0 by omega)]; rfl
          have dz : decide (z = Int.negSucc 0) = true := decide_eq_true e2
          simp (maxSteps := 4000000) (disch := first | omega | assumption | (simp only [bxS, bxV, stOk, Nat.reduceBEq, Nat.reduceEqDiff, Nat.reduceAdd]; done) | (simp only [bxU]; omega) | ((try apply has_setN); apply has_ofL; simp only [bxL]; omega)) only [↓bxD, bxP, bxQ, Nat.reduceBEq, reduceCtorEq, Nat.reduceAdd, Nat.reduceSub, Nat.reduceMul, Nat.reduceLeDiff, Nat.reduceLT, bxR, hq1, hq3, h4, h14, h15, h16, h9, c0, c1, ix_slc, ht1, hR, hH, de, dz]
          show Wp fns K20_0 _ _ _
          unfold K20_0
          simp (maxSteps := 4000000) (disch := first | omega | assumption | (simp only [bxS, bxV, stOk, Nat.reduceBEq, Nat.reduceEqDiff, Nat.reduceAdd]; done) | (simp only [bxU]; omega) | ((try apply has_setN); apply has_ofL; simp only [bxL]; omega)) only [↓bxD, bxP, bxQ, Nat.reduceBEq, reduceCtorEq, Nat.reduceAdd, Nat.reduceSub, Nat.reduceMul, Nat.reduceLeDiff, Nat.reduceLT, bxR, hq1, hq3, h4, h14, h15, h16, h9, c0, c1, ix_slc, ht1, hR, hH, de, dz]
          obtain ⟨s1, s2, s3, s4, s5, s6⟩ := turn hcf
          exact ⟨(i + 1, _, true), by simp only; omega, ⟨h.gr, h.ok, s1, h.lo0, s2, h.id1, by rw [set_n]; omega, s3, s4, by simp only [bxP, bxQ, reduceCtorEq, hq1, hq3, h4, h14, h15, h16, h9, c0, c1, ix_slc, ht1, hR, hH, de, dz], by simp (maxSteps := 4000000) (disch := first | omega | assumption | (simp only [bxS, bxV, stOk, Nat.reduceBEq, Nat.reduceEqDiff, Nat.reduceAdd]; done) | (simp only [bxU]; omega) | ((try apply has_setN); apply has_ofL; simp only [bxL]; omega)) only [↓bxD, bxP, bxQ, Nat.reduceBEq, reduceCtorEq, Nat.reduceAdd, Nat.reduceSub, Nat.reduceMul, Nat.reduceLeDiff, Nat.reduceLT, bxR, hq1, hq3, h4, h14, h15, h16, h9, c0, c1, ix_slc, ht1, hR, hH, de, dz, List.length_set]⟩, by simp only; omega, rfl, rfl, s5, .inl ⟨rfl, s6⟩⟩
        · have dz : decide (z = Int.negSucc 0) = false := decide_eq_false e2
          by_cases e3 : shRow l ar < z
          · have hcf : shCond l ((an : Int), ar, a2) = true := by rw [hcd, decide_eq_true (show 0 ≤ shRow l ar by omega), decide_eq_true e3, Bool.or_true]; rfl
            have d3 : decide (shRow l ar < z) = true := decide_eq_true e3
            simp (maxSteps := 4000000) (disch := first | omega | assumption | (simp only [bxS, bxV, stOk, Nat.reduceBEq, Nat.reduceEqDiff, Nat.reduceAdd]; done) | (simp only [bxU]; omega) | ((try apply has_setN); apply has_ofL; simp only [bxL]; omega)) only [↓bxD, bxP, bxQ, Nat.reduceBEq, reduceCtorEq, Nat.reduceAdd, Nat.reduceSub, Nat.reduceMul, Nat.reduceLeDiff, Nat.reduceLT, bxR, hq1, hq3, h4, h14, h15, h16, h9, c0, c1, ix_slc, ht1, hR, hH, de, dz, d3]
            show Wp fns K20_0 _ _ _
            unfold K20_0
            simp (maxSteps := 4000000) (disch := first | omega | assumption | (simp only [bxS, bxV, stOk, Nat.reduceBEq, Nat.reduceEqDiff, Nat.reduceAdd]; done) | (simp only [bxU]; omega) | ((try apply has_setN); apply has_ofL; simp only [bxL]; omega)) only [↓bxD, bxP, bxQ, Nat.reduceBEq, reduceCtorEq, Nat.reduceAdd, Nat.reduceSub, Nat.reduceMul, Nat.reduceLeDiff, Nat.reduceLT, bxR, hq1, hq3, h4, h14, h15, h16, h9, c0, c1, ix_slc, ht1, hR, hH, de, dz, d3]
            obtain ⟨s1, s2, s3, s4, s5, s6⟩ := turn hcf
            exact ⟨(i + 1, _, true), by simp only; omega, ⟨h.gr, h.ok, s1, h.lo0, s2, h.id1, by rw [set_n]; omega, s3, s4, by simp only [bxP, bxQ, reduceCtorEq, hq1, hq3, h4, h14, h15, h16, h9, c0, c1, ix_slc, ht1, hR, hH, de, dz, d3], by simp (maxSteps := 4000000) (disch := first | omega | assumption | (simp only [bxS, bxV, stOk, Nat.reduceBEq, Nat.reduceEqDiff, Nat.reduceAdd]; done) | (simp only [bxU]; omega) | ((try apply has_setN); apply has_ofL; simp only [bxL]; omega)) only [↓bxD, bxP, bxQ, Nat.reduceBEq, reduceCtorEq, Nat.reduceAdd, Nat.reduceSub, Nat.reduceMul, Nat.reduceLeDiff, Nat.reduceLT, bxR, hq1, hq3, h4, h14, h15, h16, h9, c0, c1, ix_slc, ht1, hR, hH, de, dz, d3, List.length_set]⟩, by simp only; omega, rfl, rfl, s5, .inl ⟨rfl, s6⟩⟩
          · have hcf : shCond l ((an : Int), ar, a2) = false := by rw [hcd, decide_eq_false (show ¬ z < 0 by omega), decide_eq_false e3]; simp
            have d3 : decide (shRow l ar < z) = false := decide_eq_false e3
            obtain ⟨s1, s2, s3⟩ := stay hcf
            simp (maxSteps := 4000000) (disch := first | omega | assumption | (simp only [bxS, bxV, stOk, Nat.reduceBEq, Nat.reduceEqDiff, Nat.reduceAdd]; done) | (simp only [bxU]; omega) | ((try apply has_setN); apply has_ofL; simp only [bxL]; omega)) only [↓bxD, bxP, bxQ, Nat.reduceBEq, reduceCtorEq, Nat.reduceAdd, Nat.reduceSub, Nat.reduceMul, Nat.reduceLeDiff, Nat.reduceLT, bxR, hq1, hq3, h4, h14, h15, h16, h9, c0, c1, ix_slc, ht1, hR, hH, de, dz, d3]
            show Wp fns K20_0 _ _ _
            unfold K20_0
            simp (maxSteps := 4000000) (disch := first | omega | assumption | (simp only [bxS, bxV, stOk, Nat.reduceBEq, Nat.reduceEqDiff, Nat.reduceAdd]; done) | (simp only [bxU]; omega) | ((try apply has_setN); apply has_ofL; simp only [bxL]; omega)) only [↓bxD, bxP, bxQ, Nat.reduceBEq, reduceCtorEq, Nat.reduceAdd, Nat.reduceSub, Nat.reduceMul, Nat.reduceLeDiff, Nat.reduceLT, bxR, hq1, hq3, h4, h14, h15, h16, h9, c0, c1, ix_slc, ht1, hR, hH, de, dz, d3]
            exact ⟨(i + 1, l, more), by simp only; omega, ⟨s1.gr, s1.ok, s1.ext, s1.lo0, s1.b0, s1.id1, s1.id2, s1.row, s1.inn, by simp only [bxP, bxQ, reduceCtorEq, hq1, hq3, h4, h14, h15, h16, h9, c0, c1, ix_slc, ht1, hR, hH, de, dz, d3], by simp only [bxP, bxQ, reduceCtorEq, hq1, hq3, h4, h14, h15, h16, h9, c0, c1, ix_slc, ht1, hR, hH, de, dz, d3]⟩, by simp only; omega, rfl, rfl, s2, s3⟩
    · have d1 : decide ((i : Int) < (g.rules.length : Int)) = false := decide_eq_false (by omega)
      have hi2 : i = g.rules.length := by omega
      subst hi2
      rw [List.take_length] at hc hl
      simp (maxSteps := 4000000) (disch := first | omega | assumption | (simp only [bxS, bxV, stOk, Nat.reduceBEq, Nat.reduceEqDiff, Nat.reduceAdd]; done) | (simp only [bxU]; omega) | ((try apply has_setN); apply has_ofL; simp only [bxL]; omega)) only [↓bxD, bxP, bxQ, Nat.reduceBEq, reduceCtorEq, Nat.reduceAdd, Nat.reduceSub, Nat.reduceMul, Nat.reduceLeDiff, Nat.reduceLT, bxR, hq1, hq3, h4, h14, h15, h16, d1]
      exact hn _ _ l more ⟨h.gr, h.ok, h.ext, h.lo0, h.b0, h.id1, h.id2, h.row, h.inn, by simp only [bxP, bxQ, reduceCtorEq, hq1, hq3, h4, h14, h15, h16, d1], by simp only [bxP, bxQ, reduceCtorEq, hq1, hq3, h4, h14, h15, h16, d1]⟩ (by simp only [bxP, bxQ, reduceCtorEq, hq1, hq3, h4, h14, h15, h16, d1]) hl hc
  · exact ⟨⟨h.gr, h.ok, h.ext, h.lo0, h.b0, h.id1, h.id2, h.row, h.inn, by simp only [bxP, bxQ, reduceCtorEq, hq1, hq3, hbox, hr1, hr2], by simp only [bxP, bxQ, reduceCtorEq, hq1, hq3, hbox, hr1, hr2]⟩, Nat.zero_le _, by simp only [bxP, bxQ, reduceCtorEq, hq1, hq3, hbox, hr1, hr2], by simp only [bxP, bxQ, reduceCtorEq, hq1, hq3, hbox, hr1, hr2], by simp only [bxP, bxQ, reduceCtorEq, hq1, hq3, hbox, hr1, hr2] <;> rfl, by simp only [bxP, bxQ, reduceCtorEq, hq1, hq3, hbox, hr1, hr2], rfl, .inr ⟨rfl, rfl, fun r hr => by simp at hr⟩⟩
theorem push2b {M M2 : MH} {a b : MO} (h : (M.push a).push b = M2) : Ext M M2 ∧ M2.n = M.n + 2 ∧ M2.get M.n = some a ∧ M2.get (M.n + 1) = some b := by
  subst h
  refine ⟨(Ext.push M a).trans (.push _ b), rfl, ?_, push_new (M := M.push a) b⟩
  rw [push_old (by show M.n < M.n + 1; omega)]; exact push_new _
theorem shortest_any {M : MH} {g : Gr} {vr vf vc vk : MV} {es : List (List MV)} (h : GrAt M vr vf vc vk es g) (hok : GrOk g) (hlo : M.lo ≤ M.n) : Cp fns 20 [.ag (gcs g vr vf vc vk)] M fun m M' => Ext M M' ∧ ∃ l id, ShVec g l ∧ m = .sl id 0 l.length 0 ∧ IntsAt M' id l ∧ M.n ≤ id ∧ id < M'.n := by
  refine Cp_call (fn := F20) (by kernel_rfl) (Nat.le_of_ble_eq_true rfl) ?_
  show Wp fns B20 (T.set q0 (some (.ag (gcs g vr vf vc vk))) T.lf) M _
  unfold B20
  rw [show gcs g vr vf vc vk = [MV.i IntKind.i64 g.names, MV.i IntKind.i64 g.kinds, MV.i IntKind.i64 g.start, vr, vf, vc, vk] from rfl]
  obtain ⟨nn, hnn⟩ : ∃ n : Nat, g.names = n := ⟨g.names.toNat, by have := hok.n1; omega⟩
  have hn1 := hok.n1
  have hn40 := hok.n2
  have hfill : fillM [(0, 1, MV.i .i64 (Int.negSucc 0))] [MV.i .i64 0] = some [MV.i .i64 (Int.negSucc 0)] := fill_one rfl rfl
  simp (maxSteps := 4000000) (disch := first | omega | assumption | (simp only [bxS, bxV, stOk, Nat.reduceBEq, Nat.reduceEqDiff, Nat.reduceAdd]; done) | (simp only [bxU]; omega) | ((try apply has_setN); apply has_ofL; simp only [bxL]; omega)) only [↓bxD, bxP, bxQ, Nat.reduceBEq, reduceCtorEq, Nat.reduceAdd, Nat.reduceSub, Nat.reduceMul, Nat.reduceLeDiff, Nat.reduceLT, bxR, hnn, hfill]
  have hp := row_one (M := M.push (.cs false 7 (ofL [MV.i .i64 (nn : Int), .i .i64 g.kinds, .i .i64 g.start, vr, vf, vc, vk] 0))) (sz := 1) (e := [MV.i .i64 (Int.negSucc 0)]) rfl
  generalize hM2 : (M.push _).push _ = M2 at hp ⊢
  obtain ⟨x2, n2, g2, _⟩ := push2b hM2
  have l2 := x2.lo
  clear hM2
  have hp : IntRow M2 (.sl (M.n + 1) 0 1 0) [-1] := hp
  refine bindP_call (repeat_any (z := -1) hp ⟨by omega, by omega⟩ (by omega)) ?_
  rintro m M3 ⟨x3, rfl, hi3, n3⟩
  have g3 := (x3.old M.n (by omega)).trans g2
  simp (maxSteps := 4000000) (disch := first | omega | assumption | (simp only [bxS, bxV, stOk, Nat.reduceBEq, Nat.reduceEqDiff, Nat.reduceAdd]; done) | (simp only [bxU]; omega) | ((try apply has_setN); apply has_ofL; simp only [bxL]; omega)) only [↓bxD, bxP, bxQ, Nat.reduceBEq, reduceCtorEq, Nat.reduceAdd, Nat.reduceSub, Nat.reduceMul, Nat.reduceLeDiff, Nat.reduceLT, bxR, hnn, hfill]
  have hin : ShIn g (shIt g 0) := ShIn.it hok 0
  have hnn' : g.names.toNat = nn := by omega
  refine Wp_inv (σ := List Int × Bool) (fun s f1 M1 => ISt M M1 g vr vf vc vk es M2.n s.1 f1 ∧ X.ev f1 (.t q4) = .b s.2 ∧ (∃ n, s.1 = shIt g n) ∧ (s.2 = false → ShStill g.rules s.1)) (fun s => 2 * shMu s.1 + (if s.2 = true then 1 else 0)) ?_ (shIt g 0, true) ?_
  · rintro ⟨l, more⟩ f1 M4 ⟨h4, ht, hs, hc⟩
    simp only at h4 ht hs hc
    have hq1 := h4.q1
    have hq3 := h4.q3
    simp only [q1, q3, q4] at hq1 hq3 ht
    unfold L20_4
    cases more with
    | true =>
      simp (maxSteps := 4000000) (disch := first | omega | assumption | (simp only [bxS, bxV, stOk, Nat.reduceBEq, Nat.reduceEqDiff, Nat.reduceAdd]; done) | (simp only [bxU]; omega) | ((try apply has_setN); apply has_ofL; simp only [bxL]; omega)) only [↓bxD, bxP, bxQ, Nat.reduceBEq, reduceCtorEq, Nat.reduceAdd, Nat.reduceSub, Nat.reduceMul, Nat.reduceLeDiff, Nat.reduceLT, bxR, hq1, hq3, ht]
      show Wp fns K20_3 _ _ _
      refine short_round ⟨h4.gr, h4.ok, h4.ext, h4.lo0, h4.b0, h4.id1, h4.id2, h4.row, h4.inn, by simp only [bxP, bxQ, reduceCtorEq, hq1, hq3, ht], by simp only [bxP, bxQ, reduceCtorEq, hq1, hq3, ht]⟩ _ ?_
      intro f' M' l' more' h' h4' hs' hcase
      refine ⟨(l', more'), ?_, h', h4', ?_, fun e => ?_⟩
      · rcases hcase with ⟨rfl, hlt⟩ | ⟨rfl, rfl, _⟩
        · simp only [if_true]; omega
        · simp
      · obtain ⟨n, rfl⟩ := hs
        exact ⟨n + 1, hs'⟩
      · rcases hcase with ⟨rfl, _⟩ | ⟨_, rfl, hc'⟩
        · cases e
        · exact hc'
    | false =>
      simp (maxSteps := 4000000) (disch := first | omega | assumption | (simp only [bxS, bxV, stOk, Nat.reduceBEq, Nat.reduceEqDiff, Nat.reduceAdd]; done) | (simp only [bxU]; omega) | ((try apply has_setN); apply has_ofL; simp only [bxL]; omega)) only [↓bxD, bxP, bxQ, Nat.reduceBEq, reduceCtorEq, Nat.reduceAdd, Nat.reduceSub, Nat.reduceMul, Nat.reduceLeDiff, Nat.reduceLT, bxR, hq1, hq3, ht]
      show Wp fns K20_5 _ _ _
      unfold K20_5
      simp (maxSteps := 4000000) (disch := first | omega | assumption | (simp only [bxS, bxV, stOk, Nat.reduceBEq, Nat.reduceEqDiff, Nat.reduceAdd]; done) | (simp only [bxU]; omega) | ((try apply has_setN); apply has_ofL; simp only [bxL]; omega)) only [↓bxD, bxP, bxQ, Nat.reduceBEq, reduceCtorEq, Nat.reduceAdd, Nat.reduceSub, Nat.reduceMul, Nat.reduceLeDiff, Nat.reduceLT, bxR, hq1, hq3, ht]
      exact ⟨h4.ext, l, M2.n, ⟨hs, hc rfl⟩, rfl, h4.row, by omega, h4.id2⟩
  · refine ⟨⟨h, hok, x2.trans x3, hlo, by rw [g3]; unfold gcs; rw [hnn], by omega, by omega, ?_, hin, by simp only [bxP, bxQ, reduceCtorEq, hnn, hfill], ?_⟩, by simp only [bxP, bxQ, reduceCtorEq, hnn, hfill], ⟨0, rfl⟩, fun e => by cases e⟩
    · show IntsAt M3 M2.n (List.replicate g.names.toNat (-1))
      rw [hnn']; exact hi3
    · simp (maxSteps := 4000000) (disch := first | omega | assumption | (simp only [bxS, bxV, stOk, Nat.reduceBEq, Nat.reduceEqDiff, Nat.reduceAdd]; done) | (simp only [bxU]; omega) | ((try apply has_setN); apply has_ofL; simp only [bxL]; omega)) only [↓bxD, bxP, bxQ, Nat.reduceBEq, reduceCtorEq, Nat.reduceAdd, Nat.reduceSub, Nat.reduceMul, Nat.reduceLeDiff, Nat.reduceLT, bxR, hnn, hfill]
      show MV.sl M2.n 0 nn 0 = .sl M2.n 0 (List.replicate g.names.toNat (-1)).length 0
      rw [List.length_replicate, hnn']
theorem isForm_any {M : MH} {g : Gr} {vr vf vc vk : MV} {es : List (List MV)} (h : GrAt M vr vf vc vk es g) (hlo : M.lo ≤ M.n) : Cp fns 17 [.ag (gcs g vr vf vc vk)] M fun m M' => m = .b (decide ((formP g).2 = 0)) ∧ Ext M M' := by
  have hG : ∀ l, l = gcs g vr vf vc vk → Ev.getN (ofL l 0) 7 0 = some (gcs g vr vf vc vk) := fun l e => by subst e; exact (at_ofL (gcs g vr vf vc vk)).getN
  have hG := hG [MV.i IntKind.i64 g.names, MV.i IntKind.i64 g.kinds, MV.i IntKind.i64 g.start, vr, vf, vc, vk] rfl
  refine Cp_call (fn := F17) (by kernel_rfl) (Nat.le_of_ble_eq_true rfl) ?_
  show Wp fns B17 (T.set q0 (some (.ag (gcs g vr vf vc vk))) T.lf) M _
  unfold B17
  rw [show gcs g vr vf vc vk = [MV.i IntKind.i64 g.names, MV.i IntKind.i64 g.kinds, MV.i IntKind.i64 g.start, vr, vf, vc, vk] from rfl]
  simp (maxSteps := 4000000) (disch := first | omega | assumption | (simp only [bxS, bxV, stOk, Nat.reduceBEq, Nat.reduceEqDiff, Nat.reduceAdd]; done) | (simp only [bxU]; omega) | ((try apply has_setN); apply has_ofL; simp only [bxL]; omega)) only [↓bxD, bxP, bxQ, Nat.reduceBEq, reduceCtorEq, Nat.reduceAdd, Nat.reduceSub, Nat.reduceMul, Nat.reduceLeDiff, Nat.reduceLT, bxR, hG]
  refine bindP_call (prog_form (h.ext (.push M _)) (by show M.lo ≤ M.n + 1; omega)) ?_
  rintro m M2 ⟨rfl, hx⟩
  simp (maxSteps := 4000000) (disch := first | omega | assumption | (simp only [bxS, bxV, stOk, Nat.reduceBEq, Nat.reduceEqDiff, Nat.reduceAdd]; done) | (simp only [bxU]; omega) | ((try apply has_setN); apply has_ofL; simp only [bxL]; omega)) only [↓bxD, bxP, bxQ, Nat.reduceBEq, reduceCtorEq, Nat.reduceAdd, Nat.reduceSub, Nat.reduceMul, Nat.reduceLeDiff, Nat.reduceLT, bxR, hG]
  exact (Ext.push M _).trans hx
def ShPost (g : Gr) (M : MH) (m : MV) (M' : MH) : Prop := Ext M M' ∧ (((formP g).2 ≠ 0 ∧ m = .nils) ∨ ((formP g).2 = 0 ∧ ∃ l, ShVec g l ∧ IntRow M' m l))
def PrPost (g : Gr) (M : MH) (m : MV) (M' : MH) : Prop := Ext M M' ∧ (((formP g).2 ≠ 0 ∧ m = .nils) ∨ ((formP g).2 = 0 ∧ ∃ l, ShVec g l ∧ BRow M' m (l.map fun z => decide (0 ≤ z))))
theorem pshortest_any {M : MH} {g : Gr} {vr vf vc vk : MV} {es : List (List MV)} (h : GrAt M vr vf vc vk es g) (hlo : M.lo ≤ M.n) : Cp fns 14 [.ag (gcs g vr vf vc vk)] M (ShPost g M) := by
  have hG : ∀ l, l = gcs g vr vf vc vk → Ev.getN (ofL l 0) 7 0 = some (gcs g vr vf vc vk) := fun l e => by subst e; exact (at_ofL (gcs g vr vf vc vk)).getN
  have hG := hG [MV.i IntKind.i64 g.names, MV.i IntKind.i64 g.kinds, MV.i IntKind.i64 g.start, vr, vf, vc, vk] rfl
  refine Cp_call (fn := F14) (by kernel_rfl) (Nat.le_of_ble_eq_true rfl) ?_
  show Wp fns B14 (T.set q0 (some (.ag (gcs g vr vf vc vk))) T.lf) M _
  unfold B14
  rw [show gcs g vr vf vc vk = [MV.i IntKind.i64 g.names, MV.i IntKind.i64 g.kinds, MV.i IntKind.i64 g.start, vr, vf, vc, vk] from rfl]
  generalize hM1 : M.push (.cs false 7 (ofL [MV.i IntKind.i64 g.names, MV.i IntKind.i64 g.kinds, MV.i IntKind.i64 g.start, vr, vf, vc, vk] 0)) = M1
  have g0 : M1.get M.n = some (.cs false 7 (ofL [MV.i IntKind.i64 g.names, MV.i IntKind.i64 g.kinds, MV.i IntKind.i64 g.start, vr, vf, vc, vk] 0)) := by rw [← hM1]; exact push_new _
  have x1 : Ext M M1 := by rw [← hM1]; exact .push M _
  have n1 : M1.n = M.n + 1 := by rw [← hM1]; rfl
  have l1 := x1.lo
  simp (maxSteps := 4000000) (disch := first | omega | assumption | (simp only [bxS, bxV, stOk, Nat.reduceBEq, Nat.reduceEqDiff, Nat.reduceAdd]; done) | (simp only [bxU]; omega) | ((try apply has_setN); apply has_ofL; simp only [bxL]; omega)) only [↓bxD, bxP, bxQ, Nat.reduceBEq, reduceCtorEq, Nat.reduceAdd, Nat.reduceSub, Nat.reduceMul, Nat.reduceLeDiff, Nat.reduceLT, bxR, hG, hM1, g0]
  refine bindP_call (isForm_any (h.ext x1) (by omega)) ?_
  rintro m M2 ⟨rfl, x2⟩
  have n2 := x2.n
  have l2 := x2.lo
  have g2 := (x2.old _ (by omega)).trans g0
  by_cases hz : (formP g).2 = 0
  · have dz : decide ((formP g).2 = 0) = true := decide_eq_true hz
    have hok := form_ok hz
    simp (maxSteps := 4000000) (disch := first | omega | assumption | (simp only [bxS, bxV, stOk, Nat.reduceBEq, Nat.reduceEqDiff, Nat.reduceAdd]; done) | (simp only [bxU]; omega) | ((try apply has_setN); apply has_ofL; simp only [bxL]; omega)) only [↓bxD, bxP, bxQ, Nat.reduceBEq, reduceCtorEq, Nat.reduceAdd, Nat.reduceSub, Nat.reduceMul, Nat.reduceLeDiff, Nat.reduceLT, bxR, hG, g2, dz]
    show Wp fns K14_0 _ _ _
    unfold K14_0
    simp (maxSteps := 4000000) (disch := first | omega | assumption | (simp only [bxS, bxV, stOk, Nat.reduceBEq, Nat.reduceEqDiff, Nat.reduceAdd]; done) | (simp only [bxU]; omega) | ((try apply has_setN); apply has_ofL; simp only [bxL]; omega)) only [↓bxD, bxP, bxQ, Nat.reduceBEq, reduceCtorEq, Nat.reduceAdd, Nat.reduceSub, Nat.reduceMul, Nat.reduceLeDiff, Nat.reduceLT, bxR, hG, g2, dz]
    refine bindP_call (shortest_any ((h.ext x1).ext x2) hok (by omega)) ?_
    rintro m M3 ⟨x3, l, id, h1, rfl, h2, h3, h4⟩
    simp (maxSteps := 4000000) (disch := first | omega | assumption | (simp only [bxS, bxV, stOk, Nat.reduceBEq, Nat.reduceEqDiff, Nat.reduceAdd]; done) | (simp only [bxU]; omega) | ((try apply has_setN); apply has_ofL; simp only [bxL]; omega)) only [↓bxD, bxP, bxQ, Nat.reduceBEq, reduceCtorEq, Nat.reduceAdd, Nat.reduceSub, Nat.reduceMul, Nat.reduceLeDiff, Nat.reduceLT, bxR, hG, g2, dz]
    exact ⟨(x1.trans x2).trans x3, .inr ⟨hz, l, h1, h2.row h4⟩⟩
  · have dz : decide ((formP g).2 = 0) = false := decide_eq_false hz
    simp (maxSteps := 4000000) (disch := first | omega | assumption | (simp only [bxS, bxV, stOk, Nat.reduceBEq, Nat.reduceEqDiff, Nat.reduceAdd]; done) | (simp only [bxU]; omega) | ((try apply has_setN); apply has_ofL; simp only [bxL]; omega)) only [↓bxD, bxP, bxQ, Nat.reduceBEq, reduceCtorEq, Nat.reduceAdd, Nat.reduceSub, Nat.reduceMul, Nat.reduceLeDiff, Nat.reduceLT, bxR, hG, g2, dz]
    exact ⟨x1.trans x2, .inl ⟨hz, rfl⟩⟩
def RPost (g : Gr) (M : MH) (m : MV) (M' : MH) : Prop := Ext M M' ∧ (((formP g).2 ≠ 0 ∧ m = .nils) ∨ ((formP g).2 = 0 ∧ ∃ l, RchVec g l ∧ BRow M' m l))
def RIs (g : Gr) (l : List Bool) : Prop := ((formP g).2 ≠ 0 ∧ l = []) ∨ ((formP g).2 = 0 ∧ RchVec g l)
def PIs (g : Gr) (l : List Bool) : Prop := ((formP g).2 ≠ 0 ∧ l = []) ∨ ((formP g).2 = 0 ∧ ∃ x, ShVec g x ∧ l = x.map fun z => decide (0 ≤ z))
def SIs (g : Gr) (l : List Int) : Prop := ((formP g).2 ≠ 0 ∧ l = []) ∨ ((formP g).2 = 0 ∧ ShVec g l)
theorem RPost.is {g : Gr} {M M' : MH} {m : MV} (h : RPost g M m M') : Ext M M' ∧ ∃ l, BRow M' m l ∧ RIs g l ∧ l.length ≤ 1000000000 := by
  obtain ⟨hx, ⟨h1, rfl⟩ | ⟨h1, l, h2, h3⟩⟩ := h
  · exact ⟨hx, [], ⟨fun e he => by simp at he, .inl ⟨rfl, rfl⟩⟩, .inl ⟨h1, rfl⟩, Nat.zero_le _⟩
  · have := (form_ok h1).n2
    exact ⟨hx, l, h3, .inr ⟨h1, h2⟩, by rw [h2.1]; omega⟩
theorem PrPost.is {g : Gr} {M M' : MH} {m : MV} (h : PrPost g M m M') : Ext M M' ∧ ∃ l, BRow M' m l ∧ PIs g l ∧ l.length ≤ 1000000000 := by
  obtain ⟨hx, ⟨h1, rfl⟩ | ⟨h1, l, h2, h3⟩⟩ := h
  · exact ⟨hx, [], ⟨fun e he => by simp at he, .inl ⟨rfl, rfl⟩⟩, .inl ⟨h1, rfl⟩, Nat.zero_le _⟩
  · have := (form_ok h1).n2
    exact ⟨hx, _, h3, .inr ⟨h1, l, h2, rfl⟩, by rw [List.length_map, (h2.inn (form_ok h1)).len]; omega⟩
theorem ShPost.is {g : Gr} {M M' : MH} {m : MV} (h : ShPost g M m M') : Ext M M' ∧ ∃ l, IntRow M' m l ∧ SIs g l ∧ l.length ≤ 1000000000 := by
  obtain ⟨hx, ⟨h1, rfl⟩ | ⟨h1, l, h2, h3⟩⟩ := h
  · exact ⟨hx, [], ⟨fun e he => by simp [ints] at he, .inl ⟨rfl, rfl⟩⟩, .inl ⟨h1, rfl⟩, Nat.zero_le _⟩
  · have := (form_ok h1).n2
    exact ⟨hx, l, h3, .inr ⟨h1, h2⟩, by rw [(h2.inn (form_ok h1)).len]; omega⟩
def dbR (n : Nat) (i : Nat) : Int × List Int × Int := ((i : Int), if i + 1 < n then [((i + 1 : Nat) : Int), ((i + 1 : Nat) : Int)] else [-1], 0)
def dbG (n : Nat) : Gr := ⟨n, 1, 0, (List.range n).map (dbR n), [], [], []⟩
theorem db_form : ∀ n, 1 ≤ n → n ≤ 40 → formP (dbG n) = (-1, 0)
  | 0, h, _ => absurd h (by omega)
  | 1, _, _ => by decide +kernel
  | 2, _, _ => by decide +kernel
  | 3, _, _ => by decide +kernel
  | 4, _, _ => by decide +kernel
  | 5, _, _ => by decide +kernel
  | 6, _, _ => by decide +kernel
  | 7, _, _ => by decide +kernel
  | 8, _, _ => by decide +kernel
  | 9, _, _ => by decide +kernel
  | 10, _, _ => by decide +kernel
  | 11, _, _ => by decide +kernel
  | 12, _, _ => by decide +kernel
  | 13, _, _ => by decide +kernel
  | 14, _, _ => by decide +kernel
  | 15, _, _ => by decide +kernel
  | 16, _, _ => by decide +kernel
  | 17, _, _ => by decide +kernel
  | 18, _, _ => by decide +kernel
  | 19, _, _ => by decide +kernel
  | 20, _, _ => by decide +kernel
  | 21, _, _ => by decide +kernel
  | 22, _, _ => by decide +kernel
  | 23, _, _ => by decide +kernel
  | 24, _, _ => by decide +kernel
  | 25, _, _ => by decide +kernel
  | 26, _, _ => by decide +kernel
  | 27, _, _ => by decide +kernel
  | 28, _, _ => by decide +kernel
  | 29, _, _ => by decide +kernel
  | 30, _, _ => by decide +kernel
  | 31, _, _ => by decide +kernel
  | 32, _, _ => by decide +kernel
  | 33, _, _ => by decide +kernel
  | 34, _, _ => by decide +kernel
  | 35, _, _ => by decide +kernel
  | 36, _, _ => by decide +kernel
  | 37, _, _ => by decide +kernel
  | 38, _, _ => by decide +kernel
  | 39, _, _ => by decide +kernel
  | 40, _, _ => by decide +kernel
  | n + 41, _, h => absurd h (by omega)
theorem db_rules {n i : Nat} (h : i < n) : (dbG n).rules[i]? = some (dbR n i) := by
  show ((List.range n).map (dbR n))[i]? = _
  rw [List.getElem?_map, List.getElem?_range h]
  rfl
def dbV (d : Nat) : Int := min ((2 : Int) ^ d) mostZ
theorem dbV_pos (d : Nat) : 1 ≤ dbV d ∧ dbV d ≤ mostZ := by
  have : (0 : Int) < 2 ^ d := Int.pow_pos (by decide)
  unfold dbV mostZ
  omega
theorem dbV_succ (d : Nat) : dbV (d + 1) = min (2 * dbV d) mostZ := by
  have : (0 : Int) < 2 ^ d := Int.pow_pos (by decide)
  unfold dbV mostZ
  rw [Int.pow_succ]
  omega
theorem db_one {n : Nat} {l : List Int} (h : ShVec (dbG n) l) (hin : ShIn (dbG n) l) {i : Nat} (hi : i < n) (hok : shOk l (dbR n i).2.1 = true) : l[i]? = some (shRow l (dbR n i).2.1) := by
  have hll : l.length = n := hin.len
  obtain ⟨z, hz⟩ : ∃ z, l[i]? = some z := ⟨_, List.getElem?_eq_getElem (by omega)⟩
  have hst := h.2 _ (List.mem_of_getElem? (db_rules hi))
  have hp := shRow_pos.2 hok
  have hgd : l.getD (dbR n i).1.toNat (-1) = z := by
    show l.getD ((i : Int)).toNat (-1) = z
    rw [Int.toNat_natCast, List.getD_eq_getElem?_getD, hz]; rfl
  unfold shCond at hst
  rw [hgd, decide_eq_true hp, Bool.true_and, Bool.or_eq_false_iff] at hst
  simp only [decide_eq_false_iff_not] at hst
  obtain ⟨r, hr, h1, h2, h3⟩ := hin.met i z hz (by omega)
  obtain ⟨j, hj, rfl⟩ := List.mem_map.1 hr
  have hji : j = i := by
    have : ((j : Int)).toNat = i := h1
    simpa using this
  subst hji
  rw [hz]
  congr 1
  omega
theorem db_val {n : Nat} (hn : 1 ≤ n ∧ n ≤ 40) {l : List Int} (h : ShVec (dbG n) l) : ∀ d, d < n → l[n - 1 - d]? = some (dbV d) := by
  have hf := db_form n hn.1 hn.2
  have hin := h.inn (form_ok (by rw [hf]))
  intro d
  induction d with
  | zero =>
    intro hd
    have e : (dbR n (n - 1)).2.1 = [-1] := by unfold dbR; simp only; rw [if_neg (by omega)]
    have := db_one h hin (i := n - 1) (by omega) (by rw [e]; rfl)
    rw [Nat.sub_zero, this, e]
    rfl
  | succ d ih =>
    intro hd
    have h1 := ih (by omega)
    have e : (dbR n (n - 1 - (d + 1))).2.1 = [((n - 1 - d : Nat) : Int), ((n - 1 - d : Nat) : Int)] := by
      unfold dbR
      simp only
      rw [if_pos (by omega), show n - 1 - (d + 1) + 1 = n - 1 - d from by omega]
    have hv : shV l ((n - 1 - d : Nat) : Int) = dbV d := by
      unfold shV
      rw [if_neg (by omega), Int.toNat_natCast, List.getD_eq_getElem?_getD, h1]
      rfl
    have hb := dbV_pos d
    have hok : shOk l (dbR n (n - 1 - (d + 1))).2.1 = true := by
      rw [e]
      unfold shOk
      simp only [List.all_cons, List.all_nil, hv, Bool.and_true, Bool.and_self, decide_eq_true_eq]
      omega
    have := db_one h hin (i := n - 1 - (d + 1)) (by omega) hok
    rw [this]
    unfold shRow
    rw [hok, if_pos rfl, e]
    unfold shSum
    simp only [List.map_cons, List.map_nil, List.sum_cons, List.sum_nil, hv]
    rw [dbV_succ]
    congr 2
    omega
structure DbSt (b : Nat) (M : MH) (n i : Nat) (v : MV) (es : List (List MV)) : Prop where
  box : ∃ t, M.get b = some (.cs false 7 t) ∧ At t 0 [.i .i64 (n : Int), .i .i64 1, .i .i64 0, v, .nils, .nils, .nils]
  bn : b < M.n
  lo : M.lo ≤ b
  own : OwnRow (b + 1) M 3 v es
  len : es.length = i
  at_ : ∀ (k : Nat) e, es[k]? = some e → ∃ id, e = [.i .i64 (k : Int), .sl id 0 (dbR n k).2.1.length 0, .i .i64 0] ∧ IntsAt M id (dbR n k).2.1 ∧ id < M.n
theorem db_step {b : Nat} {M : MH} {n i : Nat} {v : MV} {es : List (List MV)} (h : DbSt b M n i v es) (hn : n ≤ 40) (hi : i < n) {M2 : MH} (hM2 : (M.push (.cs false 1 (ofL ((dbR n i).2.1.map (MV.i .i64)) 0))).push (.cs false 3 (ofL [.i .i64 (i : Int), .sl M.n 0 (dbR n i).2.1.length 0, .i .i64 0] 0)) = M2) :
    ∃ v' M3 t, appM M2 3 40 v (.sl (M.n + 1) 0 1 0) = some (v', M3) ∧ M3.get b = some (.cs false 7 t) ∧ At t 0 [.i .i64 (n : Int), .i .i64 1, .i .i64 0, v, .nils, .nils, .nils] ∧ M3.lo ≤ b ∧ isSl v' = true ∧ DbSt b (M3.set b (some (.cs false 7 (setN [v'] 3 t)))) n (i + 1) v' (es ++ [[.i .i64 (i : Int), .sl M.n 0 (dbR n i).2.1.length 0, .i .i64 0]]) ∧ ∀ M0, Ext M0 M → M0.n ≤ b → Ext M0 (M3.set b (some (.cs false 7 (setN [v'] 3 t)))) := by
  obtain ⟨x2, n2, g2, g3⟩ := push2b hM2
  have l2 := x2.lo
  have hlo := h.lo
  have hbn := h.bn
  have hlen := h.len
  have hrow : RowAt M2 3 (.sl (M.n + 1) 0 1 0) [[.i .i64 (i : Int), .sl M.n 0 (dbR n i).2.1.length 0, .i .i64 0]] := by
    rw [← hM2]
    exact row_one (M := M.push _) (sz := 3) rfl
  have ho := h.own.ext x2
  obtain ⟨v', M3, e1, e2, e3, e4, e5, e6⟩ := app_row (bytes := 40) ho hrow (by omega) (by omega) (fun e he => by rw [List.mem_singleton.1 he]; rfl) (by rw [List.length_singleton]; omega) (by rw [List.length_singleton]; omega)
  obtain ⟨t, ht1, ht2⟩ := h.box
  have hg := (x2.old b hbn).trans ht1
  have h7 : M3.get b = some (.cs false 7 t) := by rw [e6 b (by omega) (by omega)]; exact hg
  have hne : ∀ j s c, s ≠ 3 → M2.get j = some (.cs false s c) → ∀ a b n d, v = .sl a b n d → a ≠ j := fun j s c hs hj a b' n' d e => by
    obtain ⟨_, ⟨rfl, _⟩ | ⟨id, c', rfl, k1, _, _, _⟩⟩ := ho
    · cases e
    · injection e with ea
      subst ea
      intro e'
      subst e'
      rw [hj] at k1
      injection k1 with k1
      injection k1 with _ k1
      exact hs k1
  have keep : ∀ id l, IntsAt M2 id l → id < M2.n → IntsAt (M3.set b (some (.cs false 7 (setN [v'] 3 t)))) id l := fun id l hI hid => by
    obtain ⟨c, hc, _⟩ := show ∃ t, M2.get id = some (.cs false 1 t) ∧ _ from hI
    have hb : id ≠ b := fun e => by
      subst e
      rw [hg] at hc
      injection hc with hc
      injection hc with _ hc
      cases hc
    refine hI.same ?_
    rw [set_ne hb, e5 id hid (hne id 1 c (by decide) hc)]
  have hsl := RowAt.sl e2.row
  refine ⟨v', M3, t, e1, h7, ht2, by omega, hsl.1, ⟨⟨_, set_same _ _, ?_⟩, by rw [set_n]; omega, by rw [set_lo]; omega, ?_, by rw [List.length_append, hlen]; rfl, fun k e he => ?_⟩, fun M0 hx0 hb0 => ⟨by rw [set_n]; have := hx0.n; omega, by rw [set_lo, e4, l2]; exact hx0.lo, fun j hj => ?_⟩⟩
  · have := ht2.set' 3 v' (by simp) (k := 3) rfl
    exact this
  · refine e2.keep (Nat.le_of_eq rfl) fun a b' n' d e => set_ne fun e' => ?_
    obtain ⟨_, ⟨rfl, hc⟩ | ⟨id, c', rfl, k1, k2, _, _⟩⟩ := e2
    · cases e
    · injection e with ea
      subst ea
      omega
  · by_cases hk : k < es.length
    · rw [List.getElem?_append_left hk] at he
      obtain ⟨id, k1, k2, k3⟩ := h.at_ k e he
      exact ⟨id, k1, keep id _ (k2.same (x2.old id k3)) (by omega), by rw [set_n]; omega⟩
    · rw [List.getElem?_append_right (by omega)] at he
      have hk2 : k - es.length = 0 := by
        have := (List.getElem?_eq_some_iff.1 he).1
        simp at this
        omega
      rw [hk2] at he
      simp only [List.getElem?_cons_zero, Option.some.injEq] at he
      have hki : k = i := by omega
      subst hki
      refine ⟨M.n, he.symm, keep M.n _ ⟨_, g2, at_ofL _⟩ (by omega), by rw [set_n]; omega⟩
  · have := hx0.n
    rw [set_ne (by omega), e6 j (by omega) (by omega), x2.old j (by omega)]
    exact hx0.old j hj
theorem row0 {M : MH} {sz : Nat} : RowAt M sz .nils [] := ⟨fun e h => by simp at h, .inl ⟨rfl, rfl⟩⟩
theorem db_gr {b : Nat} {M : MH} {n : Nat} {v : MV} {es : List (List MV)} (h : DbSt b M n n v es) (hn : n ≤ 40) : GrAt M v .nils .nils .nils es (dbG n) := by
  have hlen : (dbG n).rules.length = n := by show ((List.range n).map (dbR n)).length = n; rw [List.length_map, List.length_range]
  refine ⟨⟨h.own.row, by rw [hlen]; exact h.len, fun k e r he hr => ?_⟩, row0, row0, row0, ?_⟩
  · have hk : k < n := by
      have := (List.getElem?_eq_some_iff.1 he).1
      have := h.len
      omega
    rw [db_rules hk] at hr
    injection hr with hr
    subst hr
    obtain ⟨id, rfl, k2, k3⟩ := h.at_ k e he
    exact ⟨_, rfl, k2.row k3⟩
  · have w1 : Wf64 (1 : Int) := ⟨by decide, by decide⟩
    have w0 : Wf64 (0 : Int) := ⟨by decide, by decide⟩
    refine ⟨⟨by show -9223372036854775808 ≤ (n : Int); omega, by show (n : Int) ≤ 9223372036854775807; omega⟩, w1, w0, fun r hr => ?_, (fun f hf => by cases hf), (fun z hz => by cases hz), (fun z hz => by cases hz), ⟨by rw [hlen]; omega, Nat.zero_le _, Nat.zero_le _, Nat.zero_le _⟩⟩
    obtain ⟨k, hk, rfl⟩ := List.mem_map.1 hr
    have hk := List.mem_range.1 hk
    unfold dbR
    simp only
    refine ⟨⟨by omega, by omega⟩, fun z hz => ?_, ⟨by decide, by decide⟩, ?_⟩
    · split at hz
      · simp only [List.mem_cons, List.not_mem_nil, or_false, or_self] at hz
        subst hz
        exact ⟨by omega, by omega⟩
      · rw [List.mem_singleton.1 hz]
        exact ⟨by decide, by decide⟩
    · split <;> simp
theorem st_sl {v : MV} (h : isSl v = true) : stOk 1 v = true := by
  unfold stOk
  rw [isSl_cells h, isSl_isU h]
  simp only [all_cons, all_nil, isSl_one h]
  rfl
theorem law_doubles {M : MH} {z : Int} (hlo : M.lo ≤ M.n) (ha : ∀ M', Ext M M' → Cp fns 6 [] M' fun m M2 => m = .b true ∧ M2 = M') : Cp fns 5 [.i .i64 z] M fun m _ => m = .b true := by
  refine Cp_call (fn := F5) (by kernel_rfl) (Nat.le_of_ble_eq_true rfl) ?_
  show Wp fns B5 (T.set q0 (some (.i .i64 z)) T.lf) M _
  unfold B5
  simp (maxSteps := 4000000) (disch := first | omega | assumption | (simp only [bxS, bxV, stOk, Nat.reduceBEq, Nat.reduceEqDiff, Nat.reduceAdd]; done) | (simp only [bxU]; omega) | ((try apply has_setN); apply has_ofL; simp only [bxL]; omega)) only [↓bxD, bxP, bxQ, bxQ2, Nat.reduceBEq, reduceCtorEq, Nat.reduceAdd, Nat.reduceSub, Nat.reduceMul, Nat.reduceLeDiff, Nat.reduceLT, bxR]
  refine bindP_call (ha _ (.refl _)) ?_
  rintro m M2 ⟨rfl, rfl⟩
  by_cases z0 : z < 1
  · have d0 : decide (z < 1) = true := decide_eq_true z0
    simp (maxSteps := 4000000) (disch := first | omega | assumption | (simp only [bxS, bxV, stOk, Nat.reduceBEq, Nat.reduceEqDiff, Nat.reduceAdd]; done) | (simp only [bxU]; omega) | ((try apply has_setN); apply has_ofL; simp only [bxL]; omega)) only [↓bxD, bxP, bxQ, bxQ2, Nat.reduceBEq, reduceCtorEq, Nat.reduceAdd, Nat.reduceSub, Nat.reduceMul, Nat.reduceLeDiff, Nat.reduceLT, bxR, d0]
  have d0 : decide (z < 1) = false := decide_eq_false z0
  by_cases z1 : 40 < z
  · have d1 : decide (40 < z) = true := decide_eq_true z1
    simp (maxSteps := 4000000) (disch := first | omega | assumption | (simp only [bxS, bxV, stOk, Nat.reduceBEq, Nat.reduceEqDiff, Nat.reduceAdd]; done) | (simp only [bxU]; omega) | ((try apply has_setN); apply has_ofL; simp only [bxL]; omega)) only [↓bxD, bxP, bxQ, bxQ2, Nat.reduceBEq, reduceCtorEq, Nat.reduceAdd, Nat.reduceSub, Nat.reduceMul, Nat.reduceLeDiff, Nat.reduceLT, bxR, d0, d1]
  have d1 : decide (40 < z) = false := decide_eq_false z1
  obtain ⟨n, rfl⟩ : ∃ n : Nat, z = n := ⟨z.toNat, by omega⟩
  have hf1 : fillM [(0, 1, MV.i .i64 (n : Int)), (1, 1, .i .i64 1)] [MV.i .i64 0, .i .i64 0, .i .i64 0, .nils, .nils, .nils, .nils] = some [.i .i64 (n : Int), .i .i64 1, .i .i64 0, .nils, .nils, .nils, .nils] := rfl
  simp (maxSteps := 4000000) (disch := first | omega | assumption | (simp only [bxS, bxV, stOk, Nat.reduceBEq, Nat.reduceEqDiff, Nat.reduceAdd]; done) | (simp only [bxU]; omega) | ((try apply has_setN); apply has_ofL; simp only [bxL]; omega)) only [↓bxD, bxP, bxQ, bxQ2, Nat.reduceBEq, reduceCtorEq, Nat.reduceAdd, Nat.reduceSub, Nat.reduceMul, Nat.reduceLeDiff, Nat.reduceLT, bxR, d0, d1, hf1]
  show Wp fns K5_10 _ _ _
  unfold K5_10
  simp (maxSteps := 4000000) (disch := first | omega | assumption | (simp only [bxS, bxV, stOk, Nat.reduceBEq, Nat.reduceEqDiff, Nat.reduceAdd]; done) | (simp only [bxU]; omega) | ((try apply has_setN); apply has_ofL; simp only [bxL]; omega)) only [↓bxD, bxP, bxQ, bxQ2, Nat.reduceBEq, reduceCtorEq, Nat.reduceAdd, Nat.reduceSub, Nat.reduceMul, Nat.reduceLeDiff, Nat.reduceLT, bxR, d0, d1, hf1]
  generalize hM1 : (M2.push _).set M2.n _ = M1
  have x1 : Ext M2 M1 := by rw [← hM1]; exact (Ext.push M2 _).set _ (Nat.le_refl _)
  have n1 : M1.n = M2.n + 1 := by rw [← hM1]; rfl
  have l1 := x1.lo
  have hD0 : DbSt M2.n M1 n 0 .nils [] := by
    refine ⟨⟨_, by rw [← hM1]; exact set_same _ _, at_setN _ _ _⟩, by omega, by omega, OwnRow.nil _ _ _, rfl, fun k e he => by simp at he⟩
  clear hM1
  refine Wp_inv (σ := Nat × MV × List (List MV)) (fun s f M' => Ext M2 M' ∧ s.1 + 1 ≤ n ∧ DbSt M2.n M' n s.1 s.2.1 s.2.2 ∧ X.ev f (.t q0) = .i .i64 (n : Int) ∧ X.ev f (.t q4) = .p M2.n 0 ∧ X.ev f (.t q5) = .i .i64 (s.1 : Int)) (fun s => n - s.1) ?_ (0, .nils, []) ?_
  · rintro ⟨i, v, es⟩ f M' ⟨hx, hi, hD, h0, h4, h5⟩
    simp only at hi hD h0 h4 h5
    simp only [q0, q4, q5] at h0 h4 h5
    obtain ⟨t0, hb0, hat0⟩ := hD.box
    have cv : cget t0 3 = some v := hat0 3 _ rfl
    have hlo' := hD.lo
    have hbn := hD.bn
    have hlx := hx.lo
    have wi : wrapF .i64 ((i : Int) + 1) = (i : Int) + 1 := wrap_in (by omega) (by omega)
    unfold L5_2
    by_cases hi' : i + 1 < n
    · have d2 : decide ((i : Int) + 1 < (n : Int)) = true := decide_eq_true (by omega)
      have hf2 : fillM [(0, 1, MV.i .i64 ((i : Int) + 1)), (1, 1, .i .i64 ((i : Int) + 1))] (zrow [MV.i .i64 0] 2) = some [.i .i64 ((i : Int) + 1), .i .i64 ((i : Int) + 1)] := rfl
      have hf3 : fillM [(0, 1, MV.i .i64 (i : Int)), (1, 1, .sl M'.n 0 2 0)] [MV.i .i64 0, .nils, .i .i64 0] = some [.i .i64 (i : Int), .sl M'.n 0 2 0, .i .i64 0] := rfl
      have hf4 : fillM [(0, 3, MV.ag [.i .i64 (i : Int), .sl M'.n 0 2 0, .i .i64 0])] [MV.i .i64 0, .nils, .i .i64 0] = some [.i .i64 (i : Int), .sl M'.n 0 2 0, .i .i64 0] := fill_ag rfl rfl
      have hdr : (dbR n i).2.1 = [((i + 1 : Nat) : Int), ((i + 1 : Nat) : Int)] := by unfold dbR; simp only; rw [if_pos hi']
      simp (maxSteps := 4000000) (disch := first | omega | assumption | (simp only [bxS, bxV, stOk, Nat.reduceBEq, Nat.reduceEqDiff, Nat.reduceAdd]; done) | (simp only [bxU]; omega) | ((try apply has_setN); apply has_ofL; simp only [bxL]; omega)) only [↓bxD, bxP, bxQ, bxQ2, Nat.reduceBEq, reduceCtorEq, Nat.reduceAdd, Nat.reduceSub, Nat.reduceMul, Nat.reduceLeDiff, Nat.reduceLT, bxR, h0, h4, h5, hb0, cv, d2, wi, hf2, hf3, hf4]
      show Wp fns K5_1 _ _ _
      unfold K5_1
      simp (maxSteps := 4000000) (disch := first | omega | assumption | (simp only [bxS, bxV, stOk, Nat.reduceBEq, Nat.reduceEqDiff, Nat.reduceAdd]; done) | (simp only [bxU]; omega) | ((try apply has_setN); apply has_ofL; simp only [bxL]; omega)) only [↓bxD, bxP, bxQ, bxQ2, Nat.reduceBEq, reduceCtorEq, Nat.reduceAdd, Nat.reduceSub, Nat.reduceMul, Nat.reduceLeDiff, Nat.reduceLT, bxR, h0, h4, h5, hb0, cv, d2, wi, hf2, hf3, hf4]
      have hs := db_step (i := i) hD (by omega) (by omega) rfl
      have hl2 : (dbR n i).2.1.length = 2 := by rw [hdr]; rfl
      rw [hl2, hdr] at hs
      obtain ⟨v', M3, t, e1, e2, e3, e4, e5, e6, e7⟩ := hs
      refine bindP_of e1 ?_
      have hst := st_sl e5
      have hb3 : hasB t 1 3 = true := has_at e3 (Nat.zero_le _) (by simp)
      have hcl := isSl_cells e5
      simp (maxSteps := 4000000) (disch := first | omega | assumption | (simp only [bxS, bxV, stOk, Nat.reduceBEq, Nat.reduceEqDiff, Nat.reduceAdd]; done) | (simp only [bxU]; omega) | ((try apply has_setN); apply has_ofL; simp only [bxL]; omega)) only [↓bxD, bxP, bxQ, bxQ2, Nat.reduceBEq, reduceCtorEq, Nat.reduceAdd, Nat.reduceSub, Nat.reduceMul, Nat.reduceLeDiff, Nat.reduceLT, bxR, h0, h4, h5, hb0, cv, d2, wi, hf2, hf3, hf4, e2, hb3, hcl]
      show Wp fns K5_0 _ _ _
      unfold K5_0
      simp (maxSteps := 4000000) (disch := first | omega | assumption | (simp only [bxS, bxV, stOk, Nat.reduceBEq, Nat.reduceEqDiff, Nat.reduceAdd]; done) | (simp only [bxU]; omega) | ((try apply has_setN); apply has_ofL; simp only [bxL]; omega)) only [↓bxD, bxP, bxQ, bxQ2, Nat.reduceBEq, reduceCtorEq, Nat.reduceAdd, Nat.reduceSub, Nat.reduceMul, Nat.reduceLeDiff, Nat.reduceLT, bxR, h0, h4, h5, hb0, cv, d2, wi, hf2, hf3, hf4]
      refine ⟨(i + 1, v', es ++ [[.i .i64 (i : Int), .sl M'.n 0 2 0, .i .i64 0]]), by simp only; omega, e7 _ hx (Nat.le_refl _), by simp only; omega, e6, rfl⟩
    · have d2 : decide ((i : Int) + 1 < (n : Int)) = false := decide_eq_false (by omega)
      obtain rfl : n = i + 1 := by omega
      have ws : wrapF .i64 (((i + 1 : Nat) : Int) - 1) = (i : Int) := by rw [wrap_in (by omega) (by omega)]; omega
      have hf2 : fillM [(0, 1, MV.i .i64 (Int.negSucc 0))] [MV.i .i64 0] = some [.i .i64 (Int.negSucc 0)] := rfl
      have hf3 : fillM [(0, 1, MV.i .i64 (i : Int)), (1, 1, .sl M'.n 0 1 0)] [MV.i .i64 0, .nils, .i .i64 0] = some [.i .i64 (i : Int), .sl M'.n 0 1 0, .i .i64 0] := rfl
      have hf4 : fillM [(0, 3, MV.ag [.i .i64 (i : Int), .sl M'.n 0 1 0, .i .i64 0])] [MV.i .i64 0, .nils, .i .i64 0] = some [.i .i64 (i : Int), .sl M'.n 0 1 0, .i .i64 0] := fill_ag rfl rfl
      have hdr : (dbR (i + 1) i).2.1 = [-1] := by unfold dbR; simp only; rw [if_neg (by omega)]
      simp (maxSteps := 4000000) (disch := first | omega | assumption | (simp only [bxS, bxV, stOk, Nat.reduceBEq, Nat.reduceEqDiff, Nat.reduceAdd]; done) | (simp only [bxU]; omega) | ((try apply has_setN); apply has_ofL; simp only [bxL]; omega)) only [↓bxD, bxP, bxQ, bxQ2, Nat.reduceBEq, reduceCtorEq, Nat.reduceAdd, Nat.reduceSub, Nat.reduceMul, Nat.reduceLeDiff, Nat.reduceLT, bxR, h0, h4, h5, hb0, cv, d2, wi, ws, hf2, hf3, hf4]
      show Wp fns K5_9 _ _ _
      unfold K5_9
      simp (maxSteps := 4000000) (disch := first | omega | assumption | (simp only [bxS, bxV, stOk, Nat.reduceBEq, Nat.reduceEqDiff, Nat.reduceAdd]; done) | (simp only [bxU]; omega) | ((try apply has_setN); apply has_ofL; simp only [bxL]; omega)) only [↓bxD, bxP, bxQ, bxQ2, Nat.reduceBEq, reduceCtorEq, Nat.reduceAdd, Nat.reduceSub, Nat.reduceMul, Nat.reduceLeDiff, Nat.reduceLT, bxR, h0, h4, h5, hb0, cv, d2, wi, ws, hf2, hf3, hf4]
      have hs := db_step (i := i) hD (by omega) (by omega) rfl
      have hl2 : (dbR (i + 1) i).2.1.length = 1 := by rw [hdr]; rfl
      rw [hl2, hdr] at hs
      obtain ⟨v', M3, t, e1, e2, e3, e4, e5, e6, e7⟩ := hs
      refine bindP_of e1 ?_
      have hst := st_sl e5
      have hb3 : hasB t 1 3 = true := has_at e3 (Nat.zero_le _) (by simp)
      have hcl := isSl_cells e5
      have e8 := e7 _ hx (Nat.le_refl _)
      have hgn : Ev.getN (setN [v'] 3 t) 7 0 = some [.i .i64 ((i + 1 : Nat) : Int), .i .i64 1, .i .i64 0, v', .nils, .nils, .nils] := (e3.set' 3 v' (by simp) (k := 3) rfl).getN
      have hgr := db_gr e6 (by omega)
      have hll := e8.lo
      have hlo3 := e6.lo
      have hbn3 := e6.bn
      simp (maxSteps := 4000000) (disch := first | omega | assumption | (simp only [bxS, bxV, stOk, Nat.reduceBEq, Nat.reduceEqDiff, Nat.reduceAdd]; done) | (simp only [bxU]; omega) | ((try apply has_setN); apply has_ofL; simp only [bxL]; omega)) only [↓bxD, bxP, bxQ, bxQ2, Nat.reduceBEq, reduceCtorEq, Nat.reduceAdd, Nat.reduceSub, Nat.reduceMul, Nat.reduceLeDiff, Nat.reduceLT, bxR, h0, h4, h5, hb0, cv, d2, wi, ws, hf2, hf3, hf4, e2, hb3, hcl, hgn]
      generalize M3.set M2.n (some (.cs false 7 (setN [v'] 3 t))) = M4 at *
      refine bindP_call (pshortest_any hgr (by omega)) ?_
      rintro m M5 ⟨x5, ⟨hne, _⟩ | ⟨_, l, h1, h2⟩⟩
      · exact absurd (by rw [db_form (i + 1) (by omega) (by omega)]) hne
      have hin := h1.inn (form_ok (by rw [db_form (i + 1) (by omega) (by omega)]))
      have hllen : l.length = i + 1 := hin.len
      obtain ⟨hs1, hs2⟩ := h2.sl
      rw [hllen] at hs2
      have hval := db_val (n := i + 1) ⟨by omega, by omega⟩ h1
      have dne : decide (¬ True) = false := rfl
      simp (maxSteps := 4000000) (disch := first | omega | assumption | (simp only [bxS, bxV, stOk, Nat.reduceBEq, Nat.reduceEqDiff, Nat.reduceAdd]; done) | (simp only [bxU]; omega) | ((try apply has_setN); apply has_ofL; simp only [bxL]; omega)) only [↓bxD, bxP, bxQ, bxQ2, Nat.reduceBEq, reduceCtorEq, Nat.reduceAdd, Nat.reduceSub, Nat.reduceMul, Nat.reduceLeDiff, Nat.reduceLT, bxR, h0, hs1, hs2, ws, dne, decide_false, not_true_eq_false, ne_eq]
      show Wp fns K5_8 _ _ _
      unfold K5_8
      simp (maxSteps := 4000000) (disch := first | omega | assumption | (simp only [bxS, bxV, stOk, Nat.reduceBEq, Nat.reduceEqDiff, Nat.reduceAdd]; done) | (simp only [bxU]; omega) | ((try apply has_setN); apply has_ofL; simp only [bxL]; omega)) only [↓bxD, bxP, bxQ, bxQ2, Nat.reduceBEq, reduceCtorEq, Nat.reduceAdd, Nat.reduceSub, Nat.reduceMul, Nat.reduceLeDiff, Nat.reduceLT, bxR, h0, hs1, hs2, ws, dne, decide_false, not_true_eq_false, ne_eq]
      refine Wp_inv (σ := Nat) (fun d f M' => M' = M5 ∧ d ≤ i + 1 ∧ X.ev f (.t q6) = m ∧ X.ev f (.t q7) = .i .i64 (dbV d) ∧ X.ev f (.t q8) = .i .i64 ((i : Int) - (d : Int))) (fun d => i + 1 - d) ?_ 0 ?_
      · rintro d f M' ⟨rfl, hd, h6, h7, h8⟩
        simp only [q6, q7, q8] at h6 h7 h8
        unfold L5_6
        have hdv := dbV_pos d
        unfold mostZ at hdv
        by_cases hd1 : d < i + 1
        · have d3 : decide (0 ≤ (i : Int) - (d : Int)) = true := decide_eq_true (by omega)
          obtain ⟨k, hk⟩ : ∃ k : Nat, (i : Int) - (d : Int) = k := ⟨i - d, by omega⟩
          have hv := hval d hd1
          rw [show i + 1 - 1 - d = k from by omega] at hv
          obtain ⟨ro, sz, tt, hg, hid, hC⟩ := h2.read hv
          have dk : decide (0 ≤ (k : Int)) = true := decide_eq_true (by omega)
          have wm : wrapF .i64 (2 * dbV d) = 2 * dbV d := wrap_in (by omega) (by omega)
          have wk : wrapF .i64 ((k : Int) - 1) = (k : Int) - 1 := wrap_in (by omega) (by omega)
          have hsucc := dbV_succ d
          unfold mostZ at hsucc
          by_cases hb : 1000000000 < 2 * dbV d
          · have db : decide (1000000000 < 2 * dbV d) = true := decide_eq_true hb
            simp (maxSteps := 4000000) (disch := first | omega | assumption | (simp only [bxS, bxV, stOk, Nat.reduceBEq, Nat.reduceEqDiff, Nat.reduceAdd]; done) | (simp only [bxU]; omega) | ((try apply has_setN); apply has_ofL; simp only [bxL]; omega)) only [↓bxD, bxP, bxQ, bxQ2, Nat.reduceBEq, reduceCtorEq, Nat.reduceAdd, Nat.reduceSub, Nat.reduceMul, Nat.reduceLeDiff, Nat.reduceLT, bxR, h6, h7, h8, hk, dk, hs1, hs2, hg, hC, dne, decide_false, not_true_eq_false, ne_eq, wm, wk, db]
            show Wp fns K5_5 _ _ _
            unfold K5_5
            simp (maxSteps := 4000000) (disch := first | omega | assumption | (simp only [bxS, bxV, stOk, Nat.reduceBEq, Nat.reduceEqDiff, Nat.reduceAdd]; done) | (simp only [bxU]; omega) | ((try apply has_setN); apply has_ofL; simp only [bxL]; omega)) only [↓bxD, bxP, bxQ, bxQ2, Nat.reduceBEq, reduceCtorEq, Nat.reduceAdd, Nat.reduceSub, Nat.reduceMul, Nat.reduceLeDiff, Nat.reduceLT, bxR, h6, h7, h8, hk, dk, hs1, hs2, hg, hC, dne, decide_false, not_true_eq_false, ne_eq, wm, wk, db]
            show Wp fns K5_3 _ _ _
            unfold K5_3
            simp (maxSteps := 4000000) (disch := first | omega | assumption | (simp only [bxS, bxV, stOk, Nat.reduceBEq, Nat.reduceEqDiff, Nat.reduceAdd]; done) | (simp only [bxU]; omega) | ((try apply has_setN); apply has_ofL; simp only [bxL]; omega)) only [↓bxD, bxP, bxQ, bxQ2, Nat.reduceBEq, reduceCtorEq, Nat.reduceAdd, Nat.reduceSub, Nat.reduceMul, Nat.reduceLeDiff, Nat.reduceLT, bxR, h6, h7, h8, hk, dk, hs1, hs2, hg, hC, dne, decide_false, not_true_eq_false, ne_eq, wm, wk, db]
            show Wp fns K5_4 _ _ _
            unfold K5_4
            simp (maxSteps := 4000000) (disch := first | omega | assumption | (simp only [bxS, bxV, stOk, Nat.reduceBEq, Nat.reduceEqDiff, Nat.reduceAdd]; done) | (simp only [bxU]; omega) | ((try apply has_setN); apply has_ofL; simp only [bxL]; omega)) only [↓bxD, bxP, bxQ, bxQ2, Nat.reduceBEq, reduceCtorEq, Nat.reduceAdd, Nat.reduceSub, Nat.reduceMul, Nat.reduceLeDiff, Nat.reduceLT, bxR, h6, h7, h8, hk, dk, hs1, hs2, hg, hC, dne, decide_false, not_true_eq_false, ne_eq, wm, wk, db]
            exact ⟨d + 1, by omega, by omega, congrArg (MV.i .i64) (by omega), congrArg (MV.i .i64) (by omega)⟩
          · have db : decide (1000000000 < 2 * dbV d) = false := decide_eq_false hb
            simp (maxSteps := 4000000) (disch := first | omega | assumption | (simp only [bxS, bxV, stOk, Nat.reduceBEq, Nat.reduceEqDiff, Nat.reduceAdd]; done) | (simp only [bxU]; omega) | ((try apply has_setN); apply has_ofL; simp only [bxL]; omega)) only [↓bxD, bxP, bxQ, bxQ2, Nat.reduceBEq, reduceCtorEq, Nat.reduceAdd, Nat.reduceSub, Nat.reduceMul, Nat.reduceLeDiff, Nat.reduceLT, bxR, h6, h7, h8, hk, dk, hs1, hs2, hg, hC, dne, decide_false, not_true_eq_false, ne_eq, wm, wk, db]
            show Wp fns K5_5 _ _ _
            unfold K5_5
            simp (maxSteps := 4000000) (disch := first | omega | assumption | (simp only [bxS, bxV, stOk, Nat.reduceBEq, Nat.reduceEqDiff, Nat.reduceAdd]; done) | (simp only [bxU]; omega) | ((try apply has_setN); apply has_ofL; simp only [bxL]; omega)) only [↓bxD, bxP, bxQ, bxQ2, Nat.reduceBEq, reduceCtorEq, Nat.reduceAdd, Nat.reduceSub, Nat.reduceMul, Nat.reduceLeDiff, Nat.reduceLT, bxR, h6, h7, h8, hk, dk, hs1, hs2, hg, hC, dne, decide_false, not_true_eq_false, ne_eq, wm, wk, db]
            show Wp fns K5_3 _ _ _
            unfold K5_3
            simp (maxSteps := 4000000) (disch := first | omega | assumption | (simp only [bxS, bxV, stOk, Nat.reduceBEq, Nat.reduceEqDiff, Nat.reduceAdd]; done) | (simp only [bxU]; omega) | ((try apply has_setN); apply has_ofL; simp only [bxL]; omega)) only [↓bxD, bxP, bxQ, bxQ2, Nat.reduceBEq, reduceCtorEq, Nat.reduceAdd, Nat.reduceSub, Nat.reduceMul, Nat.reduceLeDiff, Nat.reduceLT, bxR, h6, h7, h8, hk, dk, hs1, hs2, hg, hC, dne, decide_false, not_true_eq_false, ne_eq, wm, wk, db]
            show Wp fns K5_4 _ _ _
            unfold K5_4
            simp (maxSteps := 4000000) (disch := first | omega | assumption | (simp only [bxS, bxV, stOk, Nat.reduceBEq, Nat.reduceEqDiff, Nat.reduceAdd]; done) | (simp only [bxU]; omega) | ((try apply has_setN); apply has_ofL; simp only [bxL]; omega)) only [↓bxD, bxP, bxQ, bxQ2, Nat.reduceBEq, reduceCtorEq, Nat.reduceAdd, Nat.reduceSub, Nat.reduceMul, Nat.reduceLeDiff, Nat.reduceLT, bxR, h6, h7, h8, hk, dk, hs1, hs2, hg, hC, dne, decide_false, not_true_eq_false, ne_eq, wm, wk, db]
            exact ⟨d + 1, by omega, by omega, congrArg (MV.i .i64) (by omega), congrArg (MV.i .i64) (by omega)⟩
        · have hdi : d = i + 1 := by omega
          subst hdi
          have d3 : decide (0 ≤ (i : Int) - ((i + 1 : Nat) : Int)) = false := decide_eq_false (by omega)
          simp (maxSteps := 4000000) (disch := first | omega | assumption | (simp only [bxS, bxV, stOk, Nat.reduceBEq, Nat.reduceEqDiff, Nat.reduceAdd]; done) | (simp only [bxU]; omega) | ((try apply has_setN); apply has_ofL; simp only [bxL]; omega)) only [↓bxD, bxP, bxQ, bxQ2, Nat.reduceBEq, reduceCtorEq, Nat.reduceAdd, Nat.reduceSub, Nat.reduceMul, Nat.reduceLeDiff, Nat.reduceLT, bxR, h6, h7, h8, d3]
          show Wp fns K5_7 _ _ _
          unfold K5_7
          simp (maxSteps := 4000000) (disch := first | omega | assumption | (simp only [bxS, bxV, stOk, Nat.reduceBEq, Nat.reduceEqDiff, Nat.reduceAdd]; done) | (simp only [bxU]; omega) | ((try apply has_setN); apply has_ofL; simp only [bxL]; omega)) only [↓bxD, bxP, bxQ, bxQ2, Nat.reduceBEq, reduceCtorEq, Nat.reduceAdd, Nat.reduceSub, Nat.reduceMul, Nat.reduceLeDiff, Nat.reduceLT, bxR, h6, h7, h8, d3]
      · exact ⟨rfl, Nat.zero_le _, by simp only [bxP, bxQ, bxQ2, reduceCtorEq, h0, hs1, hs2, ws, dne, decide_false, not_true_eq_false, ne_eq], by simp only [bxP, bxQ, bxQ2, reduceCtorEq, h0, hs1, hs2, ws, dne, decide_false, not_true_eq_false, ne_eq] <;> rfl, by simp only [bxP, bxQ, bxQ2, reduceCtorEq, h0, hs1, hs2, ws, dne, decide_false, not_true_eq_false, ne_eq] <;> rfl⟩
  · exact ⟨x1, by omega, hD0, by simp only [bxP, bxQ, bxQ2, reduceCtorEq, d0, d1, hf1], by simp only [bxP, bxQ, bxQ2, reduceCtorEq, d0, d1, hf1], by simp only [bxP, bxQ, bxQ2, reduceCtorEq, d0, d1, hf1] <;> rfl⟩
end Go.Proofs.Ytlmmmchkhaidjaa.K
set_option linter.unusedSimpArgs false
set_option linter.unusedVariables false
set_option maxRecDepth 100000
namespace Go.Proofs.Ytlmmmchkhaidjaa.Ev
open Go
theorem wf_of {z : Int} (h : (Lit.int .i64 z).wf = true) : Wf64 z := by
  simp only [Lit.wf, Bool.and_eq_true, decide_eq_true_eq] at h
  exact h
variable {P : Program} {M : MH}
theorem typed_int {n : Nat} {e : TypeId} (hu : P.underlying e = some (.int .i64)) {x : List MV} (h : Typed P M n e x) : ∃ z, x = [.i .i64 z] ∧ Wf64 z := by
  cases n with
  | zero => exact h.elim
  | succ n =>
    simp only [Typed, hu] at h
    obtain ⟨z, rfl, hz⟩ := h
    exact ⟨z, rfl, wf_of hz⟩
end Go.Proofs.Ytlmmmchkhaidjaa.Ev
namespace Go.Proofs.Ytlmmmchkhaidjaa
open Go Ev
end Go.Proofs.Ytlmmmchkhaidjaa
set_option linter.unusedSimpArgs false
set_option linter.unusedVariables false
namespace Go.Proofs.Ytlmmmchkhaidjaa.K
open Go Ev
set_option maxRecDepth 100000
set_option maxHeartbeats 4000000

theorem Cp_true {fns : Nat → Option IFn} {g : Nat} {M : MH} (hg : fns g = some Ftrue) : Cp fns g [] M fun m M' => m = .b true ∧ M' = M := by
  refine Cp_call hg (Nat.le_refl _) ?_
  show Wp fns (.reg [⟨some (.k1 .d0), none, .mov (.c (.b true))⟩]) _ M _
  simp only [Wp_reg_iff, Wl_op_iff, Wl_nil_iff, bindP_some, ev_mov, ev_c, setD_some, retQ_norm, show Ftrue.res = [.tmp (.k1 .d0)] from rfl, resL_1, res_set, if_true, Option.some.injEq, exists_eq_left']
  simp [packM]
theorem int_of {M : MH} {m : MV} (h : ArgTyped Try.prog M 3 m) : ∃ z, m = .i .i64 z ∧ Wf64 z := by
  obtain ⟨n, cs, h1, h2⟩ := h
  simp only [Try.underlying3] at h2
  subst h2
  obtain ⟨z, e, hz⟩ := typed_int Try.underlying3 h1
  injection e with e _
  exact ⟨z, e, hz⟩
theorem doubles_model (M : MH) (ms : List MV) (hx : Ext Mz M) (hlo : M.lo ≤ M.n) (ha : ArgsTyped Try.prog M [3] ms) : Cp fns 5 ms M fun m _ => m = .b true := by
  obtain ⟨m, r, rfl, h, rfl⟩ := ha
  obtain ⟨z, rfl, hz⟩ := int_of h
  exact law_doubles hlo fun M' _ => Cp_true (by kernel_rfl)
end Go.Proofs.Ytlmmmchkhaidjaa.K
