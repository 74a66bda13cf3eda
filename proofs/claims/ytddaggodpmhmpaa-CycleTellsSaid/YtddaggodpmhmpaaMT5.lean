/-
  What the claim leans on, part 5: The program's Form: what is asked of the whole. Conditions: none. The program's Form gives what chapter 10 asks. Conditions: none. The program's shortest. Conditions: none. The program's shortest, Shortest and Productive. Conditions: none. The program's Nullable, and its one step. Conditions: none. Grammars where the bound of what may be written moves. Conditions: none. The program's one step, of each name. Conditions: none. The program's circles: any number of steps. Conditions: none. The document's Reachable. Conditions: none. The program's mark and Reachable. Conditions: none. The document'
-/
import Derived.Test.YtddaggodpmhmpaaMT4
import Derived.Test.YtddaggodpmhmpaaMT3
set_option linter.unusedSimpArgs false
set_option linter.unusedVariables false
namespace Go.Proofs.Ytddaggodpmhmpaa.K
open Go Ev
set_option maxRecDepth 100000
set_option maxHeartbeats 4000000

theorem wholeError_any {M : MH} {g : Gr} {vr vf vc vk : MV} {es : List (List MV)} (h : GrAt M vr vf vc vk es g) (hlo : M.lo ≤ M.n) :
    Cp fns 28 [.ag (gcs g vr vf vc vk)] M fun m M' => m = .i .i64 (numE (headE g)) ∧ Ext M M' := by
  obtain ⟨hr1, hr2⟩ := h.rules.row.sl
  rw [h.rules.len] at hr2
  obtain ⟨hf1, hf2⟩ := h.forbid.sl
  rw [List.length_map] at hf2
  obtain ⟨hc1, hc2⟩ := h.rc.sl
  obtain ⟨hk1, hk2⟩ := h.kc.sl
  obtain ⟨hw1, hw2, hw3, hw4⟩ := h.wf.lens
  refine Cp_call (fn := F28) (by kernel_rfl) (Nat.le_of_ble_eq_true rfl) ?_
  show Wp fns B28 (T.set q0 (some (.ag (gcs g vr vf vc vk))) T.lf) M _
  unfold B28
  rw [show gcs g vr vf vc vk = [MV.i IntKind.i64 g.names, MV.i IntKind.i64 g.kinds, MV.i IntKind.i64 g.start, vr, vf, vc, vk] from rfl]
  simp (maxSteps := 4000000) (disch := first | omega | assumption | (simp only [bxS, bxV, stOk, Nat.reduceBEq, Nat.reduceEqDiff, Nat.reduceAdd]; done) | (simp only [bxU]; omega) | ((try apply has_setN); apply has_ofL; simp only [bxL]; omega)) only [↓bxD, bxP, bxQ, Nat.reduceBEq, reduceCtorEq, Nat.reduceAdd, Nat.reduceSub, Nat.reduceMul, Nat.reduceLeDiff, Nat.reduceLT, bxR, hr1, hr2, hf1, hf2, hc1, hc2, hk1, hk2]
  generalize hM1 : M.push _ = M1
  have hb0 : M1.get M.n = some (.cs false 7 (ofL [MV.i IntKind.i64 g.names, MV.i IntKind.i64 g.kinds, MV.i IntKind.i64 g.start, vr, vf, vc, vk] 0)) := by rw [← hM1]; exact push_new _
  have hx1 : Ext M M1 := by rw [← hM1]; exact .push M _
  have hn1 : M1.n = M.n + 1 := by rw [← hM1]; rfl
  have hl1 := hx1.lo
  clear hM1
  have h1 := h.ext hx1
  have hq1 : ∀ (c : Prop) [Decidable c], c → decide c = true := fun c _ h => decide_eq_true h
  by_cases ca0 : g.names < 1
  · have da0 : decide (g.names < 1) = true := decide_eq_true ca0
    simp (maxSteps := 4000000) (disch := first | omega | assumption | (simp only [bxS, bxV, stOk, Nat.reduceBEq, Nat.reduceEqDiff, Nat.reduceAdd]; done) | (simp only [bxU]; omega) | ((try apply has_setN); apply has_ofL; simp only [bxL]; omega)) only [↓bxD, bxP, bxQ, Nat.reduceBEq, reduceCtorEq, Nat.reduceAdd, Nat.reduceSub, Nat.reduceMul, Nat.reduceLeDiff, Nat.reduceLT, bxR, hr1, hr2, hf1, hf2, hc1, hc2, hk1, hk2, hb0, da0]
    show Wp fns K28_1 _ _ _
    unfold K28_1
    simp (maxSteps := 4000000) (disch := first | omega | assumption | (simp only [bxS, bxV, stOk, Nat.reduceBEq, Nat.reduceEqDiff, Nat.reduceAdd]; done) | (simp only [bxU]; omega) | ((try apply has_setN); apply has_ofL; simp only [bxL]; omega)) only [↓bxD, bxP, bxQ, Nat.reduceBEq, reduceCtorEq, Nat.reduceAdd, Nat.reduceSub, Nat.reduceMul, Nat.reduceLeDiff, Nat.reduceLT, bxR, hr1, hr2, hf1, hf2, hc1, hc2, hk1, hk2, hb0, da0]
    exact ⟨by unfold headE; rw [if_pos (by omega)]; rfl, hx1⟩
  have da0 : decide (g.names < 1) = false := decide_eq_false ca0
  by_cases ca1 : 40 < g.names
  · have da1 : decide (40 < g.names) = true := decide_eq_true ca1
    simp (maxSteps := 4000000) (disch := first | omega | assumption | (simp only [bxS, bxV, stOk, Nat.reduceBEq, Nat.reduceEqDiff, Nat.reduceAdd]; done) | (simp only [bxU]; omega) | ((try apply has_setN); apply has_ofL; simp only [bxL]; omega)) only [↓bxD, bxP, bxQ, Nat.reduceBEq, reduceCtorEq, Nat.reduceAdd, Nat.reduceSub, Nat.reduceMul, Nat.reduceLeDiff, Nat.reduceLT, bxR, hr1, hr2, hf1, hf2, hc1, hc2, hk1, hk2, hb0, da0, da1]
    show Wp fns K28_1 _ _ _
    unfold K28_1
    simp (maxSteps := 4000000) (disch := first | omega | assumption | (simp only [bxS, bxV, stOk, Nat.reduceBEq, Nat.reduceEqDiff, Nat.reduceAdd]; done) | (simp only [bxU]; omega) | ((try apply has_setN); apply has_ofL; simp only [bxL]; omega)) only [↓bxD, bxP, bxQ, Nat.reduceBEq, reduceCtorEq, Nat.reduceAdd, Nat.reduceSub, Nat.reduceMul, Nat.reduceLeDiff, Nat.reduceLT, bxR, hr1, hr2, hf1, hf2, hc1, hc2, hk1, hk2, hb0, da0, da1]
    exact ⟨by unfold headE; rw [if_pos (by omega)]; rfl, hx1⟩
  have da1 : decide (40 < g.names) = false := decide_eq_false ca1
  by_cases ca2 : g.kinds < 0
  · have da2 : decide (g.kinds < 0) = true := decide_eq_true ca2
    simp (maxSteps := 4000000) (disch := first | omega | assumption | (simp only [bxS, bxV, stOk, Nat.reduceBEq, Nat.reduceEqDiff, Nat.reduceAdd]; done) | (simp only [bxU]; omega) | ((try apply has_setN); apply has_ofL; simp only [bxL]; omega)) only [↓bxD, bxP, bxQ, Nat.reduceBEq, reduceCtorEq, Nat.reduceAdd, Nat.reduceSub, Nat.reduceMul, Nat.reduceLeDiff, Nat.reduceLT, bxR, hr1, hr2, hf1, hf2, hc1, hc2, hk1, hk2, hb0, da0, da1, da2]
    show Wp fns K28_1 _ _ _
    unfold K28_1
    simp (maxSteps := 4000000) (disch := first | omega | assumption | (simp only [bxS, bxV, stOk, Nat.reduceBEq, Nat.reduceEqDiff, Nat.reduceAdd]; done) | (simp only [bxU]; omega) | ((try apply has_setN); apply has_ofL; simp only [bxL]; omega)) only [↓bxD, bxP, bxQ, Nat.reduceBEq, reduceCtorEq, Nat.reduceAdd, Nat.reduceSub, Nat.reduceMul, Nat.reduceLeDiff, Nat.reduceLT, bxR, hr1, hr2, hf1, hf2, hc1, hc2, hk1, hk2, hb0, da0, da1, da2]
    exact ⟨by unfold headE; rw [if_pos (by omega)]; rfl, hx1⟩
  have da2 : decide (g.kinds < 0) = false := decide_eq_false ca2
  by_cases ca3 : 40 < g.kinds
  · have da3 : decide (40 < g.kinds) = true := decide_eq_true ca3
    simp (maxSteps := 4000000) (disch := first | omega | assumption | (simp only [bxS, bxV, stOk, Nat.reduceBEq, Nat.reduceEqDiff, Nat.reduceAdd]; done) | (simp only [bxU]; omega) | ((try apply has_setN); apply has_ofL; simp only [bxL]; omega)) only [↓bxD, bxP, bxQ, Nat.reduceBEq, reduceCtorEq, Nat.reduceAdd, Nat.reduceSub, Nat.reduceMul, Nat.reduceLeDiff, Nat.reduceLT, bxR, hr1, hr2, hf1, hf2, hc1, hc2, hk1, hk2, hb0, da0, da1, da2, da3]
    show Wp fns K28_1 _ _ _
    unfold K28_1
    simp (maxSteps := 4000000) (disch := first | omega | assumption | (simp only [bxS, bxV, stOk, Nat.reduceBEq, Nat.reduceEqDiff, Nat.reduceAdd]; done) | (simp only [bxU]; omega) | ((try apply has_setN); apply has_ofL; simp only [bxL]; omega)) only [↓bxD, bxP, bxQ, Nat.reduceBEq, reduceCtorEq, Nat.reduceAdd, Nat.reduceSub, Nat.reduceMul, Nat.reduceLeDiff, Nat.reduceLT, bxR, hr1, hr2, hf1, hf2, hc1, hc2, hk1, hk2, hb0, da0, da1, da2, da3]
    exact ⟨by unfold headE; rw [if_pos (by omega)]; rfl, hx1⟩
  have da3 : decide (40 < g.kinds) = false := decide_eq_false ca3
  by_cases ca4 : (60 : Int) < (g.rules.length : Int)
  · have da4 : decide ((60 : Int) < (g.rules.length : Int)) = true := decide_eq_true ca4
    simp (maxSteps := 4000000) (disch := first | omega | assumption | (simp only [bxS, bxV, stOk, Nat.reduceBEq, Nat.reduceEqDiff, Nat.reduceAdd]; done) | (simp only [bxU]; omega) | ((try apply has_setN); apply has_ofL; simp only [bxL]; omega)) only [↓bxD, bxP, bxQ, Nat.reduceBEq, reduceCtorEq, Nat.reduceAdd, Nat.reduceSub, Nat.reduceMul, Nat.reduceLeDiff, Nat.reduceLT, bxR, hr1, hr2, hf1, hf2, hc1, hc2, hk1, hk2, hb0, da0, da1, da2, da3, da4]
    show Wp fns K28_1 _ _ _
    unfold K28_1
    simp (maxSteps := 4000000) (disch := first | omega | assumption | (simp only [bxS, bxV, stOk, Nat.reduceBEq, Nat.reduceEqDiff, Nat.reduceAdd]; done) | (simp only [bxU]; omega) | ((try apply has_setN); apply has_ofL; simp only [bxL]; omega)) only [↓bxD, bxP, bxQ, Nat.reduceBEq, reduceCtorEq, Nat.reduceAdd, Nat.reduceSub, Nat.reduceMul, Nat.reduceLeDiff, Nat.reduceLT, bxR, hr1, hr2, hf1, hf2, hc1, hc2, hk1, hk2, hb0, da0, da1, da2, da3, da4]
    exact ⟨by unfold headE; rw [if_pos (by omega)]; rfl, hx1⟩
  have da4 : decide ((60 : Int) < (g.rules.length : Int)) = false := decide_eq_false ca4
  by_cases ca5 : (200 : Int) < (g.forbid.length : Int)
  · have da5 : decide ((200 : Int) < (g.forbid.length : Int)) = true := decide_eq_true ca5
    simp (maxSteps := 4000000) (disch := first | omega | assumption | (simp only [bxS, bxV, stOk, Nat.reduceBEq, Nat.reduceEqDiff, Nat.reduceAdd]; done) | (simp only [bxU]; omega) | ((try apply has_setN); apply has_ofL; simp only [bxL]; omega)) only [↓bxD, bxP, bxQ, Nat.reduceBEq, reduceCtorEq, Nat.reduceAdd, Nat.reduceSub, Nat.reduceMul, Nat.reduceLeDiff, Nat.reduceLT, bxR, hr1, hr2, hf1, hf2, hc1, hc2, hk1, hk2, hb0, da0, da1, da2, da3, da4, da5]
    show Wp fns K28_1 _ _ _
    unfold K28_1
    simp (maxSteps := 4000000) (disch := first | omega | assumption | (simp only [bxS, bxV, stOk, Nat.reduceBEq, Nat.reduceEqDiff, Nat.reduceAdd]; done) | (simp only [bxU]; omega) | ((try apply has_setN); apply has_ofL; simp only [bxL]; omega)) only [↓bxD, bxP, bxQ, Nat.reduceBEq, reduceCtorEq, Nat.reduceAdd, Nat.reduceSub, Nat.reduceMul, Nat.reduceLeDiff, Nat.reduceLT, bxR, hr1, hr2, hf1, hf2, hc1, hc2, hk1, hk2, hb0, da0, da1, da2, da3, da4, da5]
    exact ⟨by unfold headE; rw [if_pos (by omega)]; rfl, hx1⟩
  have da5 : decide ((200 : Int) < (g.forbid.length : Int)) = false := decide_eq_false ca5
  simp (maxSteps := 4000000) (disch := first | omega | assumption | (simp only [bxS, bxV, stOk, Nat.reduceBEq, Nat.reduceEqDiff, Nat.reduceAdd]; done) | (simp only [bxU]; omega) | ((try apply has_setN); apply has_ofL; simp only [bxL]; omega)) only [↓bxD, bxP, bxQ, Nat.reduceBEq, reduceCtorEq, Nat.reduceAdd, Nat.reduceSub, Nat.reduceMul, Nat.reduceLeDiff, Nat.reduceLT, bxR, hr1, hr2, hf1, hf2, hc1, hc2, hk1, hk2, hb0, da0, da1, da2, da3, da4, da5]
  show Wp fns K28_1 _ _ _
  unfold K28_1
  simp (maxSteps := 4000000) (disch := first | omega | assumption | (simp only [bxS, bxV, stOk, Nat.reduceBEq, Nat.reduceEqDiff, Nat.reduceAdd]; done) | (simp only [bxU]; omega) | ((try apply has_setN); apply has_ofL; simp only [bxL]; omega)) only [↓bxD, bxP, bxQ, Nat.reduceBEq, reduceCtorEq, Nat.reduceAdd, Nat.reduceSub, Nat.reduceMul, Nat.reduceLeDiff, Nat.reduceLT, bxR, hr1, hr2, hf1, hf2, hc1, hc2, hk1, hk2, hb0, da0, da1, da2, da3, da4, da5]
  have hh1 : ¬ (g.names < 1 ∨ 40 < g.names ∨ g.kinds < 0 ∨ 40 < g.kinds ∨ (60 : Int) < (g.rules.length : Int) ∨ (200 : Int) < (g.forbid.length : Int)) := by omega
  refine bindP_call number_any ?_
  rintro m M2 ⟨rfl, rfl⟩
  simp (maxSteps := 4000000) (disch := first | omega | assumption | (simp only [bxS, bxV, stOk, Nat.reduceBEq, Nat.reduceEqDiff, Nat.reduceAdd]; done) | (simp only [bxU]; omega) | ((try apply has_setN); apply has_ofL; simp only [bxL]; omega)) only [↓bxD, bxP, bxQ, Nat.reduceBEq, reduceCtorEq, Nat.reduceAdd, Nat.reduceSub, Nat.reduceMul, Nat.reduceLeDiff, Nat.reduceLT, bxR, hr1, hr2, hf1, hf2, hc1, hc2, hk1, hk2, hb0, da0, da1, da2, da3, da4, da5]
  cases cs : isN g.start g.names with
  | false =>
    simp (maxSteps := 4000000) (disch := first | omega | assumption | (simp only [bxS, bxV, stOk, Nat.reduceBEq, Nat.reduceEqDiff, Nat.reduceAdd]; done) | (simp only [bxU]; omega) | ((try apply has_setN); apply has_ofL; simp only [bxL]; omega)) only [↓bxD, bxP, bxQ, Nat.reduceBEq, reduceCtorEq, Nat.reduceAdd, Nat.reduceSub, Nat.reduceMul, Nat.reduceLeDiff, Nat.reduceLT, bxR, hr1, hr2, hf1, hf2, hc1, hc2, hk1, hk2, hb0, da0, da1, da2, da3, da4, da5, cs]
    unfold isN at cs
    simp only [Bool.and_eq_false_iff, decide_eq_false_iff_not] at cs
    exact ⟨by unfold headE; rw [if_neg hh1, if_pos (by omega)]; rfl, hx1⟩
  | true =>
  simp (maxSteps := 4000000) (disch := first | omega | assumption | (simp only [bxS, bxV, stOk, Nat.reduceBEq, Nat.reduceEqDiff, Nat.reduceAdd]; done) | (simp only [bxU]; omega) | ((try apply has_setN); apply has_ofL; simp only [bxL]; omega)) only [↓bxD, bxP, bxQ, Nat.reduceBEq, reduceCtorEq, Nat.reduceAdd, Nat.reduceSub, Nat.reduceMul, Nat.reduceLeDiff, Nat.reduceLT, bxR, hr1, hr2, hf1, hf2, hc1, hc2, hk1, hk2, hb0, cs]
  unfold isN at cs
  simp only [Bool.and_eq_true, decide_eq_true_eq] at cs
  refine bindP_call (areClasses_any h1.rc hw3) ?_
  rintro m M2 ⟨rfl, hx2⟩
  have hb2 := (hx2.old _ (by omega)).trans hb0
  have hn2 := hx2.n
  simp (maxSteps := 4000000) (disch := first | omega | assumption | (simp only [bxS, bxV, stOk, Nat.reduceBEq, Nat.reduceEqDiff, Nat.reduceAdd]; done) | (simp only [bxU]; omega) | ((try apply has_setN); apply has_ofL; simp only [bxL]; omega)) only [↓bxD, bxP, bxQ, Nat.reduceBEq, reduceCtorEq, Nat.reduceAdd, Nat.reduceSub, Nat.reduceMul, Nat.reduceLeDiff, Nat.reduceLT, bxR, hr1, hr2, hf1, hf2, hc1, hc2, hk1, hk2, hb2]
  have hh2 : headE g = if (g.rules.length : Int) < (g.rc.length : Int) ∨ g.kinds < (g.kc.length : Int) ∨ clsB g.rc = false ∨ clsB g.kc = false then some 1 else none := by
    unfold headE
    rw [if_neg hh1, if_neg (by omega)]
  cases e1 : (decide ((g.rc.length : Int) ≤ (g.rules.length : Int)) && clsB g.rc) with
  | false =>
    simp (maxSteps := 4000000) (disch := first | omega | assumption | (simp only [bxS, bxV, stOk, Nat.reduceBEq, Nat.reduceEqDiff, Nat.reduceAdd]; done) | (simp only [bxU]; omega) | ((try apply has_setN); apply has_ofL; simp only [bxL]; omega)) only [↓bxD, bxP, bxQ, Nat.reduceBEq, reduceCtorEq, Nat.reduceAdd, Nat.reduceSub, Nat.reduceMul, Nat.reduceLeDiff, Nat.reduceLT, bxR, hr1, hr2, hf1, hf2, hc1, hc2, hk1, hk2, hb2, e1]
    show Wp fns K28_0 _ _ _
    unfold K28_0
    simp (maxSteps := 4000000) (disch := first | omega | assumption | (simp only [bxS, bxV, stOk, Nat.reduceBEq, Nat.reduceEqDiff, Nat.reduceAdd]; done) | (simp only [bxU]; omega) | ((try apply has_setN); apply has_ofL; simp only [bxL]; omega)) only [↓bxD, bxP, bxQ, Nat.reduceBEq, reduceCtorEq, Nat.reduceAdd, Nat.reduceSub, Nat.reduceMul, Nat.reduceLeDiff, Nat.reduceLT, bxR, hr1, hr2, hf1, hf2, hc1, hc2, hk1, hk2, hb2]
    simp only [Bool.and_eq_false_iff, decide_eq_false_iff_not] at e1
    exact ⟨by rw [hh2, if_pos (by rcases e1 with e1 | e1; exact .inl (by omega); exact .inr (.inr (.inl e1)))]; rfl, hx1.trans hx2⟩
  | true =>
  simp (maxSteps := 4000000) (disch := first | omega | assumption | (simp only [bxS, bxV, stOk, Nat.reduceBEq, Nat.reduceEqDiff, Nat.reduceAdd]; done) | (simp only [bxU]; omega) | ((try apply has_setN); apply has_ofL; simp only [bxL]; omega)) only [↓bxD, bxP, bxQ, Nat.reduceBEq, reduceCtorEq, Nat.reduceAdd, Nat.reduceSub, Nat.reduceMul, Nat.reduceLeDiff, Nat.reduceLT, bxR, hr1, hr2, hf1, hf2, hc1, hc2, hk1, hk2, hb2, e1]
  refine bindP_call (areClasses_any (h1.kc.ext hx2) hw4) ?_
  rintro m M3 ⟨rfl, hx3⟩
  simp (maxSteps := 4000000) (disch := first | omega | assumption | (simp only [bxS, bxV, stOk, Nat.reduceBEq, Nat.reduceEqDiff, Nat.reduceAdd]; done) | (simp only [bxU]; omega) | ((try apply has_setN); apply has_ofL; simp only [bxL]; omega)) only [↓bxD, bxP, bxQ, Nat.reduceBEq, reduceCtorEq, Nat.reduceAdd, Nat.reduceSub, Nat.reduceMul, Nat.reduceLeDiff, Nat.reduceLT, bxR, hr1, hr2, hf1, hf2, hc1, hc2, hk1, hk2, hb2]
  simp only [Bool.and_eq_true, decide_eq_true_eq] at e1
  cases e2 : (decide ((g.kc.length : Int) ≤ g.kinds) && clsB g.kc) with
  | false =>
    simp (maxSteps := 4000000) (disch := first | omega | assumption | (simp only [bxS, bxV, stOk, Nat.reduceBEq, Nat.reduceEqDiff, Nat.reduceAdd]; done) | (simp only [bxU]; omega) | ((try apply has_setN); apply has_ofL; simp only [bxL]; omega)) only [↓bxD, bxP, bxQ, Nat.reduceBEq, reduceCtorEq, Nat.reduceAdd, Nat.reduceSub, Nat.reduceMul, Nat.reduceLeDiff, Nat.reduceLT, bxR, hr1, hr2, hf1, hf2, hc1, hc2, hk1, hk2, hb2, e2]
    show Wp fns K28_0 _ _ _
    unfold K28_0
    simp (maxSteps := 4000000) (disch := first | omega | assumption | (simp only [bxS, bxV, stOk, Nat.reduceBEq, Nat.reduceEqDiff, Nat.reduceAdd]; done) | (simp only [bxU]; omega) | ((try apply has_setN); apply has_ofL; simp only [bxL]; omega)) only [↓bxD, bxP, bxQ, Nat.reduceBEq, reduceCtorEq, Nat.reduceAdd, Nat.reduceSub, Nat.reduceMul, Nat.reduceLeDiff, Nat.reduceLT, bxR, hr1, hr2, hf1, hf2, hc1, hc2, hk1, hk2, hb2]
    simp only [Bool.and_eq_false_iff, decide_eq_false_iff_not] at e2
    exact ⟨by rw [hh2, if_pos (by rcases e2 with e2 | e2; exact .inr (.inl (by omega)); exact .inr (.inr (.inr e2)))]; rfl, (hx1.trans hx2).trans hx3⟩
  | true =>
  simp (maxSteps := 4000000) (disch := first | omega | assumption | (simp only [bxS, bxV, stOk, Nat.reduceBEq, Nat.reduceEqDiff, Nat.reduceAdd]; done) | (simp only [bxU]; omega) | ((try apply has_setN); apply has_ofL; simp only [bxL]; omega)) only [↓bxD, bxP, bxQ, Nat.reduceBEq, reduceCtorEq, Nat.reduceAdd, Nat.reduceSub, Nat.reduceMul, Nat.reduceLeDiff, Nat.reduceLT, bxR, hr1, hr2, hf1, hf2, hc1, hc2, hk1, hk2, hb2, e2]
  show Wp fns K28_0 _ _ _
  unfold K28_0
  simp (maxSteps := 4000000) (disch := first | omega | assumption | (simp only [bxS, bxV, stOk, Nat.reduceBEq, Nat.reduceEqDiff, Nat.reduceAdd]; done) | (simp only [bxU]; omega) | ((try apply has_setN); apply has_ofL; simp only [bxL]; omega)) only [↓bxD, bxP, bxQ, Nat.reduceBEq, reduceCtorEq, Nat.reduceAdd, Nat.reduceSub, Nat.reduceMul, Nat.reduceLeDiff, Nat.reduceLT, bxR, hr1, hr2, hf1, hf2, hc1, hc2, hk1, hk2, hb2]
  show Wp fns K28_2 _ _ _
  unfold K28_2
  simp (maxSteps := 4000000) (disch := first | omega | assumption | (simp only [bxS, bxV, stOk, Nat.reduceBEq, Nat.reduceEqDiff, Nat.reduceAdd]; done) | (simp only [bxU]; omega) | ((try apply has_setN); apply has_ofL; simp only [bxL]; omega)) only [↓bxD, bxP, bxQ, Nat.reduceBEq, reduceCtorEq, Nat.reduceAdd, Nat.reduceSub, Nat.reduceMul, Nat.reduceLeDiff, Nat.reduceLT, bxR, hr1, hr2, hf1, hf2, hc1, hc2, hk1, hk2, hb2]
  simp only [Bool.and_eq_true, decide_eq_true_eq] at e2
  refine ⟨?_, (hx1.trans hx2).trans hx3⟩
  rw [hh2, if_neg]
  · rfl
  · rintro (x | x | x | x)
    · omega
    · omega
    · rw [e1.2] at x; cases x
    · rw [e2.2] at x; cases x
theorem pform_forb {M0 M : MH} {g : Gr} {vr vf vc vk : MV} {es : List (List MV)} {f : Fr} (h : Rdy M0 M g vr vf vc vk es f) (hh : headE g = none) (hr : findE (ruleE g) g.rules 0 = none) : Wp fns K15_7 f M (retQ F15 (FormPost g M0)) := by
  have hq := h.fr
  have hbox := h.box
  obtain ⟨hf1, hf2⟩ := h.gr.forbid.sl
  rw [List.length_map] at hf2
  simp only [q1] at hq
  unfold gcs at hbox
  unfold K15_7
  simp (maxSteps := 4000000) (disch := first | omega | assumption | (simp only [bxS, bxV, stOk, Nat.reduceBEq, Nat.reduceEqDiff, Nat.reduceAdd]; done) | (simp only [bxU]; omega) | ((try apply has_setN); apply has_ofL; simp only [bxL]; omega)) only [↓bxD, bxP, bxQ, Nat.reduceBEq, reduceCtorEq, Nat.reduceAdd, Nat.reduceSub, Nat.reduceMul, Nat.reduceLeDiff, Nat.reduceLT, bxR, hq, hbox, hf1, hf2]
  refine Wp_inv (σ := Nat) (fun i f M' => Rdy M0 M' g vr vf vc vk es f ∧ i ≤ g.forbid.length ∧ X.ev f (.t q32) = vf ∧ X.ev f (.t q33) = .i .i64 (g.forbid.length : Int) ∧ X.ev f (.t q34) = .i .i64 (i : Int) ∧ (g.forbid.take i).any (badF g) = false) (fun i => g.forbid.length - i) ?_ 0 ?_
  · rintro i f M' ⟨h, hi, h32, h33, h34, hp⟩
    have hq := h.fr
    have hlo := h.lo0
    have hn := h.ext.n
    have hl := h.ext.lo
    have hlt := h.lt
    have hbox := h.box
    obtain ⟨hw1, hw2, _, _⟩ := h.gr.wf.lens
    simp only [q1, q32, q33, q34] at hq h32 h33 h34
    unfold gcs at hbox
    unfold L15_5
    simp (maxSteps := 4000000) (disch := first | omega | assumption | (simp only [bxS, bxV, stOk, Nat.reduceBEq, Nat.reduceEqDiff, Nat.reduceAdd]; done) | (simp only [bxU]; omega) | ((try apply has_setN); apply has_ofL; simp only [bxL]; omega)) only [↓bxD, bxP, bxQ, Nat.reduceBEq, reduceCtorEq, Nat.reduceAdd, Nat.reduceSub, Nat.reduceMul, Nat.reduceLeDiff, Nat.reduceLT, bxR, hq, h32, h33, h34, hf1, hf2]
    refine condP_split (fun hlt2 => ?_) (fun hge => ?_)
    · have hi' : i < g.forbid.length := by omega
      obtain ⟨x, hz⟩ : ∃ x, g.forbid[i]? = some x := ⟨_, List.getElem?_eq_getElem hi'⟩
      obtain ⟨x0, x1, x2⟩ := x
      obtain ⟨ro, s, t, hg, hid, hat⟩ := h.gr.forbid.read (i := i) (e := trip (x0, x1, x2)) (by rw [List.getElem?_map, hz]; rfl)
      have hN : Ev.getN t 3 (soff vf + i * 3) = some (trip (x0, x1, x2)) := hat.getN
      unfold trip at hN
      have hany : g.forbid.any (badF g) = ((g.forbid.take (i + 1)).any (badF g) || (g.forbid.drop (i + 1)).any (badF g)) := by rw [← List.any_append, List.take_append_drop]
      have htk : (g.forbid.take (i + 1)).any (badF g) = badF g (x0, x1, x2) := by rw [List.take_add_one, hz, List.any_append, hp]; simp
      have hbad : badF g (x0, x1, x2) = true → formP g = (-1, 6) := fun e => by unfold formP; rw [hh, hr]; simp only; rw [if_pos (by rw [hany, htk, e]; rfl)]
      have hG : Ev.getN (ofL [MV.i IntKind.i64 g.names, MV.i IntKind.i64 g.kinds, MV.i IntKind.i64 g.start, vr, vf, vc, vk] 0) 7 0 = some (gcs g vr vf vc vk) := (at_ofL (gcs g vr vf vc vk)).getN
      simp (maxSteps := 4000000) (disch := first | omega | assumption | (simp only [bxS, bxV, stOk, Nat.reduceBEq, Nat.reduceEqDiff, Nat.reduceAdd]; done) | (simp only [bxU]; omega) | ((try apply has_setN); apply has_ofL; simp only [bxL]; omega)) only [↓bxD, bxP, bxQ, Nat.reduceBEq, reduceCtorEq, Nat.reduceAdd, Nat.reduceSub, Nat.reduceMul, Nat.reduceLeDiff, Nat.reduceLT, bxR, hq, h32, h33, h34, hf1, hf2, hg, hN, hG]
      show Wp fns K15_4 _ _ _
      unfold K15_4
      simp (maxSteps := 4000000) (disch := first | omega | assumption | (simp only [bxS, bxV, stOk, Nat.reduceBEq, Nat.reduceEqDiff, Nat.reduceAdd]; done) | (simp only [bxU]; omega) | ((try apply has_setN); apply has_ofL; simp only [bxL]; omega)) only [↓bxD, bxP, bxQ, Nat.reduceBEq, reduceCtorEq, Nat.reduceAdd, Nat.reduceSub, Nat.reduceMul, Nat.reduceLeDiff, Nat.reduceLT, bxR, hq, h32, h33, h34, hf1, hf2, hg, hN, hG]
      generalize hM2 : (M'.push _).set M'.n _ = M2
      have hx2 : Ext M' M2 := by rw [← hM2]; exact (Ext.push M' _).set _ (Nat.le_refl _)
      have hn2 := hx2.n
      have hl2 := hx2.lo
      have h9 : M2.get M'.n = some (.cs false 3 (setN [.i .i64 x0, .i .i64 x1, .i .i64 x2] 0 (ofL [.i .i64 0, .i .i64 0, .i .i64 0] 0))) := by rw [← hM2, set_same]
      have hbox2 := (hx2.old _ hlt).trans hbox
      have hgr := h.gr.ext hx2
      clear hM2
      have hxx := h.ext.trans hx2
      simp (maxSteps := 4000000) (disch := first | omega | assumption | (simp only [bxS, bxV, stOk, Nat.reduceBEq, Nat.reduceEqDiff, Nat.reduceAdd]; done) | (simp only [bxU]; omega) | ((try apply has_setN); apply has_ofL; simp only [bxL]; omega)) only [↓bxD, bxP, bxQ, Nat.reduceBEq, reduceCtorEq, Nat.reduceAdd, Nat.reduceSub, Nat.reduceMul, Nat.reduceLeDiff, Nat.reduceLT, bxR, hq, h32, h33, h34, hf1, hf2, hG, hbox, hbox2, h9]
      refine bindP_call (canForbid_any hgr (by omega)) ?_
      rintro m M3 ⟨rfl, hx3⟩
      simp (maxSteps := 4000000) (disch := first | omega | assumption | (simp only [bxS, bxV, stOk, Nat.reduceBEq, Nat.reduceEqDiff, Nat.reduceAdd]; done) | (simp only [bxU]; omega) | ((try apply has_setN); apply has_ofL; simp only [bxL]; omega)) only [↓bxD, bxP, bxQ, Nat.reduceBEq, reduceCtorEq, Nat.reduceAdd, Nat.reduceSub, Nat.reduceMul, Nat.reduceLeDiff, Nat.reduceLT, bxR, hq, h32, h33, h34, hf1, hf2, hG, hbox, hbox2, h9]
      cases hb : badF g (x0, x1, x2) with
      | true =>
        simp (maxSteps := 4000000) (disch := first | omega | assumption | (simp only [bxS, bxV, stOk, Nat.reduceBEq, Nat.reduceEqDiff, Nat.reduceAdd]; done) | (simp only [bxU]; omega) | ((try apply has_setN); apply has_ofL; simp only [bxL]; omega)) only [↓bxD, bxP, bxQ, Nat.reduceBEq, reduceCtorEq, Nat.reduceAdd, Nat.reduceSub, Nat.reduceMul, Nat.reduceLeDiff, Nat.reduceLT, bxR, hq, h32, h33, h34, hf1, hf2, hG, hbox, hbox2, h9, hb]
        have e : formP g = (-1, 6) := hbad hb
        unfold FormPost
        rw [e]
        exact ⟨rfl, hxx.trans hx3⟩
      | false =>
        simp (maxSteps := 4000000) (disch := first | omega | assumption | (simp only [bxS, bxV, stOk, Nat.reduceBEq, Nat.reduceEqDiff, Nat.reduceAdd]; done) | (simp only [bxU]; omega) | ((try apply has_setN); apply has_ofL; simp only [bxL]; omega)) only [↓bxD, bxP, bxQ, Nat.reduceBEq, reduceCtorEq, Nat.reduceAdd, Nat.reduceSub, Nat.reduceMul, Nat.reduceLeDiff, Nat.reduceLT, bxR, hq, h32, h33, h34, hf1, hf2, hG, hbox, hbox2, h9, hb]
        show Wp fns K15_3 _ _ _
        unfold K15_3
        simp (maxSteps := 4000000) (disch := first | omega | assumption | (simp only [bxS, bxV, stOk, Nat.reduceBEq, Nat.reduceEqDiff, Nat.reduceAdd]; done) | (simp only [bxU]; omega) | ((try apply has_setN); apply has_ofL; simp only [bxL]; omega)) only [↓bxD, bxP, bxQ, Nat.reduceBEq, reduceCtorEq, Nat.reduceAdd, Nat.reduceSub, Nat.reduceMul, Nat.reduceLeDiff, Nat.reduceLT, bxR, hq, h32, h33, h34, hf1, hf2, hG, hbox, hbox2, h9]
        have hn3 := hx3.n
        refine ⟨i + 1, by omega, ⟨hgr.ext hx3, hxx.trans hx3, h.lo0, by omega, (hx3.old _ (by omega)).trans hbox2, by simp only [bxP, bxQ, reduceCtorEq, hq, h32, h33, h34, hf1, hf2, hG, hbox, hbox2, h9]⟩, by omega, rfl, by rw [htk, hb]⟩
    · have hi' : i = g.forbid.length := by omega
      subst hi'
      rw [List.take_length] at hp
      simp (maxSteps := 4000000) (disch := first | omega | assumption | (simp only [bxS, bxV, stOk, Nat.reduceBEq, Nat.reduceEqDiff, Nat.reduceAdd]; done) | (simp only [bxU]; omega) | ((try apply has_setN); apply has_ofL; simp only [bxL]; omega)) only [↓bxD, bxP, bxQ, Nat.reduceBEq, reduceCtorEq, Nat.reduceAdd, Nat.reduceSub, Nat.reduceMul, Nat.reduceLeDiff, Nat.reduceLT, bxR, hq, h32, h33, h34, hf1, hf2]
      show Wp fns K15_6 _ _ _
      unfold K15_6
      simp (maxSteps := 4000000) (disch := first | omega | assumption | (simp only [bxS, bxV, stOk, Nat.reduceBEq, Nat.reduceEqDiff, Nat.reduceAdd]; done) | (simp only [bxU]; omega) | ((try apply has_setN); apply has_ofL; simp only [bxL]; omega)) only [↓bxD, bxP, bxQ, Nat.reduceBEq, reduceCtorEq, Nat.reduceAdd, Nat.reduceSub, Nat.reduceMul, Nat.reduceLeDiff, Nat.reduceLT, bxR, hq, h32, h33, h34, hf1, hf2]
      have e : formP g = (-1, 0) := by unfold formP; rw [hh, hr]; simp only; rw [if_neg (by rw [hp]; simp)]
      unfold FormPost
      rw [e]
      exact ⟨rfl, h.ext⟩
  · exact ⟨⟨h.gr, h.ext, h.lo0, h.lt, h.box, by simp only [bxP, bxQ, reduceCtorEq, hq, hbox, hf1, hf2]⟩, Nat.zero_le _, by simp only [bxP, bxQ, reduceCtorEq, hq, hbox, hf1, hf2], by simp only [bxP, bxQ, reduceCtorEq, hq, hbox, hf1, hf2], by simp only [bxP, bxQ, reduceCtorEq, hq, hbox, hf1, hf2] <;> rfl, rfl⟩
theorem pform_rules {M0 M : MH} {g : Gr} {vr vf vc vk : MV} {es : List (List MV)} {f : Fr} (h : Rdy M0 M g vr vf vc vk es f) (hh : headE g = none) : Wp fns K15_8 f M (retQ F15 (FormPost g M0)) := by
  have hq := h.fr
  have hbox := h.box
  obtain ⟨hr1, hr2⟩ := h.gr.rules.row.sl
  rw [h.gr.rules.len] at hr2
  simp only [q1] at hq
  unfold gcs at hbox
  unfold K15_8
  simp (maxSteps := 4000000) (disch := first | omega | assumption | (simp only [bxS, bxV, stOk, Nat.reduceBEq, Nat.reduceEqDiff, Nat.reduceAdd]; done) | (simp only [bxU]; omega) | ((try apply has_setN); apply has_ofL; simp only [bxL]; omega)) only [↓bxD, bxP, bxQ, Nat.reduceBEq, reduceCtorEq, Nat.reduceAdd, Nat.reduceSub, Nat.reduceMul, Nat.reduceLeDiff, Nat.reduceLT, bxR, hq, hbox, hr1, hr2]
  refine Wp_inv (σ := Nat) (fun i f M' => Rdy M0 M' g vr vf vc vk es f ∧ i ≤ g.rules.length ∧ X.ev f (.t q16) = vr ∧ X.ev f (.t q17) = .i .i64 (g.rules.length : Int) ∧ X.ev f (.t q18) = .i .i64 (i : Int) ∧ findE (ruleE g) g.rules 0 = findE (ruleE g) (g.rules.drop i) i) (fun i => g.rules.length - i) ?_ 0 ?_
  · rintro i f M' ⟨h, hi, h16, h17, h18, hp⟩
    have hq := h.fr
    have hlo := h.lo0
    have hn := h.ext.n
    have hl := h.ext.lo
    have hlt := h.lt
    have hbox := h.box
    obtain ⟨hw1, hw2, _, _⟩ := h.gr.wf.lens
    simp only [q1, q16, q17, q18] at hq h16 h17 h18
    unfold gcs at hbox
    unfold L15_2
    simp (maxSteps := 4000000) (disch := first | omega | assumption | (simp only [bxS, bxV, stOk, Nat.reduceBEq, Nat.reduceEqDiff, Nat.reduceAdd]; done) | (simp only [bxU]; omega) | ((try apply has_setN); apply has_ofL; simp only [bxL]; omega)) only [↓bxD, bxP, bxQ, Nat.reduceBEq, reduceCtorEq, Nat.reduceAdd, Nat.reduceSub, Nat.reduceMul, Nat.reduceLeDiff, Nat.reduceLT, bxR, hq, h16, h17, h18, hr1, hr2]
    refine condP_split (fun hlt2 => ?_) (fun hge => ?_)
    · have hi' : i < g.rules.length := by omega
      obtain ⟨x, hz⟩ : ∃ x, g.rules[i]? = some x := ⟨_, List.getElem?_eq_getElem hi'⟩
      obtain ⟨a0, ar, a2⟩ := x
      obtain ⟨ua, hua, hura⟩ : ∃ u1, es[i]? = some [.i .i64 a0, u1, .i .i64 a2] ∧ IntRow _ u1 ar := h.gr.rules.get hz
      obtain ⟨hsu1, hsu2⟩ := hura.sl
      obtain ⟨ro, s, t, hg, hid, hat⟩ := h.gr.rules.row.read hua
      have hN : Ev.getN t 3 (soff vr + i * 3) = some [.i .i64 a0, ua, .i .i64 a2] := hat.getN
      have hone : MV.one ua = true := isSl_one hsu1
      have hwr := h.gr.wf.rules _ (List.mem_of_getElem? hz)
      have hdrop := findE_drop (f := ruleE g) hz
      have hG : Ev.getN (ofL [MV.i IntKind.i64 g.names, MV.i IntKind.i64 g.kinds, MV.i IntKind.i64 g.start, vr, vf, vc, vk] 0) 7 0 = some (gcs g vr vf vc vk) := (at_ofL (gcs g vr vf vc vk)).getN
      have hst : stOk 3 (.ag [.i .i64 a0, ua, .i .i64 a2]) = true := by cases ua <;> first | rfl | cases hsu1
      simp (maxSteps := 4000000) (disch := first | omega | assumption | (simp only [bxS, bxV, stOk, Nat.reduceBEq, Nat.reduceEqDiff, Nat.reduceAdd]; done) | (simp only [bxU]; omega) | ((try apply has_setN); apply has_ofL; simp only [bxL]; omega)) only [↓bxD, bxP, bxQ, Nat.reduceBEq, reduceCtorEq, Nat.reduceAdd, Nat.reduceSub, Nat.reduceMul, Nat.reduceLeDiff, Nat.reduceLT, bxR, hq, h16, h17, h18, hr1, hr2, hg, hN, hG]
      show Wp fns K15_1 _ _ _
      unfold K15_1
      simp (maxSteps := 4000000) (disch := first | omega | assumption | (simp only [bxS, bxV, stOk, Nat.reduceBEq, Nat.reduceEqDiff, Nat.reduceAdd]; done) | (simp only [bxU]; omega) | ((try apply has_setN); apply has_ofL; simp only [bxL]; omega)) only [↓bxD, bxP, bxQ, Nat.reduceBEq, reduceCtorEq, Nat.reduceAdd, Nat.reduceSub, Nat.reduceMul, Nat.reduceLeDiff, Nat.reduceLT, bxR, hq, h16, h17, h18, hr1, hr2, hg, hN, hG]
      generalize hM2 : (M'.push _).set M'.n _ = M2
      have hx2 : Ext M' M2 := by rw [← hM2]; exact (Ext.push M' _).set _ (Nat.le_refl _)
      have hn2 := hx2.n
      have hl2 := hx2.lo
      have h9 : M2.get M'.n = some (.cs false 3 (setN [.i .i64 a0, ua, .i .i64 a2] 0 (ofL [.i .i64 0, .nils, .i .i64 0] 0))) := by rw [← hM2, set_same]
      have hbox2 := (hx2.old _ hlt).trans hbox
      have hgr := h.gr.ext hx2
      clear hM2
      have hxx := h.ext.trans hx2
      simp (maxSteps := 4000000) (disch := first | omega | assumption | (simp only [bxS, bxV, stOk, Nat.reduceBEq, Nat.reduceEqDiff, Nat.reduceAdd]; done) | (simp only [bxU]; omega) | ((try apply has_setN); apply has_ofL; simp only [bxL]; omega)) only [↓bxD, bxP, bxQ, Nat.reduceBEq, reduceCtorEq, Nat.reduceAdd, Nat.reduceSub, Nat.reduceMul, Nat.reduceLeDiff, Nat.reduceLT, bxR, hq, h16, h17, h18, hr1, hr2, hG, hbox, hbox2, h9]
      refine bindP_call (ruleError_any (by omega) (hura.ext hx2) hwr.2.1 hwr.2.2.2) ?_
      rintro m M3 ⟨rfl, hx3⟩
      simp (maxSteps := 4000000) (disch := first | omega | assumption | (simp only [bxS, bxV, stOk, Nat.reduceBEq, Nat.reduceEqDiff, Nat.reduceAdd]; done) | (simp only [bxU]; omega) | ((try apply has_setN); apply has_ofL; simp only [bxL]; omega)) only [↓bxD, bxP, bxQ, Nat.reduceBEq, reduceCtorEq, Nat.reduceAdd, Nat.reduceSub, Nat.reduceMul, Nat.reduceLeDiff, Nat.reduceLT, bxR, hq, h16, h17, h18, hr1, hr2, hG, hbox, hbox2, h9]
      cases hb : ruleE g (a0, ar, a2) with
      | some e =>
        have e0' : e ≠ 0 := by
          unfold ruleE at hb
          split at hb
          · cases hb; decide
          · split at hb
            · cases hb; decide
            · split at hb
              · cases hb; decide
              · cases hb
        rw [hb] at hdrop
        simp (maxSteps := 4000000) (disch := first | omega | assumption | (simp only [bxS, bxV, stOk, Nat.reduceBEq, Nat.reduceEqDiff, Nat.reduceAdd]; done) | (simp only [bxU]; omega) | ((try apply has_setN); apply has_ofL; simp only [bxL]; omega)) only [↓bxD, bxP, bxQ, Nat.reduceBEq, reduceCtorEq, Nat.reduceAdd, Nat.reduceSub, Nat.reduceMul, Nat.reduceLeDiff, Nat.reduceLT, bxR, hq, h16, h17, h18, hr1, hr2, hG, hbox, hbox2, h9, hb, numE]
        refine condP_split (fun _ => ?_) (fun hc => (hc e0').elim)
        simp (maxSteps := 4000000) (disch := first | omega | assumption | (simp only [bxS, bxV, stOk, Nat.reduceBEq, Nat.reduceEqDiff, Nat.reduceAdd]; done) | (simp only [bxU]; omega) | ((try apply has_setN); apply has_ofL; simp only [bxL]; omega)) only [↓bxD, bxP, bxQ, Nat.reduceBEq, reduceCtorEq, Nat.reduceAdd, Nat.reduceSub, Nat.reduceMul, Nat.reduceLeDiff, Nat.reduceLT, bxR, hq, h16, h17, h18, hr1, hr2, hG, hbox, hbox2, h9]
        have e : formP g = ((i : Int), e) := by unfold formP; rw [hh, hp, hdrop]
        unfold FormPost
        rw [e]
        exact ⟨rfl, hxx.trans hx3⟩
      | none =>
        rw [hb] at hdrop
        simp (maxSteps := 4000000) (disch := first | omega | assumption | (simp only [bxS, bxV, stOk, Nat.reduceBEq, Nat.reduceEqDiff, Nat.reduceAdd]; done) | (simp only [bxU]; omega) | ((try apply has_setN); apply has_ofL; simp only [bxL]; omega)) only [↓bxD, bxP, bxQ, Nat.reduceBEq, reduceCtorEq, Nat.reduceAdd, Nat.reduceSub, Nat.reduceMul, Nat.reduceLeDiff, Nat.reduceLT, bxR, hq, h16, h17, h18, hr1, hr2, hG, hbox, hbox2, h9, hb, numE]
        refine condP_split (fun hc => (hc rfl).elim) (fun _ => ?_)
        simp (maxSteps := 4000000) (disch := first | omega | assumption | (simp only [bxS, bxV, stOk, Nat.reduceBEq, Nat.reduceEqDiff, Nat.reduceAdd]; done) | (simp only [bxU]; omega) | ((try apply has_setN); apply has_ofL; simp only [bxL]; omega)) only [↓bxD, bxP, bxQ, Nat.reduceBEq, reduceCtorEq, Nat.reduceAdd, Nat.reduceSub, Nat.reduceMul, Nat.reduceLeDiff, Nat.reduceLT, bxR, hq, h16, h17, h18, hr1, hr2, hG, hbox, hbox2, h9]
        show Wp fns K15_0 _ _ _
        unfold K15_0
        simp (maxSteps := 4000000) (disch := first | omega | assumption | (simp only [bxS, bxV, stOk, Nat.reduceBEq, Nat.reduceEqDiff, Nat.reduceAdd]; done) | (simp only [bxU]; omega) | ((try apply has_setN); apply has_ofL; simp only [bxL]; omega)) only [↓bxD, bxP, bxQ, Nat.reduceBEq, reduceCtorEq, Nat.reduceAdd, Nat.reduceSub, Nat.reduceMul, Nat.reduceLeDiff, Nat.reduceLT, bxR, hq, h16, h17, h18, hr1, hr2, hG, hbox, hbox2, h9]
        have hn3 := hx3.n
        refine ⟨i + 1, by omega, ⟨hgr.ext hx3, hxx.trans hx3, h.lo0, by omega, (hx3.old _ (by omega)).trans hbox2, by simp only [bxP, bxQ, reduceCtorEq, hq, h16, h17, h18, hr1, hr2, hG, hbox, hbox2, h9]⟩, by omega, rfl, hp.trans hdrop⟩
    · have hi' : i = g.rules.length := by omega
      subst hi'
      simp (maxSteps := 4000000) (disch := first | omega | assumption | (simp only [bxS, bxV, stOk, Nat.reduceBEq, Nat.reduceEqDiff, Nat.reduceAdd]; done) | (simp only [bxU]; omega) | ((try apply has_setN); apply has_ofL; simp only [bxL]; omega)) only [↓bxD, bxP, bxQ, Nat.reduceBEq, reduceCtorEq, Nat.reduceAdd, Nat.reduceSub, Nat.reduceMul, Nat.reduceLeDiff, Nat.reduceLT, bxR, hq, h16, h17, h18, hr1, hr2]
      show Wp fns K15_7 _ _ _
      exact pform_forb ⟨h.gr, h.ext, h.lo0, h.lt, h.box, by simp only [bxP, bxQ, reduceCtorEq, hq, h16, h17, h18, hr1, hr2]⟩ hh (by rw [hp, List.drop_length]; rfl)
  · exact ⟨⟨h.gr, h.ext, h.lo0, h.lt, h.box, by simp only [bxP, bxQ, reduceCtorEq, hq, hbox, hr1, hr2]⟩, Nat.zero_le _, by simp only [bxP, bxQ, reduceCtorEq, hq, hbox, hr1, hr2], by simp only [bxP, bxQ, reduceCtorEq, hq, hbox, hr1, hr2], by simp only [bxP, bxQ, reduceCtorEq, hq, hbox, hr1, hr2] <;> rfl, rfl⟩
theorem prog_form {M : MH} {g : Gr} {vr vf vc vk : MV} {es : List (List MV)} (h : GrAt M vr vf vc vk es g) (hlo : M.lo ≤ M.n) : Cp fns 15 [.ag (gcs g vr vf vc vk)] M fun m M' => m = .tp [.i .i64 (formP g).1, .i .i64 (formP g).2] ∧ Ext M M' := by
  have hG : ∀ l, l = gcs g vr vf vc vk → Ev.getN (ofL l 0) 7 0 = some (gcs g vr vf vc vk) := fun l e => by subst e; exact (at_ofL (gcs g vr vf vc vk)).getN
  have hG := hG [MV.i IntKind.i64 g.names, MV.i IntKind.i64 g.kinds, MV.i IntKind.i64 g.start, vr, vf, vc, vk] rfl
  refine Cp_call (fn := F15) (by kernel_rfl) (Nat.le_of_ble_eq_true rfl) ?_
  show Wp fns B15 (T.set q0 (some (.ag (gcs g vr vf vc vk))) T.lf) M _
  unfold B15
  rw [show gcs g vr vf vc vk = [MV.i IntKind.i64 g.names, MV.i IntKind.i64 g.kinds, MV.i IntKind.i64 g.start, vr, vf, vc, vk] from rfl]
  simp (maxSteps := 4000000) (disch := first | omega | assumption | (simp only [bxS, bxV, stOk, Nat.reduceBEq, Nat.reduceEqDiff, Nat.reduceAdd]; done) | (simp only [bxU]; omega) | ((try apply has_setN); apply has_ofL; simp only [bxL]; omega)) only [↓bxD, bxP, bxQ, Nat.reduceBEq, reduceCtorEq, Nat.reduceAdd, Nat.reduceSub, Nat.reduceMul, Nat.reduceLeDiff, Nat.reduceLT, bxR]
  generalize hM1 : M.push _ = M1
  have hb0 : M1.get M.n = some (.cs false 7 (ofL [MV.i IntKind.i64 g.names, MV.i IntKind.i64 g.kinds, MV.i IntKind.i64 g.start, vr, vf, vc, vk] 0)) := by rw [← hM1]; exact push_new _
  have hx1 : Ext M M1 := by rw [← hM1]; exact .push M _
  have hn1 : M1.n = M.n + 1 := by rw [← hM1]; rfl
  have hl1 := hx1.lo
  clear hM1
  have h1 := h.ext hx1
  simp (maxSteps := 4000000) (disch := first | omega | assumption | (simp only [bxS, bxV, stOk, Nat.reduceBEq, Nat.reduceEqDiff, Nat.reduceAdd]; done) | (simp only [bxU]; omega) | ((try apply has_setN); apply has_ofL; simp only [bxL]; omega)) only [↓bxD, bxP, bxQ, Nat.reduceBEq, reduceCtorEq, Nat.reduceAdd, Nat.reduceSub, Nat.reduceMul, Nat.reduceLeDiff, Nat.reduceLT, bxR, hb0, hG]
  refine bindP_call (wholeError_any h1 (by omega)) ?_
  rintro m M2 ⟨rfl, hx2⟩
  simp (maxSteps := 4000000) (disch := first | omega | assumption | (simp only [bxS, bxV, stOk, Nat.reduceBEq, Nat.reduceEqDiff, Nat.reduceAdd]; done) | (simp only [bxU]; omega) | ((try apply has_setN); apply has_ofL; simp only [bxL]; omega)) only [↓bxD, bxP, bxQ, Nat.reduceBEq, reduceCtorEq, Nat.reduceAdd, Nat.reduceSub, Nat.reduceMul, Nat.reduceLeDiff, Nat.reduceLT, bxR, hb0, hG]
  have hn2 := hx2.n
  have hb2 := (hx2.old _ (by omega)).trans hb0
  cases hb : headE g with
  | some e =>
    have e0' : e ≠ 0 := by
      unfold headE at hb
      split at hb
      · cases hb; decide
      · split at hb
        · cases hb; decide
        · split at hb
          · cases hb; decide
          · cases hb
    simp (maxSteps := 4000000) (disch := first | omega | assumption | (simp only [bxS, bxV, stOk, Nat.reduceBEq, Nat.reduceEqDiff, Nat.reduceAdd]; done) | (simp only [bxU]; omega) | ((try apply has_setN); apply has_ofL; simp only [bxL]; omega)) only [↓bxD, bxP, bxQ, Nat.reduceBEq, reduceCtorEq, Nat.reduceAdd, Nat.reduceSub, Nat.reduceMul, Nat.reduceLeDiff, Nat.reduceLT, bxR, hb0, hG, hb, numE]
    refine condP_split (fun _ => ?_) (fun hc => (hc e0').elim)
    simp (maxSteps := 4000000) (disch := first | omega | assumption | (simp only [bxS, bxV, stOk, Nat.reduceBEq, Nat.reduceEqDiff, Nat.reduceAdd]; done) | (simp only [bxU]; omega) | ((try apply has_setN); apply has_ofL; simp only [bxL]; omega)) only [↓bxD, bxP, bxQ, Nat.reduceBEq, reduceCtorEq, Nat.reduceAdd, Nat.reduceSub, Nat.reduceMul, Nat.reduceLeDiff, Nat.reduceLT, bxR, hb0, hG]
    have e : formP g = (-1, e) := by unfold formP; rw [hb]
    rw [e]
    exact ⟨rfl, hx1.trans hx2⟩
  | none =>
    simp (maxSteps := 4000000) (disch := first | omega | assumption | (simp only [bxS, bxV, stOk, Nat.reduceBEq, Nat.reduceEqDiff, Nat.reduceAdd]; done) | (simp only [bxU]; omega) | ((try apply has_setN); apply has_ofL; simp only [bxL]; omega)) only [↓bxD, bxP, bxQ, Nat.reduceBEq, reduceCtorEq, Nat.reduceAdd, Nat.reduceSub, Nat.reduceMul, Nat.reduceLeDiff, Nat.reduceLT, bxR, hb0, hG, hb, numE]
    refine condP_split (fun hc => (hc rfl).elim) (fun _ => ?_)
    simp (maxSteps := 4000000) (disch := first | omega | assumption | (simp only [bxS, bxV, stOk, Nat.reduceBEq, Nat.reduceEqDiff, Nat.reduceAdd]; done) | (simp only [bxU]; omega) | ((try apply has_setN); apply has_ofL; simp only [bxL]; omega)) only [↓bxD, bxP, bxQ, Nat.reduceBEq, reduceCtorEq, Nat.reduceAdd, Nat.reduceSub, Nat.reduceMul, Nat.reduceLeDiff, Nat.reduceLT, bxR, hb0, hG]
    show Wp fns K15_8 _ _ _
    exact pform_rules ⟨h1.ext hx2, hx1.trans hx2, hlo, by omega, hb2, by simp only [bxP, bxQ, reduceCtorEq, hb0, hG]⟩ hb
structure ISt (M0 M : MH) (g : Gr) (vr vf vc vk : MV) (es : List (List MV)) (id : Nat) (l : List Int) (f : Fr) : Prop where
  gr : GrAt M0 vr vf vc vk es g
  ok : GrOk g
  ext : Ext M0 M
  lo0 : M0.lo ≤ M0.n
  b0 : M.get M0.n = some (.cs false 7 (ofL (gcs g vr vf vc vk) 0))
  id1 : M0.n < id
  id2 : id < M.n
  row : IntsAt M id l
  inn : ShIn g l
  q1 : X.ev f (.t q1) = .p M0.n 0
  q3 : X.ev f (.t q3) = .sl id 0 l.length 0
theorem shRnd_take {rs : List (Int × List Int × Int)} {l : List Int} {i : Nat} {r : Int × List Int × Int} (h : rs[i]? = some r) : shRnd (rs.take (i + 1)) l = shStep (shRnd (rs.take i) l) r := by
  unfold shRnd
  rw [List.take_add_one, h, List.foldl_append]
  rfl
theorem short_round {M0 M : MH} {g : Gr} {vr vf vc vk : MV} {es : List (List MV)} {id : Nat} {l0 : List Int} {f : Fr} (h : ISt M0 M g vr vf vc vk es id l0 f) (Q : Post)
    (hn : ∀ f' M' l' more, ISt M0 M' g vr vf vc vk es id l' f' → X.ev f' (.t q4) = .b more → l' = shRnd g.rules l0 → ((more = true ∧ shMu l' < shMu l0) ∨ (more = false ∧ l' = l0 ∧ ShStill g.rules l0)) → Q .norm f' M') : Wp fns K32_3 f M Q := by
  have hq1 := h.q1
  have hq3 := h.q3
  have hbox := h.b0
  obtain ⟨hr1, hr2⟩ := h.gr.rules.row.sl
  rw [h.gr.rules.len] at hr2
  unfold gcs at hbox
  simp only [q1, q3] at hq1 hq3
  unfold K32_3
  simp (maxSteps := 4000000) (disch := first | omega | assumption | (simp only [bxS, bxV, stOk, Nat.reduceBEq, Nat.reduceEqDiff, Nat.reduceAdd]; done) | (simp only [bxU]; omega) | ((try apply has_setN); apply has_ofL; simp only [bxL]; omega)) only [↓bxD, bxP, bxQ, Nat.reduceBEq, reduceCtorEq, Nat.reduceAdd, Nat.reduceSub, Nat.reduceMul, Nat.reduceLeDiff, Nat.reduceLT, bxR, hq1, hq3, hbox, hr1, hr2]
  refine Wp_inv (σ := Nat × List Int × Bool) (fun s f1 M1 => ISt M0 M1 g vr vf vc vk es id s.2.1 f1 ∧ s.1 ≤ g.rules.length ∧ X.ev f1 (.t q14) = vr ∧ X.ev f1 (.t q15) = .i .i64 (g.rules.length : Int) ∧ X.ev f1 (.t q16) = .i .i64 (s.1 : Int) ∧ X.ev f1 (.t q4) = .b s.2.2 ∧ s.2.1 = shRnd (g.rules.take s.1) l0 ∧ ((s.2.2 = true ∧ shMu s.2.1 < shMu l0) ∨ (s.2.2 = false ∧ s.2.1 = l0 ∧ ShStill (g.rules.take s.1) l0))) (fun s => g.rules.length - s.1) ?_ (0, l0, false) ?_
  · rintro ⟨i, l, more⟩ f1 M1 ⟨h, hi, h14, h15, h16, h4, hl, hc⟩
    simp only at h hi h14 h15 h16 h4 hl hc
    clear hq1 hq3 hbox
    have hq1 := h.q1
    have hq3 := h.q3
    have hbox := h.b0
    have hlo := h.lo0
    have hn0 := h.ext.n
    have hl0 := h.ext.lo
    have hid1 := h.id1
    have hid2 := h.id2
    unfold gcs at hbox
    have hrl := h.ok.rl
    simp only [q1, q3, q4, q14, q15, q16] at hq1 hq3 h4 h14 h15 h16
    unfold L32_2
    by_cases hi' : i < g.rules.length
    · have d1 : decide ((i : Int) < (g.rules.length : Int)) = true := decide_eq_true (by omega)
      obtain ⟨r, hr⟩ : ∃ r, g.rules[i]? = some r := ⟨_, List.getElem?_eq_getElem hi'⟩
      have hrt := shRnd_take (l := l0) hr
      rw [← hl] at hrt
      obtain ⟨a0, ar, a2⟩ := r
      have hmem := List.mem_of_getElem? hr
      obtain ⟨ur, hu1, hu2⟩ := h.gr.rules.get hr
      have hrow := h.gr.rules.row.ext h.ext
      obtain ⟨ro3, s3, t3, hg3, hid3, hat3⟩ := hrow.read hu1
      have hN : Ev.getN t3 3 (soff vr + i * 3) = some [.i .i64 a0, ur, .i .i64 a2] := hat3.getN
      obtain ⟨hu3, hu4⟩ := hu2.sl
      have hu6 := isSl_one hu3
      have hst : stOk 3 (.ag [.i .i64 a0, ur, .i .i64 a2]) = true := by simp only [stOk, cells_ag, isU_ag, all_cons, all_nil, one_i, hu6]; rfl
      obtain ⟨ha0, ha1⟩ := h.ok.left _ hmem
      simp only at ha0 ha1
      obtain ⟨an, rfl⟩ : ∃ n : Nat, a0 = n := ⟨a0.toNat, by omega⟩
      have hll := h.inn.len
      have han : an < l.length := by omega
      simp (maxSteps := 4000000) (disch := first | omega | assumption | (simp only [bxS, bxV, stOk, Nat.reduceBEq, Nat.reduceEqDiff, Nat.reduceAdd]; done) | (simp only [bxU]; omega) | ((try apply has_setN); apply has_ofL; simp only [bxL]; omega)) only [↓bxD, bxP, bxQ, Nat.reduceBEq, reduceCtorEq, Nat.reduceAdd, Nat.reduceSub, Nat.reduceMul, Nat.reduceLeDiff, Nat.reduceLT, bxR, hq1, hq3, h4, h14, h15, h16, hr1, hr2, hg3, hN, d1]
      show Wp fns K32_1 _ _ _
      unfold K32_1
      simp (maxSteps := 4000000) (disch := first | omega | assumption | (simp only [bxS, bxV, stOk, Nat.reduceBEq, Nat.reduceEqDiff, Nat.reduceAdd]; done) | (simp only [bxU]; omega) | ((try apply has_setN); apply has_ofL; simp only [bxL]; omega)) only [↓bxD, bxP, bxQ, Nat.reduceBEq, reduceCtorEq, Nat.reduceAdd, Nat.reduceSub, Nat.reduceMul, Nat.reduceLeDiff, Nat.reduceLT, bxR, hq1, hq3, h4, h14, h15, h16, hr1, hr2, hg3, hN, d1]
      generalize hM2 : (M1.push _).set M1.n _ = M2
      have hx2 : Ext M1 M2 := by rw [← hM2]; exact (Ext.push M1 _).set _ (Nat.le_refl _)
      have h9 : M2.get M1.n = some (.cs false 3 (setN [.i .i64 (an : Int), ur, .i .i64 a2] 0 (ofL [.i .i64 0, .nils, .i .i64 0] 0))) := by rw [← hM2, set_same]
      have hn3 : M2.n = M1.n + 1 := by rw [← hM2]; rfl
      clear hM2
      have hC3 : At (setN [MV.i .i64 (an : Int), ur, .i .i64 a2] 0 (ofL [.i .i64 0, .nils, .i .i64 0] 0)) 0 [.i .i64 (an : Int), ur, .i .i64 a2] := at_setN _ _ _
      have c0 : cget (setN [MV.i .i64 (an : Int), ur, .i .i64 a2] 0 (ofL [.i .i64 0, .nils, .i .i64 0] 0)) 0 = some (.i .i64 (an : Int)) := hC3 0 _ rfl
      have c1 : cget (setN [MV.i .i64 (an : Int), ur, .i .i64 a2] 0 (ofL [.i .i64 0, .nils, .i .i64 0] 0)) 1 = some ur := hC3 1 _ rfl
      have hl2 := hx2.lo
      have hrow2 : IntsAt M2 id l := h.row.same (hx2.old _ hid2)
      have hsy := h.ok.sym _ hmem
      have hle := h.ok.len _ hmem
      simp only at hsy hle
      have hb2 : M2.get M0.n = some (.cs false 7 (ofL (gcs g vr vf vc vk) 0)) := (hx2.old _ (by omega)).trans h.b0
      refine bindP_call (row_any (hrow2.row (by omega)) (hu2.ext (h.ext.trans hx2)) h.inn.lo (fun s hs s0 => by have := symB_lt (hsy s hs) s0; omega) hle) ?_
      rintro m M3 ⟨rfl, rfl⟩
      obtain ⟨t, ht1, ht2, ht3, ht4⟩ := hrow2.read
      obtain ⟨z, hz⟩ : ∃ z, l[an]? = some z := ⟨_, List.getElem?_eq_getElem han⟩
      have hR := ht2 _ _ hz
      have hH := ht3 an han
      have hzb := h.inn.lo z (List.mem_of_getElem? hz)
      have hgd : l.getD an (-1) = z := by rw [List.getD_eq_getElem?_getD, hz]; rfl
      have hrb := @shRow_le l ar
      have hcd : shCond l ((an : Int), ar, a2) = (decide (0 ≤ shRow l ar) && (decide (z < 0) || decide (shRow l ar < z))) := by unfold shCond; simp only [Int.toNat_natCast, hgd]
      have stay : shCond l ((an : Int), ar, a2) = false → ISt M0 M3 g vr vf vc vk es id l f1 ∧ l = shRnd (g.rules.take (i + 1)) l0 ∧ ((more = true ∧ shMu l < shMu l0) ∨ (more = false ∧ l = l0 ∧ ShStill (g.rules.take (i + 1)) l0)) := fun e => by
        refine ⟨⟨h.gr, h.ok, h.ext.trans hx2, h.lo0, hb2, h.id1, by omega, hrow2, h.inn, h.q1, h.q3⟩, ?_, ?_⟩
        · rw [hrt]; unfold shStep; rw [e]; rfl
        · rcases hc with hc | ⟨hc1, hc2, hc3⟩
          · exact .inl hc
          · refine .inr ⟨hc1, hc2, fun r hr' => ?_⟩
            rw [List.take_add_one, hr] at hr'
            rcases List.mem_append.1 hr' with h1 | h1
            · exact hc3 r h1
            · simp only [Option.toList_some, List.mem_singleton] at h1
              subst h1
              rw [← hc2]; exact e
      by_cases e1 : shRow l ar = -1
      · have de : decide (shRow l ar ≠ Int.negSucc 0) = false := decide_eq_false (fun h => h e1)
        have hcf : shCond l ((an : Int), ar, a2) = false := by rw [hcd, decide_eq_false (by omega)]; rfl
        obtain ⟨s1, s2, s3⟩ := stay hcf
        simp (maxSteps := 4000000) (disch := first | omega | assumption | (simp only [bxS, bxV, stOk, Nat.reduceBEq, Nat.reduceEqDiff, Nat.reduceAdd]; done) | (simp only [bxU]; omega) | ((try apply has_setN); apply has_ofL; simp only [bxL]; omega)) only [↓bxD, bxP, bxQ, Nat.reduceBEq, reduceCtorEq, Nat.reduceAdd, Nat.reduceSub, Nat.reduceMul, Nat.reduceLeDiff, Nat.reduceLT, bxR, hq1, hq3, h4, h14, h15, h16, h9, c0, c1, ix_slc, ht1, hR, de]
        show Wp fns K32_0 _ _ _
        unfold K32_0
        simp (maxSteps := 4000000) (disch := first | omega | assumption | (simp only [bxS, bxV, stOk, Nat.reduceBEq, Nat.reduceEqDiff, Nat.reduceAdd]; done) | (simp only [bxU]; omega) | ((try apply has_setN); apply has_ofL; simp only [bxL]; omega)) only [↓bxD, bxP, bxQ, Nat.reduceBEq, reduceCtorEq, Nat.reduceAdd, Nat.reduceSub, Nat.reduceMul, Nat.reduceLeDiff, Nat.reduceLT, bxR, hq1, hq3, h4, h14, h15, h16, h9, c0, c1, ix_slc, ht1, hR, de]
        exact ⟨(i + 1, l, more), by simp only; omega, ⟨s1.gr, s1.ok, s1.ext, s1.lo0, s1.b0, s1.id1, s1.id2, s1.row, s1.inn, by simp only [bxP, bxQ, reduceCtorEq, hq1, hq3, h4, h14, h15, h16, h9, c0, c1, ix_slc, ht1, hR, de], by simp only [bxP, bxQ, reduceCtorEq, hq1, hq3, h4, h14, h15, h16, h9, c0, c1, ix_slc, ht1, hR, de]⟩, by simp only; omega, rfl, rfl, s2, s3⟩
      · have de : decide (shRow l ar ≠ Int.negSucc 0) = true := decide_eq_true e1
        have turn : shCond l ((an : Int), ar, a2) = true → Ext M0 (M3.set id (some (.cs false 1 (setN (MV.i .i64 (shRow l ar)).cells (an * 1) t)))) ∧ (M3.set id (some (.cs false 1 (setN (MV.i .i64 (shRow l ar)).cells (an * 1) t)))).get M0.n = some (.cs false 7 (ofL (gcs g vr vf vc vk) 0)) ∧ IntsAt (M3.set id (some (.cs false 1 (setN (MV.i .i64 (shRow l ar)).cells (an * 1) t)))) id (l.set an (shRow l ar)) ∧ ShIn g (l.set an (shRow l ar)) ∧ l.set an (shRow l ar) = shRnd (g.rules.take (i + 1)) l0 ∧ shMu (l.set an (shRow l ar)) < shMu l0 := fun e => by
          have hs := h.inn.step h.ok hmem
          unfold shStep at hs hrt
          rw [e] at hs hrt
          simp only [if_true, Int.toNat_natCast] at hs hrt
          have hmu := shMu_step hll h.ok hmem e
          simp only [Int.toNat_natCast] at hmu
          refine ⟨(h.ext.trans hx2).set _ (by omega), ?_, ⟨_, set_same _ _, ht4 an _ han⟩, hs, hrt.symm, ?_⟩
          · rw [set_ne (by omega)]; exact hb2
          · rcases hc with ⟨_, hc⟩ | ⟨_, rfl, _⟩
            · exact Nat.lt_trans hmu hc
            · exact hmu
        by_cases e2 : z = -1
        · have hcf : shCond l ((an : Int), ar, a2) = true := by rw [hcd, decide_eq_true (show 0 ≤ shRow l ar by omega), decide_eq_true (show z < 0 by omega)]; rfl
          have dz : decide (z = Int.negSucc 0) = true := decide_eq_true e2
          simp (maxSteps := 4000000) (disch := first | omega | assumption | (simp only [bxS, bxV, stOk, Nat.reduceBEq, Nat.reduceEqDiff, Nat.reduceAdd]; done) | (simp only [bxU]; omega) | ((try apply has_setN); apply has_ofL; simp only [bxL]; omega)) only [↓bxD, bxP, bxQ, Nat.reduceBEq, reduceCtorEq, Nat.reduceAdd, Nat.reduceSub, Nat.reduceMul, Nat.reduceLeDiff, Nat.reduceLT, bxR, hq1, hq3, h4, h14, h15, h16, h9, c0, c1, ix_slc, ht1, hR, hH, de, dz]
          show Wp fns K32_0 _ _ _
          unfold K32_0
          simp (maxSteps := 4000000) (disch := first | omega | assumption | (simp only [bxS, bxV, stOk, Nat.reduceBEq, Nat.reduceEqDiff, Nat.reduceAdd]; done) | (simp only [bxU]; omega) | ((try apply has_setN); apply has_ofL; simp only [bxL]; omega)) only [↓bxD, bxP, bxQ, Nat.reduceBEq, reduceCtorEq, Nat.reduceAdd, Nat.reduceSub, Nat.reduceMul, Nat.reduceLeDiff, Nat.reduceLT, bxR, hq1, hq3, h4, h14, h15, h16, h9, c0, c1, ix_slc, ht1, hR, hH, de, dz]
          obtain ⟨s1, s2, s3, s4, s5, s6⟩ := turn hcf
          exact ⟨(i + 1, _, true), by simp only; omega, ⟨h.gr, h.ok, s1, h.lo0, s2, h.id1, by rw [set_n]; omega, s3, s4, by simp only [bxP, bxQ, reduceCtorEq, hq1, hq3, h4, h14, h15, h16, h9, c0, c1, ix_slc, ht1, hR, hH, de, dz], by simp (maxSteps := 4000000) (disch := first | omega | assumption | (simp only [bxS, bxV, stOk, Nat.reduceBEq, Nat.reduceEqDiff, Nat.reduceAdd]; done) | (simp only [bxU]; omega) | ((try apply has_setN); apply has_ofL; simp only [bxL]; omega)) only [↓bxD, bxP, bxQ, Nat.reduceBEq, reduceCtorEq, Nat.reduceAdd, Nat.reduceSub, Nat.reduceMul, Nat.reduceLeDiff, Nat.reduceLT, bxR, hq1, hq3, h4, h14, h15, h16, h9, c0, c1, ix_slc, ht1, hR, hH, de, dz, List.length_set]⟩, by simp only; omega, rfl, rfl, s5, .inl ⟨rfl, s6⟩⟩
        · have dz : decide (z = Int.negSucc 0) = false := decide_eq_false e2
          by_cases e3 : shRow l ar < z
          · have hcf : shCond l ((an : Int), ar, a2) = true := by rw [hcd, decide_eq_true (show 0 ≤ shRow l ar by omega), decide_eq_true e3, Bool.or_true]; rfl
            have d3 : decide (shRow l ar < z) = true := decide_eq_true e3
            simp (maxSteps := 4000000) (disch := first | omega | assumption | (simp only [bxS, bxV, stOk, Nat.reduceBEq, Nat.reduceEqDiff, Nat.reduceAdd]; done) | (simp only [bxU]; omega) | ((try apply has_setN); apply has_ofL; simp only [bxL]; omega)) only [↓bxD, bxP, bxQ, Nat.reduceBEq, reduceCtorEq, Nat.reduceAdd, Nat.reduceSub, Nat.reduceMul, Nat.reduceLeDiff, Nat.reduceLT, bxR, hq1, hq3, h4, h14, h15, h16, h9, c0, c1, ix_slc, ht1, hR, hH, de, dz, d3]
            show Wp fns K32_0 _ _ _
            unfold K32_0
            simp (maxSteps := 4000000) (disch := first | omega | assumption | (simp only [bxS, bxV, stOk, Nat.reduceBEq, Nat.reduceEqDiff, Nat.reduceAdd]; done) | (simp only [bxU]; omega) | ((try apply has_setN); apply has_ofL; simp only [bxL]; omega)) only [↓bxD, bxP, bxQ, Nat.reduceBEq, reduceCtorEq, Nat.reduceAdd, Nat.reduceSub, Nat.reduceMul, Nat.reduceLeDiff, Nat.reduceLT, bxR, hq1, hq3, h4, h14, h15, h16, h9, c0, c1, ix_slc, ht1, hR, hH, de, dz, d3]
            obtain ⟨s1, s2, s3, s4, s5, s6⟩ := turn hcf
            exact ⟨(i + 1, _, true), by simp only; omega, ⟨h.gr, h.ok, s1, h.lo0, s2, h.id1, by rw [set_n]; omega, s3, s4, by simp only [bxP, bxQ, reduceCtorEq, hq1, hq3, h4, h14, h15, h16, h9, c0, c1, ix_slc, ht1, hR, hH, de, dz, d3], by simp (maxSteps := 4000000) (disch := first | omega | assumption | (simp only [bxS, bxV, stOk, Nat.reduceBEq, Nat.reduceEqDiff, Nat.reduceAdd]; done) | (simp only [bxU]; omega) | ((try apply has_setN); apply has_ofL; simp only [bxL]; omega)) only [↓bxD, bxP, bxQ, Nat.reduceBEq, reduceCtorEq, Nat.reduceAdd, Nat.reduceSub, Nat.reduceMul, Nat.reduceLeDiff, Nat.reduceLT, bxR, hq1, hq3, h4, h14, h15, h16, h9, c0, c1, ix_slc, ht1, hR, hH, de, dz, d3, List.length_set]⟩, by simp only; omega, rfl, rfl, s5, .inl ⟨rfl, s6⟩⟩
          · have hcf : shCond l ((an : Int), ar, a2) = false := by rw [hcd, decide_eq_false (show ¬ z < 0 by omega), decide_eq_false e3]; simp
            have d3 : decide (shRow l ar < z) = false := decide_eq_false e3
            obtain ⟨s1, s2, s3⟩ := stay hcf
            simp (maxSteps := 4000000) (disch := first | omega | assumption | (simp only [bxS, bxV, stOk, Nat.reduceBEq, Nat.reduceEqDiff, Nat.reduceAdd]; done) | (simp only [bxU]; omega) | ((try apply has_setN); apply has_ofL; simp only [bxL]; omega)) only [↓bxD, bxP, bxQ, Nat.reduceBEq, reduceCtorEq, Nat.reduceAdd, Nat.reduceSub, Nat.reduceMul, Nat.reduceLeDiff, Nat.reduceLT, bxR, hq1, hq3, h4, h14, h15, h16, h9, c0, c1, ix_slc, ht1, hR, hH, de, dz, d3]
            show Wp fns K32_0 _ _ _
            unfold K32_0
            simp (maxSteps := 4000000) (disch := first | omega | assumption | (simp only [bxS, bxV, stOk, Nat.reduceBEq, Nat.reduceEqDiff, Nat.reduceAdd]; done) | (simp only [bxU]; omega) | ((try apply has_setN); apply has_ofL; simp only [bxL]; omega)) only [↓bxD, bxP, bxQ, Nat.reduceBEq, reduceCtorEq, Nat.reduceAdd, Nat.reduceSub, Nat.reduceMul, Nat.reduceLeDiff, Nat.reduceLT, bxR, hq1, hq3, h4, h14, h15, h16, h9, c0, c1, ix_slc, ht1, hR, hH, de, dz, d3]
            exact ⟨(i + 1, l, more), by simp only; omega, ⟨s1.gr, s1.ok, s1.ext, s1.lo0, s1.b0, s1.id1, s1.id2, s1.row, s1.inn, by simp only [bxP, bxQ, reduceCtorEq, hq1, hq3, h4, h14, h15, h16, h9, c0, c1, ix_slc, ht1, hR, hH, de, dz, d3], by simp only [bxP, bxQ, reduceCtorEq, hq1, hq3, h4, h14, h15, h16, h9, c0, c1, ix_slc, ht1, hR, hH, de, dz, d3]⟩, by simp only; omega, rfl, rfl, s2, s3⟩
    · have d1 : decide ((i : Int) < (g.rules.length : Int)) = false := decide_eq_false (by omega)
      have hi2 : i = g.rules.length := by omega
      subst hi2
      rw [List.take_length] at hc hl
      simp (maxSteps := 4000000) (disch := first | omega | assumption | (simp only [bxS, bxV, stOk, Nat.reduceBEq, Nat.reduceEqDiff, Nat.reduceAdd]; done) | (simp only [bxU]; omega) | ((try apply has_setN); apply has_ofL; simp only [bxL]; omega)) only [↓bxD, bxP, bxQ, Nat.reduceBEq, reduceCtorEq, Nat.reduceAdd, Nat.reduceSub, Nat.reduceMul, Nat.reduceLeDiff, Nat.reduceLT, bxR, hq1, hq3, h4, h14, h15, h16, d1]
      exact hn _ _ l more ⟨h.gr, h.ok, h.ext, h.lo0, h.b0, h.id1, h.id2, h.row, h.inn, by simp only [bxP, bxQ, reduceCtorEq, hq1, hq3, h4, h14, h15, h16, d1], by simp only [bxP, bxQ, reduceCtorEq, hq1, hq3, h4, h14, h15, h16, d1]⟩ (by simp only [bxP, bxQ, reduceCtorEq, hq1, hq3, h4, h14, h15, h16, d1]) hl hc
  · exact ⟨⟨h.gr, h.ok, h.ext, h.lo0, h.b0, h.id1, h.id2, h.row, h.inn, by simp only [bxP, bxQ, reduceCtorEq, hq1, hq3, hbox, hr1, hr2], by simp only [bxP, bxQ, reduceCtorEq, hq1, hq3, hbox, hr1, hr2]⟩, Nat.zero_le _, by simp only [bxP, bxQ, reduceCtorEq, hq1, hq3, hbox, hr1, hr2], by simp only [bxP, bxQ, reduceCtorEq, hq1, hq3, hbox, hr1, hr2], by simp only [bxP, bxQ, reduceCtorEq, hq1, hq3, hbox, hr1, hr2] <;> rfl, by simp only [bxP, bxQ, reduceCtorEq, hq1, hq3, hbox, hr1, hr2], rfl, .inr ⟨rfl, rfl, fun r hr => by simp at hr⟩⟩
theorem push2b {M M2 : MH} {a b : MO} (h : (M.push a).push b = M2) : Ext M M2 ∧ M2.n = M.n + 2 ∧ M2.get M.n = some a ∧ M2.get (M.n + 1) = some b := by
  subst h
  refine ⟨(Ext.push M a).trans (.push _ b), rfl, ?_, push_new (M := M.push a) b⟩
  rw [push_old (by show M.n < M.n + 1; omega)]; exact push_new _
theorem shortest_any {M : MH} {g : Gr} {vr vf vc vk : MV} {es : List (List MV)} (h : GrAt M vr vf vc vk es g) (hok : GrOk g) (hlo : M.lo ≤ M.n) : Cp fns 32 [.ag (gcs g vr vf vc vk)] M fun m M' => Ext M M' ∧ ∃ l id, ShVec g l ∧ m = .sl id 0 l.length 0 ∧ IntsAt M' id l ∧ M.n ≤ id ∧ id < M'.n := by
  refine Cp_call (fn := F32) (by kernel_rfl) (Nat.le_of_ble_eq_true rfl) ?_
  show Wp fns B32 (T.set q0 (some (.ag (gcs g vr vf vc vk))) T.lf) M _
  unfold B32
  rw [show gcs g vr vf vc vk = [MV.i IntKind.i64 g.names, MV.i IntKind.i64 g.kinds, MV.i IntKind.i64 g.start, vr, vf, vc, vk] from rfl]
  obtain ⟨nn, hnn⟩ : ∃ n : Nat, g.names = n := ⟨g.names.toNat, by have := hok.n1; omega⟩
  have hn1 := hok.n1
  have hn40 := hok.n2
  have hfill : fillM [(0, 1, MV.i .i64 (Int.negSucc 0))] [MV.i .i64 0] = some [MV.i .i64 (Int.negSucc 0)] := fill_one rfl rfl
  simp (maxSteps := 4000000) (disch := first | omega | assumption | (simp only [bxS, bxV, stOk, Nat.reduceBEq, Nat.reduceEqDiff, Nat.reduceAdd]; done) | (simp only [bxU]; omega) | ((try apply has_setN); apply has_ofL; simp only [bxL]; omega)) only [↓bxD, bxP, bxQ, Nat.reduceBEq, reduceCtorEq, Nat.reduceAdd, Nat.reduceSub, Nat.reduceMul, Nat.reduceLeDiff, Nat.reduceLT, bxR, hnn, hfill]
  have hp := row_one (M := M.push (.cs false 7 (ofL [MV.i .i64 (nn : Int), .i .i64 g.kinds, .i .i64 g.start, vr, vf, vc, vk] 0))) (sz := 1) (e := [MV.i .i64 (Int.negSucc 0)]) rfl
  generalize hM2 : (M.push _).push _ = M2 at hp ⊢
  obtain ⟨x2, n2, g2, _⟩ := push2b hM2
  have l2 := x2.lo
  clear hM2
  have hp : IntRow M2 (.sl (M.n + 1) 0 1 0) [-1] := hp
  refine bindP_call (repeat_any (z := -1) hp ⟨by omega, by omega⟩ (by omega)) ?_
  rintro m M3 ⟨x3, rfl, hi3, n3⟩
  have g3 := (x3.old M.n (by omega)).trans g2
  simp (maxSteps := 4000000) (disch := first | omega | assumption | (simp only [bxS, bxV, stOk, Nat.reduceBEq, Nat.reduceEqDiff, Nat.reduceAdd]; done) | (simp only [bxU]; omega) | ((try apply has_setN); apply has_ofL; simp only [bxL]; omega)) only [↓bxD, bxP, bxQ, Nat.reduceBEq, reduceCtorEq, Nat.reduceAdd, Nat.reduceSub, Nat.reduceMul, Nat.reduceLeDiff, Nat.reduceLT, bxR, hnn, hfill]
  have hin : ShIn g (shIt g 0) := ShIn.it hok 0
  have hnn' : g.names.toNat = nn := by omega
  refine Wp_inv (σ := List Int × Bool) (fun s f1 M1 => ISt M M1 g vr vf vc vk es M2.n s.1 f1 ∧ X.ev f1 (.t q4) = .b s.2 ∧ (∃ n, s.1 = shIt g n) ∧ (s.2 = false → ShStill g.rules s.1)) (fun s => 2 * shMu s.1 + (if s.2 = true then 1 else 0)) ?_ (shIt g 0, true) ?_
  · rintro ⟨l, more⟩ f1 M4 ⟨h4, ht, hs, hc⟩
    simp only at h4 ht hs hc
    have hq1 := h4.q1
    have hq3 := h4.q3
    simp only [q1, q3, q4] at hq1 hq3 ht
    unfold L32_4
    cases more with
    | true =>
      simp (maxSteps := 4000000) (disch := first | omega | assumption | (simp only [bxS, bxV, stOk, Nat.reduceBEq, Nat.reduceEqDiff, Nat.reduceAdd]; done) | (simp only [bxU]; omega) | ((try apply has_setN); apply has_ofL; simp only [bxL]; omega)) only [↓bxD, bxP, bxQ, Nat.reduceBEq, reduceCtorEq, Nat.reduceAdd, Nat.reduceSub, Nat.reduceMul, Nat.reduceLeDiff, Nat.reduceLT, bxR, hq1, hq3, ht]
      show Wp fns K32_3 _ _ _
      refine short_round ⟨h4.gr, h4.ok, h4.ext, h4.lo0, h4.b0, h4.id1, h4.id2, h4.row, h4.inn, by simp only [bxP, bxQ, reduceCtorEq, hq1, hq3, ht], by simp only [bxP, bxQ, reduceCtorEq, hq1, hq3, ht]⟩ _ ?_
      intro f' M' l' more' h' h4' hs' hcase
      refine ⟨(l', more'), ?_, h', h4', ?_, fun e => ?_⟩
      · rcases hcase with ⟨rfl, hlt⟩ | ⟨rfl, rfl, _⟩
        · simp only [if_true]; omega
        · simp
      · obtain ⟨n, rfl⟩ := hs
        exact ⟨n + 1, hs'⟩
      · rcases hcase with ⟨rfl, _⟩ | ⟨_, rfl, hc'⟩
        · cases e
        · exact hc'
    | false =>
      simp (maxSteps := 4000000) (disch := first | omega | assumption | (simp only [bxS, bxV, stOk, Nat.reduceBEq, Nat.reduceEqDiff, Nat.reduceAdd]; done) | (simp only [bxU]; omega) | ((try apply has_setN); apply has_ofL; simp only [bxL]; omega)) only [↓bxD, bxP, bxQ, Nat.reduceBEq, reduceCtorEq, Nat.reduceAdd, Nat.reduceSub, Nat.reduceMul, Nat.reduceLeDiff, Nat.reduceLT, bxR, hq1, hq3, ht]
      show Wp fns K32_5 _ _ _
      unfold K32_5
      simp (maxSteps := 4000000) (disch := first | omega | assumption | (simp only [bxS, bxV, stOk, Nat.reduceBEq, Nat.reduceEqDiff, Nat.reduceAdd]; done) | (simp only [bxU]; omega) | ((try apply has_setN); apply has_ofL; simp only [bxL]; omega)) only [↓bxD, bxP, bxQ, Nat.reduceBEq, reduceCtorEq, Nat.reduceAdd, Nat.reduceSub, Nat.reduceMul, Nat.reduceLeDiff, Nat.reduceLT, bxR, hq1, hq3, ht]
      exact ⟨h4.ext, l, M2.n, ⟨hs, hc rfl⟩, rfl, h4.row, by omega, h4.id2⟩
  · refine ⟨⟨h, hok, x2.trans x3, hlo, by rw [g3]; unfold gcs; rw [hnn], by omega, by omega, ?_, hin, by simp only [bxP, bxQ, reduceCtorEq, hnn, hfill], ?_⟩, by simp only [bxP, bxQ, reduceCtorEq, hnn, hfill], ⟨0, rfl⟩, fun e => by cases e⟩
    · show IntsAt M3 M2.n (List.replicate g.names.toNat (-1))
      rw [hnn']; exact hi3
    · simp (maxSteps := 4000000) (disch := first | omega | assumption | (simp only [bxS, bxV, stOk, Nat.reduceBEq, Nat.reduceEqDiff, Nat.reduceAdd]; done) | (simp only [bxU]; omega) | ((try apply has_setN); apply has_ofL; simp only [bxL]; omega)) only [↓bxD, bxP, bxQ, Nat.reduceBEq, reduceCtorEq, Nat.reduceAdd, Nat.reduceSub, Nat.reduceMul, Nat.reduceLeDiff, Nat.reduceLT, bxR, hnn, hfill]
      show MV.sl M2.n 0 nn 0 = .sl M2.n 0 (List.replicate g.names.toNat (-1)).length 0
      rw [List.length_replicate, hnn']
theorem isForm_any {M : MH} {g : Gr} {vr vf vc vk : MV} {es : List (List MV)} (h : GrAt M vr vf vc vk es g) (hlo : M.lo ≤ M.n) : Cp fns 22 [.ag (gcs g vr vf vc vk)] M fun m M' => m = .b (decide ((formP g).2 = 0)) ∧ Ext M M' := by
  have hG : ∀ l, l = gcs g vr vf vc vk → Ev.getN (ofL l 0) 7 0 = some (gcs g vr vf vc vk) := fun l e => by subst e; exact (at_ofL (gcs g vr vf vc vk)).getN
  have hG := hG [MV.i IntKind.i64 g.names, MV.i IntKind.i64 g.kinds, MV.i IntKind.i64 g.start, vr, vf, vc, vk] rfl
  refine Cp_call (fn := F22) (by kernel_rfl) (Nat.le_of_ble_eq_true rfl) ?_
  show Wp fns B22 (T.set q0 (some (.ag (gcs g vr vf vc vk))) T.lf) M _
  unfold B22
  rw [show gcs g vr vf vc vk = [MV.i IntKind.i64 g.names, MV.i IntKind.i64 g.kinds, MV.i IntKind.i64 g.start, vr, vf, vc, vk] from rfl]
  simp (maxSteps := 4000000) (disch := first | omega | assumption | (simp only [bxS, bxV, stOk, Nat.reduceBEq, Nat.reduceEqDiff, Nat.reduceAdd]; done) | (simp only [bxU]; omega) | ((try apply has_setN); apply has_ofL; simp only [bxL]; omega)) only [↓bxD, bxP, bxQ, Nat.reduceBEq, reduceCtorEq, Nat.reduceAdd, Nat.reduceSub, Nat.reduceMul, Nat.reduceLeDiff, Nat.reduceLT, bxR, hG]
  refine bindP_call (prog_form (h.ext (.push M _)) (by show M.lo ≤ M.n + 1; omega)) ?_
  rintro m M2 ⟨rfl, hx⟩
  simp (maxSteps := 4000000) (disch := first | omega | assumption | (simp only [bxS, bxV, stOk, Nat.reduceBEq, Nat.reduceEqDiff, Nat.reduceAdd]; done) | (simp only [bxU]; omega) | ((try apply has_setN); apply has_ofL; simp only [bxL]; omega)) only [↓bxD, bxP, bxQ, Nat.reduceBEq, reduceCtorEq, Nat.reduceAdd, Nat.reduceSub, Nat.reduceMul, Nat.reduceLeDiff, Nat.reduceLT, bxR, hG]
  exact (Ext.push M _).trans hx
def ShPost (g : Gr) (M : MH) (m : MV) (M' : MH) : Prop := Ext M M' ∧ (((formP g).2 ≠ 0 ∧ m = .nils) ∨ ((formP g).2 = 0 ∧ ∃ l, ShVec g l ∧ IntRow M' m l))
def PrPost (g : Gr) (M : MH) (m : MV) (M' : MH) : Prop := Ext M M' ∧ (((formP g).2 ≠ 0 ∧ m = .nils) ∨ ((formP g).2 = 0 ∧ ∃ l, ShVec g l ∧ BRow M' m (l.map fun z => decide (0 ≤ z))))
theorem pprod_any {M : MH} {g : Gr} {vr vf vc vk : MV} {es : List (List MV)} (h : GrAt M vr vf vc vk es g) (hlo : M.lo ≤ M.n) : Cp fns 17 [.ag (gcs g vr vf vc vk)] M (PrPost g M) := by
  have hG : ∀ l, l = gcs g vr vf vc vk → Ev.getN (ofL l 0) 7 0 = some (gcs g vr vf vc vk) := fun l e => by subst e; exact (at_ofL (gcs g vr vf vc vk)).getN
  have hG := hG [MV.i IntKind.i64 g.names, MV.i IntKind.i64 g.kinds, MV.i IntKind.i64 g.start, vr, vf, vc, vk] rfl
  refine Cp_call (fn := F17) (by kernel_rfl) (Nat.le_of_ble_eq_true rfl) ?_
  show Wp fns B17 (T.set q0 (some (.ag (gcs g vr vf vc vk))) T.lf) M _
  unfold B17
  rw [show gcs g vr vf vc vk = [MV.i IntKind.i64 g.names, MV.i IntKind.i64 g.kinds, MV.i IntKind.i64 g.start, vr, vf, vc, vk] from rfl]
  generalize hM1 : M.push (.cs false 7 (ofL [MV.i IntKind.i64 g.names, MV.i IntKind.i64 g.kinds, MV.i IntKind.i64 g.start, vr, vf, vc, vk] 0)) = M1
  have g0 : M1.get M.n = some (.cs false 7 (ofL [MV.i IntKind.i64 g.names, MV.i IntKind.i64 g.kinds, MV.i IntKind.i64 g.start, vr, vf, vc, vk] 0)) := by rw [← hM1]; exact push_new _
  have x1 : Ext M M1 := by rw [← hM1]; exact .push M _
  have n1 : M1.n = M.n + 1 := by rw [← hM1]; rfl
  have l1 := x1.lo
  simp (maxSteps := 4000000) (disch := first | omega | assumption | (simp only [bxS, bxV, stOk, Nat.reduceBEq, Nat.reduceEqDiff, Nat.reduceAdd]; done) | (simp only [bxU]; omega) | ((try apply has_setN); apply has_ofL; simp only [bxL]; omega)) only [↓bxD, bxP, bxQ, Nat.reduceBEq, reduceCtorEq, Nat.reduceAdd, Nat.reduceSub, Nat.reduceMul, Nat.reduceLeDiff, Nat.reduceLT, bxR, hG, hM1, g0]
  refine bindP_call (isForm_any (h.ext x1) (by omega)) ?_
  rintro m M2 ⟨rfl, x2⟩
  have n2 := x2.n
  have l2 := x2.lo
  have g2 := (x2.old _ (by omega)).trans g0
  by_cases hz : (formP g).2 = 0
  · have dz : decide ((formP g).2 = 0) = true := decide_eq_true hz
    have hok := form_ok hz
    obtain ⟨nn, hnn⟩ : ∃ n : Nat, g.names = n := ⟨g.names.toNat, by have := hok.n1; omega⟩
    have hn1 := hok.n1
    have hn40 := hok.n2
    have hcs : gcs g vr vf vc vk = [MV.i .i64 (nn : Int), .i .i64 g.kinds, .i .i64 g.start, vr, vf, vc, vk] := by unfold gcs; rw [hnn]
    have g2' := g2
    rw [hnn] at g2'
    have hG' := hG
    rw [hnn, hcs] at hG'
    simp (maxSteps := 4000000) (disch := first | omega | assumption | (simp only [bxS, bxV, stOk, Nat.reduceBEq, Nat.reduceEqDiff, Nat.reduceAdd]; done) | (simp only [bxU]; omega) | ((try apply has_setN); apply has_ofL; simp only [bxL]; omega)) only [↓bxD, bxP, bxQ, Nat.reduceBEq, reduceCtorEq, Nat.reduceAdd, Nat.reduceSub, Nat.reduceMul, Nat.reduceLeDiff, Nat.reduceLT, bxR, hG', g2', dz, ev_mks, mks_ok]
    show Wp fns K17_4 _ _ _
    unfold K17_4
    simp (maxSteps := 4000000) (disch := first | omega | assumption | (simp only [bxS, bxV, stOk, Nat.reduceBEq, Nat.reduceEqDiff, Nat.reduceAdd]; done) | (simp only [bxU]; omega) | ((try apply has_setN); apply has_ofL; simp only [bxL]; omega)) only [↓bxD, bxP, bxQ, Nat.reduceBEq, reduceCtorEq, Nat.reduceAdd, Nat.reduceSub, Nat.reduceMul, Nat.reduceLeDiff, Nat.reduceLT, bxR, hG', g2', dz, ev_mks, mks_ok, hG]
    have hbn := BoolsAt.new (M := M2) nn
    have x3 : Ext M2 (M2.push (.cs false 1 (ofL (zrow [.b false] nn) 0))) := .push M2 _
    have n3 : (M2.push (.cs false 1 (ofL (zrow [.b false] nn) 0))).n = M2.n + 1 := rfl
    generalize M2.push (.cs false 1 (ofL (zrow [.b false] nn) 0)) = M3 at hbn x3 n3
    have l3 := x3.lo
    rw [← hcs]
    refine bindP_call (shortest_any (((h.ext x1).ext x2).ext x3) hok (by omega)) ?_
    rintro m M4 ⟨x4, l, id, h1, rfl, h2, h3, h4⟩
    have hin := h1.inn hok
    have hll := hin.len
    have l4 := x4.lo
    simp (maxSteps := 4000000) (disch := first | omega | assumption | (simp only [bxS, bxV, stOk, Nat.reduceBEq, Nat.reduceEqDiff, Nat.reduceAdd]; done) | (simp only [bxU]; omega) | ((try apply has_setN); apply has_ofL; simp only [bxL]; omega)) only [↓bxD, bxP, bxQ, Nat.reduceBEq, reduceCtorEq, Nat.reduceAdd, Nat.reduceSub, Nat.reduceMul, Nat.reduceLeDiff, Nat.reduceLT, bxR, hG', g2', dz, ev_mks, mks_ok, len_slc]
    refine Wp_inv (σ := Nat × List Bool) (fun s f M' => Ext M M' ∧ M'.n = M4.n ∧ s.1 ≤ l.length ∧ X.ev f (.t q3) = .sl M2.n 0 nn 0 ∧ X.ev f (.t q13) = .sl id 0 l.length 0 ∧ X.ev f (.t q14) = .i .i64 (l.length : Int) ∧ X.ev f (.t q15) = .i .i64 (s.1 : Int) ∧ IntsAt M' id l ∧ BoolsAt M' M2.n s.2 ∧ s.2.length = nn ∧ ∀ j z, j < s.1 → l[j]? = some z → s.2[j]? = some (decide (0 ≤ z))) (fun s => l.length - s.1) ?_ (0, List.replicate nn false) ?_
    · rintro ⟨i, L⟩ f M' ⟨hx, hn', hi, h3', h13, h14, h15, hI, hB, hL, hv⟩
      simp only at hi h3' h13 h14 h15 hB hL hv
      simp only [q3, q13, q14, q15] at h3' h13 h14 h15
      have hl' := hx.lo
      unfold L17_2
      by_cases hi' : i < l.length
      · have d1 : decide ((i : Int) < (l.length : Int)) = true := decide_eq_true (by omega)
        obtain ⟨z, hz⟩ : ∃ z, l[i]? = some z := ⟨_, List.getElem?_eq_getElem hi'⟩
        have hzb := hin.lo z (List.mem_of_getElem? hz)
        obtain ⟨t, ht1, ht2, ht3, ht4⟩ := hI.read
        obtain ⟨tb, hb1, hb2, hb3, hb4⟩ := hB.read
        have hR := ht2 _ _ hz
        have hH := hb3 i (by omega)
        have dz : decide (z ≠ Int.negSucc 0) = decide (0 ≤ z) := by
          by_cases e : 0 ≤ z
          · rw [decide_eq_true e]; exact decide_eq_true (fun e' => by omega)
          · rw [decide_eq_false e]; exact decide_eq_false (fun e' => e' (by omega))
        simp (maxSteps := 4000000) (disch := first | omega | assumption | (simp only [bxS, bxV, stOk, Nat.reduceBEq, Nat.reduceEqDiff, Nat.reduceAdd]; done) | (simp only [bxU]; omega) | ((try apply has_setN); apply has_ofL; simp only [bxL]; omega)) only [↓bxD, bxP, bxQ, Nat.reduceBEq, reduceCtorEq, Nat.reduceAdd, Nat.reduceSub, Nat.reduceMul, Nat.reduceLeDiff, Nat.reduceLT, bxR, h3', h13, h14, h15, d1, ix_slc, ht1, hR, hb1, hH, dz]
        show Wp fns K17_1 _ _ _
        unfold K17_1
        simp (maxSteps := 4000000) (disch := first | omega | assumption | (simp only [bxS, bxV, stOk, Nat.reduceBEq, Nat.reduceEqDiff, Nat.reduceAdd]; done) | (simp only [bxU]; omega) | ((try apply has_setN); apply has_ofL; simp only [bxL]; omega)) only [↓bxD, bxP, bxQ, Nat.reduceBEq, reduceCtorEq, Nat.reduceAdd, Nat.reduceSub, Nat.reduceMul, Nat.reduceLeDiff, Nat.reduceLT, bxR, h3', h13, h14, h15, d1, ix_slc, ht1, hR, hb1, hH, dz]
        show Wp fns K17_0 _ _ _
        unfold K17_0
        simp (maxSteps := 4000000) (disch := first | omega | assumption | (simp only [bxS, bxV, stOk, Nat.reduceBEq, Nat.reduceEqDiff, Nat.reduceAdd]; done) | (simp only [bxU]; omega) | ((try apply has_setN); apply has_ofL; simp only [bxL]; omega)) only [↓bxD, bxP, bxQ, Nat.reduceBEq, reduceCtorEq, Nat.reduceAdd, Nat.reduceSub, Nat.reduceMul, Nat.reduceLeDiff, Nat.reduceLT, bxR, h3', h13, h14, h15, d1, ix_slc, ht1, hR, hb1, hH, dz]
        refine ⟨(i + 1, L.set i (decide (0 ≤ z))), by simp only; omega, hx.set _ (by omega), hn', by simp only; omega, rfl, hI.same (set_ne (by omega)), ⟨_, set_same _ _, hb4 i _ (by omega)⟩, by rw [List.length_set]; exact hL, fun j y hj hy => ?_⟩
        simp only at hj ⊢
        rw [List.getElem?_set]
        by_cases e : i = j
        · subst e
          rw [hz] at hy
          injection hy with hy
          subst hy
          rw [if_pos rfl, if_pos (by omega)]
        · rw [if_neg e]
          exact hv j y (by omega) hy
      · have d1 : decide ((i : Int) < (l.length : Int)) = false := decide_eq_false (by omega)
        simp (maxSteps := 4000000) (disch := first | omega | assumption | (simp only [bxS, bxV, stOk, Nat.reduceBEq, Nat.reduceEqDiff, Nat.reduceAdd]; done) | (simp only [bxU]; omega) | ((try apply has_setN); apply has_ofL; simp only [bxL]; omega)) only [↓bxD, bxP, bxQ, Nat.reduceBEq, reduceCtorEq, Nat.reduceAdd, Nat.reduceSub, Nat.reduceMul, Nat.reduceLeDiff, Nat.reduceLT, bxR, h3', h13, h14, h15, d1]
        show Wp fns K17_3 _ _ _
        unfold K17_3
        simp (maxSteps := 4000000) (disch := first | omega | assumption | (simp only [bxS, bxV, stOk, Nat.reduceBEq, Nat.reduceEqDiff, Nat.reduceAdd]; done) | (simp only [bxU]; omega) | ((try apply has_setN); apply has_ofL; simp only [bxL]; omega)) only [↓bxD, bxP, bxQ, Nat.reduceBEq, reduceCtorEq, Nat.reduceAdd, Nat.reduceSub, Nat.reduceMul, Nat.reduceLeDiff, Nat.reduceLT, bxR, h3', h13, h14, h15, d1]
        refine ⟨hx, .inr ⟨hz, l, h1, ?_⟩⟩
        have e : l.map (fun z => decide (0 ≤ z)) = L := by
          refine List.ext_getElem? fun j => ?_
          rw [List.getElem?_map]
          cases hj : l[j]? with
          | none =>
            have := List.getElem?_eq_none_iff.1 hj
            rw [List.getElem?_eq_none (by omega)]; rfl
          | some z =>
            have := (List.getElem?_eq_some_iff.1 hj).1
            rw [hv j z (by omega) hj]; rfl
        rw [e]
        have := hB.row (by omega)
        rw [hL] at this
        exact this
    · exact ⟨((x1.trans x2).trans x3).trans x4, rfl, Nat.zero_le _, by simp only [bxP, bxQ, reduceCtorEq, hG', g2', dz, ev_mks, mks_ok], by simp only [bxP, bxQ, reduceCtorEq, hG', g2', dz, ev_mks, mks_ok], by simp only [bxP, bxQ, reduceCtorEq, hG', g2', dz, ev_mks, mks_ok], by simp only [bxP, bxQ, reduceCtorEq, hG', g2', dz, ev_mks, mks_ok] <;> rfl, h2, hbn.same (x4.old _ (by omega)), List.length_replicate, fun j z hj => by cases hj⟩
  · have dz : decide ((formP g).2 = 0) = false := decide_eq_false hz
    simp (maxSteps := 4000000) (disch := first | omega | assumption | (simp only [bxS, bxV, stOk, Nat.reduceBEq, Nat.reduceEqDiff, Nat.reduceAdd]; done) | (simp only [bxU]; omega) | ((try apply has_setN); apply has_ofL; simp only [bxL]; omega)) only [↓bxD, bxP, bxQ, Nat.reduceBEq, reduceCtorEq, Nat.reduceAdd, Nat.reduceSub, Nat.reduceMul, Nat.reduceLeDiff, Nat.reduceLT, bxR, hG, g2, dz]
    exact ⟨x1.trans x2, .inl ⟨hz, rfl⟩⟩
def NulPost (g : Gr) (M : MH) (m : MV) (M' : MH) : Prop := Ext M M' ∧ (((formP g).2 ≠ 0 ∧ m = .nils) ∨ ((formP g).2 = 0 ∧ ∃ l, NulVec g l ∧ BRow M' m l))
theorem pnull_any {M : MH} {g : Gr} {vr vf vc vk : MV} {es : List (List MV)} (h : GrAt M vr vf vc vk es g) (hlo : M.lo ≤ M.n) : Cp fns 36 [.ag (gcs g vr vf vc vk)] M (NulPost g M) := by
  have hG : ∀ l, l = gcs g vr vf vc vk → Ev.getN (ofL l 0) 7 0 = some (gcs g vr vf vc vk) := fun l e => by subst e; exact (at_ofL (gcs g vr vf vc vk)).getN
  have hG := hG [MV.i IntKind.i64 g.names, MV.i IntKind.i64 g.kinds, MV.i IntKind.i64 g.start, vr, vf, vc, vk] rfl
  refine Cp_call (fn := F36) (by kernel_rfl) (Nat.le_of_ble_eq_true rfl) ?_
  show Wp fns B36 (T.set q0 (some (.ag (gcs g vr vf vc vk))) T.lf) M _
  unfold B36
  rw [show gcs g vr vf vc vk = [MV.i IntKind.i64 g.names, MV.i IntKind.i64 g.kinds, MV.i IntKind.i64 g.start, vr, vf, vc, vk] from rfl]
  generalize hM1 : M.push (.cs false 7 (ofL [MV.i IntKind.i64 g.names, MV.i IntKind.i64 g.kinds, MV.i IntKind.i64 g.start, vr, vf, vc, vk] 0)) = M1
  have g0 : M1.get M.n = some (.cs false 7 (ofL [MV.i IntKind.i64 g.names, MV.i IntKind.i64 g.kinds, MV.i IntKind.i64 g.start, vr, vf, vc, vk] 0)) := by rw [← hM1]; exact push_new _
  have x1 : Ext M M1 := by rw [← hM1]; exact .push M _
  have n1 : M1.n = M.n + 1 := by rw [← hM1]; rfl
  have l1 := x1.lo
  have fld0 : ∀ a b : MV, fld1V 0 (.ag [a, b]) = some a := fun _ _ => rfl
  have fld1 : ∀ a b : MV, fld1V 1 (.ag [a, b]) = some b := fun _ _ => rfl
  simp (maxSteps := 4000000) (disch := first | omega | assumption | (simp only [bxS, bxV, stOk, Nat.reduceBEq, Nat.reduceEqDiff, Nat.reduceAdd]; done) | (simp only [bxU]; omega) | ((try apply has_setN); apply has_ofL; simp only [bxL]; omega)) only [↓bxD, bxP, bxQ, Nat.reduceBEq, reduceCtorEq, Nat.reduceAdd, Nat.reduceSub, Nat.reduceMul, Nat.reduceLeDiff, Nat.reduceLT, bxR, hG, hM1, g0]
  refine bindP_call (isForm_any (h.ext x1) (by omega)) ?_
  rintro m M2 ⟨rfl, x2⟩
  have n2 := x2.n
  have l2 := x2.lo
  have g2 := (x2.old _ (by omega)).trans g0
  by_cases hz : (formP g).2 = 0
  · have dz : decide ((formP g).2 = 0) = true := decide_eq_true hz
    have hok := form_ok hz
    have hk40 := hok.k2
    have hk0 := hok.k1
    have hn40 := hok.n2
    simp (maxSteps := 4000000) (disch := first | omega | assumption | (simp only [bxS, bxV, stOk, Nat.reduceBEq, Nat.reduceEqDiff, Nat.reduceAdd]; done) | (simp only [bxU]; omega) | ((try apply has_setN); apply has_ofL; simp only [bxL]; omega)) only [↓bxD, bxP, bxQ, Nat.reduceBEq, reduceCtorEq, Nat.reduceAdd, Nat.reduceSub, Nat.reduceMul, Nat.reduceLeDiff, Nat.reduceLT, bxR, hG, g2, dz, fld0, fld1]
    show Wp fns K36_0 _ _ _
    unfold K36_0
    simp (maxSteps := 4000000) (disch := first | omega | assumption | (simp only [bxS, bxV, stOk, Nat.reduceBEq, Nat.reduceEqDiff, Nat.reduceAdd]; done) | (simp only [bxU]; omega) | ((try apply has_setN); apply has_ofL; simp only [bxL]; omega)) only [↓bxD, bxP, bxQ, Nat.reduceBEq, reduceCtorEq, Nat.reduceAdd, Nat.reduceSub, Nat.reduceMul, Nat.reduceLeDiff, Nat.reduceLT, bxR, hG, g2, dz, fld0, fld1]
    refine bindP_call (beginsOf_any ((h.ext x1).ext x2) (by omega) hok) ?_
    rintro m M3 ⟨x3, na, nf, N, F, rfl, t, h1, h2, h3, h4, h5, h6⟩
    unfold tw
    simp (maxSteps := 4000000) (disch := first | omega | assumption | (simp only [bxS, bxV, stOk, Nat.reduceBEq, Nat.reduceEqDiff, Nat.reduceAdd]; done) | (simp only [bxU]; omega) | ((try apply has_setN); apply has_ofL; simp only [bxL]; omega)) only [↓bxD, bxP, bxQ, Nat.reduceBEq, reduceCtorEq, Nat.reduceAdd, Nat.reduceSub, Nat.reduceMul, Nat.reduceLeDiff, Nat.reduceLT, bxR, hG, g2, dz, fld0, fld1]
    have hr := t.a.row t.lna
    rw [t.len] at hr
    exact ⟨(x1.trans x2).trans x3, .inr ⟨hz, N, h3, hr⟩⟩
  · have dz : decide ((formP g).2 = 0) = false := decide_eq_false hz
    simp (maxSteps := 4000000) (disch := first | omega | assumption | (simp only [bxS, bxV, stOk, Nat.reduceBEq, Nat.reduceEqDiff, Nat.reduceAdd]; done) | (simp only [bxU]; omega) | ((try apply has_setN); apply has_ofL; simp only [bxL]; omega)) only [↓bxD, bxP, bxQ, Nat.reduceBEq, reduceCtorEq, Nat.reduceAdd, Nat.reduceSub, Nat.reduceMul, Nat.reduceLeDiff, Nat.reduceLT, bxR, hG, g2, dz]
    exact ⟨x1.trans x2, .inl ⟨hz, rfl⟩⟩
theorem gr_lift {M : MH} {vr vf vc vk : MV} {es : List (List MV)} {g : Gr} (h : GrAt M vr vf vc vk es g) : GrAt M.lift vr vf vc vk es g := ⟨⟨h.rules.row, h.rules.len, fun i e r h1 h2 => let ⟨v, k1, k2⟩ := h.rules.at_ i e r h1 h2; ⟨v, k1, k2⟩⟩, h.forbid, h.rc, h.kc, h.wf⟩
theorem ext_dl {M M' : MH} (h : Ext M.lift M') : Ext M (M'.down M.lo) := ⟨h.n, rfl, h.old⟩
theorem words_new {M : MH} (n : Nat) : WordsAt (M.push (.cs false 1 (ofL (zrow [.i .u64 0] n) 0))) M.n (List.replicate n 0) := ⟨_, push_new _, by rw [List.map_replicate, ← zrow_rep]; exact at_ofL _⟩
structure OSt (M0 M : MH) (g : Gr) (vr vf vc vk : MV) (es : List (List MV)) (vn : MV) (N : List Bool) (id : Nat) (F : List Nat) (f : Fr) : Prop where
  gr : GrAt M0 vr vf vc vk es g
  ok : GrOk g
  ext : Ext M0 M
  lo0 : M0.lo ≤ M0.n
  nul : BRow M vn N
  nl : N.length = g.names.toNat
  ws : WordsAt M id F
  id1 : M0.n ≤ id
  id2 : id < M.n
  nid : sid vn ≠ id ∨ N = []
  len : F.length = g.names.toNat
  lt : ∀ k ∈ F, k < 2 ^ 64
  q3 : X.ev f (.t q3) = vn
  q4 : X.ev f (.t q4) = .sl id 0 F.length 0
def OneStep (g : Gr) (N : List Bool) (F : List Nat) (n : Nat) : Prop := ∀ i j, i < F.length → (fAt F i).testBit j = cyB N (g.rules.take n) i j
theorem one_set {g : Gr} {N : List Bool} {F : List Nat} {n a w : Nat} {ar : List Int} {dy : Int} (h : OneStep g N F n) (hr : g.rules[n]? = some ((a : Int), ar, dy)) (ha : a < F.length) (hw : ∀ j, w.testBit j = aloneB N ar ar.length j) : OneStep g N (F.set a (fAt F a ||| w)) (n + 1) := fun i j hi => by
  rw [List.length_set] at hi
  rw [fAt_set ha, cyB_take hr]
  by_cases e : a = i
  · subst e
    rw [if_pos rfl, Nat.testBit_or, h a j hi, hw j, decide_eq_true rfl, Bool.true_and]
  · rw [if_neg e, h i j hi, decide_eq_false (fun e' => e (by simp only at e'; omega)), Bool.false_and, Bool.or_false]
theorem oneStep_any {M : MH} {g : Gr} {vr vf vc vk : MV} {es : List (List MV)} (h : GrAt M vr vf vc vk es g) (hz : (formP g).2 = 0) (hlo : M.lo ≤ M.n) : Cp fns 23 [.ag (gcs g vr vf vc vk)] M fun m M' => Ext M M' ∧ ∃ id F N, m = .sl id 0 F.length 0 ∧ M.n ≤ id ∧ id < M'.n ∧ WordsAt M' id F ∧ F.length = g.names.toNat ∧ (∀ k ∈ F, k < 2 ^ 64) ∧ NulVec g N ∧ OneStep g N F g.rules.length := by
  have hG : ∀ l, l = gcs g vr vf vc vk → Ev.getN (ofL l 0) 7 0 = some (gcs g vr vf vc vk) := fun l e => by subst e; exact (at_ofL (gcs g vr vf vc vk)).getN
  have hG := hG [MV.i IntKind.i64 g.names, MV.i IntKind.i64 g.kinds, MV.i IntKind.i64 g.start, vr, vf, vc, vk] rfl
  have hok := form_ok hz
  have hn1 := hok.n1
  have hn40 := hok.n2
  have hrl := hok.rl
  obtain ⟨hr1, hr2⟩ := h.rules.row.sl
  rw [h.rules.len] at hr2
  obtain ⟨nn, hnn⟩ : ∃ n : Nat, g.names = n := ⟨g.names.toNat, by omega⟩
  refine Cp_call (fn := F23) (by kernel_rfl) (Nat.le_of_ble_eq_true rfl) ?_
  show Wp fns B23 (T.set q0 (some (.ag (gcs g vr vf vc vk))) T.lf) M _
  unfold B23
  rw [show gcs g vr vf vc vk = [MV.i IntKind.i64 g.names, MV.i IntKind.i64 g.kinds, MV.i IntKind.i64 g.start, vr, vf, vc, vk] from rfl]
  generalize hM1 : M.push (.cs false 7 (ofL [MV.i IntKind.i64 g.names, MV.i IntKind.i64 g.kinds, MV.i IntKind.i64 g.start, vr, vf, vc, vk] 0)) = M1
  have g0 : M1.get M.n = some (.cs false 7 (ofL [MV.i IntKind.i64 g.names, MV.i IntKind.i64 g.kinds, MV.i IntKind.i64 g.start, vr, vf, vc, vk] 0)) := by rw [← hM1]; exact push_new _
  have x1 : Ext M M1 := by rw [← hM1]; exact .push M _
  have n1 : M1.n = M.n + 1 := by rw [← hM1]; rfl
  have l1 := x1.lo
  simp (maxSteps := 4000000) (disch := first | omega | assumption | (simp only [bxS, bxV, stOk, Nat.reduceBEq, Nat.reduceEqDiff, Nat.reduceAdd]; done) | (simp only [bxU]; omega) | ((try apply has_setN); apply has_ofL; simp only [bxL]; omega)) only [↓bxD, bxP, bxQ, Nat.reduceBEq, reduceCtorEq, Nat.reduceAdd, Nat.reduceSub, Nat.reduceMul, Nat.reduceLeDiff, Nat.reduceLT, bxR, hG, hM1, g0]
  refine bindP_call (pnull_any (h.ext x1) (by omega)) ?_
  rintro m M2 ⟨x2, ⟨hne, _⟩ | ⟨_, N, hN, hNr⟩⟩
  · exact absurd hz hne
  have n2 := x2.n
  have l2 := x2.lo
  have g2 := (x2.old _ (by omega)).trans g0
  obtain ⟨m1, m2⟩ := hNr.sl
  have cg0 : cget (ofL [MV.i IntKind.i64 g.names, MV.i IntKind.i64 g.kinds, MV.i IntKind.i64 g.start, vr, vf, vc, vk] 0) 0 = some (.i .i64 (nn : Int)) := by rw [← hnn]; exact (at_ofL _) 0 _ rfl
  have cg3 : cget (ofL [MV.i IntKind.i64 g.names, MV.i IntKind.i64 g.kinds, MV.i IntKind.i64 g.start, vr, vf, vc, vk] 0) 3 = some vr := (at_ofL _) 3 _ rfl
  generalize ofL [MV.i IntKind.i64 g.names, MV.i IntKind.i64 g.kinds, MV.i IntKind.i64 g.start, vr, vf, vc, vk] 0 = cg at g2 cg0 cg3
  have hmk : mksF 1 8 [.i .u64 0] (.i .i64 (nn : Int)) (.i .i64 (nn : Int)) M2.n = some (.sl M2.n 0 nn 0, .cs false 1 (ofL (zrow [.i .u64 0] nn) 0)) := mksF_ok (by omega) (by omega)
  simp (maxSteps := 4000000) (disch := first | omega | assumption | (simp only [bxS, bxV, stOk, Nat.reduceBEq, Nat.reduceEqDiff, Nat.reduceAdd]; done) | (simp only [bxU]; omega) | ((try apply has_setN); apply has_ofL; simp only [bxL]; omega)) only [↓bxD, bxP, bxQ, Nat.reduceBEq, reduceCtorEq, Nat.reduceAdd, Nat.reduceSub, Nat.reduceMul, Nat.reduceLeDiff, Nat.reduceLT, bxR, hG, g2, cg0, cg3, hr1, hr2, ev_mks, mks_ok]
  generalize hM3 : M2.push _ = M3
  have w0 : WordsAt M3 M2.n (List.replicate nn 0) := by rw [← hM3]; exact words_new nn
  have x3 : Ext M2 M3 := by rw [← hM3]; exact .push M2 _
  have n3 : M3.n = M2.n + 1 := by rw [← hM3]; rfl
  have l3 := x3.lo
  clear hM3
  have hNl : N.length = nn := by rw [hN.1]; omega
  have hsid : sid m ≠ M2.n ∨ N = [] := by
    obtain ⟨_, ⟨_, e⟩ | ⟨id, off, e, ro, s, c, rfl, _, e4, _⟩⟩ := hNr
    · exact .inr (List.map_eq_nil_iff.1 e)
    · exact .inl (by show id ≠ _; omega)
  refine Wp_inv (σ := Nat × List Nat) (fun s f M' => s.1 ≤ g.rules.length ∧ OSt M M' g vr vf vc vk es m N M2.n s.2 f ∧ OneStep g N s.2 s.1 ∧ X.ev f (.t q13) = vr ∧ X.ev f (.t q14) = .i .i64 (g.rules.length : Int) ∧ X.ev f (.t q15) = .i .i64 (s.1 : Int)) (fun s => g.rules.length - s.1) ?_ (0, List.replicate nn 0) ?_
  · rintro ⟨i, F⟩ f M4 ⟨hi, hst, hone, h13, h14, h15⟩
    simp only at hi hst hone h15
    have h3 := hst.q3
    have h4 := hst.q4
    simp only [q3, q4, q13, q14, q15] at h3 h4 h13 h14 h15
    have hx := hst.ext
    have xn := hx.n
    have xl := hx.lo
    have hid1 := hst.id1
    have hid2 := hst.id2
    have hFl := hst.len
    unfold L23_2
    by_cases hi' : i < g.rules.length
    · have d1 : decide ((i : Int) < (g.rules.length : Int)) = true := decide_eq_true (by omega)
      obtain ⟨x, hzr⟩ : ∃ x, g.rules[i]? = some x := ⟨_, List.getElem?_eq_getElem hi'⟩
      have hmem := List.mem_of_getElem? hzr
      have hleft := hok.left _ hmem
      have hsym := hok.sym _ hmem
      have hlen8 := hok.len _ hmem
      obtain ⟨a0, ar, a2⟩ := x
      simp only at hleft hsym hlen8
      obtain ⟨a, rfl⟩ : ∃ n : Nat, a0 = n := ⟨a0.toNat, by omega⟩
      obtain ⟨ua, hua, hura⟩ : ∃ u1, es[i]? = some [.i .i64 (a : Int), u1, .i .i64 a2] ∧ IntRow M u1 ar := h.rules.get hzr
      obtain ⟨hsu1, hsu2⟩ := hura.sl
      obtain ⟨ro, s, t, hg, hid, hat⟩ := (h.ext hx).rules.row.read hua
      have hNn : Ev.getN t 3 (soff vr + i * 3) = some [.i .i64 (a : Int), ua, .i .i64 a2] := hat.getN
      have hst2 : stOk 3 (.ag [.i .i64 (a : Int), ua, .i .i64 a2]) = true := by cases ua <;> first | rfl | cases hsu1
      simp (maxSteps := 4000000) (disch := first | omega | assumption | (simp only [bxS, bxV, stOk, Nat.reduceBEq, Nat.reduceEqDiff, Nat.reduceAdd]; done) | (simp only [bxU]; omega) | ((try apply has_setN); apply has_ofL; simp only [bxL]; omega)) only [↓bxD, bxP, bxQ, Nat.reduceBEq, reduceCtorEq, Nat.reduceAdd, Nat.reduceSub, Nat.reduceMul, Nat.reduceLeDiff, Nat.reduceLT, bxR, h3, h4, h13, h14, h15, hr1, hr2, d1, hg, hNn, hst2]
      show Wp fns K23_1 _ _ _
      unfold K23_1
      simp (maxSteps := 4000000) (disch := first | omega | assumption | (simp only [bxS, bxV, stOk, Nat.reduceBEq, Nat.reduceEqDiff, Nat.reduceAdd]; done) | (simp only [bxU]; omega) | ((try apply has_setN); apply has_ofL; simp only [bxL]; omega)) only [↓bxD, bxP, bxQ, Nat.reduceBEq, reduceCtorEq, Nat.reduceAdd, Nat.reduceSub, Nat.reduceMul, Nat.reduceLeDiff, Nat.reduceLT, bxR, h3, h4, h13, h14, h15, hr1, hr2, d1, hg, hNn, hst2]
      generalize hM5 : (M4.push _).set M4.n _ = M5
      have x5 : Ext M4 M5 := by rw [← hM5]; exact (Ext.push M4 _).set _ (Nat.le_refl _)
      have n5 : M5.n = M4.n + 1 := by rw [← hM5]; rfl
      have l5 := x5.lo
      have g9 : M5.get M4.n = some (.cs false 3 (setN [.i .i64 (a : Int), ua, .i .i64 a2] 0 (ofL [.i .i64 0, .nils, .i .i64 0] 0))) := by rw [← hM5, set_same]
      have c9 : At (setN [.i .i64 (a : Int), ua, .i .i64 a2] 0 (ofL [.i .i64 0, .nils, .i .i64 0] 0)) 0 [.i .i64 (a : Int), ua, .i .i64 a2] := at_setN _ _ _
      generalize setN [.i .i64 (a : Int), ua, .i .i64 a2] 0 (ofL [.i .i64 0, .nils, .i .i64 0] 0) = cc at g9 c9
      clear hM5
      have cc0 : cget cc 0 = some (.i .i64 (a : Int)) := c9 0 _ rfl
      have cc1 : cget cc 1 = some ua := c9 1 _ rfl
      have hal : a < F.length := by omega
      have hws5 : WordsAt M5 M2.n F := hst.ws.same (x5.old _ hid2)
      obtain ⟨t5, ht1, ht2, ht3, ht4⟩ := hws5.read
      have hC5 := ht2 a hal
      refine Wp_dreg_of (by omega) ?_
      simp (maxSteps := 4000000) (disch := first | omega | assumption | (simp only [bxS, bxV, stOk, Nat.reduceBEq, Nat.reduceEqDiff, Nat.reduceAdd]; done) | (simp only [bxU]; omega) | ((try apply has_setN); apply has_ofL; simp only [bxL]; omega)) only [↓bxD, bxP, bxQ, Nat.reduceBEq, reduceCtorEq, Nat.reduceAdd, Nat.reduceSub, Nat.reduceMul, Nat.reduceLeDiff, Nat.reduceLT, bxR, h3, h4, h13, h14, h15, g9, cc0, cc1, ix_slc, ht1, hC5]
      have hnl4 : BRow M5 m N := hst.nul.ext x5
      have hur4 : IntRow M5 ua ar := (hura.ext hx).ext x5
      have hnl5 : BRow M5.lift m N := hnl4
      have hur5 : IntRow M5.lift ua ar := hur4
      refine bindP_call (alone_any hnl5 hur5 (fun s hs h0 => ?_) (by omega) (by omega) (Nat.le_refl _)) ?_
      · have := symB_lt (hsym s hs) h0
        omega
      rintro m2 M6 ⟨⟨w, rfl, hw, hwb⟩, x6⟩
      have x56 := ext_dl x6
      have n6 := x56.n
      have l6 := x56.lo
      have hws6 : WordsAt (M6.down M5.lo) M2.n F := hws5.same (x56.old _ (by omega))
      obtain ⟨t6, hu1, hu2, hu3, hu4⟩ := hws6.read
      have hH6 := hu3 a hal
      have hC6 := hu2 a hal
      have hF := fAt_lt hst.lt a
      have hor := or_u64 (a := fAt F a) (b := w) hF hw
      rw [down_get] at hu1
      simp (maxSteps := 4000000) (disch := first | omega | assumption | (simp only [bxS, bxV, stOk, Nat.reduceBEq, Nat.reduceEqDiff, Nat.reduceAdd]; done) | (simp only [bxU]; omega) | ((try apply has_setN); apply has_ofL; simp only [bxL]; omega)) only [↓bxD, bxP, bxQ, Nat.reduceBEq, reduceCtorEq, Nat.reduceAdd, Nat.reduceSub, Nat.reduceMul, Nat.reduceLeDiff, Nat.reduceLT, bxR, h3, h4, h13, h14, h15, g9, cc0, cc1, ix_slc, hu1, hC6, hor, hH6, down_get]
      show Wp fns K23_0 _ _ _
      unfold K23_0
      simp (maxSteps := 4000000) (disch := first | omega | assumption | (simp only [bxS, bxV, stOk, Nat.reduceBEq, Nat.reduceEqDiff, Nat.reduceAdd]; done) | (simp only [bxU]; omega) | ((try apply has_setN); apply has_ofL; simp only [bxL]; omega)) only [↓bxD, bxP, bxQ, Nat.reduceBEq, reduceCtorEq, Nat.reduceAdd, Nat.reduceSub, Nat.reduceMul, Nat.reduceLeDiff, Nat.reduceLT, bxR, h3, h4, h13, h14, h15, g9, cc0, cc1, ix_slc, hu1, hC6, hor, hH6, down_get]
      have hnl6 : BRow (M6.down M5.lo) m N := hnl4.ext x56
      have x46 := x5.trans x56
      have hsA := hu4 a (fAt F a ||| w) hal
      generalize M6.down M5.lo = N6 at hnl6 hws6 x46 x56 n6 l6
      generalize hN7 : N6.set M2.n _ = N7
      have e7 : N7.n = N6.n := by rw [← hN7]; rfl
      have l7 : N7.lo = N6.lo := by rw [← hN7]; rfl
      refine ⟨(i + 1, F.set a (fAt F a ||| w)), by simp only; omega, by simp only; omega, ⟨h, hok, ⟨by omega, by omega, fun j hj => ?_⟩, hlo, ?_, hN.1, ⟨_, by rw [← hN7]; exact set_same _ _, hsA⟩, hid1, by omega, hsid, by simp only [List.length_set]; exact hst.len, fun k hk => ?_, by simp only [bxP, bxQ, reduceCtorEq, h3, h4, h13, h14, h15, g9, cc0, cc1, ix_slc, hu1, hC6, hor, hH6, down_get], by simp (maxSteps := 4000000) (disch := first | omega | assumption | (simp only [bxS, bxV, stOk, Nat.reduceBEq, Nat.reduceEqDiff, Nat.reduceAdd]; done) | (simp only [bxU]; omega) | ((try apply has_setN); apply has_ofL; simp only [bxL]; omega)) only [↓bxD, bxP, bxQ, Nat.reduceBEq, reduceCtorEq, Nat.reduceAdd, Nat.reduceSub, Nat.reduceMul, Nat.reduceLeDiff, Nat.reduceLT, bxR, h3, h4, h13, h14, h15, g9, cc0, cc1, ix_slc, hu1, hC6, hor, hH6, down_get, List.length_set]⟩, one_set hone hzr hal hwb, rfl⟩
      · rw [← hN7, set_ne (by omega), x56.old j (by omega), x5.old j (by omega)]
        exact hx.old j hj
      · rcases hsid with hs | hs
        · obtain ⟨q1', ⟨q2', q3'⟩ | ⟨id', off', e', ro', s', c', rfl, q4', q5', q6'⟩⟩ := hnl6
          · exact ⟨q1', .inl ⟨q2', q3'⟩⟩
          · refine ⟨q1', .inr ⟨id', off', e', ro', s', c', rfl, ?_, by omega, q6'⟩⟩
            rw [← hN7, set_ne (show id' ≠ M2.n from hs)]
            exact q4'
        · subst hs
          obtain ⟨q1', ⟨q2', q3'⟩ | ⟨id', off', e', ro', s', c', rfl, q4', q5', q6'⟩⟩ := hnl6
          · exact ⟨q1', .inl ⟨q2', q3'⟩⟩
          · simp at hNl
            omega
      · rcases List.mem_or_eq_of_mem_set hk with h' | h'
        · exact hst.lt k h'
        · rw [h']; exact Nat.or_lt_two_pow hF hw
    · have d1 : decide ((i : Int) < (g.rules.length : Int)) = false := decide_eq_false (by omega)
      obtain rfl : i = g.rules.length := by omega
      simp (maxSteps := 4000000) (disch := first | omega | assumption | (simp only [bxS, bxV, stOk, Nat.reduceBEq, Nat.reduceEqDiff, Nat.reduceAdd]; done) | (simp only [bxU]; omega) | ((try apply has_setN); apply has_ofL; simp only [bxL]; omega)) only [↓bxD, bxP, bxQ, Nat.reduceBEq, reduceCtorEq, Nat.reduceAdd, Nat.reduceSub, Nat.reduceMul, Nat.reduceLeDiff, Nat.reduceLT, bxR, h3, h4, h13, h14, h15, d1]
      show Wp fns K23_3 _ _ _
      unfold K23_3
      simp (maxSteps := 4000000) (disch := first | omega | assumption | (simp only [bxS, bxV, stOk, Nat.reduceBEq, Nat.reduceEqDiff, Nat.reduceAdd]; done) | (simp only [bxU]; omega) | ((try apply has_setN); apply has_ofL; simp only [bxL]; omega)) only [↓bxD, bxP, bxQ, Nat.reduceBEq, reduceCtorEq, Nat.reduceAdd, Nat.reduceSub, Nat.reduceMul, Nat.reduceLeDiff, Nat.reduceLT, bxR, h3, h4, h13, h14, h15, d1]
      exact ⟨hx, M2.n, F, N, rfl, hid1, hid2, hst.ws, hst.len, hst.lt, hN, hone⟩
  · refine ⟨Nat.zero_le _, ⟨h, hok, ((x1.trans x2).trans x3), hlo, hNr.ext x3, hN.1, w0, by omega, by omega, hsid, by rw [List.length_replicate, hnn]; rfl, fun k hk => by rw [(List.mem_replicate.1 hk).2]; decide, by simp only [bxP, bxQ, reduceCtorEq, hG, g2, cg0, cg3, hr1, hr2], ?_⟩, fun i j _ => ?_, by simp only [bxP, bxQ, reduceCtorEq, hG, g2, cg0, cg3, hr1, hr2], by simp only [bxP, bxQ, reduceCtorEq, hG, g2, cg0, cg3, hr1, hr2] <;> rfl, by simp only [bxP, bxQ, reduceCtorEq, hG, g2, cg0, cg3, hr1, hr2] <;> rfl⟩
    · simp (maxSteps := 4000000) (disch := first | omega | assumption | (simp only [bxS, bxV, stOk, Nat.reduceBEq, Nat.reduceEqDiff, Nat.reduceAdd]; done) | (simp only [bxU]; omega) | ((try apply has_setN); apply has_ofL; simp only [bxL]; omega)) only [↓bxD, bxP, bxQ, Nat.reduceBEq, reduceCtorEq, Nat.reduceAdd, Nat.reduceSub, Nat.reduceMul, Nat.reduceLeDiff, Nat.reduceLT, bxR, hG, g2, cg0, cg3, hr1, hr2]
      show MV.sl M2.n 0 nn 0 = _
      rw [List.length_replicate]
    · rw [List.take_zero, cyB_nil]
      have : fAt (List.replicate nn 0) i = 0 := by unfold fAt; rw [List.getD_eq_getElem?_getD, List.getElem?_replicate]; split <;> rfl
      rw [this, Nat.zero_testBit]
def RelF (F : List Nat) (U : Nat → Nat → Bool) : Prop := ∀ i j, i < F.length → (fAt F i).testBit j = U i j
theorem anySteps_any {M : MH} {id : Nat} {F : List Nat} {U : Nat → Nat → Bool} (h : WordsAt M id F) (hid : id < M.n) (hlo : M.lo ≤ id) (hF : ∀ k ∈ F, k < 2 ^ 64) (hn : F.length ≤ 40) (hT : RelF F U) : Cp fns 24 [.sl id 0 F.length 0] M fun m M' => m = .tp [] ∧ (∀ j, j ≠ id → M'.get j = M.get j) ∧ M'.n = M.n ∧ M'.lo = M.lo ∧ ∃ F', WordsAt M' id F' ∧ F'.length = F.length ∧ (∀ k ∈ F', k < 2 ^ 64) ∧ RelF F' (cyIt U F.length) := by
  refine Cp_call (fn := F24) (by kernel_rfl) (Nat.le_of_ble_eq_true rfl) ?_
  show Wp fns B24 (T.set q0 (some (.sl id 0 F.length 0)) T.lf) M _
  unfold B24
  simp (maxSteps := 4000000) (disch := first | omega | assumption | (simp only [bxS, bxV, stOk, Nat.reduceBEq, Nat.reduceEqDiff, Nat.reduceAdd]; done) | (simp only [bxU]; omega) | ((try apply has_setN); apply has_ofL; simp only [bxL]; omega)) only [↓bxD, bxP, bxQ, Nat.reduceBEq, reduceCtorEq, Nat.reduceAdd, Nat.reduceSub, Nat.reduceMul, Nat.reduceLeDiff, Nat.reduceLT, bxR, len_slc]
  refine Wp_inv (σ := Nat × List Nat) (fun s f M' => s.1 ≤ F.length ∧ WordsAt M' id s.2 ∧ s.2.length = F.length ∧ (∀ k ∈ s.2, k < 2 ^ 64) ∧ RelF s.2 (cyIt U s.1) ∧ (∀ j, j ≠ id → M'.get j = M.get j) ∧ M'.n = M.n ∧ M'.lo = M.lo ∧ X.ev f (.t q0) = .sl id 0 F.length 0 ∧ X.ev f (.t q5) = .i .i64 (F.length : Int) ∧ X.ev f (.t q6) = .i .i64 (s.1 : Int)) (fun s => F.length - s.1) ?_ (0, F) ?_
  · rintro ⟨k, G⟩ f M1 ⟨hk, hw, hl, hG, hr, hold, hnn, hll, h0, h5, h6⟩
    simp only at hk hw hl hG hr h6
    simp only [q0, q5, q6] at h0 h5 h6
    unfold L24_5
    by_cases hk' : k < F.length
    · have d1 : decide ((k : Int) < (F.length : Int)) = true := decide_eq_true (by omega)
      simp (maxSteps := 4000000) (disch := first | omega | assumption | (simp only [bxS, bxV, stOk, Nat.reduceBEq, Nat.reduceEqDiff, Nat.reduceAdd]; done) | (simp only [bxU]; omega) | ((try apply has_setN); apply has_ofL; simp only [bxL]; omega)) only [↓bxD, bxP, bxQ, Nat.reduceBEq, reduceCtorEq, Nat.reduceAdd, Nat.reduceSub, Nat.reduceMul, Nat.reduceLeDiff, Nat.reduceLT, bxR, h0, h5, h6, d1, len_slc]
      show Wp fns K24_4 _ _ _
      unfold K24_4
      simp (maxSteps := 4000000) (disch := first | omega | assumption | (simp only [bxS, bxV, stOk, Nat.reduceBEq, Nat.reduceEqDiff, Nat.reduceAdd]; done) | (simp only [bxU]; omega) | ((try apply has_setN); apply has_ofL; simp only [bxL]; omega)) only [↓bxD, bxP, bxQ, Nat.reduceBEq, reduceCtorEq, Nat.reduceAdd, Nat.reduceSub, Nat.reduceMul, Nat.reduceLeDiff, Nat.reduceLT, bxR, h0, h5, h6, d1, len_slc]
      refine Wp_inv (σ := Nat × List Nat) (fun s f M' => s.1 ≤ F.length ∧ WordsAt M' id s.2 ∧ s.2.length = F.length ∧ (∀ x ∈ s.2, x < 2 ^ 64) ∧ (∀ i j, i < F.length → (fAt s.2 i).testBit j = if i < s.1 then cyW (cyIt U k) k i j else cyIt U k i j) ∧ (∀ j, j ≠ id → M'.get j = M.get j) ∧ M'.n = M.n ∧ M'.lo = M.lo ∧ X.ev f (.t q0) = .sl id 0 F.length 0 ∧ X.ev f (.t q2) = .i .i64 (k : Int) ∧ X.ev f (.t q5) = .i .i64 (F.length : Int) ∧ X.ev f (.t q6) = .i .i64 (k : Int) ∧ X.ev f (.t q10) = .i .i64 (F.length : Int) ∧ X.ev f (.t q11) = .i .i64 (s.1 : Int)) (fun s => F.length - s.1) ?_ (0, G) ?_
      · clear hw hl hG hr hold hnn hll h0 h5 h6
        rintro ⟨i, G⟩ f M1 ⟨hi, hw, hl, hG, hr, hold, hnn, hll, h0, h2, h5, h6, h10, h11⟩
        simp only at hi hw hl hG hr h11
        simp only [q0, q2, q5, q6, q10, q11] at h0 h2 h5 h6 h10 h11
        unfold L24_2
        by_cases hi' : i < F.length
        · have d2 : decide ((i : Int) < (F.length : Int)) = true := decide_eq_true (by omega)
          obtain ⟨t, ht1, ht2, ht3, ht4⟩ := hw.read
          have hCi := ht2 i (by omega)
          have hCk := ht2 k (by omega)
          have hHi := ht3 i (by omega)
          have hFi := fAt_lt hG i
          have hFk := fAt_lt hG k
          have bi : ∀ j, (fAt G i).testBit j = cyIt U k i j := fun j => by rw [hr i j hi', if_neg (Nat.lt_irrefl _)]
          have bk : ∀ j, (fAt G k).testBit j = cyIt U k k j := fun j => by
            rw [hr k j hk']
            split
            · exact cyW_via _ _ _
            · rfl
          simp (maxSteps := 4000000) (disch := first | omega | assumption | (simp only [bxS, bxV, stOk, Nat.reduceBEq, Nat.reduceEqDiff, Nat.reduceAdd]; done) | (simp only [bxU]; omega) | ((try apply has_setN); apply has_ofL; simp only [bxL]; omega)) only [↓bxD, bxP, bxQ, Nat.reduceBEq, reduceCtorEq, Nat.reduceAdd, Nat.reduceSub, Nat.reduceMul, Nat.reduceLeDiff, Nat.reduceLT, bxR, h0, h2, h5, h6, h10, h11, d2, ht1, hCi, ix_slc, hHi]
          show Wp fns K24_1 _ _ _
          unfold K24_1
          simp (maxSteps := 4000000) (disch := first | omega | assumption | (simp only [bxS, bxV, stOk, Nat.reduceBEq, Nat.reduceEqDiff, Nat.reduceAdd]; done) | (simp only [bxU]; omega) | ((try apply has_setN); apply has_ofL; simp only [bxL]; omega)) only [↓bxD, bxP, bxQ, Nat.reduceBEq, reduceCtorEq, Nat.reduceAdd, Nat.reduceSub, Nat.reduceMul, Nat.reduceLeDiff, Nat.reduceLT, bxR, h0, h2, h5, h6, h10, h11, d2, ht1, hCi, ix_slc, hHi]
          refine bindP_call (has_any hFi (k := k) (by omega)) ?_
          rintro m M2 ⟨rfl, rfl⟩
          cases hb : (fAt G i).testBit k with
          | false =>
            simp (maxSteps := 4000000) (disch := first | omega | assumption | (simp only [bxS, bxV, stOk, Nat.reduceBEq, Nat.reduceEqDiff, Nat.reduceAdd]; done) | (simp only [bxU]; omega) | ((try apply has_setN); apply has_ofL; simp only [bxL]; omega)) only [↓bxD, bxP, bxQ, Nat.reduceBEq, reduceCtorEq, Nat.reduceAdd, Nat.reduceSub, Nat.reduceMul, Nat.reduceLeDiff, Nat.reduceLT, bxR, h0, h2, h5, h6, h10, h11, d2, ht1, hCi, ix_slc, hHi]
            show Wp fns K24_0 _ _ _
            unfold K24_0
            simp (maxSteps := 4000000) (disch := first | omega | assumption | (simp only [bxS, bxV, stOk, Nat.reduceBEq, Nat.reduceEqDiff, Nat.reduceAdd]; done) | (simp only [bxU]; omega) | ((try apply has_setN); apply has_ofL; simp only [bxL]; omega)) only [↓bxD, bxP, bxQ, Nat.reduceBEq, reduceCtorEq, Nat.reduceAdd, Nat.reduceSub, Nat.reduceMul, Nat.reduceLeDiff, Nat.reduceLT, bxR, h0, h2, h5, h6, h10, h11, d2, ht1, hCi, ix_slc, hHi]
            refine ⟨(i + 1, G), by simp only; omega, by simp only; omega, hw, hl, hG, fun x j hx => ?_, hold, hnn, hll, rfl⟩
            simp only
            by_cases e : x = i
            · subst e
              rw [if_pos (Nat.lt_succ_self _), bi j]
              unfold cyW
              rw [← bi k, hb, Bool.false_and, Bool.or_false]
            · rw [hr x j hx]
              by_cases e2 : x < i
              · rw [if_pos e2, if_pos (by omega)]
              · rw [if_neg e2, if_neg (by omega)]
          | true =>
            have hor := or_u64 (a := fAt G i) (b := fAt G k) hFi hFk
            simp (maxSteps := 4000000) (disch := first | omega | assumption | (simp only [bxS, bxV, stOk, Nat.reduceBEq, Nat.reduceEqDiff, Nat.reduceAdd]; done) | (simp only [bxU]; omega) | ((try apply has_setN); apply has_ofL; simp only [bxL]; omega)) only [↓bxD, bxP, bxQ, Nat.reduceBEq, reduceCtorEq, Nat.reduceAdd, Nat.reduceSub, Nat.reduceMul, Nat.reduceLeDiff, Nat.reduceLT, bxR, h0, h2, h5, h6, h10, h11, d2, ht1, hCi, ix_slc, hHi]
            refine Wp_dreg_of (by omega) ?_
            simp (maxSteps := 4000000) (disch := first | omega | assumption | (simp only [bxS, bxV, stOk, Nat.reduceBEq, Nat.reduceEqDiff, Nat.reduceAdd]; done) | (simp only [bxU]; omega) | ((try apply has_setN); apply has_ofL; simp only [bxL]; omega)) only [↓bxD, bxP, bxQ, Nat.reduceBEq, reduceCtorEq, Nat.reduceAdd, Nat.reduceSub, Nat.reduceMul, Nat.reduceLeDiff, Nat.reduceLT, bxR, h0, h2, h5, h6, h10, h11, d2, ht1, hCi, ix_slc, hHi, hCk, hor, hHi]
            show Wp fns K24_0 _ _ _
            unfold K24_0
            simp (maxSteps := 4000000) (disch := first | omega | assumption | (simp only [bxS, bxV, stOk, Nat.reduceBEq, Nat.reduceEqDiff, Nat.reduceAdd]; done) | (simp only [bxU]; omega) | ((try apply has_setN); apply has_ofL; simp only [bxL]; omega)) only [↓bxD, bxP, bxQ, Nat.reduceBEq, reduceCtorEq, Nat.reduceAdd, Nat.reduceSub, Nat.reduceMul, Nat.reduceLeDiff, Nat.reduceLT, bxR, h0, h2, h5, h6, h10, h11, d2, ht1, hCi, ix_slc, hHi]
            refine ⟨(i + 1, G.set i (fAt G i ||| fAt G k)), by simp only; omega, by simp only; omega, ⟨_, set_same _ _, ht4 i (fAt G i ||| fAt G k) (by omega)⟩, by simp only [List.length_set]; exact hl, fun x hx => ?_, fun x j hx => ?_, fun j hj => ?_, hnn, hll, rfl⟩
            · rcases List.mem_or_eq_of_mem_set hx with h' | h'
              · exact hG x h'
              · rw [h']; exact Nat.or_lt_two_pow hFi hFk
            · simp only
              rw [fAt_set (by omega)]
              by_cases e : i = x
              · subst e
                rw [if_pos rfl, if_pos (Nat.lt_succ_self _), Nat.testBit_or, bi j, bk j]
                unfold cyW
                rw [← bi k, hb, Bool.true_and]
              · rw [if_neg e, hr x j hx]
                by_cases e2 : x < i
                · rw [if_pos e2, if_pos (by omega)]
                · rw [if_neg e2, if_neg (by omega)]
            · rw [set_ne hj]
              exact hold j hj
        · have d2 : decide ((i : Int) < (F.length : Int)) = false := decide_eq_false (by omega)
          obtain rfl : i = F.length := by omega
          simp (maxSteps := 4000000) (disch := first | omega | assumption | (simp only [bxS, bxV, stOk, Nat.reduceBEq, Nat.reduceEqDiff, Nat.reduceAdd]; done) | (simp only [bxU]; omega) | ((try apply has_setN); apply has_ofL; simp only [bxL]; omega)) only [↓bxD, bxP, bxQ, Nat.reduceBEq, reduceCtorEq, Nat.reduceAdd, Nat.reduceSub, Nat.reduceMul, Nat.reduceLeDiff, Nat.reduceLT, bxR, h0, h2, h5, h6, h10, h11, d2]
          show Wp fns K24_3 _ _ _
          unfold K24_3
          simp (maxSteps := 4000000) (disch := first | omega | assumption | (simp only [bxS, bxV, stOk, Nat.reduceBEq, Nat.reduceEqDiff, Nat.reduceAdd]; done) | (simp only [bxU]; omega) | ((try apply has_setN); apply has_ofL; simp only [bxL]; omega)) only [↓bxD, bxP, bxQ, Nat.reduceBEq, reduceCtorEq, Nat.reduceAdd, Nat.reduceSub, Nat.reduceMul, Nat.reduceLeDiff, Nat.reduceLT, bxR, h0, h2, h5, h6, h10, h11, d2]
          refine ⟨(k + 1, G), by simp only; omega, by simp only; omega, hw, hl, hG, fun x j hx => ?_, hold, hnn, hll, rfl⟩
          simp only at hx ⊢
          rw [hr x j (by omega), if_pos (by omega)]
          rfl
      · exact ⟨Nat.zero_le _, hw, hl, hG, fun i j hi => by simp only; rw [hr i j (by omega), if_neg (Nat.not_lt_zero _)], hold, hnn, hll, by simp only [bxP, bxQ, reduceCtorEq, h0, h5, h6, d1, len_slc], by simp only [bxP, bxQ, reduceCtorEq, h0, h5, h6, d1, len_slc], by simp only [bxP, bxQ, reduceCtorEq, h0, h5, h6, d1, len_slc], by simp only [bxP, bxQ, reduceCtorEq, h0, h5, h6, d1, len_slc], by simp only [bxP, bxQ, reduceCtorEq, h0, h5, h6, d1, len_slc] <;> rfl, by simp only [bxP, bxQ, reduceCtorEq, h0, h5, h6, d1, len_slc] <;> rfl⟩
    · have d1 : decide ((k : Int) < (F.length : Int)) = false := decide_eq_false (by omega)
      obtain rfl : k = F.length := by omega
      simp (maxSteps := 4000000) (disch := first | omega | assumption | (simp only [bxS, bxV, stOk, Nat.reduceBEq, Nat.reduceEqDiff, Nat.reduceAdd]; done) | (simp only [bxU]; omega) | ((try apply has_setN); apply has_ofL; simp only [bxL]; omega)) only [↓bxD, bxP, bxQ, Nat.reduceBEq, reduceCtorEq, Nat.reduceAdd, Nat.reduceSub, Nat.reduceMul, Nat.reduceLeDiff, Nat.reduceLT, bxR, h0, h5, h6, d1, resL]
      exact ⟨rfl, hold, hnn, hll, G, hw, hl, hG, hr⟩
  · exact ⟨Nat.zero_le _, h, rfl, hF, hT, fun _ _ => rfl, rfl, rfl, by simp only [bxP, bxQ, reduceCtorEq], by simp only [bxP, bxQ, reduceCtorEq] <;> rfl, by simp only [bxP, bxQ, reduceCtorEq] <;> rfl⟩
theorem reach_in {M0 M : MH} {g : Gr} {vr vf vc vk : MV} {es : List (List MV)} {id : Nat} {l : List Bool} {f : Fr} (h : NSt M0 M g vr vf vc vk es id l f) {an : Nat} {a2 : Int} {ar : List Int} {ur : MV} {i n6 : Nat} {c : T MV} {more : Bool}
    (hr : ((an : Int), ar, a2) ∈ g.rules) (hn6 : n6 ≠ id) (hn7 : n6 < M.n) (hb6 : M.get n6 = some (.cs false 3 c)) (hC : At c 0 [.i .i64 an, ur, .i .i64 a2]) (hu : IntRow M0 ur ar)
    (h6 : X.ev f (.t q6) = .p n6 0) (h5 : X.ev f (.t q5) = .i .i64 (i : Int)) (h7 : X.ev f (.t q7) = .i .i64 0) (h4 : X.ev f (.t q4) = .b more) (hs : RchSound g l) (h00 : l[g.start.toNat]? = some true) (Q : Post)
    (hn : ∀ f' M' l' more', NSt M0 M' g vr vf vc vk es id l' f' → X.ev f' (.t q5) = .i .i64 (i : Int) → X.ev f' (.t q4) = .b more' → RchSound g l' → l'[g.start.toNat]? = some true → ((l' = l ∧ more' = more ∧ (l[an]? = some true → RchHas l ar)) ∨ (falses l' < falses l ∧ more' = true)) → Q .norm f' M') :
    Wp fns (.loop L20_2) f M (blockQ 4 Q) := by
  obtain ⟨hl0, hl1⟩ := h.ok.left _ hr
  have hsym := h.ok.sym _ hr
  have hlen := h.ok.len _ hr
  simp only at hl0 hl1 hsym hlen
  have hn40 := h.ok.n2
  have c0 : cget c 0 = some (.i .i64 an) := hC 0 _ rfl
  have c1 : cget c 1 = some ur := hC 1 _ rfl
  refine Wp_inv (σ := Nat × List Bool × Bool) (fun s f1 M1 => NSt M0 M1 g vr vf vc vk es id s.2.1 f1 ∧ s.1 ≤ ar.length ∧ X.ev f1 (.t q6) = .p n6 0 ∧ M1.get n6 = some (.cs false 3 c) ∧ n6 < M1.n ∧ X.ev f1 (.t q5) = .i .i64 (i : Int) ∧ X.ev f1 (.t q7) = .i .i64 (s.1 : Int) ∧ X.ev f1 (.t q4) = .b s.2.2 ∧ RchSound g s.2.1 ∧ s.2.1[g.start.toNat]? = some true ∧ ((s.2.1 = l ∧ s.2.2 = more ∧ (l[an]? = some true → RchHas l (ar.take s.1))) ∨ (falses s.2.1 < falses l ∧ s.2.2 = true))) (fun s => ar.length - s.1) ?_ (0, l, more) ?_
  · rintro ⟨k, l1, m1⟩ f1 M1 ⟨h, hk, h6, hb6, hn7, h5, h7, h4, hs, h00, hc⟩
    simp only at h hk h6 hb6 hn7 h5 h7 h4 hs h00 hc
    have hu1 := hu.ext h.ext
    obtain ⟨hu3, hu4⟩ := hu1.sl
    obtain ⟨t, ht1, ht2, ht3, ht4⟩ := h.row.read
    have hll := h.len
    have hid2 := h.id2
    have hid1 := h.id1
    have hlo := h.lo0
    have hel := h.ext.lo
    have hq1 := h.q1
    have hq3 := h.q3
    simp only [q1, q3, q4, q5, q6, q7] at hq1 hq3 h4 h5 h6 h7
    have han : an < l1.length := by omega
    obtain ⟨ba, hba⟩ : ∃ x, l1[an]? = some x := ⟨_, List.getElem?_eq_getElem han⟩
    have hRa := ht2 _ _ hba
    unfold L20_2
    by_cases hk1 : k < ar.length
    · have d1 : decide ((k : Int) < (ar.length : Int)) = true := decide_eq_true (by omega)
      cases ba with
      | true =>
        obtain ⟨z, hz⟩ : ∃ z, ar[k]? = some z := ⟨_, List.getElem?_eq_getElem hk1⟩
        obtain ⟨ro, s, tt, hg, hid, hZ⟩ := hu1.read hz
        have hzs := hsym z (List.mem_of_getElem? hz)
        have hhas : ∀ (x : List Bool), RchHas x (ar.take k) → (0 ≤ z → x[z.toNat]? = some true) → RchHas x (ar.take (k + 1)) := fun x h1 h2 y hy h0 => by
          rw [List.take_add_one, hz] at hy
          rcases List.mem_append.1 hy with h3 | h3
          · exact h1 y h3 h0
          · simp only [Option.toList_some, List.mem_singleton] at h3
            subst h3
            exact h2 h0
        by_cases z0 : 0 ≤ z
        · have dz : decide (0 ≤ z) = true := decide_eq_true z0
          have hzl := symB_lt hzs z0
          obtain ⟨zn, rfl⟩ : ∃ n : Nat, z = n := ⟨z.toNat, by omega⟩
          have hzn : zn < l1.length := by omega
          obtain ⟨bz, hbz⟩ : ∃ x, l1[zn]? = some x := ⟨_, List.getElem?_eq_getElem hzn⟩
          have hR := ht2 _ _ hbz
          have hH := ht3 zn hzn
          simp only [Int.toNat_natCast] at hhas
          cases bz with
          | true =>
            simp (maxSteps := 4000000) (disch := first | omega | assumption | (simp only [bxS, bxV, stOk, Nat.reduceBEq, Nat.reduceEqDiff, Nat.reduceAdd]; done) | (simp only [bxU]; omega) | ((try apply has_setN); apply has_ofL; simp only [bxL]; omega)) only [↓bxD, bxP, bxQ, bxQ2, Nat.reduceBEq, reduceCtorEq, Nat.reduceAdd, Nat.reduceSub, Nat.reduceMul, Nat.reduceLeDiff, Nat.reduceLT, bxR, hq1, hq3, h4, h5, h6, h7, hb6, hu3, hu4, c0, c1, d1, hRa, hg, hZ, dz, ht1, hR, ix_slc, len_slc]
            show Wp fns K20_1 _ _ _
            unfold K20_1
            simp (maxSteps := 4000000) (disch := first | omega | assumption | (simp only [bxS, bxV, stOk, Nat.reduceBEq, Nat.reduceEqDiff, Nat.reduceAdd]; done) | (simp only [bxU]; omega) | ((try apply has_setN); apply has_ofL; simp only [bxL]; omega)) only [↓bxD, bxP, bxQ, bxQ2, Nat.reduceBEq, reduceCtorEq, Nat.reduceAdd, Nat.reduceSub, Nat.reduceMul, Nat.reduceLeDiff, Nat.reduceLT, bxR, hq1, hq3, h4, h5, h6, h7, hb6, hu3, hu4, c0, c1, d1, hRa, hg, hZ, dz, ht1, hR, ix_slc, len_slc]
            show Wp fns K20_0 _ _ _
            unfold K20_0
            simp (maxSteps := 4000000) (disch := first | omega | assumption | (simp only [bxS, bxV, stOk, Nat.reduceBEq, Nat.reduceEqDiff, Nat.reduceAdd]; done) | (simp only [bxU]; omega) | ((try apply has_setN); apply has_ofL; simp only [bxL]; omega)) only [↓bxD, bxP, bxQ, bxQ2, Nat.reduceBEq, reduceCtorEq, Nat.reduceAdd, Nat.reduceSub, Nat.reduceMul, Nat.reduceLeDiff, Nat.reduceLT, bxR, hq1, hq3, h4, h5, h6, h7, hb6, hu3, hu4, c0, c1, d1, hRa, hg, hZ, dz, ht1, hR, ix_slc, len_slc]
            refine ⟨(k + 1, l1, m1), by simp only; omega, ⟨h.gr, h.ok, h.ext, h.lo0, h.b0, h.id1, h.id2, h.row, h.len, ?_, ?_⟩, by simp only; omega, ?_⟩
            · simp only [bxP, bxQ, bxQ2, reduceCtorEq, hq1, hq3, h4, h5, h6, h7, hb6, hu3, hu4, c0, c1, d1, hRa, hg, hZ, dz, ht1, hR, ix_slc, len_slc]
            · simp only [bxP, bxQ, bxQ2, reduceCtorEq, hq1, hq3, h4, h5, h6, h7, hb6, hu3, hu4, c0, c1, d1, hRa, hg, hZ, dz, ht1, hR, ix_slc, len_slc]
            · refine ⟨hn7, rfl, rfl, hs, h00, ?_⟩
              rcases hc with ⟨rfl, rfl, hc⟩ | hc
              · exact .inl ⟨rfl, rfl, fun e => hhas _ (hc e) fun _ => hbz⟩
              · exact .inr hc
          | false =>
            simp (maxSteps := 4000000) (disch := first | omega | assumption | (simp only [bxS, bxV, stOk, Nat.reduceBEq, Nat.reduceEqDiff, Nat.reduceAdd]; done) | (simp only [bxU]; omega) | ((try apply has_setN); apply has_ofL; simp only [bxL]; omega)) only [↓bxD, bxP, bxQ, bxQ2, Nat.reduceBEq, reduceCtorEq, Nat.reduceAdd, Nat.reduceSub, Nat.reduceMul, Nat.reduceLeDiff, Nat.reduceLT, bxR, hq1, hq3, h4, h5, h6, h7, hb6, hu3, hu4, c0, c1, d1, hRa, hg, hZ, dz, ht1, hR, ix_slc, len_slc]
            show Wp fns K20_1 _ _ _
            unfold K20_1
            simp (maxSteps := 4000000) (disch := first | omega | assumption | (simp only [bxS, bxV, stOk, Nat.reduceBEq, Nat.reduceEqDiff, Nat.reduceAdd]; done) | (simp only [bxU]; omega) | ((try apply has_setN); apply has_ofL; simp only [bxL]; omega)) only [↓bxD, bxP, bxQ, bxQ2, Nat.reduceBEq, reduceCtorEq, Nat.reduceAdd, Nat.reduceSub, Nat.reduceMul, Nat.reduceLeDiff, Nat.reduceLT, bxR, hq1, hq3, h4, h5, h6, h7, hb6, hu3, hu4, c0, c1, d1, hRa, hg, hZ, dz, ht1, hR, ix_slc, len_slc]
            generalize hM2 : M1.set id _ = M2
            have hx2 : Ext M0 M2 := by rw [← hM2]; exact h.ext.set _ (by omega)
            have hrow2 : BoolsAt M2 id (l1.set zn true) := ⟨_, by rw [← hM2, set_same]; rfl, ht4 zn true hzn⟩
            have hb2 : M2.get M0.n = some (.cs false 7 (ofL (gcs g vr vf vc vk) 0)) := by rw [← hM2, set_ne (by omega)]; exact h.b0
            have hb62 : M2.get n6 = some (.cs false 3 c) := by rw [← hM2, set_ne (by omega)]; exact hb6
            have hn2 : M2.n = M1.n := by rw [← hM2]; rfl
            clear hM2
            show Wp fns K20_0 _ _ _
            unfold K20_0
            simp (maxSteps := 4000000) (disch := first | omega | assumption | (simp only [bxS, bxV, stOk, Nat.reduceBEq, Nat.reduceEqDiff, Nat.reduceAdd]; done) | (simp only [bxU]; omega) | ((try apply has_setN); apply has_ofL; simp only [bxL]; omega)) only [↓bxD, bxP, bxQ, bxQ2, Nat.reduceBEq, reduceCtorEq, Nat.reduceAdd, Nat.reduceSub, Nat.reduceMul, Nat.reduceLeDiff, Nat.reduceLT, bxR, hq1, hq3, h4, h5, h6, h7, hb6, hu3, hu4, c0, c1, d1, hRa, hg, hZ, dz, ht1, hR, ix_slc, len_slc]
            refine ⟨(k + 1, l1.set zn true, true), by simp only; omega, ⟨h.gr, h.ok, hx2, h.lo0, hb2, h.id1, by omega, hrow2, by rw [List.length_set]; exact h.len, ?_, ?_⟩, by simp only; omega, ?_⟩
            · simp only [bxP, bxQ, bxQ2, reduceCtorEq, hq1, hq3, h4, h5, h6, h7, hb6, hu3, hu4, c0, c1, d1, hRa, hg, hZ, dz, ht1, hR, ix_slc, len_slc]
            · simp (maxSteps := 4000000) (disch := first | omega | assumption | (simp only [bxS, bxV, stOk, Nat.reduceBEq, Nat.reduceEqDiff, Nat.reduceAdd]; done) | (simp only [bxU]; omega) | ((try apply has_setN); apply has_ofL; simp only [bxL]; omega)) only [↓bxD, bxP, bxQ, bxQ2, Nat.reduceBEq, reduceCtorEq, Nat.reduceAdd, Nat.reduceSub, Nat.reduceMul, Nat.reduceLeDiff, Nat.reduceLT, bxR, hq1, hq3, h4, h5, h6, h7, hb6, hu3, hu4, c0, c1, d1, hRa, hg, hZ, dz, ht1, hR, ix_slc, len_slc, List.length_set]
            · refine ⟨hb62, by omega, rfl, rfl, ?_, set_true h00, .inr ⟨?_, rfl⟩⟩
              · refine hs.set ?_
                have := Rch.step (g := g) _ hr (by simp only [Int.toNat_natCast]; exact hs an hba) zn (List.mem_of_getElem? hz) z0
                simpa using this
              · have h1 := falses_set hbz
                rcases hc with ⟨rfl, _, _⟩ | ⟨h2, _⟩
                · exact h1
                · exact Nat.lt_trans h1 h2
        · have dz : decide (0 ≤ z) = false := decide_eq_false z0
          simp (maxSteps := 4000000) (disch := first | omega | assumption | (simp only [bxS, bxV, stOk, Nat.reduceBEq, Nat.reduceEqDiff, Nat.reduceAdd]; done) | (simp only [bxU]; omega) | ((try apply has_setN); apply has_ofL; simp only [bxL]; omega)) only [↓bxD, bxP, bxQ, bxQ2, Nat.reduceBEq, reduceCtorEq, Nat.reduceAdd, Nat.reduceSub, Nat.reduceMul, Nat.reduceLeDiff, Nat.reduceLT, bxR, hq1, hq3, h4, h5, h6, h7, hb6, hu3, hu4, c0, c1, d1, hRa, hg, hZ, dz, ht1, ix_slc, len_slc]
          show Wp fns K20_1 _ _ _
          unfold K20_1
          simp (maxSteps := 4000000) (disch := first | omega | assumption | (simp only [bxS, bxV, stOk, Nat.reduceBEq, Nat.reduceEqDiff, Nat.reduceAdd]; done) | (simp only [bxU]; omega) | ((try apply has_setN); apply has_ofL; simp only [bxL]; omega)) only [↓bxD, bxP, bxQ, bxQ2, Nat.reduceBEq, reduceCtorEq, Nat.reduceAdd, Nat.reduceSub, Nat.reduceMul, Nat.reduceLeDiff, Nat.reduceLT, bxR, hq1, hq3, h4, h5, h6, h7, hb6, hu3, hu4, c0, c1, d1, hRa, hg, hZ, dz, ht1, ix_slc, len_slc]
          show Wp fns K20_0 _ _ _
          unfold K20_0
          simp (maxSteps := 4000000) (disch := first | omega | assumption | (simp only [bxS, bxV, stOk, Nat.reduceBEq, Nat.reduceEqDiff, Nat.reduceAdd]; done) | (simp only [bxU]; omega) | ((try apply has_setN); apply has_ofL; simp only [bxL]; omega)) only [↓bxD, bxP, bxQ, bxQ2, Nat.reduceBEq, reduceCtorEq, Nat.reduceAdd, Nat.reduceSub, Nat.reduceMul, Nat.reduceLeDiff, Nat.reduceLT, bxR, hq1, hq3, h4, h5, h6, h7, hb6, hu3, hu4, c0, c1, d1, hRa, hg, hZ, dz, ht1, ix_slc, len_slc]
          refine ⟨(k + 1, l1, m1), by simp only; omega, ⟨h.gr, h.ok, h.ext, h.lo0, h.b0, h.id1, h.id2, h.row, h.len, ?_, ?_⟩, by simp only; omega, ?_⟩
          · simp only [bxP, bxQ, bxQ2, reduceCtorEq, hq1, hq3, h4, h5, h6, h7, hb6, hu3, hu4, c0, c1, d1, hRa, hg, hZ, dz, ht1, ix_slc, len_slc]
          · simp only [bxP, bxQ, bxQ2, reduceCtorEq, hq1, hq3, h4, h5, h6, h7, hb6, hu3, hu4, c0, c1, d1, hRa, hg, hZ, dz, ht1, ix_slc, len_slc]
          · refine ⟨hn7, rfl, rfl, hs, h00, ?_⟩
            rcases hc with ⟨rfl, rfl, hc⟩ | hc
            · exact .inl ⟨rfl, rfl, fun e => hhas _ (hc e) fun h => absurd h z0⟩
            · exact .inr hc
      | false =>
        simp (maxSteps := 4000000) (disch := first | omega | assumption | (simp only [bxS, bxV, stOk, Nat.reduceBEq, Nat.reduceEqDiff, Nat.reduceAdd]; done) | (simp only [bxU]; omega) | ((try apply has_setN); apply has_ofL; simp only [bxL]; omega)) only [↓bxD, bxP, bxQ, bxQ2, Nat.reduceBEq, reduceCtorEq, Nat.reduceAdd, Nat.reduceSub, Nat.reduceMul, Nat.reduceLeDiff, Nat.reduceLT, bxR, hq1, hq3, h4, h5, h6, h7, hb6, hu3, hu4, c0, c1, d1, hRa, ht1, ix_slc, len_slc]
        refine hn _ _ l1 m1 ⟨h.gr, h.ok, h.ext, h.lo0, h.b0, h.id1, h.id2, h.row, h.len, ?_, ?_⟩ ?_ ?_ hs h00 ?_
        · simp only [bxP, bxQ, bxQ2, reduceCtorEq, hq1, hq3, h4, h5, h6, h7, hb6, hu3, hu4, c0, c1, d1, hRa, ht1, ix_slc, len_slc]
        · simp only [bxP, bxQ, bxQ2, reduceCtorEq, hq1, hq3, h4, h5, h6, h7, hb6, hu3, hu4, c0, c1, d1, hRa, ht1, ix_slc, len_slc]
        · simp only [bxP, bxQ, bxQ2, reduceCtorEq, hq1, hq3, h4, h5, h6, h7, hb6, hu3, hu4, c0, c1, d1, hRa, ht1, ix_slc, len_slc]
        · simp only [bxP, bxQ, bxQ2, reduceCtorEq, hq1, hq3, h4, h5, h6, h7, hb6, hu3, hu4, c0, c1, d1, hRa, ht1, ix_slc, len_slc]
        · rcases hc with ⟨rfl, rfl, hc⟩ | hc
          · exact .inl ⟨rfl, rfl, fun e => by rw [hba] at e; cases e⟩
          · exact .inr hc
    · have d1 : decide ((k : Int) < (ar.length : Int)) = false := decide_eq_false (by omega)
      have hkl : k = ar.length := by omega
      subst hkl
      rw [List.take_length] at hc
      simp (maxSteps := 4000000) (disch := first | omega | assumption | (simp only [bxS, bxV, stOk, Nat.reduceBEq, Nat.reduceEqDiff, Nat.reduceAdd]; done) | (simp only [bxU]; omega) | ((try apply has_setN); apply has_ofL; simp only [bxL]; omega)) only [↓bxD, bxP, bxQ, bxQ2, Nat.reduceBEq, reduceCtorEq, Nat.reduceAdd, Nat.reduceSub, Nat.reduceMul, Nat.reduceLeDiff, Nat.reduceLT, bxR, hq1, hq3, h4, h5, h6, h7, hb6, hu3, hu4, c0, c1, d1]
      refine hn _ _ l1 m1 ⟨h.gr, h.ok, h.ext, h.lo0, h.b0, h.id1, h.id2, h.row, h.len, ?_, ?_⟩ ?_ ?_ hs h00 hc
      · simp only [bxP, bxQ, bxQ2, reduceCtorEq, hq1, hq3, h4, h5, h6, h7, hb6, hu3, hu4, c0, c1, d1]
      · simp only [bxP, bxQ, bxQ2, reduceCtorEq, hq1, hq3, h4, h5, h6, h7, hb6, hu3, hu4, c0, c1, d1]
      · simp only [bxP, bxQ, bxQ2, reduceCtorEq, hq1, hq3, h4, h5, h6, h7, hb6, hu3, hu4, c0, c1, d1]
      · simp only [bxP, bxQ, bxQ2, reduceCtorEq, hq1, hq3, h4, h5, h6, h7, hb6, hu3, hu4, c0, c1, d1]
  · exact ⟨h, Nat.zero_le _, h6, hb6, hn7, h5, h7, h4, hs, h00, .inl ⟨rfl, rfl, fun _ s hs => by simp at hs⟩⟩
theorem reach_round {M0 M : MH} {g : Gr} {vr vf vc vk : MV} {es : List (List MV)} {id : Nat} {l0 : List Bool} {f : Fr} (h : NSt M0 M g vr vf vc vk es id l0 f) (hs : RchSound g l0) (h00 : l0[g.start.toNat]? = some true) (Q : Post)
    (hn : ∀ f' M' l' more, NSt M0 M' g vr vf vc vk es id l' f' → X.ev f' (.t q4) = .b more → RchSound g l' → l'[g.start.toNat]? = some true → ((more = true ∧ falses l' < falses l0) ∨ (more = false ∧ l' = l0 ∧ RchClosed l0 g.rules)) → Q .norm f' M') : Wp fns K20_6 f M Q := by
  unfold K20_6
  simp (maxSteps := 4000000) (disch := first | omega | assumption | (simp only [bxS, bxV, stOk, Nat.reduceBEq, Nat.reduceEqDiff, Nat.reduceAdd]; done) | (simp only [bxU]; omega) | ((try apply has_setN); apply has_ofL; simp only [bxL]; omega)) only [↓bxD, bxP, bxQ, bxQ2, Nat.reduceBEq, reduceCtorEq, Nat.reduceAdd, Nat.reduceSub, Nat.reduceMul, Nat.reduceLeDiff, Nat.reduceLT, bxR]
  refine Wp_inv (σ := Nat × List Bool × Bool) (fun s f1 M1 => NSt M0 M1 g vr vf vc vk es id s.2.1 f1 ∧ s.1 ≤ g.rules.length ∧ X.ev f1 (.t q5) = .i .i64 (s.1 : Int) ∧ X.ev f1 (.t q4) = .b s.2.2 ∧ RchSound g s.2.1 ∧ s.2.1[g.start.toNat]? = some true ∧ ((s.2.2 = true ∧ falses s.2.1 < falses l0) ∨ (s.2.2 = false ∧ s.2.1 = l0 ∧ RchClosed l0 (g.rules.take s.1)))) (fun s => g.rules.length - s.1) ?_ (0, l0, false) ?_
  · rintro ⟨i, l, more⟩ f1 M1 ⟨h, hi, h5, h4, hs, h00, hc⟩
    simp only at h hi h5 h4 hs h00 hc
    have hq1 := h.q1
    have hq3 := h.q3
    have hbox := h.b0
    have hlo := h.lo0
    have hn0 := h.ext.n
    have hl0 := h.ext.lo
    have hid1 := h.id1
    have hid2 := h.id2
    obtain ⟨hr1, hr2⟩ := h.gr.rules.row.sl
    rw [h.gr.rules.len] at hr2
    unfold gcs at hbox
    have hrl := h.ok.rl
    simp only [q1, q3, q4, q5] at hq1 hq3 h4 h5
    unfold L20_5
    by_cases hi' : i < g.rules.length
    · have d1 : decide ((i : Int) < (g.rules.length : Int)) = true := decide_eq_true (by omega)
      obtain ⟨r, hr⟩ : ∃ r, g.rules[i]? = some r := ⟨_, List.getElem?_eq_getElem hi'⟩
      obtain ⟨a0, ar, a2⟩ := r
      have hmem := List.mem_of_getElem? hr
      obtain ⟨ur, hu1, hu2⟩ := h.gr.rules.get hr
      have hrow := h.gr.rules.row.ext h.ext
      obtain ⟨ro3, s3, t3, hg3, hid3, hat3⟩ := hrow.read hu1
      have hN : Ev.getN t3 3 (soff vr + i * 3) = some [.i .i64 a0, ur, .i .i64 a2] := hat3.getN
      obtain ⟨hu3, hu4⟩ := hu2.sl
      have hu6 := isSl_one hu3
      have hst : stOk 3 (.ag [.i .i64 a0, ur, .i .i64 a2]) = true := by simp only [stOk, cells_ag, isU_ag, all_cons, all_nil, one_i, hu6]; rfl
      obtain ⟨ha0, ha1⟩ := h.ok.left _ hmem
      simp only at ha0 ha1
      obtain ⟨an, rfl⟩ : ∃ n : Nat, a0 = n := ⟨a0.toNat, by omega⟩
      have hll := h.len
      have han : an < l.length := by omega
      obtain ⟨t, ht1, ht2, ht3, ht4⟩ := h.row.read
      obtain ⟨bb, hbb⟩ : ∃ x, l[an]? = some x := ⟨_, List.getElem?_eq_getElem han⟩
      have hR := ht2 _ _ hbb
      simp (maxSteps := 4000000) (disch := first | omega | assumption | (simp only [bxS, bxV, stOk, Nat.reduceBEq, Nat.reduceEqDiff, Nat.reduceAdd]; done) | (simp only [bxU]; omega) | ((try apply has_setN); apply has_ofL; simp only [bxL]; omega)) only [↓bxD, bxP, bxQ, bxQ2, Nat.reduceBEq, reduceCtorEq, Nat.reduceAdd, Nat.reduceSub, Nat.reduceMul, Nat.reduceLeDiff, Nat.reduceLT, bxR, hq1, hq3, h4, h5, hr1, hr2, hbox, hg3, hN, d1, ix_slc, len_slc, ht1, hR]
      show Wp fns K20_4 _ _ _
      unfold K20_4
      simp (maxSteps := 4000000) (disch := first | omega | assumption | (simp only [bxS, bxV, stOk, Nat.reduceBEq, Nat.reduceEqDiff, Nat.reduceAdd]; done) | (simp only [bxU]; omega) | ((try apply has_setN); apply has_ofL; simp only [bxL]; omega)) only [↓bxD, bxP, bxQ, bxQ2, Nat.reduceBEq, reduceCtorEq, Nat.reduceAdd, Nat.reduceSub, Nat.reduceMul, Nat.reduceLeDiff, Nat.reduceLT, bxR, hq1, hq3, h4, h5, hr1, hr2, hbox, hg3, hN, d1, ix_slc, len_slc, ht1, hR]
      generalize hM2 : (M1.push _).set M1.n _ = M2
      have hx2 : Ext M1 M2 := by rw [← hM2]; exact (Ext.push M1 _).set _ (Nat.le_refl _)
      have h9 : M2.get M1.n = some (.cs false 3 (setN [.i .i64 (an : Int), ur, .i .i64 a2] 0 (ofL [.i .i64 0, .nils, .i .i64 0] 0))) := by rw [← hM2, set_same]
      have hn3 : M2.n = M1.n + 1 := by rw [← hM2]; rfl
      clear hM2
      refine reach_in (i := i) (more := more) ⟨h.gr, h.ok, h.ext.trans hx2, h.lo0, (hx2.old _ (by omega)).trans h.b0, h.id1, by omega, h.row.same (hx2.old _ hid2), h.len, ?_, ?_⟩ hmem (by omega) (by omega) h9 (at_setN _ _ _) hu2 (by simp only [bxP, bxQ, bxQ2, reduceCtorEq, hq1, hq3, h4, h5, hr1, hr2, hbox, hg3, hN, d1, ix_slc, len_slc, ht1, hR]) (by simp only [bxP, bxQ, bxQ2, reduceCtorEq, hq1, hq3, h4, h5, hr1, hr2, hbox, hg3, hN, d1, ix_slc, len_slc, ht1, hR]) (by simp only [bxP, bxQ, bxQ2, reduceCtorEq, hq1, hq3, h4, h5, hr1, hr2, hbox, hg3, hN, d1, ix_slc, len_slc, ht1, hR]) (by simp only [bxP, bxQ, bxQ2, reduceCtorEq, hq1, hq3, h4, h5, hr1, hr2, hbox, hg3, hN, d1, ix_slc, len_slc, ht1, hR]) hs h00 _ ?_
      · simp only [bxP, bxQ, bxQ2, reduceCtorEq, hq1, hq3, h4, h5, hr1, hr2, hbox, hg3, hN, d1, ix_slc, len_slc, ht1, hR]
      · simp only [bxP, bxQ, bxQ2, reduceCtorEq, hq1, hq3, h4, h5, hr1, hr2, hbox, hg3, hN, d1, ix_slc, len_slc, ht1, hR]
      intro f' M' l' more' h' h5' h4' hs' h00' hcase
      have h5q := h5'
      simp only [q5] at h5q
      simp (maxSteps := 4000000) (disch := first | omega | assumption | (simp only [bxS, bxV, stOk, Nat.reduceBEq, Nat.reduceEqDiff, Nat.reduceAdd]; done) | (simp only [bxU]; omega) | ((try apply has_setN); apply has_ofL; simp only [bxL]; omega)) only [↓bxD, bxP, bxQ, bxQ2, Nat.reduceBEq, reduceCtorEq, Nat.reduceAdd, Nat.reduceSub, Nat.reduceMul, Nat.reduceLeDiff, Nat.reduceLT, bxR, h5q]
      show Wp fns K20_3 _ _ _
      unfold K20_3
      simp (maxSteps := 4000000) (disch := first | omega | assumption | (simp only [bxS, bxV, stOk, Nat.reduceBEq, Nat.reduceEqDiff, Nat.reduceAdd]; done) | (simp only [bxU]; omega) | ((try apply has_setN); apply has_ofL; simp only [bxL]; omega)) only [↓bxD, bxP, bxQ, bxQ2, Nat.reduceBEq, reduceCtorEq, Nat.reduceAdd, Nat.reduceSub, Nat.reduceMul, Nat.reduceLeDiff, Nat.reduceLT, bxR, h5q]
      refine ⟨(i + 1, l', more'), by simp only; omega, ⟨h'.gr, h'.ok, h'.ext, h'.lo0, h'.b0, h'.id1, h'.id2, h'.row, h'.len, ?_, ?_⟩, by simp only; omega, rfl, ?_, ?_⟩
      · have := h'.q1
        simp only [q1] at this
        simp (maxSteps := 4000000) (disch := first | omega | assumption | (simp only [bxS, bxV, stOk, Nat.reduceBEq, Nat.reduceEqDiff, Nat.reduceAdd]; done) | (simp only [bxU]; omega) | ((try apply has_setN); apply has_ofL; simp only [bxL]; omega)) only [↓bxD, bxP, bxQ, bxQ2, Nat.reduceBEq, reduceCtorEq, Nat.reduceAdd, Nat.reduceSub, Nat.reduceMul, Nat.reduceLeDiff, Nat.reduceLT, bxR, h5q, this]
      · have := h'.q3
        simp only [q3] at this
        simp (maxSteps := 4000000) (disch := first | omega | assumption | (simp only [bxS, bxV, stOk, Nat.reduceBEq, Nat.reduceEqDiff, Nat.reduceAdd]; done) | (simp only [bxU]; omega) | ((try apply has_setN); apply has_ofL; simp only [bxL]; omega)) only [↓bxD, bxP, bxQ, bxQ2, Nat.reduceBEq, reduceCtorEq, Nat.reduceAdd, Nat.reduceSub, Nat.reduceMul, Nat.reduceLeDiff, Nat.reduceLT, bxR, h5q, this]
      · exact h4'
      · refine ⟨hs', h00', ?_⟩
        rcases hcase with ⟨rfl, rfl, hv⟩ | ⟨hv, rfl⟩
        · rcases hc with hc | ⟨hc1, hc2, hc3⟩
          · exact .inl hc
          · refine .inr ⟨hc1, hc2, fun r hr' ha => ?_⟩
            rw [List.take_add_one, hr] at hr'
            rcases List.mem_append.1 hr' with h1 | h1
            · exact hc3 r h1 ha
            · simp only [Option.toList_some, List.mem_singleton] at h1
              subst h1
              subst hc2
              exact hv ha
        · left
          refine ⟨rfl, ?_⟩
          rcases hc with ⟨_, hc⟩ | ⟨_, rfl, _⟩
          · exact Nat.lt_trans hv hc
          · exact hv
    · have d1 : decide ((i : Int) < (g.rules.length : Int)) = false := decide_eq_false (by omega)
      have hi2 : i = g.rules.length := by omega
      subst hi2
      rw [List.take_length] at hc
      simp (maxSteps := 4000000) (disch := first | omega | assumption | (simp only [bxS, bxV, stOk, Nat.reduceBEq, Nat.reduceEqDiff, Nat.reduceAdd]; done) | (simp only [bxU]; omega) | ((try apply has_setN); apply has_ofL; simp only [bxL]; omega)) only [↓bxD, bxP, bxQ, bxQ2, Nat.reduceBEq, reduceCtorEq, Nat.reduceAdd, Nat.reduceSub, Nat.reduceMul, Nat.reduceLeDiff, Nat.reduceLT, bxR, hq1, hq3, h4, h5, hr1, hr2, hbox, d1]
      refine hn _ _ l more ⟨h.gr, h.ok, h.ext, h.lo0, h.b0, h.id1, h.id2, h.row, h.len, ?_, ?_⟩ ?_ hs h00 hc
      · simp only [bxP, bxQ, bxQ2, reduceCtorEq, hq1, hq3, h4, h5, hr1, hr2, hbox, d1]
      · simp only [bxP, bxQ, bxQ2, reduceCtorEq, hq1, hq3, h4, h5, hr1, hr2, hbox, d1]
      · simp only [bxP, bxQ, bxQ2, reduceCtorEq, hq1, hq3, h4, h5, hr1, hr2, hbox, d1]
  · refine ⟨⟨h.gr, h.ok, h.ext, h.lo0, h.b0, h.id1, h.id2, h.row, h.len, ?_, ?_⟩, Nat.zero_le _, ?_, ?_, hs, h00, .inr ⟨rfl, rfl, ?_⟩⟩
    · have := h.q1
      simp only [q1] at this
      simp (maxSteps := 4000000) (disch := first | omega | assumption | (simp only [bxS, bxV, stOk, Nat.reduceBEq, Nat.reduceEqDiff, Nat.reduceAdd]; done) | (simp only [bxU]; omega) | ((try apply has_setN); apply has_ofL; simp only [bxL]; omega)) only [↓bxD, bxP, bxQ, bxQ2, Nat.reduceBEq, reduceCtorEq, Nat.reduceAdd, Nat.reduceSub, Nat.reduceMul, Nat.reduceLeDiff, Nat.reduceLT, bxR, this]
    · have := h.q3
      simp only [q3] at this
      simp (maxSteps := 4000000) (disch := first | omega | assumption | (simp only [bxS, bxV, stOk, Nat.reduceBEq, Nat.reduceEqDiff, Nat.reduceAdd]; done) | (simp only [bxU]; omega) | ((try apply has_setN); apply has_ofL; simp only [bxL]; omega)) only [↓bxD, bxP, bxQ, bxQ2, Nat.reduceBEq, reduceCtorEq, Nat.reduceAdd, Nat.reduceSub, Nat.reduceMul, Nat.reduceLeDiff, Nat.reduceLT, bxR, this]
    · simp only [bxP, bxQ, bxQ2, reduceCtorEq] <;> rfl
    · simp only [bxP, bxQ, bxQ2, reduceCtorEq]
    · intro r hr; simp at hr
theorem reachable_any {M : MH} {g : Gr} {vr vf vc vk : MV} {es : List (List MV)} (h : GrAt M vr vf vc vk es g) (hlo : M.lo ≤ M.n) : Cp fns 20 [.ag (gcs g vr vf vc vk)] M fun m M' => Ext M M' ∧ (((formP g).2 ≠ 0 ∧ m = .nils) ∨ ((formP g).2 = 0 ∧ ∃ l, RchVec g l ∧ BRow M' m l)) := by
  have hG : ∀ l, l = gcs g vr vf vc vk → Ev.getN (ofL l 0) 7 0 = some (gcs g vr vf vc vk) := fun l e => by subst e; exact (at_ofL (gcs g vr vf vc vk)).getN
  have hG := hG [MV.i IntKind.i64 g.names, MV.i IntKind.i64 g.kinds, MV.i IntKind.i64 g.start, vr, vf, vc, vk] rfl
  refine Cp_call (fn := F20) (by kernel_rfl) (Nat.le_of_ble_eq_true rfl) ?_
  show Wp fns B20 (T.set q0 (some (.ag (gcs g vr vf vc vk))) T.lf) M _
  unfold B20
  rw [show gcs g vr vf vc vk = [MV.i IntKind.i64 g.names, MV.i IntKind.i64 g.kinds, MV.i IntKind.i64 g.start, vr, vf, vc, vk] from rfl]
  simp (maxSteps := 4000000) (disch := first | omega | assumption | (simp only [bxS, bxV, stOk, Nat.reduceBEq, Nat.reduceEqDiff, Nat.reduceAdd]; done) | (simp only [bxU]; omega) | ((try apply has_setN); apply has_ofL; simp only [bxL]; omega)) only [↓bxD, bxP, bxQ, bxQ2, Nat.reduceBEq, reduceCtorEq, Nat.reduceAdd, Nat.reduceSub, Nat.reduceMul, Nat.reduceLeDiff, Nat.reduceLT, bxR, hG]
  generalize hM1 : M.push _ = M1
  have hg0 : M1.get M.n = some (.cs false 7 (ofL (gcs g vr vf vc vk) 0)) := by rw [← hM1]; exact push_new _
  have hx1 : Ext M M1 := by rw [← hM1]; exact Ext.push M _
  have hn1 : M1.n = M.n + 1 := by rw [← hM1]; rfl
  have hl1 := hx1.lo
  clear hM1
  refine bindP_call (formed_any (h.ext hx1) (by omega)) ?_
  rintro m M2 ⟨rfl, hx2⟩
  have hn2 := hx2.n
  have hl2 := hx2.lo
  have hg2 := (hx2.old M.n (by omega)).trans hg0
  by_cases hz : (formP g).2 = 0
  · have dz : decide ((formP g).2 = 0) = true := decide_eq_true hz
    have hok := form_ok hz
    obtain ⟨nn, hnn⟩ : ∃ n : Nat, g.names = n := ⟨g.names.toNat, by have := hok.n1; omega⟩
    have hn40 := hok.n2
    have hg3 := hg2
    unfold gcs at hg3
    obtain ⟨sn, hsn⟩ : ∃ n : Nat, g.start = n := ⟨g.start.toNat, by have := hok.s1; omega⟩
    have hs2 := hok.s2
    have hsl : sn < nn := by omega
    have hH : ∀ t, hasB (ofL (zrow [MV.b false] nn) 0) 1 (sn * 1) = t → hasB (ofL (zrow [MV.b false] nn) 0) 1 (sn * 1) = t := fun _ h => h
    have hH : hasB (ofL (zrow [MV.b false] nn) 0) 1 (sn * 1) = true := has_ofL _ _ _ (by rw [zrow_rep, List.length_replicate]; omega)
    simp (maxSteps := 4000000) (disch := first | omega | assumption | (simp only [bxS, bxV, stOk, Nat.reduceBEq, Nat.reduceEqDiff, Nat.reduceAdd]; done) | (simp only [bxU]; omega) | ((try apply has_setN); apply has_ofL; simp only [bxL]; omega)) only [↓bxD, bxP, bxQ, bxQ2, Nat.reduceBEq, reduceCtorEq, Nat.reduceAdd, Nat.reduceSub, Nat.reduceMul, Nat.reduceLeDiff, Nat.reduceLT, bxR, dz, hg3, hnn, hsn, ev_mks, mks_ok, ix_slc]
    show Wp fns K20_9 _ _ _
    unfold K20_9
    simp (maxSteps := 4000000) (disch := first | omega | assumption | (simp only [bxS, bxV, stOk, Nat.reduceBEq, Nat.reduceEqDiff, Nat.reduceAdd]; done) | (simp only [bxU]; omega) | ((try apply has_setN); apply has_ofL; simp only [bxL]; omega)) only [↓bxD, bxP, bxQ, bxQ2, Nat.reduceBEq, reduceCtorEq, Nat.reduceAdd, Nat.reduceSub, Nat.reduceMul, Nat.reduceLeDiff, Nat.reduceLT, bxR, dz, hg3, hnn, hsn, ev_mks, mks_ok, ix_slc]
    obtain ⟨t, ht1, ht2, ht3, ht4⟩ := (BoolsAt.new (M := M2) nn).read
    rw [push_new] at ht1
    injection ht1 with ht1
    injection ht1 with _ _ ht1
    subst ht1
    have hrow0 := ht4 sn true (by rw [List.length_replicate]; exact hsl)
    generalize hM3 : (M2.push _).set M2.n _ = M3
    have hrow : BoolsAt M3 M2.n ((List.replicate nn false).set sn true) := ⟨_, by rw [← hM3, set_same]; rfl, hrow0⟩
    have hx3 : Ext M2 M3 := by rw [← hM3]; exact (Ext.push M2 _).set _ (Nat.le_refl _)
    have hn3 : M3.n = M2.n + 1 := by rw [← hM3]; rfl
    clear hM3
    refine Wp_inv (σ := List Bool × Bool) (fun s f1 M1 => NSt M M1 g vr vf vc vk es M2.n s.1 f1 ∧ X.ev f1 (.t q4) = .b s.2 ∧ RchSound g s.1 ∧ s.1[g.start.toNat]? = some true ∧ (s.2 = false → RchClosed s.1 g.rules)) (fun s => 2 * falses s.1 + (if s.2 = true then 1 else 0)) ?_ ((List.replicate nn false).set sn true, true) ?_
    · rintro ⟨l, more⟩ f1 M4 ⟨h4, ht, hs, h00, hc⟩
      simp only at h4 ht hs h00 hc
      have hq1 := h4.q1
      have hq3 := h4.q3
      simp only [q1, q3, q4] at hq1 hq3 ht
      unfold L20_7
      cases more with
      | true =>
        simp (maxSteps := 4000000) (disch := first | omega | assumption | (simp only [bxS, bxV, stOk, Nat.reduceBEq, Nat.reduceEqDiff, Nat.reduceAdd]; done) | (simp only [bxU]; omega) | ((try apply has_setN); apply has_ofL; simp only [bxL]; omega)) only [↓bxD, bxP, bxQ, bxQ2, Nat.reduceBEq, reduceCtorEq, Nat.reduceAdd, Nat.reduceSub, Nat.reduceMul, Nat.reduceLeDiff, Nat.reduceLT, bxR, hq1, hq3, ht]
        show Wp fns K20_6 _ _ _
        refine reach_round ⟨h4.gr, h4.ok, h4.ext, h4.lo0, h4.b0, h4.id1, h4.id2, h4.row, h4.len, ?_, ?_⟩ hs h00 _ ?_
        · simp only [bxP, bxQ, bxQ2, reduceCtorEq, hq1, hq3, ht]
        · simp only [bxP, bxQ, bxQ2, reduceCtorEq, hq1, hq3, ht]
        intro f' M' l' more' h' h4' hs' h00' hcase
        refine ⟨(l', more'), ?_, h', h4', hs', h00', fun e => ?_⟩
        · rcases hcase with ⟨rfl, hlt⟩ | ⟨rfl, rfl, _⟩
          · simp only [if_true]; omega
          · simp
        · rcases hcase with ⟨rfl, _⟩ | ⟨_, rfl, hc'⟩
          · cases e
          · exact hc'
      | false =>
        simp (maxSteps := 4000000) (disch := first | omega | assumption | (simp only [bxS, bxV, stOk, Nat.reduceBEq, Nat.reduceEqDiff, Nat.reduceAdd]; done) | (simp only [bxU]; omega) | ((try apply has_setN); apply has_ofL; simp only [bxL]; omega)) only [↓bxD, bxP, bxQ, bxQ2, Nat.reduceBEq, reduceCtorEq, Nat.reduceAdd, Nat.reduceSub, Nat.reduceMul, Nat.reduceLeDiff, Nat.reduceLT, bxR, hq1, hq3, ht]
        show Wp fns K20_8 _ _ _
        unfold K20_8
        simp (maxSteps := 4000000) (disch := first | omega | assumption | (simp only [bxS, bxV, stOk, Nat.reduceBEq, Nat.reduceEqDiff, Nat.reduceAdd]; done) | (simp only [bxU]; omega) | ((try apply has_setN); apply has_ofL; simp only [bxL]; omega)) only [↓bxD, bxP, bxQ, bxQ2, Nat.reduceBEq, reduceCtorEq, Nat.reduceAdd, Nat.reduceSub, Nat.reduceMul, Nat.reduceLeDiff, Nat.reduceLT, bxR, hq1, hq3, ht]
        refine ⟨h4.ext, .inr ⟨hz, l, rch_vec h4.len hs h00 (hc rfl), ?_⟩⟩
        exact h4.row.row h4.id2
    · refine ⟨⟨h, hok, (hx1.trans hx2).trans hx3, hlo, (hx3.old _ (by omega)).trans hg2, by omega, by omega, hrow, by rw [List.length_set, List.length_replicate, hnn]; rfl, ?_, ?_⟩, ?_, fun a e => ?_, ?_, fun e => by cases e⟩
      · simp only [bxP, bxQ, bxQ2, reduceCtorEq, dz, hg3, hnn, hsn, ev_mks, mks_ok, ix_slc]
      · simp (maxSteps := 4000000) (disch := first | omega | assumption | (simp only [bxS, bxV, stOk, Nat.reduceBEq, Nat.reduceEqDiff, Nat.reduceAdd]; done) | (simp only [bxU]; omega) | ((try apply has_setN); apply has_ofL; simp only [bxL]; omega)) only [↓bxD, bxP, bxQ, bxQ2, Nat.reduceBEq, reduceCtorEq, Nat.reduceAdd, Nat.reduceSub, Nat.reduceMul, Nat.reduceLeDiff, Nat.reduceLT, bxR, dz, hg3, hnn, hsn, ev_mks, mks_ok, ix_slc, List.length_replicate, List.length_set]
      · simp only [bxP, bxQ, bxQ2, reduceCtorEq, dz, hg3, hnn, hsn, ev_mks, mks_ok, ix_slc]
      · rw [List.getElem?_set] at e
        split at e
        · rename_i e1
          subst e1
          have := Rch.start (g := g)
          rw [hsn] at this
          exact this
        · rw [List.getElem?_replicate] at e
          split at e <;> cases e
      · rw [hsn]
        exact set_here (by rw [List.length_replicate]; exact hsl)
  · have dz : decide ((formP g).2 = 0) = false := decide_eq_false hz
    simp (maxSteps := 4000000) (disch := first | omega | assumption | (simp only [bxS, bxV, stOk, Nat.reduceBEq, Nat.reduceEqDiff, Nat.reduceAdd]; done) | (simp only [bxU]; omega) | ((try apply has_setN); apply has_ofL; simp only [bxL]; omega)) only [↓bxD, bxP, bxQ, bxQ2, Nat.reduceBEq, reduceCtorEq, Nat.reduceAdd, Nat.reduceSub, Nat.reduceMul, Nat.reduceLeDiff, Nat.reduceLT, bxR, dz]
    exact ⟨hx1.trans hx2, .inl hz⟩
theorem mark_any {M0 M : MH} {id : Nat} {l : List Bool} {ur : MV} {ar : List Int} (hB : BoolsAt M id l) (hx0 : Ext M0 M) (hu0 : IntRow M0 ur ar) (hid0 : M0.n ≤ id) (hid : id < M.n) (hlo : M.lo ≤ id) (hs : ∀ s ∈ ar, 0 ≤ s → s.toNat < l.length) (ha : ar.length ≤ 8) : Cp fns 31 [.sl id 0 l.length 0, ur] M fun m M' => ∃ l' b, m = .b b ∧ BoolsAt M' id l' ∧ l'.length = l.length ∧ M'.n = M.n ∧ M'.lo = M.lo ∧ (∀ j, j ≠ id → M'.get j = M.get j) ∧ ((b = false ∧ l' = l ∧ RchHas l ar) ∨ (b = true ∧ falses l' < falses l)) ∧ (∀ a : Nat, l'[a]? = some true → l[a]? = some true ∨ ∃ s ∈ ar, 0 ≤ s ∧ s.toNat = a) ∧ (∀ a : Nat, l[a]? = some true → l'[a]? = some true) := by
  obtain ⟨hu1, hu2⟩ := hu0.sl
  refine Cp_call (fn := F31) (by kernel_rfl) (Nat.le_of_ble_eq_true rfl) ?_
  show Wp fns B31 (T.set q1 (some ur) (T.set q0 (some (.sl id 0 l.length 0)) T.lf)) M _
  unfold B31
  simp (maxSteps := 4000000) (disch := first | omega | assumption | (simp only [bxS, bxV, stOk, Nat.reduceBEq, Nat.reduceEqDiff, Nat.reduceAdd]; done) | (simp only [bxU]; omega) | ((try apply has_setN); apply has_ofL; simp only [bxL]; omega)) only [↓bxD, bxP, bxQ, Nat.reduceBEq, reduceCtorEq, Nat.reduceAdd, Nat.reduceSub, Nat.reduceMul, Nat.reduceLeDiff, Nat.reduceLT, bxR, hu1, hu2]
  refine Wp_inv (σ := Nat × List Bool × Bool) (fun s f M' => s.1 ≤ ar.length ∧ X.ev f (.t q0) = .sl id 0 l.length 0 ∧ X.ev f (.t q8) = ur ∧ X.ev f (.t q9) = .i .i64 (ar.length : Int) ∧ X.ev f (.t q10) = .i .i64 (s.1 : Int) ∧ X.ev f (.t q5) = .b s.2.2 ∧ BoolsAt M' id s.2.1 ∧ s.2.1.length = l.length ∧ M'.n = M.n ∧ M'.lo = M.lo ∧ (∀ j, j ≠ id → M'.get j = M.get j) ∧ ((s.2.2 = false ∧ s.2.1 = l ∧ RchHas l (ar.take s.1)) ∨ (s.2.2 = true ∧ falses s.2.1 < falses l)) ∧ (∀ a : Nat, s.2.1[a]? = some true → l[a]? = some true ∨ ∃ s ∈ ar, 0 ≤ s ∧ s.toNat = a) ∧ (∀ a : Nat, l[a]? = some true → s.2.1[a]? = some true)) (fun s => ar.length - s.1) ?_ (0, l, false) ?_
  · rintro ⟨k, l1, b⟩ f M1 ⟨hk, h0, h8, h9, h10, h5, hB, hL, hn, hl, ho, hc, hb, hm⟩
    simp only at hk h0 h8 h9 h10 h5 hB hL hc hb hm
    simp only [q0, q5, q8, q9, q10] at h0 h5 h8 h9 h10
    have hx : Ext M0 M1 := ⟨by have := hx0.n; omega, hl.trans hx0.lo, fun j hj => by rw [ho j (by omega)]; exact hx0.old j hj⟩
    have hu := hu0.ext hx
    unfold L31_2
    by_cases hk1 : k < ar.length
    · have d1 : decide ((k : Int) < (ar.length : Int)) = true := decide_eq_true (by omega)
      obtain ⟨s, hsk⟩ : ∃ s, ar[k]? = some s := ⟨_, List.getElem?_eq_getElem hk1⟩
      obtain ⟨ro, sz, t, hg, hid', hC⟩ := hu.read hsk
      have hhas : ∀ (x : List Bool), RchHas x (ar.take k) → (0 ≤ s → x[s.toNat]? = some true) → RchHas x (ar.take (k + 1)) := fun x h1 h2 y hy h0 => by
        rw [List.take_add_one, hsk] at hy
        rcases List.mem_append.1 hy with h3 | h3
        · exact h1 y h3 h0
        · simp only [Option.toList_some, List.mem_singleton] at h3
          subst h3
          exact h2 h0
      by_cases s0 : 0 ≤ s
      · have ds : decide (0 ≤ s) = true := decide_eq_true s0
        have hsl := hs s (List.mem_of_getElem? hsk) s0
        obtain ⟨sn, rfl⟩ : ∃ n : Nat, s = n := ⟨s.toNat, by omega⟩
        simp only [Int.toNat_natCast] at hsl hhas
        obtain ⟨bz, hbz⟩ : ∃ x, l1[sn]? = some x := ⟨_, List.getElem?_eq_getElem (by omega)⟩
        obtain ⟨tb, hb1, hb2, hb3, hb4⟩ := hB.read
        have hR := hb2 _ _ hbz
        have hH := hb3 sn (by omega)
        cases bz with
        | true =>
          simp (maxSteps := 4000000) (disch := first | omega | assumption | (simp only [bxS, bxV, stOk, Nat.reduceBEq, Nat.reduceEqDiff, Nat.reduceAdd]; done) | (simp only [bxU]; omega) | ((try apply has_setN); apply has_ofL; simp only [bxL]; omega)) only [↓bxD, bxP, bxQ, Nat.reduceBEq, reduceCtorEq, Nat.reduceAdd, Nat.reduceSub, Nat.reduceMul, Nat.reduceLeDiff, Nat.reduceLT, bxR, h0, h5, h8, h9, h10, hu1, hu2, hg, hC, d1, ds, ix_slc, hb1, hR]
          show Wp fns K31_1 _ _ _
          unfold K31_1
          simp (maxSteps := 4000000) (disch := first | omega | assumption | (simp only [bxS, bxV, stOk, Nat.reduceBEq, Nat.reduceEqDiff, Nat.reduceAdd]; done) | (simp only [bxU]; omega) | ((try apply has_setN); apply has_ofL; simp only [bxL]; omega)) only [↓bxD, bxP, bxQ, Nat.reduceBEq, reduceCtorEq, Nat.reduceAdd, Nat.reduceSub, Nat.reduceMul, Nat.reduceLeDiff, Nat.reduceLT, bxR, h0, h5, h8, h9, h10, hu1, hu2, hg, hC, d1, ds, ix_slc, hb1, hR]
          show Wp fns K31_0 _ _ _
          unfold K31_0
          simp (maxSteps := 4000000) (disch := first | omega | assumption | (simp only [bxS, bxV, stOk, Nat.reduceBEq, Nat.reduceEqDiff, Nat.reduceAdd]; done) | (simp only [bxU]; omega) | ((try apply has_setN); apply has_ofL; simp only [bxL]; omega)) only [↓bxD, bxP, bxQ, Nat.reduceBEq, reduceCtorEq, Nat.reduceAdd, Nat.reduceSub, Nat.reduceMul, Nat.reduceLeDiff, Nat.reduceLT, bxR, h0, h5, h8, h9, h10, hu1, hu2, hg, hC, d1, ds, ix_slc, hb1, hR]
          refine ⟨(k + 1, l1, b), by simp only; omega, by simp only; omega, rfl, rfl, hB, hL, hn, hl, ho, ?_, hb, hm⟩
          rcases hc with ⟨h1, rfl, h2⟩ | hc
          · exact .inl ⟨h1, rfl, hhas _ h2 fun _ => hbz⟩
          · exact .inr hc
        | false =>
          simp (maxSteps := 4000000) (disch := first | omega | assumption | (simp only [bxS, bxV, stOk, Nat.reduceBEq, Nat.reduceEqDiff, Nat.reduceAdd]; done) | (simp only [bxU]; omega) | ((try apply has_setN); apply has_ofL; simp only [bxL]; omega)) only [↓bxD, bxP, bxQ, Nat.reduceBEq, reduceCtorEq, Nat.reduceAdd, Nat.reduceSub, Nat.reduceMul, Nat.reduceLeDiff, Nat.reduceLT, bxR, h0, h5, h8, h9, h10, hu1, hu2, hg, hC, d1, ds, ix_slc, hb1, hR, hH]
          show Wp fns K31_1 _ _ _
          unfold K31_1
          simp (maxSteps := 4000000) (disch := first | omega | assumption | (simp only [bxS, bxV, stOk, Nat.reduceBEq, Nat.reduceEqDiff, Nat.reduceAdd]; done) | (simp only [bxU]; omega) | ((try apply has_setN); apply has_ofL; simp only [bxL]; omega)) only [↓bxD, bxP, bxQ, Nat.reduceBEq, reduceCtorEq, Nat.reduceAdd, Nat.reduceSub, Nat.reduceMul, Nat.reduceLeDiff, Nat.reduceLT, bxR, h0, h5, h8, h9, h10, hu1, hu2, hg, hC, d1, ds, ix_slc, hb1, hR, hH]
          show Wp fns K31_0 _ _ _
          unfold K31_0
          simp (maxSteps := 4000000) (disch := first | omega | assumption | (simp only [bxS, bxV, stOk, Nat.reduceBEq, Nat.reduceEqDiff, Nat.reduceAdd]; done) | (simp only [bxU]; omega) | ((try apply has_setN); apply has_ofL; simp only [bxL]; omega)) only [↓bxD, bxP, bxQ, Nat.reduceBEq, reduceCtorEq, Nat.reduceAdd, Nat.reduceSub, Nat.reduceMul, Nat.reduceLeDiff, Nat.reduceLT, bxR, h0, h5, h8, h9, h10, hu1, hu2, hg, hC, d1, ds, ix_slc, hb1, hR, hH]
          refine ⟨(k + 1, l1.set sn true, true), by simp only; omega, by simp only; omega, rfl, rfl, ⟨_, set_same _ _, hb4 sn _ (by omega)⟩, by rw [List.length_set]; exact hL, hn, hl, fun j hj => by rw [set_ne hj]; exact ho j hj, ?_, fun a e => ?_, fun a e => set_true (hm a e)⟩
          · have h1 := falses_set hbz
            rcases hc with ⟨_, rfl, _⟩ | ⟨_, h2⟩
            · exact .inr ⟨rfl, h1⟩
            · exact .inr ⟨rfl, Nat.lt_trans h1 h2⟩
          · rw [List.getElem?_set] at e
            by_cases e1 : sn = a
            · subst e1
              exact .inr ⟨_, List.mem_of_getElem? hsk, s0, rfl⟩
            · rw [if_neg e1] at e
              exact hb a e
      · have ds : decide (0 ≤ s) = false := decide_eq_false s0
        simp (maxSteps := 4000000) (disch := first | omega | assumption | (simp only [bxS, bxV, stOk, Nat.reduceBEq, Nat.reduceEqDiff, Nat.reduceAdd]; done) | (simp only [bxU]; omega) | ((try apply has_setN); apply has_ofL; simp only [bxL]; omega)) only [↓bxD, bxP, bxQ, Nat.reduceBEq, reduceCtorEq, Nat.reduceAdd, Nat.reduceSub, Nat.reduceMul, Nat.reduceLeDiff, Nat.reduceLT, bxR, h0, h5, h8, h9, h10, hu1, hu2, hg, hC, d1, ds]
        show Wp fns K31_1 _ _ _
        unfold K31_1
        simp (maxSteps := 4000000) (disch := first | omega | assumption | (simp only [bxS, bxV, stOk, Nat.reduceBEq, Nat.reduceEqDiff, Nat.reduceAdd]; done) | (simp only [bxU]; omega) | ((try apply has_setN); apply has_ofL; simp only [bxL]; omega)) only [↓bxD, bxP, bxQ, Nat.reduceBEq, reduceCtorEq, Nat.reduceAdd, Nat.reduceSub, Nat.reduceMul, Nat.reduceLeDiff, Nat.reduceLT, bxR, h0, h5, h8, h9, h10, hu1, hu2, hg, hC, d1, ds]
        show Wp fns K31_0 _ _ _
        unfold K31_0
        simp (maxSteps := 4000000) (disch := first | omega | assumption | (simp only [bxS, bxV, stOk, Nat.reduceBEq, Nat.reduceEqDiff, Nat.reduceAdd]; done) | (simp only [bxU]; omega) | ((try apply has_setN); apply has_ofL; simp only [bxL]; omega)) only [↓bxD, bxP, bxQ, Nat.reduceBEq, reduceCtorEq, Nat.reduceAdd, Nat.reduceSub, Nat.reduceMul, Nat.reduceLeDiff, Nat.reduceLT, bxR, h0, h5, h8, h9, h10, hu1, hu2, hg, hC, d1, ds]
        refine ⟨(k + 1, l1, b), by simp only; omega, by simp only; omega, rfl, rfl, hB, hL, hn, hl, ho, ?_, hb, hm⟩
        rcases hc with ⟨h1, rfl, h2⟩ | hc
        · exact .inl ⟨h1, rfl, hhas _ h2 fun h => absurd h s0⟩
        · exact .inr hc
    · have d1 : decide ((k : Int) < (ar.length : Int)) = false := decide_eq_false (by omega)
      have hkl : k = ar.length := by omega
      subst hkl
      rw [List.take_length] at hc
      simp (maxSteps := 4000000) (disch := first | omega | assumption | (simp only [bxS, bxV, stOk, Nat.reduceBEq, Nat.reduceEqDiff, Nat.reduceAdd]; done) | (simp only [bxU]; omega) | ((try apply has_setN); apply has_ofL; simp only [bxL]; omega)) only [↓bxD, bxP, bxQ, Nat.reduceBEq, reduceCtorEq, Nat.reduceAdd, Nat.reduceSub, Nat.reduceMul, Nat.reduceLeDiff, Nat.reduceLT, bxR, h0, h5, h8, h9, h10, d1]
      show Wp fns K31_3 _ _ _
      unfold K31_3
      simp (maxSteps := 4000000) (disch := first | omega | assumption | (simp only [bxS, bxV, stOk, Nat.reduceBEq, Nat.reduceEqDiff, Nat.reduceAdd]; done) | (simp only [bxU]; omega) | ((try apply has_setN); apply has_ofL; simp only [bxL]; omega)) only [↓bxD, bxP, bxQ, Nat.reduceBEq, reduceCtorEq, Nat.reduceAdd, Nat.reduceSub, Nat.reduceMul, Nat.reduceLeDiff, Nat.reduceLT, bxR, h0, h5, h8, h9, h10, d1]
      exact ⟨l1, b, rfl, hB, hL, hn, hl, ho, hc, hb, hm⟩
  · exact ⟨Nat.zero_le _, by simp only [bxP, bxQ, reduceCtorEq, hu1, hu2], by simp only [bxP, bxQ, reduceCtorEq, hu1, hu2], by simp only [bxP, bxQ, reduceCtorEq, hu1, hu2], by simp only [bxP, bxQ, reduceCtorEq, hu1, hu2] <;> rfl, by simp only [bxP, bxQ, reduceCtorEq, hu1, hu2], hB, rfl, rfl, rfl, fun _ _ => rfl, .inl ⟨rfl, rfl, fun s hs => by simp at hs⟩, fun a e => .inl e, fun a e => e⟩
theorem preach_round {M0 M : MH} {g : Gr} {vr vf vc vk : MV} {es : List (List MV)} {id : Nat} {l0 : List Bool} {f : Fr} (h : NSt M0 M g vr vf vc vk es id l0 f) (hs : RchSound g l0) (h00 : l0[g.start.toNat]? = some true) (Q : Post)
    (hn : ∀ f' M' l' more, NSt M0 M' g vr vf vc vk es id l' f' → X.ev f' (.t q4) = .b more → RchSound g l' → l'[g.start.toNat]? = some true → ((more = true ∧ falses l' < falses l0) ∨ (more = false ∧ l' = l0 ∧ RchClosed l0 g.rules)) → Q .norm f' M') : Wp fns K16_3 f M Q := by
  have hq1 := h.q1
  have hq3 := h.q3
  have hbox := h.b0
  obtain ⟨hr1, hr2⟩ := h.gr.rules.row.sl
  rw [h.gr.rules.len] at hr2
  unfold gcs at hbox
  simp only [q1, q3] at hq1 hq3
  unfold K16_3
  simp (maxSteps := 4000000) (disch := first | omega | assumption | (simp only [bxS, bxV, stOk, Nat.reduceBEq, Nat.reduceEqDiff, Nat.reduceAdd]; done) | (simp only [bxU]; omega) | ((try apply has_setN); apply has_ofL; simp only [bxL]; omega)) only [↓bxD, bxP, bxQ, Nat.reduceBEq, reduceCtorEq, Nat.reduceAdd, Nat.reduceSub, Nat.reduceMul, Nat.reduceLeDiff, Nat.reduceLT, bxR, hq1, hq3, hbox, hr1, hr2]
  refine Wp_inv (σ := Nat × List Bool × Bool) (fun s f1 M1 => NSt M0 M1 g vr vf vc vk es id s.2.1 f1 ∧ s.1 ≤ g.rules.length ∧ X.ev f1 (.t q19) = vr ∧ X.ev f1 (.t q20) = .i .i64 (g.rules.length : Int) ∧ X.ev f1 (.t q21) = .i .i64 (s.1 : Int) ∧ X.ev f1 (.t q4) = .b s.2.2 ∧ RchSound g s.2.1 ∧ s.2.1[g.start.toNat]? = some true ∧ ((s.2.2 = true ∧ falses s.2.1 < falses l0) ∨ (s.2.2 = false ∧ s.2.1 = l0 ∧ RchClosed l0 (g.rules.take s.1)))) (fun s => g.rules.length - s.1) ?_ (0, l0, false) ?_
  · rintro ⟨i, l, more⟩ f1 M1 ⟨h, hi, h14, h15, h16, h4, hs, h00, hc⟩
    simp only at h hi h14 h15 h16 h4 hs h00 hc
    clear hq1 hq3 hbox
    have hq1 := h.q1
    have hq3 := h.q3
    have hbox := h.b0
    have hlo := h.lo0
    have hn0 := h.ext.n
    have hl0 := h.ext.lo
    have hid1 := h.id1
    have hid2 := h.id2
    unfold gcs at hbox
    have hrl := h.ok.rl
    simp only [q1, q3, q4, q19, q20, q21] at hq1 hq3 h4 h14 h15 h16
    unfold L16_2
    by_cases hi' : i < g.rules.length
    · have d1 : decide ((i : Int) < (g.rules.length : Int)) = true := decide_eq_true (by omega)
      obtain ⟨r, hr⟩ : ∃ r, g.rules[i]? = some r := ⟨_, List.getElem?_eq_getElem hi'⟩
      obtain ⟨a0, ar, a2⟩ := r
      have hmem := List.mem_of_getElem? hr
      obtain ⟨ur, hu1, hu2⟩ := h.gr.rules.get hr
      have hrow := h.gr.rules.row.ext h.ext
      obtain ⟨ro3, s3, t3, hg3, hid3, hat3⟩ := hrow.read hu1
      have hN : Ev.getN t3 3 (soff vr + i * 3) = some [.i .i64 a0, ur, .i .i64 a2] := hat3.getN
      obtain ⟨hu3, hu4⟩ := hu2.sl
      have hu6 := isSl_one hu3
      have hst : stOk 3 (.ag [.i .i64 a0, ur, .i .i64 a2]) = true := by simp only [stOk, cells_ag, isU_ag, all_cons, all_nil, one_i, hu6]; rfl
      obtain ⟨ha0, ha1⟩ := h.ok.left _ hmem
      have hsy := h.ok.sym _ hmem
      have hle := h.ok.len _ hmem
      simp only at ha0 ha1 hsy hle
      obtain ⟨an, rfl⟩ : ∃ n : Nat, a0 = n := ⟨a0.toNat, by omega⟩
      have hll := h.len
      have han : an < l.length := by omega
      obtain ⟨bb, hbb⟩ : ∃ x, l[an]? = some x := ⟨_, List.getElem?_eq_getElem han⟩
      simp (maxSteps := 4000000) (disch := first | omega | assumption | (simp only [bxS, bxV, stOk, Nat.reduceBEq, Nat.reduceEqDiff, Nat.reduceAdd]; done) | (simp only [bxU]; omega) | ((try apply has_setN); apply has_ofL; simp only [bxL]; omega)) only [↓bxD, bxP, bxQ, Nat.reduceBEq, reduceCtorEq, Nat.reduceAdd, Nat.reduceSub, Nat.reduceMul, Nat.reduceLeDiff, Nat.reduceLT, bxR, hq1, hq3, h4, h14, h15, h16, hr1, hr2, hg3, hN, d1]
      show Wp fns K16_1 _ _ _
      unfold K16_1
      simp (maxSteps := 4000000) (disch := first | omega | assumption | (simp only [bxS, bxV, stOk, Nat.reduceBEq, Nat.reduceEqDiff, Nat.reduceAdd]; done) | (simp only [bxU]; omega) | ((try apply has_setN); apply has_ofL; simp only [bxL]; omega)) only [↓bxD, bxP, bxQ, Nat.reduceBEq, reduceCtorEq, Nat.reduceAdd, Nat.reduceSub, Nat.reduceMul, Nat.reduceLeDiff, Nat.reduceLT, bxR, hq1, hq3, h4, h14, h15, h16, hr1, hr2, hg3, hN, d1]
      generalize hM2 : (M1.push _).set M1.n _ = M2
      have hx2 : Ext M1 M2 := by rw [← hM2]; exact (Ext.push M1 _).set _ (Nat.le_refl _)
      have h9 : M2.get M1.n = some (.cs false 3 (setN [.i .i64 (an : Int), ur, .i .i64 a2] 0 (ofL [.i .i64 0, .nils, .i .i64 0] 0))) := by rw [← hM2, set_same]
      have hn3 : M2.n = M1.n + 1 := by rw [← hM2]; rfl
      have hl2 := hx2.lo
      clear hM2
      have hC3 : At (setN [MV.i .i64 (an : Int), ur, .i .i64 a2] 0 (ofL [.i .i64 0, .nils, .i .i64 0] 0)) 0 [.i .i64 (an : Int), ur, .i .i64 a2] := at_setN _ _ _
      have c0 : cget (setN [MV.i .i64 (an : Int), ur, .i .i64 a2] 0 (ofL [.i .i64 0, .nils, .i .i64 0] 0)) 0 = some (.i .i64 (an : Int)) := hC3 0 _ rfl
      have c1 : cget (setN [MV.i .i64 (an : Int), ur, .i .i64 a2] 0 (ofL [.i .i64 0, .nils, .i .i64 0] 0)) 1 = some ur := hC3 1 _ rfl
      have hrow2 : BoolsAt M2 id l := h.row.same (hx2.old _ hid2)
      have hb2 : M2.get M0.n = some (.cs false 7 (ofL (gcs g vr vf vc vk) 0)) := (hx2.old _ (by omega)).trans h.b0
      obtain ⟨tb, hb1, hb3, hb4, hb5⟩ := hrow2.read
      have hR := hb3 _ _ hbb
      cases bb with
      | false =>
        simp (maxSteps := 4000000) (disch := first | omega | assumption | (simp only [bxS, bxV, stOk, Nat.reduceBEq, Nat.reduceEqDiff, Nat.reduceAdd]; done) | (simp only [bxU]; omega) | ((try apply has_setN); apply has_ofL; simp only [bxL]; omega)) only [↓bxD, bxP, bxQ, Nat.reduceBEq, reduceCtorEq, Nat.reduceAdd, Nat.reduceSub, Nat.reduceMul, Nat.reduceLeDiff, Nat.reduceLT, bxR, hq1, hq3, h4, h14, h15, h16, h9, c0, c1, ix_slc, hb1, hR]
        show Wp fns K16_0 _ _ _
        unfold K16_0
        simp (maxSteps := 4000000) (disch := first | omega | assumption | (simp only [bxS, bxV, stOk, Nat.reduceBEq, Nat.reduceEqDiff, Nat.reduceAdd]; done) | (simp only [bxU]; omega) | ((try apply has_setN); apply has_ofL; simp only [bxL]; omega)) only [↓bxD, bxP, bxQ, Nat.reduceBEq, reduceCtorEq, Nat.reduceAdd, Nat.reduceSub, Nat.reduceMul, Nat.reduceLeDiff, Nat.reduceLT, bxR, hq1, hq3, h4, h14, h15, h16, h9, c0, c1, ix_slc, hb1, hR]
        refine ⟨(i + 1, l, more), by simp only; omega, ⟨h.gr, h.ok, h.ext.trans hx2, h.lo0, hb2, h.id1, by omega, hrow2, h.len, by simp only [bxP, bxQ, reduceCtorEq, hq1, hq3, h4, h14, h15, h16, h9, c0, c1, ix_slc, hb1, hR], by simp only [bxP, bxQ, reduceCtorEq, hq1, hq3, h4, h14, h15, h16, h9, c0, c1, ix_slc, hb1, hR]⟩, by simp only; omega, rfl, rfl, hs, h00, ?_⟩
        rcases hc with hc | ⟨hc1, hc2, hc3⟩
        · exact .inl hc
        · refine .inr ⟨hc1, hc2, fun r hr' ha => ?_⟩
          rw [List.take_add_one, hr] at hr'
          rcases List.mem_append.1 hr' with h1 | h1
          · exact hc3 r h1 ha
          · simp only [Option.toList_some, List.mem_singleton] at h1
            subst h1
            subst hc2
            rw [Int.toNat_natCast, hbb] at ha
            cases ha
      | true =>
        simp (maxSteps := 4000000) (disch := first | omega | assumption | (simp only [bxS, bxV, stOk, Nat.reduceBEq, Nat.reduceEqDiff, Nat.reduceAdd]; done) | (simp only [bxU]; omega) | ((try apply has_setN); apply has_ofL; simp only [bxL]; omega)) only [↓bxD, bxP, bxQ, Nat.reduceBEq, reduceCtorEq, Nat.reduceAdd, Nat.reduceSub, Nat.reduceMul, Nat.reduceLeDiff, Nat.reduceLT, bxR, hq1, hq3, h4, h14, h15, h16, h9, c0, c1, ix_slc, hb1, hR]
        refine bindP_call (mark_any hrow2 (h.ext.trans hx2) hu2 (by omega) (by omega) (by rw [hl2, hl0]; omega) (fun s hs s0 => by have := symB_lt (hsy s hs) s0; omega) hle) ?_
        rintro m M3 ⟨l', b, rfl, hB3, hL3, hn4, hl4, ho4, hcase, hfrom, hkeep⟩
        have hx3 : Ext M0 M3 := ⟨by omega, by omega, fun j hj => by rw [ho4 j (by omega)]; exact (h.ext.trans hx2).old j hj⟩
        have hb6 : M3.get M0.n = some (.cs false 7 (ofL (gcs g vr vf vc vk) 0)) := by rw [ho4 _ (by omega)]; exact hb2
        have hs' : RchSound g l' := fun a e => by
          rcases hfrom a e with h1 | ⟨s, h1, h2, h3⟩
          · exact hs a h1
          · subst h3
            exact Rch.step (g := g) _ hmem (by simp only [Int.toNat_natCast]; exact hs an hbb) s h1 h2
        have h00' := hkeep _ h00
        cases b with
        | true =>
          simp (maxSteps := 4000000) (disch := first | omega | assumption | (simp only [bxS, bxV, stOk, Nat.reduceBEq, Nat.reduceEqDiff, Nat.reduceAdd]; done) | (simp only [bxU]; omega) | ((try apply has_setN); apply has_ofL; simp only [bxL]; omega)) only [↓bxD, bxP, bxQ, Nat.reduceBEq, reduceCtorEq, Nat.reduceAdd, Nat.reduceSub, Nat.reduceMul, Nat.reduceLeDiff, Nat.reduceLT, bxR, hq1, hq3, h4, h14, h15, h16, h9, c0, c1, ix_slc, hb1, hR]
          show Wp fns K16_0 _ _ _
          unfold K16_0
          simp (maxSteps := 4000000) (disch := first | omega | assumption | (simp only [bxS, bxV, stOk, Nat.reduceBEq, Nat.reduceEqDiff, Nat.reduceAdd]; done) | (simp only [bxU]; omega) | ((try apply has_setN); apply has_ofL; simp only [bxL]; omega)) only [↓bxD, bxP, bxQ, Nat.reduceBEq, reduceCtorEq, Nat.reduceAdd, Nat.reduceSub, Nat.reduceMul, Nat.reduceLeDiff, Nat.reduceLT, bxR, hq1, hq3, h4, h14, h15, h16, h9, c0, c1, ix_slc, hb1, hR]
          refine ⟨(i + 1, l', true), by simp only; omega, ⟨h.gr, h.ok, hx3, h.lo0, hb6, h.id1, by omega, hB3, hL3.trans hll, by simp only [bxP, bxQ, reduceCtorEq, hq1, hq3, h4, h14, h15, h16, h9, c0, c1, ix_slc, hb1, hR], by simp (maxSteps := 4000000) (disch := first | omega | assumption | (simp only [bxS, bxV, stOk, Nat.reduceBEq, Nat.reduceEqDiff, Nat.reduceAdd]; done) | (simp only [bxU]; omega) | ((try apply has_setN); apply has_ofL; simp only [bxL]; omega)) only [↓bxD, bxP, bxQ, Nat.reduceBEq, reduceCtorEq, Nat.reduceAdd, Nat.reduceSub, Nat.reduceMul, Nat.reduceLeDiff, Nat.reduceLT, bxR, hq1, hq3, h4, h14, h15, h16, h9, c0, c1, ix_slc, hb1, hR, hL3]⟩, by simp only; omega, rfl, rfl, hs', h00', .inl ⟨rfl, ?_⟩⟩
          rcases hcase with ⟨e, _⟩ | ⟨_, h1⟩
          · cases e
          · rcases hc with ⟨_, hc⟩ | ⟨_, rfl, _⟩
            · exact Nat.lt_trans h1 hc
            · exact h1
        | false =>
          rcases hcase with ⟨_, rfl, hhas⟩ | ⟨e, _⟩
          · simp (maxSteps := 4000000) (disch := first | omega | assumption | (simp only [bxS, bxV, stOk, Nat.reduceBEq, Nat.reduceEqDiff, Nat.reduceAdd]; done) | (simp only [bxU]; omega) | ((try apply has_setN); apply has_ofL; simp only [bxL]; omega)) only [↓bxD, bxP, bxQ, Nat.reduceBEq, reduceCtorEq, Nat.reduceAdd, Nat.reduceSub, Nat.reduceMul, Nat.reduceLeDiff, Nat.reduceLT, bxR, hq1, hq3, h4, h14, h15, h16, h9, c0, c1, ix_slc, hb1, hR]
            show Wp fns K16_0 _ _ _
            unfold K16_0
            simp (maxSteps := 4000000) (disch := first | omega | assumption | (simp only [bxS, bxV, stOk, Nat.reduceBEq, Nat.reduceEqDiff, Nat.reduceAdd]; done) | (simp only [bxU]; omega) | ((try apply has_setN); apply has_ofL; simp only [bxL]; omega)) only [↓bxD, bxP, bxQ, Nat.reduceBEq, reduceCtorEq, Nat.reduceAdd, Nat.reduceSub, Nat.reduceMul, Nat.reduceLeDiff, Nat.reduceLT, bxR, hq1, hq3, h4, h14, h15, h16, h9, c0, c1, ix_slc, hb1, hR]
            refine ⟨(i + 1, l', more), by simp only; omega, ⟨h.gr, h.ok, hx3, h.lo0, hb6, h.id1, by omega, hB3, hL3.trans hll, by simp only [bxP, bxQ, reduceCtorEq, hq1, hq3, h4, h14, h15, h16, h9, c0, c1, ix_slc, hb1, hR], by simp only [bxP, bxQ, reduceCtorEq, hq1, hq3, h4, h14, h15, h16, h9, c0, c1, ix_slc, hb1, hR]⟩, by simp only; omega, rfl, rfl, hs', h00', ?_⟩
            rcases hc with hc | ⟨hc1, hc2, hc3⟩
            · exact .inl hc
            · refine .inr ⟨hc1, hc2, fun r hr' ha => ?_⟩
              rw [List.take_add_one, hr] at hr'
              rcases List.mem_append.1 hr' with h1 | h1
              · exact hc3 r h1 ha
              · simp only [Option.toList_some, List.mem_singleton] at h1
                subst h1
                rw [← hc2]
                exact hhas
          · cases e
    · have d1 : decide ((i : Int) < (g.rules.length : Int)) = false := decide_eq_false (by omega)
      have hi2 : i = g.rules.length := by omega
      subst hi2
      rw [List.take_length] at hc
      simp (maxSteps := 4000000) (disch := first | omega | assumption | (simp only [bxS, bxV, stOk, Nat.reduceBEq, Nat.reduceEqDiff, Nat.reduceAdd]; done) | (simp only [bxU]; omega) | ((try apply has_setN); apply has_ofL; simp only [bxL]; omega)) only [↓bxD, bxP, bxQ, Nat.reduceBEq, reduceCtorEq, Nat.reduceAdd, Nat.reduceSub, Nat.reduceMul, Nat.reduceLeDiff, Nat.reduceLT, bxR, hq1, hq3, h4, h14, h15, h16, d1]
      exact hn _ _ l more ⟨h.gr, h.ok, h.ext, h.lo0, h.b0, h.id1, h.id2, h.row, h.len, by simp only [bxP, bxQ, reduceCtorEq, hq1, hq3, h4, h14, h15, h16, d1], by simp only [bxP, bxQ, reduceCtorEq, hq1, hq3, h4, h14, h15, h16, d1]⟩ (by simp only [bxP, bxQ, reduceCtorEq, hq1, hq3, h4, h14, h15, h16, d1]) hs h00 hc
  · exact ⟨⟨h.gr, h.ok, h.ext, h.lo0, h.b0, h.id1, h.id2, h.row, h.len, by simp only [bxP, bxQ, reduceCtorEq, hq1, hq3, hbox, hr1, hr2], by simp only [bxP, bxQ, reduceCtorEq, hq1, hq3, hbox, hr1, hr2]⟩, Nat.zero_le _, by simp only [bxP, bxQ, reduceCtorEq, hq1, hq3, hbox, hr1, hr2], by simp only [bxP, bxQ, reduceCtorEq, hq1, hq3, hbox, hr1, hr2], by simp only [bxP, bxQ, reduceCtorEq, hq1, hq3, hbox, hr1, hr2] <;> rfl, by simp only [bxP, bxQ, reduceCtorEq, hq1, hq3, hbox, hr1, hr2], hs, h00, .inr ⟨rfl, rfl, fun r hr => by simp at hr⟩⟩
theorem preachable_any {M : MH} {g : Gr} {vr vf vc vk : MV} {es : List (List MV)} (h : GrAt M vr vf vc vk es g) (hlo : M.lo ≤ M.n) : Cp fns 16 [.ag (gcs g vr vf vc vk)] M fun m M' => Ext M M' ∧ (((formP g).2 ≠ 0 ∧ m = .nils) ∨ ((formP g).2 = 0 ∧ ∃ l, RchVec g l ∧ BRow M' m l)) := by
  have hG : ∀ l, l = gcs g vr vf vc vk → Ev.getN (ofL l 0) 7 0 = some (gcs g vr vf vc vk) := fun l e => by subst e; exact (at_ofL (gcs g vr vf vc vk)).getN
  have hG := hG [MV.i IntKind.i64 g.names, MV.i IntKind.i64 g.kinds, MV.i IntKind.i64 g.start, vr, vf, vc, vk] rfl
  refine Cp_call (fn := F16) (by kernel_rfl) (Nat.le_of_ble_eq_true rfl) ?_
  show Wp fns B16 (T.set q0 (some (.ag (gcs g vr vf vc vk))) T.lf) M _
  unfold B16
  rw [show gcs g vr vf vc vk = [MV.i IntKind.i64 g.names, MV.i IntKind.i64 g.kinds, MV.i IntKind.i64 g.start, vr, vf, vc, vk] from rfl]
  simp (maxSteps := 4000000) (disch := first | omega | assumption | (simp only [bxS, bxV, stOk, Nat.reduceBEq, Nat.reduceEqDiff, Nat.reduceAdd]; done) | (simp only [bxU]; omega) | ((try apply has_setN); apply has_ofL; simp only [bxL]; omega)) only [↓bxD, bxP, bxQ, Nat.reduceBEq, reduceCtorEq, Nat.reduceAdd, Nat.reduceSub, Nat.reduceMul, Nat.reduceLeDiff, Nat.reduceLT, bxR, hG]
  generalize hM1 : M.push _ = M1
  have hg0 : M1.get M.n = some (.cs false 7 (ofL (gcs g vr vf vc vk) 0)) := by rw [← hM1]; exact push_new _
  have hx1 : Ext M M1 := by rw [← hM1]; exact Ext.push M _
  have hn1 : M1.n = M.n + 1 := by rw [← hM1]; rfl
  have hl1 := hx1.lo
  clear hM1
  refine bindP_call (isForm_any (h.ext hx1) (by omega)) ?_
  rintro m M2 ⟨rfl, hx2⟩
  have hn2 := hx2.n
  have hl2 := hx2.lo
  have hg2 := (hx2.old M.n (by omega)).trans hg0
  by_cases hz : (formP g).2 = 0
  · have dz : decide ((formP g).2 = 0) = true := decide_eq_true hz
    have hok := form_ok hz
    obtain ⟨nn, hnn⟩ : ∃ n : Nat, g.names = n := ⟨g.names.toNat, by have := hok.n1; omega⟩
    have hn40 := hok.n2
    have hg3 := hg2
    unfold gcs at hg3
    obtain ⟨sn, hsn⟩ : ∃ n : Nat, g.start = n := ⟨g.start.toNat, by have := hok.s1; omega⟩
    have hs2 := hok.s2
    have hsl : sn < nn := by omega
    have hH : ∀ t, hasB (ofL (zrow [MV.b false] nn) 0) 1 (sn * 1) = t → hasB (ofL (zrow [MV.b false] nn) 0) 1 (sn * 1) = t := fun _ h => h
    have hH : hasB (ofL (zrow [MV.b false] nn) 0) 1 (sn * 1) = true := has_ofL _ _ _ (by rw [zrow_rep, List.length_replicate]; omega)
    simp (maxSteps := 4000000) (disch := first | omega | assumption | (simp only [bxS, bxV, stOk, Nat.reduceBEq, Nat.reduceEqDiff, Nat.reduceAdd]; done) | (simp only [bxU]; omega) | ((try apply has_setN); apply has_ofL; simp only [bxL]; omega)) only [↓bxD, bxP, bxQ, Nat.reduceBEq, reduceCtorEq, Nat.reduceAdd, Nat.reduceSub, Nat.reduceMul, Nat.reduceLeDiff, Nat.reduceLT, bxR, dz, hg3, hnn, hsn, ev_mks, mks_ok, ix_slc]
    show Wp fns K16_6 _ _ _
    unfold K16_6
    simp (maxSteps := 4000000) (disch := first | omega | assumption | (simp only [bxS, bxV, stOk, Nat.reduceBEq, Nat.reduceEqDiff, Nat.reduceAdd]; done) | (simp only [bxU]; omega) | ((try apply has_setN); apply has_ofL; simp only [bxL]; omega)) only [↓bxD, bxP, bxQ, Nat.reduceBEq, reduceCtorEq, Nat.reduceAdd, Nat.reduceSub, Nat.reduceMul, Nat.reduceLeDiff, Nat.reduceLT, bxR, dz, hg3, hnn, hsn, ev_mks, mks_ok, ix_slc]
    obtain ⟨t, ht1, ht2, ht3, ht4⟩ := (BoolsAt.new (M := M2) nn).read
    rw [push_new] at ht1
    injection ht1 with ht1
    injection ht1 with _ _ ht1
    subst ht1
    have hrow0 := ht4 sn true (by rw [List.length_replicate]; exact hsl)
    generalize hM3 : (M2.push _).set M2.n _ = M3
    have hrow : BoolsAt M3 M2.n ((List.replicate nn false).set sn true) := ⟨_, by rw [← hM3, set_same]; rfl, hrow0⟩
    have hx3 : Ext M2 M3 := by rw [← hM3]; exact (Ext.push M2 _).set _ (Nat.le_refl _)
    have hn3 : M3.n = M2.n + 1 := by rw [← hM3]; rfl
    clear hM3
    refine Wp_inv (σ := List Bool × Bool) (fun s f1 M1 => NSt M M1 g vr vf vc vk es M2.n s.1 f1 ∧ X.ev f1 (.t q4) = .b s.2 ∧ RchSound g s.1 ∧ s.1[g.start.toNat]? = some true ∧ (s.2 = false → RchClosed s.1 g.rules)) (fun s => 2 * falses s.1 + (if s.2 = true then 1 else 0)) ?_ ((List.replicate nn false).set sn true, true) ?_
    · rintro ⟨l, more⟩ f1 M4 ⟨h4, ht, hs, h00, hc⟩
      simp only at h4 ht hs h00 hc
      have hq1 := h4.q1
      have hq3 := h4.q3
      simp only [q1, q3, q4] at hq1 hq3 ht
      unfold L16_4
      cases more with
      | true =>
        simp (maxSteps := 4000000) (disch := first | omega | assumption | (simp only [bxS, bxV, stOk, Nat.reduceBEq, Nat.reduceEqDiff, Nat.reduceAdd]; done) | (simp only [bxU]; omega) | ((try apply has_setN); apply has_ofL; simp only [bxL]; omega)) only [↓bxD, bxP, bxQ, Nat.reduceBEq, reduceCtorEq, Nat.reduceAdd, Nat.reduceSub, Nat.reduceMul, Nat.reduceLeDiff, Nat.reduceLT, bxR, hq1, hq3, ht]
        show Wp fns K16_3 _ _ _
        refine preach_round ⟨h4.gr, h4.ok, h4.ext, h4.lo0, h4.b0, h4.id1, h4.id2, h4.row, h4.len, ?_, ?_⟩ hs h00 _ ?_
        · simp only [bxP, bxQ, reduceCtorEq, hq1, hq3, ht]
        · simp only [bxP, bxQ, reduceCtorEq, hq1, hq3, ht]
        intro f' M' l' more' h' h4' hs' h00' hcase
        refine ⟨(l', more'), ?_, h', h4', hs', h00', fun e => ?_⟩
        · rcases hcase with ⟨rfl, hlt⟩ | ⟨rfl, rfl, _⟩
          · simp only [if_true]; omega
          · simp
        · rcases hcase with ⟨rfl, _⟩ | ⟨_, rfl, hc'⟩
          · cases e
          · exact hc'
      | false =>
        simp (maxSteps := 4000000) (disch := first | omega | assumption | (simp only [bxS, bxV, stOk, Nat.reduceBEq, Nat.reduceEqDiff, Nat.reduceAdd]; done) | (simp only [bxU]; omega) | ((try apply has_setN); apply has_ofL; simp only [bxL]; omega)) only [↓bxD, bxP, bxQ, Nat.reduceBEq, reduceCtorEq, Nat.reduceAdd, Nat.reduceSub, Nat.reduceMul, Nat.reduceLeDiff, Nat.reduceLT, bxR, hq1, hq3, ht]
        show Wp fns K16_5 _ _ _
        unfold K16_5
        simp (maxSteps := 4000000) (disch := first | omega | assumption | (simp only [bxS, bxV, stOk, Nat.reduceBEq, Nat.reduceEqDiff, Nat.reduceAdd]; done) | (simp only [bxU]; omega) | ((try apply has_setN); apply has_ofL; simp only [bxL]; omega)) only [↓bxD, bxP, bxQ, Nat.reduceBEq, reduceCtorEq, Nat.reduceAdd, Nat.reduceSub, Nat.reduceMul, Nat.reduceLeDiff, Nat.reduceLT, bxR, hq1, hq3, ht]
        refine ⟨h4.ext, .inr ⟨hz, l, rch_vec h4.len hs h00 (hc rfl), ?_⟩⟩
        exact h4.row.row h4.id2
    · refine ⟨⟨h, hok, (hx1.trans hx2).trans hx3, hlo, (hx3.old _ (by omega)).trans hg2, by omega, by omega, hrow, by rw [List.length_set, List.length_replicate, hnn]; rfl, ?_, ?_⟩, ?_, fun a e => ?_, ?_, fun e => by cases e⟩
      · simp only [bxP, bxQ, reduceCtorEq, dz, hg3, hnn, hsn, ev_mks, mks_ok, ix_slc]
      · simp (maxSteps := 4000000) (disch := first | omega | assumption | (simp only [bxS, bxV, stOk, Nat.reduceBEq, Nat.reduceEqDiff, Nat.reduceAdd]; done) | (simp only [bxU]; omega) | ((try apply has_setN); apply has_ofL; simp only [bxL]; omega)) only [↓bxD, bxP, bxQ, Nat.reduceBEq, reduceCtorEq, Nat.reduceAdd, Nat.reduceSub, Nat.reduceMul, Nat.reduceLeDiff, Nat.reduceLT, bxR, dz, hg3, hnn, hsn, ev_mks, mks_ok, ix_slc, List.length_replicate, List.length_set]
      · simp only [bxP, bxQ, reduceCtorEq, dz, hg3, hnn, hsn, ev_mks, mks_ok, ix_slc]
      · rw [List.getElem?_set] at e
        split at e
        · rename_i e1
          subst e1
          have := Rch.start (g := g)
          rw [hsn] at this
          exact this
        · rw [List.getElem?_replicate] at e
          split at e <;> cases e
      · rw [hsn]
        exact set_here (by rw [List.length_replicate]; exact hsl)
  · have dz : decide ((formP g).2 = 0) = false := decide_eq_false hz
    simp (maxSteps := 4000000) (disch := first | omega | assumption | (simp only [bxS, bxV, stOk, Nat.reduceBEq, Nat.reduceEqDiff, Nat.reduceAdd]; done) | (simp only [bxU]; omega) | ((try apply has_setN); apply has_ofL; simp only [bxL]; omega)) only [↓bxD, bxP, bxQ, Nat.reduceBEq, reduceCtorEq, Nat.reduceAdd, Nat.reduceSub, Nat.reduceMul, Nat.reduceLeDiff, Nat.reduceLT, bxR, dz]
    exact ⟨hx1.trans hx2, .inl hz⟩
def shVal (l r : List Int) : Int := if shOk l r = true then shSum l r else -1
theorem shVal_cut (l r : List Int) : (if mostZ < shVal l r then mostZ else shVal l r) = shRow l r := by
  unfold shVal shRow
  split
  · split <;> omega
  · unfold mostZ
    rw [if_neg (by omega)]
theorem shVal_hi {l r : List Int} (hl : ∀ z ∈ l, -1 ≤ z ∧ z ≤ mostZ) : shVal l r ≤ mostZ * r.length := by
  have key : ∀ r : List Int, shSum l r ≤ mostZ * r.length := fun r => by
    induction r with
    | nil => exact Int.le_refl _
    | cons s r ih =>
      have := (shV_lo hl s).2
      unfold shSum at *
      rw [List.map_cons, List.sum_cons, List.length_cons]
      unfold mostZ at *
      omega
  unfold shVal
  split
  · exact key r
  · unfold mostZ; omega
theorem rrow_in {M : MH} {f : Fr} {l ar : List Int} {ur v1 : MV} {id n7 : Nat} {c : T MV} {b5 : Bool} {i6 : Int} (hI : IntsAt M id l) (hid : id < M.n) (hu : IntRow M ur ar) (hl : ∀ z ∈ l, -1 ≤ z ∧ z ≤ mostZ) (hs : ∀ s ∈ ar, 0 ≤ s → s.toNat < l.length) (ha : ar.length ≤ 8)
    (h7 : X.ev f (.t q7) = .p n7 0) (hb7 : M.get n7 = some (.cs false 3 c)) (c1 : cget c 1 = some ur) (h1 : X.ev f (.t q1) = v1) (h3 : X.ev f (.t q3) = .sl id 0 l.length 0) (h5 : X.ev f (.t q5) = .b b5) (h6 : X.ev f (.t q6) = .i .i64 i6) (h8 : X.ev f (.t q8) = .i .i64 0) (h9 : X.ev f (.t q9) = .i .i64 0) (Q : Post)
    (hn : ∀ f', X.ev f' (.t q7) = .p n7 0 → X.ev f' (.t q1) = v1 → X.ev f' (.t q3) = .sl id 0 l.length 0 → X.ev f' (.t q5) = .b b5 → X.ev f' (.t q6) = .i .i64 i6 → X.ev f' (.t q8) = .i .i64 (shVal l ar) → Q .norm f' M) : Wp fns (.loop L35_5) f M (blockQ 6 Q) := by
  obtain ⟨hu1, hu2⟩ := hu.sl
  obtain ⟨t, ht1, ht2, ht3, ht4⟩ := hI.read
  refine Wp_inv (σ := Nat) (fun k f M' => M' = M ∧ k ≤ ar.length ∧ X.ev f (.t q7) = .p n7 0 ∧ X.ev f (.t q1) = v1 ∧ X.ev f (.t q3) = .sl id 0 l.length 0 ∧ X.ev f (.t q5) = .b b5 ∧ X.ev f (.t q6) = .i .i64 i6 ∧ X.ev f (.t q8) = .i .i64 (shVal l (ar.take k)) ∧ X.ev f (.t q9) = .i .i64 (k : Int)) (fun k => ar.length - k) ?_ 0 ?_
  · rintro k f M' ⟨rfl, hk, h7, h1, h3, h5, h6, h8, h9⟩
    have g7 := h7
    have g1 := h1
    have g3 := h3
    have g5 := h5
    have g6 := h6
    have g8 := h8
    simp only [q1, q3, q5, q6, q7, q8, q9] at h1 h3 h5 h6 h7 h8 h9
    unfold L35_5
    by_cases hk1 : k < ar.length
    · have d1 : decide ((k : Int) < (ar.length : Int)) = true := decide_eq_true (by omega)
      cases hv : shOk l (ar.take k) with
      | true =>
        have hval : shVal l (ar.take k) = shSum l (ar.take k) := by unfold shVal; rw [hv]; rfl
        have hp := shSum_pos hv
        have hp2 := shVal_hi (r := ar.take k) hl
        rw [hval] at h8 hp2
        rw [List.length_take, Nat.min_eq_left (by omega)] at hp2
        have d2 : decide (0 ≤ shSum l (ar.take k)) = true := decide_eq_true hp
        obtain ⟨s, hsk⟩ : ∃ s, ar[k]? = some s := ⟨_, List.getElem?_eq_getElem hk1⟩
        obtain ⟨ro, sz, tt, hg, hid', hC⟩ := hu.read hsk
        have hvb := shV_lo hl s
        have ho2 := shOk_take (l := l) hsk
        have hs2' := shSum_take (l := l) hsk
        rw [hv, Bool.true_and] at ho2
        unfold mostZ at hvb hp2
        by_cases s0 : s < 0
        · have ds : decide (s < 0) = true := decide_eq_true s0
          have hzv : shV l s = 1 := by unfold shV; rw [if_pos s0]
          rw [hzv] at ho2 hs2'
          have wa : wrapF .i64 (shSum l (ar.take k) + 1) = shSum l (ar.take k) + 1 := wrap_in (by omega) (by omega)
          simp (maxSteps := 4000000) (disch := first | omega | assumption | (simp only [bxS, bxV, stOk, Nat.reduceBEq, Nat.reduceEqDiff, Nat.reduceAdd]; done) | (simp only [bxU]; omega) | ((try apply has_setN); apply has_ofL; simp only [bxL]; omega)) only [↓bxD, bxP, bxQ, bxQ2, Nat.reduceBEq, reduceCtorEq, Nat.reduceAdd, Nat.reduceSub, Nat.reduceMul, Nat.reduceLeDiff, Nat.reduceLT, bxR, h1, h3, h5, h6, h7, h8, h9, hu1, hu2, hb7, c1, d1, d2, hg, hC, ds, wa]
          show Wp fns K35_4 _ _ _
          unfold K35_4
          simp (maxSteps := 4000000) (disch := first | omega | assumption | (simp only [bxS, bxV, stOk, Nat.reduceBEq, Nat.reduceEqDiff, Nat.reduceAdd]; done) | (simp only [bxU]; omega) | ((try apply has_setN); apply has_ofL; simp only [bxL]; omega)) only [↓bxD, bxP, bxQ, bxQ2, Nat.reduceBEq, reduceCtorEq, Nat.reduceAdd, Nat.reduceSub, Nat.reduceMul, Nat.reduceLeDiff, Nat.reduceLT, bxR, h1, h3, h5, h6, h7, h8, h9, hu1, hu2, hb7, c1, d1, d2, hg, hC, ds, wa]
          show Wp fns K35_3 _ _ _
          unfold K35_3
          simp (maxSteps := 4000000) (disch := first | omega | assumption | (simp only [bxS, bxV, stOk, Nat.reduceBEq, Nat.reduceEqDiff, Nat.reduceAdd]; done) | (simp only [bxU]; omega) | ((try apply has_setN); apply has_ofL; simp only [bxL]; omega)) only [↓bxD, bxP, bxQ, bxQ2, Nat.reduceBEq, reduceCtorEq, Nat.reduceAdd, Nat.reduceSub, Nat.reduceMul, Nat.reduceLeDiff, Nat.reduceLT, bxR, h1, h3, h5, h6, h7, h8, h9, hu1, hu2, hb7, c1, d1, d2, hg, hC, ds, wa]
          refine ⟨k + 1, by omega, by omega, congrArg (MV.i .i64) ?_, rfl⟩
          unfold shVal
          rw [ho2, hs2']
          rfl
        · have ds : decide (s < 0) = false := decide_eq_false s0
          have hsl := hs s (List.mem_of_getElem? hsk) (by omega)
          obtain ⟨sn, rfl⟩ : ∃ n : Nat, s = n := ⟨s.toNat, by omega⟩
          simp only [Int.toNat_natCast] at hsl
          obtain ⟨z, hz⟩ : ∃ z, l[sn]? = some z := ⟨_, List.getElem?_eq_getElem hsl⟩
          have hR := ht2 _ _ hz
          have hzv : shV l (sn : Int) = z := by unfold shV; rw [if_neg s0, List.getD_eq_getElem?_getD, Int.toNat_natCast, hz]; rfl
          rw [hzv] at hvb ho2 hs2'
          by_cases z0 : z < 0
          · have dz : decide (z < 0) = true := decide_eq_true z0
            have hnv : shVal l (ar.take (k + 1)) = -1 := by
              unfold shVal
              rw [ho2, decide_eq_false (by omega)]
              rfl
            simp (maxSteps := 4000000) (disch := first | omega | assumption | (simp only [bxS, bxV, stOk, Nat.reduceBEq, Nat.reduceEqDiff, Nat.reduceAdd]; done) | (simp only [bxU]; omega) | ((try apply has_setN); apply has_ofL; simp only [bxL]; omega)) only [↓bxD, bxP, bxQ, bxQ2, Nat.reduceBEq, reduceCtorEq, Nat.reduceAdd, Nat.reduceSub, Nat.reduceMul, Nat.reduceLeDiff, Nat.reduceLT, bxR, h1, h3, h5, h6, h7, h8, h9, hu1, hu2, hb7, c1, d1, d2, hg, hC, ds, ix_slc, ht1, hR, dz]
            show Wp fns K35_4 _ _ _
            unfold K35_4
            simp (maxSteps := 4000000) (disch := first | omega | assumption | (simp only [bxS, bxV, stOk, Nat.reduceBEq, Nat.reduceEqDiff, Nat.reduceAdd]; done) | (simp only [bxU]; omega) | ((try apply has_setN); apply has_ofL; simp only [bxL]; omega)) only [↓bxD, bxP, bxQ, bxQ2, Nat.reduceBEq, reduceCtorEq, Nat.reduceAdd, Nat.reduceSub, Nat.reduceMul, Nat.reduceLeDiff, Nat.reduceLT, bxR, h1, h3, h5, h6, h7, h8, h9, hu1, hu2, hb7, c1, d1, d2, hg, hC, ds, ix_slc, ht1, hR, dz]
            show Wp fns K35_3 _ _ _
            unfold K35_3
            simp (maxSteps := 4000000) (disch := first | omega | assumption | (simp only [bxS, bxV, stOk, Nat.reduceBEq, Nat.reduceEqDiff, Nat.reduceAdd]; done) | (simp only [bxU]; omega) | ((try apply has_setN); apply has_ofL; simp only [bxL]; omega)) only [↓bxD, bxP, bxQ, bxQ2, Nat.reduceBEq, reduceCtorEq, Nat.reduceAdd, Nat.reduceSub, Nat.reduceMul, Nat.reduceLeDiff, Nat.reduceLT, bxR, h1, h3, h5, h6, h7, h8, h9, hu1, hu2, hb7, c1, d1, d2, hg, hC, ds, ix_slc, ht1, hR, dz]
            exact ⟨k + 1, by omega, by omega, by rw [hnv]; rfl, rfl⟩
          · have dz : decide (z < 0) = false := decide_eq_false z0
            have wa : wrapF .i64 (shSum l (ar.take k) + z) = shSum l (ar.take k) + z := wrap_in (by omega) (by omega)
            simp (maxSteps := 4000000) (disch := first | omega | assumption | (simp only [bxS, bxV, stOk, Nat.reduceBEq, Nat.reduceEqDiff, Nat.reduceAdd]; done) | (simp only [bxU]; omega) | ((try apply has_setN); apply has_ofL; simp only [bxL]; omega)) only [↓bxD, bxP, bxQ, bxQ2, Nat.reduceBEq, reduceCtorEq, Nat.reduceAdd, Nat.reduceSub, Nat.reduceMul, Nat.reduceLeDiff, Nat.reduceLT, bxR, h1, h3, h5, h6, h7, h8, h9, hu1, hu2, hb7, c1, d1, d2, hg, hC, ds, ix_slc, ht1, hR, dz, wa]
            show Wp fns K35_4 _ _ _
            unfold K35_4
            simp (maxSteps := 4000000) (disch := first | omega | assumption | (simp only [bxS, bxV, stOk, Nat.reduceBEq, Nat.reduceEqDiff, Nat.reduceAdd]; done) | (simp only [bxU]; omega) | ((try apply has_setN); apply has_ofL; simp only [bxL]; omega)) only [↓bxD, bxP, bxQ, bxQ2, Nat.reduceBEq, reduceCtorEq, Nat.reduceAdd, Nat.reduceSub, Nat.reduceMul, Nat.reduceLeDiff, Nat.reduceLT, bxR, h1, h3, h5, h6, h7, h8, h9, hu1, hu2, hb7, c1, d1, d2, hg, hC, ds, ix_slc, ht1, hR, dz, wa]
            show Wp fns K35_3 _ _ _
            unfold K35_3
            simp (maxSteps := 4000000) (disch := first | omega | assumption | (simp only [bxS, bxV, stOk, Nat.reduceBEq, Nat.reduceEqDiff, Nat.reduceAdd]; done) | (simp only [bxU]; omega) | ((try apply has_setN); apply has_ofL; simp only [bxL]; omega)) only [↓bxD, bxP, bxQ, bxQ2, Nat.reduceBEq, reduceCtorEq, Nat.reduceAdd, Nat.reduceSub, Nat.reduceMul, Nat.reduceLeDiff, Nat.reduceLT, bxR, h1, h3, h5, h6, h7, h8, h9, hu1, hu2, hb7, c1, d1, d2, hg, hC, ds, ix_slc, ht1, hR, dz, wa]
            refine ⟨k + 1, by omega, by omega, congrArg (MV.i .i64) ?_, rfl⟩
            unfold shVal
            rw [ho2, hs2', decide_eq_true (show 0 ≤ z by omega)]
            rfl
      | false =>
        have hval : shVal l (ar.take k) = -1 := by unfold shVal; rw [hv]; rfl
        have hvl : shVal l ar = -1 := by unfold shVal; rw [shOk_le hv]; rfl
        rw [hval] at h8
        have d2 : decide ((0 : Int) ≤ -1) = false := rfl
        simp (maxSteps := 4000000) (disch := first | omega | assumption | (simp only [bxS, bxV, stOk, Nat.reduceBEq, Nat.reduceEqDiff, Nat.reduceAdd]; done) | (simp only [bxU]; omega) | ((try apply has_setN); apply has_ofL; simp only [bxL]; omega)) only [↓bxD, bxP, bxQ, bxQ2, Nat.reduceBEq, reduceCtorEq, Nat.reduceAdd, Nat.reduceSub, Nat.reduceMul, Nat.reduceLeDiff, Nat.reduceLT, bxR, h1, h3, h5, h6, h7, h8, h9, hu1, hu2, hb7, c1, d1, d2]
        exact hn _ (by simp only [bxP, bxQ, bxQ2, reduceCtorEq, h1, h3, h5, h6, h7, h8, h9, hu1, hu2, hb7, c1, d1, d2]) (by simp only [bxP, bxQ, bxQ2, reduceCtorEq, h1, h3, h5, h6, h7, h8, h9, hu1, hu2, hb7, c1, d1, d2]) (by simp only [bxP, bxQ, bxQ2, reduceCtorEq, h1, h3, h5, h6, h7, h8, h9, hu1, hu2, hb7, c1, d1, d2]) (by simp only [bxP, bxQ, bxQ2, reduceCtorEq, h1, h3, h5, h6, h7, h8, h9, hu1, hu2, hb7, c1, d1, d2]) (by simp only [bxP, bxQ, bxQ2, reduceCtorEq, h1, h3, h5, h6, h7, h8, h9, hu1, hu2, hb7, c1, d1, d2]) (by simp (maxSteps := 4000000) (disch := first | omega | assumption | (simp only [bxS, bxV, stOk, Nat.reduceBEq, Nat.reduceEqDiff, Nat.reduceAdd]; done) | (simp only [bxU]; omega) | ((try apply has_setN); apply has_ofL; simp only [bxL]; omega)) only [↓bxD, bxP, bxQ, bxQ2, Nat.reduceBEq, reduceCtorEq, Nat.reduceAdd, Nat.reduceSub, Nat.reduceMul, Nat.reduceLeDiff, Nat.reduceLT, bxR, h1, h3, h5, h6, h7, h8, h9, hu1, hu2, hb7, c1, d1, d2, hvl])
    · have d1 : decide ((k : Int) < (ar.length : Int)) = false := decide_eq_false (by omega)
      have hkl : k = ar.length := by omega
      subst hkl
      rw [List.take_length] at h8 g8
      simp (maxSteps := 4000000) (disch := first | omega | assumption | (simp only [bxS, bxV, stOk, Nat.reduceBEq, Nat.reduceEqDiff, Nat.reduceAdd]; done) | (simp only [bxU]; omega) | ((try apply has_setN); apply has_ofL; simp only [bxL]; omega)) only [↓bxD, bxP, bxQ, bxQ2, Nat.reduceBEq, reduceCtorEq, Nat.reduceAdd, Nat.reduceSub, Nat.reduceMul, Nat.reduceLeDiff, Nat.reduceLT, bxR, h1, h3, h5, h6, h7, h8, h9, hu1, hu2, hb7, c1, d1]
      exact hn _ (by simp only [bxP, bxQ, bxQ2, reduceCtorEq, h1, h3, h5, h6, h7, h8, h9, hu1, hu2, hb7, c1, d1]) (by simp only [bxP, bxQ, bxQ2, reduceCtorEq, h1, h3, h5, h6, h7, h8, h9, hu1, hu2, hb7, c1, d1]) (by simp only [bxP, bxQ, bxQ2, reduceCtorEq, h1, h3, h5, h6, h7, h8, h9, hu1, hu2, hb7, c1, d1]) (by simp only [bxP, bxQ, bxQ2, reduceCtorEq, h1, h3, h5, h6, h7, h8, h9, hu1, hu2, hb7, c1, d1]) (by simp only [bxP, bxQ, bxQ2, reduceCtorEq, h1, h3, h5, h6, h7, h8, h9, hu1, hu2, hb7, c1, d1]) (by simp only [bxP, bxQ, bxQ2, reduceCtorEq, h1, h3, h5, h6, h7, h8, h9, hu1, hu2, hb7, c1, d1])
  · exact ⟨rfl, Nat.zero_le _, h7, h1, h3, h5, h6, h8, h9⟩
theorem rshort_round {M0 M : MH} {g : Gr} {vr vf vc vk : MV} {es : List (List MV)} {id : Nat} {l0 : List Int} {f : Fr} (h : ISt M0 M g vr vf vc vk es id l0 f) (Q : Post)
    (hn : ∀ f' M' l' more, ISt M0 M' g vr vf vc vk es id l' f' → X.ev f' (.t q5) = .b more → l' = shRnd g.rules l0 → ((more = true ∧ shMu l' < shMu l0) ∨ (more = false ∧ l' = l0 ∧ ShStill g.rules l0)) → Q .norm f' M') : Wp fns K35_11 f M Q := by
  have hq1 := h.q1
  have hq3 := h.q3
  have hbox := h.b0
  obtain ⟨hr1, hr2⟩ := h.gr.rules.row.sl
  rw [h.gr.rules.len] at hr2
  unfold gcs at hbox
  simp only [q1, q3] at hq1 hq3
  unfold K35_11
  simp (maxSteps := 4000000) (disch := first | omega | assumption | (simp only [bxS, bxV, stOk, Nat.reduceBEq, Nat.reduceEqDiff, Nat.reduceAdd]; done) | (simp only [bxU]; omega) | ((try apply has_setN); apply has_ofL; simp only [bxL]; omega)) only [↓bxD, bxP, bxQ, bxQ2, Nat.reduceBEq, reduceCtorEq, Nat.reduceAdd, Nat.reduceSub, Nat.reduceMul, Nat.reduceLeDiff, Nat.reduceLT, bxR, hq1, hq3, hbox, hr1, hr2]
  refine Wp_inv (σ := Nat × List Int × Bool) (fun s f1 M1 => ISt M0 M1 g vr vf vc vk es id s.2.1 f1 ∧ s.1 ≤ g.rules.length ∧ X.ev f1 (.t q6) = .i .i64 (s.1 : Int) ∧ X.ev f1 (.t q5) = .b s.2.2 ∧ s.2.1 = shRnd (g.rules.take s.1) l0 ∧ ((s.2.2 = true ∧ shMu s.2.1 < shMu l0) ∨ (s.2.2 = false ∧ s.2.1 = l0 ∧ ShStill (g.rules.take s.1) l0))) (fun s => g.rules.length - s.1) ?_ (0, l0, false) ?_
  · rintro ⟨i, l, more⟩ f1 M1 ⟨h, hi, h16, h4, hl, hc⟩
    simp only at h hi h16 h4 hl hc
    clear hq1 hq3 hbox
    have hq1 := h.q1
    have hq3 := h.q3
    have hbox := h.b0
    have hlo := h.lo0
    have hn0 := h.ext.n
    have hl0 := h.ext.lo
    have hid1 := h.id1
    have hid2 := h.id2
    unfold gcs at hbox
    have hrl := h.ok.rl
    simp only [q1, q3, q5, q6] at hq1 hq3 h4 h16
    unfold L35_10
    by_cases hi' : i < g.rules.length
    · have d1 : decide ((i : Int) < (g.rules.length : Int)) = true := decide_eq_true (by omega)
      obtain ⟨r, hr⟩ : ∃ r, g.rules[i]? = some r := ⟨_, List.getElem?_eq_getElem hi'⟩
      have hrt := shRnd_take (l := l0) hr
      rw [← hl] at hrt
      obtain ⟨a0, ar, a2⟩ := r
      have hmem := List.mem_of_getElem? hr
      obtain ⟨ur, hu1, hu2⟩ := h.gr.rules.get hr
      have hrow := h.gr.rules.row.ext h.ext
      obtain ⟨ro3, s3, t3, hg3, hid3, hat3⟩ := hrow.read hu1
      have hN : Ev.getN t3 3 (soff vr + i * 3) = some [.i .i64 a0, ur, .i .i64 a2] := hat3.getN
      obtain ⟨hu3, hu4⟩ := hu2.sl
      have hu6 := isSl_one hu3
      have hst : stOk 3 (.ag [.i .i64 a0, ur, .i .i64 a2]) = true := by simp only [stOk, cells_ag, isU_ag, all_cons, all_nil, one_i, hu6]; rfl
      obtain ⟨ha0, ha1⟩ := h.ok.left _ hmem
      simp only at ha0 ha1
      obtain ⟨an, rfl⟩ : ∃ n : Nat, a0 = n := ⟨a0.toNat, by omega⟩
      have hll := h.inn.len
      have han : an < l.length := by omega
      simp (maxSteps := 4000000) (disch := first | omega | assumption | (simp only [bxS, bxV, stOk, Nat.reduceBEq, Nat.reduceEqDiff, Nat.reduceAdd]; done) | (simp only [bxU]; omega) | ((try apply has_setN); apply has_ofL; simp only [bxL]; omega)) only [↓bxD, bxP, bxQ, bxQ2, Nat.reduceBEq, reduceCtorEq, Nat.reduceAdd, Nat.reduceSub, Nat.reduceMul, Nat.reduceLeDiff, Nat.reduceLT, bxR, hq1, hq3, h4, h16, hr1, hr2, hbox, hg3, hN, d1]
      show Wp fns K35_9 _ _ _
      unfold K35_9
      simp (maxSteps := 4000000) (disch := first | omega | assumption | (simp only [bxS, bxV, stOk, Nat.reduceBEq, Nat.reduceEqDiff, Nat.reduceAdd]; done) | (simp only [bxU]; omega) | ((try apply has_setN); apply has_ofL; simp only [bxL]; omega)) only [↓bxD, bxP, bxQ, bxQ2, Nat.reduceBEq, reduceCtorEq, Nat.reduceAdd, Nat.reduceSub, Nat.reduceMul, Nat.reduceLeDiff, Nat.reduceLT, bxR, hq1, hq3, h4, h16, hr1, hr2, hbox, hg3, hN, d1]
      generalize hM2 : (M1.push _).set M1.n _ = M2
      have hx2 : Ext M1 M2 := by rw [← hM2]; exact (Ext.push M1 _).set _ (Nat.le_refl _)
      have h9 : M2.get M1.n = some (.cs false 3 (setN [.i .i64 (an : Int), ur, .i .i64 a2] 0 (ofL [.i .i64 0, .nils, .i .i64 0] 0))) := by rw [← hM2, set_same]
      have hn3 : M2.n = M1.n + 1 := by rw [← hM2]; rfl
      have hl2 := hx2.lo
      clear hM2
      have hC3 : At (setN [MV.i .i64 (an : Int), ur, .i .i64 a2] 0 (ofL [.i .i64 0, .nils, .i .i64 0] 0)) 0 [.i .i64 (an : Int), ur, .i .i64 a2] := at_setN _ _ _
      have c0 : cget (setN [MV.i .i64 (an : Int), ur, .i .i64 a2] 0 (ofL [.i .i64 0, .nils, .i .i64 0] 0)) 0 = some (.i .i64 (an : Int)) := hC3 0 _ rfl
      have c1 : cget (setN [MV.i .i64 (an : Int), ur, .i .i64 a2] 0 (ofL [.i .i64 0, .nils, .i .i64 0] 0)) 1 = some ur := hC3 1 _ rfl
      have hrow2 : IntsAt M2 id l := h.row.same (hx2.old _ hid2)
      have hsy := h.ok.sym _ hmem
      have hle := h.ok.len _ hmem
      simp only at hsy hle
      have hb2 : M2.get M0.n = some (.cs false 7 (ofL (gcs g vr vf vc vk) 0)) := (hx2.old _ (by omega)).trans h.b0
      refine rrow_in hrow2 (by omega) (hu2.ext (h.ext.trans hx2)) h.inn.lo (fun s hs s0 => by have := symB_lt (hsy s hs) s0; omega) hle (v1 := .p M0.n 0) (n7 := M1.n) (b5 := more) (i6 := (i : Int)) (by simp only [bxP, bxQ, bxQ2, reduceCtorEq, hq1, hq3, h4, h16, hr1, hr2, hbox, hg3, hN, d1]) h9 c1 (by simp only [bxP, bxQ, bxQ2, reduceCtorEq, hq1, hq3, h4, h16, hr1, hr2, hbox, hg3, hN, d1]) (by simp only [bxP, bxQ, bxQ2, reduceCtorEq, hq1, hq3, h4, h16, hr1, hr2, hbox, hg3, hN, d1]) (by simp only [bxP, bxQ, bxQ2, reduceCtorEq, hq1, hq3, h4, h16, hr1, hr2, hbox, hg3, hN, d1]) (by simp only [bxP, bxQ, bxQ2, reduceCtorEq, hq1, hq3, h4, h16, hr1, hr2, hbox, hg3, hN, d1]) (by simp only [bxP, bxQ, bxQ2, reduceCtorEq, hq1, hq3, h4, h16, hr1, hr2, hbox, hg3, hN, d1]) (by simp only [bxP, bxQ, bxQ2, reduceCtorEq, hq1, hq3, h4, h16, hr1, hr2, hbox, hg3, hN, d1] <;> rfl) _ ?_
      intro f2 g7 g1 g3 g5 g6 g8
      simp only [q1, q3, q5, q6, q7, q8] at g1 g3 g5 g6 g7 g8
      obtain ⟨t, ht1, ht2, ht3, ht4⟩ := hrow2.read
      obtain ⟨z, hz⟩ : ∃ z, l[an]? = some z := ⟨_, List.getElem?_eq_getElem han⟩
      have hR := ht2 _ _ hz
      have hH := ht3 an han
      have hzb := h.inn.lo z (List.mem_of_getElem? hz)
      have hgd : l.getD an (-1) = z := by rw [List.getD_eq_getElem?_getD, hz]; rfl
      have hrb := @shRow_le l ar
      have hcd : shCond l ((an : Int), ar, a2) = (decide (0 ≤ shRow l ar) && (decide (z < 0) || decide (shRow l ar < z))) := by unfold shCond; simp only [Int.toNat_natCast, hgd]
      have stay : shCond l ((an : Int), ar, a2) = false → True ∧ l = shRnd (g.rules.take (i + 1)) l0 ∧ ((more = true ∧ shMu l < shMu l0) ∨ (more = false ∧ l = l0 ∧ ShStill (g.rules.take (i + 1)) l0)) := fun e => by
        refine ⟨trivial, ?_, ?_⟩
        · rw [hrt]; unfold shStep; rw [e]; rfl
        · rcases hc with hc | ⟨hc1, hc2, hc3⟩
          · exact .inl hc
          · refine .inr ⟨hc1, hc2, fun r hr' => ?_⟩
            rw [List.take_add_one, hr] at hr'
            rcases List.mem_append.1 hr' with h1 | h1
            · exact hc3 r h1
            · simp only [Option.toList_some, List.mem_singleton] at h1
              subst h1
              rw [← hc2]; exact e
      have turn : shCond l ((an : Int), ar, a2) = true → Ext M0 (M2.set id (some (.cs false 1 (setN (MV.i .i64 (shRow l ar)).cells (an * 1) t)))) ∧ (M2.set id (some (.cs false 1 (setN (MV.i .i64 (shRow l ar)).cells (an * 1) t)))).get M0.n = some (.cs false 7 (ofL (gcs g vr vf vc vk) 0)) ∧ IntsAt (M2.set id (some (.cs false 1 (setN (MV.i .i64 (shRow l ar)).cells (an * 1) t)))) id (l.set an (shRow l ar)) ∧ ShIn g (l.set an (shRow l ar)) ∧ l.set an (shRow l ar) = shRnd (g.rules.take (i + 1)) l0 ∧ shMu (l.set an (shRow l ar)) < shMu l0 := fun e => by
        have hs := h.inn.step h.ok hmem
        unfold shStep at hs hrt
        rw [e] at hs hrt
        simp only [if_true, Int.toNat_natCast] at hs hrt
        have hmu := shMu_step hll h.ok hmem e
        simp only [Int.toNat_natCast] at hmu
        refine ⟨(h.ext.trans hx2).set _ (by omega), ?_, ⟨_, set_same _ _, ht4 an _ han⟩, hs, hrt.symm, ?_⟩
        · rw [set_ne (by omega)]; exact hb2
        · rcases hc with ⟨_, hc⟩ | ⟨_, rfl, _⟩
          · exact Nat.lt_trans hmu hc
          · exact hmu
      have hcut := shVal_cut l ar
      unfold mostZ at hcut
      by_cases e0 : 1000000000 < shVal l ar
      · have d0 : decide (1000000000 < shVal l ar) = true := decide_eq_true e0
        rw [if_pos e0] at hcut
        show Wp fns K35_7 _ _ _
        unfold K35_7
        simp (maxSteps := 4000000) (disch := first | omega | assumption | (simp only [bxS, bxV, stOk, Nat.reduceBEq, Nat.reduceEqDiff, Nat.reduceAdd]; done) | (simp only [bxU]; omega) | ((try apply has_setN); apply has_ofL; simp only [bxL]; omega)) only [↓bxD, bxP, bxQ, bxQ2, Nat.reduceBEq, reduceCtorEq, Nat.reduceAdd, Nat.reduceSub, Nat.reduceMul, Nat.reduceLeDiff, Nat.reduceLT, bxR, g1, g3, g5, g6, g7, g8, d0]
        have hv8 : (1000000000 : Int) = shRow l ar := hcut
        by_cases e1 : 0 ≤ shRow l ar
        · have de : decide (0 ≤ (1000000000 : Int)) = true := by rw [hv8]; exact decide_eq_true e1
          have de2 : decide (0 ≤ shRow l ar) = true := decide_eq_true e1
          by_cases e2 : z < 0
          · have dz : decide (z < 0) = true := decide_eq_true e2
            have hcf : shCond l ((an : Int), ar, a2) = true := by rw [hcd, decide_eq_true e1, dz]; rfl
            obtain ⟨s1, s2, s3, s4, s5, s6⟩ := turn hcf
            show Wp fns K35_6 _ _ _
            unfold K35_6
            simp (maxSteps := 4000000) (disch := first | omega | assumption | (simp only [bxS, bxV, stOk, Nat.reduceBEq, Nat.reduceEqDiff, Nat.reduceAdd]; done) | (simp only [bxU]; omega) | ((try apply has_setN); apply has_ofL; simp only [bxL]; omega)) only [↓bxD, bxP, bxQ, bxQ2, Nat.reduceBEq, reduceCtorEq, Nat.reduceAdd, Nat.reduceSub, Nat.reduceMul, Nat.reduceLeDiff, Nat.reduceLT, bxR, g1, g3, g5, g6, g7, g8, h9, c0, c1, ix_slc, ht1, hR, hH, de2, dz, hv8]
            show Wp fns K35_8 _ _ _
            unfold K35_8
            simp (maxSteps := 4000000) (disch := first | omega | assumption | (simp only [bxS, bxV, stOk, Nat.reduceBEq, Nat.reduceEqDiff, Nat.reduceAdd]; done) | (simp only [bxU]; omega) | ((try apply has_setN); apply has_ofL; simp only [bxL]; omega)) only [↓bxD, bxP, bxQ, bxQ2, Nat.reduceBEq, reduceCtorEq, Nat.reduceAdd, Nat.reduceSub, Nat.reduceMul, Nat.reduceLeDiff, Nat.reduceLT, bxR, g1, g3, g5, g6, g7, g8]
            exact ⟨(i + 1, _, true), by simp only; omega, ⟨h.gr, h.ok, s1, h.lo0, s2, h.id1, by rw [set_n]; omega, s3, s4, by simp only [bxP, bxQ, bxQ2, reduceCtorEq, g1, g3, g5, g6, g7, g8], by simp (maxSteps := 4000000) (disch := first | omega | assumption | (simp only [bxS, bxV, stOk, Nat.reduceBEq, Nat.reduceEqDiff, Nat.reduceAdd]; done) | (simp only [bxU]; omega) | ((try apply has_setN); apply has_ofL; simp only [bxL]; omega)) only [↓bxD, bxP, bxQ, bxQ2, Nat.reduceBEq, reduceCtorEq, Nat.reduceAdd, Nat.reduceSub, Nat.reduceMul, Nat.reduceLeDiff, Nat.reduceLT, bxR, g1, g3, g5, g6, g7, g8, List.length_set]⟩, by simp only; omega, rfl, rfl, s5, .inl ⟨rfl, s6⟩⟩
          · have dz : decide (z < 0) = false := decide_eq_false e2
            by_cases e3 : shRow l ar < z
            · have d32 : decide (shRow l ar < z) = true := decide_eq_true e3
              have hcf : shCond l ((an : Int), ar, a2) = true := by rw [hcd, decide_eq_true e1, decide_eq_true e3, Bool.or_true]; rfl
              obtain ⟨s1, s2, s3, s4, s5, s6⟩ := turn hcf
              show Wp fns K35_6 _ _ _
              unfold K35_6
              simp (maxSteps := 4000000) (disch := first | omega | assumption | (simp only [bxS, bxV, stOk, Nat.reduceBEq, Nat.reduceEqDiff, Nat.reduceAdd]; done) | (simp only [bxU]; omega) | ((try apply has_setN); apply has_ofL; simp only [bxL]; omega)) only [↓bxD, bxP, bxQ, bxQ2, Nat.reduceBEq, reduceCtorEq, Nat.reduceAdd, Nat.reduceSub, Nat.reduceMul, Nat.reduceLeDiff, Nat.reduceLT, bxR, g1, g3, g5, g6, g7, g8, h9, c0, c1, ix_slc, ht1, hR, hH, de2, dz, d32, hv8]
              show Wp fns K35_8 _ _ _
              unfold K35_8
              simp (maxSteps := 4000000) (disch := first | omega | assumption | (simp only [bxS, bxV, stOk, Nat.reduceBEq, Nat.reduceEqDiff, Nat.reduceAdd]; done) | (simp only [bxU]; omega) | ((try apply has_setN); apply has_ofL; simp only [bxL]; omega)) only [↓bxD, bxP, bxQ, bxQ2, Nat.reduceBEq, reduceCtorEq, Nat.reduceAdd, Nat.reduceSub, Nat.reduceMul, Nat.reduceLeDiff, Nat.reduceLT, bxR, g1, g3, g5, g6, g7, g8]
              exact ⟨(i + 1, _, true), by simp only; omega, ⟨h.gr, h.ok, s1, h.lo0, s2, h.id1, by rw [set_n]; omega, s3, s4, by simp only [bxP, bxQ, bxQ2, reduceCtorEq, g1, g3, g5, g6, g7, g8], by simp (maxSteps := 4000000) (disch := first | omega | assumption | (simp only [bxS, bxV, stOk, Nat.reduceBEq, Nat.reduceEqDiff, Nat.reduceAdd]; done) | (simp only [bxU]; omega) | ((try apply has_setN); apply has_ofL; simp only [bxL]; omega)) only [↓bxD, bxP, bxQ, bxQ2, Nat.reduceBEq, reduceCtorEq, Nat.reduceAdd, Nat.reduceSub, Nat.reduceMul, Nat.reduceLeDiff, Nat.reduceLT, bxR, g1, g3, g5, g6, g7, g8, List.length_set]⟩, by simp only; omega, rfl, rfl, s5, .inl ⟨rfl, s6⟩⟩
            · have d3 : decide ((1000000000 : Int) < z) = false := by rw [hv8]; exact decide_eq_false e3
              have hcf : shCond l ((an : Int), ar, a2) = false := by rw [hcd, dz, decide_eq_false e3]; simp
              obtain ⟨s1, s2, s3⟩ := stay hcf
              show Wp fns K35_6 _ _ _
              unfold K35_6
              simp (maxSteps := 4000000) (disch := first | omega | assumption | (simp only [bxS, bxV, stOk, Nat.reduceBEq, Nat.reduceEqDiff, Nat.reduceAdd]; done) | (simp only [bxU]; omega) | ((try apply has_setN); apply has_ofL; simp only [bxL]; omega)) only [↓bxD, bxP, bxQ, bxQ2, Nat.reduceBEq, reduceCtorEq, Nat.reduceAdd, Nat.reduceSub, Nat.reduceMul, Nat.reduceLeDiff, Nat.reduceLT, bxR, g1, g3, g5, g6, g7, g8, h9, c0, c1, ix_slc, ht1, hR, de, dz, d3]
              show Wp fns K35_8 _ _ _
              unfold K35_8
              simp (maxSteps := 4000000) (disch := first | omega | assumption | (simp only [bxS, bxV, stOk, Nat.reduceBEq, Nat.reduceEqDiff, Nat.reduceAdd]; done) | (simp only [bxU]; omega) | ((try apply has_setN); apply has_ofL; simp only [bxL]; omega)) only [↓bxD, bxP, bxQ, bxQ2, Nat.reduceBEq, reduceCtorEq, Nat.reduceAdd, Nat.reduceSub, Nat.reduceMul, Nat.reduceLeDiff, Nat.reduceLT, bxR, g1, g3, g5, g6, g7, g8]
              exact ⟨(i + 1, l, more), by simp only; omega, ⟨h.gr, h.ok, h.ext.trans hx2, h.lo0, hb2, h.id1, by omega, hrow2, h.inn, by simp only [bxP, bxQ, bxQ2, reduceCtorEq, g1, g3, g5, g6, g7, g8], by simp only [bxP, bxQ, bxQ2, reduceCtorEq, g1, g3, g5, g6, g7, g8]⟩, by simp only; omega, rfl, rfl, s2, s3⟩
        · exact (e1 (by rw [← hv8]; decide)).elim
      · have d0 : decide (1000000000 < shVal l ar) = false := decide_eq_false e0
        rw [if_neg e0] at hcut
        show Wp fns K35_7 _ _ _
        unfold K35_7
        simp (maxSteps := 4000000) (disch := first | omega | assumption | (simp only [bxS, bxV, stOk, Nat.reduceBEq, Nat.reduceEqDiff, Nat.reduceAdd]; done) | (simp only [bxU]; omega) | ((try apply has_setN); apply has_ofL; simp only [bxL]; omega)) only [↓bxD, bxP, bxQ, bxQ2, Nat.reduceBEq, reduceCtorEq, Nat.reduceAdd, Nat.reduceSub, Nat.reduceMul, Nat.reduceLeDiff, Nat.reduceLT, bxR, g1, g3, g5, g6, g7, g8, d0]
        have hv8 : shVal l ar = shRow l ar := hcut
        by_cases e1 : 0 ≤ shRow l ar
        · have de : decide (0 ≤ shVal l ar) = true := by rw [hv8]; exact decide_eq_true e1
          have de2 : decide (0 ≤ shRow l ar) = true := decide_eq_true e1
          by_cases e2 : z < 0
          · have dz : decide (z < 0) = true := decide_eq_true e2
            have hcf : shCond l ((an : Int), ar, a2) = true := by rw [hcd, decide_eq_true e1, dz]; rfl
            obtain ⟨s1, s2, s3, s4, s5, s6⟩ := turn hcf
            show Wp fns K35_6 _ _ _
            unfold K35_6
            simp (maxSteps := 4000000) (disch := first | omega | assumption | (simp only [bxS, bxV, stOk, Nat.reduceBEq, Nat.reduceEqDiff, Nat.reduceAdd]; done) | (simp only [bxU]; omega) | ((try apply has_setN); apply has_ofL; simp only [bxL]; omega)) only [↓bxD, bxP, bxQ, bxQ2, Nat.reduceBEq, reduceCtorEq, Nat.reduceAdd, Nat.reduceSub, Nat.reduceMul, Nat.reduceLeDiff, Nat.reduceLT, bxR, g1, g3, g5, g6, g7, g8, h9, c0, c1, ix_slc, ht1, hR, hH, de2, dz, hv8]
            show Wp fns K35_8 _ _ _
            unfold K35_8
            simp (maxSteps := 4000000) (disch := first | omega | assumption | (simp only [bxS, bxV, stOk, Nat.reduceBEq, Nat.reduceEqDiff, Nat.reduceAdd]; done) | (simp only [bxU]; omega) | ((try apply has_setN); apply has_ofL; simp only [bxL]; omega)) only [↓bxD, bxP, bxQ, bxQ2, Nat.reduceBEq, reduceCtorEq, Nat.reduceAdd, Nat.reduceSub, Nat.reduceMul, Nat.reduceLeDiff, Nat.reduceLT, bxR, g1, g3, g5, g6, g7, g8]
            exact ⟨(i + 1, _, true), by simp only; omega, ⟨h.gr, h.ok, s1, h.lo0, s2, h.id1, by rw [set_n]; omega, s3, s4, by simp only [bxP, bxQ, bxQ2, reduceCtorEq, g1, g3, g5, g6, g7, g8], by simp (maxSteps := 4000000) (disch := first | omega | assumption | (simp only [bxS, bxV, stOk, Nat.reduceBEq, Nat.reduceEqDiff, Nat.reduceAdd]; done) | (simp only [bxU]; omega) | ((try apply has_setN); apply has_ofL; simp only [bxL]; omega)) only [↓bxD, bxP, bxQ, bxQ2, Nat.reduceBEq, reduceCtorEq, Nat.reduceAdd, Nat.reduceSub, Nat.reduceMul, Nat.reduceLeDiff, Nat.reduceLT, bxR, g1, g3, g5, g6, g7, g8, List.length_set]⟩, by simp only; omega, rfl, rfl, s5, .inl ⟨rfl, s6⟩⟩
          · have dz : decide (z < 0) = false := decide_eq_false e2
            by_cases e3 : shRow l ar < z
            · have d32 : decide (shRow l ar < z) = true := decide_eq_true e3
              have hcf : shCond l ((an : Int), ar, a2) = true := by rw [hcd, decide_eq_true e1, decide_eq_true e3, Bool.or_true]; rfl
              obtain ⟨s1, s2, s3, s4, s5, s6⟩ := turn hcf
              show Wp fns K35_6 _ _ _
              unfold K35_6
              simp (maxSteps := 4000000) (disch := first | omega | assumption | (simp only [bxS, bxV, stOk, Nat.reduceBEq, Nat.reduceEqDiff, Nat.reduceAdd]; done) | (simp only [bxU]; omega) | ((try apply has_setN); apply has_ofL; simp only [bxL]; omega)) only [↓bxD, bxP, bxQ, bxQ2, Nat.reduceBEq, reduceCtorEq, Nat.reduceAdd, Nat.reduceSub, Nat.reduceMul, Nat.reduceLeDiff, Nat.reduceLT, bxR, g1, g3, g5, g6, g7, g8, h9, c0, c1, ix_slc, ht1, hR, hH, de2, dz, d32, hv8]
              show Wp fns K35_8 _ _ _
              unfold K35_8
              simp (maxSteps := 4000000) (disch := first | omega | assumption | (simp only [bxS, bxV, stOk, Nat.reduceBEq, Nat.reduceEqDiff, Nat.reduceAdd]; done) | (simp only [bxU]; omega) | ((try apply has_setN); apply has_ofL; simp only [bxL]; omega)) only [↓bxD, bxP, bxQ, bxQ2, Nat.reduceBEq, reduceCtorEq, Nat.reduceAdd, Nat.reduceSub, Nat.reduceMul, Nat.reduceLeDiff, Nat.reduceLT, bxR, g1, g3, g5, g6, g7, g8]
              exact ⟨(i + 1, _, true), by simp only; omega, ⟨h.gr, h.ok, s1, h.lo0, s2, h.id1, by rw [set_n]; omega, s3, s4, by simp only [bxP, bxQ, bxQ2, reduceCtorEq, g1, g3, g5, g6, g7, g8], by simp (maxSteps := 4000000) (disch := first | omega | assumption | (simp only [bxS, bxV, stOk, Nat.reduceBEq, Nat.reduceEqDiff, Nat.reduceAdd]; done) | (simp only [bxU]; omega) | ((try apply has_setN); apply has_ofL; simp only [bxL]; omega)) only [↓bxD, bxP, bxQ, bxQ2, Nat.reduceBEq, reduceCtorEq, Nat.reduceAdd, Nat.reduceSub, Nat.reduceMul, Nat.reduceLeDiff, Nat.reduceLT, bxR, g1, g3, g5, g6, g7, g8, List.length_set]⟩, by simp only; omega, rfl, rfl, s5, .inl ⟨rfl, s6⟩⟩
            · have d3 : decide (shVal l ar < z) = false := by rw [hv8]; exact decide_eq_false e3
              have hcf : shCond l ((an : Int), ar, a2) = false := by rw [hcd, dz, decide_eq_false e3]; simp
              obtain ⟨s1, s2, s3⟩ := stay hcf
              show Wp fns K35_6 _ _ _
              unfold K35_6
              simp (maxSteps := 4000000) (disch := first | omega | assumption | (simp only [bxS, bxV, stOk, Nat.reduceBEq, Nat.reduceEqDiff, Nat.reduceAdd]; done) | (simp only [bxU]; omega) | ((try apply has_setN); apply has_ofL; simp only [bxL]; omega)) only [↓bxD, bxP, bxQ, bxQ2, Nat.reduceBEq, reduceCtorEq, Nat.reduceAdd, Nat.reduceSub, Nat.reduceMul, Nat.reduceLeDiff, Nat.reduceLT, bxR, g1, g3, g5, g6, g7, g8, h9, c0, c1, ix_slc, ht1, hR, de, dz, d3]
              show Wp fns K35_8 _ _ _
              unfold K35_8
              simp (maxSteps := 4000000) (disch := first | omega | assumption | (simp only [bxS, bxV, stOk, Nat.reduceBEq, Nat.reduceEqDiff, Nat.reduceAdd]; done) | (simp only [bxU]; omega) | ((try apply has_setN); apply has_ofL; simp only [bxL]; omega)) only [↓bxD, bxP, bxQ, bxQ2, Nat.reduceBEq, reduceCtorEq, Nat.reduceAdd, Nat.reduceSub, Nat.reduceMul, Nat.reduceLeDiff, Nat.reduceLT, bxR, g1, g3, g5, g6, g7, g8]
              exact ⟨(i + 1, l, more), by simp only; omega, ⟨h.gr, h.ok, h.ext.trans hx2, h.lo0, hb2, h.id1, by omega, hrow2, h.inn, by simp only [bxP, bxQ, bxQ2, reduceCtorEq, g1, g3, g5, g6, g7, g8], by simp only [bxP, bxQ, bxQ2, reduceCtorEq, g1, g3, g5, g6, g7, g8]⟩, by simp only; omega, rfl, rfl, s2, s3⟩
        · have de : decide (0 ≤ shVal l ar) = false := by rw [hv8]; exact decide_eq_false e1
          have hcf : shCond l ((an : Int), ar, a2) = false := by rw [hcd, decide_eq_false e1]; rfl
          obtain ⟨s1, s2, s3⟩ := stay hcf
          show Wp fns K35_6 _ _ _
          unfold K35_6
          simp (maxSteps := 4000000) (disch := first | omega | assumption | (simp only [bxS, bxV, stOk, Nat.reduceBEq, Nat.reduceEqDiff, Nat.reduceAdd]; done) | (simp only [bxU]; omega) | ((try apply has_setN); apply has_ofL; simp only [bxL]; omega)) only [↓bxD, bxP, bxQ, bxQ2, Nat.reduceBEq, reduceCtorEq, Nat.reduceAdd, Nat.reduceSub, Nat.reduceMul, Nat.reduceLeDiff, Nat.reduceLT, bxR, g1, g3, g5, g6, g7, g8, h9, c0, c1, ix_slc, ht1, hR, de]
          show Wp fns K35_8 _ _ _
          unfold K35_8
          simp (maxSteps := 4000000) (disch := first | omega | assumption | (simp only [bxS, bxV, stOk, Nat.reduceBEq, Nat.reduceEqDiff, Nat.reduceAdd]; done) | (simp only [bxU]; omega) | ((try apply has_setN); apply has_ofL; simp only [bxL]; omega)) only [↓bxD, bxP, bxQ, bxQ2, Nat.reduceBEq, reduceCtorEq, Nat.reduceAdd, Nat.reduceSub, Nat.reduceMul, Nat.reduceLeDiff, Nat.reduceLT, bxR, g1, g3, g5, g6, g7, g8]
          exact ⟨(i + 1, l, more), by simp only; omega, ⟨h.gr, h.ok, h.ext.trans hx2, h.lo0, hb2, h.id1, by omega, hrow2, h.inn, by simp only [bxP, bxQ, bxQ2, reduceCtorEq, g1, g3, g5, g6, g7, g8], by simp only [bxP, bxQ, bxQ2, reduceCtorEq, g1, g3, g5, g6, g7, g8]⟩, by simp only; omega, rfl, rfl, s2, s3⟩
    · have d1 : decide ((i : Int) < (g.rules.length : Int)) = false := decide_eq_false (by omega)
      have hi2 : i = g.rules.length := by omega
      subst hi2
      rw [List.take_length] at hc hl
      simp (maxSteps := 4000000) (disch := first | omega | assumption | (simp only [bxS, bxV, stOk, Nat.reduceBEq, Nat.reduceEqDiff, Nat.reduceAdd]; done) | (simp only [bxU]; omega) | ((try apply has_setN); apply has_ofL; simp only [bxL]; omega)) only [↓bxD, bxP, bxQ, bxQ2, Nat.reduceBEq, reduceCtorEq, Nat.reduceAdd, Nat.reduceSub, Nat.reduceMul, Nat.reduceLeDiff, Nat.reduceLT, bxR, hq1, hq3, h4, h16, hbox, hr1, hr2, d1]
      exact hn _ _ l more ⟨h.gr, h.ok, h.ext, h.lo0, h.b0, h.id1, h.id2, h.row, h.inn, by simp only [bxP, bxQ, bxQ2, reduceCtorEq, hq1, hq3, h4, h16, hbox, hr1, hr2, d1], by simp only [bxP, bxQ, bxQ2, reduceCtorEq, hq1, hq3, h4, h16, hbox, hr1, hr2, d1]⟩ (by simp only [bxP, bxQ, bxQ2, reduceCtorEq, hq1, hq3, h4, h16, hbox, hr1, hr2, d1]) hl hc
  · exact ⟨⟨h.gr, h.ok, h.ext, h.lo0, h.b0, h.id1, h.id2, h.row, h.inn, by simp only [bxP, bxQ, bxQ2, reduceCtorEq, hq1, hq3, hbox, hr1, hr2], by simp only [bxP, bxQ, bxQ2, reduceCtorEq, hq1, hq3, hbox, hr1, hr2]⟩, Nat.zero_le _, by simp only [bxP, bxQ, bxQ2, reduceCtorEq, hq1, hq3, hbox, hr1, hr2] <;> rfl, by simp only [bxP, bxQ, bxQ2, reduceCtorEq, hq1, hq3, hbox, hr1, hr2], rfl, .inr ⟨rfl, rfl, fun r hr => by simp at hr⟩⟩
theorem rshortest_any {M : MH} {g : Gr} {vr vf vc vk : MV} {es : List (List MV)} (h : GrAt M vr vf vc vk es g) (hlo : M.lo ≤ M.n) : Cp fns 35 [.ag (gcs g vr vf vc vk)] M (ShPost g M) := by
  have hG : ∀ l, l = gcs g vr vf vc vk → Ev.getN (ofL l 0) 7 0 = some (gcs g vr vf vc vk) := fun l e => by subst e; exact (at_ofL (gcs g vr vf vc vk)).getN
  have hG := hG [MV.i IntKind.i64 g.names, MV.i IntKind.i64 g.kinds, MV.i IntKind.i64 g.start, vr, vf, vc, vk] rfl
  refine Cp_call (fn := F35) (by kernel_rfl) (Nat.le_of_ble_eq_true rfl) ?_
  show Wp fns B35 (T.set q0 (some (.ag (gcs g vr vf vc vk))) T.lf) M _
  unfold B35
  rw [show gcs g vr vf vc vk = [MV.i IntKind.i64 g.names, MV.i IntKind.i64 g.kinds, MV.i IntKind.i64 g.start, vr, vf, vc, vk] from rfl]
  generalize hM1 : M.push (.cs false 7 (ofL [MV.i IntKind.i64 g.names, MV.i IntKind.i64 g.kinds, MV.i IntKind.i64 g.start, vr, vf, vc, vk] 0)) = M1
  have g0 : M1.get M.n = some (.cs false 7 (ofL [MV.i IntKind.i64 g.names, MV.i IntKind.i64 g.kinds, MV.i IntKind.i64 g.start, vr, vf, vc, vk] 0)) := by rw [← hM1]; exact push_new _
  have x1 : Ext M M1 := by rw [← hM1]; exact .push M _
  have n1 : M1.n = M.n + 1 := by rw [← hM1]; rfl
  have l1 := x1.lo
  simp (maxSteps := 4000000) (disch := first | omega | assumption | (simp only [bxS, bxV, stOk, Nat.reduceBEq, Nat.reduceEqDiff, Nat.reduceAdd]; done) | (simp only [bxU]; omega) | ((try apply has_setN); apply has_ofL; simp only [bxL]; omega)) only [↓bxD, bxP, bxQ, bxQ2, Nat.reduceBEq, reduceCtorEq, Nat.reduceAdd, Nat.reduceSub, Nat.reduceMul, Nat.reduceLeDiff, Nat.reduceLT, bxR, hG, hM1, g0]
  refine bindP_call (formed_any (h.ext x1) (by omega)) ?_
  rintro m M2 ⟨rfl, x2⟩
  have n2 := x2.n
  have l2 := x2.lo
  have g2 := (x2.old _ (by omega)).trans g0
  by_cases hz : (formP g).2 = 0
  · have dz : decide ((formP g).2 = 0) = true := decide_eq_true hz
    have hok := form_ok hz
    obtain ⟨nn, hnn⟩ : ∃ n : Nat, g.names = n := ⟨g.names.toNat, by have := hok.n1; omega⟩
    have hn1 := hok.n1
    have hn40 := hok.n2
    have hcs : gcs g vr vf vc vk = [MV.i .i64 (nn : Int), .i .i64 g.kinds, .i .i64 g.start, vr, vf, vc, vk] := by unfold gcs; rw [hnn]
    have g2' := g2
    rw [hnn] at g2'
    have hG' := hG
    rw [hnn, hcs] at hG'
    simp (maxSteps := 4000000) (disch := first | omega | assumption | (simp only [bxS, bxV, stOk, Nat.reduceBEq, Nat.reduceEqDiff, Nat.reduceAdd]; done) | (simp only [bxU]; omega) | ((try apply has_setN); apply has_ofL; simp only [bxL]; omega)) only [↓bxD, bxP, bxQ, bxQ2, Nat.reduceBEq, reduceCtorEq, Nat.reduceAdd, Nat.reduceSub, Nat.reduceMul, Nat.reduceLeDiff, Nat.reduceLT, bxR, hG', g2', dz, ev_mks, mks_ok]
    show Wp fns K35_15 _ _ _
    unfold K35_15
    simp (maxSteps := 4000000) (disch := first | omega | assumption | (simp only [bxS, bxV, stOk, Nat.reduceBEq, Nat.reduceEqDiff, Nat.reduceAdd]; done) | (simp only [bxU]; omega) | ((try apply has_setN); apply has_ofL; simp only [bxL]; omega)) only [↓bxD, bxP, bxQ, bxQ2, Nat.reduceBEq, reduceCtorEq, Nat.reduceAdd, Nat.reduceSub, Nat.reduceMul, Nat.reduceLeDiff, Nat.reduceLT, bxR, hG', g2', dz, ev_mks, mks_ok, hG]
    have hbn := IntsAt.new (M := M2) nn
    have x3 : Ext M2 (M2.push (.cs false 1 (ofL (zrow [.i .i64 0] nn) 0))) := .push M2 _
    have n3 : (M2.push (.cs false 1 (ofL (zrow [.i .i64 0] nn) 0))).n = M2.n + 1 := rfl
    generalize M2.push (.cs false 1 (ofL (zrow [.i .i64 0] nn) 0)) = M3 at hbn x3 n3
    have l3 := x3.lo
    refine Wp_inv (σ := Nat × List Int) (fun s f M' => Ext M M' ∧ M'.n = M3.n ∧ M'.get M.n = some (.cs false 7 (ofL [MV.i .i64 (nn : Int), .i .i64 g.kinds, .i .i64 g.start, vr, vf, vc, vk] 0)) ∧ s.1 ≤ nn ∧ X.ev f (.t q1) = .p M.n 0 ∧ X.ev f (.t q3) = .sl M2.n 0 nn 0 ∧ X.ev f (.t q4) = .i .i64 (s.1 : Int) ∧ IntsAt M' M2.n s.2 ∧ s.2.length = nn ∧ ∀ j, j < s.1 → s.2[j]? = some (-1)) (fun s => nn - s.1) ?_ (0, List.replicate nn 0) ?_
    · rintro ⟨i, L⟩ f M' ⟨hx, hn', hg', hi, h1', h3', h4', hI, hL, hv⟩
      simp only at hi h3' h4' hI hL hv
      simp only [q1, q3, q4] at h1' h3' h4'
      have hl' := hx.lo
      unfold L35_2
      by_cases hi' : i < nn
      · have d1 : decide ((i : Int) < (nn : Int)) = true := decide_eq_true (by omega)
        obtain ⟨t, ht1, ht2, ht3, ht4⟩ := hI.read
        have hH := ht3 i (by omega)
        simp (maxSteps := 4000000) (disch := first | omega | assumption | (simp only [bxS, bxV, stOk, Nat.reduceBEq, Nat.reduceEqDiff, Nat.reduceAdd]; done) | (simp only [bxU]; omega) | ((try apply has_setN); apply has_ofL; simp only [bxL]; omega)) only [↓bxD, bxP, bxQ, bxQ2, Nat.reduceBEq, reduceCtorEq, Nat.reduceAdd, Nat.reduceSub, Nat.reduceMul, Nat.reduceLeDiff, Nat.reduceLT, bxR, h1', h3', h4', hg', d1, ix_slc, ht1, hH]
        show Wp fns K35_1 _ _ _
        unfold K35_1
        simp (maxSteps := 4000000) (disch := first | omega | assumption | (simp only [bxS, bxV, stOk, Nat.reduceBEq, Nat.reduceEqDiff, Nat.reduceAdd]; done) | (simp only [bxU]; omega) | ((try apply has_setN); apply has_ofL; simp only [bxL]; omega)) only [↓bxD, bxP, bxQ, bxQ2, Nat.reduceBEq, reduceCtorEq, Nat.reduceAdd, Nat.reduceSub, Nat.reduceMul, Nat.reduceLeDiff, Nat.reduceLT, bxR, h1', h3', h4', hg', d1, ix_slc, ht1, hH]
        show Wp fns K35_0 _ _ _
        unfold K35_0
        simp (maxSteps := 4000000) (disch := first | omega | assumption | (simp only [bxS, bxV, stOk, Nat.reduceBEq, Nat.reduceEqDiff, Nat.reduceAdd]; done) | (simp only [bxU]; omega) | ((try apply has_setN); apply has_ofL; simp only [bxL]; omega)) only [↓bxD, bxP, bxQ, bxQ2, Nat.reduceBEq, reduceCtorEq, Nat.reduceAdd, Nat.reduceSub, Nat.reduceMul, Nat.reduceLeDiff, Nat.reduceLT, bxR, h1', h3', h4', hg', d1, ix_slc, ht1, hH]
        refine ⟨(i + 1, L.set i (-1)), by simp only; omega, hx.set _ (by omega), hn', by simp only; omega, rfl, ⟨_, set_same _ _, ht4 i (-1) (by omega)⟩, by rw [List.length_set]; exact hL, fun j hj => ?_⟩
        simp only at hj ⊢
        rw [List.getElem?_set]
        by_cases e : i = j
        · subst e
          rw [if_pos rfl, if_pos (by omega)]
        · rw [if_neg e]
          exact hv j (by omega)
      · have d1 : decide ((i : Int) < (nn : Int)) = false := decide_eq_false (by omega)
        have e : L = shIt g 0 := by
          show L = List.replicate g.names.toNat (-1)
          refine List.ext_getElem? fun j => ?_
          rw [List.getElem?_replicate]
          by_cases hj : j < nn
          · rw [if_pos (by omega)]; exact hv j (by omega)
          · rw [if_neg (by omega), List.getElem?_eq_none (by omega)]
        simp (maxSteps := 4000000) (disch := first | omega | assumption | (simp only [bxS, bxV, stOk, Nat.reduceBEq, Nat.reduceEqDiff, Nat.reduceAdd]; done) | (simp only [bxU]; omega) | ((try apply has_setN); apply has_ofL; simp only [bxL]; omega)) only [↓bxD, bxP, bxQ, bxQ2, Nat.reduceBEq, reduceCtorEq, Nat.reduceAdd, Nat.reduceSub, Nat.reduceMul, Nat.reduceLeDiff, Nat.reduceLT, bxR, h1', h3', h4', hg', d1]
        show Wp fns K35_14 _ _ _
        unfold K35_14
        simp (maxSteps := 4000000) (disch := first | omega | assumption | (simp only [bxS, bxV, stOk, Nat.reduceBEq, Nat.reduceEqDiff, Nat.reduceAdd]; done) | (simp only [bxU]; omega) | ((try apply has_setN); apply has_ofL; simp only [bxL]; omega)) only [↓bxD, bxP, bxQ, bxQ2, Nat.reduceBEq, reduceCtorEq, Nat.reduceAdd, Nat.reduceSub, Nat.reduceMul, Nat.reduceLeDiff, Nat.reduceLT, bxR, h1', h3', h4', hg', d1]
        have hin : ShIn g (shIt g 0) := ShIn.it hok 0
        rw [e] at hI hL
        refine Wp_inv (σ := List Int × Bool) (fun s f1 M1 => ISt M M1 g vr vf vc vk es M2.n s.1 f1 ∧ X.ev f1 (.t q5) = .b s.2 ∧ (∃ n, s.1 = shIt g n) ∧ (s.2 = false → ShStill g.rules s.1)) (fun s => 2 * shMu s.1 + (if s.2 = true then 1 else 0)) ?_ (shIt g 0, true) ?_
        · rintro ⟨l, more⟩ f1 M4 ⟨h4, ht, hs, hc⟩
          simp only at h4 ht hs hc
          have hq1 := h4.q1
          have hq3 := h4.q3
          simp only [q1, q3, q5] at hq1 hq3 ht
          unfold L35_12
          cases more with
          | true =>
            simp (maxSteps := 4000000) (disch := first | omega | assumption | (simp only [bxS, bxV, stOk, Nat.reduceBEq, Nat.reduceEqDiff, Nat.reduceAdd]; done) | (simp only [bxU]; omega) | ((try apply has_setN); apply has_ofL; simp only [bxL]; omega)) only [↓bxD, bxP, bxQ, bxQ2, Nat.reduceBEq, reduceCtorEq, Nat.reduceAdd, Nat.reduceSub, Nat.reduceMul, Nat.reduceLeDiff, Nat.reduceLT, bxR, hq1, hq3, ht]
            show Wp fns K35_11 _ _ _
            refine rshort_round ⟨h4.gr, h4.ok, h4.ext, h4.lo0, h4.b0, h4.id1, h4.id2, h4.row, h4.inn, by simp only [bxP, bxQ, bxQ2, reduceCtorEq, hq1, hq3, ht], by simp only [bxP, bxQ, bxQ2, reduceCtorEq, hq1, hq3, ht]⟩ _ ?_
            intro f' M' l' more' h' h4' hs' hcase
            refine ⟨(l', more'), ?_, h', h4', ?_, fun e => ?_⟩
            · rcases hcase with ⟨rfl, hlt⟩ | ⟨rfl, rfl, _⟩
              · simp only [if_true]; omega
              · simp
            · obtain ⟨n, rfl⟩ := hs
              exact ⟨n + 1, hs'⟩
            · rcases hcase with ⟨rfl, _⟩ | ⟨_, rfl, hc'⟩
              · cases e
              · exact hc'
          | false =>
            simp (maxSteps := 4000000) (disch := first | omega | assumption | (simp only [bxS, bxV, stOk, Nat.reduceBEq, Nat.reduceEqDiff, Nat.reduceAdd]; done) | (simp only [bxU]; omega) | ((try apply has_setN); apply has_ofL; simp only [bxL]; omega)) only [↓bxD, bxP, bxQ, bxQ2, Nat.reduceBEq, reduceCtorEq, Nat.reduceAdd, Nat.reduceSub, Nat.reduceMul, Nat.reduceLeDiff, Nat.reduceLT, bxR, hq1, hq3, ht]
            show Wp fns K35_13 _ _ _
            unfold K35_13
            simp (maxSteps := 4000000) (disch := first | omega | assumption | (simp only [bxS, bxV, stOk, Nat.reduceBEq, Nat.reduceEqDiff, Nat.reduceAdd]; done) | (simp only [bxU]; omega) | ((try apply has_setN); apply has_ofL; simp only [bxL]; omega)) only [↓bxD, bxP, bxQ, bxQ2, Nat.reduceBEq, reduceCtorEq, Nat.reduceAdd, Nat.reduceSub, Nat.reduceMul, Nat.reduceLeDiff, Nat.reduceLT, bxR, hq1, hq3, ht]
            exact ⟨h4.ext, .inr ⟨hz, l, ⟨hs, hc rfl⟩, h4.row.row h4.id2⟩⟩
        · refine ⟨⟨h, hok, hx, hlo, by rw [hg', hcs], by omega, by omega, hI, hin, by simp only [bxP, bxQ, bxQ2, reduceCtorEq, h1', h3', h4', hg', d1], ?_⟩, by simp only [bxP, bxQ, bxQ2, reduceCtorEq, h1', h3', h4', hg', d1], ⟨0, rfl⟩, fun e => by cases e⟩
          simp (maxSteps := 4000000) (disch := first | omega | assumption | (simp only [bxS, bxV, stOk, Nat.reduceBEq, Nat.reduceEqDiff, Nat.reduceAdd]; done) | (simp only [bxU]; omega) | ((try apply has_setN); apply has_ofL; simp only [bxL]; omega)) only [↓bxD, bxP, bxQ, bxQ2, Nat.reduceBEq, reduceCtorEq, Nat.reduceAdd, Nat.reduceSub, Nat.reduceMul, Nat.reduceLeDiff, Nat.reduceLT, bxR, h1', h3', h4', hg', d1, hL]
    · exact ⟨(x1.trans x2).trans x3, rfl, (x3.old _ (by omega)).trans g2', Nat.zero_le _, by simp only [bxP, bxQ, bxQ2, reduceCtorEq, hG', g2', dz, ev_mks, mks_ok], by simp only [bxP, bxQ, bxQ2, reduceCtorEq, hG', g2', dz, ev_mks, mks_ok], by simp only [bxP, bxQ, bxQ2, reduceCtorEq, hG', g2', dz, ev_mks, mks_ok] <;> rfl, hbn, List.length_replicate, fun j hj => absurd hj (Nat.not_lt_zero j)⟩
  · have dz : decide ((formP g).2 = 0) = false := decide_eq_false hz
    simp (maxSteps := 4000000) (disch := first | omega | assumption | (simp only [bxS, bxV, stOk, Nat.reduceBEq, Nat.reduceEqDiff, Nat.reduceAdd]; done) | (simp only [bxU]; omega) | ((try apply has_setN); apply has_ofL; simp only [bxL]; omega)) only [↓bxD, bxP, bxQ, bxQ2, Nat.reduceBEq, reduceCtorEq, Nat.reduceAdd, Nat.reduceSub, Nat.reduceMul, Nat.reduceLeDiff, Nat.reduceLT, bxR, hG, g2, dz]
    exact ⟨x1.trans x2, .inl ⟨hz, rfl⟩⟩
theorem rprod_any {M : MH} {g : Gr} {vr vf vc vk : MV} {es : List (List MV)} (h : GrAt M vr vf vc vk es g) (hlo : M.lo ≤ M.n) : Cp fns 21 [.ag (gcs g vr vf vc vk)] M (PrPost g M) := by
  have hG : ∀ l, l = gcs g vr vf vc vk → Ev.getN (ofL l 0) 7 0 = some (gcs g vr vf vc vk) := fun l e => by subst e; exact (at_ofL (gcs g vr vf vc vk)).getN
  have hG := hG [MV.i IntKind.i64 g.names, MV.i IntKind.i64 g.kinds, MV.i IntKind.i64 g.start, vr, vf, vc, vk] rfl
  refine Cp_call (fn := F21) (by kernel_rfl) (Nat.le_of_ble_eq_true rfl) ?_
  show Wp fns B21 (T.set q0 (some (.ag (gcs g vr vf vc vk))) T.lf) M _
  unfold B21
  rw [show gcs g vr vf vc vk = [MV.i IntKind.i64 g.names, MV.i IntKind.i64 g.kinds, MV.i IntKind.i64 g.start, vr, vf, vc, vk] from rfl]
  generalize hM1 : M.push (.cs false 7 (ofL [MV.i IntKind.i64 g.names, MV.i IntKind.i64 g.kinds, MV.i IntKind.i64 g.start, vr, vf, vc, vk] 0)) = M1
  have g0 : M1.get M.n = some (.cs false 7 (ofL [MV.i IntKind.i64 g.names, MV.i IntKind.i64 g.kinds, MV.i IntKind.i64 g.start, vr, vf, vc, vk] 0)) := by rw [← hM1]; exact push_new _
  have x1 : Ext M M1 := by rw [← hM1]; exact .push M _
  have n1 : M1.n = M.n + 1 := by rw [← hM1]; rfl
  have l1 := x1.lo
  simp (maxSteps := 4000000) (disch := first | omega | assumption | (simp only [bxS, bxV, stOk, Nat.reduceBEq, Nat.reduceEqDiff, Nat.reduceAdd]; done) | (simp only [bxU]; omega) | ((try apply has_setN); apply has_ofL; simp only [bxL]; omega)) only [↓bxD, bxP, bxQ, bxQ2, Nat.reduceBEq, reduceCtorEq, Nat.reduceAdd, Nat.reduceSub, Nat.reduceMul, Nat.reduceLeDiff, Nat.reduceLT, bxR, hG, hM1, g0]
  refine bindP_call (formed_any (h.ext x1) (by omega)) ?_
  rintro m M2 ⟨rfl, x2⟩
  have n2 := x2.n
  have l2 := x2.lo
  have g2 := (x2.old _ (by omega)).trans g0
  by_cases hz : (formP g).2 = 0
  · have dz : decide ((formP g).2 = 0) = true := decide_eq_true hz
    have hok := form_ok hz
    have hn1 := hok.n1
    have hn40 := hok.n2
    simp (maxSteps := 4000000) (disch := first | omega | assumption | (simp only [bxS, bxV, stOk, Nat.reduceBEq, Nat.reduceEqDiff, Nat.reduceAdd]; done) | (simp only [bxU]; omega) | ((try apply has_setN); apply has_ofL; simp only [bxL]; omega)) only [↓bxD, bxP, bxQ, bxQ2, Nat.reduceBEq, reduceCtorEq, Nat.reduceAdd, Nat.reduceSub, Nat.reduceMul, Nat.reduceLeDiff, Nat.reduceLT, bxR, hG, g2, dz]
    show Wp fns K21_4 _ _ _
    unfold K21_4
    simp (maxSteps := 4000000) (disch := first | omega | assumption | (simp only [bxS, bxV, stOk, Nat.reduceBEq, Nat.reduceEqDiff, Nat.reduceAdd]; done) | (simp only [bxU]; omega) | ((try apply has_setN); apply has_ofL; simp only [bxL]; omega)) only [↓bxD, bxP, bxQ, bxQ2, Nat.reduceBEq, reduceCtorEq, Nat.reduceAdd, Nat.reduceSub, Nat.reduceMul, Nat.reduceLeDiff, Nat.reduceLT, bxR, hG, g2, dz, hG]
    refine bindP_call (rshortest_any ((h.ext x1).ext x2) (by omega)) ?_
    rintro m M3 ⟨x3, ⟨hne, _⟩ | ⟨_, l, h1, h2⟩⟩
    · exact absurd hz hne
    have hin := h1.inn hok
    have hll := hin.len
    have l3 := x3.lo
    have n3 := x3.n
    obtain ⟨hs1, hs2⟩ := h2.sl
    simp (maxSteps := 4000000) (disch := first | omega | assumption | (simp only [bxS, bxV, stOk, Nat.reduceBEq, Nat.reduceEqDiff, Nat.reduceAdd]; done) | (simp only [bxU]; omega) | ((try apply has_setN); apply has_ofL; simp only [bxL]; omega)) only [↓bxD, bxP, bxQ, bxQ2, Nat.reduceBEq, reduceCtorEq, Nat.reduceAdd, Nat.reduceSub, Nat.reduceMul, Nat.reduceLeDiff, Nat.reduceLT, bxR, hG, g2, dz]
    refine Wp_inv (σ := Nat) (fun i f M' => Ext M3 M' ∧ i ≤ l.length ∧ X.ev f (.t q3) = m ∧ X.ev f (.t q5) = .i .i64 (i : Int) ∧ ∃ v, X.ev f (.t q4) = v ∧ OwnRow M3.n M' 1 v (((l.take i).map fun z => decide (0 ≤ z)).map fun b => [.b b])) (fun i => l.length - i) ?_ 0 ?_
    · rintro i f M' ⟨hx, hi, h3', h5', v, h4', hv⟩
      simp only [q3, q4, q5] at h3' h4' h5'
      have hl' := hx.lo
      have hn' := hx.n
      unfold L21_2
      by_cases hi' : i < l.length
      · have d1 : decide ((i : Int) < (l.length : Int)) = true := decide_eq_true (by omega)
        obtain ⟨z, hzz⟩ : ∃ z, l[i]? = some z := ⟨_, List.getElem?_eq_getElem hi'⟩
        obtain ⟨ro, s, t, hg, hid, hC⟩ := (h2.ext hx).read hzz
        have hfill : fillM [(0, 1, MV.b (decide (0 ≤ z)))] [MV.b false] = some [MV.b (decide (0 ≤ z))] := fill_one rfl rfl
        simp (maxSteps := 4000000) (disch := first | omega | assumption | (simp only [bxS, bxV, stOk, Nat.reduceBEq, Nat.reduceEqDiff, Nat.reduceAdd]; done) | (simp only [bxU]; omega) | ((try apply has_setN); apply has_ofL; simp only [bxL]; omega)) only [↓bxD, bxP, bxQ, bxQ2, Nat.reduceBEq, reduceCtorEq, Nat.reduceAdd, Nat.reduceSub, Nat.reduceMul, Nat.reduceLeDiff, Nat.reduceLT, bxR, h3', h4', h5', hs1, hs2, hg, hC, d1, hfill]
        show Wp fns K21_1 _ _ _
        unfold K21_1
        simp (maxSteps := 4000000) (disch := first | omega | assumption | (simp only [bxS, bxV, stOk, Nat.reduceBEq, Nat.reduceEqDiff, Nat.reduceAdd]; done) | (simp only [bxU]; omega) | ((try apply has_setN); apply has_ofL; simp only [bxL]; omega)) only [↓bxD, bxP, bxQ, bxQ2, Nat.reduceBEq, reduceCtorEq, Nat.reduceAdd, Nat.reduceSub, Nat.reduceMul, Nat.reduceLeDiff, Nat.reduceLT, bxR, h3', h4', h5', hs1, hs2, hg, hC, d1, hfill]
        have ho := hv.ext (.push M' (.cs false 1 (ofL [.b (decide (0 ≤ z))] 0)))
        obtain ⟨v', M5, e1, e2, e3, e4, e5, e6⟩ := app_row (bytes := 1) ho (row_one (M := M') (sz := 1) (e := [.b (decide (0 ≤ z))]) rfl) (by rw [push_lo]; omega) (by rw [push_n]; omega) (fun e he => by rw [List.mem_singleton.1 he]; rfl) (by simp; omega) (by simp; omega)
        refine bindP_of e1 ?_
        simp (maxSteps := 4000000) (disch := first | omega | assumption | (simp only [bxS, bxV, stOk, Nat.reduceBEq, Nat.reduceEqDiff, Nat.reduceAdd]; done) | (simp only [bxU]; omega) | ((try apply has_setN); apply has_ofL; simp only [bxL]; omega)) only [↓bxD, bxP, bxQ, bxQ2, Nat.reduceBEq, reduceCtorEq, Nat.reduceAdd, Nat.reduceSub, Nat.reduceMul, Nat.reduceLeDiff, Nat.reduceLT, bxR, h3', h4', h5', hs1, hs2, hg, hC, d1, hfill]
        show Wp fns K21_0 _ _ _
        unfold K21_0
        simp (maxSteps := 4000000) (disch := first | omega | assumption | (simp only [bxS, bxV, stOk, Nat.reduceBEq, Nat.reduceEqDiff, Nat.reduceAdd]; done) | (simp only [bxU]; omega) | ((try apply has_setN); apply has_ofL; simp only [bxL]; omega)) only [↓bxD, bxP, bxQ, bxQ2, Nat.reduceBEq, reduceCtorEq, Nat.reduceAdd, Nat.reduceSub, Nat.reduceMul, Nat.reduceLeDiff, Nat.reduceLT, bxR, h3', h4', h5', hs1, hs2, hg, hC, d1, hfill]
        refine ⟨i + 1, by omega, ⟨by rw [push_n] at e3; omega, by rw [push_lo] at e4; omega, fun id hid => ?_⟩, by omega, rfl, v', rfl, ?_⟩
        · rw [e6 id (by omega) (by rw [push_n]; omega), push_old (by omega), hx.old id hid]
        · rw [List.take_add_one, hzz]
          simpa using e2
      · have d1 : decide ((i : Int) < (l.length : Int)) = false := decide_eq_false (by omega)
        have hie : i = l.length := by omega
        subst hie
        rw [List.take_length] at hv
        simp (maxSteps := 4000000) (disch := first | omega | assumption | (simp only [bxS, bxV, stOk, Nat.reduceBEq, Nat.reduceEqDiff, Nat.reduceAdd]; done) | (simp only [bxU]; omega) | ((try apply has_setN); apply has_ofL; simp only [bxL]; omega)) only [↓bxD, bxP, bxQ, bxQ2, Nat.reduceBEq, reduceCtorEq, Nat.reduceAdd, Nat.reduceSub, Nat.reduceMul, Nat.reduceLeDiff, Nat.reduceLT, bxR, h3', h4', h5', hs1, hs2, d1]
        show Wp fns K21_3 _ _ _
        unfold K21_3
        simp (maxSteps := 4000000) (disch := first | omega | assumption | (simp only [bxS, bxV, stOk, Nat.reduceBEq, Nat.reduceEqDiff, Nat.reduceAdd]; done) | (simp only [bxU]; omega) | ((try apply has_setN); apply has_ofL; simp only [bxL]; omega)) only [↓bxD, bxP, bxQ, bxQ2, Nat.reduceBEq, reduceCtorEq, Nat.reduceAdd, Nat.reduceSub, Nat.reduceMul, Nat.reduceLeDiff, Nat.reduceLT, bxR, h3', h4', h5', hs1, hs2, d1]
        exact ⟨((x1.trans x2).trans x3).trans hx, .inr ⟨hz, l, h1, hv.row⟩⟩
    · exact ⟨.refl _, Nat.zero_le _, by simp only [bxP, bxQ, bxQ2, reduceCtorEq, hG, g2, dz], by simp only [bxP, bxQ, bxQ2, reduceCtorEq, hG, g2, dz] <;> rfl, .nils, by simp only [bxP, bxQ, bxQ2, reduceCtorEq, hG, g2, dz], OwnRow.nil _ _ _⟩
  · have dz : decide ((formP g).2 = 0) = false := decide_eq_false hz
    simp (maxSteps := 4000000) (disch := first | omega | assumption | (simp only [bxS, bxV, stOk, Nat.reduceBEq, Nat.reduceEqDiff, Nat.reduceAdd]; done) | (simp only [bxU]; omega) | ((try apply has_setN); apply has_ofL; simp only [bxL]; omega)) only [↓bxD, bxP, bxQ, bxQ2, Nat.reduceBEq, reduceCtorEq, Nat.reduceAdd, Nat.reduceSub, Nat.reduceMul, Nat.reduceLeDiff, Nat.reduceLT, bxR, hG, g2, dz]
    exact ⟨x1.trans x2, .inl ⟨hz, rfl⟩⟩
def fewB (g : Gr) : Bool := decide ((g.rules.length : Int) ≤ 70) && (decide ((g.forbid.length : Int) ≤ 250) && (decide ((g.rc.length : Int) ≤ 100) && decide ((g.kc.length : Int) ≤ 100)))
theorem few_any {M : MH} {g : Gr} {vr vf vc vk : MV} {es : List (List MV)} (h : GrAt M vr vf vc vk es g) (hlo : M.lo ≤ M.n) : Cp fns 8 [.ag (gcs g vr vf vc vk)] M fun m M' => m = .b (fewB g) ∧ Ext M M' := by
  obtain ⟨hr1, hr2⟩ := h.rules.row.sl
  rw [h.rules.len] at hr2
  obtain ⟨hf1, hf2⟩ := h.forbid.sl
  rw [List.length_map] at hf2
  obtain ⟨hc1, hc2⟩ := h.rc.sl
  obtain ⟨hk1, hk2⟩ := h.kc.sl
  refine Cp_call (fn := F8) (by kernel_rfl) (Nat.le_of_ble_eq_true rfl) ?_
  show Wp fns B8 (T.set q0 (some (.ag (gcs g vr vf vc vk))) T.lf) M _
  unfold B8 gcs
  have hx : ∀ l, Ext M (M.push (.cs false 7 (ofL l 0))) := fun l => .push M _
  cases d0 : decide ((g.rules.length : Int) ≤ 70) with
  | false =>
    simp (maxSteps := 4000000) (disch := first | omega | assumption | (simp only [bxS, bxV, stOk, Nat.reduceBEq, Nat.reduceEqDiff, Nat.reduceAdd]; done) | (simp only [bxU]; omega) | ((try apply has_setN); apply has_ofL; simp only [bxL]; omega)) only [↓bxD, bxP, bxQ, Nat.reduceBEq, reduceCtorEq, Nat.reduceAdd, Nat.reduceSub, Nat.reduceMul, Nat.reduceLeDiff, Nat.reduceLT, bxR, hr1, hr2, hf1, hf2, hc1, hc2, hk1, hk2, d0]
    exact ⟨by unfold fewB; rw [d0]; rfl, hx _⟩
  | true =>
    cases d1 : decide ((g.forbid.length : Int) ≤ 250) with
    | false =>
      simp (maxSteps := 4000000) (disch := first | omega | assumption | (simp only [bxS, bxV, stOk, Nat.reduceBEq, Nat.reduceEqDiff, Nat.reduceAdd]; done) | (simp only [bxU]; omega) | ((try apply has_setN); apply has_ofL; simp only [bxL]; omega)) only [↓bxD, bxP, bxQ, Nat.reduceBEq, reduceCtorEq, Nat.reduceAdd, Nat.reduceSub, Nat.reduceMul, Nat.reduceLeDiff, Nat.reduceLT, bxR, hr1, hr2, hf1, hf2, hc1, hc2, hk1, hk2, d0, d1]
      exact ⟨by unfold fewB; rw [d0, d1]; rfl, hx _⟩
    | true =>
      cases d2 : decide ((g.rc.length : Int) ≤ 100) with
      | false =>
        simp (maxSteps := 4000000) (disch := first | omega | assumption | (simp only [bxS, bxV, stOk, Nat.reduceBEq, Nat.reduceEqDiff, Nat.reduceAdd]; done) | (simp only [bxU]; omega) | ((try apply has_setN); apply has_ofL; simp only [bxL]; omega)) only [↓bxD, bxP, bxQ, Nat.reduceBEq, reduceCtorEq, Nat.reduceAdd, Nat.reduceSub, Nat.reduceMul, Nat.reduceLeDiff, Nat.reduceLT, bxR, hr1, hr2, hf1, hf2, hc1, hc2, hk1, hk2, d0, d1, d2]
        exact ⟨by unfold fewB; rw [d0, d1, d2]; rfl, hx _⟩
      | true =>
        simp (maxSteps := 4000000) (disch := first | omega | assumption | (simp only [bxS, bxV, stOk, Nat.reduceBEq, Nat.reduceEqDiff, Nat.reduceAdd]; done) | (simp only [bxU]; omega) | ((try apply has_setN); apply has_ofL; simp only [bxL]; omega)) only [↓bxD, bxP, bxQ, Nat.reduceBEq, reduceCtorEq, Nat.reduceAdd, Nat.reduceSub, Nat.reduceMul, Nat.reduceLeDiff, Nat.reduceLT, bxR, hr1, hr2, hf1, hf2, hc1, hc2, hk1, hk2, d0, d1, d2]
        exact ⟨by unfold fewB; rw [d0, d1, d2]; simp, hx _⟩
def RPost (g : Gr) (M : MH) (m : MV) (M' : MH) : Prop := Ext M M' ∧ (((formP g).2 ≠ 0 ∧ m = .nils) ∨ ((formP g).2 = 0 ∧ ∃ l, RchVec g l ∧ BRow M' m l))
def RIs (g : Gr) (l : List Bool) : Prop := ((formP g).2 ≠ 0 ∧ l = []) ∨ ((formP g).2 = 0 ∧ RchVec g l)
def PIs (g : Gr) (l : List Bool) : Prop := ((formP g).2 ≠ 0 ∧ l = []) ∨ ((formP g).2 = 0 ∧ ∃ x, ShVec g x ∧ l = x.map fun z => decide (0 ≤ z))
def SIs (g : Gr) (l : List Int) : Prop := ((formP g).2 ≠ 0 ∧ l = []) ∨ ((formP g).2 = 0 ∧ ShVec g l)
theorem RPost.is {g : Gr} {M M' : MH} {m : MV} (h : RPost g M m M') : Ext M M' ∧ ∃ l, BRow M' m l ∧ RIs g l ∧ l.length ≤ 1000000000 := by
  obtain ⟨hx, ⟨h1, rfl⟩ | ⟨h1, l, h2, h3⟩⟩ := h
  · exact ⟨hx, [], ⟨fun e he => by simp at he, .inl ⟨rfl, rfl⟩⟩, .inl ⟨h1, rfl⟩, Nat.zero_le _⟩
  · have := (form_ok h1).n2
    exact ⟨hx, l, h3, .inr ⟨h1, h2⟩, by rw [h2.1]; omega⟩
theorem PrPost.is {g : Gr} {M M' : MH} {m : MV} (h : PrPost g M m M') : Ext M M' ∧ ∃ l, BRow M' m l ∧ PIs g l ∧ l.length ≤ 1000000000 := by
  obtain ⟨hx, ⟨h1, rfl⟩ | ⟨h1, l, h2, h3⟩⟩ := h
  · exact ⟨hx, [], ⟨fun e he => by simp at he, .inl ⟨rfl, rfl⟩⟩, .inl ⟨h1, rfl⟩, Nat.zero_le _⟩
  · have := (form_ok h1).n2
    exact ⟨hx, _, h3, .inr ⟨h1, l, h2, rfl⟩, by rw [List.length_map, (h2.inn (form_ok h1)).len]; omega⟩
theorem ShPost.is {g : Gr} {M M' : MH} {m : MV} (h : ShPost g M m M') : Ext M M' ∧ ∃ l, IntRow M' m l ∧ SIs g l ∧ l.length ≤ 1000000000 := by
  obtain ⟨hx, ⟨h1, rfl⟩ | ⟨h1, l, h2, h3⟩⟩ := h
  · exact ⟨hx, [], ⟨fun e he => by simp [ints] at he, .inl ⟨rfl, rfl⟩⟩, .inl ⟨h1, rfl⟩, Nat.zero_le _⟩
  · have := (form_ok h1).n2
    exact ⟨hx, l, h3, .inr ⟨h1, h2⟩, by rw [(h2.inn (form_ok h1)).len]; omega⟩
def CyPost (g : Gr) (M : MH) (m : MV) (M' : MH) : Prop := Ext M M' ∧ (((formP g).2 ≠ 0 ∧ m = .nils) ∨ ((formP g).2 = 0 ∧ ∃ N, NulVec g N ∧ BRow M' m (cyL g N)))
theorem CyPost.is {g : Gr} {M M' : MH} {m : MV} (h : CyPost g M m M') : Ext M M' ∧ ∃ l, BRow M' m l ∧ CyIs g l ∧ l.length ≤ 1000000000 := by
  obtain ⟨hx, ⟨h1, rfl⟩ | ⟨h1, N, h2, h3⟩⟩ := h
  · exact ⟨hx, [], ⟨fun e he => by simp at he, .inl ⟨rfl, rfl⟩⟩, .inl ⟨h1, rfl⟩, Nat.zero_le _⟩
  · have := (form_ok h1).n2
    exact ⟨hx, _, h3, .inr ⟨h1, N, h2, rfl⟩, by rw [cyL_len]; omega⟩
theorem cyL_take {g : Gr} {N : List Bool} {i : Nat} (hi : i < g.names.toNat) (z : Bool) (hz : z = cyIt (cyB N g.rules) g.names.toNat i i) : ((cyL g N).take i ++ List.replicate (g.names.toNat - i) false).set i z = (cyL g N).take (i + 1) ++ List.replicate (g.names.toNat - (i + 1)) false := by
  have hl := cyL_len g N
  refine List.ext_getElem? fun j => ?_
  rw [List.getElem?_set]
  have e1 : ((cyL g N).take i).length = i := by rw [List.length_take]; omega
  have e2 : ((cyL g N).take (i + 1)).length = i + 1 := by rw [List.length_take]; omega
  by_cases h : i = j
  · subst h
    rw [if_pos rfl, if_pos (by rw [List.length_append, List.length_replicate]; omega), List.getElem?_append_left (by omega), List.getElem?_take, if_pos (by omega), bAt_at (by omega), cyL_at hi, hz]
  · rw [if_neg h]
    by_cases h2 : j < i
    · rw [List.getElem?_append_left (by omega), List.getElem?_append_left (by omega), List.getElem?_take, List.getElem?_take, if_pos h2, if_pos (by omega)]
    · rw [List.getElem?_append_right (by omega), List.getElem?_append_right (by omega), e1, e2, List.getElem?_replicate, List.getElem?_replicate]
      by_cases h3 : j < g.names.toNat
      · rw [if_pos (by omega), if_pos (by omega)]
      · rw [if_neg (by omega), if_neg (by omega)]
theorem pcyclic_any {M : MH} {g : Gr} {vr vf vc vk : MV} {es : List (List MV)} (h : GrAt M vr vf vc vk es g) (hlo : M.lo ≤ M.n) : Cp fns 12 [.ag (gcs g vr vf vc vk)] M (CyPost g M) := by
  have hG : ∀ l, l = gcs g vr vf vc vk → Ev.getN (ofL l 0) 7 0 = some (gcs g vr vf vc vk) := fun l e => by subst e; exact (at_ofL (gcs g vr vf vc vk)).getN
  have hG := hG [MV.i IntKind.i64 g.names, MV.i IntKind.i64 g.kinds, MV.i IntKind.i64 g.start, vr, vf, vc, vk] rfl
  refine Cp_call (fn := F12) (by kernel_rfl) (Nat.le_of_ble_eq_true rfl) ?_
  show Wp fns B12 (T.set q0 (some (.ag (gcs g vr vf vc vk))) T.lf) M _
  unfold B12
  rw [show gcs g vr vf vc vk = [MV.i IntKind.i64 g.names, MV.i IntKind.i64 g.kinds, MV.i IntKind.i64 g.start, vr, vf, vc, vk] from rfl]
  generalize hM1 : M.push (.cs false 7 (ofL [MV.i IntKind.i64 g.names, MV.i IntKind.i64 g.kinds, MV.i IntKind.i64 g.start, vr, vf, vc, vk] 0)) = M1
  have g0 : M1.get M.n = some (.cs false 7 (ofL [MV.i IntKind.i64 g.names, MV.i IntKind.i64 g.kinds, MV.i IntKind.i64 g.start, vr, vf, vc, vk] 0)) := by rw [← hM1]; exact push_new _
  have x1 : Ext M M1 := by rw [← hM1]; exact .push M _
  have n1 : M1.n = M.n + 1 := by rw [← hM1]; rfl
  have l1 := x1.lo
  simp (maxSteps := 4000000) (disch := first | omega | assumption | (simp only [bxS, bxV, stOk, Nat.reduceBEq, Nat.reduceEqDiff, Nat.reduceAdd]; done) | (simp only [bxU]; omega) | ((try apply has_setN); apply has_ofL; simp only [bxL]; omega)) only [↓bxD, bxP, bxQ, Nat.reduceBEq, reduceCtorEq, Nat.reduceAdd, Nat.reduceSub, Nat.reduceMul, Nat.reduceLeDiff, Nat.reduceLT, bxR, hG, hM1, g0]
  refine bindP_call (isForm_any (h.ext x1) (by omega)) ?_
  rintro m M2 ⟨rfl, x2⟩
  have n2 := x2.n
  have l2 := x2.lo
  have g2 := (x2.old _ (by omega)).trans g0
  by_cases hz : (formP g).2 = 0
  · have dz : decide ((formP g).2 = 0) = true := decide_eq_true hz
    have hok := form_ok hz
    have hn1 := hok.n1
    have hn40 := hok.n2
    obtain ⟨nn, hnn⟩ : ∃ n : Nat, g.names = n := ⟨g.names.toNat, by omega⟩
    simp (maxSteps := 4000000) (disch := first | omega | assumption | (simp only [bxS, bxV, stOk, Nat.reduceBEq, Nat.reduceEqDiff, Nat.reduceAdd]; done) | (simp only [bxU]; omega) | ((try apply has_setN); apply has_ofL; simp only [bxL]; omega)) only [↓bxD, bxP, bxQ, Nat.reduceBEq, reduceCtorEq, Nat.reduceAdd, Nat.reduceSub, Nat.reduceMul, Nat.reduceLeDiff, Nat.reduceLT, bxR, hG, g2, dz]
    show Wp fns K12_4 _ _ _
    unfold K12_4
    simp (maxSteps := 4000000) (disch := first | omega | assumption | (simp only [bxS, bxV, stOk, Nat.reduceBEq, Nat.reduceEqDiff, Nat.reduceAdd]; done) | (simp only [bxU]; omega) | ((try apply has_setN); apply has_ofL; simp only [bxL]; omega)) only [↓bxD, bxP, bxQ, Nat.reduceBEq, reduceCtorEq, Nat.reduceAdd, Nat.reduceSub, Nat.reduceMul, Nat.reduceLeDiff, Nat.reduceLT, bxR, hG, g2, dz]
    refine bindP_call (oneStep_any ((h.ext x1).ext x2) hz (by omega)) ?_
    rintro m M3 ⟨x3, id, F, N, rfl, i1, i2, hw, hFl, hlt, hN, hone⟩
    have n3 := x3.n
    have l3 := x3.lo
    have g3 := (x3.old _ (by omega)).trans g2
    simp (maxSteps := 4000000) (disch := first | omega | assumption | (simp only [bxS, bxV, stOk, Nat.reduceBEq, Nat.reduceEqDiff, Nat.reduceAdd]; done) | (simp only [bxU]; omega) | ((try apply has_setN); apply has_ofL; simp only [bxL]; omega)) only [↓bxD, bxP, bxQ, Nat.reduceBEq, reduceCtorEq, Nat.reduceAdd, Nat.reduceSub, Nat.reduceMul, Nat.reduceLeDiff, Nat.reduceLT, bxR, hG, g2, dz]
    refine bindP_call (anySteps_any (U := cyB N g.rules) hw i2 (by omega) hlt (by omega) (fun i j hi => by rw [hone i j hi, List.take_length])) ?_
    rintro m M4 ⟨rfl, o4, n4, l4, F', hw4, hFl4, hlt4, hrel⟩
    have g4 := (o4 _ (by omega)).trans g3
    have cg0 : cget (ofL [MV.i IntKind.i64 g.names, MV.i IntKind.i64 g.kinds, MV.i IntKind.i64 g.start, vr, vf, vc, vk] 0) 0 = some (.i .i64 (nn : Int)) := by rw [← hnn]; exact (at_ofL _) 0 _ rfl
    simp (maxSteps := 4000000) (disch := first | omega | assumption | (simp only [bxS, bxV, stOk, Nat.reduceBEq, Nat.reduceEqDiff, Nat.reduceAdd]; done) | (simp only [bxU]; omega) | ((try apply has_setN); apply has_ofL; simp only [bxL]; omega)) only [↓bxD, bxP, bxQ, Nat.reduceBEq, reduceCtorEq, Nat.reduceAdd, Nat.reduceSub, Nat.reduceMul, Nat.reduceLeDiff, Nat.reduceLT, bxR, hG, g4, cg0, ev_mks, mks_ok]
    generalize hM5 : M4.push _ = M5
    have b5 : BoolsAt M5 M4.n (List.replicate nn false) := by rw [← hM5]; exact .new nn
    have x5 : Ext M4 M5 := by rw [← hM5]; exact .push M4 _
    have n5 : M5.n = M4.n + 1 := by rw [← hM5]; rfl
    have l5 := x5.lo
    have hw5 := hw4.same (x5.old _ (by omega))
    clear hM5
    have hnl : g.names.toNat = nn := by omega
    have hE : Ext M M4 := ⟨by omega, by omega, fun j hj => by
      rw [o4 j (by omega), x3.old j (by omega), x2.old j (by omega), x1.old j hj]⟩
    simp (maxSteps := 4000000) (disch := first | omega | assumption | (simp only [bxS, bxV, stOk, Nat.reduceBEq, Nat.reduceEqDiff, Nat.reduceAdd]; done) | (simp only [bxU]; omega) | ((try apply has_setN); apply has_ofL; simp only [bxL]; omega)) only [↓bxD, bxP, bxQ, Nat.reduceBEq, reduceCtorEq, Nat.reduceAdd, Nat.reduceSub, Nat.reduceMul, Nat.reduceLeDiff, Nat.reduceLT, bxR, hG, g4, cg0, len_slc]
    refine Wp_inv (σ := Nat) (fun i f M' => i ≤ nn ∧ (∀ j, j ≠ M4.n → M'.get j = M5.get j) ∧ M'.n = M5.n ∧ M'.lo = M5.lo ∧ BoolsAt M' M4.n ((cyL g N).take i ++ List.replicate (nn - i) false) ∧ X.ev f (.t q3) = .sl id 0 F.length 0 ∧ X.ev f (.t q4) = .sl M4.n 0 nn 0 ∧ X.ev f (.t q17) = .i .i64 (nn : Int) ∧ X.ev f (.t q18) = .i .i64 (i : Int)) (fun i => nn - i) ?_ 0 ?_
    · rintro i f M6 ⟨hi, ho, hn', hl', hB, h3, h4, h17, h18⟩
      simp only [q3, q4, q17, q18] at h3 h4 h17 h18
      have hcl := cyL_len g N
      have hll : ((cyL g N).take i ++ List.replicate (nn - i) false).length = nn := by rw [List.length_append, List.length_take, List.length_replicate]; omega
      unfold L12_2
      by_cases hi' : i < nn
      · have d1 : decide ((i : Int) < (nn : Int)) = true := decide_eq_true (by omega)
        have hw6 := hw5.same (ho _ (by omega))
        obtain ⟨t, ht1, ht2, ht3, ht4⟩ := hw6.read
        have hCi := ht2 i (by omega)
        have hHi := ht3 i (by omega)
        have hFi := fAt_lt hlt4 i
        obtain ⟨u, hu1, hu2, hu3, hu4⟩ := hB.read
        have hH4 := hu3 i (by omega)
        simp (maxSteps := 4000000) (disch := first | omega | assumption | (simp only [bxS, bxV, stOk, Nat.reduceBEq, Nat.reduceEqDiff, Nat.reduceAdd]; done) | (simp only [bxU]; omega) | ((try apply has_setN); apply has_ofL; simp only [bxL]; omega)) only [↓bxD, bxP, bxQ, Nat.reduceBEq, reduceCtorEq, Nat.reduceAdd, Nat.reduceSub, Nat.reduceMul, Nat.reduceLeDiff, Nat.reduceLT, bxR, h3, h4, h17, h18, d1, ix_slc, ht1, hCi, hHi]
        show Wp fns K12_1 _ _ _
        unfold K12_1
        simp (maxSteps := 4000000) (disch := first | omega | assumption | (simp only [bxS, bxV, stOk, Nat.reduceBEq, Nat.reduceEqDiff, Nat.reduceAdd]; done) | (simp only [bxU]; omega) | ((try apply has_setN); apply has_ofL; simp only [bxL]; omega)) only [↓bxD, bxP, bxQ, Nat.reduceBEq, reduceCtorEq, Nat.reduceAdd, Nat.reduceSub, Nat.reduceMul, Nat.reduceLeDiff, Nat.reduceLT, bxR, h3, h4, h17, h18, d1, ix_slc, ht1, hCi, hHi]
        refine bindP_call (has_any hFi (k := i) (by omega)) ?_
        rintro m M7 ⟨rfl, rfl⟩
        have hrv : (fAt F' i).testBit i = cyIt (cyB N g.rules) g.names.toNat i i := by rw [hrel i i (by omega), hFl]
        have hsA := hu4 i ((fAt F' i).testBit i) (by omega)
        simp (maxSteps := 4000000) (disch := first | omega | assumption | (simp only [bxS, bxV, stOk, Nat.reduceBEq, Nat.reduceEqDiff, Nat.reduceAdd]; done) | (simp only [bxU]; omega) | ((try apply has_setN); apply has_ofL; simp only [bxL]; omega)) only [↓bxD, bxP, bxQ, Nat.reduceBEq, reduceCtorEq, Nat.reduceAdd, Nat.reduceSub, Nat.reduceMul, Nat.reduceLeDiff, Nat.reduceLT, bxR, h3, h4, h17, h18, d1, ix_slc, hu1, hH4]
        show Wp fns K12_0 _ _ _
        unfold K12_0
        simp (maxSteps := 4000000) (disch := first | omega | assumption | (simp only [bxS, bxV, stOk, Nat.reduceBEq, Nat.reduceEqDiff, Nat.reduceAdd]; done) | (simp only [bxU]; omega) | ((try apply has_setN); apply has_ofL; simp only [bxL]; omega)) only [↓bxD, bxP, bxQ, Nat.reduceBEq, reduceCtorEq, Nat.reduceAdd, Nat.reduceSub, Nat.reduceMul, Nat.reduceLeDiff, Nat.reduceLT, bxR, h3, h4, h17, h18, d1, ix_slc, hu1, hH4]
        refine ⟨i + 1, by omega, by omega, fun j hj => by rw [set_ne hj]; exact ho j hj, hn', hl', ⟨_, set_same _ _, ?_⟩, rfl⟩
        rw [← hnl, ← cyL_take (g := g) (N := N) (i := i) (by omega) _ hrv, hnl]
        exact hsA
      · have d1 : decide ((i : Int) < (nn : Int)) = false := decide_eq_false (by omega)
        obtain rfl : i = nn := by omega
        simp (maxSteps := 4000000) (disch := first | omega | assumption | (simp only [bxS, bxV, stOk, Nat.reduceBEq, Nat.reduceEqDiff, Nat.reduceAdd]; done) | (simp only [bxU]; omega) | ((try apply has_setN); apply has_ofL; simp only [bxL]; omega)) only [↓bxD, bxP, bxQ, Nat.reduceBEq, reduceCtorEq, Nat.reduceAdd, Nat.reduceSub, Nat.reduceMul, Nat.reduceLeDiff, Nat.reduceLT, bxR, h3, h4, h17, h18, d1]
        show Wp fns K12_3 _ _ _
        unfold K12_3
        simp (maxSteps := 4000000) (disch := first | omega | assumption | (simp only [bxS, bxV, stOk, Nat.reduceBEq, Nat.reduceEqDiff, Nat.reduceAdd]; done) | (simp only [bxU]; omega) | ((try apply has_setN); apply has_ofL; simp only [bxL]; omega)) only [↓bxD, bxP, bxQ, Nat.reduceBEq, reduceCtorEq, Nat.reduceAdd, Nat.reduceSub, Nat.reduceMul, Nat.reduceLeDiff, Nat.reduceLT, bxR, h3, h4, h17, h18, d1]
        rw [Nat.sub_self, List.replicate_zero, List.append_nil, List.take_of_length_le (by omega)] at hB
        refine ⟨⟨by omega, by omega, fun j hj => by rw [ho j (by omega), x5.old j (by omega), hE.old j hj]⟩, .inr ⟨hz, N, hN, ?_⟩⟩
        have := hB.row (by omega : M4.n < M6.n)
        rw [cyL_len, hnl] at this
        exact this
    · exact ⟨Nat.zero_le _, fun _ _ => rfl, rfl, rfl, by rw [List.take_zero, List.nil_append, Nat.sub_zero]; exact b5, by simp only [bxP, bxQ, reduceCtorEq, hG, g4, cg0], by simp only [bxP, bxQ, reduceCtorEq, hG, g4, cg0], by simp only [bxP, bxQ, reduceCtorEq, hG, g4, cg0] <;> rfl, by simp only [bxP, bxQ, reduceCtorEq, hG, g4, cg0] <;> rfl⟩
  · have dz : decide ((formP g).2 = 0) = false := decide_eq_false hz
    simp (maxSteps := 4000000) (disch := first | omega | assumption | (simp only [bxS, bxV, stOk, Nat.reduceBEq, Nat.reduceEqDiff, Nat.reduceAdd]; done) | (simp only [bxU]; omega) | ((try apply has_setN); apply has_ofL; simp only [bxL]; omega)) only [↓bxD, bxP, bxQ, Nat.reduceBEq, reduceCtorEq, Nat.reduceAdd, Nat.reduceSub, Nat.reduceMul, Nat.reduceLeDiff, Nat.reduceLT, bxR, hG, g2, dz]
    exact ⟨x1.trans x2, .inl ⟨hz, rfl⟩⟩
def ChIs (g : Gr) (z : Int × Int) : Prop := ((formP g).2 ≠ 0 ∧ z = formP g) ∨ ((formP g).2 = 0 ∧ ∃ R S N, RchVec g R ∧ ShVec g S ∧ NulVec g N ∧ z = chkV g.names.toNat R (S.map fun z => decide (0 ≤ z)) (cyL g N))
theorem chis_ext {g : Gr} {a b : Int × Int} (ha : ChIs g a) (hb : ChIs g b) : a = b := by
  rcases ha with ⟨h, rfl⟩ | ⟨h, R, S, N, h1, h2, h3, rfl⟩ <;> rcases hb with ⟨k, rfl⟩ | ⟨k, R', S', N', k1, k2, k3, rfl⟩
  · rfl
  · exact absurd k h
  · exact absurd h k
  · rw [vec_ext (h1.1.trans k1.1.symm) h1.2 k1.2, sh_ext h2 k2, nul_ext h3 k3]
theorem index_true {M : MH} {v : MV} {l : List Bool} (h : BRow M v l) (hl : l.length ≤ 1000) : Cp fns 18 [v, .b true] M fun m M' => m = .i .i64 (match firstP (bAt l) l.length 0 with
    | some i => (i : Int)
    | none => -1) ∧ M' = M := by
  obtain ⟨v1, v2⟩ := h.sl
  refine Cp_call (fn := F18) (by kernel_rfl) (Nat.le_of_ble_eq_true rfl) ?_
  show Wp fns B18 (T.set q1 (some (.b true)) (T.set q0 (some v) T.lf)) M _
  unfold B18
  simp (maxSteps := 4000000) (disch := first | omega | assumption | (simp only [bxS, bxV, stOk, Nat.reduceBEq, Nat.reduceEqDiff, Nat.reduceAdd]; done) | (simp only [bxU]; omega) | ((try apply has_setN); apply has_ofL; simp only [bxL]; omega)) only [↓bxD, bxP, bxQ, Nat.reduceBEq, reduceCtorEq, Nat.reduceAdd, Nat.reduceSub, Nat.reduceMul, Nat.reduceLeDiff, Nat.reduceLT, bxR, v1, v2]
  refine Wp_inv (σ := Nat) (fun i f M' => M' = M ∧ i ≤ l.length ∧ (∀ k, k < i → bAt l k = false) ∧ X.ev f (.t q0) = v ∧ X.ev f (.t q1) = .b true ∧ X.ev f (.t q6) = v ∧ X.ev f (.t q7) = .i .i64 (l.length : Int) ∧ X.ev f (.t q8) = .i .i64 (i : Int)) (fun i => l.length - i) ?_ 0 ?_
  · rintro i f M' ⟨rfl, hi, hk, h0, h1, h6, h7, h8⟩
    simp only [q0, q1, q6, q7, q8] at h0 h1 h6 h7 h8
    unfold L18_2
    by_cases hi' : i < l.length
    · have d1 : decide ((i : Int) < (l.length : Int)) = true := decide_eq_true (by omega)
      obtain ⟨ro, s, t, hg, hid, hC⟩ := h.read hi'
      cases hb : bAt l i with
      | true =>
        rw [hb] at hC
        have e := firstP_is (p := bAt l) (n := l.length) (i := 0) (k := i) (Nat.zero_le _) (by omega) hb fun m _ hm => hk m hm
        rw [e]
        simp (maxSteps := 4000000) (disch := first | omega | assumption | (simp only [bxS, bxV, stOk, Nat.reduceBEq, Nat.reduceEqDiff, Nat.reduceAdd]; done) | (simp only [bxU]; omega) | ((try apply has_setN); apply has_ofL; simp only [bxL]; omega)) only [↓bxD, bxP, bxQ, Nat.reduceBEq, reduceCtorEq, Nat.reduceAdd, Nat.reduceSub, Nat.reduceMul, Nat.reduceLeDiff, Nat.reduceLT, bxR, h0, h1, h6, h7, h8, v1, v2, d1, hg, hC]
        show Wp fns K18_1 _ _ _
        unfold K18_1
        simp (maxSteps := 4000000) (disch := first | omega | assumption | (simp only [bxS, bxV, stOk, Nat.reduceBEq, Nat.reduceEqDiff, Nat.reduceAdd]; done) | (simp only [bxU]; omega) | ((try apply has_setN); apply has_ofL; simp only [bxL]; omega)) only [↓bxD, bxP, bxQ, Nat.reduceBEq, reduceCtorEq, Nat.reduceAdd, Nat.reduceSub, Nat.reduceMul, Nat.reduceLeDiff, Nat.reduceLT, bxR, h0, h1, h6, h7, h8, v1, v2, d1, hg, hC]
      | false =>
        rw [hb] at hC
        have tf : (true == false) = false := rfl
        simp (maxSteps := 4000000) (disch := first | omega | assumption | (simp only [bxS, bxV, stOk, Nat.reduceBEq, Nat.reduceEqDiff, Nat.reduceAdd]; done) | (simp only [bxU]; omega) | ((try apply has_setN); apply has_ofL; simp only [bxL]; omega)) only [↓bxD, bxP, bxQ, Nat.reduceBEq, reduceCtorEq, Nat.reduceAdd, Nat.reduceSub, Nat.reduceMul, Nat.reduceLeDiff, Nat.reduceLT, bxR, h0, h1, h6, h7, h8, v1, v2, d1, hg, hC, tf]
        show Wp fns K18_1 _ _ _
        unfold K18_1
        simp (maxSteps := 4000000) (disch := first | omega | assumption | (simp only [bxS, bxV, stOk, Nat.reduceBEq, Nat.reduceEqDiff, Nat.reduceAdd]; done) | (simp only [bxU]; omega) | ((try apply has_setN); apply has_ofL; simp only [bxL]; omega)) only [↓bxD, bxP, bxQ, Nat.reduceBEq, reduceCtorEq, Nat.reduceAdd, Nat.reduceSub, Nat.reduceMul, Nat.reduceLeDiff, Nat.reduceLT, bxR, h0, h1, h6, h7, h8, v1, v2, d1, hg, hC, tf]
        show Wp fns K18_0 _ _ _
        unfold K18_0
        simp (maxSteps := 4000000) (disch := first | omega | assumption | (simp only [bxS, bxV, stOk, Nat.reduceBEq, Nat.reduceEqDiff, Nat.reduceAdd]; done) | (simp only [bxU]; omega) | ((try apply has_setN); apply has_ofL; simp only [bxL]; omega)) only [↓bxD, bxP, bxQ, Nat.reduceBEq, reduceCtorEq, Nat.reduceAdd, Nat.reduceSub, Nat.reduceMul, Nat.reduceLeDiff, Nat.reduceLT, bxR, h0, h1, h6, h7, h8, v1, v2, d1, hg, hC, tf]
        refine ⟨i + 1, by omega, by omega, fun k hk' => ?_, rfl⟩
        by_cases e : k = i
        · subst e; exact hb
        · exact hk k (by omega)
    · have d1 : decide ((i : Int) < (l.length : Int)) = false := decide_eq_false (by omega)
      obtain rfl : i = l.length := by omega
      rw [firstP_no (p := bAt l) (n := l.length) (i := 0) fun m _ hm => hk m (by omega)]
      simp (maxSteps := 4000000) (disch := first | omega | assumption | (simp only [bxS, bxV, stOk, Nat.reduceBEq, Nat.reduceEqDiff, Nat.reduceAdd]; done) | (simp only [bxU]; omega) | ((try apply has_setN); apply has_ofL; simp only [bxL]; omega)) only [↓bxD, bxP, bxQ, Nat.reduceBEq, reduceCtorEq, Nat.reduceAdd, Nat.reduceSub, Nat.reduceMul, Nat.reduceLeDiff, Nat.reduceLT, bxR, h0, h1, h6, h7, h8, d1]
      show Wp fns K18_3 _ _ _
      unfold K18_3
      simp (maxSteps := 4000000) (disch := first | omega | assumption | (simp only [bxS, bxV, stOk, Nat.reduceBEq, Nat.reduceEqDiff, Nat.reduceAdd]; done) | (simp only [bxU]; omega) | ((try apply has_setN); apply has_ofL; simp only [bxL]; omega)) only [↓bxD, bxP, bxQ, Nat.reduceBEq, reduceCtorEq, Nat.reduceAdd, Nat.reduceSub, Nat.reduceMul, Nat.reduceLeDiff, Nat.reduceLT, bxR, h0, h1, h6, h7, h8, d1]
      rfl
  · exact ⟨rfl, Nat.zero_le _, fun k hk => absurd hk (Nat.not_lt_zero k), by simp only [bxP, bxQ, reduceCtorEq, v1, v2], by simp only [bxP, bxQ, reduceCtorEq, v1, v2], by simp only [bxP, bxQ, reduceCtorEq, v1, v2], by simp only [bxP, bxQ, reduceCtorEq, v1, v2] <;> rfl, by simp only [bxP, bxQ, reduceCtorEq, v1, v2] <;> rfl⟩
theorem chk_useless {g : Gr} {R : List Bool} {S : List Int} {N : List Bool} {i : Nat} (hz : (formP g).2 = 0) (hR : RchVec g R) (hS : ShVec g S) (hN : NulVec g N) (e : firstP (fun i => !(bAt R i) || !(bAt (S.map fun z => decide (0 ≤ z)) i)) g.names.toNat 0 = some i) : ChIs g ((i : Int), 7) := by
  refine .inr ⟨hz, R, S, N, hR, hS, hN, ?_⟩
  unfold chkV
  rw [e]
theorem chk_cycle {g : Gr} {R : List Bool} {S : List Int} {N : List Bool} {i : Nat} (hz : (formP g).2 = 0) (hR : RchVec g R) (hS : ShVec g S) (hN : NulVec g N) (e : firstP (fun i => !(bAt R i) || !(bAt (S.map fun z => decide (0 ≤ z)) i)) g.names.toNat 0 = none) (e2 : firstP (bAt (cyL g N)) g.names.toNat 0 = some i) : ChIs g ((i : Int), 8) := by
  refine .inr ⟨hz, R, S, N, hR, hS, hN, ?_⟩
  unfold chkV
  rw [e, e2]
theorem chk_fine {g : Gr} {R : List Bool} {S : List Int} {N : List Bool} (hz : (formP g).2 = 0) (hR : RchVec g R) (hS : ShVec g S) (hN : NulVec g N) (e : firstP (fun i => !(bAt R i) || !(bAt (S.map fun z => decide (0 ≤ z)) i)) g.names.toNat 0 = none) (e2 : firstP (bAt (cyL g N)) g.names.toNat 0 = none) : ChIs g (-1, 0) := by
  refine .inr ⟨hz, R, S, N, hR, hS, hN, ?_⟩
  unfold chkV
  rw [e, e2]
theorem pcheck_any {M : MH} {g : Gr} {vr vf vc vk : MV} {es : List (List MV)} (h : GrAt M vr vf vc vk es g) (hlo : M.lo ≤ M.n) : Cp fns 9 [.ag (gcs g vr vf vc vk)] M fun m M' => Ext M M' ∧ ∃ z : Int × Int, ChIs g z ∧ m = .tp [.i .i64 z.1, .i .i64 z.2] := by
  have hG : ∀ l, l = gcs g vr vf vc vk → Ev.getN (ofL l 0) 7 0 = some (gcs g vr vf vc vk) := fun l e => by subst e; exact (at_ofL (gcs g vr vf vc vk)).getN
  have hG := hG [MV.i IntKind.i64 g.names, MV.i IntKind.i64 g.kinds, MV.i IntKind.i64 g.start, vr, vf, vc, vk] rfl
  refine Cp_call (fn := F9) (by kernel_rfl) (Nat.le_of_ble_eq_true rfl) ?_
  show Wp fns B9 (T.set q0 (some (.ag (gcs g vr vf vc vk))) T.lf) M _
  unfold B9
  rw [show gcs g vr vf vc vk = [MV.i IntKind.i64 g.names, MV.i IntKind.i64 g.kinds, MV.i IntKind.i64 g.start, vr, vf, vc, vk] from rfl]
  generalize hM1 : M.push (.cs false 7 (ofL [MV.i IntKind.i64 g.names, MV.i IntKind.i64 g.kinds, MV.i IntKind.i64 g.start, vr, vf, vc, vk] 0)) = M1
  have g0 : M1.get M.n = some (.cs false 7 (ofL [MV.i IntKind.i64 g.names, MV.i IntKind.i64 g.kinds, MV.i IntKind.i64 g.start, vr, vf, vc, vk] 0)) := by rw [← hM1]; exact push_new _
  have x1 : Ext M M1 := by rw [← hM1]; exact .push M _
  have n1 : M1.n = M.n + 1 := by rw [← hM1]; rfl
  have l1 := x1.lo
  simp (maxSteps := 4000000) (disch := first | omega | assumption | (simp only [bxS, bxV, stOk, Nat.reduceBEq, Nat.reduceEqDiff, Nat.reduceAdd]; done) | (simp only [bxU]; omega) | ((try apply has_setN); apply has_ofL; simp only [bxL]; omega)) only [↓bxD, bxP, bxQ, Nat.reduceBEq, reduceCtorEq, Nat.reduceAdd, Nat.reduceSub, Nat.reduceMul, Nat.reduceLeDiff, Nat.reduceLT, bxR, hG, hM1, g0]
  refine bindP_call (prog_form (h.ext x1) (by omega)) ?_
  rintro m M2 ⟨rfl, x2⟩
  have n2 := x2.n
  have l2 := x2.lo
  have g2 := (x2.old _ (by omega)).trans g0
  have x02 := x1.trans x2
  by_cases hz : (formP g).2 = 0
  · have dz : decide ((formP g).2 ≠ 0) = false := decide_eq_false (by rw [hz]; simp)
    have hok := form_ok hz
    have hn1 := hok.n1
    have hn40 := hok.n2
    obtain ⟨nn, hnn⟩ : ∃ n : Nat, g.names = n := ⟨g.names.toNat, by omega⟩
    have hnl : g.names.toNat = nn := by omega
    simp (maxSteps := 4000000) (disch := first | omega | assumption | (simp only [bxS, bxV, stOk, Nat.reduceBEq, Nat.reduceEqDiff, Nat.reduceAdd]; done) | (simp only [bxU]; omega) | ((try apply has_setN); apply has_ofL; simp only [bxL]; omega)) only [↓bxD, bxP, bxQ, Nat.reduceBEq, reduceCtorEq, Nat.reduceAdd, Nat.reduceSub, Nat.reduceMul, Nat.reduceLeDiff, Nat.reduceLT, bxR, hG, g2, dz]
    show Wp fns K9_6 _ _ _
    unfold K9_6
    simp (maxSteps := 4000000) (disch := first | omega | assumption | (simp only [bxS, bxV, stOk, Nat.reduceBEq, Nat.reduceEqDiff, Nat.reduceAdd]; done) | (simp only [bxU]; omega) | ((try apply has_setN); apply has_ofL; simp only [bxL]; omega)) only [↓bxD, bxP, bxQ, Nat.reduceBEq, reduceCtorEq, Nat.reduceAdd, Nat.reduceSub, Nat.reduceMul, Nat.reduceLeDiff, Nat.reduceLT, bxR, hG, g2, dz]
    refine Wp_dreg_of (by omega) ?_
    simp (maxSteps := 4000000) (disch := first | omega | assumption | (simp only [bxS, bxV, stOk, Nat.reduceBEq, Nat.reduceEqDiff, Nat.reduceAdd]; done) | (simp only [bxU]; omega) | ((try apply has_setN); apply has_ofL; simp only [bxL]; omega)) only [↓bxD, bxP, bxQ, Nat.reduceBEq, reduceCtorEq, Nat.reduceAdd, Nat.reduceSub, Nat.reduceMul, Nat.reduceLeDiff, Nat.reduceLT, bxR, hG, g2, dz]
    have hgr2 := h.ext x02
    refine bindP_call (preachable_any (gr_lift hgr2) (Nat.le_refl _)) ?_
    rintro m M3 ⟨x3, ⟨hne, _⟩ | ⟨_, R, hR, hRr⟩⟩
    · exact absurd hz hne
    have x23 := ext_dl x3
    have n3 := x23.n
    have l3 := x23.lo
    have g3 := (x23.old M.n (by omega)).trans g2
    have g3' := g3
    have hgr3 := hgr2.ext x23
    have hRr3 : BRow (M3.down M2.lo) m R := hRr
    rw [down_get] at g3
    simp (maxSteps := 4000000) (disch := first | omega | assumption | (simp only [bxS, bxV, stOk, Nat.reduceBEq, Nat.reduceEqDiff, Nat.reduceAdd]; done) | (simp only [bxU]; omega) | ((try apply has_setN); apply has_ofL; simp only [bxL]; omega)) only [↓bxD, bxP, bxQ, Nat.reduceBEq, reduceCtorEq, Nat.reduceAdd, Nat.reduceSub, Nat.reduceMul, Nat.reduceLeDiff, Nat.reduceLT, bxR, hG, g2, g3, down_get]
    generalize M3.down M2.lo = N3 at *
    refine bindP_call (pprod_any hgr3 (by omega)) ?_
    rintro m4 M4 ⟨x4, ⟨hne, _⟩ | ⟨_, S, hS, hSr⟩⟩
    · exact absurd hz hne
    have n4 := x4.n
    have l4 := x4.lo
    have g4 := (x4.old M.n (by omega)).trans g3'
    have hgr4 := hgr3.ext x4
    have hRr4 := hRr3.ext x4
    have cg0 : cget (ofL [MV.i IntKind.i64 g.names, MV.i IntKind.i64 g.kinds, MV.i IntKind.i64 g.start, vr, vf, vc, vk] 0) 0 = some (.i .i64 (nn : Int)) := by rw [← hnn]; exact (at_ofL _) 0 _ rfl
    have x04 := (x02.trans x23).trans x4
    obtain ⟨r1, r2⟩ := hRr4.sl
    obtain ⟨s1, s2⟩ := hSr.sl
    have hRl : R.length = nn := by rw [hR.1]; omega
    have hSl : (S.map fun z => decide (0 ≤ z)).length = nn := by rw [List.length_map, (hS.inn hok).len]; omega
    simp (maxSteps := 4000000) (disch := first | omega | assumption | (simp only [bxS, bxV, stOk, Nat.reduceBEq, Nat.reduceEqDiff, Nat.reduceAdd]; done) | (simp only [bxU]; omega) | ((try apply has_setN); apply has_ofL; simp only [bxL]; omega)) only [↓bxD, bxP, bxQ, Nat.reduceBEq, reduceCtorEq, Nat.reduceAdd, Nat.reduceSub, Nat.reduceMul, Nat.reduceLeDiff, Nat.reduceLT, bxR, hG, g4, cg0]
    show Wp fns K9_5 _ _ _
    unfold K9_5
    simp (maxSteps := 4000000) (disch := first | omega | assumption | (simp only [bxS, bxV, stOk, Nat.reduceBEq, Nat.reduceEqDiff, Nat.reduceAdd]; done) | (simp only [bxU]; omega) | ((try apply has_setN); apply has_ofL; simp only [bxL]; omega)) only [↓bxD, bxP, bxQ, Nat.reduceBEq, reduceCtorEq, Nat.reduceAdd, Nat.reduceSub, Nat.reduceMul, Nat.reduceLeDiff, Nat.reduceLT, bxR, hG, g4, cg0]
    obtain ⟨N, hN⟩ : ∃ N, NulVec g N := by
      obtain ⟨m9, M9, _, _, ⟨hne, _⟩ | ⟨_, N, hN, _⟩⟩ := pnull_any h hlo
      · exact absurd hz hne
      · exact ⟨N, hN⟩
    refine Wp_inv (σ := Nat) (fun i f M' => M' = M4 ∧ i ≤ nn ∧ (∀ k, k < i → (!(bAt R k) || !(bAt (S.map fun z => decide (0 ≤ z)) k)) = false) ∧ X.ev f (.t q1) = .p M.n 0 ∧ X.ev f (.t q6) = m ∧ X.ev f (.t q7) = m4 ∧ X.ev f (.t q24) = .i .i64 (nn : Int) ∧ X.ev f (.t q25) = .i .i64 (i : Int)) (fun i => nn - i) ?_ 0 ?_
    · rintro i f M' ⟨rfl, hi, hk, h1, h6, h7, h24, h25⟩
      simp only [q1, q6, q7, q24, q25] at h1 h6 h7 h24 h25
      unfold L9_2
      by_cases hi' : i < nn
      · have d1 : decide ((i : Int) < (nn : Int)) = true := decide_eq_true (by omega)
        obtain ⟨ro, sz, t, hg, hid, hC⟩ := hRr4.read (i := i) (by omega)
        obtain ⟨ro2, sz2, t2, hg2, hid2, hC2⟩ := hSr.read (i := i) (by omega)
        have use : (!(bAt R i) || !(bAt (S.map fun z => decide (0 ≤ z)) i)) = true → ChIs g ((i : Int), 7) := fun hb => chk_useless hz hR hS hN (firstP_is (Nat.zero_le _) (by omega) hb fun m _ hm => hk m hm)
        cases hb : bAt R i with
        | false =>
          rw [hb] at hC
          have hu := use (by rw [hb]; rfl)
          simp (maxSteps := 4000000) (disch := first | omega | assumption | (simp only [bxS, bxV, stOk, Nat.reduceBEq, Nat.reduceEqDiff, Nat.reduceAdd]; done) | (simp only [bxU]; omega) | ((try apply has_setN); apply has_ofL; simp only [bxL]; omega)) only [↓bxD, bxP, bxQ, Nat.reduceBEq, reduceCtorEq, Nat.reduceAdd, Nat.reduceSub, Nat.reduceMul, Nat.reduceLeDiff, Nat.reduceLT, bxR, h1, h6, h7, h24, h25, d1, r1, r2, s1, s2, hg, hC]
          show Wp fns K9_1 _ _ _
          unfold K9_1
          simp (maxSteps := 4000000) (disch := first | omega | assumption | (simp only [bxS, bxV, stOk, Nat.reduceBEq, Nat.reduceEqDiff, Nat.reduceAdd]; done) | (simp only [bxU]; omega) | ((try apply has_setN); apply has_ofL; simp only [bxL]; omega)) only [↓bxD, bxP, bxQ, Nat.reduceBEq, reduceCtorEq, Nat.reduceAdd, Nat.reduceSub, Nat.reduceMul, Nat.reduceLeDiff, Nat.reduceLT, bxR, h1, h6, h7, h24, h25, d1, r1, r2, s1, s2, hg, hC]
          exact ⟨x04, _, hu, rfl⟩
        | true =>
          rw [hb] at hC
          cases hb2 : bAt (S.map fun z => decide (0 ≤ z)) i with
          | false =>
            rw [hb2] at hC2
            have hu := use (by rw [hb2]; simp)
            simp (maxSteps := 4000000) (disch := first | omega | assumption | (simp only [bxS, bxV, stOk, Nat.reduceBEq, Nat.reduceEqDiff, Nat.reduceAdd]; done) | (simp only [bxU]; omega) | ((try apply has_setN); apply has_ofL; simp only [bxL]; omega)) only [↓bxD, bxP, bxQ, Nat.reduceBEq, reduceCtorEq, Nat.reduceAdd, Nat.reduceSub, Nat.reduceMul, Nat.reduceLeDiff, Nat.reduceLT, bxR, h1, h6, h7, h24, h25, d1, r1, r2, s1, s2, hg, hC, hg2, hC2]
            show Wp fns K9_1 _ _ _
            unfold K9_1
            simp (maxSteps := 4000000) (disch := first | omega | assumption | (simp only [bxS, bxV, stOk, Nat.reduceBEq, Nat.reduceEqDiff, Nat.reduceAdd]; done) | (simp only [bxU]; omega) | ((try apply has_setN); apply has_ofL; simp only [bxL]; omega)) only [↓bxD, bxP, bxQ, Nat.reduceBEq, reduceCtorEq, Nat.reduceAdd, Nat.reduceSub, Nat.reduceMul, Nat.reduceLeDiff, Nat.reduceLT, bxR, h1, h6, h7, h24, h25, d1, r1, r2, s1, s2, hg, hC, hg2, hC2]
            exact ⟨x04, _, hu, rfl⟩
          | true =>
            rw [hb2] at hC2
            simp (maxSteps := 4000000) (disch := first | omega | assumption | (simp only [bxS, bxV, stOk, Nat.reduceBEq, Nat.reduceEqDiff, Nat.reduceAdd]; done) | (simp only [bxU]; omega) | ((try apply has_setN); apply has_ofL; simp only [bxL]; omega)) only [↓bxD, bxP, bxQ, Nat.reduceBEq, reduceCtorEq, Nat.reduceAdd, Nat.reduceSub, Nat.reduceMul, Nat.reduceLeDiff, Nat.reduceLT, bxR, h1, h6, h7, h24, h25, d1, r1, r2, s1, s2, hg, hC, hg2, hC2]
            show Wp fns K9_1 _ _ _
            unfold K9_1
            simp (maxSteps := 4000000) (disch := first | omega | assumption | (simp only [bxS, bxV, stOk, Nat.reduceBEq, Nat.reduceEqDiff, Nat.reduceAdd]; done) | (simp only [bxU]; omega) | ((try apply has_setN); apply has_ofL; simp only [bxL]; omega)) only [↓bxD, bxP, bxQ, Nat.reduceBEq, reduceCtorEq, Nat.reduceAdd, Nat.reduceSub, Nat.reduceMul, Nat.reduceLeDiff, Nat.reduceLT, bxR, h1, h6, h7, h24, h25, d1, r1, r2, s1, s2, hg, hC, hg2, hC2]
            show Wp fns K9_0 _ _ _
            unfold K9_0
            simp (maxSteps := 4000000) (disch := first | omega | assumption | (simp only [bxS, bxV, stOk, Nat.reduceBEq, Nat.reduceEqDiff, Nat.reduceAdd]; done) | (simp only [bxU]; omega) | ((try apply has_setN); apply has_ofL; simp only [bxL]; omega)) only [↓bxD, bxP, bxQ, Nat.reduceBEq, reduceCtorEq, Nat.reduceAdd, Nat.reduceSub, Nat.reduceMul, Nat.reduceLeDiff, Nat.reduceLT, bxR, h1, h6, h7, h24, h25, d1, r1, r2, s1, s2, hg, hC, hg2, hC2]
            refine ⟨i + 1, by omega, by omega, fun k hk' => ?_, rfl⟩
            by_cases e : k = i
            · subst e; rw [hb, hb2]; rfl
            · exact hk k (by omega)
      · have d1 : decide ((i : Int) < (nn : Int)) = false := decide_eq_false (by omega)
        obtain rfl : i = nn := by omega
        have hnone : firstP (fun i => !(bAt R i) || !(bAt (S.map fun z => decide (0 ≤ z)) i)) g.names.toNat 0 = none := firstP_no fun m _ hm => hk m (by omega)
        simp (maxSteps := 4000000) (disch := first | omega | assumption | (simp only [bxS, bxV, stOk, Nat.reduceBEq, Nat.reduceEqDiff, Nat.reduceAdd]; done) | (simp only [bxU]; omega) | ((try apply has_setN); apply has_ofL; simp only [bxL]; omega)) only [↓bxD, bxP, bxQ, Nat.reduceBEq, reduceCtorEq, Nat.reduceAdd, Nat.reduceSub, Nat.reduceMul, Nat.reduceLeDiff, Nat.reduceLT, bxR, h1, h6, h7, h24, h25, d1, g4, hG]
        show Wp fns K9_4 _ _ _
        unfold K9_4
        simp (maxSteps := 4000000) (disch := first | omega | assumption | (simp only [bxS, bxV, stOk, Nat.reduceBEq, Nat.reduceEqDiff, Nat.reduceAdd]; done) | (simp only [bxU]; omega) | ((try apply has_setN); apply has_ofL; simp only [bxL]; omega)) only [↓bxD, bxP, bxQ, Nat.reduceBEq, reduceCtorEq, Nat.reduceAdd, Nat.reduceSub, Nat.reduceMul, Nat.reduceLeDiff, Nat.reduceLT, bxR, h1, h6, h7, h24, h25, d1, g4, hG]
        refine bindP_call (pcyclic_any hgr4 (by omega)) ?_
        rintro m5 M5 ⟨x5, ⟨hne, _⟩ | ⟨_, N', hN', hNr⟩⟩
        · exact absurd hz hne
        obtain rfl := nul_ext hN' hN
        simp (maxSteps := 4000000) (disch := first | omega | assumption | (simp only [bxS, bxV, stOk, Nat.reduceBEq, Nat.reduceEqDiff, Nat.reduceAdd]; done) | (simp only [bxU]; omega) | ((try apply has_setN); apply has_ofL; simp only [bxL]; omega)) only [↓bxD, bxP, bxQ, Nat.reduceBEq, reduceCtorEq, Nat.reduceAdd, Nat.reduceSub, Nat.reduceMul, Nat.reduceLeDiff, Nat.reduceLT, bxR, h1, h6, h7, h24, h25, d1, g4, hG]
        refine bindP_call (index_true hNr (by rw [cyL_len]; omega)) ?_
        rintro m6 M6 ⟨rfl, rfl⟩
        rw [cyL_len]
        cases e2 : firstP (bAt (cyL g N')) g.names.toNat 0 with
        | some k =>
          have d3 : decide (0 ≤ (k : Int)) = true := decide_eq_true (by omega)
          have hu := chk_cycle hz hR hS hN hnone e2
          simp (maxSteps := 4000000) (disch := first | omega | assumption | (simp only [bxS, bxV, stOk, Nat.reduceBEq, Nat.reduceEqDiff, Nat.reduceAdd]; done) | (simp only [bxU]; omega) | ((try apply has_setN); apply has_ofL; simp only [bxL]; omega)) only [↓bxD, bxP, bxQ, Nat.reduceBEq, reduceCtorEq, Nat.reduceAdd, Nat.reduceSub, Nat.reduceMul, Nat.reduceLeDiff, Nat.reduceLT, bxR, h1, h6, h7, h24, h25, d1, g4, hG, d3]
          exact ⟨x04.trans x5, _, hu, rfl⟩
        | none =>
          have hu := chk_fine hz hR hS hN hnone e2
          have d3 : decide ((0 : Int) ≤ -1) = false := rfl
          simp (maxSteps := 4000000) (disch := first | omega | assumption | (simp only [bxS, bxV, stOk, Nat.reduceBEq, Nat.reduceEqDiff, Nat.reduceAdd]; done) | (simp only [bxU]; omega) | ((try apply has_setN); apply has_ofL; simp only [bxL]; omega)) only [↓bxD, bxP, bxQ, Nat.reduceBEq, reduceCtorEq, Nat.reduceAdd, Nat.reduceSub, Nat.reduceMul, Nat.reduceLeDiff, Nat.reduceLT, bxR, h1, h6, h7, h24, h25, d1, g4, hG, d3]
          show Wp fns K9_3 _ _ _
          unfold K9_3
          simp (maxSteps := 4000000) (disch := first | omega | assumption | (simp only [bxS, bxV, stOk, Nat.reduceBEq, Nat.reduceEqDiff, Nat.reduceAdd]; done) | (simp only [bxU]; omega) | ((try apply has_setN); apply has_ofL; simp only [bxL]; omega)) only [↓bxD, bxP, bxQ, Nat.reduceBEq, reduceCtorEq, Nat.reduceAdd, Nat.reduceSub, Nat.reduceMul, Nat.reduceLeDiff, Nat.reduceLT, bxR, h1, h6, h7, h24, h25, d1, g4, hG]
          exact ⟨x04.trans x5, _, hu, rfl⟩
    · exact ⟨rfl, Nat.zero_le _, fun k hk => absurd hk (Nat.not_lt_zero k), by simp only [bxP, bxQ, reduceCtorEq, hG, g4, cg0], by simp only [bxP, bxQ, reduceCtorEq, hG, g4, cg0], by simp only [bxP, bxQ, reduceCtorEq, hG, g4, cg0], by simp only [bxP, bxQ, reduceCtorEq, hG, g4, cg0] <;> rfl, by simp only [bxP, bxQ, reduceCtorEq, hG, g4, cg0] <;> rfl⟩
  · have dz : decide ((formP g).2 ≠ 0) = true := decide_eq_true hz
    simp (maxSteps := 4000000) (disch := first | omega | assumption | (simp only [bxS, bxV, stOk, Nat.reduceBEq, Nat.reduceEqDiff, Nat.reduceAdd]; done) | (simp only [bxU]; omega) | ((try apply has_setN); apply has_ofL; simp only [bxL]; omega)) only [↓bxD, bxP, bxQ, Nat.reduceBEq, reduceCtorEq, Nat.reduceAdd, Nat.reduceSub, Nat.reduceMul, Nat.reduceLeDiff, Nat.reduceLT, bxR, hG, g2, dz]
    exact ⟨x02, formP g, .inl ⟨hz, rfl⟩, rfl⟩
end Go.Proofs.Ytddaggodpmhmpaa.K
