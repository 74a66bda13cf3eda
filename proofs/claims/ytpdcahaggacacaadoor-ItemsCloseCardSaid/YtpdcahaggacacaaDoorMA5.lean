/-
  What the claim leans on, part 5: The program's Form: what is asked of the whole. Conditions: none. The program's Form gives what chapter 10 asks. Conditions: none. The program's shortest. Conditions: none. The program's shortest, Shortest and Productive. Conditions: none. The program's Close. Conditions: none. A row that is taken from the front and appended to. Conditions: none. The document's Close. Conditions: none. Two lists of items are one: the document's comparison. Conditions: none. The document's Reachable. Conditions: none. The program's mark and Reachable. Conditions: none. The document's Shortest: a row. Conditions
-/
import Derived.Test.YtpdcahaggacacaaDoorMA4
import Derived.Test.YtpdcahaggacacaaDoorMA3
import Derived.Test.YtpdcahaggacacaaDoorProg
import Derived.KernelRfl
set_option linter.unusedSimpArgs false
set_option linter.unusedVariables false
namespace Go.Proofs.YtpdcahaggacacaaDoor.K
open Go Ev
set_option maxRecDepth 100000
set_option maxHeartbeats 4000000

theorem wholeError_any {M : MH} {g : Gr} {vr vf vc vk : MV} {es : List (List MV)} (h : GrAt M vr vf vc vk es g) (hlo : M.lo ≤ M.n) :
    Cp fns 43 [.ag (gcs g vr vf vc vk)] M fun m M' => m = .i .i64 (numE (headE g)) ∧ Ext M M' := by
  obtain ⟨hr1, hr2⟩ := h.rules.row.sl
  rw [h.rules.len] at hr2
  obtain ⟨hf1, hf2⟩ := h.forbid.sl
  rw [List.length_map] at hf2
  obtain ⟨hc1, hc2⟩ := h.rc.sl
  obtain ⟨hk1, hk2⟩ := h.kc.sl
  obtain ⟨hw1, hw2, hw3, hw4⟩ := h.wf.lens
  refine Cp_call (fn := F43) (by kernel_rfl) (Nat.le_of_ble_eq_true rfl) ?_
  show Wp fns B43 (T.set q0 (some (.ag (gcs g vr vf vc vk))) T.lf) M _
  unfold B43
  rw [show gcs g vr vf vc vk = [MV.i IntKind.i64 g.names, MV.i IntKind.i64 g.kinds, MV.i IntKind.i64 g.start, vr, vf, vc, vk] from rfl]
  simp (maxSteps := 4000000) (disch := first | omega | assumption | (simp only [bxS, bxV, stOk, Nat.reduceBEq, Nat.reduceEqDiff, Nat.reduceAdd]; done) | (simp only [bxU]; omega) | ((try apply has_setN); apply has_ofL; simp only [bxL]; omega)) only [↓bxD, bxP, bxQ, Nat.reduceBEq, reduceCtorEq, Nat.reduceAdd, Nat.reduceSub, Nat.reduceMul, Nat.reduceLeDiff, Nat.reduceLT, bxR, hr1, hr2, hf1, hf2, hc1, hc2, hk1, hk2]
  generalize hM1 : M.push _ = M1
  have hb0 : M1.get M.n = some (.cs false 7 (ofL [MV.i IntKind.i64 g.names, MV.i IntKind.i64 g.kinds, MV.i IntKind.i64 g.start, vr, vf, vc, vk] 0)) := by rw [← hM1]; exact push_new _
  have hx1 : Ext M M1 := by rw [← hM1]; exact .push M _
  have hn1 : M1.n = M.n + 1 := by rw [← hM1]; rfl
  have hl1 := hx1.lo
  clear hM1
  have h1 := h.ext hx1
  have hq1 : ∀ (c : Prop) [Decidable c], c → decide c = true := fun c _ h => decide_eq_true h
  by_cases ca0 : g.names < 1
  · have da0 : decide (g.names < 1) = true := decide_eq_true ca0
    simp (maxSteps := 4000000) (disch := first | omega | assumption | (simp only [bxS, bxV, stOk, Nat.reduceBEq, Nat.reduceEqDiff, Nat.reduceAdd]; done) | (simp only [bxU]; omega) | ((try apply has_setN); apply has_ofL; simp only [bxL]; omega)) only [↓bxD, bxP, bxQ, Nat.reduceBEq, reduceCtorEq, Nat.reduceAdd, Nat.reduceSub, Nat.reduceMul, Nat.reduceLeDiff, Nat.reduceLT, bxR, hr1, hr2, hf1, hf2, hc1, hc2, hk1, hk2, hb0, da0]
    show Wp fns K43_1 _ _ _
    unfold K43_1
    simp (maxSteps := 4000000) (disch := first | omega | assumption | (simp only [bxS, bxV, stOk, Nat.reduceBEq, Nat.reduceEqDiff, Nat.reduceAdd]; done) | (simp only [bxU]; omega) | ((try apply has_setN); apply has_ofL; simp only [bxL]; omega)) only [↓bxD, bxP, bxQ, Nat.reduceBEq, reduceCtorEq, Nat.reduceAdd, Nat.reduceSub, Nat.reduceMul, Nat.reduceLeDiff, Nat.reduceLT, bxR, hr1, hr2, hf1, hf2, hc1, hc2, hk1, hk2, hb0, da0]
    exact ⟨by unfold headE; rw [if_pos (by omega)]; rfl, hx1⟩
  have da0 : decide (g.names < 1) = false := decide_eq_false ca0
  by_cases ca1 : 40 < g.names
  · have da1 : decide (40 < g.names) = true := decide_eq_true ca1
    simp (maxSteps := 4000000) (disch := first | omega | assumption | (simp only [bxS, bxV, stOk, Nat.reduceBEq, Nat.reduceEqDiff, Nat.reduceAdd]; done) | (simp only [bxU]; omega) | ((try apply has_setN); apply has_ofL; simp only [bxL]; omega)) only [↓bxD, bxP, bxQ, Nat.reduceBEq, reduceCtorEq, Nat.reduceAdd, Nat.reduceSub, Nat.reduceMul, Nat.reduceLeDiff, Nat.reduceLT, bxR, hr1, hr2, hf1, hf2, hc1, hc2, hk1, hk2, hb0, da0, da1]
    show Wp fns K43_1 _ _ _
    unfold K43_1
    simp (maxSteps := 4000000) (disch := first | omega | assumption | (simp only [bxS, bxV, stOk, Nat.reduceBEq, Nat.reduceEqDiff, Nat.reduceAdd]; done) | (simp only [bxU]; omega) | ((try apply has_setN); apply has_ofL; simp only [bxL]; omega)) only [↓bxD, bxP, bxQ, Nat.reduceBEq, reduceCtorEq, Nat.reduceAdd, Nat.reduceSub, Nat.reduceMul, Nat.reduceLeDiff, Nat.reduceLT, bxR, hr1, hr2, hf1, hf2, hc1, hc2, hk1, hk2, hb0, da0, da1]
    exact ⟨by unfold headE; rw [if_pos (by omega)]; rfl, hx1⟩
  have da1 : decide (40 < g.names) = false := decide_eq_false ca1
  by_cases ca2 : g.kinds < 0
  · have da2 : decide (g.kinds < 0) = true := decide_eq_true ca2
    simp (maxSteps := 4000000) (disch := first | omega | assumption | (simp only [bxS, bxV, stOk, Nat.reduceBEq, Nat.reduceEqDiff, Nat.reduceAdd]; done) | (simp only [bxU]; omega) | ((try apply has_setN); apply has_ofL; simp only [bxL]; omega)) only [↓bxD, bxP, bxQ, Nat.reduceBEq, reduceCtorEq, Nat.reduceAdd, Nat.reduceSub, Nat.reduceMul, Nat.reduceLeDiff, Nat.reduceLT, bxR, hr1, hr2, hf1, hf2, hc1, hc2, hk1, hk2, hb0, da0, da1, da2]
    show Wp fns K43_1 _ _ _
    unfold K43_1
    simp (maxSteps := 4000000) (disch := first | omega | assumption | (simp only [bxS, bxV, stOk, Nat.reduceBEq, Nat.reduceEqDiff, Nat.reduceAdd]; done) | (simp only [bxU]; omega) | ((try apply has_setN); apply has_ofL; simp only [bxL]; omega)) only [↓bxD, bxP, bxQ, Nat.reduceBEq, reduceCtorEq, Nat.reduceAdd, Nat.reduceSub, Nat.reduceMul, Nat.reduceLeDiff, Nat.reduceLT, bxR, hr1, hr2, hf1, hf2, hc1, hc2, hk1, hk2, hb0, da0, da1, da2]
    exact ⟨by unfold headE; rw [if_pos (by omega)]; rfl, hx1⟩
  have da2 : decide (g.kinds < 0) = false := decide_eq_false ca2
  by_cases ca3 : 40 < g.kinds
  · have da3 : decide (40 < g.kinds) = true := decide_eq_true ca3
    simp (maxSteps := 4000000) (disch := first | omega | assumption | (simp only [bxS, bxV, stOk, Nat.reduceBEq, Nat.reduceEqDiff, Nat.reduceAdd]; done) | (simp only [bxU]; omega) | ((try apply has_setN); apply has_ofL; simp only [bxL]; omega)) only [↓bxD, bxP, bxQ, Nat.reduceBEq, reduceCtorEq, Nat.reduceAdd, Nat.reduceSub, Nat.reduceMul, Nat.reduceLeDiff, Nat.reduceLT, bxR, hr1, hr2, hf1, hf2, hc1, hc2, hk1, hk2, hb0, da0, da1, da2, da3]
    show Wp fns K43_1 _ _ _
    unfold K43_1
    simp (maxSteps := 4000000) (disch := first | omega | assumption | (simp only [bxS, bxV, stOk, Nat.reduceBEq, Nat.reduceEqDiff, Nat.reduceAdd]; done) | (simp only [bxU]; omega) | ((try apply has_setN); apply has_ofL; simp only [bxL]; omega)) only [↓bxD, bxP, bxQ, Nat.reduceBEq, reduceCtorEq, Nat.reduceAdd, Nat.reduceSub, Nat.reduceMul, Nat.reduceLeDiff, Nat.reduceLT, bxR, hr1, hr2, hf1, hf2, hc1, hc2, hk1, hk2, hb0, da0, da1, da2, da3]
    exact ⟨by unfold headE; rw [if_pos (by omega)]; rfl, hx1⟩
  have da3 : decide (40 < g.kinds) = false := decide_eq_false ca3
  by_cases ca4 : (60 : Int) < (g.rules.length : Int)
  · have da4 : decide ((60 : Int) < (g.rules.length : Int)) = true := decide_eq_true ca4
    simp (maxSteps := 4000000) (disch := first | omega | assumption | (simp only [bxS, bxV, stOk, Nat.reduceBEq, Nat.reduceEqDiff, Nat.reduceAdd]; done) | (simp only [bxU]; omega) | ((try apply has_setN); apply has_ofL; simp only [bxL]; omega)) only [↓bxD, bxP, bxQ, Nat.reduceBEq, reduceCtorEq, Nat.reduceAdd, Nat.reduceSub, Nat.reduceMul, Nat.reduceLeDiff, Nat.reduceLT, bxR, hr1, hr2, hf1, hf2, hc1, hc2, hk1, hk2, hb0, da0, da1, da2, da3, da4]
    show Wp fns K43_1 _ _ _
    unfold K43_1
    simp (maxSteps := 4000000) (disch := first | omega | assumption | (simp only [bxS, bxV, stOk, Nat.reduceBEq, Nat.reduceEqDiff, Nat.reduceAdd]; done) | (simp only [bxU]; omega) | ((try apply has_setN); apply has_ofL; simp only [bxL]; omega)) only [↓bxD, bxP, bxQ, Nat.reduceBEq, reduceCtorEq, Nat.reduceAdd, Nat.reduceSub, Nat.reduceMul, Nat.reduceLeDiff, Nat.reduceLT, bxR, hr1, hr2, hf1, hf2, hc1, hc2, hk1, hk2, hb0, da0, da1, da2, da3, da4]
    exact ⟨by unfold headE; rw [if_pos (by omega)]; rfl, hx1⟩
  have da4 : decide ((60 : Int) < (g.rules.length : Int)) = false := decide_eq_false ca4
  by_cases ca5 : (200 : Int) < (g.forbid.length : Int)
  · have da5 : decide ((200 : Int) < (g.forbid.length : Int)) = true := decide_eq_true ca5
    simp (maxSteps := 4000000) (disch := first | omega | assumption | (simp only [bxS, bxV, stOk, Nat.reduceBEq, Nat.reduceEqDiff, Nat.reduceAdd]; done) | (simp only [bxU]; omega) | ((try apply has_setN); apply has_ofL; simp only [bxL]; omega)) only [↓bxD, bxP, bxQ, Nat.reduceBEq, reduceCtorEq, Nat.reduceAdd, Nat.reduceSub, Nat.reduceMul, Nat.reduceLeDiff, Nat.reduceLT, bxR, hr1, hr2, hf1, hf2, hc1, hc2, hk1, hk2, hb0, da0, da1, da2, da3, da4, da5]
    show Wp fns K43_1 _ _ _
    unfold K43_1
    simp (maxSteps := 4000000) (disch := first | omega | assumption | (simp only [bxS, bxV, stOk, Nat.reduceBEq, Nat.reduceEqDiff, Nat.reduceAdd]; done) | (simp only [bxU]; omega) | ((try apply has_setN); apply has_ofL; simp only [bxL]; omega)) only [↓bxD, bxP, bxQ, Nat.reduceBEq, reduceCtorEq, Nat.reduceAdd, Nat.reduceSub, Nat.reduceMul, Nat.reduceLeDiff, Nat.reduceLT, bxR, hr1, hr2, hf1, hf2, hc1, hc2, hk1, hk2, hb0, da0, da1, da2, da3, da4, da5]
    exact ⟨by unfold headE; rw [if_pos (by omega)]; rfl, hx1⟩
  have da5 : decide ((200 : Int) < (g.forbid.length : Int)) = false := decide_eq_false ca5
  simp (maxSteps := 4000000) (disch := first | omega | assumption | (simp only [bxS, bxV, stOk, Nat.reduceBEq, Nat.reduceEqDiff, Nat.reduceAdd]; done) | (simp only [bxU]; omega) | ((try apply has_setN); apply has_ofL; simp only [bxL]; omega)) only [↓bxD, bxP, bxQ, Nat.reduceBEq, reduceCtorEq, Nat.reduceAdd, Nat.reduceSub, Nat.reduceMul, Nat.reduceLeDiff, Nat.reduceLT, bxR, hr1, hr2, hf1, hf2, hc1, hc2, hk1, hk2, hb0, da0, da1, da2, da3, da4, da5]
  show Wp fns K43_1 _ _ _
  unfold K43_1
  simp (maxSteps := 4000000) (disch := first | omega | assumption | (simp only [bxS, bxV, stOk, Nat.reduceBEq, Nat.reduceEqDiff, Nat.reduceAdd]; done) | (simp only [bxU]; omega) | ((try apply has_setN); apply has_ofL; simp only [bxL]; omega)) only [↓bxD, bxP, bxQ, Nat.reduceBEq, reduceCtorEq, Nat.reduceAdd, Nat.reduceSub, Nat.reduceMul, Nat.reduceLeDiff, Nat.reduceLT, bxR, hr1, hr2, hf1, hf2, hc1, hc2, hk1, hk2, hb0, da0, da1, da2, da3, da4, da5]
  have hh1 : ¬ (g.names < 1 ∨ 40 < g.names ∨ g.kinds < 0 ∨ 40 < g.kinds ∨ (60 : Int) < (g.rules.length : Int) ∨ (200 : Int) < (g.forbid.length : Int)) := by omega
  refine bindP_call number_any ?_
  rintro m M2 ⟨rfl, rfl⟩
  simp (maxSteps := 4000000) (disch := first | omega | assumption | (simp only [bxS, bxV, stOk, Nat.reduceBEq, Nat.reduceEqDiff, Nat.reduceAdd]; done) | (simp only [bxU]; omega) | ((try apply has_setN); apply has_ofL; simp only [bxL]; omega)) only [↓bxD, bxP, bxQ, Nat.reduceBEq, reduceCtorEq, Nat.reduceAdd, Nat.reduceSub, Nat.reduceMul, Nat.reduceLeDiff, Nat.reduceLT, bxR, hr1, hr2, hf1, hf2, hc1, hc2, hk1, hk2, hb0, da0, da1, da2, da3, da4, da5]
  cases cs : isN g.start g.names with
  | false =>
    simp (maxSteps := 4000000) (disch := first | omega | assumption | (simp only [bxS, bxV, stOk, Nat.reduceBEq, Nat.reduceEqDiff, Nat.reduceAdd]; done) | (simp only [bxU]; omega) | ((try apply has_setN); apply has_ofL; simp only [bxL]; omega)) only [↓bxD, bxP, bxQ, Nat.reduceBEq, reduceCtorEq, Nat.reduceAdd, Nat.reduceSub, Nat.reduceMul, Nat.reduceLeDiff, Nat.reduceLT, bxR, hr1, hr2, hf1, hf2, hc1, hc2, hk1, hk2, hb0, da0, da1, da2, da3, da4, da5, cs]
    unfold isN at cs
    simp only [Bool.and_eq_false_iff, decide_eq_false_iff_not] at cs
    exact ⟨by unfold headE; rw [if_neg hh1, if_pos (by omega)]; rfl, hx1⟩
  | true =>
  simp (maxSteps := 4000000) (disch := first | omega | assumption | (simp only [bxS, bxV, stOk, Nat.reduceBEq, Nat.reduceEqDiff, Nat.reduceAdd]; done) | (simp only [bxU]; omega) | ((try apply has_setN); apply has_ofL; simp only [bxL]; omega)) only [↓bxD, bxP, bxQ, Nat.reduceBEq, reduceCtorEq, Nat.reduceAdd, Nat.reduceSub, Nat.reduceMul, Nat.reduceLeDiff, Nat.reduceLT, bxR, hr1, hr2, hf1, hf2, hc1, hc2, hk1, hk2, hb0, cs]
  unfold isN at cs
  simp only [Bool.and_eq_true, decide_eq_true_eq] at cs
  refine bindP_call (areClasses_any h1.rc hw3) ?_
  rintro m M2 ⟨rfl, hx2⟩
  have hb2 := (hx2.old _ (by omega)).trans hb0
  have hn2 := hx2.n
  simp (maxSteps := 4000000) (disch := first | omega | assumption | (simp only [bxS, bxV, stOk, Nat.reduceBEq, Nat.reduceEqDiff, Nat.reduceAdd]; done) | (simp only [bxU]; omega) | ((try apply has_setN); apply has_ofL; simp only [bxL]; omega)) only [↓bxD, bxP, bxQ, Nat.reduceBEq, reduceCtorEq, Nat.reduceAdd, Nat.reduceSub, Nat.reduceMul, Nat.reduceLeDiff, Nat.reduceLT, bxR, hr1, hr2, hf1, hf2, hc1, hc2, hk1, hk2, hb2]
  have hh2 : headE g = if (g.rules.length : Int) < (g.rc.length : Int) ∨ g.kinds < (g.kc.length : Int) ∨ clsB g.rc = false ∨ clsB g.kc = false then some 1 else none := by
    unfold headE
    rw [if_neg hh1, if_neg (by omega)]
  cases e1 : (decide ((g.rc.length : Int) ≤ (g.rules.length : Int)) && clsB g.rc) with
  | false =>
    simp (maxSteps := 4000000) (disch := first | omega | assumption | (simp only [bxS, bxV, stOk, Nat.reduceBEq, Nat.reduceEqDiff, Nat.reduceAdd]; done) | (simp only [bxU]; omega) | ((try apply has_setN); apply has_ofL; simp only [bxL]; omega)) only [↓bxD, bxP, bxQ, Nat.reduceBEq, reduceCtorEq, Nat.reduceAdd, Nat.reduceSub, Nat.reduceMul, Nat.reduceLeDiff, Nat.reduceLT, bxR, hr1, hr2, hf1, hf2, hc1, hc2, hk1, hk2, hb2, e1]
    show Wp fns K43_0 _ _ _
    unfold K43_0
    simp (maxSteps := 4000000) (disch := first | omega | assumption | (simp only [bxS, bxV, stOk, Nat.reduceBEq, Nat.reduceEqDiff, Nat.reduceAdd]; done) | (simp only [bxU]; omega) | ((try apply has_setN); apply has_ofL; simp only [bxL]; omega)) only [↓bxD, bxP, bxQ, Nat.reduceBEq, reduceCtorEq, Nat.reduceAdd, Nat.reduceSub, Nat.reduceMul, Nat.reduceLeDiff, Nat.reduceLT, bxR, hr1, hr2, hf1, hf2, hc1, hc2, hk1, hk2, hb2]
    simp only [Bool.and_eq_false_iff, decide_eq_false_iff_not] at e1
    exact ⟨by rw [hh2, if_pos (by rcases e1 with e1 | e1; exact .inl (by omega); exact .inr (.inr (.inl e1)))]; rfl, hx1.trans hx2⟩
  | true =>
  simp (maxSteps := 4000000) (disch := first | omega | assumption | (simp only [bxS, bxV, stOk, Nat.reduceBEq, Nat.reduceEqDiff, Nat.reduceAdd]; done) | (simp only [bxU]; omega) | ((try apply has_setN); apply has_ofL; simp only [bxL]; omega)) only [↓bxD, bxP, bxQ, Nat.reduceBEq, reduceCtorEq, Nat.reduceAdd, Nat.reduceSub, Nat.reduceMul, Nat.reduceLeDiff, Nat.reduceLT, bxR, hr1, hr2, hf1, hf2, hc1, hc2, hk1, hk2, hb2, e1]
  refine bindP_call (areClasses_any (h1.kc.ext hx2) hw4) ?_
  rintro m M3 ⟨rfl, hx3⟩
  simp (maxSteps := 4000000) (disch := first | omega | assumption | (simp only [bxS, bxV, stOk, Nat.reduceBEq, Nat.reduceEqDiff, Nat.reduceAdd]; done) | (simp only [bxU]; omega) | ((try apply has_setN); apply has_ofL; simp only [bxL]; omega)) only [↓bxD, bxP, bxQ, Nat.reduceBEq, reduceCtorEq, Nat.reduceAdd, Nat.reduceSub, Nat.reduceMul, Nat.reduceLeDiff, Nat.reduceLT, bxR, hr1, hr2, hf1, hf2, hc1, hc2, hk1, hk2, hb2]
  simp only [Bool.and_eq_true, decide_eq_true_eq] at e1
  cases e2 : (decide ((g.kc.length : Int) ≤ g.kinds) && clsB g.kc) with
  | false =>
    simp (maxSteps := 4000000) (disch := first | omega | assumption | (simp only [bxS, bxV, stOk, Nat.reduceBEq, Nat.reduceEqDiff, Nat.reduceAdd]; done) | (simp only [bxU]; omega) | ((try apply has_setN); apply has_ofL; simp only [bxL]; omega)) only [↓bxD, bxP, bxQ, Nat.reduceBEq, reduceCtorEq, Nat.reduceAdd, Nat.reduceSub, Nat.reduceMul, Nat.reduceLeDiff, Nat.reduceLT, bxR, hr1, hr2, hf1, hf2, hc1, hc2, hk1, hk2, hb2, e2]
    show Wp fns K43_0 _ _ _
    unfold K43_0
    simp (maxSteps := 4000000) (disch := first | omega | assumption | (simp only [bxS, bxV, stOk, Nat.reduceBEq, Nat.reduceEqDiff, Nat.reduceAdd]; done) | (simp only [bxU]; omega) | ((try apply has_setN); apply has_ofL; simp only [bxL]; omega)) only [↓bxD, bxP, bxQ, Nat.reduceBEq, reduceCtorEq, Nat.reduceAdd, Nat.reduceSub, Nat.reduceMul, Nat.reduceLeDiff, Nat.reduceLT, bxR, hr1, hr2, hf1, hf2, hc1, hc2, hk1, hk2, hb2]
    simp only [Bool.and_eq_false_iff, decide_eq_false_iff_not] at e2
    exact ⟨by rw [hh2, if_pos (by rcases e2 with e2 | e2; exact .inr (.inl (by omega)); exact .inr (.inr (.inr e2)))]; rfl, (hx1.trans hx2).trans hx3⟩
  | true =>
  simp (maxSteps := 4000000) (disch := first | omega | assumption | (simp only [bxS, bxV, stOk, Nat.reduceBEq, Nat.reduceEqDiff, Nat.reduceAdd]; done) | (simp only [bxU]; omega) | ((try apply has_setN); apply has_ofL; simp only [bxL]; omega)) only [↓bxD, bxP, bxQ, Nat.reduceBEq, reduceCtorEq, Nat.reduceAdd, Nat.reduceSub, Nat.reduceMul, Nat.reduceLeDiff, Nat.reduceLT, bxR, hr1, hr2, hf1, hf2, hc1, hc2, hk1, hk2, hb2, e2]
  show Wp fns K43_0 _ _ _
  unfold K43_0
  simp (maxSteps := 4000000) (disch := first | omega | assumption | (simp only [bxS, bxV, stOk, Nat.reduceBEq, Nat.reduceEqDiff, Nat.reduceAdd]; done) | (simp only [bxU]; omega) | ((try apply has_setN); apply has_ofL; simp only [bxL]; omega)) only [↓bxD, bxP, bxQ, Nat.reduceBEq, reduceCtorEq, Nat.reduceAdd, Nat.reduceSub, Nat.reduceMul, Nat.reduceLeDiff, Nat.reduceLT, bxR, hr1, hr2, hf1, hf2, hc1, hc2, hk1, hk2, hb2]
  show Wp fns K43_2 _ _ _
  unfold K43_2
  simp (maxSteps := 4000000) (disch := first | omega | assumption | (simp only [bxS, bxV, stOk, Nat.reduceBEq, Nat.reduceEqDiff, Nat.reduceAdd]; done) | (simp only [bxU]; omega) | ((try apply has_setN); apply has_ofL; simp only [bxL]; omega)) only [↓bxD, bxP, bxQ, Nat.reduceBEq, reduceCtorEq, Nat.reduceAdd, Nat.reduceSub, Nat.reduceMul, Nat.reduceLeDiff, Nat.reduceLT, bxR, hr1, hr2, hf1, hf2, hc1, hc2, hk1, hk2, hb2]
  simp only [Bool.and_eq_true, decide_eq_true_eq] at e2
  refine ⟨?_, (hx1.trans hx2).trans hx3⟩
  rw [hh2, if_neg]
  · rfl
  · rintro (x | x | x | x)
    · omega
    · omega
    · rw [e1.2] at x; cases x
    · rw [e2.2] at x; cases x
theorem pform_forb {M0 M : MH} {g : Gr} {vr vf vc vk : MV} {es : List (List MV)} {f : Fr} (h : Rdy M0 M g vr vf vc vk es f) (hh : headE g = none) (hr : findE (ruleE g) g.rules 0 = none) : Wp fns K30_7 f M (retQ F30 (FormPost g M0)) := by
  have hq := h.fr
  have hbox := h.box
  obtain ⟨hf1, hf2⟩ := h.gr.forbid.sl
  rw [List.length_map] at hf2
  simp only [q1] at hq
  unfold gcs at hbox
  unfold K30_7
  simp (maxSteps := 4000000) (disch := first | omega | assumption | (simp only [bxS, bxV, stOk, Nat.reduceBEq, Nat.reduceEqDiff, Nat.reduceAdd]; done) | (simp only [bxU]; omega) | ((try apply has_setN); apply has_ofL; simp only [bxL]; omega)) only [↓bxD, bxP, bxQ, Nat.reduceBEq, reduceCtorEq, Nat.reduceAdd, Nat.reduceSub, Nat.reduceMul, Nat.reduceLeDiff, Nat.reduceLT, bxR, hq, hbox, hf1, hf2]
  refine Wp_inv (σ := Nat) (fun i f M' => Rdy M0 M' g vr vf vc vk es f ∧ i ≤ g.forbid.length ∧ X.ev f (.t q32) = vf ∧ X.ev f (.t q33) = .i .i64 (g.forbid.length : Int) ∧ X.ev f (.t q34) = .i .i64 (i : Int) ∧ (g.forbid.take i).any (badF g) = false) (fun i => g.forbid.length - i) ?_ 0 ?_
  · rintro i f M' ⟨h, hi, h32, h33, h34, hp⟩
    have hq := h.fr
    have hlo := h.lo0
    have hn := h.ext.n
    have hl := h.ext.lo
    have hlt := h.lt
    have hbox := h.box
    obtain ⟨hw1, hw2, _, _⟩ := h.gr.wf.lens
    simp only [q1, q32, q33, q34] at hq h32 h33 h34
    unfold gcs at hbox
    unfold L30_5
    simp (maxSteps := 4000000) (disch := first | omega | assumption | (simp only [bxS, bxV, stOk, Nat.reduceBEq, Nat.reduceEqDiff, Nat.reduceAdd]; done) | (simp only [bxU]; omega) | ((try apply has_setN); apply has_ofL; simp only [bxL]; omega)) only [↓bxD, bxP, bxQ, Nat.reduceBEq, reduceCtorEq, Nat.reduceAdd, Nat.reduceSub, Nat.reduceMul, Nat.reduceLeDiff, Nat.reduceLT, bxR, hq, h32, h33, h34, hf1, hf2]
    refine condP_split (fun hlt2 => ?_) (fun hge => ?_)
    · have hi' : i < g.forbid.length := by omega
      obtain ⟨x, hz⟩ : ∃ x, g.forbid[i]? = some x := ⟨_, List.getElem?_eq_getElem hi'⟩
      obtain ⟨x0, x1, x2⟩ := x
      obtain ⟨ro, s, t, hg, hid, hat⟩ := h.gr.forbid.read (i := i) (e := trip (x0, x1, x2)) (by rw [List.getElem?_map, hz]; rfl)
      have hN : Ev.getN t 3 (soff vf + i * 3) = some (trip (x0, x1, x2)) := hat.getN
      unfold trip at hN
      have hany : g.forbid.any (badF g) = ((g.forbid.take (i + 1)).any (badF g) || (g.forbid.drop (i + 1)).any (badF g)) := by rw [← List.any_append, List.take_append_drop]
      have htk : (g.forbid.take (i + 1)).any (badF g) = badF g (x0, x1, x2) := by rw [List.take_add_one, hz, List.any_append, hp]; simp
      have hbad : badF g (x0, x1, x2) = true → formP g = (-1, 6) := fun e => by unfold formP; rw [hh, hr]; simp only; rw [if_pos (by rw [hany, htk, e]; rfl)]
      have hG : Ev.getN (ofL [MV.i IntKind.i64 g.names, MV.i IntKind.i64 g.kinds, MV.i IntKind.i64 g.start, vr, vf, vc, vk] 0) 7 0 = some (gcs g vr vf vc vk) := (at_ofL (gcs g vr vf vc vk)).getN
      simp (maxSteps := 4000000) (disch := first | omega | assumption | (simp only [bxS, bxV, stOk, Nat.reduceBEq, Nat.reduceEqDiff, Nat.reduceAdd]; done) | (simp only [bxU]; omega) | ((try apply has_setN); apply has_ofL; simp only [bxL]; omega)) only [↓bxD, bxP, bxQ, Nat.reduceBEq, reduceCtorEq, Nat.reduceAdd, Nat.reduceSub, Nat.reduceMul, Nat.reduceLeDiff, Nat.reduceLT, bxR, hq, h32, h33, h34, hf1, hf2, hg, hN, hG]
      show Wp fns K30_4 _ _ _
      unfold K30_4
      simp (maxSteps := 4000000) (disch := first | omega | assumption | (simp only [bxS, bxV, stOk, Nat.reduceBEq, Nat.reduceEqDiff, Nat.reduceAdd]; done) | (simp only [bxU]; omega) | ((try apply has_setN); apply has_ofL; simp only [bxL]; omega)) only [↓bxD, bxP, bxQ, Nat.reduceBEq, reduceCtorEq, Nat.reduceAdd, Nat.reduceSub, Nat.reduceMul, Nat.reduceLeDiff, Nat.reduceLT, bxR, hq, h32, h33, h34, hf1, hf2, hg, hN, hG]
      generalize hM2 : (M'.push _).set M'.n _ = M2
      have hx2 : Ext M' M2 := by rw [← hM2]; exact (Ext.push M' _).set _ (Nat.le_refl _)
      have hn2 := hx2.n
      have hl2 := hx2.lo
      have h9 : M2.get M'.n = some (.cs false 3 (setN [.i .i64 x0, .i .i64 x1, .i .i64 x2] 0 (ofL [.i .i64 0, .i .i64 0, .i .i64 0] 0))) := by rw [← hM2, set_same]
      have hbox2 := (hx2.old _ hlt).trans hbox
      have hgr := h.gr.ext hx2
      clear hM2
      have hxx := h.ext.trans hx2
      simp (maxSteps := 4000000) (disch := first | omega | assumption | (simp only [bxS, bxV, stOk, Nat.reduceBEq, Nat.reduceEqDiff, Nat.reduceAdd]; done) | (simp only [bxU]; omega) | ((try apply has_setN); apply has_ofL; simp only [bxL]; omega)) only [↓bxD, bxP, bxQ, Nat.reduceBEq, reduceCtorEq, Nat.reduceAdd, Nat.reduceSub, Nat.reduceMul, Nat.reduceLeDiff, Nat.reduceLT, bxR, hq, h32, h33, h34, hf1, hf2, hG, hbox, hbox2, h9]
      refine bindP_call (canForbid_any hgr (by omega)) ?_
      rintro m M3 ⟨rfl, hx3⟩
      simp (maxSteps := 4000000) (disch := first | omega | assumption | (simp only [bxS, bxV, stOk, Nat.reduceBEq, Nat.reduceEqDiff, Nat.reduceAdd]; done) | (simp only [bxU]; omega) | ((try apply has_setN); apply has_ofL; simp only [bxL]; omega)) only [↓bxD, bxP, bxQ, Nat.reduceBEq, reduceCtorEq, Nat.reduceAdd, Nat.reduceSub, Nat.reduceMul, Nat.reduceLeDiff, Nat.reduceLT, bxR, hq, h32, h33, h34, hf1, hf2, hG, hbox, hbox2, h9]
      cases hb : badF g (x0, x1, x2) with
      | true =>
        simp (maxSteps := 4000000) (disch := first | omega | assumption | (simp only [bxS, bxV, stOk, Nat.reduceBEq, Nat.reduceEqDiff, Nat.reduceAdd]; done) | (simp only [bxU]; omega) | ((try apply has_setN); apply has_ofL; simp only [bxL]; omega)) only [↓bxD, bxP, bxQ, Nat.reduceBEq, reduceCtorEq, Nat.reduceAdd, Nat.reduceSub, Nat.reduceMul, Nat.reduceLeDiff, Nat.reduceLT, bxR, hq, h32, h33, h34, hf1, hf2, hG, hbox, hbox2, h9, hb]
        have e : formP g = (-1, 6) := hbad hb
        unfold FormPost
        rw [e]
        exact ⟨rfl, hxx.trans hx3⟩
      | false =>
        simp (maxSteps := 4000000) (disch := first | omega | assumption | (simp only [bxS, bxV, stOk, Nat.reduceBEq, Nat.reduceEqDiff, Nat.reduceAdd]; done) | (simp only [bxU]; omega) | ((try apply has_setN); apply has_ofL; simp only [bxL]; omega)) only [↓bxD, bxP, bxQ, Nat.reduceBEq, reduceCtorEq, Nat.reduceAdd, Nat.reduceSub, Nat.reduceMul, Nat.reduceLeDiff, Nat.reduceLT, bxR, hq, h32, h33, h34, hf1, hf2, hG, hbox, hbox2, h9, hb]
        show Wp fns K30_3 _ _ _
        unfold K30_3
        simp (maxSteps := 4000000) (disch := first | omega | assumption | (simp only [bxS, bxV, stOk, Nat.reduceBEq, Nat.reduceEqDiff, Nat.reduceAdd]; done) | (simp only [bxU]; omega) | ((try apply has_setN); apply has_ofL; simp only [bxL]; omega)) only [↓bxD, bxP, bxQ, Nat.reduceBEq, reduceCtorEq, Nat.reduceAdd, Nat.reduceSub, Nat.reduceMul, Nat.reduceLeDiff, Nat.reduceLT, bxR, hq, h32, h33, h34, hf1, hf2, hG, hbox, hbox2, h9]
        have hn3 := hx3.n
        refine ⟨i + 1, by omega, ⟨hgr.ext hx3, hxx.trans hx3, h.lo0, by omega, (hx3.old _ (by omega)).trans hbox2, by simp only [bxP, bxQ, reduceCtorEq, hq, h32, h33, h34, hf1, hf2, hG, hbox, hbox2, h9]⟩, by omega, rfl, by rw [htk, hb]⟩
    · have hi' : i = g.forbid.length := by omega
      subst hi'
      rw [List.take_length] at hp
      simp (maxSteps := 4000000) (disch := first | omega | assumption | (simp only [bxS, bxV, stOk, Nat.reduceBEq, Nat.reduceEqDiff, Nat.reduceAdd]; done) | (simp only [bxU]; omega) | ((try apply has_setN); apply has_ofL; simp only [bxL]; omega)) only [↓bxD, bxP, bxQ, Nat.reduceBEq, reduceCtorEq, Nat.reduceAdd, Nat.reduceSub, Nat.reduceMul, Nat.reduceLeDiff, Nat.reduceLT, bxR, hq, h32, h33, h34, hf1, hf2]
      show Wp fns K30_6 _ _ _
      unfold K30_6
      simp (maxSteps := 4000000) (disch := first | omega | assumption | (simp only [bxS, bxV, stOk, Nat.reduceBEq, Nat.reduceEqDiff, Nat.reduceAdd]; done) | (simp only [bxU]; omega) | ((try apply has_setN); apply has_ofL; simp only [bxL]; omega)) only [↓bxD, bxP, bxQ, Nat.reduceBEq, reduceCtorEq, Nat.reduceAdd, Nat.reduceSub, Nat.reduceMul, Nat.reduceLeDiff, Nat.reduceLT, bxR, hq, h32, h33, h34, hf1, hf2]
      have e : formP g = (-1, 0) := by unfold formP; rw [hh, hr]; simp only; rw [if_neg (by rw [hp]; simp)]
      unfold FormPost
      rw [e]
      exact ⟨rfl, h.ext⟩
  · exact ⟨⟨h.gr, h.ext, h.lo0, h.lt, h.box, by simp only [bxP, bxQ, reduceCtorEq, hq, hbox, hf1, hf2]⟩, Nat.zero_le _, by simp only [bxP, bxQ, reduceCtorEq, hq, hbox, hf1, hf2], by simp only [bxP, bxQ, reduceCtorEq, hq, hbox, hf1, hf2], by simp only [bxP, bxQ, reduceCtorEq, hq, hbox, hf1, hf2] <;> rfl, rfl⟩
theorem pform_rules {M0 M : MH} {g : Gr} {vr vf vc vk : MV} {es : List (List MV)} {f : Fr} (h : Rdy M0 M g vr vf vc vk es f) (hh : headE g = none) : Wp fns K30_8 f M (retQ F30 (FormPost g M0)) := by
  have hq := h.fr
  have hbox := h.box
  obtain ⟨hr1, hr2⟩ := h.gr.rules.row.sl
  rw [h.gr.rules.len] at hr2
  simp only [q1] at hq
  unfold gcs at hbox
  unfold K30_8
  simp (maxSteps := 4000000) (disch := first | omega | assumption | (simp only [bxS, bxV, stOk, Nat.reduceBEq, Nat.reduceEqDiff, Nat.reduceAdd]; done) | (simp only [bxU]; omega) | ((try apply has_setN); apply has_ofL; simp only [bxL]; omega)) only [↓bxD, bxP, bxQ, Nat.reduceBEq, reduceCtorEq, Nat.reduceAdd, Nat.reduceSub, Nat.reduceMul, Nat.reduceLeDiff, Nat.reduceLT, bxR, hq, hbox, hr1, hr2]
  refine Wp_inv (σ := Nat) (fun i f M' => Rdy M0 M' g vr vf vc vk es f ∧ i ≤ g.rules.length ∧ X.ev f (.t q16) = vr ∧ X.ev f (.t q17) = .i .i64 (g.rules.length : Int) ∧ X.ev f (.t q18) = .i .i64 (i : Int) ∧ findE (ruleE g) g.rules 0 = findE (ruleE g) (g.rules.drop i) i) (fun i => g.rules.length - i) ?_ 0 ?_
  · rintro i f M' ⟨h, hi, h16, h17, h18, hp⟩
    have hq := h.fr
    have hlo := h.lo0
    have hn := h.ext.n
    have hl := h.ext.lo
    have hlt := h.lt
    have hbox := h.box
    obtain ⟨hw1, hw2, _, _⟩ := h.gr.wf.lens
    simp only [q1, q16, q17, q18] at hq h16 h17 h18
    unfold gcs at hbox
    unfold L30_2
    simp (maxSteps := 4000000) (disch := first | omega | assumption | (simp only [bxS, bxV, stOk, Nat.reduceBEq, Nat.reduceEqDiff, Nat.reduceAdd]; done) | (simp only [bxU]; omega) | ((try apply has_setN); apply has_ofL; simp only [bxL]; omega)) only [↓bxD, bxP, bxQ, Nat.reduceBEq, reduceCtorEq, Nat.reduceAdd, Nat.reduceSub, Nat.reduceMul, Nat.reduceLeDiff, Nat.reduceLT, bxR, hq, h16, h17, h18, hr1, hr2]
    refine condP_split (fun hlt2 => ?_) (fun hge => ?_)
    · have hi' : i < g.rules.length := by omega
      obtain ⟨x, hz⟩ : ∃ x, g.rules[i]? = some x := ⟨_, List.getElem?_eq_getElem hi'⟩
      obtain ⟨a0, ar, a2⟩ := x
      obtain ⟨ua, hua, hura⟩ : ∃ u1, es[i]? = some [.i .i64 a0, u1, .i .i64 a2] ∧ IntRow _ u1 ar := h.gr.rules.get hz
      obtain ⟨hsu1, hsu2⟩ := hura.sl
      obtain ⟨ro, s, t, hg, hid, hat⟩ := h.gr.rules.row.read hua
      have hN : Ev.getN t 3 (soff vr + i * 3) = some [.i .i64 a0, ua, .i .i64 a2] := hat.getN
      have hone : MV.one ua = true := isSl_one hsu1
      have hwr := h.gr.wf.rules _ (List.mem_of_getElem? hz)
      have hdrop := findE_drop (f := ruleE g) hz
      have hG : Ev.getN (ofL [MV.i IntKind.i64 g.names, MV.i IntKind.i64 g.kinds, MV.i IntKind.i64 g.start, vr, vf, vc, vk] 0) 7 0 = some (gcs g vr vf vc vk) := (at_ofL (gcs g vr vf vc vk)).getN
      have hst : stOk 3 (.ag [.i .i64 a0, ua, .i .i64 a2]) = true := by cases ua <;> first | rfl | cases hsu1
      simp (maxSteps := 4000000) (disch := first | omega | assumption | (simp only [bxS, bxV, stOk, Nat.reduceBEq, Nat.reduceEqDiff, Nat.reduceAdd]; done) | (simp only [bxU]; omega) | ((try apply has_setN); apply has_ofL; simp only [bxL]; omega)) only [↓bxD, bxP, bxQ, Nat.reduceBEq, reduceCtorEq, Nat.reduceAdd, Nat.reduceSub, Nat.reduceMul, Nat.reduceLeDiff, Nat.reduceLT, bxR, hq, h16, h17, h18, hr1, hr2, hg, hN, hG]
      show Wp fns K30_1 _ _ _
      unfold K30_1
      simp (maxSteps := 4000000) (disch := first | omega | assumption | (simp only [bxS, bxV, stOk, Nat.reduceBEq, Nat.reduceEqDiff, Nat.reduceAdd]; done) | (simp only [bxU]; omega) | ((try apply has_setN); apply has_ofL; simp only [bxL]; omega)) only [↓bxD, bxP, bxQ, Nat.reduceBEq, reduceCtorEq, Nat.reduceAdd, Nat.reduceSub, Nat.reduceMul, Nat.reduceLeDiff, Nat.reduceLT, bxR, hq, h16, h17, h18, hr1, hr2, hg, hN, hG]
      generalize hM2 : (M'.push _).set M'.n _ = M2
      have hx2 : Ext M' M2 := by rw [← hM2]; exact (Ext.push M' _).set _ (Nat.le_refl _)
      have hn2 := hx2.n
      have hl2 := hx2.lo
      have h9 : M2.get M'.n = some (.cs false 3 (setN [.i .i64 a0, ua, .i .i64 a2] 0 (ofL [.i .i64 0, .nils, .i .i64 0] 0))) := by rw [← hM2, set_same]
      have hbox2 := (hx2.old _ hlt).trans hbox
      have hgr := h.gr.ext hx2
      clear hM2
      have hxx := h.ext.trans hx2
      simp (maxSteps := 4000000) (disch := first | omega | assumption | (simp only [bxS, bxV, stOk, Nat.reduceBEq, Nat.reduceEqDiff, Nat.reduceAdd]; done) | (simp only [bxU]; omega) | ((try apply has_setN); apply has_ofL; simp only [bxL]; omega)) only [↓bxD, bxP, bxQ, Nat.reduceBEq, reduceCtorEq, Nat.reduceAdd, Nat.reduceSub, Nat.reduceMul, Nat.reduceLeDiff, Nat.reduceLT, bxR, hq, h16, h17, h18, hr1, hr2, hG, hbox, hbox2, h9]
      refine bindP_call (ruleError_any (by omega) (hura.ext hx2) hwr.2.1 hwr.2.2.2) ?_
      rintro m M3 ⟨rfl, hx3⟩
      simp (maxSteps := 4000000) (disch := first | omega | assumption | (simp only [bxS, bxV, stOk, Nat.reduceBEq, Nat.reduceEqDiff, Nat.reduceAdd]; done) | (simp only [bxU]; omega) | ((try apply has_setN); apply has_ofL; simp only [bxL]; omega)) only [↓bxD, bxP, bxQ, Nat.reduceBEq, reduceCtorEq, Nat.reduceAdd, Nat.reduceSub, Nat.reduceMul, Nat.reduceLeDiff, Nat.reduceLT, bxR, hq, h16, h17, h18, hr1, hr2, hG, hbox, hbox2, h9]
      cases hb : ruleE g (a0, ar, a2) with
      | some e =>
        have e0' : e ≠ 0 := by
          unfold ruleE at hb
          split at hb
          · cases hb; decide
          · split at hb
            · cases hb; decide
            · split at hb
              · cases hb; decide
              · cases hb
        rw [hb] at hdrop
        simp (maxSteps := 4000000) (disch := first | omega | assumption | (simp only [bxS, bxV, stOk, Nat.reduceBEq, Nat.reduceEqDiff, Nat.reduceAdd]; done) | (simp only [bxU]; omega) | ((try apply has_setN); apply has_ofL; simp only [bxL]; omega)) only [↓bxD, bxP, bxQ, Nat.reduceBEq, reduceCtorEq, Nat.reduceAdd, Nat.reduceSub, Nat.reduceMul, Nat.reduceLeDiff, Nat.reduceLT, bxR, hq, h16, h17, h18, hr1, hr2, hG, hbox, hbox2, h9, hb, numE]
        refine condP_split (fun _ => ?_) (fun hc => (hc e0').elim)
        simp (maxSteps := 4000000) (disch := first | omega | assumption | (simp only [bxS, bxV, stOk, Nat.reduceBEq, Nat.reduceEqDiff, Nat.reduceAdd]; done) | (simp only [bxU]; omega) | ((try apply has_setN); apply has_ofL; simp only [bxL]; omega)) only [↓bxD, bxP, bxQ, Nat.reduceBEq, reduceCtorEq, Nat.reduceAdd, Nat.reduceSub, Nat.reduceMul, Nat.reduceLeDiff, Nat.reduceLT, bxR, hq, h16, h17, h18, hr1, hr2, hG, hbox, hbox2, h9]
        have e : formP g = ((i : Int), e) := by unfold formP; rw [hh, hp, hdrop]
        unfold FormPost
        rw [e]
        exact ⟨rfl, hxx.trans hx3⟩
      | none =>
        rw [hb] at hdrop
        simp (maxSteps := 4000000) (disch := first | omega | assumption | (simp only [bxS, bxV, stOk, Nat.reduceBEq, Nat.reduceEqDiff, Nat.reduceAdd]; done) | (simp only [bxU]; omega) | ((try apply has_setN); apply has_ofL; simp only [bxL]; omega)) only [↓bxD, bxP, bxQ, Nat.reduceBEq, reduceCtorEq, Nat.reduceAdd, Nat.reduceSub, Nat.reduceMul, Nat.reduceLeDiff, Nat.reduceLT, bxR, hq, h16, h17, h18, hr1, hr2, hG, hbox, hbox2, h9, hb, numE]
        refine condP_split (fun hc => (hc rfl).elim) (fun _ => ?_)
        simp (maxSteps := 4000000) (disch := first | omega | assumption | (simp only [bxS, bxV, stOk, Nat.reduceBEq, Nat.reduceEqDiff, Nat.reduceAdd]; done) | (simp only [bxU]; omega) | ((try apply has_setN); apply has_ofL; simp only [bxL]; omega)) only [↓bxD, bxP, bxQ, Nat.reduceBEq, reduceCtorEq, Nat.reduceAdd, Nat.reduceSub, Nat.reduceMul, Nat.reduceLeDiff, Nat.reduceLT, bxR, hq, h16, h17, h18, hr1, hr2, hG, hbox, hbox2, h9]
        show Wp fns K30_0 _ _ _
        unfold K30_0
        simp (maxSteps := 4000000) (disch := first | omega | assumption | (simp only [bxS, bxV, stOk, Nat.reduceBEq, Nat.reduceEqDiff, Nat.reduceAdd]; done) | (simp only [bxU]; omega) | ((try apply has_setN); apply has_ofL; simp only [bxL]; omega)) only [↓bxD, bxP, bxQ, Nat.reduceBEq, reduceCtorEq, Nat.reduceAdd, Nat.reduceSub, Nat.reduceMul, Nat.reduceLeDiff, Nat.reduceLT, bxR, hq, h16, h17, h18, hr1, hr2, hG, hbox, hbox2, h9]
        have hn3 := hx3.n
        refine ⟨i + 1, by omega, ⟨hgr.ext hx3, hxx.trans hx3, h.lo0, by omega, (hx3.old _ (by omega)).trans hbox2, by simp only [bxP, bxQ, reduceCtorEq, hq, h16, h17, h18, hr1, hr2, hG, hbox, hbox2, h9]⟩, by omega, rfl, hp.trans hdrop⟩
    · have hi' : i = g.rules.length := by omega
      subst hi'
      simp (maxSteps := 4000000) (disch := first | omega | assumption | (simp only [bxS, bxV, stOk, Nat.reduceBEq, Nat.reduceEqDiff, Nat.reduceAdd]; done) | (simp only [bxU]; omega) | ((try apply has_setN); apply has_ofL; simp only [bxL]; omega)) only [↓bxD, bxP, bxQ, Nat.reduceBEq, reduceCtorEq, Nat.reduceAdd, Nat.reduceSub, Nat.reduceMul, Nat.reduceLeDiff, Nat.reduceLT, bxR, hq, h16, h17, h18, hr1, hr2]
      show Wp fns K30_7 _ _ _
      exact pform_forb ⟨h.gr, h.ext, h.lo0, h.lt, h.box, by simp only [bxP, bxQ, reduceCtorEq, hq, h16, h17, h18, hr1, hr2]⟩ hh (by rw [hp, List.drop_length]; rfl)
  · exact ⟨⟨h.gr, h.ext, h.lo0, h.lt, h.box, by simp only [bxP, bxQ, reduceCtorEq, hq, hbox, hr1, hr2]⟩, Nat.zero_le _, by simp only [bxP, bxQ, reduceCtorEq, hq, hbox, hr1, hr2], by simp only [bxP, bxQ, reduceCtorEq, hq, hbox, hr1, hr2], by simp only [bxP, bxQ, reduceCtorEq, hq, hbox, hr1, hr2] <;> rfl, rfl⟩
theorem prog_form {M : MH} {g : Gr} {vr vf vc vk : MV} {es : List (List MV)} (h : GrAt M vr vf vc vk es g) (hlo : M.lo ≤ M.n) : Cp fns 30 [.ag (gcs g vr vf vc vk)] M fun m M' => m = .tp [.i .i64 (formP g).1, .i .i64 (formP g).2] ∧ Ext M M' := by
  have hG : ∀ l, l = gcs g vr vf vc vk → Ev.getN (ofL l 0) 7 0 = some (gcs g vr vf vc vk) := fun l e => by subst e; exact (at_ofL (gcs g vr vf vc vk)).getN
  have hG := hG [MV.i IntKind.i64 g.names, MV.i IntKind.i64 g.kinds, MV.i IntKind.i64 g.start, vr, vf, vc, vk] rfl
  refine Cp_call (fn := F30) (by kernel_rfl) (Nat.le_of_ble_eq_true rfl) ?_
  show Wp fns B30 (T.set q0 (some (.ag (gcs g vr vf vc vk))) T.lf) M _
  unfold B30
  rw [show gcs g vr vf vc vk = [MV.i IntKind.i64 g.names, MV.i IntKind.i64 g.kinds, MV.i IntKind.i64 g.start, vr, vf, vc, vk] from rfl]
  simp (maxSteps := 4000000) (disch := first | omega | assumption | (simp only [bxS, bxV, stOk, Nat.reduceBEq, Nat.reduceEqDiff, Nat.reduceAdd]; done) | (simp only [bxU]; omega) | ((try apply has_setN); apply has_ofL; simp only [bxL]; omega)) only [↓bxD, bxP, bxQ, Nat.reduceBEq, reduceCtorEq, Nat.reduceAdd, Nat.reduceSub, Nat.reduceMul, Nat.reduceLeDiff, Nat.reduceLT, bxR]
  generalize hM1 : M.push _ = M1
  have hb0 : M1.get M.n = some (.cs false 7 (ofL [MV.i IntKind.i64 g.names, MV.i IntKind.i64 g.kinds, MV.i IntKind.i64 g.start, vr, vf, vc, vk] 0)) := by rw [← hM1]; exact push_new _
  have hx1 : Ext M M1 := by rw [← hM1]; exact .push M _
  have hn1 : M1.n = M.n + 1 := by rw [← hM1]; rfl
  have hl1 := hx1.lo
  clear hM1
  have h1 := h.ext hx1
  simp (maxSteps := 4000000) (disch := first | omega | assumption | (simp only [bxS, bxV, stOk, Nat.reduceBEq, Nat.reduceEqDiff, Nat.reduceAdd]; done) | (simp only [bxU]; omega) | ((try apply has_setN); apply has_ofL; simp only [bxL]; omega)) only [↓bxD, bxP, bxQ, Nat.reduceBEq, reduceCtorEq, Nat.reduceAdd, Nat.reduceSub, Nat.reduceMul, Nat.reduceLeDiff, Nat.reduceLT, bxR, hb0, hG]
  refine bindP_call (wholeError_any h1 (by omega)) ?_
  rintro m M2 ⟨rfl, hx2⟩
  simp (maxSteps := 4000000) (disch := first | omega | assumption | (simp only [bxS, bxV, stOk, Nat.reduceBEq, Nat.reduceEqDiff, Nat.reduceAdd]; done) | (simp only [bxU]; omega) | ((try apply has_setN); apply has_ofL; simp only [bxL]; omega)) only [↓bxD, bxP, bxQ, Nat.reduceBEq, reduceCtorEq, Nat.reduceAdd, Nat.reduceSub, Nat.reduceMul, Nat.reduceLeDiff, Nat.reduceLT, bxR, hb0, hG]
  have hn2 := hx2.n
  have hb2 := (hx2.old _ (by omega)).trans hb0
  cases hb : headE g with
  | some e =>
    have e0' : e ≠ 0 := by
      unfold headE at hb
      split at hb
      · cases hb; decide
      · split at hb
        · cases hb; decide
        · split at hb
          · cases hb; decide
          · cases hb
    simp (maxSteps := 4000000) (disch := first | omega | assumption | (simp only [bxS, bxV, stOk, Nat.reduceBEq, Nat.reduceEqDiff, Nat.reduceAdd]; done) | (simp only [bxU]; omega) | ((try apply has_setN); apply has_ofL; simp only [bxL]; omega)) only [↓bxD, bxP, bxQ, Nat.reduceBEq, reduceCtorEq, Nat.reduceAdd, Nat.reduceSub, Nat.reduceMul, Nat.reduceLeDiff, Nat.reduceLT, bxR, hb0, hG, hb, numE]
    refine condP_split (fun _ => ?_) (fun hc => (hc e0').elim)
    simp (maxSteps := 4000000) (disch := first | omega | assumption | (simp only [bxS, bxV, stOk, Nat.reduceBEq, Nat.reduceEqDiff, Nat.reduceAdd]; done) | (simp only [bxU]; omega) | ((try apply has_setN); apply has_ofL; simp only [bxL]; omega)) only [↓bxD, bxP, bxQ, Nat.reduceBEq, reduceCtorEq, Nat.reduceAdd, Nat.reduceSub, Nat.reduceMul, Nat.reduceLeDiff, Nat.reduceLT, bxR, hb0, hG]
    have e : formP g = (-1, e) := by unfold formP; rw [hb]
    rw [e]
    exact ⟨rfl, hx1.trans hx2⟩
  | none =>
    simp (maxSteps := 4000000) (disch := first | omega | assumption | (simp only [bxS, bxV, stOk, Nat.reduceBEq, Nat.reduceEqDiff, Nat.reduceAdd]; done) | (simp only [bxU]; omega) | ((try apply has_setN); apply has_ofL; simp only [bxL]; omega)) only [↓bxD, bxP, bxQ, Nat.reduceBEq, reduceCtorEq, Nat.reduceAdd, Nat.reduceSub, Nat.reduceMul, Nat.reduceLeDiff, Nat.reduceLT, bxR, hb0, hG, hb, numE]
    refine condP_split (fun hc => (hc rfl).elim) (fun _ => ?_)
    simp (maxSteps := 4000000) (disch := first | omega | assumption | (simp only [bxS, bxV, stOk, Nat.reduceBEq, Nat.reduceEqDiff, Nat.reduceAdd]; done) | (simp only [bxU]; omega) | ((try apply has_setN); apply has_ofL; simp only [bxL]; omega)) only [↓bxD, bxP, bxQ, Nat.reduceBEq, reduceCtorEq, Nat.reduceAdd, Nat.reduceSub, Nat.reduceMul, Nat.reduceLeDiff, Nat.reduceLT, bxR, hb0, hG]
    show Wp fns K30_8 _ _ _
    exact pform_rules ⟨h1.ext hx2, hx1.trans hx2, hlo, by omega, hb2, by simp only [bxP, bxQ, reduceCtorEq, hb0, hG]⟩ hb
structure ISt (M0 M : MH) (g : Gr) (vr vf vc vk : MV) (es : List (List MV)) (id : Nat) (l : List Int) (f : Fr) : Prop where
  gr : GrAt M0 vr vf vc vk es g
  ok : GrOk g
  ext : Ext M0 M
  lo0 : M0.lo ≤ M0.n
  b0 : M.get M0.n = some (.cs false 7 (ofL (gcs g vr vf vc vk) 0))
  id1 : M0.n < id
  id2 : id < M.n
  row : IntsAt M id l
  inn : ShIn g l
  q1 : X.ev f (.t q1) = .p M0.n 0
  q3 : X.ev f (.t q3) = .sl id 0 l.length 0
theorem isForm_any {M : MH} {g : Gr} {vr vf vc vk : MV} {es : List (List MV)} (h : GrAt M vr vf vc vk es g) (hlo : M.lo ≤ M.n) : Cp fns 15 [.ag (gcs g vr vf vc vk)] M fun m M' => m = .b (decide ((formP g).2 = 0)) ∧ Ext M M' := by
  have hG : ∀ l, l = gcs g vr vf vc vk → Ev.getN (ofL l 0) 7 0 = some (gcs g vr vf vc vk) := fun l e => by subst e; exact (at_ofL (gcs g vr vf vc vk)).getN
  have hG := hG [MV.i IntKind.i64 g.names, MV.i IntKind.i64 g.kinds, MV.i IntKind.i64 g.start, vr, vf, vc, vk] rfl
  refine Cp_call (fn := F15) (by kernel_rfl) (Nat.le_of_ble_eq_true rfl) ?_
  show Wp fns B15 (T.set q0 (some (.ag (gcs g vr vf vc vk))) T.lf) M _
  unfold B15
  rw [show gcs g vr vf vc vk = [MV.i IntKind.i64 g.names, MV.i IntKind.i64 g.kinds, MV.i IntKind.i64 g.start, vr, vf, vc, vk] from rfl]
  simp (maxSteps := 4000000) (disch := first | omega | assumption | (simp only [bxS, bxV, stOk, Nat.reduceBEq, Nat.reduceEqDiff, Nat.reduceAdd]; done) | (simp only [bxU]; omega) | ((try apply has_setN); apply has_ofL; simp only [bxL]; omega)) only [↓bxD, bxP, bxQ, bxQ2, Nat.reduceBEq, reduceCtorEq, Nat.reduceAdd, Nat.reduceSub, Nat.reduceMul, Nat.reduceLeDiff, Nat.reduceLT, bxR, hG]
  refine bindP_call (prog_form (h.ext (.push M _)) (by show M.lo ≤ M.n + 1; omega)) ?_
  rintro m M2 ⟨rfl, hx⟩
  simp (maxSteps := 4000000) (disch := first | omega | assumption | (simp only [bxS, bxV, stOk, Nat.reduceBEq, Nat.reduceEqDiff, Nat.reduceAdd]; done) | (simp only [bxU]; omega) | ((try apply has_setN); apply has_ofL; simp only [bxL]; omega)) only [↓bxD, bxP, bxQ, bxQ2, Nat.reduceBEq, reduceCtorEq, Nat.reduceAdd, Nat.reduceSub, Nat.reduceMul, Nat.reduceLeDiff, Nat.reduceLT, bxR, hG]
  exact (Ext.push M _).trans hx
def ShPost (g : Gr) (M : MH) (m : MV) (M' : MH) : Prop := Ext M M' ∧ (((formP g).2 ≠ 0 ∧ m = .nils) ∨ ((formP g).2 = 0 ∧ ∃ l, ShVec g l ∧ IntRow M' m l))
def PrPost (g : Gr) (M : MH) (m : MV) (M' : MH) : Prop := Ext M M' ∧ (((formP g).2 ≠ 0 ∧ m = .nils) ∨ ((formP g).2 = 0 ∧ ∃ l, ShVec g l ∧ BRow M' m (l.map fun z => decide (0 ≤ z))))
def prs (l : List (Int × Int)) : List (List MV) := l.map fun x => [.i .i64 x.1, .i .i64 x.2]
theorem prs_len (l : List (Int × Int)) : (prs l).length = l.length := by unfold prs; rw [List.length_map]
theorem prs_at {l : List (Int × Int)} {i : Nat} {x : Int × Int} (h : l[i]? = some x) : (prs l)[i]? = some [.i .i64 x.1, .i .i64 x.2] := by unfold prs; rw [List.getElem?_map, h]; rfl
def its (g : Gr) (l : List (Int × Int)) : List Nat := l.filterMap fun x => itemO g x.1 x.2
theorem its_is {g : Gr} (hg : GrOk g) {l : List (Int × Int)} {n : Nat} (h : n ∈ its g l) : IsN g n := by
  unfold its at h
  obtain ⟨x, _, hx⟩ := List.mem_filterMap.1 h
  exact (itemO_some hg hx).1
theorem its_take {g : Gr} {l : List (Int × Int)} {i : Nat} {x : Int × Int} (h : l[i]? = some x) : its g (l.take (i + 1)) = its g (l.take i) ++ (itemO g x.1 x.2).toList := by
  unfold its
  rw [List.take_add_one, h, List.filterMap_append]
  cases hx : itemO g x.1 x.2 <;> simp [hx]
theorem cls_same {g : Gr} {S S' : Nat → Prop} {W : Nat} (h : ClsN g S W) (e : ∀ n, S n ↔ S' n) : ClsN g S' W := by
  rw [show S' = S from funext fun n => propext (e n).symm]
  exact h
def CloseV (g : Gr) (l : List (Int × Int)) (L : List Nat) : Prop := ((formP g).2 ≠ 0 ∧ L = []) ∨ ((formP g).2 = 0 ∧ ∃ W, ClsN g (fun n => n ∈ its g l) W ∧ L = bitsOf W 576)
theorem CloseV.ext {g : Gr} {l : List (Int × Int)} {L L' : List Nat} (h : CloseV g l L) (h' : CloseV g l L') : L = L' := by
  rcases h with ⟨a, rfl⟩ | ⟨a, W, hW, rfl⟩
  · rcases h' with ⟨b, rfl⟩ | ⟨b, _⟩
    · rfl
    · exact absurd b a
  · rcases h' with ⟨b, _⟩ | ⟨b, W', hW', rfl⟩
    · exact absurd a b
    · rw [hW.ext hW']
theorem pclose_any {M : MH} {g : Gr} {vr vf vc vk : MV} {es : List (List MV)} {v : MV} {l : List (Int × Int)} (h : GrAt M vr vf vc vk es g) (hv : RowAt M 2 v (prs l)) (hl : l.length ≤ 1000) (hlo : M.lo ≤ M.n) : Cp fns 9 [.ag (gcs g vr vf vc vk), v] M fun m M' => Ext M M' ∧ ∃ L, CloseV g l L ∧ RowAt M' 2 m (ivs L) := by
  obtain ⟨s1, s2⟩ := hv.sl
  rw [prs_len] at s2
  refine Cp_call (fn := F9) (by kernel_rfl) (Nat.le_of_ble_eq_true rfl) ?_
  show Wp fns B9 (T.set q1 (some v) (T.set q0 (some (.ag (gcs g vr vf vc vk))) T.lf)) M _
  unfold B9
  simp (maxSteps := 4000000) (disch := first | omega | assumption | (simp only [bxS, bxV, stOk, Nat.reduceBEq, Nat.reduceEqDiff, Nat.reduceAdd]; done) | (simp only [bxU]; omega) | ((try apply has_setN); apply has_ofL; simp only [bxL]; omega)) only [↓bxD, bxP, bxQ, Nat.reduceBEq, reduceCtorEq, Nat.reduceAdd, Nat.reduceSub, Nat.reduceMul, Nat.reduceLeDiff, Nat.reduceLT, bxR, g_U, g_cl, g_len]
  generalize hM1 : M.push _ = M1
  have x1 : Ext M M1 := by rw [← hM1]; exact .push M _
  have g1 : M1.get M.n = some (.cs false 7 (ofL (gcs g vr vf vc vk) 0)) := by rw [← hM1]; exact push_new _
  have n1 : M1.n = M.n + 1 := by rw [← hM1]; rfl
  have l1 := x1.lo
  clear hM1
  simp (maxSteps := 4000000) (disch := first | omega | assumption | (simp only [bxS, bxV, stOk, Nat.reduceBEq, Nat.reduceEqDiff, Nat.reduceAdd]; done) | (simp only [bxU]; omega) | ((try apply has_setN); apply has_ofL; simp only [bxL]; omega)) only [↓bxD, bxP, bxQ, Nat.reduceBEq, reduceCtorEq, Nat.reduceAdd, Nat.reduceSub, Nat.reduceMul, Nat.reduceLeDiff, Nat.reduceLT, bxR, g1, g_N]
  refine bindP_call (isForm_any (h.ext x1) (by omega)) ?_
  rintro m M2 ⟨rfl, x2⟩
  have n2 := x2.n
  have l2 := x2.lo
  have g2 := (x2.old _ (by omega)).trans g1
  by_cases hz : (formP g).2 = 0
  · have dz : decide ((formP g).2 = 0) = true := decide_eq_true hz
    have hok := form_ok hz
    have h60 := hok.rl
    simp (maxSteps := 4000000) (disch := first | omega | assumption | (simp only [bxS, bxV, stOk, Nat.reduceBEq, Nat.reduceEqDiff, Nat.reduceAdd]; done) | (simp only [bxU]; omega) | ((try apply has_setN); apply has_ofL; simp only [bxL]; omega)) only [↓bxD, bxP, bxQ, Nat.reduceBEq, reduceCtorEq, Nat.reduceAdd, Nat.reduceSub, Nat.reduceMul, Nat.reduceLeDiff, Nat.reduceLT, bxR, dz]
    show Wp fns K9_4 _ _ _
    unfold K9_4
    simp (maxSteps := 4000000) (disch := first | omega | assumption | (simp only [bxS, bxV, stOk, Nat.reduceBEq, Nat.reduceEqDiff, Nat.reduceAdd]; done) | (simp only [bxU]; omega) | ((try apply has_setN); apply has_ofL; simp only [bxL]; omega)) only [↓bxD, bxP, bxQ, Nat.reduceBEq, reduceCtorEq, Nat.reduceAdd, Nat.reduceSub, Nat.reduceMul, Nat.reduceLeDiff, Nat.reduceLT, bxR, dz, s1, s2]
    generalize hM3 : M2.push _ = M3
    have x3 : Ext M2 M3 := by rw [← hM3]; exact .push M2 _
    have g3 : M3.get M2.n = some (.cs false 9 (ofL (st9 0) 0)) := by rw [← hM3]; exact push_new _
    have n3 : M3.n = M2.n + 1 := by rw [← hM3]; rfl
    have l3 := x3.lo
    have g3' := (x3.old _ (by omega)).trans g2
    clear hM3
    refine Wp_inv (σ := Nat) (fun i f M' => i ≤ l.length ∧ Ext M M' ∧ M2.n < M'.n ∧ M'.get M.n = some (.cs false 7 (ofL (gcs g vr vf vc vk) 0)) ∧ X.ev f (.t q2) = .p M.n 0 ∧ X.ev f (.t q5) = .p M2.n 0 ∧ X.ev f (.t q11) = v ∧ X.ev f (.t q12) = .i .i64 (l.length : Int) ∧ X.ev f (.t q13) = .i .i64 (i : Int) ∧ ∃ N c, M'.get M2.n = some (.cs false 9 c) ∧ At c 0 (st9 N) ∧ ∀ n, N.testBit n = true ↔ n ∈ its g (l.take i)) (fun i => l.length - i) ?_ 0 ?_
    · rintro i f M4 ⟨hi, hx, hn4, gA, k2, k5, k11, k12, k13, N, c, c1, c2, hNb⟩
      simp only [q2, q5, q11, q12, q13] at k2 k5 k11 k12 k13
      have xn := hx.n
      have xl := hx.lo
      unfold L9_2
      by_cases hi' : i < l.length
      · have d0 : decide ((i : Int) < (l.length : Int)) = true := decide_eq_true (by omega)
        obtain ⟨x, hxi⟩ : ∃ x, l[i]? = some x := ⟨_, List.getElem?_eq_getElem hi'⟩
        obtain ⟨ro, sz, t, hg, hid, hC2⟩ := (hv.ext hx).read (prs_at hxi)
        have hN2 : Ev.getN t 2 (soff v + i * 2) = some [.i .i64 x.1, .i .i64 x.2] := hC2.getN
        have hst : stOk 2 (.ag [.i .i64 x.1, .i .i64 x.2]) = true := rfl
        have c7 : Ev.getN (setN [.i .i64 x.1, .i .i64 x.2] 0 (ofL [.i .i64 0, .i .i64 0] 0)) 2 0 = some [.i .i64 x.1, .i .i64 x.2] := (at_setN _ _ _).getN
        have wi : wrapF .i64 ((i : Int) + 1) = ((i + 1 : Nat) : Int) := by rw [wrap_in (by omega) (by omega)]; omega
        simp (maxSteps := 4000000) (disch := first | omega | assumption | (simp only [bxS, bxV, stOk, Nat.reduceBEq, Nat.reduceEqDiff, Nat.reduceAdd]; done) | (simp only [bxU]; omega) | ((try apply has_setN); apply has_ofL; simp only [bxL]; omega)) only [↓bxD, bxP, bxQ, Nat.reduceBEq, reduceCtorEq, Nat.reduceAdd, Nat.reduceSub, Nat.reduceMul, Nat.reduceLeDiff, Nat.reduceLT, bxR, k2, k5, k11, k12, k13, d0, s1, s2, hg, hN2, hi', hst, gA, g_N, c7]
        show Wp fns K9_1 _ _ _
        unfold K9_1
        simp (maxSteps := 4000000) (disch := first | omega | assumption | (simp only [bxS, bxV, stOk, Nat.reduceBEq, Nat.reduceEqDiff, Nat.reduceAdd]; done) | (simp only [bxU]; omega) | ((try apply has_setN); apply has_ofL; simp only [bxL]; omega)) only [↓bxD, bxP, bxQ, Nat.reduceBEq, reduceCtorEq, Nat.reduceAdd, Nat.reduceSub, Nat.reduceMul, Nat.reduceLeDiff, Nat.reduceLT, bxR, k2, k5, k11, k12, k13, d0, s1, s2, hg, hN2, hi', hst, gA, g_N, c7]
        generalize hM5 : (M4.push _).set M4.n _ = M5
        have x5 : Ext M4 M5 := by rw [← hM5]; exact (Ext.push M4 _).set _ (Nat.le_refl _)
        have n5 : M5.n = M4.n + 1 := by rw [← hM5]; rfl
        have l5 := x5.lo
        have g7 : M5.get M4.n = some (.cs false 2 (setN [.i .i64 x.1, .i .i64 x.2] 0 (ofL [.i .i64 0, .i .i64 0] 0))) := by rw [← hM5, set_same]
        clear hM5
        refine bindP_call (isItem_any (h.ext (hx.trans x5)) h60 (by omega)) ?_
        rintro m M6 ⟨x6, rfl⟩
        have n6 := x6.n
        have l6 := x6.lo
        have g7' := (x6.old _ (by omega)).trans g7
        have c1' := ((x5.trans x6).old _ (by omega)).trans c1
        have gA' := ((x5.trans x6).old _ (by omega)).trans gA
        cases hio : itemO g x.1 x.2 with
        | none =>
          simp (maxSteps := 4000000) (disch := first | omega | assumption | (simp only [bxS, bxV, stOk, Nat.reduceBEq, Nat.reduceEqDiff, Nat.reduceAdd]; done) | (simp only [bxU]; omega) | ((try apply has_setN); apply has_ofL; simp only [bxL]; omega)) only [↓bxD, bxP, bxQ, Nat.reduceBEq, reduceCtorEq, Nat.reduceAdd, Nat.reduceSub, Nat.reduceMul, Nat.reduceLeDiff, Nat.reduceLT, bxR, k2, k5, k11, k12, k13, hio, Option.isSome_none, wi]
          show Wp fns K9_0 _ _ _
          unfold K9_0
          simp (maxSteps := 4000000) (disch := first | omega | assumption | (simp only [bxS, bxV, stOk, Nat.reduceBEq, Nat.reduceEqDiff, Nat.reduceAdd]; done) | (simp only [bxU]; omega) | ((try apply has_setN); apply has_ofL; simp only [bxL]; omega)) only [↓bxD, bxP, bxQ, Nat.reduceBEq, reduceCtorEq, Nat.reduceAdd, Nat.reduceSub, Nat.reduceMul, Nat.reduceLeDiff, Nat.reduceLT, bxR, k2, k5, k11, k12, k13, hio, Option.isSome_none, wi]
          refine ⟨i + 1, by omega, by omega, (hx.trans x5).trans x6, by omega, gA', rfl, N, c, c1', c2, fun n => ?_⟩
          rw [its_take hxi, hio, Option.toList_none, List.append_nil]
          exact hNb n
        | some b =>
          obtain ⟨hb, hbc⟩ := itemO_some hok hio
          have hb5 := hb.lt hok h60
          simp (maxSteps := 4000000) (disch := first | omega | assumption | (simp only [bxS, bxV, stOk, Nat.reduceBEq, Nat.reduceEqDiff, Nat.reduceAdd]; done) | (simp only [bxU]; omega) | ((try apply has_setN); apply has_ofL; simp only [bxL]; omega)) only [↓bxD, bxP, bxQ, Nat.reduceBEq, reduceCtorEq, Nat.reduceAdd, Nat.reduceSub, Nat.reduceMul, Nat.reduceLeDiff, Nat.reduceLT, bxR, k2, k5, k11, k12, k13, hio, Option.isSome_some, wi, g7', c7]
          rw [← hbc]
          refine bindP_call (add_any c1' c2 (by omega) (by omega) (by omega) (by omega)) ?_
          rintro m M7 ⟨⟨c3, e1, e2, _⟩, x7⟩
          have n7 := x7.n
          have l7 := x7.lo
          have x67 : Ext M M7 := ⟨by omega, by omega, fun j hj => (x7.old j (by omega) (by omega)).trans (((hx.trans x5).trans x6).old j hj)⟩
          simp (maxSteps := 4000000) (disch := first | omega | assumption | (simp only [bxS, bxV, stOk, Nat.reduceBEq, Nat.reduceEqDiff, Nat.reduceAdd]; done) | (simp only [bxU]; omega) | ((try apply has_setN); apply has_ofL; simp only [bxL]; omega)) only [↓bxD, bxP, bxQ, Nat.reduceBEq, reduceCtorEq, Nat.reduceAdd, Nat.reduceSub, Nat.reduceMul, Nat.reduceLeDiff, Nat.reduceLT, bxR, k2, k5, k11, k12, k13, hio, Option.isSome_some, wi, g7', c7]
          show Wp fns K9_0 _ _ _
          unfold K9_0
          simp (maxSteps := 4000000) (disch := first | omega | assumption | (simp only [bxS, bxV, stOk, Nat.reduceBEq, Nat.reduceEqDiff, Nat.reduceAdd]; done) | (simp only [bxU]; omega) | ((try apply has_setN); apply has_ofL; simp only [bxL]; omega)) only [↓bxD, bxP, bxQ, Nat.reduceBEq, reduceCtorEq, Nat.reduceAdd, Nat.reduceSub, Nat.reduceMul, Nat.reduceLeDiff, Nat.reduceLT, bxR, k2, k5, k11, k12, k13, hio, Option.isSome_some, wi, g7', c7]
          refine ⟨i + 1, by omega, by omega, x67, by omega, (x7.old _ (by omega) (by omega)).trans gA', rfl, _, c3, e1, e2, fun n => ?_⟩
          rw [its_take hxi, hio, Option.toList_some, List.mem_append, List.mem_singleton, Nat.testBit_or, Nat.testBit_two_pow, Bool.or_eq_true, decide_eq_true_eq, hNb]
          exact ⟨fun e => e.imp id Eq.symm, fun e => e.imp id Eq.symm⟩
      · have hil : i = l.length := by omega
        subst hil
        have d0 : decide ((l.length : Int) < (l.length : Int)) = false := decide_eq_false (by omega)
        have hN9 : Ev.getN c 9 0 = some (st9 N) := c2.getN
        rw [List.take_length] at hNb
        simp (maxSteps := 4000000) (disch := first | omega | assumption | (simp only [bxS, bxV, stOk, Nat.reduceBEq, Nat.reduceEqDiff, Nat.reduceAdd]; done) | (simp only [bxU]; omega) | ((try apply has_setN); apply has_ofL; simp only [bxL]; omega)) only [↓bxD, bxP, bxQ, Nat.reduceBEq, reduceCtorEq, Nat.reduceAdd, Nat.reduceSub, Nat.reduceMul, Nat.reduceLeDiff, Nat.reduceLT, bxR, k2, k5, k11, k12, k13, d0, gA, g_N, c1, hN9]
        show Wp fns K9_3 _ _ _
        unfold K9_3
        simp (maxSteps := 4000000) (disch := first | omega | assumption | (simp only [bxS, bxV, stOk, Nat.reduceBEq, Nat.reduceEqDiff, Nat.reduceAdd]; done) | (simp only [bxU]; omega) | ((try apply has_setN); apply has_ofL; simp only [bxL]; omega)) only [↓bxD, bxP, bxQ, Nat.reduceBEq, reduceCtorEq, Nat.reduceAdd, Nat.reduceSub, Nat.reduceMul, Nat.reduceLeDiff, Nat.reduceLT, bxR, k2, k5, k11, k12, k13, d0, gA, g_N, c1, hN9]
        refine bindP_call (closed_any (h.ext hx) hz (fun n hn => its_is hok ((hNb n).1 hn)) (by omega)) ?_
        rintro m M5 ⟨x5, W, rfl, hW⟩
        have n5 := x5.n
        have l5 := x5.lo
        simp (maxSteps := 4000000) (disch := first | omega | assumption | (simp only [bxS, bxV, stOk, Nat.reduceBEq, Nat.reduceEqDiff, Nat.reduceAdd]; done) | (simp only [bxU]; omega) | ((try apply has_setN); apply has_ofL; simp only [bxL]; omega)) only [↓bxD, bxP, bxQ, Nat.reduceBEq, reduceCtorEq, Nat.reduceAdd, Nat.reduceSub, Nat.reduceMul, Nat.reduceLeDiff, Nat.reduceLT, bxR, k2, k5, k11, k12, k13, d0, gA, g_N, c1, hN9]
        refine bindP_call (list_any (h.tb.ext (hx.trans x5)) (by omega)) ?_
        rintro m M6 ⟨x6, hr⟩
        simp (maxSteps := 4000000) (disch := first | omega | assumption | (simp only [bxS, bxV, stOk, Nat.reduceBEq, Nat.reduceEqDiff, Nat.reduceAdd]; done) | (simp only [bxU]; omega) | ((try apply has_setN); apply has_ofL; simp only [bxL]; omega)) only [↓bxD, bxP, bxQ, Nat.reduceBEq, reduceCtorEq, Nat.reduceAdd, Nat.reduceSub, Nat.reduceMul, Nat.reduceLeDiff, Nat.reduceLT, bxR, k2, k5, k11, k12, k13, d0, gA, g_N, c1, hN9]
        exact ⟨(hx.trans x5).trans x6, _, .inr ⟨hz, W, cls_same hW hNb, rfl⟩, hr.row⟩
    · refine ⟨Nat.zero_le _, (x1.trans x2).trans x3, by omega, g3', by simp only [bxP, bxQ, reduceCtorEq, dz], by simp only [bxP, bxQ, reduceCtorEq, dz], by simp only [bxP, bxQ, reduceCtorEq, dz], by simp only [bxP, bxQ, reduceCtorEq, dz], by simp only [bxP, bxQ, reduceCtorEq, dz] <;> rfl, 0, _, g3, at_ofL _, fun n => ?_⟩
      rw [Nat.zero_testBit]
      simp [its]
  · have dz : decide ((formP g).2 = 0) = false := decide_eq_false hz
    simp (maxSteps := 4000000) (disch := first | omega | assumption | (simp only [bxS, bxV, stOk, Nat.reduceBEq, Nat.reduceEqDiff, Nat.reduceAdd]; done) | (simp only [bxU]; omega) | ((try apply has_setN); apply has_ofL; simp only [bxL]; omega)) only [↓bxD, bxP, bxQ, Nat.reduceBEq, reduceCtorEq, Nat.reduceAdd, Nat.reduceSub, Nat.reduceMul, Nat.reduceLeDiff, Nat.reduceLT, bxR, dz]
    exact ⟨x1.trans x2, [], .inl ⟨hz, rfl⟩, fun e he => (by cases he), .inl ⟨rfl, rfl⟩⟩
def QRow (lo : Nat) (M : MH) (sz : Nat) (v : MV) (es : List (List MV)) : Prop := Sized sz es ∧ ((v = .nils ∧ es = []) ∨ ∃ id e c, v = .sl id (e * sz) es.length e ∧ M.get id = some (.cs false sz c) ∧ lo ≤ id ∧ id < M.n ∧ At c (e * sz) es.flatten)
theorem QRow.row {lo : Nat} {M : MH} {sz : Nat} {v : MV} {es : List (List MV)} (h : QRow lo M sz v es) : RowAt M sz v es := by
  obtain ⟨hs, h | ⟨id, e, c, h1, h2, h3, h4, h5⟩⟩ := h
  · exact ⟨hs, .inl h⟩
  · exact ⟨hs, .inr ⟨id, e * sz, e, false, sz, c, h1, h2, h4, h5⟩⟩
theorem QRow.of {lo : Nat} {M : MH} {sz : Nat} {v : MV} {es : List (List MV)} (h : OwnRow lo M sz v es) : QRow lo M sz v es := by
  obtain ⟨hs, h | ⟨id, c, h1, h2, h3, h4, h5⟩⟩ := h
  · exact ⟨hs, .inl h⟩
  · exact ⟨hs, .inr ⟨id, 0, c, by rw [Nat.zero_mul]; exact h1, h2, h3, h4, by rw [Nat.zero_mul]; exact h5⟩⟩
theorem QRow.ext {lo : Nat} {M M' : MH} {sz : Nat} {v : MV} {es : List (List MV)} (h : QRow lo M sz v es) (k : Ext M M') : QRow lo M' sz v es := by
  obtain ⟨hs, h | ⟨id, e, c, h1, h2, h3, h4, h5⟩⟩ := h
  · exact ⟨hs, .inl h⟩
  · exact ⟨hs, .inr ⟨id, e, c, h1, (k.old id h4).trans h2, h3, Nat.lt_of_lt_of_le h4 k.n, h5⟩⟩
theorem QRow.id {lo : Nat} {M : MH} {sz : Nat} {v : MV} {es : List (List MV)} (h : QRow lo M sz v es) {a b n d : Nat} (e : v = .sl a b n d) : lo ≤ a ∧ a < M.n := by
  obtain ⟨_, ⟨h1, _⟩ | ⟨id, e', c, h1, h2, h3, h4, _⟩⟩ := h
  · rw [e] at h1; cases h1
  · rw [e] at h1
    injection h1 with h1
    subst h1
    exact ⟨h3, h4⟩
theorem QRow.skip {lo : Nat} {M : MH} {sz : Nat} {v : MV} {x : List MV} {es : List (List MV)} (h : QRow lo M sz v (x :: es)) : QRow lo M sz (cutLo sz 1 v) es := by
  obtain ⟨hs, ⟨_, h⟩ | ⟨id, e, c, rfl, h2, h3, h4, h5⟩⟩ := h
  · cases h
  · refine ⟨fun y hy => hs y (List.mem_cons_of_mem _ hy), .inr ⟨id, e + 1, c, ?_, h2, h3, h4, ?_⟩⟩
    · show MV.sl id (e * sz + 1 * sz) ((x :: es).length - 1) (e + 1) = _
      rw [← Nat.add_mul]
      rfl
    · rw [List.flatten_cons] at h5
      have := h5.right
      rw [hs x List.mem_cons_self] at this
      rw [Nat.add_mul, Nat.one_mul]
      exact this
theorem q_app {lo sz bytes : Nat} {M : MH} {v w : MV} {es ns : List (List MV)} (h : QRow lo M sz v es) (hw : RowAt M sz w ns) (hlo : M.lo ≤ lo) (hln : lo ≤ M.n) (ho : ∀ e ∈ ns, allOne e = true) (hb : (es.length + ns.length) * bytes ≤ 140737488355328) (hl : es.length + ns.length ≤ 9223372036854775807) :
    ∃ v' M', appM M sz bytes v w = some (v', M') ∧ QRow lo M' sz v' (es ++ ns) ∧ M.n ≤ M'.n ∧ M'.lo = M.lo ∧ (∀ j, j < M.n → (∀ a b n d, v = .sl a b n d → a ≠ j) → M'.get j = M.get j) ∧ (∀ j, j < lo → j < M.n → M'.get j = M.get j) ∧ (v' = v ∨ ∃ n, v' = .sl M.n 0 n 0) := by
  have hsrc := src_row hw
  have ho := all_flat ho
  have hz := hw.1
  clear hw
  cases ns with
  | nil =>
    refine ⟨v, M, ?_, ?_, Nat.le_refl _, rfl, fun _ _ _ => rfl, fun _ _ _ => rfl, .inl rfl⟩
    · unfold appM
      rw [hsrc]
      simp only [ho, cond_true, List.length_nil]
      obtain ⟨hs, ⟨rfl, rfl⟩ | ⟨id, e, c, rfl, h2, h3, h4, h5⟩⟩ := h <;> rfl
    · rw [List.append_nil]; exact h
  | cons x ns =>
  obtain ⟨hs, ⟨rfl, rfl⟩ | ⟨id, e, c, rfl, h2, h3, h4, h5⟩⟩ := h
  · refine ⟨.sl M.n 0 (ns.length + 1) 0, M.push (.cs false sz (ofL (x :: ns).flatten 0)), ?_, ?_, Nat.le_succ _, rfl, fun j hj _ => push_old hj, fun j _ hj => push_old hj, .inr ⟨_, rfl⟩⟩
    · unfold appM
      rw [hsrc]
      simp only [List.length_nil, Nat.zero_add, List.length_cons] at hb hl
      simp only [ho, cond_true, List.length_cons]
      rw [ble_t' hb, ble_t' hl, ble_t' (show M.lo ≤ M.n by omega)]
      rfl
    · exact .of ⟨hz, .inr ⟨M.n, _, rfl, push_new _, hln, Nat.lt_succ_self _, at_ofL _⟩⟩
  · have hf := hs.flat
    have hget : Ev.getN c (es.length * sz) (e * sz) = some es.flatten := by rw [← hf]; exact h5.getN
    refine ⟨.sl M.n 0 (es.length + (ns.length + 1)) 0, (M.set id none).push (.cs false sz (appC c (es.length * sz) (e * sz) es.flatten (x :: ns).flatten)), ?_, ?_, Nat.le_succ _, rfl, fun j hj hv => ?_, fun j hj hjn => ?_, .inr ⟨_, rfl⟩⟩
    · unfold appM
      rw [hsrc]
      simp only [List.length_cons] at hb hl
      simp only [ho, cond_true, List.length_cons]
      rw [ble_t' hb, ble_t' hl, ble_t' (show M.lo ≤ id by omega), blt_t h4]
      simp only [Bool.true_and, h2, beq_self_eq_true, cond_true]
      rw [hget]
    · refine .of ⟨hs.append hz, .inr ⟨M.n, _, by simp, push_new (M := M.set id none) _, hln, Nat.lt_succ_self _, ?_⟩⟩
      rw [List.flatten_append]
      exact fun j x hj => by rw [Nat.zero_add, appC_get hget, hj]
    · rw [push_old (by rw [set_n]; exact hj), set_ne (fun e' => hv id _ es.length _ rfl e'.symm)]
    · rw [push_old (by rw [set_n]; exact hjn), set_ne (by omega)]
theorem row_same {M M' : MH} {sz : Nat} {v : MV} {es : List (List MV)} (h : RowAt M sz v es) (hn : M.n ≤ M'.n) (k : ∀ a b n d, v = .sl a b n d → a < M.n → M'.get a = M.get a) : RowAt M' sz v es := by
  obtain ⟨hs, h | ⟨id, off, e, ro, s, c, h1, h2, h3, h4⟩⟩ := h
  · exact ⟨hs, .inl h⟩
  · exact ⟨hs, .inr ⟨id, off, e, ro, s, c, h1, (k _ _ _ _ h1 h3).trans h2, Nat.lt_of_lt_of_le h3 hn, h4⟩⟩
structure DSt (M0 M' : MH) (B : Nat) (out work : List Nat) (vo vw : MV) : Prop where
  ext : Ext M0 M'
  b0 : M0.n ≤ B
  bn : B ≤ M'.n
  ro : RowAt M' 2 vo (ivs out)
  ow : OwnRow B M' 2 vo (ivs out)
  qw : QRow B M' 2 vw (ivs work)
  ap : ∀ a b n d a' b' n' d', vo = .sl a b n d → vw = .sl a' b' n' d' → a ≠ a'
theorem row_idlt {M : MH} {sz : Nat} {v : MV} {es : List (List MV)} (h : RowAt M sz v es) {a b n d : Nat} (e : v = .sl a b n d) : a < M.n := by
  obtain ⟨_, ⟨h1, _⟩ | ⟨id, off, e', ro, s, c, h1, h2, h3, _⟩⟩ := h
  · rw [e] at h1; cases h1
  · rw [e] at h1
    injection h1 with h1
    omega
theorem DSt.grow {M0 M1 M2 : MH} {B : Nat} {out work : List Nat} {vo vw : MV} (h : DSt M0 M1 B out work vo vw) (x : Ext M1 M2) : DSt M0 M2 B out work vo vw := ⟨h.ext.trans x, h.b0, Nat.le_trans h.bn x.n, h.ro.ext x, h.ow.ext x, h.qw.ext x, h.ap⟩
theorem DSt.pop {M0 M1 : MH} {B n : Nat} {out work : List Nat} {vo vw : MV} (h : DSt M0 M1 B out (n :: work) vo vw) : DSt M0 M1 B out work vo (cutLo 2 1 vw) := ⟨h.ext, h.b0, h.bn, h.ro, h.ow, h.qw.skip, fun a b n d a' b' n' d' e1 e2 => by
  obtain ⟨_, ⟨_, e⟩ | ⟨id, e, c, rfl, _⟩⟩ := h.qw
  · cases e
  · cases e2
    exact h.ap _ _ _ _ _ _ _ _ e1 rfl⟩
theorem DSt.put {M0 M1 M2 : MH} {B : Nat} {out out' work : List Nat} {vo vo' vw : MV} (h : DSt M0 M1 B out work vo vw) (x : Ext M1 M2) (hr : RowAt M2 2 vo' (ivs out')) (ho : (vo' = vo ∧ out' = out) ∨ OwnRow M1.n M2 2 vo' (ivs out')) : DSt M0 M2 B out' work vo' vw := ⟨h.ext.trans x, h.b0, Nat.le_trans h.bn x.n, hr, (by
  rcases ho with ⟨rfl, rfl⟩ | ho
  · exact h.ow.ext x
  · exact ho.le h.bn), h.qw.ext x, fun a b n d a' b' n' d' e1 e2 => by
  rcases ho with ⟨rfl, _⟩ | ho
  · exact h.ap _ _ _ _ _ _ _ _ e1 e2
  · have := (QRow.of ho).id e1
    have := h.qw.id e2
    omega⟩
theorem DSt.more {M0 M1 : MH} {B p : Nat} {out work : List Nat} {vo vw w : MV} (h : DSt M0 M1 B out work vo vw) (hw : RowAt M1 2 w [itc p]) (hl : work.length ≤ 1000000) (hlo : M1.lo ≤ M0.n) : ∃ v' M', appM M1 2 16 vw w = some (v', M') ∧ DSt M0 M' B out (work ++ [p]) vo v' := by
  have hb0 := h.b0
  have hbn := h.bn
  have hx := h.ext.lo
  have hxn := h.ext.n
  obtain ⟨v', M2, e1, e2, e3, e4, e5, e6, e7⟩ := q_app (bytes := 16) h.qw hw (by omega) hbn (fun e he => by rw [List.mem_singleton.1 he]; rfl) (by rw [ivs_len, List.length_singleton]; omega) (by rw [ivs_len, List.length_singleton]; omega)
  refine ⟨v', M2, e1, ⟨by omega, by rw [e4]; exact hx, fun j hj => (e6 j (by omega) (by omega)).trans (h.ext.old j hj)⟩, hb0, by omega, row_same h.ro e3 fun a b n d ea hlt => e5 a hlt fun a' b' n' d' ea' => fun e => h.ap _ _ _ _ _ _ _ _ ea ea' e.symm, h.ow.keep e3 fun a b n d ea => e5 a ((QRow.of h.ow).id ea).2 fun a' b' n' d' ea' => fun e => h.ap _ _ _ _ _ _ _ _ ea ea' e.symm, by rw [ivs_app]; exact e2, fun a b n d a' b' n' d' ea ea' => ?_⟩
  rcases e7 with rfl | ⟨k, rfl⟩
  · exact h.ap _ _ _ _ _ _ _ _ ea ea'
  · injection ea' with ea'
    have := row_idlt h.ro ea
    omega
theorem rclose_any {M : MH} {g : Gr} {vr vf vc vk : MV} {es : List (List MV)} {v : MV} {l : List (Int × Int)} (h : GrAt M vr vf vc vk es g) (hv : RowAt M 2 v (prs l)) (hl : l.length ≤ 1000) (hlo : M.lo ≤ M.n) : Cp fns 10 [.ag (gcs g vr vf vc vk), v] M fun m M' => Ext M M' ∧ ∃ L, CloseV g l L ∧ OwnRow M.n M' 2 m (ivs L) := by
  obtain ⟨s1, s2⟩ := hv.sl
  rw [prs_len] at s2
  refine Cp_call (fn := F10) (by kernel_rfl) (Nat.le_of_ble_eq_true rfl) ?_
  show Wp fns B10 (T.set q1 (some v) (T.set q0 (some (.ag (gcs g vr vf vc vk))) T.lf)) M _
  unfold B10
  simp (maxSteps := 4000000) (disch := first | omega | assumption | (simp only [bxS, bxV, stOk, Nat.reduceBEq, Nat.reduceEqDiff, Nat.reduceAdd]; done) | (simp only [bxU]; omega) | ((try apply has_setN); apply has_ofL; simp only [bxL]; omega)) only [↓bxD, bxP, bxQ, bxQ2, Nat.reduceBEq, reduceCtorEq, Nat.reduceAdd, Nat.reduceSub, Nat.reduceMul, Nat.reduceLeDiff, Nat.reduceLT, bxR, g_U, g_cl, g_len]
  generalize hM1 : M.push _ = M1
  have x1 : Ext M M1 := by rw [← hM1]; exact .push M _
  have g1 : M1.get M.n = some (.cs false 7 (ofL (gcs g vr vf vc vk) 0)) := by rw [← hM1]; exact push_new _
  have n1 : M1.n = M.n + 1 := by rw [← hM1]; rfl
  have l1 := x1.lo
  clear hM1
  simp (maxSteps := 4000000) (disch := first | omega | assumption | (simp only [bxS, bxV, stOk, Nat.reduceBEq, Nat.reduceEqDiff, Nat.reduceAdd]; done) | (simp only [bxU]; omega) | ((try apply has_setN); apply has_ofL; simp only [bxL]; omega)) only [↓bxD, bxP, bxQ, bxQ2, Nat.reduceBEq, reduceCtorEq, Nat.reduceAdd, Nat.reduceSub, Nat.reduceMul, Nat.reduceLeDiff, Nat.reduceLT, bxR, g1, g_N]
  refine bindP_call (formed_any (h.ext x1) (by omega)) ?_
  rintro m M2 ⟨rfl, x2⟩
  have n2 := x2.n
  have l2 := x2.lo
  have g2 := (x2.old _ (by omega)).trans g1
  by_cases hz : (formP g).2 = 0
  · have dz : decide ((formP g).2 = 0) = true := decide_eq_true hz
    have hok := form_ok hz
    have h60 := hok.rl
    have x12 := x1.trans x2
    have hri : ∀ i' r, g.rules[i']? = some r → i' < g.rules.length := fun i' r hr => (List.getElem?_eq_some_iff.1 hr).1
    simp (maxSteps := 4000000) (disch := first | omega | assumption | (simp only [bxS, bxV, stOk, Nat.reduceBEq, Nat.reduceEqDiff, Nat.reduceAdd]; done) | (simp only [bxU]; omega) | ((try apply has_setN); apply has_ofL; simp only [bxL]; omega)) only [↓bxD, bxP, bxQ, bxQ2, Nat.reduceBEq, reduceCtorEq, Nat.reduceAdd, Nat.reduceSub, Nat.reduceMul, Nat.reduceLeDiff, Nat.reduceLT, bxR, dz]
    show Wp fns K10_11 _ _ _
    unfold K10_11
    simp (maxSteps := 4000000) (disch := first | omega | assumption | (simp only [bxS, bxV, stOk, Nat.reduceBEq, Nat.reduceEqDiff, Nat.reduceAdd]; done) | (simp only [bxU]; omega) | ((try apply has_setN); apply has_ofL; simp only [bxL]; omega)) only [↓bxD, bxP, bxQ, bxQ2, Nat.reduceBEq, reduceCtorEq, Nat.reduceAdd, Nat.reduceSub, Nat.reduceMul, Nat.reduceLeDiff, Nat.reduceLT, bxR, dz]
    refine Wp_inv (σ := Nat) (fun i f M' => i ≤ l.length ∧ X.ev f (.t q1) = v ∧ X.ev f (.t q2) = .p M.n 0 ∧ X.ev f (.t q5) = .nils ∧ X.ev f (.t q7) = .i .i64 (i : Int) ∧ ∃ w, X.ev f (.t q6) = w ∧ DSt M2 M' M2.n [] (its g (l.take i)) .nils w) (fun i => l.length - i) ?_ 0 ?_
    · rintro i f M3 ⟨hi, k1, k2, k5, k7, w, k6, hD⟩
      simp only [q1, q2, q5, q6, q7] at k1 k2 k5 k6 k7
      have hx := x12.trans hD.ext
      have gA := (hD.ext.old M.n (by omega)).trans g2
      have xn := hx.n
      have xl := hx.lo
      have hbn := hD.bn
      unfold L10_3
      by_cases hi' : i < l.length
      · have d0 : decide ((i : Int) < (l.length : Int)) = true := decide_eq_true (by omega)
        obtain ⟨x, hxi⟩ : ∃ x, l[i]? = some x := ⟨_, List.getElem?_eq_getElem hi'⟩
        obtain ⟨ro, sz, t, hg, hid, hC2⟩ := (hv.ext hx).read (prs_at hxi)
        have hN2 : Ev.getN t 2 (soff v + i * 2) = some [.i .i64 x.1, .i .i64 x.2] := hC2.getN
        have wi : wrapF .i64 ((i : Int) + 1) = ((i + 1 : Nat) : Int) := by rw [wrap_in (by omega) (by omega)]; omega
        simp (maxSteps := 4000000) (disch := first | omega | assumption | (simp only [bxS, bxV, stOk, Nat.reduceBEq, Nat.reduceEqDiff, Nat.reduceAdd]; done) | (simp only [bxU]; omega) | ((try apply has_setN); apply has_ofL; simp only [bxL]; omega)) only [↓bxD, bxP, bxQ, bxQ2, Nat.reduceBEq, reduceCtorEq, Nat.reduceAdd, Nat.reduceSub, Nat.reduceMul, Nat.reduceLeDiff, Nat.reduceLT, bxR, k1, k2, k5, k6, k7, d0, s1, s2]
        show Wp fns K10_2 _ _ _
        unfold K10_2
        simp (maxSteps := 4000000) (disch := first | omega | assumption | (simp only [bxS, bxV, stOk, Nat.reduceBEq, Nat.reduceEqDiff, Nat.reduceAdd]; done) | (simp only [bxU]; omega) | ((try apply has_setN); apply has_ofL; simp only [bxL]; omega)) only [↓bxD, bxP, bxQ, bxQ2, Nat.reduceBEq, reduceCtorEq, Nat.reduceAdd, Nat.reduceSub, Nat.reduceMul, Nat.reduceLeDiff, Nat.reduceLT, bxR, k1, k2, k5, k6, k7, d0, s1, s2]
        refine Wp_dreg_of (by omega) ?_
        simp (maxSteps := 4000000) (disch := first | omega | assumption | (simp only [bxS, bxV, stOk, Nat.reduceBEq, Nat.reduceEqDiff, Nat.reduceAdd]; done) | (simp only [bxU]; omega) | ((try apply has_setN); apply has_ofL; simp only [bxL]; omega)) only [↓bxD, bxP, bxQ, bxQ2, Nat.reduceBEq, reduceCtorEq, Nat.reduceAdd, Nat.reduceSub, Nat.reduceMul, Nat.reduceLeDiff, Nat.reduceLT, bxR, k1, k2, k5, k6, k7, s1, s2, hi', hg, hN2, gA, g_N]
        refine bindP_call (item_any (h.ext hx) h60 (by omega)) ?_
        rintro m M4 ⟨x4, rfl⟩
        have n4 := x4.n
        have l4 := x4.lo
        have hg' := (x4.old _ hid).trans hg
        have hD4 := hD.grow x4
        cases hio : itemO g x.1 x.2 with
        | none =>
          simp (maxSteps := 4000000) (disch := first | omega | assumption | (simp only [bxS, bxV, stOk, Nat.reduceBEq, Nat.reduceEqDiff, Nat.reduceAdd]; done) | (simp only [bxU]; omega) | ((try apply has_setN); apply has_ofL; simp only [bxL]; omega)) only [↓bxD, bxP, bxQ, bxQ2, Nat.reduceBEq, reduceCtorEq, Nat.reduceAdd, Nat.reduceSub, Nat.reduceMul, Nat.reduceLeDiff, Nat.reduceLT, bxR, k1, k2, k5, k6, k7, hio, Option.isSome_none, wi]
          show Wp fns K10_0 _ _ _
          unfold K10_0
          simp (maxSteps := 4000000) (disch := first | omega | assumption | (simp only [bxS, bxV, stOk, Nat.reduceBEq, Nat.reduceEqDiff, Nat.reduceAdd]; done) | (simp only [bxU]; omega) | ((try apply has_setN); apply has_ofL; simp only [bxL]; omega)) only [↓bxD, bxP, bxQ, bxQ2, Nat.reduceBEq, reduceCtorEq, Nat.reduceAdd, Nat.reduceSub, Nat.reduceMul, Nat.reduceLeDiff, Nat.reduceLT, bxR, k1, k2, k5, k6, k7, hio, Option.isSome_none, wi]
          show Wp fns K10_1 _ _ _
          unfold K10_1
          simp (maxSteps := 4000000) (disch := first | omega | assumption | (simp only [bxS, bxV, stOk, Nat.reduceBEq, Nat.reduceEqDiff, Nat.reduceAdd]; done) | (simp only [bxU]; omega) | ((try apply has_setN); apply has_ofL; simp only [bxL]; omega)) only [↓bxD, bxP, bxQ, bxQ2, Nat.reduceBEq, reduceCtorEq, Nat.reduceAdd, Nat.reduceSub, Nat.reduceMul, Nat.reduceLeDiff, Nat.reduceLT, bxR, k1, k2, k5, k6, k7, hio, Option.isSome_none, wi]
          refine ⟨i + 1, by omega, by omega, rfl, _, rfl, ?_⟩
          rw [its_take hxi, hio, Option.toList_none, List.append_nil]
          exact hD4
        | some b =>
          obtain ⟨hb, hbc⟩ := itemO_some hok hio
          have hb2 : fillM [(0, 2, MV.ag [MV.i .i64 x.1, MV.i .i64 x.2])] [.i .i64 0, .i .i64 0] = some (itc b) := by rw [hbc]; rfl
          simp (maxSteps := 4000000) (disch := first | omega | assumption | (simp only [bxS, bxV, stOk, Nat.reduceBEq, Nat.reduceEqDiff, Nat.reduceAdd]; done) | (simp only [bxU]; omega) | ((try apply has_setN); apply has_ofL; simp only [bxL]; omega)) only [↓bxD, bxP, bxQ, bxQ2, Nat.reduceBEq, reduceCtorEq, Nat.reduceAdd, Nat.reduceSub, Nat.reduceMul, Nat.reduceLeDiff, Nat.reduceLT, bxR, k1, k2, k5, k6, k7, hio, Option.isSome_some, wi]
          show Wp fns K10_0 _ _ _
          unfold K10_0
          simp (maxSteps := 4000000) (disch := first | omega | assumption | (simp only [bxS, bxV, stOk, Nat.reduceBEq, Nat.reduceEqDiff, Nat.reduceAdd]; done) | (simp only [bxU]; omega) | ((try apply has_setN); apply has_ofL; simp only [bxL]; omega)) only [↓bxD, bxP, bxQ, bxQ2, Nat.reduceBEq, reduceCtorEq, Nat.reduceAdd, Nat.reduceSub, Nat.reduceMul, Nat.reduceLeDiff, Nat.reduceLT, bxR, k1, k2, k5, k6, k7, hio, Option.isSome_some, wi, s1, s2, hi', hg', hN2, hb2, bslW_some]
          have hil : (its g (l.take i)).length ≤ 1000 := by
            have := List.length_filterMap_le (fun x : Int × Int => itemO g x.1 x.2) (l.take i)
            rw [List.length_take] at this
            unfold its
            omega
          obtain ⟨v', M5, e1, hD5⟩ := (hD4.grow (.push M4 (.cs false 2 (ofL (itc b) 0)))).more (row_one (M := M4) (sz := 2) (e := itc b) rfl) (by omega) (by rw [push_lo]; omega)
          have hx5 := hD5.ext
          refine bindP_of e1 ?_
          simp (maxSteps := 4000000) (disch := first | omega | assumption | (simp only [bxS, bxV, stOk, Nat.reduceBEq, Nat.reduceEqDiff, Nat.reduceAdd]; done) | (simp only [bxU]; omega) | ((try apply has_setN); apply has_ofL; simp only [bxL]; omega)) only [↓bxD, bxP, bxQ, bxQ2, Nat.reduceBEq, reduceCtorEq, Nat.reduceAdd, Nat.reduceSub, Nat.reduceMul, Nat.reduceLeDiff, Nat.reduceLT, bxR, k1, k2, k5, k6, k7, hio, Option.isSome_some, wi]
          show Wp fns K10_1 _ _ _
          unfold K10_1
          simp (maxSteps := 4000000) (disch := first | omega | assumption | (simp only [bxS, bxV, stOk, Nat.reduceBEq, Nat.reduceEqDiff, Nat.reduceAdd]; done) | (simp only [bxU]; omega) | ((try apply has_setN); apply has_ofL; simp only [bxL]; omega)) only [↓bxD, bxP, bxQ, bxQ2, Nat.reduceBEq, reduceCtorEq, Nat.reduceAdd, Nat.reduceSub, Nat.reduceMul, Nat.reduceLeDiff, Nat.reduceLT, bxR, k1, k2, k5, k6, k7, hio, Option.isSome_some, wi]
          refine ⟨i + 1, by omega, by omega, rfl, _, rfl, ?_⟩
          rw [its_take hxi, hio, Option.toList_some]
          exact hD5
      · have hil : i = l.length := by omega
        subst hil
        rw [List.take_length] at hD
        have d0 : decide ((l.length : Int) < (l.length : Int)) = false := decide_eq_false (by omega)
        simp (maxSteps := 4000000) (disch := first | omega | assumption | (simp only [bxS, bxV, stOk, Nat.reduceBEq, Nat.reduceEqDiff, Nat.reduceAdd]; done) | (simp only [bxU]; omega) | ((try apply has_setN); apply has_ofL; simp only [bxL]; omega)) only [↓bxD, bxP, bxQ, bxQ2, Nat.reduceBEq, reduceCtorEq, Nat.reduceAdd, Nat.reduceSub, Nat.reduceMul, Nat.reduceLeDiff, Nat.reduceLT, bxR, k1, k2, k5, k6, k7, d0, s1, s2]
        show Wp fns (IC.seq (IC.block 2 (IC.loop L10_9)) K10_10) _ _ _
        have hSi : ∀ n, n ∈ its g l → IsN g n := fun n hn => its_is hok hn
        have hil : (its g l).length ≤ 1000 := by
          have := List.length_filterMap_le (fun x : Int × Int => itemO g x.1 x.2) l
          unfold its
          omega
        simp (maxSteps := 4000000) (disch := first | omega | assumption | (simp only [bxS, bxV, stOk, Nat.reduceBEq, Nat.reduceEqDiff, Nat.reduceAdd]; done) | (simp only [bxU]; omega) | ((try apply has_setN); apply has_ofL; simp only [bxL]; omega)) only [↓bxD, bxP, bxQ, bxQ2, Nat.reduceBEq, reduceCtorEq, Nat.reduceAdd, Nat.reduceSub, Nat.reduceMul, Nat.reduceLeDiff, Nat.reduceLT, bxR, k1, k2, k5, k6, k7, d0, s1, s2]
        refine Wp_inv (σ := List Nat × List Nat) (fun s f M' => DInv g (fun n => n ∈ its g l) s.1 s.2 0 g.rules.length ∧ 61 * (549 - s.1.length) + s.2.length ≤ 40000 ∧ X.ev f (.t q2) = .p M.n 0 ∧ ∃ vo w, X.ev f (.t q5) = vo ∧ X.ev f (.t q6) = w ∧ DSt M2 M' M2.n s.1 s.2 vo w) (fun s => 61 * (549 - s.1.length) + s.2.length) ?_ ([], its g l) ?_
        · clear hD k1 k2 k5 k6 k7 gA hx xn xl hbn
          rintro ⟨out, work⟩ f M3 ⟨hI, hms, k2, vo, w, k5, k6, hD⟩
          simp only at hI hms hD
          simp only [q2, q5, q6] at k2 k5 k6
          have hx := x12.trans hD.ext
          have gA := (hD.ext.old M.n (by omega)).trans g2
          have xn := hx.n
          have xl := hx.lo
          have hbn := hD.bn
          obtain ⟨o1, o2⟩ := hD.ro.sl
          rw [ivs_len] at o2
          obtain ⟨w1, w2⟩ := hD.qw.row.sl
          rw [ivs_len] at w2
          unfold L10_9
          cases work with
          | nil =>
            have w2 : slen w = 0 := w2
            have d0 : decide ((0 : Int) < ((0 : Nat) : Int)) = false := rfl
            simp (maxSteps := 4000000) (disch := first | omega | assumption | (simp only [bxS, bxV, stOk, Nat.reduceBEq, Nat.reduceEqDiff, Nat.reduceAdd]; done) | (simp only [bxU]; omega) | ((try apply has_setN); apply has_ofL; simp only [bxL]; omega)) only [↓bxD, bxP, bxQ, bxQ2, Nat.reduceBEq, reduceCtorEq, Nat.reduceAdd, Nat.reduceSub, Nat.reduceMul, Nat.reduceLeDiff, Nat.reduceLT, bxR, k2, k5, k6, w1, w2, d0]
            show Wp fns K10_10 _ _ _
            unfold K10_10
            simp (maxSteps := 4000000) (disch := first | omega | assumption | (simp only [bxS, bxV, stOk, Nat.reduceBEq, Nat.reduceEqDiff, Nat.reduceAdd]; done) | (simp only [bxU]; omega) | ((try apply has_setN); apply has_ofL; simp only [bxL]; omega)) only [↓bxD, bxP, bxQ, bxQ2, Nat.reduceBEq, reduceCtorEq, Nat.reduceAdd, Nat.reduceSub, Nat.reduceMul, Nat.reduceLeDiff, Nat.reduceLT, bxR, k2, k5, k6, w1, w2, d0]
            refine ⟨hx, out, .inr ⟨hz, bsOf out, .of_list hok h60 hSi (hI.fin hri), ?_⟩, hD.ow.le (by omega)⟩
            exact (bits_bs hI.ris fun n hn => by have := ((hI.sndO n hn).is hSi).lt hok h60; omega).symm
          | cons n work =>
            have w2 : slen w = work.length + 1 := w2
            have d0 : decide ((0 : Int) < ((work.length + 1 : Nat) : Int)) = true := decide_eq_true (by omega)
            have hnC := hI.sndW n List.mem_cons_self
            have hnI := hnC.is hSi
            have hn549 := hnI.lt hok h60
            have hms : 61 * (549 - out.length) + (work.length + 1) ≤ 40000 := hms
            obtain ⟨ro, sz, t, hg, hid, hN2, _, _⟩ := itc_read (i := 0) hD.qw.row (x := n) rfl
            rw [Nat.zero_mul, Nat.add_zero] at hN2
            have hst := @i_st n
            have c7 : Ev.getN (setN (itc n) 0 (ofL [.i .i64 0, .i .i64 0] 0)) 2 0 = some (itc n) := (at_setN _ _ _).getN
            have hc1 : cutM 2 w (some (.i .i64 1)) none = some (cutLo 2 1 w) := cutM_lo (l := 1) w1 (by omega)
            have hix : ixV 2 w (.i .i64 0) = some (.p (sid w) (soff w)) := by
              have := ix_sl (v := w) (s := 2) (k := .i64) (i := 0) w1 (by omega)
              rwa [Nat.zero_mul, Nat.add_zero] at this
            simp (maxSteps := 4000000) (disch := first | omega | assumption | (simp only [bxS, bxV, stOk, Nat.reduceBEq, Nat.reduceEqDiff, Nat.reduceAdd]; done) | (simp only [bxU]; omega) | ((try apply has_setN); apply has_ofL; simp only [bxL]; omega)) only [↓bxD, bxP, bxQ, bxQ2, Nat.reduceBEq, reduceCtorEq, Nat.reduceAdd, Nat.reduceSub, Nat.reduceMul, Nat.reduceLeDiff, Nat.reduceLT, bxR, k2, k5, k6, w1, w2, d0, hg, hN2, hst, i_cl, hc1, hix, c7, Option.map_none, Option.map_some]
            show Wp fns K10_8 _ _ _
            unfold K10_8
            simp (maxSteps := 4000000) (disch := first | omega | assumption | (simp only [bxS, bxV, stOk, Nat.reduceBEq, Nat.reduceEqDiff, Nat.reduceAdd]; done) | (simp only [bxU]; omega) | ((try apply has_setN); apply has_ofL; simp only [bxL]; omega)) only [↓bxD, bxP, bxQ, bxQ2, Nat.reduceBEq, reduceCtorEq, Nat.reduceAdd, Nat.reduceSub, Nat.reduceMul, Nat.reduceLeDiff, Nat.reduceLT, bxR, k2, k5, k6, w1, w2, d0, hg, hN2, hst, i_cl, hc1, hix, c7, Option.map_none, Option.map_some, o1, o2]
            generalize hM4 : (M3.push _).set M3.n _ = M4
            have x4 : Ext M3 M4 := by rw [← hM4]; exact (Ext.push M3 _).set _ (Nat.le_refl _)
            have n4 : M4.n = M3.n + 1 := by rw [← hM4]; rfl
            have l4 := x4.lo
            have g8 : M4.get M3.n = some (.cs false 2 (setN (itc n) 0 (ofL [.i .i64 0, .i .i64 0] 0))) := by rw [← hM4, set_same]
            clear hM4
            have hD4 := hD.pop.grow x4
            have hol := ris_len hI.ris fun x hx => ((hI.sndO x hx).is hSi).lt hok h60
            refine bindP_call (put_any (p := n) (by omega) hD4.ro (by omega)) ?_
            rintro m1 M5 ⟨x5, hr5, ho5⟩
            have hD5 := hD4.put x5 hr5 ho5
            have n5 := x5.n
            have l5 := x5.lo
            have g8' := (x5.old _ (by omega)).trans g8
            have gA5 := ((x4.trans x5).old _ (by omega)).trans gA
            obtain ⟨p1, p2⟩ := hr5.sl
            rw [ivs_len] at p2
            have hil' := insN_len n hI.ris
            have him := insN_mem n out
            have hir := insN_ris n hI.ris
            simp (maxSteps := 4000000) (disch := first | omega | assumption | (simp only [bxS, bxV, stOk, Nat.reduceBEq, Nat.reduceEqDiff, Nat.reduceAdd]; done) | (simp only [bxU]; omega) | ((try apply has_setN); apply has_ofL; simp only [bxL]; omega)) only [↓bxD, bxP, bxQ, bxQ2, Nat.reduceBEq, reduceCtorEq, Nat.reduceAdd, Nat.reduceSub, Nat.reduceMul, Nat.reduceLeDiff, Nat.reduceLT, bxR, k2, k5, k6, gA5, g_N, g8', c7, p1, p2]
            refine bindP_call (rbehind_any (h.ext ((hx.trans x4).trans x5)) hnI (by omega) h60 (by omega)) ?_
            rintro m M6 ⟨x6, z, rfl, hzb⟩
            have n6 := x6.n
            have l6 := x6.lo
            have hD6 := hD5.grow x6
            have gA6 := (x6.old _ (by omega)).trans gA5
            obtain ⟨hr1, hr2⟩ := h.rules.row.sl
            rw [h.rules.len] at hr2
            by_cases hmem : n ∈ out
            · rw [if_pos hmem] at hil'
              have d1 : decide (((insN n out).length : Int) = (out.length : Int)) = true := decide_eq_true (by rw [hil'])
              simp (maxSteps := 4000000) (disch := first | omega | assumption | (simp only [bxS, bxV, stOk, Nat.reduceBEq, Nat.reduceEqDiff, Nat.reduceAdd]; done) | (simp only [bxU]; omega) | ((try apply has_setN); apply has_ofL; simp only [bxL]; omega)) only [↓bxD, bxP, bxQ, bxQ2, Nat.reduceBEq, reduceCtorEq, Nat.reduceAdd, Nat.reduceSub, Nat.reduceMul, Nat.reduceLeDiff, Nat.reduceLT, bxR, k2, p1, p2, d1]
              exact ⟨(insN n out, work), by simp only [List.length_cons]; omega, hI.twice hir him hmem, by simp only; omega, _, _, rfl, rfl, hD6⟩
            rw [if_neg hmem] at hil'
            have d1 : decide (((insN n out).length : Int) = (out.length : Int)) = false := decide_eq_false (by omega)
            have hI2 := hI.take hri hir him hmem
            have hil2 := ris_len hir fun x hx => ((hI2.sndO x hx).is hSi).lt hok h60
            cases hb : behN g n with
            | none =>
              simp (maxSteps := 4000000) (disch := first | omega | assumption | (simp only [bxS, bxV, stOk, Nat.reduceBEq, Nat.reduceEqDiff, Nat.reduceAdd]; done) | (simp only [bxU]; omega) | ((try apply has_setN); apply has_ofL; simp only [bxL]; omega)) only [↓bxD, bxP, bxQ, bxQ2, Nat.reduceBEq, reduceCtorEq, Nat.reduceAdd, Nat.reduceSub, Nat.reduceMul, Nat.reduceLeDiff, Nat.reduceLT, bxR, k2, p1, p2, d1, hb, Option.isSome_none]
              exact ⟨(insN n out, work), by simp only [List.length_cons]; omega, hI2.bare hok (fun s hs => by rw [hb] at hs; cases hs) 0 hri, by simp only; omega, _, _, rfl, rfl, hD6⟩
            | some s =>
              obtain rfl := hzb s hb
              by_cases hz0 : z < 0
              · have d2 : decide (z < 0) = true := decide_eq_true hz0
                simp (maxSteps := 4000000) (disch := first | omega | assumption | (simp only [bxS, bxV, stOk, Nat.reduceBEq, Nat.reduceEqDiff, Nat.reduceAdd]; done) | (simp only [bxU]; omega) | ((try apply has_setN); apply has_ofL; simp only [bxL]; omega)) only [↓bxD, bxP, bxQ, bxQ2, Nat.reduceBEq, reduceCtorEq, Nat.reduceAdd, Nat.reduceSub, Nat.reduceMul, Nat.reduceLeDiff, Nat.reduceLT, bxR, k2, p1, p2, d1, d2, hb, Option.isSome_some]
                exact ⟨(insN n out, work), by simp only [List.length_cons]; omega, hI2.bare hok (fun s hs => by rw [hb] at hs; injection hs with hs; omega) 0 hri, by simp only; omega, _, _, rfl, rfl, hD6⟩
              have d2 : decide (z < 0) = false := decide_eq_false hz0
              simp (maxSteps := 4000000) (disch := first | omega | assumption | (simp only [bxS, bxV, stOk, Nat.reduceBEq, Nat.reduceEqDiff, Nat.reduceAdd]; done) | (simp only [bxU]; omega) | ((try apply has_setN); apply has_ofL; simp only [bxL]; omega)) only [↓bxD, bxP, bxQ, bxQ2, Nat.reduceBEq, reduceCtorEq, Nat.reduceAdd, Nat.reduceSub, Nat.reduceMul, Nat.reduceLeDiff, Nat.reduceLT, bxR, k2, p1, p2, d1, d2, hb, Option.isSome_some]
              show Wp fns K10_7 _ _ _
              unfold K10_7
              simp (maxSteps := 4000000) (disch := first | omega | assumption | (simp only [bxS, bxV, stOk, Nat.reduceBEq, Nat.reduceEqDiff, Nat.reduceAdd]; done) | (simp only [bxU]; omega) | ((try apply has_setN); apply has_ofL; simp only [bxL]; omega)) only [↓bxD, bxP, bxQ, bxQ2, Nat.reduceBEq, reduceCtorEq, Nat.reduceAdd, Nat.reduceSub, Nat.reduceMul, Nat.reduceLeDiff, Nat.reduceLT, bxR, k2, p1, p2, d1, d2, hb, Option.isSome_some]
              refine Wp_inv (σ := Nat × List Nat) (fun s f M' => s.1 ≤ g.rules.length ∧ DInv g (fun n => n ∈ its g l) (insN n out) s.2 n s.1 ∧ s.2.length ≤ work.length + s.1 ∧ X.ev f (.t q2) = .p M.n 0 ∧ X.ev f (.t q5) = m1 ∧ X.ev f (.t q10) = .i .i64 z ∧ X.ev f (.t q12) = .i .i64 (s.1 : Int) ∧ ∃ w, X.ev f (.t q6) = w ∧ DSt M2 M' M2.n (insN n out) s.2 m1 w) (fun s => g.rules.length - s.1) ?_ (0, work) ?_
              · clear k2 k5 k6
                rintro ⟨i, wk⟩ f M7 ⟨hi, hI3, hwl, k2, k5, k10, k12, w7, k6, hD7⟩
                simp only at hi hI3 hwl hD7 k12
                simp only [q2, q5, q6, q10, q12] at k2 k5 k6 k10 k12
                have hx7 := x12.trans hD7.ext
                have gA7 := (hD7.ext.old M.n (by omega)).trans g2
                have xn7 := hx7.n
                have xl7 := hx7.lo
                unfold L10_6
                by_cases hi' : i < g.rules.length
                · have d0 : decide ((i : Int) < (g.rules.length : Int)) = true := decide_eq_true (by omega)
                  obtain ⟨r, hr⟩ : ∃ r, g.rules[i]? = some r := ⟨_, List.getElem?_eq_getElem hi'⟩
                  obtain ⟨ua, hu, hur⟩ := h.rules.get hr
                  obtain ⟨ro, sz, t, hg, hid, hC2⟩ := (h.ext hx7).rules.row.read hu
                  have hc0 : cget t (soff vr + i * 3) = some (.i .i64 r.1) := by have := hC2 0 _ rfl; simpa using this
                  have wi : wrapF .i64 ((i : Int) + 1) = ((i + 1 : Nat) : Int) := by rw [wrap_in (by omega) (by omega)]; omega
                  simp (maxSteps := 4000000) (disch := first | omega | assumption | (simp only [bxS, bxV, stOk, Nat.reduceBEq, Nat.reduceEqDiff, Nat.reduceAdd]; done) | (simp only [bxU]; omega) | ((try apply has_setN); apply has_ofL; simp only [bxL]; omega)) only [↓bxD, bxP, bxQ, bxQ2, Nat.reduceBEq, reduceCtorEq, Nat.reduceAdd, Nat.reduceSub, Nat.reduceMul, Nat.reduceLeDiff, Nat.reduceLT, bxR, k2, k5, k6, k10, k12, d0, gA7, g_3, g_3', hr1, hr2, hg, hc0, hi']
                  show Wp fns K10_5 _ _ _
                  unfold K10_5
                  simp (maxSteps := 4000000) (disch := first | omega | assumption | (simp only [bxS, bxV, stOk, Nat.reduceBEq, Nat.reduceEqDiff, Nat.reduceAdd]; done) | (simp only [bxU]; omega) | ((try apply has_setN); apply has_ofL; simp only [bxL]; omega)) only [↓bxD, bxP, bxQ, bxQ2, Nat.reduceBEq, reduceCtorEq, Nat.reduceAdd, Nat.reduceSub, Nat.reduceMul, Nat.reduceLeDiff, Nat.reduceLT, bxR, k2, k5, k6, k10, k12, d0, gA7, g_3, g_3', hr1, hr2, hg, hc0, hi']
                  by_cases hrk : r.1 = z
                  · have d1 : decide (r.1 = z) = true := decide_eq_true hrk
                    have hit : fillM [(0, 1, MV.i .i64 (i : Int))] [.i .i64 0, .i .i64 0] = some (itc ((i + 1) * 9)) := by
                      unfold itc
                      rw [show (i + 1) * 9 / 9 = i + 1 from by omega, show (i + 1) * 9 % 9 = 0 from by omega, show ((i + 1 : Nat) : Int) - 1 = (i : Int) from by omega]
                      rfl
                    have hb2 : fillM [(0, 2, MV.ag (itc ((i + 1) * 9)))] [.i .i64 0, .i .i64 0] = some (itc ((i + 1) * 9)) := rfl
                    simp (maxSteps := 4000000) (disch := first | omega | assumption | (simp only [bxS, bxV, stOk, Nat.reduceBEq, Nat.reduceEqDiff, Nat.reduceAdd]; done) | (simp only [bxU]; omega) | ((try apply has_setN); apply has_ofL; simp only [bxL]; omega)) only [↓bxD, bxP, bxQ, bxQ2, Nat.reduceBEq, reduceCtorEq, Nat.reduceAdd, Nat.reduceSub, Nat.reduceMul, Nat.reduceLeDiff, Nat.reduceLT, bxR, k2, k5, k6, k10, k12, d1, hit, hb2, bslW_some, wi]
                    have wkl : wk.length ≤ 100000 := by omega
                    obtain ⟨v', M8, e1, hD8⟩ := (hD7.grow (.push M7 (.cs false 2 (ofL (itc ((i + 1) * 9)) 0)))).more (row_one (M := M7) (sz := 2) (e := itc ((i + 1) * 9)) rfl) (by omega) (by rw [push_lo]; omega)
                    refine bindP_of e1 ?_
                    simp (maxSteps := 4000000) (disch := first | omega | assumption | (simp only [bxS, bxV, stOk, Nat.reduceBEq, Nat.reduceEqDiff, Nat.reduceAdd]; done) | (simp only [bxU]; omega) | ((try apply has_setN); apply has_ofL; simp only [bxL]; omega)) only [↓bxD, bxP, bxQ, bxQ2, Nat.reduceBEq, reduceCtorEq, Nat.reduceAdd, Nat.reduceSub, Nat.reduceMul, Nat.reduceLeDiff, Nat.reduceLT, bxR, k2, k5, k6, k10, k12, d1, hit, hb2, bslW_some, wi]
                    show Wp fns K10_4 _ _ _
                    unfold K10_4
                    simp (maxSteps := 4000000) (disch := first | omega | assumption | (simp only [bxS, bxV, stOk, Nat.reduceBEq, Nat.reduceEqDiff, Nat.reduceAdd]; done) | (simp only [bxU]; omega) | ((try apply has_setN); apply has_ofL; simp only [bxL]; omega)) only [↓bxD, bxP, bxQ, bxQ2, Nat.reduceBEq, reduceCtorEq, Nat.reduceAdd, Nat.reduceSub, Nat.reduceMul, Nat.reduceLeDiff, Nat.reduceLT, bxR, k2, k5, k6, k10, k12, d1, hit, hb2, bslW_some, wi]
                    exact ⟨(i + 1, wk ++ [(i + 1) * 9]), by simp only; omega, by simp only; omega, hI3.rule hnC hb hr hrk, by simp only [List.length_append, List.length_cons, List.length_nil]; omega, rfl, _, rfl, hD8⟩
                  · have d1 : decide (r.1 = z) = false := decide_eq_false hrk
                    simp (maxSteps := 4000000) (disch := first | omega | assumption | (simp only [bxS, bxV, stOk, Nat.reduceBEq, Nat.reduceEqDiff, Nat.reduceAdd]; done) | (simp only [bxU]; omega) | ((try apply has_setN); apply has_ofL; simp only [bxL]; omega)) only [↓bxD, bxP, bxQ, bxQ2, Nat.reduceBEq, reduceCtorEq, Nat.reduceAdd, Nat.reduceSub, Nat.reduceMul, Nat.reduceLeDiff, Nat.reduceLT, bxR, k2, k5, k6, k10, k12, d1, wi]
                    show Wp fns K10_4 _ _ _
                    unfold K10_4
                    simp (maxSteps := 4000000) (disch := first | omega | assumption | (simp only [bxS, bxV, stOk, Nat.reduceBEq, Nat.reduceEqDiff, Nat.reduceAdd]; done) | (simp only [bxU]; omega) | ((try apply has_setN); apply has_ofL; simp only [bxL]; omega)) only [↓bxD, bxP, bxQ, bxQ2, Nat.reduceBEq, reduceCtorEq, Nat.reduceAdd, Nat.reduceSub, Nat.reduceMul, Nat.reduceLeDiff, Nat.reduceLT, bxR, k2, k5, k6, k10, k12, d1, wi]
                    exact ⟨(i + 1, wk), by simp only; omega, by simp only; omega, hI3.other hb (fun r' hr' => by rw [hr] at hr'; injection hr' with hr'; rw [← hr']; exact hrk), by simp only; omega, rfl, _, rfl, hD7⟩
                · have hil : i = g.rules.length := by omega
                  subst hil
                  have d0 : decide ((g.rules.length : Int) < (g.rules.length : Int)) = false := decide_eq_false (by omega)
                  simp (maxSteps := 4000000) (disch := first | omega | assumption | (simp only [bxS, bxV, stOk, Nat.reduceBEq, Nat.reduceEqDiff, Nat.reduceAdd]; done) | (simp only [bxU]; omega) | ((try apply has_setN); apply has_ofL; simp only [bxL]; omega)) only [↓bxD, bxP, bxQ, bxQ2, Nat.reduceBEq, reduceCtorEq, Nat.reduceAdd, Nat.reduceSub, Nat.reduceMul, Nat.reduceLeDiff, Nat.reduceLT, bxR, k2, k5, k6, k10, k12, d0, gA7, g_3, g_3', hr1, hr2]
                  exact ⟨(insN n out, wk), by simp only [List.length_cons]; omega, hI3.any hri 0 _, by simp only; omega, _, _, rfl, rfl, hD7⟩
              · exact ⟨Nat.zero_le _, hI2, Nat.le_add_right _ _, by simp only [bxP, bxQ, bxQ2, reduceCtorEq, k2, p1, p2, d1, d2, hb, Option.isSome_some], by simp only [bxP, bxQ, bxQ2, reduceCtorEq, k2, p1, p2, d1, d2, hb, Option.isSome_some], by simp only [bxP, bxQ, bxQ2, reduceCtorEq, k2, p1, p2, d1, d2, hb, Option.isSome_some], by simp only [bxP, bxQ, bxQ2, reduceCtorEq, k2, p1, p2, d1, d2, hb, Option.isSome_some] <;> rfl, _, by simp only [bxP, bxQ, bxQ2, reduceCtorEq, k2, p1, p2, d1, d2, hb, Option.isSome_some], hD6⟩
        · exact ⟨DInv.start (fun n => Iff.rfl) 0 _, by simp only [List.length_nil]; omega, by simp (maxSteps := 4000000) (disch := first | omega | assumption | (simp only [bxS, bxV, stOk, Nat.reduceBEq, Nat.reduceEqDiff, Nat.reduceAdd]; done) | (simp only [bxU]; omega) | ((try apply has_setN); apply has_ofL; simp only [bxL]; omega)) only [↓bxD, bxP, bxQ, bxQ2, Nat.reduceBEq, reduceCtorEq, Nat.reduceAdd, Nat.reduceSub, Nat.reduceMul, Nat.reduceLeDiff, Nat.reduceLT, bxR, k1, k2, k5, k6, k7, d0, s1, s2, k2], .nils, w, by simp (maxSteps := 4000000) (disch := first | omega | assumption | (simp only [bxS, bxV, stOk, Nat.reduceBEq, Nat.reduceEqDiff, Nat.reduceAdd]; done) | (simp only [bxU]; omega) | ((try apply has_setN); apply has_ofL; simp only [bxL]; omega)) only [↓bxD, bxP, bxQ, bxQ2, Nat.reduceBEq, reduceCtorEq, Nat.reduceAdd, Nat.reduceSub, Nat.reduceMul, Nat.reduceLeDiff, Nat.reduceLT, bxR, k1, k2, k5, k6, k7, d0, s1, s2, k5], by simp (maxSteps := 4000000) (disch := first | omega | assumption | (simp only [bxS, bxV, stOk, Nat.reduceBEq, Nat.reduceEqDiff, Nat.reduceAdd]; done) | (simp only [bxU]; omega) | ((try apply has_setN); apply has_ofL; simp only [bxL]; omega)) only [↓bxD, bxP, bxQ, bxQ2, Nat.reduceBEq, reduceCtorEq, Nat.reduceAdd, Nat.reduceSub, Nat.reduceMul, Nat.reduceLeDiff, Nat.reduceLT, bxR, k1, k2, k5, k6, k7, d0, s1, s2, k6], hD⟩
    · refine ⟨Nat.zero_le _, by simp only [bxP, bxQ, bxQ2, reduceCtorEq, dz], by simp only [bxP, bxQ, bxQ2, reduceCtorEq, dz], by simp only [bxP, bxQ, bxQ2, reduceCtorEq, dz], by simp only [bxP, bxQ, bxQ2, reduceCtorEq, dz] <;> rfl, .nils, by simp only [bxP, bxQ, bxQ2, reduceCtorEq, dz], ⟨.refl _, Nat.le_refl _, Nat.le_refl _, ⟨fun e he => (by cases he), .inl ⟨rfl, rfl⟩⟩, OwnRow.nil _ _ _, ⟨fun e he => (by cases he), .inl ⟨rfl, rfl⟩⟩, fun a b n d _ _ _ _ e => by cases e⟩⟩
  · have dz : decide ((formP g).2 = 0) = false := decide_eq_false hz
    simp (maxSteps := 4000000) (disch := first | omega | assumption | (simp only [bxS, bxV, stOk, Nat.reduceBEq, Nat.reduceEqDiff, Nat.reduceAdd]; done) | (simp only [bxU]; omega) | ((try apply has_setN); apply has_ofL; simp only [bxL]; omega)) only [↓bxD, bxP, bxQ, bxQ2, Nat.reduceBEq, reduceCtorEq, Nat.reduceAdd, Nat.reduceSub, Nat.reduceMul, Nat.reduceLeDiff, Nat.reduceLT, bxR, dz]
    exact ⟨x1.trans x2, [], .inl ⟨hz, rfl⟩, OwnRow.nil _ _ _⟩
theorem same_items {M : MH} {v w : MV} {l r : List Nat} (hlo : M.lo ≤ M.n) (h : RowAt M 2 v (ivs l)) (k : RowAt M 2 w (ivs r)) (hl : l.length ≤ 1000000) : Cp fns 8 [v, w] M fun m M' => m = .b (decide (l = r)) ∧ Ext M M' := by
  obtain ⟨s1, s2⟩ := h.sl
  have s2 : slen v = l.length := s2.trans (ivs_len l)
  obtain ⟨t1, t2⟩ := k.sl
  have t2 : slen w = r.length := t2.trans (ivs_len r)
  refine Cp_call (fn := F8) (by kernel_rfl) (Nat.le_of_ble_eq_true rfl) ?_
  show Wp fns B8 (T.set q1 (some w) (T.set q0 (some v) T.lf)) M _
  unfold B8
  simp (maxSteps := 4000000) (disch := first | omega | assumption | (simp only [bxS, bxV, stOk, Nat.reduceBEq, Nat.reduceEqDiff, Nat.reduceAdd]; done) | (simp only [bxU]; omega) | ((try apply has_setN); apply has_ofL; simp only [bxL]; omega)) only [↓bxD, bxP, bxQ, Nat.reduceBEq, reduceCtorEq, Nat.reduceAdd, Nat.reduceSub, Nat.reduceMul, Nat.reduceLeDiff, Nat.reduceLT, bxR, s1, s2, t1, t2]
  by_cases hlen : l.length = r.length
  · have d0 : decide ((l.length : Int) ≠ (r.length : Int)) = false := decide_eq_false (fun e => e (by omega))
    simp (maxSteps := 4000000) (disch := first | omega | assumption | (simp only [bxS, bxV, stOk, Nat.reduceBEq, Nat.reduceEqDiff, Nat.reduceAdd]; done) | (simp only [bxU]; omega) | ((try apply has_setN); apply has_ofL; simp only [bxL]; omega)) only [↓bxD, bxP, bxQ, Nat.reduceBEq, reduceCtorEq, Nat.reduceAdd, Nat.reduceSub, Nat.reduceMul, Nat.reduceLeDiff, Nat.reduceLT, bxR, s1, s2, t1, t2, d0]
    show Wp fns K8_5 _ _ _
    unfold K8_5
    simp (maxSteps := 4000000) (disch := first | omega | assumption | (simp only [bxS, bxV, stOk, Nat.reduceBEq, Nat.reduceEqDiff, Nat.reduceAdd]; done) | (simp only [bxU]; omega) | ((try apply has_setN); apply has_ofL; simp only [bxL]; omega)) only [↓bxD, bxP, bxQ, Nat.reduceBEq, reduceCtorEq, Nat.reduceAdd, Nat.reduceSub, Nat.reduceMul, Nat.reduceLeDiff, Nat.reduceLT, bxR, s1, s2, t1, t2]
    refine Wp_inv (σ := Nat) (fun i f M' => i ≤ l.length ∧ X.ev f (.t q0) = v ∧ X.ev f (.t q1) = w ∧ X.ev f (.t q5) = .i .i64 (i : Int) ∧ Ext M M' ∧ l.take i = r.take i) (fun i => l.length - i) ?_ 0 ?_
    · rintro i f M' ⟨hi, e0, e1, e5, hx, hno⟩
      have xn := hx.n
      have xl := hx.lo
      simp only [q0, q1, q5] at e0 e1 e5
      unfold L8_3
      simp (maxSteps := 4000000) (disch := first | omega | assumption | (simp only [bxS, bxV, stOk, Nat.reduceBEq, Nat.reduceEqDiff, Nat.reduceAdd]; done) | (simp only [bxU]; omega) | ((try apply has_setN); apply has_ofL; simp only [bxL]; omega)) only [↓bxD, bxP, bxQ, Nat.reduceBEq, reduceCtorEq, Nat.reduceAdd, Nat.reduceSub, Nat.reduceMul, Nat.reduceLeDiff, Nat.reduceLT, bxR, e0, e1, e5, s1, s2, t1, t2]
      refine condP_split (fun hlt => ?_) (fun hge => ?_)
      · have hi' : i < l.length := by omega
        have hir : i < r.length := by omega
        obtain ⟨x, hx1⟩ : ∃ x, l[i]? = some x := ⟨_, List.getElem?_eq_getElem hi'⟩
        obtain ⟨y, hy⟩ : ∃ y, r[i]? = some y := ⟨_, List.getElem?_eq_getElem hir⟩
        obtain ⟨ro, sz, t, g, _, hc, _, _⟩ := itc_read (h.ext hx) hx1
        obtain ⟨ro', sz', t', g', _, hc', _, _⟩ := itc_read (k.ext hx) hy
        have dq : puM (.eqA 2 true) (.ag (itc x)) (.ag (itc y)) = some (.b (!decide (x = y))) := eq_items true x y
        simp (maxSteps := 4000000) (disch := first | omega | assumption | (simp only [bxS, bxV, stOk, Nat.reduceBEq, Nat.reduceEqDiff, Nat.reduceAdd]; done) | (simp only [bxU]; omega) | ((try apply has_setN); apply has_ofL; simp only [bxL]; omega)) only [↓bxD, bxP, bxQ, Nat.reduceBEq, reduceCtorEq, Nat.reduceAdd, Nat.reduceSub, Nat.reduceMul, Nat.reduceLeDiff, Nat.reduceLT, bxR, e0, e1, e5, s1, s2, t1, t2]
        show Wp fns K8_2 _ _ _
        unfold K8_2
        simp (maxSteps := 4000000) (disch := first | omega | assumption | (simp only [bxS, bxV, stOk, Nat.reduceBEq, Nat.reduceEqDiff, Nat.reduceAdd]; done) | (simp only [bxU]; omega) | ((try apply has_setN); apply has_ofL; simp only [bxL]; omega)) only [↓bxD, bxP, bxQ, Nat.reduceBEq, reduceCtorEq, Nat.reduceAdd, Nat.reduceSub, Nat.reduceMul, Nat.reduceLeDiff, Nat.reduceLT, bxR, e0, e1, e5, s1, s2, t1, t2, g, g', hc, hc', hi', hir]
        refine Wp_dreg_of (by omega) ?_
        simp (maxSteps := 4000000) (disch := first | omega | assumption | (simp only [bxS, bxV, stOk, Nat.reduceBEq, Nat.reduceEqDiff, Nat.reduceAdd]; done) | (simp only [bxU]; omega) | ((try apply has_setN); apply has_ofL; simp only [bxL]; omega)) only [↓bxD, bxP, bxQ, Nat.reduceBEq, reduceCtorEq, Nat.reduceAdd, Nat.reduceSub, Nat.reduceMul, Nat.reduceLeDiff, Nat.reduceLT, bxR, e0, e1, e5, s1, s2, t1, t2, g, g', hc, hc', hi', hir, Option.map_some, dq]
        by_cases hxy : x = y
        · have d1 : decide (¬ x = y) = false := decide_eq_false (fun e => e hxy)
          show Wp fns K8_0 _ _ _
          unfold K8_0
          simp (maxSteps := 4000000) (disch := first | omega | assumption | (simp only [bxS, bxV, stOk, Nat.reduceBEq, Nat.reduceEqDiff, Nat.reduceAdd]; done) | (simp only [bxU]; omega) | ((try apply has_setN); apply has_ofL; simp only [bxL]; omega)) only [↓bxD, bxP, bxQ, Nat.reduceBEq, reduceCtorEq, Nat.reduceAdd, Nat.reduceSub, Nat.reduceMul, Nat.reduceLeDiff, Nat.reduceLT, bxR, e0, e1, e5, d1]
          show Wp fns K8_1 _ _ _
          unfold K8_1
          simp (maxSteps := 4000000) (disch := first | omega | assumption | (simp only [bxS, bxV, stOk, Nat.reduceBEq, Nat.reduceEqDiff, Nat.reduceAdd]; done) | (simp only [bxU]; omega) | ((try apply has_setN); apply has_ofL; simp only [bxL]; omega)) only [↓bxD, bxP, bxQ, Nat.reduceBEq, reduceCtorEq, Nat.reduceAdd, Nat.reduceSub, Nat.reduceMul, Nat.reduceLeDiff, Nat.reduceLT, bxR, e0, e1, e5, d1]
          refine ⟨i + 1, by omega, by omega, rfl, hx, ?_⟩
          rw [List.take_add_one, List.take_add_one, hx1, hy, hno, hxy]
        · have d1 : decide (¬ x = y) = true := decide_eq_true hxy
          show Wp fns K8_0 _ _ _
          unfold K8_0
          simp (maxSteps := 4000000) (disch := first | omega | assumption | (simp only [bxS, bxV, stOk, Nat.reduceBEq, Nat.reduceEqDiff, Nat.reduceAdd]; done) | (simp only [bxU]; omega) | ((try apply has_setN); apply has_ofL; simp only [bxL]; omega)) only [↓bxD, bxP, bxQ, Nat.reduceBEq, reduceCtorEq, Nat.reduceAdd, Nat.reduceSub, Nat.reduceMul, Nat.reduceLeDiff, Nat.reduceLT, bxR, d1]
          refine ⟨?_, hx⟩
          rw [decide_eq_false (fun e => hxy (by rw [e, hy] at hx1; exact (Option.some.inj hx1).symm))]
      · have hil : i = l.length := by omega
        simp (maxSteps := 4000000) (disch := first | omega | assumption | (simp only [bxS, bxV, stOk, Nat.reduceBEq, Nat.reduceEqDiff, Nat.reduceAdd]; done) | (simp only [bxU]; omega) | ((try apply has_setN); apply has_ofL; simp only [bxL]; omega)) only [↓bxD, bxP, bxQ, Nat.reduceBEq, reduceCtorEq, Nat.reduceAdd, Nat.reduceSub, Nat.reduceMul, Nat.reduceLeDiff, Nat.reduceLT, bxR, e0, e1, e5, s1, s2, t1, t2]
        show Wp fns K8_4 _ _ _
        unfold K8_4
        simp (maxSteps := 4000000) (disch := first | omega | assumption | (simp only [bxS, bxV, stOk, Nat.reduceBEq, Nat.reduceEqDiff, Nat.reduceAdd]; done) | (simp only [bxU]; omega) | ((try apply has_setN); apply has_ofL; simp only [bxL]; omega)) only [↓bxD, bxP, bxQ, Nat.reduceBEq, reduceCtorEq, Nat.reduceAdd, Nat.reduceSub, Nat.reduceMul, Nat.reduceLeDiff, Nat.reduceLT, bxR, e0, e1, e5, s1, s2, t1, t2]
        rw [hil, List.take_length, hlen, List.take_length] at hno
        rw [decide_eq_true hno]
        exact ⟨rfl, hx⟩
    · exact ⟨Nat.zero_le _, by simp only [bxP, bxQ, reduceCtorEq, s1, s2, t1, t2], by simp only [bxP, bxQ, reduceCtorEq, s1, s2, t1, t2], by simp only [bxP, bxQ, reduceCtorEq, s1, s2, t1, t2] <;> rfl, .refl _, by simp⟩
  · have d0 : decide ((l.length : Int) ≠ (r.length : Int)) = true := decide_eq_true (by omega)
    simp (maxSteps := 4000000) (disch := first | omega | assumption | (simp only [bxS, bxV, stOk, Nat.reduceBEq, Nat.reduceEqDiff, Nat.reduceAdd]; done) | (simp only [bxU]; omega) | ((try apply has_setN); apply has_ofL; simp only [bxL]; omega)) only [↓bxD, bxP, bxQ, Nat.reduceBEq, reduceCtorEq, Nat.reduceAdd, Nat.reduceSub, Nat.reduceMul, Nat.reduceLeDiff, Nat.reduceLT, bxR, s1, s2, t1, t2, d0]
    refine ⟨?_, .refl _⟩
    rw [decide_eq_false (fun e => hlen (by rw [e]))]
def fewB (g : Gr) : Bool := decide ((g.rules.length : Int) ≤ 70) && (decide ((g.forbid.length : Int) ≤ 250) && (decide ((g.rc.length : Int) ≤ 100) && decide ((g.kc.length : Int) ≤ 100)))
theorem few_any {M : MH} {g : Gr} {vr vf vc vk : MV} {es : List (List MV)} (h : GrAt M vr vf vc vk es g) (hlo : M.lo ≤ M.n) : Cp fns 7 [.ag (gcs g vr vf vc vk)] M fun m M' => m = .b (fewB g) ∧ Ext M M' := by
  obtain ⟨hr1, hr2⟩ := h.rules.row.sl
  rw [h.rules.len] at hr2
  obtain ⟨hf1, hf2⟩ := h.forbid.sl
  rw [List.length_map] at hf2
  obtain ⟨hc1, hc2⟩ := h.rc.sl
  obtain ⟨hk1, hk2⟩ := h.kc.sl
  refine Cp_call (fn := F7) (by kernel_rfl) (Nat.le_of_ble_eq_true rfl) ?_
  show Wp fns B7 (T.set q0 (some (.ag (gcs g vr vf vc vk))) T.lf) M _
  unfold B7 gcs
  have hx : ∀ l, Ext M (M.push (.cs false 7 (ofL l 0))) := fun l => .push M _
  cases d0 : decide ((g.rules.length : Int) ≤ 70) with
  | false =>
    simp (maxSteps := 4000000) (disch := first | omega | assumption | (simp only [bxS, bxV, stOk, Nat.reduceBEq, Nat.reduceEqDiff, Nat.reduceAdd]; done) | (simp only [bxU]; omega) | ((try apply has_setN); apply has_ofL; simp only [bxL]; omega)) only [↓bxD, bxP, bxQ, bxQ2, Nat.reduceBEq, reduceCtorEq, Nat.reduceAdd, Nat.reduceSub, Nat.reduceMul, Nat.reduceLeDiff, Nat.reduceLT, bxR, hr1, hr2, hf1, hf2, hc1, hc2, hk1, hk2, d0]
    exact ⟨by unfold fewB; rw [d0]; rfl, hx _⟩
  | true =>
    cases d1 : decide ((g.forbid.length : Int) ≤ 250) with
    | false =>
      simp (maxSteps := 4000000) (disch := first | omega | assumption | (simp only [bxS, bxV, stOk, Nat.reduceBEq, Nat.reduceEqDiff, Nat.reduceAdd]; done) | (simp only [bxU]; omega) | ((try apply has_setN); apply has_ofL; simp only [bxL]; omega)) only [↓bxD, bxP, bxQ, bxQ2, Nat.reduceBEq, reduceCtorEq, Nat.reduceAdd, Nat.reduceSub, Nat.reduceMul, Nat.reduceLeDiff, Nat.reduceLT, bxR, hr1, hr2, hf1, hf2, hc1, hc2, hk1, hk2, d0, d1]
      exact ⟨by unfold fewB; rw [d0, d1]; rfl, hx _⟩
    | true =>
      cases d2 : decide ((g.rc.length : Int) ≤ 100) with
      | false =>
        simp (maxSteps := 4000000) (disch := first | omega | assumption | (simp only [bxS, bxV, stOk, Nat.reduceBEq, Nat.reduceEqDiff, Nat.reduceAdd]; done) | (simp only [bxU]; omega) | ((try apply has_setN); apply has_ofL; simp only [bxL]; omega)) only [↓bxD, bxP, bxQ, bxQ2, Nat.reduceBEq, reduceCtorEq, Nat.reduceAdd, Nat.reduceSub, Nat.reduceMul, Nat.reduceLeDiff, Nat.reduceLT, bxR, hr1, hr2, hf1, hf2, hc1, hc2, hk1, hk2, d0, d1, d2]
        exact ⟨by unfold fewB; rw [d0, d1, d2]; rfl, hx _⟩
      | true =>
        simp (maxSteps := 4000000) (disch := first | omega | assumption | (simp only [bxS, bxV, stOk, Nat.reduceBEq, Nat.reduceEqDiff, Nat.reduceAdd]; done) | (simp only [bxU]; omega) | ((try apply has_setN); apply has_ofL; simp only [bxL]; omega)) only [↓bxD, bxP, bxQ, bxQ2, Nat.reduceBEq, reduceCtorEq, Nat.reduceAdd, Nat.reduceSub, Nat.reduceMul, Nat.reduceLeDiff, Nat.reduceLT, bxR, hr1, hr2, hf1, hf2, hc1, hc2, hk1, hk2, d0, d1, d2]
        exact ⟨by unfold fewB; rw [d0, d1, d2]; simp, hx _⟩
def RPost (g : Gr) (M : MH) (m : MV) (M' : MH) : Prop := Ext M M' ∧ (((formP g).2 ≠ 0 ∧ m = .nils) ∨ ((formP g).2 = 0 ∧ ∃ l, RchVec g l ∧ BRow M' m l))
def RIs (g : Gr) (l : List Bool) : Prop := ((formP g).2 ≠ 0 ∧ l = []) ∨ ((formP g).2 = 0 ∧ RchVec g l)
def PIs (g : Gr) (l : List Bool) : Prop := ((formP g).2 ≠ 0 ∧ l = []) ∨ ((formP g).2 = 0 ∧ ∃ x, ShVec g x ∧ l = x.map fun z => decide (0 ≤ z))
def SIs (g : Gr) (l : List Int) : Prop := ((formP g).2 ≠ 0 ∧ l = []) ∨ ((formP g).2 = 0 ∧ ShVec g l)
theorem ris_ext {g : Gr} {a b : List Bool} (ha : RIs g a) (hb : RIs g b) : a = b := by
  rcases ha with ⟨h, rfl⟩ | ⟨h, ha⟩ <;> rcases hb with ⟨k, rfl⟩ | ⟨k, hb⟩
  · rfl
  · exact absurd k h
  · exact absurd h k
  · exact vec_ext (ha.1.trans hb.1.symm) ha.2 hb.2
theorem RPost.is {g : Gr} {M M' : MH} {m : MV} (h : RPost g M m M') : Ext M M' ∧ ∃ l, BRow M' m l ∧ RIs g l ∧ l.length ≤ 1000000000 := by
  obtain ⟨hx, ⟨h1, rfl⟩ | ⟨h1, l, h2, h3⟩⟩ := h
  · exact ⟨hx, [], ⟨fun e he => by simp at he, .inl ⟨rfl, rfl⟩⟩, .inl ⟨h1, rfl⟩, Nat.zero_le _⟩
  · have := (form_ok h1).n2
    exact ⟨hx, l, h3, .inr ⟨h1, h2⟩, by rw [h2.1]; omega⟩
theorem PrPost.is {g : Gr} {M M' : MH} {m : MV} (h : PrPost g M m M') : Ext M M' ∧ ∃ l, BRow M' m l ∧ PIs g l ∧ l.length ≤ 1000000000 := by
  obtain ⟨hx, ⟨h1, rfl⟩ | ⟨h1, l, h2, h3⟩⟩ := h
  · exact ⟨hx, [], ⟨fun e he => by simp at he, .inl ⟨rfl, rfl⟩⟩, .inl ⟨h1, rfl⟩, Nat.zero_le _⟩
  · have := (form_ok h1).n2
    exact ⟨hx, _, h3, .inr ⟨h1, l, h2, rfl⟩, by rw [List.length_map, (h2.inn (form_ok h1)).len]; omega⟩
theorem ShPost.is {g : Gr} {M M' : MH} {m : MV} (h : ShPost g M m M') : Ext M M' ∧ ∃ l, IntRow M' m l ∧ SIs g l ∧ l.length ≤ 1000000000 := by
  obtain ⟨hx, ⟨h1, rfl⟩ | ⟨h1, l, h2, h3⟩⟩ := h
  · exact ⟨hx, [], ⟨fun e he => by simp [ints] at he, .inl ⟨rfl, rfl⟩⟩, .inl ⟨h1, rfl⟩, Nat.zero_le _⟩
  · have := (form_ok h1).n2
    exact ⟨hx, l, h3, .inr ⟨h1, h2⟩, by rw [(h2.inn (form_ok h1)).len]; omega⟩
theorem apart_two {a b : Nat × Nat} {l : List (IOper × DK)} {n : Nat} {f : Fr} {hs : List MH} (h1 : apartL [a] l n f hs = true) (h2 : apartL [b] l n f hs = true) : apartL [a, b] l n f hs = true := by
  unfold apartL at h1 h2 ⊢
  simp only [List.isEmpty_cons, Bool.false_or, List.all_cons, List.all_nil, Bool.and_true, Bool.and_eq_true] at h1 h2 ⊢
  exact ⟨h1.1, h1.2, h2.2⟩
theorem closeV_len {g : Gr} {l : List (Int × Int)} {L : List Nat} (h : CloseV g l L) : L.length ≤ 576 := by
  rcases h with ⟨_, rfl⟩ | ⟨_, W, _, rfl⟩
  · simp
  · exact bitsOf_len _ _
theorem law_close {M : MH} {g : Gr} {vr vf vc vk : MV} {es : List (List MV)} {v : MV} {l : List (Int × Int)} (h : GrAt M vr vf vc vk es g) (hv : RowAt M 2 v (prs l)) (hlo : M.lo ≤ M.n) (ha : ∀ M', Ext M M' → Cp fns 6 [] M' fun m M2 => m = .b true ∧ M2 = M') : Cp fns 3 [.ag (gcs g vr vf vc vk), v] M fun m _ => m = .b true := by
  obtain ⟨s1, s2⟩ := hv.sl
  rw [prs_len] at s2
  refine Cp_call (fn := F3) (by kernel_rfl) (Nat.le_of_ble_eq_true rfl) ?_
  show Wp fns B3 (T.set q1 (some v) (T.set q0 (some (.ag (gcs g vr vf vc vk))) T.lf)) M _
  unfold B3
  simp (maxSteps := 4000000) (disch := first | omega | assumption | (simp only [bxS, bxV, stOk, Nat.reduceBEq, Nat.reduceEqDiff, Nat.reduceAdd]; done) | (simp only [bxU]; omega) | ((try apply has_setN); apply has_ofL; simp only [bxL]; omega)) only [↓bxD, bxP, bxQ, Nat.reduceBEq, reduceCtorEq, Nat.reduceAdd, Nat.reduceSub, Nat.reduceMul, Nat.reduceLeDiff, Nat.reduceLT, bxR, g_U, g_cl, g_len]
  generalize hM1 : M.push _ = M1
  have x1 : Ext M M1 := by rw [← hM1]; exact .push M _
  have g1 : M1.get M.n = some (.cs false 7 (ofL (gcs g vr vf vc vk) 0)) := by rw [← hM1]; exact push_new _
  have n1 : M1.n = M.n + 1 := by rw [← hM1]; rfl
  have l1 := x1.lo
  clear hM1
  refine bindP_call (ha _ x1) ?_
  rintro m M2 ⟨rfl, rfl⟩
  simp (maxSteps := 4000000) (disch := first | omega | assumption | (simp only [bxS, bxV, stOk, Nat.reduceBEq, Nat.reduceEqDiff, Nat.reduceAdd]; done) | (simp only [bxU]; omega) | ((try apply has_setN); apply has_ofL; simp only [bxL]; omega)) only [↓bxD, bxP, bxQ, Nat.reduceBEq, reduceCtorEq, Nat.reduceAdd, Nat.reduceSub, Nat.reduceMul, Nat.reduceLeDiff, Nat.reduceLT, bxR, g1, g_N]
  refine bindP_call (few_any (h.ext x1) (by omega)) ?_
  rintro m M3 ⟨rfl, x3⟩
  have n3 := x3.n
  have l3 := x3.lo
  have g3 := (x3.old _ (by omega)).trans g1
  have x13 := x1.trans x3
  cases hf : fewB g with
  | false =>
    simp (maxSteps := 4000000) (disch := first | omega | assumption | (simp only [bxS, bxV, stOk, Nat.reduceBEq, Nat.reduceEqDiff, Nat.reduceAdd]; done) | (simp only [bxU]; omega) | ((try apply has_setN); apply has_ofL; simp only [bxL]; omega)) only [↓bxD, bxP, bxQ, Nat.reduceBEq, reduceCtorEq, Nat.reduceAdd, Nat.reduceSub, Nat.reduceMul, Nat.reduceLeDiff, Nat.reduceLT, bxR, s1, s2]
  | true =>
    by_cases h30 : 30 < l.length
    · have d0 : decide ((30 : Int) < (l.length : Int)) = true := decide_eq_true (by omega)
      simp (maxSteps := 4000000) (disch := first | omega | assumption | (simp only [bxS, bxV, stOk, Nat.reduceBEq, Nat.reduceEqDiff, Nat.reduceAdd]; done) | (simp only [bxU]; omega) | ((try apply has_setN); apply has_ofL; simp only [bxL]; omega)) only [↓bxD, bxP, bxQ, Nat.reduceBEq, reduceCtorEq, Nat.reduceAdd, Nat.reduceSub, Nat.reduceMul, Nat.reduceLeDiff, Nat.reduceLT, bxR, s1, s2, d0]
    · have d0 : decide ((30 : Int) < (l.length : Int)) = false := decide_eq_false (by omega)
      simp (maxSteps := 4000000) (disch := first | omega | assumption | (simp only [bxS, bxV, stOk, Nat.reduceBEq, Nat.reduceEqDiff, Nat.reduceAdd]; done) | (simp only [bxU]; omega) | ((try apply has_setN); apply has_ofL; simp only [bxL]; omega)) only [↓bxD, bxP, bxQ, Nat.reduceBEq, reduceCtorEq, Nat.reduceAdd, Nat.reduceSub, Nat.reduceMul, Nat.reduceLeDiff, Nat.reduceLT, bxR, s1, s2, d0]
      show Wp fns K3_0 _ _ _
      unfold K3_0
      simp (maxSteps := 4000000) (disch := first | omega | assumption | (simp only [bxS, bxV, stOk, Nat.reduceBEq, Nat.reduceEqDiff, Nat.reduceAdd]; done) | (simp only [bxU]; omega) | ((try apply has_setN); apply has_ofL; simp only [bxL]; omega)) only [↓bxD, bxP, bxQ, Nat.reduceBEq, reduceCtorEq, Nat.reduceAdd, Nat.reduceSub, Nat.reduceMul, Nat.reduceLeDiff, Nat.reduceLT, bxR, s1, s2, d0]
      refine Wp_dreg_of (by omega) ?_
      simp (maxSteps := 4000000) (disch := first | omega | assumption | (simp only [bxS, bxV, stOk, Nat.reduceBEq, Nat.reduceEqDiff, Nat.reduceAdd]; done) | (simp only [bxU]; omega) | ((try apply has_setN); apply has_ofL; simp only [bxL]; omega)) only [↓bxD, bxP, bxQ, Nat.reduceBEq, reduceCtorEq, Nat.reduceAdd, Nat.reduceSub, Nat.reduceMul, Nat.reduceLeDiff, Nat.reduceLT, bxR, g3, g_N]
      obtain ⟨v', M4, a1, a2, a3, a4, a5, a6, _⟩ := app_rowX (bytes := 16) (lo := M3.n) (OwnRow.nil _ M3 2) (hv.ext x13) (by omega) (Nat.le_refl _) (fun e he => by
        obtain ⟨x, _, rfl⟩ := List.mem_map.1 he
        rfl) (by rw [prs_len]; simp only [List.length_nil]; omega) (by rw [prs_len]; simp only [List.length_nil]; omega)
      refine bindP_of a1 ?_
      have x4 : Ext M3 M4 := ⟨a3, a4, fun j hj => a6 j hj hj⟩
      have x14 := x13.trans x4
      have hr4 : RowAt M4 2 v' (prs l) := a2.row
      have n4 := x4.n
      have l4 := x4.lo
      simp (maxSteps := 4000000) (disch := first | omega | assumption | (simp only [bxS, bxV, stOk, Nat.reduceBEq, Nat.reduceEqDiff, Nat.reduceAdd]; done) | (simp only [bxU]; omega) | ((try apply has_setN); apply has_ofL; simp only [bxL]; omega)) only [↓bxD, bxP, bxQ, Nat.reduceBEq, reduceCtorEq, Nat.reduceAdd, Nat.reduceSub, Nat.reduceMul, Nat.reduceLeDiff, Nat.reduceLT, bxR, g3, g_N]
      refine bindP_call (pclose_any (gr_lift (h.ext x14)) hr4 (by omega) (Nat.le_refl _)) ?_
      rintro m5 M5 ⟨x5, L, hL, hr5⟩
      have x45 := ext_dl x5
      have x15 := x14.trans x45
      have n5 := x45.n
      have l5 := x45.lo
      have g5 := ((x4.trans x45).old _ (by omega)).trans g3
      have hr5' : RowAt (M5.down M4.lo) 2 m5 (ivs L) := hr5
      simp (maxSteps := 4000000) (disch := first | omega | assumption | (simp only [bxS, bxV, stOk, Nat.reduceBEq, Nat.reduceEqDiff, Nat.reduceAdd]; done) | (simp only [bxU]; omega) | ((try apply has_setN); apply has_ofL; simp only [bxL]; omega)) only [↓bxD, bxP, bxQ, Nat.reduceBEq, reduceCtorEq, Nat.reduceAdd, Nat.reduceSub, Nat.reduceMul, Nat.reduceLeDiff, Nat.reduceLT, bxR, g3, g_N, g5, down_get]
      have hle : ∀ M' ∈ [M5.down M4.lo, M4, M3], M3.n ≤ M'.n := fun M' hM' => by
        simp only [List.mem_cons, List.not_mem_nil, or_false] at hM'
        rcases hM' with rfl | rfl | rfl
        · exact Nat.le_trans n4 n5
        · exact n4
        · exact Nat.le_refl _
      refine ⟨apart_two (apart_app (id := M.n) (off := 0) (x := .t q2) rfl rfl (by simp only [bxP, bxQ, reduceCtorEq, g3, g_N, g5, down_get] <;> rfl) (by omega) hle) (apart_app (id := M.n) (off := 0) (x := .t q2) rfl rfl (by simp only [bxP, bxQ, reduceCtorEq, g3, g_N, g5, down_get] <;> rfl) (by omega) hle), ?_⟩
      refine bindP_call (rclose_any (h.ext x15) (hv.ext x15) (by omega) (by omega)) ?_
      rintro m6 M6 ⟨x6, L', hL', hr6⟩
      obtain rfl := hL.ext hL'
      have n6 := x6.n
      have l6 := x6.lo
      simp (maxSteps := 4000000) (disch := first | omega | assumption | (simp only [bxS, bxV, stOk, Nat.reduceBEq, Nat.reduceEqDiff, Nat.reduceAdd]; done) | (simp only [bxU]; omega) | ((try apply has_setN); apply has_ofL; simp only [bxL]; omega)) only [↓bxD, bxP, bxQ, Nat.reduceBEq, reduceCtorEq, Nat.reduceAdd, Nat.reduceSub, Nat.reduceMul, Nat.reduceLeDiff, Nat.reduceLT, bxR, g3, g_N, g5, down_get]
      refine bindP_call (same_items (by omega) (hr5'.ext x6) hr6.row (by have := closeV_len hL; omega)) ?_
      rintro m7 M7 ⟨rfl, x7⟩
      simp (maxSteps := 4000000) (disch := first | omega | assumption | (simp only [bxS, bxV, stOk, Nat.reduceBEq, Nat.reduceEqDiff, Nat.reduceAdd]; done) | (simp only [bxU]; omega) | ((try apply has_setN); apply has_ofL; simp only [bxL]; omega)) only [↓bxD, bxP, bxQ, Nat.reduceBEq, reduceCtorEq, Nat.reduceAdd, Nat.reduceSub, Nat.reduceMul, Nat.reduceLeDiff, Nat.reduceLT, bxR, g3, g_N, g5, down_get]
      show Wp fns IC.ret _ _ _
      simp (maxSteps := 4000000) (disch := first | omega | assumption | (simp only [bxS, bxV, stOk, Nat.reduceBEq, Nat.reduceEqDiff, Nat.reduceAdd]; done) | (simp only [bxU]; omega) | ((try apply has_setN); apply has_ofL; simp only [bxL]; omega)) only [↓bxD, bxP, bxQ, Nat.reduceBEq, reduceCtorEq, Nat.reduceAdd, Nat.reduceSub, Nat.reduceMul, Nat.reduceLeDiff, Nat.reduceLT, bxR, g3, g_N, g5, down_get, decide_true]
end Go.Proofs.YtpdcahaggacacaaDoor.K
set_option linter.unusedSimpArgs false
set_option linter.unusedVariables false
set_option maxRecDepth 100000
namespace Go.Proofs.YtpdcahaggacacaaDoor.Ev
open Go
theorem wf_of {z : Int} (h : (Lit.int .i64 z).wf = true) : Wf64 z := by
  simp only [Lit.wf, Bool.and_eq_true, decide_eq_true_eq] at h
  exact h
theorem list_of {α : Type} {F : α → List MV} {W : α → Prop} : ∀ {es : List (List MV)}, (∀ x ∈ es, ∃ a, x = F a ∧ W a) → ∃ l : List α, es = l.map F ∧ ∀ a ∈ l, W a
  | [], _ => ⟨[], rfl, fun a ha => by cases ha⟩
  | x :: es, h => by
    obtain ⟨a, rfl, wa⟩ := h x List.mem_cons_self
    obtain ⟨l, rfl, hl⟩ := list_of fun y hy => h y (List.mem_cons_of_mem _ hy)
    exact ⟨a :: l, rfl, fun b hb => (List.mem_cons.1 hb).elim (fun e => e ▸ wa) (hl b)⟩
theorem list_of2 {α : Type} {R : List MV → α → Prop} : ∀ {es : List (List MV)}, (∀ x ∈ es, ∃ a, R x a) → ∃ l : List α, es.length = l.length ∧ (∀ (i : Nat) e a, es[i]? = some e → l[i]? = some a → R e a) ∧ ∀ a ∈ l, ∃ x, R x a
  | [], _ => ⟨[], rfl, fun i e a h => by simp at h, fun a ha => by cases ha⟩
  | x :: es, h => by
    obtain ⟨a, ra⟩ := h x List.mem_cons_self
    obtain ⟨l, hl, hr, hw⟩ := list_of2 fun y hy => h y (List.mem_cons_of_mem _ hy)
    refine ⟨a :: l, by rw [List.length_cons, List.length_cons, hl], fun i e b h1 h2 => ?_, fun b hb => (List.mem_cons.1 hb).elim (fun e => ⟨x, e ▸ ra⟩) (hw b)⟩
    cases i with
    | zero => simp only [List.getElem?_cons_zero, Option.some.injEq] at h1 h2; subst h1 h2; exact ra
    | succ i => exact hr i e b (by simpa using h1) (by simpa using h2)
variable {P : Program} {M : MH}
theorem typed_int {n : Nat} {e : TypeId} (hu : P.underlying e = some (.int .i64)) {x : List MV} (h : Typed P M n e x) : ∃ z, x = [.i .i64 z] ∧ Wf64 z := by
  cases n with
  | zero => exact h.elim
  | succ n =>
    simp only [Typed, hu] at h
    obtain ⟨z, rfl, hz⟩ := h
    exact ⟨z, rfl, wf_of hz⟩
theorem typed_ints {n : Nat} {t e : TypeId} (ht : P.underlying t = some (.slice e)) (hu : P.underlying e = some (.int .i64)) (hc : P.cellsOf e = 1) {x : List MV} (h : Typed P M n t x) : ∃ v l, x = [v] ∧ IntRow M v l ∧ (∀ z ∈ l, Wf64 z) ∧ l.length ≤ 9223372036854775807 := by
  cases n with
  | zero => exact h.elim
  | succ n =>
    simp only [Typed, ht] at h
    obtain ⟨v, es, rfl, hr, hm, hl⟩ := h
    obtain ⟨l, rfl, hw⟩ := list_of (F := fun z => [MV.i .i64 z]) (W := Wf64) fun x hx => typed_int hu (hl x hx)
    rw [hc] at hr
    rw [List.length_map] at hm
    exact ⟨v, l, rfl, hr, hw, hm⟩
end Go.Proofs.YtpdcahaggacacaaDoor.Ev
namespace Go.Proofs.YtpdcahaggacacaaDoor
open Go Ev
theorem rule_of {M : MH} {n : Nat} {x : List MV} (h : Typed Tryd.prog M n 42 x) : ∃ r : Int × List Int × Int, RuleAt M x r ∧ Wf64 r.1 ∧ (∀ z ∈ r.2.1, Wf64 z) ∧ Wf64 r.2.2 ∧ r.2.1.length ≤ 9223372036854775807 := by
  cases n with
  | zero => exact h.elim
  | succ n =>
    simp only [Typed, Tryd.underlying42] at h
    simp only [TypedFs] at h
    obtain ⟨_, _, rfl, h1, _, _, rfl, h2, _, _, rfl, h3, rfl⟩ := h
    obtain ⟨a, rfl, wa⟩ := typed_int Tryd.underlying3 h1
    obtain ⟨v, l, rfl, hr, hw, hm⟩ := typed_ints Tryd.underlying24 Tryd.underlying3 (by kernel_rfl) h2
    obtain ⟨b, rfl, wb⟩ := typed_int Tryd.underlying3 h3
    exact ⟨(a, l, b), ⟨v, rfl, hr⟩, wa, hw, wb, hm⟩
theorem trip_of {M : MH} {n : Nat} {x : List MV} (h : Typed Tryd.prog M n 81 x) : ∃ f : Int × Int × Int, x = trip f ∧ Wf64 f.1 ∧ Wf64 f.2.1 ∧ Wf64 f.2.2 := by
  cases n with
  | zero => exact h.elim
  | succ n =>
    simp only [Typed, Tryd.underlying81] at h
    simp only [TypedN] at h
    obtain ⟨_, _, rfl, h1, _, _, rfl, h2, _, _, rfl, h3, rfl⟩ := h
    obtain ⟨a, rfl, wa⟩ := typed_int Tryd.underlying3 h1
    obtain ⟨b, rfl, wb⟩ := typed_int Tryd.underlying3 h2
    obtain ⟨c, rfl, wc⟩ := typed_int Tryd.underlying3 h3
    exact ⟨(a, b, c), rfl, wa, wb, wc⟩
theorem gram_of {M : MH} {m : MV} (hx : Ext (Mtab tabZ) M) (h : ArgTyped Tryd.prog M 26 m) : ∃ g vr vf vc vk es, m = .ag (gcs g vr vf vc vk) ∧ GrAt M vr vf vc vk es g := by
  obtain ⟨n, cs, h1, h2⟩ := h
  simp only [Tryd.underlying26] at h2
  subst h2
  cases n with
  | zero => exact h1.elim
  | succ n =>
    simp only [Typed, Tryd.underlying26] at h1
    simp only [TypedFs] at h1
    obtain ⟨_, _, rfl, k1, _, _, rfl, k2, _, _, rfl, k3, _, _, rfl, k4, _, _, rfl, k5, _, _, rfl, k6, _, _, rfl, k7, rfl⟩ := h1
    obtain ⟨a, rfl, wa⟩ := typed_int Tryd.underlying3 k1
    obtain ⟨b, rfl, wb⟩ := typed_int Tryd.underlying3 k2
    obtain ⟨c, rfl, wc⟩ := typed_int Tryd.underlying3 k3
    obtain ⟨vc, lc, rfl, rc, hwc, hmc⟩ := typed_ints Tryd.underlying24 Tryd.underlying3 (by kernel_rfl) k6
    obtain ⟨vk, lk, rfl, rk, hwk, hmk⟩ := typed_ints Tryd.underlying24 Tryd.underlying3 (by kernel_rfl) k7
    cases n with
    | zero => exact k4.elim
    | succ n =>
      simp only [Typed, Tryd.underlying22] at k4
      simp only [Typed, Tryd.underlying23] at k5
      obtain ⟨vr, es, rfl, hr, hrm, hrl⟩ := k4
      obtain ⟨vf, fs, rfl, hf, hfm, hfl⟩ := k5
      obtain ⟨l, hl1, hl2, hl3⟩ := list_of2 fun x hx => rule_of (hrl x hx)
      obtain ⟨fl, rfl, hfw⟩ := list_of (F := trip) (W := fun f => Wf64 f.1 ∧ Wf64 f.2.1 ∧ Wf64 f.2.2) fun x hx => trip_of (hfl x hx)
      rw [show Tryd.prog.cellsOf 42 = 3 from by kernel_rfl] at hr
      rw [show Tryd.prog.cellsOf 81 = 3 from by kernel_rfl] at hf
      rw [List.length_map] at hfm
      refine ⟨⟨a, b, c, l, fl, lc, lk⟩, vr, vf, vc, vk, es, rfl, ⟨⟨hr, hl1, fun i e r h1 h2 => (hl2 i e r h1 h2).1⟩, hf, rc, rk, ⟨wa, wb, wc, fun r hr => ?_, hfw, hwc, hwk, by rw [← hl1]; exact hrm, hfm, hmc, hmk⟩, .of hx⟩⟩
      obtain ⟨x, hx⟩ := hl3 r hr
      exact hx.2
end Go.Proofs.YtpdcahaggacacaaDoor
set_option linter.unusedSimpArgs false
set_option linter.unusedVariables false
namespace Go.Proofs.YtpdcahaggacacaaDoor.K
open Go Ev
set_option maxRecDepth 100000
set_option maxHeartbeats 4000000

theorem item_of {M : MH} {n : Nat} {x : List MV} (h : Typed Tryd.prog M n 47 x) : ∃ f : Int × Int, x = [.i .i64 f.1, .i .i64 f.2] ∧ True := by
  cases n with
  | zero => exact h.elim
  | succ n =>
    simp only [Typed, Tryd.underlying47] at h
    simp only [TypedFs] at h
    obtain ⟨_, _, rfl, h1, _, _, rfl, h2, rfl⟩ := h
    obtain ⟨a, rfl, wa⟩ := typed_int Tryd.underlying3 h1
    obtain ⟨b, rfl, wb⟩ := typed_int Tryd.underlying3 h2
    exact ⟨(a, b), rfl, trivial⟩
theorem items_of {M : MH} {m : MV} (h : ArgTyped Tryd.prog M 27 m) : ∃ l, RowAt M 2 m (prs l) := by
  obtain ⟨n, cs, h1, h2⟩ := h
  simp only [Tryd.underlying27] at h2
  subst h2
  cases n with
  | zero => exact h1.elim
  | succ n =>
    simp only [Typed, Tryd.underlying27] at h1
    obtain ⟨v, es, e, hr, hm, hl⟩ := h1
    injection e with e _
    subst e
    obtain ⟨l, rfl, _⟩ := list_of (F := fun f : Int × Int => [MV.i .i64 f.1, .i .i64 f.2]) (W := fun _ => True) fun x hx => item_of (hl x hx)
    rw [show Tryd.prog.cellsOf 47 = 2 from by kernel_rfl] at hr
    exact ⟨l, hr⟩
theorem al_any {M M' : MH} (hx : Ext (Mtab tabZ) M) (h : Ext M M') : Cp fns 6 [] M' fun m M2 => m = .b true ∧ M2 = M' := Cp_tab (tab := tabZ) (by kernel_rfl) (hx.trans h)
theorem close_model (M : MH) (ms : List MV) (hx : Ext (Mtab tabZ) M) (hlo : M.lo ≤ M.n) (ha : ArgsTyped Tryd.prog M [26, 27] ms) : Cp fns 3 ms M fun m _ => m = .b true := by
  obtain ⟨m, r, rfl, h, m2, r2, rfl, h2, rfl⟩ := ha
  obtain ⟨g, vr, vf, vc, vk, es, rfl, hg⟩ := gram_of hx h
  obtain ⟨l, hl⟩ := items_of h2
  exact law_close hg hl hlo (fun M' h => al_any hx h)
end Go.Proofs.YtpdcahaggacacaaDoor.K
