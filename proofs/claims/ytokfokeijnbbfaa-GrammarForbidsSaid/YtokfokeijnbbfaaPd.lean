/-
  The program's Form: what is asked of the whole. Conditions: none.
-/
import Derived.Test.YtokfokeijnbbfaaPc
import Derived.Test.YtokfokeijnbbfaaLitK
import Derived.Test.YtokfokeijnbbfaaSw
import Derived.Test.YtokfokeijnbbfaaBx
set_option linter.unusedSimpArgs false
set_option linter.unusedVariables false
namespace Go.Proofs.Ytokfokeijnbbfaa.K
open Go Ev
set_option maxRecDepth 100000
set_option maxHeartbeats 4000000

theorem wholeError_any {M : MH} {g : Gr} {vr vf vc vk : MV} {es : List (List MV)} (h : GrAt M vr vf vc vk es g) (hlo : M.lo ≤ M.n) :
    Cp fns 10 [.ag (gcs g vr vf vc vk)] M fun m M' => m = .i .i64 (numE (headE g)) ∧ Ext M M' := by
  obtain ⟨hr1, hr2⟩ := h.rules.row.sl
  rw [h.rules.len] at hr2
  obtain ⟨hf1, hf2⟩ := h.forbid.sl
  rw [List.length_map] at hf2
  obtain ⟨hc1, hc2⟩ := h.rc.sl
  obtain ⟨hk1, hk2⟩ := h.kc.sl
  obtain ⟨hw1, hw2, hw3, hw4⟩ := h.wf.lens
  refine Cp_call (fn := F10) (by kernel_rfl) (Nat.le_of_ble_eq_true rfl) ?_
  show Wp fns B10 (T.set q0 (some (.ag (gcs g vr vf vc vk))) T.lf) M _
  unfold B10
  rw [show gcs g vr vf vc vk = [MV.i IntKind.i64 g.names, MV.i IntKind.i64 g.kinds, MV.i IntKind.i64 g.start, vr, vf, vc, vk] from rfl]
  simp (maxSteps := 4000000) (disch := first | omega | assumption | (simp only [bxS, stOk, Nat.reduceBEq, Nat.reduceEqDiff, Nat.reduceAdd]; done) | (simp only [push_lo, push_n, set_lo, set_n]; omega) | (apply has_ofL; simp only [List.length_cons, List.length_nil]; omega) | (apply has_setN; apply has_ofL; simp only [List.length_cons, List.length_nil]; omega)) only [↓bxD, bxP, bxQ, Nat.reduceBEq, reduceCtorEq, Nat.reduceAdd, Nat.reduceSub, Nat.reduceMul, Nat.reduceLeDiff, Nat.reduceLT, R10, R11, R12, R13, R14, R15, R16, R17, R18, R19, R20, R21, R3, R4, R5, R7, R8, R9, hr1, hr2, hf1, hf2, hc1, hc2, hk1, hk2]
  generalize hM1 : M.push _ = M1
  have hb0 : M1.get M.n = some (.cs false 7 (ofL [MV.i IntKind.i64 g.names, MV.i IntKind.i64 g.kinds, MV.i IntKind.i64 g.start, vr, vf, vc, vk] 0)) := by rw [← hM1]; exact push_new _
  have hx1 : Ext M M1 := by rw [← hM1]; exact .push M _
  have hn1 : M1.n = M.n + 1 := by rw [← hM1]; rfl
  have hl1 := hx1.lo
  clear hM1
  have h1 := h.ext hx1
  have hq1 : ∀ (c : Prop) [Decidable c], c → decide c = true := fun c _ h => decide_eq_true h
  by_cases ca0 : g.names < 1
  · have da0 : decide (g.names < 1) = true := decide_eq_true ca0
    simp (maxSteps := 4000000) (disch := first | omega | assumption | (simp only [bxS, stOk, Nat.reduceBEq, Nat.reduceEqDiff, Nat.reduceAdd]; done) | (simp only [push_lo, push_n, set_lo, set_n]; omega) | (apply has_ofL; simp only [List.length_cons, List.length_nil]; omega) | (apply has_setN; apply has_ofL; simp only [List.length_cons, List.length_nil]; omega)) only [↓bxD, bxP, bxQ, Nat.reduceBEq, reduceCtorEq, Nat.reduceAdd, Nat.reduceSub, Nat.reduceMul, Nat.reduceLeDiff, Nat.reduceLT, R10, R11, R12, R13, R14, R15, R16, R17, R18, R19, R20, R21, R3, R4, R5, R7, R8, R9, hr1, hr2, hf1, hf2, hc1, hc2, hk1, hk2, hb0, da0]
    show Wp fns K10_1 _ _ _
    unfold K10_1
    simp (maxSteps := 4000000) (disch := first | omega | assumption | (simp only [bxS, stOk, Nat.reduceBEq, Nat.reduceEqDiff, Nat.reduceAdd]; done) | (simp only [push_lo, push_n, set_lo, set_n]; omega) | (apply has_ofL; simp only [List.length_cons, List.length_nil]; omega) | (apply has_setN; apply has_ofL; simp only [List.length_cons, List.length_nil]; omega)) only [↓bxD, bxP, bxQ, Nat.reduceBEq, reduceCtorEq, Nat.reduceAdd, Nat.reduceSub, Nat.reduceMul, Nat.reduceLeDiff, Nat.reduceLT, R10, R11, R12, R13, R14, R15, R16, R17, R18, R19, R20, R21, R3, R4, R5, R7, R8, R9, hr1, hr2, hf1, hf2, hc1, hc2, hk1, hk2, hb0, da0]
    exact ⟨by unfold headE; rw [if_pos (by omega)]; rfl, hx1⟩
  have da0 : decide (g.names < 1) = false := decide_eq_false ca0
  by_cases ca1 : 40 < g.names
  · have da1 : decide (40 < g.names) = true := decide_eq_true ca1
    simp (maxSteps := 4000000) (disch := first | omega | assumption | (simp only [bxS, stOk, Nat.reduceBEq, Nat.reduceEqDiff, Nat.reduceAdd]; done) | (simp only [push_lo, push_n, set_lo, set_n]; omega) | (apply has_ofL; simp only [List.length_cons, List.length_nil]; omega) | (apply has_setN; apply has_ofL; simp only [List.length_cons, List.length_nil]; omega)) only [↓bxD, bxP, bxQ, Nat.reduceBEq, reduceCtorEq, Nat.reduceAdd, Nat.reduceSub, Nat.reduceMul, Nat.reduceLeDiff, Nat.reduceLT, R10, R11, R12, R13, R14, R15, R16, R17, R18, R19, R20, R21, R3, R4, R5, R7, R8, R9, hr1, hr2, hf1, hf2, hc1, hc2, hk1, hk2, hb0, da0, da1]
    show Wp fns K10_1 _ _ _
    unfold K10_1
    simp (maxSteps := 4000000) (disch := first | omega | assumption | (simp only [bxS, stOk, Nat.reduceBEq, Nat.reduceEqDiff, Nat.reduceAdd]; done) | (simp only [push_lo, push_n, set_lo, set_n]; omega) | (apply has_ofL; simp only [List.length_cons, List.length_nil]; omega) | (apply has_setN; apply has_ofL; simp only [List.length_cons, List.length_nil]; omega)) only [↓bxD, bxP, bxQ, Nat.reduceBEq, reduceCtorEq, Nat.reduceAdd, Nat.reduceSub, Nat.reduceMul, Nat.reduceLeDiff, Nat.reduceLT, R10, R11, R12, R13, R14, R15, R16, R17, R18, R19, R20, R21, R3, R4, R5, R7, R8, R9, hr1, hr2, hf1, hf2, hc1, hc2, hk1, hk2, hb0, da0, da1]
    exact ⟨by unfold headE; rw [if_pos (by omega)]; rfl, hx1⟩
  have da1 : decide (40 < g.names) = false := decide_eq_false ca1
  by_cases ca2 : g.kinds < 0
  · have da2 : decide (g.kinds < 0) = true := decide_eq_true ca2
    simp (maxSteps := 4000000) (disch := first | omega | assumption | (simp only [bxS, stOk, Nat.reduceBEq, Nat.reduceEqDiff, Nat.reduceAdd]; done) | (simp only [push_lo, push_n, set_lo, set_n]; omega) | (apply has_ofL; simp only [List.length_cons, List.length_nil]; omega) | (apply has_setN; apply has_ofL; simp only [List.length_cons, List.length_nil]; omega)) only [↓bxD, bxP, bxQ, Nat.reduceBEq, reduceCtorEq, Nat.reduceAdd, Nat.reduceSub, Nat.reduceMul, Nat.reduceLeDiff, Nat.reduceLT, R10, R11, R12, R13, R14, R15, R16, R17, R18, R19, R20, R21, R3, R4, R5, R7, R8, R9, hr1, hr2, hf1, hf2, hc1, hc2, hk1, hk2, hb0, da0, da1, da2]
    show Wp fns K10_1 _ _ _
    unfold K10_1
    simp (maxSteps := 4000000) (disch := first | omega | assumption | (simp only [bxS, stOk, Nat.reduceBEq, Nat.reduceEqDiff, Nat.reduceAdd]; done) | (simp only [push_lo, push_n, set_lo, set_n]; omega) | (apply has_ofL; simp only [List.length_cons, List.length_nil]; omega) | (apply has_setN; apply has_ofL; simp only [List.length_cons, List.length_nil]; omega)) only [↓bxD, bxP, bxQ, Nat.reduceBEq, reduceCtorEq, Nat.reduceAdd, Nat.reduceSub, Nat.reduceMul, Nat.reduceLeDiff, Nat.reduceLT, R10, R11, R12, R13, R14, R15, R16, R17, R18, R19, R20, R21, R3, R4, R5, R7, R8, R9, hr1, hr2, hf1, hf2, hc1, hc2, hk1, hk2, hb0, da0, da1, da2]
    exact ⟨by unfold headE; rw [if_pos (by omega)]; rfl, hx1⟩
  have da2 : decide (g.kinds < 0) = false := decide_eq_false ca2
  by_cases ca3 : 40 < g.kinds
  · have da3 : decide (40 < g.kinds) = true := decide_eq_true ca3
    simp (maxSteps := 4000000) (disch := first | omega | assumption | (simp only [bxS, stOk, Nat.reduceBEq, Nat.reduceEqDiff, Nat.reduceAdd]; done) | (simp only [push_lo, push_n, set_lo, set_n]; omega) | (apply has_ofL; simp only [List.length_cons, List.length_nil]; omega) | (apply has_setN; apply has_ofL; simp only [List.length_cons, List.length_nil]; omega)) only [↓bxD, bxP, bxQ, Nat.reduceBEq, reduceCtorEq, Nat.reduceAdd, Nat.reduceSub, Nat.reduceMul, Nat.reduceLeDiff, Nat.reduceLT, R10, R11, R12, R13, R14, R15, R16, R17, R18, R19, R20, R21, R3, R4, R5, R7, R8, R9, hr1, hr2, hf1, hf2, hc1, hc2, hk1, hk2, hb0, da0, da1, da2, da3]
    show Wp fns K10_1 _ _ _
    unfold K10_1
    simp (maxSteps := 4000000) (disch := first | omega | assumption | (simp only [bxS, stOk, Nat.reduceBEq, Nat.reduceEqDiff, Nat.reduceAdd]; done) | (simp only [push_lo, push_n, set_lo, set_n]; omega) | (apply has_ofL; simp only [List.length_cons, List.length_nil]; omega) | (apply has_setN; apply has_ofL; simp only [List.length_cons, List.length_nil]; omega)) only [↓bxD, bxP, bxQ, Nat.reduceBEq, reduceCtorEq, Nat.reduceAdd, Nat.reduceSub, Nat.reduceMul, Nat.reduceLeDiff, Nat.reduceLT, R10, R11, R12, R13, R14, R15, R16, R17, R18, R19, R20, R21, R3, R4, R5, R7, R8, R9, hr1, hr2, hf1, hf2, hc1, hc2, hk1, hk2, hb0, da0, da1, da2, da3]
    exact ⟨by unfold headE; rw [if_pos (by omega)]; rfl, hx1⟩
  have da3 : decide (40 < g.kinds) = false := decide_eq_false ca3
  by_cases ca4 : (60 : Int) < (g.rules.length : Int)
  · have da4 : decide ((60 : Int) < (g.rules.length : Int)) = true := decide_eq_true ca4
    simp (maxSteps := 4000000) (disch := first | omega | assumption | (simp only [bxS, stOk, Nat.reduceBEq, Nat.reduceEqDiff, Nat.reduceAdd]; done) | (simp only [push_lo, push_n, set_lo, set_n]; omega) | (apply has_ofL; simp only [List.length_cons, List.length_nil]; omega) | (apply has_setN; apply has_ofL; simp only [List.length_cons, List.length_nil]; omega)) only [↓bxD, bxP, bxQ, Nat.reduceBEq, reduceCtorEq, Nat.reduceAdd, Nat.reduceSub, Nat.reduceMul, Nat.reduceLeDiff, Nat.reduceLT, R10, R11, R12, R13, R14, R15, R16, R17, R18, R19, R20, R21, R3, R4, R5, R7, R8, R9, hr1, hr2, hf1, hf2, hc1, hc2, hk1, hk2, hb0, da0, da1, da2, da3, da4]
    show Wp fns K10_1 _ _ _
    unfold K10_1
    simp (maxSteps := 4000000) (disch := first | omega | assumption | (simp only [bxS, stOk, Nat.reduceBEq, Nat.reduceEqDiff, Nat.reduceAdd]; done) | (simp only [push_lo, push_n, set_lo, set_n]; omega) | (apply has_ofL; simp only [List.length_cons, List.length_nil]; omega) | (apply has_setN; apply has_ofL; simp only [List.length_cons, List.length_nil]; omega)) only [↓bxD, bxP, bxQ, Nat.reduceBEq, reduceCtorEq, Nat.reduceAdd, Nat.reduceSub, Nat.reduceMul, Nat.reduceLeDiff, Nat.reduceLT, R10, R11, R12, R13, R14, R15, R16, R17, R18, R19, R20, R21, R3, R4, R5, R7, R8, R9, hr1, hr2, hf1, hf2, hc1, hc2, hk1, hk2, hb0, da0, da1, da2, da3, da4]
    exact ⟨by unfold headE; rw [if_pos (by omega)]; rfl, hx1⟩
  have da4 : decide ((60 : Int) < (g.rules.length : Int)) = false := decide_eq_false ca4
  by_cases ca5 : (200 : Int) < (g.forbid.length : Int)
  · have da5 : decide ((200 : Int) < (g.forbid.length : Int)) = true := decide_eq_true ca5
    simp (maxSteps := 4000000) (disch := first | omega | assumption | (simp only [bxS, stOk, Nat.reduceBEq, Nat.reduceEqDiff, Nat.reduceAdd]; done) | (simp only [push_lo, push_n, set_lo, set_n]; omega) | (apply has_ofL; simp only [List.length_cons, List.length_nil]; omega) | (apply has_setN; apply has_ofL; simp only [List.length_cons, List.length_nil]; omega)) only [↓bxD, bxP, bxQ, Nat.reduceBEq, reduceCtorEq, Nat.reduceAdd, Nat.reduceSub, Nat.reduceMul, Nat.reduceLeDiff, Nat.reduceLT, R10, R11, R12, R13, R14, R15, R16, R17, R18, R19, R20, R21, R3, R4, R5, R7, R8, R9, hr1, hr2, hf1, hf2, hc1, hc2, hk1, hk2, hb0, da0, da1, da2, da3, da4, da5]
    show Wp fns K10_1 _ _ _
    unfold K10_1
    simp (maxSteps := 4000000) (disch := first | omega | assumption | (simp only [bxS, stOk, Nat.reduceBEq, Nat.reduceEqDiff, Nat.reduceAdd]; done) | (simp only [push_lo, push_n, set_lo, set_n]; omega) | (apply has_ofL; simp only [List.length_cons, List.length_nil]; omega) | (apply has_setN; apply has_ofL; simp only [List.length_cons, List.length_nil]; omega)) only [↓bxD, bxP, bxQ, Nat.reduceBEq, reduceCtorEq, Nat.reduceAdd, Nat.reduceSub, Nat.reduceMul, Nat.reduceLeDiff, Nat.reduceLT, R10, R11, R12, R13, R14, R15, R16, R17, R18, R19, R20, R21, R3, R4, R5, R7, R8, R9, hr1, hr2, hf1, hf2, hc1, hc2, hk1, hk2, hb0, da0, da1, da2, da3, da4, da5]
    exact ⟨by unfold headE; rw [if_pos (by omega)]; rfl, hx1⟩
  have da5 : decide ((200 : Int) < (g.forbid.length : Int)) = false := decide_eq_false ca5
  simp (maxSteps := 4000000) (disch := first | omega | assumption | (simp only [bxS, stOk, Nat.reduceBEq, Nat.reduceEqDiff, Nat.reduceAdd]; done) | (simp only [push_lo, push_n, set_lo, set_n]; omega) | (apply has_ofL; simp only [List.length_cons, List.length_nil]; omega) | (apply has_setN; apply has_ofL; simp only [List.length_cons, List.length_nil]; omega)) only [↓bxD, bxP, bxQ, Nat.reduceBEq, reduceCtorEq, Nat.reduceAdd, Nat.reduceSub, Nat.reduceMul, Nat.reduceLeDiff, Nat.reduceLT, R10, R11, R12, R13, R14, R15, R16, R17, R18, R19, R20, R21, R3, R4, R5, R7, R8, R9, hr1, hr2, hf1, hf2, hc1, hc2, hk1, hk2, hb0, da0, da1, da2, da3, da4, da5]
  show Wp fns K10_1 _ _ _
  unfold K10_1
  simp (maxSteps := 4000000) (disch := first | omega | assumption | (simp only [bxS, stOk, Nat.reduceBEq, Nat.reduceEqDiff, Nat.reduceAdd]; done) | (simp only [push_lo, push_n, set_lo, set_n]; omega) | (apply has_ofL; simp only [List.length_cons, List.length_nil]; omega) | (apply has_setN; apply has_ofL; simp only [List.length_cons, List.length_nil]; omega)) only [↓bxD, bxP, bxQ, Nat.reduceBEq, reduceCtorEq, Nat.reduceAdd, Nat.reduceSub, Nat.reduceMul, Nat.reduceLeDiff, Nat.reduceLT, R10, R11, R12, R13, R14, R15, R16, R17, R18, R19, R20, R21, R3, R4, R5, R7, R8, R9, hr1, hr2, hf1, hf2, hc1, hc2, hk1, hk2, hb0, da0, da1, da2, da3, da4, da5]
  have hh1 : ¬ (g.names < 1 ∨ 40 < g.names ∨ g.kinds < 0 ∨ 40 < g.kinds ∨ (60 : Int) < (g.rules.length : Int) ∨ (200 : Int) < (g.forbid.length : Int)) := by omega
  refine bindP_call number_any ?_
  rintro m M2 ⟨rfl, rfl⟩
  simp (maxSteps := 4000000) (disch := first | omega | assumption | (simp only [bxS, stOk, Nat.reduceBEq, Nat.reduceEqDiff, Nat.reduceAdd]; done) | (simp only [push_lo, push_n, set_lo, set_n]; omega) | (apply has_ofL; simp only [List.length_cons, List.length_nil]; omega) | (apply has_setN; apply has_ofL; simp only [List.length_cons, List.length_nil]; omega)) only [↓bxD, bxP, bxQ, Nat.reduceBEq, reduceCtorEq, Nat.reduceAdd, Nat.reduceSub, Nat.reduceMul, Nat.reduceLeDiff, Nat.reduceLT, R10, R11, R12, R13, R14, R15, R16, R17, R18, R19, R20, R21, R3, R4, R5, R7, R8, R9, hr1, hr2, hf1, hf2, hc1, hc2, hk1, hk2, hb0, da0, da1, da2, da3, da4, da5]
  cases cs : isN g.start g.names with
  | false =>
    simp (maxSteps := 4000000) (disch := first | omega | assumption | (simp only [bxS, stOk, Nat.reduceBEq, Nat.reduceEqDiff, Nat.reduceAdd]; done) | (simp only [push_lo, push_n, set_lo, set_n]; omega) | (apply has_ofL; simp only [List.length_cons, List.length_nil]; omega) | (apply has_setN; apply has_ofL; simp only [List.length_cons, List.length_nil]; omega)) only [↓bxD, bxP, bxQ, Nat.reduceBEq, reduceCtorEq, Nat.reduceAdd, Nat.reduceSub, Nat.reduceMul, Nat.reduceLeDiff, Nat.reduceLT, R10, R11, R12, R13, R14, R15, R16, R17, R18, R19, R20, R21, R3, R4, R5, R7, R8, R9, hr1, hr2, hf1, hf2, hc1, hc2, hk1, hk2, hb0, da0, da1, da2, da3, da4, da5, cs]
    unfold isN at cs
    simp only [Bool.and_eq_false_iff, decide_eq_false_iff_not] at cs
    exact ⟨by unfold headE; rw [if_neg hh1, if_pos (by omega)]; rfl, hx1⟩
  | true =>
  simp (maxSteps := 4000000) (disch := first | omega | assumption | (simp only [bxS, stOk, Nat.reduceBEq, Nat.reduceEqDiff, Nat.reduceAdd]; done) | (simp only [push_lo, push_n, set_lo, set_n]; omega) | (apply has_ofL; simp only [List.length_cons, List.length_nil]; omega) | (apply has_setN; apply has_ofL; simp only [List.length_cons, List.length_nil]; omega)) only [↓bxD, bxP, bxQ, Nat.reduceBEq, reduceCtorEq, Nat.reduceAdd, Nat.reduceSub, Nat.reduceMul, Nat.reduceLeDiff, Nat.reduceLT, R10, R11, R12, R13, R14, R15, R16, R17, R18, R19, R20, R21, R3, R4, R5, R7, R8, R9, hr1, hr2, hf1, hf2, hc1, hc2, hk1, hk2, hb0, cs]
  unfold isN at cs
  simp only [Bool.and_eq_true, decide_eq_true_eq] at cs
  refine bindP_call (areClasses_any h1.rc hw3) ?_
  rintro m M2 ⟨rfl, hx2⟩
  have hb2 := (hx2.old _ (by omega)).trans hb0
  have hn2 := hx2.n
  simp (maxSteps := 4000000) (disch := first | omega | assumption | (simp only [bxS, stOk, Nat.reduceBEq, Nat.reduceEqDiff, Nat.reduceAdd]; done) | (simp only [push_lo, push_n, set_lo, set_n]; omega) | (apply has_ofL; simp only [List.length_cons, List.length_nil]; omega) | (apply has_setN; apply has_ofL; simp only [List.length_cons, List.length_nil]; omega)) only [↓bxD, bxP, bxQ, Nat.reduceBEq, reduceCtorEq, Nat.reduceAdd, Nat.reduceSub, Nat.reduceMul, Nat.reduceLeDiff, Nat.reduceLT, R10, R11, R12, R13, R14, R15, R16, R17, R18, R19, R20, R21, R3, R4, R5, R7, R8, R9, hr1, hr2, hf1, hf2, hc1, hc2, hk1, hk2, hb2]
  have hh2 : headE g = if (g.rules.length : Int) < (g.rc.length : Int) ∨ g.kinds < (g.kc.length : Int) ∨ clsB g.rc = false ∨ clsB g.kc = false then some 1 else none := by
    unfold headE
    rw [if_neg hh1, if_neg (by omega)]
  cases e1 : (decide ((g.rc.length : Int) ≤ (g.rules.length : Int)) && clsB g.rc) with
  | false =>
    simp (maxSteps := 4000000) (disch := first | omega | assumption | (simp only [bxS, stOk, Nat.reduceBEq, Nat.reduceEqDiff, Nat.reduceAdd]; done) | (simp only [push_lo, push_n, set_lo, set_n]; omega) | (apply has_ofL; simp only [List.length_cons, List.length_nil]; omega) | (apply has_setN; apply has_ofL; simp only [List.length_cons, List.length_nil]; omega)) only [↓bxD, bxP, bxQ, Nat.reduceBEq, reduceCtorEq, Nat.reduceAdd, Nat.reduceSub, Nat.reduceMul, Nat.reduceLeDiff, Nat.reduceLT, R10, R11, R12, R13, R14, R15, R16, R17, R18, R19, R20, R21, R3, R4, R5, R7, R8, R9, hr1, hr2, hf1, hf2, hc1, hc2, hk1, hk2, hb2, e1]
    show Wp fns K10_0 _ _ _
    unfold K10_0
    simp (maxSteps := 4000000) (disch := first | omega | assumption | (simp only [bxS, stOk, Nat.reduceBEq, Nat.reduceEqDiff, Nat.reduceAdd]; done) | (simp only [push_lo, push_n, set_lo, set_n]; omega) | (apply has_ofL; simp only [List.length_cons, List.length_nil]; omega) | (apply has_setN; apply has_ofL; simp only [List.length_cons, List.length_nil]; omega)) only [↓bxD, bxP, bxQ, Nat.reduceBEq, reduceCtorEq, Nat.reduceAdd, Nat.reduceSub, Nat.reduceMul, Nat.reduceLeDiff, Nat.reduceLT, R10, R11, R12, R13, R14, R15, R16, R17, R18, R19, R20, R21, R3, R4, R5, R7, R8, R9, hr1, hr2, hf1, hf2, hc1, hc2, hk1, hk2, hb2]
    simp only [Bool.and_eq_false_iff, decide_eq_false_iff_not] at e1
    exact ⟨by rw [hh2, if_pos (by rcases e1 with e1 | e1; exact .inl (by omega); exact .inr (.inr (.inl e1)))]; rfl, hx1.trans hx2⟩
  | true =>
  simp (maxSteps := 4000000) (disch := first | omega | assumption | (simp only [bxS, stOk, Nat.reduceBEq, Nat.reduceEqDiff, Nat.reduceAdd]; done) | (simp only [push_lo, push_n, set_lo, set_n]; omega) | (apply has_ofL; simp only [List.length_cons, List.length_nil]; omega) | (apply has_setN; apply has_ofL; simp only [List.length_cons, List.length_nil]; omega)) only [↓bxD, bxP, bxQ, Nat.reduceBEq, reduceCtorEq, Nat.reduceAdd, Nat.reduceSub, Nat.reduceMul, Nat.reduceLeDiff, Nat.reduceLT, R10, R11, R12, R13, R14, R15, R16, R17, R18, R19, R20, R21, R3, R4, R5, R7, R8, R9, hr1, hr2, hf1, hf2, hc1, hc2, hk1, hk2, hb2, e1]
  refine bindP_call (areClasses_any (h1.kc.ext hx2) hw4) ?_
  rintro m M3 ⟨rfl, hx3⟩
  simp (maxSteps := 4000000) (disch := first | omega | assumption | (simp only [bxS, stOk, Nat.reduceBEq, Nat.reduceEqDiff, Nat.reduceAdd]; done) | (simp only [push_lo, push_n, set_lo, set_n]; omega) | (apply has_ofL; simp only [List.length_cons, List.length_nil]; omega) | (apply has_setN; apply has_ofL; simp only [List.length_cons, List.length_nil]; omega)) only [↓bxD, bxP, bxQ, Nat.reduceBEq, reduceCtorEq, Nat.reduceAdd, Nat.reduceSub, Nat.reduceMul, Nat.reduceLeDiff, Nat.reduceLT, R10, R11, R12, R13, R14, R15, R16, R17, R18, R19, R20, R21, R3, R4, R5, R7, R8, R9, hr1, hr2, hf1, hf2, hc1, hc2, hk1, hk2, hb2]
  simp only [Bool.and_eq_true, decide_eq_true_eq] at e1
  cases e2 : (decide ((g.kc.length : Int) ≤ g.kinds) && clsB g.kc) with
  | false =>
    simp (maxSteps := 4000000) (disch := first | omega | assumption | (simp only [bxS, stOk, Nat.reduceBEq, Nat.reduceEqDiff, Nat.reduceAdd]; done) | (simp only [push_lo, push_n, set_lo, set_n]; omega) | (apply has_ofL; simp only [List.length_cons, List.length_nil]; omega) | (apply has_setN; apply has_ofL; simp only [List.length_cons, List.length_nil]; omega)) only [↓bxD, bxP, bxQ, Nat.reduceBEq, reduceCtorEq, Nat.reduceAdd, Nat.reduceSub, Nat.reduceMul, Nat.reduceLeDiff, Nat.reduceLT, R10, R11, R12, R13, R14, R15, R16, R17, R18, R19, R20, R21, R3, R4, R5, R7, R8, R9, hr1, hr2, hf1, hf2, hc1, hc2, hk1, hk2, hb2, e2]
    show Wp fns K10_0 _ _ _
    unfold K10_0
    simp (maxSteps := 4000000) (disch := first | omega | assumption | (simp only [bxS, stOk, Nat.reduceBEq, Nat.reduceEqDiff, Nat.reduceAdd]; done) | (simp only [push_lo, push_n, set_lo, set_n]; omega) | (apply has_ofL; simp only [List.length_cons, List.length_nil]; omega) | (apply has_setN; apply has_ofL; simp only [List.length_cons, List.length_nil]; omega)) only [↓bxD, bxP, bxQ, Nat.reduceBEq, reduceCtorEq, Nat.reduceAdd, Nat.reduceSub, Nat.reduceMul, Nat.reduceLeDiff, Nat.reduceLT, R10, R11, R12, R13, R14, R15, R16, R17, R18, R19, R20, R21, R3, R4, R5, R7, R8, R9, hr1, hr2, hf1, hf2, hc1, hc2, hk1, hk2, hb2]
    simp only [Bool.and_eq_false_iff, decide_eq_false_iff_not] at e2
    exact ⟨by rw [hh2, if_pos (by rcases e2 with e2 | e2; exact .inr (.inl (by omega)); exact .inr (.inr (.inr e2)))]; rfl, (hx1.trans hx2).trans hx3⟩
  | true =>
  simp (maxSteps := 4000000) (disch := first | omega | assumption | (simp only [bxS, stOk, Nat.reduceBEq, Nat.reduceEqDiff, Nat.reduceAdd]; done) | (simp only [push_lo, push_n, set_lo, set_n]; omega) | (apply has_ofL; simp only [List.length_cons, List.length_nil]; omega) | (apply has_setN; apply has_ofL; simp only [List.length_cons, List.length_nil]; omega)) only [↓bxD, bxP, bxQ, Nat.reduceBEq, reduceCtorEq, Nat.reduceAdd, Nat.reduceSub, Nat.reduceMul, Nat.reduceLeDiff, Nat.reduceLT, R10, R11, R12, R13, R14, R15, R16, R17, R18, R19, R20, R21, R3, R4, R5, R7, R8, R9, hr1, hr2, hf1, hf2, hc1, hc2, hk1, hk2, hb2, e2]
  show Wp fns K10_0 _ _ _
  unfold K10_0
  simp (maxSteps := 4000000) (disch := first | omega | assumption | (simp only [bxS, stOk, Nat.reduceBEq, Nat.reduceEqDiff, Nat.reduceAdd]; done) | (simp only [push_lo, push_n, set_lo, set_n]; omega) | (apply has_ofL; simp only [List.length_cons, List.length_nil]; omega) | (apply has_setN; apply has_ofL; simp only [List.length_cons, List.length_nil]; omega)) only [↓bxD, bxP, bxQ, Nat.reduceBEq, reduceCtorEq, Nat.reduceAdd, Nat.reduceSub, Nat.reduceMul, Nat.reduceLeDiff, Nat.reduceLT, R10, R11, R12, R13, R14, R15, R16, R17, R18, R19, R20, R21, R3, R4, R5, R7, R8, R9, hr1, hr2, hf1, hf2, hc1, hc2, hk1, hk2, hb2]
  show Wp fns K10_2 _ _ _
  unfold K10_2
  simp (maxSteps := 4000000) (disch := first | omega | assumption | (simp only [bxS, stOk, Nat.reduceBEq, Nat.reduceEqDiff, Nat.reduceAdd]; done) | (simp only [push_lo, push_n, set_lo, set_n]; omega) | (apply has_ofL; simp only [List.length_cons, List.length_nil]; omega) | (apply has_setN; apply has_ofL; simp only [List.length_cons, List.length_nil]; omega)) only [↓bxD, bxP, bxQ, Nat.reduceBEq, reduceCtorEq, Nat.reduceAdd, Nat.reduceSub, Nat.reduceMul, Nat.reduceLeDiff, Nat.reduceLT, R10, R11, R12, R13, R14, R15, R16, R17, R18, R19, R20, R21, R3, R4, R5, R7, R8, R9, hr1, hr2, hf1, hf2, hc1, hc2, hk1, hk2, hb2]
  simp only [Bool.and_eq_true, decide_eq_true_eq] at e2
  refine ⟨?_, (hx1.trans hx2).trans hx3⟩
  rw [hh2, if_neg]
  · rfl
  · rintro (x | x | x | x)
    · omega
    · omega
    · rw [e1.2] at x; cases x
    · rw [e2.2] at x; cases x
end Go.Proofs.Ytokfokeijnbbfaa.K
