/-
  What the claim leans on, part 5: The program's Form: the error of a rule, and what is forbidden. Conditions: none. The program's Form: what may be forbidden. Conditions: none. The program's Form: what is asked of the whole. Conditions: none. The program's Form gives what chapter 10 asks. Conditions: none. The program's sets, as they are asked for. Conditions: none. A grammar that comes in, read into the model. Conditions: none. The law SetsNothing, for whatever comes in. Conditions: none. Grammars where the bound of what may be written moves. Conditions: none. What the program's sets give, told apart. Conditions: none. The do
-/
import Derived.Test.YtdggbpfpjkokpaaDoorMA4
import Derived.Test.YtdggbpfpjkokpaaDoorMA3
import Derived.Test.YtdggbpfpjkokpaaDoorProg
import Derived.KernelRfl
set_option linter.unusedSimpArgs false
set_option linter.unusedVariables false
namespace Go.Proofs.YtdggbpfpjkokpaaDoor.K
open Go Ev
set_option maxRecDepth 100000
set_option maxHeartbeats 4000000

def numE : Option Int → Int
  | some e => e
  | none => 0
theorem ruleError_any {M : MH} {g : Gr} {vr vf vc vk ur : MV} {a0 a2 : Int} {ar : List Int} (hlo : M.lo ≤ M.n) (hu : IntRow M ur ar) (hw : ∀ z ∈ ar, Wf64 z) (hwl : ar.length ≤ 9223372036854775807) :
    Cp fns 47 [.ag (gcs g vr vf vc vk), .ag [.i .i64 a0, ur, .i .i64 a2]] M fun m M' => m = .i .i64 (numE (ruleE g (a0, ar, a2))) ∧ Ext M M' := by
  obtain ⟨hs1, hs2⟩ := hu.sl
  refine Cp_call (fn := F47) (by kernel_rfl) (Nat.le_of_ble_eq_true rfl) ?_
  show Wp fns B47 (T.set q1 (some (.ag [.i .i64 a0, ur, .i .i64 a2])) (T.set q0 (some (.ag (gcs g vr vf vc vk))) T.lf)) M _
  unfold B47
  have hG : ∀ l, l = gcs g vr vf vc vk → Ev.getN (ofL l 0) 7 0 = some (gcs g vr vf vc vk) := fun l e => by subst e; exact (at_ofL (gcs g vr vf vc vk)).getN
  have hall : ar.any (fun z => !(symB g z)) = !(ar.all (symB g)) := by rw [List.not_all_eq_any_not]
  rw [show gcs g vr vf vc vk = [MV.i IntKind.i64 g.names, MV.i IntKind.i64 g.kinds, MV.i IntKind.i64 g.start, vr, vf, vc, vk] from rfl]
  simp (maxSteps := 4000000) (disch := first | omega | assumption | (simp only [bxS, bxV, stOk, Nat.reduceBEq, Nat.reduceEqDiff, Nat.reduceAdd]; done) | (simp only [bxU]; omega) | ((try apply has_setN); apply has_ofL; simp only [bxL]; omega)) only [↓bxD, bxP, bxQ, bxQ2, Nat.reduceBEq, reduceCtorEq, Nat.reduceAdd, Nat.reduceSub, Nat.reduceMul, Nat.reduceLeDiff, Nat.reduceLT, bxR, hs1, hs2]
  generalize hM1 : (M.push _).push _ = M1
  have hb0 : M1.get M.n = some (.cs false 7 (ofL [MV.i IntKind.i64 g.names, MV.i IntKind.i64 g.kinds, MV.i IntKind.i64 g.start, vr, vf, vc, vk] 0)) := by rw [← hM1, push_old (Nat.lt_succ_self _)]; exact push_new _
  have hb1 : M1.get (M.n + 1) = some (.cs false 3 (ofL [MV.i IntKind.i64 a0, ur, MV.i IntKind.i64 a2] 0)) := by rw [← hM1]; exact push_new (M := M.push _) _
  have hx1 : Ext M M1 := by rw [← hM1]; exact (Ext.push M _).trans (Ext.push _ _)
  have hn1 : M1.n = M.n + 2 := by rw [← hM1]; rfl
  have hl1 := hx1.lo
  clear hM1
  have hu1 := hu.ext hx1
  simp (maxSteps := 4000000) (disch := first | omega | assumption | (simp only [bxS, bxV, stOk, Nat.reduceBEq, Nat.reduceEqDiff, Nat.reduceAdd]; done) | (simp only [bxU]; omega) | ((try apply has_setN); apply has_ofL; simp only [bxL]; omega)) only [↓bxD, bxP, bxQ, bxQ2, Nat.reduceBEq, reduceCtorEq, Nat.reduceAdd, Nat.reduceSub, Nat.reduceMul, Nat.reduceLeDiff, Nat.reduceLT, bxR, hs1, hs2, hb0, hb1]
  refine bindP_call number_any ?_
  rintro m M2 ⟨rfl, rfl⟩
  simp (maxSteps := 4000000) (disch := first | omega | assumption | (simp only [bxS, bxV, stOk, Nat.reduceBEq, Nat.reduceEqDiff, Nat.reduceAdd]; done) | (simp only [bxU]; omega) | ((try apply has_setN); apply has_ofL; simp only [bxL]; omega)) only [↓bxD, bxP, bxQ, bxQ2, Nat.reduceBEq, reduceCtorEq, Nat.reduceAdd, Nat.reduceSub, Nat.reduceMul, Nat.reduceLeDiff, Nat.reduceLT, bxR, hs1, hs2, hb0, hb1]
  cases hn : isN a0 g.names with
  | false =>
    simp (maxSteps := 4000000) (disch := first | omega | assumption | (simp only [bxS, bxV, stOk, Nat.reduceBEq, Nat.reduceEqDiff, Nat.reduceAdd]; done) | (simp only [bxU]; omega) | ((try apply has_setN); apply has_ofL; simp only [bxL]; omega)) only [↓bxD, bxP, bxQ, bxQ2, Nat.reduceBEq, reduceCtorEq, Nat.reduceAdd, Nat.reduceSub, Nat.reduceMul, Nat.reduceLeDiff, Nat.reduceLT, bxR, hs1, hs2, hb0, hb1, hn]
    show Wp fns K47_0 _ _ _
    unfold K47_0
    simp (maxSteps := 4000000) (disch := first | omega | assumption | (simp only [bxS, bxV, stOk, Nat.reduceBEq, Nat.reduceEqDiff, Nat.reduceAdd]; done) | (simp only [bxU]; omega) | ((try apply has_setN); apply has_ofL; simp only [bxL]; omega)) only [↓bxD, bxP, bxQ, bxQ2, Nat.reduceBEq, reduceCtorEq, Nat.reduceAdd, Nat.reduceSub, Nat.reduceMul, Nat.reduceLeDiff, Nat.reduceLT, bxR, hs1, hs2, hb0, hb1]
    exact ⟨by unfold ruleE okR; rw [if_pos (by unfold isN at hn; rw [hn, Bool.false_and])]; rfl, hx1⟩
  | true =>
    simp (maxSteps := 4000000) (disch := first | omega | assumption | (simp only [bxS, bxV, stOk, Nat.reduceBEq, Nat.reduceEqDiff, Nat.reduceAdd]; done) | (simp only [bxU]; omega) | ((try apply has_setN); apply has_ofL; simp only [bxL]; omega)) only [↓bxD, bxP, bxQ, bxQ2, Nat.reduceBEq, reduceCtorEq, Nat.reduceAdd, Nat.reduceSub, Nat.reduceMul, Nat.reduceLeDiff, Nat.reduceLT, bxR, hs1, hs2, hb0, hb1, hn]
    refine bindP_call (contains_any (p := fun z => !(symB g z)) hu1 hwl fun M' z hx hz => noSymbol_any (by have := hx.n; have := hx.lo; omega) (hw z hz) ((hx.old _ (by omega)).trans hb0)) ?_
    rintro m M2 ⟨rfl, hx2⟩
    have hb1' := (hx2.old _ (by omega)).trans hb1
    rw [hall]
    have hok : okR g (a0, ar, a2) = ar.all (symB g) := by unfold okR; unfold isN at hn; simp only; rw [hn, Bool.true_and]
    simp (maxSteps := 4000000) (disch := first | omega | assumption | (simp only [bxS, bxV, stOk, Nat.reduceBEq, Nat.reduceEqDiff, Nat.reduceAdd]; done) | (simp only [bxU]; omega) | ((try apply has_setN); apply has_ofL; simp only [bxL]; omega)) only [↓bxD, bxP, bxQ, bxQ2, Nat.reduceBEq, reduceCtorEq, Nat.reduceAdd, Nat.reduceSub, Nat.reduceMul, Nat.reduceLeDiff, Nat.reduceLT, bxR, hs1, hs2, hb1']
    cases ha : ar.all (symB g) with
    | false =>
      simp (maxSteps := 4000000) (disch := first | omega | assumption | (simp only [bxS, bxV, stOk, Nat.reduceBEq, Nat.reduceEqDiff, Nat.reduceAdd]; done) | (simp only [bxU]; omega) | ((try apply has_setN); apply has_ofL; simp only [bxL]; omega)) only [↓bxD, bxP, bxQ, bxQ2, Nat.reduceBEq, reduceCtorEq, Nat.reduceAdd, Nat.reduceSub, Nat.reduceMul, Nat.reduceLeDiff, Nat.reduceLT, bxR, hs1, hs2, hb1', ha]
      show Wp fns K47_0 _ _ _
      unfold K47_0
      simp (maxSteps := 4000000) (disch := first | omega | assumption | (simp only [bxS, bxV, stOk, Nat.reduceBEq, Nat.reduceEqDiff, Nat.reduceAdd]; done) | (simp only [bxU]; omega) | ((try apply has_setN); apply has_ofL; simp only [bxL]; omega)) only [↓bxD, bxP, bxQ, bxQ2, Nat.reduceBEq, reduceCtorEq, Nat.reduceAdd, Nat.reduceSub, Nat.reduceMul, Nat.reduceLeDiff, Nat.reduceLT, bxR, hs1, hs2, hb1']
      exact ⟨by unfold ruleE; rw [if_pos (by rw [hok, ha])]; rfl, hx1.trans hx2⟩
    | true =>
      simp (maxSteps := 4000000) (disch := first | omega | assumption | (simp only [bxS, bxV, stOk, Nat.reduceBEq, Nat.reduceEqDiff, Nat.reduceAdd]; done) | (simp only [bxU]; omega) | ((try apply has_setN); apply has_ofL; simp only [bxL]; omega)) only [↓bxD, bxP, bxQ, bxQ2, Nat.reduceBEq, reduceCtorEq, Nat.reduceAdd, Nat.reduceSub, Nat.reduceMul, Nat.reduceLeDiff, Nat.reduceLT, bxR, hs1, hs2, hb1', ha]
      show Wp fns K47_0 _ _ _
      unfold K47_0
      simp (maxSteps := 4000000) (disch := first | omega | assumption | (simp only [bxS, bxV, stOk, Nat.reduceBEq, Nat.reduceEqDiff, Nat.reduceAdd]; done) | (simp only [bxU]; omega) | ((try apply has_setN); apply has_ofL; simp only [bxL]; omega)) only [↓bxD, bxP, bxQ, bxQ2, Nat.reduceBEq, reduceCtorEq, Nat.reduceAdd, Nat.reduceSub, Nat.reduceMul, Nat.reduceLeDiff, Nat.reduceLT, bxR, hs1, hs2, hb1']
      have hne : ¬ okR g (a0, ar, a2) = false := by rw [hok, ha]; simp
      by_cases e8 : (8 : Int) < (ar.length : Int)
      · have d8 : decide ((8 : Int) < (ar.length : Int)) = true := decide_eq_true e8
        simp (maxSteps := 4000000) (disch := first | omega | assumption | (simp only [bxS, bxV, stOk, Nat.reduceBEq, Nat.reduceEqDiff, Nat.reduceAdd]; done) | (simp only [bxU]; omega) | ((try apply has_setN); apply has_ofL; simp only [bxL]; omega)) only [↓bxD, bxP, bxQ, bxQ2, Nat.reduceBEq, reduceCtorEq, Nat.reduceAdd, Nat.reduceSub, Nat.reduceMul, Nat.reduceLeDiff, Nat.reduceLT, bxR, hs1, hs2, hb1', d8]
        exact ⟨by unfold ruleE; rw [if_neg hne, if_pos e8]; rfl, hx1.trans hx2⟩
      · have d8 : decide ((8 : Int) < (ar.length : Int)) = false := decide_eq_false e8
        by_cases e9 : a2 < Int.negSucc 999
        · have d9 : decide (a2 < Int.negSucc 999) = true := decide_eq_true e9
          simp (maxSteps := 4000000) (disch := first | omega | assumption | (simp only [bxS, bxV, stOk, Nat.reduceBEq, Nat.reduceEqDiff, Nat.reduceAdd]; done) | (simp only [bxU]; omega) | ((try apply has_setN); apply has_ofL; simp only [bxL]; omega)) only [↓bxD, bxP, bxQ, bxQ2, Nat.reduceBEq, reduceCtorEq, Nat.reduceAdd, Nat.reduceSub, Nat.reduceMul, Nat.reduceLeDiff, Nat.reduceLT, bxR, hs1, hs2, hb1', d8, d9]
          exact ⟨by unfold ruleE; rw [if_neg hne, if_neg e8, if_pos (by simp only; omega)]; rfl, hx1.trans hx2⟩
        · have d9 : decide (a2 < Int.negSucc 999) = false := decide_eq_false e9
          by_cases e10 : 1000 < a2
          · have d10 : decide (1000 < a2) = true := decide_eq_true e10
            simp (maxSteps := 4000000) (disch := first | omega | assumption | (simp only [bxS, bxV, stOk, Nat.reduceBEq, Nat.reduceEqDiff, Nat.reduceAdd]; done) | (simp only [bxU]; omega) | ((try apply has_setN); apply has_ofL; simp only [bxL]; omega)) only [↓bxD, bxP, bxQ, bxQ2, Nat.reduceBEq, reduceCtorEq, Nat.reduceAdd, Nat.reduceSub, Nat.reduceMul, Nat.reduceLeDiff, Nat.reduceLT, bxR, hs1, hs2, hb1', d8, d9, d10]
            exact ⟨by unfold ruleE; rw [if_neg hne, if_neg e8, if_pos (by simp only; omega)]; rfl, hx1.trans hx2⟩
          · have d10 : decide (1000 < a2) = false := decide_eq_false e10
            simp (maxSteps := 4000000) (disch := first | omega | assumption | (simp only [bxS, bxV, stOk, Nat.reduceBEq, Nat.reduceEqDiff, Nat.reduceAdd]; done) | (simp only [bxU]; omega) | ((try apply has_setN); apply has_ofL; simp only [bxL]; omega)) only [↓bxD, bxP, bxQ, bxQ2, Nat.reduceBEq, reduceCtorEq, Nat.reduceAdd, Nat.reduceSub, Nat.reduceMul, Nat.reduceLeDiff, Nat.reduceLT, bxR, hs1, hs2, hb1', d8, d9, d10]
            show Wp fns K47_1 _ _ _
            unfold K47_1
            simp (maxSteps := 4000000) (disch := first | omega | assumption | (simp only [bxS, bxV, stOk, Nat.reduceBEq, Nat.reduceEqDiff, Nat.reduceAdd]; done) | (simp only [bxU]; omega) | ((try apply has_setN); apply has_ofL; simp only [bxL]; omega)) only [↓bxD, bxP, bxQ, bxQ2, Nat.reduceBEq, reduceCtorEq, Nat.reduceAdd, Nat.reduceSub, Nat.reduceMul, Nat.reduceLeDiff, Nat.reduceLT, bxR, hs1, hs2, hb1']
            exact ⟨by unfold ruleE; rw [if_neg hne, if_neg e8, if_neg (by simp only; omega)]; rfl, hx1.trans hx2⟩
end Go.Proofs.YtdggbpfpjkokpaaDoor.K
set_option linter.unusedSimpArgs false
set_option linter.unusedVariables false
namespace Go.Proofs.YtdggbpfpjkokpaaDoor.K
open Go Ev
set_option maxRecDepth 100000
set_option maxHeartbeats 4000000

theorem canForbid_any {M : MH} {g : Gr} {vr vf vc vk : MV} {es : List (List MV)} {x0 x1 x2 : Int} (h : GrAt M vr vf vc vk es g) (hlo : M.lo ≤ M.n) :
    Cp fns 48 [.ag (gcs g vr vf vc vk), .ag [.i .i64 x0, .i .i64 x1, .i .i64 x2]] M fun m M' => m = .b (!(badF g (x0, x1, x2))) ∧ Ext M M' := by
  obtain ⟨hr1, hr2⟩ := h.rules.row.sl
  rw [h.rules.len] at hr2
  refine Cp_call (fn := F48) (by kernel_rfl) (Nat.le_of_ble_eq_true rfl) ?_
  show Wp fns B48 (T.set q1 (some (.ag [.i .i64 x0, .i .i64 x1, .i .i64 x2])) (T.set q0 (some (.ag (gcs g vr vf vc vk))) T.lf)) M _
  unfold B48
  rw [show gcs g vr vf vc vk = [MV.i IntKind.i64 g.names, MV.i IntKind.i64 g.kinds, MV.i IntKind.i64 g.start, vr, vf, vc, vk] from rfl]
  simp (maxSteps := 4000000) (disch := first | omega | assumption | (simp only [bxS, bxV, stOk, Nat.reduceBEq, Nat.reduceEqDiff, Nat.reduceAdd]; done) | (simp only [bxU]; omega) | ((try apply has_setN); apply has_ofL; simp only [bxL]; omega)) only [↓bxD, bxP, bxQ, bxQ2, Nat.reduceBEq, reduceCtorEq, Nat.reduceAdd, Nat.reduceSub, Nat.reduceMul, Nat.reduceLeDiff, Nat.reduceLT, bxR, hr1, hr2]
  generalize hM1 : (M.push _).push _ = M1
  have hb0 : M1.get M.n = some (.cs false 7 (ofL [MV.i IntKind.i64 g.names, MV.i IntKind.i64 g.kinds, MV.i IntKind.i64 g.start, vr, vf, vc, vk] 0)) := by rw [← hM1, push_old (Nat.lt_succ_self _)]; exact push_new _
  have hb1 : M1.get (M.n + 1) = some (.cs false 3 (ofL [MV.i IntKind.i64 x0, MV.i .i64 x1, MV.i IntKind.i64 x2] 0)) := by rw [← hM1]; exact push_new (M := M.push _) _
  have hx1 : Ext M M1 := by rw [← hM1]; exact (Ext.push M _).trans (Ext.push _ _)
  have hn1 : M1.n = M.n + 2 := by rw [← hM1]; rfl
  have hl1 := hx1.lo
  clear hM1
  have h1 := h.ext hx1
  simp (maxSteps := 4000000) (disch := first | omega | assumption | (simp only [bxS, bxV, stOk, Nat.reduceBEq, Nat.reduceEqDiff, Nat.reduceAdd]; done) | (simp only [bxU]; omega) | ((try apply has_setN); apply has_ofL; simp only [bxL]; omega)) only [↓bxD, bxP, bxQ, bxQ2, Nat.reduceBEq, reduceCtorEq, Nat.reduceAdd, Nat.reduceSub, Nat.reduceMul, Nat.reduceLeDiff, Nat.reduceLT, bxR, hr1, hr2, hb0, hb1, ixA_0, ixA_1, ixA_2]
  refine bindP_call number_any ?_
  rintro m M2 ⟨rfl, rfl⟩
  simp (maxSteps := 4000000) (disch := first | omega | assumption | (simp only [bxS, bxV, stOk, Nat.reduceBEq, Nat.reduceEqDiff, Nat.reduceAdd]; done) | (simp only [bxU]; omega) | ((try apply has_setN); apply has_ofL; simp only [bxL]; omega)) only [↓bxD, bxP, bxQ, bxQ2, Nat.reduceBEq, reduceCtorEq, Nat.reduceAdd, Nat.reduceSub, Nat.reduceMul, Nat.reduceLeDiff, Nat.reduceLT, bxR, hr1, hr2, hb0, hb1, ixA_0, ixA_1, ixA_2]
  cases c0 : isN x0 (g.rules.length : Int) with
  | false =>
    simp (maxSteps := 4000000) (disch := first | omega | assumption | (simp only [bxS, bxV, stOk, Nat.reduceBEq, Nat.reduceEqDiff, Nat.reduceAdd]; done) | (simp only [bxU]; omega) | ((try apply has_setN); apply has_ofL; simp only [bxL]; omega)) only [↓bxD, bxP, bxQ, bxQ2, Nat.reduceBEq, reduceCtorEq, Nat.reduceAdd, Nat.reduceSub, Nat.reduceMul, Nat.reduceLeDiff, Nat.reduceLT, bxR, hr1, hr2, hb0, hb1, ixA_0, ixA_1, ixA_2, c0]
    unfold isN at c0
    simp only [Bool.and_eq_false_iff, decide_eq_false_iff_not] at c0
    exact ⟨by unfold badF; rw [if_pos (by simp only; omega)]; rfl, hx1⟩
  | true =>
  simp (maxSteps := 4000000) (disch := first | omega | assumption | (simp only [bxS, bxV, stOk, Nat.reduceBEq, Nat.reduceEqDiff, Nat.reduceAdd]; done) | (simp only [bxU]; omega) | ((try apply has_setN); apply has_ofL; simp only [bxL]; omega)) only [↓bxD, bxP, bxQ, bxQ2, Nat.reduceBEq, reduceCtorEq, Nat.reduceAdd, Nat.reduceSub, Nat.reduceMul, Nat.reduceLeDiff, Nat.reduceLT, bxR, hr1, hr2, hb0, hb1, ixA_0, ixA_1, ixA_2, c0]
  refine bindP_call number_any ?_
  rintro m M2 ⟨rfl, rfl⟩
  simp (maxSteps := 4000000) (disch := first | omega | assumption | (simp only [bxS, bxV, stOk, Nat.reduceBEq, Nat.reduceEqDiff, Nat.reduceAdd]; done) | (simp only [bxU]; omega) | ((try apply has_setN); apply has_ofL; simp only [bxL]; omega)) only [↓bxD, bxP, bxQ, bxQ2, Nat.reduceBEq, reduceCtorEq, Nat.reduceAdd, Nat.reduceSub, Nat.reduceMul, Nat.reduceLeDiff, Nat.reduceLT, bxR, hr1, hr2, hb0, hb1, ixA_0, ixA_1, ixA_2, c0]
  cases c2 : isN x2 (g.rules.length : Int) with
  | false =>
    simp (maxSteps := 4000000) (disch := first | omega | assumption | (simp only [bxS, bxV, stOk, Nat.reduceBEq, Nat.reduceEqDiff, Nat.reduceAdd]; done) | (simp only [bxU]; omega) | ((try apply has_setN); apply has_ofL; simp only [bxL]; omega)) only [↓bxD, bxP, bxQ, bxQ2, Nat.reduceBEq, reduceCtorEq, Nat.reduceAdd, Nat.reduceSub, Nat.reduceMul, Nat.reduceLeDiff, Nat.reduceLT, bxR, hr1, hr2, hb0, hb1, ixA_0, ixA_1, ixA_2, c0, c2]
    unfold isN at c2
    simp only [Bool.and_eq_false_iff, decide_eq_false_iff_not] at c2
    exact ⟨by unfold badF; rw [if_pos (by simp only; omega)]; rfl, hx1⟩
  | true =>
  simp (maxSteps := 4000000) (disch := first | omega | assumption | (simp only [bxS, bxV, stOk, Nat.reduceBEq, Nat.reduceEqDiff, Nat.reduceAdd]; done) | (simp only [bxU]; omega) | ((try apply has_setN); apply has_ofL; simp only [bxL]; omega)) only [↓bxD, bxP, bxQ, bxQ2, Nat.reduceBEq, reduceCtorEq, Nat.reduceAdd, Nat.reduceSub, Nat.reduceMul, Nat.reduceLeDiff, Nat.reduceLT, bxR, hr1, hr2, hb0, hb1, ixA_0, ixA_1, ixA_2, c0, c2]
  unfold isN at c0 c2
  simp only [Bool.and_eq_true, decide_eq_true_eq] at c0 c2
  obtain ⟨k0, rfl⟩ : ∃ k : Nat, x0 = (k : Int) := ⟨x0.toNat, by omega⟩
  obtain ⟨k2, rfl⟩ : ∃ k : Nat, x2 = (k : Int) := ⟨x2.toNat, by omega⟩
  obtain ⟨⟨a0, ar, a2⟩, hA⟩ : ∃ z, g.rules[k0]? = some z := ⟨_, List.getElem?_eq_getElem (by omega)⟩
  obtain ⟨⟨b0, br, b2⟩, hB⟩ : ∃ z, g.rules[k2]? = some z := ⟨_, List.getElem?_eq_getElem (by omega)⟩
  obtain ⟨ua, hua, hura⟩ : ∃ u1, es[k0]? = some [.i .i64 a0, u1, .i .i64 a2] ∧ IntRow _ u1 ar := h1.rules.get hA
  obtain ⟨ub, hub, hurb⟩ : ∃ u1, es[k2]? = some [.i .i64 b0, u1, .i .i64 b2] ∧ IntRow _ u1 br := h1.rules.get hB
  obtain ⟨hsa1, hsa2⟩ := hura.sl
  obtain ⟨ro, s, t, hg, hid, hT⟩ := h1.rules.row.read hua
  obtain ⟨ro2, s2, t2, hg2, hid2, hT2⟩ := h1.rules.row.read hub
  have ea0 : cget t (soff vr + k0 * 3) = some (.i .i64 a0) := hT 0 _ rfl
  have ea1 : cget t (soff vr + k0 * 3 + 1) = some ua := hT 1 _ rfl
  obtain rfl : t2 = t := by rw [hg] at hg2; injection hg2 with e; injection e with _ _ e; exact e.symm
  have eb0 : cget t2 (soff vr + k2 * 3) = some (.i .i64 b0) := hT2 0 _ rfl
  have hwl : ar.length ≤ 9223372036854775807 := (h.wf.rules _ (List.mem_of_getElem? hA)).2.2.2
  have hbadF : badF g ((k0 : Int), x1, (k2 : Int)) = if x1 < 0 ∨ (ar.length : Int) ≤ x1 then true else match ar[x1.toNat]? with
      | some s => decide (s ≠ b0)
      | none => true := by
    unfold badF
    rw [if_neg (by simp only; omega)]
    simp only [Int.toNat_natCast, hA, hB]
    rfl
  rw [hbadF]
  show Wp fns K48_0 _ _ _
  unfold K48_0
  simp (maxSteps := 4000000) (disch := first | omega | assumption | (simp only [bxS, bxV, stOk, Nat.reduceBEq, Nat.reduceEqDiff, Nat.reduceAdd]; done) | (simp only [bxU]; omega) | ((try apply has_setN); apply has_ofL; simp only [bxL]; omega)) only [↓bxD, bxP, bxQ, bxQ2, Nat.reduceBEq, reduceCtorEq, Nat.reduceAdd, Nat.reduceSub, Nat.reduceMul, Nat.reduceLeDiff, Nat.reduceLT, bxR, hr1, hr2, hb0, hb1, ixA_0, ixA_1, ixA_2, hsa1, hsa2, hg, ea0, ea1, eb0]
  refine Wp_dreg_of (by omega) ?_
  simp (maxSteps := 4000000) (disch := first | omega | assumption | (simp only [bxS, bxV, stOk, Nat.reduceBEq, Nat.reduceEqDiff, Nat.reduceAdd]; done) | (simp only [bxU]; omega) | ((try apply has_setN); apply has_ofL; simp only [bxL]; omega)) only [↓bxD, bxP, bxQ, bxQ2, Nat.reduceBEq, reduceCtorEq, Nat.reduceAdd, Nat.reduceSub, Nat.reduceMul, Nat.reduceLeDiff, Nat.reduceLT, bxR, hr1, hr2, hb0, hb1, ixA_0, ixA_1, ixA_2, hsa1, hsa2, hg, ea0, ea1, eb0]
  refine bindP_call number_any ?_
  rintro m M2 ⟨rfl, rfl⟩
  simp (maxSteps := 4000000) (disch := first | omega | assumption | (simp only [bxS, bxV, stOk, Nat.reduceBEq, Nat.reduceEqDiff, Nat.reduceAdd]; done) | (simp only [bxU]; omega) | ((try apply has_setN); apply has_ofL; simp only [bxL]; omega)) only [↓bxD, bxP, bxQ, bxQ2, Nat.reduceBEq, reduceCtorEq, Nat.reduceAdd, Nat.reduceSub, Nat.reduceMul, Nat.reduceLeDiff, Nat.reduceLT, bxR, hr1, hr2, hb0, hb1, ixA_0, ixA_1, ixA_2, hsa1, hsa2, hg, ea0, ea1, eb0]
  cases c1 : isN x1 (ar.length : Int) with
  | false =>
    simp (maxSteps := 4000000) (disch := first | omega | assumption | (simp only [bxS, bxV, stOk, Nat.reduceBEq, Nat.reduceEqDiff, Nat.reduceAdd]; done) | (simp only [bxU]; omega) | ((try apply has_setN); apply has_ofL; simp only [bxL]; omega)) only [↓bxD, bxP, bxQ, bxQ2, Nat.reduceBEq, reduceCtorEq, Nat.reduceAdd, Nat.reduceSub, Nat.reduceMul, Nat.reduceLeDiff, Nat.reduceLT, bxR, hr1, hr2, hb0, hb1, ixA_0, ixA_1, ixA_2, hsa1, hsa2, hg, ea0, ea1, eb0, c1]
    unfold isN at c1
    simp only [Bool.and_eq_false_iff, decide_eq_false_iff_not] at c1
    rw [if_pos (by omega)]
    show Wp fns IC.ret _ _ _
    simp (maxSteps := 4000000) (disch := first | omega | assumption | (simp only [bxS, bxV, stOk, Nat.reduceBEq, Nat.reduceEqDiff, Nat.reduceAdd]; done) | (simp only [bxU]; omega) | ((try apply has_setN); apply has_ofL; simp only [bxL]; omega)) only [↓bxD, bxP, bxQ, bxQ2, Nat.reduceBEq, reduceCtorEq, Nat.reduceAdd, Nat.reduceSub, Nat.reduceMul, Nat.reduceLeDiff, Nat.reduceLT, bxR, hr1, hr2, hb0, hb1, ixA_0, ixA_1, ixA_2, hsa1, hsa2, hg, ea0, ea1, eb0]
    exact hx1
  | true =>
    have hc1 := c1
    unfold isN at c1
    simp only [Bool.and_eq_true, decide_eq_true_eq] at c1
    obtain ⟨k1, rfl⟩ : ∃ k : Nat, x1 = (k : Int) := ⟨x1.toNat, by omega⟩
    obtain ⟨z, hz⟩ : ∃ z, ar[k1]? = some z := ⟨_, List.getElem?_eq_getElem (by omega)⟩
    obtain ⟨ro3, s3, t3, hg3, hid3, hT3⟩ := hura.read hz
    simp (maxSteps := 4000000) (disch := first | omega | assumption | (simp only [bxS, bxV, stOk, Nat.reduceBEq, Nat.reduceEqDiff, Nat.reduceAdd]; done) | (simp only [bxU]; omega) | ((try apply has_setN); apply has_ofL; simp only [bxL]; omega)) only [↓bxD, bxP, bxQ, bxQ2, Nat.reduceBEq, reduceCtorEq, Nat.reduceAdd, Nat.reduceSub, Nat.reduceMul, Nat.reduceLeDiff, Nat.reduceLT, bxR, hr1, hr2, hb0, hb1, ixA_0, ixA_1, ixA_2, hsa1, hsa2, hg, ea0, ea1, eb0, hc1, hg3, hT3]
    rw [if_neg (by omega), Int.toNat_natCast, hz]
    show Wp fns IC.ret _ _ _
    simp (maxSteps := 4000000) (disch := first | omega | assumption | (simp only [bxS, bxV, stOk, Nat.reduceBEq, Nat.reduceEqDiff, Nat.reduceAdd]; done) | (simp only [bxU]; omega) | ((try apply has_setN); apply has_ofL; simp only [bxL]; omega)) only [↓bxD, bxP, bxQ, bxQ2, Nat.reduceBEq, reduceCtorEq, Nat.reduceAdd, Nat.reduceSub, Nat.reduceMul, Nat.reduceLeDiff, Nat.reduceLT, bxR, hr1, hr2, hb0, hb1, ixA_0, ixA_1, ixA_2, hsa1, hsa2, hg, ea0, ea1, eb0, hc1, hg3, hT3]
    exact ⟨by simp, hx1⟩
end Go.Proofs.YtdggbpfpjkokpaaDoor.K
set_option linter.unusedSimpArgs false
set_option linter.unusedVariables false
namespace Go.Proofs.YtdggbpfpjkokpaaDoor.K
open Go Ev
set_option maxRecDepth 100000
set_option maxHeartbeats 4000000

theorem wholeError_any {M : MH} {g : Gr} {vr vf vc vk : MV} {es : List (List MV)} (h : GrAt M vr vf vc vk es g) (hlo : M.lo ≤ M.n) :
    Cp fns 46 [.ag (gcs g vr vf vc vk)] M fun m M' => m = .i .i64 (numE (headE g)) ∧ Ext M M' := by
  obtain ⟨hr1, hr2⟩ := h.rules.row.sl
  rw [h.rules.len] at hr2
  obtain ⟨hf1, hf2⟩ := h.forbid.sl
  rw [List.length_map] at hf2
  obtain ⟨hc1, hc2⟩ := h.rc.sl
  obtain ⟨hk1, hk2⟩ := h.kc.sl
  obtain ⟨hw1, hw2, hw3, hw4⟩ := h.wf.lens
  refine Cp_call (fn := F46) (by kernel_rfl) (Nat.le_of_ble_eq_true rfl) ?_
  show Wp fns B46 (T.set q0 (some (.ag (gcs g vr vf vc vk))) T.lf) M _
  unfold B46
  rw [show gcs g vr vf vc vk = [MV.i IntKind.i64 g.names, MV.i IntKind.i64 g.kinds, MV.i IntKind.i64 g.start, vr, vf, vc, vk] from rfl]
  simp (maxSteps := 4000000) (disch := first | omega | assumption | (simp only [bxS, bxV, stOk, Nat.reduceBEq, Nat.reduceEqDiff, Nat.reduceAdd]; done) | (simp only [bxU]; omega) | ((try apply has_setN); apply has_ofL; simp only [bxL]; omega)) only [↓bxD, bxP, bxQ, bxQ2, Nat.reduceBEq, reduceCtorEq, Nat.reduceAdd, Nat.reduceSub, Nat.reduceMul, Nat.reduceLeDiff, Nat.reduceLT, bxR, hr1, hr2, hf1, hf2, hc1, hc2, hk1, hk2]
  generalize hM1 : M.push _ = M1
  have hb0 : M1.get M.n = some (.cs false 7 (ofL [MV.i IntKind.i64 g.names, MV.i IntKind.i64 g.kinds, MV.i IntKind.i64 g.start, vr, vf, vc, vk] 0)) := by rw [← hM1]; exact push_new _
  have hx1 : Ext M M1 := by rw [← hM1]; exact .push M _
  have hn1 : M1.n = M.n + 1 := by rw [← hM1]; rfl
  have hl1 := hx1.lo
  clear hM1
  have h1 := h.ext hx1
  have hq1 : ∀ (c : Prop) [Decidable c], c → decide c = true := fun c _ h => decide_eq_true h
  by_cases ca0 : g.names < 1
  · have da0 : decide (g.names < 1) = true := decide_eq_true ca0
    simp (maxSteps := 4000000) (disch := first | omega | assumption | (simp only [bxS, bxV, stOk, Nat.reduceBEq, Nat.reduceEqDiff, Nat.reduceAdd]; done) | (simp only [bxU]; omega) | ((try apply has_setN); apply has_ofL; simp only [bxL]; omega)) only [↓bxD, bxP, bxQ, bxQ2, Nat.reduceBEq, reduceCtorEq, Nat.reduceAdd, Nat.reduceSub, Nat.reduceMul, Nat.reduceLeDiff, Nat.reduceLT, bxR, hr1, hr2, hf1, hf2, hc1, hc2, hk1, hk2, hb0, da0]
    show Wp fns K46_1 _ _ _
    unfold K46_1
    simp (maxSteps := 4000000) (disch := first | omega | assumption | (simp only [bxS, bxV, stOk, Nat.reduceBEq, Nat.reduceEqDiff, Nat.reduceAdd]; done) | (simp only [bxU]; omega) | ((try apply has_setN); apply has_ofL; simp only [bxL]; omega)) only [↓bxD, bxP, bxQ, bxQ2, Nat.reduceBEq, reduceCtorEq, Nat.reduceAdd, Nat.reduceSub, Nat.reduceMul, Nat.reduceLeDiff, Nat.reduceLT, bxR, hr1, hr2, hf1, hf2, hc1, hc2, hk1, hk2, hb0, da0]
    exact ⟨by unfold headE; rw [if_pos (by omega)]; rfl, hx1⟩
  have da0 : decide (g.names < 1) = false := decide_eq_false ca0
  by_cases ca1 : 40 < g.names
  · have da1 : decide (40 < g.names) = true := decide_eq_true ca1
    simp (maxSteps := 4000000) (disch := first | omega | assumption | (simp only [bxS, bxV, stOk, Nat.reduceBEq, Nat.reduceEqDiff, Nat.reduceAdd]; done) | (simp only [bxU]; omega) | ((try apply has_setN); apply has_ofL; simp only [bxL]; omega)) only [↓bxD, bxP, bxQ, bxQ2, Nat.reduceBEq, reduceCtorEq, Nat.reduceAdd, Nat.reduceSub, Nat.reduceMul, Nat.reduceLeDiff, Nat.reduceLT, bxR, hr1, hr2, hf1, hf2, hc1, hc2, hk1, hk2, hb0, da0, da1]
    show Wp fns K46_1 _ _ _
    unfold K46_1
    simp (maxSteps := 4000000) (disch := first | omega | assumption | (simp only [bxS, bxV, stOk, Nat.reduceBEq, Nat.reduceEqDiff, Nat.reduceAdd]; done) | (simp only [bxU]; omega) | ((try apply has_setN); apply has_ofL; simp only [bxL]; omega)) only [↓bxD, bxP, bxQ, bxQ2, Nat.reduceBEq, reduceCtorEq, Nat.reduceAdd, Nat.reduceSub, Nat.reduceMul, Nat.reduceLeDiff, Nat.reduceLT, bxR, hr1, hr2, hf1, hf2, hc1, hc2, hk1, hk2, hb0, da0, da1]
    exact ⟨by unfold headE; rw [if_pos (by omega)]; rfl, hx1⟩
  have da1 : decide (40 < g.names) = false := decide_eq_false ca1
  by_cases ca2 : g.kinds < 0
  · have da2 : decide (g.kinds < 0) = true := decide_eq_true ca2
    simp (maxSteps := 4000000) (disch := first | omega | assumption | (simp only [bxS, bxV, stOk, Nat.reduceBEq, Nat.reduceEqDiff, Nat.reduceAdd]; done) | (simp only [bxU]; omega) | ((try apply has_setN); apply has_ofL; simp only [bxL]; omega)) only [↓bxD, bxP, bxQ, bxQ2, Nat.reduceBEq, reduceCtorEq, Nat.reduceAdd, Nat.reduceSub, Nat.reduceMul, Nat.reduceLeDiff, Nat.reduceLT, bxR, hr1, hr2, hf1, hf2, hc1, hc2, hk1, hk2, hb0, da0, da1, da2]
    show Wp fns K46_1 _ _ _
    unfold K46_1
    simp (maxSteps := 4000000) (disch := first | omega | assumption | (simp only [bxS, bxV, stOk, Nat.reduceBEq, Nat.reduceEqDiff, Nat.reduceAdd]; done) | (simp only [bxU]; omega) | ((try apply has_setN); apply has_ofL; simp only [bxL]; omega)) only [↓bxD, bxP, bxQ, bxQ2, Nat.reduceBEq, reduceCtorEq, Nat.reduceAdd, Nat.reduceSub, Nat.reduceMul, Nat.reduceLeDiff, Nat.reduceLT, bxR, hr1, hr2, hf1, hf2, hc1, hc2, hk1, hk2, hb0, da0, da1, da2]
    exact ⟨by unfold headE; rw [if_pos (by omega)]; rfl, hx1⟩
  have da2 : decide (g.kinds < 0) = false := decide_eq_false ca2
  by_cases ca3 : 40 < g.kinds
  · have da3 : decide (40 < g.kinds) = true := decide_eq_true ca3
    simp (maxSteps := 4000000) (disch := first | omega | assumption | (simp only [bxS, bxV, stOk, Nat.reduceBEq, Nat.reduceEqDiff, Nat.reduceAdd]; done) | (simp only [bxU]; omega) | ((try apply has_setN); apply has_ofL; simp only [bxL]; omega)) only [↓bxD, bxP, bxQ, bxQ2, Nat.reduceBEq, reduceCtorEq, Nat.reduceAdd, Nat.reduceSub, Nat.reduceMul, Nat.reduceLeDiff, Nat.reduceLT, bxR, hr1, hr2, hf1, hf2, hc1, hc2, hk1, hk2, hb0, da0, da1, da2, da3]
    show Wp fns K46_1 _ _ _
    unfold K46_1
    simp (maxSteps := 4000000) (disch := first | omega | assumption | (simp only [bxS, bxV, stOk, Nat.reduceBEq, Nat.reduceEqDiff, Nat.reduceAdd]; done) | (simp only [bxU]; omega) | ((try apply has_setN); apply has_ofL; simp only [bxL]; omega)) only [↓bxD, bxP, bxQ, bxQ2, Nat.reduceBEq, reduceCtorEq, Nat.reduceAdd, Nat.reduceSub, Nat.reduceMul, Nat.reduceLeDiff, Nat.reduceLT, bxR, hr1, hr2, hf1, hf2, hc1, hc2, hk1, hk2, hb0, da0, da1, da2, da3]
    exact ⟨by unfold headE; rw [if_pos (by omega)]; rfl, hx1⟩
  have da3 : decide (40 < g.kinds) = false := decide_eq_false ca3
  by_cases ca4 : (60 : Int) < (g.rules.length : Int)
  · have da4 : decide ((60 : Int) < (g.rules.length : Int)) = true := decide_eq_true ca4
    simp (maxSteps := 4000000) (disch := first | omega | assumption | (simp only [bxS, bxV, stOk, Nat.reduceBEq, Nat.reduceEqDiff, Nat.reduceAdd]; done) | (simp only [bxU]; omega) | ((try apply has_setN); apply has_ofL; simp only [bxL]; omega)) only [↓bxD, bxP, bxQ, bxQ2, Nat.reduceBEq, reduceCtorEq, Nat.reduceAdd, Nat.reduceSub, Nat.reduceMul, Nat.reduceLeDiff, Nat.reduceLT, bxR, hr1, hr2, hf1, hf2, hc1, hc2, hk1, hk2, hb0, da0, da1, da2, da3, da4]
    show Wp fns K46_1 _ _ _
    unfold K46_1
    simp (maxSteps := 4000000) (disch := first | omega | assumption | (simp only [bxS, bxV, stOk, Nat.reduceBEq, Nat.reduceEqDiff, Nat.reduceAdd]; done) | (simp only [bxU]; omega) | ((try apply has_setN); apply has_ofL; simp only [bxL]; omega)) only [↓bxD, bxP, bxQ, bxQ2, Nat.reduceBEq, reduceCtorEq, Nat.reduceAdd, Nat.reduceSub, Nat.reduceMul, Nat.reduceLeDiff, Nat.reduceLT, bxR, hr1, hr2, hf1, hf2, hc1, hc2, hk1, hk2, hb0, da0, da1, da2, da3, da4]
    exact ⟨by unfold headE; rw [if_pos (by omega)]; rfl, hx1⟩
  have da4 : decide ((60 : Int) < (g.rules.length : Int)) = false := decide_eq_false ca4
  by_cases ca5 : (200 : Int) < (g.forbid.length : Int)
  · have da5 : decide ((200 : Int) < (g.forbid.length : Int)) = true := decide_eq_true ca5
    simp (maxSteps := 4000000) (disch := first | omega | assumption | (simp only [bxS, bxV, stOk, Nat.reduceBEq, Nat.reduceEqDiff, Nat.reduceAdd]; done) | (simp only [bxU]; omega) | ((try apply has_setN); apply has_ofL; simp only [bxL]; omega)) only [↓bxD, bxP, bxQ, bxQ2, Nat.reduceBEq, reduceCtorEq, Nat.reduceAdd, Nat.reduceSub, Nat.reduceMul, Nat.reduceLeDiff, Nat.reduceLT, bxR, hr1, hr2, hf1, hf2, hc1, hc2, hk1, hk2, hb0, da0, da1, da2, da3, da4, da5]
    show Wp fns K46_1 _ _ _
    unfold K46_1
    simp (maxSteps := 4000000) (disch := first | omega | assumption | (simp only [bxS, bxV, stOk, Nat.reduceBEq, Nat.reduceEqDiff, Nat.reduceAdd]; done) | (simp only [bxU]; omega) | ((try apply has_setN); apply has_ofL; simp only [bxL]; omega)) only [↓bxD, bxP, bxQ, bxQ2, Nat.reduceBEq, reduceCtorEq, Nat.reduceAdd, Nat.reduceSub, Nat.reduceMul, Nat.reduceLeDiff, Nat.reduceLT, bxR, hr1, hr2, hf1, hf2, hc1, hc2, hk1, hk2, hb0, da0, da1, da2, da3, da4, da5]
    exact ⟨by unfold headE; rw [if_pos (by omega)]; rfl, hx1⟩
  have da5 : decide ((200 : Int) < (g.forbid.length : Int)) = false := decide_eq_false ca5
  simp (maxSteps := 4000000) (disch := first | omega | assumption | (simp only [bxS, bxV, stOk, Nat.reduceBEq, Nat.reduceEqDiff, Nat.reduceAdd]; done) | (simp only [bxU]; omega) | ((try apply has_setN); apply has_ofL; simp only [bxL]; omega)) only [↓bxD, bxP, bxQ, bxQ2, Nat.reduceBEq, reduceCtorEq, Nat.reduceAdd, Nat.reduceSub, Nat.reduceMul, Nat.reduceLeDiff, Nat.reduceLT, bxR, hr1, hr2, hf1, hf2, hc1, hc2, hk1, hk2, hb0, da0, da1, da2, da3, da4, da5]
  show Wp fns K46_1 _ _ _
  unfold K46_1
  simp (maxSteps := 4000000) (disch := first | omega | assumption | (simp only [bxS, bxV, stOk, Nat.reduceBEq, Nat.reduceEqDiff, Nat.reduceAdd]; done) | (simp only [bxU]; omega) | ((try apply has_setN); apply has_ofL; simp only [bxL]; omega)) only [↓bxD, bxP, bxQ, bxQ2, Nat.reduceBEq, reduceCtorEq, Nat.reduceAdd, Nat.reduceSub, Nat.reduceMul, Nat.reduceLeDiff, Nat.reduceLT, bxR, hr1, hr2, hf1, hf2, hc1, hc2, hk1, hk2, hb0, da0, da1, da2, da3, da4, da5]
  have hh1 : ¬ (g.names < 1 ∨ 40 < g.names ∨ g.kinds < 0 ∨ 40 < g.kinds ∨ (60 : Int) < (g.rules.length : Int) ∨ (200 : Int) < (g.forbid.length : Int)) := by omega
  refine bindP_call number_any ?_
  rintro m M2 ⟨rfl, rfl⟩
  simp (maxSteps := 4000000) (disch := first | omega | assumption | (simp only [bxS, bxV, stOk, Nat.reduceBEq, Nat.reduceEqDiff, Nat.reduceAdd]; done) | (simp only [bxU]; omega) | ((try apply has_setN); apply has_ofL; simp only [bxL]; omega)) only [↓bxD, bxP, bxQ, bxQ2, Nat.reduceBEq, reduceCtorEq, Nat.reduceAdd, Nat.reduceSub, Nat.reduceMul, Nat.reduceLeDiff, Nat.reduceLT, bxR, hr1, hr2, hf1, hf2, hc1, hc2, hk1, hk2, hb0, da0, da1, da2, da3, da4, da5]
  cases cs : isN g.start g.names with
  | false =>
    simp (maxSteps := 4000000) (disch := first | omega | assumption | (simp only [bxS, bxV, stOk, Nat.reduceBEq, Nat.reduceEqDiff, Nat.reduceAdd]; done) | (simp only [bxU]; omega) | ((try apply has_setN); apply has_ofL; simp only [bxL]; omega)) only [↓bxD, bxP, bxQ, bxQ2, Nat.reduceBEq, reduceCtorEq, Nat.reduceAdd, Nat.reduceSub, Nat.reduceMul, Nat.reduceLeDiff, Nat.reduceLT, bxR, hr1, hr2, hf1, hf2, hc1, hc2, hk1, hk2, hb0, da0, da1, da2, da3, da4, da5, cs]
    unfold isN at cs
    simp only [Bool.and_eq_false_iff, decide_eq_false_iff_not] at cs
    exact ⟨by unfold headE; rw [if_neg hh1, if_pos (by omega)]; rfl, hx1⟩
  | true =>
  simp (maxSteps := 4000000) (disch := first | omega | assumption | (simp only [bxS, bxV, stOk, Nat.reduceBEq, Nat.reduceEqDiff, Nat.reduceAdd]; done) | (simp only [bxU]; omega) | ((try apply has_setN); apply has_ofL; simp only [bxL]; omega)) only [↓bxD, bxP, bxQ, bxQ2, Nat.reduceBEq, reduceCtorEq, Nat.reduceAdd, Nat.reduceSub, Nat.reduceMul, Nat.reduceLeDiff, Nat.reduceLT, bxR, hr1, hr2, hf1, hf2, hc1, hc2, hk1, hk2, hb0, cs]
  unfold isN at cs
  simp only [Bool.and_eq_true, decide_eq_true_eq] at cs
  refine bindP_call (areClasses_any h1.rc hw3) ?_
  rintro m M2 ⟨rfl, hx2⟩
  have hb2 := (hx2.old _ (by omega)).trans hb0
  have hn2 := hx2.n
  simp (maxSteps := 4000000) (disch := first | omega | assumption | (simp only [bxS, bxV, stOk, Nat.reduceBEq, Nat.reduceEqDiff, Nat.reduceAdd]; done) | (simp only [bxU]; omega) | ((try apply has_setN); apply has_ofL; simp only [bxL]; omega)) only [↓bxD, bxP, bxQ, bxQ2, Nat.reduceBEq, reduceCtorEq, Nat.reduceAdd, Nat.reduceSub, Nat.reduceMul, Nat.reduceLeDiff, Nat.reduceLT, bxR, hr1, hr2, hf1, hf2, hc1, hc2, hk1, hk2, hb2]
  have hh2 : headE g = if (g.rules.length : Int) < (g.rc.length : Int) ∨ g.kinds < (g.kc.length : Int) ∨ clsB g.rc = false ∨ clsB g.kc = false then some 1 else none := by
    unfold headE
    rw [if_neg hh1, if_neg (by omega)]
  cases e1 : (decide ((g.rc.length : Int) ≤ (g.rules.length : Int)) && clsB g.rc) with
  | false =>
    simp (maxSteps := 4000000) (disch := first | omega | assumption | (simp only [bxS, bxV, stOk, Nat.reduceBEq, Nat.reduceEqDiff, Nat.reduceAdd]; done) | (simp only [bxU]; omega) | ((try apply has_setN); apply has_ofL; simp only [bxL]; omega)) only [↓bxD, bxP, bxQ, bxQ2, Nat.reduceBEq, reduceCtorEq, Nat.reduceAdd, Nat.reduceSub, Nat.reduceMul, Nat.reduceLeDiff, Nat.reduceLT, bxR, hr1, hr2, hf1, hf2, hc1, hc2, hk1, hk2, hb2, e1]
    show Wp fns K46_0 _ _ _
    unfold K46_0
    simp (maxSteps := 4000000) (disch := first | omega | assumption | (simp only [bxS, bxV, stOk, Nat.reduceBEq, Nat.reduceEqDiff, Nat.reduceAdd]; done) | (simp only [bxU]; omega) | ((try apply has_setN); apply has_ofL; simp only [bxL]; omega)) only [↓bxD, bxP, bxQ, bxQ2, Nat.reduceBEq, reduceCtorEq, Nat.reduceAdd, Nat.reduceSub, Nat.reduceMul, Nat.reduceLeDiff, Nat.reduceLT, bxR, hr1, hr2, hf1, hf2, hc1, hc2, hk1, hk2, hb2]
    simp only [Bool.and_eq_false_iff, decide_eq_false_iff_not] at e1
    exact ⟨by rw [hh2, if_pos (by rcases e1 with e1 | e1; exact .inl (by omega); exact .inr (.inr (.inl e1)))]; rfl, hx1.trans hx2⟩
  | true =>
  simp (maxSteps := 4000000) (disch := first | omega | assumption | (simp only [bxS, bxV, stOk, Nat.reduceBEq, Nat.reduceEqDiff, Nat.reduceAdd]; done) | (simp only [bxU]; omega) | ((try apply has_setN); apply has_ofL; simp only [bxL]; omega)) only [↓bxD, bxP, bxQ, bxQ2, Nat.reduceBEq, reduceCtorEq, Nat.reduceAdd, Nat.reduceSub, Nat.reduceMul, Nat.reduceLeDiff, Nat.reduceLT, bxR, hr1, hr2, hf1, hf2, hc1, hc2, hk1, hk2, hb2, e1]
  refine bindP_call (areClasses_any (h1.kc.ext hx2) hw4) ?_
  rintro m M3 ⟨rfl, hx3⟩
  simp (maxSteps := 4000000) (disch := first | omega | assumption | (simp only [bxS, bxV, stOk, Nat.reduceBEq, Nat.reduceEqDiff, Nat.reduceAdd]; done) | (simp only [bxU]; omega) | ((try apply has_setN); apply has_ofL; simp only [bxL]; omega)) only [↓bxD, bxP, bxQ, bxQ2, Nat.reduceBEq, reduceCtorEq, Nat.reduceAdd, Nat.reduceSub, Nat.reduceMul, Nat.reduceLeDiff, Nat.reduceLT, bxR, hr1, hr2, hf1, hf2, hc1, hc2, hk1, hk2, hb2]
  simp only [Bool.and_eq_true, decide_eq_true_eq] at e1
  cases e2 : (decide ((g.kc.length : Int) ≤ g.kinds) && clsB g.kc) with
  | false =>
    simp (maxSteps := 4000000) (disch := first | omega | assumption | (simp only [bxS, bxV, stOk, Nat.reduceBEq, Nat.reduceEqDiff, Nat.reduceAdd]; done) | (simp only [bxU]; omega) | ((try apply has_setN); apply has_ofL; simp only [bxL]; omega)) only [↓bxD, bxP, bxQ, bxQ2, Nat.reduceBEq, reduceCtorEq, Nat.reduceAdd, Nat.reduceSub, Nat.reduceMul, Nat.reduceLeDiff, Nat.reduceLT, bxR, hr1, hr2, hf1, hf2, hc1, hc2, hk1, hk2, hb2, e2]
    show Wp fns K46_0 _ _ _
    unfold K46_0
    simp (maxSteps := 4000000) (disch := first | omega | assumption | (simp only [bxS, bxV, stOk, Nat.reduceBEq, Nat.reduceEqDiff, Nat.reduceAdd]; done) | (simp only [bxU]; omega) | ((try apply has_setN); apply has_ofL; simp only [bxL]; omega)) only [↓bxD, bxP, bxQ, bxQ2, Nat.reduceBEq, reduceCtorEq, Nat.reduceAdd, Nat.reduceSub, Nat.reduceMul, Nat.reduceLeDiff, Nat.reduceLT, bxR, hr1, hr2, hf1, hf2, hc1, hc2, hk1, hk2, hb2]
    simp only [Bool.and_eq_false_iff, decide_eq_false_iff_not] at e2
    exact ⟨by rw [hh2, if_pos (by rcases e2 with e2 | e2; exact .inr (.inl (by omega)); exact .inr (.inr (.inr e2)))]; rfl, (hx1.trans hx2).trans hx3⟩
  | true =>
  simp (maxSteps := 4000000) (disch := first | omega | assumption | (simp only [bxS, bxV, stOk, Nat.reduceBEq, Nat.reduceEqDiff, Nat.reduceAdd]; done) | (simp only [bxU]; omega) | ((try apply has_setN); apply has_ofL; simp only [bxL]; omega)) only [↓bxD, bxP, bxQ, bxQ2, Nat.reduceBEq, reduceCtorEq, Nat.reduceAdd, Nat.reduceSub, Nat.reduceMul, Nat.reduceLeDiff, Nat.reduceLT, bxR, hr1, hr2, hf1, hf2, hc1, hc2, hk1, hk2, hb2, e2]
  show Wp fns K46_0 _ _ _
  unfold K46_0
  simp (maxSteps := 4000000) (disch := first | omega | assumption | (simp only [bxS, bxV, stOk, Nat.reduceBEq, Nat.reduceEqDiff, Nat.reduceAdd]; done) | (simp only [bxU]; omega) | ((try apply has_setN); apply has_ofL; simp only [bxL]; omega)) only [↓bxD, bxP, bxQ, bxQ2, Nat.reduceBEq, reduceCtorEq, Nat.reduceAdd, Nat.reduceSub, Nat.reduceMul, Nat.reduceLeDiff, Nat.reduceLT, bxR, hr1, hr2, hf1, hf2, hc1, hc2, hk1, hk2, hb2]
  show Wp fns K46_2 _ _ _
  unfold K46_2
  simp (maxSteps := 4000000) (disch := first | omega | assumption | (simp only [bxS, bxV, stOk, Nat.reduceBEq, Nat.reduceEqDiff, Nat.reduceAdd]; done) | (simp only [bxU]; omega) | ((try apply has_setN); apply has_ofL; simp only [bxL]; omega)) only [↓bxD, bxP, bxQ, bxQ2, Nat.reduceBEq, reduceCtorEq, Nat.reduceAdd, Nat.reduceSub, Nat.reduceMul, Nat.reduceLeDiff, Nat.reduceLT, bxR, hr1, hr2, hf1, hf2, hc1, hc2, hk1, hk2, hb2]
  simp only [Bool.and_eq_true, decide_eq_true_eq] at e2
  refine ⟨?_, (hx1.trans hx2).trans hx3⟩
  rw [hh2, if_neg]
  · rfl
  · rintro (x | x | x | x)
    · omega
    · omega
    · rw [e1.2] at x; cases x
    · rw [e2.2] at x; cases x
end Go.Proofs.YtdggbpfpjkokpaaDoor.K
set_option linter.unusedSimpArgs false
set_option linter.unusedVariables false
namespace Go.Proofs.YtdggbpfpjkokpaaDoor.K
open Go Ev
set_option maxRecDepth 100000
set_option maxHeartbeats 4000000

theorem pform_forb {M0 M : MH} {g : Gr} {vr vf vc vk : MV} {es : List (List MV)} {f : Fr} (h : Rdy M0 M g vr vf vc vk es f) (hh : headE g = none) (hr : findE (ruleE g) g.rules 0 = none) : Wp fns K39_7 f M (retQ F39 (FormPost g M0)) := by
  have hq := h.fr
  have hbox := h.box
  obtain ⟨hf1, hf2⟩ := h.gr.forbid.sl
  rw [List.length_map] at hf2
  simp only [q1] at hq
  unfold gcs at hbox
  unfold K39_7
  simp (maxSteps := 4000000) (disch := first | omega | assumption | (simp only [bxS, bxV, stOk, Nat.reduceBEq, Nat.reduceEqDiff, Nat.reduceAdd]; done) | (simp only [bxU]; omega) | ((try apply has_setN); apply has_ofL; simp only [bxL]; omega)) only [↓bxD, bxP, bxQ, bxQ2, Nat.reduceBEq, reduceCtorEq, Nat.reduceAdd, Nat.reduceSub, Nat.reduceMul, Nat.reduceLeDiff, Nat.reduceLT, bxR, hq, hbox, hf1, hf2]
  refine Wp_inv (σ := Nat) (fun i f M' => Rdy M0 M' g vr vf vc vk es f ∧ i ≤ g.forbid.length ∧ X.ev f (.t q32) = vf ∧ X.ev f (.t q33) = .i .i64 (g.forbid.length : Int) ∧ X.ev f (.t q34) = .i .i64 (i : Int) ∧ (g.forbid.take i).any (badF g) = false) (fun i => g.forbid.length - i) ?_ 0 ?_
  · rintro i f M' ⟨h, hi, h32, h33, h34, hp⟩
    have hq := h.fr
    have hlo := h.lo0
    have hn := h.ext.n
    have hl := h.ext.lo
    have hlt := h.lt
    have hbox := h.box
    obtain ⟨hw1, hw2, _, _⟩ := h.gr.wf.lens
    simp only [q1, q32, q33, q34] at hq h32 h33 h34
    unfold gcs at hbox
    unfold L39_5
    simp (maxSteps := 4000000) (disch := first | omega | assumption | (simp only [bxS, bxV, stOk, Nat.reduceBEq, Nat.reduceEqDiff, Nat.reduceAdd]; done) | (simp only [bxU]; omega) | ((try apply has_setN); apply has_ofL; simp only [bxL]; omega)) only [↓bxD, bxP, bxQ, bxQ2, Nat.reduceBEq, reduceCtorEq, Nat.reduceAdd, Nat.reduceSub, Nat.reduceMul, Nat.reduceLeDiff, Nat.reduceLT, bxR, hq, h32, h33, h34, hf1, hf2]
    refine condP_split (fun hlt2 => ?_) (fun hge => ?_)
    · have hi' : i < g.forbid.length := by omega
      obtain ⟨x, hz⟩ : ∃ x, g.forbid[i]? = some x := ⟨_, List.getElem?_eq_getElem hi'⟩
      obtain ⟨x0, x1, x2⟩ := x
      obtain ⟨ro, s, t, hg, hid, hat⟩ := h.gr.forbid.read (i := i) (e := trip (x0, x1, x2)) (by rw [List.getElem?_map, hz]; rfl)
      have hN : Ev.getN t 3 (soff vf + i * 3) = some (trip (x0, x1, x2)) := hat.getN
      unfold trip at hN
      have hany : g.forbid.any (badF g) = ((g.forbid.take (i + 1)).any (badF g) || (g.forbid.drop (i + 1)).any (badF g)) := by rw [← List.any_append, List.take_append_drop]
      have htk : (g.forbid.take (i + 1)).any (badF g) = badF g (x0, x1, x2) := by rw [List.take_add_one, hz, List.any_append, hp]; simp
      have hbad : badF g (x0, x1, x2) = true → formP g = (-1, 6) := fun e => by unfold formP; rw [hh, hr]; simp only; rw [if_pos (by rw [hany, htk, e]; rfl)]
      have hG : Ev.getN (ofL [MV.i IntKind.i64 g.names, MV.i IntKind.i64 g.kinds, MV.i IntKind.i64 g.start, vr, vf, vc, vk] 0) 7 0 = some (gcs g vr vf vc vk) := (at_ofL (gcs g vr vf vc vk)).getN
      simp (maxSteps := 4000000) (disch := first | omega | assumption | (simp only [bxS, bxV, stOk, Nat.reduceBEq, Nat.reduceEqDiff, Nat.reduceAdd]; done) | (simp only [bxU]; omega) | ((try apply has_setN); apply has_ofL; simp only [bxL]; omega)) only [↓bxD, bxP, bxQ, bxQ2, Nat.reduceBEq, reduceCtorEq, Nat.reduceAdd, Nat.reduceSub, Nat.reduceMul, Nat.reduceLeDiff, Nat.reduceLT, bxR, hq, h32, h33, h34, hf1, hf2, hg, hN, hG]
      show Wp fns K39_4 _ _ _
      unfold K39_4
      simp (maxSteps := 4000000) (disch := first | omega | assumption | (simp only [bxS, bxV, stOk, Nat.reduceBEq, Nat.reduceEqDiff, Nat.reduceAdd]; done) | (simp only [bxU]; omega) | ((try apply has_setN); apply has_ofL; simp only [bxL]; omega)) only [↓bxD, bxP, bxQ, bxQ2, Nat.reduceBEq, reduceCtorEq, Nat.reduceAdd, Nat.reduceSub, Nat.reduceMul, Nat.reduceLeDiff, Nat.reduceLT, bxR, hq, h32, h33, h34, hf1, hf2, hg, hN, hG]
      generalize hM2 : (M'.push _).set M'.n _ = M2
      have hx2 : Ext M' M2 := by rw [← hM2]; exact (Ext.push M' _).set _ (Nat.le_refl _)
      have hn2 := hx2.n
      have hl2 := hx2.lo
      have h9 : M2.get M'.n = some (.cs false 3 (setN [.i .i64 x0, .i .i64 x1, .i .i64 x2] 0 (ofL [.i .i64 0, .i .i64 0, .i .i64 0] 0))) := by rw [← hM2, set_same]
      have hbox2 := (hx2.old _ hlt).trans hbox
      have hgr := h.gr.ext hx2
      clear hM2
      have hxx := h.ext.trans hx2
      simp (maxSteps := 4000000) (disch := first | omega | assumption | (simp only [bxS, bxV, stOk, Nat.reduceBEq, Nat.reduceEqDiff, Nat.reduceAdd]; done) | (simp only [bxU]; omega) | ((try apply has_setN); apply has_ofL; simp only [bxL]; omega)) only [↓bxD, bxP, bxQ, bxQ2, Nat.reduceBEq, reduceCtorEq, Nat.reduceAdd, Nat.reduceSub, Nat.reduceMul, Nat.reduceLeDiff, Nat.reduceLT, bxR, hq, h32, h33, h34, hf1, hf2, hG, hbox, hbox2, h9]
      refine bindP_call (canForbid_any hgr (by omega)) ?_
      rintro m M3 ⟨rfl, hx3⟩
      simp (maxSteps := 4000000) (disch := first | omega | assumption | (simp only [bxS, bxV, stOk, Nat.reduceBEq, Nat.reduceEqDiff, Nat.reduceAdd]; done) | (simp only [bxU]; omega) | ((try apply has_setN); apply has_ofL; simp only [bxL]; omega)) only [↓bxD, bxP, bxQ, bxQ2, Nat.reduceBEq, reduceCtorEq, Nat.reduceAdd, Nat.reduceSub, Nat.reduceMul, Nat.reduceLeDiff, Nat.reduceLT, bxR, hq, h32, h33, h34, hf1, hf2, hG, hbox, hbox2, h9]
      cases hb : badF g (x0, x1, x2) with
      | true =>
        simp (maxSteps := 4000000) (disch := first | omega | assumption | (simp only [bxS, bxV, stOk, Nat.reduceBEq, Nat.reduceEqDiff, Nat.reduceAdd]; done) | (simp only [bxU]; omega) | ((try apply has_setN); apply has_ofL; simp only [bxL]; omega)) only [↓bxD, bxP, bxQ, bxQ2, Nat.reduceBEq, reduceCtorEq, Nat.reduceAdd, Nat.reduceSub, Nat.reduceMul, Nat.reduceLeDiff, Nat.reduceLT, bxR, hq, h32, h33, h34, hf1, hf2, hG, hbox, hbox2, h9, hb]
        have e : formP g = (-1, 6) := hbad hb
        unfold FormPost
        rw [e]
        exact ⟨rfl, hxx.trans hx3⟩
      | false =>
        simp (maxSteps := 4000000) (disch := first | omega | assumption | (simp only [bxS, bxV, stOk, Nat.reduceBEq, Nat.reduceEqDiff, Nat.reduceAdd]; done) | (simp only [bxU]; omega) | ((try apply has_setN); apply has_ofL; simp only [bxL]; omega)) only [↓bxD, bxP, bxQ, bxQ2, Nat.reduceBEq, reduceCtorEq, Nat.reduceAdd, Nat.reduceSub, Nat.reduceMul, Nat.reduceLeDiff, Nat.reduceLT, bxR, hq, h32, h33, h34, hf1, hf2, hG, hbox, hbox2, h9, hb]
        show Wp fns K39_3 _ _ _
        unfold K39_3
        simp (maxSteps := 4000000) (disch := first | omega | assumption | (simp only [bxS, bxV, stOk, Nat.reduceBEq, Nat.reduceEqDiff, Nat.reduceAdd]; done) | (simp only [bxU]; omega) | ((try apply has_setN); apply has_ofL; simp only [bxL]; omega)) only [↓bxD, bxP, bxQ, bxQ2, Nat.reduceBEq, reduceCtorEq, Nat.reduceAdd, Nat.reduceSub, Nat.reduceMul, Nat.reduceLeDiff, Nat.reduceLT, bxR, hq, h32, h33, h34, hf1, hf2, hG, hbox, hbox2, h9]
        have hn3 := hx3.n
        refine ⟨i + 1, by omega, ⟨hgr.ext hx3, hxx.trans hx3, h.lo0, by omega, (hx3.old _ (by omega)).trans hbox2, by simp only [bxP, bxQ, bxQ2, reduceCtorEq, hq, h32, h33, h34, hf1, hf2, hG, hbox, hbox2, h9]⟩, by omega, rfl, by rw [htk, hb]⟩
    · have hi' : i = g.forbid.length := by omega
      subst hi'
      rw [List.take_length] at hp
      simp (maxSteps := 4000000) (disch := first | omega | assumption | (simp only [bxS, bxV, stOk, Nat.reduceBEq, Nat.reduceEqDiff, Nat.reduceAdd]; done) | (simp only [bxU]; omega) | ((try apply has_setN); apply has_ofL; simp only [bxL]; omega)) only [↓bxD, bxP, bxQ, bxQ2, Nat.reduceBEq, reduceCtorEq, Nat.reduceAdd, Nat.reduceSub, Nat.reduceMul, Nat.reduceLeDiff, Nat.reduceLT, bxR, hq, h32, h33, h34, hf1, hf2]
      show Wp fns K39_6 _ _ _
      unfold K39_6
      simp (maxSteps := 4000000) (disch := first | omega | assumption | (simp only [bxS, bxV, stOk, Nat.reduceBEq, Nat.reduceEqDiff, Nat.reduceAdd]; done) | (simp only [bxU]; omega) | ((try apply has_setN); apply has_ofL; simp only [bxL]; omega)) only [↓bxD, bxP, bxQ, bxQ2, Nat.reduceBEq, reduceCtorEq, Nat.reduceAdd, Nat.reduceSub, Nat.reduceMul, Nat.reduceLeDiff, Nat.reduceLT, bxR, hq, h32, h33, h34, hf1, hf2]
      have e : formP g = (-1, 0) := by unfold formP; rw [hh, hr]; simp only; rw [if_neg (by rw [hp]; simp)]
      unfold FormPost
      rw [e]
      exact ⟨rfl, h.ext⟩
  · exact ⟨⟨h.gr, h.ext, h.lo0, h.lt, h.box, by simp only [bxP, bxQ, bxQ2, reduceCtorEq, hq, hbox, hf1, hf2]⟩, Nat.zero_le _, by simp only [bxP, bxQ, bxQ2, reduceCtorEq, hq, hbox, hf1, hf2], by simp only [bxP, bxQ, bxQ2, reduceCtorEq, hq, hbox, hf1, hf2], by simp only [bxP, bxQ, bxQ2, reduceCtorEq, hq, hbox, hf1, hf2] <;> rfl, rfl⟩
theorem pform_rules {M0 M : MH} {g : Gr} {vr vf vc vk : MV} {es : List (List MV)} {f : Fr} (h : Rdy M0 M g vr vf vc vk es f) (hh : headE g = none) : Wp fns K39_8 f M (retQ F39 (FormPost g M0)) := by
  have hq := h.fr
  have hbox := h.box
  obtain ⟨hr1, hr2⟩ := h.gr.rules.row.sl
  rw [h.gr.rules.len] at hr2
  simp only [q1] at hq
  unfold gcs at hbox
  unfold K39_8
  simp (maxSteps := 4000000) (disch := first | omega | assumption | (simp only [bxS, bxV, stOk, Nat.reduceBEq, Nat.reduceEqDiff, Nat.reduceAdd]; done) | (simp only [bxU]; omega) | ((try apply has_setN); apply has_ofL; simp only [bxL]; omega)) only [↓bxD, bxP, bxQ, bxQ2, Nat.reduceBEq, reduceCtorEq, Nat.reduceAdd, Nat.reduceSub, Nat.reduceMul, Nat.reduceLeDiff, Nat.reduceLT, bxR, hq, hbox, hr1, hr2]
  refine Wp_inv (σ := Nat) (fun i f M' => Rdy M0 M' g vr vf vc vk es f ∧ i ≤ g.rules.length ∧ X.ev f (.t q16) = vr ∧ X.ev f (.t q17) = .i .i64 (g.rules.length : Int) ∧ X.ev f (.t q18) = .i .i64 (i : Int) ∧ findE (ruleE g) g.rules 0 = findE (ruleE g) (g.rules.drop i) i) (fun i => g.rules.length - i) ?_ 0 ?_
  · rintro i f M' ⟨h, hi, h16, h17, h18, hp⟩
    have hq := h.fr
    have hlo := h.lo0
    have hn := h.ext.n
    have hl := h.ext.lo
    have hlt := h.lt
    have hbox := h.box
    obtain ⟨hw1, hw2, _, _⟩ := h.gr.wf.lens
    simp only [q1, q16, q17, q18] at hq h16 h17 h18
    unfold gcs at hbox
    unfold L39_2
    simp (maxSteps := 4000000) (disch := first | omega | assumption | (simp only [bxS, bxV, stOk, Nat.reduceBEq, Nat.reduceEqDiff, Nat.reduceAdd]; done) | (simp only [bxU]; omega) | ((try apply has_setN); apply has_ofL; simp only [bxL]; omega)) only [↓bxD, bxP, bxQ, bxQ2, Nat.reduceBEq, reduceCtorEq, Nat.reduceAdd, Nat.reduceSub, Nat.reduceMul, Nat.reduceLeDiff, Nat.reduceLT, bxR, hq, h16, h17, h18, hr1, hr2]
    refine condP_split (fun hlt2 => ?_) (fun hge => ?_)
    · have hi' : i < g.rules.length := by omega
      obtain ⟨x, hz⟩ : ∃ x, g.rules[i]? = some x := ⟨_, List.getElem?_eq_getElem hi'⟩
      obtain ⟨a0, ar, a2⟩ := x
      obtain ⟨ua, hua, hura⟩ : ∃ u1, es[i]? = some [.i .i64 a0, u1, .i .i64 a2] ∧ IntRow _ u1 ar := h.gr.rules.get hz
      obtain ⟨hsu1, hsu2⟩ := hura.sl
      obtain ⟨ro, s, t, hg, hid, hat⟩ := h.gr.rules.row.read hua
      have hN : Ev.getN t 3 (soff vr + i * 3) = some [.i .i64 a0, ua, .i .i64 a2] := hat.getN
      have hone : MV.one ua = true := isSl_one hsu1
      have hwr := h.gr.wf.rules _ (List.mem_of_getElem? hz)
      have hdrop := findE_drop (f := ruleE g) hz
      have hG : Ev.getN (ofL [MV.i IntKind.i64 g.names, MV.i IntKind.i64 g.kinds, MV.i IntKind.i64 g.start, vr, vf, vc, vk] 0) 7 0 = some (gcs g vr vf vc vk) := (at_ofL (gcs g vr vf vc vk)).getN
      have hst : stOk 3 (.ag [.i .i64 a0, ua, .i .i64 a2]) = true := by cases ua <;> first | rfl | cases hsu1
      simp (maxSteps := 4000000) (disch := first | omega | assumption | (simp only [bxS, bxV, stOk, Nat.reduceBEq, Nat.reduceEqDiff, Nat.reduceAdd]; done) | (simp only [bxU]; omega) | ((try apply has_setN); apply has_ofL; simp only [bxL]; omega)) only [↓bxD, bxP, bxQ, bxQ2, Nat.reduceBEq, reduceCtorEq, Nat.reduceAdd, Nat.reduceSub, Nat.reduceMul, Nat.reduceLeDiff, Nat.reduceLT, bxR, hq, h16, h17, h18, hr1, hr2, hg, hN, hG]
      show Wp fns K39_1 _ _ _
      unfold K39_1
      simp (maxSteps := 4000000) (disch := first | omega | assumption | (simp only [bxS, bxV, stOk, Nat.reduceBEq, Nat.reduceEqDiff, Nat.reduceAdd]; done) | (simp only [bxU]; omega) | ((try apply has_setN); apply has_ofL; simp only [bxL]; omega)) only [↓bxD, bxP, bxQ, bxQ2, Nat.reduceBEq, reduceCtorEq, Nat.reduceAdd, Nat.reduceSub, Nat.reduceMul, Nat.reduceLeDiff, Nat.reduceLT, bxR, hq, h16, h17, h18, hr1, hr2, hg, hN, hG]
      generalize hM2 : (M'.push _).set M'.n _ = M2
      have hx2 : Ext M' M2 := by rw [← hM2]; exact (Ext.push M' _).set _ (Nat.le_refl _)
      have hn2 := hx2.n
      have hl2 := hx2.lo
      have h9 : M2.get M'.n = some (.cs false 3 (setN [.i .i64 a0, ua, .i .i64 a2] 0 (ofL [.i .i64 0, .nils, .i .i64 0] 0))) := by rw [← hM2, set_same]
      have hbox2 := (hx2.old _ hlt).trans hbox
      have hgr := h.gr.ext hx2
      clear hM2
      have hxx := h.ext.trans hx2
      simp (maxSteps := 4000000) (disch := first | omega | assumption | (simp only [bxS, bxV, stOk, Nat.reduceBEq, Nat.reduceEqDiff, Nat.reduceAdd]; done) | (simp only [bxU]; omega) | ((try apply has_setN); apply has_ofL; simp only [bxL]; omega)) only [↓bxD, bxP, bxQ, bxQ2, Nat.reduceBEq, reduceCtorEq, Nat.reduceAdd, Nat.reduceSub, Nat.reduceMul, Nat.reduceLeDiff, Nat.reduceLT, bxR, hq, h16, h17, h18, hr1, hr2, hG, hbox, hbox2, h9]
      refine bindP_call (ruleError_any (by omega) (hura.ext hx2) hwr.2.1 hwr.2.2.2) ?_
      rintro m M3 ⟨rfl, hx3⟩
      simp (maxSteps := 4000000) (disch := first | omega | assumption | (simp only [bxS, bxV, stOk, Nat.reduceBEq, Nat.reduceEqDiff, Nat.reduceAdd]; done) | (simp only [bxU]; omega) | ((try apply has_setN); apply has_ofL; simp only [bxL]; omega)) only [↓bxD, bxP, bxQ, bxQ2, Nat.reduceBEq, reduceCtorEq, Nat.reduceAdd, Nat.reduceSub, Nat.reduceMul, Nat.reduceLeDiff, Nat.reduceLT, bxR, hq, h16, h17, h18, hr1, hr2, hG, hbox, hbox2, h9]
      cases hb : ruleE g (a0, ar, a2) with
      | some e =>
        have e0' : e ≠ 0 := by
          unfold ruleE at hb
          split at hb
          · cases hb; decide
          · split at hb
            · cases hb; decide
            · split at hb
              · cases hb; decide
              · cases hb
        rw [hb] at hdrop
        simp (maxSteps := 4000000) (disch := first | omega | assumption | (simp only [bxS, bxV, stOk, Nat.reduceBEq, Nat.reduceEqDiff, Nat.reduceAdd]; done) | (simp only [bxU]; omega) | ((try apply has_setN); apply has_ofL; simp only [bxL]; omega)) only [↓bxD, bxP, bxQ, bxQ2, Nat.reduceBEq, reduceCtorEq, Nat.reduceAdd, Nat.reduceSub, Nat.reduceMul, Nat.reduceLeDiff, Nat.reduceLT, bxR, hq, h16, h17, h18, hr1, hr2, hG, hbox, hbox2, h9, hb, numE]
        refine condP_split (fun _ => ?_) (fun hc => (hc e0').elim)
        simp (maxSteps := 4000000) (disch := first | omega | assumption | (simp only [bxS, bxV, stOk, Nat.reduceBEq, Nat.reduceEqDiff, Nat.reduceAdd]; done) | (simp only [bxU]; omega) | ((try apply has_setN); apply has_ofL; simp only [bxL]; omega)) only [↓bxD, bxP, bxQ, bxQ2, Nat.reduceBEq, reduceCtorEq, Nat.reduceAdd, Nat.reduceSub, Nat.reduceMul, Nat.reduceLeDiff, Nat.reduceLT, bxR, hq, h16, h17, h18, hr1, hr2, hG, hbox, hbox2, h9]
        have e : formP g = ((i : Int), e) := by unfold formP; rw [hh, hp, hdrop]
        unfold FormPost
        rw [e]
        exact ⟨rfl, hxx.trans hx3⟩
      | none =>
        rw [hb] at hdrop
        simp (maxSteps := 4000000) (disch := first | omega | assumption | (simp only [bxS, bxV, stOk, Nat.reduceBEq, Nat.reduceEqDiff, Nat.reduceAdd]; done) | (simp only [bxU]; omega) | ((try apply has_setN); apply has_ofL; simp only [bxL]; omega)) only [↓bxD, bxP, bxQ, bxQ2, Nat.reduceBEq, reduceCtorEq, Nat.reduceAdd, Nat.reduceSub, Nat.reduceMul, Nat.reduceLeDiff, Nat.reduceLT, bxR, hq, h16, h17, h18, hr1, hr2, hG, hbox, hbox2, h9, hb, numE]
        refine condP_split (fun hc => (hc rfl).elim) (fun _ => ?_)
        simp (maxSteps := 4000000) (disch := first | omega | assumption | (simp only [bxS, bxV, stOk, Nat.reduceBEq, Nat.reduceEqDiff, Nat.reduceAdd]; done) | (simp only [bxU]; omega) | ((try apply has_setN); apply has_ofL; simp only [bxL]; omega)) only [↓bxD, bxP, bxQ, bxQ2, Nat.reduceBEq, reduceCtorEq, Nat.reduceAdd, Nat.reduceSub, Nat.reduceMul, Nat.reduceLeDiff, Nat.reduceLT, bxR, hq, h16, h17, h18, hr1, hr2, hG, hbox, hbox2, h9]
        show Wp fns K39_0 _ _ _
        unfold K39_0
        simp (maxSteps := 4000000) (disch := first | omega | assumption | (simp only [bxS, bxV, stOk, Nat.reduceBEq, Nat.reduceEqDiff, Nat.reduceAdd]; done) | (simp only [bxU]; omega) | ((try apply has_setN); apply has_ofL; simp only [bxL]; omega)) only [↓bxD, bxP, bxQ, bxQ2, Nat.reduceBEq, reduceCtorEq, Nat.reduceAdd, Nat.reduceSub, Nat.reduceMul, Nat.reduceLeDiff, Nat.reduceLT, bxR, hq, h16, h17, h18, hr1, hr2, hG, hbox, hbox2, h9]
        have hn3 := hx3.n
        refine ⟨i + 1, by omega, ⟨hgr.ext hx3, hxx.trans hx3, h.lo0, by omega, (hx3.old _ (by omega)).trans hbox2, by simp only [bxP, bxQ, bxQ2, reduceCtorEq, hq, h16, h17, h18, hr1, hr2, hG, hbox, hbox2, h9]⟩, by omega, rfl, hp.trans hdrop⟩
    · have hi' : i = g.rules.length := by omega
      subst hi'
      simp (maxSteps := 4000000) (disch := first | omega | assumption | (simp only [bxS, bxV, stOk, Nat.reduceBEq, Nat.reduceEqDiff, Nat.reduceAdd]; done) | (simp only [bxU]; omega) | ((try apply has_setN); apply has_ofL; simp only [bxL]; omega)) only [↓bxD, bxP, bxQ, bxQ2, Nat.reduceBEq, reduceCtorEq, Nat.reduceAdd, Nat.reduceSub, Nat.reduceMul, Nat.reduceLeDiff, Nat.reduceLT, bxR, hq, h16, h17, h18, hr1, hr2]
      show Wp fns K39_7 _ _ _
      exact pform_forb ⟨h.gr, h.ext, h.lo0, h.lt, h.box, by simp only [bxP, bxQ, bxQ2, reduceCtorEq, hq, h16, h17, h18, hr1, hr2]⟩ hh (by rw [hp, List.drop_length]; rfl)
  · exact ⟨⟨h.gr, h.ext, h.lo0, h.lt, h.box, by simp only [bxP, bxQ, bxQ2, reduceCtorEq, hq, hbox, hr1, hr2]⟩, Nat.zero_le _, by simp only [bxP, bxQ, bxQ2, reduceCtorEq, hq, hbox, hr1, hr2], by simp only [bxP, bxQ, bxQ2, reduceCtorEq, hq, hbox, hr1, hr2], by simp only [bxP, bxQ, bxQ2, reduceCtorEq, hq, hbox, hr1, hr2] <;> rfl, rfl⟩
theorem prog_form {M : MH} {g : Gr} {vr vf vc vk : MV} {es : List (List MV)} (h : GrAt M vr vf vc vk es g) (hlo : M.lo ≤ M.n) : Cp fns 39 [.ag (gcs g vr vf vc vk)] M fun m M' => m = .tp [.i .i64 (formP g).1, .i .i64 (formP g).2] ∧ Ext M M' := by
  have hG : ∀ l, l = gcs g vr vf vc vk → Ev.getN (ofL l 0) 7 0 = some (gcs g vr vf vc vk) := fun l e => by subst e; exact (at_ofL (gcs g vr vf vc vk)).getN
  have hG := hG [MV.i IntKind.i64 g.names, MV.i IntKind.i64 g.kinds, MV.i IntKind.i64 g.start, vr, vf, vc, vk] rfl
  refine Cp_call (fn := F39) (by kernel_rfl) (Nat.le_of_ble_eq_true rfl) ?_
  show Wp fns B39 (T.set q0 (some (.ag (gcs g vr vf vc vk))) T.lf) M _
  unfold B39
  rw [show gcs g vr vf vc vk = [MV.i IntKind.i64 g.names, MV.i IntKind.i64 g.kinds, MV.i IntKind.i64 g.start, vr, vf, vc, vk] from rfl]
  simp (maxSteps := 4000000) (disch := first | omega | assumption | (simp only [bxS, bxV, stOk, Nat.reduceBEq, Nat.reduceEqDiff, Nat.reduceAdd]; done) | (simp only [bxU]; omega) | ((try apply has_setN); apply has_ofL; simp only [bxL]; omega)) only [↓bxD, bxP, bxQ, bxQ2, Nat.reduceBEq, reduceCtorEq, Nat.reduceAdd, Nat.reduceSub, Nat.reduceMul, Nat.reduceLeDiff, Nat.reduceLT, bxR]
  generalize hM1 : M.push _ = M1
  have hb0 : M1.get M.n = some (.cs false 7 (ofL [MV.i IntKind.i64 g.names, MV.i IntKind.i64 g.kinds, MV.i IntKind.i64 g.start, vr, vf, vc, vk] 0)) := by rw [← hM1]; exact push_new _
  have hx1 : Ext M M1 := by rw [← hM1]; exact .push M _
  have hn1 : M1.n = M.n + 1 := by rw [← hM1]; rfl
  have hl1 := hx1.lo
  clear hM1
  have h1 := h.ext hx1
  simp (maxSteps := 4000000) (disch := first | omega | assumption | (simp only [bxS, bxV, stOk, Nat.reduceBEq, Nat.reduceEqDiff, Nat.reduceAdd]; done) | (simp only [bxU]; omega) | ((try apply has_setN); apply has_ofL; simp only [bxL]; omega)) only [↓bxD, bxP, bxQ, bxQ2, Nat.reduceBEq, reduceCtorEq, Nat.reduceAdd, Nat.reduceSub, Nat.reduceMul, Nat.reduceLeDiff, Nat.reduceLT, bxR, hb0, hG]
  refine bindP_call (wholeError_any h1 (by omega)) ?_
  rintro m M2 ⟨rfl, hx2⟩
  simp (maxSteps := 4000000) (disch := first | omega | assumption | (simp only [bxS, bxV, stOk, Nat.reduceBEq, Nat.reduceEqDiff, Nat.reduceAdd]; done) | (simp only [bxU]; omega) | ((try apply has_setN); apply has_ofL; simp only [bxL]; omega)) only [↓bxD, bxP, bxQ, bxQ2, Nat.reduceBEq, reduceCtorEq, Nat.reduceAdd, Nat.reduceSub, Nat.reduceMul, Nat.reduceLeDiff, Nat.reduceLT, bxR, hb0, hG]
  have hn2 := hx2.n
  have hb2 := (hx2.old _ (by omega)).trans hb0
  cases hb : headE g with
  | some e =>
    have e0' : e ≠ 0 := by
      unfold headE at hb
      split at hb
      · cases hb; decide
      · split at hb
        · cases hb; decide
        · split at hb
          · cases hb; decide
          · cases hb
    simp (maxSteps := 4000000) (disch := first | omega | assumption | (simp only [bxS, bxV, stOk, Nat.reduceBEq, Nat.reduceEqDiff, Nat.reduceAdd]; done) | (simp only [bxU]; omega) | ((try apply has_setN); apply has_ofL; simp only [bxL]; omega)) only [↓bxD, bxP, bxQ, bxQ2, Nat.reduceBEq, reduceCtorEq, Nat.reduceAdd, Nat.reduceSub, Nat.reduceMul, Nat.reduceLeDiff, Nat.reduceLT, bxR, hb0, hG, hb, numE]
    refine condP_split (fun _ => ?_) (fun hc => (hc e0').elim)
    simp (maxSteps := 4000000) (disch := first | omega | assumption | (simp only [bxS, bxV, stOk, Nat.reduceBEq, Nat.reduceEqDiff, Nat.reduceAdd]; done) | (simp only [bxU]; omega) | ((try apply has_setN); apply has_ofL; simp only [bxL]; omega)) only [↓bxD, bxP, bxQ, bxQ2, Nat.reduceBEq, reduceCtorEq, Nat.reduceAdd, Nat.reduceSub, Nat.reduceMul, Nat.reduceLeDiff, Nat.reduceLT, bxR, hb0, hG]
    have e : formP g = (-1, e) := by unfold formP; rw [hb]
    rw [e]
    exact ⟨rfl, hx1.trans hx2⟩
  | none =>
    simp (maxSteps := 4000000) (disch := first | omega | assumption | (simp only [bxS, bxV, stOk, Nat.reduceBEq, Nat.reduceEqDiff, Nat.reduceAdd]; done) | (simp only [bxU]; omega) | ((try apply has_setN); apply has_ofL; simp only [bxL]; omega)) only [↓bxD, bxP, bxQ, bxQ2, Nat.reduceBEq, reduceCtorEq, Nat.reduceAdd, Nat.reduceSub, Nat.reduceMul, Nat.reduceLeDiff, Nat.reduceLT, bxR, hb0, hG, hb, numE]
    refine condP_split (fun hc => (hc rfl).elim) (fun _ => ?_)
    simp (maxSteps := 4000000) (disch := first | omega | assumption | (simp only [bxS, bxV, stOk, Nat.reduceBEq, Nat.reduceEqDiff, Nat.reduceAdd]; done) | (simp only [bxU]; omega) | ((try apply has_setN); apply has_ofL; simp only [bxL]; omega)) only [↓bxD, bxP, bxQ, bxQ2, Nat.reduceBEq, reduceCtorEq, Nat.reduceAdd, Nat.reduceSub, Nat.reduceMul, Nat.reduceLeDiff, Nat.reduceLT, bxR, hb0, hG]
    show Wp fns K39_8 _ _ _
    exact pform_rules ⟨h1.ext hx2, hx1.trans hx2, hlo, by omega, hb2, by simp only [bxP, bxQ, bxQ2, reduceCtorEq, hb0, hG]⟩ hb
end Go.Proofs.YtdggbpfpjkokpaaDoor.K
set_option linter.unusedSimpArgs false
set_option linter.unusedVariables false
namespace Go.Proofs.YtdggbpfpjkokpaaDoor.K
open Go Ev
set_option maxRecDepth 100000
set_option maxHeartbeats 4000000

theorem isForm_any {M : MH} {g : Gr} {vr vf vc vk : MV} {es : List (List MV)} (h : GrAt M vr vf vc vk es g) (hlo : M.lo ≤ M.n) : Cp fns 25 [.ag (gcs g vr vf vc vk)] M fun m M' => m = .b (decide ((formP g).2 = 0)) ∧ Ext M M' := by
  have hG : ∀ l, l = gcs g vr vf vc vk → Ev.getN (ofL l 0) 7 0 = some (gcs g vr vf vc vk) := fun l e => by subst e; exact (at_ofL (gcs g vr vf vc vk)).getN
  have hG := hG [MV.i IntKind.i64 g.names, MV.i IntKind.i64 g.kinds, MV.i IntKind.i64 g.start, vr, vf, vc, vk] rfl
  refine Cp_call (fn := F25) (by kernel_rfl) (Nat.le_of_ble_eq_true rfl) ?_
  show Wp fns B25 (T.set q0 (some (.ag (gcs g vr vf vc vk))) T.lf) M _
  unfold B25
  rw [show gcs g vr vf vc vk = [MV.i IntKind.i64 g.names, MV.i IntKind.i64 g.kinds, MV.i IntKind.i64 g.start, vr, vf, vc, vk] from rfl]
  simp (maxSteps := 4000000) (disch := first | omega | assumption | (simp only [bxS, bxV, stOk, Nat.reduceBEq, Nat.reduceEqDiff, Nat.reduceAdd]; done) | (simp only [bxU]; omega) | ((try apply has_setN); apply has_ofL; simp only [bxL]; omega)) only [↓bxD, bxP, bxQ, bxQ2, Nat.reduceBEq, reduceCtorEq, Nat.reduceAdd, Nat.reduceSub, Nat.reduceMul, Nat.reduceLeDiff, Nat.reduceLT, bxR, hG]
  refine bindP_call (prog_form (h.ext (.push M _)) (by show M.lo ≤ M.n + 1; omega)) ?_
  rintro m M2 ⟨rfl, hx⟩
  simp (maxSteps := 4000000) (disch := first | omega | assumption | (simp only [bxS, bxV, stOk, Nat.reduceBEq, Nat.reduceEqDiff, Nat.reduceAdd]; done) | (simp only [bxU]; omega) | ((try apply has_setN); apply has_ofL; simp only [bxL]; omega)) only [↓bxD, bxP, bxQ, bxQ2, Nat.reduceBEq, reduceCtorEq, Nat.reduceAdd, Nat.reduceSub, Nat.reduceMul, Nat.reduceLeDiff, Nat.reduceLT, bxR, hG]
  exact (Ext.push M _).trans hx
theorem lists_listP {K : Nat} {F : List Nat} (hK : K ≤ 64) (h : ∀ k ∈ F, k < 2 ^ K) : F.map bitsU = (FM K F).map listP := by
  unfold FM
  rw [List.map_map]
  exact List.map_congr_left fun k hk => bitsU_listP hK (h k hk)
theorem pnull_any {M : MH} {g : Gr} {vr vf vc vk : MV} {es : List (List MV)} (h : GrAt M vr vf vc vk es g) (hlo : M.lo ≤ M.n) : Cp fns 12 [.ag (gcs g vr vf vc vk)] M (NulPost g M) := by
  have hG : ∀ l, l = gcs g vr vf vc vk → Ev.getN (ofL l 0) 7 0 = some (gcs g vr vf vc vk) := fun l e => by subst e; exact (at_ofL (gcs g vr vf vc vk)).getN
  have hG := hG [MV.i IntKind.i64 g.names, MV.i IntKind.i64 g.kinds, MV.i IntKind.i64 g.start, vr, vf, vc, vk] rfl
  refine Cp_call (fn := F12) (by kernel_rfl) (Nat.le_of_ble_eq_true rfl) ?_
  show Wp fns B12 (T.set q0 (some (.ag (gcs g vr vf vc vk))) T.lf) M _
  unfold B12
  rw [show gcs g vr vf vc vk = [MV.i IntKind.i64 g.names, MV.i IntKind.i64 g.kinds, MV.i IntKind.i64 g.start, vr, vf, vc, vk] from rfl]
  generalize hM1 : M.push (.cs false 7 (ofL [MV.i IntKind.i64 g.names, MV.i IntKind.i64 g.kinds, MV.i IntKind.i64 g.start, vr, vf, vc, vk] 0)) = M1
  have g0 : M1.get M.n = some (.cs false 7 (ofL [MV.i IntKind.i64 g.names, MV.i IntKind.i64 g.kinds, MV.i IntKind.i64 g.start, vr, vf, vc, vk] 0)) := by rw [← hM1]; exact push_new _
  have x1 : Ext M M1 := by rw [← hM1]; exact .push M _
  have n1 : M1.n = M.n + 1 := by rw [← hM1]; rfl
  have l1 := x1.lo
  have fld0 : ∀ a b : MV, fld1V 0 (.ag [a, b]) = some a := fun _ _ => rfl
  have fld1 : ∀ a b : MV, fld1V 1 (.ag [a, b]) = some b := fun _ _ => rfl
  simp (maxSteps := 4000000) (disch := first | omega | assumption | (simp only [bxS, bxV, stOk, Nat.reduceBEq, Nat.reduceEqDiff, Nat.reduceAdd]; done) | (simp only [bxU]; omega) | ((try apply has_setN); apply has_ofL; simp only [bxL]; omega)) only [↓bxD, bxP, bxQ, bxQ2, Nat.reduceBEq, reduceCtorEq, Nat.reduceAdd, Nat.reduceSub, Nat.reduceMul, Nat.reduceLeDiff, Nat.reduceLT, bxR, hG, hM1, g0]
  refine bindP_call (isForm_any (h.ext x1) (by omega)) ?_
  rintro m M2 ⟨rfl, x2⟩
  have n2 := x2.n
  have l2 := x2.lo
  have g2 := (x2.old _ (by omega)).trans g0
  by_cases hz : (formP g).2 = 0
  · have dz : decide ((formP g).2 = 0) = true := decide_eq_true hz
    have hok := form_ok hz
    have hk40 := hok.k2
    have hk0 := hok.k1
    have hn40 := hok.n2
    simp (maxSteps := 4000000) (disch := first | omega | assumption | (simp only [bxS, bxV, stOk, Nat.reduceBEq, Nat.reduceEqDiff, Nat.reduceAdd]; done) | (simp only [bxU]; omega) | ((try apply has_setN); apply has_ofL; simp only [bxL]; omega)) only [↓bxD, bxP, bxQ, bxQ2, Nat.reduceBEq, reduceCtorEq, Nat.reduceAdd, Nat.reduceSub, Nat.reduceMul, Nat.reduceLeDiff, Nat.reduceLT, bxR, hG, g2, dz, fld0, fld1]
    show Wp fns K12_0 _ _ _
    unfold K12_0
    simp (maxSteps := 4000000) (disch := first | omega | assumption | (simp only [bxS, bxV, stOk, Nat.reduceBEq, Nat.reduceEqDiff, Nat.reduceAdd]; done) | (simp only [bxU]; omega) | ((try apply has_setN); apply has_ofL; simp only [bxL]; omega)) only [↓bxD, bxP, bxQ, bxQ2, Nat.reduceBEq, reduceCtorEq, Nat.reduceAdd, Nat.reduceSub, Nat.reduceMul, Nat.reduceLeDiff, Nat.reduceLT, bxR, hG, g2, dz, fld0, fld1]
    refine bindP_call (beginsOf_any ((h.ext x1).ext x2) (by omega) hok) ?_
    rintro m M3 ⟨x3, na, nf, N, F, rfl, t, h1, h2, h3, h4, h5, h6⟩
    unfold tw
    simp (maxSteps := 4000000) (disch := first | omega | assumption | (simp only [bxS, bxV, stOk, Nat.reduceBEq, Nat.reduceEqDiff, Nat.reduceAdd]; done) | (simp only [bxU]; omega) | ((try apply has_setN); apply has_ofL; simp only [bxL]; omega)) only [↓bxD, bxP, bxQ, bxQ2, Nat.reduceBEq, reduceCtorEq, Nat.reduceAdd, Nat.reduceSub, Nat.reduceMul, Nat.reduceLeDiff, Nat.reduceLT, bxR, hG, g2, dz, fld0, fld1]
    have hr := t.a.row t.lna
    rw [t.len] at hr
    exact ⟨(x1.trans x2).trans x3, .inr ⟨hz, N, h3, hr⟩⟩
  · have dz : decide ((formP g).2 = 0) = false := decide_eq_false hz
    simp (maxSteps := 4000000) (disch := first | omega | assumption | (simp only [bxS, bxV, stOk, Nat.reduceBEq, Nat.reduceEqDiff, Nat.reduceAdd]; done) | (simp only [bxU]; omega) | ((try apply has_setN); apply has_ofL; simp only [bxL]; omega)) only [↓bxD, bxP, bxQ, bxQ2, Nat.reduceBEq, reduceCtorEq, Nat.reduceAdd, Nat.reduceSub, Nat.reduceMul, Nat.reduceLeDiff, Nat.reduceLT, bxR, hG, g2, dz]
    exact ⟨x1.trans x2, .inl ⟨hz, rfl⟩⟩
theorem pfirst_any {M : MH} {g : Gr} {vr vf vc vk : MV} {es : List (List MV)} (h : GrAt M vr vf vc vk es g) (hlo : M.lo ≤ M.n) : Cp fns 15 [.ag (gcs g vr vf vc vk)] M (FstPost g M) := by
  have hG : ∀ l, l = gcs g vr vf vc vk → Ev.getN (ofL l 0) 7 0 = some (gcs g vr vf vc vk) := fun l e => by subst e; exact (at_ofL (gcs g vr vf vc vk)).getN
  have hG := hG [MV.i IntKind.i64 g.names, MV.i IntKind.i64 g.kinds, MV.i IntKind.i64 g.start, vr, vf, vc, vk] rfl
  refine Cp_call (fn := F15) (by kernel_rfl) (Nat.le_of_ble_eq_true rfl) ?_
  show Wp fns B15 (T.set q0 (some (.ag (gcs g vr vf vc vk))) T.lf) M _
  unfold B15
  rw [show gcs g vr vf vc vk = [MV.i IntKind.i64 g.names, MV.i IntKind.i64 g.kinds, MV.i IntKind.i64 g.start, vr, vf, vc, vk] from rfl]
  generalize hM1 : M.push (.cs false 7 (ofL [MV.i IntKind.i64 g.names, MV.i IntKind.i64 g.kinds, MV.i IntKind.i64 g.start, vr, vf, vc, vk] 0)) = M1
  have g0 : M1.get M.n = some (.cs false 7 (ofL [MV.i IntKind.i64 g.names, MV.i IntKind.i64 g.kinds, MV.i IntKind.i64 g.start, vr, vf, vc, vk] 0)) := by rw [← hM1]; exact push_new _
  have x1 : Ext M M1 := by rw [← hM1]; exact .push M _
  have n1 : M1.n = M.n + 1 := by rw [← hM1]; rfl
  have l1 := x1.lo
  have fld0 : ∀ a b : MV, fld1V 0 (.ag [a, b]) = some a := fun _ _ => rfl
  have fld1 : ∀ a b : MV, fld1V 1 (.ag [a, b]) = some b := fun _ _ => rfl
  simp (maxSteps := 4000000) (disch := first | omega | assumption | (simp only [bxS, bxV, stOk, Nat.reduceBEq, Nat.reduceEqDiff, Nat.reduceAdd]; done) | (simp only [bxU]; omega) | ((try apply has_setN); apply has_ofL; simp only [bxL]; omega)) only [↓bxD, bxP, bxQ, bxQ2, Nat.reduceBEq, reduceCtorEq, Nat.reduceAdd, Nat.reduceSub, Nat.reduceMul, Nat.reduceLeDiff, Nat.reduceLT, bxR, hG, hM1, g0]
  refine bindP_call (isForm_any (h.ext x1) (by omega)) ?_
  rintro m M2 ⟨rfl, x2⟩
  have n2 := x2.n
  have l2 := x2.lo
  have g2 := (x2.old _ (by omega)).trans g0
  by_cases hz : (formP g).2 = 0
  · have dz : decide ((formP g).2 = 0) = true := decide_eq_true hz
    have hok := form_ok hz
    have hk40 := hok.k2
    have hk0 := hok.k1
    have hn40 := hok.n2
    simp (maxSteps := 4000000) (disch := first | omega | assumption | (simp only [bxS, bxV, stOk, Nat.reduceBEq, Nat.reduceEqDiff, Nat.reduceAdd]; done) | (simp only [bxU]; omega) | ((try apply has_setN); apply has_ofL; simp only [bxL]; omega)) only [↓bxD, bxP, bxQ, bxQ2, Nat.reduceBEq, reduceCtorEq, Nat.reduceAdd, Nat.reduceSub, Nat.reduceMul, Nat.reduceLeDiff, Nat.reduceLT, bxR, hG, g2, dz, fld0, fld1]
    show Wp fns K15_0 _ _ _
    unfold K15_0
    simp (maxSteps := 4000000) (disch := first | omega | assumption | (simp only [bxS, bxV, stOk, Nat.reduceBEq, Nat.reduceEqDiff, Nat.reduceAdd]; done) | (simp only [bxU]; omega) | ((try apply has_setN); apply has_ofL; simp only [bxL]; omega)) only [↓bxD, bxP, bxQ, bxQ2, Nat.reduceBEq, reduceCtorEq, Nat.reduceAdd, Nat.reduceSub, Nat.reduceMul, Nat.reduceLeDiff, Nat.reduceLT, bxR, hG, g2, dz, fld0, fld1]
    refine bindP_call (beginsOf_any ((h.ext x1).ext x2) (by omega) hok) ?_
    rintro m M3 ⟨x3, na, nf, N, F, rfl, t, h1, h2, h3, h4, h5, h6⟩
    have l3 := x3.lo
    have n3 := x3.n
    unfold tw
    simp (maxSteps := 4000000) (disch := first | omega | assumption | (simp only [bxS, bxV, stOk, Nat.reduceBEq, Nat.reduceEqDiff, Nat.reduceAdd]; done) | (simp only [bxU]; omega) | ((try apply has_setN); apply has_ofL; simp only [bxL]; omega)) only [↓bxD, bxP, bxQ, bxQ2, Nat.reduceBEq, reduceCtorEq, Nat.reduceAdd, Nat.reduceSub, Nat.reduceMul, Nat.reduceLeDiff, Nat.reduceLT, bxR, hG, g2, dz, fld0, fld1]
    refine bindP_call (lists_any (((h.ext x1).ext x2).ext x3).tb (t.f.row t.lnf) t.lt (by omega) (by omega)) ?_
    rintro m M4 ⟨x4, rs, hL⟩
    simp (maxSteps := 4000000) (disch := first | omega | assumption | (simp only [bxS, bxV, stOk, Nat.reduceBEq, Nat.reduceEqDiff, Nat.reduceAdd]; done) | (simp only [bxU]; omega) | ((try apply has_setN); apply has_ofL; simp only [bxL]; omega)) only [↓bxD, bxP, bxQ, bxQ2, Nat.reduceBEq, reduceCtorEq, Nat.reduceAdd, Nat.reduceSub, Nat.reduceMul, Nat.reduceLeDiff, Nat.reduceLT, bxR, hG, g2, dz, fld0, fld1]
    rw [lists_listP (K := g.kinds.toNat + 1) (by omega) h5] at hL
    exact ⟨((x1.trans x2).trans x3).trans x4, .inr ⟨hz, rs, _, h6, hL⟩⟩
  · have dz : decide ((formP g).2 = 0) = false := decide_eq_false hz
    simp (maxSteps := 4000000) (disch := first | omega | assumption | (simp only [bxS, bxV, stOk, Nat.reduceBEq, Nat.reduceEqDiff, Nat.reduceAdd]; done) | (simp only [bxU]; omega) | ((try apply has_setN); apply has_ofL; simp only [bxL]; omega)) only [↓bxD, bxP, bxQ, bxQ2, Nat.reduceBEq, reduceCtorEq, Nat.reduceAdd, Nat.reduceSub, Nat.reduceMul, Nat.reduceLeDiff, Nat.reduceLT, bxR, hG, g2, dz]
    exact ⟨x1.trans x2, .inl ⟨hz, rfl⟩⟩
theorem pfollow_any {M : MH} {g : Gr} {vr vf vc vk : MV} {es : List (List MV)} (h : GrAt M vr vf vc vk es g) (hlo : M.lo ≤ M.n) : Cp fns 17 [.ag (gcs g vr vf vc vk)] M (FlwPost g M) := by
  have hG : ∀ l, l = gcs g vr vf vc vk → Ev.getN (ofL l 0) 7 0 = some (gcs g vr vf vc vk) := fun l e => by subst e; exact (at_ofL (gcs g vr vf vc vk)).getN
  have hG := hG [MV.i IntKind.i64 g.names, MV.i IntKind.i64 g.kinds, MV.i IntKind.i64 g.start, vr, vf, vc, vk] rfl
  refine Cp_call (fn := F17) (by kernel_rfl) (Nat.le_of_ble_eq_true rfl) ?_
  show Wp fns B17 (T.set q0 (some (.ag (gcs g vr vf vc vk))) T.lf) M _
  unfold B17
  rw [show gcs g vr vf vc vk = [MV.i IntKind.i64 g.names, MV.i IntKind.i64 g.kinds, MV.i IntKind.i64 g.start, vr, vf, vc, vk] from rfl]
  generalize hM1 : M.push (.cs false 7 (ofL [MV.i IntKind.i64 g.names, MV.i IntKind.i64 g.kinds, MV.i IntKind.i64 g.start, vr, vf, vc, vk] 0)) = M1
  have g0 : M1.get M.n = some (.cs false 7 (ofL [MV.i IntKind.i64 g.names, MV.i IntKind.i64 g.kinds, MV.i IntKind.i64 g.start, vr, vf, vc, vk] 0)) := by rw [← hM1]; exact push_new _
  have x1 : Ext M M1 := by rw [← hM1]; exact .push M _
  have n1 : M1.n = M.n + 1 := by rw [← hM1]; rfl
  have l1 := x1.lo
  have fld0 : ∀ a b : MV, fld1V 0 (.ag [a, b]) = some a := fun _ _ => rfl
  have fld1 : ∀ a b : MV, fld1V 1 (.ag [a, b]) = some b := fun _ _ => rfl
  simp (maxSteps := 4000000) (disch := first | omega | assumption | (simp only [bxS, bxV, stOk, Nat.reduceBEq, Nat.reduceEqDiff, Nat.reduceAdd]; done) | (simp only [bxU]; omega) | ((try apply has_setN); apply has_ofL; simp only [bxL]; omega)) only [↓bxD, bxP, bxQ, bxQ2, Nat.reduceBEq, reduceCtorEq, Nat.reduceAdd, Nat.reduceSub, Nat.reduceMul, Nat.reduceLeDiff, Nat.reduceLT, bxR, hG, hM1, g0]
  refine bindP_call (isForm_any (h.ext x1) (by omega)) ?_
  rintro m M2 ⟨rfl, x2⟩
  have n2 := x2.n
  have l2 := x2.lo
  have g2 := (x2.old _ (by omega)).trans g0
  by_cases hz : (formP g).2 = 0
  · have dz : decide ((formP g).2 = 0) = true := decide_eq_true hz
    have hok := form_ok hz
    have hk40 := hok.k2
    have hk0 := hok.k1
    have hn40 := hok.n2
    simp (maxSteps := 4000000) (disch := first | omega | assumption | (simp only [bxS, bxV, stOk, Nat.reduceBEq, Nat.reduceEqDiff, Nat.reduceAdd]; done) | (simp only [bxU]; omega) | ((try apply has_setN); apply has_ofL; simp only [bxL]; omega)) only [↓bxD, bxP, bxQ, bxQ2, Nat.reduceBEq, reduceCtorEq, Nat.reduceAdd, Nat.reduceSub, Nat.reduceMul, Nat.reduceLeDiff, Nat.reduceLT, bxR, hG, g2, dz, fld0, fld1]
    show Wp fns K17_0 _ _ _
    unfold K17_0
    simp (maxSteps := 4000000) (disch := first | omega | assumption | (simp only [bxS, bxV, stOk, Nat.reduceBEq, Nat.reduceEqDiff, Nat.reduceAdd]; done) | (simp only [bxU]; omega) | ((try apply has_setN); apply has_ofL; simp only [bxL]; omega)) only [↓bxD, bxP, bxQ, bxQ2, Nat.reduceBEq, reduceCtorEq, Nat.reduceAdd, Nat.reduceSub, Nat.reduceMul, Nat.reduceLeDiff, Nat.reduceLT, bxR, hG, g2, dz, fld0, fld1]
    refine bindP_call (behindOf_any ((h.ext x1).ext x2) (by omega) hok) ?_
    rintro m M3 ⟨x3, na, nf, R, W, rfl, t, h4, h5, h6⟩
    have l3 := x3.lo
    have n3 := x3.n
    unfold tw
    simp (maxSteps := 4000000) (disch := first | omega | assumption | (simp only [bxS, bxV, stOk, Nat.reduceBEq, Nat.reduceEqDiff, Nat.reduceAdd]; done) | (simp only [bxU]; omega) | ((try apply has_setN); apply has_ofL; simp only [bxL]; omega)) only [↓bxD, bxP, bxQ, bxQ2, Nat.reduceBEq, reduceCtorEq, Nat.reduceAdd, Nat.reduceSub, Nat.reduceMul, Nat.reduceLeDiff, Nat.reduceLT, bxR, hG, g2, dz, fld0, fld1]
    refine bindP_call (lists_any (((h.ext x1).ext x2).ext x3).tb (t.f.row t.lnf) t.lt (by omega) (by omega)) ?_
    rintro m M4 ⟨x4, rs, hL⟩
    simp (maxSteps := 4000000) (disch := first | omega | assumption | (simp only [bxS, bxV, stOk, Nat.reduceBEq, Nat.reduceEqDiff, Nat.reduceAdd]; done) | (simp only [bxU]; omega) | ((try apply has_setN); apply has_ofL; simp only [bxL]; omega)) only [↓bxD, bxP, bxQ, bxQ2, Nat.reduceBEq, reduceCtorEq, Nat.reduceAdd, Nat.reduceSub, Nat.reduceMul, Nat.reduceLeDiff, Nat.reduceLT, bxR, hG, g2, dz, fld0, fld1]
    rw [lists_listP (K := g.kinds.toNat + 1) (by omega) h5] at hL
    exact ⟨((x1.trans x2).trans x3).trans x4, .inr ⟨hz, rs, _, h6, hL⟩⟩
  · have dz : decide ((formP g).2 = 0) = false := decide_eq_false hz
    simp (maxSteps := 4000000) (disch := first | omega | assumption | (simp only [bxS, bxV, stOk, Nat.reduceBEq, Nat.reduceEqDiff, Nat.reduceAdd]; done) | (simp only [bxU]; omega) | ((try apply has_setN); apply has_ofL; simp only [bxL]; omega)) only [↓bxD, bxP, bxQ, bxQ2, Nat.reduceBEq, reduceCtorEq, Nat.reduceAdd, Nat.reduceSub, Nat.reduceMul, Nat.reduceLeDiff, Nat.reduceLT, bxR, hG, g2, dz]
    exact ⟨x1.trans x2, .inl ⟨hz, rfl⟩⟩
theorem noSym_any {M : MH} {g : Gr} {vr vf vc vk : MV} {s : Int} {b : Nat} (hlo : M.lo ≤ M.n) (hs : Wf64 s) (hb : M.get b = some (.cs false 7 (ofL (gcs g vr vf vc vk) 0))) : Cp fns 23 [.i .i64 s, .p b 0] M fun m M' => m = .b (!(symB g s)) ∧ Ext M M' := by
  refine Cp_call (fn := F23) (by kernel_rfl) (Nat.le_of_ble_eq_true rfl) ?_
  show Wp fns B23 (T.set q1 (some (.p b 0)) (T.set q0 (some (.i .i64 s)) T.lf)) M _
  unfold B23
  have hG : Ev.getN (ofL (gcs g vr vf vc vk) 0) 7 0 = some (gcs g vr vf vc vk) := (at_ofL (gcs g vr vf vc vk)).getN
  simp (maxSteps := 4000000) (disch := first | omega | assumption | (simp only [bxS, bxV, stOk, Nat.reduceBEq, Nat.reduceEqDiff, Nat.reduceAdd]; done) | (simp only [bxU]; omega) | ((try apply has_setN); apply has_ofL; simp only [bxL]; omega)) only [↓bxD, bxP, bxQ, bxQ2, Nat.reduceBEq, reduceCtorEq, Nat.reduceAdd, Nat.reduceSub, Nat.reduceMul, Nat.reduceLeDiff, Nat.reduceLT, bxR, hb, hG]
  refine bindP_call (isSymbol_any hlo hs) ?_
  rintro m M2 ⟨rfl, hx⟩
  simp (maxSteps := 4000000) (disch := first | omega | assumption | (simp only [bxS, bxV, stOk, Nat.reduceBEq, Nat.reduceEqDiff, Nat.reduceAdd]; done) | (simp only [bxU]; omega) | ((try apply has_setN); apply has_ofL; simp only [bxL]; omega)) only [↓bxD, bxP, bxQ, bxQ2, Nat.reduceBEq, reduceCtorEq, Nat.reduceAdd, Nat.reduceSub, Nat.reduceMul, Nat.reduceLeDiff, Nat.reduceLT, bxR, hb, hG]
  exact hx
theorem begVec_of {g : Gr} {N : List Bool} {F : List Nat} (hok : GrOk g) (h : BOk g N F) {l : List Int} (hl : l.all (symB g) = true) : BegVec N (FM (g.kinds.toNat + 1) F) l g.kinds.toNat (rowB (g.kinds.toNat + 1) (rowK N F l)) ∧ rowK N F l < 2 ^ (g.kinds.toNat + 1) := by
  have hsy := List.all_eq_true.1 hl
  have hk0 := hok.k1
  have hlt : rowK N F l < 2 ^ (g.kinds.toNat + 1) := rowK_lt h.lt fun s hs hneg => by have := symB_neg (hsy s hs) hneg; omega
  refine ⟨⟨by unfold rowB; rw [List.length_map, List.length_range], fun t ht => ?_, ?_⟩, hlt⟩
  · rw [bAt_rowB' hlt, begV_FM h.lt]
  · rw [bAt_rowB' hlt]
    cases e : (rowK N F l).testBit g.kinds.toNat with
    | false => rfl
    | true =>
      obtain ⟨p, s, q, rfl, _, ⟨h0, h1⟩ | ⟨_, h1⟩⟩ := (h.row _ _).1 e
      · have := symB_neg (hsy s (by simp)) h0
        omega
      · have := fst_lt hok h1
        omega
theorem pfirstof_any {M : MH} {g : Gr} {vr vf vc vk vl : MV} {es : List (List MV)} {l : List Int} (h : GrAt M vr vf vc vk es g) (hI : IntRow M vl l) (hlw : ∀ z ∈ l, Wf64 z) (hll : l.length ≤ 9223372036854775807) (hlo : M.lo ≤ M.n) : Cp fns 9 [.ag (gcs g vr vf vc vk), vl] M (FofPost g l M) := by
  have hG : ∀ l, l = gcs g vr vf vc vk → Ev.getN (ofL l 0) 7 0 = some (gcs g vr vf vc vk) := fun l e => by subst e; exact (at_ofL (gcs g vr vf vc vk)).getN
  have hG := hG [MV.i IntKind.i64 g.names, MV.i IntKind.i64 g.kinds, MV.i IntKind.i64 g.start, vr, vf, vc, vk] rfl
  refine Cp_call (fn := F9) (by kernel_rfl) (Nat.le_of_ble_eq_true rfl) ?_
  show Wp fns B9 (T.set q1 (some vl) (T.set q0 (some (.ag (gcs g vr vf vc vk))) T.lf)) M _
  unfold B9
  rw [show gcs g vr vf vc vk = [MV.i IntKind.i64 g.names, MV.i IntKind.i64 g.kinds, MV.i IntKind.i64 g.start, vr, vf, vc, vk] from rfl]
  generalize hM1 : M.push (.cs false 7 (ofL [MV.i IntKind.i64 g.names, MV.i IntKind.i64 g.kinds, MV.i IntKind.i64 g.start, vr, vf, vc, vk] 0)) = M1
  have g0 : M1.get M.n = some (.cs false 7 (ofL [MV.i IntKind.i64 g.names, MV.i IntKind.i64 g.kinds, MV.i IntKind.i64 g.start, vr, vf, vc, vk] 0)) := by rw [← hM1]; exact push_new _
  have x1 : Ext M M1 := by rw [← hM1]; exact .push M _
  have n1 : M1.n = M.n + 1 := by rw [← hM1]; rfl
  have l1 := x1.lo
  have fld0 : ∀ a b : MV, fld1V 0 (.ag [a, b]) = some a := fun _ _ => rfl
  have fld1 : ∀ a b : MV, fld1V 1 (.ag [a, b]) = some b := fun _ _ => rfl
  simp (maxSteps := 4000000) (disch := first | omega | assumption | (simp only [bxS, bxV, stOk, Nat.reduceBEq, Nat.reduceEqDiff, Nat.reduceAdd]; done) | (simp only [bxU]; omega) | ((try apply has_setN); apply has_ofL; simp only [bxL]; omega)) only [↓bxD, bxP, bxQ, bxQ2, Nat.reduceBEq, reduceCtorEq, Nat.reduceAdd, Nat.reduceSub, Nat.reduceMul, Nat.reduceLeDiff, Nat.reduceLT, bxR, hG, hM1, g0]
  refine bindP_call (isForm_any (h.ext x1) (by omega)) ?_
  rintro m M2 ⟨rfl, x2⟩
  have n2 := x2.n
  have l2 := x2.lo
  have g2 := (x2.old _ (by omega)).trans g0
  by_cases hz : (formP g).2 = 0
  · have dz : decide ((formP g).2 = 0) = true := decide_eq_true hz
    have hok := form_ok hz
    have hk40 := hok.k2
    have hk0 := hok.k1
    have hn40 := hok.n2
    simp (maxSteps := 4000000) (disch := first | omega | assumption | (simp only [bxS, bxV, stOk, Nat.reduceBEq, Nat.reduceEqDiff, Nat.reduceAdd]; done) | (simp only [bxU]; omega) | ((try apply has_setN); apply has_ofL; simp only [bxL]; omega)) only [↓bxD, bxP, bxQ, bxQ2, Nat.reduceBEq, reduceCtorEq, Nat.reduceAdd, Nat.reduceSub, Nat.reduceMul, Nat.reduceLeDiff, Nat.reduceLT, bxR, hG, g2, dz, fld0, fld1]
    have hI2 := (hI.ext x1).ext x2
    refine bindP_call (contains_any (p := fun z => !(symB g z)) hI2 hll fun M' z hx hz' => ?_) ?_
    · have hn' := hx.n
      have hl' := hx.lo
      exact noSym_any (by omega) (hlw z hz') (by rw [hx.old _ (by omega)]; exact g2)
    rintro m M3 ⟨rfl, x3⟩
    have n3 := x3.n
    have l3 := x3.lo
    have g3 := (x3.old _ (by omega)).trans g2
    have hany : (l.any fun z => !(symB g z)) = !(l.all (symB g)) := by
      rw [List.not_all_eq_any_not]
    rw [hany]
    cases ha : l.all (symB g) with
    | false =>
      rw [show (!false) = true from rfl]
      simp (maxSteps := 4000000) (disch := first | omega | assumption | (simp only [bxS, bxV, stOk, Nat.reduceBEq, Nat.reduceEqDiff, Nat.reduceAdd]; done) | (simp only [bxU]; omega) | ((try apply has_setN); apply has_ofL; simp only [bxL]; omega)) only [↓bxD, bxP, bxQ, bxQ2, Nat.reduceBEq, reduceCtorEq, Nat.reduceAdd, Nat.reduceSub, Nat.reduceMul, Nat.reduceLeDiff, Nat.reduceLT, bxR, hG, g2, dz, fld0, fld1]
      exact ⟨(x1.trans x2).trans x3, .inl ⟨.inr ha, rfl⟩⟩
    | true =>
      rw [show (!true) = false from rfl]
      simp (maxSteps := 4000000) (disch := first | omega | assumption | (simp only [bxS, bxV, stOk, Nat.reduceBEq, Nat.reduceEqDiff, Nat.reduceAdd]; done) | (simp only [bxU]; omega) | ((try apply has_setN); apply has_ofL; simp only [bxL]; omega)) only [↓bxD, bxP, bxQ, bxQ2, Nat.reduceBEq, reduceCtorEq, Nat.reduceAdd, Nat.reduceSub, Nat.reduceMul, Nat.reduceLeDiff, Nat.reduceLT, bxR, hG, g2, dz, fld0, fld1]
      show Wp fns K9_0 _ _ _
      unfold K9_0
      simp (maxSteps := 4000000) (disch := first | omega | assumption | (simp only [bxS, bxV, stOk, Nat.reduceBEq, Nat.reduceEqDiff, Nat.reduceAdd]; done) | (simp only [bxU]; omega) | ((try apply has_setN); apply has_ofL; simp only [bxL]; omega)) only [↓bxD, bxP, bxQ, bxQ2, Nat.reduceBEq, reduceCtorEq, Nat.reduceAdd, Nat.reduceSub, Nat.reduceMul, Nat.reduceLeDiff, Nat.reduceLT, bxR, hG, g2, dz, fld0, fld1, g3]
      refine bindP_call (beginsOf_any (((h.ext x1).ext x2).ext x3) (by omega) hok) ?_
      rintro m M4 hbp
      obtain ⟨x4, na, nf, N, F, rfl, t, _, _, hb⟩ := hbp.ok
      have n4 := x4.n
      have l4 := x4.lo
      have hfl := hb.len
      have hsy := List.all_eq_true.1 ha
      simp (maxSteps := 4000000) (disch := first | omega | assumption | (simp only [bxS, bxV, stOk, Nat.reduceBEq, Nat.reduceEqDiff, Nat.reduceAdd]; done) | (simp only [bxU]; omega) | ((try apply has_setN); apply has_ofL; simp only [bxL]; omega)) only [↓bxD, bxP, bxQ, bxQ2, Nat.reduceBEq, reduceCtorEq, Nat.reduceAdd, Nat.reduceSub, Nat.reduceMul, Nat.reduceLeDiff, Nat.reduceLT, bxR, hG, g2, dz, fld0, fld1]
      refine bindP_call (rowU_any t ((hI2.ext x3).ext x4) (fun s hs => ?_) (by omega) hll) ?_
      · have hss := hsy s hs
        split
        · rename_i hneg
          have := symB_neg hss hneg
          omega
        · rename_i hneg
          have := symB_lt hss (by omega)
          omega
      rintro m M5 ⟨rfl, x5⟩
      have n5 := x5.n
      have l5 := x5.lo
      obtain ⟨hv, hlt⟩ := begVec_of hok hb ha
      simp (maxSteps := 4000000) (disch := first | omega | assumption | (simp only [bxS, bxV, stOk, Nat.reduceBEq, Nat.reduceEqDiff, Nat.reduceAdd]; done) | (simp only [bxU]; omega) | ((try apply has_setN); apply has_ofL; simp only [bxL]; omega)) only [↓bxD, bxP, bxQ, bxQ2, Nat.reduceBEq, reduceCtorEq, Nat.reduceAdd, Nat.reduceSub, Nat.reduceMul, Nat.reduceLeDiff, Nat.reduceLT, bxR, hG, g2, dz, fld0, fld1]
      refine bindP_call (listU_any (((((h.ext x1).ext x2).ext x3).ext x4).ext x5).tb (Nat.lt_of_lt_of_le hlt (Nat.pow_le_pow_right (by omega) (by omega))) (by omega)) ?_
      rintro m M6 ⟨x6, hr⟩
      simp (maxSteps := 4000000) (disch := first | omega | assumption | (simp only [bxS, bxV, stOk, Nat.reduceBEq, Nat.reduceEqDiff, Nat.reduceAdd]; done) | (simp only [bxU]; omega) | ((try apply has_setN); apply has_ofL; simp only [bxL]; omega)) only [↓bxD, bxP, bxQ, bxQ2, Nat.reduceBEq, reduceCtorEq, Nat.reduceAdd, Nat.reduceSub, Nat.reduceMul, Nat.reduceLeDiff, Nat.reduceLT, bxR, hG, g2, dz, fld0, fld1]
      rw [bitsU_listP (K := g.kinds.toNat + 1) (by omega) hlt] at hr
      exact ⟨((((x1.trans x2).trans x3).trans x4).trans x5).trans x6, .inr ⟨hz, ha, m, _, _, rfl, ⟨N, _, _, hb.nul, hb.fst, hv, rfl, rfl⟩, hr.row⟩⟩
  · have dz : decide ((formP g).2 = 0) = false := decide_eq_false hz
    simp (maxSteps := 4000000) (disch := first | omega | assumption | (simp only [bxS, bxV, stOk, Nat.reduceBEq, Nat.reduceEqDiff, Nat.reduceAdd]; done) | (simp only [bxU]; omega) | ((try apply has_setN); apply has_ofL; simp only [bxL]; omega)) only [↓bxD, bxP, bxQ, bxQ2, Nat.reduceBEq, reduceCtorEq, Nat.reduceAdd, Nat.reduceSub, Nat.reduceMul, Nat.reduceLeDiff, Nat.reduceLT, bxR, hG, g2, dz]
    exact ⟨x1.trans x2, .inl ⟨.inl hz, rfl⟩⟩
theorem prog_sets : SetsOk 12 15 9 17 := ⟨fun h h0 => pnull_any h h0, fun h h0 => pfirst_any h h0, fun h h1 h2 h3 h0 => pfirstof_any h h1 h2 h3 h0, fun h h0 => pfollow_any h h0⟩
end Go.Proofs.YtdggbpfpjkokpaaDoor.K
set_option linter.unusedSimpArgs false
set_option linter.unusedVariables false
set_option maxRecDepth 100000
namespace Go.Proofs.YtdggbpfpjkokpaaDoor.Ev
open Go
theorem wf_of {z : Int} (h : (Lit.int .i64 z).wf = true) : Wf64 z := by
  simp only [Lit.wf, Bool.and_eq_true, decide_eq_true_eq] at h
  exact h
theorem list_of {α : Type} {F : α → List MV} {W : α → Prop} : ∀ {es : List (List MV)}, (∀ x ∈ es, ∃ a, x = F a ∧ W a) → ∃ l : List α, es = l.map F ∧ ∀ a ∈ l, W a
  | [], _ => ⟨[], rfl, fun a ha => by cases ha⟩
  | x :: es, h => by
    obtain ⟨a, rfl, wa⟩ := h x List.mem_cons_self
    obtain ⟨l, rfl, hl⟩ := list_of fun y hy => h y (List.mem_cons_of_mem _ hy)
    exact ⟨a :: l, rfl, fun b hb => (List.mem_cons.1 hb).elim (fun e => e ▸ wa) (hl b)⟩
theorem list_of2 {α : Type} {R : List MV → α → Prop} : ∀ {es : List (List MV)}, (∀ x ∈ es, ∃ a, R x a) → ∃ l : List α, es.length = l.length ∧ (∀ (i : Nat) e a, es[i]? = some e → l[i]? = some a → R e a) ∧ ∀ a ∈ l, ∃ x, R x a
  | [], _ => ⟨[], rfl, fun i e a h => by simp at h, fun a ha => by cases ha⟩
  | x :: es, h => by
    obtain ⟨a, ra⟩ := h x List.mem_cons_self
    obtain ⟨l, hl, hr, hw⟩ := list_of2 fun y hy => h y (List.mem_cons_of_mem _ hy)
    refine ⟨a :: l, by rw [List.length_cons, List.length_cons, hl], fun i e b h1 h2 => ?_, fun b hb => (List.mem_cons.1 hb).elim (fun e => ⟨x, e ▸ ra⟩) (hw b)⟩
    cases i with
    | zero => simp only [List.getElem?_cons_zero, Option.some.injEq] at h1 h2; subst h1 h2; exact ra
    | succ i => exact hr i e b (by simpa using h1) (by simpa using h2)
variable {P : Program} {M : MH}
theorem typed_int {n : Nat} {e : TypeId} (hu : P.underlying e = some (.int .i64)) {x : List MV} (h : Typed P M n e x) : ∃ z, x = [.i .i64 z] ∧ Wf64 z := by
  cases n with
  | zero => exact h.elim
  | succ n =>
    simp only [Typed, hu] at h
    obtain ⟨z, rfl, hz⟩ := h
    exact ⟨z, rfl, wf_of hz⟩
theorem typed_ints {n : Nat} {t e : TypeId} (ht : P.underlying t = some (.slice e)) (hu : P.underlying e = some (.int .i64)) (hc : P.cellsOf e = 1) {x : List MV} (h : Typed P M n t x) : ∃ v l, x = [v] ∧ IntRow M v l ∧ (∀ z ∈ l, Wf64 z) ∧ l.length ≤ 9223372036854775807 := by
  cases n with
  | zero => exact h.elim
  | succ n =>
    simp only [Typed, ht] at h
    obtain ⟨v, es, rfl, hr, hm, hl⟩ := h
    obtain ⟨l, rfl, hw⟩ := list_of (F := fun z => [MV.i .i64 z]) (W := Wf64) fun x hx => typed_int hu (hl x hx)
    rw [hc] at hr
    rw [List.length_map] at hm
    exact ⟨v, l, rfl, hr, hw, hm⟩
end Go.Proofs.YtdggbpfpjkokpaaDoor.Ev
namespace Go.Proofs.YtdggbpfpjkokpaaDoor
open Go Ev
theorem rule_of {M : MH} {n : Nat} {x : List MV} (h : Typed Tryd.prog M n 42 x) : ∃ r : Int × List Int × Int, RuleAt M x r ∧ Wf64 r.1 ∧ (∀ z ∈ r.2.1, Wf64 z) ∧ Wf64 r.2.2 ∧ r.2.1.length ≤ 9223372036854775807 := by
  cases n with
  | zero => exact h.elim
  | succ n =>
    simp only [Typed, Tryd.underlying42] at h
    simp only [TypedFs] at h
    obtain ⟨_, _, rfl, h1, _, _, rfl, h2, _, _, rfl, h3, rfl⟩ := h
    obtain ⟨a, rfl, wa⟩ := typed_int Tryd.underlying3 h1
    obtain ⟨v, l, rfl, hr, hw, hm⟩ := typed_ints Tryd.underlying24 Tryd.underlying3 (by kernel_rfl) h2
    obtain ⟨b, rfl, wb⟩ := typed_int Tryd.underlying3 h3
    exact ⟨(a, l, b), ⟨v, rfl, hr⟩, wa, hw, wb, hm⟩
theorem trip_of {M : MH} {n : Nat} {x : List MV} (h : Typed Tryd.prog M n 67 x) : ∃ f : Int × Int × Int, x = trip f ∧ Wf64 f.1 ∧ Wf64 f.2.1 ∧ Wf64 f.2.2 := by
  cases n with
  | zero => exact h.elim
  | succ n =>
    simp only [Typed, Tryd.underlying67] at h
    simp only [TypedN] at h
    obtain ⟨_, _, rfl, h1, _, _, rfl, h2, _, _, rfl, h3, rfl⟩ := h
    obtain ⟨a, rfl, wa⟩ := typed_int Tryd.underlying3 h1
    obtain ⟨b, rfl, wb⟩ := typed_int Tryd.underlying3 h2
    obtain ⟨c, rfl, wc⟩ := typed_int Tryd.underlying3 h3
    exact ⟨(a, b, c), rfl, wa, wb, wc⟩
theorem gram_of {M : MH} {m : MV} (hx : Ext (Mtab tabZ) M) (h : ArgTyped Tryd.prog M 26 m) : ∃ g vr vf vc vk es, m = .ag (gcs g vr vf vc vk) ∧ GrAt M vr vf vc vk es g := by
  obtain ⟨n, cs, h1, h2⟩ := h
  simp only [Tryd.underlying26] at h2
  subst h2
  cases n with
  | zero => exact h1.elim
  | succ n =>
    simp only [Typed, Tryd.underlying26] at h1
    simp only [TypedFs] at h1
    obtain ⟨_, _, rfl, k1, _, _, rfl, k2, _, _, rfl, k3, _, _, rfl, k4, _, _, rfl, k5, _, _, rfl, k6, _, _, rfl, k7, rfl⟩ := h1
    obtain ⟨a, rfl, wa⟩ := typed_int Tryd.underlying3 k1
    obtain ⟨b, rfl, wb⟩ := typed_int Tryd.underlying3 k2
    obtain ⟨c, rfl, wc⟩ := typed_int Tryd.underlying3 k3
    obtain ⟨vc, lc, rfl, rc, hwc, hmc⟩ := typed_ints Tryd.underlying24 Tryd.underlying3 (by kernel_rfl) k6
    obtain ⟨vk, lk, rfl, rk, hwk, hmk⟩ := typed_ints Tryd.underlying24 Tryd.underlying3 (by kernel_rfl) k7
    cases n with
    | zero => exact k4.elim
    | succ n =>
      simp only [Typed, Tryd.underlying22] at k4
      simp only [Typed, Tryd.underlying23] at k5
      obtain ⟨vr, es, rfl, hr, hrm, hrl⟩ := k4
      obtain ⟨vf, fs, rfl, hf, hfm, hfl⟩ := k5
      obtain ⟨l, hl1, hl2, hl3⟩ := list_of2 fun x hx => rule_of (hrl x hx)
      obtain ⟨fl, rfl, hfw⟩ := list_of (F := trip) (W := fun f => Wf64 f.1 ∧ Wf64 f.2.1 ∧ Wf64 f.2.2) fun x hx => trip_of (hfl x hx)
      rw [show Tryd.prog.cellsOf 42 = 3 from by kernel_rfl] at hr
      rw [show Tryd.prog.cellsOf 67 = 3 from by kernel_rfl] at hf
      rw [List.length_map] at hfm
      refine ⟨⟨a, b, c, l, fl, lc, lk⟩, vr, vf, vc, vk, es, rfl, ⟨⟨hr, hl1, fun i e r h1 h2 => (hl2 i e r h1 h2).1⟩, hf, rc, rk, ⟨wa, wb, wc, fun r hr => ?_, hfw, hwc, hwk, by rw [← hl1]; exact hrm, hfm, hmc, hmk⟩, .of hx⟩⟩
      obtain ⟨x, hx⟩ := hl3 r hr
      exact hx.2
end Go.Proofs.YtdggbpfpjkokpaaDoor
set_option linter.unusedSimpArgs false
set_option linter.unusedVariables false
namespace Go.Proofs.YtdggbpfpjkokpaaDoor.K
open Go Ev
set_option maxRecDepth 100000
set_option maxHeartbeats 4000000

theorem ints_of {M : MH} {m : MV} (h : ArgTyped Tryd.prog M 24 m) : ∃ l, IntRow M m l ∧ (∀ z ∈ l, Wf64 z) ∧ l.length ≤ 9223372036854775807 := by
  obtain ⟨n, cs, h1, h2⟩ := h
  simp only [Tryd.underlying24] at h2
  subst h2
  obtain ⟨v, l, e, hr, hw, hm⟩ := typed_ints Tryd.underlying24 Tryd.underlying3 (by kernel_rfl) h1
  injection e with e _
  subst e
  exact ⟨l, hr, hw, hm⟩
theorem al_any {M M' : MH} (hx : Ext (Mtab tabZ) M) (h : Ext M M') : Cp fns 7 [] M' fun m M2 => m = .b true ∧ M2 = M' := Cp_tab (tab := tabZ) (by kernel_rfl) (hx.trans h)
end Go.Proofs.YtdggbpfpjkokpaaDoor.K
set_option linter.unusedSimpArgs false
set_option linter.unusedVariables false
namespace Go.Proofs.YtdggbpfpjkokpaaDoor.K
open Go Ev
set_option maxRecDepth 100000
set_option maxHeartbeats 4000000

theorem gr_lift {M : MH} {vr vf vc vk : MV} {es : List (List MV)} {g : Gr} (h : GrAt M vr vf vc vk es g) : GrAt M.lift vr vf vc vk es g := ⟨⟨h.rules.row, h.rules.len, fun i e r h1 h2 => let ⟨v, k1, k2⟩ := h.rules.at_ i e r h1 h2; ⟨v, k1, k2⟩⟩, h.forbid, h.rc, h.kc, h.wf, h.tb⟩
theorem gr_dl {M : MH} {lo : Nat} {vr vf vc vk : MV} {es : List (List MV)} {g : Gr} (h : GrAt M vr vf vc vk es g) : GrAt (M.down lo).lift vr vf vc vk es g := ⟨⟨h.rules.row, h.rules.len, fun i e r h1 h2 => let ⟨v, k1, k2⟩ := h.rules.at_ i e r h1 h2; ⟨v, k1, k2⟩⟩, h.forbid, h.rc, h.kc, h.wf, h.tb⟩
theorem ext_dl {M M' : MH} (h : Ext M.lift M') : Ext M (M'.down M.lo) := ⟨h.n, rfl, h.old⟩
theorem apart_app {i j sz b k id off : Nat} {y x : X} {l : List (IOper × DK)} {n : Nat} {f : Fr} {hs : List MH} {d d' : Option Ky} {gd gd' : Option (Ky × Bool)} {kd : DK} (h1 : l[i]? = some (⟨d, gd, .app sz b (.c .nils) y⟩, .md)) (h2 : l[j]? = some (⟨d', gd', .ldN k x⟩, kd)) (hx : X.ev f x = .p id off) (hid : id < n) (hn : ∀ M ∈ hs, n ≤ M.n) : apartL [(i, j)] l n f hs = true := by
  unfold apartL
  have e1 : hs.all (fun M => Nat.ble n M.n) = true := List.all_eq_true.2 fun M hM => ble_t' (hn M hM)
  have e2 : apartB n (cidx (l.map (·.2)) i) hs (.app sz b (.c .nils) y) (.ldN k x) f = true := by
    unfold apartB
    show (match (match X.ev f x with
      | .p id _ => some id
      | _ => none) with
      | some id => Nat.blt id n && ((match touch (.app sz b (.c .nils) y) f with
        | some (some q) => !(q == id)
        | some none => true
        | none => false) || (Nat.blt (cidx (l.map (·.2)) i + 1) hs.length && sameO (atS hs (cidx (l.map (·.2)) i + 1) id) (atS hs (cidx (l.map (·.2)) i) id)))
      | none => false) = true
    rw [hx]
    show (Nat.blt id n && (true || _)) = true
    rw [blt_t hid, Bool.true_or]
    rfl
  simp only [List.isEmpty_cons, Bool.false_or, List.all_cons, List.all_nil, h1, h2, e1, e2, Bool.and_true, Bool.true_and]
  rfl
end Go.Proofs.YtdggbpfpjkokpaaDoor.K
set_option linter.unusedSimpArgs false
set_option linter.unusedVariables false
namespace Go.Proofs.YtdggbpfpjkokpaaDoor.K
open Go Ev
set_option maxRecDepth 100000
set_option maxHeartbeats 4000000

theorem mat_ext {F G : List (List Bool)} {n : Nat} {P : Nat → Nat → Prop} (hl : F.length = G.length) (hF : ∀ x ∈ F, x.length = n) (hG : ∀ x ∈ G, x.length = n) (h1 : ∀ a t, mAt F a t = true ↔ P a t) (h2 : ∀ a t, mAt G a t = true ↔ P a t) : F = G := by
  refine List.ext_getElem hl fun i hi hj => ?_
  have e1 : F.getD i [] = F[i] := by rw [List.getD_eq_getElem?_getD, List.getElem?_eq_getElem hi]; rfl
  have e2 : G.getD i [] = G[i] := by rw [List.getD_eq_getElem?_getD, List.getElem?_eq_getElem hj]; rfl
  refine bAt_ext ((hF _ (List.getElem_mem hi)).trans (hG _ (List.getElem_mem hj)).symm) fun t _ => ?_
  have := (h1 i t).trans (h2 i t).symm
  unfold mAt at this
  rw [e1, e2] at this
  cases hx : bAt F[i] t <;> cases hy : bAt G[i] t <;> simp_all
theorem fst_ext {g : Gr} {F G : List (List Bool)} (h : FstMat g F) (k : FstMat g G) : F = G := mat_ext (h.len.trans k.len.symm) h.rows k.rows h.iff k.iff
theorem flw_ext {g : Gr} {F G : List (List Bool)} (h : FlwMat g F) (k : FlwMat g G) : F = G := mat_ext (h.len.trans k.len.symm) h.rows k.rows h.iff k.iff
theorem fof_ext {g : Gr} {l x y : List Int} {a b : Bool} (h : FirstOfIs g l x a) (k : FirstOfIs g l y b) : x = y ∧ a = b := by
  obtain ⟨n1, F1, o1, h1, h2, ⟨h3, h4, h5⟩, rfl, rfl⟩ := h
  obtain ⟨n2, F2, o2, k1, k2, ⟨k3, k4, k5⟩, rfl, rfl⟩ := k
  have e := nul_ext h1 k1
  subst e
  have e := fst_ext h2 k2
  subst e
  have e : o1 = o2 := bAt_ext (h3.trans k3.symm) fun t ht => by
    by_cases ht2 : t < g.kinds.toNat
    · rw [h4 t ht2, k4 t ht2]
    · rw [show t = g.kinds.toNat from by omega, h5, k5]
  rw [e]
  exact ⟨rfl, rfl⟩
/-- What Nullable and its like give, as lists. -/
def NulIs (g : Gr) (l : List Bool) : Prop := ((formP g).2 ≠ 0 ∧ l = []) ∨ ((formP g).2 = 0 ∧ NulVec g l)
def FstIs (g : Gr) (L : List (List Int)) : Prop := ((formP g).2 ≠ 0 ∧ L = []) ∨ ((formP g).2 = 0 ∧ ∃ F, FstMat g F ∧ L = F.map listP)
def FlwIs (g : Gr) (L : List (List Int)) : Prop := ((formP g).2 ≠ 0 ∧ L = []) ∨ ((formP g).2 = 0 ∧ ∃ F, FlwMat g F ∧ L = F.map listP)
def FofIs (g : Gr) (l x : List Int) (b : Bool) : Prop := (((formP g).2 ≠ 0 ∨ l.all (symB g) = false) ∧ x = [] ∧ b = false) ∨ ((formP g).2 = 0 ∧ l.all (symB g) = true ∧ FirstOfIs g l x b)
theorem nulIs_ext {g : Gr} {a b : List Bool} (h : NulIs g a) (k : NulIs g b) : a = b := by
  rcases h with ⟨h1, rfl⟩ | ⟨h1, h2⟩ <;> rcases k with ⟨k1, rfl⟩ | ⟨k1, k2⟩
  · rfl
  · exact absurd k1 h1
  · exact absurd h1 k1
  · exact nul_ext h2 k2
theorem fstIs_ext {g : Gr} {a b : List (List Int)} (h : FstIs g a) (k : FstIs g b) : a = b := by
  rcases h with ⟨h1, rfl⟩ | ⟨h1, F, h2, rfl⟩ <;> rcases k with ⟨k1, rfl⟩ | ⟨k1, G, k2, rfl⟩
  · rfl
  · exact absurd k1 h1
  · exact absurd h1 k1
  · rw [fst_ext h2 k2]
theorem flwIs_ext {g : Gr} {a b : List (List Int)} (h : FlwIs g a) (k : FlwIs g b) : a = b := by
  rcases h with ⟨h1, rfl⟩ | ⟨h1, F, h2, rfl⟩ <;> rcases k with ⟨k1, rfl⟩ | ⟨k1, G, k2, rfl⟩
  · rfl
  · exact absurd k1 h1
  · exact absurd h1 k1
  · rw [flw_ext h2 k2]
theorem fofIs_ext {g : Gr} {l x y : List Int} {a b : Bool} (h : FofIs g l x a) (k : FofIs g l y b) : x = y ∧ a = b := by
  rcases h with ⟨h1, rfl, rfl⟩ | ⟨h1, h2, h3⟩ <;> rcases k with ⟨k1, rfl, rfl⟩ | ⟨k1, k2, k3⟩
  · exact ⟨rfl, rfl⟩
  · rcases h1 with h1 | h1
    · exact absurd k1 h1
    · rw [h1] at k2; cases k2
  · rcases k1 with k1 | k1
    · exact absurd h1 k1
    · rw [k1] at h2; cases h2
  · exact fof_ext h3 k3
theorem row_nil (M : MH) (sz : Nat) : RowAt M sz .nils [] := ⟨fun e h => (by cases h), .inl ⟨rfl, rfl⟩⟩
theorem listP_len (l : List Bool) : (listP l).length ≤ l.length := by
  unfold listP
  rw [List.length_map]
  exact Nat.le_trans (List.length_filter_le _ _) (by rw [List.length_range]; exact Nat.le_refl _)
theorem NulPost.is {g : Gr} {M M' : MH} {m : MV} (h : NulPost g M m M') : Ext M M' ∧ ∃ l, BRow M' m l ∧ NulIs g l ∧ l.length ≤ 1000000000 := by
  obtain ⟨hx, ⟨h1, rfl⟩ | ⟨h1, l, h2, h3⟩⟩ := h
  · exact ⟨hx, [], row_nil _ _, .inl ⟨h1, rfl⟩, Nat.zero_le _⟩
  · refine ⟨hx, l, h3, .inr ⟨h1, h2⟩, ?_⟩
    have := (form_ok h1).n2
    rw [h2.1]
    omega
theorem lrow_nil (M : MH) : LRow M .nils [] [] := ⟨row_nil _ _, rfl, fun i l h => by simp at h⟩
theorem FstPost.is {g : Gr} {M M' : MH} {m : MV} (h : FstPost g M m M') : Ext M M' ∧ ∃ rs L, LRow M' m rs L ∧ FstIs g L ∧ L.length ≤ 1000000000 ∧ ∀ l ∈ L, l.length ≤ 1000000000 := by
  obtain ⟨hx, ⟨h1, rfl⟩ | ⟨h1, rs, F, h2, h3⟩⟩ := h
  · exact ⟨hx, [], [], lrow_nil _, .inl ⟨h1, rfl⟩, Nat.zero_le _, fun l hl => by cases hl⟩
  · have hn := (form_ok h1).n2
    have hk := (form_ok h1).k2
    refine ⟨hx, rs, _, h3, .inr ⟨h1, F, h2, rfl⟩, ?_, fun l hl => ?_⟩
    · rw [List.length_map, h2.len]; omega
    · obtain ⟨x, hx, rfl⟩ := List.mem_map.1 hl
      have := listP_len x
      rw [h2.rows x hx] at this
      omega
theorem FlwPost.is {g : Gr} {M M' : MH} {m : MV} (h : FlwPost g M m M') : Ext M M' ∧ ∃ rs L, LRow M' m rs L ∧ FlwIs g L ∧ L.length ≤ 1000000000 ∧ ∀ l ∈ L, l.length ≤ 1000000000 := by
  obtain ⟨hx, ⟨h1, rfl⟩ | ⟨h1, rs, F, h2, h3⟩⟩ := h
  · exact ⟨hx, [], [], lrow_nil _, .inl ⟨h1, rfl⟩, Nat.zero_le _, fun l hl => by cases hl⟩
  · have hn := (form_ok h1).n2
    have hk := (form_ok h1).k2
    refine ⟨hx, rs, _, h3, .inr ⟨h1, F, h2, rfl⟩, ?_, fun l hl => ?_⟩
    · rw [List.length_map, h2.len]; omega
    · obtain ⟨x, hx, rfl⟩ := List.mem_map.1 hl
      have := listP_len x
      rw [h2.rows x hx] at this
      omega
theorem FofPost.is {g : Gr} {l : List Int} {M M' : MH} {m : MV} (h : FofPost g l M m M') : Ext M M' ∧ ∃ r x b, m = .tp [r, .b b] ∧ IntRow M' r x ∧ FofIs g l x b ∧ x.length ≤ 1000000000 := by
  obtain ⟨hx, ⟨h1, rfl⟩ | ⟨h1, h2, r, x, b, rfl, h3, h4⟩⟩ := h
  · exact ⟨hx, .nils, [], false, rfl, row_nil _ _, .inl ⟨h1, rfl, rfl⟩, Nat.zero_le _⟩
  · refine ⟨hx, r, x, b, rfl, h4, .inr ⟨h1, h2, h3⟩, ?_⟩
    obtain ⟨n1, F1, o1, k1, k2, ⟨k3, _, _⟩, rfl, rfl⟩ := h3
    have := listP_len o1
    have hk := (form_ok h1).k2
    omega
end Go.Proofs.YtdggbpfpjkokpaaDoor.K
set_option linter.unusedSimpArgs false
set_option linter.unusedVariables false
namespace Go.Proofs.YtdggbpfpjkokpaaDoor.K
open Go Ev
set_option maxRecDepth 100000
set_option maxHeartbeats 4000000

structure NSt (M0 M : MH) (g : Gr) (vr vf vc vk : MV) (es : List (List MV)) (id : Nat) (l : List Bool) (f : Fr) : Prop where
  gr : GrAt M0 vr vf vc vk es g
  ok : GrOk g
  ext : Ext M0 M
  lo0 : M0.lo ≤ M0.n
  b0 : M.get M0.n = some (.cs false 7 (ofL (gcs g vr vf vc vk) 0))
  id1 : M0.n < id
  id2 : id < M.n
  row : BoolsAt M id l
  len : l.length = g.names.toNat
  q1 : X.ev f (.t q1) = .p M0.n 0
  q3 : X.ev f (.t q3) = .sl id 0 l.length 0
theorem allN_take {l : List Bool} {ar : List Int} {k : Nat} {z : Int} (h : ar[k]? = some z) : allN l (ar.take (k + 1)) = (allN l (ar.take k) && oneN l z) := by
  unfold allN
  rw [List.take_add_one, h, List.all_append]
  simp
theorem allN_le {l : List Bool} {ar : List Int} {k : Nat} (h : allN l (ar.take k) = false) : allN l ar = false := by
  have : allN l ar = (allN l (ar.take k) && allN l (ar.drop k)) := by unfold allN; rw [← List.all_append, List.take_append_drop]
  rw [this, h, Bool.false_and]
theorem null_in {M0 M : MH} {g : Gr} {vr vf vc vk : MV} {es : List (List MV)} {id : Nat} {l : List Bool} {f : Fr} (h : NSt M0 M g vr vf vc vk es id l f) {a0 a2 : Int} {ar : List Int} {ur : MV} {i n6 : Nat} {c : T MV} {b more : Bool}
    (hr : (a0, ar, a2) ∈ g.rules) (hn6 : n6 ≠ id) (hn7 : n6 ≠ M0.n) (hb6 : M.get n6 = some (.cs false 3 c)) (hC : At c 0 [.i .i64 a0, ur, .i .i64 a2]) (hu : IntRow M0 ur ar)
    (h6 : X.ev f (.t q6) = .p n6 0) (h5 : X.ev f (.t q5) = .i .i64 (i : Int)) (h8 : X.ev f (.t q8) = .i .i64 0) (h7 : X.ev f (.t q7) = .b b) (h4 : X.ev f (.t q4) = .b more) (Q : Post)
    (hn : ∀ f' M' l' more', NSt M0 M' g vr vf vc vk es id l' f' → X.ev f' (.t q5) = .i .i64 (i : Int) → X.ev f' (.t q4) = .b more' → ((l' = l ∧ more' = more ∧ (b && allN l ar) = false) ∨ ((b && allN l ar) = true ∧ l' = l.set a0.toNat true ∧ more' = true)) → Q .norm f' M') :
    Wp fns (.loop L13_2) f M (blockQ 4 (thenQ fns K13_3 Q)) := by
  have hu1 := hu.ext h.ext
  obtain ⟨hu3, hu4⟩ := hu1.sl
  obtain ⟨t, ht1, ht2, ht3, ht4⟩ := h.row.read
  obtain ⟨hl0, hl1⟩ := h.ok.left _ hr
  have hsym := h.ok.sym _ hr
  have hlen := h.ok.len _ hr
  simp only at hl0 hl1 hsym hlen
  have hll := h.len
  have hn40 := h.ok.n2
  have hid2 := h.id2
  have hid1 := h.id1
  have hlo := h.lo0
  have hel := h.ext.lo
  have c0 : cget c 0 = some (.i .i64 a0) := hC 0 _ rfl
  have c1 : cget c 1 = some ur := hC 1 _ rfl
  refine Wp_inv (σ := Nat) (fun k f1 M1 => M1 = M ∧ NSt M0 M g vr vf vc vk es id l f1 ∧ k ≤ ar.length ∧ X.ev f1 (.t q6) = .p n6 0 ∧ X.ev f1 (.t q5) = .i .i64 (i : Int) ∧ X.ev f1 (.t q8) = .i .i64 (k : Int) ∧ X.ev f1 (.t q7) = .b (b && allN l (ar.take k)) ∧ X.ev f1 (.t q4) = .b more) (fun k => ar.length - k) ?_ 0 ?_
  · rintro k f1 M1 ⟨rfl, h, hk, h6, h5, h8, h7, h4⟩
    have hq1 := h.q1
    have hq3 := h.q3
    simp only [q1, q3, q4, q5, q6, q7, q8] at hq1 hq3 h4 h5 h6 h7 h8
    unfold L13_2
    by_cases hk1 : k < ar.length
    · have d1 : decide ((k : Int) < (ar.length : Int)) = true := decide_eq_true (by omega)
      cases hv : (b && allN l (ar.take k)) with
      | true =>
        rw [hv] at h7
        obtain ⟨z, hz⟩ : ∃ z, ar[k]? = some z := ⟨_, List.getElem?_eq_getElem hk1⟩
        obtain ⟨ro, s, tt, hg, hid, hZ⟩ := hu1.read hz
        have hzs := hsym z (List.mem_of_getElem? hz)
        by_cases z0 : 0 ≤ z
        · have dz : decide (0 ≤ z) = true := decide_eq_true z0
          have hzl := symB_lt hzs z0
          obtain ⟨zn, rfl⟩ : ∃ n : Nat, z = n := ⟨z.toNat, by omega⟩
          have hzn : zn < l.length := by omega
          obtain ⟨bz, hbz⟩ : ∃ x, l[zn]? = some x := ⟨_, List.getElem?_eq_getElem hzn⟩
          have hR := ht2 _ _ hbz
          simp (maxSteps := 4000000) (disch := first | omega | assumption | (simp only [bxS, bxV, stOk, Nat.reduceBEq, Nat.reduceEqDiff, Nat.reduceAdd]; done) | (simp only [bxU]; omega) | ((try apply has_setN); apply has_ofL; simp only [bxL]; omega)) only [↓bxD, bxP, bxQ, bxQ2, Nat.reduceBEq, reduceCtorEq, Nat.reduceAdd, Nat.reduceSub, Nat.reduceMul, Nat.reduceLeDiff, Nat.reduceLT, bxR, hq1, hq3, h4, h5, h6, h7, h8, hb6, hu3, hu4, c0, c1, d1, hg, hZ, dz, ht1, hR, ix_slc, len_slc]
          show Wp fns K13_1 _ _ _
          unfold K13_1
          simp (maxSteps := 4000000) (disch := first | omega | assumption | (simp only [bxS, bxV, stOk, Nat.reduceBEq, Nat.reduceEqDiff, Nat.reduceAdd]; done) | (simp only [bxU]; omega) | ((try apply has_setN); apply has_ofL; simp only [bxL]; omega)) only [↓bxD, bxP, bxQ, bxQ2, Nat.reduceBEq, reduceCtorEq, Nat.reduceAdd, Nat.reduceSub, Nat.reduceMul, Nat.reduceLeDiff, Nat.reduceLT, bxR, hq1, hq3, h4, h5, h6, h7, h8, hb6, hu3, hu4, c0, c1, d1, hg, hZ, dz, ht1, hR, ix_slc, len_slc]
          show Wp fns K13_0 _ _ _
          unfold K13_0
          simp (maxSteps := 4000000) (disch := first | omega | assumption | (simp only [bxS, bxV, stOk, Nat.reduceBEq, Nat.reduceEqDiff, Nat.reduceAdd]; done) | (simp only [bxU]; omega) | ((try apply has_setN); apply has_ofL; simp only [bxL]; omega)) only [↓bxD, bxP, bxQ, bxQ2, Nat.reduceBEq, reduceCtorEq, Nat.reduceAdd, Nat.reduceSub, Nat.reduceMul, Nat.reduceLeDiff, Nat.reduceLT, bxR, hq1, hq3, h4, h5, h6, h7, h8, hb6, hu3, hu4, c0, c1, d1, hg, hZ, dz, ht1, hR, ix_slc, len_slc]
          have hone : oneN l (zn : Int) = bz := by unfold oneN; rw [Int.toNat_natCast, List.getD_eq_getElem?_getD, hbz]; simp
          refine ⟨k + 1, by omega, ⟨h.gr, h.ok, h.ext, h.lo0, h.b0, h.id1, h.id2, h.row, h.len, ?_, ?_⟩, by omega, rfl, by rw [allN_take hz, ← Bool.and_assoc, hv, hone]; rfl⟩
          · simp only [bxP, bxQ, bxQ2, reduceCtorEq, hq1, hq3, h4, h5, h6, h7, h8, hb6, hu3, hu4, c0, c1, d1, hg, hZ, dz, ht1, hR, ix_slc, len_slc]
          · simp only [bxP, bxQ, bxQ2, reduceCtorEq, hq1, hq3, h4, h5, h6, h7, h8, hb6, hu3, hu4, c0, c1, d1, hg, hZ, dz, ht1, hR, ix_slc, len_slc]
        · have dz : decide (0 ≤ z) = false := decide_eq_false z0
          simp (maxSteps := 4000000) (disch := first | omega | assumption | (simp only [bxS, bxV, stOk, Nat.reduceBEq, Nat.reduceEqDiff, Nat.reduceAdd]; done) | (simp only [bxU]; omega) | ((try apply has_setN); apply has_ofL; simp only [bxL]; omega)) only [↓bxD, bxP, bxQ, bxQ2, Nat.reduceBEq, reduceCtorEq, Nat.reduceAdd, Nat.reduceSub, Nat.reduceMul, Nat.reduceLeDiff, Nat.reduceLT, bxR, hq1, hq3, h4, h5, h6, h7, h8, hb6, hu3, hu4, c0, c1, d1, hg, hZ, dz]
          show Wp fns K13_1 _ _ _
          unfold K13_1
          simp (maxSteps := 4000000) (disch := first | omega | assumption | (simp only [bxS, bxV, stOk, Nat.reduceBEq, Nat.reduceEqDiff, Nat.reduceAdd]; done) | (simp only [bxU]; omega) | ((try apply has_setN); apply has_ofL; simp only [bxL]; omega)) only [↓bxD, bxP, bxQ, bxQ2, Nat.reduceBEq, reduceCtorEq, Nat.reduceAdd, Nat.reduceSub, Nat.reduceMul, Nat.reduceLeDiff, Nat.reduceLT, bxR, hq1, hq3, h4, h5, h6, h7, h8, hb6, hu3, hu4, c0, c1, d1, hg, hZ, dz]
          show Wp fns K13_0 _ _ _
          unfold K13_0
          simp (maxSteps := 4000000) (disch := first | omega | assumption | (simp only [bxS, bxV, stOk, Nat.reduceBEq, Nat.reduceEqDiff, Nat.reduceAdd]; done) | (simp only [bxU]; omega) | ((try apply has_setN); apply has_ofL; simp only [bxL]; omega)) only [↓bxD, bxP, bxQ, bxQ2, Nat.reduceBEq, reduceCtorEq, Nat.reduceAdd, Nat.reduceSub, Nat.reduceMul, Nat.reduceLeDiff, Nat.reduceLT, bxR, hq1, hq3, h4, h5, h6, h7, h8, hb6, hu3, hu4, c0, c1, d1, hg, hZ, dz]
          have hone : oneN l z = false := by unfold oneN; rw [decide_eq_false z0]; rfl
          refine ⟨k + 1, by omega, ⟨h.gr, h.ok, h.ext, h.lo0, h.b0, h.id1, h.id2, h.row, h.len, ?_, ?_⟩, by omega, rfl, by rw [allN_take hz, ← Bool.and_assoc, hv, hone]; rfl⟩
          · simp only [bxP, bxQ, bxQ2, reduceCtorEq, hq1, hq3, h4, h5, h6, h7, h8, hb6, hu3, hu4, c0, c1, d1, hg, hZ, dz]
          · simp only [bxP, bxQ, bxQ2, reduceCtorEq, hq1, hq3, h4, h5, h6, h7, h8, hb6, hu3, hu4, c0, c1, d1, hg, hZ, dz]
      | false =>
        rw [hv] at h7
        simp (maxSteps := 4000000) (disch := first | omega | assumption | (simp only [bxS, bxV, stOk, Nat.reduceBEq, Nat.reduceEqDiff, Nat.reduceAdd]; done) | (simp only [bxU]; omega) | ((try apply has_setN); apply has_ofL; simp only [bxL]; omega)) only [↓bxD, bxP, bxQ, bxQ2, Nat.reduceBEq, reduceCtorEq, Nat.reduceAdd, Nat.reduceSub, Nat.reduceMul, Nat.reduceLeDiff, Nat.reduceLT, bxR, hq1, hq3, h4, h5, h6, h7, h8, hb6, hu3, hu4, c0, c1, d1]
        show Wp fns K13_3 _ _ _
        unfold K13_3
        simp (maxSteps := 4000000) (disch := first | omega | assumption | (simp only [bxS, bxV, stOk, Nat.reduceBEq, Nat.reduceEqDiff, Nat.reduceAdd]; done) | (simp only [bxU]; omega) | ((try apply has_setN); apply has_ofL; simp only [bxL]; omega)) only [↓bxD, bxP, bxQ, bxQ2, Nat.reduceBEq, reduceCtorEq, Nat.reduceAdd, Nat.reduceSub, Nat.reduceMul, Nat.reduceLeDiff, Nat.reduceLT, bxR, hq1, hq3, h4, h5, h6, h7, h8, hb6, hu3, hu4, c0, c1, d1]
        refine hn _ _ l more ⟨h.gr, h.ok, h.ext, h.lo0, h.b0, h.id1, h.id2, h.row, h.len, ?_, ?_⟩ ?_ ?_ (.inl ⟨rfl, rfl, by cases b with
          | false => rfl
          | true => rw [Bool.true_and] at hv ⊢; exact allN_le hv⟩)
        · simp only [bxP, bxQ, bxQ2, reduceCtorEq, hq1, hq3, h4, h5, h6, h7, h8, hb6, hu3, hu4, c0, c1, d1]
        · simp only [bxP, bxQ, bxQ2, reduceCtorEq, hq1, hq3, h4, h5, h6, h7, h8, hb6, hu3, hu4, c0, c1, d1]
        · simp only [bxP, bxQ, bxQ2, reduceCtorEq, hq1, hq3, h4, h5, h6, h7, h8, hb6, hu3, hu4, c0, c1, d1]
        · simp only [bxP, bxQ, bxQ2, reduceCtorEq, hq1, hq3, h4, h5, h6, h7, h8, hb6, hu3, hu4, c0, c1, d1]
    · have d1 : decide ((k : Int) < (ar.length : Int)) = false := decide_eq_false (by omega)
      have hkl : k = ar.length := by omega
      subst hkl
      rw [List.take_length] at h7
      cases hv : (b && allN l ar) with
      | false =>
        rw [hv] at h7
        simp (maxSteps := 4000000) (disch := first | omega | assumption | (simp only [bxS, bxV, stOk, Nat.reduceBEq, Nat.reduceEqDiff, Nat.reduceAdd]; done) | (simp only [bxU]; omega) | ((try apply has_setN); apply has_ofL; simp only [bxL]; omega)) only [↓bxD, bxP, bxQ, bxQ2, Nat.reduceBEq, reduceCtorEq, Nat.reduceAdd, Nat.reduceSub, Nat.reduceMul, Nat.reduceLeDiff, Nat.reduceLT, bxR, hq1, hq3, h4, h5, h6, h7, h8, hb6, hu3, hu4, c0, c1, d1]
        show Wp fns K13_3 _ _ _
        unfold K13_3
        simp (maxSteps := 4000000) (disch := first | omega | assumption | (simp only [bxS, bxV, stOk, Nat.reduceBEq, Nat.reduceEqDiff, Nat.reduceAdd]; done) | (simp only [bxU]; omega) | ((try apply has_setN); apply has_ofL; simp only [bxL]; omega)) only [↓bxD, bxP, bxQ, bxQ2, Nat.reduceBEq, reduceCtorEq, Nat.reduceAdd, Nat.reduceSub, Nat.reduceMul, Nat.reduceLeDiff, Nat.reduceLT, bxR, hq1, hq3, h4, h5, h6, h7, h8, hb6, hu3, hu4, c0, c1, d1]
        refine hn _ _ l more ⟨h.gr, h.ok, h.ext, h.lo0, h.b0, h.id1, h.id2, h.row, h.len, ?_, ?_⟩ ?_ ?_ (.inl ⟨rfl, rfl, hv⟩)
        · simp only [bxP, bxQ, bxQ2, reduceCtorEq, hq1, hq3, h4, h5, h6, h7, h8, hb6, hu3, hu4, c0, c1, d1]
        · simp only [bxP, bxQ, bxQ2, reduceCtorEq, hq1, hq3, h4, h5, h6, h7, h8, hb6, hu3, hu4, c0, c1, d1]
        · simp only [bxP, bxQ, bxQ2, reduceCtorEq, hq1, hq3, h4, h5, h6, h7, h8, hb6, hu3, hu4, c0, c1, d1]
        · simp only [bxP, bxQ, bxQ2, reduceCtorEq, hq1, hq3, h4, h5, h6, h7, h8, hb6, hu3, hu4, c0, c1, d1]
      | true =>
        rw [hv] at h7
        obtain ⟨an, rfl⟩ : ∃ n : Nat, a0 = n := ⟨a0.toNat, by omega⟩
        have han : an < l.length := by omega
        have hH := ht3 an han
        simp (maxSteps := 4000000) (disch := first | omega | assumption | (simp only [bxS, bxV, stOk, Nat.reduceBEq, Nat.reduceEqDiff, Nat.reduceAdd]; done) | (simp only [bxU]; omega) | ((try apply has_setN); apply has_ofL; simp only [bxL]; omega)) only [↓bxD, bxP, bxQ, bxQ2, Nat.reduceBEq, reduceCtorEq, Nat.reduceAdd, Nat.reduceSub, Nat.reduceMul, Nat.reduceLeDiff, Nat.reduceLT, bxR, hq1, hq3, h4, h5, h6, h7, h8, hb6, hu3, hu4, c0, c1, d1, ht1, ix_slc, len_slc]
        show Wp fns K13_3 _ _ _
        unfold K13_3
        simp (maxSteps := 4000000) (disch := first | omega | assumption | (simp only [bxS, bxV, stOk, Nat.reduceBEq, Nat.reduceEqDiff, Nat.reduceAdd]; done) | (simp only [bxU]; omega) | ((try apply has_setN); apply has_ofL; simp only [bxL]; omega)) only [↓bxD, bxP, bxQ, bxQ2, Nat.reduceBEq, reduceCtorEq, Nat.reduceAdd, Nat.reduceSub, Nat.reduceMul, Nat.reduceLeDiff, Nat.reduceLT, bxR, hq1, hq3, h4, h5, h6, h7, h8, hb6, hu3, hu4, c0, c1, d1, ht1, ix_slc, len_slc]
        generalize hM2 : M1.set id _ = M2
        have hx2 : Ext M0 M2 := by rw [← hM2]; exact h.ext.set _ (by omega)
        have hrow2 : BoolsAt M2 id (l.set an true) := ⟨_, by rw [← hM2, set_same]; rfl, ht4 an true han⟩
        have hb2 : M2.get M0.n = some (.cs false 7 (ofL (gcs g vr vf vc vk) 0)) := by rw [← hM2, set_ne (by omega)]; exact h.b0
        have hn2 : M2.n = M1.n := by rw [← hM2]; rfl
        clear hM2
        refine hn _ _ (l.set an true) true ⟨h.gr, h.ok, hx2, h.lo0, hb2, h.id1, by omega, hrow2, by rw [List.length_set]; exact h.len, ?_, ?_⟩ ?_ ?_ (.inr ⟨hv, rfl, rfl⟩)
        · simp only [bxP, bxQ, bxQ2, reduceCtorEq, hq1, hq3, h4, h5, h6, h7, h8, hb6, hu3, hu4, c0, c1, d1, ht1, ix_slc, len_slc]
        · simp (maxSteps := 4000000) (disch := first | omega | assumption | (simp only [bxS, bxV, stOk, Nat.reduceBEq, Nat.reduceEqDiff, Nat.reduceAdd]; done) | (simp only [bxU]; omega) | ((try apply has_setN); apply has_ofL; simp only [bxL]; omega)) only [↓bxD, bxP, bxQ, bxQ2, Nat.reduceBEq, reduceCtorEq, Nat.reduceAdd, Nat.reduceSub, Nat.reduceMul, Nat.reduceLeDiff, Nat.reduceLT, bxR, hq1, hq3, h4, h5, h6, h7, h8, hb6, hu3, hu4, c0, c1, d1, ht1, ix_slc, len_slc, List.length_set]
        · simp only [bxP, bxQ, bxQ2, reduceCtorEq, hq1, hq3, h4, h5, h6, h7, h8, hb6, hu3, hu4, c0, c1, d1, ht1, ix_slc, len_slc]
        · simp only [bxP, bxQ, bxQ2, reduceCtorEq, hq1, hq3, h4, h5, h6, h7, h8, hb6, hu3, hu4, c0, c1, d1, ht1, ix_slc, len_slc]
  · refine ⟨rfl, h, Nat.zero_le _, h6, h5, h8, ?_, h4⟩
    rw [h7]
    simp [allN]
theorem null_round {M0 M : MH} {g : Gr} {vr vf vc vk : MV} {es : List (List MV)} {id : Nat} {l0 : List Bool} {f : Fr} (h : NSt M0 M g vr vf vc vk es id l0 f) (hs : NulSound g l0) (Q : Post)
    (hn : ∀ f' M' l' more, NSt M0 M' g vr vf vc vk es id l' f' → X.ev f' (.t q4) = .b more → NulSound g l' → ((more = true ∧ falses l' < falses l0) ∨ (more = false ∧ l' = l0 ∧ NulClosed l0 g.rules)) → Q .norm f' M') : Wp fns K13_7 f M Q := by
  unfold K13_7
  simp (maxSteps := 4000000) (disch := first | omega | assumption | (simp only [bxS, bxV, stOk, Nat.reduceBEq, Nat.reduceEqDiff, Nat.reduceAdd]; done) | (simp only [bxU]; omega) | ((try apply has_setN); apply has_ofL; simp only [bxL]; omega)) only [↓bxD, bxP, bxQ, bxQ2, Nat.reduceBEq, reduceCtorEq, Nat.reduceAdd, Nat.reduceSub, Nat.reduceMul, Nat.reduceLeDiff, Nat.reduceLT, bxR]
  refine Wp_inv (σ := Nat × List Bool × Bool) (fun s f1 M1 => NSt M0 M1 g vr vf vc vk es id s.2.1 f1 ∧ s.1 ≤ g.rules.length ∧ X.ev f1 (.t q5) = .i .i64 (s.1 : Int) ∧ X.ev f1 (.t q4) = .b s.2.2 ∧ NulSound g s.2.1 ∧ ((s.2.2 = true ∧ falses s.2.1 < falses l0) ∨ (s.2.2 = false ∧ s.2.1 = l0 ∧ NulClosed l0 (g.rules.take s.1)))) (fun s => g.rules.length - s.1) ?_ (0, l0, false) ?_
  · rintro ⟨i, l, more⟩ f1 M1 ⟨h, hi, h5, h4, hs, hc⟩
    simp only at h hi h5 h4 hs hc
    have hq1 := h.q1
    have hq3 := h.q3
    have hbox := h.b0
    have hlo := h.lo0
    have hn0 := h.ext.n
    have hl0 := h.ext.lo
    have hid1 := h.id1
    have hid2 := h.id2
    obtain ⟨hr1, hr2⟩ := h.gr.rules.row.sl
    rw [h.gr.rules.len] at hr2
    unfold gcs at hbox
    have hrl := h.ok.rl
    simp only [q1, q3, q4, q5] at hq1 hq3 h4 h5
    unfold L13_6
    by_cases hi' : i < g.rules.length
    · have d1 : decide ((i : Int) < (g.rules.length : Int)) = true := decide_eq_true (by omega)
      obtain ⟨r, hr⟩ : ∃ r, g.rules[i]? = some r := ⟨_, List.getElem?_eq_getElem hi'⟩
      obtain ⟨a0, ar, a2⟩ := r
      have hmem := List.mem_of_getElem? hr
      obtain ⟨ur, hu1, hu2⟩ := h.gr.rules.get hr
      have hrow := h.gr.rules.row.ext h.ext
      obtain ⟨ro3, s3, t3, hg3, hid3, hat3⟩ := hrow.read hu1
      have hN : Ev.getN t3 3 (soff vr + i * 3) = some [.i .i64 a0, ur, .i .i64 a2] := hat3.getN
      obtain ⟨hu3, hu4⟩ := hu2.sl
      have hu6 := isSl_one hu3
      have hst : stOk 3 (.ag [.i .i64 a0, ur, .i .i64 a2]) = true := by simp only [stOk, cells_ag, isU_ag, all_cons, all_nil, one_i, hu6]; rfl
      obtain ⟨ha0, ha1⟩ := h.ok.left _ hmem
      simp only at ha0 ha1
      obtain ⟨an, rfl⟩ : ∃ n : Nat, a0 = n := ⟨a0.toNat, by omega⟩
      have hll := h.len
      have han : an < l.length := by omega
      obtain ⟨t, ht1, ht2, ht3, ht4⟩ := h.row.read
      obtain ⟨bb, hbb⟩ : ∃ x, l[an]? = some x := ⟨_, List.getElem?_eq_getElem han⟩
      have hR := ht2 _ _ hbb
      simp (maxSteps := 4000000) (disch := first | omega | assumption | (simp only [bxS, bxV, stOk, Nat.reduceBEq, Nat.reduceEqDiff, Nat.reduceAdd]; done) | (simp only [bxU]; omega) | ((try apply has_setN); apply has_ofL; simp only [bxL]; omega)) only [↓bxD, bxP, bxQ, bxQ2, Nat.reduceBEq, reduceCtorEq, Nat.reduceAdd, Nat.reduceSub, Nat.reduceMul, Nat.reduceLeDiff, Nat.reduceLT, bxR, hq1, hq3, h4, h5, hr1, hr2, hbox, hg3, hN, d1, ix_slc, len_slc, ht1, hR]
      show Wp fns K13_5 _ _ _
      unfold K13_5
      simp (maxSteps := 4000000) (disch := first | omega | assumption | (simp only [bxS, bxV, stOk, Nat.reduceBEq, Nat.reduceEqDiff, Nat.reduceAdd]; done) | (simp only [bxU]; omega) | ((try apply has_setN); apply has_ofL; simp only [bxL]; omega)) only [↓bxD, bxP, bxQ, bxQ2, Nat.reduceBEq, reduceCtorEq, Nat.reduceAdd, Nat.reduceSub, Nat.reduceMul, Nat.reduceLeDiff, Nat.reduceLT, bxR, hq1, hq3, h4, h5, hr1, hr2, hbox, hg3, hN, d1, ix_slc, len_slc, ht1, hR]
      generalize hM2 : (M1.push _).set M1.n _ = M2
      have hx2 : Ext M1 M2 := by rw [← hM2]; exact (Ext.push M1 _).set _ (Nat.le_refl _)
      have h9 : M2.get M1.n = some (.cs false 3 (setN [.i .i64 (an : Int), ur, .i .i64 a2] 0 (ofL [.i .i64 0, .nils, .i .i64 0] 0))) := by rw [← hM2, set_same]
      have hn3 : M2.n = M1.n + 1 := by rw [← hM2]; rfl
      clear hM2
      refine null_in (i := i) (b := !bb) (more := more) ⟨h.gr, h.ok, h.ext.trans hx2, h.lo0, (hx2.old _ (by omega)).trans h.b0, h.id1, by omega, h.row.same (hx2.old _ hid2), h.len, ?_, ?_⟩ hmem (by omega) (by omega) h9 (at_setN _ _ _) hu2 (by simp only [bxP, bxQ, bxQ2, reduceCtorEq, hq1, hq3, h4, h5, hr1, hr2, hbox, hg3, hN, d1, ix_slc, len_slc, ht1, hR]) (by simp only [bxP, bxQ, bxQ2, reduceCtorEq, hq1, hq3, h4, h5, hr1, hr2, hbox, hg3, hN, d1, ix_slc, len_slc, ht1, hR]) (by simp only [bxP, bxQ, bxQ2, reduceCtorEq, hq1, hq3, h4, h5, hr1, hr2, hbox, hg3, hN, d1, ix_slc, len_slc, ht1, hR]) (by simp only [bxP, bxQ, bxQ2, reduceCtorEq, hq1, hq3, h4, h5, hr1, hr2, hbox, hg3, hN, d1, ix_slc, len_slc, ht1, hR]) (by simp only [bxP, bxQ, bxQ2, reduceCtorEq, hq1, hq3, h4, h5, hr1, hr2, hbox, hg3, hN, d1, ix_slc, len_slc, ht1, hR]) _ ?_
      · simp only [bxP, bxQ, bxQ2, reduceCtorEq, hq1, hq3, h4, h5, hr1, hr2, hbox, hg3, hN, d1, ix_slc, len_slc, ht1, hR]
      · simp only [bxP, bxQ, bxQ2, reduceCtorEq, hq1, hq3, h4, h5, hr1, hr2, hbox, hg3, hN, d1, ix_slc, len_slc, ht1, hR]
      intro f' M' l' more' h' h5' h4' hcase
      have h5q := h5'
      simp only [q5] at h5q
      simp (maxSteps := 4000000) (disch := first | omega | assumption | (simp only [bxS, bxV, stOk, Nat.reduceBEq, Nat.reduceEqDiff, Nat.reduceAdd]; done) | (simp only [bxU]; omega) | ((try apply has_setN); apply has_ofL; simp only [bxL]; omega)) only [↓bxD, bxP, bxQ, bxQ2, Nat.reduceBEq, reduceCtorEq, Nat.reduceAdd, Nat.reduceSub, Nat.reduceMul, Nat.reduceLeDiff, Nat.reduceLT, bxR, h5q]
      show Wp fns K13_4 _ _ _
      unfold K13_4
      simp (maxSteps := 4000000) (disch := first | omega | assumption | (simp only [bxS, bxV, stOk, Nat.reduceBEq, Nat.reduceEqDiff, Nat.reduceAdd]; done) | (simp only [bxU]; omega) | ((try apply has_setN); apply has_ofL; simp only [bxL]; omega)) only [↓bxD, bxP, bxQ, bxQ2, Nat.reduceBEq, reduceCtorEq, Nat.reduceAdd, Nat.reduceSub, Nat.reduceMul, Nat.reduceLeDiff, Nat.reduceLT, bxR, h5q]
      refine ⟨(i + 1, l', more'), by simp only; omega, ⟨h'.gr, h'.ok, h'.ext, h'.lo0, h'.b0, h'.id1, h'.id2, h'.row, h'.len, ?_, ?_⟩, by simp only; omega, rfl, ?_, ?_, ?_⟩
      · have := h'.q1
        simp only [q1] at this
        simp (maxSteps := 4000000) (disch := first | omega | assumption | (simp only [bxS, bxV, stOk, Nat.reduceBEq, Nat.reduceEqDiff, Nat.reduceAdd]; done) | (simp only [bxU]; omega) | ((try apply has_setN); apply has_ofL; simp only [bxL]; omega)) only [↓bxD, bxP, bxQ, bxQ2, Nat.reduceBEq, reduceCtorEq, Nat.reduceAdd, Nat.reduceSub, Nat.reduceMul, Nat.reduceLeDiff, Nat.reduceLT, bxR, h5q, this]
      · have := h'.q3
        simp only [q3] at this
        simp (maxSteps := 4000000) (disch := first | omega | assumption | (simp only [bxS, bxV, stOk, Nat.reduceBEq, Nat.reduceEqDiff, Nat.reduceAdd]; done) | (simp only [bxU]; omega) | ((try apply has_setN); apply has_ofL; simp only [bxL]; omega)) only [↓bxD, bxP, bxQ, bxQ2, Nat.reduceBEq, reduceCtorEq, Nat.reduceAdd, Nat.reduceSub, Nat.reduceMul, Nat.reduceLeDiff, Nat.reduceLT, bxR, h5q, this]
      · exact h4'
      · rcases hcase with ⟨rfl, _, _⟩ | ⟨hv, rfl, _⟩
        · exact hs
        · rw [Bool.and_eq_true] at hv
          exact hs.set hmem hv.2
      · rcases hcase with ⟨rfl, rfl, hv⟩ | ⟨hv, rfl, rfl⟩
        · rcases hc with hc | ⟨hc1, hc2, hc3⟩
          · exact .inl hc
          · refine .inr ⟨hc1, hc2, fun r hr' ha => ?_⟩
            rw [List.take_add_one, hr] at hr'
            rcases List.mem_append.1 hr' with h1 | h1
            · exact hc3 r h1 ha
            · simp only [Option.toList_some, List.mem_singleton] at h1
              subst h1
              subst hc2
              simp only at ha
              rw [ha, Bool.and_true] at hv
              simp only [Int.toNat_natCast]
              rw [hbb]
              cases bb with
              | true => rfl
              | false => cases hv
        · left
          refine ⟨rfl, ?_⟩
          rw [Bool.and_eq_true] at hv
          have hb0 : l[an]? = some false := by rw [hbb]; cases bb with
            | true => cases hv.1
            | false => rfl
          have h1 := falses_set hb0
          rcases hc with ⟨_, hc⟩ | ⟨_, rfl, _⟩
          · exact Nat.lt_trans h1 hc
          · exact h1
    · have d1 : decide ((i : Int) < (g.rules.length : Int)) = false := decide_eq_false (by omega)
      have hi2 : i = g.rules.length := by omega
      subst hi2
      rw [List.take_length] at hc
      simp (maxSteps := 4000000) (disch := first | omega | assumption | (simp only [bxS, bxV, stOk, Nat.reduceBEq, Nat.reduceEqDiff, Nat.reduceAdd]; done) | (simp only [bxU]; omega) | ((try apply has_setN); apply has_ofL; simp only [bxL]; omega)) only [↓bxD, bxP, bxQ, bxQ2, Nat.reduceBEq, reduceCtorEq, Nat.reduceAdd, Nat.reduceSub, Nat.reduceMul, Nat.reduceLeDiff, Nat.reduceLT, bxR, hq1, hq3, h4, h5, hr1, hr2, hbox, d1]
      refine hn _ _ l more ⟨h.gr, h.ok, h.ext, h.lo0, h.b0, h.id1, h.id2, h.row, h.len, ?_, ?_⟩ ?_ hs hc
      · simp only [bxP, bxQ, bxQ2, reduceCtorEq, hq1, hq3, h4, h5, hr1, hr2, hbox, d1]
      · simp only [bxP, bxQ, bxQ2, reduceCtorEq, hq1, hq3, h4, h5, hr1, hr2, hbox, d1]
      · simp only [bxP, bxQ, bxQ2, reduceCtorEq, hq1, hq3, h4, h5, hr1, hr2, hbox, d1]
  · refine ⟨⟨h.gr, h.ok, h.ext, h.lo0, h.b0, h.id1, h.id2, h.row, h.len, ?_, ?_⟩, Nat.zero_le _, ?_, ?_, hs, .inr ⟨rfl, rfl, ?_⟩⟩
    · have := h.q1
      simp only [q1] at this
      simp (maxSteps := 4000000) (disch := first | omega | assumption | (simp only [bxS, bxV, stOk, Nat.reduceBEq, Nat.reduceEqDiff, Nat.reduceAdd]; done) | (simp only [bxU]; omega) | ((try apply has_setN); apply has_ofL; simp only [bxL]; omega)) only [↓bxD, bxP, bxQ, bxQ2, Nat.reduceBEq, reduceCtorEq, Nat.reduceAdd, Nat.reduceSub, Nat.reduceMul, Nat.reduceLeDiff, Nat.reduceLT, bxR, this]
    · have := h.q3
      simp only [q3] at this
      simp (maxSteps := 4000000) (disch := first | omega | assumption | (simp only [bxS, bxV, stOk, Nat.reduceBEq, Nat.reduceEqDiff, Nat.reduceAdd]; done) | (simp only [bxU]; omega) | ((try apply has_setN); apply has_ofL; simp only [bxL]; omega)) only [↓bxD, bxP, bxQ, bxQ2, Nat.reduceBEq, reduceCtorEq, Nat.reduceAdd, Nat.reduceSub, Nat.reduceMul, Nat.reduceLeDiff, Nat.reduceLT, bxR, this]
    · simp only [bxP, bxQ, bxQ2, reduceCtorEq] <;> rfl
    · simp only [bxP, bxQ, bxQ2, reduceCtorEq]
    · intro r hr; simp at hr
theorem formed_any {M : MH} {g : Gr} {vr vf vc vk : MV} {es : List (List MV)} (h : GrAt M vr vf vc vk es g) (hlo : M.lo ≤ M.n) : Cp fns 30 [.ag (gcs g vr vf vc vk)] M fun m M' => m = .b (decide ((formP g).2 = 0)) ∧ Ext M M' := by
  have hG : ∀ l, l = gcs g vr vf vc vk → Ev.getN (ofL l 0) 7 0 = some (gcs g vr vf vc vk) := fun l e => by subst e; exact (at_ofL (gcs g vr vf vc vk)).getN
  have hG := hG [MV.i IntKind.i64 g.names, MV.i IntKind.i64 g.kinds, MV.i IntKind.i64 g.start, vr, vf, vc, vk] rfl
  refine Cp_call (fn := F30) (by kernel_rfl) (Nat.le_of_ble_eq_true rfl) ?_
  show Wp fns B30 (T.set q0 (some (.ag (gcs g vr vf vc vk))) T.lf) M _
  unfold B30
  rw [show gcs g vr vf vc vk = [MV.i IntKind.i64 g.names, MV.i IntKind.i64 g.kinds, MV.i IntKind.i64 g.start, vr, vf, vc, vk] from rfl]
  simp (maxSteps := 4000000) (disch := first | omega | assumption | (simp only [bxS, bxV, stOk, Nat.reduceBEq, Nat.reduceEqDiff, Nat.reduceAdd]; done) | (simp only [bxU]; omega) | ((try apply has_setN); apply has_ofL; simp only [bxL]; omega)) only [↓bxD, bxP, bxQ, bxQ2, Nat.reduceBEq, reduceCtorEq, Nat.reduceAdd, Nat.reduceSub, Nat.reduceMul, Nat.reduceLeDiff, Nat.reduceLT, bxR, hG]
  refine bindP_call (form_any (h.ext (.push M _)) (by show M.lo ≤ M.n + 1; omega)) ?_
  rintro m M2 ⟨rfl, hx⟩
  simp (maxSteps := 4000000) (disch := first | omega | assumption | (simp only [bxS, bxV, stOk, Nat.reduceBEq, Nat.reduceEqDiff, Nat.reduceAdd]; done) | (simp only [bxU]; omega) | ((try apply has_setN); apply has_ofL; simp only [bxL]; omega)) only [↓bxD, bxP, bxQ, bxQ2, Nat.reduceBEq, reduceCtorEq, Nat.reduceAdd, Nat.reduceSub, Nat.reduceMul, Nat.reduceLeDiff, Nat.reduceLT, bxR, hG]
  exact (Ext.push M _).trans hx
theorem nullable_any {M : MH} {g : Gr} {vr vf vc vk : MV} {es : List (List MV)} (h : GrAt M vr vf vc vk es g) (hlo : M.lo ≤ M.n) : Cp fns 13 [.ag (gcs g vr vf vc vk)] M fun m M' => Ext M M' ∧ (((formP g).2 ≠ 0 ∧ m = .nils) ∨ ((formP g).2 = 0 ∧ ∃ l, NulVec g l ∧ BRow M' m l)) := by
  have hG : ∀ l, l = gcs g vr vf vc vk → Ev.getN (ofL l 0) 7 0 = some (gcs g vr vf vc vk) := fun l e => by subst e; exact (at_ofL (gcs g vr vf vc vk)).getN
  have hG := hG [MV.i IntKind.i64 g.names, MV.i IntKind.i64 g.kinds, MV.i IntKind.i64 g.start, vr, vf, vc, vk] rfl
  refine Cp_call (fn := F13) (by kernel_rfl) (Nat.le_of_ble_eq_true rfl) ?_
  show Wp fns B13 (T.set q0 (some (.ag (gcs g vr vf vc vk))) T.lf) M _
  unfold B13
  rw [show gcs g vr vf vc vk = [MV.i IntKind.i64 g.names, MV.i IntKind.i64 g.kinds, MV.i IntKind.i64 g.start, vr, vf, vc, vk] from rfl]
  simp (maxSteps := 4000000) (disch := first | omega | assumption | (simp only [bxS, bxV, stOk, Nat.reduceBEq, Nat.reduceEqDiff, Nat.reduceAdd]; done) | (simp only [bxU]; omega) | ((try apply has_setN); apply has_ofL; simp only [bxL]; omega)) only [↓bxD, bxP, bxQ, bxQ2, Nat.reduceBEq, reduceCtorEq, Nat.reduceAdd, Nat.reduceSub, Nat.reduceMul, Nat.reduceLeDiff, Nat.reduceLT, bxR, hG]
  generalize hM1 : M.push _ = M1
  have hg0 : M1.get M.n = some (.cs false 7 (ofL (gcs g vr vf vc vk) 0)) := by rw [← hM1]; exact push_new _
  have hx1 : Ext M M1 := by rw [← hM1]; exact Ext.push M _
  have hn1 : M1.n = M.n + 1 := by rw [← hM1]; rfl
  have hl1 := hx1.lo
  clear hM1
  refine bindP_call (formed_any (h.ext hx1) (by omega)) ?_
  rintro m M2 ⟨rfl, hx2⟩
  have hn2 := hx2.n
  have hl2 := hx2.lo
  have hg2 := (hx2.old M.n (by omega)).trans hg0
  by_cases hz : (formP g).2 = 0
  · have dz : decide ((formP g).2 = 0) = true := decide_eq_true hz
    have hok := form_ok hz
    obtain ⟨nn, hnn⟩ : ∃ n : Nat, g.names = n := ⟨g.names.toNat, by have := hok.n1; omega⟩
    have hn40 := hok.n2
    have hg3 := hg2
    unfold gcs at hg3
    simp (maxSteps := 4000000) (disch := first | omega | assumption | (simp only [bxS, bxV, stOk, Nat.reduceBEq, Nat.reduceEqDiff, Nat.reduceAdd]; done) | (simp only [bxU]; omega) | ((try apply has_setN); apply has_ofL; simp only [bxL]; omega)) only [↓bxD, bxP, bxQ, bxQ2, Nat.reduceBEq, reduceCtorEq, Nat.reduceAdd, Nat.reduceSub, Nat.reduceMul, Nat.reduceLeDiff, Nat.reduceLT, bxR, dz, hg3, hnn, ev_mks, mks_ok]
    show Wp fns K13_10 _ _ _
    unfold K13_10
    simp (maxSteps := 4000000) (disch := first | omega | assumption | (simp only [bxS, bxV, stOk, Nat.reduceBEq, Nat.reduceEqDiff, Nat.reduceAdd]; done) | (simp only [bxU]; omega) | ((try apply has_setN); apply has_ofL; simp only [bxL]; omega)) only [↓bxD, bxP, bxQ, bxQ2, Nat.reduceBEq, reduceCtorEq, Nat.reduceAdd, Nat.reduceSub, Nat.reduceMul, Nat.reduceLeDiff, Nat.reduceLT, bxR, dz, hg3, hnn, ev_mks, mks_ok]
    have hrow := BoolsAt.new (M := M2) nn
    generalize hM3 : M2.push _ = M3 at hrow
    have hx3 : Ext M2 M3 := by rw [← hM3]; exact Ext.push M2 _
    have hn3 : M3.n = M2.n + 1 := by rw [← hM3]; rfl
    clear hM3
    refine Wp_inv (σ := List Bool × Bool) (fun s f1 M1 => NSt M M1 g vr vf vc vk es M2.n s.1 f1 ∧ X.ev f1 (.t q4) = .b s.2 ∧ NulSound g s.1 ∧ (s.2 = false → NulClosed s.1 g.rules)) (fun s => 2 * falses s.1 + (if s.2 = true then 1 else 0)) ?_ (List.replicate nn false, true) ?_
    · rintro ⟨l, more⟩ f1 M4 ⟨h4, ht, hs, hc⟩
      simp only at h4 ht hs hc
      have hq1 := h4.q1
      have hq3 := h4.q3
      simp only [q1, q3, q4] at hq1 hq3 ht
      unfold L13_8
      cases more with
      | true =>
        simp (maxSteps := 4000000) (disch := first | omega | assumption | (simp only [bxS, bxV, stOk, Nat.reduceBEq, Nat.reduceEqDiff, Nat.reduceAdd]; done) | (simp only [bxU]; omega) | ((try apply has_setN); apply has_ofL; simp only [bxL]; omega)) only [↓bxD, bxP, bxQ, bxQ2, Nat.reduceBEq, reduceCtorEq, Nat.reduceAdd, Nat.reduceSub, Nat.reduceMul, Nat.reduceLeDiff, Nat.reduceLT, bxR, hq1, hq3, ht]
        show Wp fns K13_7 _ _ _
        refine null_round ⟨h4.gr, h4.ok, h4.ext, h4.lo0, h4.b0, h4.id1, h4.id2, h4.row, h4.len, ?_, ?_⟩ hs _ ?_
        · simp only [bxP, bxQ, bxQ2, reduceCtorEq, hq1, hq3, ht]
        · simp only [bxP, bxQ, bxQ2, reduceCtorEq, hq1, hq3, ht]
        intro f' M' l' more' h' h4' hs' hcase
        refine ⟨(l', more'), ?_, h', h4', hs', fun e => ?_⟩
        · rcases hcase with ⟨rfl, hlt⟩ | ⟨rfl, rfl, _⟩
          · simp only [if_true]; omega
          · simp
        · rcases hcase with ⟨rfl, _⟩ | ⟨_, rfl, hc'⟩
          · cases e
          · exact hc'
      | false =>
        simp (maxSteps := 4000000) (disch := first | omega | assumption | (simp only [bxS, bxV, stOk, Nat.reduceBEq, Nat.reduceEqDiff, Nat.reduceAdd]; done) | (simp only [bxU]; omega) | ((try apply has_setN); apply has_ofL; simp only [bxL]; omega)) only [↓bxD, bxP, bxQ, bxQ2, Nat.reduceBEq, reduceCtorEq, Nat.reduceAdd, Nat.reduceSub, Nat.reduceMul, Nat.reduceLeDiff, Nat.reduceLT, bxR, hq1, hq3, ht]
        show Wp fns K13_9 _ _ _
        unfold K13_9
        simp (maxSteps := 4000000) (disch := first | omega | assumption | (simp only [bxS, bxV, stOk, Nat.reduceBEq, Nat.reduceEqDiff, Nat.reduceAdd]; done) | (simp only [bxU]; omega) | ((try apply has_setN); apply has_ofL; simp only [bxL]; omega)) only [↓bxD, bxP, bxQ, bxQ2, Nat.reduceBEq, reduceCtorEq, Nat.reduceAdd, Nat.reduceSub, Nat.reduceMul, Nat.reduceLeDiff, Nat.reduceLT, bxR, hq1, hq3, ht]
        refine ⟨h4.ext, .inr ⟨hz, l, nul_vec h4.len hs (hc rfl), ?_⟩⟩
        exact h4.row.row h4.id2
    · refine ⟨⟨h, hok, (hx1.trans hx2).trans hx3, hlo, (hx3.old _ (by omega)).trans hg2, by omega, by omega, hrow, by rw [List.length_replicate, hnn]; rfl, ?_, ?_⟩, ?_, fun a e => ?_, fun e => by cases e⟩
      · simp only [bxP, bxQ, bxQ2, reduceCtorEq, dz, hg3, hnn, ev_mks, mks_ok]
      · simp (maxSteps := 4000000) (disch := first | omega | assumption | (simp only [bxS, bxV, stOk, Nat.reduceBEq, Nat.reduceEqDiff, Nat.reduceAdd]; done) | (simp only [bxU]; omega) | ((try apply has_setN); apply has_ofL; simp only [bxL]; omega)) only [↓bxD, bxP, bxQ, bxQ2, Nat.reduceBEq, reduceCtorEq, Nat.reduceAdd, Nat.reduceSub, Nat.reduceMul, Nat.reduceLeDiff, Nat.reduceLT, bxR, dz, hg3, hnn, ev_mks, mks_ok, List.length_replicate]
      · simp only [bxP, bxQ, bxQ2, reduceCtorEq, dz, hg3, hnn, ev_mks, mks_ok]
      · rw [List.getElem?_replicate] at e
        split at e <;> cases e
  · have dz : decide ((formP g).2 = 0) = false := decide_eq_false hz
    simp (maxSteps := 4000000) (disch := first | omega | assumption | (simp only [bxS, bxV, stOk, Nat.reduceBEq, Nat.reduceEqDiff, Nat.reduceAdd]; done) | (simp only [bxU]; omega) | ((try apply has_setN); apply has_ofL; simp only [bxL]; omega)) only [↓bxD, bxP, bxQ, bxQ2, Nat.reduceBEq, reduceCtorEq, Nat.reduceAdd, Nat.reduceSub, Nat.reduceMul, Nat.reduceLeDiff, Nat.reduceLT, bxR, dz]
    exact ⟨hx1.trans hx2, .inl hz⟩
end Go.Proofs.YtdggbpfpjkokpaaDoor.K
set_option linter.unusedSimpArgs false
set_option linter.unusedVariables false
namespace Go.Proofs.YtdggbpfpjkokpaaDoor.K
open Go Ev
set_option maxRecDepth 100000
set_option maxHeartbeats 4000000

structure BSt (M0 M : MH) (kk : Nat) (xs : List MV) (vn vf vl : MV) (id : Nat) (o : List Bool) (i : Nat) (f : Fr) : Prop where
  ext : Ext M0 M
  lo0 : M0.lo ≤ M0.n
  b0 : M.get M0.n = some (.cs false 7 (ofL xs 0))
  id1 : M0.n < id
  id2 : id < M.n
  row : BoolsAt M id o
  len : o.length = kk + 1
  q1 : X.ev f (.t q1) = vn
  q2 : X.ev f (.t q2) = vf
  q3 : X.ev f (.t q3) = vl
  q4 : X.ev f (.t q4) = .p M0.n 0
  q10 : X.ev f (.t q10) = .sl id 0 (kk + 1) 0
  q11 : X.ev f (.t q11) = .i .i64 (i : Int)
/-- Up to a kind a row is joined in. -/
def upTo (o0 fs o : List Bool) (t : Nat) : Prop := ∀ j, bAt o j = if j < t then (bAt o0 j || bAt fs j) else bAt o0 j
theorem beg_row {M0 M : MH} {kk : Nat} {x0 x2 x3 x4 x5 x6 vn vf vl : MV} {id : Nat} {o0 : List Bool} {i : Nat} {f : Fr} (h : BSt M0 M kk [x0, .i .i64 kk, x2, x3, x4, x5, x6] vn vf vl id o0 i f) {es : List (List MV)} {F : List (List Bool)} {l : List Int} {n : Nat} {fs : List Bool}
    (hF : MRow M0 vf es F) (hl : IntRow M0 vl l) (hi : l[i]? = some (n : Int)) (hfs : F[n]? = some fs) (hfl : fs.length = kk + 1) (hkk : kk ≤ 40) (ht : X.ev f (.t q12) = .i .i64 0) (Q : Post)
    (hn : ∀ f' M' o, BSt M0 M' kk [x0, .i .i64 kk, x2, x3, x4, x5, x6] vn vf vl id o i f' → upTo o0 fs o kk → Q .norm f' M') : Wp fns (.loop L32_2) f M (blockQ 2 Q) := by
  have hnF : n < F.length := (List.getElem?_eq_some_iff.1 hfs).1
  refine Wp_inv (σ := Nat × List Bool) (fun s f1 M1 => BSt M0 M1 kk [x0, .i .i64 kk, x2, x3, x4, x5, x6] vn vf vl id s.2 i f1 ∧ X.ev f1 (.t q12) = .i .i64 (s.1 : Int) ∧ s.1 ≤ kk ∧ upTo o0 fs s.2 s.1) (fun s => kk - s.1) ?_ (0, o0) ?_
  · rintro ⟨t, o⟩ f1 M1 ⟨h, ht, htk, hu⟩
    simp only at h ht htk hu
    obtain ⟨hx, hlo, hbox, hid1, hid2, hrow, hlen, hq1, hq2, hq3, hq4, hq10, hq11⟩ := h
    simp only [q1, q2, q3, q4, q10, q11, q12] at hq1 hq2 hq3 hq4 hq10 hq11 ht
    obtain ⟨hl1, hl2⟩ := hl.sl
    obtain ⟨hf1, hf2⟩ := hF.row.sl
    rw [hF.len] at hf2
    have hil := (List.getElem?_eq_some_iff.1 hi).1
    obtain ⟨ro, s, c, hg, hgl, hC⟩ := (hl.ext hx).read hi
    obtain ⟨ur, ro2, s2, c2, hg2, hgl2, hC2, hB⟩ := (hF.ext hx).read hfs
    obtain ⟨hb1, hb2⟩ := hB.sl
    have hel := hx.lo
    obtain ⟨tt, ht1, ht2, ht3, ht4⟩ := hrow.read
    unfold L32_2
    by_cases htk1 : t < kk
    · have d1 : decide ((t : Int) < (kk : Int)) = true := decide_eq_true (by omega)
      obtain ⟨ro3, s3, c3, hg3, hgl3, hC3⟩ := hB.read (i := t) (by omega)
      have hR := ht2 t _ (bAt_at (by omega))
      have hH := ht3 t (by omega)
      have hfin : ∀ v, v = (bAt o t || bAt fs t) → upTo o0 fs (o.set t v) (t + 1) := fun v e j => by
        rw [bAt_set (by omega)]
        have h1 := hu j
        by_cases hj : t = j
        · subst hj
          rw [if_pos rfl, if_pos (by omega), e, hu t, if_neg (by omega)]
        · rw [if_neg hj, h1]
          by_cases h2 : j < t
          · rw [if_pos h2, if_pos (by omega)]
          · rw [if_neg h2, if_neg (by omega)]
      cases hv : bAt o t with
      | true =>
        rw [hv] at hR
        simp (maxSteps := 4000000) (disch := first | omega | assumption | (simp only [bxS, bxV, stOk, Nat.reduceBEq, Nat.reduceEqDiff, Nat.reduceAdd]; done) | (simp only [bxU]; omega) | ((try apply has_setN); apply has_ofL; simp only [bxL]; omega)) only [↓bxD, bxP, bxQ, bxQ2, Nat.reduceBEq, reduceCtorEq, Nat.reduceAdd, Nat.reduceSub, Nat.reduceMul, Nat.reduceLeDiff, Nat.reduceLT, bxR, hq1, hq2, hq3, hq4, hq10, hq11, ht, hbox, hl1, hl2, hf1, hf2, hg, hC, hg2, hC2, hb1, hb2, ht1, hR, hg3, hC3, d1, ix_slc, len_slc]
        show Wp fns K32_1 _ _ _
        unfold K32_1
        simp (maxSteps := 4000000) (disch := first | omega | assumption | (simp only [bxS, bxV, stOk, Nat.reduceBEq, Nat.reduceEqDiff, Nat.reduceAdd]; done) | (simp only [bxU]; omega) | ((try apply has_setN); apply has_ofL; simp only [bxL]; omega)) only [↓bxD, bxP, bxQ, bxQ2, Nat.reduceBEq, reduceCtorEq, Nat.reduceAdd, Nat.reduceSub, Nat.reduceMul, Nat.reduceLeDiff, Nat.reduceLT, bxR, hq1, hq2, hq3, hq4, hq10, hq11, ht, hbox, hl1, hl2, hf1, hf2, hg, hC, hg2, hC2, hb1, hb2, ht1, hR, hg3, hC3, d1, ix_slc, len_slc]
        show Wp fns K32_0 _ _ _
        unfold K32_0
        simp (maxSteps := 4000000) (disch := first | omega | assumption | (simp only [bxS, bxV, stOk, Nat.reduceBEq, Nat.reduceEqDiff, Nat.reduceAdd]; done) | (simp only [bxU]; omega) | ((try apply has_setN); apply has_ofL; simp only [bxL]; omega)) only [↓bxD, bxP, bxQ, bxQ2, Nat.reduceBEq, reduceCtorEq, Nat.reduceAdd, Nat.reduceSub, Nat.reduceMul, Nat.reduceLeDiff, Nat.reduceLT, bxR, hq1, hq2, hq3, hq4, hq10, hq11, ht, hbox, hl1, hl2, hf1, hf2, hg, hC, hg2, hC2, hb1, hb2, ht1, hR, hg3, hC3, d1, ix_slc, len_slc]
        generalize hM2 : M1.set id _ = M2
        have hx2 : Ext M0 M2 := by rw [← hM2]; exact hx.set _ (by omega)
        have hrow2 : BoolsAt M2 id (o.set t (true)) := ⟨_, by rw [← hM2, set_same]; rfl, ht4 t (true) (by omega)⟩
        have hb2' : M2.get M0.n = some (.cs false 7 (ofL [x0, .i .i64 kk, x2, x3, x4, x5, x6] 0)) := by rw [← hM2, set_ne (by omega)]; exact hbox
        have hn2 : M2.n = M1.n := by rw [← hM2]; rfl
        clear hM2
        refine ⟨(t + 1, o.set t (true)), by simp only; omega, ⟨hx2, hlo, hb2', hid1, by omega, hrow2, by rw [List.length_set]; exact hlen, ?_, ?_, ?_, ?_, ?_, ?_⟩, rfl, by simp only; omega, hfin _ (by rw [hv]; rfl)⟩
        · simp only [bxP, bxQ, bxQ2, reduceCtorEq, hq1, hq2, hq3, hq4, hq10, hq11, ht, hbox, hl1, hl2, hf1, hf2, hg, hC, hg2, hC2, hb1, hb2, ht1, hR, hg3, hC3, d1, ix_slc, len_slc]
        · simp only [bxP, bxQ, bxQ2, reduceCtorEq, hq1, hq2, hq3, hq4, hq10, hq11, ht, hbox, hl1, hl2, hf1, hf2, hg, hC, hg2, hC2, hb1, hb2, ht1, hR, hg3, hC3, d1, ix_slc, len_slc]
        · simp only [bxP, bxQ, bxQ2, reduceCtorEq, hq1, hq2, hq3, hq4, hq10, hq11, ht, hbox, hl1, hl2, hf1, hf2, hg, hC, hg2, hC2, hb1, hb2, ht1, hR, hg3, hC3, d1, ix_slc, len_slc]
        · simp only [bxP, bxQ, bxQ2, reduceCtorEq, hq1, hq2, hq3, hq4, hq10, hq11, ht, hbox, hl1, hl2, hf1, hf2, hg, hC, hg2, hC2, hb1, hb2, ht1, hR, hg3, hC3, d1, ix_slc, len_slc]
        · simp only [bxP, bxQ, bxQ2, reduceCtorEq, hq1, hq2, hq3, hq4, hq10, hq11, ht, hbox, hl1, hl2, hf1, hf2, hg, hC, hg2, hC2, hb1, hb2, ht1, hR, hg3, hC3, d1, ix_slc, len_slc]
        · simp only [bxP, bxQ, bxQ2, reduceCtorEq, hq1, hq2, hq3, hq4, hq10, hq11, ht, hbox, hl1, hl2, hf1, hf2, hg, hC, hg2, hC2, hb1, hb2, ht1, hR, hg3, hC3, d1, ix_slc, len_slc]
      | false =>
        rw [hv] at hR
        simp (maxSteps := 4000000) (disch := first | omega | assumption | (simp only [bxS, bxV, stOk, Nat.reduceBEq, Nat.reduceEqDiff, Nat.reduceAdd]; done) | (simp only [bxU]; omega) | ((try apply has_setN); apply has_ofL; simp only [bxL]; omega)) only [↓bxD, bxP, bxQ, bxQ2, Nat.reduceBEq, reduceCtorEq, Nat.reduceAdd, Nat.reduceSub, Nat.reduceMul, Nat.reduceLeDiff, Nat.reduceLT, bxR, hq1, hq2, hq3, hq4, hq10, hq11, ht, hbox, hl1, hl2, hf1, hf2, hg, hC, hg2, hC2, hb1, hb2, ht1, hR, hg3, hC3, d1, ix_slc, len_slc]
        show Wp fns K32_1 _ _ _
        unfold K32_1
        simp (maxSteps := 4000000) (disch := first | omega | assumption | (simp only [bxS, bxV, stOk, Nat.reduceBEq, Nat.reduceEqDiff, Nat.reduceAdd]; done) | (simp only [bxU]; omega) | ((try apply has_setN); apply has_ofL; simp only [bxL]; omega)) only [↓bxD, bxP, bxQ, bxQ2, Nat.reduceBEq, reduceCtorEq, Nat.reduceAdd, Nat.reduceSub, Nat.reduceMul, Nat.reduceLeDiff, Nat.reduceLT, bxR, hq1, hq2, hq3, hq4, hq10, hq11, ht, hbox, hl1, hl2, hf1, hf2, hg, hC, hg2, hC2, hb1, hb2, ht1, hR, hg3, hC3, d1, ix_slc, len_slc]
        show Wp fns K32_0 _ _ _
        unfold K32_0
        simp (maxSteps := 4000000) (disch := first | omega | assumption | (simp only [bxS, bxV, stOk, Nat.reduceBEq, Nat.reduceEqDiff, Nat.reduceAdd]; done) | (simp only [bxU]; omega) | ((try apply has_setN); apply has_ofL; simp only [bxL]; omega)) only [↓bxD, bxP, bxQ, bxQ2, Nat.reduceBEq, reduceCtorEq, Nat.reduceAdd, Nat.reduceSub, Nat.reduceMul, Nat.reduceLeDiff, Nat.reduceLT, bxR, hq1, hq2, hq3, hq4, hq10, hq11, ht, hbox, hl1, hl2, hf1, hf2, hg, hC, hg2, hC2, hb1, hb2, ht1, hR, hg3, hC3, d1, ix_slc, len_slc]
        generalize hM2 : M1.set id _ = M2
        have hx2 : Ext M0 M2 := by rw [← hM2]; exact hx.set _ (by omega)
        have hrow2 : BoolsAt M2 id (o.set t (bAt fs t)) := ⟨_, by rw [← hM2, set_same]; rfl, ht4 t (bAt fs t) (by omega)⟩
        have hb2' : M2.get M0.n = some (.cs false 7 (ofL [x0, .i .i64 kk, x2, x3, x4, x5, x6] 0)) := by rw [← hM2, set_ne (by omega)]; exact hbox
        have hn2 : M2.n = M1.n := by rw [← hM2]; rfl
        clear hM2
        refine ⟨(t + 1, o.set t (bAt fs t)), by simp only; omega, ⟨hx2, hlo, hb2', hid1, by omega, hrow2, by rw [List.length_set]; exact hlen, ?_, ?_, ?_, ?_, ?_, ?_⟩, rfl, by simp only; omega, hfin _ (by rw [hv]; rfl)⟩
        · simp only [bxP, bxQ, bxQ2, reduceCtorEq, hq1, hq2, hq3, hq4, hq10, hq11, ht, hbox, hl1, hl2, hf1, hf2, hg, hC, hg2, hC2, hb1, hb2, ht1, hR, hg3, hC3, d1, ix_slc, len_slc]
        · simp only [bxP, bxQ, bxQ2, reduceCtorEq, hq1, hq2, hq3, hq4, hq10, hq11, ht, hbox, hl1, hl2, hf1, hf2, hg, hC, hg2, hC2, hb1, hb2, ht1, hR, hg3, hC3, d1, ix_slc, len_slc]
        · simp only [bxP, bxQ, bxQ2, reduceCtorEq, hq1, hq2, hq3, hq4, hq10, hq11, ht, hbox, hl1, hl2, hf1, hf2, hg, hC, hg2, hC2, hb1, hb2, ht1, hR, hg3, hC3, d1, ix_slc, len_slc]
        · simp only [bxP, bxQ, bxQ2, reduceCtorEq, hq1, hq2, hq3, hq4, hq10, hq11, ht, hbox, hl1, hl2, hf1, hf2, hg, hC, hg2, hC2, hb1, hb2, ht1, hR, hg3, hC3, d1, ix_slc, len_slc]
        · simp only [bxP, bxQ, bxQ2, reduceCtorEq, hq1, hq2, hq3, hq4, hq10, hq11, ht, hbox, hl1, hl2, hf1, hf2, hg, hC, hg2, hC2, hb1, hb2, ht1, hR, hg3, hC3, d1, ix_slc, len_slc]
        · simp only [bxP, bxQ, bxQ2, reduceCtorEq, hq1, hq2, hq3, hq4, hq10, hq11, ht, hbox, hl1, hl2, hf1, hf2, hg, hC, hg2, hC2, hb1, hb2, ht1, hR, hg3, hC3, d1, ix_slc, len_slc]
    · have d1 : decide ((t : Int) < (kk : Int)) = false := decide_eq_false (by omega)
      have hte : t = kk := by omega
      subst hte
      simp (maxSteps := 4000000) (disch := first | omega | assumption | (simp only [bxS, bxV, stOk, Nat.reduceBEq, Nat.reduceEqDiff, Nat.reduceAdd]; done) | (simp only [bxU]; omega) | ((try apply has_setN); apply has_ofL; simp only [bxL]; omega)) only [↓bxD, bxP, bxQ, bxQ2, Nat.reduceBEq, reduceCtorEq, Nat.reduceAdd, Nat.reduceSub, Nat.reduceMul, Nat.reduceLeDiff, Nat.reduceLT, bxR, hq1, hq2, hq3, hq4, hq10, hq11, ht, hbox, d1]
      refine hn _ _ o ⟨hx, hlo, hbox, hid1, hid2, hrow, hlen, ?_, ?_, ?_, ?_, ?_, ?_⟩ hu
      · simp only [bxP, bxQ, bxQ2, reduceCtorEq, hq1, hq2, hq3, hq4, hq10, hq11, ht, hbox, d1]
      · simp only [bxP, bxQ, bxQ2, reduceCtorEq, hq1, hq2, hq3, hq4, hq10, hq11, ht, hbox, d1]
      · simp only [bxP, bxQ, bxQ2, reduceCtorEq, hq1, hq2, hq3, hq4, hq10, hq11, ht, hbox, d1]
      · simp only [bxP, bxQ, bxQ2, reduceCtorEq, hq1, hq2, hq3, hq4, hq10, hq11, ht, hbox, d1]
      · simp only [bxP, bxQ, bxQ2, reduceCtorEq, hq1, hq2, hq3, hq4, hq10, hq11, ht, hbox, d1]
      · simp only [bxP, bxQ, bxQ2, reduceCtorEq, hq1, hq2, hq3, hq4, hq10, hq11, ht, hbox, d1]
  · exact ⟨h, ht, Nat.zero_le _, fun j => by rw [if_neg (by omega)]⟩
theorem begin_any {M0 : MH} {g : Gr} {kk : Nat} {x2 x3 x4 x5 x6 vn vf vl : MV} {null : List Bool} {es : List (List MV)} {F : List (List Bool)} {l : List Int} (hkk : g.kinds = kk) (hk40 : kk ≤ 40) (hlo : M0.lo ≤ M0.n) (hN : BRow M0 vn null) (hF : MRow M0 vf es F) (hl : IntRow M0 vl l) (hfit : Fit g null F) (hsym : ∀ s ∈ l, symB g s = true) (hwf : ∀ s ∈ l, Wf64 s) (hll : l.length ≤ 9223372036854775807) (hn1 : 1 ≤ g.names) :
    Cp fns 32 [.ag [.i .i64 g.names, .i .i64 kk, x2, x3, x4, x5, x6], vn, vf, vl] M0 fun m M' => Ext M0 M' ∧ ∃ id o, m = .tp [.sl id 0 (kk + 1) 0, .b (allN null l)] ∧ M0.n < id ∧ id < M'.n ∧ BoolsAt M' id o ∧ BegVec null F l kk o := by
  refine Cp_call (fn := F32) (by kernel_rfl) (Nat.le_of_ble_eq_true rfl) ?_
  show Wp fns B32 (T.set q3 (some vl) (T.set q2 (some vf) (T.set q1 (some vn) (T.set q0 (some (.ag [.i .i64 g.names, .i .i64 kk, x2, x3, x4, x5, x6])) T.lf)))) M0 _
  unfold B32
  have e1 : ((kk : Int) + 1) = ((kk + 1 : Nat) : Int) := by omega
  simp (maxSteps := 4000000) (disch := first | omega | assumption | (simp only [bxS, bxV, stOk, Nat.reduceBEq, Nat.reduceEqDiff, Nat.reduceAdd]; done) | (simp only [bxU]; omega) | ((try apply has_setN); apply has_ofL; simp only [bxL]; omega)) only [↓bxD, bxP, bxQ, bxQ2, Nat.reduceBEq, reduceCtorEq, Nat.reduceAdd, Nat.reduceSub, Nat.reduceMul, Nat.reduceLeDiff, Nat.reduceLT, bxR, ev_mks, mks_ok, e1]
  obtain ⟨hl1, hl2⟩ := hl.sl
  generalize hM1 : M0.push _ = M1
  have hx1 : Ext M0 M1 := by rw [← hM1]; exact Ext.push M0 _
  have hg1 : M1.get M0.n = some (.cs false 7 (ofL [.i .i64 g.names, .i .i64 kk, x2, x3, x4, x5, x6] 0)) := by rw [← hM1]; exact push_new _
  have hn2 : M1.n = M0.n + 1 := by rw [← hM1]; rfl
  clear hM1
  have hrow := BoolsAt.new (M := M1) (kk + 1)
  generalize hM2 : M1.push _ = M2 at hrow
  have hx2 : Ext M1 M2 := by rw [← hM2]; exact Ext.push M1 _
  have hn3 : M2.n = M1.n + 1 := by rw [← hM2]; rfl
  clear hM2
  rw [← hn2]
  have hz : ∀ t, bAt (List.replicate (kk + 1) false) t = false := fun t => by
    unfold bAt
    rw [List.getD_eq_getElem?_getD, List.getElem?_replicate]
    split <;> rfl
  refine Wp_inv (σ := Nat × List Bool) (fun s f1 M3 => BSt M0 M3 kk [.i .i64 g.names, .i .i64 kk, x2, x3, x4, x5, x6] vn vf vl M1.n s.2 s.1 f1 ∧ s.1 ≤ l.length ∧ allN null (l.take s.1) = true ∧ (∀ t, t < kk → (bAt s.2 t || begV null F (l.drop s.1) t) = begV null F l t) ∧ bAt s.2 kk = false) (fun s => l.length - s.1) ?_ (0, List.replicate (kk + 1) false) ?_
  · rintro ⟨i, o⟩ f1 M3 ⟨h, hil, han, hbv, hbk⟩
    simp only at h hil han hbv hbk
    obtain ⟨hx, hlo', hbox, hid1, hid2, hrow, hlen, hq1, hq2, hq3, hq4, hq10, hq11⟩ := h
    simp only [q1, q2, q3, q4, q10, q11] at hq1 hq2 hq3 hq4 hq10 hq11
    have hel := hx.lo
    obtain ⟨tt, ht1, ht2, ht3, ht4⟩ := hrow.read
    unfold L32_7
    by_cases hi : i < l.length
    · have d1 : decide ((i : Int) < (l.length : Int)) = true := decide_eq_true (by omega)
      obtain ⟨z, hz⟩ : ∃ z, l[i]? = some z := ⟨_, List.getElem?_eq_getElem hi⟩
      have hmem := List.mem_of_getElem? hz
      obtain ⟨ro, s, c, hg, hgl, hC⟩ := (hl.ext hx).read hz
      have hzs := hsym z hmem
      obtain ⟨hw1, hw2⟩ := hwf z hmem
      by_cases z0 : z < 0
      · have dz : decide (z < 0) = true := decide_eq_true z0
        have hzk := symB_neg hzs z0
        obtain ⟨n, hn⟩ : ∃ n : Nat, Int.negSucc 0 - z = n := ⟨(Int.negSucc 0 - z).toNat, by omega⟩
        have hnk : n < kk := by omega
        have hH := ht3 n (by omega)
        simp (maxSteps := 4000000) (disch := first | omega | assumption | (simp only [bxS, bxV, stOk, Nat.reduceBEq, Nat.reduceEqDiff, Nat.reduceAdd]; done) | (simp only [bxU]; omega) | ((try apply has_setN); apply has_ofL; simp only [bxL]; omega)) only [↓bxD, bxP, bxQ, bxQ2, Nat.reduceBEq, reduceCtorEq, Nat.reduceAdd, Nat.reduceSub, Nat.reduceMul, Nat.reduceLeDiff, Nat.reduceLT, bxR, hq1, hq2, hq3, hq4, hq10, hq11, hbox, hl1, hl2, hg, hC, ht1, d1, dz, hn, ix_slc, len_slc]
        show Wp fns K32_6 _ _ _
        unfold K32_6
        simp (maxSteps := 4000000) (disch := first | omega | assumption | (simp only [bxS, bxV, stOk, Nat.reduceBEq, Nat.reduceEqDiff, Nat.reduceAdd]; done) | (simp only [bxU]; omega) | ((try apply has_setN); apply has_ofL; simp only [bxL]; omega)) only [↓bxD, bxP, bxQ, bxQ2, Nat.reduceBEq, reduceCtorEq, Nat.reduceAdd, Nat.reduceSub, Nat.reduceMul, Nat.reduceLeDiff, Nat.reduceLT, bxR, hq1, hq2, hq3, hq4, hq10, hq11, hbox, hl1, hl2, hg, hC, ht1, d1, dz, hn, ix_slc, len_slc]
        generalize hM4 : M3.set M1.n _ = M4
        have hx4 : Ext M0 M4 := by rw [← hM4]; exact hx.set _ (by omega)
        have hrow4 : BoolsAt M4 M1.n (o.set n true) := ⟨_, by rw [← hM4, set_same]; rfl, ht4 n true (by omega)⟩
        have hn4 : M4.n = M3.n := by rw [← hM4]; rfl
        clear hM4
        have hone : oneN null z = false := by unfold oneN; rw [decide_eq_false (by omega)]; rfl
        have hall : allN null l = false := allN_le (k := i + 1) (by rw [allN_take hz, hone, Bool.and_false])
        refine ⟨hx4, M1.n, o.set n true, by rw [hall], by omega, by omega, hrow4, by rw [List.length_set]; exact hlen, fun t ht => ?_, ?_⟩
        · rw [bAt_set (by omega), ← hbv t ht, begV_drop hz, if_pos z0, show (-1 - z).toNat = n from by omega]
          by_cases e : n = t
          · subst e; simp
          · rw [if_neg e, decide_eq_false (fun x => e x.symm), Bool.or_false]
        · rw [bAt_set (by omega), if_neg (by omega)]; exact hbk
      · have dz : decide (z < 0) = false := decide_eq_false z0
        have hzl := symB_lt hzs (by omega)
        obtain ⟨n, rfl⟩ : ∃ n : Nat, z = n := ⟨z.toNat, by omega⟩
        have hnF : n < F.length := by rw [hfit.f]; omega
        have hnN : n < null.length := by rw [hfit.n]; omega
        obtain ⟨fs, hfs⟩ : ∃ fs, F[n]? = some fs := ⟨_, List.getElem?_eq_getElem hnF⟩
        have hfl : fs.length = kk + 1 := by rw [hfit.r fs (List.mem_of_getElem? hfs), hkk]; rfl
        simp (maxSteps := 4000000) (disch := first | omega | assumption | (simp only [bxS, bxV, stOk, Nat.reduceBEq, Nat.reduceEqDiff, Nat.reduceAdd]; done) | (simp only [bxU]; omega) | ((try apply has_setN); apply has_ofL; simp only [bxL]; omega)) only [↓bxD, bxP, bxQ, bxQ2, Nat.reduceBEq, reduceCtorEq, Nat.reduceAdd, Nat.reduceSub, Nat.reduceMul, Nat.reduceLeDiff, Nat.reduceLT, bxR, hq1, hq2, hq3, hq4, hq10, hq11, hbox, hl1, hl2, hg, hC, ht1, d1, dz, ix_slc, len_slc]
        show Wp fns K32_6 _ _ _
        unfold K32_6
        simp (maxSteps := 4000000) (disch := first | omega | assumption | (simp only [bxS, bxV, stOk, Nat.reduceBEq, Nat.reduceEqDiff, Nat.reduceAdd]; done) | (simp only [bxU]; omega) | ((try apply has_setN); apply has_ofL; simp only [bxL]; omega)) only [↓bxD, bxP, bxQ, bxQ2, Nat.reduceBEq, reduceCtorEq, Nat.reduceAdd, Nat.reduceSub, Nat.reduceMul, Nat.reduceLeDiff, Nat.reduceLT, bxR, hq1, hq2, hq3, hq4, hq10, hq11, hbox, hl1, hl2, hg, hC, ht1, d1, dz, ix_slc, len_slc]
        show Wp fns K32_4 _ _ _
        unfold K32_4
        simp (maxSteps := 4000000) (disch := first | omega | assumption | (simp only [bxS, bxV, stOk, Nat.reduceBEq, Nat.reduceEqDiff, Nat.reduceAdd]; done) | (simp only [bxU]; omega) | ((try apply has_setN); apply has_ofL; simp only [bxL]; omega)) only [↓bxD, bxP, bxQ, bxQ2, Nat.reduceBEq, reduceCtorEq, Nat.reduceAdd, Nat.reduceSub, Nat.reduceMul, Nat.reduceLeDiff, Nat.reduceLT, bxR, hq1, hq2, hq3, hq4, hq10, hq11, hbox, hl1, hl2, hg, hC, ht1, d1, dz, ix_slc, len_slc]
        refine beg_row (vn := vn) ⟨hx, hlo', hbox, hid1, hid2, hrow, hlen, ?_, ?_, ?_, ?_, ?_, ?_⟩ hF hl hz hfs hfl hk40 ?_ _ ?_
        · simp only [bxP, bxQ, bxQ2, reduceCtorEq, hq1, hq2, hq3, hq4, hq10, hq11, hbox, hl1, hl2, hg, hC, ht1, d1, dz, ix_slc, len_slc]
        · simp only [bxP, bxQ, bxQ2, reduceCtorEq, hq1, hq2, hq3, hq4, hq10, hq11, hbox, hl1, hl2, hg, hC, ht1, d1, dz, ix_slc, len_slc]
        · simp only [bxP, bxQ, bxQ2, reduceCtorEq, hq1, hq2, hq3, hq4, hq10, hq11, hbox, hl1, hl2, hg, hC, ht1, d1, dz, ix_slc, len_slc]
        · simp only [bxP, bxQ, bxQ2, reduceCtorEq, hq1, hq2, hq3, hq4, hq10, hq11, hbox, hl1, hl2, hg, hC, ht1, d1, dz, ix_slc, len_slc]
        · simp only [bxP, bxQ, bxQ2, reduceCtorEq, hq1, hq2, hq3, hq4, hq10, hq11, hbox, hl1, hl2, hg, hC, ht1, d1, dz, ix_slc, len_slc]
        · simp only [bxP, bxQ, bxQ2, reduceCtorEq, hq1, hq2, hq3, hq4, hq10, hq11, hbox, hl1, hl2, hg, hC, ht1, d1, dz, ix_slc, len_slc]
        · simp only [bxP, bxQ, bxQ2, reduceCtorEq, hq1, hq2, hq3, hq4, hq10, hq11, hbox, hl1, hl2, hg, hC, ht1, d1, dz, ix_slc, len_slc]
        intro f' M4 o' h' hup
        obtain ⟨hx', hlo2, hbox', hid1', hid2', hrow', hlen', hq1', hq2', hq3', hq4', hq10', hq11'⟩ := h'
        have hqq := And.intro hq1' (And.intro hq2' (And.intro hq3' (And.intro hq4' (And.intro hq10' hq11'))))
        simp only [q1, q2, q3, q4, q10, q11] at hqq
        obtain ⟨p1, p2, p3, p4, p10, p11⟩ := hqq
        obtain ⟨hv1, hv2⟩ := hN.sl
        obtain ⟨ro5, s5, c5, hg5, hgl5, hC5⟩ := (hN.ext hx').read (i := n) hnN
        obtain ⟨ro6, s6, c6, hg6, hgl6, hC6⟩ := (hl.ext hx').read hz
        have hone : oneN null (n : Int) = bAt null n := by unfold oneN bAt; simp
        have hup' : ∀ t, t < kk → bAt o' t = (bAt o t || bAt (F.getD n []) t) := fun t ht => by
          rw [hup t, if_pos ht, List.getD_eq_getElem?_getD, hfs]; rfl
        have hupk : bAt o' kk = false := by rw [hup kk, if_neg (by omega)]; exact hbk
        have hdrop : ∀ t, begV null F (l.drop i) t = (bAt (F.getD n []) t || (bAt null n && begV null F (l.drop (i + 1)) t)) := fun t => by
          rw [begV_drop hz, if_neg z0, Int.toNat_natCast]
        cases hv : bAt null n with
        | true =>
          rw [hv] at hC5 hone hdrop
          show Wp fns K32_3 _ _ _
          unfold K32_3
          simp (maxSteps := 4000000) (disch := first | omega | assumption | (simp only [bxS, bxV, stOk, Nat.reduceBEq, Nat.reduceEqDiff, Nat.reduceAdd]; done) | (simp only [bxU]; omega) | ((try apply has_setN); apply has_ofL; simp only [bxL]; omega)) only [↓bxD, bxP, bxQ, bxQ2, Nat.reduceBEq, reduceCtorEq, Nat.reduceAdd, Nat.reduceSub, Nat.reduceMul, Nat.reduceLeDiff, Nat.reduceLT, bxR, p1, p2, p3, p4, p10, p11, hl1, hl2, hv1, hv2, hg5, hC5, hg6, hC6, d1]
          show Wp fns K32_5 _ _ _
          unfold K32_5
          simp (maxSteps := 4000000) (disch := first | omega | assumption | (simp only [bxS, bxV, stOk, Nat.reduceBEq, Nat.reduceEqDiff, Nat.reduceAdd]; done) | (simp only [bxU]; omega) | ((try apply has_setN); apply has_ofL; simp only [bxL]; omega)) only [↓bxD, bxP, bxQ, bxQ2, Nat.reduceBEq, reduceCtorEq, Nat.reduceAdd, Nat.reduceSub, Nat.reduceMul, Nat.reduceLeDiff, Nat.reduceLT, bxR, p1, p2, p3, p4, p10, p11, hl1, hl2, hv1, hv2, hg5, hC5, hg6, hC6, d1]
          refine ⟨(i + 1, o'), by simp only; omega, ⟨hx', hlo2, hbox', hid1', hid2', hrow', hlen', ?_, ?_, ?_, ?_, ?_, ?_⟩, by simp only; omega, by rw [allN_take hz, han, hone]; rfl, fun t ht => ?_, hupk⟩
          · simp only [bxP, bxQ, bxQ2, reduceCtorEq, p1, p2, p3, p4, p10, p11, hl1, hl2, hv1, hv2, hg5, hC5, hg6, hC6, d1]
          · simp only [bxP, bxQ, bxQ2, reduceCtorEq, p1, p2, p3, p4, p10, p11, hl1, hl2, hv1, hv2, hg5, hC5, hg6, hC6, d1]
          · simp only [bxP, bxQ, bxQ2, reduceCtorEq, p1, p2, p3, p4, p10, p11, hl1, hl2, hv1, hv2, hg5, hC5, hg6, hC6, d1]
          · simp only [bxP, bxQ, bxQ2, reduceCtorEq, p1, p2, p3, p4, p10, p11, hl1, hl2, hv1, hv2, hg5, hC5, hg6, hC6, d1]
          · simp only [bxP, bxQ, bxQ2, reduceCtorEq, p1, p2, p3, p4, p10, p11, hl1, hl2, hv1, hv2, hg5, hC5, hg6, hC6, d1]
          · simp only [bxP, bxQ, bxQ2, reduceCtorEq, p1, p2, p3, p4, p10, p11, hl1, hl2, hv1, hv2, hg5, hC5, hg6, hC6, d1] <;> rfl
          · rw [← hbv t ht, hdrop t]
            simp only
            rw [hup' t ht, Bool.true_and, Bool.or_assoc]
        | false =>
          rw [hv] at hC5 hone hdrop
          show Wp fns K32_3 _ _ _
          unfold K32_3
          simp (maxSteps := 4000000) (disch := first | omega | assumption | (simp only [bxS, bxV, stOk, Nat.reduceBEq, Nat.reduceEqDiff, Nat.reduceAdd]; done) | (simp only [bxU]; omega) | ((try apply has_setN); apply has_ofL; simp only [bxL]; omega)) only [↓bxD, bxP, bxQ, bxQ2, Nat.reduceBEq, reduceCtorEq, Nat.reduceAdd, Nat.reduceSub, Nat.reduceMul, Nat.reduceLeDiff, Nat.reduceLT, bxR, p1, p2, p3, p4, p10, p11, hl1, hl2, hv1, hv2, hg5, hC5, hg6, hC6, d1]
          have hall : allN null l = false := allN_le (k := i + 1) (by rw [allN_take hz, hone, Bool.and_false])
          refine ⟨hx', M1.n, o', by rw [hall], by omega, hid2', hrow', hlen', fun t ht => ?_, hupk⟩
          rw [← hbv t ht, hdrop t, hup' t ht, Bool.false_and, Bool.or_false]
    · have d1 : decide ((i : Int) < (l.length : Int)) = false := decide_eq_false (by omega)
      have hie : i = l.length := by omega
      subst hie
      rw [List.take_length] at han
      simp (maxSteps := 4000000) (disch := first | omega | assumption | (simp only [bxS, bxV, stOk, Nat.reduceBEq, Nat.reduceEqDiff, Nat.reduceAdd]; done) | (simp only [bxU]; omega) | ((try apply has_setN); apply has_ofL; simp only [bxL]; omega)) only [↓bxD, bxP, bxQ, bxQ2, Nat.reduceBEq, reduceCtorEq, Nat.reduceAdd, Nat.reduceSub, Nat.reduceMul, Nat.reduceLeDiff, Nat.reduceLT, bxR, hq1, hq2, hq3, hq4, hq10, hq11, hbox, hl1, hl2, d1]
      show Wp fns K32_8 _ _ _
      unfold K32_8
      simp (maxSteps := 4000000) (disch := first | omega | assumption | (simp only [bxS, bxV, stOk, Nat.reduceBEq, Nat.reduceEqDiff, Nat.reduceAdd]; done) | (simp only [bxU]; omega) | ((try apply has_setN); apply has_ofL; simp only [bxL]; omega)) only [↓bxD, bxP, bxQ, bxQ2, Nat.reduceBEq, reduceCtorEq, Nat.reduceAdd, Nat.reduceSub, Nat.reduceMul, Nat.reduceLeDiff, Nat.reduceLT, bxR, hq1, hq2, hq3, hq4, hq10, hq11, hbox, hl1, hl2, d1]
      refine ⟨hx, M1.n, o, by rw [han], by omega, hid2, hrow, hlen, fun t ht => ?_, hbk⟩
      rw [← hbv t ht, List.drop_length]
      exact (Bool.or_false _).symm
  · refine ⟨⟨hx1.trans hx2, hlo, (hx2.old _ (by omega)).trans hg1, by omega, by omega, hrow, List.length_replicate, ?_, ?_, ?_, ?_, ?_, ?_⟩, Nat.zero_le _, rfl, fun t ht => ?_, hz kk⟩
    · simp only [bxP, bxQ, bxQ2, reduceCtorEq, ev_mks, mks_ok, e1]
    · simp only [bxP, bxQ, bxQ2, reduceCtorEq, ev_mks, mks_ok, e1]
    · simp only [bxP, bxQ, bxQ2, reduceCtorEq, ev_mks, mks_ok, e1]
    · simp only [bxP, bxQ, bxQ2, reduceCtorEq, ev_mks, mks_ok, e1]
    · simp only [bxP, bxQ, bxQ2, reduceCtorEq, ev_mks, mks_ok, e1]
    · simp only [bxP, bxQ, bxQ2, reduceCtorEq, ev_mks, mks_ok, e1] <;> rfl
    · rw [hz t, Bool.false_or, List.drop_zero]
end Go.Proofs.YtdggbpfpjkokpaaDoor.K
set_option linter.unusedSimpArgs false
set_option linter.unusedVariables false
namespace Go.Proofs.YtdggbpfpjkokpaaDoor.K
open Go Ev
set_option maxRecDepth 100000
set_option maxHeartbeats 4000000

/-- What firsts has made ready. -/
structure FCx (Mb : MH) (g : Gr) (vr vf vc vk : MV) (es : List (List MV)) (n0 kk : Nat) (vn : MV) (null : List Bool) : Prop where
  gr : GrAt Mb vr vf vc vk es g
  ok : GrOk g
  box : Mb.get n0 = some (.cs false 7 (ofL (gcs g vr vf vc vk) 0))
  n0lt : n0 < Mb.n
  lo : Mb.lo ≤ Mb.n
  nul : NulVec g null
  nrow : BRow Mb vn null
  hk : g.kinds = kk
structure FSt (Mb M : MH) (n0 kk : Nat) (vn : MV) (id : Nat) (ids : List Nat) (F : List (List Bool)) (f : Fr) : Prop where
  ext : Ext Mb M
  mat : MatOwn M Mb.n id ids F (kk + 1)
  q1 : X.ev f (.t q1) = .p n0 0
  q3 : X.ev f (.t q3) = vn
  q4 : X.ev f (.t q4) = .sl id 0 ids.length 0
structure FIn (Mb : MH) (g : Gr) (n0 kk : Nat) (vn : MV) (id : Nat) (ids : List Nat) (an n8 id9 i : Nat) (c : T MV) (o : List Bool) (F : List (List Bool)) (more : Bool) (t : Nat) (F1 : List (List Bool)) (m1 : Bool) (f1 : Fr) (M1 : MH) : Prop where
  st : FSt Mb M1 n0 kk vn id ids F1 f1
  hn8 : M1.get n8 = some (.cs false 3 c)
  ho : BoolsAt M1 id9 o
  h6 : X.ev f1 (.t q6) = .b m1
  h7 : X.ev f1 (.t q7) = .i .i64 (i : Int)
  h8 : X.ev f1 (.t q8) = .p n8 0
  h9 : X.ev f1 (.t q9) = .sl id9 0 (kk + 1) 0
  h11 : X.ev f1 (.t q11) = .i .i64 (t : Int)
  le : t ≤ kk
  snd : FstSound g F1
  cas : (F1 = F ∧ m1 = more ∧ ∀ u, u < t → bAt o u = true → mAt F an u = true) ∨ (fallM F1 < fallM F ∧ m1 = true)
theorem fst_in {Mb M : MH} {g : Gr} {vr vf vc vk : MV} {es : List (List MV)} {n0 kk : Nat} {vn : MV} {null : List Bool} (cx : FCx Mb g vr vf vc vk es n0 kk vn null) {id : Nat} {ids : List Nat} {F : List (List Bool)} {f : Fr} (h : FSt Mb M n0 kk vn id ids F f)
    {an n8 id9 i : Nat} {c : T MV} {x1 x2 : MV} {o : List Bool} {more : Bool} (han : an < ids.length) (hn8 : M.get n8 = some (.cs false 3 c)) (hC : At c 0 [.i .i64 (an : Int), x1, x2]) (h8n : ∀ j ∈ ids, j ≠ n8) (ho : BoolsAt M id9 o) (h9n : ∀ j ∈ ids, j ≠ id9) (hol : o.length = kk + 1)
    (h6 : X.ev f (.t q6) = .b more) (h7 : X.ev f (.t q7) = .i .i64 (i : Int)) (h8 : X.ev f (.t q8) = .p n8 0) (h9 : X.ev f (.t q9) = .sl id9 0 (kk + 1) 0) (h11 : X.ev f (.t q11) = .i .i64 0)
    (hs : FstSound g F) (hot : ∀ t, t < kk → bAt o t = true → Fst g an t) (Q : Post)
    (hn : ∀ f' M' F' more', FSt Mb M' n0 kk vn id ids F' f' → X.ev f' (.t q6) = .b more' → X.ev f' (.t q7) = .i .i64 (i : Int) → FstSound g F' → ((F' = F ∧ more' = more ∧ ∀ t, t < kk → bAt o t = true → mAt F an t = true) ∨ (fallM F' < fallM F ∧ more' = true)) → Q .norm f' M') :
    Wp fns (.loop L33_5) f M (blockQ 6 Q) := by
  have c0 : cget c 0 = some (.i .i64 (an : Int)) := hC 0 _ rfl
  have hk40 := cx.ok.k2
  have hkk := cx.hk
  refine Wp_inv (σ := Nat × List (List Bool) × Bool) (fun s f1 M1 => FIn Mb g n0 kk vn id ids an n8 id9 i c o F more s.1 s.2.1 s.2.2 f1 M1) (fun s => kk - s.1) ?_ (0, F, more) ?_
  · rintro ⟨t, F1, m1⟩ f1 M1 ⟨h, hn8, ho, h6, h7, h8, h9, h11, htk, hs, hc⟩
    obtain ⟨hx, hmat, hq1, hq3, hq4⟩ := h
    simp only [q1, q3, q4, q6, q7, q8, q9, q11] at hq1 hq3 hq4 h6 h7 h8 h9 h11
    have hbox := (hx.old _ cx.n0lt).trans cx.box
    unfold gcs at hbox
    rw [hkk] at hbox
    have hlo := cx.lo
    have hel := hx.lo
    obtain ⟨to, to1, to2, to3, to4⟩ := ho.read
    obtain ⟨tt, tt1, tt2⟩ := hmat.topr
    obtain ⟨j, hj⟩ : ∃ j, ids[an]? = some j := ⟨_, List.getElem?_eq_getElem han⟩
    have hjm := List.mem_of_getElem? hj
    obtain ⟨jn1, jn2, jn3⟩ := hmat.ne j hjm
    have hT := tt2 an j hj
    unfold L33_5
    by_cases htk1 : t < kk
    · have d1 : decide ((t : Int) < (kk : Int)) = true := decide_eq_true (by omega)
      obtain ⟨cj, cj1, cj2, cj3, cj4⟩ := hmat.at_ hj (t := t) (by omega)
      have hO := to2 t _ (bAt_at (by omega))
      have hJ := cj2 t (by omega)
      cases hv : bAt o t with
      | true =>
        rw [hv] at hO
        cases hw : mAt F1 an t with
        | true =>
          rw [hw] at hJ
          simp (maxSteps := 4000000) (disch := first | omega | assumption | (simp only [bxS, bxV, stOk, Nat.reduceBEq, Nat.reduceEqDiff, Nat.reduceAdd]; done) | (simp only [bxU]; omega) | ((try apply has_setN); apply has_ofL; simp only [bxL]; omega)) only [↓bxD, bxP, bxQ, bxQ2, Nat.reduceBEq, reduceCtorEq, Nat.reduceAdd, Nat.reduceSub, Nat.reduceMul, Nat.reduceLeDiff, Nat.reduceLT, bxR, hq1, hq3, hq4, h6, h7, h8, h9, h11, hbox, hn8, c0, to1, hO, tt1, hT, cj1, hJ, d1, ix_slc, len_slc]
          show Wp fns K33_4 _ _ _
          unfold K33_4
          simp (maxSteps := 4000000) (disch := first | omega | assumption | (simp only [bxS, bxV, stOk, Nat.reduceBEq, Nat.reduceEqDiff, Nat.reduceAdd]; done) | (simp only [bxU]; omega) | ((try apply has_setN); apply has_ofL; simp only [bxL]; omega)) only [↓bxD, bxP, bxQ, bxQ2, Nat.reduceBEq, reduceCtorEq, Nat.reduceAdd, Nat.reduceSub, Nat.reduceMul, Nat.reduceLeDiff, Nat.reduceLT, bxR, hq1, hq3, hq4, h6, h7, h8, h9, h11, hbox, hn8, c0, to1, hO, tt1, hT, cj1, hJ, d1, ix_slc, len_slc]
          show Wp fns K33_3 _ _ _
          unfold K33_3
          simp (maxSteps := 4000000) (disch := first | omega | assumption | (simp only [bxS, bxV, stOk, Nat.reduceBEq, Nat.reduceEqDiff, Nat.reduceAdd]; done) | (simp only [bxU]; omega) | ((try apply has_setN); apply has_ofL; simp only [bxL]; omega)) only [↓bxD, bxP, bxQ, bxQ2, Nat.reduceBEq, reduceCtorEq, Nat.reduceAdd, Nat.reduceSub, Nat.reduceMul, Nat.reduceLeDiff, Nat.reduceLT, bxR, hq1, hq3, hq4, h6, h7, h8, h9, h11, hbox, hn8, c0, to1, hO, tt1, hT, cj1, hJ, d1, ix_slc, len_slc]
          refine ⟨(t + 1, F1, m1), by simp only; omega, ⟨⟨hx, hmat, ?_, ?_, ?_⟩, hn8, ho, ?_, ?_, ?_, ?_, ?_, by simp only; omega, hs, ?_⟩⟩
          · simp only [bxP, bxQ, bxQ2, reduceCtorEq, hq1, hq3, hq4, h6, h7, h8, h9, h11, hbox, hn8, c0, to1, hO, tt1, hT, cj1, hJ, d1, ix_slc, len_slc]
          · simp only [bxP, bxQ, bxQ2, reduceCtorEq, hq1, hq3, hq4, h6, h7, h8, h9, h11, hbox, hn8, c0, to1, hO, tt1, hT, cj1, hJ, d1, ix_slc, len_slc]
          · simp only [bxP, bxQ, bxQ2, reduceCtorEq, hq1, hq3, hq4, h6, h7, h8, h9, h11, hbox, hn8, c0, to1, hO, tt1, hT, cj1, hJ, d1, ix_slc, len_slc]
          · simp only [bxP, bxQ, bxQ2, reduceCtorEq, hq1, hq3, hq4, h6, h7, h8, h9, h11, hbox, hn8, c0, to1, hO, tt1, hT, cj1, hJ, d1, ix_slc, len_slc]
          · simp only [bxP, bxQ, bxQ2, reduceCtorEq, hq1, hq3, hq4, h6, h7, h8, h9, h11, hbox, hn8, c0, to1, hO, tt1, hT, cj1, hJ, d1, ix_slc, len_slc]
          · simp only [bxP, bxQ, bxQ2, reduceCtorEq, hq1, hq3, hq4, h6, h7, h8, h9, h11, hbox, hn8, c0, to1, hO, tt1, hT, cj1, hJ, d1, ix_slc, len_slc]
          · simp only [bxP, bxQ, bxQ2, reduceCtorEq, hq1, hq3, hq4, h6, h7, h8, h9, h11, hbox, hn8, c0, to1, hO, tt1, hT, cj1, hJ, d1, ix_slc, len_slc]
          · simp only [bxP, bxQ, bxQ2, reduceCtorEq, hq1, hq3, hq4, h6, h7, h8, h9, h11, hbox, hn8, c0, to1, hO, tt1, hT, cj1, hJ, d1, ix_slc, len_slc] <;> rfl
          · have hstep : ∀ u, u < t + 1 → (u < t ∨ u = t) := fun u hu => by omega
            rcases hc with ⟨e1, e2, hc⟩ | hc
            · refine .inl ⟨e1, e2, fun u hu hb => ?_⟩
              rcases hstep u hu with h1 | h1
              · exact hc u h1 hb
              · subst h1
                rw [← e1]; exact hw
            · exact .inr hc
        | false =>
          rw [hw] at hJ
          simp (maxSteps := 4000000) (disch := first | omega | assumption | (simp only [bxS, bxV, stOk, Nat.reduceBEq, Nat.reduceEqDiff, Nat.reduceAdd]; done) | (simp only [bxU]; omega) | ((try apply has_setN); apply has_ofL; simp only [bxL]; omega)) only [↓bxD, bxP, bxQ, bxQ2, Nat.reduceBEq, reduceCtorEq, Nat.reduceAdd, Nat.reduceSub, Nat.reduceMul, Nat.reduceLeDiff, Nat.reduceLT, bxR, hq1, hq3, hq4, h6, h7, h8, h9, h11, hbox, hn8, c0, to1, hO, tt1, hT, cj1, hJ, d1, ix_slc, len_slc]
          show Wp fns K33_4 _ _ _
          unfold K33_4
          simp (maxSteps := 4000000) (disch := first | omega | assumption | (simp only [bxS, bxV, stOk, Nat.reduceBEq, Nat.reduceEqDiff, Nat.reduceAdd]; done) | (simp only [bxU]; omega) | ((try apply has_setN); apply has_ofL; simp only [bxL]; omega)) only [↓bxD, bxP, bxQ, bxQ2, Nat.reduceBEq, reduceCtorEq, Nat.reduceAdd, Nat.reduceSub, Nat.reduceMul, Nat.reduceLeDiff, Nat.reduceLT, bxR, hq1, hq3, hq4, h6, h7, h8, h9, h11, hbox, hn8, c0, to1, hO, tt1, hT, cj1, hJ, d1, ix_slc, len_slc]
          show Wp fns K33_3 _ _ _
          unfold K33_3
          simp (maxSteps := 4000000) (disch := first | omega | assumption | (simp only [bxS, bxV, stOk, Nat.reduceBEq, Nat.reduceEqDiff, Nat.reduceAdd]; done) | (simp only [bxU]; omega) | ((try apply has_setN); apply has_ofL; simp only [bxL]; omega)) only [↓bxD, bxP, bxQ, bxQ2, Nat.reduceBEq, reduceCtorEq, Nat.reduceAdd, Nat.reduceSub, Nat.reduceMul, Nat.reduceLeDiff, Nat.reduceLT, bxR, hq1, hq3, hq4, h6, h7, h8, h9, h11, hbox, hn8, c0, to1, hO, tt1, hT, cj1, hJ, d1, ix_slc, len_slc]
          generalize hM2 : M1.set j _ = M2
          have hx2 : Ext Mb M2 := by rw [← hM2]; exact hx.set _ jn2
          have hmat2 : MatOwn M2 Mb.n id ids (setM F1 an t) (kk + 1) := by rw [← hM2]; exact cj4
          have hn82 : M2.get n8 = some (.cs false 3 c) := by rw [← hM2, set_ne (Ne.symm (h8n j hjm))]; exact hn8
          have ho2 : BoolsAt M2 id9 o := ho.same (by rw [← hM2, set_ne (Ne.symm (h9n j hjm))])
          clear hM2
          have hFl : an < F1.length := by rw [← hmat.len]; exact han
          have hFr : t < (F1.getD an []).length := by rw [List.getD_eq_getElem?_getD, List.getElem?_eq_getElem hFl]; simp only [Option.getD_some]; rw [hmat.size _ (List.getElem_mem hFl)]; omega
          refine ⟨(t + 1, setM F1 an t, true), by simp only; omega, ⟨⟨hx2, hmat2, ?_, ?_, ?_⟩, hn82, ho2, ?_, ?_, ?_, ?_, ?_, by simp only; omega, fun a u e => ?_, ?_⟩⟩
          · simp only [bxP, bxQ, bxQ2, reduceCtorEq, hq1, hq3, hq4, h6, h7, h8, h9, h11, hbox, hn8, c0, to1, hO, tt1, hT, cj1, hJ, d1, ix_slc, len_slc]
          · simp only [bxP, bxQ, bxQ2, reduceCtorEq, hq1, hq3, hq4, h6, h7, h8, h9, h11, hbox, hn8, c0, to1, hO, tt1, hT, cj1, hJ, d1, ix_slc, len_slc]
          · simp only [bxP, bxQ, bxQ2, reduceCtorEq, hq1, hq3, hq4, h6, h7, h8, h9, h11, hbox, hn8, c0, to1, hO, tt1, hT, cj1, hJ, d1, ix_slc, len_slc]
          · simp only [bxP, bxQ, bxQ2, reduceCtorEq, hq1, hq3, hq4, h6, h7, h8, h9, h11, hbox, hn8, c0, to1, hO, tt1, hT, cj1, hJ, d1, ix_slc, len_slc]
          · simp only [bxP, bxQ, bxQ2, reduceCtorEq, hq1, hq3, hq4, h6, h7, h8, h9, h11, hbox, hn8, c0, to1, hO, tt1, hT, cj1, hJ, d1, ix_slc, len_slc]
          · simp only [bxP, bxQ, bxQ2, reduceCtorEq, hq1, hq3, hq4, h6, h7, h8, h9, h11, hbox, hn8, c0, to1, hO, tt1, hT, cj1, hJ, d1, ix_slc, len_slc]
          · simp only [bxP, bxQ, bxQ2, reduceCtorEq, hq1, hq3, hq4, h6, h7, h8, h9, h11, hbox, hn8, c0, to1, hO, tt1, hT, cj1, hJ, d1, ix_slc, len_slc]
          · simp only [bxP, bxQ, bxQ2, reduceCtorEq, hq1, hq3, hq4, h6, h7, h8, h9, h11, hbox, hn8, c0, to1, hO, tt1, hT, cj1, hJ, d1, ix_slc, len_slc] <;> rfl
          · rw [mAt_setM hFl hFr] at e
            split at e
            · rename_i e1
              obtain ⟨rfl, rfl⟩ := e1
              exact hot _ htk1 hv
            · exact hs a u e
          · right
            have hlt := fallM_set hFl hFr hw
            refine ⟨?_, rfl⟩
            rcases hc with ⟨e1, _, _⟩ | ⟨hc, _⟩
            · rw [← e1]; exact hlt
            · exact Nat.lt_trans hlt hc
      | false =>
        rw [hv] at hO
        simp (maxSteps := 4000000) (disch := first | omega | assumption | (simp only [bxS, bxV, stOk, Nat.reduceBEq, Nat.reduceEqDiff, Nat.reduceAdd]; done) | (simp only [bxU]; omega) | ((try apply has_setN); apply has_ofL; simp only [bxL]; omega)) only [↓bxD, bxP, bxQ, bxQ2, Nat.reduceBEq, reduceCtorEq, Nat.reduceAdd, Nat.reduceSub, Nat.reduceMul, Nat.reduceLeDiff, Nat.reduceLT, bxR, hq1, hq3, hq4, h6, h7, h8, h9, h11, hbox, hn8, c0, to1, hO, tt1, hT, cj1, d1, ix_slc, len_slc]
        show Wp fns K33_4 _ _ _
        unfold K33_4
        simp (maxSteps := 4000000) (disch := first | omega | assumption | (simp only [bxS, bxV, stOk, Nat.reduceBEq, Nat.reduceEqDiff, Nat.reduceAdd]; done) | (simp only [bxU]; omega) | ((try apply has_setN); apply has_ofL; simp only [bxL]; omega)) only [↓bxD, bxP, bxQ, bxQ2, Nat.reduceBEq, reduceCtorEq, Nat.reduceAdd, Nat.reduceSub, Nat.reduceMul, Nat.reduceLeDiff, Nat.reduceLT, bxR, hq1, hq3, hq4, h6, h7, h8, h9, h11, hbox, hn8, c0, to1, hO, tt1, hT, cj1, d1, ix_slc, len_slc]
        show Wp fns K33_3 _ _ _
        unfold K33_3
        simp (maxSteps := 4000000) (disch := first | omega | assumption | (simp only [bxS, bxV, stOk, Nat.reduceBEq, Nat.reduceEqDiff, Nat.reduceAdd]; done) | (simp only [bxU]; omega) | ((try apply has_setN); apply has_ofL; simp only [bxL]; omega)) only [↓bxD, bxP, bxQ, bxQ2, Nat.reduceBEq, reduceCtorEq, Nat.reduceAdd, Nat.reduceSub, Nat.reduceMul, Nat.reduceLeDiff, Nat.reduceLT, bxR, hq1, hq3, hq4, h6, h7, h8, h9, h11, hbox, hn8, c0, to1, hO, tt1, hT, cj1, d1, ix_slc, len_slc]
        refine ⟨(t + 1, F1, m1), by simp only; omega, ⟨⟨hx, hmat, ?_, ?_, ?_⟩, hn8, ho, ?_, ?_, ?_, ?_, ?_, by simp only; omega, hs, ?_⟩⟩
        · simp only [bxP, bxQ, bxQ2, reduceCtorEq, hq1, hq3, hq4, h6, h7, h8, h9, h11, hbox, hn8, c0, to1, hO, tt1, hT, cj1, d1, ix_slc, len_slc]
        · simp only [bxP, bxQ, bxQ2, reduceCtorEq, hq1, hq3, hq4, h6, h7, h8, h9, h11, hbox, hn8, c0, to1, hO, tt1, hT, cj1, d1, ix_slc, len_slc]
        · simp only [bxP, bxQ, bxQ2, reduceCtorEq, hq1, hq3, hq4, h6, h7, h8, h9, h11, hbox, hn8, c0, to1, hO, tt1, hT, cj1, d1, ix_slc, len_slc]
        · simp only [bxP, bxQ, bxQ2, reduceCtorEq, hq1, hq3, hq4, h6, h7, h8, h9, h11, hbox, hn8, c0, to1, hO, tt1, hT, cj1, d1, ix_slc, len_slc]
        · simp only [bxP, bxQ, bxQ2, reduceCtorEq, hq1, hq3, hq4, h6, h7, h8, h9, h11, hbox, hn8, c0, to1, hO, tt1, hT, cj1, d1, ix_slc, len_slc]
        · simp only [bxP, bxQ, bxQ2, reduceCtorEq, hq1, hq3, hq4, h6, h7, h8, h9, h11, hbox, hn8, c0, to1, hO, tt1, hT, cj1, d1, ix_slc, len_slc]
        · simp only [bxP, bxQ, bxQ2, reduceCtorEq, hq1, hq3, hq4, h6, h7, h8, h9, h11, hbox, hn8, c0, to1, hO, tt1, hT, cj1, d1, ix_slc, len_slc]
        · simp only [bxP, bxQ, bxQ2, reduceCtorEq, hq1, hq3, hq4, h6, h7, h8, h9, h11, hbox, hn8, c0, to1, hO, tt1, hT, cj1, d1, ix_slc, len_slc] <;> rfl
        · have hstep : ∀ u, u < t + 1 → (u < t ∨ u = t) := fun u hu => by omega
          rcases hc with ⟨e1, e2, hc⟩ | hc
          · refine .inl ⟨e1, e2, fun u hu hb => ?_⟩
            rcases hstep u hu with h1 | h1
            · exact hc u h1 hb
            · subst h1
              rw [hv] at hb; cases hb
          · exact .inr hc
    · have d1 : decide ((t : Int) < (kk : Int)) = false := decide_eq_false (by omega)
      have hte : t = kk := by omega
      subst hte
      simp (maxSteps := 4000000) (disch := first | omega | assumption | (simp only [bxS, bxV, stOk, Nat.reduceBEq, Nat.reduceEqDiff, Nat.reduceAdd]; done) | (simp only [bxU]; omega) | ((try apply has_setN); apply has_ofL; simp only [bxL]; omega)) only [↓bxD, bxP, bxQ, bxQ2, Nat.reduceBEq, reduceCtorEq, Nat.reduceAdd, Nat.reduceSub, Nat.reduceMul, Nat.reduceLeDiff, Nat.reduceLT, bxR, hq1, hq3, hq4, h6, h7, h8, h9, h11, hbox, d1]
      refine hn _ _ F1 m1 ⟨hx, hmat, ?_, ?_, ?_⟩ ?_ ?_ hs hc
      · simp only [bxP, bxQ, bxQ2, reduceCtorEq, hq1, hq3, hq4, h6, h7, h8, h9, h11, hbox, d1]
      · simp only [bxP, bxQ, bxQ2, reduceCtorEq, hq1, hq3, hq4, h6, h7, h8, h9, h11, hbox, d1]
      · simp only [bxP, bxQ, bxQ2, reduceCtorEq, hq1, hq3, hq4, h6, h7, h8, h9, h11, hbox, d1]
      · simp only [bxP, bxQ, bxQ2, reduceCtorEq, hq1, hq3, hq4, h6, h7, h8, h9, h11, hbox, d1]
      · simp only [bxP, bxQ, bxQ2, reduceCtorEq, hq1, hq3, hq4, h6, h7, h8, h9, h11, hbox, d1]
  · exact ⟨h, hn8, ho, h6, h7, h8, h9, h11, Nat.zero_le _, hs, .inl ⟨rfl, rfl, fun t ht => absurd ht (Nat.not_lt_zero _)⟩⟩
structure FRd (Mb : MH) (g : Gr) (n0 kk : Nat) (vn : MV) (null : List Bool) (id : Nat) (ids : List Nat) (F : List (List Bool)) (i : Nat) (F1 : List (List Bool)) (m1 : Bool) (f1 : Fr) (M1 : MH) : Prop where
  st : FSt Mb M1 n0 kk vn id ids F1 f1
  h7 : X.ev f1 (.t q7) = .i .i64 (i : Int)
  h6 : X.ev f1 (.t q6) = .b m1
  le : i ≤ g.rules.length
  snd : FstSound g F1
  cas : (m1 = true ∧ fallM F1 < fallM F) ∨ (m1 = false ∧ F1 = F ∧ FstClosed null F kk (g.rules.take i))
theorem fst_round {Mb M : MH} {g : Gr} {vr vf vc vk : MV} {es : List (List MV)} {n0 kk : Nat} {vn : MV} {null : List Bool} (cx : FCx Mb g vr vf vc vk es n0 kk vn null) {id : Nat} {ids : List Nat} {F : List (List Bool)} {f : Fr} (h : FSt Mb M n0 kk vn id ids F f) (hidl : ids.length = g.names.toNat) (hs : FstSound g F) (Q : Post)
    (hn : ∀ f' M' F' more, FSt Mb M' n0 kk vn id ids F' f' → X.ev f' (.t q6) = .b more → FstSound g F' → ((more = true ∧ fallM F' < fallM F) ∨ (more = false ∧ F' = F ∧ FstClosed null F kk g.rules)) → Q .norm f' M') : Wp fns K33_9 f M Q := by
  unfold K33_9
  simp (maxSteps := 4000000) (disch := first | omega | assumption | (simp only [bxS, bxV, stOk, Nat.reduceBEq, Nat.reduceEqDiff, Nat.reduceAdd]; done) | (simp only [bxU]; omega) | ((try apply has_setN); apply has_ofL; simp only [bxL]; omega)) only [↓bxD, bxP, bxQ, bxQ2, Nat.reduceBEq, reduceCtorEq, Nat.reduceAdd, Nat.reduceSub, Nat.reduceMul, Nat.reduceLeDiff, Nat.reduceLT, bxR]
  have hkk := cx.hk
  have hk40 := cx.ok.k2
  have hn40 := cx.ok.n2
  have hn1 := cx.ok.n1
  have hrl := cx.ok.rl
  refine Wp_inv (σ := Nat × List (List Bool) × Bool) (fun s f1 M1 => FRd Mb g n0 kk vn null id ids F s.1 s.2.1 s.2.2 f1 M1) (fun s => g.rules.length - s.1) ?_ (0, F, false) ?_
  · rintro ⟨i, F1, m1⟩ f1 M1 ⟨⟨hx, hmat, hq1, hq3, hq4⟩, h7, h6, hi, hs, hc⟩
    simp only [q1, q3, q4, q6, q7] at hq1 hq3 hq4 h6 h7
    have hbox := (hx.old _ cx.n0lt).trans cx.box
    have hbox0 := hbox
    unfold gcs at hbox
    rw [hkk] at hbox
    have hlo := cx.lo
    have hel := hx.lo
    have hxn := hx.n
    have hn0 := cx.n0lt
    obtain ⟨hr1, hr2⟩ := cx.gr.rules.row.sl
    rw [cx.gr.rules.len] at hr2
    unfold L33_8
    by_cases hi' : i < g.rules.length
    · have d1 : decide ((i : Int) < (g.rules.length : Int)) = true := decide_eq_true (by omega)
      obtain ⟨r, hr⟩ : ∃ r, g.rules[i]? = some r := ⟨_, List.getElem?_eq_getElem hi'⟩
      obtain ⟨a0, ar, a2⟩ := r
      have hmem := List.mem_of_getElem? hr
      obtain ⟨ur, hu1, hu2⟩ := cx.gr.rules.get hr
      have hrow := cx.gr.rules.row.ext hx
      obtain ⟨ro3, s3, t3, hg3, hid3, hat3⟩ := hrow.read hu1
      have hN : Ev.getN t3 3 (soff vr + i * 3) = some [.i .i64 a0, ur, .i .i64 a2] := hat3.getN
      obtain ⟨hu3, hu4⟩ := hu2.sl
      have hu6 := isSl_one hu3
      have hst : stOk 3 (.ag [.i .i64 a0, ur, .i .i64 a2]) = true := by simp only [stOk, cells_ag, isU_ag, all_cons, all_nil, one_i, hu6]; rfl
      obtain ⟨ha0, ha1⟩ := cx.ok.left _ hmem
      have hwf := cx.gr.wf.rules _ hmem
      simp only at ha0 ha1
      obtain ⟨an, rfl⟩ : ∃ n : Nat, a0 = n := ⟨a0.toNat, by omega⟩
      have han : an < ids.length := by omega
      have hG : Ev.getN (ofL [MV.i IntKind.i64 g.names, MV.i IntKind.i64 ↑kk, MV.i IntKind.i64 g.start, vr, vf, vc, vk] 0) 7 0 = some [MV.i IntKind.i64 g.names, MV.i IntKind.i64 ↑kk, MV.i IntKind.i64 g.start, vr, vf, vc, vk] := (at_ofL [MV.i IntKind.i64 g.names, MV.i IntKind.i64 ↑kk, MV.i IntKind.i64 g.start, vr, vf, vc, vk]).getN
      simp (maxSteps := 4000000) (disch := first | omega | assumption | (simp only [bxS, bxV, stOk, Nat.reduceBEq, Nat.reduceEqDiff, Nat.reduceAdd]; done) | (simp only [bxU]; omega) | ((try apply has_setN); apply has_ofL; simp only [bxL]; omega)) only [↓bxD, bxP, bxQ, bxQ2, Nat.reduceBEq, reduceCtorEq, Nat.reduceAdd, Nat.reduceSub, Nat.reduceMul, Nat.reduceLeDiff, Nat.reduceLT, bxR, hq1, hq3, hq4, h6, h7, hr1, hr2, hbox, hg3, hN, d1, hG]
      show Wp fns K33_7 _ _ _
      unfold K33_7
      simp (maxSteps := 4000000) (disch := first | omega | assumption | (simp only [bxS, bxV, stOk, Nat.reduceBEq, Nat.reduceEqDiff, Nat.reduceAdd]; done) | (simp only [bxU]; omega) | ((try apply has_setN); apply has_ofL; simp only [bxL]; omega)) only [↓bxD, bxP, bxQ, bxQ2, Nat.reduceBEq, reduceCtorEq, Nat.reduceAdd, Nat.reduceSub, Nat.reduceMul, Nat.reduceLeDiff, Nat.reduceLT, bxR, hq1, hq3, hq4, h6, h7, hr1, hr2, hbox, hg3, hN, d1, hG]
      generalize hM2 : (M1.push _).set M1.n _ = M2
      have hx2 : Ext M1 M2 := by rw [← hM2]; exact (Ext.push M1 _).set _ (Nat.le_refl _)
      have h9 : M2.get M1.n = some (.cs false 3 (setN [.i .i64 (an : Int), ur, .i .i64 a2] 0 (ofL [.i .i64 0, .nils, .i .i64 0] 0))) := by rw [← hM2, set_same]
      have hn3 : M2.n = M1.n + 1 := by rw [← hM2]; rfl
      clear hM2
      have hl2 := hx2.lo
      have hmat2 := hmat.ext hx2
      have hxx := hx.trans hx2
      refine bindP_call (begin_any (null := null) (F := F1) hkk (by omega) (by omega) (cx.nrow.ext hxx) hmat2.mrow (hu2.ext hxx) ⟨cx.nul.1, by rw [← hmat.len]; exact hidl, fun x hx => by rw [hmat.size x hx, hkk]; rfl⟩ (cx.ok.sym _ hmem) hwf.2.1 hwf.2.2.2 hn1) ?_
      rintro m M3 ⟨hx3, id9, o, rfl, hid9a, hid9b, hob, ho1, ho2, ho3⟩
      have hn9 := (hx3.old M1.n (by omega)).trans h9
      simp (maxSteps := 4000000) (disch := first | omega | assumption | (simp only [bxS, bxV, stOk, Nat.reduceBEq, Nat.reduceEqDiff, Nat.reduceAdd]; done) | (simp only [bxU]; omega) | ((try apply has_setN); apply has_ofL; simp only [bxL]; omega)) only [↓bxD, bxP, bxQ, bxQ2, Nat.reduceBEq, reduceCtorEq, Nat.reduceAdd, Nat.reduceSub, Nat.reduceMul, Nat.reduceLeDiff, Nat.reduceLT, bxR, hq1, hq3, hq4, h6, h7, hr1, hr2, hbox, hg3, hN, d1, hG]
      have hot : ∀ t, t < kk → bAt o t = true → Fst g an t := fun t ht hb => by
        rw [ho2 t ht] at hb
        have := fst_of_beg cx.nul hs hmem hb
        simpa using this
      refine fst_in (i := i) (more := m1) cx ⟨hxx.trans hx3, hmat2.ext hx3, ?_, ?_, ?_⟩ han hn9 (at_setN _ _ _) (fun j hj => ?_) hob (fun j hj => ?_) ho1 ?_ ?_ ?_ ?_ ?_ hs hot _ ?_
      · simp only [bxP, bxQ, bxQ2, reduceCtorEq, hq1, hq3, hq4, h6, h7, hr1, hr2, hbox, hg3, hN, d1, hG]
      · simp only [bxP, bxQ, bxQ2, reduceCtorEq, hq1, hq3, hq4, h6, h7, hr1, hr2, hbox, hg3, hN, d1, hG]
      · simp only [bxP, bxQ, bxQ2, reduceCtorEq, hq1, hq3, hq4, h6, h7, hr1, hr2, hbox, hg3, hN, d1, hG]
      · have := (hmat.ne j hj).2.2; omega
      · have := (hmat.ne j hj).2.2; omega
      · simp only [bxP, bxQ, bxQ2, reduceCtorEq, hq1, hq3, hq4, h6, h7, hr1, hr2, hbox, hg3, hN, d1, hG]
      · simp only [bxP, bxQ, bxQ2, reduceCtorEq, hq1, hq3, hq4, h6, h7, hr1, hr2, hbox, hg3, hN, d1, hG]
      · simp only [bxP, bxQ, bxQ2, reduceCtorEq, hq1, hq3, hq4, h6, h7, hr1, hr2, hbox, hg3, hN, d1, hG]
      · simp only [bxP, bxQ, bxQ2, reduceCtorEq, hq1, hq3, hq4, h6, h7, hr1, hr2, hbox, hg3, hN, d1, hG]
      · simp only [bxP, bxQ, bxQ2, reduceCtorEq, hq1, hq3, hq4, h6, h7, hr1, hr2, hbox, hg3, hN, d1, hG]
      intro f' M' F' more' h' h6' h7' hs' hcase
      have h7q := h7'
      simp only [q7] at h7q
      simp (maxSteps := 4000000) (disch := first | omega | assumption | (simp only [bxS, bxV, stOk, Nat.reduceBEq, Nat.reduceEqDiff, Nat.reduceAdd]; done) | (simp only [bxU]; omega) | ((try apply has_setN); apply has_ofL; simp only [bxL]; omega)) only [↓bxD, bxP, bxQ, bxQ2, Nat.reduceBEq, reduceCtorEq, Nat.reduceAdd, Nat.reduceSub, Nat.reduceMul, Nat.reduceLeDiff, Nat.reduceLT, bxR, h7q]
      show Wp fns K33_6 _ _ _
      unfold K33_6
      simp (maxSteps := 4000000) (disch := first | omega | assumption | (simp only [bxS, bxV, stOk, Nat.reduceBEq, Nat.reduceEqDiff, Nat.reduceAdd]; done) | (simp only [bxU]; omega) | ((try apply has_setN); apply has_ofL; simp only [bxL]; omega)) only [↓bxD, bxP, bxQ, bxQ2, Nat.reduceBEq, reduceCtorEq, Nat.reduceAdd, Nat.reduceSub, Nat.reduceMul, Nat.reduceLeDiff, Nat.reduceLT, bxR, h7q]
      refine ⟨(i + 1, F', more'), by simp only; omega, ⟨⟨h'.ext, h'.mat, ?_, ?_, ?_⟩, ?_, ?_, by simp only; omega, hs', ?_⟩⟩
      · have := h'.q1
        simp only [q1] at this
        simp (maxSteps := 4000000) (disch := first | omega | assumption | (simp only [bxS, bxV, stOk, Nat.reduceBEq, Nat.reduceEqDiff, Nat.reduceAdd]; done) | (simp only [bxU]; omega) | ((try apply has_setN); apply has_ofL; simp only [bxL]; omega)) only [↓bxD, bxP, bxQ, bxQ2, Nat.reduceBEq, reduceCtorEq, Nat.reduceAdd, Nat.reduceSub, Nat.reduceMul, Nat.reduceLeDiff, Nat.reduceLT, bxR, h7q, this]
      · have := h'.q3
        simp only [q3] at this
        simp (maxSteps := 4000000) (disch := first | omega | assumption | (simp only [bxS, bxV, stOk, Nat.reduceBEq, Nat.reduceEqDiff, Nat.reduceAdd]; done) | (simp only [bxU]; omega) | ((try apply has_setN); apply has_ofL; simp only [bxL]; omega)) only [↓bxD, bxP, bxQ, bxQ2, Nat.reduceBEq, reduceCtorEq, Nat.reduceAdd, Nat.reduceSub, Nat.reduceMul, Nat.reduceLeDiff, Nat.reduceLT, bxR, h7q, this]
      · have := h'.q4
        simp only [q4] at this
        simp (maxSteps := 4000000) (disch := first | omega | assumption | (simp only [bxS, bxV, stOk, Nat.reduceBEq, Nat.reduceEqDiff, Nat.reduceAdd]; done) | (simp only [bxU]; omega) | ((try apply has_setN); apply has_ofL; simp only [bxL]; omega)) only [↓bxD, bxP, bxQ, bxQ2, Nat.reduceBEq, reduceCtorEq, Nat.reduceAdd, Nat.reduceSub, Nat.reduceMul, Nat.reduceLeDiff, Nat.reduceLT, bxR, h7q, this]
      · simp only [bxP, bxQ, bxQ2, reduceCtorEq, h7q] <;> rfl
      · simp only [q6] at h6'
        simp (maxSteps := 4000000) (disch := first | omega | assumption | (simp only [bxS, bxV, stOk, Nat.reduceBEq, Nat.reduceEqDiff, Nat.reduceAdd]; done) | (simp only [bxU]; omega) | ((try apply has_setN); apply has_ofL; simp only [bxL]; omega)) only [↓bxD, bxP, bxQ, bxQ2, Nat.reduceBEq, reduceCtorEq, Nat.reduceAdd, Nat.reduceSub, Nat.reduceMul, Nat.reduceLeDiff, Nat.reduceLT, bxR, h7q, h6']
      · rcases hcase with ⟨rfl, rfl, hv⟩ | ⟨hv, rfl⟩
        · rcases hc with hc | ⟨hc1, hc2, hc3⟩
          · exact .inl hc
          · refine .inr ⟨hc1, hc2, fun r hr' t ht hb => ?_⟩
            rw [List.take_add_one, hr] at hr'
            rcases List.mem_append.1 hr' with h1 | h1
            · exact hc3 r h1 t ht hb
            · simp only [Option.toList_some, List.mem_singleton] at h1
              subst h1
              rw [← hc2] at hb ⊢
              simp only [Int.toNat_natCast] at hb ⊢
              exact hv t ht (by rw [ho2 t ht]; exact hb)
        · left
          refine ⟨rfl, ?_⟩
          rcases hc with ⟨_, hc⟩ | ⟨_, e, _⟩
          · exact Nat.lt_trans hv hc
          · rw [← e]; exact hv
    · have d1 : decide ((i : Int) < (g.rules.length : Int)) = false := decide_eq_false (by omega)
      have hi2 : i = g.rules.length := by omega
      subst hi2
      rw [List.take_length] at hc
      simp (maxSteps := 4000000) (disch := first | omega | assumption | (simp only [bxS, bxV, stOk, Nat.reduceBEq, Nat.reduceEqDiff, Nat.reduceAdd]; done) | (simp only [bxU]; omega) | ((try apply has_setN); apply has_ofL; simp only [bxL]; omega)) only [↓bxD, bxP, bxQ, bxQ2, Nat.reduceBEq, reduceCtorEq, Nat.reduceAdd, Nat.reduceSub, Nat.reduceMul, Nat.reduceLeDiff, Nat.reduceLT, bxR, hq1, hq3, hq4, h6, h7, hr1, hr2, hbox, d1]
      refine hn _ _ F1 m1 ⟨hx, hmat, ?_, ?_, ?_⟩ ?_ hs hc
      · simp only [bxP, bxQ, bxQ2, reduceCtorEq, hq1, hq3, hq4, h6, h7, hr1, hr2, hbox, d1]
      · simp only [bxP, bxQ, bxQ2, reduceCtorEq, hq1, hq3, hq4, h6, h7, hr1, hr2, hbox, d1]
      · simp only [bxP, bxQ, bxQ2, reduceCtorEq, hq1, hq3, hq4, h6, h7, hr1, hr2, hbox, d1]
      · simp only [bxP, bxQ, bxQ2, reduceCtorEq, hq1, hq3, hq4, h6, h7, hr1, hr2, hbox, d1]
  · refine ⟨⟨h.ext, h.mat, ?_, ?_, ?_⟩, ?_, ?_, Nat.zero_le _, hs, .inr ⟨rfl, rfl, ?_⟩⟩
    · have := h.q1
      simp only [q1] at this
      simp (maxSteps := 4000000) (disch := first | omega | assumption | (simp only [bxS, bxV, stOk, Nat.reduceBEq, Nat.reduceEqDiff, Nat.reduceAdd]; done) | (simp only [bxU]; omega) | ((try apply has_setN); apply has_ofL; simp only [bxL]; omega)) only [↓bxD, bxP, bxQ, bxQ2, Nat.reduceBEq, reduceCtorEq, Nat.reduceAdd, Nat.reduceSub, Nat.reduceMul, Nat.reduceLeDiff, Nat.reduceLT, bxR, this]
    · have := h.q3
      simp only [q3] at this
      simp (maxSteps := 4000000) (disch := first | omega | assumption | (simp only [bxS, bxV, stOk, Nat.reduceBEq, Nat.reduceEqDiff, Nat.reduceAdd]; done) | (simp only [bxU]; omega) | ((try apply has_setN); apply has_ofL; simp only [bxL]; omega)) only [↓bxD, bxP, bxQ, bxQ2, Nat.reduceBEq, reduceCtorEq, Nat.reduceAdd, Nat.reduceSub, Nat.reduceMul, Nat.reduceLeDiff, Nat.reduceLT, bxR, this]
    · have := h.q4
      simp only [q4] at this
      simp (maxSteps := 4000000) (disch := first | omega | assumption | (simp only [bxS, bxV, stOk, Nat.reduceBEq, Nat.reduceEqDiff, Nat.reduceAdd]; done) | (simp only [bxU]; omega) | ((try apply has_setN); apply has_ofL; simp only [bxL]; omega)) only [↓bxD, bxP, bxQ, bxQ2, Nat.reduceBEq, reduceCtorEq, Nat.reduceAdd, Nat.reduceSub, Nat.reduceMul, Nat.reduceLeDiff, Nat.reduceLT, bxR, this]
    · simp only [bxP, bxQ, bxQ2, reduceCtorEq] <;> rfl
    · simp only [bxP, bxQ, bxQ2, reduceCtorEq]
    · intro r hr; simp at hr
theorem set_mid {α : Type} (a b : List α) (x y : α) (n : Nat) (h : a.length = n) (hb : b = List.replicate b.length y) (hl : 0 < b.length) : (a ++ b).set n x = (a ++ [x]) ++ List.replicate (b.length - 1) y := by
  cases b with
  | nil => simp at hl
  | cons z b =>
    rw [List.set_append_right _ _ (by omega), ← h, Nat.sub_self, List.set_cons_zero]
    simp only [List.length_cons, Nat.add_sub_cancel, List.append_assoc, List.singleton_append]
    rw [List.length_cons, List.replicate_succ] at hb
    injection hb with _ hb
    rw [← hb]
structure FIni (Mb : MH) (n0 kk nn : Nat) (vn : MV) (i : Nat) (ids : List Nat) (f : Fr) (M : MH) : Prop where
  ext : Ext Mb M
  top : ∃ t, M.get Mb.n = some (.cs false 1 t) ∧ At t 0 ((ids.map fun j => MV.sl j 0 (kk + 1) 0) ++ List.replicate (nn - i) .nils)
  top2 : Mb.n < M.n
  len : ids.length = i
  le : i ≤ nn
  rows : ∀ j ∈ ids, BoolsAt M j (List.replicate (kk + 1) false)
  ne : ∀ j ∈ ids, j ≠ Mb.n ∧ Mb.n ≤ j ∧ j < M.n
  inj : ∀ (i i' : Nat) j, ids[i]? = some j → ids[i']? = some j → i = i'
  h1 : X.ev f (.t q1) = .p n0 0
  h3 : X.ev f (.t q3) = vn
  h4 : X.ev f (.t q4) = .sl Mb.n 0 nn 0
  h5 : X.ev f (.t q5) = .i .i64 (i : Int)
structure FRo (Mb : MH) (g : Gr) (n0 kk : Nat) (vn : MV) (null : List Bool) (id : Nat) (ids : List Nat) (F : List (List Bool)) (more : Bool) (f : Fr) (M : MH) : Prop where
  st : FSt Mb M n0 kk vn id ids F f
  h6 : X.ev f (.t q6) = .b more
  snd : FstSound g F
  cl : more = false → FstClosed null F kk g.rules
theorem firsts_any {M : MH} {g : Gr} {vr vf vc vk : MV} {es : List (List MV)} (h : GrAt M vr vf vc vk es g) (hlo : M.lo ≤ M.n) (hz : (formP g).2 = 0) : Cp fns 33 [.ag (gcs g vr vf vc vk)] M fun m M' => Ext M M' ∧ ∃ fs F, FstMat g F ∧ MRow M' m fs F := by
  have hok := form_ok hz
  obtain ⟨nn, hnn⟩ : ∃ n : Nat, g.names = n := ⟨g.names.toNat, by have := hok.n1; omega⟩
  obtain ⟨kk, hkk⟩ : ∃ n : Nat, g.kinds = n := ⟨g.kinds.toNat, by have := hok.k1; omega⟩
  have hn40 := hok.n2
  have hk40 := hok.k2
  have hG : ∀ l, l = gcs g vr vf vc vk → Ev.getN (ofL l 0) 7 0 = some (gcs g vr vf vc vk) := fun l e => by subst e; exact (at_ofL (gcs g vr vf vc vk)).getN
  have hG := hG [MV.i IntKind.i64 g.names, MV.i IntKind.i64 g.kinds, MV.i IntKind.i64 g.start, vr, vf, vc, vk] rfl
  refine Cp_call (fn := F33) (by kernel_rfl) (Nat.le_of_ble_eq_true rfl) ?_
  show Wp fns B33 (T.set q0 (some (.ag (gcs g vr vf vc vk))) T.lf) M _
  unfold B33
  rw [show gcs g vr vf vc vk = [MV.i IntKind.i64 g.names, MV.i IntKind.i64 g.kinds, MV.i IntKind.i64 g.start, vr, vf, vc, vk] from rfl]
  simp (maxSteps := 4000000) (disch := first | omega | assumption | (simp only [bxS, bxV, stOk, Nat.reduceBEq, Nat.reduceEqDiff, Nat.reduceAdd]; done) | (simp only [bxU]; omega) | ((try apply has_setN); apply has_ofL; simp only [bxL]; omega)) only [↓bxD, bxP, bxQ, bxQ2, Nat.reduceBEq, reduceCtorEq, Nat.reduceAdd, Nat.reduceSub, Nat.reduceMul, Nat.reduceLeDiff, Nat.reduceLT, bxR, hG]
  generalize hM1 : M.push _ = M1
  have hg0 : M1.get M.n = some (.cs false 7 (ofL (gcs g vr vf vc vk) 0)) := by rw [← hM1]; exact push_new _
  have hx1 : Ext M M1 := by rw [← hM1]; exact Ext.push M _
  have hn1 : M1.n = M.n + 1 := by rw [← hM1]; rfl
  have hl1 := hx1.lo
  clear hM1
  refine bindP_call (nullable_any (h.ext hx1) (by omega)) ?_
  rintro vn Mb ⟨hx2, ⟨hc, _⟩ | ⟨_, null, hnul, hnrow⟩⟩
  · exact absurd hz hc
  have hn2 := hx2.n
  have hl2 := hx2.lo
  have hg2 := (hx2.old M.n (by omega)).trans hg0
  have hg3 := hg2
  unfold gcs at hg3
  rw [hnn, hkk] at hg3
  have cx : FCx Mb g vr vf vc vk es M.n kk vn null := ⟨(h.ext hx1).ext hx2, hok, hg2, by omega, by omega, hnul, hnrow, hkk⟩
  have e1 : ((kk : Int) + 1) = ((kk + 1 : Nat) : Int) := by omega
  simp (maxSteps := 4000000) (disch := first | omega | assumption | (simp only [bxS, bxV, stOk, Nat.reduceBEq, Nat.reduceEqDiff, Nat.reduceAdd]; done) | (simp only [bxU]; omega) | ((try apply has_setN); apply has_ofL; simp only [bxL]; omega)) only [↓bxD, bxP, bxQ, bxQ2, Nat.reduceBEq, reduceCtorEq, Nat.reduceAdd, Nat.reduceSub, Nat.reduceMul, Nat.reduceLeDiff, Nat.reduceLT, bxR, hg3, ev_mks, mks_ok, e1]
  generalize hM3 : Mb.push _ = M3
  have hx3 : Ext Mb M3 := by rw [← hM3]; exact Ext.push Mb _
  have hg4 : M3.get Mb.n = some (.cs false 1 (ofL (zrow [.nils] nn) 0)) := by rw [← hM3]; exact push_new _
  have hn3 : M3.n = Mb.n + 1 := by rw [← hM3]; rfl
  clear hM3
  refine Wp_inv (σ := Nat × List Nat) (fun s f1 M4 => FIni Mb M.n kk nn vn s.1 s.2 f1 M4) (fun s => nn - s.1) ?_ (0, []) ?_
  · rintro ⟨i, ids⟩ f1 M4 ⟨hx, ⟨t, ht1, ht2⟩, ht3, hlen, hi, hrows, hne, hinj, h1, h3, h4, h5⟩
    simp only [q1, q3, q4, q5] at h1 h3 h4 h5
    simp only at ht2 hlen hi hrows hne hinj
    have hbox := (hx.old _ cx.n0lt).trans hg3
    have hel := hx.lo
    unfold L33_2
    by_cases hi' : i < nn
    · have d1 : decide ((i : Int) < (nn : Int)) = true := decide_eq_true (by omega)
      have hH : hasB t 1 (i * 1) = true := has_at ht2 (Nat.zero_le _) (by rw [List.length_append, List.length_map, List.length_replicate]; omega)
      simp (maxSteps := 4000000) (disch := first | omega | assumption | (simp only [bxS, bxV, stOk, Nat.reduceBEq, Nat.reduceEqDiff, Nat.reduceAdd]; done) | (simp only [bxU]; omega) | ((try apply has_setN); apply has_ofL; simp only [bxL]; omega)) only [↓bxD, bxP, bxQ, bxQ2, Nat.reduceBEq, reduceCtorEq, Nat.reduceAdd, Nat.reduceSub, Nat.reduceMul, Nat.reduceLeDiff, Nat.reduceLT, bxR, h1, h3, h4, h5, hbox, ht1, d1, ev_mks, mks_ok, e1, ix_slc, len_slc]
      show Wp fns K33_1 _ _ _
      unfold K33_1
      simp (maxSteps := 4000000) (disch := first | omega | assumption | (simp only [bxS, bxV, stOk, Nat.reduceBEq, Nat.reduceEqDiff, Nat.reduceAdd]; done) | (simp only [bxU]; omega) | ((try apply has_setN); apply has_ofL; simp only [bxL]; omega)) only [↓bxD, bxP, bxQ, bxQ2, Nat.reduceBEq, reduceCtorEq, Nat.reduceAdd, Nat.reduceSub, Nat.reduceMul, Nat.reduceLeDiff, Nat.reduceLT, bxR, h1, h3, h4, h5, hbox, ht1, d1, ev_mks, mks_ok, e1, ix_slc, len_slc]
      show Wp fns K33_0 _ _ _
      unfold K33_0
      simp (maxSteps := 4000000) (disch := first | omega | assumption | (simp only [bxS, bxV, stOk, Nat.reduceBEq, Nat.reduceEqDiff, Nat.reduceAdd]; done) | (simp only [bxU]; omega) | ((try apply has_setN); apply has_ofL; simp only [bxL]; omega)) only [↓bxD, bxP, bxQ, bxQ2, Nat.reduceBEq, reduceCtorEq, Nat.reduceAdd, Nat.reduceSub, Nat.reduceMul, Nat.reduceLeDiff, Nat.reduceLT, bxR, h1, h3, h4, h5, hbox, ht1, d1, ev_mks, mks_ok, e1, ix_slc, len_slc]
      have hset : (((ids.map fun j => MV.sl j 0 (kk + 1) 0) ++ List.replicate (nn - i) MV.nils).set i (.sl M4.n 0 (kk + 1) 0)) = ((ids ++ [M4.n]).map fun j => MV.sl j 0 (kk + 1) 0) ++ List.replicate (nn - (i + 1)) MV.nils := by
        rw [set_mid _ _ _ MV.nils i (by rw [List.length_map]; exact hlen) (by rw [List.length_replicate]) (by rw [List.length_replicate]; omega), List.length_replicate, List.map_append]
        rfl
      have hAt := ht2.set' (k := i * 1) i (.sl M4.n 0 (kk + 1) 0) (by rw [List.length_append, List.length_map, List.length_replicate]; omega) (by omega)
      rw [hset] at hAt
      have hrow := BoolsAt.new (M := M4) (kk + 1)
      generalize hM5 : M4.push _ = M5 at hrow
      have hx5 : Ext M4 M5 := by rw [← hM5]; exact Ext.push M4 _
      have hn5 : M5.n = M4.n + 1 := by rw [← hM5]; rfl
      clear hM5
      generalize hM6 : M5.set Mb.n _ = M6
      have hx6 : Ext Mb M6 := by rw [← hM6]; exact (hx.trans hx5).set _ (Nat.le_refl _)
      have hg6 : M6.get Mb.n = some (.cs false 1 (setN [.sl M4.n 0 (kk + 1) 0] (i * 1) t)) := by rw [← hM6, set_same]; rfl
      have hk6 : ∀ j, j ≠ Mb.n → M6.get j = M5.get j := fun j hj => by rw [← hM6, set_ne hj]
      have hn6 : M6.n = M5.n := by rw [← hM6]; rfl
      clear hM6
      refine ⟨(i + 1, ids ++ [M4.n]), by simp only; omega, ⟨hx6, ⟨_, hg6, hAt⟩, by omega, by simp only; rw [List.length_append, hlen]; rfl, by simp only; omega, fun j hj => ?_, fun j hj => ?_, fun a b j ha hb => ?_, ?_, ?_, ?_, ?_⟩⟩
      · rcases List.mem_append.1 hj with h6 | h6
        · obtain ⟨z1, z2, z3⟩ := hne j h6
          exact ((hrows j h6).same (hx5.old j z3)).same (hk6 j z1)
        · rw [List.mem_singleton] at h6
          subst h6
          exact hrow.same (hk6 _ (by omega))
      · rcases List.mem_append.1 hj with h6 | h6
        · obtain ⟨z1, z2, z3⟩ := hne j h6
          exact ⟨z1, z2, by omega⟩
        · rw [List.mem_singleton] at h6
          subst h6
          exact ⟨by omega, by omega, by omega⟩
      · simp only at ha hb
        rw [List.getElem?_append] at ha hb
        split at ha
        · split at hb
          · exact hinj a b j ha hb
          · have := (hne j (List.mem_of_getElem? ha)).2.2
            have h7 := List.mem_singleton.1 (List.mem_of_getElem? hb)
            omega
        · have h7 := List.mem_singleton.1 (List.mem_of_getElem? ha)
          have h8 := (List.getElem?_eq_some_iff.1 ha).1
          simp only [List.length_singleton] at h8
          split at hb
          · have := (hne j (List.mem_of_getElem? hb)).2.2
            omega
          · have h9 := (List.getElem?_eq_some_iff.1 hb).1
            simp only [List.length_singleton] at h9
            omega
      · simp only [bxP, bxQ, bxQ2, reduceCtorEq, h1, h3, h4, h5, hbox, ht1, d1, ev_mks, mks_ok, e1, ix_slc, len_slc]
      · simp only [bxP, bxQ, bxQ2, reduceCtorEq, h1, h3, h4, h5, hbox, ht1, d1, ev_mks, mks_ok, e1, ix_slc, len_slc]
      · simp only [bxP, bxQ, bxQ2, reduceCtorEq, h1, h3, h4, h5, hbox, ht1, d1, ev_mks, mks_ok, e1, ix_slc, len_slc]
      · simp only [bxP, bxQ, bxQ2, reduceCtorEq, h1, h3, h4, h5, hbox, ht1, d1, ev_mks, mks_ok, e1, ix_slc, len_slc] <;> rfl
    · have d1 : decide ((i : Int) < (nn : Int)) = false := decide_eq_false (by omega)
      simp (maxSteps := 4000000) (disch := first | omega | assumption | (simp only [bxS, bxV, stOk, Nat.reduceBEq, Nat.reduceEqDiff, Nat.reduceAdd]; done) | (simp only [bxU]; omega) | ((try apply has_setN); apply has_ofL; simp only [bxL]; omega)) only [↓bxD, bxP, bxQ, bxQ2, Nat.reduceBEq, reduceCtorEq, Nat.reduceAdd, Nat.reduceSub, Nat.reduceMul, Nat.reduceLeDiff, Nat.reduceLT, bxR, h1, h3, h4, h5, hbox, d1]
      show Wp fns K33_12 _ _ _
      unfold K33_12
      simp (maxSteps := 4000000) (disch := first | omega | assumption | (simp only [bxS, bxV, stOk, Nat.reduceBEq, Nat.reduceEqDiff, Nat.reduceAdd]; done) | (simp only [bxU]; omega) | ((try apply has_setN); apply has_ofL; simp only [bxL]; omega)) only [↓bxD, bxP, bxQ, bxQ2, Nat.reduceBEq, reduceCtorEq, Nat.reduceAdd, Nat.reduceSub, Nat.reduceMul, Nat.reduceLeDiff, Nat.reduceLT, bxR, h1, h3, h4, h5, hbox, d1]
      have hie : i = nn := by omega
      subst hie
      have hmat : MatOwn M4 Mb.n Mb.n ids (List.replicate i (List.replicate (kk + 1) false)) (kk + 1) := by
        refine ⟨⟨t, ht1, ?_⟩, by rw [List.length_replicate]; exact hlen, fun a j l ha hl => ?_, fun x hx => ?_, hne, ⟨Nat.le_refl _, ht3⟩, hinj⟩
        · rw [Nat.sub_self, List.replicate_zero, List.append_nil] at ht2
          exact ht2
        · rw [List.getElem?_replicate] at hl
          split at hl
          · injection hl with hl
            subst hl
            exact hrows j (List.mem_of_getElem? ha)
          · cases hl
        · rw [(List.mem_replicate.1 hx).2, List.length_replicate]
      have hz0 : ∀ a t, mAt (List.replicate i (List.replicate (kk + 1) false)) a t = false := fun a t => by
        unfold mAt bAt
        rw [List.getD_eq_getElem?_getD, List.getD_eq_getElem?_getD, List.getElem?_replicate]
        split
        · simp only [Option.getD_some]
          rw [List.getElem?_replicate]
          split <;> rfl
        · rfl
      refine Wp_inv (σ := List (List Bool) × Bool) (fun s f2 M5 => FRo Mb g M.n kk vn null Mb.n ids s.1 s.2 f2 M5) (fun s => 2 * fallM s.1 + (if s.2 = true then 1 else 0)) ?_ (List.replicate i (List.replicate (kk + 1) false), true) ?_
      · rintro ⟨F, more⟩ f2 M5 ⟨h6, ht, hs, hc⟩
        have hq1 := h6.q1
        have hq3 := h6.q3
        have hq4 := h6.q4
        simp only [q1, q3, q4, q6] at hq1 hq3 hq4 ht
        simp only at hs hc
        unfold L33_10
        cases more with
        | true =>
          simp (maxSteps := 4000000) (disch := first | omega | assumption | (simp only [bxS, bxV, stOk, Nat.reduceBEq, Nat.reduceEqDiff, Nat.reduceAdd]; done) | (simp only [bxU]; omega) | ((try apply has_setN); apply has_ofL; simp only [bxL]; omega)) only [↓bxD, bxP, bxQ, bxQ2, Nat.reduceBEq, reduceCtorEq, Nat.reduceAdd, Nat.reduceSub, Nat.reduceMul, Nat.reduceLeDiff, Nat.reduceLT, bxR, hq1, hq3, hq4, ht]
          show Wp fns K33_9 _ _ _
          refine fst_round cx ⟨h6.ext, h6.mat, ?_, ?_, ?_⟩ (by rw [hlen, hnn]; rfl) hs _ ?_
          · simp only [bxP, bxQ, bxQ2, reduceCtorEq, hq1, hq3, hq4, ht]
          · simp only [bxP, bxQ, bxQ2, reduceCtorEq, hq1, hq3, hq4, ht]
          · simp only [bxP, bxQ, bxQ2, reduceCtorEq, hq1, hq3, hq4, ht]
          intro f' M' F' more' h' h6' hs' hcase
          refine ⟨(F', more'), ?_, ⟨h', h6', hs', fun e => ?_⟩⟩
          · rcases hcase with ⟨rfl, hlt⟩ | ⟨rfl, rfl, _⟩
            · show 2 * fallM F' + 1 < 2 * fallM F + 1; simp only at hlt; omega
            · show 2 * fallM F' + 0 < 2 * fallM F' + 1; omega
          · rcases hcase with ⟨rfl, _⟩ | ⟨_, rfl, hc'⟩
            · cases e
            · exact hc'
        | false =>
          simp (maxSteps := 4000000) (disch := first | omega | assumption | (simp only [bxS, bxV, stOk, Nat.reduceBEq, Nat.reduceEqDiff, Nat.reduceAdd]; done) | (simp only [bxU]; omega) | ((try apply has_setN); apply has_ofL; simp only [bxL]; omega)) only [↓bxD, bxP, bxQ, bxQ2, Nat.reduceBEq, reduceCtorEq, Nat.reduceAdd, Nat.reduceSub, Nat.reduceMul, Nat.reduceLeDiff, Nat.reduceLT, bxR, hq1, hq3, hq4, ht]
          show Wp fns K33_11 _ _ _
          unfold K33_11
          simp (maxSteps := 4000000) (disch := first | omega | assumption | (simp only [bxS, bxV, stOk, Nat.reduceBEq, Nat.reduceEqDiff, Nat.reduceAdd]; done) | (simp only [bxU]; omega) | ((try apply has_setN); apply has_ofL; simp only [bxL]; omega)) only [↓bxD, bxP, bxQ, bxQ2, Nat.reduceBEq, reduceCtorEq, Nat.reduceAdd, Nat.reduceSub, Nat.reduceMul, Nat.reduceLeDiff, Nat.reduceLT, bxR, hq1, hq3, hq4, ht]
          refine ⟨(hx1.trans hx2).trans h6.ext, _, F, ⟨?_, fun x hx => ?_, fun a t => ⟨hs a t, fun h => fst_all hok hnul (by rw [hkk]; exact hc rfl) h⟩⟩, h6.mat.mrow⟩
          · rw [← h6.mat.len, hlen, hnn]; rfl
          · rw [h6.mat.size x hx, hkk]; rfl
      · refine ⟨⟨hx, hmat, ?_, ?_, ?_⟩, ?_, fun a t e => ?_, fun e => by cases e⟩
        · simp only [bxP, bxQ, bxQ2, reduceCtorEq, h1, h3, h4, h5, hbox, d1]
        · simp only [bxP, bxQ, bxQ2, reduceCtorEq, h1, h3, h4, h5, hbox, d1]
        · rw [hlen]; simp (maxSteps := 4000000) (disch := first | omega | assumption | (simp only [bxS, bxV, stOk, Nat.reduceBEq, Nat.reduceEqDiff, Nat.reduceAdd]; done) | (simp only [bxU]; omega) | ((try apply has_setN); apply has_ofL; simp only [bxL]; omega)) only [↓bxD, bxP, bxQ, bxQ2, Nat.reduceBEq, reduceCtorEq, Nat.reduceAdd, Nat.reduceSub, Nat.reduceMul, Nat.reduceLeDiff, Nat.reduceLT, bxR, h1, h3, h4, h5, hbox, d1]
        · simp only [bxP, bxQ, bxQ2, reduceCtorEq, h1, h3, h4, h5, hbox, d1]
        · simp only at e; rw [hz0] at e; cases e
  · refine ⟨hx3, ⟨_, hg4, ?_⟩, by omega, rfl, Nat.zero_le _, fun j hj => (by cases hj), fun j hj => (by cases hj), fun i i' j hj => by simp at hj, ?_, ?_, ?_, ?_⟩
    · rw [← zrow_rep]; exact at_ofL _
    · simp only [bxP, bxQ, bxQ2, reduceCtorEq, hg3, ev_mks, mks_ok, e1]
    · simp only [bxP, bxQ, bxQ2, reduceCtorEq, hg3, ev_mks, mks_ok, e1]
    · simp only [bxP, bxQ, bxQ2, reduceCtorEq, hg3, ev_mks, mks_ok, e1]
    · simp only [bxP, bxQ, bxQ2, reduceCtorEq, hg3, ev_mks, mks_ok, e1] <;> rfl
end Go.Proofs.YtdggbpfpjkokpaaDoor.K
set_option linter.unusedSimpArgs false
set_option linter.unusedVariables false
namespace Go.Proofs.YtdggbpfpjkokpaaDoor.K
open Go Ev
set_option maxRecDepth 100000
set_option maxHeartbeats 4000000

/-- Rows that were made, apart from the row that holds them. -/
structure Outs (lo : Nat) (M : MH) (r : MV) (es : List (List MV)) (L : List (List Int)) : Prop where
  own : OwnRow lo M 1 r es
  len : es.length = L.length
  at_ : ∀ (i : Nat) l, L[i]? = some l → ∃ ur, es[i]? = some [ur] ∧ OwnRow lo M 1 ur (ints l) ∧ ∀ a b n d, ur = .sl a b n d → ∀ a' b' n' d', r = .sl a' b' n' d' → a ≠ a'
theorem Outs.lrow {lo : Nat} {M : MH} {r : MV} {es : List (List MV)} {L : List (List Int)} (h : Outs lo M r es L) : LRow M r es L := ⟨h.own.row, h.len, fun i l hl => let ⟨ur, h1, h2, _⟩ := h.at_ i l hl; ⟨ur, h1, h2.row⟩⟩
theorem Outs.ext {lo : Nat} {M M' : MH} {r : MV} {es : List (List MV)} {L : List (List Int)} (h : Outs lo M r es L) (k : Ext M M') : Outs lo M' r es L := ⟨h.own.ext k, h.len, fun i l hl => let ⟨ur, h1, h2, h3⟩ := h.at_ i l hl; ⟨ur, h1, h2.ext k, h3⟩⟩
theorem own_lt {lo : Nat} {M : MH} {sz : Nat} {v : MV} {es : List (List MV)} (h : OwnRow lo M sz v es) : ∀ a b n d, v = .sl a b n d → lo ≤ a ∧ a < M.n := by
  obtain ⟨_, ⟨rfl, _⟩ | ⟨id, c, rfl, _, h3, h4, _⟩⟩ := h
  · intro a b n d e; cases e
  · intro a b n d e
    injection e with e1
    subst e1
    exact ⟨h3, h4⟩
theorem own_one {lo : Nat} {M : MH} {sz : Nat} {v : MV} {es : List (List MV)} (h : OwnRow lo M sz v es) : v.one = true ∧ v.cells = [v] ∧ isU v = false := by
  obtain ⟨_, ⟨rfl, _⟩ | ⟨id, c, rfl, _, h3, h4, _⟩⟩ := h <;> exact ⟨rfl, rfl, rfl⟩
/-- One more. -/
theorem Outs.app {lo : Nat} {M : MH} {r ur : MV} {es : List (List MV)} {L : List (List Int)} {l : List Int} (h : Outs lo M r es L) (hu : OwnRow lo M 1 ur (ints l)) (hd : ∀ a b n d, ur = .sl a b n d → ∀ a' b' n' d', r = .sl a' b' n' d' → a ≠ a') (hlo : M.lo ≤ lo) (hln : lo ≤ M.n) (hl : L.length ≤ 1000000) :
    ∃ v' M', appM (M.push (.cs false 1 (ofL [ur] 0))) 1 24 r (.sl M.n 0 1 0) = some (v', M') ∧ Outs lo M' v' (es ++ [[ur]]) (L ++ [l]) ∧ M.n ≤ M'.n ∧ M'.lo = M.lo ∧ ∀ j, j < lo → M'.get j = M.get j := by
  obtain ⟨u1, u2, u3⟩ := own_one hu
  have ho := h.own.ext (.push M (.cs false 1 (ofL [ur] 0)))
  have hel := h.len
  obtain ⟨v', M3, e1, e2, e3, e4, e5, e6, e7⟩ := app_rowX (bytes := 24) ho (row_one (M := M) (sz := 1) (e := [ur]) rfl) (by rw [push_lo]; omega) (by rw [push_n]; omega) (fun e he => by rw [List.mem_singleton.1 he]; show (ur.one && true) = true; rw [u1]; rfl) (by rw [List.length_singleton]; omega) (by rw [List.length_singleton]; omega)
  have hrl := own_lt h.own
  rw [push_n] at e3 e5 e6
  rw [push_lo] at e4
  have hk : ∀ w ws, OwnRow lo M 1 w ws → (∀ a b n d, w = .sl a b n d → ∀ a' b' n' d', r = .sl a' b' n' d' → a ≠ a') → OwnRow lo M3 1 w ws := fun w ws hw hne => by
    refine hw.keep (by omega) fun a b n d e => ?_
    have hlt := (own_lt hw a b n d e).2
    rw [e5 a (by omega) (fun a' b' n' d' e' => Ne.symm (hne a b n d e a' b' n' d' e')), push_old hlt]
  obtain ⟨nn, hv'⟩ := e7 (by simp)
  rw [push_n] at hv'
  refine ⟨v', M3, e1, ⟨e2, by rw [List.length_append, List.length_append, hel]; rfl, fun i x hx => ?_⟩, by omega, by omega, fun j hj => by rw [e6 j hj (by omega), push_old (by omega)]⟩
  have hnew : ∀ w ws, OwnRow lo M 1 w ws → ∀ a b n d, w = .sl a b n d → ∀ a' b' n' d', v' = .sl a' b' n' d' → a ≠ a' := fun w ws hw a b n d e a' b' n' d' e' => by
    have hlt := (own_lt hw a b n d e).2
    rw [hv'] at e'
    injection e' with e0
    omega
  rw [List.getElem?_append] at hx
  split at hx
  · rename_i hi
    obtain ⟨ux, k1, k2, k3⟩ := h.at_ i x hx
    exact ⟨ux, by rw [List.getElem?_append_left (by omega)]; exact k1, hk ux _ k2 k3, hnew ux _ k2⟩
  · rename_i hi
    have h8 := (List.getElem?_eq_some_iff.1 hx).1
    simp only [List.length_singleton] at h8
    have h9 : i = L.length := by omega
    subst h9
    rw [Nat.sub_self] at hx
    injection hx with hx
    subst hx
    exact ⟨ur, by rw [List.getElem?_append_right (by omega), hel, Nat.sub_self]; rfl, hk ur _ hu hd, hnew ur _ hu⟩
theorem Outs.nil (lo : Nat) (M : MH) : Outs lo M .nils [] [] := ⟨OwnRow.nil _ _ _, rfl, fun i l h => by simp at h⟩
theorem first_any {M : MH} {g : Gr} {vr vf vc vk : MV} {es : List (List MV)} (h : GrAt M vr vf vc vk es g) (hlo : M.lo ≤ M.n) : Cp fns 16 [.ag (gcs g vr vf vc vk)] M fun m M' => Ext M M' ∧ (((formP g).2 ≠ 0 ∧ m = .nils) ∨ ((formP g).2 = 0 ∧ ∃ rs F, FstMat g F ∧ LRow M' m rs (F.map listP))) := by
  have hG : ∀ l, l = gcs g vr vf vc vk → Ev.getN (ofL l 0) 7 0 = some (gcs g vr vf vc vk) := fun l e => by subst e; exact (at_ofL (gcs g vr vf vc vk)).getN
  have hG := hG [MV.i IntKind.i64 g.names, MV.i IntKind.i64 g.kinds, MV.i IntKind.i64 g.start, vr, vf, vc, vk] rfl
  refine Cp_call (fn := F16) (by kernel_rfl) (Nat.le_of_ble_eq_true rfl) ?_
  show Wp fns B16 (T.set q0 (some (.ag (gcs g vr vf vc vk))) T.lf) M _
  unfold B16
  rw [show gcs g vr vf vc vk = [MV.i IntKind.i64 g.names, MV.i IntKind.i64 g.kinds, MV.i IntKind.i64 g.start, vr, vf, vc, vk] from rfl]
  simp (maxSteps := 4000000) (disch := first | omega | assumption | (simp only [bxS, bxV, stOk, Nat.reduceBEq, Nat.reduceEqDiff, Nat.reduceAdd]; done) | (simp only [bxU]; omega) | ((try apply has_setN); apply has_ofL; simp only [bxL]; omega)) only [↓bxD, bxP, bxQ, bxQ2, Nat.reduceBEq, reduceCtorEq, Nat.reduceAdd, Nat.reduceSub, Nat.reduceMul, Nat.reduceLeDiff, Nat.reduceLT, bxR, hG]
  generalize hM1 : M.push _ = M1
  have hg0 : M1.get M.n = some (.cs false 7 (ofL [MV.i IntKind.i64 g.names, MV.i IntKind.i64 g.kinds, MV.i IntKind.i64 g.start, vr, vf, vc, vk] 0)) := by rw [← hM1]; exact push_new _
  have hx1 : Ext M M1 := by rw [← hM1]; exact Ext.push M _
  have hn1 : M1.n = M.n + 1 := by rw [← hM1]; rfl
  have hl1 := hx1.lo
  clear hM1
  refine bindP_call (formed_any (h.ext hx1) (by omega)) ?_
  rintro m M2 ⟨rfl, hx2⟩
  have hn2 := hx2.n
  have hl2 := hx2.lo
  have hg2 := (hx2.old M.n (by omega)).trans hg0
  by_cases hz : (formP g).2 = 0
  · have dz : decide ((formP g).2 = 0) = true := decide_eq_true hz
    have hok := form_ok hz
    obtain ⟨nn, hnn⟩ : ∃ n : Nat, g.names = n := ⟨g.names.toNat, by have := hok.n1; omega⟩
    have hn40 := hok.n2
    have hk40 := hok.k2
    simp (maxSteps := 4000000) (disch := first | omega | assumption | (simp only [bxS, bxV, stOk, Nat.reduceBEq, Nat.reduceEqDiff, Nat.reduceAdd]; done) | (simp only [bxU]; omega) | ((try apply has_setN); apply has_ofL; simp only [bxL]; omega)) only [↓bxD, bxP, bxQ, bxQ2, Nat.reduceBEq, reduceCtorEq, Nat.reduceAdd, Nat.reduceSub, Nat.reduceMul, Nat.reduceLeDiff, Nat.reduceLT, bxR, dz, hg2, hG]
    show Wp fns K16_4 _ _ _
    unfold K16_4
    simp (maxSteps := 4000000) (disch := first | omega | assumption | (simp only [bxS, bxV, stOk, Nat.reduceBEq, Nat.reduceEqDiff, Nat.reduceAdd]; done) | (simp only [bxU]; omega) | ((try apply has_setN); apply has_ofL; simp only [bxL]; omega)) only [↓bxD, bxP, bxQ, bxQ2, Nat.reduceBEq, reduceCtorEq, Nat.reduceAdd, Nat.reduceSub, Nat.reduceMul, Nat.reduceLeDiff, Nat.reduceLT, bxR, dz, hg2, hG]
    refine bindP_call (firsts_any ((h.ext hx1).ext hx2) (by omega) hz) ?_
    rintro vF Mb ⟨hx3, fs, F, hF, hFr⟩
    have hn3 := hx3.n
    have hl3 := hx3.lo
    have hg3 := (hx3.old M.n (by omega)).trans hg2
    have hxb := (hx1.trans hx2).trans hx3
    have hFl := hF.len
    obtain ⟨f1, f2⟩ := hFr.row.sl
    rw [hFr.len] at f2
    simp (maxSteps := 4000000) (disch := first | omega | assumption | (simp only [bxS, bxV, stOk, Nat.reduceBEq, Nat.reduceEqDiff, Nat.reduceAdd]; done) | (simp only [bxU]; omega) | ((try apply has_setN); apply has_ofL; simp only [bxL]; omega)) only [↓bxD, bxP, bxQ, bxQ2, Nat.reduceBEq, reduceCtorEq, Nat.reduceAdd, Nat.reduceSub, Nat.reduceMul, Nat.reduceLeDiff, Nat.reduceLT, bxR, dz, hg2, hG]
    refine Wp_inv (σ := Nat × List (List MV)) (fun s f M4 => Ext Mb M4 ∧ s.1 ≤ nn ∧ X.ev f (.t q1) = .p M.n 0 ∧ X.ev f (.t q3) = vF ∧ X.ev f (.t q5) = .i .i64 (s.1 : Int) ∧ ∃ r, X.ev f (.t q4) = r ∧ Outs Mb.n M4 r s.2 ((F.take s.1).map listP)) (fun s => nn - s.1) ?_ (0, []) ?_
    · rintro ⟨i, rs⟩ f M4 ⟨hx, hi, h1, h3, h5, r, h4, ho⟩
      simp only [q1, q3, q4, q5] at h1 h3 h4 h5
      simp only at hi ho
      have hbox := (hx.old M.n (by omega)).trans hg3
      rw [hnn] at hbox
      have hxn := hx.n
      have hxl := hx.lo
      unfold L16_2
      by_cases hi' : i < nn
      · have d1 : decide ((i : Int) < (nn : Int)) = true := decide_eq_true (by omega)
        obtain ⟨row, hrow⟩ : ∃ row, F[i]? = some row := ⟨_, List.getElem?_eq_getElem (by omega)⟩
        obtain ⟨ur, ro, s, t, hg, hid, hC, hB⟩ := (hFr.ext hx).read hrow
        have hrl := hF.rows row (List.mem_of_getElem? hrow)
        simp (maxSteps := 4000000) (disch := first | omega | assumption | (simp only [bxS, bxV, stOk, Nat.reduceBEq, Nat.reduceEqDiff, Nat.reduceAdd]; done) | (simp only [bxU]; omega) | ((try apply has_setN); apply has_ofL; simp only [bxL]; omega)) only [↓bxD, bxP, bxQ, bxQ2, Nat.reduceBEq, reduceCtorEq, Nat.reduceAdd, Nat.reduceSub, Nat.reduceMul, Nat.reduceLeDiff, Nat.reduceLT, bxR, h1, h3, h4, h5, hbox, d1, f1, f2, hFl, hg, hC]
        show Wp fns K16_1 _ _ _
        unfold K16_1
        simp (maxSteps := 4000000) (disch := first | omega | assumption | (simp only [bxS, bxV, stOk, Nat.reduceBEq, Nat.reduceEqDiff, Nat.reduceAdd]; done) | (simp only [bxU]; omega) | ((try apply has_setN); apply has_ofL; simp only [bxL]; omega)) only [↓bxD, bxP, bxQ, bxQ2, Nat.reduceBEq, reduceCtorEq, Nat.reduceAdd, Nat.reduceSub, Nat.reduceMul, Nat.reduceLeDiff, Nat.reduceLT, bxR, h1, h3, h4, h5, hbox, d1, f1, f2, hFl, hg, hC]
        refine bindP_call (list_any hB (by omega) (by omega)) ?_
        rintro m M5 ⟨hx5, hm⟩
        have hn5 := hx5.n
        have hl5 := hx5.lo
        obtain ⟨m1, m2, m3⟩ := own_one hm
        have hfill : fillM [(0, 1, m)] [MV.nils] = some [m] := fill_one m2 m3
        have hml := own_lt hm
        have hol := own_lt ho.own
        obtain ⟨v', M6, e1, e2, e3, e4, e5⟩ := (ho.ext hx5).app (hm.le (by omega)) (fun a b n d e a' b' n' d' e' => by
          have := (hml a b n d e).1
          have := (hol a' b' n' d' e').2
          omega) (by omega) (by omega) (by rw [List.length_map, List.length_take]; omega)
        simp (maxSteps := 4000000) (disch := first | omega | assumption | (simp only [bxS, bxV, stOk, Nat.reduceBEq, Nat.reduceEqDiff, Nat.reduceAdd]; done) | (simp only [bxU]; omega) | ((try apply has_setN); apply has_ofL; simp only [bxL]; omega)) only [↓bxD, bxP, bxQ, bxQ2, Nat.reduceBEq, reduceCtorEq, Nat.reduceAdd, Nat.reduceSub, Nat.reduceMul, Nat.reduceLeDiff, Nat.reduceLT, bxR, h1, h3, h4, h5, hfill]
        refine bindP_of e1 ?_
        simp (maxSteps := 4000000) (disch := first | omega | assumption | (simp only [bxS, bxV, stOk, Nat.reduceBEq, Nat.reduceEqDiff, Nat.reduceAdd]; done) | (simp only [bxU]; omega) | ((try apply has_setN); apply has_ofL; simp only [bxL]; omega)) only [↓bxD, bxP, bxQ, bxQ2, Nat.reduceBEq, reduceCtorEq, Nat.reduceAdd, Nat.reduceSub, Nat.reduceMul, Nat.reduceLeDiff, Nat.reduceLT, bxR, h1, h3, h4, h5, hfill]
        show Wp fns K16_0 _ _ _
        unfold K16_0
        simp (maxSteps := 4000000) (disch := first | omega | assumption | (simp only [bxS, bxV, stOk, Nat.reduceBEq, Nat.reduceEqDiff, Nat.reduceAdd]; done) | (simp only [bxU]; omega) | ((try apply has_setN); apply has_ofL; simp only [bxL]; omega)) only [↓bxD, bxP, bxQ, bxQ2, Nat.reduceBEq, reduceCtorEq, Nat.reduceAdd, Nat.reduceSub, Nat.reduceMul, Nat.reduceLeDiff, Nat.reduceLT, bxR, h1, h3, h4, h5, hfill]
        refine ⟨(i + 1, rs ++ [[m]]), by simp only; omega, ⟨by omega, by omega, fun j hj => by rw [e5 j hj]; exact (hx.trans hx5).old j hj⟩, by simp only; omega, ?_⟩
        refine ⟨rfl, v', rfl, ?_⟩
        simp only
        rw [List.take_add_one, hrow, List.map_append]
        exact e2
      · have d1 : decide ((i : Int) < (nn : Int)) = false := decide_eq_false (by omega)
        have hie : i = nn := by omega
        subst hie
        simp (maxSteps := 4000000) (disch := first | omega | assumption | (simp only [bxS, bxV, stOk, Nat.reduceBEq, Nat.reduceEqDiff, Nat.reduceAdd]; done) | (simp only [bxU]; omega) | ((try apply has_setN); apply has_ofL; simp only [bxL]; omega)) only [↓bxD, bxP, bxQ, bxQ2, Nat.reduceBEq, reduceCtorEq, Nat.reduceAdd, Nat.reduceSub, Nat.reduceMul, Nat.reduceLeDiff, Nat.reduceLT, bxR, h1, h3, h4, h5, hbox, d1]
        show Wp fns K16_3 _ _ _
        unfold K16_3
        simp (maxSteps := 4000000) (disch := first | omega | assumption | (simp only [bxS, bxV, stOk, Nat.reduceBEq, Nat.reduceEqDiff, Nat.reduceAdd]; done) | (simp only [bxU]; omega) | ((try apply has_setN); apply has_ofL; simp only [bxL]; omega)) only [↓bxD, bxP, bxQ, bxQ2, Nat.reduceBEq, reduceCtorEq, Nat.reduceAdd, Nat.reduceSub, Nat.reduceMul, Nat.reduceLeDiff, Nat.reduceLT, bxR, h1, h3, h4, h5, hbox, d1]
        refine ⟨hxb.trans hx, .inr ⟨hz, rs, F, hF, ?_⟩⟩
        have := ho.lrow
        rwa [List.take_of_length_le (by omega)] at this
    · refine ⟨Ext.refl Mb, Nat.zero_le _, ?_, ?_, ?_, .nils, ?_, Outs.nil _ _⟩
      · simp only [bxP, bxQ, bxQ2, reduceCtorEq, dz, hg2, hG]
      · simp only [bxP, bxQ, bxQ2, reduceCtorEq, dz, hg2, hG]
      · simp only [bxP, bxQ, bxQ2, reduceCtorEq, dz, hg2, hG] <;> rfl
      · simp only [bxP, bxQ, bxQ2, reduceCtorEq, dz, hg2, hG]
  · have dz : decide ((formP g).2 = 0) = false := decide_eq_false hz
    simp (maxSteps := 4000000) (disch := first | omega | assumption | (simp only [bxS, bxV, stOk, Nat.reduceBEq, Nat.reduceEqDiff, Nat.reduceAdd]; done) | (simp only [bxU]; omega) | ((try apply has_setN); apply has_ofL; simp only [bxL]; omega)) only [↓bxD, bxP, bxQ, bxQ2, Nat.reduceBEq, reduceCtorEq, Nat.reduceAdd, Nat.reduceSub, Nat.reduceMul, Nat.reduceLeDiff, Nat.reduceLT, bxR, dz]
    exact ⟨hx1.trans hx2, .inl hz⟩
end Go.Proofs.YtdggbpfpjkokpaaDoor.K
set_option linter.unusedSimpArgs false
set_option linter.unusedVariables false
namespace Go.Proofs.YtdggbpfpjkokpaaDoor.K
open Go Ev
set_option maxRecDepth 100000
set_option maxHeartbeats 4000000

/-- What a row of symbols begins with. -/
theorem firstof_any {M : MH} {g : Gr} {vr vf vc vk vl : MV} {es : List (List MV)} {l : List Int} (h : GrAt M vr vf vc vk es g) (hI : IntRow M vl l) (hlw : ∀ z ∈ l, Wf64 z) (hll : l.length ≤ 9223372036854775807) (hlo : M.lo ≤ M.n) : Cp fns 10 [.ag (gcs g vr vf vc vk), vl] M fun m M' => Ext M M' ∧ ((((formP g).2 ≠ 0 ∨ l.all (symB g) = false) ∧ m = .tp [.nils, .b false]) ∨ ((formP g).2 = 0 ∧ l.all (symB g) = true ∧ ∃ r x b, m = .tp [r, .b b] ∧ FirstOfIs g l x b ∧ IntRow M' r x)) := by
  have hG : ∀ l, l = gcs g vr vf vc vk → Ev.getN (ofL l 0) 7 0 = some (gcs g vr vf vc vk) := fun l e => by subst e; exact (at_ofL (gcs g vr vf vc vk)).getN
  have hG := hG [MV.i IntKind.i64 g.names, MV.i IntKind.i64 g.kinds, MV.i IntKind.i64 g.start, vr, vf, vc, vk] rfl
  obtain ⟨l1, l2⟩ := hI.sl
  refine Cp_call (fn := F10) (by kernel_rfl) (Nat.le_of_ble_eq_true rfl) ?_
  show Wp fns B10 (T.set q1 (some vl) (T.set q0 (some (.ag (gcs g vr vf vc vk))) T.lf)) M _
  unfold B10
  rw [show gcs g vr vf vc vk = [MV.i IntKind.i64 g.names, MV.i IntKind.i64 g.kinds, MV.i IntKind.i64 g.start, vr, vf, vc, vk] from rfl]
  simp (maxSteps := 4000000) (disch := first | omega | assumption | (simp only [bxS, bxV, stOk, Nat.reduceBEq, Nat.reduceEqDiff, Nat.reduceAdd]; done) | (simp only [bxU]; omega) | ((try apply has_setN); apply has_ofL; simp only [bxL]; omega)) only [↓bxD, bxP, bxQ, bxQ2, Nat.reduceBEq, reduceCtorEq, Nat.reduceAdd, Nat.reduceSub, Nat.reduceMul, Nat.reduceLeDiff, Nat.reduceLT, bxR, hG]
  generalize hM1 : M.push _ = M1
  have hg0 : M1.get M.n = some (.cs false 7 (ofL [MV.i IntKind.i64 g.names, MV.i IntKind.i64 g.kinds, MV.i IntKind.i64 g.start, vr, vf, vc, vk] 0)) := by rw [← hM1]; exact push_new _
  have hx1 : Ext M M1 := by rw [← hM1]; exact Ext.push M _
  have hn1 : M1.n = M.n + 1 := by rw [← hM1]; rfl
  have hl1 := hx1.lo
  clear hM1
  refine bindP_call (formed_any (h.ext hx1) (by omega)) ?_
  rintro m M2 ⟨rfl, hx2⟩
  have hn2 := hx2.n
  have hl2 := hx2.lo
  have hg2 := (hx2.old M.n (by omega)).trans hg0
  by_cases hz : (formP g).2 = 0
  · have dz : decide ((formP g).2 = 0) = true := decide_eq_true hz
    have hok := form_ok hz
    simp (maxSteps := 4000000) (disch := first | omega | assumption | (simp only [bxS, bxV, stOk, Nat.reduceBEq, Nat.reduceEqDiff, Nat.reduceAdd]; done) | (simp only [bxU]; omega) | ((try apply has_setN); apply has_ofL; simp only [bxL]; omega)) only [↓bxD, bxP, bxQ, bxQ2, Nat.reduceBEq, reduceCtorEq, Nat.reduceAdd, Nat.reduceSub, Nat.reduceMul, Nat.reduceLeDiff, Nat.reduceLT, bxR, dz, hg2, hG]
    show Wp fns K10_6 _ _ _
    unfold K10_6
    simp (maxSteps := 4000000) (disch := first | omega | assumption | (simp only [bxS, bxV, stOk, Nat.reduceBEq, Nat.reduceEqDiff, Nat.reduceAdd]; done) | (simp only [bxU]; omega) | ((try apply has_setN); apply has_ofL; simp only [bxL]; omega)) only [↓bxD, bxP, bxQ, bxQ2, Nat.reduceBEq, reduceCtorEq, Nat.reduceAdd, Nat.reduceSub, Nat.reduceMul, Nat.reduceLeDiff, Nat.reduceLT, bxR, dz, hg2, hG]
    have hxb := hx1.trans hx2
    refine Wp_inv (σ := Nat) (fun i f M4 => Ext M2 M4 ∧ i ≤ l.length ∧ X.ev f (.t q2) = .p M.n 0 ∧ X.ev f (.t q1) = vl ∧ X.ev f (.t q6) = .i .i64 (i : Int) ∧ (l.take i).all (symB g) = true) (fun i => l.length - i) ?_ 0 ?_
    · rintro i f M4 ⟨hx, hi, h2, h1, h6, hs⟩
      simp only [q1, q2, q6] at h1 h2 h6
      have hbox := (hx.old M.n (by omega)).trans hg2
      have hxn := hx.n
      have hxl := hx.lo
      unfold L10_3
      by_cases hi' : i < l.length
      · have d1 : decide ((i : Int) < (l.length : Int)) = true := decide_eq_true (by omega)
        obtain ⟨z, hz'⟩ : ∃ z, l[i]? = some z := ⟨_, List.getElem?_eq_getElem hi'⟩
        obtain ⟨ro, s, t, hg, hid, hC⟩ := (hI.ext (hxb.trans hx)).read hz'
        simp (maxSteps := 4000000) (disch := first | omega | assumption | (simp only [bxS, bxV, stOk, Nat.reduceBEq, Nat.reduceEqDiff, Nat.reduceAdd]; done) | (simp only [bxU]; omega) | ((try apply has_setN); apply has_ofL; simp only [bxL]; omega)) only [↓bxD, bxP, bxQ, bxQ2, Nat.reduceBEq, reduceCtorEq, Nat.reduceAdd, Nat.reduceSub, Nat.reduceMul, Nat.reduceLeDiff, Nat.reduceLT, bxR, h1, h2, h6, hbox, d1, l1, l2, hg, hC, hG]
        show Wp fns K10_2 _ _ _
        unfold K10_2
        simp (maxSteps := 4000000) (disch := first | omega | assumption | (simp only [bxS, bxV, stOk, Nat.reduceBEq, Nat.reduceEqDiff, Nat.reduceAdd]; done) | (simp only [bxU]; omega) | ((try apply has_setN); apply has_ofL; simp only [bxL]; omega)) only [↓bxD, bxP, bxQ, bxQ2, Nat.reduceBEq, reduceCtorEq, Nat.reduceAdd, Nat.reduceSub, Nat.reduceMul, Nat.reduceLeDiff, Nat.reduceLT, bxR, h1, h2, h6, hbox, d1, l1, l2, hg, hC, hG]
        refine Wp_dreg_of (by omega) ?_
        simp (maxSteps := 4000000) (disch := first | omega | assumption | (simp only [bxS, bxV, stOk, Nat.reduceBEq, Nat.reduceEqDiff, Nat.reduceAdd]; done) | (simp only [bxU]; omega) | ((try apply has_setN); apply has_ofL; simp only [bxL]; omega)) only [↓bxD, bxP, bxQ, bxQ2, Nat.reduceBEq, reduceCtorEq, Nat.reduceAdd, Nat.reduceSub, Nat.reduceMul, Nat.reduceLeDiff, Nat.reduceLT, bxR, h1, h2, h6, hbox, d1, l1, l2, hg, hC, hG]
        refine bindP_call (symbol_any (by omega) (hlw z (List.mem_of_getElem? hz'))) ?_
        rintro m M5 ⟨rfl, hx5⟩
        have htk : (l.take (i + 1)).all (symB g) = symB g z := by rw [List.take_add_one, hz', List.all_append, hs]; simp
        cases hv : symB g z with
        | true =>
          simp (maxSteps := 4000000) (disch := first | omega | assumption | (simp only [bxS, bxV, stOk, Nat.reduceBEq, Nat.reduceEqDiff, Nat.reduceAdd]; done) | (simp only [bxU]; omega) | ((try apply has_setN); apply has_ofL; simp only [bxL]; omega)) only [↓bxD, bxP, bxQ, bxQ2, Nat.reduceBEq, reduceCtorEq, Nat.reduceAdd, Nat.reduceSub, Nat.reduceMul, Nat.reduceLeDiff, Nat.reduceLT, bxR, h1, h2, h6, hbox]
          show Wp fns K10_0 _ _ _
          unfold K10_0
          simp (maxSteps := 4000000) (disch := first | omega | assumption | (simp only [bxS, bxV, stOk, Nat.reduceBEq, Nat.reduceEqDiff, Nat.reduceAdd]; done) | (simp only [bxU]; omega) | ((try apply has_setN); apply has_ofL; simp only [bxL]; omega)) only [↓bxD, bxP, bxQ, bxQ2, Nat.reduceBEq, reduceCtorEq, Nat.reduceAdd, Nat.reduceSub, Nat.reduceMul, Nat.reduceLeDiff, Nat.reduceLT, bxR, h1, h2, h6, hbox]
          show Wp fns K10_1 _ _ _
          unfold K10_1
          simp (maxSteps := 4000000) (disch := first | omega | assumption | (simp only [bxS, bxV, stOk, Nat.reduceBEq, Nat.reduceEqDiff, Nat.reduceAdd]; done) | (simp only [bxU]; omega) | ((try apply has_setN); apply has_ofL; simp only [bxL]; omega)) only [↓bxD, bxP, bxQ, bxQ2, Nat.reduceBEq, reduceCtorEq, Nat.reduceAdd, Nat.reduceSub, Nat.reduceMul, Nat.reduceLeDiff, Nat.reduceLT, bxR, h1, h2, h6, hbox]
          refine ⟨i + 1, by omega, hx.trans hx5, by omega, rfl, by rw [htk, hv]⟩
        | false =>
          simp (maxSteps := 4000000) (disch := first | omega | assumption | (simp only [bxS, bxV, stOk, Nat.reduceBEq, Nat.reduceEqDiff, Nat.reduceAdd]; done) | (simp only [bxU]; omega) | ((try apply has_setN); apply has_ofL; simp only [bxL]; omega)) only [↓bxD, bxP, bxQ, bxQ2, Nat.reduceBEq, reduceCtorEq, Nat.reduceAdd, Nat.reduceSub, Nat.reduceMul, Nat.reduceLeDiff, Nat.reduceLT, bxR, h1, h2, h6, hbox]
          show Wp fns K10_0 _ _ _
          unfold K10_0
          simp (maxSteps := 4000000) (disch := first | omega | assumption | (simp only [bxS, bxV, stOk, Nat.reduceBEq, Nat.reduceEqDiff, Nat.reduceAdd]; done) | (simp only [bxU]; omega) | ((try apply has_setN); apply has_ofL; simp only [bxL]; omega)) only [↓bxD, bxP, bxQ, bxQ2, Nat.reduceBEq, reduceCtorEq, Nat.reduceAdd, Nat.reduceSub, Nat.reduceMul, Nat.reduceLeDiff, Nat.reduceLT, bxR, h1, h2, h6, hbox]
          refine ⟨(hxb.trans hx).trans hx5, .inl (.inr ?_)⟩
          have : l.all (symB g) = ((l.take (i + 1)).all (symB g) && (l.drop (i + 1)).all (symB g)) := by rw [← List.all_append, List.take_append_drop]
          rw [this, htk, hv, Bool.false_and]
      · have d1 : decide ((i : Int) < (l.length : Int)) = false := decide_eq_false (by omega)
        have hie : i = l.length := by omega
        subst hie
        rw [List.take_length] at hs
        simp (maxSteps := 4000000) (disch := first | omega | assumption | (simp only [bxS, bxV, stOk, Nat.reduceBEq, Nat.reduceEqDiff, Nat.reduceAdd]; done) | (simp only [bxU]; omega) | ((try apply has_setN); apply has_ofL; simp only [bxL]; omega)) only [↓bxD, bxP, bxQ, bxQ2, Nat.reduceBEq, reduceCtorEq, Nat.reduceAdd, Nat.reduceSub, Nat.reduceMul, Nat.reduceLeDiff, Nat.reduceLT, bxR, h1, h2, h6, hbox, d1, l1, l2, hG]
        show Wp fns K10_5 _ _ _
        unfold K10_5
        simp (maxSteps := 4000000) (disch := first | omega | assumption | (simp only [bxS, bxV, stOk, Nat.reduceBEq, Nat.reduceEqDiff, Nat.reduceAdd]; done) | (simp only [bxU]; omega) | ((try apply has_setN); apply has_ofL; simp only [bxL]; omega)) only [↓bxD, bxP, bxQ, bxQ2, Nat.reduceBEq, reduceCtorEq, Nat.reduceAdd, Nat.reduceSub, Nat.reduceMul, Nat.reduceLeDiff, Nat.reduceLT, bxR, h1, h2, h6, hbox, d1, l1, l2, hG]
        refine Wp_dreg_of (by omega) ?_
        simp (maxSteps := 4000000) (disch := first | omega | assumption | (simp only [bxS, bxV, stOk, Nat.reduceBEq, Nat.reduceEqDiff, Nat.reduceAdd]; done) | (simp only [bxU]; omega) | ((try apply has_setN); apply has_ofL; simp only [bxL]; omega)) only [↓bxD, bxP, bxQ, bxQ2, Nat.reduceBEq, reduceCtorEq, Nat.reduceAdd, Nat.reduceSub, Nat.reduceMul, Nat.reduceLeDiff, Nat.reduceLT, bxR, h1, h2, h6, hbox, d1, l1, l2, hG]
        have hgr := gr_lift ((h.ext hxb).ext hx)
        refine bindP_call (nullable_any hgr (Nat.le_refl _)) ?_
        rintro vn M5 ⟨hx5, ⟨hc, _⟩ | ⟨_, null, hnul, hnrow⟩⟩
        · exact absurd hz hc
        have hn5 := hx5.n
        have hl5 := hx5.lo
        have hb5 := (hx5.old M.n (by rw [lift_n]; omega)).trans hbox
        rw [lift_n] at hn5
        rw [lift_lo] at hl5
        simp (maxSteps := 4000000) (disch := first | omega | assumption | (simp only [bxS, bxV, stOk, Nat.reduceBEq, Nat.reduceEqDiff, Nat.reduceAdd]; done) | (simp only [bxU]; omega) | ((try apply has_setN); apply has_ofL; simp only [bxL]; omega)) only [↓bxD, bxP, bxQ, bxQ2, Nat.reduceBEq, reduceCtorEq, Nat.reduceAdd, Nat.reduceSub, Nat.reduceMul, Nat.reduceLeDiff, Nat.reduceLT, bxR, h1, h2, h6, hbox, d1, l1, l2, hG, hb5]
        have hgr5 := gr_dl (lo := M4.lo) (hgr.ext hx5)
        have hnrow5 : BRow (M5.down M4.lo).lift vn null := hnrow
        refine bindP_call (firsts_any hgr5 (Nat.le_refl _) hz) ?_
        rintro vF M6 ⟨hx6, fs, F, hF, hFr⟩
        have hn6 := hx6.n
        have hl6 := hx6.lo
        have hb6 := (hx6.old M.n (by rw [lift_n, down_n]; omega)).trans hb5
        rw [lift_n, down_n] at hn6
        rw [lift_lo, down_n] at hl6
        simp (maxSteps := 4000000) (disch := first | omega | assumption | (simp only [bxS, bxV, stOk, Nat.reduceBEq, Nat.reduceEqDiff, Nat.reduceAdd]; done) | (simp only [bxU]; omega) | ((try apply has_setN); apply has_ofL; simp only [bxL]; omega)) only [↓bxD, bxP, bxQ, bxQ2, Nat.reduceBEq, reduceCtorEq, Nat.reduceAdd, Nat.reduceSub, Nat.reduceMul, Nat.reduceLeDiff, Nat.reduceLT, bxR, h1, h2, h6, hbox, d1, l1, l2, hG, hb5, hb6]
        obtain ⟨kk, hkk⟩ : ∃ n : Nat, g.kinds = n := ⟨g.kinds.toNat, by have := hok.k1; omega⟩
        have hk40 := hok.k2
        have hx46 : Ext M4 (M6.down M4.lo) := ⟨by rw [down_n]; omega, rfl, fun id hid => (hx6.old id (by rw [lift_n, down_n]; omega)).trans (hx5.old id (by rw [lift_n]; omega))⟩
        have hN5 : BRow M6 vn null := hnrow5.ext hx6
        have hN6 : BRow (M6.down M4.lo) vn null := hN5
        have hF6 : MRow (M6.down M4.lo) vF fs F := ⟨hFr.row, hFr.len, fun i l hl => hFr.at_ i l hl⟩
        rw [show gcs g vr vf vc vk = [MV.i .i64 g.names, .i .i64 (kk : Int), .i .i64 g.start, vr, vf, vc, vk] from by unfold gcs; rw [hkk]]
        refine bindP_call (begin_any (null := null) (F := F) hkk (by omega) (by rw [down_lo, down_n]; omega) hN6 hF6 ((hI.ext (hxb.trans hx)).ext hx46) ⟨hnul.1, hF.len, hF.rows⟩ (fun z hz => List.all_eq_true.1 hs z hz) hlw hll hok.n1) ?_
        rintro m M7 ⟨hx7, id7, o, rfl, hid7a, hid7b, hob, ho1, ho2, ho3⟩
        have hn7 := hx7.n
        have hl7 := hx7.lo
        rw [down_n] at hn7
        rw [down_lo] at hl7
        simp (maxSteps := 4000000) (disch := first | omega | assumption | (simp only [bxS, bxV, stOk, Nat.reduceBEq, Nat.reduceEqDiff, Nat.reduceAdd]; done) | (simp only [bxU]; omega) | ((try apply has_setN); apply has_ofL; simp only [bxL]; omega)) only [↓bxD, bxP, bxQ, bxQ2, Nat.reduceBEq, reduceCtorEq, Nat.reduceAdd, Nat.reduceSub, Nat.reduceMul, Nat.reduceLeDiff, Nat.reduceLT, bxR, h1, h2, h6]
        show Wp fns K10_4 _ _ _
        unfold K10_4
        simp (maxSteps := 4000000) (disch := first | omega | assumption | (simp only [bxS, bxV, stOk, Nat.reduceBEq, Nat.reduceEqDiff, Nat.reduceAdd]; done) | (simp only [bxU]; omega) | ((try apply has_setN); apply has_ofL; simp only [bxL]; omega)) only [↓bxD, bxP, bxQ, bxQ2, Nat.reduceBEq, reduceCtorEq, Nat.reduceAdd, Nat.reduceSub, Nat.reduceMul, Nat.reduceLeDiff, Nat.reduceLT, bxR, h1, h2, h6]
        have hB7 : BRow M7 (.sl id7 0 (kk + 1) 0) o := by
          have := hob.row hid7b
          rw [ho1] at this
          exact this
        refine bindP_call (list_any hB7 (by omega) (by omega)) ?_
        rintro m M8 ⟨hx8, hm⟩
        simp (maxSteps := 4000000) (disch := first | omega | assumption | (simp only [bxS, bxV, stOk, Nat.reduceBEq, Nat.reduceEqDiff, Nat.reduceAdd]; done) | (simp only [bxU]; omega) | ((try apply has_setN); apply has_ofL; simp only [bxL]; omega)) only [↓bxD, bxP, bxQ, bxQ2, Nat.reduceBEq, reduceCtorEq, Nat.reduceAdd, Nat.reduceSub, Nat.reduceMul, Nat.reduceLeDiff, Nat.reduceLT, bxR, h1, h2, h6]
        refine ⟨(((hxb.trans hx).trans hx46).trans hx7).trans hx8, .inr ⟨hz, hs, m, listP o, allN null l, rfl, ⟨null, F, o, hnul, hF, ?_, rfl, rfl⟩, hm.row⟩⟩
        rw [hkk]
        exact ⟨ho1, ho2, ho3⟩
    · refine ⟨Ext.refl M2, Nat.zero_le _, ?_, ?_, ?_, rfl⟩
      · simp only [bxP, bxQ, bxQ2, reduceCtorEq, dz, hg2, hG]
      · simp only [bxP, bxQ, bxQ2, reduceCtorEq, dz, hg2, hG]
      · simp only [bxP, bxQ, bxQ2, reduceCtorEq, dz, hg2, hG] <;> rfl
  · have dz : decide ((formP g).2 = 0) = false := decide_eq_false hz
    simp (maxSteps := 4000000) (disch := first | omega | assumption | (simp only [bxS, bxV, stOk, Nat.reduceBEq, Nat.reduceEqDiff, Nat.reduceAdd]; done) | (simp only [bxU]; omega) | ((try apply has_setN); apply has_ofL; simp only [bxL]; omega)) only [↓bxD, bxP, bxQ, bxQ2, Nat.reduceBEq, reduceCtorEq, Nat.reduceAdd, Nat.reduceSub, Nat.reduceMul, Nat.reduceLeDiff, Nat.reduceLT, bxR, dz]
    exact ⟨hx1.trans hx2, .inl (.inl hz)⟩
end Go.Proofs.YtdggbpfpjkokpaaDoor.K
set_option linter.unusedSimpArgs false
set_option linter.unusedVariables false
namespace Go.Proofs.YtdggbpfpjkokpaaDoor.K
open Go Ev
set_option maxRecDepth 100000
set_option maxHeartbeats 4000000

theorem reach_in {M0 M : MH} {g : Gr} {vr vf vc vk : MV} {es : List (List MV)} {id : Nat} {l : List Bool} {f : Fr} (h : NSt M0 M g vr vf vc vk es id l f) {an : Nat} {a2 : Int} {ar : List Int} {ur : MV} {i n6 : Nat} {c : T MV} {more : Bool}
    (hr : ((an : Int), ar, a2) ∈ g.rules) (hn6 : n6 ≠ id) (hn7 : n6 < M.n) (hb6 : M.get n6 = some (.cs false 3 c)) (hC : At c 0 [.i .i64 an, ur, .i .i64 a2]) (hu : IntRow M0 ur ar)
    (h6 : X.ev f (.t q6) = .p n6 0) (h5 : X.ev f (.t q5) = .i .i64 (i : Int)) (h7 : X.ev f (.t q7) = .i .i64 0) (h4 : X.ev f (.t q4) = .b more) (hs : RchSound g l) (h00 : l[g.start.toNat]? = some true) (Q : Post)
    (hn : ∀ f' M' l' more', NSt M0 M' g vr vf vc vk es id l' f' → X.ev f' (.t q5) = .i .i64 (i : Int) → X.ev f' (.t q4) = .b more' → RchSound g l' → l'[g.start.toNat]? = some true → ((l' = l ∧ more' = more ∧ (l[an]? = some true → RchHas l ar)) ∨ (falses l' < falses l ∧ more' = true)) → Q .norm f' M') :
    Wp fns (.loop L22_2) f M (blockQ 4 Q) := by
  obtain ⟨hl0, hl1⟩ := h.ok.left _ hr
  have hsym := h.ok.sym _ hr
  have hlen := h.ok.len _ hr
  simp only at hl0 hl1 hsym hlen
  have hn40 := h.ok.n2
  have c0 : cget c 0 = some (.i .i64 an) := hC 0 _ rfl
  have c1 : cget c 1 = some ur := hC 1 _ rfl
  refine Wp_inv (σ := Nat × List Bool × Bool) (fun s f1 M1 => NSt M0 M1 g vr vf vc vk es id s.2.1 f1 ∧ s.1 ≤ ar.length ∧ X.ev f1 (.t q6) = .p n6 0 ∧ M1.get n6 = some (.cs false 3 c) ∧ n6 < M1.n ∧ X.ev f1 (.t q5) = .i .i64 (i : Int) ∧ X.ev f1 (.t q7) = .i .i64 (s.1 : Int) ∧ X.ev f1 (.t q4) = .b s.2.2 ∧ RchSound g s.2.1 ∧ s.2.1[g.start.toNat]? = some true ∧ ((s.2.1 = l ∧ s.2.2 = more ∧ (l[an]? = some true → RchHas l (ar.take s.1))) ∨ (falses s.2.1 < falses l ∧ s.2.2 = true))) (fun s => ar.length - s.1) ?_ (0, l, more) ?_
  · rintro ⟨k, l1, m1⟩ f1 M1 ⟨h, hk, h6, hb6, hn7, h5, h7, h4, hs, h00, hc⟩
    simp only at h hk h6 hb6 hn7 h5 h7 h4 hs h00 hc
    have hu1 := hu.ext h.ext
    obtain ⟨hu3, hu4⟩ := hu1.sl
    obtain ⟨t, ht1, ht2, ht3, ht4⟩ := h.row.read
    have hll := h.len
    have hid2 := h.id2
    have hid1 := h.id1
    have hlo := h.lo0
    have hel := h.ext.lo
    have hq1 := h.q1
    have hq3 := h.q3
    simp only [q1, q3, q4, q5, q6, q7] at hq1 hq3 h4 h5 h6 h7
    have han : an < l1.length := by omega
    obtain ⟨ba, hba⟩ : ∃ x, l1[an]? = some x := ⟨_, List.getElem?_eq_getElem han⟩
    have hRa := ht2 _ _ hba
    unfold L22_2
    by_cases hk1 : k < ar.length
    · have d1 : decide ((k : Int) < (ar.length : Int)) = true := decide_eq_true (by omega)
      cases ba with
      | true =>
        obtain ⟨z, hz⟩ : ∃ z, ar[k]? = some z := ⟨_, List.getElem?_eq_getElem hk1⟩
        obtain ⟨ro, s, tt, hg, hid, hZ⟩ := hu1.read hz
        have hzs := hsym z (List.mem_of_getElem? hz)
        have hhas : ∀ (x : List Bool), RchHas x (ar.take k) → (0 ≤ z → x[z.toNat]? = some true) → RchHas x (ar.take (k + 1)) := fun x h1 h2 y hy h0 => by
          rw [List.take_add_one, hz] at hy
          rcases List.mem_append.1 hy with h3 | h3
          · exact h1 y h3 h0
          · simp only [Option.toList_some, List.mem_singleton] at h3
            subst h3
            exact h2 h0
        by_cases z0 : 0 ≤ z
        · have dz : decide (0 ≤ z) = true := decide_eq_true z0
          have hzl := symB_lt hzs z0
          obtain ⟨zn, rfl⟩ : ∃ n : Nat, z = n := ⟨z.toNat, by omega⟩
          have hzn : zn < l1.length := by omega
          obtain ⟨bz, hbz⟩ : ∃ x, l1[zn]? = some x := ⟨_, List.getElem?_eq_getElem hzn⟩
          have hR := ht2 _ _ hbz
          have hH := ht3 zn hzn
          simp only [Int.toNat_natCast] at hhas
          cases bz with
          | true =>
            simp (maxSteps := 4000000) (disch := first | omega | assumption | (simp only [bxS, bxV, stOk, Nat.reduceBEq, Nat.reduceEqDiff, Nat.reduceAdd]; done) | (simp only [bxU]; omega) | ((try apply has_setN); apply has_ofL; simp only [bxL]; omega)) only [↓bxD, bxP, bxQ, bxQ2, Nat.reduceBEq, reduceCtorEq, Nat.reduceAdd, Nat.reduceSub, Nat.reduceMul, Nat.reduceLeDiff, Nat.reduceLT, bxR, hq1, hq3, h4, h5, h6, h7, hb6, hu3, hu4, c0, c1, d1, hRa, hg, hZ, dz, ht1, hR, ix_slc, len_slc]
            show Wp fns K22_1 _ _ _
            unfold K22_1
            simp (maxSteps := 4000000) (disch := first | omega | assumption | (simp only [bxS, bxV, stOk, Nat.reduceBEq, Nat.reduceEqDiff, Nat.reduceAdd]; done) | (simp only [bxU]; omega) | ((try apply has_setN); apply has_ofL; simp only [bxL]; omega)) only [↓bxD, bxP, bxQ, bxQ2, Nat.reduceBEq, reduceCtorEq, Nat.reduceAdd, Nat.reduceSub, Nat.reduceMul, Nat.reduceLeDiff, Nat.reduceLT, bxR, hq1, hq3, h4, h5, h6, h7, hb6, hu3, hu4, c0, c1, d1, hRa, hg, hZ, dz, ht1, hR, ix_slc, len_slc]
            show Wp fns K22_0 _ _ _
            unfold K22_0
            simp (maxSteps := 4000000) (disch := first | omega | assumption | (simp only [bxS, bxV, stOk, Nat.reduceBEq, Nat.reduceEqDiff, Nat.reduceAdd]; done) | (simp only [bxU]; omega) | ((try apply has_setN); apply has_ofL; simp only [bxL]; omega)) only [↓bxD, bxP, bxQ, bxQ2, Nat.reduceBEq, reduceCtorEq, Nat.reduceAdd, Nat.reduceSub, Nat.reduceMul, Nat.reduceLeDiff, Nat.reduceLT, bxR, hq1, hq3, h4, h5, h6, h7, hb6, hu3, hu4, c0, c1, d1, hRa, hg, hZ, dz, ht1, hR, ix_slc, len_slc]
            refine ⟨(k + 1, l1, m1), by simp only; omega, ⟨h.gr, h.ok, h.ext, h.lo0, h.b0, h.id1, h.id2, h.row, h.len, ?_, ?_⟩, by simp only; omega, ?_⟩
            · simp only [bxP, bxQ, bxQ2, reduceCtorEq, hq1, hq3, h4, h5, h6, h7, hb6, hu3, hu4, c0, c1, d1, hRa, hg, hZ, dz, ht1, hR, ix_slc, len_slc]
            · simp only [bxP, bxQ, bxQ2, reduceCtorEq, hq1, hq3, h4, h5, h6, h7, hb6, hu3, hu4, c0, c1, d1, hRa, hg, hZ, dz, ht1, hR, ix_slc, len_slc]
            · refine ⟨hn7, rfl, rfl, hs, h00, ?_⟩
              rcases hc with ⟨rfl, rfl, hc⟩ | hc
              · exact .inl ⟨rfl, rfl, fun e => hhas _ (hc e) fun _ => hbz⟩
              · exact .inr hc
          | false =>
            simp (maxSteps := 4000000) (disch := first | omega | assumption | (simp only [bxS, bxV, stOk, Nat.reduceBEq, Nat.reduceEqDiff, Nat.reduceAdd]; done) | (simp only [bxU]; omega) | ((try apply has_setN); apply has_ofL; simp only [bxL]; omega)) only [↓bxD, bxP, bxQ, bxQ2, Nat.reduceBEq, reduceCtorEq, Nat.reduceAdd, Nat.reduceSub, Nat.reduceMul, Nat.reduceLeDiff, Nat.reduceLT, bxR, hq1, hq3, h4, h5, h6, h7, hb6, hu3, hu4, c0, c1, d1, hRa, hg, hZ, dz, ht1, hR, ix_slc, len_slc]
            show Wp fns K22_1 _ _ _
            unfold K22_1
            simp (maxSteps := 4000000) (disch := first | omega | assumption | (simp only [bxS, bxV, stOk, Nat.reduceBEq, Nat.reduceEqDiff, Nat.reduceAdd]; done) | (simp only [bxU]; omega) | ((try apply has_setN); apply has_ofL; simp only [bxL]; omega)) only [↓bxD, bxP, bxQ, bxQ2, Nat.reduceBEq, reduceCtorEq, Nat.reduceAdd, Nat.reduceSub, Nat.reduceMul, Nat.reduceLeDiff, Nat.reduceLT, bxR, hq1, hq3, h4, h5, h6, h7, hb6, hu3, hu4, c0, c1, d1, hRa, hg, hZ, dz, ht1, hR, ix_slc, len_slc]
            generalize hM2 : M1.set id _ = M2
            have hx2 : Ext M0 M2 := by rw [← hM2]; exact h.ext.set _ (by omega)
            have hrow2 : BoolsAt M2 id (l1.set zn true) := ⟨_, by rw [← hM2, set_same]; rfl, ht4 zn true hzn⟩
            have hb2 : M2.get M0.n = some (.cs false 7 (ofL (gcs g vr vf vc vk) 0)) := by rw [← hM2, set_ne (by omega)]; exact h.b0
            have hb62 : M2.get n6 = some (.cs false 3 c) := by rw [← hM2, set_ne (by omega)]; exact hb6
            have hn2 : M2.n = M1.n := by rw [← hM2]; rfl
            clear hM2
            show Wp fns K22_0 _ _ _
            unfold K22_0
            simp (maxSteps := 4000000) (disch := first | omega | assumption | (simp only [bxS, bxV, stOk, Nat.reduceBEq, Nat.reduceEqDiff, Nat.reduceAdd]; done) | (simp only [bxU]; omega) | ((try apply has_setN); apply has_ofL; simp only [bxL]; omega)) only [↓bxD, bxP, bxQ, bxQ2, Nat.reduceBEq, reduceCtorEq, Nat.reduceAdd, Nat.reduceSub, Nat.reduceMul, Nat.reduceLeDiff, Nat.reduceLT, bxR, hq1, hq3, h4, h5, h6, h7, hb6, hu3, hu4, c0, c1, d1, hRa, hg, hZ, dz, ht1, hR, ix_slc, len_slc]
            refine ⟨(k + 1, l1.set zn true, true), by simp only; omega, ⟨h.gr, h.ok, hx2, h.lo0, hb2, h.id1, by omega, hrow2, by rw [List.length_set]; exact h.len, ?_, ?_⟩, by simp only; omega, ?_⟩
            · simp only [bxP, bxQ, bxQ2, reduceCtorEq, hq1, hq3, h4, h5, h6, h7, hb6, hu3, hu4, c0, c1, d1, hRa, hg, hZ, dz, ht1, hR, ix_slc, len_slc]
            · simp (maxSteps := 4000000) (disch := first | omega | assumption | (simp only [bxS, bxV, stOk, Nat.reduceBEq, Nat.reduceEqDiff, Nat.reduceAdd]; done) | (simp only [bxU]; omega) | ((try apply has_setN); apply has_ofL; simp only [bxL]; omega)) only [↓bxD, bxP, bxQ, bxQ2, Nat.reduceBEq, reduceCtorEq, Nat.reduceAdd, Nat.reduceSub, Nat.reduceMul, Nat.reduceLeDiff, Nat.reduceLT, bxR, hq1, hq3, h4, h5, h6, h7, hb6, hu3, hu4, c0, c1, d1, hRa, hg, hZ, dz, ht1, hR, ix_slc, len_slc, List.length_set]
            · refine ⟨hb62, by omega, rfl, rfl, ?_, set_true h00, .inr ⟨?_, rfl⟩⟩
              · refine hs.set ?_
                have := Rch.step (g := g) _ hr (by simp only [Int.toNat_natCast]; exact hs an hba) zn (List.mem_of_getElem? hz) z0
                simpa using this
              · have h1 := falses_set hbz
                rcases hc with ⟨rfl, _, _⟩ | ⟨h2, _⟩
                · exact h1
                · exact Nat.lt_trans h1 h2
        · have dz : decide (0 ≤ z) = false := decide_eq_false z0
          simp (maxSteps := 4000000) (disch := first | omega | assumption | (simp only [bxS, bxV, stOk, Nat.reduceBEq, Nat.reduceEqDiff, Nat.reduceAdd]; done) | (simp only [bxU]; omega) | ((try apply has_setN); apply has_ofL; simp only [bxL]; omega)) only [↓bxD, bxP, bxQ, bxQ2, Nat.reduceBEq, reduceCtorEq, Nat.reduceAdd, Nat.reduceSub, Nat.reduceMul, Nat.reduceLeDiff, Nat.reduceLT, bxR, hq1, hq3, h4, h5, h6, h7, hb6, hu3, hu4, c0, c1, d1, hRa, hg, hZ, dz, ht1, ix_slc, len_slc]
          show Wp fns K22_1 _ _ _
          unfold K22_1
          simp (maxSteps := 4000000) (disch := first | omega | assumption | (simp only [bxS, bxV, stOk, Nat.reduceBEq, Nat.reduceEqDiff, Nat.reduceAdd]; done) | (simp only [bxU]; omega) | ((try apply has_setN); apply has_ofL; simp only [bxL]; omega)) only [↓bxD, bxP, bxQ, bxQ2, Nat.reduceBEq, reduceCtorEq, Nat.reduceAdd, Nat.reduceSub, Nat.reduceMul, Nat.reduceLeDiff, Nat.reduceLT, bxR, hq1, hq3, h4, h5, h6, h7, hb6, hu3, hu4, c0, c1, d1, hRa, hg, hZ, dz, ht1, ix_slc, len_slc]
          show Wp fns K22_0 _ _ _
          unfold K22_0
          simp (maxSteps := 4000000) (disch := first | omega | assumption | (simp only [bxS, bxV, stOk, Nat.reduceBEq, Nat.reduceEqDiff, Nat.reduceAdd]; done) | (simp only [bxU]; omega) | ((try apply has_setN); apply has_ofL; simp only [bxL]; omega)) only [↓bxD, bxP, bxQ, bxQ2, Nat.reduceBEq, reduceCtorEq, Nat.reduceAdd, Nat.reduceSub, Nat.reduceMul, Nat.reduceLeDiff, Nat.reduceLT, bxR, hq1, hq3, h4, h5, h6, h7, hb6, hu3, hu4, c0, c1, d1, hRa, hg, hZ, dz, ht1, ix_slc, len_slc]
          refine ⟨(k + 1, l1, m1), by simp only; omega, ⟨h.gr, h.ok, h.ext, h.lo0, h.b0, h.id1, h.id2, h.row, h.len, ?_, ?_⟩, by simp only; omega, ?_⟩
          · simp only [bxP, bxQ, bxQ2, reduceCtorEq, hq1, hq3, h4, h5, h6, h7, hb6, hu3, hu4, c0, c1, d1, hRa, hg, hZ, dz, ht1, ix_slc, len_slc]
          · simp only [bxP, bxQ, bxQ2, reduceCtorEq, hq1, hq3, h4, h5, h6, h7, hb6, hu3, hu4, c0, c1, d1, hRa, hg, hZ, dz, ht1, ix_slc, len_slc]
          · refine ⟨hn7, rfl, rfl, hs, h00, ?_⟩
            rcases hc with ⟨rfl, rfl, hc⟩ | hc
            · exact .inl ⟨rfl, rfl, fun e => hhas _ (hc e) fun h => absurd h z0⟩
            · exact .inr hc
      | false =>
        simp (maxSteps := 4000000) (disch := first | omega | assumption | (simp only [bxS, bxV, stOk, Nat.reduceBEq, Nat.reduceEqDiff, Nat.reduceAdd]; done) | (simp only [bxU]; omega) | ((try apply has_setN); apply has_ofL; simp only [bxL]; omega)) only [↓bxD, bxP, bxQ, bxQ2, Nat.reduceBEq, reduceCtorEq, Nat.reduceAdd, Nat.reduceSub, Nat.reduceMul, Nat.reduceLeDiff, Nat.reduceLT, bxR, hq1, hq3, h4, h5, h6, h7, hb6, hu3, hu4, c0, c1, d1, hRa, ht1, ix_slc, len_slc]
        refine hn _ _ l1 m1 ⟨h.gr, h.ok, h.ext, h.lo0, h.b0, h.id1, h.id2, h.row, h.len, ?_, ?_⟩ ?_ ?_ hs h00 ?_
        · simp only [bxP, bxQ, bxQ2, reduceCtorEq, hq1, hq3, h4, h5, h6, h7, hb6, hu3, hu4, c0, c1, d1, hRa, ht1, ix_slc, len_slc]
        · simp only [bxP, bxQ, bxQ2, reduceCtorEq, hq1, hq3, h4, h5, h6, h7, hb6, hu3, hu4, c0, c1, d1, hRa, ht1, ix_slc, len_slc]
        · simp only [bxP, bxQ, bxQ2, reduceCtorEq, hq1, hq3, h4, h5, h6, h7, hb6, hu3, hu4, c0, c1, d1, hRa, ht1, ix_slc, len_slc]
        · simp only [bxP, bxQ, bxQ2, reduceCtorEq, hq1, hq3, h4, h5, h6, h7, hb6, hu3, hu4, c0, c1, d1, hRa, ht1, ix_slc, len_slc]
        · rcases hc with ⟨rfl, rfl, hc⟩ | hc
          · exact .inl ⟨rfl, rfl, fun e => by rw [hba] at e; cases e⟩
          · exact .inr hc
    · have d1 : decide ((k : Int) < (ar.length : Int)) = false := decide_eq_false (by omega)
      have hkl : k = ar.length := by omega
      subst hkl
      rw [List.take_length] at hc
      simp (maxSteps := 4000000) (disch := first | omega | assumption | (simp only [bxS, bxV, stOk, Nat.reduceBEq, Nat.reduceEqDiff, Nat.reduceAdd]; done) | (simp only [bxU]; omega) | ((try apply has_setN); apply has_ofL; simp only [bxL]; omega)) only [↓bxD, bxP, bxQ, bxQ2, Nat.reduceBEq, reduceCtorEq, Nat.reduceAdd, Nat.reduceSub, Nat.reduceMul, Nat.reduceLeDiff, Nat.reduceLT, bxR, hq1, hq3, h4, h5, h6, h7, hb6, hu3, hu4, c0, c1, d1]
      refine hn _ _ l1 m1 ⟨h.gr, h.ok, h.ext, h.lo0, h.b0, h.id1, h.id2, h.row, h.len, ?_, ?_⟩ ?_ ?_ hs h00 hc
      · simp only [bxP, bxQ, bxQ2, reduceCtorEq, hq1, hq3, h4, h5, h6, h7, hb6, hu3, hu4, c0, c1, d1]
      · simp only [bxP, bxQ, bxQ2, reduceCtorEq, hq1, hq3, h4, h5, h6, h7, hb6, hu3, hu4, c0, c1, d1]
      · simp only [bxP, bxQ, bxQ2, reduceCtorEq, hq1, hq3, h4, h5, h6, h7, hb6, hu3, hu4, c0, c1, d1]
      · simp only [bxP, bxQ, bxQ2, reduceCtorEq, hq1, hq3, h4, h5, h6, h7, hb6, hu3, hu4, c0, c1, d1]
  · exact ⟨h, Nat.zero_le _, h6, hb6, hn7, h5, h7, h4, hs, h00, .inl ⟨rfl, rfl, fun _ s hs => by simp at hs⟩⟩
theorem reach_round {M0 M : MH} {g : Gr} {vr vf vc vk : MV} {es : List (List MV)} {id : Nat} {l0 : List Bool} {f : Fr} (h : NSt M0 M g vr vf vc vk es id l0 f) (hs : RchSound g l0) (h00 : l0[g.start.toNat]? = some true) (Q : Post)
    (hn : ∀ f' M' l' more, NSt M0 M' g vr vf vc vk es id l' f' → X.ev f' (.t q4) = .b more → RchSound g l' → l'[g.start.toNat]? = some true → ((more = true ∧ falses l' < falses l0) ∨ (more = false ∧ l' = l0 ∧ RchClosed l0 g.rules)) → Q .norm f' M') : Wp fns K22_6 f M Q := by
  unfold K22_6
  simp (maxSteps := 4000000) (disch := first | omega | assumption | (simp only [bxS, bxV, stOk, Nat.reduceBEq, Nat.reduceEqDiff, Nat.reduceAdd]; done) | (simp only [bxU]; omega) | ((try apply has_setN); apply has_ofL; simp only [bxL]; omega)) only [↓bxD, bxP, bxQ, bxQ2, Nat.reduceBEq, reduceCtorEq, Nat.reduceAdd, Nat.reduceSub, Nat.reduceMul, Nat.reduceLeDiff, Nat.reduceLT, bxR]
  refine Wp_inv (σ := Nat × List Bool × Bool) (fun s f1 M1 => NSt M0 M1 g vr vf vc vk es id s.2.1 f1 ∧ s.1 ≤ g.rules.length ∧ X.ev f1 (.t q5) = .i .i64 (s.1 : Int) ∧ X.ev f1 (.t q4) = .b s.2.2 ∧ RchSound g s.2.1 ∧ s.2.1[g.start.toNat]? = some true ∧ ((s.2.2 = true ∧ falses s.2.1 < falses l0) ∨ (s.2.2 = false ∧ s.2.1 = l0 ∧ RchClosed l0 (g.rules.take s.1)))) (fun s => g.rules.length - s.1) ?_ (0, l0, false) ?_
  · rintro ⟨i, l, more⟩ f1 M1 ⟨h, hi, h5, h4, hs, h00, hc⟩
    simp only at h hi h5 h4 hs h00 hc
    have hq1 := h.q1
    have hq3 := h.q3
    have hbox := h.b0
    have hlo := h.lo0
    have hn0 := h.ext.n
    have hl0 := h.ext.lo
    have hid1 := h.id1
    have hid2 := h.id2
    obtain ⟨hr1, hr2⟩ := h.gr.rules.row.sl
    rw [h.gr.rules.len] at hr2
    unfold gcs at hbox
    have hrl := h.ok.rl
    simp only [q1, q3, q4, q5] at hq1 hq3 h4 h5
    unfold L22_5
    by_cases hi' : i < g.rules.length
    · have d1 : decide ((i : Int) < (g.rules.length : Int)) = true := decide_eq_true (by omega)
      obtain ⟨r, hr⟩ : ∃ r, g.rules[i]? = some r := ⟨_, List.getElem?_eq_getElem hi'⟩
      obtain ⟨a0, ar, a2⟩ := r
      have hmem := List.mem_of_getElem? hr
      obtain ⟨ur, hu1, hu2⟩ := h.gr.rules.get hr
      have hrow := h.gr.rules.row.ext h.ext
      obtain ⟨ro3, s3, t3, hg3, hid3, hat3⟩ := hrow.read hu1
      have hN : Ev.getN t3 3 (soff vr + i * 3) = some [.i .i64 a0, ur, .i .i64 a2] := hat3.getN
      obtain ⟨hu3, hu4⟩ := hu2.sl
      have hu6 := isSl_one hu3
      have hst : stOk 3 (.ag [.i .i64 a0, ur, .i .i64 a2]) = true := by simp only [stOk, cells_ag, isU_ag, all_cons, all_nil, one_i, hu6]; rfl
      obtain ⟨ha0, ha1⟩ := h.ok.left _ hmem
      simp only at ha0 ha1
      obtain ⟨an, rfl⟩ : ∃ n : Nat, a0 = n := ⟨a0.toNat, by omega⟩
      have hll := h.len
      have han : an < l.length := by omega
      obtain ⟨t, ht1, ht2, ht3, ht4⟩ := h.row.read
      obtain ⟨bb, hbb⟩ : ∃ x, l[an]? = some x := ⟨_, List.getElem?_eq_getElem han⟩
      have hR := ht2 _ _ hbb
      simp (maxSteps := 4000000) (disch := first | omega | assumption | (simp only [bxS, bxV, stOk, Nat.reduceBEq, Nat.reduceEqDiff, Nat.reduceAdd]; done) | (simp only [bxU]; omega) | ((try apply has_setN); apply has_ofL; simp only [bxL]; omega)) only [↓bxD, bxP, bxQ, bxQ2, Nat.reduceBEq, reduceCtorEq, Nat.reduceAdd, Nat.reduceSub, Nat.reduceMul, Nat.reduceLeDiff, Nat.reduceLT, bxR, hq1, hq3, h4, h5, hr1, hr2, hbox, hg3, hN, d1, ix_slc, len_slc, ht1, hR]
      show Wp fns K22_4 _ _ _
      unfold K22_4
      simp (maxSteps := 4000000) (disch := first | omega | assumption | (simp only [bxS, bxV, stOk, Nat.reduceBEq, Nat.reduceEqDiff, Nat.reduceAdd]; done) | (simp only [bxU]; omega) | ((try apply has_setN); apply has_ofL; simp only [bxL]; omega)) only [↓bxD, bxP, bxQ, bxQ2, Nat.reduceBEq, reduceCtorEq, Nat.reduceAdd, Nat.reduceSub, Nat.reduceMul, Nat.reduceLeDiff, Nat.reduceLT, bxR, hq1, hq3, h4, h5, hr1, hr2, hbox, hg3, hN, d1, ix_slc, len_slc, ht1, hR]
      generalize hM2 : (M1.push _).set M1.n _ = M2
      have hx2 : Ext M1 M2 := by rw [← hM2]; exact (Ext.push M1 _).set _ (Nat.le_refl _)
      have h9 : M2.get M1.n = some (.cs false 3 (setN [.i .i64 (an : Int), ur, .i .i64 a2] 0 (ofL [.i .i64 0, .nils, .i .i64 0] 0))) := by rw [← hM2, set_same]
      have hn3 : M2.n = M1.n + 1 := by rw [← hM2]; rfl
      clear hM2
      refine reach_in (i := i) (more := more) ⟨h.gr, h.ok, h.ext.trans hx2, h.lo0, (hx2.old _ (by omega)).trans h.b0, h.id1, by omega, h.row.same (hx2.old _ hid2), h.len, ?_, ?_⟩ hmem (by omega) (by omega) h9 (at_setN _ _ _) hu2 (by simp only [bxP, bxQ, bxQ2, reduceCtorEq, hq1, hq3, h4, h5, hr1, hr2, hbox, hg3, hN, d1, ix_slc, len_slc, ht1, hR]) (by simp only [bxP, bxQ, bxQ2, reduceCtorEq, hq1, hq3, h4, h5, hr1, hr2, hbox, hg3, hN, d1, ix_slc, len_slc, ht1, hR]) (by simp only [bxP, bxQ, bxQ2, reduceCtorEq, hq1, hq3, h4, h5, hr1, hr2, hbox, hg3, hN, d1, ix_slc, len_slc, ht1, hR]) (by simp only [bxP, bxQ, bxQ2, reduceCtorEq, hq1, hq3, h4, h5, hr1, hr2, hbox, hg3, hN, d1, ix_slc, len_slc, ht1, hR]) hs h00 _ ?_
      · simp only [bxP, bxQ, bxQ2, reduceCtorEq, hq1, hq3, h4, h5, hr1, hr2, hbox, hg3, hN, d1, ix_slc, len_slc, ht1, hR]
      · simp only [bxP, bxQ, bxQ2, reduceCtorEq, hq1, hq3, h4, h5, hr1, hr2, hbox, hg3, hN, d1, ix_slc, len_slc, ht1, hR]
      intro f' M' l' more' h' h5' h4' hs' h00' hcase
      have h5q := h5'
      simp only [q5] at h5q
      simp (maxSteps := 4000000) (disch := first | omega | assumption | (simp only [bxS, bxV, stOk, Nat.reduceBEq, Nat.reduceEqDiff, Nat.reduceAdd]; done) | (simp only [bxU]; omega) | ((try apply has_setN); apply has_ofL; simp only [bxL]; omega)) only [↓bxD, bxP, bxQ, bxQ2, Nat.reduceBEq, reduceCtorEq, Nat.reduceAdd, Nat.reduceSub, Nat.reduceMul, Nat.reduceLeDiff, Nat.reduceLT, bxR, h5q]
      show Wp fns K22_3 _ _ _
      unfold K22_3
      simp (maxSteps := 4000000) (disch := first | omega | assumption | (simp only [bxS, bxV, stOk, Nat.reduceBEq, Nat.reduceEqDiff, Nat.reduceAdd]; done) | (simp only [bxU]; omega) | ((try apply has_setN); apply has_ofL; simp only [bxL]; omega)) only [↓bxD, bxP, bxQ, bxQ2, Nat.reduceBEq, reduceCtorEq, Nat.reduceAdd, Nat.reduceSub, Nat.reduceMul, Nat.reduceLeDiff, Nat.reduceLT, bxR, h5q]
      refine ⟨(i + 1, l', more'), by simp only; omega, ⟨h'.gr, h'.ok, h'.ext, h'.lo0, h'.b0, h'.id1, h'.id2, h'.row, h'.len, ?_, ?_⟩, by simp only; omega, rfl, ?_, ?_⟩
      · have := h'.q1
        simp only [q1] at this
        simp (maxSteps := 4000000) (disch := first | omega | assumption | (simp only [bxS, bxV, stOk, Nat.reduceBEq, Nat.reduceEqDiff, Nat.reduceAdd]; done) | (simp only [bxU]; omega) | ((try apply has_setN); apply has_ofL; simp only [bxL]; omega)) only [↓bxD, bxP, bxQ, bxQ2, Nat.reduceBEq, reduceCtorEq, Nat.reduceAdd, Nat.reduceSub, Nat.reduceMul, Nat.reduceLeDiff, Nat.reduceLT, bxR, h5q, this]
      · have := h'.q3
        simp only [q3] at this
        simp (maxSteps := 4000000) (disch := first | omega | assumption | (simp only [bxS, bxV, stOk, Nat.reduceBEq, Nat.reduceEqDiff, Nat.reduceAdd]; done) | (simp only [bxU]; omega) | ((try apply has_setN); apply has_ofL; simp only [bxL]; omega)) only [↓bxD, bxP, bxQ, bxQ2, Nat.reduceBEq, reduceCtorEq, Nat.reduceAdd, Nat.reduceSub, Nat.reduceMul, Nat.reduceLeDiff, Nat.reduceLT, bxR, h5q, this]
      · exact h4'
      · refine ⟨hs', h00', ?_⟩
        rcases hcase with ⟨rfl, rfl, hv⟩ | ⟨hv, rfl⟩
        · rcases hc with hc | ⟨hc1, hc2, hc3⟩
          · exact .inl hc
          · refine .inr ⟨hc1, hc2, fun r hr' ha => ?_⟩
            rw [List.take_add_one, hr] at hr'
            rcases List.mem_append.1 hr' with h1 | h1
            · exact hc3 r h1 ha
            · simp only [Option.toList_some, List.mem_singleton] at h1
              subst h1
              subst hc2
              exact hv ha
        · left
          refine ⟨rfl, ?_⟩
          rcases hc with ⟨_, hc⟩ | ⟨_, rfl, _⟩
          · exact Nat.lt_trans hv hc
          · exact hv
    · have d1 : decide ((i : Int) < (g.rules.length : Int)) = false := decide_eq_false (by omega)
      have hi2 : i = g.rules.length := by omega
      subst hi2
      rw [List.take_length] at hc
      simp (maxSteps := 4000000) (disch := first | omega | assumption | (simp only [bxS, bxV, stOk, Nat.reduceBEq, Nat.reduceEqDiff, Nat.reduceAdd]; done) | (simp only [bxU]; omega) | ((try apply has_setN); apply has_ofL; simp only [bxL]; omega)) only [↓bxD, bxP, bxQ, bxQ2, Nat.reduceBEq, reduceCtorEq, Nat.reduceAdd, Nat.reduceSub, Nat.reduceMul, Nat.reduceLeDiff, Nat.reduceLT, bxR, hq1, hq3, h4, h5, hr1, hr2, hbox, d1]
      refine hn _ _ l more ⟨h.gr, h.ok, h.ext, h.lo0, h.b0, h.id1, h.id2, h.row, h.len, ?_, ?_⟩ ?_ hs h00 hc
      · simp only [bxP, bxQ, bxQ2, reduceCtorEq, hq1, hq3, h4, h5, hr1, hr2, hbox, d1]
      · simp only [bxP, bxQ, bxQ2, reduceCtorEq, hq1, hq3, h4, h5, hr1, hr2, hbox, d1]
      · simp only [bxP, bxQ, bxQ2, reduceCtorEq, hq1, hq3, h4, h5, hr1, hr2, hbox, d1]
  · refine ⟨⟨h.gr, h.ok, h.ext, h.lo0, h.b0, h.id1, h.id2, h.row, h.len, ?_, ?_⟩, Nat.zero_le _, ?_, ?_, hs, h00, .inr ⟨rfl, rfl, ?_⟩⟩
    · have := h.q1
      simp only [q1] at this
      simp (maxSteps := 4000000) (disch := first | omega | assumption | (simp only [bxS, bxV, stOk, Nat.reduceBEq, Nat.reduceEqDiff, Nat.reduceAdd]; done) | (simp only [bxU]; omega) | ((try apply has_setN); apply has_ofL; simp only [bxL]; omega)) only [↓bxD, bxP, bxQ, bxQ2, Nat.reduceBEq, reduceCtorEq, Nat.reduceAdd, Nat.reduceSub, Nat.reduceMul, Nat.reduceLeDiff, Nat.reduceLT, bxR, this]
    · have := h.q3
      simp only [q3] at this
      simp (maxSteps := 4000000) (disch := first | omega | assumption | (simp only [bxS, bxV, stOk, Nat.reduceBEq, Nat.reduceEqDiff, Nat.reduceAdd]; done) | (simp only [bxU]; omega) | ((try apply has_setN); apply has_ofL; simp only [bxL]; omega)) only [↓bxD, bxP, bxQ, bxQ2, Nat.reduceBEq, reduceCtorEq, Nat.reduceAdd, Nat.reduceSub, Nat.reduceMul, Nat.reduceLeDiff, Nat.reduceLT, bxR, this]
    · simp only [bxP, bxQ, bxQ2, reduceCtorEq] <;> rfl
    · simp only [bxP, bxQ, bxQ2, reduceCtorEq]
    · intro r hr; simp at hr
theorem reachable_any {M : MH} {g : Gr} {vr vf vc vk : MV} {es : List (List MV)} (h : GrAt M vr vf vc vk es g) (hlo : M.lo ≤ M.n) : Cp fns 22 [.ag (gcs g vr vf vc vk)] M fun m M' => Ext M M' ∧ (((formP g).2 ≠ 0 ∧ m = .nils) ∨ ((formP g).2 = 0 ∧ ∃ l, RchVec g l ∧ BRow M' m l)) := by
  have hG : ∀ l, l = gcs g vr vf vc vk → Ev.getN (ofL l 0) 7 0 = some (gcs g vr vf vc vk) := fun l e => by subst e; exact (at_ofL (gcs g vr vf vc vk)).getN
  have hG := hG [MV.i IntKind.i64 g.names, MV.i IntKind.i64 g.kinds, MV.i IntKind.i64 g.start, vr, vf, vc, vk] rfl
  refine Cp_call (fn := F22) (by kernel_rfl) (Nat.le_of_ble_eq_true rfl) ?_
  show Wp fns B22 (T.set q0 (some (.ag (gcs g vr vf vc vk))) T.lf) M _
  unfold B22
  rw [show gcs g vr vf vc vk = [MV.i IntKind.i64 g.names, MV.i IntKind.i64 g.kinds, MV.i IntKind.i64 g.start, vr, vf, vc, vk] from rfl]
  simp (maxSteps := 4000000) (disch := first | omega | assumption | (simp only [bxS, bxV, stOk, Nat.reduceBEq, Nat.reduceEqDiff, Nat.reduceAdd]; done) | (simp only [bxU]; omega) | ((try apply has_setN); apply has_ofL; simp only [bxL]; omega)) only [↓bxD, bxP, bxQ, bxQ2, Nat.reduceBEq, reduceCtorEq, Nat.reduceAdd, Nat.reduceSub, Nat.reduceMul, Nat.reduceLeDiff, Nat.reduceLT, bxR, hG]
  generalize hM1 : M.push _ = M1
  have hg0 : M1.get M.n = some (.cs false 7 (ofL (gcs g vr vf vc vk) 0)) := by rw [← hM1]; exact push_new _
  have hx1 : Ext M M1 := by rw [← hM1]; exact Ext.push M _
  have hn1 : M1.n = M.n + 1 := by rw [← hM1]; rfl
  have hl1 := hx1.lo
  clear hM1
  refine bindP_call (formed_any (h.ext hx1) (by omega)) ?_
  rintro m M2 ⟨rfl, hx2⟩
  have hn2 := hx2.n
  have hl2 := hx2.lo
  have hg2 := (hx2.old M.n (by omega)).trans hg0
  by_cases hz : (formP g).2 = 0
  · have dz : decide ((formP g).2 = 0) = true := decide_eq_true hz
    have hok := form_ok hz
    obtain ⟨nn, hnn⟩ : ∃ n : Nat, g.names = n := ⟨g.names.toNat, by have := hok.n1; omega⟩
    have hn40 := hok.n2
    have hg3 := hg2
    unfold gcs at hg3
    obtain ⟨sn, hsn⟩ : ∃ n : Nat, g.start = n := ⟨g.start.toNat, by have := hok.s1; omega⟩
    have hs2 := hok.s2
    have hsl : sn < nn := by omega
    have hH : ∀ t, hasB (ofL (zrow [MV.b false] nn) 0) 1 (sn * 1) = t → hasB (ofL (zrow [MV.b false] nn) 0) 1 (sn * 1) = t := fun _ h => h
    have hH : hasB (ofL (zrow [MV.b false] nn) 0) 1 (sn * 1) = true := has_ofL _ _ _ (by rw [zrow_rep, List.length_replicate]; omega)
    simp (maxSteps := 4000000) (disch := first | omega | assumption | (simp only [bxS, bxV, stOk, Nat.reduceBEq, Nat.reduceEqDiff, Nat.reduceAdd]; done) | (simp only [bxU]; omega) | ((try apply has_setN); apply has_ofL; simp only [bxL]; omega)) only [↓bxD, bxP, bxQ, bxQ2, Nat.reduceBEq, reduceCtorEq, Nat.reduceAdd, Nat.reduceSub, Nat.reduceMul, Nat.reduceLeDiff, Nat.reduceLT, bxR, dz, hg3, hnn, hsn, ev_mks, mks_ok, ix_slc]
    show Wp fns K22_9 _ _ _
    unfold K22_9
    simp (maxSteps := 4000000) (disch := first | omega | assumption | (simp only [bxS, bxV, stOk, Nat.reduceBEq, Nat.reduceEqDiff, Nat.reduceAdd]; done) | (simp only [bxU]; omega) | ((try apply has_setN); apply has_ofL; simp only [bxL]; omega)) only [↓bxD, bxP, bxQ, bxQ2, Nat.reduceBEq, reduceCtorEq, Nat.reduceAdd, Nat.reduceSub, Nat.reduceMul, Nat.reduceLeDiff, Nat.reduceLT, bxR, dz, hg3, hnn, hsn, ev_mks, mks_ok, ix_slc]
    obtain ⟨t, ht1, ht2, ht3, ht4⟩ := (BoolsAt.new (M := M2) nn).read
    rw [push_new] at ht1
    injection ht1 with ht1
    injection ht1 with _ _ ht1
    subst ht1
    have hrow0 := ht4 sn true (by rw [List.length_replicate]; exact hsl)
    generalize hM3 : (M2.push _).set M2.n _ = M3
    have hrow : BoolsAt M3 M2.n ((List.replicate nn false).set sn true) := ⟨_, by rw [← hM3, set_same]; rfl, hrow0⟩
    have hx3 : Ext M2 M3 := by rw [← hM3]; exact (Ext.push M2 _).set _ (Nat.le_refl _)
    have hn3 : M3.n = M2.n + 1 := by rw [← hM3]; rfl
    clear hM3
    refine Wp_inv (σ := List Bool × Bool) (fun s f1 M1 => NSt M M1 g vr vf vc vk es M2.n s.1 f1 ∧ X.ev f1 (.t q4) = .b s.2 ∧ RchSound g s.1 ∧ s.1[g.start.toNat]? = some true ∧ (s.2 = false → RchClosed s.1 g.rules)) (fun s => 2 * falses s.1 + (if s.2 = true then 1 else 0)) ?_ ((List.replicate nn false).set sn true, true) ?_
    · rintro ⟨l, more⟩ f1 M4 ⟨h4, ht, hs, h00, hc⟩
      simp only at h4 ht hs h00 hc
      have hq1 := h4.q1
      have hq3 := h4.q3
      simp only [q1, q3, q4] at hq1 hq3 ht
      unfold L22_7
      cases more with
      | true =>
        simp (maxSteps := 4000000) (disch := first | omega | assumption | (simp only [bxS, bxV, stOk, Nat.reduceBEq, Nat.reduceEqDiff, Nat.reduceAdd]; done) | (simp only [bxU]; omega) | ((try apply has_setN); apply has_ofL; simp only [bxL]; omega)) only [↓bxD, bxP, bxQ, bxQ2, Nat.reduceBEq, reduceCtorEq, Nat.reduceAdd, Nat.reduceSub, Nat.reduceMul, Nat.reduceLeDiff, Nat.reduceLT, bxR, hq1, hq3, ht]
        show Wp fns K22_6 _ _ _
        refine reach_round ⟨h4.gr, h4.ok, h4.ext, h4.lo0, h4.b0, h4.id1, h4.id2, h4.row, h4.len, ?_, ?_⟩ hs h00 _ ?_
        · simp only [bxP, bxQ, bxQ2, reduceCtorEq, hq1, hq3, ht]
        · simp only [bxP, bxQ, bxQ2, reduceCtorEq, hq1, hq3, ht]
        intro f' M' l' more' h' h4' hs' h00' hcase
        refine ⟨(l', more'), ?_, h', h4', hs', h00', fun e => ?_⟩
        · rcases hcase with ⟨rfl, hlt⟩ | ⟨rfl, rfl, _⟩
          · simp only [if_true]; omega
          · simp
        · rcases hcase with ⟨rfl, _⟩ | ⟨_, rfl, hc'⟩
          · cases e
          · exact hc'
      | false =>
        simp (maxSteps := 4000000) (disch := first | omega | assumption | (simp only [bxS, bxV, stOk, Nat.reduceBEq, Nat.reduceEqDiff, Nat.reduceAdd]; done) | (simp only [bxU]; omega) | ((try apply has_setN); apply has_ofL; simp only [bxL]; omega)) only [↓bxD, bxP, bxQ, bxQ2, Nat.reduceBEq, reduceCtorEq, Nat.reduceAdd, Nat.reduceSub, Nat.reduceMul, Nat.reduceLeDiff, Nat.reduceLT, bxR, hq1, hq3, ht]
        show Wp fns K22_8 _ _ _
        unfold K22_8
        simp (maxSteps := 4000000) (disch := first | omega | assumption | (simp only [bxS, bxV, stOk, Nat.reduceBEq, Nat.reduceEqDiff, Nat.reduceAdd]; done) | (simp only [bxU]; omega) | ((try apply has_setN); apply has_ofL; simp only [bxL]; omega)) only [↓bxD, bxP, bxQ, bxQ2, Nat.reduceBEq, reduceCtorEq, Nat.reduceAdd, Nat.reduceSub, Nat.reduceMul, Nat.reduceLeDiff, Nat.reduceLT, bxR, hq1, hq3, ht]
        refine ⟨h4.ext, .inr ⟨hz, l, rch_vec h4.len hs h00 (hc rfl), ?_⟩⟩
        exact h4.row.row h4.id2
    · refine ⟨⟨h, hok, (hx1.trans hx2).trans hx3, hlo, (hx3.old _ (by omega)).trans hg2, by omega, by omega, hrow, by rw [List.length_set, List.length_replicate, hnn]; rfl, ?_, ?_⟩, ?_, fun a e => ?_, ?_, fun e => by cases e⟩
      · simp only [bxP, bxQ, bxQ2, reduceCtorEq, dz, hg3, hnn, hsn, ev_mks, mks_ok, ix_slc]
      · simp (maxSteps := 4000000) (disch := first | omega | assumption | (simp only [bxS, bxV, stOk, Nat.reduceBEq, Nat.reduceEqDiff, Nat.reduceAdd]; done) | (simp only [bxU]; omega) | ((try apply has_setN); apply has_ofL; simp only [bxL]; omega)) only [↓bxD, bxP, bxQ, bxQ2, Nat.reduceBEq, reduceCtorEq, Nat.reduceAdd, Nat.reduceSub, Nat.reduceMul, Nat.reduceLeDiff, Nat.reduceLT, bxR, dz, hg3, hnn, hsn, ev_mks, mks_ok, ix_slc, List.length_replicate, List.length_set]
      · simp only [bxP, bxQ, bxQ2, reduceCtorEq, dz, hg3, hnn, hsn, ev_mks, mks_ok, ix_slc]
      · rw [List.getElem?_set] at e
        split at e
        · rename_i e1
          subst e1
          have := Rch.start (g := g)
          rw [hsn] at this
          exact this
        · rw [List.getElem?_replicate] at e
          split at e <;> cases e
      · rw [hsn]
        exact set_here (by rw [List.length_replicate]; exact hsl)
  · have dz : decide ((formP g).2 = 0) = false := decide_eq_false hz
    simp (maxSteps := 4000000) (disch := first | omega | assumption | (simp only [bxS, bxV, stOk, Nat.reduceBEq, Nat.reduceEqDiff, Nat.reduceAdd]; done) | (simp only [bxU]; omega) | ((try apply has_setN); apply has_ofL; simp only [bxL]; omega)) only [↓bxD, bxP, bxQ, bxQ2, Nat.reduceBEq, reduceCtorEq, Nat.reduceAdd, Nat.reduceSub, Nat.reduceMul, Nat.reduceLeDiff, Nat.reduceLT, bxR, dz]
    exact ⟨hx1.trans hx2, .inl hz⟩
end Go.Proofs.YtdggbpfpjkokpaaDoor.K
