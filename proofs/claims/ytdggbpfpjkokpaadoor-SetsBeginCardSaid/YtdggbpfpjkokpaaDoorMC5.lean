/-
  What the claim leans on, part 5: The program's Form: what may be forbidden. Conditions: none. The program's Form: what is asked of the whole. Conditions: none. The program's Form gives what chapter 10 asks. Conditions: none. The program's sets, as they are asked for. Conditions: none. A grammar that comes in, read into the model. Conditions: none. The law SetsNothing, for whatever comes in. Conditions: none. Grammars where the bound of what may be written moves. Conditions: none. What the program's sets give, told apart. Conditions: none. The law SetsBegin in the model. Conditions: what the program's sets give. The law SetsBe
-/
import Derived.Test.YtdggbpfpjkokpaaDoorMC4
import Derived.Test.YtdggbpfpjkokpaaDoorMC3
import Derived.Test.YtdggbpfpjkokpaaDoorProg
import Derived.KernelRfl
set_option linter.unusedSimpArgs false
set_option linter.unusedVariables false
namespace Go.Proofs.YtdggbpfpjkokpaaDoor.K
open Go Ev
set_option maxRecDepth 100000
set_option maxHeartbeats 4000000

theorem canForbid_any {M : MH} {g : Gr} {vr vf vc vk : MV} {es : List (List MV)} {x0 x1 x2 : Int} (h : GrAt M vr vf vc vk es g) (hlo : M.lo ≤ M.n) :
    Cp fns 48 [.ag (gcs g vr vf vc vk), .ag [.i .i64 x0, .i .i64 x1, .i .i64 x2]] M fun m M' => m = .b (!(badF g (x0, x1, x2))) ∧ Ext M M' := by
  obtain ⟨hr1, hr2⟩ := h.rules.row.sl
  rw [h.rules.len] at hr2
  refine Cp_call (fn := F48) (by kernel_rfl) (Nat.le_of_ble_eq_true rfl) ?_
  show Wp fns B48 (T.set q1 (some (.ag [.i .i64 x0, .i .i64 x1, .i .i64 x2])) (T.set q0 (some (.ag (gcs g vr vf vc vk))) T.lf)) M _
  unfold B48
  rw [show gcs g vr vf vc vk = [MV.i IntKind.i64 g.names, MV.i IntKind.i64 g.kinds, MV.i IntKind.i64 g.start, vr, vf, vc, vk] from rfl]
  simp (maxSteps := 4000000) (disch := first | omega | assumption | (simp only [bxS, bxV, stOk, Nat.reduceBEq, Nat.reduceEqDiff, Nat.reduceAdd]; done) | (simp only [bxU]; omega) | ((try apply has_setN); apply has_ofL; simp only [bxL]; omega)) only [↓bxD, bxP, bxQ, bxQ2, Nat.reduceBEq, reduceCtorEq, Nat.reduceAdd, Nat.reduceSub, Nat.reduceMul, Nat.reduceLeDiff, Nat.reduceLT, bxR, hr1, hr2]
  generalize hM1 : (M.push _).push _ = M1
  have hb0 : M1.get M.n = some (.cs false 7 (ofL [MV.i IntKind.i64 g.names, MV.i IntKind.i64 g.kinds, MV.i IntKind.i64 g.start, vr, vf, vc, vk] 0)) := by rw [← hM1, push_old (Nat.lt_succ_self _)]; exact push_new _
  have hb1 : M1.get (M.n + 1) = some (.cs false 3 (ofL [MV.i IntKind.i64 x0, MV.i .i64 x1, MV.i IntKind.i64 x2] 0)) := by rw [← hM1]; exact push_new (M := M.push _) _
  have hx1 : Ext M M1 := by rw [← hM1]; exact (Ext.push M _).trans (Ext.push _ _)
  have hn1 : M1.n = M.n + 2 := by rw [← hM1]; rfl
  have hl1 := hx1.lo
  clear hM1
  have h1 := h.ext hx1
  simp (maxSteps := 4000000) (disch := first | omega | assumption | (simp only [bxS, bxV, stOk, Nat.reduceBEq, Nat.reduceEqDiff, Nat.reduceAdd]; done) | (simp only [bxU]; omega) | ((try apply has_setN); apply has_ofL; simp only [bxL]; omega)) only [↓bxD, bxP, bxQ, bxQ2, Nat.reduceBEq, reduceCtorEq, Nat.reduceAdd, Nat.reduceSub, Nat.reduceMul, Nat.reduceLeDiff, Nat.reduceLT, bxR, hr1, hr2, hb0, hb1, ixA_0, ixA_1, ixA_2]
  refine bindP_call number_any ?_
  rintro m M2 ⟨rfl, rfl⟩
  simp (maxSteps := 4000000) (disch := first | omega | assumption | (simp only [bxS, bxV, stOk, Nat.reduceBEq, Nat.reduceEqDiff, Nat.reduceAdd]; done) | (simp only [bxU]; omega) | ((try apply has_setN); apply has_ofL; simp only [bxL]; omega)) only [↓bxD, bxP, bxQ, bxQ2, Nat.reduceBEq, reduceCtorEq, Nat.reduceAdd, Nat.reduceSub, Nat.reduceMul, Nat.reduceLeDiff, Nat.reduceLT, bxR, hr1, hr2, hb0, hb1, ixA_0, ixA_1, ixA_2]
  cases c0 : isN x0 (g.rules.length : Int) with
  | false =>
    simp (maxSteps := 4000000) (disch := first | omega | assumption | (simp only [bxS, bxV, stOk, Nat.reduceBEq, Nat.reduceEqDiff, Nat.reduceAdd]; done) | (simp only [bxU]; omega) | ((try apply has_setN); apply has_ofL; simp only [bxL]; omega)) only [↓bxD, bxP, bxQ, bxQ2, Nat.reduceBEq, reduceCtorEq, Nat.reduceAdd, Nat.reduceSub, Nat.reduceMul, Nat.reduceLeDiff, Nat.reduceLT, bxR, hr1, hr2, hb0, hb1, ixA_0, ixA_1, ixA_2, c0]
    unfold isN at c0
    simp only [Bool.and_eq_false_iff, decide_eq_false_iff_not] at c0
    exact ⟨by unfold badF; rw [if_pos (by simp only; omega)]; rfl, hx1⟩
  | true =>
  simp (maxSteps := 4000000) (disch := first | omega | assumption | (simp only [bxS, bxV, stOk, Nat.reduceBEq, Nat.reduceEqDiff, Nat.reduceAdd]; done) | (simp only [bxU]; omega) | ((try apply has_setN); apply has_ofL; simp only [bxL]; omega)) only [↓bxD, bxP, bxQ, bxQ2, Nat.reduceBEq, reduceCtorEq, Nat.reduceAdd, Nat.reduceSub, Nat.reduceMul, Nat.reduceLeDiff, Nat.reduceLT, bxR, hr1, hr2, hb0, hb1, ixA_0, ixA_1, ixA_2, c0]
  refine bindP_call number_any ?_
  rintro m M2 ⟨rfl, rfl⟩
  simp (maxSteps := 4000000) (disch := first | omega | assumption | (simp only [bxS, bxV, stOk, Nat.reduceBEq, Nat.reduceEqDiff, Nat.reduceAdd]; done) | (simp only [bxU]; omega) | ((try apply has_setN); apply has_ofL; simp only [bxL]; omega)) only [↓bxD, bxP, bxQ, bxQ2, Nat.reduceBEq, reduceCtorEq, Nat.reduceAdd, Nat.reduceSub, Nat.reduceMul, Nat.reduceLeDiff, Nat.reduceLT, bxR, hr1, hr2, hb0, hb1, ixA_0, ixA_1, ixA_2, c0]
  cases c2 : isN x2 (g.rules.length : Int) with
  | false =>
    simp (maxSteps := 4000000) (disch := first | omega | assumption | (simp only [bxS, bxV, stOk, Nat.reduceBEq, Nat.reduceEqDiff, Nat.reduceAdd]; done) | (simp only [bxU]; omega) | ((try apply has_setN); apply has_ofL; simp only [bxL]; omega)) only [↓bxD, bxP, bxQ, bxQ2, Nat.reduceBEq, reduceCtorEq, Nat.reduceAdd, Nat.reduceSub, Nat.reduceMul, Nat.reduceLeDiff, Nat.reduceLT, bxR, hr1, hr2, hb0, hb1, ixA_0, ixA_1, ixA_2, c0, c2]
    unfold isN at c2
    simp only [Bool.and_eq_false_iff, decide_eq_false_iff_not] at c2
    exact ⟨by unfold badF; rw [if_pos (by simp only; omega)]; rfl, hx1⟩
  | true =>
  simp (maxSteps := 4000000) (disch := first | omega | assumption | (simp only [bxS, bxV, stOk, Nat.reduceBEq, Nat.reduceEqDiff, Nat.reduceAdd]; done) | (simp only [bxU]; omega) | ((try apply has_setN); apply has_ofL; simp only [bxL]; omega)) only [↓bxD, bxP, bxQ, bxQ2, Nat.reduceBEq, reduceCtorEq, Nat.reduceAdd, Nat.reduceSub, Nat.reduceMul, Nat.reduceLeDiff, Nat.reduceLT, bxR, hr1, hr2, hb0, hb1, ixA_0, ixA_1, ixA_2, c0, c2]
  unfold isN at c0 c2
  simp only [Bool.and_eq_true, decide_eq_true_eq] at c0 c2
  obtain ⟨k0, rfl⟩ : ∃ k : Nat, x0 = (k : Int) := ⟨x0.toNat, by omega⟩
  obtain ⟨k2, rfl⟩ : ∃ k : Nat, x2 = (k : Int) := ⟨x2.toNat, by omega⟩
  obtain ⟨⟨a0, ar, a2⟩, hA⟩ : ∃ z, g.rules[k0]? = some z := ⟨_, List.getElem?_eq_getElem (by omega)⟩
  obtain ⟨⟨b0, br, b2⟩, hB⟩ : ∃ z, g.rules[k2]? = some z := ⟨_, List.getElem?_eq_getElem (by omega)⟩
  obtain ⟨ua, hua, hura⟩ : ∃ u1, es[k0]? = some [.i .i64 a0, u1, .i .i64 a2] ∧ IntRow _ u1 ar := h1.rules.get hA
  obtain ⟨ub, hub, hurb⟩ : ∃ u1, es[k2]? = some [.i .i64 b0, u1, .i .i64 b2] ∧ IntRow _ u1 br := h1.rules.get hB
  obtain ⟨hsa1, hsa2⟩ := hura.sl
  obtain ⟨ro, s, t, hg, hid, hT⟩ := h1.rules.row.read hua
  obtain ⟨ro2, s2, t2, hg2, hid2, hT2⟩ := h1.rules.row.read hub
  have ea0 : cget t (soff vr + k0 * 3) = some (.i .i64 a0) := hT 0 _ rfl
  have ea1 : cget t (soff vr + k0 * 3 + 1) = some ua := hT 1 _ rfl
  obtain rfl : t2 = t := by rw [hg] at hg2; injection hg2 with e; injection e with _ _ e; exact e.symm
  have eb0 : cget t2 (soff vr + k2 * 3) = some (.i .i64 b0) := hT2 0 _ rfl
  have hwl : ar.length ≤ 9223372036854775807 := (h.wf.rules _ (List.mem_of_getElem? hA)).2.2.2
  have hbadF : badF g ((k0 : Int), x1, (k2 : Int)) = if x1 < 0 ∨ (ar.length : Int) ≤ x1 then true else match ar[x1.toNat]? with
      | some s => decide (s ≠ b0)
      | none => true := by
    unfold badF
    rw [if_neg (by simp only; omega)]
    simp only [Int.toNat_natCast, hA, hB]
    rfl
  rw [hbadF]
  show Wp fns K48_0 _ _ _
  unfold K48_0
  simp (maxSteps := 4000000) (disch := first | omega | assumption | (simp only [bxS, bxV, stOk, Nat.reduceBEq, Nat.reduceEqDiff, Nat.reduceAdd]; done) | (simp only [bxU]; omega) | ((try apply has_setN); apply has_ofL; simp only [bxL]; omega)) only [↓bxD, bxP, bxQ, bxQ2, Nat.reduceBEq, reduceCtorEq, Nat.reduceAdd, Nat.reduceSub, Nat.reduceMul, Nat.reduceLeDiff, Nat.reduceLT, bxR, hr1, hr2, hb0, hb1, ixA_0, ixA_1, ixA_2, hsa1, hsa2, hg, ea0, ea1, eb0]
  refine Wp_dreg_of (by omega) ?_
  simp (maxSteps := 4000000) (disch := first | omega | assumption | (simp only [bxS, bxV, stOk, Nat.reduceBEq, Nat.reduceEqDiff, Nat.reduceAdd]; done) | (simp only [bxU]; omega) | ((try apply has_setN); apply has_ofL; simp only [bxL]; omega)) only [↓bxD, bxP, bxQ, bxQ2, Nat.reduceBEq, reduceCtorEq, Nat.reduceAdd, Nat.reduceSub, Nat.reduceMul, Nat.reduceLeDiff, Nat.reduceLT, bxR, hr1, hr2, hb0, hb1, ixA_0, ixA_1, ixA_2, hsa1, hsa2, hg, ea0, ea1, eb0]
  refine bindP_call number_any ?_
  rintro m M2 ⟨rfl, rfl⟩
  simp (maxSteps := 4000000) (disch := first | omega | assumption | (simp only [bxS, bxV, stOk, Nat.reduceBEq, Nat.reduceEqDiff, Nat.reduceAdd]; done) | (simp only [bxU]; omega) | ((try apply has_setN); apply has_ofL; simp only [bxL]; omega)) only [↓bxD, bxP, bxQ, bxQ2, Nat.reduceBEq, reduceCtorEq, Nat.reduceAdd, Nat.reduceSub, Nat.reduceMul, Nat.reduceLeDiff, Nat.reduceLT, bxR, hr1, hr2, hb0, hb1, ixA_0, ixA_1, ixA_2, hsa1, hsa2, hg, ea0, ea1, eb0]
  cases c1 : isN x1 (ar.length : Int) with
  | false =>
    simp (maxSteps := 4000000) (disch := first | omega | assumption | (simp only [bxS, bxV, stOk, Nat.reduceBEq, Nat.reduceEqDiff, Nat.reduceAdd]; done) | (simp only [bxU]; omega) | ((try apply has_setN); apply has_ofL; simp only [bxL]; omega)) only [↓bxD, bxP, bxQ, bxQ2, Nat.reduceBEq, reduceCtorEq, Nat.reduceAdd, Nat.reduceSub, Nat.reduceMul, Nat.reduceLeDiff, Nat.reduceLT, bxR, hr1, hr2, hb0, hb1, ixA_0, ixA_1, ixA_2, hsa1, hsa2, hg, ea0, ea1, eb0, c1]
    unfold isN at c1
    simp only [Bool.and_eq_false_iff, decide_eq_false_iff_not] at c1
    rw [if_pos (by omega)]
    show Wp fns IC.ret _ _ _
    simp (maxSteps := 4000000) (disch := first | omega | assumption | (simp only [bxS, bxV, stOk, Nat.reduceBEq, Nat.reduceEqDiff, Nat.reduceAdd]; done) | (simp only [bxU]; omega) | ((try apply has_setN); apply has_ofL; simp only [bxL]; omega)) only [↓bxD, bxP, bxQ, bxQ2, Nat.reduceBEq, reduceCtorEq, Nat.reduceAdd, Nat.reduceSub, Nat.reduceMul, Nat.reduceLeDiff, Nat.reduceLT, bxR, hr1, hr2, hb0, hb1, ixA_0, ixA_1, ixA_2, hsa1, hsa2, hg, ea0, ea1, eb0]
    exact hx1
  | true =>
    have hc1 := c1
    unfold isN at c1
    simp only [Bool.and_eq_true, decide_eq_true_eq] at c1
    obtain ⟨k1, rfl⟩ : ∃ k : Nat, x1 = (k : Int) := ⟨x1.toNat, by omega⟩
    obtain ⟨z, hz⟩ : ∃ z, ar[k1]? = some z := ⟨_, List.getElem?_eq_getElem (by omega)⟩
    obtain ⟨ro3, s3, t3, hg3, hid3, hT3⟩ := hura.read hz
    simp (maxSteps := 4000000) (disch := first | omega | assumption | (simp only [bxS, bxV, stOk, Nat.reduceBEq, Nat.reduceEqDiff, Nat.reduceAdd]; done) | (simp only [bxU]; omega) | ((try apply has_setN); apply has_ofL; simp only [bxL]; omega)) only [↓bxD, bxP, bxQ, bxQ2, Nat.reduceBEq, reduceCtorEq, Nat.reduceAdd, Nat.reduceSub, Nat.reduceMul, Nat.reduceLeDiff, Nat.reduceLT, bxR, hr1, hr2, hb0, hb1, ixA_0, ixA_1, ixA_2, hsa1, hsa2, hg, ea0, ea1, eb0, hc1, hg3, hT3]
    rw [if_neg (by omega), Int.toNat_natCast, hz]
    show Wp fns IC.ret _ _ _
    simp (maxSteps := 4000000) (disch := first | omega | assumption | (simp only [bxS, bxV, stOk, Nat.reduceBEq, Nat.reduceEqDiff, Nat.reduceAdd]; done) | (simp only [bxU]; omega) | ((try apply has_setN); apply has_ofL; simp only [bxL]; omega)) only [↓bxD, bxP, bxQ, bxQ2, Nat.reduceBEq, reduceCtorEq, Nat.reduceAdd, Nat.reduceSub, Nat.reduceMul, Nat.reduceLeDiff, Nat.reduceLT, bxR, hr1, hr2, hb0, hb1, ixA_0, ixA_1, ixA_2, hsa1, hsa2, hg, ea0, ea1, eb0, hc1, hg3, hT3]
    exact ⟨by simp, hx1⟩
end Go.Proofs.YtdggbpfpjkokpaaDoor.K
set_option linter.unusedSimpArgs false
set_option linter.unusedVariables false
namespace Go.Proofs.YtdggbpfpjkokpaaDoor.K
open Go Ev
set_option maxRecDepth 100000
set_option maxHeartbeats 4000000

theorem wholeError_any {M : MH} {g : Gr} {vr vf vc vk : MV} {es : List (List MV)} (h : GrAt M vr vf vc vk es g) (hlo : M.lo ≤ M.n) :
    Cp fns 46 [.ag (gcs g vr vf vc vk)] M fun m M' => m = .i .i64 (numE (headE g)) ∧ Ext M M' := by
  obtain ⟨hr1, hr2⟩ := h.rules.row.sl
  rw [h.rules.len] at hr2
  obtain ⟨hf1, hf2⟩ := h.forbid.sl
  rw [List.length_map] at hf2
  obtain ⟨hc1, hc2⟩ := h.rc.sl
  obtain ⟨hk1, hk2⟩ := h.kc.sl
  obtain ⟨hw1, hw2, hw3, hw4⟩ := h.wf.lens
  refine Cp_call (fn := F46) (by kernel_rfl) (Nat.le_of_ble_eq_true rfl) ?_
  show Wp fns B46 (T.set q0 (some (.ag (gcs g vr vf vc vk))) T.lf) M _
  unfold B46
  rw [show gcs g vr vf vc vk = [MV.i IntKind.i64 g.names, MV.i IntKind.i64 g.kinds, MV.i IntKind.i64 g.start, vr, vf, vc, vk] from rfl]
  simp (maxSteps := 4000000) (disch := first | omega | assumption | (simp only [bxS, bxV, stOk, Nat.reduceBEq, Nat.reduceEqDiff, Nat.reduceAdd]; done) | (simp only [bxU]; omega) | ((try apply has_setN); apply has_ofL; simp only [bxL]; omega)) only [↓bxD, bxP, bxQ, bxQ2, Nat.reduceBEq, reduceCtorEq, Nat.reduceAdd, Nat.reduceSub, Nat.reduceMul, Nat.reduceLeDiff, Nat.reduceLT, bxR, hr1, hr2, hf1, hf2, hc1, hc2, hk1, hk2]
  generalize hM1 : M.push _ = M1
  have hb0 : M1.get M.n = some (.cs false 7 (ofL [MV.i IntKind.i64 g.names, MV.i IntKind.i64 g.kinds, MV.i IntKind.i64 g.start, vr, vf, vc, vk] 0)) := by rw [← hM1]; exact push_new _
  have hx1 : Ext M M1 := by rw [← hM1]; exact .push M _
  have hn1 : M1.n = M.n + 1 := by rw [← hM1]; rfl
  have hl1 := hx1.lo
  clear hM1
  have h1 := h.ext hx1
  have hq1 : ∀ (c : Prop) [Decidable c], c → decide c = true := fun c _ h => decide_eq_true h
  by_cases ca0 : g.names < 1
  · have da0 : decide (g.names < 1) = true := decide_eq_true ca0
    simp (maxSteps := 4000000) (disch := first | omega | assumption | (simp only [bxS, bxV, stOk, Nat.reduceBEq, Nat.reduceEqDiff, Nat.reduceAdd]; done) | (simp only [bxU]; omega) | ((try apply has_setN); apply has_ofL; simp only [bxL]; omega)) only [↓bxD, bxP, bxQ, bxQ2, Nat.reduceBEq, reduceCtorEq, Nat.reduceAdd, Nat.reduceSub, Nat.reduceMul, Nat.reduceLeDiff, Nat.reduceLT, bxR, hr1, hr2, hf1, hf2, hc1, hc2, hk1, hk2, hb0, da0]
    show Wp fns K46_1 _ _ _
    unfold K46_1
    simp (maxSteps := 4000000) (disch := first | omega | assumption | (simp only [bxS, bxV, stOk, Nat.reduceBEq, Nat.reduceEqDiff, Nat.reduceAdd]; done) | (simp only [bxU]; omega) | ((try apply has_setN); apply has_ofL; simp only [bxL]; omega)) only [↓bxD, bxP, bxQ, bxQ2, Nat.reduceBEq, reduceCtorEq, Nat.reduceAdd, Nat.reduceSub, Nat.reduceMul, Nat.reduceLeDiff, Nat.reduceLT, bxR, hr1, hr2, hf1, hf2, hc1, hc2, hk1, hk2, hb0, da0]
    exact ⟨by unfold headE; rw [if_pos (by omega)]; rfl, hx1⟩
  have da0 : decide (g.names < 1) = false := decide_eq_false ca0
  by_cases ca1 : 40 < g.names
  · have da1 : decide (40 < g.names) = true := decide_eq_true ca1
    simp (maxSteps := 4000000) (disch := first | omega | assumption | (simp only [bxS, bxV, stOk, Nat.reduceBEq, Nat.reduceEqDiff, Nat.reduceAdd]; done) | (simp only [bxU]; omega) | ((try apply has_setN); apply has_ofL; simp only [bxL]; omega)) only [↓bxD, bxP, bxQ, bxQ2, Nat.reduceBEq, reduceCtorEq, Nat.reduceAdd, Nat.reduceSub, Nat.reduceMul, Nat.reduceLeDiff, Nat.reduceLT, bxR, hr1, hr2, hf1, hf2, hc1, hc2, hk1, hk2, hb0, da0, da1]
    show Wp fns K46_1 _ _ _
    unfold K46_1
    simp (maxSteps := 4000000) (disch := first | omega | assumption | (simp only [bxS, bxV, stOk, Nat.reduceBEq, Nat.reduceEqDiff, Nat.reduceAdd]; done) | (simp only [bxU]; omega) | ((try apply has_setN); apply has_ofL; simp only [bxL]; omega)) only [↓bxD, bxP, bxQ, bxQ2, Nat.reduceBEq, reduceCtorEq, Nat.reduceAdd, Nat.reduceSub, Nat.reduceMul, Nat.reduceLeDiff, Nat.reduceLT, bxR, hr1, hr2, hf1, hf2, hc1, hc2, hk1, hk2, hb0, da0, da1]
    exact ⟨by unfold headE; rw [if_pos (by omega)]; rfl, hx1⟩
  have da1 : decide (40 < g.names) = false := decide_eq_false ca1
  by_cases ca2 : g.kinds < 0
  · have da2 : decide (g.kinds < 0) = true := decide_eq_true ca2
    simp (maxSteps := 4000000) (disch := first | omega | assumption | (simp only [bxS, bxV, stOk, Nat.reduceBEq, Nat.reduceEqDiff, Nat.reduceAdd]; done) | (simp only [bxU]; omega) | ((try apply has_setN); apply has_ofL; simp only [bxL]; omega)) only [↓bxD, bxP, bxQ, bxQ2, Nat.reduceBEq, reduceCtorEq, Nat.reduceAdd, Nat.reduceSub, Nat.reduceMul, Nat.reduceLeDiff, Nat.reduceLT, bxR, hr1, hr2, hf1, hf2, hc1, hc2, hk1, hk2, hb0, da0, da1, da2]
    show Wp fns K46_1 _ _ _
    unfold K46_1
    simp (maxSteps := 4000000) (disch := first | omega | assumption | (simp only [bxS, bxV, stOk, Nat.reduceBEq, Nat.reduceEqDiff, Nat.reduceAdd]; done) | (simp only [bxU]; omega) | ((try apply has_setN); apply has_ofL; simp only [bxL]; omega)) only [↓bxD, bxP, bxQ, bxQ2, Nat.reduceBEq, reduceCtorEq, Nat.reduceAdd, Nat.reduceSub, Nat.reduceMul, Nat.reduceLeDiff, Nat.reduceLT, bxR, hr1, hr2, hf1, hf2, hc1, hc2, hk1, hk2, hb0, da0, da1, da2]
    exact ⟨by unfold headE; rw [if_pos (by omega)]; rfl, hx1⟩
  have da2 : decide (g.kinds < 0) = false := decide_eq_false ca2
  by_cases ca3 : 40 < g.kinds
  · have da3 : decide (40 < g.kinds) = true := decide_eq_true ca3
    simp (maxSteps := 4000000) (disch := first | omega | assumption | (simp only [bxS, bxV, stOk, Nat.reduceBEq, Nat.reduceEqDiff, Nat.reduceAdd]; done) | (simp only [bxU]; omega) | ((try apply has_setN); apply has_ofL; simp only [bxL]; omega)) only [↓bxD, bxP, bxQ, bxQ2, Nat.reduceBEq, reduceCtorEq, Nat.reduceAdd, Nat.reduceSub, Nat.reduceMul, Nat.reduceLeDiff, Nat.reduceLT, bxR, hr1, hr2, hf1, hf2, hc1, hc2, hk1, hk2, hb0, da0, da1, da2, da3]
    show Wp fns K46_1 _ _ _
    unfold K46_1
    simp (maxSteps := 4000000) (disch := first | omega | assumption | (simp only [bxS, bxV, stOk, Nat.reduceBEq, Nat.reduceEqDiff, Nat.reduceAdd]; done) | (simp only [bxU]; omega) | ((try apply has_setN); apply has_ofL; simp only [bxL]; omega)) only [↓bxD, bxP, bxQ, bxQ2, Nat.reduceBEq, reduceCtorEq, Nat.reduceAdd, Nat.reduceSub, Nat.reduceMul, Nat.reduceLeDiff, Nat.reduceLT, bxR, hr1, hr2, hf1, hf2, hc1, hc2, hk1, hk2, hb0, da0, da1, da2, da3]
    exact ⟨by unfold headE; rw [if_pos (by omega)]; rfl, hx1⟩
  have da3 : decide (40 < g.kinds) = false := decide_eq_false ca3
  by_cases ca4 : (60 : Int) < (g.rules.length : Int)
  · have da4 : decide ((60 : Int) < (g.rules.length : Int)) = true := decide_eq_true ca4
    simp (maxSteps := 4000000) (disch := first | omega | assumption | (simp only [bxS, bxV, stOk, Nat.reduceBEq, Nat.reduceEqDiff, Nat.reduceAdd]; done) | (simp only [bxU]; omega) | ((try apply has_setN); apply has_ofL; simp only [bxL]; omega)) only [↓bxD, bxP, bxQ, bxQ2, Nat.reduceBEq, reduceCtorEq, Nat.reduceAdd, Nat.reduceSub, Nat.reduceMul, Nat.reduceLeDiff, Nat.reduceLT, bxR, hr1, hr2, hf1, hf2, hc1, hc2, hk1, hk2, hb0, da0, da1, da2, da3, da4]
    show Wp fns K46_1 _ _ _
    unfold K46_1
    simp (maxSteps := 4000000) (disch := first | omega | assumption | (simp only [bxS, bxV, stOk, Nat.reduceBEq, Nat.reduceEqDiff, Nat.reduceAdd]; done) | (simp only [bxU]; omega) | ((try apply has_setN); apply has_ofL; simp only [bxL]; omega)) only [↓bxD, bxP, bxQ, bxQ2, Nat.reduceBEq, reduceCtorEq, Nat.reduceAdd, Nat.reduceSub, Nat.reduceMul, Nat.reduceLeDiff, Nat.reduceLT, bxR, hr1, hr2, hf1, hf2, hc1, hc2, hk1, hk2, hb0, da0, da1, da2, da3, da4]
    exact ⟨by unfold headE; rw [if_pos (by omega)]; rfl, hx1⟩
  have da4 : decide ((60 : Int) < (g.rules.length : Int)) = false := decide_eq_false ca4
  by_cases ca5 : (200 : Int) < (g.forbid.length : Int)
  · have da5 : decide ((200 : Int) < (g.forbid.length : Int)) = true := decide_eq_true ca5
    simp (maxSteps := 4000000) (disch := first | omega | assumption | (simp only [bxS, bxV, stOk, Nat.reduceBEq, Nat.reduceEqDiff, Nat.reduceAdd]; done) | (simp only [bxU]; omega) | ((try apply has_setN); apply has_ofL; simp only [bxL]; omega)) only [↓bxD, bxP, bxQ, bxQ2, Nat.reduceBEq, reduceCtorEq, Nat.reduceAdd, Nat.reduceSub, Nat.reduceMul, Nat.reduceLeDiff, Nat.reduceLT, bxR, hr1, hr2, hf1, hf2, hc1, hc2, hk1, hk2, hb0, da0, da1, da2, da3, da4, da5]
    show Wp fns K46_1 _ _ _
    unfold K46_1
    simp (maxSteps := 4000000) (disch := first | omega | assumption | (simp only [bxS, bxV, stOk, Nat.reduceBEq, Nat.reduceEqDiff, Nat.reduceAdd]; done) | (simp only [bxU]; omega) | ((try apply has_setN); apply has_ofL; simp only [bxL]; omega)) only [↓bxD, bxP, bxQ, bxQ2, Nat.reduceBEq, reduceCtorEq, Nat.reduceAdd, Nat.reduceSub, Nat.reduceMul, Nat.reduceLeDiff, Nat.reduceLT, bxR, hr1, hr2, hf1, hf2, hc1, hc2, hk1, hk2, hb0, da0, da1, da2, da3, da4, da5]
    exact ⟨by unfold headE; rw [if_pos (by omega)]; rfl, hx1⟩
  have da5 : decide ((200 : Int) < (g.forbid.length : Int)) = false := decide_eq_false ca5
  simp (maxSteps := 4000000) (disch := first | omega | assumption | (simp only [bxS, bxV, stOk, Nat.reduceBEq, Nat.reduceEqDiff, Nat.reduceAdd]; done) | (simp only [bxU]; omega) | ((try apply has_setN); apply has_ofL; simp only [bxL]; omega)) only [↓bxD, bxP, bxQ, bxQ2, Nat.reduceBEq, reduceCtorEq, Nat.reduceAdd, Nat.reduceSub, Nat.reduceMul, Nat.reduceLeDiff, Nat.reduceLT, bxR, hr1, hr2, hf1, hf2, hc1, hc2, hk1, hk2, hb0, da0, da1, da2, da3, da4, da5]
  show Wp fns K46_1 _ _ _
  unfold K46_1
  simp (maxSteps := 4000000) (disch := first | omega | assumption | (simp only [bxS, bxV, stOk, Nat.reduceBEq, Nat.reduceEqDiff, Nat.reduceAdd]; done) | (simp only [bxU]; omega) | ((try apply has_setN); apply has_ofL; simp only [bxL]; omega)) only [↓bxD, bxP, bxQ, bxQ2, Nat.reduceBEq, reduceCtorEq, Nat.reduceAdd, Nat.reduceSub, Nat.reduceMul, Nat.reduceLeDiff, Nat.reduceLT, bxR, hr1, hr2, hf1, hf2, hc1, hc2, hk1, hk2, hb0, da0, da1, da2, da3, da4, da5]
  have hh1 : ¬ (g.names < 1 ∨ 40 < g.names ∨ g.kinds < 0 ∨ 40 < g.kinds ∨ (60 : Int) < (g.rules.length : Int) ∨ (200 : Int) < (g.forbid.length : Int)) := by omega
  refine bindP_call number_any ?_
  rintro m M2 ⟨rfl, rfl⟩
  simp (maxSteps := 4000000) (disch := first | omega | assumption | (simp only [bxS, bxV, stOk, Nat.reduceBEq, Nat.reduceEqDiff, Nat.reduceAdd]; done) | (simp only [bxU]; omega) | ((try apply has_setN); apply has_ofL; simp only [bxL]; omega)) only [↓bxD, bxP, bxQ, bxQ2, Nat.reduceBEq, reduceCtorEq, Nat.reduceAdd, Nat.reduceSub, Nat.reduceMul, Nat.reduceLeDiff, Nat.reduceLT, bxR, hr1, hr2, hf1, hf2, hc1, hc2, hk1, hk2, hb0, da0, da1, da2, da3, da4, da5]
  cases cs : isN g.start g.names with
  | false =>
    simp (maxSteps := 4000000) (disch := first | omega | assumption | (simp only [bxS, bxV, stOk, Nat.reduceBEq, Nat.reduceEqDiff, Nat.reduceAdd]; done) | (simp only [bxU]; omega) | ((try apply has_setN); apply has_ofL; simp only [bxL]; omega)) only [↓bxD, bxP, bxQ, bxQ2, Nat.reduceBEq, reduceCtorEq, Nat.reduceAdd, Nat.reduceSub, Nat.reduceMul, Nat.reduceLeDiff, Nat.reduceLT, bxR, hr1, hr2, hf1, hf2, hc1, hc2, hk1, hk2, hb0, da0, da1, da2, da3, da4, da5, cs]
    unfold isN at cs
    simp only [Bool.and_eq_false_iff, decide_eq_false_iff_not] at cs
    exact ⟨by unfold headE; rw [if_neg hh1, if_pos (by omega)]; rfl, hx1⟩
  | true =>
  simp (maxSteps := 4000000) (disch := first | omega | assumption | (simp only [bxS, bxV, stOk, Nat.reduceBEq, Nat.reduceEqDiff, Nat.reduceAdd]; done) | (simp only [bxU]; omega) | ((try apply has_setN); apply has_ofL; simp only [bxL]; omega)) only [↓bxD, bxP, bxQ, bxQ2, Nat.reduceBEq, reduceCtorEq, Nat.reduceAdd, Nat.reduceSub, Nat.reduceMul, Nat.reduceLeDiff, Nat.reduceLT, bxR, hr1, hr2, hf1, hf2, hc1, hc2, hk1, hk2, hb0, cs]
  unfold isN at cs
  simp only [Bool.and_eq_true, decide_eq_true_eq] at cs
  refine bindP_call (areClasses_any h1.rc hw3) ?_
  rintro m M2 ⟨rfl, hx2⟩
  have hb2 := (hx2.old _ (by omega)).trans hb0
  have hn2 := hx2.n
  simp (maxSteps := 4000000) (disch := first | omega | assumption | (simp only [bxS, bxV, stOk, Nat.reduceBEq, Nat.reduceEqDiff, Nat.reduceAdd]; done) | (simp only [bxU]; omega) | ((try apply has_setN); apply has_ofL; simp only [bxL]; omega)) only [↓bxD, bxP, bxQ, bxQ2, Nat.reduceBEq, reduceCtorEq, Nat.reduceAdd, Nat.reduceSub, Nat.reduceMul, Nat.reduceLeDiff, Nat.reduceLT, bxR, hr1, hr2, hf1, hf2, hc1, hc2, hk1, hk2, hb2]
  have hh2 : headE g = if (g.rules.length : Int) < (g.rc.length : Int) ∨ g.kinds < (g.kc.length : Int) ∨ clsB g.rc = false ∨ clsB g.kc = false then some 1 else none := by
    unfold headE
    rw [if_neg hh1, if_neg (by omega)]
  cases e1 : (decide ((g.rc.length : Int) ≤ (g.rules.length : Int)) && clsB g.rc) with
  | false =>
    simp (maxSteps := 4000000) (disch := first | omega | assumption | (simp only [bxS, bxV, stOk, Nat.reduceBEq, Nat.reduceEqDiff, Nat.reduceAdd]; done) | (simp only [bxU]; omega) | ((try apply has_setN); apply has_ofL; simp only [bxL]; omega)) only [↓bxD, bxP, bxQ, bxQ2, Nat.reduceBEq, reduceCtorEq, Nat.reduceAdd, Nat.reduceSub, Nat.reduceMul, Nat.reduceLeDiff, Nat.reduceLT, bxR, hr1, hr2, hf1, hf2, hc1, hc2, hk1, hk2, hb2, e1]
    show Wp fns K46_0 _ _ _
    unfold K46_0
    simp (maxSteps := 4000000) (disch := first | omega | assumption | (simp only [bxS, bxV, stOk, Nat.reduceBEq, Nat.reduceEqDiff, Nat.reduceAdd]; done) | (simp only [bxU]; omega) | ((try apply has_setN); apply has_ofL; simp only [bxL]; omega)) only [↓bxD, bxP, bxQ, bxQ2, Nat.reduceBEq, reduceCtorEq, Nat.reduceAdd, Nat.reduceSub, Nat.reduceMul, Nat.reduceLeDiff, Nat.reduceLT, bxR, hr1, hr2, hf1, hf2, hc1, hc2, hk1, hk2, hb2]
    simp only [Bool.and_eq_false_iff, decide_eq_false_iff_not] at e1
    exact ⟨by rw [hh2, if_pos (by rcases e1 with e1 | e1; exact .inl (by omega); exact .inr (.inr (.inl e1)))]; rfl, hx1.trans hx2⟩
  | true =>
  simp (maxSteps := 4000000) (disch := first | omega | assumption | (simp only [bxS, bxV, stOk, Nat.reduceBEq, Nat.reduceEqDiff, Nat.reduceAdd]; done) | (simp only [bxU]; omega) | ((try apply has_setN); apply has_ofL; simp only [bxL]; omega)) only [↓bxD, bxP, bxQ, bxQ2, Nat.reduceBEq, reduceCtorEq, Nat.reduceAdd, Nat.reduceSub, Nat.reduceMul, Nat.reduceLeDiff, Nat.reduceLT, bxR, hr1, hr2, hf1, hf2, hc1, hc2, hk1, hk2, hb2, e1]
  refine bindP_call (areClasses_any (h1.kc.ext hx2) hw4) ?_
  rintro m M3 ⟨rfl, hx3⟩
  simp (maxSteps := 4000000) (disch := first | omega | assumption | (simp only [bxS, bxV, stOk, Nat.reduceBEq, Nat.reduceEqDiff, Nat.reduceAdd]; done) | (simp only [bxU]; omega) | ((try apply has_setN); apply has_ofL; simp only [bxL]; omega)) only [↓bxD, bxP, bxQ, bxQ2, Nat.reduceBEq, reduceCtorEq, Nat.reduceAdd, Nat.reduceSub, Nat.reduceMul, Nat.reduceLeDiff, Nat.reduceLT, bxR, hr1, hr2, hf1, hf2, hc1, hc2, hk1, hk2, hb2]
  simp only [Bool.and_eq_true, decide_eq_true_eq] at e1
  cases e2 : (decide ((g.kc.length : Int) ≤ g.kinds) && clsB g.kc) with
  | false =>
    simp (maxSteps := 4000000) (disch := first | omega | assumption | (simp only [bxS, bxV, stOk, Nat.reduceBEq, Nat.reduceEqDiff, Nat.reduceAdd]; done) | (simp only [bxU]; omega) | ((try apply has_setN); apply has_ofL; simp only [bxL]; omega)) only [↓bxD, bxP, bxQ, bxQ2, Nat.reduceBEq, reduceCtorEq, Nat.reduceAdd, Nat.reduceSub, Nat.reduceMul, Nat.reduceLeDiff, Nat.reduceLT, bxR, hr1, hr2, hf1, hf2, hc1, hc2, hk1, hk2, hb2, e2]
    show Wp fns K46_0 _ _ _
    unfold K46_0
    simp (maxSteps := 4000000) (disch := first | omega | assumption | (simp only [bxS, bxV, stOk, Nat.reduceBEq, Nat.reduceEqDiff, Nat.reduceAdd]; done) | (simp only [bxU]; omega) | ((try apply has_setN); apply has_ofL; simp only [bxL]; omega)) only [↓bxD, bxP, bxQ, bxQ2, Nat.reduceBEq, reduceCtorEq, Nat.reduceAdd, Nat.reduceSub, Nat.reduceMul, Nat.reduceLeDiff, Nat.reduceLT, bxR, hr1, hr2, hf1, hf2, hc1, hc2, hk1, hk2, hb2]
    simp only [Bool.and_eq_false_iff, decide_eq_false_iff_not] at e2
    exact ⟨by rw [hh2, if_pos (by rcases e2 with e2 | e2; exact .inr (.inl (by omega)); exact .inr (.inr (.inr e2)))]; rfl, (hx1.trans hx2).trans hx3⟩
  | true =>
  simp (maxSteps := 4000000) (disch := first | omega | assumption | (simp only [bxS, bxV, stOk, Nat.reduceBEq, Nat.reduceEqDiff, Nat.reduceAdd]; done) | (simp only [bxU]; omega) | ((try apply has_setN); apply has_ofL; simp only [bxL]; omega)) only [↓bxD, bxP, bxQ, bxQ2, Nat.reduceBEq, reduceCtorEq, Nat.reduceAdd, Nat.reduceSub, Nat.reduceMul, Nat.reduceLeDiff, Nat.reduceLT, bxR, hr1, hr2, hf1, hf2, hc1, hc2, hk1, hk2, hb2, e2]
  show Wp fns K46_0 _ _ _
  unfold K46_0
  simp (maxSteps := 4000000) (disch := first | omega | assumption | (simp only [bxS, bxV, stOk, Nat.reduceBEq, Nat.reduceEqDiff, Nat.reduceAdd]; done) | (simp only [bxU]; omega) | ((try apply has_setN); apply has_ofL; simp only [bxL]; omega)) only [↓bxD, bxP, bxQ, bxQ2, Nat.reduceBEq, reduceCtorEq, Nat.reduceAdd, Nat.reduceSub, Nat.reduceMul, Nat.reduceLeDiff, Nat.reduceLT, bxR, hr1, hr2, hf1, hf2, hc1, hc2, hk1, hk2, hb2]
  show Wp fns K46_2 _ _ _
  unfold K46_2
  simp (maxSteps := 4000000) (disch := first | omega | assumption | (simp only [bxS, bxV, stOk, Nat.reduceBEq, Nat.reduceEqDiff, Nat.reduceAdd]; done) | (simp only [bxU]; omega) | ((try apply has_setN); apply has_ofL; simp only [bxL]; omega)) only [↓bxD, bxP, bxQ, bxQ2, Nat.reduceBEq, reduceCtorEq, Nat.reduceAdd, Nat.reduceSub, Nat.reduceMul, Nat.reduceLeDiff, Nat.reduceLT, bxR, hr1, hr2, hf1, hf2, hc1, hc2, hk1, hk2, hb2]
  simp only [Bool.and_eq_true, decide_eq_true_eq] at e2
  refine ⟨?_, (hx1.trans hx2).trans hx3⟩
  rw [hh2, if_neg]
  · rfl
  · rintro (x | x | x | x)
    · omega
    · omega
    · rw [e1.2] at x; cases x
    · rw [e2.2] at x; cases x
end Go.Proofs.YtdggbpfpjkokpaaDoor.K
set_option linter.unusedSimpArgs false
set_option linter.unusedVariables false
namespace Go.Proofs.YtdggbpfpjkokpaaDoor.K
open Go Ev
set_option maxRecDepth 100000
set_option maxHeartbeats 4000000

theorem pform_forb {M0 M : MH} {g : Gr} {vr vf vc vk : MV} {es : List (List MV)} {f : Fr} (h : Rdy M0 M g vr vf vc vk es f) (hh : headE g = none) (hr : findE (ruleE g) g.rules 0 = none) : Wp fns K39_7 f M (retQ F39 (FormPost g M0)) := by
  have hq := h.fr
  have hbox := h.box
  obtain ⟨hf1, hf2⟩ := h.gr.forbid.sl
  rw [List.length_map] at hf2
  simp only [q1] at hq
  unfold gcs at hbox
  unfold K39_7
  simp (maxSteps := 4000000) (disch := first | omega | assumption | (simp only [bxS, bxV, stOk, Nat.reduceBEq, Nat.reduceEqDiff, Nat.reduceAdd]; done) | (simp only [bxU]; omega) | ((try apply has_setN); apply has_ofL; simp only [bxL]; omega)) only [↓bxD, bxP, bxQ, bxQ2, Nat.reduceBEq, reduceCtorEq, Nat.reduceAdd, Nat.reduceSub, Nat.reduceMul, Nat.reduceLeDiff, Nat.reduceLT, bxR, hq, hbox, hf1, hf2]
  refine Wp_inv (σ := Nat) (fun i f M' => Rdy M0 M' g vr vf vc vk es f ∧ i ≤ g.forbid.length ∧ X.ev f (.t q32) = vf ∧ X.ev f (.t q33) = .i .i64 (g.forbid.length : Int) ∧ X.ev f (.t q34) = .i .i64 (i : Int) ∧ (g.forbid.take i).any (badF g) = false) (fun i => g.forbid.length - i) ?_ 0 ?_
  · rintro i f M' ⟨h, hi, h32, h33, h34, hp⟩
    have hq := h.fr
    have hlo := h.lo0
    have hn := h.ext.n
    have hl := h.ext.lo
    have hlt := h.lt
    have hbox := h.box
    obtain ⟨hw1, hw2, _, _⟩ := h.gr.wf.lens
    simp only [q1, q32, q33, q34] at hq h32 h33 h34
    unfold gcs at hbox
    unfold L39_5
    simp (maxSteps := 4000000) (disch := first | omega | assumption | (simp only [bxS, bxV, stOk, Nat.reduceBEq, Nat.reduceEqDiff, Nat.reduceAdd]; done) | (simp only [bxU]; omega) | ((try apply has_setN); apply has_ofL; simp only [bxL]; omega)) only [↓bxD, bxP, bxQ, bxQ2, Nat.reduceBEq, reduceCtorEq, Nat.reduceAdd, Nat.reduceSub, Nat.reduceMul, Nat.reduceLeDiff, Nat.reduceLT, bxR, hq, h32, h33, h34, hf1, hf2]
    refine condP_split (fun hlt2 => ?_) (fun hge => ?_)
    · have hi' : i < g.forbid.length := by omega
      obtain ⟨x, hz⟩ : ∃ x, g.forbid[i]? = some x := ⟨_, List.getElem?_eq_getElem hi'⟩
      obtain ⟨x0, x1, x2⟩ := x
      obtain ⟨ro, s, t, hg, hid, hat⟩ := h.gr.forbid.read (i := i) (e := trip (x0, x1, x2)) (by rw [List.getElem?_map, hz]; rfl)
      have hN : Ev.getN t 3 (soff vf + i * 3) = some (trip (x0, x1, x2)) := hat.getN
      unfold trip at hN
      have hany : g.forbid.any (badF g) = ((g.forbid.take (i + 1)).any (badF g) || (g.forbid.drop (i + 1)).any (badF g)) := by rw [← List.any_append, List.take_append_drop]
      have htk : (g.forbid.take (i + 1)).any (badF g) = badF g (x0, x1, x2) := by rw [List.take_add_one, hz, List.any_append, hp]; simp
      have hbad : badF g (x0, x1, x2) = true → formP g = (-1, 6) := fun e => by unfold formP; rw [hh, hr]; simp only; rw [if_pos (by rw [hany, htk, e]; rfl)]
      have hG : Ev.getN (ofL [MV.i IntKind.i64 g.names, MV.i IntKind.i64 g.kinds, MV.i IntKind.i64 g.start, vr, vf, vc, vk] 0) 7 0 = some (gcs g vr vf vc vk) := (at_ofL (gcs g vr vf vc vk)).getN
      simp (maxSteps := 4000000) (disch := first | omega | assumption | (simp only [bxS, bxV, stOk, Nat.reduceBEq, Nat.reduceEqDiff, Nat.reduceAdd]; done) | (simp only [bxU]; omega) | ((try apply has_setN); apply has_ofL; simp only [bxL]; omega)) only [↓bxD, bxP, bxQ, bxQ2, Nat.reduceBEq, reduceCtorEq, Nat.reduceAdd, Nat.reduceSub, Nat.reduceMul, Nat.reduceLeDiff, Nat.reduceLT, bxR, hq, h32, h33, h34, hf1, hf2, hg, hN, hG]
      show Wp fns K39_4 _ _ _
      unfold K39_4
      simp (maxSteps := 4000000) (disch := first | omega | assumption | (simp only [bxS, bxV, stOk, Nat.reduceBEq, Nat.reduceEqDiff, Nat.reduceAdd]; done) | (simp only [bxU]; omega) | ((try apply has_setN); apply has_ofL; simp only [bxL]; omega)) only [↓bxD, bxP, bxQ, bxQ2, Nat.reduceBEq, reduceCtorEq, Nat.reduceAdd, Nat.reduceSub, Nat.reduceMul, Nat.reduceLeDiff, Nat.reduceLT, bxR, hq, h32, h33, h34, hf1, hf2, hg, hN, hG]
      generalize hM2 : (M'.push _).set M'.n _ = M2
      have hx2 : Ext M' M2 := by rw [← hM2]; exact (Ext.push M' _).set _ (Nat.le_refl _)
      have hn2 := hx2.n
      have hl2 := hx2.lo
      have h9 : M2.get M'.n = some (.cs false 3 (setN [.i .i64 x0, .i .i64 x1, .i .i64 x2] 0 (ofL [.i .i64 0, .i .i64 0, .i .i64 0] 0))) := by rw [← hM2, set_same]
      have hbox2 := (hx2.old _ hlt).trans hbox
      have hgr := h.gr.ext hx2
      clear hM2
      have hxx := h.ext.trans hx2
      simp (maxSteps := 4000000) (disch := first | omega | assumption | (simp only [bxS, bxV, stOk, Nat.reduceBEq, Nat.reduceEqDiff, Nat.reduceAdd]; done) | (simp only [bxU]; omega) | ((try apply has_setN); apply has_ofL; simp only [bxL]; omega)) only [↓bxD, bxP, bxQ, bxQ2, Nat.reduceBEq, reduceCtorEq, Nat.reduceAdd, Nat.reduceSub, Nat.reduceMul, Nat.reduceLeDiff, Nat.reduceLT, bxR, hq, h32, h33, h34, hf1, hf2, hG, hbox, hbox2, h9]
      refine bindP_call (canForbid_any hgr (by omega)) ?_
      rintro m M3 ⟨rfl, hx3⟩
      simp (maxSteps := 4000000) (disch := first | omega | assumption | (simp only [bxS, bxV, stOk, Nat.reduceBEq, Nat.reduceEqDiff, Nat.reduceAdd]; done) | (simp only [bxU]; omega) | ((try apply has_setN); apply has_ofL; simp only [bxL]; omega)) only [↓bxD, bxP, bxQ, bxQ2, Nat.reduceBEq, reduceCtorEq, Nat.reduceAdd, Nat.reduceSub, Nat.reduceMul, Nat.reduceLeDiff, Nat.reduceLT, bxR, hq, h32, h33, h34, hf1, hf2, hG, hbox, hbox2, h9]
      cases hb : badF g (x0, x1, x2) with
      | true =>
        simp (maxSteps := 4000000) (disch := first | omega | assumption | (simp only [bxS, bxV, stOk, Nat.reduceBEq, Nat.reduceEqDiff, Nat.reduceAdd]; done) | (simp only [bxU]; omega) | ((try apply has_setN); apply has_ofL; simp only [bxL]; omega)) only [↓bxD, bxP, bxQ, bxQ2, Nat.reduceBEq, reduceCtorEq, Nat.reduceAdd, Nat.reduceSub, Nat.reduceMul, Nat.reduceLeDiff, Nat.reduceLT, bxR, hq, h32, h33, h34, hf1, hf2, hG, hbox, hbox2, h9, hb]
        have e : formP g = (-1, 6) := hbad hb
        unfold FormPost
        rw [e]
        exact ⟨rfl, hxx.trans hx3⟩
      | false =>
        simp (maxSteps := 4000000) (disch := first | omega | assumption | (simp only [bxS, bxV, stOk, Nat.reduceBEq, Nat.reduceEqDiff, Nat.reduceAdd]; done) | (simp only [bxU]; omega) | ((try apply has_setN); apply has_ofL; simp only [bxL]; omega)) only [↓bxD, bxP, bxQ, bxQ2, Nat.reduceBEq, reduceCtorEq, Nat.reduceAdd, Nat.reduceSub, Nat.reduceMul, Nat.reduceLeDiff, Nat.reduceLT, bxR, hq, h32, h33, h34, hf1, hf2, hG, hbox, hbox2, h9, hb]
        show Wp fns K39_3 _ _ _
        unfold K39_3
        simp (maxSteps := 4000000) (disch := first | omega | assumption | (simp only [bxS, bxV, stOk, Nat.reduceBEq, Nat.reduceEqDiff, Nat.reduceAdd]; done) | (simp only [bxU]; omega) | ((try apply has_setN); apply has_ofL; simp only [bxL]; omega)) only [↓bxD, bxP, bxQ, bxQ2, Nat.reduceBEq, reduceCtorEq, Nat.reduceAdd, Nat.reduceSub, Nat.reduceMul, Nat.reduceLeDiff, Nat.reduceLT, bxR, hq, h32, h33, h34, hf1, hf2, hG, hbox, hbox2, h9]
        have hn3 := hx3.n
        refine ⟨i + 1, by omega, ⟨hgr.ext hx3, hxx.trans hx3, h.lo0, by omega, (hx3.old _ (by omega)).trans hbox2, by simp only [bxP, bxQ, bxQ2, reduceCtorEq, hq, h32, h33, h34, hf1, hf2, hG, hbox, hbox2, h9]⟩, by omega, rfl, by rw [htk, hb]⟩
    · have hi' : i = g.forbid.length := by omega
      subst hi'
      rw [List.take_length] at hp
      simp (maxSteps := 4000000) (disch := first | omega | assumption | (simp only [bxS, bxV, stOk, Nat.reduceBEq, Nat.reduceEqDiff, Nat.reduceAdd]; done) | (simp only [bxU]; omega) | ((try apply has_setN); apply has_ofL; simp only [bxL]; omega)) only [↓bxD, bxP, bxQ, bxQ2, Nat.reduceBEq, reduceCtorEq, Nat.reduceAdd, Nat.reduceSub, Nat.reduceMul, Nat.reduceLeDiff, Nat.reduceLT, bxR, hq, h32, h33, h34, hf1, hf2]
      show Wp fns K39_6 _ _ _
      unfold K39_6
      simp (maxSteps := 4000000) (disch := first | omega | assumption | (simp only [bxS, bxV, stOk, Nat.reduceBEq, Nat.reduceEqDiff, Nat.reduceAdd]; done) | (simp only [bxU]; omega) | ((try apply has_setN); apply has_ofL; simp only [bxL]; omega)) only [↓bxD, bxP, bxQ, bxQ2, Nat.reduceBEq, reduceCtorEq, Nat.reduceAdd, Nat.reduceSub, Nat.reduceMul, Nat.reduceLeDiff, Nat.reduceLT, bxR, hq, h32, h33, h34, hf1, hf2]
      have e : formP g = (-1, 0) := by unfold formP; rw [hh, hr]; simp only; rw [if_neg (by rw [hp]; simp)]
      unfold FormPost
      rw [e]
      exact ⟨rfl, h.ext⟩
  · exact ⟨⟨h.gr, h.ext, h.lo0, h.lt, h.box, by simp only [bxP, bxQ, bxQ2, reduceCtorEq, hq, hbox, hf1, hf2]⟩, Nat.zero_le _, by simp only [bxP, bxQ, bxQ2, reduceCtorEq, hq, hbox, hf1, hf2], by simp only [bxP, bxQ, bxQ2, reduceCtorEq, hq, hbox, hf1, hf2], by simp only [bxP, bxQ, bxQ2, reduceCtorEq, hq, hbox, hf1, hf2] <;> rfl, rfl⟩
theorem pform_rules {M0 M : MH} {g : Gr} {vr vf vc vk : MV} {es : List (List MV)} {f : Fr} (h : Rdy M0 M g vr vf vc vk es f) (hh : headE g = none) : Wp fns K39_8 f M (retQ F39 (FormPost g M0)) := by
  have hq := h.fr
  have hbox := h.box
  obtain ⟨hr1, hr2⟩ := h.gr.rules.row.sl
  rw [h.gr.rules.len] at hr2
  simp only [q1] at hq
  unfold gcs at hbox
  unfold K39_8
  simp (maxSteps := 4000000) (disch := first | omega | assumption | (simp only [bxS, bxV, stOk, Nat.reduceBEq, Nat.reduceEqDiff, Nat.reduceAdd]; done) | (simp only [bxU]; omega) | ((try apply has_setN); apply has_ofL; simp only [bxL]; omega)) only [↓bxD, bxP, bxQ, bxQ2, Nat.reduceBEq, reduceCtorEq, Nat.reduceAdd, Nat.reduceSub, Nat.reduceMul, Nat.reduceLeDiff, Nat.reduceLT, bxR, hq, hbox, hr1, hr2]
  refine Wp_inv (σ := Nat) (fun i f M' => Rdy M0 M' g vr vf vc vk es f ∧ i ≤ g.rules.length ∧ X.ev f (.t q16) = vr ∧ X.ev f (.t q17) = .i .i64 (g.rules.length : Int) ∧ X.ev f (.t q18) = .i .i64 (i : Int) ∧ findE (ruleE g) g.rules 0 = findE (ruleE g) (g.rules.drop i) i) (fun i => g.rules.length - i) ?_ 0 ?_
  · rintro i f M' ⟨h, hi, h16, h17, h18, hp⟩
    have hq := h.fr
    have hlo := h.lo0
    have hn := h.ext.n
    have hl := h.ext.lo
    have hlt := h.lt
    have hbox := h.box
    obtain ⟨hw1, hw2, _, _⟩ := h.gr.wf.lens
    simp only [q1, q16, q17, q18] at hq h16 h17 h18
    unfold gcs at hbox
    unfold L39_2
    simp (maxSteps := 4000000) (disch := first | omega | assumption | (simp only [bxS, bxV, stOk, Nat.reduceBEq, Nat.reduceEqDiff, Nat.reduceAdd]; done) | (simp only [bxU]; omega) | ((try apply has_setN); apply has_ofL; simp only [bxL]; omega)) only [↓bxD, bxP, bxQ, bxQ2, Nat.reduceBEq, reduceCtorEq, Nat.reduceAdd, Nat.reduceSub, Nat.reduceMul, Nat.reduceLeDiff, Nat.reduceLT, bxR, hq, h16, h17, h18, hr1, hr2]
    refine condP_split (fun hlt2 => ?_) (fun hge => ?_)
    · have hi' : i < g.rules.length := by omega
      obtain ⟨x, hz⟩ : ∃ x, g.rules[i]? = some x := ⟨_, List.getElem?_eq_getElem hi'⟩
      obtain ⟨a0, ar, a2⟩ := x
      obtain ⟨ua, hua, hura⟩ : ∃ u1, es[i]? = some [.i .i64 a0, u1, .i .i64 a2] ∧ IntRow _ u1 ar := h.gr.rules.get hz
      obtain ⟨hsu1, hsu2⟩ := hura.sl
      obtain ⟨ro, s, t, hg, hid, hat⟩ := h.gr.rules.row.read hua
      have hN : Ev.getN t 3 (soff vr + i * 3) = some [.i .i64 a0, ua, .i .i64 a2] := hat.getN
      have hone : MV.one ua = true := isSl_one hsu1
      have hwr := h.gr.wf.rules _ (List.mem_of_getElem? hz)
      have hdrop := findE_drop (f := ruleE g) hz
      have hG : Ev.getN (ofL [MV.i IntKind.i64 g.names, MV.i IntKind.i64 g.kinds, MV.i IntKind.i64 g.start, vr, vf, vc, vk] 0) 7 0 = some (gcs g vr vf vc vk) := (at_ofL (gcs g vr vf vc vk)).getN
      have hst : stOk 3 (.ag [.i .i64 a0, ua, .i .i64 a2]) = true := by cases ua <;> first | rfl | cases hsu1
      simp (maxSteps := 4000000) (disch := first | omega | assumption | (simp only [bxS, bxV, stOk, Nat.reduceBEq, Nat.reduceEqDiff, Nat.reduceAdd]; done) | (simp only [bxU]; omega) | ((try apply has_setN); apply has_ofL; simp only [bxL]; omega)) only [↓bxD, bxP, bxQ, bxQ2, Nat.reduceBEq, reduceCtorEq, Nat.reduceAdd, Nat.reduceSub, Nat.reduceMul, Nat.reduceLeDiff, Nat.reduceLT, bxR, hq, h16, h17, h18, hr1, hr2, hg, hN, hG]
      show Wp fns K39_1 _ _ _
      unfold K39_1
      simp (maxSteps := 4000000) (disch := first | omega | assumption | (simp only [bxS, bxV, stOk, Nat.reduceBEq, Nat.reduceEqDiff, Nat.reduceAdd]; done) | (simp only [bxU]; omega) | ((try apply has_setN); apply has_ofL; simp only [bxL]; omega)) only [↓bxD, bxP, bxQ, bxQ2, Nat.reduceBEq, reduceCtorEq, Nat.reduceAdd, Nat.reduceSub, Nat.reduceMul, Nat.reduceLeDiff, Nat.reduceLT, bxR, hq, h16, h17, h18, hr1, hr2, hg, hN, hG]
      generalize hM2 : (M'.push _).set M'.n _ = M2
      have hx2 : Ext M' M2 := by rw [← hM2]; exact (Ext.push M' _).set _ (Nat.le_refl _)
      have hn2 := hx2.n
      have hl2 := hx2.lo
      have h9 : M2.get M'.n = some (.cs false 3 (setN [.i .i64 a0, ua, .i .i64 a2] 0 (ofL [.i .i64 0, .nils, .i .i64 0] 0))) := by rw [← hM2, set_same]
      have hbox2 := (hx2.old _ hlt).trans hbox
      have hgr := h.gr.ext hx2
      clear hM2
      have hxx := h.ext.trans hx2
      simp (maxSteps := 4000000) (disch := first | omega | assumption | (simp only [bxS, bxV, stOk, Nat.reduceBEq, Nat.reduceEqDiff, Nat.reduceAdd]; done) | (simp only [bxU]; omega) | ((try apply has_setN); apply has_ofL; simp only [bxL]; omega)) only [↓bxD, bxP, bxQ, bxQ2, Nat.reduceBEq, reduceCtorEq, Nat.reduceAdd, Nat.reduceSub, Nat.reduceMul, Nat.reduceLeDiff, Nat.reduceLT, bxR, hq, h16, h17, h18, hr1, hr2, hG, hbox, hbox2, h9]
      refine bindP_call (ruleError_any (by omega) (hura.ext hx2) hwr.2.1 hwr.2.2.2) ?_
      rintro m M3 ⟨rfl, hx3⟩
      simp (maxSteps := 4000000) (disch := first | omega | assumption | (simp only [bxS, bxV, stOk, Nat.reduceBEq, Nat.reduceEqDiff, Nat.reduceAdd]; done) | (simp only [bxU]; omega) | ((try apply has_setN); apply has_ofL; simp only [bxL]; omega)) only [↓bxD, bxP, bxQ, bxQ2, Nat.reduceBEq, reduceCtorEq, Nat.reduceAdd, Nat.reduceSub, Nat.reduceMul, Nat.reduceLeDiff, Nat.reduceLT, bxR, hq, h16, h17, h18, hr1, hr2, hG, hbox, hbox2, h9]
      cases hb : ruleE g (a0, ar, a2) with
      | some e =>
        have e0' : e ≠ 0 := by
          unfold ruleE at hb
          split at hb
          · cases hb; decide
          · split at hb
            · cases hb; decide
            · split at hb
              · cases hb; decide
              · cases hb
        rw [hb] at hdrop
        simp (maxSteps := 4000000) (disch := first | omega | assumption | (simp only [bxS, bxV, stOk, Nat.reduceBEq, Nat.reduceEqDiff, Nat.reduceAdd]; done) | (simp only [bxU]; omega) | ((try apply has_setN); apply has_ofL; simp only [bxL]; omega)) only [↓bxD, bxP, bxQ, bxQ2, Nat.reduceBEq, reduceCtorEq, Nat.reduceAdd, Nat.reduceSub, Nat.reduceMul, Nat.reduceLeDiff, Nat.reduceLT, bxR, hq, h16, h17, h18, hr1, hr2, hG, hbox, hbox2, h9, hb, numE]
        refine condP_split (fun _ => ?_) (fun hc => (hc e0').elim)
        simp (maxSteps := 4000000) (disch := first | omega | assumption | (simp only [bxS, bxV, stOk, Nat.reduceBEq, Nat.reduceEqDiff, Nat.reduceAdd]; done) | (simp only [bxU]; omega) | ((try apply has_setN); apply has_ofL; simp only [bxL]; omega)) only [↓bxD, bxP, bxQ, bxQ2, Nat.reduceBEq, reduceCtorEq, Nat.reduceAdd, Nat.reduceSub, Nat.reduceMul, Nat.reduceLeDiff, Nat.reduceLT, bxR, hq, h16, h17, h18, hr1, hr2, hG, hbox, hbox2, h9]
        have e : formP g = ((i : Int), e) := by unfold formP; rw [hh, hp, hdrop]
        unfold FormPost
        rw [e]
        exact ⟨rfl, hxx.trans hx3⟩
      | none =>
        rw [hb] at hdrop
        simp (maxSteps := 4000000) (disch := first | omega | assumption | (simp only [bxS, bxV, stOk, Nat.reduceBEq, Nat.reduceEqDiff, Nat.reduceAdd]; done) | (simp only [bxU]; omega) | ((try apply has_setN); apply has_ofL; simp only [bxL]; omega)) only [↓bxD, bxP, bxQ, bxQ2, Nat.reduceBEq, reduceCtorEq, Nat.reduceAdd, Nat.reduceSub, Nat.reduceMul, Nat.reduceLeDiff, Nat.reduceLT, bxR, hq, h16, h17, h18, hr1, hr2, hG, hbox, hbox2, h9, hb, numE]
        refine condP_split (fun hc => (hc rfl).elim) (fun _ => ?_)
        simp (maxSteps := 4000000) (disch := first | omega | assumption | (simp only [bxS, bxV, stOk, Nat.reduceBEq, Nat.reduceEqDiff, Nat.reduceAdd]; done) | (simp only [bxU]; omega) | ((try apply has_setN); apply has_ofL; simp only [bxL]; omega)) only [↓bxD, bxP, bxQ, bxQ2, Nat.reduceBEq, reduceCtorEq, Nat.reduceAdd, Nat.reduceSub, Nat.reduceMul, Nat.reduceLeDiff, Nat.reduceLT, bxR, hq, h16, h17, h18, hr1, hr2, hG, hbox, hbox2, h9]
        show Wp fns K39_0 _ _ _
        unfold K39_0
        simp (maxSteps := 4000000) (disch := first | omega | assumption | (simp only [bxS, bxV, stOk, Nat.reduceBEq, Nat.reduceEqDiff, Nat.reduceAdd]; done) | (simp only [bxU]; omega) | ((try apply has_setN); apply has_ofL; simp only [bxL]; omega)) only [↓bxD, bxP, bxQ, bxQ2, Nat.reduceBEq, reduceCtorEq, Nat.reduceAdd, Nat.reduceSub, Nat.reduceMul, Nat.reduceLeDiff, Nat.reduceLT, bxR, hq, h16, h17, h18, hr1, hr2, hG, hbox, hbox2, h9]
        have hn3 := hx3.n
        refine ⟨i + 1, by omega, ⟨hgr.ext hx3, hxx.trans hx3, h.lo0, by omega, (hx3.old _ (by omega)).trans hbox2, by simp only [bxP, bxQ, bxQ2, reduceCtorEq, hq, h16, h17, h18, hr1, hr2, hG, hbox, hbox2, h9]⟩, by omega, rfl, hp.trans hdrop⟩
    · have hi' : i = g.rules.length := by omega
      subst hi'
      simp (maxSteps := 4000000) (disch := first | omega | assumption | (simp only [bxS, bxV, stOk, Nat.reduceBEq, Nat.reduceEqDiff, Nat.reduceAdd]; done) | (simp only [bxU]; omega) | ((try apply has_setN); apply has_ofL; simp only [bxL]; omega)) only [↓bxD, bxP, bxQ, bxQ2, Nat.reduceBEq, reduceCtorEq, Nat.reduceAdd, Nat.reduceSub, Nat.reduceMul, Nat.reduceLeDiff, Nat.reduceLT, bxR, hq, h16, h17, h18, hr1, hr2]
      show Wp fns K39_7 _ _ _
      exact pform_forb ⟨h.gr, h.ext, h.lo0, h.lt, h.box, by simp only [bxP, bxQ, bxQ2, reduceCtorEq, hq, h16, h17, h18, hr1, hr2]⟩ hh (by rw [hp, List.drop_length]; rfl)
  · exact ⟨⟨h.gr, h.ext, h.lo0, h.lt, h.box, by simp only [bxP, bxQ, bxQ2, reduceCtorEq, hq, hbox, hr1, hr2]⟩, Nat.zero_le _, by simp only [bxP, bxQ, bxQ2, reduceCtorEq, hq, hbox, hr1, hr2], by simp only [bxP, bxQ, bxQ2, reduceCtorEq, hq, hbox, hr1, hr2], by simp only [bxP, bxQ, bxQ2, reduceCtorEq, hq, hbox, hr1, hr2] <;> rfl, rfl⟩
theorem prog_form {M : MH} {g : Gr} {vr vf vc vk : MV} {es : List (List MV)} (h : GrAt M vr vf vc vk es g) (hlo : M.lo ≤ M.n) : Cp fns 39 [.ag (gcs g vr vf vc vk)] M fun m M' => m = .tp [.i .i64 (formP g).1, .i .i64 (formP g).2] ∧ Ext M M' := by
  have hG : ∀ l, l = gcs g vr vf vc vk → Ev.getN (ofL l 0) 7 0 = some (gcs g vr vf vc vk) := fun l e => by subst e; exact (at_ofL (gcs g vr vf vc vk)).getN
  have hG := hG [MV.i IntKind.i64 g.names, MV.i IntKind.i64 g.kinds, MV.i IntKind.i64 g.start, vr, vf, vc, vk] rfl
  refine Cp_call (fn := F39) (by kernel_rfl) (Nat.le_of_ble_eq_true rfl) ?_
  show Wp fns B39 (T.set q0 (some (.ag (gcs g vr vf vc vk))) T.lf) M _
  unfold B39
  rw [show gcs g vr vf vc vk = [MV.i IntKind.i64 g.names, MV.i IntKind.i64 g.kinds, MV.i IntKind.i64 g.start, vr, vf, vc, vk] from rfl]
  simp (maxSteps := 4000000) (disch := first | omega | assumption | (simp only [bxS, bxV, stOk, Nat.reduceBEq, Nat.reduceEqDiff, Nat.reduceAdd]; done) | (simp only [bxU]; omega) | ((try apply has_setN); apply has_ofL; simp only [bxL]; omega)) only [↓bxD, bxP, bxQ, bxQ2, Nat.reduceBEq, reduceCtorEq, Nat.reduceAdd, Nat.reduceSub, Nat.reduceMul, Nat.reduceLeDiff, Nat.reduceLT, bxR]
  generalize hM1 : M.push _ = M1
  have hb0 : M1.get M.n = some (.cs false 7 (ofL [MV.i IntKind.i64 g.names, MV.i IntKind.i64 g.kinds, MV.i IntKind.i64 g.start, vr, vf, vc, vk] 0)) := by rw [← hM1]; exact push_new _
  have hx1 : Ext M M1 := by rw [← hM1]; exact .push M _
  have hn1 : M1.n = M.n + 1 := by rw [← hM1]; rfl
  have hl1 := hx1.lo
  clear hM1
  have h1 := h.ext hx1
  simp (maxSteps := 4000000) (disch := first | omega | assumption | (simp only [bxS, bxV, stOk, Nat.reduceBEq, Nat.reduceEqDiff, Nat.reduceAdd]; done) | (simp only [bxU]; omega) | ((try apply has_setN); apply has_ofL; simp only [bxL]; omega)) only [↓bxD, bxP, bxQ, bxQ2, Nat.reduceBEq, reduceCtorEq, Nat.reduceAdd, Nat.reduceSub, Nat.reduceMul, Nat.reduceLeDiff, Nat.reduceLT, bxR, hb0, hG]
  refine bindP_call (wholeError_any h1 (by omega)) ?_
  rintro m M2 ⟨rfl, hx2⟩
  simp (maxSteps := 4000000) (disch := first | omega | assumption | (simp only [bxS, bxV, stOk, Nat.reduceBEq, Nat.reduceEqDiff, Nat.reduceAdd]; done) | (simp only [bxU]; omega) | ((try apply has_setN); apply has_ofL; simp only [bxL]; omega)) only [↓bxD, bxP, bxQ, bxQ2, Nat.reduceBEq, reduceCtorEq, Nat.reduceAdd, Nat.reduceSub, Nat.reduceMul, Nat.reduceLeDiff, Nat.reduceLT, bxR, hb0, hG]
  have hn2 := hx2.n
  have hb2 := (hx2.old _ (by omega)).trans hb0
  cases hb : headE g with
  | some e =>
    have e0' : e ≠ 0 := by
      unfold headE at hb
      split at hb
      · cases hb; decide
      · split at hb
        · cases hb; decide
        · split at hb
          · cases hb; decide
          · cases hb
    simp (maxSteps := 4000000) (disch := first | omega | assumption | (simp only [bxS, bxV, stOk, Nat.reduceBEq, Nat.reduceEqDiff, Nat.reduceAdd]; done) | (simp only [bxU]; omega) | ((try apply has_setN); apply has_ofL; simp only [bxL]; omega)) only [↓bxD, bxP, bxQ, bxQ2, Nat.reduceBEq, reduceCtorEq, Nat.reduceAdd, Nat.reduceSub, Nat.reduceMul, Nat.reduceLeDiff, Nat.reduceLT, bxR, hb0, hG, hb, numE]
    refine condP_split (fun _ => ?_) (fun hc => (hc e0').elim)
    simp (maxSteps := 4000000) (disch := first | omega | assumption | (simp only [bxS, bxV, stOk, Nat.reduceBEq, Nat.reduceEqDiff, Nat.reduceAdd]; done) | (simp only [bxU]; omega) | ((try apply has_setN); apply has_ofL; simp only [bxL]; omega)) only [↓bxD, bxP, bxQ, bxQ2, Nat.reduceBEq, reduceCtorEq, Nat.reduceAdd, Nat.reduceSub, Nat.reduceMul, Nat.reduceLeDiff, Nat.reduceLT, bxR, hb0, hG]
    have e : formP g = (-1, e) := by unfold formP; rw [hb]
    rw [e]
    exact ⟨rfl, hx1.trans hx2⟩
  | none =>
    simp (maxSteps := 4000000) (disch := first | omega | assumption | (simp only [bxS, bxV, stOk, Nat.reduceBEq, Nat.reduceEqDiff, Nat.reduceAdd]; done) | (simp only [bxU]; omega) | ((try apply has_setN); apply has_ofL; simp only [bxL]; omega)) only [↓bxD, bxP, bxQ, bxQ2, Nat.reduceBEq, reduceCtorEq, Nat.reduceAdd, Nat.reduceSub, Nat.reduceMul, Nat.reduceLeDiff, Nat.reduceLT, bxR, hb0, hG, hb, numE]
    refine condP_split (fun hc => (hc rfl).elim) (fun _ => ?_)
    simp (maxSteps := 4000000) (disch := first | omega | assumption | (simp only [bxS, bxV, stOk, Nat.reduceBEq, Nat.reduceEqDiff, Nat.reduceAdd]; done) | (simp only [bxU]; omega) | ((try apply has_setN); apply has_ofL; simp only [bxL]; omega)) only [↓bxD, bxP, bxQ, bxQ2, Nat.reduceBEq, reduceCtorEq, Nat.reduceAdd, Nat.reduceSub, Nat.reduceMul, Nat.reduceLeDiff, Nat.reduceLT, bxR, hb0, hG]
    show Wp fns K39_8 _ _ _
    exact pform_rules ⟨h1.ext hx2, hx1.trans hx2, hlo, by omega, hb2, by simp only [bxP, bxQ, bxQ2, reduceCtorEq, hb0, hG]⟩ hb
end Go.Proofs.YtdggbpfpjkokpaaDoor.K
set_option linter.unusedSimpArgs false
set_option linter.unusedVariables false
namespace Go.Proofs.YtdggbpfpjkokpaaDoor.K
open Go Ev
set_option maxRecDepth 100000
set_option maxHeartbeats 4000000

theorem isForm_any {M : MH} {g : Gr} {vr vf vc vk : MV} {es : List (List MV)} (h : GrAt M vr vf vc vk es g) (hlo : M.lo ≤ M.n) : Cp fns 25 [.ag (gcs g vr vf vc vk)] M fun m M' => m = .b (decide ((formP g).2 = 0)) ∧ Ext M M' := by
  have hG : ∀ l, l = gcs g vr vf vc vk → Ev.getN (ofL l 0) 7 0 = some (gcs g vr vf vc vk) := fun l e => by subst e; exact (at_ofL (gcs g vr vf vc vk)).getN
  have hG := hG [MV.i IntKind.i64 g.names, MV.i IntKind.i64 g.kinds, MV.i IntKind.i64 g.start, vr, vf, vc, vk] rfl
  refine Cp_call (fn := F25) (by kernel_rfl) (Nat.le_of_ble_eq_true rfl) ?_
  show Wp fns B25 (T.set q0 (some (.ag (gcs g vr vf vc vk))) T.lf) M _
  unfold B25
  rw [show gcs g vr vf vc vk = [MV.i IntKind.i64 g.names, MV.i IntKind.i64 g.kinds, MV.i IntKind.i64 g.start, vr, vf, vc, vk] from rfl]
  simp (maxSteps := 4000000) (disch := first | omega | assumption | (simp only [bxS, bxV, stOk, Nat.reduceBEq, Nat.reduceEqDiff, Nat.reduceAdd]; done) | (simp only [bxU]; omega) | ((try apply has_setN); apply has_ofL; simp only [bxL]; omega)) only [↓bxD, bxP, bxQ, bxQ2, Nat.reduceBEq, reduceCtorEq, Nat.reduceAdd, Nat.reduceSub, Nat.reduceMul, Nat.reduceLeDiff, Nat.reduceLT, bxR, hG]
  refine bindP_call (prog_form (h.ext (.push M _)) (by show M.lo ≤ M.n + 1; omega)) ?_
  rintro m M2 ⟨rfl, hx⟩
  simp (maxSteps := 4000000) (disch := first | omega | assumption | (simp only [bxS, bxV, stOk, Nat.reduceBEq, Nat.reduceEqDiff, Nat.reduceAdd]; done) | (simp only [bxU]; omega) | ((try apply has_setN); apply has_ofL; simp only [bxL]; omega)) only [↓bxD, bxP, bxQ, bxQ2, Nat.reduceBEq, reduceCtorEq, Nat.reduceAdd, Nat.reduceSub, Nat.reduceMul, Nat.reduceLeDiff, Nat.reduceLT, bxR, hG]
  exact (Ext.push M _).trans hx
theorem lists_listP {K : Nat} {F : List Nat} (hK : K ≤ 64) (h : ∀ k ∈ F, k < 2 ^ K) : F.map bitsU = (FM K F).map listP := by
  unfold FM
  rw [List.map_map]
  exact List.map_congr_left fun k hk => bitsU_listP hK (h k hk)
theorem pnull_any {M : MH} {g : Gr} {vr vf vc vk : MV} {es : List (List MV)} (h : GrAt M vr vf vc vk es g) (hlo : M.lo ≤ M.n) : Cp fns 12 [.ag (gcs g vr vf vc vk)] M (NulPost g M) := by
  have hG : ∀ l, l = gcs g vr vf vc vk → Ev.getN (ofL l 0) 7 0 = some (gcs g vr vf vc vk) := fun l e => by subst e; exact (at_ofL (gcs g vr vf vc vk)).getN
  have hG := hG [MV.i IntKind.i64 g.names, MV.i IntKind.i64 g.kinds, MV.i IntKind.i64 g.start, vr, vf, vc, vk] rfl
  refine Cp_call (fn := F12) (by kernel_rfl) (Nat.le_of_ble_eq_true rfl) ?_
  show Wp fns B12 (T.set q0 (some (.ag (gcs g vr vf vc vk))) T.lf) M _
  unfold B12
  rw [show gcs g vr vf vc vk = [MV.i IntKind.i64 g.names, MV.i IntKind.i64 g.kinds, MV.i IntKind.i64 g.start, vr, vf, vc, vk] from rfl]
  generalize hM1 : M.push (.cs false 7 (ofL [MV.i IntKind.i64 g.names, MV.i IntKind.i64 g.kinds, MV.i IntKind.i64 g.start, vr, vf, vc, vk] 0)) = M1
  have g0 : M1.get M.n = some (.cs false 7 (ofL [MV.i IntKind.i64 g.names, MV.i IntKind.i64 g.kinds, MV.i IntKind.i64 g.start, vr, vf, vc, vk] 0)) := by rw [← hM1]; exact push_new _
  have x1 : Ext M M1 := by rw [← hM1]; exact .push M _
  have n1 : M1.n = M.n + 1 := by rw [← hM1]; rfl
  have l1 := x1.lo
  have fld0 : ∀ a b : MV, fld1V 0 (.ag [a, b]) = some a := fun _ _ => rfl
  have fld1 : ∀ a b : MV, fld1V 1 (.ag [a, b]) = some b := fun _ _ => rfl
  simp (maxSteps := 4000000) (disch := first | omega | assumption | (simp only [bxS, bxV, stOk, Nat.reduceBEq, Nat.reduceEqDiff, Nat.reduceAdd]; done) | (simp only [bxU]; omega) | ((try apply has_setN); apply has_ofL; simp only [bxL]; omega)) only [↓bxD, bxP, bxQ, bxQ2, Nat.reduceBEq, reduceCtorEq, Nat.reduceAdd, Nat.reduceSub, Nat.reduceMul, Nat.reduceLeDiff, Nat.reduceLT, bxR, hG, hM1, g0]
  refine bindP_call (isForm_any (h.ext x1) (by omega)) ?_
  rintro m M2 ⟨rfl, x2⟩
  have n2 := x2.n
  have l2 := x2.lo
  have g2 := (x2.old _ (by omega)).trans g0
  by_cases hz : (formP g).2 = 0
  · have dz : decide ((formP g).2 = 0) = true := decide_eq_true hz
    have hok := form_ok hz
    have hk40 := hok.k2
    have hk0 := hok.k1
    have hn40 := hok.n2
    simp (maxSteps := 4000000) (disch := first | omega | assumption | (simp only [bxS, bxV, stOk, Nat.reduceBEq, Nat.reduceEqDiff, Nat.reduceAdd]; done) | (simp only [bxU]; omega) | ((try apply has_setN); apply has_ofL; simp only [bxL]; omega)) only [↓bxD, bxP, bxQ, bxQ2, Nat.reduceBEq, reduceCtorEq, Nat.reduceAdd, Nat.reduceSub, Nat.reduceMul, Nat.reduceLeDiff, Nat.reduceLT, bxR, hG, g2, dz, fld0, fld1]
    show Wp fns K12_0 _ _ _
    unfold K12_0
    simp (maxSteps := 4000000) (disch := first | omega | assumption | (simp only [bxS, bxV, stOk, Nat.reduceBEq, Nat.reduceEqDiff, Nat.reduceAdd]; done) | (simp only [bxU]; omega) | ((try apply has_setN); apply has_ofL; simp only [bxL]; omega)) only [↓bxD, bxP, bxQ, bxQ2, Nat.reduceBEq, reduceCtorEq, Nat.reduceAdd, Nat.reduceSub, Nat.reduceMul, Nat.reduceLeDiff, Nat.reduceLT, bxR, hG, g2, dz, fld0, fld1]
    refine bindP_call (beginsOf_any ((h.ext x1).ext x2) (by omega) hok) ?_
    rintro m M3 ⟨x3, na, nf, N, F, rfl, t, h1, h2, h3, h4, h5, h6⟩
    unfold tw
    simp (maxSteps := 4000000) (disch := first | omega | assumption | (simp only [bxS, bxV, stOk, Nat.reduceBEq, Nat.reduceEqDiff, Nat.reduceAdd]; done) | (simp only [bxU]; omega) | ((try apply has_setN); apply has_ofL; simp only [bxL]; omega)) only [↓bxD, bxP, bxQ, bxQ2, Nat.reduceBEq, reduceCtorEq, Nat.reduceAdd, Nat.reduceSub, Nat.reduceMul, Nat.reduceLeDiff, Nat.reduceLT, bxR, hG, g2, dz, fld0, fld1]
    have hr := t.a.row t.lna
    rw [t.len] at hr
    exact ⟨(x1.trans x2).trans x3, .inr ⟨hz, N, h3, hr⟩⟩
  · have dz : decide ((formP g).2 = 0) = false := decide_eq_false hz
    simp (maxSteps := 4000000) (disch := first | omega | assumption | (simp only [bxS, bxV, stOk, Nat.reduceBEq, Nat.reduceEqDiff, Nat.reduceAdd]; done) | (simp only [bxU]; omega) | ((try apply has_setN); apply has_ofL; simp only [bxL]; omega)) only [↓bxD, bxP, bxQ, bxQ2, Nat.reduceBEq, reduceCtorEq, Nat.reduceAdd, Nat.reduceSub, Nat.reduceMul, Nat.reduceLeDiff, Nat.reduceLT, bxR, hG, g2, dz]
    exact ⟨x1.trans x2, .inl ⟨hz, rfl⟩⟩
theorem pfirst_any {M : MH} {g : Gr} {vr vf vc vk : MV} {es : List (List MV)} (h : GrAt M vr vf vc vk es g) (hlo : M.lo ≤ M.n) : Cp fns 15 [.ag (gcs g vr vf vc vk)] M (FstPost g M) := by
  have hG : ∀ l, l = gcs g vr vf vc vk → Ev.getN (ofL l 0) 7 0 = some (gcs g vr vf vc vk) := fun l e => by subst e; exact (at_ofL (gcs g vr vf vc vk)).getN
  have hG := hG [MV.i IntKind.i64 g.names, MV.i IntKind.i64 g.kinds, MV.i IntKind.i64 g.start, vr, vf, vc, vk] rfl
  refine Cp_call (fn := F15) (by kernel_rfl) (Nat.le_of_ble_eq_true rfl) ?_
  show Wp fns B15 (T.set q0 (some (.ag (gcs g vr vf vc vk))) T.lf) M _
  unfold B15
  rw [show gcs g vr vf vc vk = [MV.i IntKind.i64 g.names, MV.i IntKind.i64 g.kinds, MV.i IntKind.i64 g.start, vr, vf, vc, vk] from rfl]
  generalize hM1 : M.push (.cs false 7 (ofL [MV.i IntKind.i64 g.names, MV.i IntKind.i64 g.kinds, MV.i IntKind.i64 g.start, vr, vf, vc, vk] 0)) = M1
  have g0 : M1.get M.n = some (.cs false 7 (ofL [MV.i IntKind.i64 g.names, MV.i IntKind.i64 g.kinds, MV.i IntKind.i64 g.start, vr, vf, vc, vk] 0)) := by rw [← hM1]; exact push_new _
  have x1 : Ext M M1 := by rw [← hM1]; exact .push M _
  have n1 : M1.n = M.n + 1 := by rw [← hM1]; rfl
  have l1 := x1.lo
  have fld0 : ∀ a b : MV, fld1V 0 (.ag [a, b]) = some a := fun _ _ => rfl
  have fld1 : ∀ a b : MV, fld1V 1 (.ag [a, b]) = some b := fun _ _ => rfl
  simp (maxSteps := 4000000) (disch := first | omega | assumption | (simp only [bxS, bxV, stOk, Nat.reduceBEq, Nat.reduceEqDiff, Nat.reduceAdd]; done) | (simp only [bxU]; omega) | ((try apply has_setN); apply has_ofL; simp only [bxL]; omega)) only [↓bxD, bxP, bxQ, bxQ2, Nat.reduceBEq, reduceCtorEq, Nat.reduceAdd, Nat.reduceSub, Nat.reduceMul, Nat.reduceLeDiff, Nat.reduceLT, bxR, hG, hM1, g0]
  refine bindP_call (isForm_any (h.ext x1) (by omega)) ?_
  rintro m M2 ⟨rfl, x2⟩
  have n2 := x2.n
  have l2 := x2.lo
  have g2 := (x2.old _ (by omega)).trans g0
  by_cases hz : (formP g).2 = 0
  · have dz : decide ((formP g).2 = 0) = true := decide_eq_true hz
    have hok := form_ok hz
    have hk40 := hok.k2
    have hk0 := hok.k1
    have hn40 := hok.n2
    simp (maxSteps := 4000000) (disch := first | omega | assumption | (simp only [bxS, bxV, stOk, Nat.reduceBEq, Nat.reduceEqDiff, Nat.reduceAdd]; done) | (simp only [bxU]; omega) | ((try apply has_setN); apply has_ofL; simp only [bxL]; omega)) only [↓bxD, bxP, bxQ, bxQ2, Nat.reduceBEq, reduceCtorEq, Nat.reduceAdd, Nat.reduceSub, Nat.reduceMul, Nat.reduceLeDiff, Nat.reduceLT, bxR, hG, g2, dz, fld0, fld1]
    show Wp fns K15_0 _ _ _
    unfold K15_0
    simp (maxSteps := 4000000) (disch := first | omega | assumption | (simp only [bxS, bxV, stOk, Nat.reduceBEq, Nat.reduceEqDiff, Nat.reduceAdd]; done) | (simp only [bxU]; omega) | ((try apply has_setN); apply has_ofL; simp only [bxL]; omega)) only [↓bxD, bxP, bxQ, bxQ2, Nat.reduceBEq, reduceCtorEq, Nat.reduceAdd, Nat.reduceSub, Nat.reduceMul, Nat.reduceLeDiff, Nat.reduceLT, bxR, hG, g2, dz, fld0, fld1]
    refine bindP_call (beginsOf_any ((h.ext x1).ext x2) (by omega) hok) ?_
    rintro m M3 ⟨x3, na, nf, N, F, rfl, t, h1, h2, h3, h4, h5, h6⟩
    have l3 := x3.lo
    have n3 := x3.n
    unfold tw
    simp (maxSteps := 4000000) (disch := first | omega | assumption | (simp only [bxS, bxV, stOk, Nat.reduceBEq, Nat.reduceEqDiff, Nat.reduceAdd]; done) | (simp only [bxU]; omega) | ((try apply has_setN); apply has_ofL; simp only [bxL]; omega)) only [↓bxD, bxP, bxQ, bxQ2, Nat.reduceBEq, reduceCtorEq, Nat.reduceAdd, Nat.reduceSub, Nat.reduceMul, Nat.reduceLeDiff, Nat.reduceLT, bxR, hG, g2, dz, fld0, fld1]
    refine bindP_call (lists_any (((h.ext x1).ext x2).ext x3).tb (t.f.row t.lnf) t.lt (by omega) (by omega)) ?_
    rintro m M4 ⟨x4, rs, hL⟩
    simp (maxSteps := 4000000) (disch := first | omega | assumption | (simp only [bxS, bxV, stOk, Nat.reduceBEq, Nat.reduceEqDiff, Nat.reduceAdd]; done) | (simp only [bxU]; omega) | ((try apply has_setN); apply has_ofL; simp only [bxL]; omega)) only [↓bxD, bxP, bxQ, bxQ2, Nat.reduceBEq, reduceCtorEq, Nat.reduceAdd, Nat.reduceSub, Nat.reduceMul, Nat.reduceLeDiff, Nat.reduceLT, bxR, hG, g2, dz, fld0, fld1]
    rw [lists_listP (K := g.kinds.toNat + 1) (by omega) h5] at hL
    exact ⟨((x1.trans x2).trans x3).trans x4, .inr ⟨hz, rs, _, h6, hL⟩⟩
  · have dz : decide ((formP g).2 = 0) = false := decide_eq_false hz
    simp (maxSteps := 4000000) (disch := first | omega | assumption | (simp only [bxS, bxV, stOk, Nat.reduceBEq, Nat.reduceEqDiff, Nat.reduceAdd]; done) | (simp only [bxU]; omega) | ((try apply has_setN); apply has_ofL; simp only [bxL]; omega)) only [↓bxD, bxP, bxQ, bxQ2, Nat.reduceBEq, reduceCtorEq, Nat.reduceAdd, Nat.reduceSub, Nat.reduceMul, Nat.reduceLeDiff, Nat.reduceLT, bxR, hG, g2, dz]
    exact ⟨x1.trans x2, .inl ⟨hz, rfl⟩⟩
theorem pfollow_any {M : MH} {g : Gr} {vr vf vc vk : MV} {es : List (List MV)} (h : GrAt M vr vf vc vk es g) (hlo : M.lo ≤ M.n) : Cp fns 17 [.ag (gcs g vr vf vc vk)] M (FlwPost g M) := by
  have hG : ∀ l, l = gcs g vr vf vc vk → Ev.getN (ofL l 0) 7 0 = some (gcs g vr vf vc vk) := fun l e => by subst e; exact (at_ofL (gcs g vr vf vc vk)).getN
  have hG := hG [MV.i IntKind.i64 g.names, MV.i IntKind.i64 g.kinds, MV.i IntKind.i64 g.start, vr, vf, vc, vk] rfl
  refine Cp_call (fn := F17) (by kernel_rfl) (Nat.le_of_ble_eq_true rfl) ?_
  show Wp fns B17 (T.set q0 (some (.ag (gcs g vr vf vc vk))) T.lf) M _
  unfold B17
  rw [show gcs g vr vf vc vk = [MV.i IntKind.i64 g.names, MV.i IntKind.i64 g.kinds, MV.i IntKind.i64 g.start, vr, vf, vc, vk] from rfl]
  generalize hM1 : M.push (.cs false 7 (ofL [MV.i IntKind.i64 g.names, MV.i IntKind.i64 g.kinds, MV.i IntKind.i64 g.start, vr, vf, vc, vk] 0)) = M1
  have g0 : M1.get M.n = some (.cs false 7 (ofL [MV.i IntKind.i64 g.names, MV.i IntKind.i64 g.kinds, MV.i IntKind.i64 g.start, vr, vf, vc, vk] 0)) := by rw [← hM1]; exact push_new _
  have x1 : Ext M M1 := by rw [← hM1]; exact .push M _
  have n1 : M1.n = M.n + 1 := by rw [← hM1]; rfl
  have l1 := x1.lo
  have fld0 : ∀ a b : MV, fld1V 0 (.ag [a, b]) = some a := fun _ _ => rfl
  have fld1 : ∀ a b : MV, fld1V 1 (.ag [a, b]) = some b := fun _ _ => rfl
  simp (maxSteps := 4000000) (disch := first | omega | assumption | (simp only [bxS, bxV, stOk, Nat.reduceBEq, Nat.reduceEqDiff, Nat.reduceAdd]; done) | (simp only [bxU]; omega) | ((try apply has_setN); apply has_ofL; simp only [bxL]; omega)) only [↓bxD, bxP, bxQ, bxQ2, Nat.reduceBEq, reduceCtorEq, Nat.reduceAdd, Nat.reduceSub, Nat.reduceMul, Nat.reduceLeDiff, Nat.reduceLT, bxR, hG, hM1, g0]
  refine bindP_call (isForm_any (h.ext x1) (by omega)) ?_
  rintro m M2 ⟨rfl, x2⟩
  have n2 := x2.n
  have l2 := x2.lo
  have g2 := (x2.old _ (by omega)).trans g0
  by_cases hz : (formP g).2 = 0
  · have dz : decide ((formP g).2 = 0) = true := decide_eq_true hz
    have hok := form_ok hz
    have hk40 := hok.k2
    have hk0 := hok.k1
    have hn40 := hok.n2
    simp (maxSteps := 4000000) (disch := first | omega | assumption | (simp only [bxS, bxV, stOk, Nat.reduceBEq, Nat.reduceEqDiff, Nat.reduceAdd]; done) | (simp only [bxU]; omega) | ((try apply has_setN); apply has_ofL; simp only [bxL]; omega)) only [↓bxD, bxP, bxQ, bxQ2, Nat.reduceBEq, reduceCtorEq, Nat.reduceAdd, Nat.reduceSub, Nat.reduceMul, Nat.reduceLeDiff, Nat.reduceLT, bxR, hG, g2, dz, fld0, fld1]
    show Wp fns K17_0 _ _ _
    unfold K17_0
    simp (maxSteps := 4000000) (disch := first | omega | assumption | (simp only [bxS, bxV, stOk, Nat.reduceBEq, Nat.reduceEqDiff, Nat.reduceAdd]; done) | (simp only [bxU]; omega) | ((try apply has_setN); apply has_ofL; simp only [bxL]; omega)) only [↓bxD, bxP, bxQ, bxQ2, Nat.reduceBEq, reduceCtorEq, Nat.reduceAdd, Nat.reduceSub, Nat.reduceMul, Nat.reduceLeDiff, Nat.reduceLT, bxR, hG, g2, dz, fld0, fld1]
    refine bindP_call (behindOf_any ((h.ext x1).ext x2) (by omega) hok) ?_
    rintro m M3 ⟨x3, na, nf, R, W, rfl, t, h4, h5, h6⟩
    have l3 := x3.lo
    have n3 := x3.n
    unfold tw
    simp (maxSteps := 4000000) (disch := first | omega | assumption | (simp only [bxS, bxV, stOk, Nat.reduceBEq, Nat.reduceEqDiff, Nat.reduceAdd]; done) | (simp only [bxU]; omega) | ((try apply has_setN); apply has_ofL; simp only [bxL]; omega)) only [↓bxD, bxP, bxQ, bxQ2, Nat.reduceBEq, reduceCtorEq, Nat.reduceAdd, Nat.reduceSub, Nat.reduceMul, Nat.reduceLeDiff, Nat.reduceLT, bxR, hG, g2, dz, fld0, fld1]
    refine bindP_call (lists_any (((h.ext x1).ext x2).ext x3).tb (t.f.row t.lnf) t.lt (by omega) (by omega)) ?_
    rintro m M4 ⟨x4, rs, hL⟩
    simp (maxSteps := 4000000) (disch := first | omega | assumption | (simp only [bxS, bxV, stOk, Nat.reduceBEq, Nat.reduceEqDiff, Nat.reduceAdd]; done) | (simp only [bxU]; omega) | ((try apply has_setN); apply has_ofL; simp only [bxL]; omega)) only [↓bxD, bxP, bxQ, bxQ2, Nat.reduceBEq, reduceCtorEq, Nat.reduceAdd, Nat.reduceSub, Nat.reduceMul, Nat.reduceLeDiff, Nat.reduceLT, bxR, hG, g2, dz, fld0, fld1]
    rw [lists_listP (K := g.kinds.toNat + 1) (by omega) h5] at hL
    exact ⟨((x1.trans x2).trans x3).trans x4, .inr ⟨hz, rs, _, h6, hL⟩⟩
  · have dz : decide ((formP g).2 = 0) = false := decide_eq_false hz
    simp (maxSteps := 4000000) (disch := first | omega | assumption | (simp only [bxS, bxV, stOk, Nat.reduceBEq, Nat.reduceEqDiff, Nat.reduceAdd]; done) | (simp only [bxU]; omega) | ((try apply has_setN); apply has_ofL; simp only [bxL]; omega)) only [↓bxD, bxP, bxQ, bxQ2, Nat.reduceBEq, reduceCtorEq, Nat.reduceAdd, Nat.reduceSub, Nat.reduceMul, Nat.reduceLeDiff, Nat.reduceLT, bxR, hG, g2, dz]
    exact ⟨x1.trans x2, .inl ⟨hz, rfl⟩⟩
theorem noSym_any {M : MH} {g : Gr} {vr vf vc vk : MV} {s : Int} {b : Nat} (hlo : M.lo ≤ M.n) (hs : Wf64 s) (hb : M.get b = some (.cs false 7 (ofL (gcs g vr vf vc vk) 0))) : Cp fns 23 [.i .i64 s, .p b 0] M fun m M' => m = .b (!(symB g s)) ∧ Ext M M' := by
  refine Cp_call (fn := F23) (by kernel_rfl) (Nat.le_of_ble_eq_true rfl) ?_
  show Wp fns B23 (T.set q1 (some (.p b 0)) (T.set q0 (some (.i .i64 s)) T.lf)) M _
  unfold B23
  have hG : Ev.getN (ofL (gcs g vr vf vc vk) 0) 7 0 = some (gcs g vr vf vc vk) := (at_ofL (gcs g vr vf vc vk)).getN
  simp (maxSteps := 4000000) (disch := first | omega | assumption | (simp only [bxS, bxV, stOk, Nat.reduceBEq, Nat.reduceEqDiff, Nat.reduceAdd]; done) | (simp only [bxU]; omega) | ((try apply has_setN); apply has_ofL; simp only [bxL]; omega)) only [↓bxD, bxP, bxQ, bxQ2, Nat.reduceBEq, reduceCtorEq, Nat.reduceAdd, Nat.reduceSub, Nat.reduceMul, Nat.reduceLeDiff, Nat.reduceLT, bxR, hb, hG]
  refine bindP_call (isSymbol_any hlo hs) ?_
  rintro m M2 ⟨rfl, hx⟩
  simp (maxSteps := 4000000) (disch := first | omega | assumption | (simp only [bxS, bxV, stOk, Nat.reduceBEq, Nat.reduceEqDiff, Nat.reduceAdd]; done) | (simp only [bxU]; omega) | ((try apply has_setN); apply has_ofL; simp only [bxL]; omega)) only [↓bxD, bxP, bxQ, bxQ2, Nat.reduceBEq, reduceCtorEq, Nat.reduceAdd, Nat.reduceSub, Nat.reduceMul, Nat.reduceLeDiff, Nat.reduceLT, bxR, hb, hG]
  exact hx
theorem begVec_of {g : Gr} {N : List Bool} {F : List Nat} (hok : GrOk g) (h : BOk g N F) {l : List Int} (hl : l.all (symB g) = true) : BegVec N (FM (g.kinds.toNat + 1) F) l g.kinds.toNat (rowB (g.kinds.toNat + 1) (rowK N F l)) ∧ rowK N F l < 2 ^ (g.kinds.toNat + 1) := by
  have hsy := List.all_eq_true.1 hl
  have hk0 := hok.k1
  have hlt : rowK N F l < 2 ^ (g.kinds.toNat + 1) := rowK_lt h.lt fun s hs hneg => by have := symB_neg (hsy s hs) hneg; omega
  refine ⟨⟨by unfold rowB; rw [List.length_map, List.length_range], fun t ht => ?_, ?_⟩, hlt⟩
  · rw [bAt_rowB' hlt, begV_FM h.lt]
  · rw [bAt_rowB' hlt]
    cases e : (rowK N F l).testBit g.kinds.toNat with
    | false => rfl
    | true =>
      obtain ⟨p, s, q, rfl, _, ⟨h0, h1⟩ | ⟨_, h1⟩⟩ := (h.row _ _).1 e
      · have := symB_neg (hsy s (by simp)) h0
        omega
      · have := fst_lt hok h1
        omega
theorem pfirstof_any {M : MH} {g : Gr} {vr vf vc vk vl : MV} {es : List (List MV)} {l : List Int} (h : GrAt M vr vf vc vk es g) (hI : IntRow M vl l) (hlw : ∀ z ∈ l, Wf64 z) (hll : l.length ≤ 9223372036854775807) (hlo : M.lo ≤ M.n) : Cp fns 9 [.ag (gcs g vr vf vc vk), vl] M (FofPost g l M) := by
  have hG : ∀ l, l = gcs g vr vf vc vk → Ev.getN (ofL l 0) 7 0 = some (gcs g vr vf vc vk) := fun l e => by subst e; exact (at_ofL (gcs g vr vf vc vk)).getN
  have hG := hG [MV.i IntKind.i64 g.names, MV.i IntKind.i64 g.kinds, MV.i IntKind.i64 g.start, vr, vf, vc, vk] rfl
  refine Cp_call (fn := F9) (by kernel_rfl) (Nat.le_of_ble_eq_true rfl) ?_
  show Wp fns B9 (T.set q1 (some vl) (T.set q0 (some (.ag (gcs g vr vf vc vk))) T.lf)) M _
  unfold B9
  rw [show gcs g vr vf vc vk = [MV.i IntKind.i64 g.names, MV.i IntKind.i64 g.kinds, MV.i IntKind.i64 g.start, vr, vf, vc, vk] from rfl]
  generalize hM1 : M.push (.cs false 7 (ofL [MV.i IntKind.i64 g.names, MV.i IntKind.i64 g.kinds, MV.i IntKind.i64 g.start, vr, vf, vc, vk] 0)) = M1
  have g0 : M1.get M.n = some (.cs false 7 (ofL [MV.i IntKind.i64 g.names, MV.i IntKind.i64 g.kinds, MV.i IntKind.i64 g.start, vr, vf, vc, vk] 0)) := by rw [← hM1]; exact push_new _
  have x1 : Ext M M1 := by rw [← hM1]; exact .push M _
  have n1 : M1.n = M.n + 1 := by rw [← hM1]; rfl
  have l1 := x1.lo
  have fld0 : ∀ a b : MV, fld1V 0 (.ag [a, b]) = some a := fun _ _ => rfl
  have fld1 : ∀ a b : MV, fld1V 1 (.ag [a, b]) = some b := fun _ _ => rfl
  simp (maxSteps := 4000000) (disch := first | omega | assumption | (simp only [bxS, bxV, stOk, Nat.reduceBEq, Nat.reduceEqDiff, Nat.reduceAdd]; done) | (simp only [bxU]; omega) | ((try apply has_setN); apply has_ofL; simp only [bxL]; omega)) only [↓bxD, bxP, bxQ, bxQ2, Nat.reduceBEq, reduceCtorEq, Nat.reduceAdd, Nat.reduceSub, Nat.reduceMul, Nat.reduceLeDiff, Nat.reduceLT, bxR, hG, hM1, g0]
  refine bindP_call (isForm_any (h.ext x1) (by omega)) ?_
  rintro m M2 ⟨rfl, x2⟩
  have n2 := x2.n
  have l2 := x2.lo
  have g2 := (x2.old _ (by omega)).trans g0
  by_cases hz : (formP g).2 = 0
  · have dz : decide ((formP g).2 = 0) = true := decide_eq_true hz
    have hok := form_ok hz
    have hk40 := hok.k2
    have hk0 := hok.k1
    have hn40 := hok.n2
    simp (maxSteps := 4000000) (disch := first | omega | assumption | (simp only [bxS, bxV, stOk, Nat.reduceBEq, Nat.reduceEqDiff, Nat.reduceAdd]; done) | (simp only [bxU]; omega) | ((try apply has_setN); apply has_ofL; simp only [bxL]; omega)) only [↓bxD, bxP, bxQ, bxQ2, Nat.reduceBEq, reduceCtorEq, Nat.reduceAdd, Nat.reduceSub, Nat.reduceMul, Nat.reduceLeDiff, Nat.reduceLT, bxR, hG, g2, dz, fld0, fld1]
    have hI2 := (hI.ext x1).ext x2
    refine bindP_call (contains_any (p := fun z => !(symB g z)) hI2 hll fun M' z hx hz' => ?_) ?_
    · have hn' := hx.n
      have hl' := hx.lo
      exact noSym_any (by omega) (hlw z hz') (by rw [hx.old _ (by omega)]; exact g2)
    rintro m M3 ⟨rfl, x3⟩
    have n3 := x3.n
    have l3 := x3.lo
    have g3 := (x3.old _ (by omega)).trans g2
    have hany : (l.any fun z => !(symB g z)) = !(l.all (symB g)) := by
      rw [List.not_all_eq_any_not]
    rw [hany]
    cases ha : l.all (symB g) with
    | false =>
      rw [show (!false) = true from rfl]
      simp (maxSteps := 4000000) (disch := first | omega | assumption | (simp only [bxS, bxV, stOk, Nat.reduceBEq, Nat.reduceEqDiff, Nat.reduceAdd]; done) | (simp only [bxU]; omega) | ((try apply has_setN); apply has_ofL; simp only [bxL]; omega)) only [↓bxD, bxP, bxQ, bxQ2, Nat.reduceBEq, reduceCtorEq, Nat.reduceAdd, Nat.reduceSub, Nat.reduceMul, Nat.reduceLeDiff, Nat.reduceLT, bxR, hG, g2, dz, fld0, fld1]
      exact ⟨(x1.trans x2).trans x3, .inl ⟨.inr ha, rfl⟩⟩
    | true =>
      rw [show (!true) = false from rfl]
      simp (maxSteps := 4000000) (disch := first | omega | assumption | (simp only [bxS, bxV, stOk, Nat.reduceBEq, Nat.reduceEqDiff, Nat.reduceAdd]; done) | (simp only [bxU]; omega) | ((try apply has_setN); apply has_ofL; simp only [bxL]; omega)) only [↓bxD, bxP, bxQ, bxQ2, Nat.reduceBEq, reduceCtorEq, Nat.reduceAdd, Nat.reduceSub, Nat.reduceMul, Nat.reduceLeDiff, Nat.reduceLT, bxR, hG, g2, dz, fld0, fld1]
      show Wp fns K9_0 _ _ _
      unfold K9_0
      simp (maxSteps := 4000000) (disch := first | omega | assumption | (simp only [bxS, bxV, stOk, Nat.reduceBEq, Nat.reduceEqDiff, Nat.reduceAdd]; done) | (simp only [bxU]; omega) | ((try apply has_setN); apply has_ofL; simp only [bxL]; omega)) only [↓bxD, bxP, bxQ, bxQ2, Nat.reduceBEq, reduceCtorEq, Nat.reduceAdd, Nat.reduceSub, Nat.reduceMul, Nat.reduceLeDiff, Nat.reduceLT, bxR, hG, g2, dz, fld0, fld1, g3]
      refine bindP_call (beginsOf_any (((h.ext x1).ext x2).ext x3) (by omega) hok) ?_
      rintro m M4 hbp
      obtain ⟨x4, na, nf, N, F, rfl, t, _, _, hb⟩ := hbp.ok
      have n4 := x4.n
      have l4 := x4.lo
      have hfl := hb.len
      have hsy := List.all_eq_true.1 ha
      simp (maxSteps := 4000000) (disch := first | omega | assumption | (simp only [bxS, bxV, stOk, Nat.reduceBEq, Nat.reduceEqDiff, Nat.reduceAdd]; done) | (simp only [bxU]; omega) | ((try apply has_setN); apply has_ofL; simp only [bxL]; omega)) only [↓bxD, bxP, bxQ, bxQ2, Nat.reduceBEq, reduceCtorEq, Nat.reduceAdd, Nat.reduceSub, Nat.reduceMul, Nat.reduceLeDiff, Nat.reduceLT, bxR, hG, g2, dz, fld0, fld1]
      refine bindP_call (rowU_any t ((hI2.ext x3).ext x4) (fun s hs => ?_) (by omega) hll) ?_
      · have hss := hsy s hs
        split
        · rename_i hneg
          have := symB_neg hss hneg
          omega
        · rename_i hneg
          have := symB_lt hss (by omega)
          omega
      rintro m M5 ⟨rfl, x5⟩
      have n5 := x5.n
      have l5 := x5.lo
      obtain ⟨hv, hlt⟩ := begVec_of hok hb ha
      simp (maxSteps := 4000000) (disch := first | omega | assumption | (simp only [bxS, bxV, stOk, Nat.reduceBEq, Nat.reduceEqDiff, Nat.reduceAdd]; done) | (simp only [bxU]; omega) | ((try apply has_setN); apply has_ofL; simp only [bxL]; omega)) only [↓bxD, bxP, bxQ, bxQ2, Nat.reduceBEq, reduceCtorEq, Nat.reduceAdd, Nat.reduceSub, Nat.reduceMul, Nat.reduceLeDiff, Nat.reduceLT, bxR, hG, g2, dz, fld0, fld1]
      refine bindP_call (listU_any (((((h.ext x1).ext x2).ext x3).ext x4).ext x5).tb (Nat.lt_of_lt_of_le hlt (Nat.pow_le_pow_right (by omega) (by omega))) (by omega)) ?_
      rintro m M6 ⟨x6, hr⟩
      simp (maxSteps := 4000000) (disch := first | omega | assumption | (simp only [bxS, bxV, stOk, Nat.reduceBEq, Nat.reduceEqDiff, Nat.reduceAdd]; done) | (simp only [bxU]; omega) | ((try apply has_setN); apply has_ofL; simp only [bxL]; omega)) only [↓bxD, bxP, bxQ, bxQ2, Nat.reduceBEq, reduceCtorEq, Nat.reduceAdd, Nat.reduceSub, Nat.reduceMul, Nat.reduceLeDiff, Nat.reduceLT, bxR, hG, g2, dz, fld0, fld1]
      rw [bitsU_listP (K := g.kinds.toNat + 1) (by omega) hlt] at hr
      exact ⟨((((x1.trans x2).trans x3).trans x4).trans x5).trans x6, .inr ⟨hz, ha, m, _, _, rfl, ⟨N, _, _, hb.nul, hb.fst, hv, rfl, rfl⟩, hr.row⟩⟩
  · have dz : decide ((formP g).2 = 0) = false := decide_eq_false hz
    simp (maxSteps := 4000000) (disch := first | omega | assumption | (simp only [bxS, bxV, stOk, Nat.reduceBEq, Nat.reduceEqDiff, Nat.reduceAdd]; done) | (simp only [bxU]; omega) | ((try apply has_setN); apply has_ofL; simp only [bxL]; omega)) only [↓bxD, bxP, bxQ, bxQ2, Nat.reduceBEq, reduceCtorEq, Nat.reduceAdd, Nat.reduceSub, Nat.reduceMul, Nat.reduceLeDiff, Nat.reduceLT, bxR, hG, g2, dz]
    exact ⟨x1.trans x2, .inl ⟨.inl hz, rfl⟩⟩
theorem prog_sets : SetsOk 12 15 9 17 := ⟨fun h h0 => pnull_any h h0, fun h h0 => pfirst_any h h0, fun h h1 h2 h3 h0 => pfirstof_any h h1 h2 h3 h0, fun h h0 => pfollow_any h h0⟩
end Go.Proofs.YtdggbpfpjkokpaaDoor.K
set_option linter.unusedSimpArgs false
set_option linter.unusedVariables false
set_option maxRecDepth 100000
namespace Go.Proofs.YtdggbpfpjkokpaaDoor.Ev
open Go
theorem wf_of {z : Int} (h : (Lit.int .i64 z).wf = true) : Wf64 z := by
  simp only [Lit.wf, Bool.and_eq_true, decide_eq_true_eq] at h
  exact h
theorem list_of {α : Type} {F : α → List MV} {W : α → Prop} : ∀ {es : List (List MV)}, (∀ x ∈ es, ∃ a, x = F a ∧ W a) → ∃ l : List α, es = l.map F ∧ ∀ a ∈ l, W a
  | [], _ => ⟨[], rfl, fun a ha => by cases ha⟩
  | x :: es, h => by
    obtain ⟨a, rfl, wa⟩ := h x List.mem_cons_self
    obtain ⟨l, rfl, hl⟩ := list_of fun y hy => h y (List.mem_cons_of_mem _ hy)
    exact ⟨a :: l, rfl, fun b hb => (List.mem_cons.1 hb).elim (fun e => e ▸ wa) (hl b)⟩
theorem list_of2 {α : Type} {R : List MV → α → Prop} : ∀ {es : List (List MV)}, (∀ x ∈ es, ∃ a, R x a) → ∃ l : List α, es.length = l.length ∧ (∀ (i : Nat) e a, es[i]? = some e → l[i]? = some a → R e a) ∧ ∀ a ∈ l, ∃ x, R x a
  | [], _ => ⟨[], rfl, fun i e a h => by simp at h, fun a ha => by cases ha⟩
  | x :: es, h => by
    obtain ⟨a, ra⟩ := h x List.mem_cons_self
    obtain ⟨l, hl, hr, hw⟩ := list_of2 fun y hy => h y (List.mem_cons_of_mem _ hy)
    refine ⟨a :: l, by rw [List.length_cons, List.length_cons, hl], fun i e b h1 h2 => ?_, fun b hb => (List.mem_cons.1 hb).elim (fun e => ⟨x, e ▸ ra⟩) (hw b)⟩
    cases i with
    | zero => simp only [List.getElem?_cons_zero, Option.some.injEq] at h1 h2; subst h1 h2; exact ra
    | succ i => exact hr i e b (by simpa using h1) (by simpa using h2)
variable {P : Program} {M : MH}
theorem typed_int {n : Nat} {e : TypeId} (hu : P.underlying e = some (.int .i64)) {x : List MV} (h : Typed P M n e x) : ∃ z, x = [.i .i64 z] ∧ Wf64 z := by
  cases n with
  | zero => exact h.elim
  | succ n =>
    simp only [Typed, hu] at h
    obtain ⟨z, rfl, hz⟩ := h
    exact ⟨z, rfl, wf_of hz⟩
theorem typed_ints {n : Nat} {t e : TypeId} (ht : P.underlying t = some (.slice e)) (hu : P.underlying e = some (.int .i64)) (hc : P.cellsOf e = 1) {x : List MV} (h : Typed P M n t x) : ∃ v l, x = [v] ∧ IntRow M v l ∧ (∀ z ∈ l, Wf64 z) ∧ l.length ≤ 9223372036854775807 := by
  cases n with
  | zero => exact h.elim
  | succ n =>
    simp only [Typed, ht] at h
    obtain ⟨v, es, rfl, hr, hm, hl⟩ := h
    obtain ⟨l, rfl, hw⟩ := list_of (F := fun z => [MV.i .i64 z]) (W := Wf64) fun x hx => typed_int hu (hl x hx)
    rw [hc] at hr
    rw [List.length_map] at hm
    exact ⟨v, l, rfl, hr, hw, hm⟩
end Go.Proofs.YtdggbpfpjkokpaaDoor.Ev
namespace Go.Proofs.YtdggbpfpjkokpaaDoor
open Go Ev
theorem rule_of {M : MH} {n : Nat} {x : List MV} (h : Typed Tryd.prog M n 42 x) : ∃ r : Int × List Int × Int, RuleAt M x r ∧ Wf64 r.1 ∧ (∀ z ∈ r.2.1, Wf64 z) ∧ Wf64 r.2.2 ∧ r.2.1.length ≤ 9223372036854775807 := by
  cases n with
  | zero => exact h.elim
  | succ n =>
    simp only [Typed, Tryd.underlying42] at h
    simp only [TypedFs] at h
    obtain ⟨_, _, rfl, h1, _, _, rfl, h2, _, _, rfl, h3, rfl⟩ := h
    obtain ⟨a, rfl, wa⟩ := typed_int Tryd.underlying3 h1
    obtain ⟨v, l, rfl, hr, hw, hm⟩ := typed_ints Tryd.underlying24 Tryd.underlying3 (by kernel_rfl) h2
    obtain ⟨b, rfl, wb⟩ := typed_int Tryd.underlying3 h3
    exact ⟨(a, l, b), ⟨v, rfl, hr⟩, wa, hw, wb, hm⟩
theorem trip_of {M : MH} {n : Nat} {x : List MV} (h : Typed Tryd.prog M n 67 x) : ∃ f : Int × Int × Int, x = trip f ∧ Wf64 f.1 ∧ Wf64 f.2.1 ∧ Wf64 f.2.2 := by
  cases n with
  | zero => exact h.elim
  | succ n =>
    simp only [Typed, Tryd.underlying67] at h
    simp only [TypedN] at h
    obtain ⟨_, _, rfl, h1, _, _, rfl, h2, _, _, rfl, h3, rfl⟩ := h
    obtain ⟨a, rfl, wa⟩ := typed_int Tryd.underlying3 h1
    obtain ⟨b, rfl, wb⟩ := typed_int Tryd.underlying3 h2
    obtain ⟨c, rfl, wc⟩ := typed_int Tryd.underlying3 h3
    exact ⟨(a, b, c), rfl, wa, wb, wc⟩
theorem gram_of {M : MH} {m : MV} (hx : Ext (Mtab tabZ) M) (h : ArgTyped Tryd.prog M 26 m) : ∃ g vr vf vc vk es, m = .ag (gcs g vr vf vc vk) ∧ GrAt M vr vf vc vk es g := by
  obtain ⟨n, cs, h1, h2⟩ := h
  simp only [Tryd.underlying26] at h2
  subst h2
  cases n with
  | zero => exact h1.elim
  | succ n =>
    simp only [Typed, Tryd.underlying26] at h1
    simp only [TypedFs] at h1
    obtain ⟨_, _, rfl, k1, _, _, rfl, k2, _, _, rfl, k3, _, _, rfl, k4, _, _, rfl, k5, _, _, rfl, k6, _, _, rfl, k7, rfl⟩ := h1
    obtain ⟨a, rfl, wa⟩ := typed_int Tryd.underlying3 k1
    obtain ⟨b, rfl, wb⟩ := typed_int Tryd.underlying3 k2
    obtain ⟨c, rfl, wc⟩ := typed_int Tryd.underlying3 k3
    obtain ⟨vc, lc, rfl, rc, hwc, hmc⟩ := typed_ints Tryd.underlying24 Tryd.underlying3 (by kernel_rfl) k6
    obtain ⟨vk, lk, rfl, rk, hwk, hmk⟩ := typed_ints Tryd.underlying24 Tryd.underlying3 (by kernel_rfl) k7
    cases n with
    | zero => exact k4.elim
    | succ n =>
      simp only [Typed, Tryd.underlying22] at k4
      simp only [Typed, Tryd.underlying23] at k5
      obtain ⟨vr, es, rfl, hr, hrm, hrl⟩ := k4
      obtain ⟨vf, fs, rfl, hf, hfm, hfl⟩ := k5
      obtain ⟨l, hl1, hl2, hl3⟩ := list_of2 fun x hx => rule_of (hrl x hx)
      obtain ⟨fl, rfl, hfw⟩ := list_of (F := trip) (W := fun f => Wf64 f.1 ∧ Wf64 f.2.1 ∧ Wf64 f.2.2) fun x hx => trip_of (hfl x hx)
      rw [show Tryd.prog.cellsOf 42 = 3 from by kernel_rfl] at hr
      rw [show Tryd.prog.cellsOf 67 = 3 from by kernel_rfl] at hf
      rw [List.length_map] at hfm
      refine ⟨⟨a, b, c, l, fl, lc, lk⟩, vr, vf, vc, vk, es, rfl, ⟨⟨hr, hl1, fun i e r h1 h2 => (hl2 i e r h1 h2).1⟩, hf, rc, rk, ⟨wa, wb, wc, fun r hr => ?_, hfw, hwc, hwk, by rw [← hl1]; exact hrm, hfm, hmc, hmk⟩, .of hx⟩⟩
      obtain ⟨x, hx⟩ := hl3 r hr
      exact hx.2
end Go.Proofs.YtdggbpfpjkokpaaDoor
set_option linter.unusedSimpArgs false
set_option linter.unusedVariables false
namespace Go.Proofs.YtdggbpfpjkokpaaDoor.K
open Go Ev
set_option maxRecDepth 100000
set_option maxHeartbeats 4000000

theorem al_any {M M' : MH} (hx : Ext (Mtab tabZ) M) (h : Ext M M') : Cp fns 7 [] M' fun m M2 => m = .b true ∧ M2 = M' := Cp_tab (tab := tabZ) (by kernel_rfl) (hx.trans h)
end Go.Proofs.YtdggbpfpjkokpaaDoor.K
set_option linter.unusedSimpArgs false
set_option linter.unusedVariables false
namespace Go.Proofs.YtdggbpfpjkokpaaDoor.K
open Go Ev
set_option maxRecDepth 100000
set_option maxHeartbeats 4000000

theorem ext_dl {M M' : MH} (h : Ext M.lift M') : Ext M (M'.down M.lo) := ⟨h.n, rfl, h.old⟩
end Go.Proofs.YtdggbpfpjkokpaaDoor.K
set_option linter.unusedSimpArgs false
set_option linter.unusedVariables false
namespace Go.Proofs.YtdggbpfpjkokpaaDoor.K
open Go Ev
set_option maxRecDepth 100000
set_option maxHeartbeats 4000000

theorem mat_ext {F G : List (List Bool)} {n : Nat} {P : Nat → Nat → Prop} (hl : F.length = G.length) (hF : ∀ x ∈ F, x.length = n) (hG : ∀ x ∈ G, x.length = n) (h1 : ∀ a t, mAt F a t = true ↔ P a t) (h2 : ∀ a t, mAt G a t = true ↔ P a t) : F = G := by
  refine List.ext_getElem hl fun i hi hj => ?_
  have e1 : F.getD i [] = F[i] := by rw [List.getD_eq_getElem?_getD, List.getElem?_eq_getElem hi]; rfl
  have e2 : G.getD i [] = G[i] := by rw [List.getD_eq_getElem?_getD, List.getElem?_eq_getElem hj]; rfl
  refine bAt_ext ((hF _ (List.getElem_mem hi)).trans (hG _ (List.getElem_mem hj)).symm) fun t _ => ?_
  have := (h1 i t).trans (h2 i t).symm
  unfold mAt at this
  rw [e1, e2] at this
  cases hx : bAt F[i] t <;> cases hy : bAt G[i] t <;> simp_all
theorem fst_ext {g : Gr} {F G : List (List Bool)} (h : FstMat g F) (k : FstMat g G) : F = G := mat_ext (h.len.trans k.len.symm) h.rows k.rows h.iff k.iff
/-- What Nullable and its like give, as lists. -/
def NulIs (g : Gr) (l : List Bool) : Prop := ((formP g).2 ≠ 0 ∧ l = []) ∨ ((formP g).2 = 0 ∧ NulVec g l)
def FstIs (g : Gr) (L : List (List Int)) : Prop := ((formP g).2 ≠ 0 ∧ L = []) ∨ ((formP g).2 = 0 ∧ ∃ F, FstMat g F ∧ L = F.map listP)
def FlwIs (g : Gr) (L : List (List Int)) : Prop := ((formP g).2 ≠ 0 ∧ L = []) ∨ ((formP g).2 = 0 ∧ ∃ F, FlwMat g F ∧ L = F.map listP)
def FofIs (g : Gr) (l x : List Int) (b : Bool) : Prop := (((formP g).2 ≠ 0 ∨ l.all (symB g) = false) ∧ x = [] ∧ b = false) ∨ ((formP g).2 = 0 ∧ l.all (symB g) = true ∧ FirstOfIs g l x b)
theorem row_nil (M : MH) (sz : Nat) : RowAt M sz .nils [] := ⟨fun e h => (by cases h), .inl ⟨rfl, rfl⟩⟩
theorem listP_len (l : List Bool) : (listP l).length ≤ l.length := by
  unfold listP
  rw [List.length_map]
  exact Nat.le_trans (List.length_filter_le _ _) (by rw [List.length_range]; exact Nat.le_refl _)
theorem NulPost.is {g : Gr} {M M' : MH} {m : MV} (h : NulPost g M m M') : Ext M M' ∧ ∃ l, BRow M' m l ∧ NulIs g l ∧ l.length ≤ 1000000000 := by
  obtain ⟨hx, ⟨h1, rfl⟩ | ⟨h1, l, h2, h3⟩⟩ := h
  · exact ⟨hx, [], row_nil _ _, .inl ⟨h1, rfl⟩, Nat.zero_le _⟩
  · refine ⟨hx, l, h3, .inr ⟨h1, h2⟩, ?_⟩
    have := (form_ok h1).n2
    rw [h2.1]
    omega
theorem lrow_nil (M : MH) : LRow M .nils [] [] := ⟨row_nil _ _, rfl, fun i l h => by simp at h⟩
theorem FstPost.is {g : Gr} {M M' : MH} {m : MV} (h : FstPost g M m M') : Ext M M' ∧ ∃ rs L, LRow M' m rs L ∧ FstIs g L ∧ L.length ≤ 1000000000 ∧ ∀ l ∈ L, l.length ≤ 1000000000 := by
  obtain ⟨hx, ⟨h1, rfl⟩ | ⟨h1, rs, F, h2, h3⟩⟩ := h
  · exact ⟨hx, [], [], lrow_nil _, .inl ⟨h1, rfl⟩, Nat.zero_le _, fun l hl => by cases hl⟩
  · have hn := (form_ok h1).n2
    have hk := (form_ok h1).k2
    refine ⟨hx, rs, _, h3, .inr ⟨h1, F, h2, rfl⟩, ?_, fun l hl => ?_⟩
    · rw [List.length_map, h2.len]; omega
    · obtain ⟨x, hx, rfl⟩ := List.mem_map.1 hl
      have := listP_len x
      rw [h2.rows x hx] at this
      omega
theorem FlwPost.is {g : Gr} {M M' : MH} {m : MV} (h : FlwPost g M m M') : Ext M M' ∧ ∃ rs L, LRow M' m rs L ∧ FlwIs g L ∧ L.length ≤ 1000000000 ∧ ∀ l ∈ L, l.length ≤ 1000000000 := by
  obtain ⟨hx, ⟨h1, rfl⟩ | ⟨h1, rs, F, h2, h3⟩⟩ := h
  · exact ⟨hx, [], [], lrow_nil _, .inl ⟨h1, rfl⟩, Nat.zero_le _, fun l hl => by cases hl⟩
  · have hn := (form_ok h1).n2
    have hk := (form_ok h1).k2
    refine ⟨hx, rs, _, h3, .inr ⟨h1, F, h2, rfl⟩, ?_, fun l hl => ?_⟩
    · rw [List.length_map, h2.len]; omega
    · obtain ⟨x, hx, rfl⟩ := List.mem_map.1 hl
      have := listP_len x
      rw [h2.rows x hx] at this
      omega
theorem FofPost.is {g : Gr} {l : List Int} {M M' : MH} {m : MV} (h : FofPost g l M m M') : Ext M M' ∧ ∃ r x b, m = .tp [r, .b b] ∧ IntRow M' r x ∧ FofIs g l x b ∧ x.length ≤ 1000000000 := by
  obtain ⟨hx, ⟨h1, rfl⟩ | ⟨h1, h2, r, x, b, rfl, h3, h4⟩⟩ := h
  · exact ⟨hx, .nils, [], false, rfl, row_nil _ _, .inl ⟨h1, rfl, rfl⟩, Nat.zero_le _⟩
  · refine ⟨hx, r, x, b, rfl, h4, .inr ⟨h1, h2, h3⟩, ?_⟩
    obtain ⟨n1, F1, o1, k1, k2, ⟨k3, _, _⟩, rfl, rfl⟩ := h3
    have := listP_len o1
    have hk := (form_ok h1).k2
    omega
end Go.Proofs.YtdggbpfpjkokpaaDoor.K
set_option linter.unusedSimpArgs false
set_option linter.unusedVariables false
namespace Go.Proofs.YtdggbpfpjkokpaaDoor.K
open Go Ev
set_option maxRecDepth 100000
set_option maxHeartbeats 4000000

theorem has_true {M : MH} {v : MV} {l : List Int} {n : Int} (h : IntRow M v l) (hn : n ∈ l) (hl : l.length ≤ 1000000000) (hlo : M.lo ≤ M.n) : Cp fns 21 [v, .i .i64 n] M fun m M' => m = .b true ∧ M' = M := by
  obtain ⟨a1, a2⟩ := h.sl
  refine Cp_call (fn := F21) (by kernel_rfl) (Nat.le_of_ble_eq_true rfl) ?_
  show Wp fns B21 (T.set q1 (some (.i .i64 n)) (T.set q0 (some v) T.lf)) M _
  unfold B21
  simp (maxSteps := 4000000) (disch := first | omega | assumption | (simp only [bxS, bxV, stOk, Nat.reduceBEq, Nat.reduceEqDiff, Nat.reduceAdd]; done) | (simp only [bxU]; omega) | ((try apply has_setN); apply has_ofL; simp only [bxL]; omega)) only [↓bxD, bxP, bxQ, bxQ2, Nat.reduceBEq, reduceCtorEq, Nat.reduceAdd, Nat.reduceSub, Nat.reduceMul, Nat.reduceLeDiff, Nat.reduceLT, bxR, a1, a2]
  refine Wp_inv (σ := Nat) (fun i f M' => M' = M ∧ i ≤ l.length ∧ X.ev f (.t q0) = v ∧ X.ev f (.t q1) = .i .i64 n ∧ X.ev f (.t q5) = .i .i64 (i : Int) ∧ ∀ k, k < i → l[k]? ≠ some n) (fun i => l.length - i) ?_ 0 ?_
  · rintro i f M' ⟨rfl, hi, h0, h1, h5, hk⟩
    simp only [q0, q1, q5] at h0 h1 h5
    unfold L21_2
    by_cases hi' : i < l.length
    · have d1 : decide ((i : Int) < (l.length : Int)) = true := decide_eq_true (by omega)
      obtain ⟨z, hz⟩ : ∃ z, l[i]? = some z := ⟨_, List.getElem?_eq_getElem hi'⟩
      obtain ⟨ro, s, t, hg, hid, hC⟩ := h.read hz
      by_cases e : z = n
      · subst e
        simp (maxSteps := 4000000) (disch := first | omega | assumption | (simp only [bxS, bxV, stOk, Nat.reduceBEq, Nat.reduceEqDiff, Nat.reduceAdd]; done) | (simp only [bxU]; omega) | ((try apply has_setN); apply has_ofL; simp only [bxL]; omega)) only [↓bxD, bxP, bxQ, bxQ2, Nat.reduceBEq, reduceCtorEq, Nat.reduceAdd, Nat.reduceSub, Nat.reduceMul, Nat.reduceLeDiff, Nat.reduceLT, bxR, h0, h1, h5, a1, a2, hg, hC, d1]
        show Wp fns K21_1 _ _ _
        unfold K21_1
        simp (maxSteps := 4000000) (disch := first | omega | assumption | (simp only [bxS, bxV, stOk, Nat.reduceBEq, Nat.reduceEqDiff, Nat.reduceAdd]; done) | (simp only [bxU]; omega) | ((try apply has_setN); apply has_ofL; simp only [bxL]; omega)) only [↓bxD, bxP, bxQ, bxQ2, Nat.reduceBEq, reduceCtorEq, Nat.reduceAdd, Nat.reduceSub, Nat.reduceMul, Nat.reduceLeDiff, Nat.reduceLT, bxR, h0, h1, h5, a1, a2, hg, hC, d1]
      · have de : decide (z = n) = false := decide_eq_false e
        simp (maxSteps := 4000000) (disch := first | omega | assumption | (simp only [bxS, bxV, stOk, Nat.reduceBEq, Nat.reduceEqDiff, Nat.reduceAdd]; done) | (simp only [bxU]; omega) | ((try apply has_setN); apply has_ofL; simp only [bxL]; omega)) only [↓bxD, bxP, bxQ, bxQ2, Nat.reduceBEq, reduceCtorEq, Nat.reduceAdd, Nat.reduceSub, Nat.reduceMul, Nat.reduceLeDiff, Nat.reduceLT, bxR, h0, h1, h5, a1, a2, hg, hC, d1, de]
        show Wp fns K21_1 _ _ _
        unfold K21_1
        simp (maxSteps := 4000000) (disch := first | omega | assumption | (simp only [bxS, bxV, stOk, Nat.reduceBEq, Nat.reduceEqDiff, Nat.reduceAdd]; done) | (simp only [bxU]; omega) | ((try apply has_setN); apply has_ofL; simp only [bxL]; omega)) only [↓bxD, bxP, bxQ, bxQ2, Nat.reduceBEq, reduceCtorEq, Nat.reduceAdd, Nat.reduceSub, Nat.reduceMul, Nat.reduceLeDiff, Nat.reduceLT, bxR, h0, h1, h5, a1, a2, hg, hC, d1, de]
        show Wp fns K21_0 _ _ _
        unfold K21_0
        simp (maxSteps := 4000000) (disch := first | omega | assumption | (simp only [bxS, bxV, stOk, Nat.reduceBEq, Nat.reduceEqDiff, Nat.reduceAdd]; done) | (simp only [bxU]; omega) | ((try apply has_setN); apply has_ofL; simp only [bxL]; omega)) only [↓bxD, bxP, bxQ, bxQ2, Nat.reduceBEq, reduceCtorEq, Nat.reduceAdd, Nat.reduceSub, Nat.reduceMul, Nat.reduceLeDiff, Nat.reduceLT, bxR, h0, h1, h5, a1, a2, hg, hC, d1, de]
        refine ⟨i + 1, by omega, by omega, rfl, fun k hk' => ?_⟩
        rcases Nat.lt_succ_iff_lt_or_eq.1 hk' with h2 | h2
        · exact hk k h2
        · subst h2; rw [hz]; intro x; injection x with x; exact e x
    · exfalso
      obtain ⟨k, hk1, hk2⟩ := List.mem_iff_getElem.1 hn
      exact hk k (by omega) (by rw [List.getElem?_eq_getElem hk1, hk2])
  · exact ⟨rfl, Nat.zero_le _, by simp only [bxP, bxQ, bxQ2, reduceCtorEq, a1, a2], by simp only [bxP, bxQ, bxQ2, reduceCtorEq, a1, a2], by simp only [bxP, bxQ, bxQ2, reduceCtorEq, a1, a2] <;> rfl, fun k hk => absurd hk (Nat.not_lt_zero _)⟩
theorem listP_mem {l : List Bool} {n : Int} : n ∈ listP l ↔ ∃ t : Nat, n = t ∧ bAt l t = true ∧ t < l.length := by
  unfold listP
  rw [List.mem_map]
  constructor
  · rintro ⟨t, h, rfl⟩
    rw [List.mem_filter, List.mem_range] at h
    exact ⟨t, rfl, h.2, h.1⟩
  · rintro ⟨t, rfl, h1, h2⟩
    exact ⟨t, by rw [List.mem_filter, List.mem_range]; exact ⟨h2, h1⟩, rfl⟩
theorem begin_sub {g : Gr} (hok : GrOk g) {r : Int × List Int × Int} (hr : r ∈ g.rules) {x : List Int} {b : Bool} (h : FirstOfIs g r.2.1 x b) {F : List (List Bool)} (hF : FstMat g F) {row : List Bool} (hrow : F[r.1.toNat]? = some row) : ∀ n ∈ x, n ∈ listP row := by
  obtain ⟨null, F', o, h1, h2, ⟨h3, h4, h5⟩, rfl, rfl⟩ := h
  have e := fst_ext h2 hF
  subst e
  intro n hn
  obtain ⟨t, rfl, ht, htl⟩ := listP_mem.1 hn
  have htk : t < g.kinds.toNat := by
    refine Nat.lt_of_not_le fun hle => ?_
    rw [show t = g.kinds.toNat from by omega, h5] at ht
    cases ht
  rw [h4 t htk] at ht
  have hf := fst_of_beg h1 (fun a t => (hF.iff a t).1) hr ht
  rw [← hF.iff] at hf
  unfold mAt at hf
  rw [List.getD_eq_getElem?_getD, hrow] at hf
  simp only [Option.getD_some] at hf
  exact listP_mem.2 ⟨t, rfl, hf, by rw [hF.rows row (List.mem_of_getElem? hrow)]; omega⟩
theorem begin_one {g : Gr} (hok : GrOk g) {a : Nat} {x : List Int} {b : Bool} (h : FirstOfIs g [(a : Int)] x b) {F : List (List Bool)} (hF : FstMat g F) {row : List Bool} (hrow : F[a]? = some row) {null : List Bool} (hN : NulVec g null) : x = listP row ∧ b = bAt null a := by
  obtain ⟨null', F', o, h1, h2, ⟨h3, h4, h5⟩, rfl, rfl⟩ := h
  have e := fst_ext h2 hF
  subst e
  have e := nul_ext h1 hN
  subst e
  have hl := hF.rows row (List.mem_of_getElem? hrow)
  have hm : ∀ t, mAt F' a t = bAt row t := fun t => by unfold mAt; rw [List.getD_eq_getElem?_getD, hrow]; rfl
  constructor
  · congr 1
    refine bAt_ext (h3.trans hl.symm) fun t ht => ?_
    by_cases htk : t < g.kinds.toNat
    · rw [h4 t htk]
      unfold begV
      rw [if_neg (by omega)]
      unfold begV
      rw [Bool.and_false, Bool.or_false, Int.toNat_natCast]
      exact hm t
    · rw [show t = g.kinds.toNat from by omega, h5, ← hm]
      cases hx : mAt F' a g.kinds.toNat with
      | false => rfl
      | true =>
        have := fst_lt hok ((hF.iff _ _).1 hx)
        have := hok.k1
        omega
  · unfold allN oneN bAt
    simp
theorem null_rule {g : Gr} {r : Int × List Int × Int} (hr : r ∈ g.rules) {x : List Int} {b : Bool} (h : FirstOfIs g r.2.1 x b) (hb : b = true) : Nul g r.1.toNat := by
  obtain ⟨null, F, o, h1, _, _, _, rfl⟩ := h
  have := (allN_iff h1 _).1 hb
  exact .mk r hr (fun s hs => (this s hs).1) fun s hs => (this s hs).2
end Go.Proofs.YtdggbpfpjkokpaaDoor.K
set_option linter.unusedSimpArgs false
set_option linter.unusedVariables false
namespace Go.Proofs.YtdggbpfpjkokpaaDoor.K
open Go Ev
set_option maxRecDepth 100000
set_option maxHeartbeats 4000000

theorem law_begin {M : MH} {g : Gr} {vr vf vc vk : MV} {es : List (List MV)} {r : Int} (h : GrAt M vr vf vc vk es g) (hr64 : Wf64 r) (hlo : M.lo ≤ M.n) (ha : ∀ M', Ext M M' → Cp fns 7 [] M' fun m M2 => m = .b true ∧ M2 = M') (hp : SetsOk 12 15 9 17) : Cp fns 4 [.ag (gcs g vr vf vc vk), .i .i64 r] M fun m _ => m = .b true := by
  have hG : ∀ l, l = gcs g vr vf vc vk → Ev.getN (ofL l 0) 7 0 = some (gcs g vr vf vc vk) := fun l e => by subst e; exact (at_ofL (gcs g vr vf vc vk)).getN
  have hG := hG [MV.i IntKind.i64 g.names, MV.i IntKind.i64 g.kinds, MV.i IntKind.i64 g.start, vr, vf, vc, vk] rfl
  obtain ⟨hr1, hr2⟩ := h.rules.row.sl
  rw [h.rules.len] at hr2
  refine Cp_call (fn := F4) (by kernel_rfl) (Nat.le_of_ble_eq_true rfl) ?_
  show Wp fns B4 (T.set q1 (some (.i .i64 r)) (T.set q0 (some (.ag (gcs g vr vf vc vk))) T.lf)) M _
  unfold B4
  rw [show gcs g vr vf vc vk = [MV.i IntKind.i64 g.names, MV.i IntKind.i64 g.kinds, MV.i IntKind.i64 g.start, vr, vf, vc, vk] from rfl]
  simp (maxSteps := 4000000) (disch := first | omega | assumption | (simp only [bxS, bxV, stOk, Nat.reduceBEq, Nat.reduceEqDiff, Nat.reduceAdd]; done) | (simp only [bxU]; omega) | ((try apply has_setN); apply has_ofL; simp only [bxL]; omega)) only [↓bxD, bxP, bxQ, bxQ2, Nat.reduceBEq, reduceCtorEq, Nat.reduceAdd, Nat.reduceSub, Nat.reduceMul, Nat.reduceLeDiff, Nat.reduceLT, bxR, hG]
  refine bindP_call (ha _ (by first | exact .refl _ | exact .push _ _)) ?_
  rintro m M2 ⟨rfl, rfl⟩
  generalize hM1 : M.push _ = M1
  have hg0 : M1.get M.n = some (.cs false 7 (ofL [MV.i IntKind.i64 g.names, MV.i IntKind.i64 g.kinds, MV.i IntKind.i64 g.start, vr, vf, vc, vk] 0)) := by rw [← hM1]; exact push_new _
  have hx1 : Ext M M1 := by rw [← hM1]; exact Ext.push M _
  have hn1 : M1.n = M.n + 1 := by rw [← hM1]; rfl
  have hl1 := hx1.lo
  clear hM1
  simp (maxSteps := 4000000) (disch := first | omega | assumption | (simp only [bxS, bxV, stOk, Nat.reduceBEq, Nat.reduceEqDiff, Nat.reduceAdd]; done) | (simp only [bxU]; omega) | ((try apply has_setN); apply has_ofL; simp only [bxL]; omega)) only [↓bxD, bxP, bxQ, bxQ2, Nat.reduceBEq, reduceCtorEq, Nat.reduceAdd, Nat.reduceSub, Nat.reduceMul, Nat.reduceLeDiff, Nat.reduceLT, bxR, hG, hg0]
  refine bindP_call (form_any (h.ext hx1) (by omega)) ?_
  rintro m M2 ⟨rfl, hx2⟩
  have hn2 := hx2.n
  have hl2 := hx2.lo
  have hg2 := (hx2.old M.n (by omega)).trans hg0
  simp (maxSteps := 4000000) (disch := first | omega | assumption | (simp only [bxS, bxV, stOk, Nat.reduceBEq, Nat.reduceEqDiff, Nat.reduceAdd]; done) | (simp only [bxU]; omega) | ((try apply has_setN); apply has_ofL; simp only [bxL]; omega)) only [↓bxD, bxP, bxQ, bxQ2, Nat.reduceBEq, reduceCtorEq, Nat.reduceAdd, Nat.reduceSub, Nat.reduceMul, Nat.reduceLeDiff, Nat.reduceLT, bxR, hG, hg2]
  refine bindP_call (few_any ((h.ext hx1).ext hx2) (by omega)) ?_
  rintro m M3 ⟨rfl, hx3⟩
  have hn3 := hx3.n
  have hl3 := hx3.lo
  have hg3 := (hx3.old M.n (by omega)).trans hg2
  have hxx := (hx1.trans hx2).trans hx3
  cases hf : fewB g with
  | false =>
    simp (maxSteps := 4000000) (disch := first | omega | assumption | (simp only [bxS, bxV, stOk, Nat.reduceBEq, Nat.reduceEqDiff, Nat.reduceAdd]; done) | (simp only [bxU]; omega) | ((try apply has_setN); apply has_ofL; simp only [bxL]; omega)) only [↓bxD, bxP, bxQ, bxQ2, Nat.reduceBEq, reduceCtorEq, Nat.reduceAdd, Nat.reduceSub, Nat.reduceMul, Nat.reduceLeDiff, Nat.reduceLT, bxR, hG, hg3]
  | true =>
  by_cases hz : (formP g).2 = 0
  case neg =>
    have dz : decide ((formP g).2 = 0) = false := decide_eq_false hz
    have dz' : decide ((formP g).2 ≠ 0) = true := decide_eq_true hz
    simp (maxSteps := 4000000) (disch := first | omega | assumption | (simp only [bxS, bxV, stOk, Nat.reduceBEq, Nat.reduceEqDiff, Nat.reduceAdd]; done) | (simp only [bxU]; omega) | ((try apply has_setN); apply has_ofL; simp only [bxL]; omega)) only [↓bxD, bxP, bxQ, bxQ2, Nat.reduceBEq, reduceCtorEq, Nat.reduceAdd, Nat.reduceSub, Nat.reduceMul, Nat.reduceLeDiff, Nat.reduceLT, bxR, hG, hg3, dz, dz']
  have dz' : decide ((formP g).2 ≠ 0) = false := decide_eq_false (fun x => x hz)
  by_cases r0 : r < 0
  · have d0 : decide (r < 0) = true := decide_eq_true r0
    simp (maxSteps := 4000000) (disch := first | omega | assumption | (simp only [bxS, bxV, stOk, Nat.reduceBEq, Nat.reduceEqDiff, Nat.reduceAdd]; done) | (simp only [bxU]; omega) | ((try apply has_setN); apply has_ofL; simp only [bxL]; omega)) only [↓bxD, bxP, bxQ, bxQ2, Nat.reduceBEq, reduceCtorEq, Nat.reduceAdd, Nat.reduceSub, Nat.reduceMul, Nat.reduceLeDiff, Nat.reduceLT, bxR, hG, hg3, dz', d0]
  have d0 : decide (r < 0) = false := decide_eq_false r0
  by_cases r1 : (g.rules.length : Int) ≤ r
  · have d1 : decide ((g.rules.length : Int) ≤ r) = true := decide_eq_true r1
    simp (maxSteps := 4000000) (disch := first | omega | assumption | (simp only [bxS, bxV, stOk, Nat.reduceBEq, Nat.reduceEqDiff, Nat.reduceAdd]; done) | (simp only [bxU]; omega) | ((try apply has_setN); apply has_ofL; simp only [bxL]; omega)) only [↓bxD, bxP, bxQ, bxQ2, Nat.reduceBEq, reduceCtorEq, Nat.reduceAdd, Nat.reduceSub, Nat.reduceMul, Nat.reduceLeDiff, Nat.reduceLT, bxR, hG, hg3, dz', d0, d1, hr1, hr2]
  have d1 : decide ((g.rules.length : Int) ≤ r) = false := decide_eq_false r1
  obtain ⟨rn, rfl⟩ : ∃ n : Nat, r = n := ⟨r.toNat, by omega⟩
  have hrn : rn < g.rules.length := by omega
  have hok := form_ok hz
  obtain ⟨rr, hrr⟩ : ∃ rr, g.rules[rn]? = some rr := ⟨_, List.getElem?_eq_getElem hrn⟩
  have hmem := List.mem_of_getElem? hrr
  have hleft := hok.left _ hmem
  have hwf := h.wf.rules _ hmem
  have hn40 := hok.n2
  obtain ⟨a0, ar, a2⟩ := rr
  simp only at hleft hwf
  obtain ⟨an, rfl⟩ : ∃ n : Nat, a0 = n := ⟨a0.toNat, by omega⟩
  simp (maxSteps := 4000000) (disch := first | omega | assumption | (simp only [bxS, bxV, stOk, Nat.reduceBEq, Nat.reduceEqDiff, Nat.reduceAdd]; done) | (simp only [bxU]; omega) | ((try apply has_setN); apply has_ofL; simp only [bxL]; omega)) only [↓bxD, bxP, bxQ, bxQ2, Nat.reduceBEq, reduceCtorEq, Nat.reduceAdd, Nat.reduceSub, Nat.reduceMul, Nat.reduceLeDiff, Nat.reduceLT, bxR, hG, hg3, dz', d0, d1, hr1, hr2]
  show Wp fns K4_8 _ _ _
  unfold K4_8
  simp (maxSteps := 4000000) (disch := first | omega | assumption | (simp only [bxS, bxV, stOk, Nat.reduceBEq, Nat.reduceEqDiff, Nat.reduceAdd]; done) | (simp only [bxU]; omega) | ((try apply has_setN); apply has_ofL; simp only [bxL]; omega)) only [↓bxD, bxP, bxQ, bxQ2, Nat.reduceBEq, reduceCtorEq, Nat.reduceAdd, Nat.reduceSub, Nat.reduceMul, Nat.reduceLeDiff, Nat.reduceLT, bxR, hG, hg3, dz', d0, d1, hr1, hr2]
  refine bindP_call (hp.fst (h.ext hxx) (by omega)) ?_
  rintro vF M4 ⟨hx4, hq⟩
  obtain ⟨rs, F, hF, hL⟩ : ∃ rs F, FstMat g F ∧ LRow M4 vF rs (F.map listP) := by rcases hq with ⟨hc, _⟩ | ⟨_, h⟩; exact absurd hz hc; exact h
  clear hq
  have hn4 := hx4.n
  have hl4 := hx4.lo
  have hg4 := (hx4.old M.n (by omega)).trans hg3
  simp (maxSteps := 4000000) (disch := first | omega | assumption | (simp only [bxS, bxV, stOk, Nat.reduceBEq, Nat.reduceEqDiff, Nat.reduceAdd]; done) | (simp only [bxU]; omega) | ((try apply has_setN); apply has_ofL; simp only [bxL]; omega)) only [↓bxD, bxP, bxQ, bxQ2, Nat.reduceBEq, reduceCtorEq, Nat.reduceAdd, Nat.reduceSub, Nat.reduceMul, Nat.reduceLeDiff, Nat.reduceLT, bxR, hG, hg4]
  refine bindP_call (hp.nul ((h.ext hxx).ext hx4) (by omega)) ?_
  rintro vn M5 ⟨hx5, hq⟩
  obtain ⟨null, hN, hB⟩ : ∃ l, NulVec g l ∧ BRow M5 vn l := by rcases hq with ⟨hc, _⟩ | ⟨_, h⟩; exact absurd hz hc; exact h
  clear hq
  have hn5 := hx5.n
  have hl5 := hx5.lo
  have hg5 := (hx5.old M.n (by omega)).trans hg4
  have hgr5 := ((h.ext hxx).ext hx4).ext hx5
  obtain ⟨ur, hu1, hu2⟩ := hgr5.rules.get hrr
  obtain ⟨ro6, s6, t6, hg6, hid6, hat6⟩ := hgr5.rules.row.read hu1
  have hc60 : cget t6 (soff vr + rn * 3) = some (.i .i64 (an : Int)) := hat6 0 _ rfl
  have hc61 : cget t6 (soff vr + rn * 3 + 1) = some ur := hat6 1 _ rfl
  simp (maxSteps := 4000000) (disch := first | omega | assumption | (simp only [bxS, bxV, stOk, Nat.reduceBEq, Nat.reduceEqDiff, Nat.reduceAdd]; done) | (simp only [bxU]; omega) | ((try apply has_setN); apply has_ofL; simp only [bxL]; omega)) only [↓bxD, bxP, bxQ, bxQ2, Nat.reduceBEq, reduceCtorEq, Nat.reduceAdd, Nat.reduceSub, Nat.reduceMul, Nat.reduceLeDiff, Nat.reduceLT, bxR, hG, hg5, hg6, hc60, hc61, hr1, hr2]
  refine Wp_dreg_of (by omega) ?_
  simp (maxSteps := 4000000) (disch := first | omega | assumption | (simp only [bxS, bxV, stOk, Nat.reduceBEq, Nat.reduceEqDiff, Nat.reduceAdd]; done) | (simp only [bxU]; omega) | ((try apply has_setN); apply has_ofL; simp only [bxL]; omega)) only [↓bxD, bxP, bxQ, bxQ2, Nat.reduceBEq, reduceCtorEq, Nat.reduceAdd, Nat.reduceSub, Nat.reduceMul, Nat.reduceLeDiff, Nat.reduceLT, bxR, hG, hg5, hg6, hc60, hc61, hr1, hr2]
  refine bindP_call (hp.fof hgr5 hu2 hwf.2.1 hwf.2.2.2 (by omega)) ?_
  rintro m M6 hm
  obtain ⟨hx6, x1v, x1, b1, rfl, hI1, hs1, hl1'⟩ := FofPost.is hm
  have hs1 : FirstOfIs g ar x1 b1 := by
    rcases hs1 with ⟨hc | hc, _⟩ | ⟨_, _, h⟩
    · exact absurd hz hc
    · exfalso
      have := List.all_eq_true.2 (hok.sym _ hmem)
      rw [hc] at this
      cases this
    · exact h
  have hn6 := hx6.n
  have hl6 := hx6.lo
  have hg5' := (hx6.old M.n (by omega)).trans hg5
  have hg6' := (hx6.old _ hid6).trans hg6
  simp (maxSteps := 4000000) (disch := first | omega | assumption | (simp only [bxS, bxV, stOk, Nat.reduceBEq, Nat.reduceEqDiff, Nat.reduceAdd]; done) | (simp only [bxU]; omega) | ((try apply has_setN); apply has_ofL; simp only [bxL]; omega)) only [↓bxD, bxP, bxQ, bxQ2, Nat.reduceBEq, reduceCtorEq, Nat.reduceAdd, Nat.reduceSub, Nat.reduceMul, Nat.reduceLeDiff, Nat.reduceLT, bxR, hG, hg5', hg6', hc60, hc61, hr1, hr2]
  show Wp fns K4_7 _ _ _
  unfold K4_7
  simp (maxSteps := 4000000) (disch := first | omega | assumption | (simp only [bxS, bxV, stOk, Nat.reduceBEq, Nat.reduceEqDiff, Nat.reduceAdd]; done) | (simp only [bxU]; omega) | ((try apply has_setN); apply has_ofL; simp only [bxL]; omega)) only [↓bxD, bxP, bxQ, bxQ2, Nat.reduceBEq, reduceCtorEq, Nat.reduceAdd, Nat.reduceSub, Nat.reduceMul, Nat.reduceLeDiff, Nat.reduceLT, bxR, hG, hg5', hg6', hc60, hc61, hr1, hr2]
  refine Wp_dreg_of (by omega) ?_
  have hfill : fillM [(0, 1, MV.i .i64 (an : Int))] [MV.i .i64 0] = some [MV.i .i64 (an : Int)] := fill_one rfl rfl
  have hpush : ∀ m o, pushV M6.lift m o = some (m, M6.lift.push o) := fun m o => push_ok (Nat.le_refl _)
  simp (maxSteps := 4000000) (disch := first | omega | assumption | (simp only [bxS, bxV, stOk, Nat.reduceBEq, Nat.reduceEqDiff, Nat.reduceAdd]; done) | (simp only [bxU]; omega) | ((try apply has_setN); apply has_ofL; simp only [bxL]; omega)) only [↓bxD, bxP, bxQ, bxQ2, Nat.reduceBEq, reduceCtorEq, Nat.reduceAdd, Nat.reduceSub, Nat.reduceMul, Nat.reduceLeDiff, Nat.reduceLT, bxR, hG, hg5', hg6', hc60, hc61, hr1, hr2, hfill, hpush]
  have hx67 : Ext M6 ((M6.lift.push (.cs false 1 (ofL [.i .i64 (an : Int)] 0))).down M6.lo) := ext_dl (.push M6.lift _)
  have hI7 : IntRow ((M6.lift.push (.cs false 1 (ofL [.i .i64 (an : Int)] 0))).down M6.lo) (.sl M6.n 0 1 0) [(an : Int)] := by
    have := row_one (M := M6.lift) (sz := 1) (e := [.i .i64 (an : Int)]) rfl
    exact this
  generalize hN7 : (M6.lift.push (.cs false 1 (ofL [.i .i64 (an : Int)] 0))).down M6.lo = N7 at *
  have hn7 := hx67.n
  have hl7 := hx67.lo
  have hgr7 := (hgr5.ext hx6).ext hx67
  refine bindP_call (hp.fof hgr7 hI7 (fun z hz => by rw [List.mem_singleton.1 hz]; exact ⟨by omega, by omega⟩) (by simp) (by omega)) ?_
  rintro m M8 hm
  obtain ⟨hx8, x2v, x2, b2, rfl, hI2, hs2, hl2'⟩ := FofPost.is hm
  have hone : [(an : Int)].all (symB g) = true := by
    simp only [List.all_cons, List.all_nil, Bool.and_true]
    unfold symB
    rw [if_neg (by omega)]
    exact decide_eq_true hleft.2
  have hs2 : FirstOfIs g [(an : Int)] x2 b2 := by
    rcases hs2 with ⟨hc | hc, _⟩ | ⟨_, _, h⟩
    · exact absurd hz hc
    · rw [hone] at hc; cases hc
    · exact h
  have hn8 := hx8.n
  have hl8 := hx8.lo
  have hx58 := (hx6.trans hx67).trans hx8
  have hg8 := ((hx67.trans hx8).old M.n (by omega)).trans hg5'
  have hg68 := ((hx67.trans hx8).old _ (by omega)).trans hg6'
  have hL8 := hL.ext (hx5.trans hx58)
  have hB8 := hB.ext hx58
  have hgr8 := hgr7.ext hx8
  have hI18 := hI1.ext (hx67.trans hx8)
  clear hN7
  obtain ⟨nn, hnn⟩ : ∃ n : Nat, g.names = n := ⟨g.names.toNat, by omega⟩
  obtain ⟨f1, f2⟩ := hL8.row.sl
  rw [hL8.len, List.length_map, hF.len, hnn, Int.toNat_natCast] at f2
  obtain ⟨n1, n2⟩ := hB8.sl
  rw [hN.1, hnn, Int.toNat_natCast] at n2
  have dn : decide (¬ True) = false := rfl
  rw [hnn] at hg8
  obtain ⟨i1, i2⟩ := hI18.sl
  obtain ⟨i3, i4⟩ := hI2.sl
  have han : an < F.length := by rw [hF.len]; omega
  obtain ⟨row, hrow⟩ : ∃ row, F[an]? = some row := ⟨_, List.getElem?_eq_getElem han⟩
  obtain ⟨wr, ro9, s9, t9, hg9, hid9, hC9, hI9⟩ := hL8.read (i := an) (l := listP row) (by rw [List.getElem?_map, hrow]; rfl)
  have hann : an < nn := by omega
  simp (maxSteps := 4000000) (disch := first | omega | assumption | (simp only [bxS, bxV, stOk, Nat.reduceBEq, Nat.reduceEqDiff, Nat.reduceAdd]; done) | (simp only [bxU]; omega) | ((try apply has_setN); apply has_ofL; simp only [bxL]; omega)) only [↓bxD, bxP, bxQ, bxQ2, Nat.reduceBEq, reduceCtorEq, Nat.reduceAdd, Nat.reduceSub, Nat.reduceMul, Nat.reduceLeDiff, Nat.reduceLT, bxR, hG, hg8, hg68, hc60, hc61, hr1, hr2, f1, f2, n1, n2, dn, decide_false, not_true_eq_false, ne_eq]
  show Wp fns K4_6 _ _ _
  unfold K4_6
  simp (maxSteps := 4000000) (disch := first | omega | assumption | (simp only [bxS, bxV, stOk, Nat.reduceBEq, Nat.reduceEqDiff, Nat.reduceAdd]; done) | (simp only [bxU]; omega) | ((try apply has_setN); apply has_ofL; simp only [bxL]; omega)) only [↓bxD, bxP, bxQ, bxQ2, Nat.reduceBEq, reduceCtorEq, Nat.reduceAdd, Nat.reduceSub, Nat.reduceMul, Nat.reduceLeDiff, Nat.reduceLT, bxR, hG, hg8, hg68, hc60, hc61, hr1, hr2, f1, f2, n1, n2, dn, decide_false, not_true_eq_false, ne_eq]
  show Wp fns K4_5 _ _ _
  unfold K4_5
  simp (maxSteps := 4000000) (disch := first | omega | assumption | (simp only [bxS, bxV, stOk, Nat.reduceBEq, Nat.reduceEqDiff, Nat.reduceAdd]; done) | (simp only [bxU]; omega) | ((try apply has_setN); apply has_ofL; simp only [bxL]; omega)) only [↓bxD, bxP, bxQ, bxQ2, Nat.reduceBEq, reduceCtorEq, Nat.reduceAdd, Nat.reduceSub, Nat.reduceMul, Nat.reduceLeDiff, Nat.reduceLT, bxR, hG, hg8, hg68, hc60, hc61, hr1, hr2, f1, f2, n1, n2, dn, decide_false, not_true_eq_false, ne_eq]
  have hsub := begin_sub hok hmem hs1 hF (row := row) (by simpa using hrow)
  refine Wp_inv (σ := Nat) (fun i f M9 => M9 = M8 ∧ i ≤ x1.length ∧ X.ev f (.t q1) = .i .i64 (rn : Int) ∧ X.ev f (.t q2) = .p M.n 0 ∧ X.ev f (.t q8) = vF ∧ X.ev f (.t q9) = vn ∧ X.ev f (.t q10) = x1v ∧ X.ev f (.t q11) = .b b1 ∧ X.ev f (.t q12) = x2v ∧ X.ev f (.t q13) = .b b2 ∧ X.ev f (.t q14) = .i .i64 (i : Int)) (fun i => x1.length - i) ?_ 0 ?_
  · rintro i f M9 ⟨rfl, hi, p1, p2, p8, p9, p10, p11, p12, p13, p14⟩
    simp only [q1, q2, q8, q9, q10, q11, q12, q13, q14] at p1 p2 p8 p9 p10 p11 p12 p13 p14
    unfold L4_3
    by_cases hi' : i < x1.length
    · have di : decide ((i : Int) < (x1.length : Int)) = true := decide_eq_true (by omega)
      obtain ⟨z, hz1⟩ : ∃ z, x1[i]? = some z := ⟨_, List.getElem?_eq_getElem hi'⟩
      obtain ⟨roz, sz, tz, hgz, hidz, hCz⟩ := hI18.read hz1
      simp (maxSteps := 4000000) (disch := first | omega | assumption | (simp only [bxS, bxV, stOk, Nat.reduceBEq, Nat.reduceEqDiff, Nat.reduceAdd]; done) | (simp only [bxU]; omega) | ((try apply has_setN); apply has_ofL; simp only [bxL]; omega)) only [↓bxD, bxP, bxQ, bxQ2, Nat.reduceBEq, reduceCtorEq, Nat.reduceAdd, Nat.reduceSub, Nat.reduceMul, Nat.reduceLeDiff, Nat.reduceLT, bxR, p1, p2, p8, p9, p10, p11, p12, p13, p14, hg8, hg68, hc60, hc61, hr1, hr2, f1, f2, i1, i2, di, hgz, hCz, hg9, hC9]
      show Wp fns K4_2 _ _ _
      unfold K4_2
      simp (maxSteps := 4000000) (disch := first | omega | assumption | (simp only [bxS, bxV, stOk, Nat.reduceBEq, Nat.reduceEqDiff, Nat.reduceAdd]; done) | (simp only [bxU]; omega) | ((try apply has_setN); apply has_ofL; simp only [bxL]; omega)) only [↓bxD, bxP, bxQ, bxQ2, Nat.reduceBEq, reduceCtorEq, Nat.reduceAdd, Nat.reduceSub, Nat.reduceMul, Nat.reduceLeDiff, Nat.reduceLT, bxR, p1, p2, p8, p9, p10, p11, p12, p13, p14, hg8, hg68, hc60, hc61, hr1, hr2, f1, f2, i1, i2, di, hgz, hCz, hg9, hC9]
      refine Wp_dreg_of (by omega) ?_
      simp (maxSteps := 4000000) (disch := first | omega | assumption | (simp only [bxS, bxV, stOk, Nat.reduceBEq, Nat.reduceEqDiff, Nat.reduceAdd]; done) | (simp only [bxU]; omega) | ((try apply has_setN); apply has_ofL; simp only [bxL]; omega)) only [↓bxD, bxP, bxQ, bxQ2, Nat.reduceBEq, reduceCtorEq, Nat.reduceAdd, Nat.reduceSub, Nat.reduceMul, Nat.reduceLeDiff, Nat.reduceLT, bxR, p1, p2, p8, p9, p10, p11, p12, p13, p14, hg8, hg68, hc60, hc61, hr1, hr2, f1, f2, i1, i2, di, hgz, hCz, hg9, hC9]
      have hrl := hF.rows row (List.mem_of_getElem? hrow)
      have hlp := listP_len row
      have hkk := hok.k2
      refine bindP_call (has_true hI9 (hsub z (List.mem_of_getElem? hz1)) (by omega) (by omega)) ?_
      rintro m M10 ⟨rfl, rfl⟩
      simp (maxSteps := 4000000) (disch := first | omega | assumption | (simp only [bxS, bxV, stOk, Nat.reduceBEq, Nat.reduceEqDiff, Nat.reduceAdd]; done) | (simp only [bxU]; omega) | ((try apply has_setN); apply has_ofL; simp only [bxL]; omega)) only [↓bxD, bxP, bxQ, bxQ2, Nat.reduceBEq, reduceCtorEq, Nat.reduceAdd, Nat.reduceSub, Nat.reduceMul, Nat.reduceLeDiff, Nat.reduceLT, bxR, p1, p2, p8, p9, p10, p11, p12, p13, p14]
      show Wp fns K4_0 _ _ _
      unfold K4_0
      simp (maxSteps := 4000000) (disch := first | omega | assumption | (simp only [bxS, bxV, stOk, Nat.reduceBEq, Nat.reduceEqDiff, Nat.reduceAdd]; done) | (simp only [bxU]; omega) | ((try apply has_setN); apply has_ofL; simp only [bxL]; omega)) only [↓bxD, bxP, bxQ, bxQ2, Nat.reduceBEq, reduceCtorEq, Nat.reduceAdd, Nat.reduceSub, Nat.reduceMul, Nat.reduceLeDiff, Nat.reduceLT, bxR, p1, p2, p8, p9, p10, p11, p12, p13, p14]
      show Wp fns K4_1 _ _ _
      unfold K4_1
      simp (maxSteps := 4000000) (disch := first | omega | assumption | (simp only [bxS, bxV, stOk, Nat.reduceBEq, Nat.reduceEqDiff, Nat.reduceAdd]; done) | (simp only [bxU]; omega) | ((try apply has_setN); apply has_ofL; simp only [bxL]; omega)) only [↓bxD, bxP, bxQ, bxQ2, Nat.reduceBEq, reduceCtorEq, Nat.reduceAdd, Nat.reduceSub, Nat.reduceMul, Nat.reduceLeDiff, Nat.reduceLT, bxR, p1, p2, p8, p9, p10, p11, p12, p13, p14]
      exact ⟨i + 1, by omega, by omega, rfl⟩
    · have di : decide ((i : Int) < (x1.length : Int)) = false := decide_eq_false (by omega)
      simp (maxSteps := 4000000) (disch := first | omega | assumption | (simp only [bxS, bxV, stOk, Nat.reduceBEq, Nat.reduceEqDiff, Nat.reduceAdd]; done) | (simp only [bxU]; omega) | ((try apply has_setN); apply has_ofL; simp only [bxL]; omega)) only [↓bxD, bxP, bxQ, bxQ2, Nat.reduceBEq, reduceCtorEq, Nat.reduceAdd, Nat.reduceSub, Nat.reduceMul, Nat.reduceLeDiff, Nat.reduceLT, bxR, p1, p2, p8, p9, p10, p11, p12, p13, p14, hg8, hg68, hc60, hc61, hr1, hr2, f1, f2, i1, i2, di, hg9, hC9]
      show Wp fns K4_4 _ _ _
      unfold K4_4
      simp (maxSteps := 4000000) (disch := first | omega | assumption | (simp only [bxS, bxV, stOk, Nat.reduceBEq, Nat.reduceEqDiff, Nat.reduceAdd]; done) | (simp only [bxU]; omega) | ((try apply has_setN); apply has_ofL; simp only [bxL]; omega)) only [↓bxD, bxP, bxQ, bxQ2, Nat.reduceBEq, reduceCtorEq, Nat.reduceAdd, Nat.reduceSub, Nat.reduceMul, Nat.reduceLeDiff, Nat.reduceLT, bxR, p1, p2, p8, p9, p10, p11, p12, p13, p14, hg8, hg68, hc60, hc61, hr1, hr2, f1, f2, i1, i2, di, hg9, hC9]
      obtain ⟨e1, e2⟩ := begin_one hok hs2 hF hrow hN
      subst e1
      refine bindP_call (same_ints hI2 hI9 hl2' (by omega)) ?_
      rintro m M10 ⟨rfl, rfl⟩
      obtain ⟨ron, sn', tn, hgn, hidn, hCn⟩ := hB8.read (i := an) (by rw [hN.1]; omega)
      have dbb : (bAt null an == bAt null an) = true := beq_self_eq_true _
      rw [e2] at p13
      cases hb : b1 with
      | false =>
        rw [hb] at p11
        simp (maxSteps := 4000000) (disch := first | omega | assumption | (simp only [bxS, bxV, stOk, Nat.reduceBEq, Nat.reduceEqDiff, Nat.reduceAdd]; done) | (simp only [bxU]; omega) | ((try apply has_setN); apply has_ofL; simp only [bxL]; omega)) only [↓bxD, bxP, bxQ, bxQ2, Nat.reduceBEq, reduceCtorEq, Nat.reduceAdd, Nat.reduceSub, Nat.reduceMul, Nat.reduceLeDiff, Nat.reduceLT, bxR, p1, p2, p8, p9, p10, p11, p12, p13, p14, hg8, hg68, hc60, hc61, hr1, hr2, n1, n2, hgn, hCn, dbb]
      | true =>
        rw [hb] at p11
        have hnul : bAt null an = true := by
          have := null_rule hmem hs1 hb
          rw [nulVec_bAt hN]
          simpa using this
        rw [hnul] at p13 hCn
        simp (maxSteps := 4000000) (disch := first | omega | assumption | (simp only [bxS, bxV, stOk, Nat.reduceBEq, Nat.reduceEqDiff, Nat.reduceAdd]; done) | (simp only [bxU]; omega) | ((try apply has_setN); apply has_ofL; simp only [bxL]; omega)) only [↓bxD, bxP, bxQ, bxQ2, Nat.reduceBEq, reduceCtorEq, Nat.reduceAdd, Nat.reduceSub, Nat.reduceMul, Nat.reduceLeDiff, Nat.reduceLT, bxR, p1, p2, p8, p9, p10, p11, p12, p13, p14, hg8, hg68, hc60, hc61, hr1, hr2, n1, n2, hgn, hCn]
  · refine ⟨rfl, Nat.zero_le _, ?_, ?_, ?_, ?_, ?_, ?_, ?_, ?_, ?_⟩
    · simp only [bxP, bxQ, bxQ2, reduceCtorEq, hG, hg8, hg68, hc60, hc61, hr1, hr2, f1, f2, n1, n2, dn, decide_false, not_true_eq_false, ne_eq]
    · simp only [bxP, bxQ, bxQ2, reduceCtorEq, hG, hg8, hg68, hc60, hc61, hr1, hr2, f1, f2, n1, n2, dn, decide_false, not_true_eq_false, ne_eq]
    · simp only [bxP, bxQ, bxQ2, reduceCtorEq, hG, hg8, hg68, hc60, hc61, hr1, hr2, f1, f2, n1, n2, dn, decide_false, not_true_eq_false, ne_eq]
    · simp only [bxP, bxQ, bxQ2, reduceCtorEq, hG, hg8, hg68, hc60, hc61, hr1, hr2, f1, f2, n1, n2, dn, decide_false, not_true_eq_false, ne_eq]
    · simp only [bxP, bxQ, bxQ2, reduceCtorEq, hG, hg8, hg68, hc60, hc61, hr1, hr2, f1, f2, n1, n2, dn, decide_false, not_true_eq_false, ne_eq]
    · simp only [bxP, bxQ, bxQ2, reduceCtorEq, hG, hg8, hg68, hc60, hc61, hr1, hr2, f1, f2, n1, n2, dn, decide_false, not_true_eq_false, ne_eq]
    · simp only [bxP, bxQ, bxQ2, reduceCtorEq, hG, hg8, hg68, hc60, hc61, hr1, hr2, f1, f2, n1, n2, dn, decide_false, not_true_eq_false, ne_eq]
    · simp only [bxP, bxQ, bxQ2, reduceCtorEq, hG, hg8, hg68, hc60, hc61, hr1, hr2, f1, f2, n1, n2, dn, decide_false, not_true_eq_false, ne_eq]
    · simp only [bxP, bxQ, bxQ2, reduceCtorEq, hG, hg8, hg68, hc60, hc61, hr1, hr2, f1, f2, n1, n2, dn, decide_false, not_true_eq_false, ne_eq] <;> rfl
end Go.Proofs.YtdggbpfpjkokpaaDoor.K
set_option linter.unusedSimpArgs false
set_option linter.unusedVariables false
namespace Go.Proofs.YtdggbpfpjkokpaaDoor.K
open Go Ev
set_option maxRecDepth 100000
set_option maxHeartbeats 4000000

theorem int_of {M : MH} {m : MV} (h : ArgTyped Tryd.prog M 3 m) : ∃ z, m = .i .i64 z ∧ Wf64 z := by
  obtain ⟨n, cs, h1, h2⟩ := h
  simp only [Tryd.underlying3] at h2
  subst h2
  obtain ⟨z, e, hz⟩ := typed_int Tryd.underlying3 h1
  injection e with e _
  exact ⟨z, e, hz⟩
theorem begin_model (M : MH) (ms : List MV) (hx : Ext (Mtab tabZ) M) (hlo : M.lo ≤ M.n) (ha : ArgsTyped Tryd.prog M [26, 3] ms) : Cp fns 4 ms M fun m _ => m = .b true := by
  obtain ⟨m, r, rfl, h, m2, r2, rfl, h2, rfl⟩ := ha
  obtain ⟨g, vr, vf, vc, vk, es, rfl, hg⟩ := gram_of hx h
  obtain ⟨z, rfl, hz⟩ := int_of h2
  exact law_begin hg hz hlo (fun M' h => al_any hx h) prog_sets
end Go.Proofs.YtdggbpfpjkokpaaDoor.K
