/-
  RStar, RPlus and ROpt of a kid; a pattern. Conditions: none.
-/
import Derived.Test.YtaagkdljkpbilaaP7
import Derived.Test.YtaagkdljkpbilaaLitK
import Derived.Test.YtaagkdljkpbilaaSw
import Derived.Test.YtaagkdljkpbilaaBx
set_option linter.unusedSimpArgs false
set_option linter.unusedVariables false
namespace Go.Proofs.Ytaagkdljkpbilaa.K
open Go Ev
set_option maxRecDepth 100000
set_option maxHeartbeats 4000000

theorem rep_any {Mb M : MH} {bx mid : Nat} {mv pv : MV} {ms : List Mk} {st : Bs} {y : Rx} {op : Int} {id off : Nat} (hlo : Mb.lo ≤ Mb.n) (hP : PartOk Mb bx mid mv pv ms y) (h : Bd Mb M bx mid mv pv ms st) (hy : NodeAt Mb y id off) (hr : Reg ms y id off) (hb : st.sets.length + cnt y ≤ 150) :
    Cp fns 48 [.p bx 0, .i .i64 op, .p id off] M fun m M' => m = .ag (repP op (partM y st)).1.cells ∧ Bd Mb M' bx mid mv pv ms (repP op (partM y st)).2 ∧ Fr7 M M' := by
  have en := h.ext.n
  have el := h.ext.lo
  refine Cp_call (fn := F48) (by kernel_rfl) (Nat.le_of_ble_eq_true rfl) ?_
  show Wp fns B48 (T.set q2 (some (.p id off)) (T.set q1 (some (.i .i64 op)) (T.set q0 (some (.p bx 0)) T.lf))) M _
  unfold B48
  simp (maxSteps := 4000000) (disch := first | omega | assumption | (simp only [bxS, stOk, Nat.reduceBEq, Nat.reduceEqDiff, Nat.reduceAdd]; done) | (simp only [push_lo, push_n, set_lo, set_n]; omega) | (simp only [push_n, set_n, beq_self_eq_true]; done) | (apply has_ofL; simp only [List.length_cons, List.length_nil]; omega) | (apply has_setN; apply has_ofL; simp only [List.length_cons, List.length_nil]; omega)) only [↓bxD, bxP, bxQ, Nat.reduceBEq, reduceCtorEq, Nat.reduceAdd, Nat.reduceSub, Nat.reduceMul, Nat.reduceLeDiff, Nat.reduceLT, R10, R13, R22, R23, R24, R25, R4, R40, R41, R42, R43, R44, R45, R46, R47, R48, R5, R61, R62, R63, R64, R65, R9, push_at]
  generalize hM1 : M.push _ = M1
  have g0 : M1.get M.n = some (.cs false 7 (ofL z7 0)) := by rw [← hM1]; exact push_new _
  have hx : Ext M M1 := by rw [← hM1]; exact .push M _
  have hn : M1.n = M.n + 1 := by rw [← hM1]; rfl
  have hl := hx.lo
  clear hM1
  refine bindP_call (hP M1 st id off (h.more hx) hy hr hb) ?_
  rintro m M2 ⟨rfl, hB2, hF2⟩
  have n2 := hF2.n
  have l2 := hF2.lo
  have g2 := hF2.old _ _ (by omega) g0
  have hsl := partM_len y st
  have hlen2 := hB2.len
  generalize partM y st = qb at hB2 hsl hlen2
  obtain ⟨q, b2⟩ := qb
  simp only at hB2 hsl hlen2
  have hc7 : ∀ p : Pm, MV.cells (.ag p.cells) = p.cells := fun _ => rfl
  have hst7 : ∀ p : Pm, stOk 7 (.ag p.cells) = true := fun _ => rfl
  have hs7 := hst7 q
  have hgp : ∀ (p : Pm) l, Ev.getN (setN p.cells 0 (ofL l 0)) 7 0 = some p.cells := fun p l => getN_setN' rfl
  simp (maxSteps := 4000000) (disch := first | omega | assumption | (simp only [bxS, stOk, Nat.reduceBEq, Nat.reduceEqDiff, Nat.reduceAdd]; done) | (simp only [push_lo, push_n, set_lo, set_n]; omega) | (simp only [push_n, set_n, beq_self_eq_true]; done) | (apply has_ofL; simp only [List.length_cons, List.length_nil]; omega) | (apply has_setN; apply has_ofL; simp only [List.length_cons, List.length_nil]; omega)) only [↓bxD, bxP, bxQ, Nat.reduceBEq, reduceCtorEq, Nat.reduceAdd, Nat.reduceSub, Nat.reduceMul, Nat.reduceLeDiff, Nat.reduceLT, R10, R13, R22, R23, R24, R25, R4, R40, R41, R42, R43, R44, R45, R46, R47, R48, R5, R61, R62, R63, R64, R65, R9, push_at, hc7]
  generalize hM3 : MH.set _ _ _ = M3
  have x3 : Ext M2 M3 := by rw [← hM3]; exact (Ext.push M2 _).set _ (Nat.le_refl _)
  have n3 : M3.n = M2.n + 1 := by rw [← hM3]; rfl
  have e7 : M3.get M2.n = some (.cs false 7 (setN q.cells 0 (ofL z7 0))) := by rw [← hM3]; exact set_same _ _
  have l3 := x3.lo
  clear hM3
  have a7 : At (setN q.cells 0 (ofL z7 0)) 0 q.cells := at_setN _ _ _
  generalize hc0 : setN q.cells 0 (ofL z7 0) = c7 at a7 e7
  clear hc0
  obtain ⟨w1, w2, w3, w4⟩ := pm_get a7
  obtain ⟨t1, t2, t3, t4⟩ := pm_has a7
  have g3 := (x3.old M.n (by omega)).trans g2
  have hB3 := hB2.more x3
  have hF3 : Fr7 M M3 := ((Fr7.of hx).trans hF2).trans (.of x3)
  have lB := hB3.ext.lo
  -- behind the link
  have tail : ∀ (f2 : Fr) (M4 : MH) (b4 : Bs), X.ev f2 (.t q1) = .i .i64 op → f2.get q6 = some (.p M.n 0) → X.ev f2 (.t q7) = .p M2.n 0 → Bd Mb M4 bx mid mv pv ms b4 → Fr7 M M4 → M4.get M.n = some (.cs false 7 (ofL z7 0)) → M4.get M2.n = some (.cs false 7 c7) → M3.n ≤ M4.n →
      Wp fns K48_1 f2 M4 (retQ F48 fun m M' => m = .ag (Pm.cells ⟨if op = 5 then q.null else true, q.fi, q.la⟩) ∧ Bd Mb M' bx mid mv pv ms b4 ∧ Fr7 M M') := by
    intro f2 M4 b4 k1 k6 k7 hB4 hF4 e0 e4 n4
    have k6' := ev_get k6
    have l4 := hF4.lo
    have lB4 := hB4.ext.lo
    have hz7 : hasB (ofL z7 0) 7 0 = true := has_ofL z7 7 0 (by decide)
    have hne : M2.n ≠ M.n := by omega
    have hne' : M.n ≠ M2.n := by omega
    simp only [q1, q6, q7] at k1 k6 k6' k7
    have hs7b := hst7 ⟨true, q.fi, q.la⟩
    have a8 : At (setN [.b true] 0 c7) 0 (Pm.cells ⟨true, q.fi, q.la⟩) := pm_null true a7
    obtain ⟨_, _, _, r4⟩ := pm_get a8
    unfold K48_1
    simp (maxSteps := 4000000) (disch := first | omega | assumption | (simp only [bxS, stOk, Nat.reduceBEq, Nat.reduceEqDiff, Nat.reduceAdd]; done) | (simp only [push_lo, push_n, set_lo, set_n]; omega) | (simp only [push_n, set_n, beq_self_eq_true]; done) | (apply has_ofL; simp only [List.length_cons, List.length_nil]; omega) | (apply has_setN; apply has_ofL; simp only [List.length_cons, List.length_nil]; omega)) only [↓bxD, bxP, bxQ, Nat.reduceBEq, reduceCtorEq, Nat.reduceAdd, Nat.reduceSub, Nat.reduceMul, Nat.reduceLeDiff, Nat.reduceLT, R10, R13, R22, R23, R24, R25, R4, R40, R41, R42, R43, R44, R45, R46, R47, R48, R5, R61, R62, R63, R64, R65, R9, k1, k6, k6', k7, e4, e0, cells_b, res_cN, cNV_p, cNo_cs, get_set, hc7, hgp, map_ag]
    refine condP_split (fun h5 => ?_) (fun h5 => ?_)
    · simp (maxSteps := 4000000) (disch := first | omega | assumption | (simp only [bxS, stOk, Nat.reduceBEq, Nat.reduceEqDiff, Nat.reduceAdd]; done) | (simp only [push_lo, push_n, set_lo, set_n]; omega) | (simp only [push_n, set_n, beq_self_eq_true]; done) | (apply has_ofL; simp only [List.length_cons, List.length_nil]; omega) | (apply has_setN; apply has_ofL; simp only [List.length_cons, List.length_nil]; omega)) only [↓bxD, bxP, bxQ, Nat.reduceBEq, reduceCtorEq, Nat.reduceAdd, Nat.reduceSub, Nat.reduceMul, Nat.reduceLeDiff, Nat.reduceLT, R10, R13, R22, R23, R24, R25, R4, R40, R41, R42, R43, R44, R45, R46, R47, R48, R5, R61, R62, R63, R64, R65, R9, k1, k6, k6', k7, e4, e0, cells_b, res_cN, cNV_p, cNo_cs, get_set, hc7, hgp, map_ag]
      show Wp fns K48_0 _ _ _
      unfold K48_0
      simp (maxSteps := 4000000) (disch := first | omega | assumption | (simp only [bxS, stOk, Nat.reduceBEq, Nat.reduceEqDiff, Nat.reduceAdd]; done) | (simp only [push_lo, push_n, set_lo, set_n]; omega) | (simp only [push_n, set_n, beq_self_eq_true]; done) | (apply has_ofL; simp only [List.length_cons, List.length_nil]; omega) | (apply has_setN; apply has_ofL; simp only [List.length_cons, List.length_nil]; omega)) only [↓bxD, bxP, bxQ, Nat.reduceBEq, reduceCtorEq, Nat.reduceAdd, Nat.reduceSub, Nat.reduceMul, Nat.reduceLeDiff, Nat.reduceLT, R10, R13, R22, R23, R24, R25, R4, R40, R41, R42, R43, R44, R45, R46, R47, R48, R5, R61, R62, R63, R64, R65, R9, k1, k6, k6', k7, e4, e0, cells_b, res_cN, cNV_p, cNo_cs, get_set, hc7, hgp, map_ag, r4]
      rw [if_neg h5]
      refine ⟨rfl, ?_, ?_⟩
      · exact (hB4.keep7 e4 (by omega) ((Chg.refl (fun j => j = M2.n) M4).set _ (.inl rfl))).keep7 (L := M.n) (by rw [set_ne hne']; exact e0) (by omega) ((Chg.refl (fun j => j = M.n) _).set _ (.inl rfl))
      · exact (hF4.chg (by omega) ((Chg.refl (fun j => j = M2.n) M4).set _ (.inl rfl))).chg (Nat.le_refl _) ((Chg.refl (fun j => j = M.n) _).set _ (.inl rfl))
    · have h5 : op = 5 := Decidable.not_not.1 h5
      simp (maxSteps := 4000000) (disch := first | omega | assumption | (simp only [bxS, stOk, Nat.reduceBEq, Nat.reduceEqDiff, Nat.reduceAdd]; done) | (simp only [push_lo, push_n, set_lo, set_n]; omega) | (simp only [push_n, set_n, beq_self_eq_true]; done) | (apply has_ofL; simp only [List.length_cons, List.length_nil]; omega) | (apply has_setN; apply has_ofL; simp only [List.length_cons, List.length_nil]; omega)) only [↓bxD, bxP, bxQ, Nat.reduceBEq, reduceCtorEq, Nat.reduceAdd, Nat.reduceSub, Nat.reduceMul, Nat.reduceLeDiff, Nat.reduceLT, R10, R13, R22, R23, R24, R25, R4, R40, R41, R42, R43, R44, R45, R46, R47, R48, R5, R61, R62, R63, R64, R65, R9, k1, k6, k6', k7, e4, e0, cells_b, res_cN, cNV_p, cNo_cs, get_set, hc7, hgp, map_ag]
      show Wp fns K48_0 _ _ _
      unfold K48_0
      simp (maxSteps := 4000000) (disch := first | omega | assumption | (simp only [bxS, stOk, Nat.reduceBEq, Nat.reduceEqDiff, Nat.reduceAdd]; done) | (simp only [push_lo, push_n, set_lo, set_n]; omega) | (simp only [push_n, set_n, beq_self_eq_true]; done) | (apply has_ofL; simp only [List.length_cons, List.length_nil]; omega) | (apply has_setN; apply has_ofL; simp only [List.length_cons, List.length_nil]; omega)) only [↓bxD, bxP, bxQ, Nat.reduceBEq, reduceCtorEq, Nat.reduceAdd, Nat.reduceSub, Nat.reduceMul, Nat.reduceLeDiff, Nat.reduceLT, R10, R13, R22, R23, R24, R25, R4, R40, R41, R42, R43, R44, R45, R46, R47, R48, R5, R61, R62, R63, R64, R65, R9, k1, k6, k6', k7, e4, e0, cells_b, res_cN, cNV_p, cNo_cs, get_set, hc7, hgp, map_ag, w4]
      rw [if_pos h5]
      refine ⟨rfl, ?_, ?_⟩
      · exact hB4.keep7 e0 (by omega) ((Chg.refl (fun j => j = M.n) M4).set _ (.inl rfl))
      · exact hF4.chg (Nat.le_refl _) ((Chg.refl (fun j => j = M.n) M4).set _ (.inl rfl))
  refine condP_split (fun h6 => ?_) (fun h6 => ?_)
  · simp (maxSteps := 4000000) (disch := first | omega | assumption | (simp only [bxS, stOk, Nat.reduceBEq, Nat.reduceEqDiff, Nat.reduceAdd]; done) | (simp only [push_lo, push_n, set_lo, set_n]; omega) | (simp only [push_n, set_n, beq_self_eq_true]; done) | (apply has_ofL; simp only [List.length_cons, List.length_nil]; omega) | (apply has_setN; apply has_ofL; simp only [List.length_cons, List.length_nil]; omega)) only [↓bxD, bxP, bxQ, Nat.reduceBEq, reduceCtorEq, Nat.reduceAdd, Nat.reduceSub, Nat.reduceMul, Nat.reduceLeDiff, Nat.reduceLT, R10, R13, R22, R23, R24, R25, R4, R40, R41, R42, R43, R44, R45, R46, R47, R48, R5, R61, R62, R63, R64, R65, R9, push_at, e7, w3, w2, map_ag]
    refine bindP_call (link_any hB3 hlo (by omega)) ?_
    rintro m M4 ⟨hB4, hF4⟩
    simp (maxSteps := 4000000) (disch := first | omega | assumption | (simp only [bxS, stOk, Nat.reduceBEq, Nat.reduceEqDiff, Nat.reduceAdd]; done) | (simp only [push_lo, push_n, set_lo, set_n]; omega) | (simp only [push_n, set_n, beq_self_eq_true]; done) | (apply has_ofL; simp only [List.length_cons, List.length_nil]; omega) | (apply has_setN; apply has_ofL; simp only [List.length_cons, List.length_nil]; omega)) only [↓bxD, bxP, bxQ, Nat.reduceBEq, reduceCtorEq, Nat.reduceAdd, Nat.reduceSub, Nat.reduceMul, Nat.reduceLeDiff, Nat.reduceLT, R10, R13, R22, R23, R24, R25, R4, R40, R41, R42, R43, R44, R45, R46, R47, R48, R5, R61, R62, R63, R64, R65, R9, push_at]
    show Wp fns K48_1 _ _ _
    unfold repP
    rw [if_neg h6]
    refine tail _ M4 (linkB b2 q.la q.fi) ?_ ?_ ?_ hB4 (hF3.trans hF4) (hF4.old _ _ (by omega) g3) (hF4.old _ _ (by omega) e7) hF4.n
    · simp (maxSteps := 4000000) (disch := first | omega | assumption | (simp only [bxS, stOk, Nat.reduceBEq, Nat.reduceEqDiff, Nat.reduceAdd]; done) | (simp only [push_lo, push_n, set_lo, set_n]; omega) | (simp only [push_n, set_n, beq_self_eq_true]; done) | (apply has_ofL; simp only [List.length_cons, List.length_nil]; omega) | (apply has_setN; apply has_ofL; simp only [List.length_cons, List.length_nil]; omega)) only [↓bxD, bxP, bxQ, Nat.reduceBEq, reduceCtorEq, Nat.reduceAdd, Nat.reduceSub, Nat.reduceMul, Nat.reduceLeDiff, Nat.reduceLT, R10, R13, R22, R23, R24, R25, R4, R40, R41, R42, R43, R44, R45, R46, R47, R48, R5, R61, R62, R63, R64, R65, R9, push_at]
    · simp (maxSteps := 4000000) (disch := first | omega | assumption | (simp only [bxS, stOk, Nat.reduceBEq, Nat.reduceEqDiff, Nat.reduceAdd]; done) | (simp only [push_lo, push_n, set_lo, set_n]; omega) | (simp only [push_n, set_n, beq_self_eq_true]; done) | (apply has_ofL; simp only [List.length_cons, List.length_nil]; omega) | (apply has_setN; apply has_ofL; simp only [List.length_cons, List.length_nil]; omega)) only [↓bxD, bxP, bxQ, Nat.reduceBEq, reduceCtorEq, Nat.reduceAdd, Nat.reduceSub, Nat.reduceMul, Nat.reduceLeDiff, Nat.reduceLT, R10, R13, R22, R23, R24, R25, R4, R40, R41, R42, R43, R44, R45, R46, R47, R48, R5, R61, R62, R63, R64, R65, R9, push_at, get_set]
    · simp (maxSteps := 4000000) (disch := first | omega | assumption | (simp only [bxS, stOk, Nat.reduceBEq, Nat.reduceEqDiff, Nat.reduceAdd]; done) | (simp only [push_lo, push_n, set_lo, set_n]; omega) | (simp only [push_n, set_n, beq_self_eq_true]; done) | (apply has_ofL; simp only [List.length_cons, List.length_nil]; omega) | (apply has_setN; apply has_ofL; simp only [List.length_cons, List.length_nil]; omega)) only [↓bxD, bxP, bxQ, Nat.reduceBEq, reduceCtorEq, Nat.reduceAdd, Nat.reduceSub, Nat.reduceMul, Nat.reduceLeDiff, Nat.reduceLT, R10, R13, R22, R23, R24, R25, R4, R40, R41, R42, R43, R44, R45, R46, R47, R48, R5, R61, R62, R63, R64, R65, R9, push_at]
  · have h6 : op = 6 := Decidable.not_not.1 h6
    simp (maxSteps := 4000000) (disch := first | omega | assumption | (simp only [bxS, stOk, Nat.reduceBEq, Nat.reduceEqDiff, Nat.reduceAdd]; done) | (simp only [push_lo, push_n, set_lo, set_n]; omega) | (simp only [push_n, set_n, beq_self_eq_true]; done) | (apply has_ofL; simp only [List.length_cons, List.length_nil]; omega) | (apply has_setN; apply has_ofL; simp only [List.length_cons, List.length_nil]; omega)) only [↓bxD, bxP, bxQ, Nat.reduceBEq, reduceCtorEq, Nat.reduceAdd, Nat.reduceSub, Nat.reduceMul, Nat.reduceLeDiff, Nat.reduceLT, R10, R13, R22, R23, R24, R25, R4, R40, R41, R42, R43, R44, R45, R46, R47, R48, R5, R61, R62, R63, R64, R65, R9, push_at]
    show Wp fns K48_1 _ _ _
    unfold repP
    rw [if_pos h6]
    refine tail _ M3 b2 ?_ ?_ ?_ hB3 hF3 g3 e7 (Nat.le_refl _)
    · simp (maxSteps := 4000000) (disch := first | omega | assumption | (simp only [bxS, stOk, Nat.reduceBEq, Nat.reduceEqDiff, Nat.reduceAdd]; done) | (simp only [push_lo, push_n, set_lo, set_n]; omega) | (simp only [push_n, set_n, beq_self_eq_true]; done) | (apply has_ofL; simp only [List.length_cons, List.length_nil]; omega) | (apply has_setN; apply has_ofL; simp only [List.length_cons, List.length_nil]; omega)) only [↓bxD, bxP, bxQ, Nat.reduceBEq, reduceCtorEq, Nat.reduceAdd, Nat.reduceSub, Nat.reduceMul, Nat.reduceLeDiff, Nat.reduceLT, R10, R13, R22, R23, R24, R25, R4, R40, R41, R42, R43, R44, R45, R46, R47, R48, R5, R61, R62, R63, R64, R65, R9, push_at]
    · simp (maxSteps := 4000000) (disch := first | omega | assumption | (simp only [bxS, stOk, Nat.reduceBEq, Nat.reduceEqDiff, Nat.reduceAdd]; done) | (simp only [push_lo, push_n, set_lo, set_n]; omega) | (simp only [push_n, set_n, beq_self_eq_true]; done) | (apply has_ofL; simp only [List.length_cons, List.length_nil]; omega) | (apply has_setN; apply has_ofL; simp only [List.length_cons, List.length_nil]; omega)) only [↓bxD, bxP, bxQ, Nat.reduceBEq, reduceCtorEq, Nat.reduceAdd, Nat.reduceSub, Nat.reduceMul, Nat.reduceLeDiff, Nat.reduceLT, R10, R13, R22, R23, R24, R25, R4, R40, R41, R42, R43, R44, R45, R46, R47, R48, R5, R61, R62, R63, R64, R65, R9, push_at, get_set]
    · simp (maxSteps := 4000000) (disch := first | omega | assumption | (simp only [bxS, stOk, Nat.reduceBEq, Nat.reduceEqDiff, Nat.reduceAdd]; done) | (simp only [push_lo, push_n, set_lo, set_n]; omega) | (simp only [push_n, set_n, beq_self_eq_true]; done) | (apply has_ofL; simp only [List.length_cons, List.length_nil]; omega) | (apply has_setN; apply has_ofL; simp only [List.length_cons, List.length_nil]; omega)) only [↓bxD, bxP, bxQ, Nat.reduceBEq, reduceCtorEq, Nat.reduceAdd, Nat.reduceSub, Nat.reduceMul, Nat.reduceLeDiff, Nat.reduceLT, R10, R13, R22, R23, R24, R25, R4, R40, R41, R42, R43, R44, R45, R46, R47, R48, R5, R61, R62, R63, R64, R65, R9, push_at]
end Go.Proofs.Ytaagkdljkpbilaa.K
