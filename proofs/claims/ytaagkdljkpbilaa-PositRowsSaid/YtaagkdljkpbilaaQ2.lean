/-
  The program's posit.Of. Conditions: none.
-/
import Derived.Test.YtaagkdljkpbilaaQ1
import Derived.Test.YtaagkdljkpbilaaLitK
import Derived.Test.YtaagkdljkpbilaaSw
import Derived.Test.YtaagkdljkpbilaaBx
set_option linter.unusedSimpArgs false
set_option linter.unusedVariables false
namespace Go.Proofs.Ytaagkdljkpbilaa.K
open Go Ev
set_option maxRecDepth 100000
set_option maxHeartbeats 4000000

def rcs (op a b c d : Int) (kv : MV) : List MV := [.i .i64 op, .i .u64 a, .i .u64 b, .i .u64 c, .i .u64 d, kv]
def z5 : List MV := [.nils, .b false, .nils, .nils, .nils]
def OfPost (M : MH) (x : Rx) (m : MV) (M' : MH) : Prop := Ext M M' ∧ ((150 < cnt x ∧ m = .tp [.ag z5, .i .i64 3]) ∨ (cnt x ≤ 150 ∧ 200 < deep x ∧ m = .tp [.ag z5, .i .i64 4]) ∨ (cnt x ≤ 150 ∧ deep x ≤ 200 ∧ ∃ mm, m = .tp [mm, .i .i64 0] ∧ PosAt M.n M' mm (partM x ⟨[], []⟩).1 (partM x ⟨[], []⟩).2))
theorem kidsV_ext {M M' : MH} (k : Ext M M') {x : Rx} {id off : Nat} {v : MV} (hn : NodeAt M x id off) (h : KidsV M x id off v) : KidsV M' x id off v := by
  obtain ⟨h1, h2, h3, h4⟩ := h
  have hid := (NodeAt.rw hn).2
  refine ⟨h1, h2, h3.ext k, fun e => ?_⟩
  obtain ⟨t, kv, q1, q2, q3, q4⟩ := h4 e
  exact ⟨t, kv, (k.old id hid).trans q1, q2, q3, q4⟩
theorem of_any {M : MH} {op a b c d : Int} {kids : List Rx} {kv : MV} (hlo : M.lo ≤ M.n) (k1 : isSl kv = true) (k2 : slen kv = kids.length) (k3 : NodesAt M kids (sid kv) (soff kv)) (hw : wei (.mk op a b c d kids) ≤ 400000000) :
    Cp fns 9 [.ag (rcs op a b c d kv)] M fun m M' => OfPost M (.mk op a b c d kids) m M' := by
  refine Cp_call (fn := F9) (by kernel_rfl) (Nat.le_of_ble_eq_true rfl) ?_
  show Wp fns B9 (T.set q0 (some (.ag (rcs op a b c d kv))) T.lf) M _
  unfold B9
  have hU : isU (.ag (rcs op a b c d kv)) = false := rfl
  have hc6 : MV.cells (.ag (rcs op a b c d kv)) = rcs op a b c d kv := rfl
  have hl6 : (rcs op a b c d kv).length = 6 := rfl
  have hstn : stOk 3 (.ag [.nilm, .nils, .nils]) = true := rfl
  simp (maxSteps := 4000000) (disch := first | omega | assumption | (simp only [bxS, stOk, Nat.reduceBEq, Nat.reduceEqDiff, Nat.reduceAdd]; done) | (simp only [push_lo, push_n, set_lo, set_n]; omega) | (simp only [push_n, set_n, beq_self_eq_true]; done) | (apply has_ofL; simp only [List.length_cons, List.length_nil]; omega) | (apply has_setN; apply has_ofL; simp only [List.length_cons, List.length_nil]; omega)) only [↓bxD, bxP, bxQ, Nat.reduceBEq, reduceCtorEq, Nat.reduceAdd, Nat.reduceSub, Nat.reduceMul, Nat.reduceLeDiff, Nat.reduceLT, R10, R13, R22, R23, R24, R25, R4, R40, R41, R42, R43, R44, R45, R46, R47, R48, R5, R61, R62, R63, R64, R65, R9, hU, hc6, hl6, push_at, fill_nil]
  generalize hM2 : MH.set _ _ _ = M2
  have hx1 : Ext M ((M.push (.cs false 6 (ofL (rcs op a b c d kv) 0))).push (.cs false 5 (ofL z5 0))) := (Ext.push M _).trans (.push _ _)
  generalize hM1 : (M.push (.cs false 6 (ofL (rcs op a b c d kv) 0))).push (.cs false 5 (ofL z5 0)) = M1 at hx1
  have hM2 : (M1.push (.cs false 3 (ofL [.nilm, .nils, .nils] 0))).set (M.n + 1 + 1) (some (.cs false 3 (setN [.nilm, .nils, .nils] 0 (ofL [.nilm, .nils, .nils] 0)))) = M2 := by rw [← hM1]; exact hM2
  have n1 : M1.n = M.n + 2 := by rw [← hM1]; rfl
  have l1 := hx1.lo
  have g1 : M1.get M.n = some (.cs false 6 (ofL (rcs op a b c d kv) 0)) := by rw [← hM1, push_old (by show M.n < M.n + 1; omega)]; exact push_new _
  have e2 : M1.get (M.n + 1) = some (.cs false 5 (ofL z5 0)) := by rw [← hM1]; exact push_new (M := M.push _) _
  have hx2 : Ext M1 M2 := by rw [← hM2]; exact (Ext.push M1 _).set _ (by omega)
  have n2 : M2.n = M1.n + 1 := by rw [← hM2]; rfl
  have e4 : M2.get (M.n + 1 + 1) = some (.cs false 3 (setN [.nilm, .nils, .nils] 0 (ofL [.nilm, .nils, .nils] 0))) := by rw [← hM2]; exact set_same _ _
  have l2 := hx2.lo
  clear hM1 hM2
  have hnode : NodeAt M1 (.mk op a b c d kids) M.n 0 := by
    unfold NodeAt
    exact ⟨_, kv, g1, by omega, at_ofL _, k1, k2, k3.ext hx1⟩
  refine bindP_call (run_any (Mb := M1) (by omega) hx2 e4 ⟨by omega, by omega⟩ (at_setN _ _ _) hnode hw) ?_
  rintro m M3 ⟨ms, ⟨cs, mid, mv, pv, hS⟩, hI, hR⟩
  have hreg : Reg ms (.mk op a b c d kids) M.n 0 := hR
  have en3 := hS.ext.n
  have el3 := hS.ext.lo
  have hsv := hS.svl
  simp (maxSteps := 4000000) (disch := first | omega | assumption | (simp only [bxS, stOk, Nat.reduceBEq, Nat.reduceEqDiff, Nat.reduceAdd]; done) | (simp only [push_lo, push_n, set_lo, set_n]; omega) | (simp only [push_n, set_n, beq_self_eq_true]; done) | (apply has_ofL; simp only [List.length_cons, List.length_nil]; omega) | (apply has_setN; apply has_ofL; simp only [List.length_cons, List.length_nil]; omega)) only [↓bxD, bxP, bxQ, Nat.reduceBEq, reduceCtorEq, Nat.reduceAdd, Nat.reduceSub, Nat.reduceMul, Nat.reduceLeDiff, Nat.reduceLT, R10, R13, R22, R23, R24, R25, R4, R40, R41, R42, R43, R44, R45, R46, R47, R48, R5, R61, R62, R63, R64, R65, R9, hU, hc6, hl6, push_at, fill_nil]
  refine bindP_call (sizeOf_any hS.rd (hnode.ext hS.ext) (reg_known hI hreg) (by omega)) ?_
  rintro m M4 ⟨rfl, hx4⟩
  have n4 := hx4.n
  have l4 := hx4.lo
  have hst2 : ∀ x y : Int, stOk 2 (.ag [.i .i64 x, .i .i64 y]) = true := fun _ _ => rfl
  have hst2' := hst2 (szP (.mk op a b c d kids)) (szD (.mk op a b c d kids))
  simp (maxSteps := 4000000) (disch := first | omega | assumption | (simp only [bxS, stOk, Nat.reduceBEq, Nat.reduceEqDiff, Nat.reduceAdd]; done) | (simp only [push_lo, push_n, set_lo, set_n]; omega) | (simp only [push_n, set_n, beq_self_eq_true]; done) | (apply has_ofL; simp only [List.length_cons, List.length_nil]; omega) | (apply has_setN; apply has_ofL; simp only [List.length_cons, List.length_nil]; omega)) only [↓bxD, bxP, bxQ, Nat.reduceBEq, reduceCtorEq, Nat.reduceAdd, Nat.reduceSub, Nat.reduceMul, Nat.reduceLeDiff, Nat.reduceLT, R10, R13, R22, R23, R24, R25, R4, R40, R41, R42, R43, R44, R45, R46, R47, R48, R5, R61, R62, R63, R64, R65, R9, hU, hc6, hl6, push_at, fill_nil]
  generalize hM5 : MH.set _ _ _ = M5
  have x5 : Ext M4 M5 := by rw [← hM5]; exact (Ext.push M4 _).set _ (Nat.le_refl _)
  have n5 : M5.n = M4.n + 1 := by rw [← hM5]; rfl
  have e5 : M5.get M4.n = some (.cs false 2 (setN [.i .i64 (szP (.mk op a b c d kids)), .i .i64 (szD (.mk op a b c d kids))] 0 (ofL [.i .i64 0, .i .i64 0] 0))) := by rw [← hM5]; exact set_same _ _
  have l5 := x5.lo
  clear hM5
  have xe : Ext M1 M5 := (hS.ext.trans hx4).trans x5
  have e25 : M5.get (M.n + 1) = some (.cs false 5 (ofL z5 0)) := (xe.old _ (by omega)).trans e2
  have hz5 : stOk 5 (.ag z5) = true := rfl
  have hz5' : stOk 5 (.ag [.nils, .b false, .nils, .nils, .nils]) = true := rfl
  have hzc : MV.cells (.ag z5) = z5 := rfl
  have hb5 : hasB (ofL z5 0) 5 0 = true := has_ofL _ _ _ (by decide)
  have hgz : ∀ l, l = z5 → Ev.getN (setN l 0 (ofL z5 0)) 5 0 = some l := fun l e => by subst e; exact getN_setN' rfl
  have hgz := hgz [.nils, .b false, .nils, .nils, .nils] rfl
  have hxx : Ext M M5 := hx1.trans xe
  by_cases h1 : 150 < cnt (.mk op a b c d kids)
  · have d1 : decide ((150 : Int) < szP (.mk op a b c d kids)) = true := decide_eq_true (by unfold szP; omega)
    simp (maxSteps := 4000000) (disch := first | omega | assumption | (simp only [bxS, stOk, Nat.reduceBEq, Nat.reduceEqDiff, Nat.reduceAdd]; done) | (simp only [push_lo, push_n, set_lo, set_n]; omega) | (simp only [push_n, set_n, beq_self_eq_true]; done) | (apply has_ofL; simp only [List.length_cons, List.length_nil]; omega) | (apply has_setN; apply has_ofL; simp only [List.length_cons, List.length_nil]; omega)) only [↓bxD, bxP, bxQ, Nat.reduceBEq, reduceCtorEq, Nat.reduceAdd, Nat.reduceSub, Nat.reduceMul, Nat.reduceLeDiff, Nat.reduceLT, R10, R13, R22, R23, R24, R25, R4, R40, R41, R42, R43, R44, R45, R46, R47, R48, R5, R61, R62, R63, R64, R65, R9, e5, e25, get_set, res_cN, cNV_p, cNo_cs, hzc, fill_nil, map_ag, hgz, consO_some, resL_c, d1]
    exact ⟨hxx.set _ (by omega), .inl ⟨h1, rfl⟩⟩
  have d1 : decide ((150 : Int) < szP (.mk op a b c d kids)) = false := decide_eq_false (by unfold szP; omega)
  by_cases h2 : 200 < deep (.mk op a b c d kids)
  · have d2 : decide ((200 : Int) < szD (.mk op a b c d kids)) = true := decide_eq_true (by unfold szD; omega)
    simp (maxSteps := 4000000) (disch := first | omega | assumption | (simp only [bxS, stOk, Nat.reduceBEq, Nat.reduceEqDiff, Nat.reduceAdd]; done) | (simp only [push_lo, push_n, set_lo, set_n]; omega) | (simp only [push_n, set_n, beq_self_eq_true]; done) | (apply has_ofL; simp only [List.length_cons, List.length_nil]; omega) | (apply has_setN; apply has_ofL; simp only [List.length_cons, List.length_nil]; omega)) only [↓bxD, bxP, bxQ, Nat.reduceBEq, reduceCtorEq, Nat.reduceAdd, Nat.reduceSub, Nat.reduceMul, Nat.reduceLeDiff, Nat.reduceLT, R10, R13, R22, R23, R24, R25, R4, R40, R41, R42, R43, R44, R45, R46, R47, R48, R5, R61, R62, R63, R64, R65, R9, e5, e25, get_set, res_cN, cNV_p, cNo_cs, hzc, fill_nil, map_ag, hgz, consO_some, resL_c, d1, d2]
    exact ⟨hxx.set _ (by omega), .inr (.inl ⟨by omega, h2, rfl⟩)⟩
  have d2 : decide ((200 : Int) < szD (.mk op a b c d kids)) = false := decide_eq_false (by unfold szD; omega)
  simp (maxSteps := 4000000) (disch := first | omega | assumption | (simp only [bxS, stOk, Nat.reduceBEq, Nat.reduceEqDiff, Nat.reduceAdd]; done) | (simp only [push_lo, push_n, set_lo, set_n]; omega) | (simp only [push_n, set_n, beq_self_eq_true]; done) | (apply has_ofL; simp only [List.length_cons, List.length_nil]; omega) | (apply has_setN; apply has_ofL; simp only [List.length_cons, List.length_nil]; omega)) only [↓bxD, bxP, bxQ, Nat.reduceBEq, reduceCtorEq, Nat.reduceAdd, Nat.reduceSub, Nat.reduceMul, Nat.reduceLeDiff, Nat.reduceLT, R10, R13, R22, R23, R24, R25, R4, R40, R41, R42, R43, R44, R45, R46, R47, R48, R5, R61, R62, R63, R64, R65, R9, e5, e25, get_set, res_cN, cNV_p, cNo_cs, hzc, fill_nil, map_ag, hgz, consO_some, resL_c, d1, d2]
  show Wp fns K9_0 _ _ _
  generalize hf1 : (T.set _ _ _ : Fr) = f1
  have j1 : X.ev f1 (.t q1) = .p M.n 0 := by rw [← hf1]; simp (maxSteps := 4000000) (disch := first | omega | assumption | (simp only [bxS, stOk, Nat.reduceBEq, Nat.reduceEqDiff, Nat.reduceAdd]; done) | (simp only [push_lo, push_n, set_lo, set_n]; omega) | (simp only [push_n, set_n, beq_self_eq_true]; done) | (apply has_ofL; simp only [List.length_cons, List.length_nil]; omega) | (apply has_setN; apply has_ofL; simp only [List.length_cons, List.length_nil]; omega)) only [↓bxD, bxP, bxQ, Nat.reduceBEq, reduceCtorEq, Nat.reduceAdd, Nat.reduceSub, Nat.reduceMul, Nat.reduceLeDiff, Nat.reduceLT, R10, R13, R22, R23, R24, R25, R4, R40, R41, R42, R43, R44, R45, R46, R47, R48, R5, R61, R62, R63, R64, R65, R9, e5, e25, get_set, res_cN, cNV_p, cNo_cs, hzc, fill_nil, map_ag, hgz, consO_some, resL_c]
  have j2 : f1.get q2 = some (.p (M.n + 1) 0) := by rw [← hf1]; simp (maxSteps := 4000000) (disch := first | omega | assumption | (simp only [bxS, stOk, Nat.reduceBEq, Nat.reduceEqDiff, Nat.reduceAdd]; done) | (simp only [push_lo, push_n, set_lo, set_n]; omega) | (simp only [push_n, set_n, beq_self_eq_true]; done) | (apply has_ofL; simp only [List.length_cons, List.length_nil]; omega) | (apply has_setN; apply has_ofL; simp only [List.length_cons, List.length_nil]; omega)) only [↓bxD, bxP, bxQ, Nat.reduceBEq, reduceCtorEq, Nat.reduceAdd, Nat.reduceSub, Nat.reduceMul, Nat.reduceLeDiff, Nat.reduceLT, R10, R13, R22, R23, R24, R25, R4, R40, R41, R42, R43, R44, R45, R46, R47, R48, R5, R61, R62, R63, R64, R65, R9, e5, e25, get_set, res_cN, cNV_p, cNo_cs, hzc, fill_nil, map_ag, hgz, consO_some, resL_c]
  have j4 : X.ev f1 (.t q4) = .p (M.n + 1 + 1) 0 := by rw [← hf1]; simp (maxSteps := 4000000) (disch := first | omega | assumption | (simp only [bxS, stOk, Nat.reduceBEq, Nat.reduceEqDiff, Nat.reduceAdd]; done) | (simp only [push_lo, push_n, set_lo, set_n]; omega) | (simp only [push_n, set_n, beq_self_eq_true]; done) | (apply has_ofL; simp only [List.length_cons, List.length_nil]; omega) | (apply has_setN; apply has_ofL; simp only [List.length_cons, List.length_nil]; omega)) only [↓bxD, bxP, bxQ, Nat.reduceBEq, reduceCtorEq, Nat.reduceAdd, Nat.reduceSub, Nat.reduceMul, Nat.reduceLeDiff, Nat.reduceLT, R10, R13, R22, R23, R24, R25, R4, R40, R41, R42, R43, R44, R45, R46, R47, R48, R5, R61, R62, R63, R64, R65, R9, e5, e25, get_set, res_cN, cNV_p, cNo_cs, hzc, fill_nil, map_ag, hgz, consO_some, resL_c]
  have j2' := ev_get j2
  clear hf1
  simp only [q1, q2, q4] at j1 j2 j2' j4
  have gs := hS.g
  have gs5 : M5.get (M.n + 1 + 1) = some (.cs false 3 cs) := (x5.old _ (by omega)).trans ((hx4.old _ hsv.2).trans gs)
  have gN : Ev.getN cs 3 0 = some [.m mid, mv, pv] := hS.at_.getN
  unfold K9_0
  simp (maxSteps := 4000000) (disch := first | omega | assumption | (simp only [bxS, stOk, Nat.reduceBEq, Nat.reduceEqDiff, Nat.reduceAdd]; done) | (simp only [push_lo, push_n, set_lo, set_n]; omega) | (simp only [push_n, set_n, beq_self_eq_true]; done) | (apply has_ofL; simp only [List.length_cons, List.length_nil]; omega) | (apply has_setN; apply has_ofL; simp only [List.length_cons, List.length_nil]; omega)) only [↓bxD, bxP, bxQ, Nat.reduceBEq, reduceCtorEq, Nat.reduceAdd, Nat.reduceSub, Nat.reduceMul, Nat.reduceLeDiff, Nat.reduceLT, R10, R13, R22, R23, R24, R25, R4, R40, R41, R42, R43, R44, R45, R46, R47, R48, R5, R61, R62, R63, R64, R65, R9, j1, j2, j2', j4, gs5, gN, e25, get_set, res_cN, cNV_p, cNo_cs, map_ag, consO_some, resL_c, push_at]
  have f5 : fillM [(0, 3, MV.ag [.m mid, mv, pv])] [.nilm, .nils, .nils, .nils, .nils] = some [.m mid, mv, pv, .nils, .nils] := rfl
  obtain ⟨sm, _⟩ := hS.rm.row.sl
  obtain ⟨sp, _⟩ := hS.rp.row.sl
  have hst5 : stOk 5 (.ag [.m mid, mv, pv, .nils, .nils]) = true := by
    cases mv <;> first | cases sm | skip
    all_goals cases pv <;> first | cases sp | skip
    all_goals rfl
  simp (maxSteps := 4000000) (disch := first | omega | assumption | (simp only [bxS, stOk, Nat.reduceBEq, Nat.reduceEqDiff, Nat.reduceAdd]; done) | (simp only [push_lo, push_n, set_lo, set_n]; omega) | (simp only [push_n, set_n, beq_self_eq_true]; done) | (apply has_ofL; simp only [List.length_cons, List.length_nil]; omega) | (apply has_setN; apply has_ofL; simp only [List.length_cons, List.length_nil]; omega)) only [↓bxD, bxP, bxQ, Nat.reduceBEq, reduceCtorEq, Nat.reduceAdd, Nat.reduceSub, Nat.reduceMul, Nat.reduceLeDiff, Nat.reduceLT, R10, R13, R22, R23, R24, R25, R4, R40, R41, R42, R43, R44, R45, R46, R47, R48, R5, R61, R62, R63, R64, R65, R9, j1, j2, j2', j4, gs5, gN, e25, get_set, res_cN, cNV_p, cNo_cs, map_ag, consO_some, resL_c, push_at, f5]
  generalize hM6 : MH.set _ _ _ = M6
  have x6 : Ext M5 M6 := by rw [← hM6]; exact (Ext.push M5 _).set _ (Nat.le_refl _)
  have n6 : M6.n = M5.n + 1 := by rw [← hM6]; rfl
  have e6 : M6.get M5.n = some (.cs false 5 (setN [.m mid, mv, pv, .nils, .nils] 0 (ofL [.nilm, .nils, .nils, .nils, .nils] 0))) := by rw [← hM6]; exact set_same _ _
  have l6 := x6.lo
  clear hM6
  have x35 : Ext M3 M5 := hx4.trans x5
  have hml := hS.ml
  have hsrv : SvB M5 mid mv ms := ⟨(x35.old mid hml.2).trans hS.gm, by omega, hS.rm.row.ext x35, fun m hm => ⟨(hS.nodes m hm).1.ext xe, kidsV_ext xe (hS.nodes m hm).1 (hS.nodes m hm).2⟩, hI⟩
  have hB : Bd M5 M6 M5.n mid mv pv ms ⟨[], []⟩ := ⟨_, .nils, .nils, hsrv, x6, e6, ⟨Nat.le_refl _, by omega⟩, at_setN _ _ _, OwnRow.nil _ _ _, OwnRow.nil _ _ _, rfl⟩
  refine bindP_call (part_any (Mb := M5) (by omega) _ _ (Nat.le_refl _) (by omega) M6 ⟨[], []⟩ M.n 0 hB (hnode.ext xe) hreg (by simp; omega)) ?_
  rintro m M7 ⟨rfl, hB7, hF7⟩
  have en7 := hB7.ext.n
  have el7 := hB7.ext.lo
  have hsl := partM_len (.mk op a b c d kids) ⟨[], []⟩
  simp (maxSteps := 4000000) (disch := first | omega | assumption | (simp only [bxS, stOk, Nat.reduceBEq, Nat.reduceEqDiff, Nat.reduceAdd]; done) | (simp only [push_lo, push_n, set_lo, set_n]; omega) | (simp only [push_n, set_n, beq_self_eq_true]; done) | (apply has_ofL; simp only [List.length_cons, List.length_nil]; omega) | (apply has_setN; apply has_ofL; simp only [List.length_cons, List.length_nil]; omega)) only [↓bxD, bxP, bxQ, Nat.reduceBEq, reduceCtorEq, Nat.reduceAdd, Nat.reduceSub, Nat.reduceMul, Nat.reduceLeDiff, Nat.reduceLT, R10, R13, R22, R23, R24, R25, R4, R40, R41, R42, R43, R44, R45, R46, R47, R48, R5, R61, R62, R63, R64, R65, R9, j1, j2, j2', j4, gs5, gN, e25, get_set, res_cN, cNV_p, cNo_cs, map_ag, consO_some, resL_c, push_at]
  refine bindP_call (posits_any (by omega) hB7 (by rw [hsl]; simp; omega)) ?_
  rintro mm M8 ⟨hP8, hx8⟩
  have n8 := hx8.n
  have l8 := hx8.lo
  have xe8 : Ext M5 M8 := hB7.ext.trans hx8
  have e28 : M8.get (M.n + 1) = some (.cs false 5 (ofL z5 0)) := (xe8.old _ (by omega)).trans e25
  obtain ⟨vs, vf, vl, vo, rfl, p1, p2, p3, p4⟩ := hP8
  obtain ⟨s1, _⟩ := p1.row.sl
  obtain ⟨s2, _⟩ := p2.row.sl
  obtain ⟨s3, _⟩ := p3.row.sl
  obtain ⟨es, p41, p42, p43⟩ := p4
  obtain ⟨s4, _⟩ := p41.row.sl
  have hst8 : ∀ bb, stOk 5 (.ag [vs, .b bb, vf, vl, vo]) = true := fun bb => by
    cases vs <;> first | cases s1 | skip
    all_goals cases vf <;> first | cases s2 | skip
    all_goals cases vl <;> first | cases s3 | skip
    all_goals cases vo <;> first | cases s4 | skip
    all_goals rfl
  have hst8 := hst8 (partM (.mk op a b c d kids) ⟨[], []⟩).1.null
  have hgm : ∀ l : List MV, l.length = 5 → Ev.getN (setN l 0 (ofL z5 0)) 5 0 = some l := fun l e => getN_setN' e
  have hgm := hgm [vs, .b (partM (.mk op a b c d kids) ⟨[], []⟩).1.null, vf, vl, vo] rfl
  simp (maxSteps := 4000000) (disch := first | omega | assumption | (simp only [bxS, stOk, Nat.reduceBEq, Nat.reduceEqDiff, Nat.reduceAdd]; done) | (simp only [push_lo, push_n, set_lo, set_n]; omega) | (simp only [push_n, set_n, beq_self_eq_true]; done) | (apply has_ofL; simp only [List.length_cons, List.length_nil]; omega) | (apply has_setN; apply has_ofL; simp only [List.length_cons, List.length_nil]; omega)) only [↓bxD, bxP, bxQ, Nat.reduceBEq, reduceCtorEq, Nat.reduceAdd, Nat.reduceSub, Nat.reduceMul, Nat.reduceLeDiff, Nat.reduceLT, R10, R13, R22, R23, R24, R25, R4, R40, R41, R42, R43, R44, R45, R46, R47, R48, R5, R61, R62, R63, R64, R65, R9, j1, j2, j2', j4, gs5, gN, e25, get_set, res_cN, cNV_p, cNo_cs, map_ag, consO_some, resL_c, push_at, e28, hgm]
  have kp : ∀ {sz : Nat} {v : MV} {l : List (List MV)} (o : Option MO), OwnRow M5.n M8 sz v l → OwnRow M.n (M8.set (M.n + 1) o) sz v l := fun o hr => OwnRow.le (hr.keep (Nat.le_refl _) fun a n d e e2 => by
    obtain ⟨cc, q1, q2, q3⟩ := own_id hr e2
    rw [set_ne (by omega)]) (by omega)
  exact ⟨(hxx.trans xe8).set _ (by omega), .inr (.inr ⟨by omega, by omega, _, rfl, vs, vf, vl, vo, rfl, kp _ p1, kp _ p2, kp _ p3, es, kp _ p41, p42, fun i x y h1 h2 => kp _ (p43 i x y h1 h2)⟩)⟩
end Go.Proofs.Ytaagkdljkpbilaa.K
