/-
  A pattern is built. Conditions: none.
-/
import Derived.Test.YtaagkdljkpbilaaP8
import Derived.Test.YtaagkdljkpbilaaLitK
import Derived.Test.YtaagkdljkpbilaaSw
import Derived.Test.YtaagkdljkpbilaaBx
set_option linter.unusedSimpArgs false
set_option linter.unusedVariables false
namespace Go.Proofs.Ytaagkdljkpbilaa.K
open Go Ev
set_option maxRecDepth 100000
set_option maxHeartbeats 4000000

theorem part_any {Mb : MH} {bx mid : Nat} {mv pv : MV} {ms : List Mk} (hlo : Mb.lo ≤ Mb.n) : ∀ (n : Nat) (x : Rx), wei x ≤ n → n ≤ 1000000000 → PartOk Mb bx mid mv pv ms x
  | 0, x, hw, _ => by obtain ⟨op, a, b, c, d, kids⟩ := x; rw [wei] at hw; omega
  | n + 1, x, hw, hn1 => by
    intro M st id off h hx hr hb
    have ih := fun y (hy : wei y < wei x) => part_any (bx := bx) (mid := mid) (mv := mv) (pv := pv) (ms := ms) hlo n y (by omega) (by omega)
    have en := h.ext.n
    have el := h.ext.lo
    obtain ⟨cb, sv, fv, hO⟩ := h
    have hxM : NodeAt M x id off := hx.ext hO.ext
    have hsiz := sizeOf_any (M := M.push (.cs false 7 (ofL z7 0))) (hO.rd.ext (.push M _)) (hxM.ext (.push M _)) (reg_known hO.srv.inv hr) (by show M.lo ≤ M.n + 1; omega)
    obtain ⟨op, a, b, c, d, kids⟩ := x
    have hkl : kids.length ≤ 1000000000 := by
      have : ∀ l : List Rx, l.length ≤ weiL l := fun l => by
        induction l with
        | nil => exact Nat.le_refl _
        | cons y r ihl => obtain ⟨_, _, _, _, _, _⟩ := y; rw [List.length_cons, weiL, wei]; omega
      have := this kids
      rw [wei] at hw; omega
    have hx0 := hx
    unfold NodeAt at hx0
    obtain ⟨t, kv, g1, g2, g3, g4, g5, g6⟩ := hx0
    have c0 : cget t off = some (.i .i64 op) := g3 0 _ rfl
    have c5 : cget t (off + 5) = some kv := g3 5 _ rfl
    have c14 : Ev.getN t 4 (off + 1) = some (st4 a b c d) := (At.left (b := [kv]) (At.right (a := [.i .i64 op]) (b := st4 a b c d ++ [kv]) g3)).getN
    refine Cp_call (fn := F25) (by kernel_rfl) (Nat.le_of_ble_eq_true rfl) ?_
    show Wp fns B25 (T.set q1 (some (.p id off)) (T.set q0 (some (.p bx 0)) T.lf)) M _
    unfold B25
    have f1 : fillM [(0, 1, MV.b true)] [.b false, .i .u64 0, .i .u64 0, .i .u64 0, .i .u64 0, .i .u64 0, .i .u64 0] = some p0M.cells := rfl
    have hc7 : ∀ p : Pm, MV.cells (.ag p.cells) = p.cells := fun _ => rfl
    have hst7 : ∀ p : Pm, stOk 7 (.ag p.cells) = true := fun _ => rfl
    have hgp : ∀ (p : Pm) l, Ev.getN (setN p.cells 0 (ofL l 0)) 7 0 = some p.cells := fun p l => getN_setN' rfl
    have hz7 : hasB (ofL z7 0) 7 0 = true := has_ofL z7 7 0 (by decide)
    have hs0 := hst7 p0M
    simp (maxSteps := 4000000) (disch := first | omega | assumption | (simp only [bxS, stOk, Nat.reduceBEq, Nat.reduceEqDiff, Nat.reduceAdd]; done) | (simp only [push_lo, push_n, set_lo, set_n]; omega) | (simp only [push_n, set_n, beq_self_eq_true]; done) | (apply has_ofL; simp only [List.length_cons, List.length_nil]; omega) | (apply has_setN; apply has_ofL; simp only [List.length_cons, List.length_nil]; omega)) only [↓bxD, bxP, bxQ, Nat.reduceBEq, reduceCtorEq, Nat.reduceAdd, Nat.reduceSub, Nat.reduceMul, Nat.reduceLeDiff, Nat.reduceLT, R10, R13, R22, R23, R24, R25, R4, R40, R41, R42, R43, R44, R45, R46, R47, R48, R5, R61, R62, R63, R64, R65, R9, nck_p]
    refine bindP_call hsiz ?_
    rintro m M2 ⟨rfl, hx2⟩
    have n2 := hx2.n
    have l2 := hx2.lo
    have n2' : M.n + 1 ≤ M2.n := n2
    have l2' : M2.lo = M.lo := l2
    have e4 : M2.get M.n = some (.cs false 7 (ofL z7 0)) := (hx2.old M.n (Nat.lt_succ_self _)).trans (push_new _)
    have hx : Ext M M2 := (Ext.push M _).trans hx2
    have hB2 : Bd Mb M2 bx mid mv pv ms st := ⟨cb, sv, fv, hO.more hx⟩
    have hG : M2.get id = some (.cs false 6 t) := (hB2.ext.old id g2).trans g1
    have hfld : fld1V 0 (.ag [.i .i64 (szP (.mk op a b c d kids)), .i .i64 (szD (.mk op a b c d kids))]) = some (.i .i64 (szP (.mk op a b c d kids))) := rfl
    -- what was built is stored, and returned
    have fin : ∀ (M4 : MH) (r : Pm × Bs), partM (.mk op a b c d kids) st = r → Bd Mb M4 bx mid mv pv ms r.2 → Fr7 M2 M4 → MV.ag r.1.cells = MV.ag (partM (.mk op a b c d kids) st).1.cells ∧ Bd Mb (M4.set M.n (some (.cs false 7 (setN r.1.cells 0 (ofL z7 0))))) bx mid mv pv ms (partM (.mk op a b c d kids) st).2 ∧ Fr7 M (M4.set M.n (some (.cs false 7 (setN r.1.cells 0 (ofL z7 0))))) := fun M4 r hr hB hF => by
      have x : Chg (fun j => j = M.n) M4 (M4.set M.n (some (.cs false 7 (setN r.1.cells 0 (ofL z7 0))))) := (Chg.refl (fun j => j = M.n) M4).set _ (.inl rfl)
      refine ⟨by rw [hr], ?_, ((Fr7.of hx).trans hF).chg (Nat.le_refl _) x⟩
      rw [hr]
      exact hB.keep7 (hF.old _ _ (by omega) e4) (by omega) x
    have hlk : ∀ i y, (Rx.mk op a b c d kids).lk[i]? = some y → Reg ms y (sid kv) (soff kv + i * 6) := fun i y hy => reg_kid hO.srv g1 c5 hr hy
    by_cases h0 : cnt (.mk op a b c d kids) = 0
    · have d0 : decide (szP (.mk op a b c d kids) = 0) = true := decide_eq_true (by unfold szP; rw [h0]; rfl)
      simp (maxSteps := 4000000) (disch := first | omega | assumption | (simp only [bxS, stOk, Nat.reduceBEq, Nat.reduceEqDiff, Nat.reduceAdd]; done) | (simp only [push_lo, push_n, set_lo, set_n]; omega) | (simp only [push_n, set_n, beq_self_eq_true]; done) | (apply has_ofL; simp only [List.length_cons, List.length_nil]; omega) | (apply has_setN; apply has_ofL; simp only [List.length_cons, List.length_nil]; omega)) only [↓bxD, bxP, bxQ, Nat.reduceBEq, reduceCtorEq, Nat.reduceAdd, Nat.reduceSub, Nat.reduceMul, Nat.reduceLeDiff, Nat.reduceLT, R10, R13, R22, R23, R24, R25, R4, R40, R41, R42, R43, R44, R45, R46, R47, R48, R5, R61, R62, R63, R64, R65, R9, nck_p, ev_fld1, hfld, e4, hc7, f1, hG, c0, c5, c14, get_set, map_ag, res_cN, cNV_p, cNo_cs, hgp, d0]
      exact fin M2 (p0M, st) (by rw [partM, if_pos h0]) hB2 (.refl _)
    · have d0 : decide (szP (.mk op a b c d kids) = 0) = false := decide_eq_false (by unfold szP; omega)
      simp (maxSteps := 4000000) (disch := first | omega | assumption | (simp only [bxS, stOk, Nat.reduceBEq, Nat.reduceEqDiff, Nat.reduceAdd]; done) | (simp only [push_lo, push_n, set_lo, set_n]; omega) | (simp only [push_n, set_n, beq_self_eq_true]; done) | (apply has_ofL; simp only [List.length_cons, List.length_nil]; omega) | (apply has_setN; apply has_ofL; simp only [List.length_cons, List.length_nil]; omega)) only [↓bxD, bxP, bxQ, Nat.reduceBEq, reduceCtorEq, Nat.reduceAdd, Nat.reduceSub, Nat.reduceMul, Nat.reduceLeDiff, Nat.reduceLT, R10, R13, R22, R23, R24, R25, R4, R40, R41, R42, R43, R44, R45, R46, R47, R48, R5, R61, R62, R63, R64, R65, R9, nck_p, ev_fld1, hfld, e4, hc7, f1, hG, c0, c5, c14, get_set, map_ag, res_cN, cNV_p, cNo_cs, hgp, d0]
      show Wp fns K25_1 _ _ _
      unfold K25_1
      simp (maxSteps := 4000000) (disch := first | omega | assumption | (simp only [bxS, stOk, Nat.reduceBEq, Nat.reduceEqDiff, Nat.reduceAdd]; done) | (simp only [push_lo, push_n, set_lo, set_n]; omega) | (simp only [push_n, set_n, beq_self_eq_true]; done) | (apply has_ofL; simp only [List.length_cons, List.length_nil]; omega) | (apply has_setN; apply has_ofL; simp only [List.length_cons, List.length_nil]; omega)) only [↓bxD, bxP, bxQ, Nat.reduceBEq, reduceCtorEq, Nat.reduceAdd, Nat.reduceSub, Nat.reduceMul, Nat.reduceLeDiff, Nat.reduceLT, R10, R13, R22, R23, R24, R25, R4, R40, R41, R42, R43, R44, R45, R46, R47, R48, R5, R61, R62, R63, R64, R65, R9, nck_p, ev_fld1, hfld, e4, hc7, f1, hG, c0, c5, c14, get_set, map_ag, res_cN, cNV_p, cNo_cs, hgp]
      by_cases h1 : op = 1
      · have d1 : decide (op = 1) = true := decide_eq_true h1
        have hc1 : cnt (.mk op a b c d kids) = 1 := by rw [cnt, if_pos h1]
        simp (maxSteps := 4000000) (disch := first | omega | assumption | (simp only [bxS, stOk, Nat.reduceBEq, Nat.reduceEqDiff, Nat.reduceAdd]; done) | (simp only [push_lo, push_n, set_lo, set_n]; omega) | (simp only [push_n, set_n, beq_self_eq_true]; done) | (apply has_ofL; simp only [List.length_cons, List.length_nil]; omega) | (apply has_setN; apply has_ofL; simp only [List.length_cons, List.length_nil]; omega)) only [↓bxD, bxP, bxQ, Nat.reduceBEq, reduceCtorEq, Nat.reduceAdd, Nat.reduceSub, Nat.reduceMul, Nat.reduceLeDiff, Nat.reduceLT, R10, R13, R22, R23, R24, R25, R4, R40, R41, R42, R43, R44, R45, R46, R47, R48, R5, R61, R62, R63, R64, R65, R9, nck_p, ev_fld1, hfld, e4, hc7, f1, hG, c0, c5, c14, get_set, map_ag, res_cN, cNV_p, cNo_cs, hgp, d1]
        refine bindP_call (place_any hB2 hlo (by omega)) ?_
        rintro m M3 ⟨rfl, hB3, hF3⟩
        have e43 := hF3.old _ _ (by omega) e4
        have n3 := hF3.n
        have l3 := hF3.lo
        have hs1 := hst7 ⟨false, 2 ^ st.sets.length, 2 ^ st.sets.length⟩
        simp (maxSteps := 4000000) (disch := first | omega | assumption | (simp only [bxS, stOk, Nat.reduceBEq, Nat.reduceEqDiff, Nat.reduceAdd]; done) | (simp only [push_lo, push_n, set_lo, set_n]; omega) | (simp only [push_n, set_n, beq_self_eq_true]; done) | (apply has_ofL; simp only [List.length_cons, List.length_nil]; omega) | (apply has_setN; apply has_ofL; simp only [List.length_cons, List.length_nil]; omega)) only [↓bxD, bxP, bxQ, Nat.reduceBEq, reduceCtorEq, Nat.reduceAdd, Nat.reduceSub, Nat.reduceMul, Nat.reduceLeDiff, Nat.reduceLT, R10, R13, R22, R23, R24, R25, R4, R40, R41, R42, R43, R44, R45, R46, R47, R48, R5, R61, R62, R63, R64, R65, R9, nck_p, ev_fld1, hfld, e4, hc7, f1, hG, c0, c5, c14, get_set, map_ag, res_cN, cNV_p, cNo_cs, hgp, e43]
        exact fin M3 (placeM (st4 a b c d) st) (by rw [partM, if_neg h0, if_pos h1]) hB3 hF3
      have d1 : decide (op = 1) = false := decide_eq_false h1
      have hkids : ∀ y ∈ kids, PartOk Mb bx mid mv pv ms y := fun y hy => ih y (by
        obtain ⟨i, hi⟩ := List.mem_iff_getElem?.1 hy
        have := wei_mem hi
        rw [wei]; omega)
      by_cases h2 : op = 2
      · have d2 : decide (op = 2) = true := decide_eq_true h2
        have hlk2 : (Rx.mk op a b c d kids).lk = kids := by rw [lk_mk, if_pos (.inl h2)]
        rw [hlk2] at hlk
        have hc2 : cnt (.mk op a b c d kids) = cntL kids := by rw [cnt, if_neg h1, if_pos (.inl h2)]
        simp (maxSteps := 4000000) (disch := first | omega | assumption | (simp only [bxS, stOk, Nat.reduceBEq, Nat.reduceEqDiff, Nat.reduceAdd]; done) | (simp only [push_lo, push_n, set_lo, set_n]; omega) | (simp only [push_n, set_n, beq_self_eq_true]; done) | (apply has_ofL; simp only [List.length_cons, List.length_nil]; omega) | (apply has_setN; apply has_ofL; simp only [List.length_cons, List.length_nil]; omega)) only [↓bxD, bxP, bxQ, Nat.reduceBEq, reduceCtorEq, Nat.reduceAdd, Nat.reduceSub, Nat.reduceMul, Nat.reduceLeDiff, Nat.reduceLT, R10, R13, R22, R23, R24, R25, R4, R40, R41, R42, R43, R44, R45, R46, R47, R48, R5, R61, R62, R63, R64, R65, R9, nck_p, ev_fld1, hfld, e4, hc7, f1, hG, c0, c5, c14, get_set, map_ag, res_cN, cNV_p, cNo_cs, hgp, d1, d2]
        refine bindP_call (cat_any hlo hkids hB2 g4 g5 g6 hlk (by omega) hkl) ?_
        rintro m M3 ⟨rfl, hB3, hF3⟩
        have e43 := hF3.old _ _ (by omega) e4
        have n3 := hF3.n
        have l3 := hF3.lo
        have hs1 := hst7 (catM kids p0M st).1
        simp (maxSteps := 4000000) (disch := first | omega | assumption | (simp only [bxS, stOk, Nat.reduceBEq, Nat.reduceEqDiff, Nat.reduceAdd]; done) | (simp only [push_lo, push_n, set_lo, set_n]; omega) | (simp only [push_n, set_n, beq_self_eq_true]; done) | (apply has_ofL; simp only [List.length_cons, List.length_nil]; omega) | (apply has_setN; apply has_ofL; simp only [List.length_cons, List.length_nil]; omega)) only [↓bxD, bxP, bxQ, Nat.reduceBEq, reduceCtorEq, Nat.reduceAdd, Nat.reduceSub, Nat.reduceMul, Nat.reduceLeDiff, Nat.reduceLT, R10, R13, R22, R23, R24, R25, R4, R40, R41, R42, R43, R44, R45, R46, R47, R48, R5, R61, R62, R63, R64, R65, R9, nck_p, ev_fld1, hfld, e4, hc7, f1, hG, c0, c5, c14, get_set, map_ag, res_cN, cNV_p, cNo_cs, hgp, e43]
        exact fin M3 (catM kids p0M st) (by rw [partM, if_neg h0, if_neg h1, if_pos h2]) hB3 hF3
      have d2 : decide (op = 2) = false := decide_eq_false h2
      by_cases h3 : op = 3
      · have d3 : decide (op = 3) = true := decide_eq_true h3
        have hlk2 : (Rx.mk op a b c d kids).lk = kids := by rw [lk_mk, if_pos (.inr h3)]
        rw [hlk2] at hlk
        have hc2 : cnt (.mk op a b c d kids) = cntL kids := by rw [cnt, if_neg h1, if_pos (.inr h3)]
        simp (maxSteps := 4000000) (disch := first | omega | assumption | (simp only [bxS, stOk, Nat.reduceBEq, Nat.reduceEqDiff, Nat.reduceAdd]; done) | (simp only [push_lo, push_n, set_lo, set_n]; omega) | (simp only [push_n, set_n, beq_self_eq_true]; done) | (apply has_ofL; simp only [List.length_cons, List.length_nil]; omega) | (apply has_setN; apply has_ofL; simp only [List.length_cons, List.length_nil]; omega)) only [↓bxD, bxP, bxQ, Nat.reduceBEq, reduceCtorEq, Nat.reduceAdd, Nat.reduceSub, Nat.reduceMul, Nat.reduceLeDiff, Nat.reduceLT, R10, R13, R22, R23, R24, R25, R4, R40, R41, R42, R43, R44, R45, R46, R47, R48, R5, R61, R62, R63, R64, R65, R9, nck_p, ev_fld1, hfld, e4, hc7, f1, hG, c0, c5, c14, get_set, map_ag, res_cN, cNV_p, cNo_cs, hgp, d1, d2, d3]
        refine bindP_call (alt_any hlo hkids hB2 g4 g5 g6 hlk (by omega) hkl) ?_
        rintro m M3 ⟨rfl, hB3, hF3⟩
        have e43 := hF3.old _ _ (by omega) e4
        have n3 := hF3.n
        have l3 := hF3.lo
        have hs1 := hst7 (altM kids ⟨false, 0, 0⟩ st).1
        simp (maxSteps := 4000000) (disch := first | omega | assumption | (simp only [bxS, stOk, Nat.reduceBEq, Nat.reduceEqDiff, Nat.reduceAdd]; done) | (simp only [push_lo, push_n, set_lo, set_n]; omega) | (simp only [push_n, set_n, beq_self_eq_true]; done) | (apply has_ofL; simp only [List.length_cons, List.length_nil]; omega) | (apply has_setN; apply has_ofL; simp only [List.length_cons, List.length_nil]; omega)) only [↓bxD, bxP, bxQ, Nat.reduceBEq, reduceCtorEq, Nat.reduceAdd, Nat.reduceSub, Nat.reduceMul, Nat.reduceLeDiff, Nat.reduceLT, R10, R13, R22, R23, R24, R25, R4, R40, R41, R42, R43, R44, R45, R46, R47, R48, R5, R61, R62, R63, R64, R65, R9, nck_p, ev_fld1, hfld, e4, hc7, f1, hG, c0, c5, c14, get_set, map_ag, res_cN, cNV_p, cNo_cs, hgp, e43]
        exact fin M3 (altM kids ⟨false, 0, 0⟩ st) (by rw [partM, if_neg h0, if_neg h1, if_neg h2, if_pos h3]) hB3 hF3
      have d3 : decide (op = 3) = false := decide_eq_false h3
      have h23 : ¬ (op = 2 ∨ op = 3) := fun h => h.elim h2 h3
      by_cases h4 : op = 4 ∨ op = 5 ∨ op = 6
      · have hc4 : cnt (.mk op a b c d kids) = cnt1 kids := by rw [cnt, if_neg h1, if_neg h23, if_pos h4]
        obtain ⟨y, ys, rfl⟩ : ∃ y ys, kids = y :: ys := by
          cases kids with
          | nil => rw [hc4] at h0; exact (h0 rfl).elim
          | cons y ys => exact ⟨y, ys, rfl⟩
        have hlk2 : (Rx.mk op a b c d (y :: ys)).lk = [y] := by rw [lk_mk, if_neg h23, if_pos h4]; rfl
        rw [hlk2] at hlk
        have hy0 := hlk 0 y rfl
        have hyn : NodeAt Mb y (sid kv) (soff kv + 0 * 6) := g6.get rfl
        have ix0 : ixV 6 kv (.i .i64 0) = some (.p (sid kv) (soff kv + 0 * 6)) := ix_sl (i := 0) g4 (by rw [g5]; simp)
        simp (maxSteps := 4000000) (disch := first | omega | assumption | (simp only [bxS, stOk, Nat.reduceBEq, Nat.reduceEqDiff, Nat.reduceAdd]; done) | (simp only [push_lo, push_n, set_lo, set_n]; omega) | (simp only [push_n, set_n, beq_self_eq_true]; done) | (apply has_ofL; simp only [List.length_cons, List.length_nil]; omega) | (apply has_setN; apply has_ofL; simp only [List.length_cons, List.length_nil]; omega)) only [↓bxD, bxP, bxQ, Nat.reduceBEq, reduceCtorEq, Nat.reduceAdd, Nat.reduceSub, Nat.reduceMul, Nat.reduceLeDiff, Nat.reduceLT, R10, R13, R22, R23, R24, R25, R4, R40, R41, R42, R43, R44, R45, R46, R47, R48, R5, R61, R62, R63, R64, R65, R9, nck_p, ev_fld1, hfld, e4, hc7, f1, hG, c0, c5, c14, get_set, map_ag, res_cN, cNV_p, cNo_cs, hgp, d1, d2, d3]
        show Wp fns K25_0 _ _ _
        unfold K25_0
        simp (maxSteps := 4000000) (disch := first | omega | assumption | (simp only [bxS, stOk, Nat.reduceBEq, Nat.reduceEqDiff, Nat.reduceAdd]; done) | (simp only [push_lo, push_n, set_lo, set_n]; omega) | (simp only [push_n, set_n, beq_self_eq_true]; done) | (apply has_ofL; simp only [List.length_cons, List.length_nil]; omega) | (apply has_setN; apply has_ofL; simp only [List.length_cons, List.length_nil]; omega)) only [↓bxD, bxP, bxQ, Nat.reduceBEq, reduceCtorEq, Nat.reduceAdd, Nat.reduceSub, Nat.reduceMul, Nat.reduceLeDiff, Nat.reduceLT, R10, R13, R22, R23, R24, R25, R4, R40, R41, R42, R43, R44, R45, R46, R47, R48, R5, R61, R62, R63, R64, R65, R9, nck_p, ev_fld1, hfld, e4, hc7, f1, hG, c0, c5, c14, get_set, map_ag, res_cN, cNV_p, cNo_cs, hgp]
        refine Wp_dreg_of (by omega) ?_
        simp (maxSteps := 4000000) (disch := first | omega | assumption | (simp only [bxS, stOk, Nat.reduceBEq, Nat.reduceEqDiff, Nat.reduceAdd]; done) | (simp only [push_lo, push_n, set_lo, set_n]; omega) | (simp only [push_n, set_n, beq_self_eq_true]; done) | (apply has_ofL; simp only [List.length_cons, List.length_nil]; omega) | (apply has_setN; apply has_ofL; simp only [List.length_cons, List.length_nil]; omega)) only [↓bxD, bxP, bxQ, Nat.reduceBEq, reduceCtorEq, Nat.reduceAdd, Nat.reduceSub, Nat.reduceMul, Nat.reduceLeDiff, Nat.reduceLT, R10, R13, R22, R23, R24, R25, R4, R40, R41, R42, R43, R44, R45, R46, R47, R48, R5, R61, R62, R63, R64, R65, R9, nck_p, ev_fld1, hfld, e4, hc7, f1, hG, c0, c5, c14, get_set, map_ag, res_cN, cNV_p, cNo_cs, hgp, ix0]
        refine bindP_call (rep_any hlo (hkids y List.mem_cons_self) hB2 (by simpa using hyn) (by simpa using hy0) (by rw [hc4, cnt1] at hb; exact hb)) ?_
        rintro m M3 ⟨rfl, hB3, hF3⟩
        have e43 := hF3.old _ _ (by omega) e4
        have n3 := hF3.n
        have l3 := hF3.lo
        have hs1 := hst7 (repP op (partM y st)).1
        simp (maxSteps := 4000000) (disch := first | omega | assumption | (simp only [bxS, stOk, Nat.reduceBEq, Nat.reduceEqDiff, Nat.reduceAdd]; done) | (simp only [push_lo, push_n, set_lo, set_n]; omega) | (simp only [push_n, set_n, beq_self_eq_true]; done) | (apply has_ofL; simp only [List.length_cons, List.length_nil]; omega) | (apply has_setN; apply has_ofL; simp only [List.length_cons, List.length_nil]; omega)) only [↓bxD, bxP, bxQ, Nat.reduceBEq, reduceCtorEq, Nat.reduceAdd, Nat.reduceSub, Nat.reduceMul, Nat.reduceLeDiff, Nat.reduceLT, R10, R13, R22, R23, R24, R25, R4, R40, R41, R42, R43, R44, R45, R46, R47, R48, R5, R61, R62, R63, R64, R65, R9, nck_p, ev_fld1, hfld, e4, hc7, f1, hG, c0, c5, c14, get_set, map_ag, res_cN, cNV_p, cNo_cs, hgp, e43]
        show Wp fns IC.ret _ _ _
        simp (maxSteps := 4000000) (disch := first | omega | assumption | (simp only [bxS, stOk, Nat.reduceBEq, Nat.reduceEqDiff, Nat.reduceAdd]; done) | (simp only [push_lo, push_n, set_lo, set_n]; omega) | (simp only [push_n, set_n, beq_self_eq_true]; done) | (apply has_ofL; simp only [List.length_cons, List.length_nil]; omega) | (apply has_setN; apply has_ofL; simp only [List.length_cons, List.length_nil]; omega)) only [↓bxD, bxP, bxQ, Nat.reduceBEq, reduceCtorEq, Nat.reduceAdd, Nat.reduceSub, Nat.reduceMul, Nat.reduceLeDiff, Nat.reduceLT, R10, R13, R22, R23, R24, R25, R4, R40, R41, R42, R43, R44, R45, R46, R47, R48, R5, R61, R62, R63, R64, R65, R9, nck_p, ev_fld1, hfld, e4, hc7, f1, hG, c0, c5, c14, get_set, map_ag, res_cN, cNV_p, cNo_cs, hgp]
        exact fin M3 (repP op (partM y st)) (by rw [partM, if_neg h0, if_neg h1, if_neg h2, if_neg h3, rep1M]) hB3 hF3
      · exact (h0 (by rw [cnt, if_neg h1, if_neg h23, if_neg h4])).elim
end Go.Proofs.Ytaagkdljkpbilaa.K
