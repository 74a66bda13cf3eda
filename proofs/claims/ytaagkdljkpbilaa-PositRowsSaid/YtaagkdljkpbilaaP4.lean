/-
  A place of a set is built. Conditions: none.
-/
import Derived.Test.YtaagkdljkpbilaaP3
import Derived.Test.YtaagkdljkpbilaaLitK
import Derived.Test.YtaagkdljkpbilaaSw
import Derived.Test.YtaagkdljkpbilaaBx
set_option linter.unusedSimpArgs false
set_option linter.unusedVariables false
namespace Go.Proofs.Ytaagkdljkpbilaa.K
open Go Ev
set_option maxRecDepth 100000
set_option maxHeartbeats 4000000

def st4 (a b c d : Int) : List MV := [.i .u64 a, .i .u64 b, .i .u64 c, .i .u64 d]
theorem place_any {Mb M : MH} {bx mid : Nat} {mv pv : MV} {ms : List Mk} {b : Bs} {s0 s1 s2 s3 : Int} (h : Bd Mb M bx mid mv pv ms b) (hlo : Mb.lo ≤ Mb.n) (hb : b.sets.length ≤ 190) :
    Cp fns 45 [.p bx 0, .ag (st4 s0 s1 s2 s3)] M fun m M' => m = .ag (Pm.cells ⟨false, 2 ^ b.sets.length, 2 ^ b.sets.length⟩) ∧ Bd Mb M' bx mid mv pv ms ⟨b.sets ++ [st4 s0 s1 s2 s3], b.fol ++ [0]⟩ ∧ Fr7 M M' := by
  obtain ⟨c, sv, fv, h⟩ := h
  have en := h.ext.n
  have el := h.ext.lo
  refine Cp_call (fn := F45) (by kernel_rfl) (Nat.le_of_ble_eq_true rfl) ?_
  show Wp fns B45 (T.set q1 (some (.ag (st4 s0 s1 s2 s3))) (T.set q0 (some (.p bx 0)) T.lf)) M _
  unfold B45
  have hU : isU (.ag (st4 s0 s1 s2 s3)) = false := rfl
  have hcl : MV.cells (.ag (st4 s0 s1 s2 s3)) = st4 s0 s1 s2 s3 := rfl
  have hlen : (st4 s0 s1 s2 s3).length = 4 := rfl
  have hbl := h.bl
  have c3 : cget c 3 = some sv := h.at_ 3 _ rfl
  have c4 : cget c 4 = some fv := h.at_ 4 _ rfl
  obtain ⟨r1, r2⟩ := h.rs.row.sl
  have hg := h.g
  simp (maxSteps := 4000000) (disch := first | omega | assumption | (simp only [bxS, stOk, Nat.reduceBEq, Nat.reduceEqDiff, Nat.reduceAdd]; done) | (simp only [push_lo, push_n, set_lo, set_n]; omega) | (apply has_ofL; simp only [List.length_cons, List.length_nil]; omega) | (apply has_setN; apply has_ofL; simp only [List.length_cons, List.length_nil]; omega)) only [↓bxD, bxP, bxQ, bxQ2, Nat.reduceBEq, reduceCtorEq, Nat.reduceAdd, Nat.reduceSub, Nat.reduceMul, Nat.reduceLeDiff, Nat.reduceLT, R10, R13, R22, R23, R24, R25, R4, R40, R41, R42, R43, R44, R45, R46, R47, R48, R5, R61, R62, R63, R64, R65, R9, hU, hcl, hlen, nck_p]
  generalize hM1 : ((M.push _).push _).push _ = M1
  have g0 : M1.get M.n = some (.cs false 4 (ofL (st4 s0 s1 s2 s3) 0)) := by rw [← hM1, push_old (by show M.n < M.n + 2; omega), push_old (by show M.n < M.n + 1; omega)]; exact push_new _
  have g1 : M1.get (M.n + 1) = some (.cs false 7 (ofL [.b false, .i .u64 0, .i .u64 0, .i .u64 0, .i .u64 0, .i .u64 0, .i .u64 0] 0)) := by rw [← hM1, push_old (by show M.n + 1 < M.n + 2; omega)]; exact push_new (M := M.push _) _
  have g2 : M1.get (M.n + 1 + 1) = some (.cs false 3 (ofL (plc 0) 0)) := by rw [← hM1]; exact push_new (M := (M.push _).push _) _
  have hx : Ext M M1 := by rw [← hM1]; exact ((Ext.push M _).trans (.push _ _)).trans (.push _ _)
  have hn : M1.n = M.n + 3 := by rw [← hM1]; rfl
  have hl := hx.lo
  clear hM1
  have h1 := h.more hx
  have hg1 := h1.g
  simp (maxSteps := 4000000) (disch := first | omega | assumption | (simp only [bxS, stOk, Nat.reduceBEq, Nat.reduceEqDiff, Nat.reduceAdd]; done) | (simp only [push_lo, push_n, set_lo, set_n]; omega) | (apply has_ofL; simp only [List.length_cons, List.length_nil]; omega) | (apply has_setN; apply has_ofL; simp only [List.length_cons, List.length_nil]; omega)) only [↓bxD, bxP, bxQ, bxQ2, Nat.reduceBEq, reduceCtorEq, Nat.reduceAdd, Nat.reduceSub, Nat.reduceMul, Nat.reduceLeDiff, Nat.reduceLT, R10, R13, R22, R23, R24, R25, R4, R40, R41, R42, R43, R44, R45, R46, R47, R48, R5, R61, R62, R63, R64, R65, R9, nck_p, hg, hg1, c3, r1, r2, len_sl]
  refine bindP_call (add_any' (by omega) (by omega) (by omega) g2 (at_ofL (plc 0))) ?_
  rintro m M2 ⟨x2, c2', g2', at2⟩
  rw [show (0 : Nat) ||| 2 ^ b.sets.length = 2 ^ b.sets.length from Nat.zero_or _] at at2
  have n2 := x2.n
  have l2 := x2.lo
  have g0' := (x2.old M.n (by omega) (by omega)).trans g0
  have g1' := (x2.old (M.n + 1) (by omega) (by omega)).trans g1
  have hg2 := (x2.old bx (by omega) (by omega)).trans hg1
  have hG4 : Ev.getN (ofL (st4 s0 s1 s2 s3) 0) 4 0 = some (st4 s0 s1 s2 s3) := (at_ofL (st4 s0 s1 s2 s3)).getN
  have ff : fillM [(0, 4, .ag (st4 s0 s1 s2 s3))] (zrow [.i .u64 0, .i .u64 0, .i .u64 0, .i .u64 0] 1) = some (st4 s0 s1 s2 s3) := rfl
  simp (maxSteps := 4000000) (disch := first | omega | assumption | (simp only [bxS, stOk, Nat.reduceBEq, Nat.reduceEqDiff, Nat.reduceAdd]; done) | (simp only [push_lo, push_n, set_lo, set_n]; omega) | (apply has_ofL; simp only [List.length_cons, List.length_nil]; omega) | (apply has_setN; apply has_ofL; simp only [List.length_cons, List.length_nil]; omega)) only [↓bxD, bxP, bxQ, bxQ2, Nat.reduceBEq, reduceCtorEq, Nat.reduceAdd, Nat.reduceSub, Nat.reduceMul, Nat.reduceLeDiff, Nat.reduceLT, R10, R13, R22, R23, R24, R25, R4, R40, R41, R42, R43, R44, R45, R46, R47, R48, R5, R61, R62, R63, R64, R65, R9, nck_p, hg, hg1, c3, r1, r2, len_sl]
  refine Wp_dreg_of (by omega) ?_
  have hpl : ∀ m o, pushV M2.lift m o = some (m, M2.lift.push o) := fun m o => push_ok (Nat.le_refl _)
  simp (maxSteps := 4000000) (disch := first | omega | assumption | (simp only [bxS, stOk, Nat.reduceBEq, Nat.reduceEqDiff, Nat.reduceAdd]; done) | (simp only [push_lo, push_n, set_lo, set_n]; omega) | (apply has_ofL; simp only [List.length_cons, List.length_nil]; omega) | (apply has_setN; apply has_ofL; simp only [List.length_cons, List.length_nil]; omega)) only [↓bxD, bxP, bxQ, bxQ2, Nat.reduceBEq, reduceCtorEq, Nat.reduceAdd, Nat.reduceSub, Nat.reduceMul, Nat.reduceLeDiff, Nat.reduceLT, R10, R13, R22, R23, R24, R25, R4, R40, R41, R42, R43, R44, R45, R46, R47, R48, R5, R61, R62, R63, R64, R65, R9, nck_p, hg, hg1, c3, r1, r2, len_sl, hg2, g0', hG4, ff, bslW_some, hcl, hpl]
  generalize hM3 : MH.down _ _ = M3
  have t3 : RowAt M3 4 (.sl M2.n 0 1 0) [st4 s0 s1 s2 s3] := by rw [← hM3]; exact (row_one (M := M2.lift) rfl).sub (.down _ _)
  have x3 : Ext M2 M3 := by rw [← hM3]; exact Sub.ext (((Sub.lift M2).trans (Ext.push M2.lift _).sub).trans (.down _ _)) rfl
  have n3 : M3.n = M2.n + 1 := by rw [← hM3]; rfl
  have l3 := x3.lo
  clear hM3
  have rs2 : OwnRow Mb.n M2 4 sv b.sets := h1.rs.keep n2 fun a n d e e2 => by
    obtain ⟨cc, q1, q2, q3⟩ := own_id h1.rs e2
    exact x2.old a q3 fun e => by rw [e, g2] at q1; cases q1
  have rf2 : OwnRow Mb.n M2 3 fv (b.fol.map plc) := h1.rf.keep n2 fun a n d e e2 => by
    obtain ⟨cc, q1, q2, q3⟩ := own_id h.rf e2
    exact x2.old a (by omega) (by omega)
  have hsl := h.len
  obtain ⟨sv', M4, a1, a2, a3, a4, a5, a6, a7⟩ := app_rowX (bytes := 32) (rs2.ext x3) t3 (by omega) (by omega) (fun e he => by
    simp only [List.mem_cons, List.not_mem_nil, or_false] at he
    subst he; rfl) (by simp only [List.length_cons, List.length_nil]; omega) (by simp only [List.length_cons, List.length_nil]; omega)
  obtain ⟨nn, rfl⟩ := a7 (by simp)
  have other : ∀ j sz cc, j < M2.n → sz ≠ 4 → M2.get j = some (.cs false sz cc) → M4.get j = some (.cs false sz cc) := fun j sz cc hj hz e => by
    have e3 := (x3.old j hj).trans e
    rw [a5 j (by omega) fun a n d f e2 e4 => by
      obtain ⟨c5, q1, q2, q3⟩ := own_id (rs2.ext x3) e2
      rw [e4, e3] at q1; cases q1; exact hz rfl]
    exact e3
  have bx4 := other bx 5 c (by omega) (by omega) hg2
  have ex4 : Ext Mb M4 := ⟨by omega, by omega, fun j hj => by
    rw [a6 j hj (by omega), x3.old j (by omega), x2.old j (by omega) (by omega), hx.old j (by omega)]; exact h.ext.old j hj⟩
  have hb1 : hasB c 1 3 = true := has_at h.at_ (by omega) (by simp)
  have hb2 : hasB c 1 4 = true := has_at h.at_ (by omega) (by simp)
  refine bindP_of a1 ?_
  simp (maxSteps := 4000000) (disch := first | omega | assumption | (simp only [bxS, stOk, Nat.reduceBEq, Nat.reduceEqDiff, Nat.reduceAdd]; done) | (simp only [push_lo, push_n, set_lo, set_n]; omega) | (apply has_ofL; simp only [List.length_cons, List.length_nil]; omega) | (apply has_setN; apply has_ofL; simp only [List.length_cons, List.length_nil]; omega)) only [↓bxD, bxP, bxQ, bxQ2, Nat.reduceBEq, reduceCtorEq, Nat.reduceAdd, Nat.reduceSub, Nat.reduceMul, Nat.reduceLeDiff, Nat.reduceLT, R10, R13, R22, R23, R24, R25, R4, R40, R41, R42, R43, R44, R45, R46, R47, R48, R5, R61, R62, R63, R64, R65, R9, nck_p, hg, hg1, c3, r1, r2, len_sl, bx4, cells_sl]
  show Wp fns K45_0 _ _ _
  generalize hM5 : MH.set _ _ _ = M5
  generalize hfr : (T.set _ _ _ : Fr) = f1
  have u0 : X.ev f1 (.t q0) = .p bx 0 := by rw [← hfr]; simp (maxSteps := 4000000) (disch := first | omega | assumption | (simp only [bxS, stOk, Nat.reduceBEq, Nat.reduceEqDiff, Nat.reduceAdd]; done) | (simp only [push_lo, push_n, set_lo, set_n]; omega) | (apply has_ofL; simp only [List.length_cons, List.length_nil]; omega) | (apply has_setN; apply has_ofL; simp only [List.length_cons, List.length_nil]; omega)) only [↓bxD, bxP, bxQ, bxQ2, Nat.reduceBEq, reduceCtorEq, Nat.reduceAdd, Nat.reduceSub, Nat.reduceMul, Nat.reduceLeDiff, Nat.reduceLT, R10, R13, R22, R23, R24, R25, R4, R40, R41, R42, R43, R44, R45, R46, R47, R48, R5, R61, R62, R63, R64, R65, R9, nck_p, hg, hg1, c3, r1, r2, len_sl]
  have u4 : f1.get q4 = some (.p (M.n + 1) 0) := by rw [← hfr]; simp (maxSteps := 4000000) (disch := first | omega | assumption | (simp only [bxS, stOk, Nat.reduceBEq, Nat.reduceEqDiff, Nat.reduceAdd]; done) | (simp only [push_lo, push_n, set_lo, set_n]; omega) | (apply has_ofL; simp only [List.length_cons, List.length_nil]; omega) | (apply has_setN; apply has_ofL; simp only [List.length_cons, List.length_nil]; omega)) only [↓bxD, bxP, bxQ, bxQ2, Nat.reduceBEq, reduceCtorEq, Nat.reduceAdd, Nat.reduceSub, Nat.reduceMul, Nat.reduceLeDiff, Nat.reduceLT, R10, R13, R22, R23, R24, R25, R4, R40, R41, R42, R43, R44, R45, R46, R47, R48, R5, R61, R62, R63, R64, R65, R9, nck_p, hg, hg1, c3, r1, r2, len_sl, get_set]
  have u5 : X.ev f1 (.t q5) = .p (M.n + 1 + 1) 0 := by rw [← hfr]; simp (maxSteps := 4000000) (disch := first | omega | assumption | (simp only [bxS, stOk, Nat.reduceBEq, Nat.reduceEqDiff, Nat.reduceAdd]; done) | (simp only [push_lo, push_n, set_lo, set_n]; omega) | (apply has_ofL; simp only [List.length_cons, List.length_nil]; omega) | (apply has_setN; apply has_ofL; simp only [List.length_cons, List.length_nil]; omega)) only [↓bxD, bxP, bxQ, bxQ2, Nat.reduceBEq, reduceCtorEq, Nat.reduceAdd, Nat.reduceSub, Nat.reduceMul, Nat.reduceLeDiff, Nat.reduceLT, R10, R13, R22, R23, R24, R25, R4, R40, R41, R42, R43, R44, R45, R46, R47, R48, R5, R61, R62, R63, R64, R65, R9, nck_p, hg, hg1, c3, r1, r2, len_sl]
  have u4' := ev_get u4
  clear hfr
  simp only [q0, q4, q5] at u0 u4 u4' u5
  have x5 : Chg (fun j => j = bx) M4 M5 := by rw [← hM5]; exact (Chg.refl (fun j => j = bx) M4).set _ (.inl rfl)
  have bx5 : M5.get bx = some (.cs false 5 (setN [.sl M3.n 0 nn 0] 3 c)) := by rw [← hM5]; exact set_same _ _
  have n5 : M5.n = M4.n := by rw [← hM5]; rfl
  have l5 := x5.lo
  clear hM5
  have at5 : At (setN [.sl M3.n 0 nn 0] 3 c) 0 [.m mid, mv, pv, .sl M3.n 0 nn 0, fv] := h.at_.set' 3 _ (by simp) rfl
  have c4' : cget (setN [.sl M3.n 0 nn 0] 3 c) 4 = some fv := at5 4 _ rfl
  have other5 : ∀ j sz cc, j < M2.n → sz ≠ 4 → sz ≠ 5 → M2.get j = some (.cs false sz cc) → M5.get j = some (.cs false sz cc) := fun j sz cc hj hz hz5 e => by
    rw [x5.old j (by omega) (fun e2 => by rw [e2, hg2] at e; cases e; exact hz5 rfl)]
    exact other j sz cc hj hz e
  have rf5 : OwnRow Mb.n M5 3 fv (b.fol.map plc) := rf2.keep (by omega) fun a n d e e2 => by
    obtain ⟨cc, q1, q2, q3⟩ := own_id rf2 e2
    rw [other5 a 3 cc q3 (by omega) (by omega) q1, q1]
  have rs5 : OwnRow Mb.n M5 4 (.sl M3.n 0 nn 0) (b.sets ++ [st4 s0 s1 s2 s3]) := a2.keep (by omega) fun a n d e e2 => by
    obtain ⟨cc, q1, q2, q3⟩ := own_id a2 e2
    exact x5.old a q3 fun e3 => by rw [e3, bx4] at q1; cases q1
  have t55 := other5 (M.n + 1 + 1) 3 c2' (by omega) (by omega) (by omega) g2'
  have t45 := other5 (M.n + 1) 7 _ (by omega) (by omega) (by omega) g1'
  have ex5 : Ext Mb M5 := ⟨by omega, by omega, fun j hj => by rw [x5.old j (by omega) (by omega)]; exact ex4.old j hj⟩
  have f2 : fillM [(0, 3, .ag [.i .u64 0, .i .u64 0, .i .u64 0])] (zrow [.i .u64 0, .i .u64 0, .i .u64 0] 1) = some [.i .u64 0, .i .u64 0, .i .u64 0] := rfl
  unfold K45_0
  simp (maxSteps := 4000000) (disch := first | omega | assumption | (simp only [bxS, stOk, Nat.reduceBEq, Nat.reduceEqDiff, Nat.reduceAdd]; done) | (simp only [push_lo, push_n, set_lo, set_n]; omega) | (apply has_ofL; simp only [List.length_cons, List.length_nil]; omega) | (apply has_setN; apply has_ofL; simp only [List.length_cons, List.length_nil]; omega)) only [↓bxD, bxP, bxQ, bxQ2, Nat.reduceBEq, reduceCtorEq, Nat.reduceAdd, Nat.reduceSub, Nat.reduceMul, Nat.reduceLeDiff, Nat.reduceLT, R10, R13, R22, R23, R24, R25, R4, R40, R41, R42, R43, R44, R45, R46, R47, R48, R5, R61, R62, R63, R64, R65, R9, nck_p, hg, hg1, c3, r1, r2, len_sl, u0, u4, u4', u5, bx5, c4', f2, bslW_some, fill_nil]
  generalize hM6 : M5.push _ = M6
  have t6 : RowAt M6 3 (.sl M5.n 0 1 0) [plc 0] := by rw [← hM6]; exact row_one rfl
  have x6 : Ext M5 M6 := by rw [← hM6]; exact .push _ _
  have n6 : M6.n = M5.n + 1 := by rw [← hM6]; rfl
  have l6 := x6.lo
  clear hM6
  obtain ⟨fv', M7, b1, b2, b3, b4, b5, b6, b7⟩ := app_rowX (bytes := 24) (rf5.ext x6) t6 (by omega) (by omega) (fun e he => by
    simp only [List.mem_cons, List.not_mem_nil, or_false] at he
    subst he; rfl) (by rw [List.length_map]; simp only [List.length_cons, List.length_nil]; omega) (by rw [List.length_map]; simp only [List.length_cons, List.length_nil]; omega)
  obtain ⟨nf, rfl⟩ := b7 (by simp)
  have hfvlt : ∀ a n d e, fv = .sl a n d e → a < M.n := fun a n d e e2 => by
    obtain ⟨cc, q1, q2, q3⟩ := own_id h.rf e2
    exact q3
  have oth7 : ∀ j o, j < M5.n → (∀ a n d e, fv = .sl a n d e → a ≠ j) → M5.get j = some o → M7.get j = some o := fun j o hj hz e => by
    rw [b5 j (by omega) hz, x6.old j hj]; exact e
  have bx7 := oth7 bx _ (by omega) (fun a n d e e2 e3 => by
    obtain ⟨cc, q1, q2, q3⟩ := own_id rf5 e2
    rw [e3, bx5] at q1; cases q1) bx5
  have t57 := oth7 (M.n + 1 + 1) _ (by omega) (fun a n d e e2 e3 => by have := hfvlt a n d e e2; omega) t55
  have t47 := oth7 (M.n + 1) _ (by omega) (fun a n d e e2 e3 => by have := hfvlt a n d e e2; omega) t45
  have hb3 : hasB (setN [.sl M3.n 0 nn 0] 3 c) 1 4 = true := has_setN _ _ _ _ hb2
  have hne : M.n + 1 + 1 ≠ bx := by omega
  have hne2 : M.n + 1 ≠ bx := by omega
  have hgN : Ev.getN c2' 3 0 = some (plc (2 ^ b.sets.length)) := at2.getN
  have f3 : fillM [(1, 3, .ag (plc (2 ^ b.sets.length))), (4, 3, .ag (plc (2 ^ b.sets.length)))] [.b false, .i .u64 0, .i .u64 0, .i .u64 0, .i .u64 0, .i .u64 0, .i .u64 0] = some (Pm.cells ⟨false, 2 ^ b.sets.length, 2 ^ b.sets.length⟩) := rfl
  have hc7 : ∀ p : Pm, MV.cells (.ag p.cells) = p.cells := fun _ => rfl
  have hst7 : ∀ p : Pm, stOk 7 (.ag p.cells) = true := fun _ => rfl
  have hst7' := hst7 ⟨false, 2 ^ b.sets.length, 2 ^ b.sets.length⟩
  have hgp : ∀ (p : Pm) l, Ev.getN (setN p.cells 0 (ofL l 0)) 7 0 = some p.cells := fun p l => getN_setN' rfl
  refine bindP_of b1 ?_
  simp (maxSteps := 4000000) (disch := first | omega | assumption | (simp only [bxS, stOk, Nat.reduceBEq, Nat.reduceEqDiff, Nat.reduceAdd]; done) | (simp only [push_lo, push_n, set_lo, set_n]; omega) | (apply has_ofL; simp only [List.length_cons, List.length_nil]; omega) | (apply has_setN; apply has_ofL; simp only [List.length_cons, List.length_nil]; omega)) only [↓bxD, bxP, bxQ, bxQ2, Nat.reduceBEq, reduceCtorEq, Nat.reduceAdd, Nat.reduceSub, Nat.reduceMul, Nat.reduceLeDiff, Nat.reduceLT, R10, R13, R22, R23, R24, R25, R4, R40, R41, R42, R43, R44, R45, R46, R47, R48, R5, R61, R62, R63, R64, R65, R9, nck_p, hg, hg1, c3, r1, r2, len_sl, u0, u4, u4', u5, bx7, cells_sl, t57, t47, hgN, f3, hc7, res_cN, cNV_p, cNo_cs, get_set, hgp]
  generalize hM9 : MH.set _ _ _ = M9
  have x9 : Chg (fun j => j = bx ∨ j = M.n + 1) M7 M9 := by rw [← hM9]; exact ((Chg.refl (fun j => j = bx ∨ j = M.n + 1) M7).set _ (.inl (.inl rfl))).set _ (.inl (.inr rfl))
  have bx9 : M9.get bx = some (.cs false 5 (setN [MV.sl M6.n 0 nf 0] 4 (setN [MV.sl M3.n 0 nn 0] 3 c))) := by rw [← hM9, set_ne (by omega)]; exact set_same _ _
  have n9 := x9.n
  have l9 := x9.lo
  clear hM9
  have sz7 : ∀ j cc, j < M.n → M.get j = some (.cs false 7 cc) → M9.get j = some (.cs false 7 cc) := fun j cc hj e => by
    have e2 : M2.get j = some (.cs false 7 cc) := (x2.old j (by omega) (by omega)).trans ((hx.old j hj).trans e)
    have e5 := other5 j 7 cc (by omega) (by omega) (by omega) e2
    have e7 := oth7 j _ (by omega) (fun a n d f q q' => by
      obtain ⟨c1, q1, _⟩ := own_id rf5 q
      rw [q', e5] at q1; cases q1) e5
    rw [x9.old j (by omega) (by
      rintro (q | q)
      · rw [q, bx7] at e7; cases e7
      · omega)]
    exact e7
  refine ⟨⟨_, .sl M3.n 0 nn 0, .sl M6.n 0 nf 0, h.srv, ⟨by omega, by omega, fun j hj => ?_⟩, bx9, ⟨hbl.1, by omega⟩, at5.set' 4 _ (by simp) rfl, ?_, ?_, by rw [List.length_append, List.length_append, h.len]; rfl⟩, ⟨by omega, by omega, sz7⟩⟩
  · rw [x9.old j (by omega) (by omega), b6 j hj (by omega), x6.old j (by omega)]
    exact ex5.old j hj
  · exact rs5.keep (by omega) fun a n d e e2 => by
      obtain ⟨cc, q1, q2, q3⟩ := own_id rs5 e2
      have e7 := oth7 a _ q3 (fun a' n' d' f' q q' => by
        obtain ⟨c1, q1', _⟩ := own_id rf5 q
        rw [q', q1] at q1'; cases q1') q1
      rw [x9.old a (by omega) (by
        rintro (q | q)
        · rw [q, bx7] at e7; cases e7
        · rw [q, t47] at e7; cases e7)]
      rw [e7, q1]
  · have hr : OwnRow Mb.n M7 3 (.sl M6.n 0 nf 0) ((b.fol ++ [0]).map plc) := by rw [List.map_append]; exact b2
    exact hr.keep (by omega) fun a n d e e2 => by
      obtain ⟨cc, q1, q2, q3⟩ := own_id hr e2
      exact x9.old a q3 (by
        rintro (q | q)
        · rw [q, bx7] at q1; cases q1
        · rw [q, t47] at q1; cases q1)
end Go.Proofs.Ytaagkdljkpbilaa.K
