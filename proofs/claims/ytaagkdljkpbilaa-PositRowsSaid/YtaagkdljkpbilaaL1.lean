/-
  The law PositLimits: its end, whatever pattern was built. Conditions: none.
-/
import Derived.Test.YtaagkdljkpbilaaQ2
import Derived.Test.YtaagkdljkpbilaaLitK
import Derived.Test.YtaagkdljkpbilaaSw
import Derived.Test.YtaagkdljkpbilaaBx
set_option linter.unusedSimpArgs false
set_option linter.unusedVariables false
namespace Go.Proofs.Ytaagkdljkpbilaa.K
open Go Ev
set_option maxRecDepth 100000
set_option maxHeartbeats 4000000

theorem Cp_true {fns : Nat → Option IFn} {g : Nat} {M : MH} (hg : fns g = some Ftrue) : Cp fns g [] M fun m M' => m = .b true ∧ M' = M := by
  refine Cp_call hg (Nat.le_refl _) ?_
  show Wp fns (.reg [⟨some (.k1 .d0), none, .mov (.c (.b true))⟩]) _ M _
  simp only [Wp_reg_iff, Wl_op_iff, Wl_nil_iff, bindP_some, ev_mov, ev_c, setD_some, retQ_norm, show Ftrue.res = [.tmp (.k1 .d0)] from rfl, resL_1, res_set, if_true, Option.some.injEq, exists_eq_left']
  simp [packM]
theorem num_any {M : MH} {z : Int} : Cp fns 10 [.i .i64 z] M fun m M' => m = .i .i64 z ∧ M' = M := by
  refine Cp_call (fn := F10) (by kernel_rfl) (Nat.le_of_ble_eq_true rfl) ?_
  show Wp fns B10 (T.set q0 (some (.i .i64 z)) T.lf) M _
  unfold B10
  simp (maxSteps := 4000000) (disch := first | omega | assumption | (simp only [bxS, stOk, Nat.reduceBEq, Nat.reduceEqDiff, Nat.reduceAdd]; done) | (simp only [push_lo, push_n, set_lo, set_n]; omega) | (simp only [push_n, set_n, beq_self_eq_true]; done) | (apply has_ofL; simp only [List.length_cons, List.length_nil]; omega) | (apply has_setN; apply has_ofL; simp only [List.length_cons, List.length_nil]; omega)) only [↓bxD, bxP, bxQ, bxQ2, Nat.reduceBEq, reduceCtorEq, Nat.reduceAdd, Nat.reduceSub, Nat.reduceMul, Nat.reduceLeDiff, Nat.reduceLT, R10, R13, R22, R23, R24, R25, R4, R40, R41, R42, R43, R44, R45, R46, R47, R48, R5, R61, R62, R63, R64, R65, R9]
/-- What Of tells, in short: a struct and an error. -/
theorem of_short {M M' : MH} {x : Rx} {m : MV} (h : OfPost M x m M') : Ext M M' ∧ ∃ mm e, m = .tp [mm, .i .i64 e] ∧ stOk 5 mm = true ∧ (∃ l, mm = .ag l ∧ l.length = 5) ∧ ((150 < cnt x ∧ e = 3) ∨ (cnt x ≤ 150 ∧ 200 < deep x ∧ e = 4) ∨ (cnt x ≤ 150 ∧ deep x ≤ 200 ∧ e = 0)) := by
  obtain ⟨hx, ⟨h1, rfl⟩ | ⟨h1, h2, rfl⟩ | ⟨h1, h2, mm, rfl, vs, vf, vl, vo, rfl, p1, p2, p3, es, p4, _⟩⟩ := h
  · exact ⟨hx, _, _, rfl, rfl, ⟨_, rfl, rfl⟩, .inl ⟨h1, rfl⟩⟩
  · exact ⟨hx, _, _, rfl, rfl, ⟨_, rfl, rfl⟩, .inr (.inl ⟨h1, h2, rfl⟩)⟩
  · refine ⟨hx, _, _, rfl, ?_, ⟨_, rfl, rfl⟩, .inr (.inr ⟨h1, h2, rfl⟩)⟩
    obtain ⟨s1, _⟩ := p1.row.sl
    obtain ⟨s2, _⟩ := p2.row.sl
    obtain ⟨s3, _⟩ := p3.row.sl
    obtain ⟨s4, _⟩ := p4.row.sl
    cases vs <;> first | cases s1 | skip
    all_goals cases vf <;> first | cases s2 | skip
    all_goals cases vl <;> first | cases s3 | skip
    all_goals cases vo <;> first | cases s4 | skip
    all_goals rfl
theorem lim_end {f : Fr} {M : MH} {XB n : Nat} {dp : Bool} {c0 : T MV} {op a b c d : Int} {kids : List Rx} {kv : MV} (hlo : M.lo ≤ M.n) (h6 : X.ev f (.t q6) = .p XB 0) (h0 : X.ev f (.t q0) = .i .i64 (n : Int)) (h1 : X.ev f (.t q1) = .b dp) (hg : M.get XB = some (.cs false 6 c0)) (hat : At c0 0 (rcs op a b c d kv)) (k1 : isSl kv = true) (k2 : slen kv = kids.length) (k3 : NodesAt M kids (sid kv) (soff kv)) (hw : wei (.mk op a b c d kids) ≤ 400000000)
    (hd : dp = true → cnt (.mk op a b c d kids) ≤ 150 ∧ deep (.mk op a b c d kids) = n) (hf : dp = false → cnt (.mk op a b c d kids) = n ∧ deep (.mk op a b c d kids) ≤ 200) : Wp fns K5_7 f M (retQ F5 fun m _ => m = .b true) := by
  have hgN : Ev.getN c0 6 0 = some (rcs op a b c d kv) := hat.getN
  simp only [q0, q1, q6] at h6 h0 h1
  unfold K5_7
  simp (maxSteps := 4000000) (disch := first | omega | assumption | (simp only [bxS, stOk, Nat.reduceBEq, Nat.reduceEqDiff, Nat.reduceAdd]; done) | (simp only [push_lo, push_n, set_lo, set_n]; omega) | (simp only [push_n, set_n, beq_self_eq_true]; done) | (apply has_ofL; simp only [List.length_cons, List.length_nil]; omega) | (apply has_setN; apply has_ofL; simp only [List.length_cons, List.length_nil]; omega)) only [↓bxD, bxP, bxQ, bxQ2, Nat.reduceBEq, reduceCtorEq, Nat.reduceAdd, Nat.reduceSub, Nat.reduceMul, Nat.reduceLeDiff, Nat.reduceLT, R10, R13, R22, R23, R24, R25, R4, R40, R41, R42, R43, R44, R45, R46, R47, R48, R5, R61, R62, R63, R64, R65, R9, h6, h0, h1, hg, hgN, map_ag, push_at]
  refine bindP_call (of_any hlo k1 k2 k3 hw) ?_
  rintro m M2 hP
  obtain ⟨hx, mm, e, rfl, hst, ⟨l, rfl, hl5⟩, he⟩ := of_short hP
  have n2 := hx.n
  have l2 := hx.lo
  have hi0 : ([MV.ag l, MV.i .i64 e] : List MV)[0]? = some (.ag l) := rfl
  have hb5 : hasB (ofL [MV.nils, .b false, .nils, .nils, .nils] 0) 5 0 = true := has_ofL _ _ _ (by decide)
  simp (maxSteps := 4000000) (disch := first | omega | assumption | (simp only [bxS, stOk, Nat.reduceBEq, Nat.reduceEqDiff, Nat.reduceAdd]; done) | (simp only [push_lo, push_n, set_lo, set_n]; omega) | (simp only [push_n, set_n, beq_self_eq_true]; done) | (apply has_ofL; simp only [List.length_cons, List.length_nil]; omega) | (apply has_setN; apply has_ofL; simp only [List.length_cons, List.length_nil]; omega)) only [↓bxD, bxP, bxQ, bxQ2, Nat.reduceBEq, reduceCtorEq, Nat.reduceAdd, Nat.reduceSub, Nat.reduceMul, Nat.reduceLeDiff, Nat.reduceLT, R10, R13, R22, R23, R24, R25, R4, R40, R41, R42, R43, R44, R45, R46, R47, R48, R5, R61, R62, R63, R64, R65, R9, h6, h0, h1, hg, hgN, map_ag, push_at]
  have z00 : decide ((0 : Int) = 0) = true := rfl
  have z40 : decide ((4 : Int) = 0) = false := rfl
  have z30 : decide ((3 : Int) = 0) = false := rfl
  have z44 : decide ((4 : Int) = 4) = true := rfl
  have z33 : decide ((3 : Int) = 3) = true := rfl
  have bt : ((true : Bool) == true) = true := rfl
  have bf : ((false : Bool) == false) = true := rfl
  cases dp with
  | true =>
    obtain ⟨hd1, hd2⟩ := hd rfl
    simp (maxSteps := 4000000) (disch := first | omega | assumption | (simp only [bxS, stOk, Nat.reduceBEq, Nat.reduceEqDiff, Nat.reduceAdd]; done) | (simp only [push_lo, push_n, set_lo, set_n]; omega) | (simp only [push_n, set_n, beq_self_eq_true]; done) | (apply has_ofL; simp only [List.length_cons, List.length_nil]; omega) | (apply has_setN; apply has_ofL; simp only [List.length_cons, List.length_nil]; omega)) only [↓bxD, bxP, bxQ, bxQ2, Nat.reduceBEq, reduceCtorEq, Nat.reduceAdd, Nat.reduceSub, Nat.reduceMul, Nat.reduceLeDiff, Nat.reduceLT, R10, R13, R22, R23, R24, R25, R4, R40, R41, R42, R43, R44, R45, R46, R47, R48, R5, R61, R62, R63, R64, R65, R9, h6, h0, h1, hg, hgN, map_ag, push_at]
    refine bindP_call num_any ?_
    rintro m M3 ⟨rfl, rfl⟩
    rcases he with ⟨h, rfl⟩ | ⟨_, h, rfl⟩ | ⟨_, h, rfl⟩
    · omega
    · have d1 : decide ((n : Int) ≤ 200) = false := decide_eq_false (by omega)
      simp (maxSteps := 4000000) (disch := first | omega | assumption | (simp only [bxS, stOk, Nat.reduceBEq, Nat.reduceEqDiff, Nat.reduceAdd]; done) | (simp only [push_lo, push_n, set_lo, set_n]; omega) | (simp only [push_n, set_n, beq_self_eq_true]; done) | (apply has_ofL; simp only [List.length_cons, List.length_nil]; omega) | (apply has_setN; apply has_ofL; simp only [List.length_cons, List.length_nil]; omega)) only [↓bxD, bxP, bxQ, bxQ2, Nat.reduceBEq, reduceCtorEq, Nat.reduceAdd, Nat.reduceSub, Nat.reduceMul, Nat.reduceLeDiff, Nat.reduceLT, R10, R13, R22, R23, R24, R25, R4, R40, R41, R42, R43, R44, R45, R46, R47, R48, R5, R61, R62, R63, R64, R65, R9, h6, h0, h1, hg, hgN, map_ag, push_at, z40, d1, bf]
      refine bindP_call num_any ?_
      rintro m M4 ⟨rfl, rfl⟩
      simp (maxSteps := 4000000) (disch := first | omega | assumption | (simp only [bxS, stOk, Nat.reduceBEq, Nat.reduceEqDiff, Nat.reduceAdd]; done) | (simp only [push_lo, push_n, set_lo, set_n]; omega) | (simp only [push_n, set_n, beq_self_eq_true]; done) | (apply has_ofL; simp only [List.length_cons, List.length_nil]; omega) | (apply has_setN; apply has_ofL; simp only [List.length_cons, List.length_nil]; omega)) only [↓bxD, bxP, bxQ, bxQ2, Nat.reduceBEq, reduceCtorEq, Nat.reduceAdd, Nat.reduceSub, Nat.reduceMul, Nat.reduceLeDiff, Nat.reduceLT, R10, R13, R22, R23, R24, R25, R4, R40, R41, R42, R43, R44, R45, R46, R47, R48, R5, R61, R62, R63, R64, R65, R9, h6, h0, h1, hg, hgN, map_ag, push_at, z44]
    · have d1 : decide ((n : Int) ≤ 200) = true := decide_eq_true (by omega)
      simp (maxSteps := 4000000) (disch := first | omega | assumption | (simp only [bxS, stOk, Nat.reduceBEq, Nat.reduceEqDiff, Nat.reduceAdd]; done) | (simp only [push_lo, push_n, set_lo, set_n]; omega) | (simp only [push_n, set_n, beq_self_eq_true]; done) | (apply has_ofL; simp only [List.length_cons, List.length_nil]; omega) | (apply has_setN; apply has_ofL; simp only [List.length_cons, List.length_nil]; omega)) only [↓bxD, bxP, bxQ, bxQ2, Nat.reduceBEq, reduceCtorEq, Nat.reduceAdd, Nat.reduceSub, Nat.reduceMul, Nat.reduceLeDiff, Nat.reduceLT, R10, R13, R22, R23, R24, R25, R4, R40, R41, R42, R43, R44, R45, R46, R47, R48, R5, R61, R62, R63, R64, R65, R9, h6, h0, h1, hg, hgN, map_ag, push_at, z00, d1, bt]
  | false =>
    obtain ⟨hd1, hd2⟩ := hf rfl
    simp (maxSteps := 4000000) (disch := first | omega | assumption | (simp only [bxS, stOk, Nat.reduceBEq, Nat.reduceEqDiff, Nat.reduceAdd]; done) | (simp only [push_lo, push_n, set_lo, set_n]; omega) | (simp only [push_n, set_n, beq_self_eq_true]; done) | (apply has_ofL; simp only [List.length_cons, List.length_nil]; omega) | (apply has_setN; apply has_ofL; simp only [List.length_cons, List.length_nil]; omega)) only [↓bxD, bxP, bxQ, bxQ2, Nat.reduceBEq, reduceCtorEq, Nat.reduceAdd, Nat.reduceSub, Nat.reduceMul, Nat.reduceLeDiff, Nat.reduceLT, R10, R13, R22, R23, R24, R25, R4, R40, R41, R42, R43, R44, R45, R46, R47, R48, R5, R61, R62, R63, R64, R65, R9, h6, h0, h1, hg, hgN, map_ag, push_at]
    show Wp fns K5_6 _ _ _
    unfold K5_6
    simp (maxSteps := 4000000) (disch := first | omega | assumption | (simp only [bxS, stOk, Nat.reduceBEq, Nat.reduceEqDiff, Nat.reduceAdd]; done) | (simp only [push_lo, push_n, set_lo, set_n]; omega) | (simp only [push_n, set_n, beq_self_eq_true]; done) | (apply has_ofL; simp only [List.length_cons, List.length_nil]; omega) | (apply has_setN; apply has_ofL; simp only [List.length_cons, List.length_nil]; omega)) only [↓bxD, bxP, bxQ, bxQ2, Nat.reduceBEq, reduceCtorEq, Nat.reduceAdd, Nat.reduceSub, Nat.reduceMul, Nat.reduceLeDiff, Nat.reduceLT, R10, R13, R22, R23, R24, R25, R4, R40, R41, R42, R43, R44, R45, R46, R47, R48, R5, R61, R62, R63, R64, R65, R9, h6, h0, h1, hg, hgN, map_ag, push_at]
    refine bindP_call num_any ?_
    rintro m M3 ⟨rfl, rfl⟩
    rcases he with ⟨h, rfl⟩ | ⟨_, h, rfl⟩ | ⟨h, _, rfl⟩
    · have d1 : decide ((n : Int) ≤ 150) = false := decide_eq_false (by omega)
      simp (maxSteps := 4000000) (disch := first | omega | assumption | (simp only [bxS, stOk, Nat.reduceBEq, Nat.reduceEqDiff, Nat.reduceAdd]; done) | (simp only [push_lo, push_n, set_lo, set_n]; omega) | (simp only [push_n, set_n, beq_self_eq_true]; done) | (apply has_ofL; simp only [List.length_cons, List.length_nil]; omega) | (apply has_setN; apply has_ofL; simp only [List.length_cons, List.length_nil]; omega)) only [↓bxD, bxP, bxQ, bxQ2, Nat.reduceBEq, reduceCtorEq, Nat.reduceAdd, Nat.reduceSub, Nat.reduceMul, Nat.reduceLeDiff, Nat.reduceLT, R10, R13, R22, R23, R24, R25, R4, R40, R41, R42, R43, R44, R45, R46, R47, R48, R5, R61, R62, R63, R64, R65, R9, h6, h0, h1, hg, hgN, map_ag, push_at, z30, d1, bf]
      refine bindP_call num_any ?_
      rintro m M4 ⟨rfl, rfl⟩
      simp (maxSteps := 4000000) (disch := first | omega | assumption | (simp only [bxS, stOk, Nat.reduceBEq, Nat.reduceEqDiff, Nat.reduceAdd]; done) | (simp only [push_lo, push_n, set_lo, set_n]; omega) | (simp only [push_n, set_n, beq_self_eq_true]; done) | (apply has_ofL; simp only [List.length_cons, List.length_nil]; omega) | (apply has_setN; apply has_ofL; simp only [List.length_cons, List.length_nil]; omega)) only [↓bxD, bxP, bxQ, bxQ2, Nat.reduceBEq, reduceCtorEq, Nat.reduceAdd, Nat.reduceSub, Nat.reduceMul, Nat.reduceLeDiff, Nat.reduceLT, R10, R13, R22, R23, R24, R25, R4, R40, R41, R42, R43, R44, R45, R46, R47, R48, R5, R61, R62, R63, R64, R65, R9, h6, h0, h1, hg, hgN, map_ag, push_at, z33]
    · omega
    · have d1 : decide ((n : Int) ≤ 150) = true := decide_eq_true (by omega)
      simp (maxSteps := 4000000) (disch := first | omega | assumption | (simp only [bxS, stOk, Nat.reduceBEq, Nat.reduceEqDiff, Nat.reduceAdd]; done) | (simp only [push_lo, push_n, set_lo, set_n]; omega) | (simp only [push_n, set_n, beq_self_eq_true]; done) | (apply has_ofL; simp only [List.length_cons, List.length_nil]; omega) | (apply has_setN; apply has_ofL; simp only [List.length_cons, List.length_nil]; omega)) only [↓bxD, bxP, bxQ, bxQ2, Nat.reduceBEq, reduceCtorEq, Nat.reduceAdd, Nat.reduceSub, Nat.reduceMul, Nat.reduceLeDiff, Nat.reduceLT, R10, R13, R22, R23, R24, R25, R4, R40, R41, R42, R43, R44, R45, R46, R47, R48, R5, R61, R62, R63, R64, R65, R9, h6, h0, h1, hg, hgN, map_ag, push_at, z00, d1, bt]
end Go.Proofs.Ytaagkdljkpbilaa.K
