/-
  The law GrammarLimits: twelve inputs are runs, beyond them nothing is asked. Conditions: none.
-/
import Derived.Test.YtokfokeijnbbfaaMf
import Derived.Test.YtokfokeijnbbfaaLitK
import Derived.Test.YtokfokeijnbbfaaSw
import Derived.Test.YtokfokeijnbbfaaBx
set_option linter.unusedSimpArgs false
set_option linter.unusedVariables false
namespace Go.Proofs.Ytokfokeijnbbfaa.K
open Go Ev
set_option maxRecDepth 100000
set_option maxHeartbeats 4000000

open Go.Deep Go.RowKit Go.WideShapes Kit
theorem lim_of {k : Int} {b : Bool} (hr : gaveB true (callK Ytokfokeijnbbfaa.Ev.fns 30000 4 [.i .i64 k, .b b] Mz fun m M => some (m, M)) = true) (w : World) : Calls Try.prog 4 #[.int .i64 k, .bool b] w fun e w' => e = .returned (.bool true) ∧ Kept w w' := by
  obtain ⟨M', h⟩ := gave_some (show gaveB true (callF Ytokfokeijnbbfaa.Ev.fns 30000 4 [.i .i64 k, .b b] Mz) = true from (congrArg (gaveB true) (callK_eq Ytokfokeijnbbfaa.Ev.fns 30000 4 [.i .i64 k, .b b] Mz)).symm.trans hr)
  have hO := openedz w
  refine (calls_run_at (P := Try.prog) mixed Ytokfokeijnbbfaa.Ev.fns_ok 30000 4 [.i .i64 k, .b b] [.int .i64 k, .bool b] (.b true) Bz Mz M' w hO.glob hO.inv hO.ro h (.cons (.i _ _) (.cons (.b _) (DenL.nil _)))).mono ?_
  rintro e w' ⟨v, β', rfl, hd, hk⟩
  cases hd
  exact ⟨rfl, hk⟩
theorem law_far {M : MH} {k : Int} {b : Bool} (h : k < 0 ∨ 5 < k) : Cp fns 4 [.i .i64 k, .b b] M fun m _ => m = .b true := by
  refine Cp_call (fn := F4) (by kernel_rfl) (Nat.le_of_ble_eq_true rfl) ?_
  show Wp fns B4 (T.set q1 (some (.b b)) (T.set q0 (some (.i .i64 k)) T.lf)) M _
  unfold B4
  simp (maxSteps := 4000000) (disch := first | omega | assumption | (simp only [bxS, stOk, Nat.reduceBEq, Nat.reduceEqDiff, Nat.reduceAdd]; done) | (simp only [push_lo, push_n, set_lo, set_n]; omega) | (apply has_ofL; simp only [List.length_cons, List.length_nil]; omega) | (apply has_setN; apply has_ofL; simp only [List.length_cons, List.length_nil]; omega)) only [↓bxD, bxP, bxQ, Nat.reduceBEq, reduceCtorEq, Nat.reduceAdd, Nat.reduceSub, Nat.reduceMul, Nat.reduceLeDiff, Nat.reduceLT, R10, R11, R12, R13, R14, R15, R16, R17, R18, R19, R20, R21, R3, R4, R5, R7, R8, R9]
  refine bindP_call (Cp_true (by kernel_rfl)) ?_
  rintro m M2 ⟨rfl, rfl⟩
  by_cases h0 : k < 0
  · have d0 : decide (k < 0) = true := decide_eq_true h0
    simp (maxSteps := 4000000) (disch := first | omega | assumption | (simp only [bxS, stOk, Nat.reduceBEq, Nat.reduceEqDiff, Nat.reduceAdd]; done) | (simp only [push_lo, push_n, set_lo, set_n]; omega) | (apply has_ofL; simp only [List.length_cons, List.length_nil]; omega) | (apply has_setN; apply has_ofL; simp only [List.length_cons, List.length_nil]; omega)) only [↓bxD, bxP, bxQ, Nat.reduceBEq, reduceCtorEq, Nat.reduceAdd, Nat.reduceSub, Nat.reduceMul, Nat.reduceLeDiff, Nat.reduceLT, R10, R11, R12, R13, R14, R15, R16, R17, R18, R19, R20, R21, R3, R4, R5, R7, R8, R9, d0]
  · have d0 : decide (k < 0) = false := decide_eq_false h0
    have d1 : decide (5 < k) = true := decide_eq_true (by omega)
    simp (maxSteps := 4000000) (disch := first | omega | assumption | (simp only [bxS, stOk, Nat.reduceBEq, Nat.reduceEqDiff, Nat.reduceAdd]; done) | (simp only [push_lo, push_n, set_lo, set_n]; omega) | (apply has_ofL; simp only [List.length_cons, List.length_nil]; omega) | (apply has_setN; apply has_ofL; simp only [List.length_cons, List.length_nil]; omega)) only [↓bxD, bxP, bxQ, Nat.reduceBEq, reduceCtorEq, Nat.reduceAdd, Nat.reduceSub, Nat.reduceMul, Nat.reduceLeDiff, Nat.reduceLT, R10, R11, R12, R13, R14, R15, R16, R17, R18, R19, R20, R21, R3, R4, R5, R7, R8, R9, d0, d1]
variable {H : Type} {enc : TypeId × Value → H} {w : World}
theorem lim_in {S : List TypeId} (hS : Closed Try.prog S) {r : Reach} {base : Nat} {vs : List Value} {ds : List (DataW H)} {ps : List MemPlace} (hin : ∀ t ∈ ([3, 4] : List TypeId), t ∈ S)
    (h : DataW.TrodAll enc Try.prog w 0 (fun _ => true) true [3, 4] vs ds ps) (hv : ∀ (j : Nat) t v, ([3, 4] : List TypeId)[j]? = some t → vs[j]? = some v → Value.okWide Try.prog w r base t v) :
    Calls Try.prog 4 vs.toArray w fun e w' => e = .returned (.bool true) ∧ Kept w w' := by
  have hO := openedz w
  obtain ⟨β, M, ms, h1, h2, h3, h4, h5⟩ := open_args hS [3, 4] vs ds ps hin h hv _ _ hO
  obtain ⟨m1, r1, rfl, t1, m2, r2, rfl, t2, rfl⟩ := h5
  obtain ⟨n1, c1, t1, e1⟩ := t1
  obtain ⟨n2, c2, t2, e2⟩ := t2
  simp only [Try.underlying3] at e1
  simp only [Try.underlying4] at e2
  subst e1 e2
  obtain ⟨k, e, wk⟩ := typed_int Try.underlying3 t1
  cases e
  have tb : ∃ b, m2 = .b b := by
    cases n2 with
    | zero => exact t2.elim
    | succ n =>
      simp only [Typed, Try.underlying4] at t2
      obtain ⟨b, e⟩ := t2
      exact ⟨b, (by cases e; rfl)⟩
  obtain ⟨b, rfl⟩ := tb
  obtain ⟨v1, w1, rfl, d1, h4'⟩ := h4.inv
  obtain ⟨v2, w2, rfl, d2, h4''⟩ := h4'.inv
  cases h4''.inv0
  cases d1
  cases d2
  by_cases hf : k < 0 ∨ 5 < k
  · obtain ⟨m, M', h6, rfl⟩ := law_far (M := M) (b := b) hf
    obtain ⟨n, h7⟩ := callA_ex h6
    refine (calls_run_at mixed K.fns_ok n 4 [.i .i64 k, .b b] [.int .i64 k, .bool b] (.b true) β M M' w h1.glob h1.inv h1.ro h7 h4).mono ?_
    rintro e w' ⟨v, β', rfl, hd, hk⟩
    cases hd
    exact ⟨rfl, hk⟩
  · show Calls Try.prog 4 #[.int .i64 k, .bool b] w _
    have : k = 0 ∨ k = 1 ∨ k = 2 ∨ k = 3 ∨ k = 4 ∨ k = 5 := by omega
    rcases this with rfl | rfl | rfl | rfl | rfl | rfl <;> cases b
    · exact lim_of lim0_false w
    · exact lim_of lim0_true w
    · exact lim_of lim1_false w
    · exact lim_of lim1_true w
    · exact lim_of lim2_false w
    · exact lim_of lim2_true w
    · exact lim_of lim3_false w
    · exact lim_of lim3_true w
    · exact lim_of lim4_false w
    · exact lim_of lim4_true w
    · exact lim_of lim5_false w
    · exact lim_of lim5_true w
end Go.Proofs.Ytokfokeijnbbfaa.K
