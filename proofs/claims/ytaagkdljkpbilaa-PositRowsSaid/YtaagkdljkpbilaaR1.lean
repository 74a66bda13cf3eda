/-
  The law PositRows: numbers, rows, and the pattern that is built. Conditions: none.
-/
import Derived.Test.YtaagkdljkpbilaaR0
import Derived.Test.YtaagkdljkpbilaaL1
import Derived.Test.YtaagkdljkpbilaaLitK
import Derived.Test.YtaagkdljkpbilaaSw
import Derived.Test.YtaagkdljkpbilaaBx
set_option linter.unusedSimpArgs false
set_option linter.unusedVariables false
namespace Go.Proofs.Ytaagkdljkpbilaa.K
open Go Ev
set_option maxRecDepth 100000
set_option maxHeartbeats 4000000

theorem same_ints {M : MH} {a b : MV} {x : List Nat} (ha : RowAt M 1 a (nv x)) (hb : RowAt M 1 b (nv x)) (hl : x.length ≤ 1000000000) (hlo : M.lo ≤ M.n) : Cp fns 13 [a, b] M fun m M' => m = .b true ∧ M' = M := by
  obtain ⟨a1, a2⟩ := ha.sl
  obtain ⟨b1, b2⟩ := hb.sl
  rw [nv_len] at a2 b2
  refine Cp_call (fn := F13) (by kernel_rfl) (Nat.le_of_ble_eq_true rfl) ?_
  show Wp fns B13 (T.set q1 (some b) (T.set q0 (some a) T.lf)) M _
  unfold B13
  have dn : decide (¬ True) = false := rfl
  simp (maxSteps := 4000000) (disch := first | omega | assumption | (simp only [bxS, stOk, Nat.reduceBEq, Nat.reduceEqDiff, Nat.reduceAdd]; done) | (simp only [push_lo, push_n, set_lo, set_n]; omega) | (simp only [push_n, set_n, beq_self_eq_true]; done) | (apply has_ofL; simp only [List.length_cons, List.length_nil]; omega) | (apply has_setN; apply has_ofL; simp only [List.length_cons, List.length_nil]; omega)) only [↓bxD, bxP, bxQ, bxQ2, Nat.reduceBEq, reduceCtorEq, Nat.reduceAdd, Nat.reduceSub, Nat.reduceMul, Nat.reduceLeDiff, Nat.reduceLT, R10, R13, R22, R23, R24, R25, R4, R40, R41, R42, R43, R44, R45, R46, R47, R48, R5, R61, R62, R63, R64, R65, R9, a1, a2, b1, b2, dn, decide_false, not_true_eq_false, ne_eq]
  show Wp fns K13_5 _ _ _
  unfold K13_5
  simp (maxSteps := 4000000) (disch := first | omega | assumption | (simp only [bxS, stOk, Nat.reduceBEq, Nat.reduceEqDiff, Nat.reduceAdd]; done) | (simp only [push_lo, push_n, set_lo, set_n]; omega) | (simp only [push_n, set_n, beq_self_eq_true]; done) | (apply has_ofL; simp only [List.length_cons, List.length_nil]; omega) | (apply has_setN; apply has_ofL; simp only [List.length_cons, List.length_nil]; omega)) only [↓bxD, bxP, bxQ, bxQ2, Nat.reduceBEq, reduceCtorEq, Nat.reduceAdd, Nat.reduceSub, Nat.reduceMul, Nat.reduceLeDiff, Nat.reduceLT, R10, R13, R22, R23, R24, R25, R4, R40, R41, R42, R43, R44, R45, R46, R47, R48, R5, R61, R62, R63, R64, R65, R9, a1, a2, b1, b2, dn, decide_false, not_true_eq_false, ne_eq]
  refine Wp_inv (σ := Nat) (fun i f M' => M' = M ∧ i ≤ x.length ∧ X.ev f (.t q0) = a ∧ X.ev f (.t q1) = b ∧ X.ev f (.t q5) = .i .i64 (i : Int)) (fun i => x.length - i) ?_ 0 ?_
  · rintro i f M' ⟨rfl, hi, h0, h1, h5⟩
    simp only [q0, q1, q5] at h0 h1 h5
    unfold L13_3
    by_cases hi' : i < x.length
    · have d1 : decide ((i : Int) < (x.length : Int)) = true := decide_eq_true (by omega)
      obtain ⟨z, hz⟩ : ∃ z, x[i]? = some z := ⟨_, List.getElem?_eq_getElem hi'⟩
      obtain ⟨ro, s, t, hg, hid, hC0⟩ := ha.read (nv_at hz)
      have hC := hC0 0 _ rfl
      obtain ⟨ro2, s2, t2, hg2, hid2, hC20⟩ := hb.read (nv_at hz)
      have hC2 := hC20 0 _ rfl
      rw [Nat.add_zero] at hC hC2
      simp (maxSteps := 4000000) (disch := first | omega | assumption | (simp only [bxS, stOk, Nat.reduceBEq, Nat.reduceEqDiff, Nat.reduceAdd]; done) | (simp only [push_lo, push_n, set_lo, set_n]; omega) | (simp only [push_n, set_n, beq_self_eq_true]; done) | (apply has_ofL; simp only [List.length_cons, List.length_nil]; omega) | (apply has_setN; apply has_ofL; simp only [List.length_cons, List.length_nil]; omega)) only [↓bxD, bxP, bxQ, bxQ2, Nat.reduceBEq, reduceCtorEq, Nat.reduceAdd, Nat.reduceSub, Nat.reduceMul, Nat.reduceLeDiff, Nat.reduceLT, R10, R13, R22, R23, R24, R25, R4, R40, R41, R42, R43, R44, R45, R46, R47, R48, R5, R61, R62, R63, R64, R65, R9, h0, h1, h5, a1, a2, b1, b2, hg, hC, hg2, hC2, d1, dn, decide_false, not_true_eq_false, ne_eq]
      show Wp fns K13_2 _ _ _
      unfold K13_2
      simp (maxSteps := 4000000) (disch := first | omega | assumption | (simp only [bxS, stOk, Nat.reduceBEq, Nat.reduceEqDiff, Nat.reduceAdd]; done) | (simp only [push_lo, push_n, set_lo, set_n]; omega) | (simp only [push_n, set_n, beq_self_eq_true]; done) | (apply has_ofL; simp only [List.length_cons, List.length_nil]; omega) | (apply has_setN; apply has_ofL; simp only [List.length_cons, List.length_nil]; omega)) only [↓bxD, bxP, bxQ, bxQ2, Nat.reduceBEq, reduceCtorEq, Nat.reduceAdd, Nat.reduceSub, Nat.reduceMul, Nat.reduceLeDiff, Nat.reduceLT, R10, R13, R22, R23, R24, R25, R4, R40, R41, R42, R43, R44, R45, R46, R47, R48, R5, R61, R62, R63, R64, R65, R9, h0, h1, h5, a1, a2, b1, b2, hg, hC, hg2, hC2, d1, dn, decide_false, not_true_eq_false, ne_eq]
      refine Wp_dreg_of (by omega) ?_
      simp (maxSteps := 4000000) (disch := first | omega | assumption | (simp only [bxS, stOk, Nat.reduceBEq, Nat.reduceEqDiff, Nat.reduceAdd]; done) | (simp only [push_lo, push_n, set_lo, set_n]; omega) | (simp only [push_n, set_n, beq_self_eq_true]; done) | (apply has_ofL; simp only [List.length_cons, List.length_nil]; omega) | (apply has_setN; apply has_ofL; simp only [List.length_cons, List.length_nil]; omega)) only [↓bxD, bxP, bxQ, bxQ2, Nat.reduceBEq, reduceCtorEq, Nat.reduceAdd, Nat.reduceSub, Nat.reduceMul, Nat.reduceLeDiff, Nat.reduceLT, R10, R13, R22, R23, R24, R25, R4, R40, R41, R42, R43, R44, R45, R46, R47, R48, R5, R61, R62, R63, R64, R65, R9, h0, h1, h5, a1, a2, b1, b2, hg, hC, hg2, hC2, d1, dn, decide_false, not_true_eq_false, ne_eq]
      show Wp fns K13_0 _ _ _
      unfold K13_0
      simp (maxSteps := 4000000) (disch := first | omega | assumption | (simp only [bxS, stOk, Nat.reduceBEq, Nat.reduceEqDiff, Nat.reduceAdd]; done) | (simp only [push_lo, push_n, set_lo, set_n]; omega) | (simp only [push_n, set_n, beq_self_eq_true]; done) | (apply has_ofL; simp only [List.length_cons, List.length_nil]; omega) | (apply has_setN; apply has_ofL; simp only [List.length_cons, List.length_nil]; omega)) only [↓bxD, bxP, bxQ, bxQ2, Nat.reduceBEq, reduceCtorEq, Nat.reduceAdd, Nat.reduceSub, Nat.reduceMul, Nat.reduceLeDiff, Nat.reduceLT, R10, R13, R22, R23, R24, R25, R4, R40, R41, R42, R43, R44, R45, R46, R47, R48, R5, R61, R62, R63, R64, R65, R9, h0, h1, h5, a1, a2, b1, b2, hg, hC, hg2, hC2, d1, dn, decide_false, not_true_eq_false, ne_eq]
      show Wp fns K13_1 _ _ _
      unfold K13_1
      simp (maxSteps := 4000000) (disch := first | omega | assumption | (simp only [bxS, stOk, Nat.reduceBEq, Nat.reduceEqDiff, Nat.reduceAdd]; done) | (simp only [push_lo, push_n, set_lo, set_n]; omega) | (simp only [push_n, set_n, beq_self_eq_true]; done) | (apply has_ofL; simp only [List.length_cons, List.length_nil]; omega) | (apply has_setN; apply has_ofL; simp only [List.length_cons, List.length_nil]; omega)) only [↓bxD, bxP, bxQ, bxQ2, Nat.reduceBEq, reduceCtorEq, Nat.reduceAdd, Nat.reduceSub, Nat.reduceMul, Nat.reduceLeDiff, Nat.reduceLT, R10, R13, R22, R23, R24, R25, R4, R40, R41, R42, R43, R44, R45, R46, R47, R48, R5, R61, R62, R63, R64, R65, R9, h0, h1, h5, a1, a2, b1, b2, hg, hC, hg2, hC2, d1, dn, decide_false, not_true_eq_false, ne_eq]
      exact ⟨i + 1, by omega, by omega, rfl⟩
    · have d1 : decide ((i : Int) < (x.length : Int)) = false := decide_eq_false (by omega)
      simp (maxSteps := 4000000) (disch := first | omega | assumption | (simp only [bxS, stOk, Nat.reduceBEq, Nat.reduceEqDiff, Nat.reduceAdd]; done) | (simp only [push_lo, push_n, set_lo, set_n]; omega) | (simp only [push_n, set_n, beq_self_eq_true]; done) | (apply has_ofL; simp only [List.length_cons, List.length_nil]; omega) | (apply has_setN; apply has_ofL; simp only [List.length_cons, List.length_nil]; omega)) only [↓bxD, bxP, bxQ, bxQ2, Nat.reduceBEq, reduceCtorEq, Nat.reduceAdd, Nat.reduceSub, Nat.reduceMul, Nat.reduceLeDiff, Nat.reduceLT, R10, R13, R22, R23, R24, R25, R4, R40, R41, R42, R43, R44, R45, R46, R47, R48, R5, R61, R62, R63, R64, R65, R9, h0, h1, h5, a1, a2, b1, b2, d1]
      show Wp fns K13_4 _ _ _
      unfold K13_4
      simp (maxSteps := 4000000) (disch := first | omega | assumption | (simp only [bxS, stOk, Nat.reduceBEq, Nat.reduceEqDiff, Nat.reduceAdd]; done) | (simp only [push_lo, push_n, set_lo, set_n]; omega) | (simp only [push_n, set_n, beq_self_eq_true]; done) | (apply has_ofL; simp only [List.length_cons, List.length_nil]; omega) | (apply has_setN; apply has_ofL; simp only [List.length_cons, List.length_nil]; omega)) only [↓bxD, bxP, bxQ, bxQ2, Nat.reduceBEq, reduceCtorEq, Nat.reduceAdd, Nat.reduceSub, Nat.reduceMul, Nat.reduceLeDiff, Nat.reduceLT, R10, R13, R22, R23, R24, R25, R4, R40, R41, R42, R43, R44, R45, R46, R47, R48, R5, R61, R62, R63, R64, R65, R9, h0, h1, h5, a1, a2, b1, b2, d1]
  · exact ⟨rfl, Nat.zero_le _, by simp (maxSteps := 4000000) (disch := first | omega | assumption | (simp only [bxS, stOk, Nat.reduceBEq, Nat.reduceEqDiff, Nat.reduceAdd]; done) | (simp only [push_lo, push_n, set_lo, set_n]; omega) | (simp only [push_n, set_n, beq_self_eq_true]; done) | (apply has_ofL; simp only [List.length_cons, List.length_nil]; omega) | (apply has_setN; apply has_ofL; simp only [List.length_cons, List.length_nil]; omega)) only [↓bxD, bxP, bxQ, bxQ2, Nat.reduceBEq, reduceCtorEq, Nat.reduceAdd, Nat.reduceSub, Nat.reduceMul, Nat.reduceLeDiff, Nat.reduceLT, R10, R13, R22, R23, R24, R25, R4, R40, R41, R42, R43, R44, R45, R46, R47, R48, R5, R61, R62, R63, R64, R65, R9, a1, a2, b1, b2, dn, decide_false, not_true_eq_false, ne_eq], by simp (maxSteps := 4000000) (disch := first | omega | assumption | (simp only [bxS, stOk, Nat.reduceBEq, Nat.reduceEqDiff, Nat.reduceAdd]; done) | (simp only [push_lo, push_n, set_lo, set_n]; omega) | (simp only [push_n, set_n, beq_self_eq_true]; done) | (apply has_ofL; simp only [List.length_cons, List.length_nil]; omega) | (apply has_setN; apply has_ofL; simp only [List.length_cons, List.length_nil]; omega)) only [↓bxD, bxP, bxQ, bxQ2, Nat.reduceBEq, reduceCtorEq, Nat.reduceAdd, Nat.reduceSub, Nat.reduceMul, Nat.reduceLeDiff, Nat.reduceLT, R10, R13, R22, R23, R24, R25, R4, R40, R41, R42, R43, R44, R45, R46, R47, R48, R5, R61, R62, R63, R64, R65, R9, a1, a2, b1, b2, dn, decide_false, not_true_eq_false, ne_eq], by simp (maxSteps := 4000000) (disch := first | omega | assumption | (simp only [bxS, stOk, Nat.reduceBEq, Nat.reduceEqDiff, Nat.reduceAdd]; done) | (simp only [push_lo, push_n, set_lo, set_n]; omega) | (simp only [push_n, set_n, beq_self_eq_true]; done) | (apply has_ofL; simp only [List.length_cons, List.length_nil]; omega) | (apply has_setN; apply has_ofL; simp only [List.length_cons, List.length_nil]; omega)) only [↓bxD, bxP, bxQ, bxQ2, Nat.reduceBEq, reduceCtorEq, Nat.reduceAdd, Nat.reduceSub, Nat.reduceMul, Nat.reduceLeDiff, Nat.reduceLT, R10, R13, R22, R23, R24, R25, R4, R40, R41, R42, R43, R44, R45, R46, R47, R48, R5, R61, R62, R63, R64, R65, R9, a1, a2, b1, b2, dn, decide_false, not_true_eq_false, ne_eq] <;> rfl⟩
/-- Which of four a number says. -/
def oc (z : Int) : Nat := (z % 4).toNat
theorem oc_lt (z : Int) : oc z < 4 := by unfold oc; omega
theorem and3 {z : Int} (h : -9223372036854775808 ≤ z) (h' : z ≤ 9223372036854775807) : binV .and (.i .i64 z) (.i .i64 3) = some (.i .i64 ((oc z : Nat) : Int)) := by
  have e2 : (BitVec.ofInt IntKind.i64.bits ((3 : Nat) : Int)).toNat = 3 := by
    rw [BitVec.ofInt_natCast, BitVec.toNat_ofNat]; rfl
  show (bif (IntKind.i64 == IntKind.i64) then some (MV.i .i64 (wrapF .i64 (((BitVec.ofInt IntKind.i64.bits z) &&& (BitVec.ofInt IntKind.i64.bits ((3 : Nat) : Int))).toNat : Int))) else none) = _
  rw [BitVec.toNat_and, e2]
  have e1 : (BitVec.ofInt IntKind.i64.bits z).toNat = (z % 18446744073709551616).toNat := by
    rw [BitVec.toNat_ofInt]; rfl
  have : (BitVec.ofInt IntKind.i64.bits z).toNat &&& 3 = (BitVec.ofInt IntKind.i64.bits z).toNat % 4 := Nat.and_two_pow_sub_one_eq_mod _ 2
  rw [this, e1]
  have h4 : (z % 18446744073709551616).toNat % 4 = oc z := by unfold oc; omega
  have := oc_lt z
  rw [h4, wrap_in (by omega) (by omega)]
  rfl
/-- Numbers that came in. -/
def iv (l : List Int) : List (List MV) := l.map fun z => [.i .i64 z]
theorem iv_len (l : List Int) : (iv l).length = l.length := by unfold iv; rw [List.length_map]
theorem iv_at {l : List Int} {i : Nat} {z : Int} (h : l[i]? = some z) : (iv l)[i]? = some [.i .i64 z] := by unfold iv; rw [List.getElem?_map, h]; rfl
/-- A kid of the row, as it lies in the row of kids. -/
def KidE (lo : Nat) (M : MH) (kv : MV) (o : Nat) (e : List MV) : Prop := (o = 0 ∧ e = rcs 1 0 0 0 0 .nils) ∨ (o ≠ 0 ∧ ∃ N, e = rcs (3 + (o : Int)) 0 0 0 0 (.sl N 0 1 0) ∧ M.get N = some (.cs false 6 (ofL (rcs 1 0 0 0 0 .nils) 0)) ∧ lo ≤ N ∧ N < M.n ∧ ∀ a n d e, kv = .sl a n d e → N < a)
theorem rows_nodes {lo : Nat} {M : MH} {kv : MV} {K : Nat} {t : T MV} (hg : M.get K = some (.cs false 6 t)) (hK : K < M.n) : ∀ {os : List Nat} {es : List (List MV)} {off : Nat}, es.length = os.length → (∀ (i : Nat) e o, es[i]? = some e → os[i]? = some o → KidE lo M kv o e) → (∀ (i : Nat) e, es[i]? = some e → At t (off + i * 6) e) → (∀ o ∈ os, o < 4) → NodesAt M (os.map kidR) K off
  | [], [], off, _, _, _, _ => trivial
  | [], _ :: _, off, h, _, _, _ => by simp at h
  | _ :: _, [], off, h, _, _, _ => by simp at h
  | o :: os, e :: es, off, h, hk, ha, h4 => by
    rw [List.map_cons]
    unfold NodesAt
    refine ⟨?_, rows_nodes hg hK (by simpa using h) (fun i e' o' h1 h2 => hk (i + 1) e' o' (by simpa using h1) (by simpa using h2)) (fun i e' h1 => ?_) fun o' ho' => h4 o' (List.mem_cons_of_mem _ ho')⟩
    · have hat := ha 0 e rfl
      rw [Nat.zero_mul, Nat.add_zero] at hat
      rcases hk 0 e o rfl rfl with ⟨rfl, rfl⟩ | ⟨h0, N, rfl, hN, hlo, hNn, _⟩
      · show NodeAt M leaf1 K off
        unfold leaf1 NodeAt
        exact ⟨t, .nils, hg, hK, hat, rfl, rfl, trivial⟩
      · unfold kidR
        rw [if_neg h0]
        unfold NodeAt
        refine ⟨t, .sl N 0 1 0, hg, hK, hat, rfl, rfl, ?_⟩
        show NodeAt M leaf1 N 0 ∧ True
        refine ⟨?_, trivial⟩
        unfold leaf1 NodeAt
        exact ⟨_, .nils, hN, hNn, at_ofL _, rfl, rfl, trivial⟩
    · have := ha (i + 1) e' (by simpa using h1)
      rwa [show off + (i + 1) * 6 = off + 6 + i * 6 from by omega] at this
end Go.Proofs.Ytaagkdljkpbilaa.K
