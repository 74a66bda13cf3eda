/-
  The program's Form: numbers, classes, symbols, and what the library's ContainsFunc tells. Conditions: none.
-/
import Derived.Test.YtokfokeijnbbfaaFc
import Derived.Test.YtokfokeijnbbfaaLitK
import Derived.Test.YtokfokeijnbbfaaSw
import Derived.Test.YtokfokeijnbbfaaBx
set_option linter.unusedSimpArgs false
set_option linter.unusedVariables false
namespace Go.Proofs.Ytokfokeijnbbfaa.K
open Go Ev
set_option maxRecDepth 100000
set_option maxHeartbeats 4000000

/-- A call of a function's value. -/
def callvW (c : CallM) (M : MH) (v : MV) (l : List MV) : Option (MV × MH) := match v with
  | .fn (.func g) a d => c g (a ++ (l ++ d)) M
  | _ => none
theorem ev_callv (c : CallM) (f : Fr) (M : MH) (x : X) (l : List X) : Iop.ev c f M (.callv x l) = callvW c M (x.ev f) (l.map (X.ev f)) := rfl
theorem callv_fn (c : CallM) (M : MH) (g : Nat) (a d l : List MV) : callvW c M (.fn (.func g) a d) l = c g (a ++ (l ++ d)) M := rfl
def isN (i n : Int) : Bool := decide (0 ≤ i) && decide (i < n)
theorem number_any {M : MH} {i n : Int} : Cp fns 15 [.i .i64 i, .i .i64 n] M fun m M' => m = .b (isN i n) ∧ M' = M := by
  refine Cp_call (fn := F15) (by kernel_rfl) (Nat.le_of_ble_eq_true rfl) ?_
  show Wp fns B15 (T.set q1 (some (.i .i64 n)) (T.set q0 (some (.i .i64 i)) T.lf)) M _
  unfold B15
  by_cases h0 : 0 ≤ i
  · have hd : decide (0 ≤ i) = true := decide_eq_true h0
    simp (maxSteps := 4000000) (disch := first | omega | assumption | (simp only [bxS, stOk, Nat.reduceBEq, Nat.reduceEqDiff, Nat.reduceAdd]; done) | (simp only [push_lo, push_n, set_lo, set_n]; omega) | (apply has_ofL; simp only [List.length_cons, List.length_nil]; omega) | (apply has_setN; apply has_ofL; simp only [List.length_cons, List.length_nil]; omega)) only [↓bxD, bxP, bxQ, Nat.reduceBEq, reduceCtorEq, Nat.reduceAdd, Nat.reduceSub, Nat.reduceMul, Nat.reduceLeDiff, Nat.reduceLT, R10, R11, R12, R13, R14, R15, R16, R17, R18, R19, R20, R21, R3, R4, R5, R7, R8, R9, hd]
    unfold isN
    rw [hd, Bool.true_and]
  · have hd : decide (0 ≤ i) = false := decide_eq_false h0
    simp (maxSteps := 4000000) (disch := first | omega | assumption | (simp only [bxS, stOk, Nat.reduceBEq, Nat.reduceEqDiff, Nat.reduceAdd]; done) | (simp only [push_lo, push_n, set_lo, set_n]; omega) | (apply has_ofL; simp only [List.length_cons, List.length_nil]; omega) | (apply has_setN; apply has_ofL; simp only [List.length_cons, List.length_nil]; omega)) only [↓bxD, bxP, bxQ, Nat.reduceBEq, reduceCtorEq, Nat.reduceAdd, Nat.reduceSub, Nat.reduceMul, Nat.reduceLeDiff, Nat.reduceLT, R10, R11, R12, R13, R14, R15, R16, R17, R18, R19, R20, R21, R3, R4, R5, R7, R8, R9, hd]
    unfold isN
    rw [hd, Bool.false_and]
theorem class_any {M : MH} {c : Int} : Cp fns 20 [.i .i64 c] M fun m M' => m = .b (!(isN c 101)) ∧ M' = M := by
  refine Cp_call (fn := F20) (by kernel_rfl) (Nat.le_of_ble_eq_true rfl) ?_
  show Wp fns B20 (T.set q0 (some (.i .i64 c)) T.lf) M _
  unfold B20
  simp (maxSteps := 4000000) (disch := first | omega | assumption | (simp only [bxS, stOk, Nat.reduceBEq, Nat.reduceEqDiff, Nat.reduceAdd]; done) | (simp only [push_lo, push_n, set_lo, set_n]; omega) | (apply has_ofL; simp only [List.length_cons, List.length_nil]; omega) | (apply has_setN; apply has_ofL; simp only [List.length_cons, List.length_nil]; omega)) only [↓bxD, bxP, bxQ, Nat.reduceBEq, reduceCtorEq, Nat.reduceAdd, Nat.reduceSub, Nat.reduceMul, Nat.reduceLeDiff, Nat.reduceLT, R10, R11, R12, R13, R14, R15, R16, R17, R18, R19, R20, R21, R3, R4, R5, R7, R8, R9]
  refine bindP_call number_any ?_
  rintro m M2 ⟨rfl, rfl⟩
  simp (maxSteps := 4000000) (disch := first | omega | assumption | (simp only [bxS, stOk, Nat.reduceBEq, Nat.reduceEqDiff, Nat.reduceAdd]; done) | (simp only [push_lo, push_n, set_lo, set_n]; omega) | (apply has_ofL; simp only [List.length_cons, List.length_nil]; omega) | (apply has_setN; apply has_ofL; simp only [List.length_cons, List.length_nil]; omega)) only [↓bxD, bxP, bxQ, Nat.reduceBEq, reduceCtorEq, Nat.reduceAdd, Nat.reduceSub, Nat.reduceMul, Nat.reduceLeDiff, Nat.reduceLT, R10, R11, R12, R13, R14, R15, R16, R17, R18, R19, R20, R21, R3, R4, R5, R7, R8, R9]
theorem index_any {M : MH} {v : MV} {l : List Int} {k : Nat} {caps : List MV} {p : Int → Bool} (h : IntRow M v l) (hl : l.length ≤ 9223372036854775807) (hP : ∀ M' z, Ext M M' → z ∈ l → Cp fns k (.i .i64 z :: caps) M' fun m M'' => m = .b (p z) ∧ Ext M' M'') :
    Cp fns 21 [v, .fn (.func k) [] caps] M fun m M' => ∃ r, m = .i .i64 r ∧ decide (0 ≤ r) = l.any p ∧ Ext M M' := by
  obtain ⟨hs1, hs2⟩ := h.sl
  refine Cp_call (fn := F21) (by kernel_rfl) (Nat.le_of_ble_eq_true rfl) ?_
  show Wp fns B21 (T.set q1 (some (.fn (.func k) [] caps)) (T.set q0 (some v) T.lf)) M _
  unfold B21
  simp (maxSteps := 4000000) (disch := first | omega | assumption | (simp only [bxS, stOk, Nat.reduceBEq, Nat.reduceEqDiff, Nat.reduceAdd]; done) | (simp only [push_lo, push_n, set_lo, set_n]; omega) | (apply has_ofL; simp only [List.length_cons, List.length_nil]; omega) | (apply has_setN; apply has_ofL; simp only [List.length_cons, List.length_nil]; omega)) only [↓bxD, bxP, bxQ, Nat.reduceBEq, reduceCtorEq, Nat.reduceAdd, Nat.reduceSub, Nat.reduceMul, Nat.reduceLeDiff, Nat.reduceLT, R10, R11, R12, R13, R14, R15, R16, R17, R18, R19, R20, R21, R3, R4, R5, R7, R8, R9, hs1, hs2]
  refine Wp_inv (σ := Nat) (fun i f M' => Ext M M' ∧ i ≤ l.length ∧ X.ev f (.t q0) = v ∧ X.ev f (.t q1) = .fn (.func k) [] caps ∧ X.ev f (.t q7) = .i .i64 (l.length : Int) ∧ X.ev f (.t q8) = .i .i64 (i : Int) ∧ (l.take i).any p = false) (fun i => l.length - i) ?_ 0 ?_
  · rintro i f M' ⟨hx, hi, h0, h1, h7, h8, hc⟩
    simp only [q0, q1, q7, q8] at h0 h1 h7 h8
    unfold L21_2
    simp (maxSteps := 4000000) (disch := first | omega | assumption | (simp only [bxS, stOk, Nat.reduceBEq, Nat.reduceEqDiff, Nat.reduceAdd]; done) | (simp only [push_lo, push_n, set_lo, set_n]; omega) | (apply has_ofL; simp only [List.length_cons, List.length_nil]; omega) | (apply has_setN; apply has_ofL; simp only [List.length_cons, List.length_nil]; omega)) only [↓bxD, bxP, bxQ, Nat.reduceBEq, reduceCtorEq, Nat.reduceAdd, Nat.reduceSub, Nat.reduceMul, Nat.reduceLeDiff, Nat.reduceLT, R10, R11, R12, R13, R14, R15, R16, R17, R18, R19, R20, R21, R3, R4, R5, R7, R8, R9, hs1, hs2, h0, h1, h7, h8]
    refine condP_split (fun hlt => ?_) (fun hge => ?_)
    · have hi' : i < l.length := by omega
      obtain ⟨z, hz⟩ : ∃ z, l[i]? = some z := ⟨_, List.getElem?_eq_getElem hi'⟩
      obtain ⟨ro, s, t, hg, hid, hC⟩ := (h.ext hx).read hz
      have hall : l.any p = ((l.take (i + 1)).any p || (l.drop (i + 1)).any p) := by rw [← List.any_append, List.take_append_drop]
      have htk : (l.take (i + 1)).any p = p z := by rw [List.take_add_one, hz, List.any_append, hc]; simp
      simp (maxSteps := 4000000) (disch := first | omega | assumption | (simp only [bxS, stOk, Nat.reduceBEq, Nat.reduceEqDiff, Nat.reduceAdd]; done) | (simp only [push_lo, push_n, set_lo, set_n]; omega) | (apply has_ofL; simp only [List.length_cons, List.length_nil]; omega) | (apply has_setN; apply has_ofL; simp only [List.length_cons, List.length_nil]; omega)) only [↓bxD, bxP, bxQ, Nat.reduceBEq, reduceCtorEq, Nat.reduceAdd, Nat.reduceSub, Nat.reduceMul, Nat.reduceLeDiff, Nat.reduceLT, R10, R11, R12, R13, R14, R15, R16, R17, R18, R19, R20, R21, R3, R4, R5, R7, R8, R9, hs1, hs2, h0, h1, h7, h8, hg, hC, ev_callv, callv_fn, List.nil_append, List.cons_append]
      show Wp fns K21_1 _ _ _
      unfold K21_1
      simp (maxSteps := 4000000) (disch := first | omega | assumption | (simp only [bxS, stOk, Nat.reduceBEq, Nat.reduceEqDiff, Nat.reduceAdd]; done) | (simp only [push_lo, push_n, set_lo, set_n]; omega) | (apply has_ofL; simp only [List.length_cons, List.length_nil]; omega) | (apply has_setN; apply has_ofL; simp only [List.length_cons, List.length_nil]; omega)) only [↓bxD, bxP, bxQ, Nat.reduceBEq, reduceCtorEq, Nat.reduceAdd, Nat.reduceSub, Nat.reduceMul, Nat.reduceLeDiff, Nat.reduceLT, R10, R11, R12, R13, R14, R15, R16, R17, R18, R19, R20, R21, R3, R4, R5, R7, R8, R9, hs1, hs2, h0, h1, h7, h8, hg, hC, ev_callv, callv_fn, List.nil_append, List.cons_append]
      refine bindP_call (hP _ z hx (List.mem_of_getElem? hz)) ?_
      rintro m M2 ⟨rfl, hx2⟩
      simp (maxSteps := 4000000) (disch := first | omega | assumption | (simp only [bxS, stOk, Nat.reduceBEq, Nat.reduceEqDiff, Nat.reduceAdd]; done) | (simp only [push_lo, push_n, set_lo, set_n]; omega) | (apply has_ofL; simp only [List.length_cons, List.length_nil]; omega) | (apply has_setN; apply has_ofL; simp only [List.length_cons, List.length_nil]; omega)) only [↓bxD, bxP, bxQ, Nat.reduceBEq, reduceCtorEq, Nat.reduceAdd, Nat.reduceSub, Nat.reduceMul, Nat.reduceLeDiff, Nat.reduceLT, R10, R11, R12, R13, R14, R15, R16, R17, R18, R19, R20, R21, R3, R4, R5, R7, R8, R9, hs1, hs2, h0, h1, h7, h8, hg, hC, ev_callv, callv_fn, List.nil_append, List.cons_append]
      cases hp : p z with
      | true =>
        simp (maxSteps := 4000000) (disch := first | omega | assumption | (simp only [bxS, stOk, Nat.reduceBEq, Nat.reduceEqDiff, Nat.reduceAdd]; done) | (simp only [push_lo, push_n, set_lo, set_n]; omega) | (apply has_ofL; simp only [List.length_cons, List.length_nil]; omega) | (apply has_setN; apply has_ofL; simp only [List.length_cons, List.length_nil]; omega)) only [↓bxD, bxP, bxQ, Nat.reduceBEq, reduceCtorEq, Nat.reduceAdd, Nat.reduceSub, Nat.reduceMul, Nat.reduceLeDiff, Nat.reduceLT, R10, R11, R12, R13, R14, R15, R16, R17, R18, R19, R20, R21, R3, R4, R5, R7, R8, R9, hs1, hs2, h0, h1, h7, h8, hg, hC, ev_callv, callv_fn, List.nil_append, List.cons_append, hp]
        refine ⟨i, rfl, ?_, hx.trans hx2⟩
        rw [hall, htk, hp, Bool.true_or]
        exact decide_eq_true (by omega)
      | false =>
        simp (maxSteps := 4000000) (disch := first | omega | assumption | (simp only [bxS, stOk, Nat.reduceBEq, Nat.reduceEqDiff, Nat.reduceAdd]; done) | (simp only [push_lo, push_n, set_lo, set_n]; omega) | (apply has_ofL; simp only [List.length_cons, List.length_nil]; omega) | (apply has_setN; apply has_ofL; simp only [List.length_cons, List.length_nil]; omega)) only [↓bxD, bxP, bxQ, Nat.reduceBEq, reduceCtorEq, Nat.reduceAdd, Nat.reduceSub, Nat.reduceMul, Nat.reduceLeDiff, Nat.reduceLT, R10, R11, R12, R13, R14, R15, R16, R17, R18, R19, R20, R21, R3, R4, R5, R7, R8, R9, hs1, hs2, h0, h1, h7, h8, hg, hC, ev_callv, callv_fn, List.nil_append, List.cons_append, hp]
        show Wp fns K21_0 _ _ _
        unfold K21_0
        simp (maxSteps := 4000000) (disch := first | omega | assumption | (simp only [bxS, stOk, Nat.reduceBEq, Nat.reduceEqDiff, Nat.reduceAdd]; done) | (simp only [push_lo, push_n, set_lo, set_n]; omega) | (apply has_ofL; simp only [List.length_cons, List.length_nil]; omega) | (apply has_setN; apply has_ofL; simp only [List.length_cons, List.length_nil]; omega)) only [↓bxD, bxP, bxQ, Nat.reduceBEq, reduceCtorEq, Nat.reduceAdd, Nat.reduceSub, Nat.reduceMul, Nat.reduceLeDiff, Nat.reduceLT, R10, R11, R12, R13, R14, R15, R16, R17, R18, R19, R20, R21, R3, R4, R5, R7, R8, R9, hs1, hs2, h0, h1, h7, h8, hg, hC, ev_callv, callv_fn, List.nil_append, List.cons_append]
        exact ⟨i + 1, by omega, hx.trans hx2, by omega, rfl, by rw [htk, hp]⟩
    · have hi' : i = l.length := by omega
      subst hi'
      rw [List.take_length] at hc
      simp (maxSteps := 4000000) (disch := first | omega | assumption | (simp only [bxS, stOk, Nat.reduceBEq, Nat.reduceEqDiff, Nat.reduceAdd]; done) | (simp only [push_lo, push_n, set_lo, set_n]; omega) | (apply has_ofL; simp only [List.length_cons, List.length_nil]; omega) | (apply has_setN; apply has_ofL; simp only [List.length_cons, List.length_nil]; omega)) only [↓bxD, bxP, bxQ, Nat.reduceBEq, reduceCtorEq, Nat.reduceAdd, Nat.reduceSub, Nat.reduceMul, Nat.reduceLeDiff, Nat.reduceLT, R10, R11, R12, R13, R14, R15, R16, R17, R18, R19, R20, R21, R3, R4, R5, R7, R8, R9, hs1, hs2, h0, h1, h7, h8]
      show Wp fns K21_3 _ _ _
      unfold K21_3
      simp (maxSteps := 4000000) (disch := first | omega | assumption | (simp only [bxS, stOk, Nat.reduceBEq, Nat.reduceEqDiff, Nat.reduceAdd]; done) | (simp only [push_lo, push_n, set_lo, set_n]; omega) | (apply has_ofL; simp only [List.length_cons, List.length_nil]; omega) | (apply has_setN; apply has_ofL; simp only [List.length_cons, List.length_nil]; omega)) only [↓bxD, bxP, bxQ, Nat.reduceBEq, reduceCtorEq, Nat.reduceAdd, Nat.reduceSub, Nat.reduceMul, Nat.reduceLeDiff, Nat.reduceLT, R10, R11, R12, R13, R14, R15, R16, R17, R18, R19, R20, R21, R3, R4, R5, R7, R8, R9, hs1, hs2, h0, h1, h7, h8, R21, pack1]
      exact ⟨-1, rfl, by rw [hc]; rfl, hx⟩
  · exact ⟨.refl _, Nat.zero_le _, by simp (maxSteps := 4000000) (disch := first | omega | assumption | (simp only [bxS, stOk, Nat.reduceBEq, Nat.reduceEqDiff, Nat.reduceAdd]; done) | (simp only [push_lo, push_n, set_lo, set_n]; omega) | (apply has_ofL; simp only [List.length_cons, List.length_nil]; omega) | (apply has_setN; apply has_ofL; simp only [List.length_cons, List.length_nil]; omega)) only [↓bxD, bxP, bxQ, Nat.reduceBEq, reduceCtorEq, Nat.reduceAdd, Nat.reduceSub, Nat.reduceMul, Nat.reduceLeDiff, Nat.reduceLT, R10, R11, R12, R13, R14, R15, R16, R17, R18, R19, R20, R21, R3, R4, R5, R7, R8, R9, hs1, hs2], by simp (maxSteps := 4000000) (disch := first | omega | assumption | (simp only [bxS, stOk, Nat.reduceBEq, Nat.reduceEqDiff, Nat.reduceAdd]; done) | (simp only [push_lo, push_n, set_lo, set_n]; omega) | (apply has_ofL; simp only [List.length_cons, List.length_nil]; omega) | (apply has_setN; apply has_ofL; simp only [List.length_cons, List.length_nil]; omega)) only [↓bxD, bxP, bxQ, Nat.reduceBEq, reduceCtorEq, Nat.reduceAdd, Nat.reduceSub, Nat.reduceMul, Nat.reduceLeDiff, Nat.reduceLT, R10, R11, R12, R13, R14, R15, R16, R17, R18, R19, R20, R21, R3, R4, R5, R7, R8, R9, hs1, hs2], by simp (maxSteps := 4000000) (disch := first | omega | assumption | (simp only [bxS, stOk, Nat.reduceBEq, Nat.reduceEqDiff, Nat.reduceAdd]; done) | (simp only [push_lo, push_n, set_lo, set_n]; omega) | (apply has_ofL; simp only [List.length_cons, List.length_nil]; omega) | (apply has_setN; apply has_ofL; simp only [List.length_cons, List.length_nil]; omega)) only [↓bxD, bxP, bxQ, Nat.reduceBEq, reduceCtorEq, Nat.reduceAdd, Nat.reduceSub, Nat.reduceMul, Nat.reduceLeDiff, Nat.reduceLT, R10, R11, R12, R13, R14, R15, R16, R17, R18, R19, R20, R21, R3, R4, R5, R7, R8, R9, hs1, hs2], by simp (maxSteps := 4000000) (disch := first | omega | assumption | (simp only [bxS, stOk, Nat.reduceBEq, Nat.reduceEqDiff, Nat.reduceAdd]; done) | (simp only [push_lo, push_n, set_lo, set_n]; omega) | (apply has_ofL; simp only [List.length_cons, List.length_nil]; omega) | (apply has_setN; apply has_ofL; simp only [List.length_cons, List.length_nil]; omega)) only [↓bxD, bxP, bxQ, Nat.reduceBEq, reduceCtorEq, Nat.reduceAdd, Nat.reduceSub, Nat.reduceMul, Nat.reduceLeDiff, Nat.reduceLT, R10, R11, R12, R13, R14, R15, R16, R17, R18, R19, R20, R21, R3, R4, R5, R7, R8, R9, hs1, hs2] <;> rfl, rfl⟩
theorem contains_any {M : MH} {v : MV} {l : List Int} {k : Nat} {caps : List MV} {p : Int → Bool} (h : IntRow M v l) (hl : l.length ≤ 9223372036854775807) (hP : ∀ M' z, Ext M M' → z ∈ l → Cp fns k (.i .i64 z :: caps) M' fun m M'' => m = .b (p z) ∧ Ext M' M'') :
    Cp fns 19 [v, .fn (.func k) [] caps] M fun m M' => m = .b (l.any p) ∧ Ext M M' := by
  refine Cp_call (fn := F19) (by kernel_rfl) (Nat.le_of_ble_eq_true rfl) ?_
  show Wp fns B19 (T.set q1 (some (.fn (.func k) [] caps)) (T.set q0 (some v) T.lf)) M _
  unfold B19
  simp (maxSteps := 4000000) (disch := first | omega | assumption | (simp only [bxS, stOk, Nat.reduceBEq, Nat.reduceEqDiff, Nat.reduceAdd]; done) | (simp only [push_lo, push_n, set_lo, set_n]; omega) | (apply has_ofL; simp only [List.length_cons, List.length_nil]; omega) | (apply has_setN; apply has_ofL; simp only [List.length_cons, List.length_nil]; omega)) only [↓bxD, bxP, bxQ, Nat.reduceBEq, reduceCtorEq, Nat.reduceAdd, Nat.reduceSub, Nat.reduceMul, Nat.reduceLeDiff, Nat.reduceLT, R10, R11, R12, R13, R14, R15, R16, R17, R18, R19, R20, R21, R3, R4, R5, R7, R8, R9]
  refine bindP_call (index_any h hl hP) ?_
  rintro m M2 ⟨r, rfl, hr, hx⟩
  simp (maxSteps := 4000000) (disch := first | omega | assumption | (simp only [bxS, stOk, Nat.reduceBEq, Nat.reduceEqDiff, Nat.reduceAdd]; done) | (simp only [push_lo, push_n, set_lo, set_n]; omega) | (apply has_ofL; simp only [List.length_cons, List.length_nil]; omega) | (apply has_setN; apply has_ofL; simp only [List.length_cons, List.length_nil]; omega)) only [↓bxD, bxP, bxQ, Nat.reduceBEq, reduceCtorEq, Nat.reduceAdd, Nat.reduceSub, Nat.reduceMul, Nat.reduceLeDiff, Nat.reduceLT, R10, R11, R12, R13, R14, R15, R16, R17, R18, R19, R20, R21, R3, R4, R5, R7, R8, R9]
  exact ⟨by rw [hr], hx⟩
theorem areClasses_any {M : MH} {v : MV} {l : List Int} {n : Int} (h : IntRow M v l) (hl : l.length ≤ 9223372036854775807) : Cp fns 16 [v, .i .i64 n] M fun m M' => m = .b (decide ((l.length : Int) ≤ n) && clsB l) ∧ Ext M M' := by
  obtain ⟨hs1, hs2⟩ := h.sl
  refine Cp_call (fn := F16) (by kernel_rfl) (Nat.le_of_ble_eq_true rfl) ?_
  show Wp fns B16 (T.set q1 (some (.i .i64 n)) (T.set q0 (some v) T.lf)) M _
  unfold B16
  have hcl : clsB l = !(l.any fun z => !(isN z 101)) := by
    unfold clsB
    rw [List.not_any_eq_all_not]
    refine congrArg (fun q => l.all q) (funext fun z => ?_)
    rw [Bool.not_not]
    unfold isN
    rw [show decide (z < 101) = decide (z ≤ 100) from by rw [decide_eq_decide]; omega]
  by_cases h0 : (l.length : Int) ≤ n
  · have hd : decide ((l.length : Int) ≤ n) = true := decide_eq_true h0
    simp (maxSteps := 4000000) (disch := first | omega | assumption | (simp only [bxS, stOk, Nat.reduceBEq, Nat.reduceEqDiff, Nat.reduceAdd]; done) | (simp only [push_lo, push_n, set_lo, set_n]; omega) | (apply has_ofL; simp only [List.length_cons, List.length_nil]; omega) | (apply has_setN; apply has_ofL; simp only [List.length_cons, List.length_nil]; omega)) only [↓bxD, bxP, bxQ, Nat.reduceBEq, reduceCtorEq, Nat.reduceAdd, Nat.reduceSub, Nat.reduceMul, Nat.reduceLeDiff, Nat.reduceLT, R10, R11, R12, R13, R14, R15, R16, R17, R18, R19, R20, R21, R3, R4, R5, R7, R8, R9, hs1, hs2, hd]
    refine bindP_call (contains_any (p := fun z => !(isN z 101)) h hl fun M' z hx hz => ?_) ?_
    · obtain ⟨m, M2, h1, h2, h3⟩ := class_any (M := M') (c := z)
      exact ⟨m, M2, h1, h2, by rw [h3]; exact .refl _⟩
    rintro m M2 ⟨rfl, hx⟩
    simp (maxSteps := 4000000) (disch := first | omega | assumption | (simp only [bxS, stOk, Nat.reduceBEq, Nat.reduceEqDiff, Nat.reduceAdd]; done) | (simp only [push_lo, push_n, set_lo, set_n]; omega) | (apply has_ofL; simp only [List.length_cons, List.length_nil]; omega) | (apply has_setN; apply has_ofL; simp only [List.length_cons, List.length_nil]; omega)) only [↓bxD, bxP, bxQ, Nat.reduceBEq, reduceCtorEq, Nat.reduceAdd, Nat.reduceSub, Nat.reduceMul, Nat.reduceLeDiff, Nat.reduceLT, R10, R11, R12, R13, R14, R15, R16, R17, R18, R19, R20, R21, R3, R4, R5, R7, R8, R9, hs1, hs2, hd]
    exact ⟨by rw [hcl, Bool.true_and], hx⟩
  · have hd : decide ((l.length : Int) ≤ n) = false := decide_eq_false h0
    simp (maxSteps := 4000000) (disch := first | omega | assumption | (simp only [bxS, stOk, Nat.reduceBEq, Nat.reduceEqDiff, Nat.reduceAdd]; done) | (simp only [push_lo, push_n, set_lo, set_n]; omega) | (apply has_ofL; simp only [List.length_cons, List.length_nil]; omega) | (apply has_setN; apply has_ofL; simp only [List.length_cons, List.length_nil]; omega)) only [↓bxD, bxP, bxQ, Nat.reduceBEq, reduceCtorEq, Nat.reduceAdd, Nat.reduceSub, Nat.reduceMul, Nat.reduceLeDiff, Nat.reduceLT, R10, R11, R12, R13, R14, R15, R16, R17, R18, R19, R20, R21, R3, R4, R5, R7, R8, R9, hs1, hs2, hd]
    exact ⟨rfl, .refl _⟩
theorem isSymbol_any {M : MH} {g : Gr} {vr vf vc vk : MV} {s : Int} (hlo : M.lo ≤ M.n) (hs : Wf64 s) : Cp fns 18 [.ag (gcs g vr vf vc vk), .i .i64 s] M fun m M' => m = .b (symB g s) ∧ Ext M M' := by
  obtain ⟨hb1, hb2⟩ := hs
  refine Cp_call (fn := F18) (by kernel_rfl) (Nat.le_of_ble_eq_true rfl) ?_
  show Wp fns B18 (T.set q1 (some (.i .i64 s)) (T.set q0 (some (.ag (gcs g vr vf vc vk))) T.lf)) M _
  unfold B18 gcs
  have hx : ∀ l, Ext M (M.push (.cs false 7 (ofL l 0))) := fun l => .push M _
  by_cases h0 : s < 0
  · have hd : decide (s < 0) = true := decide_eq_true h0
    simp (maxSteps := 4000000) (disch := first | omega | assumption | (simp only [bxS, stOk, Nat.reduceBEq, Nat.reduceEqDiff, Nat.reduceAdd]; done) | (simp only [push_lo, push_n, set_lo, set_n]; omega) | (apply has_ofL; simp only [List.length_cons, List.length_nil]; omega) | (apply has_setN; apply has_ofL; simp only [List.length_cons, List.length_nil]; omega)) only [↓bxD, bxP, bxQ, Nat.reduceBEq, reduceCtorEq, Nat.reduceAdd, Nat.reduceSub, Nat.reduceMul, Nat.reduceLeDiff, Nat.reduceLT, R10, R11, R12, R13, R14, R15, R16, R17, R18, R19, R20, R21, R3, R4, R5, R7, R8, R9, hd]
    refine bindP_call number_any ?_
    rintro m M2 ⟨rfl, rfl⟩
    simp (maxSteps := 4000000) (disch := first | omega | assumption | (simp only [bxS, stOk, Nat.reduceBEq, Nat.reduceEqDiff, Nat.reduceAdd]; done) | (simp only [push_lo, push_n, set_lo, set_n]; omega) | (apply has_ofL; simp only [List.length_cons, List.length_nil]; omega) | (apply has_setN; apply has_ofL; simp only [List.length_cons, List.length_nil]; omega)) only [↓bxD, bxP, bxQ, Nat.reduceBEq, reduceCtorEq, Nat.reduceAdd, Nat.reduceSub, Nat.reduceMul, Nat.reduceLeDiff, Nat.reduceLT, R10, R11, R12, R13, R14, R15, R16, R17, R18, R19, R20, R21, R3, R4, R5, R7, R8, R9, hd]
    exact ⟨by unfold symB isN; rw [if_pos h0, decide_eq_true (by omega), Bool.true_and]; rfl, hx _⟩
  · have hd : decide (s < 0) = false := decide_eq_false h0
    simp (maxSteps := 4000000) (disch := first | omega | assumption | (simp only [bxS, stOk, Nat.reduceBEq, Nat.reduceEqDiff, Nat.reduceAdd]; done) | (simp only [push_lo, push_n, set_lo, set_n]; omega) | (apply has_ofL; simp only [List.length_cons, List.length_nil]; omega) | (apply has_setN; apply has_ofL; simp only [List.length_cons, List.length_nil]; omega)) only [↓bxD, bxP, bxQ, Nat.reduceBEq, reduceCtorEq, Nat.reduceAdd, Nat.reduceSub, Nat.reduceMul, Nat.reduceLeDiff, Nat.reduceLT, R10, R11, R12, R13, R14, R15, R16, R17, R18, R19, R20, R21, R3, R4, R5, R7, R8, R9, hd]
    show Wp fns K18_0 _ _ _
    unfold K18_0
    simp (maxSteps := 4000000) (disch := first | omega | assumption | (simp only [bxS, stOk, Nat.reduceBEq, Nat.reduceEqDiff, Nat.reduceAdd]; done) | (simp only [push_lo, push_n, set_lo, set_n]; omega) | (apply has_ofL; simp only [List.length_cons, List.length_nil]; omega) | (apply has_setN; apply has_ofL; simp only [List.length_cons, List.length_nil]; omega)) only [↓bxD, bxP, bxQ, Nat.reduceBEq, reduceCtorEq, Nat.reduceAdd, Nat.reduceSub, Nat.reduceMul, Nat.reduceLeDiff, Nat.reduceLT, R10, R11, R12, R13, R14, R15, R16, R17, R18, R19, R20, R21, R3, R4, R5, R7, R8, R9, hd]
    refine bindP_call number_any ?_
    rintro m M2 ⟨rfl, rfl⟩
    simp (maxSteps := 4000000) (disch := first | omega | assumption | (simp only [bxS, stOk, Nat.reduceBEq, Nat.reduceEqDiff, Nat.reduceAdd]; done) | (simp only [push_lo, push_n, set_lo, set_n]; omega) | (apply has_ofL; simp only [List.length_cons, List.length_nil]; omega) | (apply has_setN; apply has_ofL; simp only [List.length_cons, List.length_nil]; omega)) only [↓bxD, bxP, bxQ, Nat.reduceBEq, reduceCtorEq, Nat.reduceAdd, Nat.reduceSub, Nat.reduceMul, Nat.reduceLeDiff, Nat.reduceLT, R10, R11, R12, R13, R14, R15, R16, R17, R18, R19, R20, R21, R3, R4, R5, R7, R8, R9, hd]
    exact ⟨by unfold symB isN; rw [if_neg h0, decide_eq_true (by omega), Bool.true_and], hx _⟩
theorem noSymbol_any {M : MH} {g : Gr} {vr vf vc vk : MV} {s : Int} {b : Nat} (hlo : M.lo ≤ M.n) (hs : Wf64 s) (hb : M.get b = some (.cs false 7 (ofL (gcs g vr vf vc vk) 0))) : Cp fns 17 [.i .i64 s, .p b 0] M fun m M' => m = .b (!(symB g s)) ∧ Ext M M' := by
  refine Cp_call (fn := F17) (by kernel_rfl) (Nat.le_of_ble_eq_true rfl) ?_
  show Wp fns B17 (T.set q1 (some (.p b 0)) (T.set q0 (some (.i .i64 s)) T.lf)) M _
  unfold B17
  have hG : Ev.getN (ofL (gcs g vr vf vc vk) 0) 7 0 = some (gcs g vr vf vc vk) := (at_ofL (gcs g vr vf vc vk)).getN
  simp (maxSteps := 4000000) (disch := first | omega | assumption | (simp only [bxS, stOk, Nat.reduceBEq, Nat.reduceEqDiff, Nat.reduceAdd]; done) | (simp only [push_lo, push_n, set_lo, set_n]; omega) | (apply has_ofL; simp only [List.length_cons, List.length_nil]; omega) | (apply has_setN; apply has_ofL; simp only [List.length_cons, List.length_nil]; omega)) only [↓bxD, bxP, bxQ, Nat.reduceBEq, reduceCtorEq, Nat.reduceAdd, Nat.reduceSub, Nat.reduceMul, Nat.reduceLeDiff, Nat.reduceLT, R10, R11, R12, R13, R14, R15, R16, R17, R18, R19, R20, R21, R3, R4, R5, R7, R8, R9, hb, hG]
  refine bindP_call (isSymbol_any hlo hs) ?_
  rintro m M2 ⟨rfl, hx⟩
  simp (maxSteps := 4000000) (disch := first | omega | assumption | (simp only [bxS, stOk, Nat.reduceBEq, Nat.reduceEqDiff, Nat.reduceAdd]; done) | (simp only [push_lo, push_n, set_lo, set_n]; omega) | (apply has_ofL; simp only [List.length_cons, List.length_nil]; omega) | (apply has_setN; apply has_ofL; simp only [List.length_cons, List.length_nil]; omega)) only [↓bxD, bxP, bxQ, Nat.reduceBEq, reduceCtorEq, Nat.reduceAdd, Nat.reduceSub, Nat.reduceMul, Nat.reduceLeDiff, Nat.reduceLT, R10, R11, R12, R13, R14, R15, R16, R17, R18, R19, R20, R21, R3, R4, R5, R7, R8, R9, hb, hG]
  exact hx
end Go.Proofs.Ytokfokeijnbbfaa.K
