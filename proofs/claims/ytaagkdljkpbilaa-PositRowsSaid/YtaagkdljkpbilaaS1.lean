/-
  Cuts; the kids that are looked at, and one more kid's size. Conditions: none.
-/
import Derived.Test.YtaagkdljkpbilaaS0
import Derived.Test.YtaagkdljkpbilaaLitK
import Derived.Test.YtaagkdljkpbilaaSw
import Derived.Test.YtaagkdljkpbilaaBx
set_option linter.unusedSimpArgs false
set_option linter.unusedVariables false
namespace Go.Proofs.Ytaagkdljkpbilaa.K
open Go Ev
set_option maxRecDepth 100000
set_option maxHeartbeats 4000000

/-- A slice cut. -/
def cutLo (sz l : Nat) : MV → MV
  | .sl id off n e => .sl id (off + l * sz) (n - l) (e + l)
  | v => v
def cutHi (h : Nat) : MV → MV
  | .sl id off _ e => .sl id off h e
  | v => v
theorem cutHi_sl {v : MV} {h : Nat} (hv : isSl v = true) (hl : h ≤ slen v) : isSl (cutHi h v) = true ∧ slen (cutHi h v) = h ∧ sid (cutHi h v) = sid v ∧ soff (cutHi h v) = soff v := by
  cases v <;> first | cases hv | skip
  · simp [slen] at hl; subst hl; exact ⟨rfl, rfl, rfl, rfl⟩
  · exact ⟨rfl, rfl, rfl, rfl⟩
theorem cutLo_sl {v : MV} {sz l : Nat} (hv : isSl v = true) (hl : l < slen v ∨ l = 0) : isSl (cutLo sz l v) = true ∧ slen (cutLo sz l v) = slen v - l ∧ sid (cutLo sz l v) = sid v ∧ soff (cutLo sz l v) = soff v + l * sz := by
  cases v <;> first | cases hv | skip
  · simp [slen] at hl; subst hl; simp [cutLo, slen, soff, sid, isSl]
  · exact ⟨rfl, rfl, rfl, rfl⟩
theorem cutM_hi {v : MV} {sz h : Nat} {k : IntKind} (hv : isSl v = true) (hl : h ≤ slen v) : cutM sz v none (some (.i k (h : Int))) = some (cutHi h v) := by
  cases v <;> first | cases hv | skip
  · simp [slen] at hl; subst hl; rfl
  · rename_i id off n e
    show (bif Nat.ble 0 h && Nat.ble h n then some (MV.sl id (off + 0 * sz) (h - 0) (e + 0)) else none) = _
    rw [ble_t' (Nat.zero_le _), ble_t' (show h ≤ n from hl)]
    simp [cutHi]
theorem cutM_lo {v : MV} {sz l : Nat} {k : IntKind} (hv : isSl v = true) (hl : l ≤ slen v) : cutM sz v (some (.i k (l : Int))) none = some (cutLo sz l v) := by
  cases v <;> first | cases hv | skip
  · simp [slen] at hl; subst hl; rfl
  · rename_i id off n e
    show (bif Nat.ble l n && Nat.ble n n then some (MV.sl id (off + l * sz) (n - l) (e + l)) else none) = _
    rw [ble_t' (Nat.le_refl _), ble_t' (show l ≤ n from hl)]
    rfl
theorem mn_i (k : IntKind) (a b : Int) : mnV (.i k a) (.i k b) = some (.i k (min a b)) := by
  show some (MV.i k (bif decide (b < a) then b else a)) = _
  by_cases h : b < a
  · rw [decide_eq_true h, cond_true, Int.min_def, if_neg (by omega)]
  · rw [decide_eq_false h, cond_false, Int.min_def, if_pos (by omega)]
theorem mx_i (k : IntKind) (a b : Int) : mxV (.i k a) (.i k b) = some (.i k (max a b)) := by
  show some (MV.i k (bif decide (a < b) then b else a)) = _
  by_cases h : a < b
  · rw [decide_eq_true h, cond_true, Int.max_def, if_pos (by omega)]
  · rw [decide_eq_false h, cond_false, Int.max_def]
    split
    · exact congrArg _ (congrArg _ (by omega))
    · rfl
/-- The row of the kids that are looked at. -/
def KidsV (M : MH) (x : Rx) (id off : Nat) (v : MV) : Prop := isSl v = true ∧ slen v = x.lk.length ∧ NodesAt M x.lk (sid v) (soff v) ∧ (x.lk ≠ [] → ∃ t kv, M.get id = some (.cs false 6 t) ∧ cget t (off + 5) = some kv ∧ sid v = sid kv ∧ soff v = soff kv)
theorem kids_in {M0 M : MH} {x : Rx} {id off : Nat} (h : NodeAt M0 x id off) (hk0 : Ext M0 M) (hlo : M.lo ≤ M.n) : Cp fns 43 [.p id off] M fun m M' => KidsV M0 x id off m ∧ M' = M := by
  obtain ⟨op, a, b, c, d, k⟩ := x
  unfold NodeAt at h
  obtain ⟨t, kv, h1, h2, h3, h4, h5, h6⟩ := h
  have h10 := h1
  replace h1 := (hk0.old id h2).trans h1
  have c0 : cget t off = some (.i .i64 op) := h3 0 _ rfl
  have c5 : cget t (off + 5) = some kv := h3 5 _ rfl
  refine Cp_call (fn := F43) (by kernel_rfl) (Nat.le_of_ble_eq_true rfl) ?_
  show Wp fns B43 (T.set q0 (some (.p id off)) T.lf) M _
  unfold B43
  unfold KidsV
  rw [lk_mk]
  by_cases e2 : op = 2
  · have d2 : decide (op = 2) = true := decide_eq_true e2
    simp (maxSteps := 4000000) (disch := first | omega | assumption | (simp only [bxS, stOk, Nat.reduceBEq, Nat.reduceEqDiff, Nat.reduceAdd]; done) | (simp only [push_lo, push_n, set_lo, set_n]; omega) | (apply has_ofL; simp only [List.length_cons, List.length_nil]; omega) | (apply has_setN; apply has_ofL; simp only [List.length_cons, List.length_nil]; omega)) only [↓bxD, bxP, bxQ, bxQ2, Nat.reduceBEq, reduceCtorEq, Nat.reduceAdd, Nat.reduceSub, Nat.reduceMul, Nat.reduceLeDiff, Nat.reduceLT, R10, R13, R22, R23, R24, R25, R4, R40, R41, R42, R43, R44, R45, R46, R47, R48, R5, R61, R62, R63, R64, R65, R9, h1, c0, c5, nck_p, d2]
    show Wp fns K43_1 _ _ _
    unfold K43_1
    simp (maxSteps := 4000000) (disch := first | omega | assumption | (simp only [bxS, stOk, Nat.reduceBEq, Nat.reduceEqDiff, Nat.reduceAdd]; done) | (simp only [push_lo, push_n, set_lo, set_n]; omega) | (apply has_ofL; simp only [List.length_cons, List.length_nil]; omega) | (apply has_setN; apply has_ofL; simp only [List.length_cons, List.length_nil]; omega)) only [↓bxD, bxP, bxQ, bxQ2, Nat.reduceBEq, reduceCtorEq, Nat.reduceAdd, Nat.reduceSub, Nat.reduceMul, Nat.reduceLeDiff, Nat.reduceLT, R10, R13, R22, R23, R24, R25, R4, R40, R41, R42, R43, R44, R45, R46, R47, R48, R5, R61, R62, R63, R64, R65, R9, h1, c0, c5, nck_p]
    rw [if_pos (.inl e2)]
    exact ⟨h4, h5, h6, fun _ => ⟨t, kv, h10, c5, rfl, rfl⟩⟩
  have d2 : decide (op = 2) = false := decide_eq_false e2
  by_cases e3 : op = 3
  · have d3 : decide (op = 3) = true := decide_eq_true e3
    simp (maxSteps := 4000000) (disch := first | omega | assumption | (simp only [bxS, stOk, Nat.reduceBEq, Nat.reduceEqDiff, Nat.reduceAdd]; done) | (simp only [push_lo, push_n, set_lo, set_n]; omega) | (apply has_ofL; simp only [List.length_cons, List.length_nil]; omega) | (apply has_setN; apply has_ofL; simp only [List.length_cons, List.length_nil]; omega)) only [↓bxD, bxP, bxQ, bxQ2, Nat.reduceBEq, reduceCtorEq, Nat.reduceAdd, Nat.reduceSub, Nat.reduceMul, Nat.reduceLeDiff, Nat.reduceLT, R10, R13, R22, R23, R24, R25, R4, R40, R41, R42, R43, R44, R45, R46, R47, R48, R5, R61, R62, R63, R64, R65, R9, h1, c0, c5, nck_p, d2, d3]
    show Wp fns K43_1 _ _ _
    unfold K43_1
    simp (maxSteps := 4000000) (disch := first | omega | assumption | (simp only [bxS, stOk, Nat.reduceBEq, Nat.reduceEqDiff, Nat.reduceAdd]; done) | (simp only [push_lo, push_n, set_lo, set_n]; omega) | (apply has_ofL; simp only [List.length_cons, List.length_nil]; omega) | (apply has_setN; apply has_ofL; simp only [List.length_cons, List.length_nil]; omega)) only [↓bxD, bxP, bxQ, bxQ2, Nat.reduceBEq, reduceCtorEq, Nat.reduceAdd, Nat.reduceSub, Nat.reduceMul, Nat.reduceLeDiff, Nat.reduceLT, R10, R13, R22, R23, R24, R25, R4, R40, R41, R42, R43, R44, R45, R46, R47, R48, R5, R61, R62, R63, R64, R65, R9, h1, c0, c5, nck_p]
    rw [if_pos (.inr e3)]
    exact ⟨h4, h5, h6, fun _ => ⟨t, kv, h10, c5, rfl, rfl⟩⟩
  have d3 : decide (op = 3) = false := decide_eq_false e3
  rw [if_neg (by omega)]
  have hrep : op = 4 ∨ op = 5 ∨ op = 6 → ∀ f', X.ev f' (.t q0) = .p id off → True := fun _ _ _ => trivial
  have hcut : cutM 6 kv none (some (.i .i64 (min 1 (slen kv : Int)))) = some (cutHi (min 1 (slen kv)) kv) := by
    rw [show min 1 (slen kv : Int) = ((min 1 (slen kv) : Nat) : Int) from by omega]
    exact cutM_hi h4 (by omega)
  have hk : isSl (cutHi (min 1 (slen kv)) kv) = true ∧ slen (cutHi (min 1 (slen kv)) kv) = (k.take 1).length ∧ NodesAt M0 (k.take 1) (sid (cutHi (min 1 (slen kv)) kv)) (soff (cutHi (min 1 (slen kv)) kv)) ∧ (k.take 1 ≠ [] → ∃ t kv', M0.get id = some (.cs false 6 t) ∧ cget t (off + 5) = some kv' ∧ sid (cutHi (min 1 (slen kv)) kv) = sid kv' ∧ soff (cutHi (min 1 (slen kv)) kv) = soff kv') := by
    obtain ⟨k1, k2, k3, k4⟩ := cutHi_sl (h := min 1 (slen kv)) h4 (by omega)
    exact ⟨k1, by rw [k2, h5, List.length_take], by rw [k3, k4]; exact h6.take 1, fun _ => ⟨t, kv, h10, c5, k3, k4⟩⟩
  by_cases e4 : op = 4 ∨ op = 5 ∨ op = 6
  · rw [if_pos e4]
    by_cases e41 : op = 4
    · have d4 : decide (op = 4) = true := decide_eq_true e41
      simp (maxSteps := 4000000) (disch := first | omega | assumption | (simp only [bxS, stOk, Nat.reduceBEq, Nat.reduceEqDiff, Nat.reduceAdd]; done) | (simp only [push_lo, push_n, set_lo, set_n]; omega) | (apply has_ofL; simp only [List.length_cons, List.length_nil]; omega) | (apply has_setN; apply has_ofL; simp only [List.length_cons, List.length_nil]; omega)) only [↓bxD, bxP, bxQ, bxQ2, Nat.reduceBEq, reduceCtorEq, Nat.reduceAdd, Nat.reduceSub, Nat.reduceMul, Nat.reduceLeDiff, Nat.reduceLT, R10, R13, R22, R23, R24, R25, R4, R40, R41, R42, R43, R44, R45, R46, R47, R48, R5, R61, R62, R63, R64, R65, R9, h1, c0, c5, nck_p, d2, d3]
      show Wp fns K43_1 _ _ _
      unfold K43_1
      simp (maxSteps := 4000000) (disch := first | omega | assumption | (simp only [bxS, stOk, Nat.reduceBEq, Nat.reduceEqDiff, Nat.reduceAdd]; done) | (simp only [push_lo, push_n, set_lo, set_n]; omega) | (apply has_ofL; simp only [List.length_cons, List.length_nil]; omega) | (apply has_setN; apply has_ofL; simp only [List.length_cons, List.length_nil]; omega)) only [↓bxD, bxP, bxQ, bxQ2, Nat.reduceBEq, reduceCtorEq, Nat.reduceAdd, Nat.reduceSub, Nat.reduceMul, Nat.reduceLeDiff, Nat.reduceLT, R10, R13, R22, R23, R24, R25, R4, R40, R41, R42, R43, R44, R45, R46, R47, R48, R5, R61, R62, R63, R64, R65, R9, h1, c0, c5, nck_p, d4]
      show Wp fns K43_0 _ _ _
      unfold K43_0
      simp (maxSteps := 4000000) (disch := first | omega | assumption | (simp only [bxS, stOk, Nat.reduceBEq, Nat.reduceEqDiff, Nat.reduceAdd]; done) | (simp only [push_lo, push_n, set_lo, set_n]; omega) | (apply has_ofL; simp only [List.length_cons, List.length_nil]; omega) | (apply has_setN; apply has_ofL; simp only [List.length_cons, List.length_nil]; omega)) only [↓bxD, bxP, bxQ, bxQ2, Nat.reduceBEq, reduceCtorEq, Nat.reduceAdd, Nat.reduceSub, Nat.reduceMul, Nat.reduceLeDiff, Nat.reduceLT, R10, R13, R22, R23, R24, R25, R4, R40, R41, R42, R43, R44, R45, R46, R47, R48, R5, R61, R62, R63, R64, R65, R9, h1, c0, c5, nck_p]
      refine Wp_dreg_of (by omega) ?_
      simp (maxSteps := 4000000) (disch := first | omega | assumption | (simp only [bxS, stOk, Nat.reduceBEq, Nat.reduceEqDiff, Nat.reduceAdd]; done) | (simp only [push_lo, push_n, set_lo, set_n]; omega) | (apply has_ofL; simp only [List.length_cons, List.length_nil]; omega) | (apply has_setN; apply has_ofL; simp only [List.length_cons, List.length_nil]; omega)) only [↓bxD, bxP, bxQ, bxQ2, Nat.reduceBEq, reduceCtorEq, Nat.reduceAdd, Nat.reduceSub, Nat.reduceMul, Nat.reduceLeDiff, Nat.reduceLT, R10, R13, R22, R23, R24, R25, R4, R40, R41, R42, R43, R44, R45, R46, R47, R48, R5, R61, R62, R63, R64, R65, R9, h1, c0, c5, nck_p, len_sl, h4, mn_i, hcut, ev_cut, Option.map_some, Option.map_none]
      show Wp fns IC.ret _ _ _
      simp (maxSteps := 4000000) (disch := first | omega | assumption | (simp only [bxS, stOk, Nat.reduceBEq, Nat.reduceEqDiff, Nat.reduceAdd]; done) | (simp only [push_lo, push_n, set_lo, set_n]; omega) | (apply has_ofL; simp only [List.length_cons, List.length_nil]; omega) | (apply has_setN; apply has_ofL; simp only [List.length_cons, List.length_nil]; omega)) only [↓bxD, bxP, bxQ, bxQ2, Nat.reduceBEq, reduceCtorEq, Nat.reduceAdd, Nat.reduceSub, Nat.reduceMul, Nat.reduceLeDiff, Nat.reduceLT, R10, R13, R22, R23, R24, R25, R4, R40, R41, R42, R43, R44, R45, R46, R47, R48, R5, R61, R62, R63, R64, R65, R9, h1, c0, c5, nck_p]
      exact hk
    have d4 : decide (op = 4) = false := decide_eq_false e41
    by_cases e51 : op = 5
    · have d5 : decide (op = 5) = true := decide_eq_true e51
      simp (maxSteps := 4000000) (disch := first | omega | assumption | (simp only [bxS, stOk, Nat.reduceBEq, Nat.reduceEqDiff, Nat.reduceAdd]; done) | (simp only [push_lo, push_n, set_lo, set_n]; omega) | (apply has_ofL; simp only [List.length_cons, List.length_nil]; omega) | (apply has_setN; apply has_ofL; simp only [List.length_cons, List.length_nil]; omega)) only [↓bxD, bxP, bxQ, bxQ2, Nat.reduceBEq, reduceCtorEq, Nat.reduceAdd, Nat.reduceSub, Nat.reduceMul, Nat.reduceLeDiff, Nat.reduceLT, R10, R13, R22, R23, R24, R25, R4, R40, R41, R42, R43, R44, R45, R46, R47, R48, R5, R61, R62, R63, R64, R65, R9, h1, c0, c5, nck_p, d2, d3]
      show Wp fns K43_1 _ _ _
      unfold K43_1
      simp (maxSteps := 4000000) (disch := first | omega | assumption | (simp only [bxS, stOk, Nat.reduceBEq, Nat.reduceEqDiff, Nat.reduceAdd]; done) | (simp only [push_lo, push_n, set_lo, set_n]; omega) | (apply has_ofL; simp only [List.length_cons, List.length_nil]; omega) | (apply has_setN; apply has_ofL; simp only [List.length_cons, List.length_nil]; omega)) only [↓bxD, bxP, bxQ, bxQ2, Nat.reduceBEq, reduceCtorEq, Nat.reduceAdd, Nat.reduceSub, Nat.reduceMul, Nat.reduceLeDiff, Nat.reduceLT, R10, R13, R22, R23, R24, R25, R4, R40, R41, R42, R43, R44, R45, R46, R47, R48, R5, R61, R62, R63, R64, R65, R9, h1, c0, c5, nck_p, d4, d5]
      show Wp fns K43_0 _ _ _
      unfold K43_0
      simp (maxSteps := 4000000) (disch := first | omega | assumption | (simp only [bxS, stOk, Nat.reduceBEq, Nat.reduceEqDiff, Nat.reduceAdd]; done) | (simp only [push_lo, push_n, set_lo, set_n]; omega) | (apply has_ofL; simp only [List.length_cons, List.length_nil]; omega) | (apply has_setN; apply has_ofL; simp only [List.length_cons, List.length_nil]; omega)) only [↓bxD, bxP, bxQ, bxQ2, Nat.reduceBEq, reduceCtorEq, Nat.reduceAdd, Nat.reduceSub, Nat.reduceMul, Nat.reduceLeDiff, Nat.reduceLT, R10, R13, R22, R23, R24, R25, R4, R40, R41, R42, R43, R44, R45, R46, R47, R48, R5, R61, R62, R63, R64, R65, R9, h1, c0, c5, nck_p]
      refine Wp_dreg_of (by omega) ?_
      simp (maxSteps := 4000000) (disch := first | omega | assumption | (simp only [bxS, stOk, Nat.reduceBEq, Nat.reduceEqDiff, Nat.reduceAdd]; done) | (simp only [push_lo, push_n, set_lo, set_n]; omega) | (apply has_ofL; simp only [List.length_cons, List.length_nil]; omega) | (apply has_setN; apply has_ofL; simp only [List.length_cons, List.length_nil]; omega)) only [↓bxD, bxP, bxQ, bxQ2, Nat.reduceBEq, reduceCtorEq, Nat.reduceAdd, Nat.reduceSub, Nat.reduceMul, Nat.reduceLeDiff, Nat.reduceLT, R10, R13, R22, R23, R24, R25, R4, R40, R41, R42, R43, R44, R45, R46, R47, R48, R5, R61, R62, R63, R64, R65, R9, h1, c0, c5, nck_p, len_sl, h4, mn_i, hcut, ev_cut, Option.map_some, Option.map_none]
      show Wp fns IC.ret _ _ _
      simp (maxSteps := 4000000) (disch := first | omega | assumption | (simp only [bxS, stOk, Nat.reduceBEq, Nat.reduceEqDiff, Nat.reduceAdd]; done) | (simp only [push_lo, push_n, set_lo, set_n]; omega) | (apply has_ofL; simp only [List.length_cons, List.length_nil]; omega) | (apply has_setN; apply has_ofL; simp only [List.length_cons, List.length_nil]; omega)) only [↓bxD, bxP, bxQ, bxQ2, Nat.reduceBEq, reduceCtorEq, Nat.reduceAdd, Nat.reduceSub, Nat.reduceMul, Nat.reduceLeDiff, Nat.reduceLT, R10, R13, R22, R23, R24, R25, R4, R40, R41, R42, R43, R44, R45, R46, R47, R48, R5, R61, R62, R63, R64, R65, R9, h1, c0, c5, nck_p]
      exact hk
    have d5 : decide (op = 5) = false := decide_eq_false e51
    have d6 : decide (op = 6) = true := decide_eq_true (by omega)
    simp (maxSteps := 4000000) (disch := first | omega | assumption | (simp only [bxS, stOk, Nat.reduceBEq, Nat.reduceEqDiff, Nat.reduceAdd]; done) | (simp only [push_lo, push_n, set_lo, set_n]; omega) | (apply has_ofL; simp only [List.length_cons, List.length_nil]; omega) | (apply has_setN; apply has_ofL; simp only [List.length_cons, List.length_nil]; omega)) only [↓bxD, bxP, bxQ, bxQ2, Nat.reduceBEq, reduceCtorEq, Nat.reduceAdd, Nat.reduceSub, Nat.reduceMul, Nat.reduceLeDiff, Nat.reduceLT, R10, R13, R22, R23, R24, R25, R4, R40, R41, R42, R43, R44, R45, R46, R47, R48, R5, R61, R62, R63, R64, R65, R9, h1, c0, c5, nck_p, d2, d3]
    show Wp fns K43_1 _ _ _
    unfold K43_1
    simp (maxSteps := 4000000) (disch := first | omega | assumption | (simp only [bxS, stOk, Nat.reduceBEq, Nat.reduceEqDiff, Nat.reduceAdd]; done) | (simp only [push_lo, push_n, set_lo, set_n]; omega) | (apply has_ofL; simp only [List.length_cons, List.length_nil]; omega) | (apply has_setN; apply has_ofL; simp only [List.length_cons, List.length_nil]; omega)) only [↓bxD, bxP, bxQ, bxQ2, Nat.reduceBEq, reduceCtorEq, Nat.reduceAdd, Nat.reduceSub, Nat.reduceMul, Nat.reduceLeDiff, Nat.reduceLT, R10, R13, R22, R23, R24, R25, R4, R40, R41, R42, R43, R44, R45, R46, R47, R48, R5, R61, R62, R63, R64, R65, R9, h1, c0, c5, nck_p, d4, d5, d6]
    show Wp fns K43_0 _ _ _
    unfold K43_0
    simp (maxSteps := 4000000) (disch := first | omega | assumption | (simp only [bxS, stOk, Nat.reduceBEq, Nat.reduceEqDiff, Nat.reduceAdd]; done) | (simp only [push_lo, push_n, set_lo, set_n]; omega) | (apply has_ofL; simp only [List.length_cons, List.length_nil]; omega) | (apply has_setN; apply has_ofL; simp only [List.length_cons, List.length_nil]; omega)) only [↓bxD, bxP, bxQ, bxQ2, Nat.reduceBEq, reduceCtorEq, Nat.reduceAdd, Nat.reduceSub, Nat.reduceMul, Nat.reduceLeDiff, Nat.reduceLT, R10, R13, R22, R23, R24, R25, R4, R40, R41, R42, R43, R44, R45, R46, R47, R48, R5, R61, R62, R63, R64, R65, R9, h1, c0, c5, nck_p]
    refine Wp_dreg_of (by omega) ?_
    simp (maxSteps := 4000000) (disch := first | omega | assumption | (simp only [bxS, stOk, Nat.reduceBEq, Nat.reduceEqDiff, Nat.reduceAdd]; done) | (simp only [push_lo, push_n, set_lo, set_n]; omega) | (apply has_ofL; simp only [List.length_cons, List.length_nil]; omega) | (apply has_setN; apply has_ofL; simp only [List.length_cons, List.length_nil]; omega)) only [↓bxD, bxP, bxQ, bxQ2, Nat.reduceBEq, reduceCtorEq, Nat.reduceAdd, Nat.reduceSub, Nat.reduceMul, Nat.reduceLeDiff, Nat.reduceLT, R10, R13, R22, R23, R24, R25, R4, R40, R41, R42, R43, R44, R45, R46, R47, R48, R5, R61, R62, R63, R64, R65, R9, h1, c0, c5, nck_p, len_sl, h4, mn_i, hcut, ev_cut, Option.map_some, Option.map_none]
    show Wp fns IC.ret _ _ _
    simp (maxSteps := 4000000) (disch := first | omega | assumption | (simp only [bxS, stOk, Nat.reduceBEq, Nat.reduceEqDiff, Nat.reduceAdd]; done) | (simp only [push_lo, push_n, set_lo, set_n]; omega) | (apply has_ofL; simp only [List.length_cons, List.length_nil]; omega) | (apply has_setN; apply has_ofL; simp only [List.length_cons, List.length_nil]; omega)) only [↓bxD, bxP, bxQ, bxQ2, Nat.reduceBEq, reduceCtorEq, Nat.reduceAdd, Nat.reduceSub, Nat.reduceMul, Nat.reduceLeDiff, Nat.reduceLT, R10, R13, R22, R23, R24, R25, R4, R40, R41, R42, R43, R44, R45, R46, R47, R48, R5, R61, R62, R63, R64, R65, R9, h1, c0, c5, nck_p]
    exact hk
  · rw [if_neg e4]
    have d4 : decide (op = 4) = false := decide_eq_false (by omega)
    have d5 : decide (op = 5) = false := decide_eq_false (by omega)
    have d6 : decide (op = 6) = false := decide_eq_false (by omega)
    simp (maxSteps := 4000000) (disch := first | omega | assumption | (simp only [bxS, stOk, Nat.reduceBEq, Nat.reduceEqDiff, Nat.reduceAdd]; done) | (simp only [push_lo, push_n, set_lo, set_n]; omega) | (apply has_ofL; simp only [List.length_cons, List.length_nil]; omega) | (apply has_setN; apply has_ofL; simp only [List.length_cons, List.length_nil]; omega)) only [↓bxD, bxP, bxQ, bxQ2, Nat.reduceBEq, reduceCtorEq, Nat.reduceAdd, Nat.reduceSub, Nat.reduceMul, Nat.reduceLeDiff, Nat.reduceLT, R10, R13, R22, R23, R24, R25, R4, R40, R41, R42, R43, R44, R45, R46, R47, R48, R5, R61, R62, R63, R64, R65, R9, h1, c0, c5, nck_p, d2, d3]
    show Wp fns K43_1 _ _ _
    unfold K43_1
    simp (maxSteps := 4000000) (disch := first | omega | assumption | (simp only [bxS, stOk, Nat.reduceBEq, Nat.reduceEqDiff, Nat.reduceAdd]; done) | (simp only [push_lo, push_n, set_lo, set_n]; omega) | (apply has_ofL; simp only [List.length_cons, List.length_nil]; omega) | (apply has_setN; apply has_ofL; simp only [List.length_cons, List.length_nil]; omega)) only [↓bxD, bxP, bxQ, bxQ2, Nat.reduceBEq, reduceCtorEq, Nat.reduceAdd, Nat.reduceSub, Nat.reduceMul, Nat.reduceLeDiff, Nat.reduceLT, R10, R13, R22, R23, R24, R25, R4, R40, R41, R42, R43, R44, R45, R46, R47, R48, R5, R61, R62, R63, R64, R65, R9, h1, c0, c5, nck_p, d4, d5, d6]
    show Wp fns K43_0 _ _ _
    unfold K43_0
    simp (maxSteps := 4000000) (disch := first | omega | assumption | (simp only [bxS, stOk, Nat.reduceBEq, Nat.reduceEqDiff, Nat.reduceAdd]; done) | (simp only [push_lo, push_n, set_lo, set_n]; omega) | (apply has_ofL; simp only [List.length_cons, List.length_nil]; omega) | (apply has_setN; apply has_ofL; simp only [List.length_cons, List.length_nil]; omega)) only [↓bxD, bxP, bxQ, bxQ2, Nat.reduceBEq, reduceCtorEq, Nat.reduceAdd, Nat.reduceSub, Nat.reduceMul, Nat.reduceLeDiff, Nat.reduceLT, R10, R13, R22, R23, R24, R25, R4, R40, R41, R42, R43, R44, R45, R46, R47, R48, R5, R61, R62, R63, R64, R65, R9, h1, c0, c5, nck_p]
    show Wp fns K43_2 _ _ _
    unfold K43_2
    simp (maxSteps := 4000000) (disch := first | omega | assumption | (simp only [bxS, stOk, Nat.reduceBEq, Nat.reduceEqDiff, Nat.reduceAdd]; done) | (simp only [push_lo, push_n, set_lo, set_n]; omega) | (apply has_ofL; simp only [List.length_cons, List.length_nil]; omega) | (apply has_setN; apply has_ofL; simp only [List.length_cons, List.length_nil]; omega)) only [↓bxD, bxP, bxQ, bxQ2, Nat.reduceBEq, reduceCtorEq, Nat.reduceAdd, Nat.reduceSub, Nat.reduceMul, Nat.reduceLeDiff, Nat.reduceLT, R10, R13, R22, R23, R24, R25, R4, R40, R41, R42, R43, R44, R45, R46, R47, R48, R5, R61, R62, R63, R64, R65, R9, h1, c0, c5, nck_p]
    exact ⟨rfl, rfl, trivial, fun e => (e rfl).elim⟩
theorem kids_any {M : MH} {x : Rx} {id off : Nat} (h : NodeAt M x id off) (hlo : M.lo ≤ M.n) : Cp fns 43 [.p id off] M fun m M' => KidsV M x id off m ∧ M' = M := kids_in h (.refl M) hlo
end Go.Proofs.Ytaagkdljkpbilaa.K
