/-
  What package posit does with sets of places. Conditions: none.
-/
import Derived.Test.YtaagkdljkpbilaaP0
import Derived.Test.YtaagkdljkpbilaaLitK
import Derived.Test.YtaagkdljkpbilaaSw
import Derived.Test.YtaagkdljkpbilaaBx
set_option linter.unusedSimpArgs false
set_option linter.unusedVariables false
namespace Go.Proofs.Ytaagkdljkpbilaa.K
open Go Ev
set_option maxRecDepth 100000
set_option maxHeartbeats 4000000

theorem has_any' {M : MH} {N i : Nat} (hi : i < 192) (hlo : M.lo ≤ M.n) : Cp fns 62 [.ag (plc N), .i .i64 (i : Int)] M fun m M' => m = .b (N.testBit i) ∧ Ext M M' := by
  refine Cp_call (fn := F62) (by kernel_rfl) (Nat.le_of_ble_eq_true rfl) ?_
  show Wp fns B62 (T.set q1 (some (.i .i64 (i : Int))) (T.set q0 (some (.ag (plc N))) T.lf)) M _
  unfold B62
  have hU : isU (.ag (plc N)) = false := rfl
  have hcl : MV.cells (.ag (plc N)) = plc N := rfl
  have hlen : (plc N).length = 3 := rfl
  have c1 : cget (ofL (plc N) 0) (0 + i / 64 * 1) = some (.i .u64 ((wd N (i / 64) : Nat) : Int)) := at_ofL (plc N) _ _ (by rw [Nat.mul_one]; exact plc_at (by omega))
  have c2 : cget (ofL (plc N) 0) (i / 64 * 1) = some (.i .u64 ((wd N (i / 64) : Nat) : Int)) := by rw [Nat.zero_add] at c1; exact c1
  have e1 := shr_i64 i
  have e2 := and63 (i := i) (by omega)
  have e3 := shr_u64 (wd N (i / 64)) (i % 64) (by omega)
  have hlt : wd N (i / 64) / 2 ^ (i % 64) < 18446744073709551616 := Nat.lt_of_le_of_lt (Nat.div_le_self _ _) (wd_lt _ _)
  have e4 : binV .and (.i .u64 ((wd N (i / 64) / 2 ^ (i % 64) : Nat) : Int)) (.i .u64 1) = some (.i .u64 ((((wd N (i / 64) / 2 ^ (i % 64)) &&& 1 : Nat)) : Int)) := and_u64 (b := 1) hlt (by decide)
  have e5 : ixAV 3 1 (.p M.n 0) (.i .i64 ((i / 64 : Nat) : Int)) = some (.p M.n (0 + i / 64 * 1)) := ixA_p (by omega)
  have e6 := wd_has N i
  have c0 := plc_at (N := N) (k := i / 64) (by omega)
  simp (maxSteps := 4000000) (disch := first | omega | assumption | (simp only [bxS, stOk, Nat.reduceBEq, Nat.reduceEqDiff, Nat.reduceAdd]; done) | (simp only [push_lo, push_n, set_lo, set_n]; omega) | (apply has_ofL; simp only [List.length_cons, List.length_nil]; omega) | (apply has_setN; apply has_ofL; simp only [List.length_cons, List.length_nil]; omega)) only [↓bxD, bxP, bxQ, bxQ2, Nat.reduceBEq, reduceCtorEq, Nat.reduceAdd, Nat.reduceSub, Nat.reduceMul, Nat.reduceLeDiff, Nat.reduceLT, R10, R13, R22, R23, R24, R25, R4, R40, R41, R42, R43, R44, R45, R46, R47, R48, R5, R61, R62, R63, R64, R65, R9, hU, hcl, hlen, c0, e1, e2, e3, e4, e5, e6, Nat.zero_add, Nat.mul_one]
  exact .push M _
theorem ev_get {f : Fr} {p : Ky} {m : MV} (h : f.get p = some m) : X.ev f (.t p) = m := by
  show (match f.get p with | some m => m | none => .u) = m
  rw [h]
/-- Words of which the first ones are joined. -/
def mixW (N N' k : Nat) : List MV := [.i .u64 ((if 0 < k then wd (N ||| N') 0 else wd N 0 : Nat) : Int), .i .u64 ((if 1 < k then wd (N ||| N') 1 else wd N 1 : Nat) : Int), .i .u64 ((if 2 < k then wd (N ||| N') 2 else wd N 2 : Nat) : Int)]
theorem mixW_at {N N' k j : Nat} (h : j < 3) : (mixW N N' k)[j]? = some (.i .u64 ((if j < k then wd (N ||| N') j else wd N j : Nat) : Int)) := by
  match j, h with
  | 0, _ => rfl
  | 1, _ => rfl
  | 2, _ => rfl
theorem mixW_set {N N' k : Nat} {c : T MV} (h : At c 0 (mixW N N' k)) (hk : k < 3) : At (setN [.i .u64 ((wd (N ||| N') k : Nat) : Int)] k c) 0 (mixW N N' (k + 1)) := by
  have := h.set' (k := k) k (.i .u64 ((wd (N ||| N') k : Nat) : Int)) (by show k < 3; exact hk) (by omega)
  rwa [show (mixW N N' k).set k (.i .u64 ((wd (N ||| N') k : Nat) : Int)) = mixW N N' (k + 1) from by
    match k, hk with
    | 0, _ => rfl
    | 1, _ => rfl
    | 2, _ => rfl] at this
theorem with_any {M : MH} {N N' : Nat} (hlo : M.lo ≤ M.n) : Cp fns 65 [.ag (plc N), .ag (plc N')] M fun m M' => m = .ag (plc (N ||| N')) ∧ Ext M M' := by
  refine Cp_call (fn := F65) (by kernel_rfl) (Nat.le_of_ble_eq_true rfl) ?_
  show Wp fns B65 (T.set q1 (some (.ag (plc N'))) (T.set q0 (some (.ag (plc N))) T.lf)) M _
  unfold B65
  have hU : ∀ N, isU (.ag (plc N)) = false := fun _ => rfl
  have hcl : ∀ N, MV.cells (.ag (plc N)) = plc N := fun _ => rfl
  have hlen : ∀ N, (plc N).length = 3 := fun _ => rfl
  simp (maxSteps := 4000000) (disch := first | omega | assumption | (simp only [bxS, stOk, Nat.reduceBEq, Nat.reduceEqDiff, Nat.reduceAdd]; done) | (simp only [push_lo, push_n, set_lo, set_n]; omega) | (apply has_ofL; simp only [List.length_cons, List.length_nil]; omega) | (apply has_setN; apply has_ofL; simp only [List.length_cons, List.length_nil]; omega)) only [↓bxD, bxP, bxQ, bxQ2, Nat.reduceBEq, reduceCtorEq, Nat.reduceAdd, Nat.reduceSub, Nat.reduceMul, Nat.reduceLeDiff, Nat.reduceLT, R10, R13, R22, R23, R24, R25, R4, R40, R41, R42, R43, R44, R45, R46, R47, R48, R5, R61, R62, R63, R64, R65, R9, hU, hcl, hlen]
  generalize hM1 : ((M.push _).push _).push _ = M1
  have g0 : M1.get M.n = some (.cs false 3 (ofL (plc N) 0)) := by rw [← hM1, push_old (by show M.n < M.n + 2; omega), push_old (by show M.n < M.n + 1; omega)]; exact push_new _
  have g1 : M1.get (M.n + 1) = some (.cs false 3 (ofL (plc N') 0)) := by rw [← hM1, push_old (by show M.n + 1 < M.n + 2; omega)]; exact push_new (M := M.push _) _
  have g2 : M1.get (M.n + 2) = some (.cs false 3 (ofL [.i .u64 0, .i .u64 0, .i .u64 0] 0)) := by rw [← hM1]; exact push_new (M := (M.push _).push _) _
  have hx : Ext M M1 := by rw [← hM1]; exact ((Ext.push M _).trans (.push _ _)).trans (.push _ _)
  have hn : M1.n = M.n + 3 := by rw [← hM1]; rfl
  have hl := hx.lo
  clear hM1
  refine Wp_inv (σ := Nat) (fun k f M' => k ≤ 3 ∧ X.ev f (.t q2) = .p M.n 0 ∧ X.ev f (.t q3) = .p (M.n + 1) 0 ∧ f.get q4 = some (.p (M.n + 1 + 1) 0) ∧ X.ev f (.t q6) = .i .i64 (k : Int) ∧ Chg (fun j => j = M.n) M1 M' ∧ ∃ c, M'.get M.n = some (.cs false 3 c) ∧ At c 0 (mixW N N' k)) (fun k => 3 - k) ?_ 0 ?_
  · rintro k f M' ⟨hk, h2, h3, h4, h6, hx', c, hc, hat⟩
    have n1 := hx'.n
    have l1 := hx'.lo
    have g1' : M'.get (M.n + 1) = _ := (hx'.old (M.n + 1) (by omega) (by omega)).trans g1
    have g2' : M'.get (M.n + 1 + 1) = _ := (hx'.old (M.n + 1 + 1) (by omega) (by omega)).trans g2
    have h4' := ev_get h4
    simp only [q2, q3, q4, q6] at h2 h3 h4 h4' h6
    unfold L65_2
    simp (maxSteps := 4000000) (disch := first | omega | assumption | (simp only [bxS, stOk, Nat.reduceBEq, Nat.reduceEqDiff, Nat.reduceAdd]; done) | (simp only [push_lo, push_n, set_lo, set_n]; omega) | (apply has_ofL; simp only [List.length_cons, List.length_nil]; omega) | (apply has_setN; apply has_ofL; simp only [List.length_cons, List.length_nil]; omega)) only [↓bxD, bxP, bxQ, bxQ2, Nat.reduceBEq, reduceCtorEq, Nat.reduceAdd, Nat.reduceSub, Nat.reduceMul, Nat.reduceLeDiff, Nat.reduceLT, R10, R13, R22, R23, R24, R25, R4, R40, R41, R42, R43, R44, R45, R46, R47, R48, R5, R61, R62, R63, R64, R65, R9, h2, h3, h6]
    refine condP_split (fun hlt => ?_) (fun hge => ?_)
    · have hk3 : k < 3 := by omega
      have a1 : ixAV 3 1 (.p M.n 0) (.i .i64 (k : Int)) = some (.p M.n (0 + k * 1)) := ixA_p hk3
      have a2 : ixAV 3 1 (.p (M.n + 1) 0) (.i .i64 (k : Int)) = some (.p (M.n + 1) (0 + k * 1)) := ixA_p hk3
      have a3 : cget c k = some (.i .u64 ((wd N k : Nat) : Int)) := by
        have := hat k (.i .u64 ((wd N k : Nat) : Int)) (by rw [mixW_at hk3, if_neg (Nat.lt_irrefl _)])
        rwa [Nat.zero_add] at this
      have a4 := plc_at (N := N') hk3
      have a5 := or_u64 (wd_lt N k) (wd_lt N' k)
      have a6 : hasB c 1 k = true := has_at hat (by omega) (by show k + 1 ≤ 0 + 3; omega)
      simp (maxSteps := 4000000) (disch := first | omega | assumption | (simp only [bxS, stOk, Nat.reduceBEq, Nat.reduceEqDiff, Nat.reduceAdd]; done) | (simp only [push_lo, push_n, set_lo, set_n]; omega) | (apply has_ofL; simp only [List.length_cons, List.length_nil]; omega) | (apply has_setN; apply has_ofL; simp only [List.length_cons, List.length_nil]; omega)) only [↓bxD, bxP, bxQ, bxQ2, Nat.reduceBEq, reduceCtorEq, Nat.reduceAdd, Nat.reduceSub, Nat.reduceMul, Nat.reduceLeDiff, Nat.reduceLT, R10, R13, R22, R23, R24, R25, R4, R40, R41, R42, R43, R44, R45, R46, R47, R48, R5, R61, R62, R63, R64, R65, R9, h2, h3, h6]
      show Wp fns K65_1 _ _ _
      unfold K65_1
      simp (maxSteps := 4000000) (disch := first | omega | assumption | (simp only [bxS, stOk, Nat.reduceBEq, Nat.reduceEqDiff, Nat.reduceAdd]; done) | (simp only [push_lo, push_n, set_lo, set_n]; omega) | (apply has_ofL; simp only [List.length_cons, List.length_nil]; omega) | (apply has_setN; apply has_ofL; simp only [List.length_cons, List.length_nil]; omega)) only [↓bxD, bxP, bxQ, bxQ2, Nat.reduceBEq, reduceCtorEq, Nat.reduceAdd, Nat.reduceSub, Nat.reduceMul, Nat.reduceLeDiff, Nat.reduceLT, R10, R13, R22, R23, R24, R25, R4, R40, R41, R42, R43, R44, R45, R46, R47, R48, R5, R61, R62, R63, R64, R65, R9, h2, h3, h6, a1, a2, hc, g1', Nat.zero_add, Nat.mul_one, a3, a4]
      refine Wp_dreg_of (by omega) ?_
      simp (maxSteps := 4000000) (disch := first | omega | assumption | (simp only [bxS, stOk, Nat.reduceBEq, Nat.reduceEqDiff, Nat.reduceAdd]; done) | (simp only [push_lo, push_n, set_lo, set_n]; omega) | (apply has_ofL; simp only [List.length_cons, List.length_nil]; omega) | (apply has_setN; apply has_ofL; simp only [List.length_cons, List.length_nil]; omega)) only [↓bxD, bxP, bxQ, bxQ2, Nat.reduceBEq, reduceCtorEq, Nat.reduceAdd, Nat.reduceSub, Nat.reduceMul, Nat.reduceLeDiff, Nat.reduceLT, R10, R13, R22, R23, R24, R25, R4, R40, R41, R42, R43, R44, R45, R46, R47, R48, R5, R61, R62, R63, R64, R65, R9, h2, h3, h6, a1, a2, hc, g1', Nat.zero_add, Nat.mul_one, a3, a4, a5, cells_i]
      show Wp fns K65_0 _ _ _
      unfold K65_0
      simp (maxSteps := 4000000) (disch := first | omega | assumption | (simp only [bxS, stOk, Nat.reduceBEq, Nat.reduceEqDiff, Nat.reduceAdd]; done) | (simp only [push_lo, push_n, set_lo, set_n]; omega) | (apply has_ofL; simp only [List.length_cons, List.length_nil]; omega) | (apply has_setN; apply has_ofL; simp only [List.length_cons, List.length_nil]; omega)) only [↓bxD, bxP, bxQ, bxQ2, Nat.reduceBEq, reduceCtorEq, Nat.reduceAdd, Nat.reduceSub, Nat.reduceMul, Nat.reduceLeDiff, Nat.reduceLT, R10, R13, R22, R23, R24, R25, R4, R40, R41, R42, R43, R44, R45, R46, R47, R48, R5, R61, R62, R63, R64, R65, R9, h2, h3, h6, get_set]
      refine ⟨k + 1, by omega, by omega, h4, rfl, hx'.set _ (.inl rfl), _, rfl, ?_⟩
      rw [wd_or]
      exact mixW_set hat hk3
    · have hk3 : k = 3 := by omega
      subst hk3
      have a7 : Ev.getN c 3 0 = some (plc (N ||| N')) := hat.getN
      have a8 : ∀ l : List MV, Ev.getN (setN (plc (N ||| N')) 0 (ofL l 0)) 3 0 = some (plc (N ||| N')) := fun l => getN_setN' rfl
      have hst : stOk 3 (.ag (plc (N ||| N'))) = true := rfl
      simp (maxSteps := 4000000) (disch := first | omega | assumption | (simp only [bxS, stOk, Nat.reduceBEq, Nat.reduceEqDiff, Nat.reduceAdd]; done) | (simp only [push_lo, push_n, set_lo, set_n]; omega) | (apply has_ofL; simp only [List.length_cons, List.length_nil]; omega) | (apply has_setN; apply has_ofL; simp only [List.length_cons, List.length_nil]; omega)) only [↓bxD, bxP, bxQ, bxQ2, Nat.reduceBEq, reduceCtorEq, Nat.reduceAdd, Nat.reduceSub, Nat.reduceMul, Nat.reduceLeDiff, Nat.reduceLT, R10, R13, R22, R23, R24, R25, R4, R40, R41, R42, R43, R44, R45, R46, R47, R48, R5, R61, R62, R63, R64, R65, R9, h2, h3, h6]
      show Wp fns K65_3 _ _ _
      unfold K65_3
      simp (maxSteps := 4000000) (disch := first | omega | assumption | (simp only [bxS, stOk, Nat.reduceBEq, Nat.reduceEqDiff, Nat.reduceAdd]; done) | (simp only [push_lo, push_n, set_lo, set_n]; omega) | (apply has_ofL; simp only [List.length_cons, List.length_nil]; omega) | (apply has_setN; apply has_ofL; simp only [List.length_cons, List.length_nil]; omega)) only [↓bxD, bxP, bxQ, bxQ2, Nat.reduceBEq, reduceCtorEq, Nat.reduceAdd, Nat.reduceSub, Nat.reduceMul, Nat.reduceLeDiff, Nat.reduceLT, R10, R13, R22, R23, R24, R25, R4, R40, R41, R42, R43, R44, R45, R46, R47, R48, R5, R61, R62, R63, R64, R65, R9, h2, h3, h6, res_cN, cNV_p, cNo_cs, get_set, hc, g2', a7, a8, h4, h4', hU, hcl, hlen]
      exact ((Chg.trans (S := fun j => M.n ≤ j) (Chg.of hx) (hx'.mono fun j _ e => by omega)).set _ (.inl (by omega))).ext fun j hj => by omega
  · refine ⟨by omega, by simp (maxSteps := 4000000) (disch := first | omega | assumption | (simp only [bxS, stOk, Nat.reduceBEq, Nat.reduceEqDiff, Nat.reduceAdd]; done) | (simp only [push_lo, push_n, set_lo, set_n]; omega) | (apply has_ofL; simp only [List.length_cons, List.length_nil]; omega) | (apply has_setN; apply has_ofL; simp only [List.length_cons, List.length_nil]; omega)) only [↓bxD, bxP, bxQ, bxQ2, Nat.reduceBEq, reduceCtorEq, Nat.reduceAdd, Nat.reduceSub, Nat.reduceMul, Nat.reduceLeDiff, Nat.reduceLT, R10, R13, R22, R23, R24, R25, R4, R40, R41, R42, R43, R44, R45, R46, R47, R48, R5, R61, R62, R63, R64, R65, R9, hU, hcl, hlen], by simp (maxSteps := 4000000) (disch := first | omega | assumption | (simp only [bxS, stOk, Nat.reduceBEq, Nat.reduceEqDiff, Nat.reduceAdd]; done) | (simp only [push_lo, push_n, set_lo, set_n]; omega) | (apply has_ofL; simp only [List.length_cons, List.length_nil]; omega) | (apply has_setN; apply has_ofL; simp only [List.length_cons, List.length_nil]; omega)) only [↓bxD, bxP, bxQ, bxQ2, Nat.reduceBEq, reduceCtorEq, Nat.reduceAdd, Nat.reduceSub, Nat.reduceMul, Nat.reduceLeDiff, Nat.reduceLT, R10, R13, R22, R23, R24, R25, R4, R40, R41, R42, R43, R44, R45, R46, R47, R48, R5, R61, R62, R63, R64, R65, R9, hU, hcl, hlen], by simp (maxSteps := 4000000) (disch := first | omega | assumption | (simp only [bxS, stOk, Nat.reduceBEq, Nat.reduceEqDiff, Nat.reduceAdd]; done) | (simp only [push_lo, push_n, set_lo, set_n]; omega) | (apply has_ofL; simp only [List.length_cons, List.length_nil]; omega) | (apply has_setN; apply has_ofL; simp only [List.length_cons, List.length_nil]; omega)) only [↓bxD, bxP, bxQ, bxQ2, Nat.reduceBEq, reduceCtorEq, Nat.reduceAdd, Nat.reduceSub, Nat.reduceMul, Nat.reduceLeDiff, Nat.reduceLT, R10, R13, R22, R23, R24, R25, R4, R40, R41, R42, R43, R44, R45, R46, R47, R48, R5, R61, R62, R63, R64, R65, R9, hU, hcl, hlen, get_set], by simp (maxSteps := 4000000) (disch := first | omega | assumption | (simp only [bxS, stOk, Nat.reduceBEq, Nat.reduceEqDiff, Nat.reduceAdd]; done) | (simp only [push_lo, push_n, set_lo, set_n]; omega) | (apply has_ofL; simp only [List.length_cons, List.length_nil]; omega) | (apply has_setN; apply has_ofL; simp only [List.length_cons, List.length_nil]; omega)) only [↓bxD, bxP, bxQ, bxQ2, Nat.reduceBEq, reduceCtorEq, Nat.reduceAdd, Nat.reduceSub, Nat.reduceMul, Nat.reduceLeDiff, Nat.reduceLT, R10, R13, R22, R23, R24, R25, R4, R40, R41, R42, R43, R44, R45, R46, R47, R48, R5, R61, R62, R63, R64, R65, R9, hU, hcl, hlen] <;> rfl, Chg.refl _ _, _, g0, at_ofL _⟩
theorem add_any' {M : MH} {N i id off sz : Nat} {c : T MV} (hi : i < 192) (hlo : M.lo ≤ M.n) (hid : M.lo ≤ id) (hg : M.get id = some (.cs false sz c)) (hat : At c off (plc N)) :
    Cp fns 63 [.p id off, .i .i64 (i : Int)] M fun _ M' => Chg (fun j => j = id) M M' ∧ ∃ c', M'.get id = some (.cs false sz c') ∧ At c' off (plc (N ||| 2 ^ i)) := by
  refine Cp_call (fn := F63) (by kernel_rfl) (Nat.le_of_ble_eq_true rfl) ?_
  show Wp fns B63 (T.set q1 (some (.i .i64 (i : Int))) (T.set q0 (some (.p id off)) T.lf)) M _
  unfold B63
  have e1 := shr_i64 i
  have e2 := and63 (i := i) (by omega)
  have e3 := shl_u64 (i % 64) (by omega)
  have e5 : ixAV 3 1 (.p id off) (.i .i64 ((i / 64 : Nat) : Int)) = some (.p id (off + i / 64 * 1)) := ixA_p (by omega)
  have c1 : cget c (off + i / 64) = some (.i .u64 ((wd N (i / 64) : Nat) : Int)) := hat _ _ (plc_at (by omega))
  have e6 := or_u64 (wd_lt N (i / 64)) (b := 2 ^ (i % 64)) (Nat.lt_of_lt_of_le (Nat.pow_lt_pow_right (by omega) (show i % 64 < 64 by omega)) (by decide))
  have hb : hasB c 1 (off + i / 64) = true := has_at hat (by omega) (by show _ ≤ off + 3; omega)
  refine Wp_dreg_of hlo ?_
  simp (maxSteps := 4000000) (disch := first | omega | assumption | (simp only [bxS, stOk, Nat.reduceBEq, Nat.reduceEqDiff, Nat.reduceAdd]; done) | (simp only [push_lo, push_n, set_lo, set_n]; omega) | (apply has_ofL; simp only [List.length_cons, List.length_nil]; omega) | (apply has_setN; apply has_ofL; simp only [List.length_cons, List.length_nil]; omega)) only [↓bxD, bxP, bxQ, bxQ2, Nat.reduceBEq, reduceCtorEq, Nat.reduceAdd, Nat.reduceSub, Nat.reduceMul, Nat.reduceLeDiff, Nat.reduceLT, R10, R13, R22, R23, R24, R25, R4, R40, R41, R42, R43, R44, R45, R46, R47, R48, R5, R61, R62, R63, R64, R65, R9, hg, nck_p, e1, e2, e3, e5, e6, c1, Nat.mul_one, cells_i, resL_nil]
  refine ⟨(Chg.refl _ M).set _ (.inl rfl), _, rfl, ?_⟩
  have := hat.set' (k := off + i / 64) (i / 64) (.i .u64 (((wd N (i / 64) ||| 2 ^ (i % 64) : Nat)) : Int)) (by show i / 64 < 3; omega) rfl
  rwa [show (plc N).set (i / 64) (.i .u64 (((wd N (i / 64) ||| 2 ^ (i % 64) : Nat)) : Int)) = plc (N ||| 2 ^ i) from by
    unfold plc
    rw [wd_add, wd_add, wd_add]
    have : i / 64 = 0 ∨ i / 64 = 1 ∨ i / 64 = 2 := by omega
    rcases this with e | e | e <;> rw [e] <;> rfl] at this
end Go.Proofs.Ytaagkdljkpbilaa.K
