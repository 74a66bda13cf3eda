/-
  The law PositRows builds its pattern. Conditions: none.
-/
import Derived.Test.YtaagkdljkpbilaaR1
import Derived.Test.YtaagkdljkpbilaaLitK
import Derived.Test.YtaagkdljkpbilaaSw
import Derived.Test.YtaagkdljkpbilaaBx
set_option linter.unusedSimpArgs false
set_option linter.unusedVariables false
namespace Go.Proofs.Ytaagkdljkpbilaa.K
open Go Ev
set_option maxRecDepth 100000
set_option maxHeartbeats 4000000

theorem rows_build {f : Fr} {M : MH} {lo XB : Nat} {v : MV} {zs : List Int} {c0 : T MV} (hlo : M.lo ≤ M.n) (hv : RowAt M 1 v (iv zs)) (hw : ∀ z ∈ zs, -9223372036854775808 ≤ z ∧ z ≤ 9223372036854775807) (hn : zs.length ≤ 40) (h0 : X.ev f (.t q0) = v) (h4 : X.ev f (.t q4) = .p XB 0) (h5 : X.ev f (.t q5) = .i .i64 0) (hX : XB < lo) (hXl : M.lo ≤ XB) (hl : lo ≤ M.n) (hvl : sid v < XB) (hg : M.get XB = some (.cs false 6 c0)) (hat : At c0 0 (rcs 2 0 0 0 0 .nils)) {Q : Post}
    (hQ : ∀ f' M' c kv es, X.ev f' (.t q0) = v → X.ev f' (.t q4) = .p XB 0 → M.n ≤ M'.n → M'.lo = M.lo → (∀ j, j < lo → j ≠ XB → M'.get j = M.get j) → M'.get XB = some (.cs false 6 c) → At c 0 (rcs 2 0 0 0 0 kv) → OwnRow lo M' 6 kv es → es.length = zs.length → (∀ (i : Nat) e o, es[i]? = some e → (zs.map oc)[i]? = some o → KidE lo M' kv o e) → Q .norm f' M') : Wp fns (.loop L4_3) f M (blockQ 0 Q) := by
  obtain ⟨v1, v2⟩ := hv.sl
  rw [iv_len] at v2
  refine Wp_inv (σ := Nat) (fun k f M' => k ≤ zs.length ∧ X.ev f (.t q0) = v ∧ X.ev f (.t q4) = .p XB 0 ∧ X.ev f (.t q5) = .i .i64 (k : Int) ∧ M.n ≤ M'.n ∧ M'.lo = M.lo ∧ (∀ j, j < lo → j ≠ XB → M'.get j = M.get j) ∧ ∃ (c : T MV) (kv : MV) (es : List (List MV)), M'.get XB = some (.cs false 6 c) ∧ At c 0 (rcs 2 0 0 0 0 kv) ∧ OwnRow lo M' 6 kv es ∧ es.length = k ∧ ∀ (i : Nat) e o, es[i]? = some e → (zs.map oc)[i]? = some o → KidE lo M' kv o e) (fun k => zs.length - k) ?_ 0 ?_
  · rintro k f M' ⟨hk, h0, h4, h5, n1, l1, old, c, kv, es, hg, hat, hr, hel, hes⟩
    simp only [q0, q4, q5] at h0 h4 h5
    unfold L4_3
    simp (maxSteps := 4000000) (disch := first | omega | assumption | (simp only [bxS, stOk, Nat.reduceBEq, Nat.reduceEqDiff, Nat.reduceAdd]; done) | (simp only [push_lo, push_n, set_lo, set_n]; omega) | (simp only [push_n, set_n, beq_self_eq_true]; done) | (apply has_ofL; simp only [List.length_cons, List.length_nil]; omega) | (apply has_setN; apply has_ofL; simp only [List.length_cons, List.length_nil]; omega)) only [↓bxD, bxP, bxQ, bxQ2, Nat.reduceBEq, reduceCtorEq, Nat.reduceAdd, Nat.reduceSub, Nat.reduceMul, Nat.reduceLeDiff, Nat.reduceLT, R10, R13, R22, R23, R24, R25, R4, R40, R41, R42, R43, R44, R45, R46, R47, R48, R5, R61, R62, R63, R64, R65, R9, h0, h4, h5, v1, v2, len_sl]
    refine condP_split (fun hlt => ?_) (fun hge => ?_)
    · have hkn : k < zs.length := by omega
      obtain ⟨z, hz⟩ : ∃ z, zs[k]? = some z := ⟨_, List.getElem?_eq_getElem hkn⟩
      have hzw := hw z (List.mem_of_getElem? hz)
      have hoz : (zs.map oc)[k]? = some (oc z) := by rw [List.getElem?_map, hz]; rfl
      have ho4 := oc_lt z
      have ha3 := and3 hzw.1 hzw.2
      obtain ⟨ro, sz, t, g1, g2, g3⟩ := hv.read (iv_at hz)
      have g1' : M'.get (sid v) = some (.cs ro sz t) := by rw [old _ (by omega) (by omega)]; exact g1
      have g4 : cget t (soff v + k * 1) = some (.i .i64 z) := g3 0 _ rfl
      have ixz : ixV 1 v (.i .i64 (k : Int)) = some (.p (sid v) (soff v + k * 1)) := ix_sl v1 (by omega)
      have f1 : fillM [(0, 1, MV.i .i64 1)] [.i .i64 0, .i .u64 0, .i .u64 0, .i .u64 0, .i .u64 0, .nils] = some (rcs 1 0 0 0 0 .nils) := rfl
      have hcl : ∀ a b c d e kv, MV.cells (.ag (rcs a b c d e kv)) = rcs a b c d e kv := fun _ _ _ _ _ _ => rfl
      have s2 : stOk 6 (.ag (rcs 1 0 0 0 0 .nils)) = true := rfl
      have hgr : ∀ kv l, Ev.getN (setN (rcs 1 0 0 0 0 kv) 0 (ofL l 0)) 6 0 = some (rcs 1 0 0 0 0 kv) := fun kv l => getN_setN' rfl
      simp (maxSteps := 4000000) (disch := first | omega | assumption | (simp only [bxS, stOk, Nat.reduceBEq, Nat.reduceEqDiff, Nat.reduceAdd]; done) | (simp only [push_lo, push_n, set_lo, set_n]; omega) | (simp only [push_n, set_n, beq_self_eq_true]; done) | (apply has_ofL; simp only [List.length_cons, List.length_nil]; omega) | (apply has_setN; apply has_ofL; simp only [List.length_cons, List.length_nil]; omega)) only [↓bxD, bxP, bxQ, bxQ2, Nat.reduceBEq, reduceCtorEq, Nat.reduceAdd, Nat.reduceSub, Nat.reduceMul, Nat.reduceLeDiff, Nat.reduceLT, R10, R13, R22, R23, R24, R25, R4, R40, R41, R42, R43, R44, R45, R46, R47, R48, R5, R61, R62, R63, R64, R65, R9, h0, h4, h5, v1, v2, len_sl]
      show Wp fns K4_2 _ _ _
      unfold K4_2
      simp (maxSteps := 4000000) (disch := first | omega | assumption | (simp only [bxS, stOk, Nat.reduceBEq, Nat.reduceEqDiff, Nat.reduceAdd]; done) | (simp only [push_lo, push_n, set_lo, set_n]; omega) | (simp only [push_n, set_n, beq_self_eq_true]; done) | (apply has_ofL; simp only [List.length_cons, List.length_nil]; omega) | (apply has_setN; apply has_ofL; simp only [List.length_cons, List.length_nil]; omega)) only [↓bxD, bxP, bxQ, bxQ2, Nat.reduceBEq, reduceCtorEq, Nat.reduceAdd, Nat.reduceSub, Nat.reduceMul, Nat.reduceLeDiff, Nat.reduceLT, R10, R13, R22, R23, R24, R25, R4, R40, R41, R42, R43, R44, R45, R46, R47, R48, R5, R61, R62, R63, R64, R65, R9, h0, h4, h5, v1, v2, len_sl, f1, push_at, hcl, g1', g4, ixz, ha3]
      generalize hM1 : MH.set _ _ _ = M1
      have g5 : M1.get M'.n = some (.cs false 6 (setN (rcs 1 0 0 0 0 .nils) 0 (ofL zRe 0))) := by rw [← hM1]; exact set_same _ _
      have x1 : Ext M' M1 := by rw [← hM1]; exact (Ext.push M' _).set _ (Nat.le_refl _)
      have n2 : M1.n = M'.n + 1 := by rw [← hM1]; rfl
      have l2 := x1.lo
      clear hM1
      have hx1 : M1.get XB = some (.cs false 6 c) := (x1.old XB (by omega)).trans hg
      have hr1 : OwnRow lo M1 6 kv es := hr.ext x1
      by_cases ho0 : oc z = 0
      · have d0 : decide ((0 : Int) < ((oc z : Nat) : Int)) = false := decide_eq_false (by omega)
        simp (maxSteps := 4000000) (disch := first | omega | assumption | (simp only [bxS, stOk, Nat.reduceBEq, Nat.reduceEqDiff, Nat.reduceAdd]; done) | (simp only [push_lo, push_n, set_lo, set_n]; omega) | (simp only [push_n, set_n, beq_self_eq_true]; done) | (apply has_ofL; simp only [List.length_cons, List.length_nil]; omega) | (apply has_setN; apply has_ofL; simp only [List.length_cons, List.length_nil]; omega)) only [↓bxD, bxP, bxQ, bxQ2, Nat.reduceBEq, reduceCtorEq, Nat.reduceAdd, Nat.reduceSub, Nat.reduceMul, Nat.reduceLeDiff, Nat.reduceLT, R10, R13, R22, R23, R24, R25, R4, R40, R41, R42, R43, R44, R45, R46, R47, R48, R5, R61, R62, R63, R64, R65, R9, h0, h4, h5, v1, v2, len_sl, d0]
        have hb2 := g5
        have hx2 := hx1
        have hr2 := hr1
        have hc6 := at_setN (rcs 1 0 0 0 0 .nils) 0 (ofL zRe 0)
        generalize hcc : setN (rcs 1 0 0 0 0 .nils) 0 (ofL zRe 0) = c6 at hb2 hc6
        have ho2 : ∀ j, j < M'.n → M1.get j = M'.get j := fun j hj => x1.old j hj
        -- the kid is appended: M1, its box at M'.n
        have gb := hb2
        have hgN : Ev.getN c6 6 0 = some (rcs 1 0 0 0 0 .nils) := hc6.getN
        have c5' : cget c 5 = some kv := hat 5 _ rfl
        have ff : fillM [(0, 6, .ag (rcs 1 0 0 0 0 .nils))] [.i .i64 0, .i .u64 0, .i .u64 0, .i .u64 0, .i .u64 0, .nils] = some (rcs 1 0 0 0 0 .nils) := rfl
        have hbx : hasB c 1 5 = true := has_at hat (by omega) (by show 5 + 1 ≤ 0 + 6; omega)
        show Wp fns K4_0 _ _ _
        unfold K4_0
        simp (maxSteps := 4000000) (disch := first | omega | assumption | (simp only [bxS, stOk, Nat.reduceBEq, Nat.reduceEqDiff, Nat.reduceAdd]; done) | (simp only [push_lo, push_n, set_lo, set_n]; omega) | (simp only [push_n, set_n, beq_self_eq_true]; done) | (apply has_ofL; simp only [List.length_cons, List.length_nil]; omega) | (apply has_setN; apply has_ofL; simp only [List.length_cons, List.length_nil]; omega)) only [↓bxD, bxP, bxQ, bxQ2, Nat.reduceBEq, reduceCtorEq, Nat.reduceAdd, Nat.reduceSub, Nat.reduceMul, Nat.reduceLeDiff, Nat.reduceLT, R10, R13, R22, R23, R24, R25, R4, R40, R41, R42, R43, R44, R45, R46, R47, R48, R5, R61, R62, R63, R64, R65, R9, h0, h4, h5, v1, v2, len_sl, hx2, c5', gb, hgN, map_ag, ff, bslW_some]
        generalize hM3 : M1.push _ = M3
        have t3 : RowAt M3 6 (.sl M1.n 0 1 0) [rcs 1 0 0 0 0 .nils] := by rw [← hM3]; exact row_one rfl
        have x3 : Ext M1 M3 := by rw [← hM3]; exact .push _ _
        have n4 : M3.n = M1.n + 1 := by rw [← hM3]; rfl
        have l4 := x3.lo
        clear hM3
        have hr3 : OwnRow lo M3 6 kv es := hr2.ext x3
        obtain ⟨kv', M4, a1, a2, a3, a4, a5, a6, a7⟩ := app_rowX (bytes := 64) hr3 t3 (by omega) (by omega) (fun e he => by
          simp only [List.mem_cons, List.not_mem_nil, or_false] at he
          subst he; rfl) (by simp only [List.length_cons, List.length_nil]; omega) (by simp only [List.length_cons, List.length_nil]; omega)
        obtain ⟨nn, rfl⟩ := a7 (by simp)
        have hx4 : M4.get XB = some (.cs false 6 c) := by rw [a6 XB hX (by omega), x3.old XB (by omega)]; exact hx2
        refine bindP_of a1 ?_
        simp (maxSteps := 4000000) (disch := first | omega | assumption | (simp only [bxS, stOk, Nat.reduceBEq, Nat.reduceEqDiff, Nat.reduceAdd]; done) | (simp only [push_lo, push_n, set_lo, set_n]; omega) | (simp only [push_n, set_n, beq_self_eq_true]; done) | (apply has_ofL; simp only [List.length_cons, List.length_nil]; omega) | (apply has_setN; apply has_ofL; simp only [List.length_cons, List.length_nil]; omega)) only [↓bxD, bxP, bxQ, bxQ2, Nat.reduceBEq, reduceCtorEq, Nat.reduceAdd, Nat.reduceSub, Nat.reduceMul, Nat.reduceLeDiff, Nat.reduceLT, R10, R13, R22, R23, R24, R25, R4, R40, R41, R42, R43, R44, R45, R46, R47, R48, R5, R61, R62, R63, R64, R65, R9, h0, h4, h5, v1, v2, len_sl, hx4, cells_sl]
        generalize hM5 : MH.set _ _ _ = M5
        have g9 : M5.get XB = some (.cs false 6 (setN [.sl M3.n 0 nn 0] 5 c)) := by rw [← hM5]; exact set_same _ _
        have n9 : M5.n = M4.n := by rw [← hM5]; rfl
        have l9 : M5.lo = M4.lo := by rw [← hM5]; rfl
        have o9 : ∀ j, j ≠ XB → M5.get j = M4.get j := fun j hj => by rw [← hM5, set_ne hj]
        clear hM5
        show Wp fns K4_1 _ _ _
        unfold K4_1
        simp (maxSteps := 4000000) (disch := first | omega | assumption | (simp only [bxS, stOk, Nat.reduceBEq, Nat.reduceEqDiff, Nat.reduceAdd]; done) | (simp only [push_lo, push_n, set_lo, set_n]; omega) | (simp only [push_n, set_n, beq_self_eq_true]; done) | (apply has_ofL; simp only [List.length_cons, List.length_nil]; omega) | (apply has_setN; apply has_ofL; simp only [List.length_cons, List.length_nil]; omega)) only [↓bxD, bxP, bxQ, bxQ2, Nat.reduceBEq, reduceCtorEq, Nat.reduceAdd, Nat.reduceSub, Nat.reduceMul, Nat.reduceLeDiff, Nat.reduceLT, R10, R13, R22, R23, R24, R25, R4, R40, R41, R42, R43, R44, R45, R46, R47, R48, R5, R61, R62, R63, R64, R65, R9, h0, h4, h5, v1, v2, len_sl]
        refine ⟨k + 1, by omega, by omega, rfl, by omega, by omega, fun j hj hs => ?_, setN [.sl M3.n 0 nn 0] 5 c, .sl M3.n 0 nn 0, es ++ [rcs 1 0 0 0 0 .nils], g9, hat.set' 5 _ (by show 5 < 6; omega) rfl, ?_, by rw [List.length_append, hel]; rfl, ?_⟩
        · rw [o9 j hs, a6 j hj (by omega), x3.old j (by omega), ho2 j (by omega)]
          exact old j hj hs
        · exact a2.keep (by omega) fun a n d e e2 => by
            cases e2
            rw [o9 _ (by omega)]
        · intro i e o hi ho
          have keep : ∀ N o', N < M3.n → (∀ a n d e, kv = .sl a n d e → a ≠ N) → N ≠ XB → M3.get N = some o' → M5.get N = some o' := fun N o' h1 h2 h3 h4 => by
            rw [o9 N h3, a5 N h1 h2]; exact h4
          rw [List.getElem?_append] at hi
          split at hi
          · rcases hes i e o hi ho with ⟨q1, q2⟩ | ⟨q1, N, q2, q3, q4, q5, q6⟩
            · exact .inl ⟨q1, q2⟩
            · refine .inr ⟨q1, N, q2, keep N _ (by omega) (fun a n d e q7 q8 => by have := q6 a n d e q7; omega) (by omega) ((x3.old N (by omega)).trans ((ho2 N (by omega)).trans q3)), q4, by omega, fun a n d e q7 => by cases q7; omega⟩
          · rename_i hge
            have hi0 : i = k := by
              have := (List.getElem?_eq_some_iff.1 hi).1
              simp at this; omega
            subst hi0
            rw [show i - es.length = 0 from by omega] at hi
            cases hi
            rw [hoz] at ho
            cases ho
            exact .inl ⟨ho0, rfl⟩
      · have d0 : decide ((0 : Int) < ((oc z : Nat) : Int)) = true := decide_eq_true (by omega)
        have g1'' : M1.get (sid v) = some (.cs ro sz t) := (x1.old _ (by omega)).trans g1'
        have hop : (4 : Int) + ((oc z : Nat) : Int) - 1 = 3 + ((oc z : Nat) : Int) := by omega
        have hgz : Ev.getN (setN (rcs 1 0 0 0 0 .nils) 0 (ofL zRe 0)) 6 0 = some (rcs 1 0 0 0 0 .nils) := getN_setN' rfl
        have fz : fillM [(0, 6, .ag (rcs 1 0 0 0 0 .nils))] [.i .i64 0, .i .u64 0, .i .u64 0, .i .u64 0, .i .u64 0, .nils] = some (rcs 1 0 0 0 0 .nils) := rfl
        have hpl : ∀ m o, pushV M1.lift m o = some (m, M1.lift.push o) := fun m o => push_ok (Nat.le_refl _)
        have fk : fillM [(0, 1, MV.i .i64 (3 + ((oc z : Nat) : Int))), (5, 1, MV.sl M1.n 0 1 0)] [.i .i64 0, .i .u64 0, .i .u64 0, .i .u64 0, .i .u64 0, .nils] = some (rcs (3 + ((oc z : Nat) : Int)) 0 0 0 0 (.sl M1.n 0 1 0)) := rfl
        have s3 : stOk 6 (.ag (rcs (3 + ((oc z : Nat) : Int)) 0 0 0 0 (.sl M1.n 0 1 0))) = true := rfl
        have hbz : hasB (setN (rcs 1 0 0 0 0 .nils) 0 (ofL zRe 0)) 6 0 = true := has_setN _ _ _ _ (has_ofL _ _ _ (by decide))
        have hdl : (M1.lift.push (.cs false 6 (ofL (rcs 1 0 0 0 0 .nils) 0))).down M1.lo = M1.push (.cs false 6 (ofL (rcs 1 0 0 0 0 .nils) 0)) := rfl
        simp (maxSteps := 4000000) (disch := first | omega | assumption | (simp only [bxS, stOk, Nat.reduceBEq, Nat.reduceEqDiff, Nat.reduceAdd]; done) | (simp only [push_lo, push_n, set_lo, set_n]; omega) | (simp only [push_n, set_n, beq_self_eq_true]; done) | (apply has_ofL; simp only [List.length_cons, List.length_nil]; omega) | (apply has_setN; apply has_ofL; simp only [List.length_cons, List.length_nil]; omega)) only [↓bxD, bxP, bxQ, bxQ2, Nat.reduceBEq, reduceCtorEq, Nat.reduceAdd, Nat.reduceSub, Nat.reduceMul, Nat.reduceLeDiff, Nat.reduceLT, R10, R13, R22, R23, R24, R25, R4, R40, R41, R42, R43, R44, R45, R46, R47, R48, R5, R61, R62, R63, R64, R65, R9, h0, h4, h5, v1, v2, len_sl, d0]
        refine Wp_dreg_of (by omega) ?_
        simp (maxSteps := 4000000) (disch := first | omega | assumption | (simp only [bxS, stOk, Nat.reduceBEq, Nat.reduceEqDiff, Nat.reduceAdd]; done) | (simp only [push_lo, push_n, set_lo, set_n]; omega) | (simp only [push_n, set_n, beq_self_eq_true]; done) | (apply has_ofL; simp only [List.length_cons, List.length_nil]; omega) | (apply has_setN; apply has_ofL; simp only [List.length_cons, List.length_nil]; omega)) only [↓bxD, bxP, bxQ, bxQ2, Nat.reduceBEq, reduceCtorEq, Nat.reduceAdd, Nat.reduceSub, Nat.reduceMul, Nat.reduceLeDiff, Nat.reduceLT, R10, R13, R22, R23, R24, R25, R4, R40, R41, R42, R43, R44, R45, R46, R47, R48, R5, R61, R62, R63, R64, R65, R9, h0, h4, h5, v1, v2, len_sl, g1'', g4, ixz, ha3, hop, g5, hgz, map_ag, fz, bslW_some, hpl, fk, hcl, hdl]
        show Wp fns K4_0 _ _ _
        generalize hM2 : MH.set _ _ _ = M2
        generalize hf2 : (T.set _ _ _ : Fr) = f2
        have j0 : X.ev f2 (.t q0) = v := by rw [← hf2]; simp (maxSteps := 4000000) (disch := first | omega | assumption | (simp only [bxS, stOk, Nat.reduceBEq, Nat.reduceEqDiff, Nat.reduceAdd]; done) | (simp only [push_lo, push_n, set_lo, set_n]; omega) | (simp only [push_n, set_n, beq_self_eq_true]; done) | (apply has_ofL; simp only [List.length_cons, List.length_nil]; omega) | (apply has_setN; apply has_ofL; simp only [List.length_cons, List.length_nil]; omega)) only [↓bxD, bxP, bxQ, bxQ2, Nat.reduceBEq, reduceCtorEq, Nat.reduceAdd, Nat.reduceSub, Nat.reduceMul, Nat.reduceLeDiff, Nat.reduceLT, R10, R13, R22, R23, R24, R25, R4, R40, R41, R42, R43, R44, R45, R46, R47, R48, R5, R61, R62, R63, R64, R65, R9, h0, h4, h5, v1, v2, len_sl]
        have j4 : X.ev f2 (.t q4) = .p XB 0 := by rw [← hf2]; simp (maxSteps := 4000000) (disch := first | omega | assumption | (simp only [bxS, stOk, Nat.reduceBEq, Nat.reduceEqDiff, Nat.reduceAdd]; done) | (simp only [push_lo, push_n, set_lo, set_n]; omega) | (simp only [push_n, set_n, beq_self_eq_true]; done) | (apply has_ofL; simp only [List.length_cons, List.length_nil]; omega) | (apply has_setN; apply has_ofL; simp only [List.length_cons, List.length_nil]; omega)) only [↓bxD, bxP, bxQ, bxQ2, Nat.reduceBEq, reduceCtorEq, Nat.reduceAdd, Nat.reduceSub, Nat.reduceMul, Nat.reduceLeDiff, Nat.reduceLT, R10, R13, R22, R23, R24, R25, R4, R40, R41, R42, R43, R44, R45, R46, R47, R48, R5, R61, R62, R63, R64, R65, R9, h0, h4, h5, v1, v2, len_sl]
        have j5 : X.ev f2 (.t q5) = .i .i64 (k : Int) := by rw [← hf2]; simp (maxSteps := 4000000) (disch := first | omega | assumption | (simp only [bxS, stOk, Nat.reduceBEq, Nat.reduceEqDiff, Nat.reduceAdd]; done) | (simp only [push_lo, push_n, set_lo, set_n]; omega) | (simp only [push_n, set_n, beq_self_eq_true]; done) | (apply has_ofL; simp only [List.length_cons, List.length_nil]; omega) | (apply has_setN; apply has_ofL; simp only [List.length_cons, List.length_nil]; omega)) only [↓bxD, bxP, bxQ, bxQ2, Nat.reduceBEq, reduceCtorEq, Nat.reduceAdd, Nat.reduceSub, Nat.reduceMul, Nat.reduceLeDiff, Nat.reduceLT, R10, R13, R22, R23, R24, R25, R4, R40, R41, R42, R43, R44, R45, R46, R47, R48, R5, R61, R62, R63, R64, R65, R9, h0, h4, h5, v1, v2, len_sl]
        have j6 : X.ev f2 (.t q6) = .p M'.n 0 := by rw [← hf2]; simp (maxSteps := 4000000) (disch := first | omega | assumption | (simp only [bxS, stOk, Nat.reduceBEq, Nat.reduceEqDiff, Nat.reduceAdd]; done) | (simp only [push_lo, push_n, set_lo, set_n]; omega) | (simp only [push_n, set_n, beq_self_eq_true]; done) | (apply has_ofL; simp only [List.length_cons, List.length_nil]; omega) | (apply has_setN; apply has_ofL; simp only [List.length_cons, List.length_nil]; omega)) only [↓bxD, bxP, bxQ, bxQ2, Nat.reduceBEq, reduceCtorEq, Nat.reduceAdd, Nat.reduceSub, Nat.reduceMul, Nat.reduceLeDiff, Nat.reduceLT, R10, R13, R22, R23, R24, R25, R4, R40, R41, R42, R43, R44, R45, R46, R47, R48, R5, R61, R62, R63, R64, R65, R9, h0, h4, h5, v1, v2, len_sl]
        clear hf2
        have n3 : M2.n = M1.n + 1 := by rw [← hM2]; rfl
        have l3 : M2.lo = M1.lo := by rw [← hM2]; rfl
        have gN2 : M2.get M1.n = some (.cs false 6 (ofL (rcs 1 0 0 0 0 .nils) 0)) := by rw [← hM2, set_ne (by omega)]; exact push_new _
        have hb2 : M2.get M'.n = some (.cs false 6 (setN (rcs (3 + ((oc z : Nat) : Int)) 0 0 0 0 (.sl M1.n 0 1 0)) 0 (setN (rcs 1 0 0 0 0 .nils) 0 (ofL zRe 0)))) := by rw [← hM2]; exact set_same _ _
        have oM : ∀ j, j < M1.n → j ≠ M'.n → M2.get j = M1.get j := fun j hj hs => by rw [← hM2, set_ne hs, push_old hj]
        clear hM2
        have hc6 := at_setN (rcs (3 + ((oc z : Nat) : Int)) 0 0 0 0 (.sl M1.n 0 1 0)) 0 (setN (rcs 1 0 0 0 0 .nils) 0 (ofL zRe 0))
        generalize hcc : setN (rcs (3 + ((oc z : Nat) : Int)) 0 0 0 0 (.sl M1.n 0 1 0)) 0 (setN (rcs 1 0 0 0 0 .nils) 0 (ofL zRe 0)) = c6 at hb2 hc6
        have ho2 : ∀ j, j < M'.n → M2.get j = M'.get j := fun j hj => (oM j (by omega) (by omega)).trans (x1.old j hj)
        have hx2 : M2.get XB = some (.cs false 6 c) := (ho2 XB (by omega)).trans hg
        have hr2 : OwnRow lo M2 6 kv es := hr.keep (by omega) fun a n d e e2 => by
          obtain ⟨cc, q1, q2, q3⟩ := own_id hr e2
          exact ho2 a q3
        simp only [q0, q4, q5, q6] at j0 j4 j5 j6
        -- the kid is appended: M2, its box at M'.n
        have gb := hb2
        have hgN : Ev.getN c6 6 0 = some (rcs (3 + ((oc z : Nat) : Int)) 0 0 0 0 (.sl M1.n 0 1 0)) := hc6.getN
        have c5' : cget c 5 = some kv := hat 5 _ rfl
        have ff : fillM [(0, 6, .ag (rcs (3 + ((oc z : Nat) : Int)) 0 0 0 0 (.sl M1.n 0 1 0)))] [.i .i64 0, .i .u64 0, .i .u64 0, .i .u64 0, .i .u64 0, .nils] = some (rcs (3 + ((oc z : Nat) : Int)) 0 0 0 0 (.sl M1.n 0 1 0)) := rfl
        have hbx : hasB c 1 5 = true := has_at hat (by omega) (by show 5 + 1 ≤ 0 + 6; omega)
        unfold K4_0
        simp (maxSteps := 4000000) (disch := first | omega | assumption | (simp only [bxS, stOk, Nat.reduceBEq, Nat.reduceEqDiff, Nat.reduceAdd]; done) | (simp only [push_lo, push_n, set_lo, set_n]; omega) | (simp only [push_n, set_n, beq_self_eq_true]; done) | (apply has_ofL; simp only [List.length_cons, List.length_nil]; omega) | (apply has_setN; apply has_ofL; simp only [List.length_cons, List.length_nil]; omega)) only [↓bxD, bxP, bxQ, bxQ2, Nat.reduceBEq, reduceCtorEq, Nat.reduceAdd, Nat.reduceSub, Nat.reduceMul, Nat.reduceLeDiff, Nat.reduceLT, R10, R13, R22, R23, R24, R25, R4, R40, R41, R42, R43, R44, R45, R46, R47, R48, R5, R61, R62, R63, R64, R65, R9, j0, j4, j5, j6, hx2, c5', gb, hgN, map_ag, ff, bslW_some]
        generalize hM3 : M2.push _ = M3
        have t3 : RowAt M3 6 (.sl M2.n 0 1 0) [rcs (3 + ((oc z : Nat) : Int)) 0 0 0 0 (.sl M1.n 0 1 0)] := by rw [← hM3]; exact row_one rfl
        have x3 : Ext M2 M3 := by rw [← hM3]; exact .push _ _
        have n4 : M3.n = M2.n + 1 := by rw [← hM3]; rfl
        have l4 := x3.lo
        clear hM3
        have hr3 : OwnRow lo M3 6 kv es := hr2.ext x3
        obtain ⟨kv', M4, a1, a2, a3, a4, a5, a6, a7⟩ := app_rowX (bytes := 64) hr3 t3 (by omega) (by omega) (fun e he => by
          simp only [List.mem_cons, List.not_mem_nil, or_false] at he
          subst he; rfl) (by simp only [List.length_cons, List.length_nil]; omega) (by simp only [List.length_cons, List.length_nil]; omega)
        obtain ⟨nn, rfl⟩ := a7 (by simp)
        have hx4 : M4.get XB = some (.cs false 6 c) := by rw [a6 XB hX (by omega), x3.old XB (by omega)]; exact hx2
        refine bindP_of a1 ?_
        simp (maxSteps := 4000000) (disch := first | omega | assumption | (simp only [bxS, stOk, Nat.reduceBEq, Nat.reduceEqDiff, Nat.reduceAdd]; done) | (simp only [push_lo, push_n, set_lo, set_n]; omega) | (simp only [push_n, set_n, beq_self_eq_true]; done) | (apply has_ofL; simp only [List.length_cons, List.length_nil]; omega) | (apply has_setN; apply has_ofL; simp only [List.length_cons, List.length_nil]; omega)) only [↓bxD, bxP, bxQ, bxQ2, Nat.reduceBEq, reduceCtorEq, Nat.reduceAdd, Nat.reduceSub, Nat.reduceMul, Nat.reduceLeDiff, Nat.reduceLT, R10, R13, R22, R23, R24, R25, R4, R40, R41, R42, R43, R44, R45, R46, R47, R48, R5, R61, R62, R63, R64, R65, R9, j0, j4, j5, j6, hx4, cells_sl]
        generalize hM5 : MH.set _ _ _ = M5
        have g9 : M5.get XB = some (.cs false 6 (setN [.sl M3.n 0 nn 0] 5 c)) := by rw [← hM5]; exact set_same _ _
        have n9 : M5.n = M4.n := by rw [← hM5]; rfl
        have l9 : M5.lo = M4.lo := by rw [← hM5]; rfl
        have o9 : ∀ j, j ≠ XB → M5.get j = M4.get j := fun j hj => by rw [← hM5, set_ne hj]
        clear hM5
        show Wp fns K4_1 _ _ _
        unfold K4_1
        simp (maxSteps := 4000000) (disch := first | omega | assumption | (simp only [bxS, stOk, Nat.reduceBEq, Nat.reduceEqDiff, Nat.reduceAdd]; done) | (simp only [push_lo, push_n, set_lo, set_n]; omega) | (simp only [push_n, set_n, beq_self_eq_true]; done) | (apply has_ofL; simp only [List.length_cons, List.length_nil]; omega) | (apply has_setN; apply has_ofL; simp only [List.length_cons, List.length_nil]; omega)) only [↓bxD, bxP, bxQ, bxQ2, Nat.reduceBEq, reduceCtorEq, Nat.reduceAdd, Nat.reduceSub, Nat.reduceMul, Nat.reduceLeDiff, Nat.reduceLT, R10, R13, R22, R23, R24, R25, R4, R40, R41, R42, R43, R44, R45, R46, R47, R48, R5, R61, R62, R63, R64, R65, R9, j0, j4, j5, j6]
        refine ⟨k + 1, by omega, by omega, rfl, by omega, by omega, fun j hj hs => ?_, setN [.sl M3.n 0 nn 0] 5 c, .sl M3.n 0 nn 0, es ++ [rcs (3 + ((oc z : Nat) : Int)) 0 0 0 0 (.sl M1.n 0 1 0)], g9, hat.set' 5 _ (by show 5 < 6; omega) rfl, ?_, by rw [List.length_append, hel]; rfl, ?_⟩
        · rw [o9 j hs, a6 j hj (by omega), x3.old j (by omega), ho2 j (by omega)]
          exact old j hj hs
        · exact a2.keep (by omega) fun a n d e e2 => by
            cases e2
            rw [o9 _ (by omega)]
        · intro i e o hi ho
          have keep : ∀ N o', N < M3.n → (∀ a n d e, kv = .sl a n d e → a ≠ N) → N ≠ XB → M3.get N = some o' → M5.get N = some o' := fun N o' h1 h2 h3 h4 => by
            rw [o9 N h3, a5 N h1 h2]; exact h4
          rw [List.getElem?_append] at hi
          split at hi
          · rcases hes i e o hi ho with ⟨q1, q2⟩ | ⟨q1, N, q2, q3, q4, q5, q6⟩
            · exact .inl ⟨q1, q2⟩
            · refine .inr ⟨q1, N, q2, keep N _ (by omega) (fun a n d e q7 q8 => by have := q6 a n d e q7; omega) (by omega) ((x3.old N (by omega)).trans ((ho2 N (by omega)).trans q3)), q4, by omega, fun a n d e q7 => by cases q7; omega⟩
          · rename_i hge
            have hi0 : i = k := by
              have := (List.getElem?_eq_some_iff.1 hi).1
              simp at this; omega
            subst hi0
            rw [show i - es.length = 0 from by omega] at hi
            cases hi
            rw [hoz] at ho
            cases ho
            exact .inr ⟨ho0, M1.n, rfl, keep M1.n _ (by omega) (fun a n d e q7 q8 => by obtain ⟨cc, q1, q2, q3⟩ := own_id hr q7; omega) (by omega) ((x3.old M1.n (by omega)).trans gN2), by omega, by omega, fun a n d e q7 => by cases q7; omega⟩
    · have hkn : k = zs.length := by omega
      subst hkn
      simp (maxSteps := 4000000) (disch := first | omega | assumption | (simp only [bxS, stOk, Nat.reduceBEq, Nat.reduceEqDiff, Nat.reduceAdd]; done) | (simp only [push_lo, push_n, set_lo, set_n]; omega) | (simp only [push_n, set_n, beq_self_eq_true]; done) | (apply has_ofL; simp only [List.length_cons, List.length_nil]; omega) | (apply has_setN; apply has_ofL; simp only [List.length_cons, List.length_nil]; omega)) only [↓bxD, bxP, bxQ, bxQ2, Nat.reduceBEq, reduceCtorEq, Nat.reduceAdd, Nat.reduceSub, Nat.reduceMul, Nat.reduceLeDiff, Nat.reduceLT, R10, R13, R22, R23, R24, R25, R4, R40, R41, R42, R43, R44, R45, R46, R47, R48, R5, R61, R62, R63, R64, R65, R9, h0, h4, h5, v1, v2, len_sl]
      refine hQ _ M' c kv es ?_ ?_ n1 l1 old hg hat hr hel hes
      · simp (maxSteps := 4000000) (disch := first | omega | assumption | (simp only [bxS, stOk, Nat.reduceBEq, Nat.reduceEqDiff, Nat.reduceAdd]; done) | (simp only [push_lo, push_n, set_lo, set_n]; omega) | (simp only [push_n, set_n, beq_self_eq_true]; done) | (apply has_ofL; simp only [List.length_cons, List.length_nil]; omega) | (apply has_setN; apply has_ofL; simp only [List.length_cons, List.length_nil]; omega)) only [↓bxD, bxP, bxQ, bxQ2, Nat.reduceBEq, reduceCtorEq, Nat.reduceAdd, Nat.reduceSub, Nat.reduceMul, Nat.reduceLeDiff, Nat.reduceLT, R10, R13, R22, R23, R24, R25, R4, R40, R41, R42, R43, R44, R45, R46, R47, R48, R5, R61, R62, R63, R64, R65, R9, h0, h4, h5, v1, v2, len_sl]
      · simp (maxSteps := 4000000) (disch := first | omega | assumption | (simp only [bxS, stOk, Nat.reduceBEq, Nat.reduceEqDiff, Nat.reduceAdd]; done) | (simp only [push_lo, push_n, set_lo, set_n]; omega) | (simp only [push_n, set_n, beq_self_eq_true]; done) | (apply has_ofL; simp only [List.length_cons, List.length_nil]; omega) | (apply has_setN; apply has_ofL; simp only [List.length_cons, List.length_nil]; omega)) only [↓bxD, bxP, bxQ, bxQ2, Nat.reduceBEq, reduceCtorEq, Nat.reduceAdd, Nat.reduceSub, Nat.reduceMul, Nat.reduceLeDiff, Nat.reduceLT, R10, R13, R22, R23, R24, R25, R4, R40, R41, R42, R43, R44, R45, R46, R47, R48, R5, R61, R62, R63, R64, R65, R9, h0, h4, h5, v1, v2, len_sl]
  · exact ⟨Nat.zero_le _, h0, h4, h5, Nat.le_refl _, rfl, fun _ _ _ => rfl, c0, .nils, [], hg, hat, OwnRow.nil _ _ _, rfl, fun i e o h => by simp at h⟩
end Go.Proofs.Ytaagkdljkpbilaa.K
