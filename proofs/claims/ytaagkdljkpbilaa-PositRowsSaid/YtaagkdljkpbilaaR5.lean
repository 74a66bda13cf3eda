/-
  The law PositRows in the model. Conditions: none.
-/
import Derived.Test.YtaagkdljkpbilaaR4
import Derived.Test.YtaagkdljkpbilaaLitK
import Derived.Test.YtaagkdljkpbilaaSw
import Derived.Test.YtaagkdljkpbilaaBx
set_option linter.unusedSimpArgs false
set_option linter.unusedVariables false
namespace Go.Proofs.Ytaagkdljkpbilaa.K
open Go Ev
set_option maxRecDepth 100000
set_option maxHeartbeats 4000000

theorem kidR_cnt {o : Nat} (h : o < 4) : cnt (kidR o) = 1 ∧ deep (kidR o) ≤ 2 ∧ wei (kidR o) ≤ 4 := by
  have hl : cnt leaf1 = 1 ∧ deep leaf1 = 1 ∧ wei leaf1 = 2 := by
    unfold leaf1
    refine ⟨by rw [cnt, if_pos rfl], by rw [deep, if_neg (by decide), if_neg (by decide)], by rw [wei, weiL]⟩
  unfold kidR
  split
  · omega
  · refine ⟨?_, ?_, ?_⟩
    · rw [cnt, if_neg (by omega), if_neg (by omega), if_pos (by omega), cnt1]; exact hl.1
    · rw [deep, if_neg (by omega), if_pos (by omega), deep1]; omega
    · rw [wei, weiL, weiL]; omega
theorem rows_sizes : ∀ {os : List Nat}, (∀ o ∈ os, o < 4) → cntL (os.map kidR) = os.length ∧ deepL (os.map kidR) ≤ 2 ∧ weiL (os.map kidR) ≤ 4 * os.length
  | [], _ => ⟨rfl, by simp [deepL], by simp [weiL]⟩
  | o :: os, h => by
    obtain ⟨h1, h2, h3⟩ := kidR_cnt (h o List.mem_cons_self)
    obtain ⟨i1, i2, i3⟩ := rows_sizes fun x hx => h x (List.mem_cons_of_mem _ hx)
    rw [List.map_cons, cntL, deepL, weiL, List.length_cons]
    omega
theorem law_rows {M : MH} {v : MV} {zs : List Int} (hlo : M.lo ≤ M.n) (hv : RowAt M 1 v (iv zs)) (hvl : sid v < M.n) (hw : ∀ z ∈ zs, -9223372036854775808 ≤ z ∧ z ≤ 9223372036854775807) (hmax : zs.length ≤ 9223372036854775807) : Cp fns 4 [v] M fun m _ => m = .b true := by
  obtain ⟨v1, v2⟩ := hv.sl
  rw [iv_len] at v2
  have hosl : (zs.map oc).length = zs.length := List.length_map _
  have h4 : ∀ o ∈ zs.map oc, o < 4 := fun o ho => by
    obtain ⟨z, _, rfl⟩ := List.mem_map.1 ho
    exact oc_lt z
  refine Cp_call (fn := F4) (by kernel_rfl) (Nat.le_of_ble_eq_true rfl) ?_
  show Wp fns B4 (T.set q0 (some v) T.lf) M _
  unfold B4
  simp (maxSteps := 4000000) (disch := first | omega | assumption | (simp only [bxS, stOk, Nat.reduceBEq, Nat.reduceEqDiff, Nat.reduceAdd]; done) | (simp only [push_lo, push_n, set_lo, set_n]; omega) | (simp only [push_n, set_n, beq_self_eq_true]; done) | (apply has_ofL; simp only [List.length_cons, List.length_nil]; omega) | (apply has_setN; apply has_ofL; simp only [List.length_cons, List.length_nil]; omega)) only [↓bxD, bxP, bxQ, bxQ2, Nat.reduceBEq, reduceCtorEq, Nat.reduceAdd, Nat.reduceSub, Nat.reduceMul, Nat.reduceLeDiff, Nat.reduceLT, R10, R13, R22, R23, R24, R25, R4, R40, R41, R42, R43, R44, R45, R46, R47, R48, R5, R61, R62, R63, R64, R65, R9, v1, v2, len_sl]
  refine bindP_call (Cp_true (by kernel_rfl)) ?_
  rintro m M2 ⟨rfl, rfl⟩
  by_cases c1 : (zs.length : Int) < 2
  · have d1 : decide ((zs.length : Int) < 2) = true := decide_eq_true c1
    simp (maxSteps := 4000000) (disch := first | omega | assumption | (simp only [bxS, stOk, Nat.reduceBEq, Nat.reduceEqDiff, Nat.reduceAdd]; done) | (simp only [push_lo, push_n, set_lo, set_n]; omega) | (simp only [push_n, set_n, beq_self_eq_true]; done) | (apply has_ofL; simp only [List.length_cons, List.length_nil]; omega) | (apply has_setN; apply has_ofL; simp only [List.length_cons, List.length_nil]; omega)) only [↓bxD, bxP, bxQ, bxQ2, Nat.reduceBEq, reduceCtorEq, Nat.reduceAdd, Nat.reduceSub, Nat.reduceMul, Nat.reduceLeDiff, Nat.reduceLT, R10, R13, R22, R23, R24, R25, R4, R40, R41, R42, R43, R44, R45, R46, R47, R48, R5, R61, R62, R63, R64, R65, R9, v1, v2, len_sl, d1]
  have d1 : decide ((zs.length : Int) < 2) = false := decide_eq_false c1
  by_cases c2 : (40 : Int) < (zs.length : Int)
  · have d2 : decide ((40 : Int) < (zs.length : Int)) = true := decide_eq_true c2
    simp (maxSteps := 4000000) (disch := first | omega | assumption | (simp only [bxS, stOk, Nat.reduceBEq, Nat.reduceEqDiff, Nat.reduceAdd]; done) | (simp only [push_lo, push_n, set_lo, set_n]; omega) | (simp only [push_n, set_n, beq_self_eq_true]; done) | (apply has_ofL; simp only [List.length_cons, List.length_nil]; omega) | (apply has_setN; apply has_ofL; simp only [List.length_cons, List.length_nil]; omega)) only [↓bxD, bxP, bxQ, bxQ2, Nat.reduceBEq, reduceCtorEq, Nat.reduceAdd, Nat.reduceSub, Nat.reduceMul, Nat.reduceLeDiff, Nat.reduceLT, R10, R13, R22, R23, R24, R25, R4, R40, R41, R42, R43, R44, R45, R46, R47, R48, R5, R61, R62, R63, R64, R65, R9, v1, v2, len_sl, d1, d2]
  have d2 : decide ((40 : Int) < (zs.length : Int)) = false := decide_eq_false c2
  have f1 : fillM [(0, 1, MV.i .i64 2)] [.i .i64 0, .i .u64 0, .i .u64 0, .i .u64 0, .i .u64 0, .nils] = some (rcs 2 0 0 0 0 .nils) := rfl
  have hcl : ∀ a b c d e kv, MV.cells (.ag (rcs a b c d e kv)) = rcs a b c d e kv := fun _ _ _ _ _ _ => rfl
  have s1 : stOk 6 (.ag (rcs 2 0 0 0 0 .nils)) = true := rfl
  simp (maxSteps := 4000000) (disch := first | omega | assumption | (simp only [bxS, stOk, Nat.reduceBEq, Nat.reduceEqDiff, Nat.reduceAdd]; done) | (simp only [push_lo, push_n, set_lo, set_n]; omega) | (simp only [push_n, set_n, beq_self_eq_true]; done) | (apply has_ofL; simp only [List.length_cons, List.length_nil]; omega) | (apply has_setN; apply has_ofL; simp only [List.length_cons, List.length_nil]; omega)) only [↓bxD, bxP, bxQ, bxQ2, Nat.reduceBEq, reduceCtorEq, Nat.reduceAdd, Nat.reduceSub, Nat.reduceMul, Nat.reduceLeDiff, Nat.reduceLT, R10, R13, R22, R23, R24, R25, R4, R40, R41, R42, R43, R44, R45, R46, R47, R48, R5, R61, R62, R63, R64, R65, R9, v1, v2, len_sl, d1, d2]
  show Wp fns K4_16 _ _ _
  unfold K4_16
  simp (maxSteps := 4000000) (disch := first | omega | assumption | (simp only [bxS, stOk, Nat.reduceBEq, Nat.reduceEqDiff, Nat.reduceAdd]; done) | (simp only [push_lo, push_n, set_lo, set_n]; omega) | (simp only [push_n, set_n, beq_self_eq_true]; done) | (apply has_ofL; simp only [List.length_cons, List.length_nil]; omega) | (apply has_setN; apply has_ofL; simp only [List.length_cons, List.length_nil]; omega)) only [↓bxD, bxP, bxQ, bxQ2, Nat.reduceBEq, reduceCtorEq, Nat.reduceAdd, Nat.reduceSub, Nat.reduceMul, Nat.reduceLeDiff, Nat.reduceLT, R10, R13, R22, R23, R24, R25, R4, R40, R41, R42, R43, R44, R45, R46, R47, R48, R5, R61, R62, R63, R64, R65, R9, v1, v2, len_sl, f1, hcl, push_at]
  generalize hM1 : MH.set _ _ _ = M1
  have g1 : M1.get M2.n = some (.cs false 6 (setN (rcs 2 0 0 0 0 .nils) 0 (ofL zRe 0))) := by rw [← hM1]; exact set_same _ _
  have x1 : Ext M2 M1 := by rw [← hM1]; exact (Ext.push M2 _).set _ (Nat.le_refl _)
  have n1 : M1.n = M2.n + 1 := by rw [← hM1]; rfl
  have l1 := x1.lo
  clear hM1
  refine rows_build (lo := M1.n) (XB := M2.n) (zs := zs) (by omega) (hv.ext x1) hw (by omega) (by simp (maxSteps := 4000000) (disch := first | omega | assumption | (simp only [bxS, stOk, Nat.reduceBEq, Nat.reduceEqDiff, Nat.reduceAdd]; done) | (simp only [push_lo, push_n, set_lo, set_n]; omega) | (simp only [push_n, set_n, beq_self_eq_true]; done) | (apply has_ofL; simp only [List.length_cons, List.length_nil]; omega) | (apply has_setN; apply has_ofL; simp only [List.length_cons, List.length_nil]; omega)) only [↓bxD, bxP, bxQ, bxQ2, Nat.reduceBEq, reduceCtorEq, Nat.reduceAdd, Nat.reduceSub, Nat.reduceMul, Nat.reduceLeDiff, Nat.reduceLT, R10, R13, R22, R23, R24, R25, R4, R40, R41, R42, R43, R44, R45, R46, R47, R48, R5, R61, R62, R63, R64, R65, R9, v1, v2, len_sl]) (by simp (maxSteps := 4000000) (disch := first | omega | assumption | (simp only [bxS, stOk, Nat.reduceBEq, Nat.reduceEqDiff, Nat.reduceAdd]; done) | (simp only [push_lo, push_n, set_lo, set_n]; omega) | (simp only [push_n, set_n, beq_self_eq_true]; done) | (apply has_ofL; simp only [List.length_cons, List.length_nil]; omega) | (apply has_setN; apply has_ofL; simp only [List.length_cons, List.length_nil]; omega)) only [↓bxD, bxP, bxQ, bxQ2, Nat.reduceBEq, reduceCtorEq, Nat.reduceAdd, Nat.reduceSub, Nat.reduceMul, Nat.reduceLeDiff, Nat.reduceLT, R10, R13, R22, R23, R24, R25, R4, R40, R41, R42, R43, R44, R45, R46, R47, R48, R5, R61, R62, R63, R64, R65, R9, v1, v2, len_sl]) (by simp (maxSteps := 4000000) (disch := first | omega | assumption | (simp only [bxS, stOk, Nat.reduceBEq, Nat.reduceEqDiff, Nat.reduceAdd]; done) | (simp only [push_lo, push_n, set_lo, set_n]; omega) | (simp only [push_n, set_n, beq_self_eq_true]; done) | (apply has_ofL; simp only [List.length_cons, List.length_nil]; omega) | (apply has_setN; apply has_ofL; simp only [List.length_cons, List.length_nil]; omega)) only [↓bxD, bxP, bxQ, bxQ2, Nat.reduceBEq, reduceCtorEq, Nat.reduceAdd, Nat.reduceSub, Nat.reduceMul, Nat.reduceLeDiff, Nat.reduceLT, R10, R13, R22, R23, R24, R25, R4, R40, R41, R42, R43, R44, R45, R46, R47, R48, R5, R61, R62, R63, R64, R65, R9, v1, v2, len_sl]) (by omega) (by omega) (Nat.le_refl _) hvl g1 (at_setN _ _ _) ?_
  intro f' M3 c kv es j0 j4 n3 l3 old g3 a3 hr hel hes
  -- the pattern that was built
  obtain ⟨K, ck, rfl, hK, hKl, hKn, hat⟩ : ∃ K ck, kv = .sl K 0 zs.length 0 ∧ M3.get K = some (.cs false 6 ck) ∧ M1.n ≤ K ∧ K < M3.n ∧ At ck 0 es.flatten := by
    obtain ⟨hs, ⟨e1, e2⟩ | ⟨K, ck, e1, e2, e3, e4, e5⟩⟩ := hr
    · rw [e2] at hel; simp at hel; omega
    · rw [hel] at e1
      exact ⟨K, ck, e1, e2, e3, e4, e5⟩
  have hnodes : NodesAt M3 ((zs.map oc).map kidR) K 0 := rows_nodes hK hKn (by rw [hel, hosl]) hes (fun i e he => At.elem hr.1 hat he) h4
  obtain ⟨z1, z2, z3⟩ := rows_sizes h4
  rw [hosl] at z1 z3
  have hgN : Ev.getN c 6 0 = some (rcs 2 0 0 0 0 (.sl K 0 zs.length 0)) := a3.getN
  simp only [q0, q4] at j0 j4
  show Wp fns K4_15 _ _ _
  unfold K4_15
  simp (maxSteps := 4000000) (disch := first | omega | assumption | (simp only [bxS, stOk, Nat.reduceBEq, Nat.reduceEqDiff, Nat.reduceAdd]; done) | (simp only [push_lo, push_n, set_lo, set_n]; omega) | (simp only [push_n, set_n, beq_self_eq_true]; done) | (apply has_ofL; simp only [List.length_cons, List.length_nil]; omega) | (apply has_setN; apply has_ofL; simp only [List.length_cons, List.length_nil]; omega)) only [↓bxD, bxP, bxQ, bxQ2, Nat.reduceBEq, reduceCtorEq, Nat.reduceAdd, Nat.reduceSub, Nat.reduceMul, Nat.reduceLeDiff, Nat.reduceLT, R10, R13, R22, R23, R24, R25, R4, R40, R41, R42, R43, R44, R45, R46, R47, R48, R5, R61, R62, R63, R64, R65, R9, j0, j4, v1, v2, len_sl, push_at, g3, hgN, map_ag]
  refine bindP_call (of_any (kids := (zs.map oc).map kidR) (by omega) rfl (by rw [List.length_map, hosl]; rfl) hnodes (by rw [wei]; omega)) ?_
  rintro m M4 ⟨hx4, hP⟩
  have hcn : cnt (.mk 2 0 0 0 0 ((zs.map oc).map kidR)) = zs.length := by rw [cnt, if_neg (by decide), if_pos (by decide), z1]
  have hdn : deep (.mk 2 0 0 0 0 ((zs.map oc).map kidR)) ≤ 3 := by rw [deep, if_pos (by decide)]; omega
  rcases hP with ⟨h, _⟩ | ⟨_, h, _⟩ | ⟨_, _, mm, rfl, hP⟩
  · omega
  · omega
  have hpm : partM (.mk 2 0 0 0 0 ((zs.map oc).map kidR)) ⟨[], []⟩ = catM ((zs.map oc).map kidR) p0M ⟨[], []⟩ := by rw [partM, if_neg (by omega), if_neg (by decide), if_pos rfl]
  rw [hpm] at hP
  have hR := rinv_all h4 (zs.map oc).length 0 p0M ⟨[], []⟩ rfl (Nat.zero_le _) (rinv_zero _)
  rw [List.drop_zero] at hR
  generalize (catM ((zs.map oc).map kidR) p0M ⟨[], []⟩).1 = p at hP hR
  generalize (catM ((zs.map oc).map kidR) p0M ⟨[], []⟩).2 = b at hP hR
  obtain ⟨vs, vf, vl, vo, rfl, p1, p2, p3, xs, p4, p5, p6⟩ := hP
  have n4 := hx4.n
  have l4 := hx4.lo
  have hst8 : stOk 5 (.ag [vs, .b p.null, vf, vl, vo]) = true := by
    obtain ⟨s1, _⟩ := p1.row.sl
    obtain ⟨s2, _⟩ := p2.row.sl
    obtain ⟨s3, _⟩ := p3.row.sl
    obtain ⟨s4, _⟩ := p4.row.sl
    cases vs <;> first | cases s1 | skip
    all_goals cases vf <;> first | cases s2 | skip
    all_goals cases vl <;> first | cases s3 | skip
    all_goals cases vo <;> first | cases s4 | skip
    all_goals rfl
  have hcl5 : MV.cells (.ag [vs, .b p.null, vf, vl, vo]) = [vs, .b p.null, vf, vl, vo] := rfl
  have hb5 : hasB (ofL [MV.nils, .b false, .nils, .nils, .nils] 0) 5 0 = true := has_ofL _ _ _ (by decide)
  simp (maxSteps := 4000000) (disch := first | omega | assumption | (simp only [bxS, stOk, Nat.reduceBEq, Nat.reduceEqDiff, Nat.reduceAdd]; done) | (simp only [push_lo, push_n, set_lo, set_n]; omega) | (simp only [push_n, set_n, beq_self_eq_true]; done) | (apply has_ofL; simp only [List.length_cons, List.length_nil]; omega) | (apply has_setN; apply has_ofL; simp only [List.length_cons, List.length_nil]; omega)) only [↓bxD, bxP, bxQ, bxQ2, Nat.reduceBEq, reduceCtorEq, Nat.reduceAdd, Nat.reduceSub, Nat.reduceMul, Nat.reduceLeDiff, Nat.reduceLT, R10, R13, R22, R23, R24, R25, R4, R40, R41, R42, R43, R44, R45, R46, R47, R48, R5, R61, R62, R63, R64, R65, R9, j0, j4, v1, v2, len_sl, push_at, hcl5]
  generalize hM5 : MH.set _ _ _ = M5
  have x5 : Ext M4 M5 := by rw [← hM5]; exact (Ext.push M4 _).set _ (Nat.le_refl _)
  have n5 : M5.n = M4.n + 1 := by rw [← hM5]; rfl
  have g5 : M5.get M4.n = some (.cs false 5 (setN [vs, .b p.null, vf, vl, vo] 0 (ofL [MV.nils, .b false, .nils, .nils, .nils] 0))) := by rw [← hM5]; exact set_same _ _
  have l5 := x5.lo
  clear hM5
  have a5 : At (setN [vs, .b p.null, vf, vl, vo] 0 (ofL [MV.nils, .b false, .nils, .nils, .nils] 0)) 0 [vs, .b p.null, vf, vl, vo] := at_setN _ _ _
  generalize setN [vs, .b p.null, vf, vl, vo] 0 (ofL [MV.nils, .b false, .nils, .nils, .nils] 0) = c7 at g5 a5
  have c70 : cget c7 0 = some vs := a5 0 _ rfl
  have c74 : cget c7 4 = some vo := a5 4 _ rfl
  obtain ⟨s1, t1⟩ := p1.row.sl
  obtain ⟨s4, t4⟩ := p4.row.sl
  have hfl := hR.fl
  have hsl := hR.sl
  rw [hosl] at hfl hsl
  rw [hsl] at t1
  rw [List.length_map, p5, List.length_map, hfl] at t4
  refine bindP_call num_any ?_
  rintro m M6 ⟨rfl, rfl⟩
  have nx0 : ∀ (a : Int) (i : Decidable (a ≠ a)), @decide (a ≠ a) i = false := fun a i => decide_eq_false (fun h => h rfl)
  simp (maxSteps := 4000000) (disch := first | omega | assumption | (simp only [bxS, stOk, Nat.reduceBEq, Nat.reduceEqDiff, Nat.reduceAdd]; done) | (simp only [push_lo, push_n, set_lo, set_n]; omega) | (simp only [push_n, set_n, beq_self_eq_true]; done) | (apply has_ofL; simp only [List.length_cons, List.length_nil]; omega) | (apply has_setN; apply has_ofL; simp only [List.length_cons, List.length_nil]; omega)) only [↓bxD, bxP, bxQ, bxQ2, Nat.reduceBEq, reduceCtorEq, Nat.reduceAdd, Nat.reduceSub, Nat.reduceMul, Nat.reduceLeDiff, Nat.reduceLT, R10, R13, R22, R23, R24, R25, R4, R40, R41, R42, R43, R44, R45, R46, R47, R48, R5, R61, R62, R63, R64, R65, R9, j0, j4, v1, v2, len_sl, push_at, g5, c70, c74, s1, t1, s4, t4, ne_eq, not_true_eq_false, decide_false]
  show Wp fns K4_14 _ _ _
  have hsub : Sub M2 M6 := by
    refine ⟨by omega, fun j hj => ?_⟩
    rw [x5.old j (by omega), hx4.old j (by omega), old j (by omega) (by omega)]
    exact x1.old j hj
  refine rows_loop (B7 := M4.n) (vs := vs) (vf := vf) (vl := vl) (vo := vo) (pn := p.null) (zs := zs) (c7 := c7) (es := xs) (p := p) (b := b) (by omega) (hv.sub hsub) (by omega) hw (by omega) g5 (by omega) a5 (fun M' h n => ?_) (by rw [p5, List.length_map, hfl]) (fun M' h n i x N h1 h2 => ?_) hR rfl ?_ ?_
  · exact (p4.row.ext x5).sub ⟨n, h⟩
  · exact ((p6 i x _ h1 (by rw [List.getElem?_map, h2]; rfl)).row.ext x5).sub ⟨n, h⟩
  · simp (maxSteps := 4000000) (disch := first | omega | assumption | (simp only [bxS, stOk, Nat.reduceBEq, Nat.reduceEqDiff, Nat.reduceAdd]; done) | (simp only [push_lo, push_n, set_lo, set_n]; omega) | (simp only [push_n, set_n, beq_self_eq_true]; done) | (apply has_ofL; simp only [List.length_cons, List.length_nil]; omega) | (apply has_setN; apply has_ofL; simp only [List.length_cons, List.length_nil]; omega)) only [↓bxD, bxP, bxQ, bxQ2, Nat.reduceBEq, reduceCtorEq, Nat.reduceAdd, Nat.reduceSub, Nat.reduceMul, Nat.reduceLeDiff, Nat.reduceLT, R10, R13, R22, R23, R24, R25, R4, R40, R41, R42, R43, R44, R45, R46, R47, R48, R5, R61, R62, R63, R64, R65, R9, j0, j4, v1, v2, len_sl, push_at]
  · simp (maxSteps := 4000000) (disch := first | omega | assumption | (simp only [bxS, stOk, Nat.reduceBEq, Nat.reduceEqDiff, Nat.reduceAdd]; done) | (simp only [push_lo, push_n, set_lo, set_n]; omega) | (simp only [push_n, set_n, beq_self_eq_true]; done) | (apply has_ofL; simp only [List.length_cons, List.length_nil]; omega) | (apply has_setN; apply has_ofL; simp only [List.length_cons, List.length_nil]; omega)) only [↓bxD, bxP, bxQ, bxQ2, Nat.reduceBEq, reduceCtorEq, Nat.reduceAdd, Nat.reduceSub, Nat.reduceMul, Nat.reduceLeDiff, Nat.reduceLT, R10, R13, R22, R23, R24, R25, R4, R40, R41, R42, R43, R44, R45, R46, R47, R48, R5, R61, R62, R63, R64, R65, R9, j0, j4, v1, v2, len_sl, push_at]
end Go.Proofs.Ytaagkdljkpbilaa.K
