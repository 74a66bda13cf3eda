/-
  Patterns of which one is taken. Conditions: none.
-/
import Derived.Test.YtaagkdljkpbilaaP6
import Derived.Test.YtaagkdljkpbilaaLitK
import Derived.Test.YtaagkdljkpbilaaSw
import Derived.Test.YtaagkdljkpbilaaBx
set_option linter.unusedSimpArgs false
set_option linter.unusedVariables false
namespace Go.Proofs.Ytaagkdljkpbilaa.K
open Go Ev
set_option maxRecDepth 100000
set_option maxHeartbeats 4000000

theorem alt_any {Mb M : MH} {bx mid : Nat} {mv pv kv : MV} {ms : List Mk} {st : Bs} {kids : List Rx} (hlo : Mb.lo ≤ Mb.n) (hP : ∀ y ∈ kids, PartOk Mb bx mid mv pv ms y) (h : Bd Mb M bx mid mv pv ms st) (k1 : isSl kv = true) (k2 : slen kv = kids.length) (k3 : NodesAt Mb kids (sid kv) (soff kv)) (k4 : ∀ i y, kids[i]? = some y → Reg ms y (sid kv) (soff kv + i * 6)) (hb : st.sets.length + cntL kids ≤ 150) (hkl : kids.length ≤ 1000000000) :
    Cp fns 47 [.p bx 0, kv] M fun m M' => m = .ag (altM kids ⟨false, 0, 0⟩ st).1.cells ∧ Bd Mb M' bx mid mv pv ms (altM kids ⟨false, 0, 0⟩ st).2 ∧ Fr7 M M' := by
  have en := h.ext.n
  have el := h.ext.lo
  refine Cp_call (fn := F47) (by kernel_rfl) (Nat.le_of_ble_eq_true rfl) ?_
  show Wp fns B47 (T.set q1 (some kv) (T.set q0 (some (.p bx 0)) T.lf)) M _
  unfold B47
  simp (maxSteps := 4000000) (disch := first | omega | assumption | (simp only [bxS, stOk, Nat.reduceBEq, Nat.reduceEqDiff, Nat.reduceAdd]; done) | (simp only [push_lo, push_n, set_lo, set_n]; omega) | (simp only [push_n, set_n, beq_self_eq_true]; done) | (apply has_ofL; simp only [List.length_cons, List.length_nil]; omega) | (apply has_setN; apply has_ofL; simp only [List.length_cons, List.length_nil]; omega)) only [↓bxD, bxP, bxQ, Nat.reduceBEq, reduceCtorEq, Nat.reduceAdd, Nat.reduceSub, Nat.reduceMul, Nat.reduceLeDiff, Nat.reduceLT, R10, R13, R22, R23, R24, R25, R4, R40, R41, R42, R43, R44, R45, R46, R47, R48, R5, R61, R62, R63, R64, R65, R9, k1, k2, len_sl, push_at]
  generalize hM1 : (M.push _).push _ = M1
  have g0 : M1.get M.n = some (.cs false 7 (ofL z7 0)) := by rw [← hM1, push_old (by show M.n < M.n + 1; omega)]; exact push_new _
  have g1 : M1.get (M.n + 1) = some (.cs false 7 (ofL (Pm.cells ⟨false, 0, 0⟩) 0)) := by rw [← hM1]; exact push_new (M := M.push _) _
  have hx : Ext M M1 := by rw [← hM1]; exact (Ext.push M _).trans (.push _ _)
  have hn : M1.n = M.n + 2 := by rw [← hM1]; rfl
  have hl := hx.lo
  clear hM1
  refine Wp_inv (σ := Nat × Pm × Bs) (fun s f M' => s.1 ≤ kids.length ∧ X.ev f (.t q0) = .p bx 0 ∧ X.ev f (.t q1) = kv ∧ f.get q4 = some (.p M.n 0) ∧ X.ev f (.t q5) = .p (M.n + 1) 0 ∧ X.ev f (.t q9) = .i .i64 (kids.length : Int) ∧ X.ev f (.t q10) = .i .i64 (s.1 : Int) ∧ Bd Mb M' bx mid mv pv ms s.2.2 ∧ (Fr7 M M' ∧ M1.n ≤ M'.n ∧ M'.get M.n = some (.cs false 7 (ofL z7 0))) ∧ (∃ c5, M'.get (M.n + 1) = some (.cs false 7 c5) ∧ At c5 0 s.2.1.cells) ∧ altM (kids.drop s.1) s.2.1 s.2.2 = altM kids ⟨false, 0, 0⟩ st ∧ s.2.2.sets.length + cntL (kids.drop s.1) ≤ 150) (fun s => kids.length - s.1) ?_ (0, ⟨false, 0, 0⟩, st) ?_
  · rintro ⟨i, p, b⟩ f M' ⟨hi, h0, h1, h4, h5, h9, h10, hB, ⟨hF, n1, e0⟩, ⟨c5, e5, a5⟩, hc, hcb⟩
    simp only at hi h10 hB a5 hc hcb
    have l1 := hF.lo
    have h4' := ev_get h4
    simp only [q0, q1, q4, q5, q9, q10] at h0 h1 h4 h4' h5 h9 h10
    have hc7 : ∀ p : Pm, MV.cells (.ag p.cells) = p.cells := fun _ => rfl
    have hst7 : ∀ p : Pm, stOk 7 (.ag p.cells) = true := fun _ => rfl
    have hgp : ∀ (p : Pm) l, Ev.getN (setN p.cells 0 (ofL l 0)) 7 0 = some p.cells := fun p l => getN_setN' rfl
    have hcl3 : ∀ N, MV.cells (.ag (plc N)) = plc N := fun _ => rfl
    unfold L47_2
    simp (maxSteps := 4000000) (disch := first | omega | assumption | (simp only [bxS, stOk, Nat.reduceBEq, Nat.reduceEqDiff, Nat.reduceAdd]; done) | (simp only [push_lo, push_n, set_lo, set_n]; omega) | (simp only [push_n, set_n, beq_self_eq_true]; done) | (apply has_ofL; simp only [List.length_cons, List.length_nil]; omega) | (apply has_setN; apply has_ofL; simp only [List.length_cons, List.length_nil]; omega)) only [↓bxD, bxP, bxQ, Nat.reduceBEq, reduceCtorEq, Nat.reduceAdd, Nat.reduceSub, Nat.reduceMul, Nat.reduceLeDiff, Nat.reduceLT, R10, R13, R22, R23, R24, R25, R4, R40, R41, R42, R43, R44, R45, R46, R47, R48, R5, R61, R62, R63, R64, R65, R9, h0, h1, h4', h5, h9, h10, k1, k2, push_at]
    refine condP_split (fun hlt => ?_) (fun hge => ?_)
    · have hik : i < kids.length := by omega
      obtain ⟨y, hy⟩ : ∃ y, kids[i]? = some y := ⟨_, List.getElem?_eq_getElem hik⟩
      have hyc : cntL (kids.drop i) = cnt y + cntL (kids.drop (i + 1)) := by rw [List.drop_eq_getElem_cons hik, (List.getElem?_eq_some_iff.1 hy).2]; rfl
      have hcs : altM (kids.drop i) p b = altM (kids.drop (i + 1)) (altP p (partM y b).1) (partM y b).2 := by rw [List.drop_eq_getElem_cons hik, (List.getElem?_eq_some_iff.1 hy).2]; rfl
      simp (maxSteps := 4000000) (disch := first | omega | assumption | (simp only [bxS, stOk, Nat.reduceBEq, Nat.reduceEqDiff, Nat.reduceAdd]; done) | (simp only [push_lo, push_n, set_lo, set_n]; omega) | (simp only [push_n, set_n, beq_self_eq_true]; done) | (apply has_ofL; simp only [List.length_cons, List.length_nil]; omega) | (apply has_setN; apply has_ofL; simp only [List.length_cons, List.length_nil]; omega)) only [↓bxD, bxP, bxQ, Nat.reduceBEq, reduceCtorEq, Nat.reduceAdd, Nat.reduceSub, Nat.reduceMul, Nat.reduceLeDiff, Nat.reduceLT, R10, R13, R22, R23, R24, R25, R4, R40, R41, R42, R43, R44, R45, R46, R47, R48, R5, R61, R62, R63, R64, R65, R9, h0, h1, h4', h5, h9, h10, k1, k2, push_at]
      show Wp fns K47_1 _ _ _
      unfold K47_1
      simp (maxSteps := 4000000) (disch := first | omega | assumption | (simp only [bxS, stOk, Nat.reduceBEq, Nat.reduceEqDiff, Nat.reduceAdd]; done) | (simp only [push_lo, push_n, set_lo, set_n]; omega) | (simp only [push_n, set_n, beq_self_eq_true]; done) | (apply has_ofL; simp only [List.length_cons, List.length_nil]; omega) | (apply has_setN; apply has_ofL; simp only [List.length_cons, List.length_nil]; omega)) only [↓bxD, bxP, bxQ, Nat.reduceBEq, reduceCtorEq, Nat.reduceAdd, Nat.reduceSub, Nat.reduceMul, Nat.reduceLeDiff, Nat.reduceLT, R10, R13, R22, R23, R24, R25, R4, R40, R41, R42, R43, R44, R45, R46, R47, R48, R5, R61, R62, R63, R64, R65, R9, h0, h1, h4', h5, h9, h10, k1, k2, push_at]
      refine bindP_call (hP y (List.mem_of_getElem? hy) M' b (sid kv) (soff kv + i * 6) hB (k3.get hy) (k4 i y hy) (by omega)) ?_
      rintro m M2 ⟨rfl, hB2, hF2⟩
      have n2 := hF2.n
      have l2 := hF2.lo
      have e52 := hF2.old _ _ (by omega) e5
      have hs7 := hst7 (partM y b).1
      have hsl := partM_len y b
      generalize hq : (partM y b).1 = q at hs7 hcs
      simp (maxSteps := 4000000) (disch := first | omega | assumption | (simp only [bxS, stOk, Nat.reduceBEq, Nat.reduceEqDiff, Nat.reduceAdd]; done) | (simp only [push_lo, push_n, set_lo, set_n]; omega) | (simp only [push_n, set_n, beq_self_eq_true]; done) | (apply has_ofL; simp only [List.length_cons, List.length_nil]; omega) | (apply has_setN; apply has_ofL; simp only [List.length_cons, List.length_nil]; omega)) only [↓bxD, bxP, bxQ, Nat.reduceBEq, reduceCtorEq, Nat.reduceAdd, Nat.reduceSub, Nat.reduceMul, Nat.reduceLeDiff, Nat.reduceLT, R10, R13, R22, R23, R24, R25, R4, R40, R41, R42, R43, R44, R45, R46, R47, R48, R5, R61, R62, R63, R64, R65, R9, h0, h1, h4', h5, h9, h10, k1, k2, push_at, hc7]
      generalize hM3 : MH.set _ _ _ = M3
      have x3 : Ext M2 M3 := by rw [← hM3]; exact (Ext.push M2 _).set _ (Nat.le_refl _)
      have n3 : M3.n = M2.n + 1 := by rw [← hM3]; rfl
      have e7 : M3.get M2.n = some (.cs false 7 (setN q.cells 0 (ofL z7 0))) := by rw [← hM3]; exact set_same _ _
      have l3 := x3.lo
      clear hM3
      have a7 : At (setN q.cells 0 (ofL z7 0)) 0 q.cells := at_setN _ _ _
      obtain ⟨w1, w2, w3, w4⟩ := pm_get a7
      obtain ⟨v1, v2, v3, v4⟩ := pm_get a5
      obtain ⟨b1, b2, b3, b4⟩ := pm_has a5
      have e53 := (x3.old (M.n + 1) (by omega)).trans e52
      have hB3 := hB2.more x3
      have hst3 : stOk 3 (.ag (plc (p.fi ||| q.fi))) = true := rfl
      have hst4 : stOk 3 (.ag (plc (p.la ||| q.la))) = true := rfl
      have hne : M2.n ≠ M.n + 1 := by omega
      have lB := hB3.ext.lo
      cases hp : p.null with
      | true =>
        rw [hp] at v1
        simp (maxSteps := 4000000) (disch := first | omega | assumption | (simp only [bxS, stOk, Nat.reduceBEq, Nat.reduceEqDiff, Nat.reduceAdd]; done) | (simp only [push_lo, push_n, set_lo, set_n]; omega) | (simp only [push_n, set_n, beq_self_eq_true]; done) | (apply has_ofL; simp only [List.length_cons, List.length_nil]; omega) | (apply has_setN; apply has_ofL; simp only [List.length_cons, List.length_nil]; omega)) only [↓bxD, bxP, bxQ, Nat.reduceBEq, reduceCtorEq, Nat.reduceAdd, Nat.reduceSub, Nat.reduceMul, Nat.reduceLeDiff, Nat.reduceLT, R10, R13, R22, R23, R24, R25, R4, R40, R41, R42, R43, R44, R45, R46, R47, R48, R5, R61, R62, R63, R64, R65, R9, h0, h1, h4', h5, h9, h10, k1, k2, push_at, e52, v1, e53, w1, cells_b, get_set]
        have a6 : At (setN [.b true] 0 c5) 0 (Pm.cells { p with null := p.null || q.null }) := by have := pm_null (p.null || q.null) a5; rw [hp] at this ⊢; exact this
        generalize hc6 : setN [.b true] 0 c5 = c6 at a6
        generalize hM4 : MH.set _ _ _ = M4
        have x4 : Chg (fun j => j = M.n + 1) M3 M4 := by rw [← hM4]; exact (Chg.refl (fun j => j = M.n + 1) M3).set _ (.inl rfl)
        have e54 : M4.get (M.n + 1) = some (.cs false 7 c6) := by rw [← hM4]; exact set_same _ _
        have e74 := (x4.old M2.n (by omega) hne).trans e7
        have n4 := x4.n
        have l4 := x4.lo
        clear hM4 hc6
        obtain ⟨r1, r2, r3, r4⟩ := pm_get a6
        have r2 : Ev.getN c6 3 1 = some (plc p.fi) := r2
        obtain ⟨t1, t2, t3, t4⟩ := pm_has a6
        simp (maxSteps := 4000000) (disch := first | omega | assumption | (simp only [bxS, stOk, Nat.reduceBEq, Nat.reduceEqDiff, Nat.reduceAdd]; done) | (simp only [push_lo, push_n, set_lo, set_n]; omega) | (simp only [push_n, set_n, beq_self_eq_true]; done) | (apply has_ofL; simp only [List.length_cons, List.length_nil]; omega) | (apply has_setN; apply has_ofL; simp only [List.length_cons, List.length_nil]; omega)) only [↓bxD, bxP, bxQ, Nat.reduceBEq, reduceCtorEq, Nat.reduceAdd, Nat.reduceSub, Nat.reduceMul, Nat.reduceLeDiff, Nat.reduceLT, R10, R13, R22, R23, R24, R25, R4, R40, R41, R42, R43, R44, R45, R46, R47, R48, R5, R61, R62, R63, R64, R65, R9, h0, h1, h4', h5, h9, h10, k1, k2, push_at, r2, map_ag, e74, w2]
        refine bindP_call (with_any (by omega)) ?_
        rintro m M5 ⟨rfl, hx5⟩
        have n5 := hx5.n
        have l5 := hx5.lo
        have e55 := (hx5.old (M.n + 1) (by omega)).trans e54
        have e75 := (hx5.old M2.n (by omega)).trans e74
        simp (maxSteps := 4000000) (disch := first | omega | assumption | (simp only [bxS, stOk, Nat.reduceBEq, Nat.reduceEqDiff, Nat.reduceAdd]; done) | (simp only [push_lo, push_n, set_lo, set_n]; omega) | (simp only [push_n, set_n, beq_self_eq_true]; done) | (apply has_ofL; simp only [List.length_cons, List.length_nil]; omega) | (apply has_setN; apply has_ofL; simp only [List.length_cons, List.length_nil]; omega)) only [↓bxD, bxP, bxQ, Nat.reduceBEq, reduceCtorEq, Nat.reduceAdd, Nat.reduceSub, Nat.reduceMul, Nat.reduceLeDiff, Nat.reduceLT, R10, R13, R22, R23, R24, R25, R4, R40, R41, R42, R43, R44, R45, R46, R47, R48, R5, R61, R62, R63, R64, R65, R9, h0, h1, h4', h5, h9, h10, k1, k2, push_at, e55, hcl3]
        have a8 := pm_fi (p.fi ||| q.fi) a6
        generalize hc8 : setN (plc (p.fi ||| q.fi)) 1 c6 = c8 at a8
        generalize hM6 : MH.set _ _ _ = M6
        have x6 : Chg (fun j => j = M.n + 1) M4 M6 := by rw [← hM6]; exact (Chg.of hx5).set _ (.inl rfl)
        have e56 : M6.get (M.n + 1) = some (.cs false 7 c8) := by rw [← hM6]; exact set_same _ _
        have e76 := (x6.old M2.n (by omega) hne).trans e74
        have n6 := x6.n
        have l6 := x6.lo
        clear hM6 hc8
        obtain ⟨_, _, s3, _⟩ := pm_get a8
        have s3 : Ev.getN c8 3 4 = some (plc p.la) := s3
        obtain ⟨_, _, y3, _⟩ := pm_has a8
        simp (maxSteps := 4000000) (disch := first | omega | assumption | (simp only [bxS, stOk, Nat.reduceBEq, Nat.reduceEqDiff, Nat.reduceAdd]; done) | (simp only [push_lo, push_n, set_lo, set_n]; omega) | (simp only [push_n, set_n, beq_self_eq_true]; done) | (apply has_ofL; simp only [List.length_cons, List.length_nil]; omega) | (apply has_setN; apply has_ofL; simp only [List.length_cons, List.length_nil]; omega)) only [↓bxD, bxP, bxQ, Nat.reduceBEq, reduceCtorEq, Nat.reduceAdd, Nat.reduceSub, Nat.reduceMul, Nat.reduceLeDiff, Nat.reduceLT, R10, R13, R22, R23, R24, R25, R4, R40, R41, R42, R43, R44, R45, R46, R47, R48, R5, R61, R62, R63, R64, R65, R9, h0, h1, h4', h5, h9, h10, k1, k2, push_at, s3, map_ag, e76, w3]
        refine bindP_call (with_any (by omega)) ?_
        rintro m M7 ⟨rfl, hx7⟩
        have n7 := hx7.n
        have l7 := hx7.lo
        have e57 := (hx7.old (M.n + 1) (by omega)).trans e56
        simp (maxSteps := 4000000) (disch := first | omega | assumption | (simp only [bxS, stOk, Nat.reduceBEq, Nat.reduceEqDiff, Nat.reduceAdd]; done) | (simp only [push_lo, push_n, set_lo, set_n]; omega) | (simp only [push_n, set_n, beq_self_eq_true]; done) | (apply has_ofL; simp only [List.length_cons, List.length_nil]; omega) | (apply has_setN; apply has_ofL; simp only [List.length_cons, List.length_nil]; omega)) only [↓bxD, bxP, bxQ, Nat.reduceBEq, reduceCtorEq, Nat.reduceAdd, Nat.reduceSub, Nat.reduceMul, Nat.reduceLeDiff, Nat.reduceLT, R10, R13, R22, R23, R24, R25, R4, R40, R41, R42, R43, R44, R45, R46, R47, R48, R5, R61, R62, R63, R64, R65, R9, h0, h1, h4', h5, h9, h10, k1, k2, push_at, e57, hcl3]
        have a9 := pm_la (p.la ||| q.la) a8
        generalize hc9 : setN (plc (p.la ||| q.la)) 4 c8 = c9 at a9
        generalize hM8 : MH.set _ _ _ = M8
        have x8 : Chg (fun j => j = M.n + 1) M6 M8 := by rw [← hM8]; exact (Chg.of hx7).set _ (.inl rfl)
        have e58 : M8.get (M.n + 1) = some (.cs false 7 c9) := by rw [← hM8]; exact set_same _ _
        clear hM8 hc9
        show Wp fns K47_0 _ _ _
        unfold K47_0
        simp (maxSteps := 4000000) (disch := first | omega | assumption | (simp only [bxS, stOk, Nat.reduceBEq, Nat.reduceEqDiff, Nat.reduceAdd]; done) | (simp only [push_lo, push_n, set_lo, set_n]; omega) | (simp only [push_n, set_n, beq_self_eq_true]; done) | (apply has_ofL; simp only [List.length_cons, List.length_nil]; omega) | (apply has_setN; apply has_ofL; simp only [List.length_cons, List.length_nil]; omega)) only [↓bxD, bxP, bxQ, Nat.reduceBEq, reduceCtorEq, Nat.reduceAdd, Nat.reduceSub, Nat.reduceMul, Nat.reduceLeDiff, Nat.reduceLT, R10, R13, R22, R23, R24, R25, R4, R40, R41, R42, R43, R44, R45, R46, R47, R48, R5, R61, R62, R63, R64, R65, R9, h0, h1, h4', h5, h9, h10, k1, k2, push_at]
        have xx := (x4.trans x6).trans x8
        have n8 := xx.n
        refine ⟨(i + 1, altP p q, (partM y b).2), by simp only; omega, by simp only; omega, h4, rfl, hB3.keep7 e53 (by omega) xx, ⟨((hF.trans hF2).trans (.of x3)).chg (by omega) xx, by omega, (xx.old M.n (by omega) (by omega)).trans ((x3.old M.n (by omega)).trans (hF2.old _ _ (by omega) e0))⟩, ⟨c9, e58, a9⟩, ?_, ?_⟩
        · simp only; rw [← hcs]; exact hc
        · simp only; omega
      | false =>
        rw [hp] at v1
        simp (maxSteps := 4000000) (disch := first | omega | assumption | (simp only [bxS, stOk, Nat.reduceBEq, Nat.reduceEqDiff, Nat.reduceAdd]; done) | (simp only [push_lo, push_n, set_lo, set_n]; omega) | (simp only [push_n, set_n, beq_self_eq_true]; done) | (apply has_ofL; simp only [List.length_cons, List.length_nil]; omega) | (apply has_setN; apply has_ofL; simp only [List.length_cons, List.length_nil]; omega)) only [↓bxD, bxP, bxQ, Nat.reduceBEq, reduceCtorEq, Nat.reduceAdd, Nat.reduceSub, Nat.reduceMul, Nat.reduceLeDiff, Nat.reduceLT, R10, R13, R22, R23, R24, R25, R4, R40, R41, R42, R43, R44, R45, R46, R47, R48, R5, R61, R62, R63, R64, R65, R9, h0, h1, h4', h5, h9, h10, k1, k2, push_at, e52, v1, e7, e53, w1, cells_b, get_set]
        have a6 : At (setN [.b q.null] 0 c5) 0 (Pm.cells { p with null := p.null || q.null }) := by have := pm_null (p.null || q.null) a5; rw [hp] at this ⊢; exact this
        generalize hc6 : setN [.b q.null] 0 c5 = c6 at a6
        generalize hM4 : MH.set _ _ _ = M4
        have x4 : Chg (fun j => j = M.n + 1) M3 M4 := by rw [← hM4]; exact (Chg.refl (fun j => j = M.n + 1) M3).set _ (.inl rfl)
        have e54 : M4.get (M.n + 1) = some (.cs false 7 c6) := by rw [← hM4]; exact set_same _ _
        have e74 := (x4.old M2.n (by omega) hne).trans e7
        have n4 := x4.n
        have l4 := x4.lo
        clear hM4 hc6
        obtain ⟨r1, r2, r3, r4⟩ := pm_get a6
        have r2 : Ev.getN c6 3 1 = some (plc p.fi) := r2
        obtain ⟨t1, t2, t3, t4⟩ := pm_has a6
        simp (maxSteps := 4000000) (disch := first | omega | assumption | (simp only [bxS, stOk, Nat.reduceBEq, Nat.reduceEqDiff, Nat.reduceAdd]; done) | (simp only [push_lo, push_n, set_lo, set_n]; omega) | (simp only [push_n, set_n, beq_self_eq_true]; done) | (apply has_ofL; simp only [List.length_cons, List.length_nil]; omega) | (apply has_setN; apply has_ofL; simp only [List.length_cons, List.length_nil]; omega)) only [↓bxD, bxP, bxQ, Nat.reduceBEq, reduceCtorEq, Nat.reduceAdd, Nat.reduceSub, Nat.reduceMul, Nat.reduceLeDiff, Nat.reduceLT, R10, R13, R22, R23, R24, R25, R4, R40, R41, R42, R43, R44, R45, R46, R47, R48, R5, R61, R62, R63, R64, R65, R9, h0, h1, h4', h5, h9, h10, k1, k2, push_at, r2, map_ag, e74, w2]
        refine bindP_call (with_any (by omega)) ?_
        rintro m M5 ⟨rfl, hx5⟩
        have n5 := hx5.n
        have l5 := hx5.lo
        have e55 := (hx5.old (M.n + 1) (by omega)).trans e54
        have e75 := (hx5.old M2.n (by omega)).trans e74
        simp (maxSteps := 4000000) (disch := first | omega | assumption | (simp only [bxS, stOk, Nat.reduceBEq, Nat.reduceEqDiff, Nat.reduceAdd]; done) | (simp only [push_lo, push_n, set_lo, set_n]; omega) | (simp only [push_n, set_n, beq_self_eq_true]; done) | (apply has_ofL; simp only [List.length_cons, List.length_nil]; omega) | (apply has_setN; apply has_ofL; simp only [List.length_cons, List.length_nil]; omega)) only [↓bxD, bxP, bxQ, Nat.reduceBEq, reduceCtorEq, Nat.reduceAdd, Nat.reduceSub, Nat.reduceMul, Nat.reduceLeDiff, Nat.reduceLT, R10, R13, R22, R23, R24, R25, R4, R40, R41, R42, R43, R44, R45, R46, R47, R48, R5, R61, R62, R63, R64, R65, R9, h0, h1, h4', h5, h9, h10, k1, k2, push_at, e55, hcl3]
        have a8 := pm_fi (p.fi ||| q.fi) a6
        generalize hc8 : setN (plc (p.fi ||| q.fi)) 1 c6 = c8 at a8
        generalize hM6 : MH.set _ _ _ = M6
        have x6 : Chg (fun j => j = M.n + 1) M4 M6 := by rw [← hM6]; exact (Chg.of hx5).set _ (.inl rfl)
        have e56 : M6.get (M.n + 1) = some (.cs false 7 c8) := by rw [← hM6]; exact set_same _ _
        have e76 := (x6.old M2.n (by omega) hne).trans e74
        have n6 := x6.n
        have l6 := x6.lo
        clear hM6 hc8
        obtain ⟨_, _, s3, _⟩ := pm_get a8
        have s3 : Ev.getN c8 3 4 = some (plc p.la) := s3
        obtain ⟨_, _, y3, _⟩ := pm_has a8
        simp (maxSteps := 4000000) (disch := first | omega | assumption | (simp only [bxS, stOk, Nat.reduceBEq, Nat.reduceEqDiff, Nat.reduceAdd]; done) | (simp only [push_lo, push_n, set_lo, set_n]; omega) | (simp only [push_n, set_n, beq_self_eq_true]; done) | (apply has_ofL; simp only [List.length_cons, List.length_nil]; omega) | (apply has_setN; apply has_ofL; simp only [List.length_cons, List.length_nil]; omega)) only [↓bxD, bxP, bxQ, Nat.reduceBEq, reduceCtorEq, Nat.reduceAdd, Nat.reduceSub, Nat.reduceMul, Nat.reduceLeDiff, Nat.reduceLT, R10, R13, R22, R23, R24, R25, R4, R40, R41, R42, R43, R44, R45, R46, R47, R48, R5, R61, R62, R63, R64, R65, R9, h0, h1, h4', h5, h9, h10, k1, k2, push_at, s3, map_ag, e76, w3]
        refine bindP_call (with_any (by omega)) ?_
        rintro m M7 ⟨rfl, hx7⟩
        have n7 := hx7.n
        have l7 := hx7.lo
        have e57 := (hx7.old (M.n + 1) (by omega)).trans e56
        simp (maxSteps := 4000000) (disch := first | omega | assumption | (simp only [bxS, stOk, Nat.reduceBEq, Nat.reduceEqDiff, Nat.reduceAdd]; done) | (simp only [push_lo, push_n, set_lo, set_n]; omega) | (simp only [push_n, set_n, beq_self_eq_true]; done) | (apply has_ofL; simp only [List.length_cons, List.length_nil]; omega) | (apply has_setN; apply has_ofL; simp only [List.length_cons, List.length_nil]; omega)) only [↓bxD, bxP, bxQ, Nat.reduceBEq, reduceCtorEq, Nat.reduceAdd, Nat.reduceSub, Nat.reduceMul, Nat.reduceLeDiff, Nat.reduceLT, R10, R13, R22, R23, R24, R25, R4, R40, R41, R42, R43, R44, R45, R46, R47, R48, R5, R61, R62, R63, R64, R65, R9, h0, h1, h4', h5, h9, h10, k1, k2, push_at, e57, hcl3]
        have a9 := pm_la (p.la ||| q.la) a8
        generalize hc9 : setN (plc (p.la ||| q.la)) 4 c8 = c9 at a9
        generalize hM8 : MH.set _ _ _ = M8
        have x8 : Chg (fun j => j = M.n + 1) M6 M8 := by rw [← hM8]; exact (Chg.of hx7).set _ (.inl rfl)
        have e58 : M8.get (M.n + 1) = some (.cs false 7 c9) := by rw [← hM8]; exact set_same _ _
        clear hM8 hc9
        show Wp fns K47_0 _ _ _
        unfold K47_0
        simp (maxSteps := 4000000) (disch := first | omega | assumption | (simp only [bxS, stOk, Nat.reduceBEq, Nat.reduceEqDiff, Nat.reduceAdd]; done) | (simp only [push_lo, push_n, set_lo, set_n]; omega) | (simp only [push_n, set_n, beq_self_eq_true]; done) | (apply has_ofL; simp only [List.length_cons, List.length_nil]; omega) | (apply has_setN; apply has_ofL; simp only [List.length_cons, List.length_nil]; omega)) only [↓bxD, bxP, bxQ, Nat.reduceBEq, reduceCtorEq, Nat.reduceAdd, Nat.reduceSub, Nat.reduceMul, Nat.reduceLeDiff, Nat.reduceLT, R10, R13, R22, R23, R24, R25, R4, R40, R41, R42, R43, R44, R45, R46, R47, R48, R5, R61, R62, R63, R64, R65, R9, h0, h1, h4', h5, h9, h10, k1, k2, push_at]
        have xx := (x4.trans x6).trans x8
        have n8 := xx.n
        refine ⟨(i + 1, altP p q, (partM y b).2), by simp only; omega, by simp only; omega, h4, rfl, hB3.keep7 e53 (by omega) xx, ⟨((hF.trans hF2).trans (.of x3)).chg (by omega) xx, by omega, (xx.old M.n (by omega) (by omega)).trans ((x3.old M.n (by omega)).trans (hF2.old _ _ (by omega) e0))⟩, ⟨c9, e58, a9⟩, ?_, ?_⟩
        · simp only; rw [← hcs]; exact hc
        · simp only; omega
    · have hik : i = kids.length := by omega
      subst hik
      rw [List.drop_length] at hc
      rw [altM] at hc
      have g0' := e0
      have hz7 : hasB (ofL z7 0) 7 0 = true := has_ofL z7 7 0 (by decide)
      obtain ⟨v1, v2, v3, v4⟩ := pm_get a5
      have hs7 := hst7 p
      simp (maxSteps := 4000000) (disch := first | omega | assumption | (simp only [bxS, stOk, Nat.reduceBEq, Nat.reduceEqDiff, Nat.reduceAdd]; done) | (simp only [push_lo, push_n, set_lo, set_n]; omega) | (simp only [push_n, set_n, beq_self_eq_true]; done) | (apply has_ofL; simp only [List.length_cons, List.length_nil]; omega) | (apply has_setN; apply has_ofL; simp only [List.length_cons, List.length_nil]; omega)) only [↓bxD, bxP, bxQ, Nat.reduceBEq, reduceCtorEq, Nat.reduceAdd, Nat.reduceSub, Nat.reduceMul, Nat.reduceLeDiff, Nat.reduceLT, R10, R13, R22, R23, R24, R25, R4, R40, R41, R42, R43, R44, R45, R46, R47, R48, R5, R61, R62, R63, R64, R65, R9, h0, h1, h4', h5, h9, h10, k1, k2, push_at]
      show Wp fns K47_3 _ _ _
      unfold K47_3
      simp (maxSteps := 4000000) (disch := first | omega | assumption | (simp only [bxS, stOk, Nat.reduceBEq, Nat.reduceEqDiff, Nat.reduceAdd]; done) | (simp only [push_lo, push_n, set_lo, set_n]; omega) | (simp only [push_n, set_n, beq_self_eq_true]; done) | (apply has_ofL; simp only [List.length_cons, List.length_nil]; omega) | (apply has_setN; apply has_ofL; simp only [List.length_cons, List.length_nil]; omega)) only [↓bxD, bxP, bxQ, Nat.reduceBEq, reduceCtorEq, Nat.reduceAdd, Nat.reduceSub, Nat.reduceMul, Nat.reduceLeDiff, Nat.reduceLT, R10, R13, R22, R23, R24, R25, R4, R40, R41, R42, R43, R44, R45, R46, R47, R48, R5, R61, R62, R63, R64, R65, R9, h0, h1, h4', h5, h9, h10, k1, k2, push_at, res_cN, cNV_p, cNo_cs, get_set, e5, v4, g0', hc7, hgp, h4, map_ag]
      rw [← hc]
      refine ⟨rfl, hB.keep7 g0' (by omega) ((Chg.refl (fun j => j = M.n) M').set _ (.inl rfl)), ?_⟩
      exact hF.chg (Nat.le_refl _) ((Chg.refl (fun j => j = M.n) M').set _ (.inl rfl))
  · exact ⟨Nat.zero_le _, by simp (maxSteps := 4000000) (disch := first | omega | assumption | (simp only [bxS, stOk, Nat.reduceBEq, Nat.reduceEqDiff, Nat.reduceAdd]; done) | (simp only [push_lo, push_n, set_lo, set_n]; omega) | (simp only [push_n, set_n, beq_self_eq_true]; done) | (apply has_ofL; simp only [List.length_cons, List.length_nil]; omega) | (apply has_setN; apply has_ofL; simp only [List.length_cons, List.length_nil]; omega)) only [↓bxD, bxP, bxQ, Nat.reduceBEq, reduceCtorEq, Nat.reduceAdd, Nat.reduceSub, Nat.reduceMul, Nat.reduceLeDiff, Nat.reduceLT, R10, R13, R22, R23, R24, R25, R4, R40, R41, R42, R43, R44, R45, R46, R47, R48, R5, R61, R62, R63, R64, R65, R9, k1, k2, len_sl, push_at], by simp (maxSteps := 4000000) (disch := first | omega | assumption | (simp only [bxS, stOk, Nat.reduceBEq, Nat.reduceEqDiff, Nat.reduceAdd]; done) | (simp only [push_lo, push_n, set_lo, set_n]; omega) | (simp only [push_n, set_n, beq_self_eq_true]; done) | (apply has_ofL; simp only [List.length_cons, List.length_nil]; omega) | (apply has_setN; apply has_ofL; simp only [List.length_cons, List.length_nil]; omega)) only [↓bxD, bxP, bxQ, Nat.reduceBEq, reduceCtorEq, Nat.reduceAdd, Nat.reduceSub, Nat.reduceMul, Nat.reduceLeDiff, Nat.reduceLT, R10, R13, R22, R23, R24, R25, R4, R40, R41, R42, R43, R44, R45, R46, R47, R48, R5, R61, R62, R63, R64, R65, R9, k1, k2, len_sl, push_at], by simp (maxSteps := 4000000) (disch := first | omega | assumption | (simp only [bxS, stOk, Nat.reduceBEq, Nat.reduceEqDiff, Nat.reduceAdd]; done) | (simp only [push_lo, push_n, set_lo, set_n]; omega) | (simp only [push_n, set_n, beq_self_eq_true]; done) | (apply has_ofL; simp only [List.length_cons, List.length_nil]; omega) | (apply has_setN; apply has_ofL; simp only [List.length_cons, List.length_nil]; omega)) only [↓bxD, bxP, bxQ, Nat.reduceBEq, reduceCtorEq, Nat.reduceAdd, Nat.reduceSub, Nat.reduceMul, Nat.reduceLeDiff, Nat.reduceLT, R10, R13, R22, R23, R24, R25, R4, R40, R41, R42, R43, R44, R45, R46, R47, R48, R5, R61, R62, R63, R64, R65, R9, k1, k2, len_sl, push_at, get_set], by simp (maxSteps := 4000000) (disch := first | omega | assumption | (simp only [bxS, stOk, Nat.reduceBEq, Nat.reduceEqDiff, Nat.reduceAdd]; done) | (simp only [push_lo, push_n, set_lo, set_n]; omega) | (simp only [push_n, set_n, beq_self_eq_true]; done) | (apply has_ofL; simp only [List.length_cons, List.length_nil]; omega) | (apply has_setN; apply has_ofL; simp only [List.length_cons, List.length_nil]; omega)) only [↓bxD, bxP, bxQ, Nat.reduceBEq, reduceCtorEq, Nat.reduceAdd, Nat.reduceSub, Nat.reduceMul, Nat.reduceLeDiff, Nat.reduceLT, R10, R13, R22, R23, R24, R25, R4, R40, R41, R42, R43, R44, R45, R46, R47, R48, R5, R61, R62, R63, R64, R65, R9, k1, k2, len_sl, push_at], by simp (maxSteps := 4000000) (disch := first | omega | assumption | (simp only [bxS, stOk, Nat.reduceBEq, Nat.reduceEqDiff, Nat.reduceAdd]; done) | (simp only [push_lo, push_n, set_lo, set_n]; omega) | (simp only [push_n, set_n, beq_self_eq_true]; done) | (apply has_ofL; simp only [List.length_cons, List.length_nil]; omega) | (apply has_setN; apply has_ofL; simp only [List.length_cons, List.length_nil]; omega)) only [↓bxD, bxP, bxQ, Nat.reduceBEq, reduceCtorEq, Nat.reduceAdd, Nat.reduceSub, Nat.reduceMul, Nat.reduceLeDiff, Nat.reduceLT, R10, R13, R22, R23, R24, R25, R4, R40, R41, R42, R43, R44, R45, R46, R47, R48, R5, R61, R62, R63, R64, R65, R9, k1, k2, len_sl, push_at], by simp (maxSteps := 4000000) (disch := first | omega | assumption | (simp only [bxS, stOk, Nat.reduceBEq, Nat.reduceEqDiff, Nat.reduceAdd]; done) | (simp only [push_lo, push_n, set_lo, set_n]; omega) | (simp only [push_n, set_n, beq_self_eq_true]; done) | (apply has_ofL; simp only [List.length_cons, List.length_nil]; omega) | (apply has_setN; apply has_ofL; simp only [List.length_cons, List.length_nil]; omega)) only [↓bxD, bxP, bxQ, Nat.reduceBEq, reduceCtorEq, Nat.reduceAdd, Nat.reduceSub, Nat.reduceMul, Nat.reduceLeDiff, Nat.reduceLT, R10, R13, R22, R23, R24, R25, R4, R40, R41, R42, R43, R44, R45, R46, R47, R48, R5, R61, R62, R63, R64, R65, R9, k1, k2, len_sl, push_at] <;> rfl, h.more hx, ⟨.of hx, Nat.le_refl _, g0⟩, ⟨_, g1, at_ofL _⟩, rfl, hb⟩
end Go.Proofs.Ytaagkdljkpbilaa.K
