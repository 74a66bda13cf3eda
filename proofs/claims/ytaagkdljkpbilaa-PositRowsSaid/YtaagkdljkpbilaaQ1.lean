/-
  What package posit tells of a pattern. Conditions: none.
-/
import Derived.Test.YtaagkdljkpbilaaP9
import Derived.Test.YtaagkdljkpbilaaLitK
import Derived.Test.YtaagkdljkpbilaaSw
import Derived.Test.YtaagkdljkpbilaaBx
set_option linter.unusedSimpArgs false
set_option linter.unusedVariables false
namespace Go.Proofs.Ytaagkdljkpbilaa.K
open Go Ev
set_option maxRecDepth 100000
set_option maxHeartbeats 4000000

theorem float_new (l : List MV) (f : Fr) (id : Nat) : floatEv (.new l) f id = some (.p id 0, .cs false l.length (ofL l 0)) := rfl
theorem lateL_of {l : List (IOper × DK)} {b : Nat} {os : List (Nat × MO)} (h : (l.any fun p => match p.2 with
  | .ma _ => true
  | _ => false) = false) : lateL l b os = os := by
  unfold lateL
  refine List.filter_eq_self.2 fun x _ => ?_
  rw [Bool.not_eq_true', List.any_eq_false]
  intro p hp
  have := List.any_eq_false.1 h p hp
  cases hk : p.2 <;> simp_all
/-- Rows of numbers that lie in memory. -/
def ListsAt (lo : Nat) (M : MH) (v : MV) (l : List (List Nat)) : Prop := ∃ es : List MV, OwnRow lo M 1 v (es.map fun x => [x]) ∧ es.length = l.length ∧ ∀ (i : Nat) x y, es[i]? = some x → l[i]? = some y → OwnRow lo M 1 x (nv y)
/-- The places of a pattern, as they are told. -/
def PosAt (lo : Nat) (M : MH) (m : MV) (p : Pm) (b : Bs) : Prop := ∃ vs vf vl vo, m = .ag [vs, .b p.null, vf, vl, vo] ∧ OwnRow lo M 4 vs b.sets ∧ OwnRow lo M 1 vf (nv (bitsOf p.fi 150)) ∧ OwnRow lo M 1 vl (nv (bitsOf p.la 150)) ∧ ListsAt lo M vo (b.fol.map fun N => bitsOf N 150)
theorem posits_any {Mb M : MH} {bx mid : Nat} {mv pv : MV} {ms : List Mk} {b : Bs} {p : Pm} (hlo : Mb.lo ≤ Mb.n) (h : Bd Mb M bx mid mv pv ms b) (hb : b.sets.length ≤ 150) :
    Cp fns 24 [.p bx 0, .ag p.cells] M fun m M' => PosAt Mb.n M' m p b ∧ Ext M M' := by
  obtain ⟨cb, sv, fv, h⟩ := h
  have en := h.ext.n
  have el := h.ext.lo
  have hlen := h.len
  refine Cp_call (fn := F24) (by kernel_rfl) (Nat.le_of_ble_eq_true rfl) ?_
  show Wp fns B24 (T.set q1 (some (.ag p.cells)) (T.set q0 (some (.p bx 0)) T.lf)) M _
  unfold B24
  have hU : isU (.ag p.cells) = false := rfl
  have hc7 : MV.cells (.ag p.cells) = p.cells := rfl
  have hl7 : p.cells.length = 7 := rfl
  simp (maxSteps := 4000000) (disch := first | omega | assumption | (simp only [bxS, stOk, Nat.reduceBEq, Nat.reduceEqDiff, Nat.reduceAdd]; done) | (simp only [push_lo, push_n, set_lo, set_n]; omega) | (simp only [push_n, set_n, beq_self_eq_true]; done) | (apply has_ofL; simp only [List.length_cons, List.length_nil]; omega) | (apply has_setN; apply has_ofL; simp only [List.length_cons, List.length_nil]; omega)) only [↓bxD, bxP, bxQ, Nat.reduceBEq, reduceCtorEq, Nat.reduceAdd, Nat.reduceSub, Nat.reduceMul, Nat.reduceLeDiff, Nat.reduceLT, R10, R13, R22, R23, R24, R25, R4, R40, R41, R42, R43, R44, R45, R46, R47, R48, R5, R61, R62, R63, R64, R65, R9, hU, hc7, hl7, push_at]
  generalize hM1 : (M.push _).push _ = M1
  have g0 : M1.get M.n = some (.cs false 7 (ofL p.cells 0)) := by rw [← hM1, push_old (by show M.n < M.n + 1; omega)]; exact push_new _
  have g1 : M1.get (M.n + 1) = some (.cs false 5 (ofL [.nils, .b false, .nils, .nils, .nils] 0)) := by rw [← hM1]; exact push_new (M := M.push _) _
  have hx : Ext M M1 := by rw [← hM1]; exact (Ext.push M _).trans (.push _ _)
  have hn : M1.n = M.n + 2 := by rw [← hM1]; rfl
  have hl := hx.lo
  clear hM1
  have h1 := h.more hx
  have hg := h1.g
  have c3 : cget cb 3 = some sv := h.at_ 3 _ rfl
  have c4 : cget cb 4 = some fv := h.at_ 4 _ rfl
  obtain ⟨v1, v2, v3, v4⟩ := pm_get (at_ofL p.cells)
  refine Wp_dreg_of (by omega) ?_
  simp (maxSteps := 4000000) (disch := first | omega | assumption | (simp only [bxS, stOk, Nat.reduceBEq, Nat.reduceEqDiff, Nat.reduceAdd]; done) | (simp only [push_lo, push_n, set_lo, set_n]; omega) | (simp only [push_n, set_n, beq_self_eq_true]; done) | (apply has_ofL; simp only [List.length_cons, List.length_nil]; omega) | (apply has_setN; apply has_ofL; simp only [List.length_cons, List.length_nil]; omega)) only [↓bxD, bxP, bxQ, Nat.reduceBEq, reduceCtorEq, Nat.reduceAdd, Nat.reduceSub, Nat.reduceMul, Nat.reduceLeDiff, Nat.reduceLT, R10, R13, R22, R23, R24, R25, R4, R40, R41, R42, R43, R44, R45, R46, R47, R48, R5, R61, R62, R63, R64, R65, R9, nck_p, hg, c3, c4, g0, v1, v2, v3, map_ag]
  refine bindP_call (list_any (Nat.le_refl _)) ?_
  rintro vfi M2 ⟨hx2, hr2⟩
  simp (maxSteps := 4000000) (disch := first | omega | assumption | (simp only [bxS, stOk, Nat.reduceBEq, Nat.reduceEqDiff, Nat.reduceAdd]; done) | (simp only [push_lo, push_n, set_lo, set_n]; omega) | (simp only [push_n, set_n, beq_self_eq_true]; done) | (apply has_ofL; simp only [List.length_cons, List.length_nil]; omega) | (apply has_setN; apply has_ofL; simp only [List.length_cons, List.length_nil]; omega)) only [↓bxD, bxP, bxQ, Nat.reduceBEq, reduceCtorEq, Nat.reduceAdd, Nat.reduceSub, Nat.reduceMul, Nat.reduceLeDiff, Nat.reduceLT, R10, R13, R22, R23, R24, R25, R4, R40, R41, R42, R43, R44, R45, R46, R47, R48, R5, R61, R62, R63, R64, R65, R9, nck_p, hg, c3, c4, g0, v1, v2, v3, map_ag]
  refine bindP_call (list_any (Nat.le_refl _)) ?_
  rintro vla M3 ⟨hx3, hr3⟩
  obtain ⟨s1, _⟩ := h.rs.row.sl
  obtain ⟨s2, _⟩ := hr2.row.sl
  obtain ⟨s3, _⟩ := hr3.row.sl
  have ff : fillM [(0, 1, sv), (1, 1, MV.b p.null), (2, 1, vfi), (3, 1, vla)] [.nils, .b false, .nils, .nils, .nils] = some [sv, .b p.null, vfi, vla, .nils] := by
    cases sv <;> first | cases s1 | skip
    all_goals cases vfi <;> first | cases s2 | skip
    all_goals cases vla <;> first | cases s3 | skip
    all_goals rfl
  simp (maxSteps := 4000000) (disch := first | omega | assumption | (simp only [bxS, stOk, Nat.reduceBEq, Nat.reduceEqDiff, Nat.reduceAdd]; done) | (simp only [push_lo, push_n, set_lo, set_n]; omega) | (simp only [push_n, set_n, beq_self_eq_true]; done) | (apply has_ofL; simp only [List.length_cons, List.length_nil]; omega) | (apply has_setN; apply has_ofL; simp only [List.length_cons, List.length_nil]; omega)) only [↓bxD, bxP, bxQ, Nat.reduceBEq, reduceCtorEq, Nat.reduceAdd, Nat.reduceSub, Nat.reduceMul, Nat.reduceLeDiff, Nat.reduceLT, R10, R13, R22, R23, R24, R25, R4, R40, R41, R42, R43, R44, R45, R46, R47, R48, R5, R61, R62, R63, R64, R65, R9, nck_p, hg, c3, c4, g0, v1, v2, v3, map_ag, ff, float_new, adopt_cons]
  rw [lateL_of (by rfl)]
  simp (maxSteps := 4000000) (disch := first | omega | assumption | (simp only [bxS, stOk, Nat.reduceBEq, Nat.reduceEqDiff, Nat.reduceAdd]; done) | (simp only [push_lo, push_n, set_lo, set_n]; omega) | (simp only [push_n, set_n, beq_self_eq_true]; done) | (apply has_ofL; simp only [List.length_cons, List.length_nil]; omega) | (apply has_setN; apply has_ofL; simp only [List.length_cons, List.length_nil]; omega)) only [↓bxD, bxP, bxQ, Nat.reduceBEq, reduceCtorEq, Nat.reduceAdd, Nat.reduceSub, Nat.reduceMul, Nat.reduceLeDiff, Nat.reduceLT, R10, R13, R22, R23, R24, R25, R4, R40, R41, R42, R43, R44, R45, R46, R47, R48, R5, R61, R62, R63, R64, R65, R9, nck_p, hg, c3, c4, g0, v1, v2, v3, map_ag, adopt_cons]
  have hst5 : stOk 5 (.ag [sv, .b p.null, vfi, vla, .nils]) = true := by
    cases sv <;> first | cases s1 | skip
    all_goals cases vfi <;> first | cases s2 | skip
    all_goals cases vla <;> first | cases s3 | skip
    all_goals rfl
  have hlo3 : (M3.down M1.lo).lo ≤ M1.n := by show M1.lo ≤ M1.n; omega
  have hcl5 : MV.cells (.ag [sv, .b p.null, vfi, vla, .nils]) = [sv, .b p.null, vfi, vla, .nils] := rfl
  have hlo3' : M1.lo ≤ M1.n := hlo3
  have hb5 : hasB (ofL [MV.nils, .b false, .nils, .nils, .nils] 0) 5 0 = true := has_ofL _ _ _ (by decide)
  have hds : stW ((M3.down M1.lo).set M1.n (some (MO.cs false 5 (ofL [MV.nils, MV.b false, MV.nils, MV.nils, MV.nils] 0)))) 5 M1.n 0 (MV.ag [sv, MV.b p.null, vfi, vla, MV.nils]) (some (MO.cs false 5 (ofL [MV.nils, MV.b false, MV.nils, MV.nils, MV.nils] 0))) = some (.u, ((M3.down M1.lo).set M1.n (some (MO.cs false 5 (ofL [MV.nils, MV.b false, MV.nils, MV.nils, MV.nils] 0)))).set M1.n (some (.cs false 5 (setN [sv, .b p.null, vfi, vla, .nils] 0 (ofL [MV.nils, MV.b false, MV.nils, MV.nils, MV.nils] 0))))) := stW_ok hlo3 hst5 hb5
  simp (maxSteps := 4000000) (disch := first | omega | assumption | (simp only [bxS, stOk, Nat.reduceBEq, Nat.reduceEqDiff, Nat.reduceAdd]; done) | (simp only [push_lo, push_n, set_lo, set_n]; omega) | (simp only [push_n, set_n, beq_self_eq_true]; done) | (apply has_ofL; simp only [List.length_cons, List.length_nil]; omega) | (apply has_setN; apply has_ofL; simp only [List.length_cons, List.length_nil]; omega)) only [↓bxD, bxP, bxQ, Nat.reduceBEq, reduceCtorEq, Nat.reduceAdd, Nat.reduceSub, Nat.reduceMul, Nat.reduceLeDiff, Nat.reduceLT, R10, R13, R22, R23, R24, R25, R4, R40, R41, R42, R43, R44, R45, R46, R47, R48, R5, R61, R62, R63, R64, R65, R9, nck_p, hg, c3, c4, g0, v1, v2, v3, map_ag, hds]
  generalize hM4 : MH.set _ _ _ = M4
  have u2 : Sub M1 M2 := ⟨Nat.le_trans (Nat.le_succ _) hx2.n, fun j hj => hx2.old j (Nat.lt_succ_of_lt hj)⟩
  have n2 : M1.n + 1 ≤ M2.n := hx2.n
  have u3 : Sub M2 M3 := ⟨hx3.n, fun j hj => hx3.old j hj⟩
  have n3 : M2.n ≤ M3.n := hx3.n
  have n4 : M4.n = M3.n := by rw [← hM4]; rfl
  have l4 : M4.lo = M1.lo := by rw [← hM4]; rfl
  have o4 : ∀ j, j ≠ M1.n → M4.get j = M3.get j := fun j hj => by rw [← hM4, set_ne hj, set_ne hj]; rfl
  have g4 : M4.get M1.n = some (.cs false 5 (setN [sv, .b p.null, vfi, vla, .nils] 0 (ofL [MV.nils, MV.b false, MV.nils, MV.nils, MV.nils] 0))) := by rw [← hM4]; exact set_same _ _
  clear hM4
  have x4 : Ext M1 M4 := ⟨by omega, l4, fun j hj => by rw [o4 j (by omega), u3.old j (by omega), u2.old j hj]⟩
  have hr2' : OwnRow (M1.n + 1) M4 1 vfi (nv (bitsOf p.fi 150)) := OwnRow.keep hr2 (by omega) fun a n d e e2 => by
    obtain ⟨cc, q1, q2, q3⟩ := own_id hr2 e2
    have q2 : M1.n + 1 ≤ a := q2
    rw [o4 a (by omega), u3.old a q3]
  have hr3' : OwnRow (M1.n + 1) M4 1 vla (nv (bitsOf p.la 150)) := (OwnRow.le hr3 (show M1.n + 1 ≤ M2.n from n2)).keep (by omega) fun a n d e e2 => by
    obtain ⟨cc, q1, q2, q3⟩ := own_id hr3 e2
    have q2 : M2.n ≤ a := q2
    rw [o4 a (by omega)]
  have a4 : At (setN [sv, .b p.null, vfi, vla, .nils] 0 (ofL [MV.nils, MV.b false, MV.nils, MV.nils, MV.nils] 0)) 0 [sv, .b p.null, vfi, vla, .nils] := at_setN _ _ _
  generalize hc5 : setN [sv, .b p.null, vfi, vla, .nils] 0 (ofL [MV.nils, MV.b false, MV.nils, MV.nils, MV.nils] 0) = c5 at g4 a4
  clear hc5
  have h4 := h1.more x4
  have hg4 := h4.g
  have g14 := (x4.old (M.n + 1) (by omega)).trans g1
  obtain ⟨rf1, rf2⟩ := h4.rf.row.sl
  rw [List.length_map] at rf2
  show Wp fns K24_4 _ _ _
  generalize hf1 : (T.set _ _ _ : Fr) = f1
  have k0 : X.ev f1 (.t q0) = .p bx 0 := by rw [← hf1]; simp (maxSteps := 4000000) (disch := first | omega | assumption | (simp only [bxS, stOk, Nat.reduceBEq, Nat.reduceEqDiff, Nat.reduceAdd]; done) | (simp only [push_lo, push_n, set_lo, set_n]; omega) | (simp only [push_n, set_n, beq_self_eq_true]; done) | (apply has_ofL; simp only [List.length_cons, List.length_nil]; omega) | (apply has_setN; apply has_ofL; simp only [List.length_cons, List.length_nil]; omega)) only [↓bxD, bxP, bxQ, Nat.reduceBEq, reduceCtorEq, Nat.reduceAdd, Nat.reduceSub, Nat.reduceMul, Nat.reduceLeDiff, Nat.reduceLT, R10, R13, R22, R23, R24, R25, R4, R40, R41, R42, R43, R44, R45, R46, R47, R48, R5, R61, R62, R63, R64, R65, R9, nck_p, hg, c3, c4, g0, v1, v2, v3, map_ag]
  have k5 : X.ev f1 (.t q5) = .p M1.n 0 := by rw [← hf1]; simp (maxSteps := 4000000) (disch := first | omega | assumption | (simp only [bxS, stOk, Nat.reduceBEq, Nat.reduceEqDiff, Nat.reduceAdd]; done) | (simp only [push_lo, push_n, set_lo, set_n]; omega) | (simp only [push_n, set_n, beq_self_eq_true]; done) | (apply has_ofL; simp only [List.length_cons, List.length_nil]; omega) | (apply has_setN; apply has_ofL; simp only [List.length_cons, List.length_nil]; omega)) only [↓bxD, bxP, bxQ, Nat.reduceBEq, reduceCtorEq, Nat.reduceAdd, Nat.reduceSub, Nat.reduceMul, Nat.reduceLeDiff, Nat.reduceLT, R10, R13, R22, R23, R24, R25, R4, R40, R41, R42, R43, R44, R45, R46, R47, R48, R5, R61, R62, R63, R64, R65, R9, nck_p, hg, c3, c4, g0, v1, v2, v3, map_ag]
  have k4 : f1.get q4 = some (.p (M.n + 1) 0) := by rw [← hf1]; simp (maxSteps := 4000000) (disch := first | omega | assumption | (simp only [bxS, stOk, Nat.reduceBEq, Nat.reduceEqDiff, Nat.reduceAdd]; done) | (simp only [push_lo, push_n, set_lo, set_n]; omega) | (simp only [push_n, set_n, beq_self_eq_true]; done) | (apply has_ofL; simp only [List.length_cons, List.length_nil]; omega) | (apply has_setN; apply has_ofL; simp only [List.length_cons, List.length_nil]; omega)) only [↓bxD, bxP, bxQ, Nat.reduceBEq, reduceCtorEq, Nat.reduceAdd, Nat.reduceSub, Nat.reduceMul, Nat.reduceLeDiff, Nat.reduceLT, R10, R13, R22, R23, R24, R25, R4, R40, R41, R42, R43, R44, R45, R46, R47, R48, R5, R61, R62, R63, R64, R65, R9, nck_p, hg, c3, c4, g0, v1, v2, v3, map_ag, get_set]
  clear hf1
  simp only [q0, q4, q5] at k0 k4 k5
  unfold K24_4
  simp (maxSteps := 4000000) (disch := first | omega | assumption | (simp only [bxS, stOk, Nat.reduceBEq, Nat.reduceEqDiff, Nat.reduceAdd]; done) | (simp only [push_lo, push_n, set_lo, set_n]; omega) | (simp only [push_n, set_n, beq_self_eq_true]; done) | (apply has_ofL; simp only [List.length_cons, List.length_nil]; omega) | (apply has_setN; apply has_ofL; simp only [List.length_cons, List.length_nil]; omega)) only [↓bxD, bxP, bxQ, Nat.reduceBEq, reduceCtorEq, Nat.reduceAdd, Nat.reduceSub, Nat.reduceMul, Nat.reduceLeDiff, Nat.reduceLT, R10, R13, R22, R23, R24, R25, R4, R40, R41, R42, R43, R44, R45, R46, R47, R48, R5, R61, R62, R63, R64, R65, R9, k0, k4, k5, hg4, c4, nck_p, rf1, rf2, len_sl, get_set]
  refine Wp_inv (σ := Nat) (fun k f M' => k ≤ b.fol.length ∧ X.ev f (.t q24) = fv ∧ X.ev f (.t q5) = .p M1.n 0 ∧ f.get q4 = some (.p (M.n + 1) 0) ∧ X.ev f (.t q25) = .i .i64 (b.fol.length : Int) ∧ X.ev f (.t q26) = .i .i64 (k : Int) ∧ Chg (fun j => j = M1.n) M4 M' ∧ ∃ (c : T MV) (vo : MV) (es : List MV), M'.get M1.n = some (.cs false 5 c) ∧ At c 0 [sv, .b p.null, vfi, vla, vo] ∧ OwnRow M4.n M' 1 vo (es.map fun x => [x]) ∧ es.length = k ∧ ∀ (i : Nat) (x : MV) (N : Nat), es[i]? = some x → b.fol[i]? = some N → OwnRow M4.n M' 1 x (nv (bitsOf N 150)) ∧ ∀ a n d e, x = .sl a n d e → ∀ a' n' d' e', vo = .sl a' n' d' e' → a < a') (fun k => b.fol.length - k) ?_ 0 ?_
  · rintro k f M' ⟨hk, h24, h5, h4', h25, h26, hC, c, vo, es, gc, ac, rv, hel, hes⟩
    have n5 := hC.n
    have l5 := hC.lo
    have hk4 := ev_get h4'
    simp only [q4, q5, q24, q25, q26] at h5 h4' hk4 h24 h25 h26
    unfold L24_2
    simp (maxSteps := 4000000) (disch := first | omega | assumption | (simp only [bxS, stOk, Nat.reduceBEq, Nat.reduceEqDiff, Nat.reduceAdd]; done) | (simp only [push_lo, push_n, set_lo, set_n]; omega) | (simp only [push_n, set_n, beq_self_eq_true]; done) | (apply has_ofL; simp only [List.length_cons, List.length_nil]; omega) | (apply has_setN; apply has_ofL; simp only [List.length_cons, List.length_nil]; omega)) only [↓bxD, bxP, bxQ, Nat.reduceBEq, reduceCtorEq, Nat.reduceAdd, Nat.reduceSub, Nat.reduceMul, Nat.reduceLeDiff, Nat.reduceLT, R10, R13, R22, R23, R24, R25, R4, R40, R41, R42, R43, R44, R45, R46, R47, R48, R5, R61, R62, R63, R64, R65, R9, h24, h5, hk4, h25, h26, rf1, rf2, push_at]
    refine condP_split (fun hlt => ?_) (fun hge => ?_)
    · have hik : k < b.fol.length := by omega
      obtain ⟨N, hN⟩ : ∃ N, b.fol[k]? = some N := ⟨_, List.getElem?_eq_getElem hik⟩
      have rfM : RowAt M' 3 fv (b.fol.map plc) := by
        obtain ⟨hs, ⟨e1, e2⟩ | ⟨A, cf, e1, e2, e3, e4, e5⟩⟩ := h4.rf
        · exact ⟨hs, .inl ⟨e1, e2⟩⟩
        · exact ⟨hs, .inr ⟨A, 0, 0, false, 3, cf, e1, by rw [hC.old A e4 (fun e => by rw [e, g4] at e2; cases e2)]; exact e2, by omega, e5⟩⟩
      obtain ⟨ro, sz, t, q1', q2', q3'⟩ := rfM.read (i := k) (e := plc N) (by rw [List.getElem?_map, hN]; rfl)
      have hgN : Ev.getN t 3 (soff fv + k * 3) = some (plc N) := q3'.getN
      have hstp : stOk 3 (.ag (plc N)) = true := rfl
      have hclp : MV.cells (.ag (plc N)) = plc N := rfl
      have hgp : Ev.getN (setN (plc N) 0 (ofL [.i .u64 0, .i .u64 0, .i .u64 0] 0)) 3 0 = some (plc N) := getN_setN' rfl
      have c4' : cget c 4 = some vo := ac 4 _ rfl
      simp (maxSteps := 4000000) (disch := first | omega | assumption | (simp only [bxS, stOk, Nat.reduceBEq, Nat.reduceEqDiff, Nat.reduceAdd]; done) | (simp only [push_lo, push_n, set_lo, set_n]; omega) | (simp only [push_n, set_n, beq_self_eq_true]; done) | (apply has_ofL; simp only [List.length_cons, List.length_nil]; omega) | (apply has_setN; apply has_ofL; simp only [List.length_cons, List.length_nil]; omega)) only [↓bxD, bxP, bxQ, Nat.reduceBEq, reduceCtorEq, Nat.reduceAdd, Nat.reduceSub, Nat.reduceMul, Nat.reduceLeDiff, Nat.reduceLT, R10, R13, R22, R23, R24, R25, R4, R40, R41, R42, R43, R44, R45, R46, R47, R48, R5, R61, R62, R63, R64, R65, R9, h24, h5, hk4, h25, h26, rf1, rf2, push_at]
      show Wp fns K24_1 _ _ _
      unfold K24_1
      simp (maxSteps := 4000000) (disch := first | omega | assumption | (simp only [bxS, stOk, Nat.reduceBEq, Nat.reduceEqDiff, Nat.reduceAdd]; done) | (simp only [push_lo, push_n, set_lo, set_n]; omega) | (simp only [push_n, set_n, beq_self_eq_true]; done) | (apply has_ofL; simp only [List.length_cons, List.length_nil]; omega) | (apply has_setN; apply has_ofL; simp only [List.length_cons, List.length_nil]; omega)) only [↓bxD, bxP, bxQ, Nat.reduceBEq, reduceCtorEq, Nat.reduceAdd, Nat.reduceSub, Nat.reduceMul, Nat.reduceLeDiff, Nat.reduceLT, R10, R13, R22, R23, R24, R25, R4, R40, R41, R42, R43, R44, R45, R46, R47, R48, R5, R61, R62, R63, R64, R65, R9, h24, h5, hk4, h25, h26, rf1, rf2, push_at, q1', hgN, hclp]
      generalize hM5 : MH.set _ _ _ = M5
      have x5 : Ext M' M5 := by rw [← hM5]; exact (Ext.push M' _).set _ (Nat.le_refl _)
      have n5' : M5.n = M'.n + 1 := by rw [← hM5]; rfl
      have g7 : M5.get M'.n = some (.cs false 3 (setN (plc N) 0 (ofL [.i .u64 0, .i .u64 0, .i .u64 0] 0))) := by rw [← hM5]; exact set_same _ _
      have l5' := x5.lo
      clear hM5
      have gc5 := (x5.old M1.n (by omega)).trans gc
      have hbk : hasB c 1 4 = true := has_at ac (by omega) (by simp)
      refine Wp_dreg_of (by omega) ?_
      simp (maxSteps := 4000000) (disch := first | omega | assumption | (simp only [bxS, stOk, Nat.reduceBEq, Nat.reduceEqDiff, Nat.reduceAdd]; done) | (simp only [push_lo, push_n, set_lo, set_n]; omega) | (simp only [push_n, set_n, beq_self_eq_true]; done) | (apply has_ofL; simp only [List.length_cons, List.length_nil]; omega) | (apply has_setN; apply has_ofL; simp only [List.length_cons, List.length_nil]; omega)) only [↓bxD, bxP, bxQ, Nat.reduceBEq, reduceCtorEq, Nat.reduceAdd, Nat.reduceSub, Nat.reduceMul, Nat.reduceLeDiff, Nat.reduceLT, R10, R13, R22, R23, R24, R25, R4, R40, R41, R42, R43, R44, R45, R46, R47, R48, R5, R61, R62, R63, R64, R65, R9, h24, h5, hk4, h25, h26, rf1, rf2, push_at, gc5, c4', g7, hgp, map_ag]
      refine bindP_call (list_any (Nat.le_refl _)) ?_
      rintro vx M6 ⟨hx6, hr6⟩
      have u6 : Sub M5 M6 := ⟨hx6.n, fun j hj => hx6.old j hj⟩
      have n6 : M5.n ≤ M6.n := hx6.n
      have hl6 : M6.lo = M5.n := hx6.lo
      obtain ⟨sx1, sx2⟩ := hr6.row.sl
      have ffx : fillM [(0, 1, vx)] [.nils] = some [vx] := by cases vx <;> first | rfl | cases sx1
      have hpl : ∀ m o, pushV (M6.down M5.lo).lift m o = some (m, (M6.down M5.lo).lift.push o) := fun m o => push_ok (Nat.le_refl _)
      simp (maxSteps := 4000000) (disch := first | omega | assumption | (simp only [bxS, stOk, Nat.reduceBEq, Nat.reduceEqDiff, Nat.reduceAdd]; done) | (simp only [push_lo, push_n, set_lo, set_n]; omega) | (simp only [push_n, set_n, beq_self_eq_true]; done) | (apply has_ofL; simp only [List.length_cons, List.length_nil]; omega) | (apply has_setN; apply has_ofL; simp only [List.length_cons, List.length_nil]; omega)) only [↓bxD, bxP, bxQ, Nat.reduceBEq, reduceCtorEq, Nat.reduceAdd, Nat.reduceSub, Nat.reduceMul, Nat.reduceLeDiff, Nat.reduceLT, R10, R13, R22, R23, R24, R25, R4, R40, R41, R42, R43, R44, R45, R46, R47, R48, R5, R61, R62, R63, R64, R65, R9, h24, h5, hk4, h25, h26, rf1, rf2, push_at, ffx, bslW_some, hpl]
      generalize hM7 : MH.down _ _ = M7
      have u7 : Sub M6 M7 := by rw [← hM7]; exact (((Sub.down M6 M5.lo).trans (Sub.lift _)).trans (Ext.push _ _).sub).trans (.down _ _)
      have n7 : M7.n = M6.n + 1 := by rw [← hM7]; rfl
      have l7 : M7.lo = M5.lo := by rw [← hM7]; rfl
      have t7 : RowAt M7 1 (.sl M6.n 0 1 0) [[vx]] := by rw [← hM7]; exact (row_one (M := (M6.down M5.lo).lift) rfl).sub (.down _ _)
      clear hM7
      have u57 : Sub M5 M7 := u6.trans u7
      have x7 : Ext M' M7 := (x5.sub.trans u57).ext (by omega)
      have rv7 : OwnRow M4.n M7 1 vo (es.map fun x => [x]) := rv.ext x7
      have gc7 := (x7.old M1.n (by omega)).trans gc
      have rx7 : OwnRow M4.n M7 1 vx (nv (bitsOf N 150)) := (OwnRow.le hr6 (show M4.n ≤ M5.n by omega)).keep (by omega) fun a n d e e2 => by
        obtain ⟨cc, q1, q2, q3⟩ := own_id hr6 e2
        exact u7.old a q3
      obtain ⟨vo', M8, a1, a2, a3, a4', a5, a6, a7⟩ := app_rowX (bytes := 24) rv7 t7 (by omega) (by omega) (fun e he => by
        simp only [List.mem_cons, List.not_mem_nil, or_false] at he
        subst he
        cases vx <;> first | rfl | cases sx1) (by rw [List.length_map]; simp only [List.length_cons, List.length_nil]; omega) (by rw [List.length_map]; simp only [List.length_cons, List.length_nil]; omega)
      obtain ⟨nn, rfl⟩ := a7 (by simp)
      have gc8 : M8.get M1.n = some (.cs false 5 c) := by
        rw [a6 M1.n (by omega) (by omega)]; exact gc7
      refine bindP_of a1 ?_
      simp (maxSteps := 4000000) (disch := first | omega | assumption | (simp only [bxS, stOk, Nat.reduceBEq, Nat.reduceEqDiff, Nat.reduceAdd]; done) | (simp only [push_lo, push_n, set_lo, set_n]; omega) | (simp only [push_n, set_n, beq_self_eq_true]; done) | (apply has_ofL; simp only [List.length_cons, List.length_nil]; omega) | (apply has_setN; apply has_ofL; simp only [List.length_cons, List.length_nil]; omega)) only [↓bxD, bxP, bxQ, Nat.reduceBEq, reduceCtorEq, Nat.reduceAdd, Nat.reduceSub, Nat.reduceMul, Nat.reduceLeDiff, Nat.reduceLT, R10, R13, R22, R23, R24, R25, R4, R40, R41, R42, R43, R44, R45, R46, R47, R48, R5, R61, R62, R63, R64, R65, R9, h24, h5, hk4, h25, h26, rf1, rf2, push_at, gc8, cells_sl]
      show Wp fns K24_0 _ _ _
      unfold K24_0
      simp (maxSteps := 4000000) (disch := first | omega | assumption | (simp only [bxS, stOk, Nat.reduceBEq, Nat.reduceEqDiff, Nat.reduceAdd]; done) | (simp only [push_lo, push_n, set_lo, set_n]; omega) | (simp only [push_n, set_n, beq_self_eq_true]; done) | (apply has_ofL; simp only [List.length_cons, List.length_nil]; omega) | (apply has_setN; apply has_ofL; simp only [List.length_cons, List.length_nil]; omega)) only [↓bxD, bxP, bxQ, Nat.reduceBEq, reduceCtorEq, Nat.reduceAdd, Nat.reduceSub, Nat.reduceMul, Nat.reduceLeDiff, Nat.reduceLT, R10, R13, R22, R23, R24, R25, R4, R40, R41, R42, R43, R44, R45, R46, R47, R48, R5, R61, R62, R63, R64, R65, R9, h24, h5, hk4, h25, h26, rf1, rf2, push_at]
      generalize hM9 : MH.set _ _ _ = M9
      have n9 : M9.n = M8.n := by rw [← hM9]; rfl
      have l9 : M9.lo = M8.lo := by rw [← hM9]; rfl
      have g9 : M9.get M1.n = some (.cs false 5 (setN [MV.sl M7.n 0 nn 0] 4 c)) := by rw [← hM9]; exact set_same _ _
      have o9 : ∀ j, j ≠ M1.n → M9.get j = M8.get j := fun j hj => by rw [← hM9, set_ne hj]
      clear hM9
      refine ⟨k + 1, by omega, by omega, h4', rfl, ⟨by omega, by omega, fun j hj hs => ?_⟩, setN [MV.sl M7.n 0 nn 0] 4 c, .sl M7.n 0 nn 0, es ++ [vx], rfl, ac.set' 4 _ (by simp) rfl, ?_, by rw [List.length_append, hel]; rfl, ?_⟩
      · rw [o9 j hs, a6 j hj (by omega), x7.old j (by omega)]
        exact hC.old j hj hs
      · rw [List.map_append]
        exact a2.keep (by omega) fun a n d e e2 => by
          cases e2
          rw [o9 _ (by omega)]
      · intro i x N' hi hN'
        -- what lies ahead of the new row stays
        have keepx : ∀ (x : MV) (l : List Nat), OwnRow M4.n M7 1 x (nv l) → (∀ a n d e, x = .sl a n d e → ∀ a' n' d' e', vo = .sl a' n' d' e' → a ≠ a') → OwnRow M4.n M9 1 x (nv l) := fun x l hr hne => hr.keep (by omega) fun a n d e e2 => by
          obtain ⟨cc, q1, q2, q3⟩ := own_id hr e2
          rw [o9 a (by omega), a5 a q3 fun a' n' d' e' e3 e4 => hne _ _ _ _ e2 _ _ _ _ e3 e4.symm]
        rw [List.getElem?_append] at hi
        split at hi
        · obtain ⟨r1, r2⟩ := hes i x N' hi hN'
          refine ⟨keepx x _ (r1.ext x7) fun a n d e e2 a' n' d' e' e3 e4 => ?_, fun a n d e e2 a' n' d' e' e3 => ?_⟩
          · have := r2 a n d e e2 a' n' d' e' e3
            omega
          · obtain ⟨cc, q1, q2, q3⟩ := own_id r1 e2
            cases e3
            omega
        · rename_i hge
          have hi0 : i = k := by
            have := (List.getElem?_eq_some_iff.1 hi).1
            simp at this; omega
          subst hi0
          rw [show i - es.length = 0 from by omega] at hi
          cases hi
          rw [hN] at hN'
          cases hN'
          refine ⟨keepx _ _ rx7 fun a n d e e2 a' n' d' e' e3 e4 => ?_, fun a n d e e2 a' n' d' e' e3 => ?_⟩
          · obtain ⟨cc, q1, q2, q3⟩ := own_id hr6 e2
            obtain ⟨cc', q1', q2', q3'⟩ := own_id rv e3
            have q2 : M5.n ≤ a := q2
            omega
          · obtain ⟨cc, q1, q2, q3⟩ := own_id hr6 e2
            cases e3
            omega
    · have hik : k = b.fol.length := by omega
      have gN : Ev.getN c 5 0 = some [sv, .b p.null, vfi, vla, vo] := ac.getN
      have g15 : M'.get (M.n + 1) = _ := (hC.old (M.n + 1) (by omega) (by omega)).trans g14
      obtain ⟨so1, so2⟩ := rv.row.sl
      have hst6 : stOk 5 (.ag [sv, .b p.null, vfi, vla, vo]) = true := by
        cases sv <;> first | cases s1 | skip
        all_goals cases vfi <;> first | cases s2 | skip
        all_goals cases vla <;> first | cases s3 | skip
        all_goals cases vo <;> first | cases so1 | skip
        all_goals rfl
      have hcl6 : MV.cells (.ag [sv, .b p.null, vfi, vla, vo]) = [sv, .b p.null, vfi, vla, vo] := rfl
      have hgf : ∀ l : List MV, Ev.getN (setN [sv, .b p.null, vfi, vla, vo] 0 (ofL l 0)) 5 0 = some [sv, .b p.null, vfi, vla, vo] := fun l => getN_setN' rfl
      have hb5' : hasB (ofL [MV.nils, .b false, .nils, .nils, .nils] 0) 5 0 = true := has_ofL _ _ _ (by decide)
      simp (maxSteps := 4000000) (disch := first | omega | assumption | (simp only [bxS, stOk, Nat.reduceBEq, Nat.reduceEqDiff, Nat.reduceAdd]; done) | (simp only [push_lo, push_n, set_lo, set_n]; omega) | (simp only [push_n, set_n, beq_self_eq_true]; done) | (apply has_ofL; simp only [List.length_cons, List.length_nil]; omega) | (apply has_setN; apply has_ofL; simp only [List.length_cons, List.length_nil]; omega)) only [↓bxD, bxP, bxQ, Nat.reduceBEq, reduceCtorEq, Nat.reduceAdd, Nat.reduceSub, Nat.reduceMul, Nat.reduceLeDiff, Nat.reduceLT, R10, R13, R22, R23, R24, R25, R4, R40, R41, R42, R43, R44, R45, R46, R47, R48, R5, R61, R62, R63, R64, R65, R9, h24, h5, hk4, h25, h26, rf1, rf2, push_at]
      show Wp fns K24_3 _ _ _
      unfold K24_3
      simp (maxSteps := 4000000) (disch := first | omega | assumption | (simp only [bxS, stOk, Nat.reduceBEq, Nat.reduceEqDiff, Nat.reduceAdd]; done) | (simp only [push_lo, push_n, set_lo, set_n]; omega) | (simp only [push_n, set_n, beq_self_eq_true]; done) | (apply has_ofL; simp only [List.length_cons, List.length_nil]; omega) | (apply has_setN; apply has_ofL; simp only [List.length_cons, List.length_nil]; omega)) only [↓bxD, bxP, bxQ, Nat.reduceBEq, reduceCtorEq, Nat.reduceAdd, Nat.reduceSub, Nat.reduceMul, Nat.reduceLeDiff, Nat.reduceLT, R10, R13, R22, R23, R24, R25, R4, R40, R41, R42, R43, R44, R45, R46, R47, R48, R5, R61, R62, R63, R64, R65, R9, h24, h5, hk4, h25, h26, rf1, rf2, push_at, gc, gN, g15, hcl6, hgf, res_cN, cNV_p, cNo_cs, get_set, h4', map_ag]
      generalize hM9 : MH.set _ _ _ = M9
      have o9 : ∀ j, j ≠ M.n + 1 → M9.get j = M'.get j := fun j hj => by rw [← hM9, set_ne hj]
      have n9 : M9.n = M'.n := by rw [← hM9]; rfl
      have l9 : M9.lo = M'.lo := by rw [← hM9]; rfl
      clear hM9
      have keep4 : ∀ {lo sz : Nat} {v : MV} {l : List (List MV)}, sz ≠ 5 → Mb.n ≤ lo → OwnRow lo M4 sz v l → OwnRow Mb.n M9 sz v l := fun hz hlo' hr => OwnRow.le (hr.keep (by omega) fun a n d e e2 => by
        obtain ⟨cc, q1, q2, q3⟩ := own_id hr e2
        rw [o9 a (fun e => by rw [e, g14] at q1; cases q1; exact hz rfl), hC.old a q3 (fun e => by rw [e, g4] at q1; cases q1; exact hz rfl)]) hlo'
      have keep5 : ∀ {v : MV} {l : List (List MV)}, OwnRow M4.n M' 1 v l → OwnRow Mb.n M9 1 v l := fun hr => OwnRow.le (hr.keep (by omega) fun a n d e e2 => by
        obtain ⟨cc, q1, q2, q3⟩ := own_id hr e2
        rw [o9 a (by omega)]) (by omega)
      refine ⟨⟨sv, vfi, vla, vo, rfl, keep4 (by omega) (Nat.le_refl _) h4.rs, keep4 (by omega) (by omega) hr2', keep4 (by omega) (by omega) hr3', es, keep5 rv, by rw [List.length_map, hel, hik], fun i x y hi hy => ?_⟩, ⟨by omega, by omega, fun j hj => ?_⟩⟩
      · rw [List.getElem?_map] at hy
        cases hN : b.fol[i]? with
        | none => rw [hN] at hy; cases hy
        | some N =>
          rw [hN] at hy
          cases hy
          exact keep5 (hes i x N hi hN).1
      · rw [o9 j (by omega), hC.old j (by omega) (by omega), x4.old j (by omega)]
        exact hx.old j hj
  · refine ⟨Nat.zero_le _, by simp (maxSteps := 4000000) (disch := first | omega | assumption | (simp only [bxS, stOk, Nat.reduceBEq, Nat.reduceEqDiff, Nat.reduceAdd]; done) | (simp only [push_lo, push_n, set_lo, set_n]; omega) | (simp only [push_n, set_n, beq_self_eq_true]; done) | (apply has_ofL; simp only [List.length_cons, List.length_nil]; omega) | (apply has_setN; apply has_ofL; simp only [List.length_cons, List.length_nil]; omega)) only [↓bxD, bxP, bxQ, Nat.reduceBEq, reduceCtorEq, Nat.reduceAdd, Nat.reduceSub, Nat.reduceMul, Nat.reduceLeDiff, Nat.reduceLT, R10, R13, R22, R23, R24, R25, R4, R40, R41, R42, R43, R44, R45, R46, R47, R48, R5, R61, R62, R63, R64, R65, R9, k0, k4, k5, hg4, c4, nck_p, rf1, rf2, len_sl, get_set], by simp (maxSteps := 4000000) (disch := first | omega | assumption | (simp only [bxS, stOk, Nat.reduceBEq, Nat.reduceEqDiff, Nat.reduceAdd]; done) | (simp only [push_lo, push_n, set_lo, set_n]; omega) | (simp only [push_n, set_n, beq_self_eq_true]; done) | (apply has_ofL; simp only [List.length_cons, List.length_nil]; omega) | (apply has_setN; apply has_ofL; simp only [List.length_cons, List.length_nil]; omega)) only [↓bxD, bxP, bxQ, Nat.reduceBEq, reduceCtorEq, Nat.reduceAdd, Nat.reduceSub, Nat.reduceMul, Nat.reduceLeDiff, Nat.reduceLT, R10, R13, R22, R23, R24, R25, R4, R40, R41, R42, R43, R44, R45, R46, R47, R48, R5, R61, R62, R63, R64, R65, R9, k0, k4, k5, hg4, c4, nck_p, rf1, rf2, len_sl, get_set], by simp (maxSteps := 4000000) (disch := first | omega | assumption | (simp only [bxS, stOk, Nat.reduceBEq, Nat.reduceEqDiff, Nat.reduceAdd]; done) | (simp only [push_lo, push_n, set_lo, set_n]; omega) | (simp only [push_n, set_n, beq_self_eq_true]; done) | (apply has_ofL; simp only [List.length_cons, List.length_nil]; omega) | (apply has_setN; apply has_ofL; simp only [List.length_cons, List.length_nil]; omega)) only [↓bxD, bxP, bxQ, Nat.reduceBEq, reduceCtorEq, Nat.reduceAdd, Nat.reduceSub, Nat.reduceMul, Nat.reduceLeDiff, Nat.reduceLT, R10, R13, R22, R23, R24, R25, R4, R40, R41, R42, R43, R44, R45, R46, R47, R48, R5, R61, R62, R63, R64, R65, R9, k0, k4, k5, hg4, c4, nck_p, rf1, rf2, len_sl, get_set, get_set], by simp (maxSteps := 4000000) (disch := first | omega | assumption | (simp only [bxS, stOk, Nat.reduceBEq, Nat.reduceEqDiff, Nat.reduceAdd]; done) | (simp only [push_lo, push_n, set_lo, set_n]; omega) | (simp only [push_n, set_n, beq_self_eq_true]; done) | (apply has_ofL; simp only [List.length_cons, List.length_nil]; omega) | (apply has_setN; apply has_ofL; simp only [List.length_cons, List.length_nil]; omega)) only [↓bxD, bxP, bxQ, Nat.reduceBEq, reduceCtorEq, Nat.reduceAdd, Nat.reduceSub, Nat.reduceMul, Nat.reduceLeDiff, Nat.reduceLT, R10, R13, R22, R23, R24, R25, R4, R40, R41, R42, R43, R44, R45, R46, R47, R48, R5, R61, R62, R63, R64, R65, R9, k0, k4, k5, hg4, c4, nck_p, rf1, rf2, len_sl, get_set], by simp (maxSteps := 4000000) (disch := first | omega | assumption | (simp only [bxS, stOk, Nat.reduceBEq, Nat.reduceEqDiff, Nat.reduceAdd]; done) | (simp only [push_lo, push_n, set_lo, set_n]; omega) | (simp only [push_n, set_n, beq_self_eq_true]; done) | (apply has_ofL; simp only [List.length_cons, List.length_nil]; omega) | (apply has_setN; apply has_ofL; simp only [List.length_cons, List.length_nil]; omega)) only [↓bxD, bxP, bxQ, Nat.reduceBEq, reduceCtorEq, Nat.reduceAdd, Nat.reduceSub, Nat.reduceMul, Nat.reduceLeDiff, Nat.reduceLT, R10, R13, R22, R23, R24, R25, R4, R40, R41, R42, R43, R44, R45, R46, R47, R48, R5, R61, R62, R63, R64, R65, R9, k0, k4, k5, hg4, c4, nck_p, rf1, rf2, len_sl, get_set] <;> rfl, .refl _ _, c5, .nils, [], g4, a4, OwnRow.nil _ _ _, rfl, fun i x N hi => by simp at hi⟩
end Go.Proofs.Ytaagkdljkpbilaa.K
