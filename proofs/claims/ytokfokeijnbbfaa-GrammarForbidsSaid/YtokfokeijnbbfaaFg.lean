/-
  The document's Form: what is forbidden. Conditions: none.
-/
import Derived.Test.YtokfokeijnbbfaaFc
import Derived.Test.YtokfokeijnbbfaaLitK
import Derived.Test.YtokfokeijnbbfaaSw
import Derived.Test.YtokfokeijnbbfaaBx
set_option linter.unusedSimpArgs false
set_option linter.unusedVariables false
namespace Go.Proofs.Ytokfokeijnbbfaa.K
open Go Ev
set_option maxRecDepth 100000
set_option maxHeartbeats 4000000

theorem ixA_0 {n s id off : Nat} {k : IntKind} (h : 0 < n) : ixAV n s (.p id off) (.i k 0) = some (.p id (off + 0 * s)) := ixA_p (i := 0) h
theorem ixA_1 {n s id off : Nat} {k : IntKind} (h : 1 < n) : ixAV n s (.p id off) (.i k 1) = some (.p id (off + 1 * s)) := ixA_p (i := 1) h
theorem ixA_2 {n s id off : Nat} {k : IntKind} (h : 2 < n) : ixAV n s (.p id off) (.i k 2) = some (.p id (off + 2 * s)) := ixA_p (i := 2) h
/-- What Form has made ready. -/
structure Rdy (M0 M : MH) (g : Gr) (vr vf vc vk : MV) (es : List (List MV)) (f : Fr) : Prop where
  gr : GrAt M vr vf vc vk es g
  ext : Ext M0 M
  lo0 : M0.lo ≤ M0.n
  lt : M0.n < M.n
  box : M.get M0.n = some (.cs false 7 (ofL (gcs g vr vf vc vk) 0))
  fr : X.ev f (.t q1) = .p M0.n 0
def FormPost (g : Gr) (M0 : MH) : MV → MH → Prop := fun m M' => m = .tp [.i .i64 (formP g).1, .i .i64 (formP g).2] ∧ Ext M0 M'
theorem forb_drop {g : Gr} {i : Nat} {x : Int × Int × Int} (h : g.forbid[i]? = some x) (hp : (g.forbid.take i).any (badF g) = false) : badF g x = true → g.forbid.any (badF g) = true := fun hb => List.any_eq_true.2 ⟨x, List.mem_of_getElem? h, hb⟩
theorem form_forb {M0 M : MH} {g : Gr} {vr vf vc vk : MV} {es : List (List MV)} {f : Fr} (h : Rdy M0 M g vr vf vc vk es f) (hh : headE g = none) (hr : findE (ruleE g) g.rules 0 = none) : Wp fns K8_12 f M (retQ F8 (FormPost g M0)) := by
  have hq := h.fr
  simp only [q1] at hq
  unfold K8_12
  simp (maxSteps := 4000000) (disch := first | omega | assumption | (simp only [bxS, stOk, Nat.reduceBEq, Nat.reduceEqDiff, Nat.reduceAdd]; done) | (simp only [push_lo, push_n, set_lo, set_n]; omega) | (apply has_ofL; simp only [List.length_cons, List.length_nil]; omega) | (apply has_setN; apply has_ofL; simp only [List.length_cons, List.length_nil]; omega)) only [↓bxD, bxP, bxQ, bxQ2, Nat.reduceBEq, reduceCtorEq, Nat.reduceAdd, Nat.reduceSub, Nat.reduceMul, Nat.reduceLeDiff, Nat.reduceLT, R10, R11, R12, R13, R14, R15, R16, R17, R18, R19, R20, R21, R3, R4, R5, R7, R8, R9, hq]
  refine Wp_inv (σ := Nat) (fun i f M' => Rdy M0 M' g vr vf vc vk es f ∧ i ≤ g.forbid.length ∧ X.ev f (.t q8) = .i .i64 (i : Int) ∧ (g.forbid.take i).any (badF g) = false) (fun i => g.forbid.length - i) ?_ 0 ?_
  · rintro i f M' ⟨h, hi, h8, hp⟩
    have hq := h.fr
    obtain ⟨hr1, hr2⟩ := h.gr.rules.row.sl
    rw [h.gr.rules.len] at hr2
    obtain ⟨hf1, hf2⟩ := h.gr.forbid.sl
    rw [List.length_map] at hf2
    have hlo := h.lo0
    have hn := h.ext.n
    have hl := h.ext.lo
    have hlt := h.lt
    have hbox := h.box
    have hwl := h.gr.wf.lens
    obtain ⟨hw1, hw2, _, _⟩ := hwl
    simp only [q1, q8] at hq h8
    unfold gcs at hbox
    unfold L8_10
    simp (maxSteps := 4000000) (disch := first | omega | assumption | (simp only [bxS, stOk, Nat.reduceBEq, Nat.reduceEqDiff, Nat.reduceAdd]; done) | (simp only [push_lo, push_n, set_lo, set_n]; omega) | (apply has_ofL; simp only [List.length_cons, List.length_nil]; omega) | (apply has_setN; apply has_ofL; simp only [List.length_cons, List.length_nil]; omega)) only [↓bxD, bxP, bxQ, bxQ2, Nat.reduceBEq, reduceCtorEq, Nat.reduceAdd, Nat.reduceSub, Nat.reduceMul, Nat.reduceLeDiff, Nat.reduceLT, R10, R11, R12, R13, R14, R15, R16, R17, R18, R19, R20, R21, R3, R4, R5, R7, R8, R9, hq, h8, hr1, hr2, hf1, hf2, hbox, ixA_0, ixA_1, ixA_2]
    refine condP_split (fun hlt2 => ?_) (fun hge => ?_)
    · have hi' : i < g.forbid.length := by omega
      obtain ⟨x, hz⟩ : ∃ x, g.forbid[i]? = some x := ⟨_, List.getElem?_eq_getElem hi'⟩
      obtain ⟨x0, x1, x2⟩ := x
      obtain ⟨ro, s, t, hg, hid, hat⟩ := h.gr.forbid.read (i := i) (e := trip (x0, x1, x2)) (by rw [List.getElem?_map, hz]; rfl)
      have hN : Ev.getN t 3 (soff vf + i * 3) = some (trip (x0, x1, x2)) := hat.getN
      unfold trip at hN
      have hany : g.forbid.any (badF g) = ((g.forbid.take (i + 1)).any (badF g) || (g.forbid.drop (i + 1)).any (badF g)) := by rw [← List.any_append, List.take_append_drop]
      have htk : (g.forbid.take (i + 1)).any (badF g) = badF g (x0, x1, x2) := by rw [List.take_add_one, hz, List.any_append, hp]; simp
      have hbad : badF g (x0, x1, x2) = true → formP g = (-1, 6) := fun e => by unfold formP; rw [hh, hr]; simp only; rw [if_pos (by rw [hany, htk, e]; rfl)]
      simp (maxSteps := 4000000) (disch := first | omega | assumption | (simp only [bxS, stOk, Nat.reduceBEq, Nat.reduceEqDiff, Nat.reduceAdd]; done) | (simp only [push_lo, push_n, set_lo, set_n]; omega) | (apply has_ofL; simp only [List.length_cons, List.length_nil]; omega) | (apply has_setN; apply has_ofL; simp only [List.length_cons, List.length_nil]; omega)) only [↓bxD, bxP, bxQ, bxQ2, Nat.reduceBEq, reduceCtorEq, Nat.reduceAdd, Nat.reduceSub, Nat.reduceMul, Nat.reduceLeDiff, Nat.reduceLT, R10, R11, R12, R13, R14, R15, R16, R17, R18, R19, R20, R21, R3, R4, R5, R7, R8, R9, hq, h8, hr1, hr2, hf1, hf2, hbox, ixA_0, ixA_1, ixA_2, hg, hN]
      show Wp fns K8_9 _ _ _
      unfold K8_9
      simp (maxSteps := 4000000) (disch := first | omega | assumption | (simp only [bxS, stOk, Nat.reduceBEq, Nat.reduceEqDiff, Nat.reduceAdd]; done) | (simp only [push_lo, push_n, set_lo, set_n]; omega) | (apply has_ofL; simp only [List.length_cons, List.length_nil]; omega) | (apply has_setN; apply has_ofL; simp only [List.length_cons, List.length_nil]; omega)) only [↓bxD, bxP, bxQ, bxQ2, Nat.reduceBEq, reduceCtorEq, Nat.reduceAdd, Nat.reduceSub, Nat.reduceMul, Nat.reduceLeDiff, Nat.reduceLT, R10, R11, R12, R13, R14, R15, R16, R17, R18, R19, R20, R21, R3, R4, R5, R7, R8, R9, hq, h8, hr1, hr2, hf1, hf2, hbox, ixA_0, ixA_1, ixA_2, hg, hN]
      generalize hM2 : (M'.push _).set M'.n _ = M2
      have hx2 : Ext M' M2 := by rw [← hM2]; exact (Ext.push M' _).set _ (Nat.le_refl _)
      have hn2 := hx2.n
      have hl2 := hx2.lo
      have h9 : M2.get M'.n = some (.cs false 3 (setN [.i .i64 x0, .i .i64 x1, .i .i64 x2] 0 (ofL [.i .i64 0, .i .i64 0, .i .i64 0] 0))) := by rw [← hM2, set_same]
      have hbox2 := (hx2.old _ hlt).trans hbox
      have hgr := h.gr.ext hx2
      clear hM2
      have hxx := h.ext.trans hx2
      refine Wp_dreg_of (by omega) ?_
      by_cases c0 : x0 < 0
      · have d0 : decide (x0 < 0) = true := decide_eq_true c0
        simp (maxSteps := 4000000) (disch := first | omega | assumption | (simp only [bxS, stOk, Nat.reduceBEq, Nat.reduceEqDiff, Nat.reduceAdd]; done) | (simp only [push_lo, push_n, set_lo, set_n]; omega) | (apply has_ofL; simp only [List.length_cons, List.length_nil]; omega) | (apply has_setN; apply has_ofL; simp only [List.length_cons, List.length_nil]; omega)) only [↓bxD, bxP, bxQ, bxQ2, Nat.reduceBEq, reduceCtorEq, Nat.reduceAdd, Nat.reduceSub, Nat.reduceMul, Nat.reduceLeDiff, Nat.reduceLT, R10, R11, R12, R13, R14, R15, R16, R17, R18, R19, R20, R21, R3, R4, R5, R7, R8, R9, hq, h8, hr1, hr2, hf1, hf2, hbox2, ixA_0, ixA_1, ixA_2, h9, d0]
        have e : formP g = (-1, 6) := hbad (by unfold badF; rw [if_pos (by simp only; omega)])
        show Wp fns K8_7 _ _ _
        unfold K8_7
        simp (maxSteps := 4000000) (disch := first | omega | assumption | (simp only [bxS, stOk, Nat.reduceBEq, Nat.reduceEqDiff, Nat.reduceAdd]; done) | (simp only [push_lo, push_n, set_lo, set_n]; omega) | (apply has_ofL; simp only [List.length_cons, List.length_nil]; omega) | (apply has_setN; apply has_ofL; simp only [List.length_cons, List.length_nil]; omega)) only [↓bxD, bxP, bxQ, bxQ2, Nat.reduceBEq, reduceCtorEq, Nat.reduceAdd, Nat.reduceSub, Nat.reduceMul, Nat.reduceLeDiff, Nat.reduceLT, R10, R11, R12, R13, R14, R15, R16, R17, R18, R19, R20, R21, R3, R4, R5, R7, R8, R9, hq, h8, hr1, hr2, hf1, hf2, hbox2, ixA_0, ixA_1, ixA_2, h9, d0]
        unfold FormPost
        rw [e]
        exact ⟨rfl, hxx⟩
      have d0 : decide (x0 < 0) = false := decide_eq_false c0
      by_cases c1 : (g.rules.length : Int) ≤ x0
      · have d1 : decide ((g.rules.length : Int) ≤ x0) = true := decide_eq_true c1
        simp (maxSteps := 4000000) (disch := first | omega | assumption | (simp only [bxS, stOk, Nat.reduceBEq, Nat.reduceEqDiff, Nat.reduceAdd]; done) | (simp only [push_lo, push_n, set_lo, set_n]; omega) | (apply has_ofL; simp only [List.length_cons, List.length_nil]; omega) | (apply has_setN; apply has_ofL; simp only [List.length_cons, List.length_nil]; omega)) only [↓bxD, bxP, bxQ, bxQ2, Nat.reduceBEq, reduceCtorEq, Nat.reduceAdd, Nat.reduceSub, Nat.reduceMul, Nat.reduceLeDiff, Nat.reduceLT, R10, R11, R12, R13, R14, R15, R16, R17, R18, R19, R20, R21, R3, R4, R5, R7, R8, R9, hq, h8, hr1, hr2, hf1, hf2, hbox2, ixA_0, ixA_1, ixA_2, h9, d0, d1]
        have e : formP g = (-1, 6) := hbad (by unfold badF; rw [if_pos (by simp only; omega)])
        show Wp fns K8_7 _ _ _
        unfold K8_7
        simp (maxSteps := 4000000) (disch := first | omega | assumption | (simp only [bxS, stOk, Nat.reduceBEq, Nat.reduceEqDiff, Nat.reduceAdd]; done) | (simp only [push_lo, push_n, set_lo, set_n]; omega) | (apply has_ofL; simp only [List.length_cons, List.length_nil]; omega) | (apply has_setN; apply has_ofL; simp only [List.length_cons, List.length_nil]; omega)) only [↓bxD, bxP, bxQ, bxQ2, Nat.reduceBEq, reduceCtorEq, Nat.reduceAdd, Nat.reduceSub, Nat.reduceMul, Nat.reduceLeDiff, Nat.reduceLT, R10, R11, R12, R13, R14, R15, R16, R17, R18, R19, R20, R21, R3, R4, R5, R7, R8, R9, hq, h8, hr1, hr2, hf1, hf2, hbox2, ixA_0, ixA_1, ixA_2, h9, d0, d1]
        unfold FormPost
        rw [e]
        exact ⟨rfl, hxx⟩
      have d1 : decide ((g.rules.length : Int) ≤ x0) = false := decide_eq_false c1
      by_cases c2 : x2 < 0
      · have d2 : decide (x2 < 0) = true := decide_eq_true c2
        simp (maxSteps := 4000000) (disch := first | omega | assumption | (simp only [bxS, stOk, Nat.reduceBEq, Nat.reduceEqDiff, Nat.reduceAdd]; done) | (simp only [push_lo, push_n, set_lo, set_n]; omega) | (apply has_ofL; simp only [List.length_cons, List.length_nil]; omega) | (apply has_setN; apply has_ofL; simp only [List.length_cons, List.length_nil]; omega)) only [↓bxD, bxP, bxQ, bxQ2, Nat.reduceBEq, reduceCtorEq, Nat.reduceAdd, Nat.reduceSub, Nat.reduceMul, Nat.reduceLeDiff, Nat.reduceLT, R10, R11, R12, R13, R14, R15, R16, R17, R18, R19, R20, R21, R3, R4, R5, R7, R8, R9, hq, h8, hr1, hr2, hf1, hf2, hbox2, ixA_0, ixA_1, ixA_2, h9, d0, d1, d2]
        have e : formP g = (-1, 6) := hbad (by unfold badF; rw [if_pos (by simp only; omega)])
        show Wp fns K8_7 _ _ _
        unfold K8_7
        simp (maxSteps := 4000000) (disch := first | omega | assumption | (simp only [bxS, stOk, Nat.reduceBEq, Nat.reduceEqDiff, Nat.reduceAdd]; done) | (simp only [push_lo, push_n, set_lo, set_n]; omega) | (apply has_ofL; simp only [List.length_cons, List.length_nil]; omega) | (apply has_setN; apply has_ofL; simp only [List.length_cons, List.length_nil]; omega)) only [↓bxD, bxP, bxQ, bxQ2, Nat.reduceBEq, reduceCtorEq, Nat.reduceAdd, Nat.reduceSub, Nat.reduceMul, Nat.reduceLeDiff, Nat.reduceLT, R10, R11, R12, R13, R14, R15, R16, R17, R18, R19, R20, R21, R3, R4, R5, R7, R8, R9, hq, h8, hr1, hr2, hf1, hf2, hbox2, ixA_0, ixA_1, ixA_2, h9, d0, d1, d2]
        unfold FormPost
        rw [e]
        exact ⟨rfl, hxx⟩
      have d2 : decide (x2 < 0) = false := decide_eq_false c2
      by_cases c3 : (g.rules.length : Int) ≤ x2
      · have d3 : decide ((g.rules.length : Int) ≤ x2) = true := decide_eq_true c3
        simp (maxSteps := 4000000) (disch := first | omega | assumption | (simp only [bxS, stOk, Nat.reduceBEq, Nat.reduceEqDiff, Nat.reduceAdd]; done) | (simp only [push_lo, push_n, set_lo, set_n]; omega) | (apply has_ofL; simp only [List.length_cons, List.length_nil]; omega) | (apply has_setN; apply has_ofL; simp only [List.length_cons, List.length_nil]; omega)) only [↓bxD, bxP, bxQ, bxQ2, Nat.reduceBEq, reduceCtorEq, Nat.reduceAdd, Nat.reduceSub, Nat.reduceMul, Nat.reduceLeDiff, Nat.reduceLT, R10, R11, R12, R13, R14, R15, R16, R17, R18, R19, R20, R21, R3, R4, R5, R7, R8, R9, hq, h8, hr1, hr2, hf1, hf2, hbox2, ixA_0, ixA_1, ixA_2, h9, d0, d1, d2, d3]
        have e : formP g = (-1, 6) := hbad (by unfold badF; rw [if_pos (by simp only; omega)])
        show Wp fns K8_7 _ _ _
        unfold K8_7
        simp (maxSteps := 4000000) (disch := first | omega | assumption | (simp only [bxS, stOk, Nat.reduceBEq, Nat.reduceEqDiff, Nat.reduceAdd]; done) | (simp only [push_lo, push_n, set_lo, set_n]; omega) | (apply has_ofL; simp only [List.length_cons, List.length_nil]; omega) | (apply has_setN; apply has_ofL; simp only [List.length_cons, List.length_nil]; omega)) only [↓bxD, bxP, bxQ, bxQ2, Nat.reduceBEq, reduceCtorEq, Nat.reduceAdd, Nat.reduceSub, Nat.reduceMul, Nat.reduceLeDiff, Nat.reduceLT, R10, R11, R12, R13, R14, R15, R16, R17, R18, R19, R20, R21, R3, R4, R5, R7, R8, R9, hq, h8, hr1, hr2, hf1, hf2, hbox2, ixA_0, ixA_1, ixA_2, h9, d0, d1, d2, d3]
        unfold FormPost
        rw [e]
        exact ⟨rfl, hxx⟩
      have d3 : decide ((g.rules.length : Int) ≤ x2) = false := decide_eq_false c3
      obtain ⟨n0, rfl⟩ : ∃ n : Nat, x0 = n := ⟨x0.toNat, by omega⟩
      obtain ⟨n2, rfl⟩ : ∃ n : Nat, x2 = n := ⟨x2.toNat, by omega⟩
      have hi0 : n0 < g.rules.length := by omega
      have hi2 : n2 < g.rules.length := by omega
      obtain ⟨a, ha⟩ : ∃ a, g.rules[n0]? = some a := ⟨_, List.getElem?_eq_getElem hi0⟩
      obtain ⟨b, hb⟩ : ∃ b, g.rules[n2]? = some b := ⟨_, List.getElem?_eq_getElem hi2⟩
      obtain ⟨a0, ar, a2⟩ := a
      obtain ⟨b0, br, b2⟩ := b
      obtain ⟨uu, hu1, hu2⟩ := hgr.rules.get ha
      obtain ⟨v, hv1, hv2⟩ := hgr.rules.get hb
      obtain ⟨ro3, s3, t3, hg3, hid3, hat3⟩ := hgr.rules.row.read hu1
      obtain ⟨ro4, s4, t4, hg4, hid4, hat4⟩ := hgr.rules.row.read hv1
      rw [hg3] at hg4
      injection hg4 with hg4
      injection hg4 with e1 e2 e3
      subst e1 e2 e3
      have hC3 : cget t3 (soff vr + n0 * 3 + 1) = some uu := hat3 1 _ rfl
      have hC4 : cget t3 (soff vr + n2 * 3) = some (.i .i64 b0) := hat4 0 _ rfl
      obtain ⟨hu3, hu4⟩ := hu2.sl
      simp only at hu3 hu4
      have hbf : badF g ((n0 : Int), x1, (n2 : Int)) = if x1 < 0 ∨ (ar.length : Int) ≤ x1 then true else match ar[x1.toNat]? with
          | some s => decide (s ≠ b0)
          | none => true := by
        unfold badF
        rw [if_neg (by simp only; omega)]
        simp only [Int.toNat_natCast, ha, hb]
        rfl
      by_cases c4 : x1 < 0
      · have d4 : decide (x1 < 0) = true := decide_eq_true c4
        simp (maxSteps := 4000000) (disch := first | omega | assumption | (simp only [bxS, stOk, Nat.reduceBEq, Nat.reduceEqDiff, Nat.reduceAdd]; done) | (simp only [push_lo, push_n, set_lo, set_n]; omega) | (apply has_ofL; simp only [List.length_cons, List.length_nil]; omega) | (apply has_setN; apply has_ofL; simp only [List.length_cons, List.length_nil]; omega)) only [↓bxD, bxP, bxQ, bxQ2, Nat.reduceBEq, reduceCtorEq, Nat.reduceAdd, Nat.reduceSub, Nat.reduceMul, Nat.reduceLeDiff, Nat.reduceLT, R10, R11, R12, R13, R14, R15, R16, R17, R18, R19, R20, R21, R3, R4, R5, R7, R8, R9, hq, h8, hr1, hr2, hf1, hf2, hbox2, ixA_0, ixA_1, ixA_2, h9, d0, d1, d2, d3, hg3, hC3, hC4, hu3, hu4, d4]
        have e : formP g = (-1, 6) := hbad (by rw [hbf, if_pos (by omega)])
        show Wp fns K8_7 _ _ _
        unfold K8_7
        simp (maxSteps := 4000000) (disch := first | omega | assumption | (simp only [bxS, stOk, Nat.reduceBEq, Nat.reduceEqDiff, Nat.reduceAdd]; done) | (simp only [push_lo, push_n, set_lo, set_n]; omega) | (apply has_ofL; simp only [List.length_cons, List.length_nil]; omega) | (apply has_setN; apply has_ofL; simp only [List.length_cons, List.length_nil]; omega)) only [↓bxD, bxP, bxQ, bxQ2, Nat.reduceBEq, reduceCtorEq, Nat.reduceAdd, Nat.reduceSub, Nat.reduceMul, Nat.reduceLeDiff, Nat.reduceLT, R10, R11, R12, R13, R14, R15, R16, R17, R18, R19, R20, R21, R3, R4, R5, R7, R8, R9, hq, h8, hr1, hr2, hf1, hf2, hbox2, ixA_0, ixA_1, ixA_2, h9, d0, d1, d2, d3, hg3, hC3, hC4, hu3, hu4, d4]
        unfold FormPost
        rw [e]
        exact ⟨rfl, hxx⟩
      have d4 : decide (x1 < 0) = false := decide_eq_false c4
      by_cases c5 : (ar.length : Int) ≤ x1
      · have d5 : decide ((ar.length : Int) ≤ x1) = true := decide_eq_true c5
        simp (maxSteps := 4000000) (disch := first | omega | assumption | (simp only [bxS, stOk, Nat.reduceBEq, Nat.reduceEqDiff, Nat.reduceAdd]; done) | (simp only [push_lo, push_n, set_lo, set_n]; omega) | (apply has_ofL; simp only [List.length_cons, List.length_nil]; omega) | (apply has_setN; apply has_ofL; simp only [List.length_cons, List.length_nil]; omega)) only [↓bxD, bxP, bxQ, bxQ2, Nat.reduceBEq, reduceCtorEq, Nat.reduceAdd, Nat.reduceSub, Nat.reduceMul, Nat.reduceLeDiff, Nat.reduceLT, R10, R11, R12, R13, R14, R15, R16, R17, R18, R19, R20, R21, R3, R4, R5, R7, R8, R9, hq, h8, hr1, hr2, hf1, hf2, hbox2, ixA_0, ixA_1, ixA_2, h9, d0, d1, d2, d3, hg3, hC3, hC4, hu3, hu4, d4, d5]
        have e : formP g = (-1, 6) := hbad (by rw [hbf, if_pos (by omega)])
        show Wp fns K8_7 _ _ _
        unfold K8_7
        simp (maxSteps := 4000000) (disch := first | omega | assumption | (simp only [bxS, stOk, Nat.reduceBEq, Nat.reduceEqDiff, Nat.reduceAdd]; done) | (simp only [push_lo, push_n, set_lo, set_n]; omega) | (apply has_ofL; simp only [List.length_cons, List.length_nil]; omega) | (apply has_setN; apply has_ofL; simp only [List.length_cons, List.length_nil]; omega)) only [↓bxD, bxP, bxQ, bxQ2, Nat.reduceBEq, reduceCtorEq, Nat.reduceAdd, Nat.reduceSub, Nat.reduceMul, Nat.reduceLeDiff, Nat.reduceLT, R10, R11, R12, R13, R14, R15, R16, R17, R18, R19, R20, R21, R3, R4, R5, R7, R8, R9, hq, h8, hr1, hr2, hf1, hf2, hbox2, ixA_0, ixA_1, ixA_2, h9, d0, d1, d2, d3, hg3, hC3, hC4, hu3, hu4, d4, d5]
        unfold FormPost
        rw [e]
        exact ⟨rfl, hxx⟩
      have d5 : decide ((ar.length : Int) ≤ x1) = false := decide_eq_false c5
      obtain ⟨n1, rfl⟩ : ∃ n : Nat, x1 = n := ⟨x1.toNat, by omega⟩
      have hi1 : n1 < ar.length := by omega
      obtain ⟨z, hz1⟩ : ∃ z, ar[n1]? = some z := ⟨_, List.getElem?_eq_getElem hi1⟩
      obtain ⟨ro5, s5, t5, hg5, hid5, hC5⟩ := hu2.read hz1
      by_cases c6 : z ≠ b0
      · have d6 : decide (z ≠ b0) = true := decide_eq_true c6
        simp (maxSteps := 4000000) (disch := first | omega | assumption | (simp only [bxS, stOk, Nat.reduceBEq, Nat.reduceEqDiff, Nat.reduceAdd]; done) | (simp only [push_lo, push_n, set_lo, set_n]; omega) | (apply has_ofL; simp only [List.length_cons, List.length_nil]; omega) | (apply has_setN; apply has_ofL; simp only [List.length_cons, List.length_nil]; omega)) only [↓bxD, bxP, bxQ, bxQ2, Nat.reduceBEq, reduceCtorEq, Nat.reduceAdd, Nat.reduceSub, Nat.reduceMul, Nat.reduceLeDiff, Nat.reduceLT, R10, R11, R12, R13, R14, R15, R16, R17, R18, R19, R20, R21, R3, R4, R5, R7, R8, R9, hq, h8, hr1, hr2, hf1, hf2, hbox2, ixA_0, ixA_1, ixA_2, h9, d0, d1, d2, d3, hg3, hC3, hC4, hu3, hu4, d4, d5, hg5, hC5, d6]
        have e : formP g = (-1, 6) := hbad (by rw [hbf, if_neg (by omega)]; simp only [Int.toNat_natCast, hz1]; exact d6)
        show Wp fns K8_7 _ _ _
        unfold K8_7
        simp (maxSteps := 4000000) (disch := first | omega | assumption | (simp only [bxS, stOk, Nat.reduceBEq, Nat.reduceEqDiff, Nat.reduceAdd]; done) | (simp only [push_lo, push_n, set_lo, set_n]; omega) | (apply has_ofL; simp only [List.length_cons, List.length_nil]; omega) | (apply has_setN; apply has_ofL; simp only [List.length_cons, List.length_nil]; omega)) only [↓bxD, bxP, bxQ, bxQ2, Nat.reduceBEq, reduceCtorEq, Nat.reduceAdd, Nat.reduceSub, Nat.reduceMul, Nat.reduceLeDiff, Nat.reduceLT, R10, R11, R12, R13, R14, R15, R16, R17, R18, R19, R20, R21, R3, R4, R5, R7, R8, R9, hq, h8, hr1, hr2, hf1, hf2, hbox2, ixA_0, ixA_1, ixA_2, h9, d0, d1, d2, d3, hg3, hC3, hC4, hu3, hu4, d4, d5, hg5, hC5, d6]
        unfold FormPost
        rw [e]
        exact ⟨rfl, hxx⟩
      have d6 : decide (z ≠ b0) = false := decide_eq_false c6
      simp (maxSteps := 4000000) (disch := first | omega | assumption | (simp only [bxS, stOk, Nat.reduceBEq, Nat.reduceEqDiff, Nat.reduceAdd]; done) | (simp only [push_lo, push_n, set_lo, set_n]; omega) | (apply has_ofL; simp only [List.length_cons, List.length_nil]; omega) | (apply has_setN; apply has_ofL; simp only [List.length_cons, List.length_nil]; omega)) only [↓bxD, bxP, bxQ, bxQ2, Nat.reduceBEq, reduceCtorEq, Nat.reduceAdd, Nat.reduceSub, Nat.reduceMul, Nat.reduceLeDiff, Nat.reduceLT, R10, R11, R12, R13, R14, R15, R16, R17, R18, R19, R20, R21, R3, R4, R5, R7, R8, R9, hq, h8, hr1, hr2, hf1, hf2, hbox2, ixA_0, ixA_1, ixA_2, h9, d0, d1, d2, d3, hg3, hC3, hC4, hu3, hu4, d4, d5, hg5, hC5, d6]
      show Wp fns K8_7 _ _ _
      unfold K8_7
      simp (maxSteps := 4000000) (disch := first | omega | assumption | (simp only [bxS, stOk, Nat.reduceBEq, Nat.reduceEqDiff, Nat.reduceAdd]; done) | (simp only [push_lo, push_n, set_lo, set_n]; omega) | (apply has_ofL; simp only [List.length_cons, List.length_nil]; omega) | (apply has_setN; apply has_ofL; simp only [List.length_cons, List.length_nil]; omega)) only [↓bxD, bxP, bxQ, bxQ2, Nat.reduceBEq, reduceCtorEq, Nat.reduceAdd, Nat.reduceSub, Nat.reduceMul, Nat.reduceLeDiff, Nat.reduceLT, R10, R11, R12, R13, R14, R15, R16, R17, R18, R19, R20, R21, R3, R4, R5, R7, R8, R9, hq, h8, hr1, hr2, hf1, hf2, hbox2, ixA_0, ixA_1, ixA_2, h9, d0, d1, d2, d3, hg3, hC3, hC4, hu3, hu4, d4, d5, hg5, hC5, d6]
      show Wp fns K8_8 _ _ _
      unfold K8_8
      simp (maxSteps := 4000000) (disch := first | omega | assumption | (simp only [bxS, stOk, Nat.reduceBEq, Nat.reduceEqDiff, Nat.reduceAdd]; done) | (simp only [push_lo, push_n, set_lo, set_n]; omega) | (apply has_ofL; simp only [List.length_cons, List.length_nil]; omega) | (apply has_setN; apply has_ofL; simp only [List.length_cons, List.length_nil]; omega)) only [↓bxD, bxP, bxQ, bxQ2, Nat.reduceBEq, reduceCtorEq, Nat.reduceAdd, Nat.reduceSub, Nat.reduceMul, Nat.reduceLeDiff, Nat.reduceLT, R10, R11, R12, R13, R14, R15, R16, R17, R18, R19, R20, R21, R3, R4, R5, R7, R8, R9, hq, h8, hr1, hr2, hf1, hf2, hbox2, ixA_0, ixA_1, ixA_2, h9, d0, d1, d2, d3, hg3, hC3, hC4, hu3, hu4, d4, d5, hg5, hC5, d6]
      have hnb : badF g ((n0 : Int), (n1 : Int), (n2 : Int)) = false := by rw [hbf, if_neg (by omega)]; simp only [Int.toNat_natCast, hz1]; exact d6
      refine ⟨i + 1, by omega, ⟨hgr, hxx, h.lo0, by omega, hbox2, ?_⟩, by omega, rfl, by rw [htk, hnb]⟩
      simp (maxSteps := 4000000) (disch := first | omega | assumption | (simp only [bxS, stOk, Nat.reduceBEq, Nat.reduceEqDiff, Nat.reduceAdd]; done) | (simp only [push_lo, push_n, set_lo, set_n]; omega) | (apply has_ofL; simp only [List.length_cons, List.length_nil]; omega) | (apply has_setN; apply has_ofL; simp only [List.length_cons, List.length_nil]; omega)) only [↓bxD, bxP, bxQ, bxQ2, Nat.reduceBEq, reduceCtorEq, Nat.reduceAdd, Nat.reduceSub, Nat.reduceMul, Nat.reduceLeDiff, Nat.reduceLT, R10, R11, R12, R13, R14, R15, R16, R17, R18, R19, R20, R21, R3, R4, R5, R7, R8, R9, hq, h8, hr1, hr2, hf1, hf2, hbox2, ixA_0, ixA_1, ixA_2, h9, d0, d1, d2, d3, hg3, hC3, hC4, hu3, hu4, d4, d5, hg5, hC5, d6]
    · have hi' : i = g.forbid.length := by omega
      subst hi'
      rw [List.take_length] at hp
      simp (maxSteps := 4000000) (disch := first | omega | assumption | (simp only [bxS, stOk, Nat.reduceBEq, Nat.reduceEqDiff, Nat.reduceAdd]; done) | (simp only [push_lo, push_n, set_lo, set_n]; omega) | (apply has_ofL; simp only [List.length_cons, List.length_nil]; omega) | (apply has_setN; apply has_ofL; simp only [List.length_cons, List.length_nil]; omega)) only [↓bxD, bxP, bxQ, bxQ2, Nat.reduceBEq, reduceCtorEq, Nat.reduceAdd, Nat.reduceSub, Nat.reduceMul, Nat.reduceLeDiff, Nat.reduceLT, R10, R11, R12, R13, R14, R15, R16, R17, R18, R19, R20, R21, R3, R4, R5, R7, R8, R9, hq, h8, hr1, hr2, hf1, hf2, hbox, ixA_0, ixA_1, ixA_2]
      show Wp fns K8_11 _ _ _
      unfold K8_11
      simp (maxSteps := 4000000) (disch := first | omega | assumption | (simp only [bxS, stOk, Nat.reduceBEq, Nat.reduceEqDiff, Nat.reduceAdd]; done) | (simp only [push_lo, push_n, set_lo, set_n]; omega) | (apply has_ofL; simp only [List.length_cons, List.length_nil]; omega) | (apply has_setN; apply has_ofL; simp only [List.length_cons, List.length_nil]; omega)) only [↓bxD, bxP, bxQ, bxQ2, Nat.reduceBEq, reduceCtorEq, Nat.reduceAdd, Nat.reduceSub, Nat.reduceMul, Nat.reduceLeDiff, Nat.reduceLT, R10, R11, R12, R13, R14, R15, R16, R17, R18, R19, R20, R21, R3, R4, R5, R7, R8, R9, hq, h8, hr1, hr2, hf1, hf2, hbox, ixA_0, ixA_1, ixA_2]
      have e : formP g = (-1, 0) := by unfold formP; rw [hh, hr]; simp only; rw [hp]; rfl
      unfold FormPost
      rw [e]
      exact ⟨rfl, h.ext⟩
  · refine ⟨⟨h.gr, h.ext, h.lo0, h.lt, h.box, ?_⟩, Nat.zero_le _, rfl, rfl⟩
    simp (maxSteps := 4000000) (disch := first | omega | assumption | (simp only [bxS, stOk, Nat.reduceBEq, Nat.reduceEqDiff, Nat.reduceAdd]; done) | (simp only [push_lo, push_n, set_lo, set_n]; omega) | (apply has_ofL; simp only [List.length_cons, List.length_nil]; omega) | (apply has_setN; apply has_ofL; simp only [List.length_cons, List.length_nil]; omega)) only [↓bxD, bxP, bxQ, bxQ2, Nat.reduceBEq, reduceCtorEq, Nat.reduceAdd, Nat.reduceSub, Nat.reduceMul, Nat.reduceLeDiff, Nat.reduceLT, R10, R11, R12, R13, R14, R15, R16, R17, R18, R19, R20, R21, R3, R4, R5, R7, R8, R9, hq]
end Go.Proofs.Ytokfokeijnbbfaa.K
