/-
  What the claim leans on, part 4: The program's Form: numbers, classes, symbols, and what the library's ContainsFunc tells. Conditions: none. The program's names that stay alone in a row. Conditions: none. The program's sets: how a row begins. Conditions: none. What is made beside the order. Conditions: none. The program's sets: how names begin. Conditions: none. The document's Form: what is forbidden. Conditions: none. The document's Form: rule by rule. Conditions: none. The document's Form. Conditions: none. The document's Nullable. Conditions: none. How short what a name derives may be: what is meant. Conditions: none. Rows
-/
import Derived.Test.YtddaggodpmhmpaaMH3
import Derived.KernelRfl
set_option linter.unusedSimpArgs false
set_option linter.unusedVariables false
namespace Go.Proofs.Ytddaggodpmhmpaa.K
open Go Ev
set_option maxRecDepth 100000
set_option maxHeartbeats 4000000

def callvW (c : CallM) (M : MH) (v : MV) (l : List MV) : Option (MV × MH) := match v with
  | .fn (.func g) a d => c g (a ++ (l ++ d)) M
  | _ => none
theorem ev_callv (c : CallM) (f : Fr) (M : MH) (x : X) (l : List X) : Iop.ev c f M (.callv x l) = callvW c M (x.ev f) (l.map (X.ev f)) := rfl
theorem callv_fn (c : CallM) (M : MH) (g : Nat) (a d l : List MV) : callvW c M (.fn (.func g) a d) l = c g (a ++ (l ++ d)) M := rfl
def isN (i n : Int) : Bool := decide (0 ≤ i) && decide (i < n)
theorem number_any {M : MH} {i n : Int} : Cp fns 39 [.i .i64 i, .i .i64 n] M fun m M' => m = .b (isN i n) ∧ M' = M := by
  refine Cp_call (fn := F39) (by kernel_rfl) (Nat.le_of_ble_eq_true rfl) ?_
  show Wp fns B39 (T.set q1 (some (.i .i64 n)) (T.set q0 (some (.i .i64 i)) T.lf)) M _
  unfold B39
  by_cases h0 : 0 ≤ i
  · have hd : decide (0 ≤ i) = true := decide_eq_true h0
    simp (maxSteps := 4000000) (disch := first | omega | assumption | (simp only [bxS, bxV, stOk, Nat.reduceBEq, Nat.reduceEqDiff, Nat.reduceAdd]; done) | (simp only [bxU]; omega) | ((try apply has_setN); apply has_ofL; simp only [bxL]; omega)) only [↓bxD, bxP, bxQ, Nat.reduceBEq, reduceCtorEq, Nat.reduceAdd, Nat.reduceSub, Nat.reduceMul, Nat.reduceLeDiff, Nat.reduceLT, bxR, hd]
    unfold isN
    rw [hd, Bool.true_and]
  · have hd : decide (0 ≤ i) = false := decide_eq_false h0
    simp (maxSteps := 4000000) (disch := first | omega | assumption | (simp only [bxS, bxV, stOk, Nat.reduceBEq, Nat.reduceEqDiff, Nat.reduceAdd]; done) | (simp only [bxU]; omega) | ((try apply has_setN); apply has_ofL; simp only [bxL]; omega)) only [↓bxD, bxP, bxQ, Nat.reduceBEq, reduceCtorEq, Nat.reduceAdd, Nat.reduceSub, Nat.reduceMul, Nat.reduceLeDiff, Nat.reduceLT, bxR, hd]
    unfold isN
    rw [hd, Bool.false_and]
theorem class_any {M : MH} {c : Int} : Cp fns 48 [.i .i64 c] M fun m M' => m = .b (!(isN c 101)) ∧ M' = M := by
  refine Cp_call (fn := F48) (by kernel_rfl) (Nat.le_of_ble_eq_true rfl) ?_
  show Wp fns B48 (T.set q0 (some (.i .i64 c)) T.lf) M _
  unfold B48
  simp (maxSteps := 4000000) (disch := first | omega | assumption | (simp only [bxS, bxV, stOk, Nat.reduceBEq, Nat.reduceEqDiff, Nat.reduceAdd]; done) | (simp only [bxU]; omega) | ((try apply has_setN); apply has_ofL; simp only [bxL]; omega)) only [↓bxD, bxP, bxQ, Nat.reduceBEq, reduceCtorEq, Nat.reduceAdd, Nat.reduceSub, Nat.reduceMul, Nat.reduceLeDiff, Nat.reduceLT, bxR]
  refine bindP_call number_any ?_
  rintro m M2 ⟨rfl, rfl⟩
  simp (maxSteps := 4000000) (disch := first | omega | assumption | (simp only [bxS, bxV, stOk, Nat.reduceBEq, Nat.reduceEqDiff, Nat.reduceAdd]; done) | (simp only [bxU]; omega) | ((try apply has_setN); apply has_ofL; simp only [bxL]; omega)) only [↓bxD, bxP, bxQ, Nat.reduceBEq, reduceCtorEq, Nat.reduceAdd, Nat.reduceSub, Nat.reduceMul, Nat.reduceLeDiff, Nat.reduceLT, bxR]
theorem index_any {M : MH} {v : MV} {l : List Int} {k : Nat} {caps : List MV} {p : Int → Bool} (h : IntRow M v l) (hl : l.length ≤ 9223372036854775807) (hP : ∀ M' z, Ext M M' → z ∈ l → Cp fns k (.i .i64 z :: caps) M' fun m M'' => m = .b (p z) ∧ Ext M' M'') :
    Cp fns 49 [v, .fn (.func k) [] caps] M fun m M' => ∃ r, m = .i .i64 r ∧ decide (0 ≤ r) = l.any p ∧ Ext M M' := by
  obtain ⟨hs1, hs2⟩ := h.sl
  refine Cp_call (fn := F49) (by kernel_rfl) (Nat.le_of_ble_eq_true rfl) ?_
  show Wp fns B49 (T.set q1 (some (.fn (.func k) [] caps)) (T.set q0 (some v) T.lf)) M _
  unfold B49
  simp (maxSteps := 4000000) (disch := first | omega | assumption | (simp only [bxS, bxV, stOk, Nat.reduceBEq, Nat.reduceEqDiff, Nat.reduceAdd]; done) | (simp only [bxU]; omega) | ((try apply has_setN); apply has_ofL; simp only [bxL]; omega)) only [↓bxD, bxP, bxQ, Nat.reduceBEq, reduceCtorEq, Nat.reduceAdd, Nat.reduceSub, Nat.reduceMul, Nat.reduceLeDiff, Nat.reduceLT, bxR, hs1, hs2]
  refine Wp_inv (σ := Nat) (fun i f M' => Ext M M' ∧ i ≤ l.length ∧ X.ev f (.t q0) = v ∧ X.ev f (.t q1) = .fn (.func k) [] caps ∧ X.ev f (.t q7) = .i .i64 (l.length : Int) ∧ X.ev f (.t q8) = .i .i64 (i : Int) ∧ (l.take i).any p = false) (fun i => l.length - i) ?_ 0 ?_
  · rintro i f M' ⟨hx, hi, h0, h1, h7, h8, hc⟩
    simp only [q0, q1, q7, q8] at h0 h1 h7 h8
    unfold L49_2
    simp (maxSteps := 4000000) (disch := first | omega | assumption | (simp only [bxS, bxV, stOk, Nat.reduceBEq, Nat.reduceEqDiff, Nat.reduceAdd]; done) | (simp only [bxU]; omega) | ((try apply has_setN); apply has_ofL; simp only [bxL]; omega)) only [↓bxD, bxP, bxQ, Nat.reduceBEq, reduceCtorEq, Nat.reduceAdd, Nat.reduceSub, Nat.reduceMul, Nat.reduceLeDiff, Nat.reduceLT, bxR, hs1, hs2, h0, h1, h7, h8]
    refine condP_split (fun hlt => ?_) (fun hge => ?_)
    · have hi' : i < l.length := by omega
      obtain ⟨z, hz⟩ : ∃ z, l[i]? = some z := ⟨_, List.getElem?_eq_getElem hi'⟩
      obtain ⟨ro, s, t, hg, hid, hC⟩ := (h.ext hx).read hz
      have hall : l.any p = ((l.take (i + 1)).any p || (l.drop (i + 1)).any p) := by rw [← List.any_append, List.take_append_drop]
      have htk : (l.take (i + 1)).any p = p z := by rw [List.take_add_one, hz, List.any_append, hc]; simp
      simp (maxSteps := 4000000) (disch := first | omega | assumption | (simp only [bxS, bxV, stOk, Nat.reduceBEq, Nat.reduceEqDiff, Nat.reduceAdd]; done) | (simp only [bxU]; omega) | ((try apply has_setN); apply has_ofL; simp only [bxL]; omega)) only [↓bxD, bxP, bxQ, Nat.reduceBEq, reduceCtorEq, Nat.reduceAdd, Nat.reduceSub, Nat.reduceMul, Nat.reduceLeDiff, Nat.reduceLT, bxR, hs1, hs2, h0, h1, h7, h8, hg, hC, ev_callv, callv_fn, List.nil_append, List.cons_append]
      show Wp fns K49_1 _ _ _
      unfold K49_1
      simp (maxSteps := 4000000) (disch := first | omega | assumption | (simp only [bxS, bxV, stOk, Nat.reduceBEq, Nat.reduceEqDiff, Nat.reduceAdd]; done) | (simp only [bxU]; omega) | ((try apply has_setN); apply has_ofL; simp only [bxL]; omega)) only [↓bxD, bxP, bxQ, Nat.reduceBEq, reduceCtorEq, Nat.reduceAdd, Nat.reduceSub, Nat.reduceMul, Nat.reduceLeDiff, Nat.reduceLT, bxR, hs1, hs2, h0, h1, h7, h8, hg, hC, ev_callv, callv_fn, List.nil_append, List.cons_append]
      refine bindP_call (hP _ z hx (List.mem_of_getElem? hz)) ?_
      rintro m M2 ⟨rfl, hx2⟩
      simp (maxSteps := 4000000) (disch := first | omega | assumption | (simp only [bxS, bxV, stOk, Nat.reduceBEq, Nat.reduceEqDiff, Nat.reduceAdd]; done) | (simp only [bxU]; omega) | ((try apply has_setN); apply has_ofL; simp only [bxL]; omega)) only [↓bxD, bxP, bxQ, Nat.reduceBEq, reduceCtorEq, Nat.reduceAdd, Nat.reduceSub, Nat.reduceMul, Nat.reduceLeDiff, Nat.reduceLT, bxR, hs1, hs2, h0, h1, h7, h8, hg, hC, ev_callv, callv_fn, List.nil_append, List.cons_append]
      cases hp : p z with
      | true =>
        simp (maxSteps := 4000000) (disch := first | omega | assumption | (simp only [bxS, bxV, stOk, Nat.reduceBEq, Nat.reduceEqDiff, Nat.reduceAdd]; done) | (simp only [bxU]; omega) | ((try apply has_setN); apply has_ofL; simp only [bxL]; omega)) only [↓bxD, bxP, bxQ, Nat.reduceBEq, reduceCtorEq, Nat.reduceAdd, Nat.reduceSub, Nat.reduceMul, Nat.reduceLeDiff, Nat.reduceLT, bxR, hs1, hs2, h0, h1, h7, h8, hg, hC, ev_callv, callv_fn, List.nil_append, List.cons_append, hp]
        refine ⟨i, rfl, ?_, hx.trans hx2⟩
        rw [hall, htk, hp, Bool.true_or]
        exact decide_eq_true (by omega)
      | false =>
        simp (maxSteps := 4000000) (disch := first | omega | assumption | (simp only [bxS, bxV, stOk, Nat.reduceBEq, Nat.reduceEqDiff, Nat.reduceAdd]; done) | (simp only [bxU]; omega) | ((try apply has_setN); apply has_ofL; simp only [bxL]; omega)) only [↓bxD, bxP, bxQ, Nat.reduceBEq, reduceCtorEq, Nat.reduceAdd, Nat.reduceSub, Nat.reduceMul, Nat.reduceLeDiff, Nat.reduceLT, bxR, hs1, hs2, h0, h1, h7, h8, hg, hC, ev_callv, callv_fn, List.nil_append, List.cons_append, hp]
        show Wp fns K49_0 _ _ _
        unfold K49_0
        simp (maxSteps := 4000000) (disch := first | omega | assumption | (simp only [bxS, bxV, stOk, Nat.reduceBEq, Nat.reduceEqDiff, Nat.reduceAdd]; done) | (simp only [bxU]; omega) | ((try apply has_setN); apply has_ofL; simp only [bxL]; omega)) only [↓bxD, bxP, bxQ, Nat.reduceBEq, reduceCtorEq, Nat.reduceAdd, Nat.reduceSub, Nat.reduceMul, Nat.reduceLeDiff, Nat.reduceLT, bxR, hs1, hs2, h0, h1, h7, h8, hg, hC, ev_callv, callv_fn, List.nil_append, List.cons_append]
        exact ⟨i + 1, by omega, hx.trans hx2, by omega, rfl, by rw [htk, hp]⟩
    · have hi' : i = l.length := by omega
      subst hi'
      rw [List.take_length] at hc
      simp (maxSteps := 4000000) (disch := first | omega | assumption | (simp only [bxS, bxV, stOk, Nat.reduceBEq, Nat.reduceEqDiff, Nat.reduceAdd]; done) | (simp only [bxU]; omega) | ((try apply has_setN); apply has_ofL; simp only [bxL]; omega)) only [↓bxD, bxP, bxQ, Nat.reduceBEq, reduceCtorEq, Nat.reduceAdd, Nat.reduceSub, Nat.reduceMul, Nat.reduceLeDiff, Nat.reduceLT, bxR, hs1, hs2, h0, h1, h7, h8]
      show Wp fns K49_3 _ _ _
      unfold K49_3
      simp (maxSteps := 4000000) (disch := first | omega | assumption | (simp only [bxS, bxV, stOk, Nat.reduceBEq, Nat.reduceEqDiff, Nat.reduceAdd]; done) | (simp only [bxU]; omega) | ((try apply has_setN); apply has_ofL; simp only [bxL]; omega)) only [↓bxD, bxP, bxQ, Nat.reduceBEq, reduceCtorEq, Nat.reduceAdd, Nat.reduceSub, Nat.reduceMul, Nat.reduceLeDiff, Nat.reduceLT, bxR, hs1, hs2, h0, h1, h7, h8, R49, pack1]
      exact ⟨-1, rfl, by rw [hc]; rfl, hx⟩
  · exact ⟨.refl _, Nat.zero_le _, by simp only [bxP, bxQ, reduceCtorEq, hs1, hs2], by simp only [bxP, bxQ, reduceCtorEq, hs1, hs2], by simp only [bxP, bxQ, reduceCtorEq, hs1, hs2], by simp only [bxP, bxQ, reduceCtorEq, hs1, hs2] <;> rfl, rfl⟩
theorem contains_any {M : MH} {v : MV} {l : List Int} {k : Nat} {caps : List MV} {p : Int → Bool} (h : IntRow M v l) (hl : l.length ≤ 9223372036854775807) (hP : ∀ M' z, Ext M M' → z ∈ l → Cp fns k (.i .i64 z :: caps) M' fun m M'' => m = .b (p z) ∧ Ext M' M'') :
    Cp fns 43 [v, .fn (.func k) [] caps] M fun m M' => m = .b (l.any p) ∧ Ext M M' := by
  refine Cp_call (fn := F43) (by kernel_rfl) (Nat.le_of_ble_eq_true rfl) ?_
  show Wp fns B43 (T.set q1 (some (.fn (.func k) [] caps)) (T.set q0 (some v) T.lf)) M _
  unfold B43
  simp (maxSteps := 4000000) (disch := first | omega | assumption | (simp only [bxS, bxV, stOk, Nat.reduceBEq, Nat.reduceEqDiff, Nat.reduceAdd]; done) | (simp only [bxU]; omega) | ((try apply has_setN); apply has_ofL; simp only [bxL]; omega)) only [↓bxD, bxP, bxQ, Nat.reduceBEq, reduceCtorEq, Nat.reduceAdd, Nat.reduceSub, Nat.reduceMul, Nat.reduceLeDiff, Nat.reduceLT, bxR]
  refine bindP_call (index_any h hl hP) ?_
  rintro m M2 ⟨r, rfl, hr, hx⟩
  simp (maxSteps := 4000000) (disch := first | omega | assumption | (simp only [bxS, bxV, stOk, Nat.reduceBEq, Nat.reduceEqDiff, Nat.reduceAdd]; done) | (simp only [bxU]; omega) | ((try apply has_setN); apply has_ofL; simp only [bxL]; omega)) only [↓bxD, bxP, bxQ, Nat.reduceBEq, reduceCtorEq, Nat.reduceAdd, Nat.reduceSub, Nat.reduceMul, Nat.reduceLeDiff, Nat.reduceLT, bxR]
  exact ⟨by rw [hr], hx⟩
theorem areClasses_any {M : MH} {v : MV} {l : List Int} {n : Int} (h : IntRow M v l) (hl : l.length ≤ 9223372036854775807) : Cp fns 40 [v, .i .i64 n] M fun m M' => m = .b (decide ((l.length : Int) ≤ n) && clsB l) ∧ Ext M M' := by
  obtain ⟨hs1, hs2⟩ := h.sl
  refine Cp_call (fn := F40) (by kernel_rfl) (Nat.le_of_ble_eq_true rfl) ?_
  show Wp fns B40 (T.set q1 (some (.i .i64 n)) (T.set q0 (some v) T.lf)) M _
  unfold B40
  have hcl : clsB l = !(l.any fun z => !(isN z 101)) := by
    unfold clsB
    rw [List.not_any_eq_all_not]
    refine congrArg (fun q => l.all q) (funext fun z => ?_)
    rw [Bool.not_not]
    unfold isN
    rw [show decide (z < 101) = decide (z ≤ 100) from by rw [decide_eq_decide]; omega]
  by_cases h0 : (l.length : Int) ≤ n
  · have hd : decide ((l.length : Int) ≤ n) = true := decide_eq_true h0
    simp (maxSteps := 4000000) (disch := first | omega | assumption | (simp only [bxS, bxV, stOk, Nat.reduceBEq, Nat.reduceEqDiff, Nat.reduceAdd]; done) | (simp only [bxU]; omega) | ((try apply has_setN); apply has_ofL; simp only [bxL]; omega)) only [↓bxD, bxP, bxQ, Nat.reduceBEq, reduceCtorEq, Nat.reduceAdd, Nat.reduceSub, Nat.reduceMul, Nat.reduceLeDiff, Nat.reduceLT, bxR, hs1, hs2, hd]
    refine bindP_call (contains_any (p := fun z => !(isN z 101)) h hl fun M' z hx hz => ?_) ?_
    · obtain ⟨m, M2, h1, h2, h3⟩ := class_any (M := M') (c := z)
      exact ⟨m, M2, h1, h2, by rw [h3]; exact .refl _⟩
    rintro m M2 ⟨rfl, hx⟩
    simp (maxSteps := 4000000) (disch := first | omega | assumption | (simp only [bxS, bxV, stOk, Nat.reduceBEq, Nat.reduceEqDiff, Nat.reduceAdd]; done) | (simp only [bxU]; omega) | ((try apply has_setN); apply has_ofL; simp only [bxL]; omega)) only [↓bxD, bxP, bxQ, Nat.reduceBEq, reduceCtorEq, Nat.reduceAdd, Nat.reduceSub, Nat.reduceMul, Nat.reduceLeDiff, Nat.reduceLT, bxR, hs1, hs2, hd]
    exact ⟨by rw [hcl, Bool.true_and], hx⟩
  · have hd : decide ((l.length : Int) ≤ n) = false := decide_eq_false h0
    simp (maxSteps := 4000000) (disch := first | omega | assumption | (simp only [bxS, bxV, stOk, Nat.reduceBEq, Nat.reduceEqDiff, Nat.reduceAdd]; done) | (simp only [bxU]; omega) | ((try apply has_setN); apply has_ofL; simp only [bxL]; omega)) only [↓bxD, bxP, bxQ, Nat.reduceBEq, reduceCtorEq, Nat.reduceAdd, Nat.reduceSub, Nat.reduceMul, Nat.reduceLeDiff, Nat.reduceLT, bxR, hs1, hs2, hd]
    exact ⟨rfl, .refl _⟩
theorem isSymbol_any {M : MH} {g : Gr} {vr vf vc vk : MV} {s : Int} (hlo : M.lo ≤ M.n) (hs : Wf64 s) : Cp fns 42 [.ag (gcs g vr vf vc vk), .i .i64 s] M fun m M' => m = .b (symB g s) ∧ Ext M M' := by
  obtain ⟨hb1, hb2⟩ := hs
  refine Cp_call (fn := F42) (by kernel_rfl) (Nat.le_of_ble_eq_true rfl) ?_
  show Wp fns B42 (T.set q1 (some (.i .i64 s)) (T.set q0 (some (.ag (gcs g vr vf vc vk))) T.lf)) M _
  unfold B42 gcs
  have hx : ∀ l, Ext M (M.push (.cs false 7 (ofL l 0))) := fun l => .push M _
  by_cases h0 : s < 0
  · have hd : decide (s < 0) = true := decide_eq_true h0
    simp (maxSteps := 4000000) (disch := first | omega | assumption | (simp only [bxS, bxV, stOk, Nat.reduceBEq, Nat.reduceEqDiff, Nat.reduceAdd]; done) | (simp only [bxU]; omega) | ((try apply has_setN); apply has_ofL; simp only [bxL]; omega)) only [↓bxD, bxP, bxQ, Nat.reduceBEq, reduceCtorEq, Nat.reduceAdd, Nat.reduceSub, Nat.reduceMul, Nat.reduceLeDiff, Nat.reduceLT, bxR, hd]
    refine bindP_call number_any ?_
    rintro m M2 ⟨rfl, rfl⟩
    simp (maxSteps := 4000000) (disch := first | omega | assumption | (simp only [bxS, bxV, stOk, Nat.reduceBEq, Nat.reduceEqDiff, Nat.reduceAdd]; done) | (simp only [bxU]; omega) | ((try apply has_setN); apply has_ofL; simp only [bxL]; omega)) only [↓bxD, bxP, bxQ, Nat.reduceBEq, reduceCtorEq, Nat.reduceAdd, Nat.reduceSub, Nat.reduceMul, Nat.reduceLeDiff, Nat.reduceLT, bxR, hd]
    exact ⟨by unfold symB isN; rw [if_pos h0, decide_eq_true (by omega), Bool.true_and]; rfl, hx _⟩
  · have hd : decide (s < 0) = false := decide_eq_false h0
    simp (maxSteps := 4000000) (disch := first | omega | assumption | (simp only [bxS, bxV, stOk, Nat.reduceBEq, Nat.reduceEqDiff, Nat.reduceAdd]; done) | (simp only [bxU]; omega) | ((try apply has_setN); apply has_ofL; simp only [bxL]; omega)) only [↓bxD, bxP, bxQ, Nat.reduceBEq, reduceCtorEq, Nat.reduceAdd, Nat.reduceSub, Nat.reduceMul, Nat.reduceLeDiff, Nat.reduceLT, bxR, hd]
    show Wp fns K42_0 _ _ _
    unfold K42_0
    simp (maxSteps := 4000000) (disch := first | omega | assumption | (simp only [bxS, bxV, stOk, Nat.reduceBEq, Nat.reduceEqDiff, Nat.reduceAdd]; done) | (simp only [bxU]; omega) | ((try apply has_setN); apply has_ofL; simp only [bxL]; omega)) only [↓bxD, bxP, bxQ, Nat.reduceBEq, reduceCtorEq, Nat.reduceAdd, Nat.reduceSub, Nat.reduceMul, Nat.reduceLeDiff, Nat.reduceLT, bxR, hd]
    refine bindP_call number_any ?_
    rintro m M2 ⟨rfl, rfl⟩
    simp (maxSteps := 4000000) (disch := first | omega | assumption | (simp only [bxS, bxV, stOk, Nat.reduceBEq, Nat.reduceEqDiff, Nat.reduceAdd]; done) | (simp only [bxU]; omega) | ((try apply has_setN); apply has_ofL; simp only [bxL]; omega)) only [↓bxD, bxP, bxQ, Nat.reduceBEq, reduceCtorEq, Nat.reduceAdd, Nat.reduceSub, Nat.reduceMul, Nat.reduceLeDiff, Nat.reduceLT, bxR, hd]
    exact ⟨by unfold symB isN; rw [if_neg h0, decide_eq_true (by omega), Bool.true_and], hx _⟩
theorem noSymbol_any {M : MH} {g : Gr} {vr vf vc vk : MV} {s : Int} {b : Nat} (hlo : M.lo ≤ M.n) (hs : Wf64 s) (hb : M.get b = some (.cs false 7 (ofL (gcs g vr vf vc vk) 0))) : Cp fns 41 [.i .i64 s, .p b 0] M fun m M' => m = .b (!(symB g s)) ∧ Ext M M' := by
  refine Cp_call (fn := F41) (by kernel_rfl) (Nat.le_of_ble_eq_true rfl) ?_
  show Wp fns B41 (T.set q1 (some (.p b 0)) (T.set q0 (some (.i .i64 s)) T.lf)) M _
  unfold B41
  have hG : Ev.getN (ofL (gcs g vr vf vc vk) 0) 7 0 = some (gcs g vr vf vc vk) := (at_ofL (gcs g vr vf vc vk)).getN
  simp (maxSteps := 4000000) (disch := first | omega | assumption | (simp only [bxS, bxV, stOk, Nat.reduceBEq, Nat.reduceEqDiff, Nat.reduceAdd]; done) | (simp only [bxU]; omega) | ((try apply has_setN); apply has_ofL; simp only [bxL]; omega)) only [↓bxD, bxP, bxQ, Nat.reduceBEq, reduceCtorEq, Nat.reduceAdd, Nat.reduceSub, Nat.reduceMul, Nat.reduceLeDiff, Nat.reduceLT, bxR, hb, hG]
  refine bindP_call (isSymbol_any hlo hs) ?_
  rintro m M2 ⟨rfl, hx⟩
  simp (maxSteps := 4000000) (disch := first | omega | assumption | (simp only [bxS, bxV, stOk, Nat.reduceBEq, Nat.reduceEqDiff, Nat.reduceAdd]; done) | (simp only [bxU]; omega) | ((try apply has_setN); apply has_ofL; simp only [bxL]; omega)) only [↓bxD, bxP, bxQ, Nat.reduceBEq, reduceCtorEq, Nat.reduceAdd, Nat.reduceSub, Nat.reduceMul, Nat.reduceLeDiff, Nat.reduceLT, bxR, hb, hG]
  exact hx
theorem oneN_at {N : List Bool} {n : Nat} : oneN N (n : Int) = bAt N n := by unfold oneN bAt; rw [Int.toNat_natCast]; simp
theorem only_c {M : MH} {k : Nat} (h : k < 64) : Cp fns 38 [.i .i64 (k : Int)] M fun m M' => m = .i .u64 ((2 ^ k : Nat) : Int) ∧ M' = M := by
  refine Cp_call (fn := F38) (by kernel_rfl) (Nat.le_of_ble_eq_true rfl) ?_
  show Wp fns B38 (T.set q0 (some (.i .i64 (k : Int))) T.lf) M _
  unfold B38
  have hs := shl_u64 k h
  simp (maxSteps := 4000000) (disch := first | omega | assumption | (simp only [bxS, bxV, stOk, Nat.reduceBEq, Nat.reduceEqDiff, Nat.reduceAdd]; done) | (simp only [bxU]; omega) | ((try apply has_setN); apply has_ofL; simp only [bxL]; omega)) only [↓bxD, bxP, bxQ, Nat.reduceBEq, reduceCtorEq, Nat.reduceAdd, Nat.reduceSub, Nat.reduceMul, Nat.reduceLeDiff, Nat.reduceLT, bxR, hs]
theorem and_two {w k : Nat} : (w &&& 2 ^ k = 0) ↔ w.testBit k = false := by
  constructor
  · intro h
    have : (w &&& 2 ^ k).testBit k = false := by rw [h, Nat.zero_testBit]
    rw [Nat.testBit_and, Nat.testBit_two_pow, decide_eq_true rfl, Bool.and_true] at this
    exact this
  · intro h
    refine Nat.eq_of_testBit_eq fun i => ?_
    rw [Nat.testBit_and, Nat.testBit_two_pow, Nat.zero_testBit]
    by_cases e : k = i
    · subst e; rw [h, Bool.false_and]
    · rw [decide_eq_false e, Bool.and_false]
theorem has_any {M : MH} {w k : Nat} (hw : w < 2 ^ 64) (hk : k < 64) : Cp fns 25 [.i .u64 (w : Int), .i .i64 (k : Int)] M fun m M' => m = .b (w.testBit k) ∧ M' = M := by
  refine Cp_call (fn := F25) (by kernel_rfl) (Nat.le_of_ble_eq_true rfl) ?_
  show Wp fns B25 (T.set q1 (some (.i .i64 (k : Int))) (T.set q0 (some (.i .u64 (w : Int))) T.lf)) M _
  unfold B25
  simp (maxSteps := 4000000) (disch := first | omega | assumption | (simp only [bxS, bxV, stOk, Nat.reduceBEq, Nat.reduceEqDiff, Nat.reduceAdd]; done) | (simp only [bxU]; omega) | ((try apply has_setN); apply has_ofL; simp only [bxL]; omega)) only [↓bxD, bxP, bxQ, Nat.reduceBEq, reduceCtorEq, Nat.reduceAdd, Nat.reduceSub, Nat.reduceMul, Nat.reduceLeDiff, Nat.reduceLT, bxR]
  refine bindP_call (only_c hk) ?_
  rintro m M2 ⟨rfl, rfl⟩
  have ha := and_u64 (a := w) (b := 2 ^ k) hw (show 2 ^ k < 2 ^ 64 from Nat.pow_lt_pow_right (by omega) (by omega))
  have hz : decide (((w &&& 2 ^ k : Nat) : Int) ≠ 0) = w.testBit k := by
    cases e : w.testBit k with
    | false => rw [and_two.2 e]; rfl
    | true =>
      have : w &&& 2 ^ k ≠ 0 := fun e' => by rw [and_two.1 e'] at e; cases e
      exact decide_eq_true (by generalize w &&& 2 ^ k = z at this ⊢; omega)
  simp (maxSteps := 4000000) (disch := first | omega | assumption | (simp only [bxS, bxV, stOk, Nat.reduceBEq, Nat.reduceEqDiff, Nat.reduceAdd]; done) | (simp only [bxU]; omega) | ((try apply has_setN); apply has_ofL; simp only [bxL]; omega)) only [↓bxD, bxP, bxQ, Nat.reduceBEq, reduceCtorEq, Nat.reduceAdd, Nat.reduceSub, Nat.reduceMul, Nat.reduceLeDiff, Nat.reduceLT, bxR, ha, hz]
theorem stay_any {M : MH} {b : Nat} {vn : MV} {N : List Bool} {s : Int} (hb : M.get b = some (.cs false 1 (ofL [vn] 0))) (hN : BRow M vn N) (hs : 0 ≤ s → s.toNat < N.length) (hlo : M.lo ≤ M.n) : Cp fns 53 [.i .i64 s, .p b 0] M fun m M' => m = .b (!(oneN N s)) ∧ Ext M M' := by
  obtain ⟨n1, n2⟩ := hN.sl
  refine Cp_call (fn := F53) (by kernel_rfl) (Nat.le_of_ble_eq_true rfl) ?_
  show Wp fns B53 (T.set q1 (some (.p b 0)) (T.set q0 (some (.i .i64 s)) T.lf)) M _
  unfold B53
  by_cases h0 : s < 0
  · have d0 : decide (s < 0) = true := decide_eq_true h0
    have e : oneN N s = false := by unfold oneN; rw [decide_eq_false (by omega), Bool.false_and]
    simp (maxSteps := 4000000) (disch := first | omega | assumption | (simp only [bxS, bxV, stOk, Nat.reduceBEq, Nat.reduceEqDiff, Nat.reduceAdd]; done) | (simp only [bxU]; omega) | ((try apply has_setN); apply has_ofL; simp only [bxL]; omega)) only [↓bxD, bxP, bxQ, Nat.reduceBEq, reduceCtorEq, Nat.reduceAdd, Nat.reduceSub, Nat.reduceMul, Nat.reduceLeDiff, Nat.reduceLT, bxR, hb, d0]
    exact ⟨by rw [e]; rfl, .refl _⟩
  · have d0 : decide (s < 0) = false := decide_eq_false h0
    obtain ⟨n, rfl⟩ : ∃ n : Nat, s = n := ⟨s.toNat, by omega⟩
    have hn := hs (by omega)
    rw [Int.toNat_natCast] at hn
    obtain ⟨ro, sz, t, hg, hid, hC⟩ := hN.read hn
    have cb : cget (ofL [vn] 0) 0 = some vn := (at_ofL [vn]) 0 _ rfl
    simp (maxSteps := 4000000) (disch := first | omega | assumption | (simp only [bxS, bxV, stOk, Nat.reduceBEq, Nat.reduceEqDiff, Nat.reduceAdd]; done) | (simp only [bxU]; omega) | ((try apply has_setN); apply has_ofL; simp only [bxL]; omega)) only [↓bxD, bxP, bxQ, Nat.reduceBEq, reduceCtorEq, Nat.reduceAdd, Nat.reduceSub, Nat.reduceMul, Nat.reduceLeDiff, Nat.reduceLT, bxR, hb, d0, n1, n2, hg, hC, cb]
    exact ⟨by rw [oneN_at], .refl _⟩
theorem vanish_any {M : MH} {vn v : MV} {N : List Bool} {l : List Int} (hN : BRow M vn N) (hv : IntRow M v l) (hs : ∀ s ∈ l, 0 ≤ s → s.toNat < N.length) (hl : l.length ≤ 100) (hlo : M.lo ≤ M.n) : Cp fns 47 [vn, v] M fun m M' => m = .b (allN N l) ∧ Ext M M' := by
  refine Cp_call (fn := F47) (by kernel_rfl) (Nat.le_of_ble_eq_true rfl) ?_
  show Wp fns B47 (T.set q1 (some v) (T.set q0 (some vn) T.lf)) M _
  unfold B47
  obtain ⟨n1, n2⟩ := hN.sl
  have nc := isSl_cells n1
  have nu := isSl_isU n1
  simp (maxSteps := 4000000) (disch := first | omega | assumption | (simp only [bxS, bxV, stOk, Nat.reduceBEq, Nat.reduceEqDiff, Nat.reduceAdd]; done) | (simp only [bxU]; omega) | ((try apply has_setN); apply has_ofL; simp only [bxL]; omega)) only [↓bxD, bxP, bxQ, Nat.reduceBEq, reduceCtorEq, Nat.reduceAdd, Nat.reduceSub, Nat.reduceMul, Nat.reduceLeDiff, Nat.reduceLT, bxR, nc, nu]
  generalize hM1 : M.push _ = M1
  have g0 : M1.get M.n = some (.cs false 1 (ofL [vn] 0)) := by rw [← hM1]; exact push_new _
  have x1 : Ext M M1 := by rw [← hM1]; exact .push M _
  have m1 : M1.n = M.n + 1 := by rw [← hM1]; rfl
  have l1 := x1.lo
  clear hM1
  have hall : (l.any fun z => !(oneN N z)) = !(allN N l) := by
    unfold allN
    rw [List.not_all_eq_any_not]
  refine bindP_call (contains_any (p := fun z => !(oneN N z)) (hv.ext x1) (by omega) fun M' z hx hz => ?_) ?_
  · have := hx.n
    have := hx.lo
    exact stay_any (by rw [hx.old _ (by omega)]; exact g0) ((hN.ext x1).ext hx) (hs z hz) (by omega)
  rintro m M2 ⟨rfl, x2⟩
  rw [hall]
  simp (maxSteps := 4000000) (disch := first | omega | assumption | (simp only [bxS, bxV, stOk, Nat.reduceBEq, Nat.reduceEqDiff, Nat.reduceAdd]; done) | (simp only [bxU]; omega) | ((try apply has_setN); apply has_ofL; simp only [bxL]; omega)) only [↓bxD, bxP, bxQ, Nat.reduceBEq, reduceCtorEq, Nat.reduceAdd, Nat.reduceSub, Nat.reduceMul, Nat.reduceLeDiff, Nat.reduceLT, bxR, nc, nu]
  exact ⟨by rw [Bool.not_not], x1.trans x2⟩
def AloneW (N : List Bool) (l : List Int) (n w : Nat) : Prop := w < 2 ^ 64 ∧ ∀ j, w.testBit j = aloneB N l n j
theorem alone_any {M : MH} {vn v : MV} {N : List Bool} {l : List Int} (hN : BRow M vn N) (hv : IntRow M v l) (hs : ∀ s ∈ l, 0 ≤ s → s.toNat < N.length) (hnl : N.length ≤ 40) (hl : l.length ≤ 100) (hlo : M.lo ≤ M.n) : Cp fns 37 [vn, v] M fun m M' => (∃ w : Nat, m = .i .u64 (w : Int) ∧ AloneW N l l.length w) ∧ Ext M M' := by
  obtain ⟨v1, v2⟩ := hv.sl
  obtain ⟨n1, n2⟩ := hN.sl
  refine Cp_call (fn := F37) (by kernel_rfl) (Nat.le_of_ble_eq_true rfl) ?_
  show Wp fns B37 (T.set q1 (some v) (T.set q0 (some vn) T.lf)) M _
  unfold B37
  simp (maxSteps := 4000000) (disch := first | omega | assumption | (simp only [bxS, bxV, stOk, Nat.reduceBEq, Nat.reduceEqDiff, Nat.reduceAdd]; done) | (simp only [bxU]; omega) | ((try apply has_setN); apply has_ofL; simp only [bxL]; omega)) only [↓bxD, bxP, bxQ, Nat.reduceBEq, reduceCtorEq, Nat.reduceAdd, Nat.reduceSub, Nat.reduceMul, Nat.reduceLeDiff, Nat.reduceLT, bxR, v1, v2]
  refine Wp_inv (σ := Nat × Nat) (fun s f M' => s.1 ≤ l.length ∧ Ext M M' ∧ AloneW N l s.1 s.2 ∧ X.ev f (.t q0) = vn ∧ X.ev f (.t q1) = v ∧ X.ev f (.t q5) = .i .u64 (s.2 : Int) ∧ X.ev f (.t q8) = v ∧ X.ev f (.t q9) = .i .i64 (l.length : Int) ∧ X.ev f (.t q10) = .i .i64 (s.1 : Int)) (fun s => l.length - s.1) ?_ (0, 0) ?_
  · rintro ⟨i, w⟩ f M1 ⟨hi, hx, ⟨hw, hwb⟩, h0, h1, h5, h8, h9, h10⟩
    simp only at hi hw hwb h5 h10
    simp only [q0, q1, q5, q8, q9, q10] at h0 h1 h5 h8 h9 h10
    have xn := hx.n
    have xl := hx.lo
    unfold L37_2
    by_cases hi' : i < l.length
    · have d1 : decide ((i : Int) < (l.length : Int)) = true := decide_eq_true (by omega)
      obtain ⟨z, hz⟩ : ∃ z, l[i]? = some z := ⟨_, List.getElem?_eq_getElem hi'⟩
      obtain ⟨ro, sz, t, hg, hid, hC⟩ := (hv.ext hx).read hz
      have hc1 := cutM_hi (sz := 1) (k := .i64) v1 (h := i) (by omega)
      have hc2 := cutM_lo (sz := 1) (k := .i64) v1 (l := i + 1) (by omega)
      have wi : wrapF .i64 ((i : Int) + 1) = ((i + 1 : Nat) : Int) := by rw [wrap_in (by omega) (by omega)]; omega
      by_cases z0 : z < 0
      · have d2 : decide (0 ≤ z) = false := decide_eq_false (by omega)
        simp (maxSteps := 4000000) (disch := first | omega | assumption | (simp only [bxS, bxV, stOk, Nat.reduceBEq, Nat.reduceEqDiff, Nat.reduceAdd]; done) | (simp only [bxU]; omega) | ((try apply has_setN); apply has_ofL; simp only [bxL]; omega)) only [↓bxD, bxP, bxQ, Nat.reduceBEq, reduceCtorEq, Nat.reduceAdd, Nat.reduceSub, Nat.reduceMul, Nat.reduceLeDiff, Nat.reduceLT, bxR, h0, h1, h5, h8, h9, h10, d1, v1, v2, hg, hC, d2, ev_cut]
        show Wp fns K37_1 _ _ _
        unfold K37_1
        simp (maxSteps := 4000000) (disch := first | omega | assumption | (simp only [bxS, bxV, stOk, Nat.reduceBEq, Nat.reduceEqDiff, Nat.reduceAdd]; done) | (simp only [bxU]; omega) | ((try apply has_setN); apply has_ofL; simp only [bxL]; omega)) only [↓bxD, bxP, bxQ, Nat.reduceBEq, reduceCtorEq, Nat.reduceAdd, Nat.reduceSub, Nat.reduceMul, Nat.reduceLeDiff, Nat.reduceLT, bxR, h0, h1, h5, h8, h9, h10, d1, v1, v2, hg, hC, d2, ev_cut]
        show Wp fns K37_0 _ _ _
        unfold K37_0
        simp (maxSteps := 4000000) (disch := first | omega | assumption | (simp only [bxS, bxV, stOk, Nat.reduceBEq, Nat.reduceEqDiff, Nat.reduceAdd]; done) | (simp only [bxU]; omega) | ((try apply has_setN); apply has_ofL; simp only [bxL]; omega)) only [↓bxD, bxP, bxQ, Nat.reduceBEq, reduceCtorEq, Nat.reduceAdd, Nat.reduceSub, Nat.reduceMul, Nat.reduceLeDiff, Nat.reduceLT, bxR, h0, h1, h5, h8, h9, h10, d1, v1, v2, hg, hC, d2, ev_cut]
        refine ⟨(i + 1, w), by simp only; omega, by simp only; omega, hx, ⟨hw, fun j => ?_⟩, rfl, rfl⟩
        rw [hwb, aloneB_succ, hz, decide_eq_false (fun e => by injection e with e; omega), Bool.false_and, Bool.or_false]
      · have d2 : decide (0 ≤ z) = true := decide_eq_true (by omega)
        simp (maxSteps := 4000000) (disch := first | omega | assumption | (simp only [bxS, bxV, stOk, Nat.reduceBEq, Nat.reduceEqDiff, Nat.reduceAdd]; done) | (simp only [bxU]; omega) | ((try apply has_setN); apply has_ofL; simp only [bxL]; omega)) only [↓bxD, bxP, bxQ, Nat.reduceBEq, reduceCtorEq, Nat.reduceAdd, Nat.reduceSub, Nat.reduceMul, Nat.reduceLeDiff, Nat.reduceLT, bxR, h0, h1, h5, h8, h9, h10, d1, v1, v2, hg, hC, d2, ev_cut, Option.map_some, Option.map_none, hc1]
        show Wp fns K37_1 _ _ _
        unfold K37_1
        simp (maxSteps := 4000000) (disch := first | omega | assumption | (simp only [bxS, bxV, stOk, Nat.reduceBEq, Nat.reduceEqDiff, Nat.reduceAdd]; done) | (simp only [bxU]; omega) | ((try apply has_setN); apply has_ofL; simp only [bxL]; omega)) only [↓bxD, bxP, bxQ, Nat.reduceBEq, reduceCtorEq, Nat.reduceAdd, Nat.reduceSub, Nat.reduceMul, Nat.reduceLeDiff, Nat.reduceLT, bxR, h0, h1, h5, h8, h9, h10, d1, v1, v2, hg, hC, d2, ev_cut, Option.map_some, Option.map_none, hc1]
        refine bindP_call (vanish_any (hN.ext hx) (int_take (hv.ext hx) (i := i) (by omega)) (fun s hs' => hs s (List.mem_of_mem_take hs')) (by rw [List.length_take]; omega) (by omega)) ?_
        rintro m M2 ⟨rfl, x2⟩
        have xn2 := x2.n
        have xl2 := x2.lo
        obtain ⟨zn, rfl⟩ : ∃ n : Nat, z = n := ⟨z.toNat, by omega⟩
        have hzN := hs _ (List.mem_of_getElem? hz) (by omega)
        rw [Int.toNat_natCast] at hzN
        cases ha : allN N (l.take i) with
        | false =>
          simp (maxSteps := 4000000) (disch := first | omega | assumption | (simp only [bxS, bxV, stOk, Nat.reduceBEq, Nat.reduceEqDiff, Nat.reduceAdd]; done) | (simp only [bxU]; omega) | ((try apply has_setN); apply has_ofL; simp only [bxL]; omega)) only [↓bxD, bxP, bxQ, Nat.reduceBEq, reduceCtorEq, Nat.reduceAdd, Nat.reduceSub, Nat.reduceMul, Nat.reduceLeDiff, Nat.reduceLT, bxR, h0, h1, h5, h8, h9, h10, d1, v1, v2, hg, hC, d2, ev_cut, Option.map_some, Option.map_none, hc1]
          show Wp fns K37_0 _ _ _
          unfold K37_0
          simp (maxSteps := 4000000) (disch := first | omega | assumption | (simp only [bxS, bxV, stOk, Nat.reduceBEq, Nat.reduceEqDiff, Nat.reduceAdd]; done) | (simp only [bxU]; omega) | ((try apply has_setN); apply has_ofL; simp only [bxL]; omega)) only [↓bxD, bxP, bxQ, Nat.reduceBEq, reduceCtorEq, Nat.reduceAdd, Nat.reduceSub, Nat.reduceMul, Nat.reduceLeDiff, Nat.reduceLT, bxR, h0, h1, h5, h8, h9, h10, d1, v1, v2, hg, hC, d2, ev_cut, Option.map_some, Option.map_none, hc1]
          refine ⟨(i + 1, w), by simp only; omega, by simp only; omega, hx.trans x2, ⟨hw, fun j => ?_⟩, rfl, rfl⟩
          rw [hwb, aloneB_succ]
          unfold stayN
          rw [ha, Bool.false_and, Bool.and_false, Bool.or_false]
        | true =>
          simp (maxSteps := 4000000) (disch := first | omega | assumption | (simp only [bxS, bxV, stOk, Nat.reduceBEq, Nat.reduceEqDiff, Nat.reduceAdd]; done) | (simp only [bxU]; omega) | ((try apply has_setN); apply has_ofL; simp only [bxL]; omega)) only [↓bxD, bxP, bxQ, Nat.reduceBEq, reduceCtorEq, Nat.reduceAdd, Nat.reduceSub, Nat.reduceMul, Nat.reduceLeDiff, Nat.reduceLT, bxR, h0, h1, h5, h8, h9, h10, d1, v1, v2, hg, hC, d2, ev_cut, Option.map_some, Option.map_none, hc1, wi, hc2]
          refine bindP_call (vanish_any (hN.ext (hx.trans x2)) (int_skip (hv.ext (hx.trans x2)) (i := i + 1) (by omega)) (fun s hs' => hs s (List.mem_of_mem_drop hs')) (by rw [List.length_drop]; omega) (by omega)) ?_
          rintro m M3 ⟨rfl, x3⟩
          have xn3 := x3.n
          have xl3 := x3.lo
          cases hb : allN N (l.drop (i + 1)) with
          | false =>
            simp (maxSteps := 4000000) (disch := first | omega | assumption | (simp only [bxS, bxV, stOk, Nat.reduceBEq, Nat.reduceEqDiff, Nat.reduceAdd]; done) | (simp only [bxU]; omega) | ((try apply has_setN); apply has_ofL; simp only [bxL]; omega)) only [↓bxD, bxP, bxQ, Nat.reduceBEq, reduceCtorEq, Nat.reduceAdd, Nat.reduceSub, Nat.reduceMul, Nat.reduceLeDiff, Nat.reduceLT, bxR, h0, h1, h5, h8, h9, h10, d1, v1, v2, hg, hC, d2, ev_cut, Option.map_some, Option.map_none, hc1]
            show Wp fns K37_0 _ _ _
            unfold K37_0
            simp (maxSteps := 4000000) (disch := first | omega | assumption | (simp only [bxS, bxV, stOk, Nat.reduceBEq, Nat.reduceEqDiff, Nat.reduceAdd]; done) | (simp only [bxU]; omega) | ((try apply has_setN); apply has_ofL; simp only [bxL]; omega)) only [↓bxD, bxP, bxQ, Nat.reduceBEq, reduceCtorEq, Nat.reduceAdd, Nat.reduceSub, Nat.reduceMul, Nat.reduceLeDiff, Nat.reduceLT, bxR, h0, h1, h5, h8, h9, h10, d1, v1, v2, hg, hC, d2, ev_cut, Option.map_some, Option.map_none, hc1]
            refine ⟨(i + 1, w), by simp only; omega, by simp only; omega, (hx.trans x2).trans x3, ⟨hw, fun j => ?_⟩, rfl, rfl⟩
            rw [hwb, aloneB_succ]
            unfold stayN
            rw [hb, Bool.and_false, Bool.and_false, Bool.or_false]
          | true =>
            have hk : 2 ^ zn < 2 ^ 64 := Nat.pow_lt_pow_right (by omega) (by omega)
            have hor := or_u64 (a := w) (b := 2 ^ zn) hw hk
            simp (maxSteps := 4000000) (disch := first | omega | assumption | (simp only [bxS, bxV, stOk, Nat.reduceBEq, Nat.reduceEqDiff, Nat.reduceAdd]; done) | (simp only [bxU]; omega) | ((try apply has_setN); apply has_ofL; simp only [bxL]; omega)) only [↓bxD, bxP, bxQ, Nat.reduceBEq, reduceCtorEq, Nat.reduceAdd, Nat.reduceSub, Nat.reduceMul, Nat.reduceLeDiff, Nat.reduceLT, bxR, h0, h1, h5, h8, h9, h10, d1, v1, v2, hg, hC, d2, ev_cut, Option.map_some, Option.map_none, hc1]
            refine bindP_call (only_c (k := zn) (by omega)) ?_
            rintro m M4 ⟨rfl, rfl⟩
            simp (maxSteps := 4000000) (disch := first | omega | assumption | (simp only [bxS, bxV, stOk, Nat.reduceBEq, Nat.reduceEqDiff, Nat.reduceAdd]; done) | (simp only [bxU]; omega) | ((try apply has_setN); apply has_ofL; simp only [bxL]; omega)) only [↓bxD, bxP, bxQ, Nat.reduceBEq, reduceCtorEq, Nat.reduceAdd, Nat.reduceSub, Nat.reduceMul, Nat.reduceLeDiff, Nat.reduceLT, bxR, h0, h1, h5, h8, h9, h10, d1, v1, v2, hg, hC, d2, ev_cut, Option.map_some, Option.map_none, hc1, hor]
            show Wp fns K37_0 _ _ _
            unfold K37_0
            simp (maxSteps := 4000000) (disch := first | omega | assumption | (simp only [bxS, bxV, stOk, Nat.reduceBEq, Nat.reduceEqDiff, Nat.reduceAdd]; done) | (simp only [bxU]; omega) | ((try apply has_setN); apply has_ofL; simp only [bxL]; omega)) only [↓bxD, bxP, bxQ, Nat.reduceBEq, reduceCtorEq, Nat.reduceAdd, Nat.reduceSub, Nat.reduceMul, Nat.reduceLeDiff, Nat.reduceLT, bxR, h0, h1, h5, h8, h9, h10, d1, v1, v2, hg, hC, d2, ev_cut, Option.map_some, Option.map_none, hc1]
            refine ⟨(i + 1, w ||| 2 ^ zn), by simp only; omega, by simp only; omega, (hx.trans x2).trans x3, ⟨Nat.or_lt_two_pow hw hk, fun j => ?_⟩, rfl, rfl⟩
            simp only
            rw [Nat.testBit_or, hwb, aloneB_succ, hz, Nat.testBit_two_pow]
            unfold stayN
            rw [ha, hb, Bool.and_self, Bool.and_true]
            congr 1
            rw [decide_eq_decide]
            exact ⟨fun e => by rw [e], fun e => by injection e with e; omega⟩
    · have d1 : decide ((i : Int) < (l.length : Int)) = false := decide_eq_false (by omega)
      obtain rfl : i = l.length := by omega
      simp (maxSteps := 4000000) (disch := first | omega | assumption | (simp only [bxS, bxV, stOk, Nat.reduceBEq, Nat.reduceEqDiff, Nat.reduceAdd]; done) | (simp only [bxU]; omega) | ((try apply has_setN); apply has_ofL; simp only [bxL]; omega)) only [↓bxD, bxP, bxQ, Nat.reduceBEq, reduceCtorEq, Nat.reduceAdd, Nat.reduceSub, Nat.reduceMul, Nat.reduceLeDiff, Nat.reduceLT, bxR, h0, h1, h5, h8, h9, h10, d1]
      show Wp fns K37_3 _ _ _
      unfold K37_3
      simp (maxSteps := 4000000) (disch := first | omega | assumption | (simp only [bxS, bxV, stOk, Nat.reduceBEq, Nat.reduceEqDiff, Nat.reduceAdd]; done) | (simp only [bxU]; omega) | ((try apply has_setN); apply has_ofL; simp only [bxL]; omega)) only [↓bxD, bxP, bxQ, Nat.reduceBEq, reduceCtorEq, Nat.reduceAdd, Nat.reduceSub, Nat.reduceMul, Nat.reduceLeDiff, Nat.reduceLT, bxR, h0, h1, h5, h8, h9, h10, d1]
      exact ⟨⟨w, rfl, hw, hwb⟩, hx⟩
  · exact ⟨Nat.zero_le _, .refl _, ⟨by decide, fun j => by simp [aloneB]⟩, by simp only [bxP, bxQ, reduceCtorEq, v1, v2], by simp only [bxP, bxQ, reduceCtorEq, v1, v2], by simp only [bxP, bxQ, reduceCtorEq, v1, v2] <;> rfl, by simp only [bxP, bxQ, reduceCtorEq, v1, v2], by simp only [bxP, bxQ, reduceCtorEq, v1, v2], by simp only [bxP, bxQ, reduceCtorEq, v1, v2] <;> rfl⟩
def WordsAt (M : MH) (id : Nat) (l : List Nat) : Prop := ∃ t, M.get id = some (.cs false 1 t) ∧ At t 0 (l.map fun k => MV.i .u64 ((k : Nat) : Int))
theorem WordsAt.same {M M' : MH} {id : Nat} {l : List Nat} (h : WordsAt M id l) (e : M'.get id = M.get id) : WordsAt M' id l := let ⟨t, h1, h2⟩ := h; ⟨t, e.trans h1, h2⟩
theorem WordsAt.read {M : MH} {id : Nat} {l : List Nat} (h : WordsAt M id l) : ∃ t, M.get id = some (.cs false 1 t) ∧ (∀ i, i < l.length → cget t (i * 1) = some (.i .u64 ((fAt l i : Nat) : Int))) ∧ (∀ i, i < l.length → hasB t 1 (i * 1) = true) ∧ ∀ i x, i < l.length → At (setN [.i .u64 ((x : Nat) : Int)] (i * 1) t) 0 ((l.set i x).map fun k => MV.i .u64 ((k : Nat) : Int)) := by
  obtain ⟨t, h1, h2⟩ := h
  refine ⟨t, h1, fun i hb => ?_, fun i hi => has_at h2 (Nat.zero_le _) (by rw [List.length_map]; omega), fun i x hi => ?_⟩
  · rw [Nat.mul_one]
    have := h2 i _ (by rw [List.getElem?_map, fAt_at hb]; rfl)
    rwa [Nat.zero_add] at this
  · rw [List.map_set]
    exact h2.set' i _ (by rw [List.length_map]; exact hi) (by omega)
theorem WordsAt.row {M : MH} {id : Nat} {l : List Nat} (h : WordsAt M id l) (hid : id < M.n) : RowAt M 1 (.sl id 0 l.length 0) (l.map fun k => [.i .u64 ((k : Nat) : Int)]) := by
  obtain ⟨t, h1, h2⟩ := h
  refine ⟨fun e he => ?_, .inr ⟨id, 0, 0, false, 1, t, by rw [List.length_map], h1, hid, ?_⟩⟩
  · obtain ⟨b, _, rfl⟩ := List.mem_map.1 he; rfl
  · have : (l.map fun k => [MV.i .u64 ((k : Nat) : Int)]) = (l.map fun k => MV.i .u64 ((k : Nat) : Int)).map fun b => [b] := by rw [List.map_map]; rfl
    rw [this, flat_one]
    exact h2
theorem bools_readA {M : MH} {id : Nat} {l : List Bool} (h : BoolsAt M id l) : ∃ t, M.get id = some (.cs false 1 t) ∧ (∀ i, i < l.length → cget t (i * 1) = some (.b (bAt l i))) ∧ (∀ i, i < l.length → hasB t 1 (i * 1) = true) ∧ ∀ i x, i < l.length → At (setN [.b x] (i * 1) t) 0 ((l.set i x).map MV.b) := by
  obtain ⟨t, h1, h2, h3, h4⟩ := h.read
  exact ⟨t, h1, fun i hi => h2 i _ (bAt_at hi), h3, h4⟩
structure Two (M : MH) (na nf : Nat) (N : List Bool) (F : List Nat) : Prop where
  a : BoolsAt M na N
  f : WordsAt M nf F
  lna : na < M.n
  lnf : nf < M.n
  ne : na ≠ nf
  len : N.length = F.length
  lt : ∀ k ∈ F, k < 2 ^ 64
theorem Two.chg {S : Nat → Prop} {M M' : MH} {na nf : Nat} {N : List Bool} {F : List Nat} (h : Two M na nf N F) (k : Chg S M M') (s1 : ¬ S na) (s2 : ¬ S nf) : Two M' na nf N F := ⟨h.a.same (k.old _ h.lna s1), h.f.same (k.old _ h.lnf s2), Nat.lt_of_lt_of_le h.lna k.n, Nat.lt_of_lt_of_le h.lnf k.n, h.ne, h.len, h.lt⟩
theorem Two.ext {M M' : MH} {na nf : Nat} {N : List Bool} {F : List Nat} (h : Two M na nf N F) (k : Ext M M') : Two M' na nf N F := h.chg (S := fun _ => False) (.of k) id id
def tw (na nf n : Nat) : List MV := [.sl na 0 n 0, .sl nf 0 n 0]
theorem rowU_any {M : MH} {na nf : Nat} {N : List Bool} {F : List Nat} {v : MV} {l : List Int} (h : Two M na nf N F) (hv : IntRow M v l) (hs : ∀ s ∈ l, if s < 0 then (-1 - s).toNat < 64 ∧ -65 < s else s.toNat < F.length) (hlo : M.lo ≤ M.n) (hll : l.length ≤ 9223372036854775807) :
    Cp fns 51 [.ag (tw na nf F.length), v] M fun m M' => m = .tp [.i .u64 ((rowK N F l : Nat) : Int), .b (allN N l)] ∧ Ext M M' := by
  obtain ⟨v1, v2⟩ := hv.sl
  refine Cp_call (fn := F51) (by kernel_rfl) (Nat.le_of_ble_eq_true rfl) ?_
  show Wp fns B51 (T.set q1 (some v) (T.set q0 (some (.ag (tw na nf F.length))) T.lf)) M _
  unfold B51 tw
  simp (maxSteps := 4000000) (disch := first | omega | assumption | (simp only [bxS, bxV, stOk, Nat.reduceBEq, Nat.reduceEqDiff, Nat.reduceAdd]; done) | (simp only [bxU]; omega) | ((try apply has_setN); apply has_ofL; simp only [bxL]; omega)) only [↓bxD, bxP, bxQ, Nat.reduceBEq, reduceCtorEq, Nat.reduceAdd, Nat.reduceSub, Nat.reduceMul, Nat.reduceLeDiff, Nat.reduceLT, bxR, v1, v2]
  generalize hM1 : M.push _ = M1
  have g0 : M1.get M.n = some (.cs false 2 (ofL [.sl na 0 F.length 0, .sl nf 0 F.length 0] 0)) := by rw [← hM1]; exact push_new _
  have x1 : Ext M M1 := by rw [← hM1]; exact .push M _
  have n1 : M1.n = M.n + 1 := by rw [← hM1]; rfl
  have l1 := x1.lo
  clear hM1
  have h1 := h.ext x1
  have hv1 := hv.ext x1
  obtain ⟨ta, a1, a2, a3, a4⟩ := bools_readA h1.a
  obtain ⟨tf, f1, f2, f3, f4⟩ := h1.f.read
  have hFlt : ∀ a, fAt F a < 2 ^ 64 := fAt_lt h.lt
  refine Wp_inv (σ := Nat × Nat) (fun p f M' => M' = M1 ∧ p.1 ≤ l.length ∧ p.2 < 2 ^ 64 ∧ rowK N F l = p.2 ||| rowK N F (l.drop p.1) ∧ allN N l = allN N (l.drop p.1) ∧ X.ev f (.t q2) = .p M.n 0 ∧ X.ev f (.t q6) = .i .u64 (p.2 : Int) ∧ X.ev f (.t q9) = v ∧ X.ev f (.t q10) = .i .i64 (l.length : Int) ∧ X.ev f (.t q11) = .i .i64 (p.1 : Int)) (fun p => l.length - p.1) ?_ (0, 0) ?_
  · rintro ⟨i, k⟩ f M' ⟨rfl, hi, hk, hK, hA, h2, h6, h9, h10, h11⟩
    simp only at hi hk hK hA h6 h11
    simp only [q2, q6, q9, q10, q11] at h2 h6 h9 h10 h11
    unfold L51_3
    by_cases hi' : i < l.length
    · have d1 : decide ((i : Int) < (l.length : Int)) = true := decide_eq_true (by omega)
      obtain ⟨z, hz⟩ : ∃ z, l[i]? = some z := ⟨_, List.getElem?_eq_getElem hi'⟩
      obtain ⟨ro, s, c, hg, hid, hC⟩ := hv1.read hz
      have hsz := hs z (List.mem_of_getElem? hz)
      rw [rowK_drop hz] at hK
      rw [allN_drop hz] at hA
      by_cases hz0 : z < 0
      · rw [if_pos hz0] at hK hsz
        have d2 : decide (z < 0) = true := decide_eq_true hz0
        have hone : oneN N z = false := by unfold oneN; rw [decide_eq_false (show ¬ 0 ≤ z by omega)]; rfl
        rw [hone, Bool.false_and] at hA
        obtain ⟨kn, hkn⟩ : ∃ kn : Nat, -1 - z = (kn : Int) := ⟨(-1 - z).toNat, by omega⟩
        rw [hkn, Int.toNat_natCast] at hK hsz
        have hw : Int.negSucc 0 - z = (kn : Int) := hkn
        have hor := or_u64 (a := k) (b := 2 ^ kn) hk (show 2 ^ kn < 2 ^ 64 from Nat.pow_lt_pow_right (by omega) (by omega))
        simp (maxSteps := 4000000) (disch := first | omega | assumption | (simp only [bxS, bxV, stOk, Nat.reduceBEq, Nat.reduceEqDiff, Nat.reduceAdd]; done) | (simp only [bxU]; omega) | ((try apply has_setN); apply has_ofL; simp only [bxL]; omega)) only [↓bxD, bxP, bxQ, Nat.reduceBEq, reduceCtorEq, Nat.reduceAdd, Nat.reduceSub, Nat.reduceMul, Nat.reduceLeDiff, Nat.reduceLT, bxR, h2, h6, h9, h10, h11, d1, d2, hg, hC, v1, v2, hw]
        show Wp fns K51_2 _ _ _
        unfold K51_2
        simp (maxSteps := 4000000) (disch := first | omega | assumption | (simp only [bxS, bxV, stOk, Nat.reduceBEq, Nat.reduceEqDiff, Nat.reduceAdd]; done) | (simp only [bxU]; omega) | ((try apply has_setN); apply has_ofL; simp only [bxL]; omega)) only [↓bxD, bxP, bxQ, Nat.reduceBEq, reduceCtorEq, Nat.reduceAdd, Nat.reduceSub, Nat.reduceMul, Nat.reduceLeDiff, Nat.reduceLT, bxR, h2, h6, h9, h10, h11, d1, d2, hg, hC, v1, v2, hw]
        refine bindP_call (only_any (k := kn) (by omega)) ?_
        rintro m M2 ⟨rfl, rfl⟩
        simp (maxSteps := 4000000) (disch := first | omega | assumption | (simp only [bxS, bxV, stOk, Nat.reduceBEq, Nat.reduceEqDiff, Nat.reduceAdd]; done) | (simp only [bxU]; omega) | ((try apply has_setN); apply has_ofL; simp only [bxL]; omega)) only [↓bxD, bxP, bxQ, Nat.reduceBEq, reduceCtorEq, Nat.reduceAdd, Nat.reduceSub, Nat.reduceMul, Nat.reduceLeDiff, Nat.reduceLT, bxR, h2, h6, h9, h10, h11, d1, d2, hg, hC, v1, v2, hw, hor]
        exact ⟨by rw [hK, hA], x1⟩
      · rw [if_neg hz0] at hK hsz
        have d2 : decide (z < 0) = false := decide_eq_false hz0
        obtain ⟨zn, rfl⟩ : ∃ n : Nat, z = n := ⟨z.toNat, by omega⟩
        rw [Int.toNat_natCast] at hK hsz
        have hone : oneN N (zn : Int) = bAt N zn := by unfold oneN; rw [Int.toNat_natCast]; unfold bAt; simp
        rw [hone] at hA
        have hor := or_u64 (a := k) (b := fAt F zn) hk (hFlt zn)
        have hCf := f2 zn hsz
        have hCa := a2 zn (by rw [h.len]; exact hsz)
        have hnn : ((zn : Int) < 0) = False := by simp
        cases hb : bAt N zn with
        | true =>
          rw [hb, if_pos rfl] at hK
          rw [hb, Bool.true_and] at hA
          rw [hb] at hCa
          simp (maxSteps := 4000000) (disch := first | omega | assumption | (simp only [bxS, bxV, stOk, Nat.reduceBEq, Nat.reduceEqDiff, Nat.reduceAdd]; done) | (simp only [bxU]; omega) | ((try apply has_setN); apply has_ofL; simp only [bxL]; omega)) only [↓bxD, bxP, bxQ, Nat.reduceBEq, reduceCtorEq, Nat.reduceAdd, Nat.reduceSub, Nat.reduceMul, Nat.reduceLeDiff, Nat.reduceLT, bxR, h2, h6, h9, h10, h11, d1, d2, hg, hC, v1, v2, g0, a1, f1, hCf, hCa, hor, ix_slc]
          show Wp fns K51_2 _ _ _
          unfold K51_2
          simp (maxSteps := 4000000) (disch := first | omega | assumption | (simp only [bxS, bxV, stOk, Nat.reduceBEq, Nat.reduceEqDiff, Nat.reduceAdd]; done) | (simp only [bxU]; omega) | ((try apply has_setN); apply has_ofL; simp only [bxL]; omega)) only [↓bxD, bxP, bxQ, Nat.reduceBEq, reduceCtorEq, Nat.reduceAdd, Nat.reduceSub, Nat.reduceMul, Nat.reduceLeDiff, Nat.reduceLT, bxR, h2, h6, h9, h10, h11, d1, d2, hg, hC, v1, v2, g0, a1, f1, hCf, hCa, hor, ix_slc]
          show Wp fns K51_0 _ _ _
          unfold K51_0
          simp (maxSteps := 4000000) (disch := first | omega | assumption | (simp only [bxS, bxV, stOk, Nat.reduceBEq, Nat.reduceEqDiff, Nat.reduceAdd]; done) | (simp only [bxU]; omega) | ((try apply has_setN); apply has_ofL; simp only [bxL]; omega)) only [↓bxD, bxP, bxQ, Nat.reduceBEq, reduceCtorEq, Nat.reduceAdd, Nat.reduceSub, Nat.reduceMul, Nat.reduceLeDiff, Nat.reduceLT, bxR, h2, h6, h9, h10, h11, d1, d2, hg, hC, v1, v2, g0, a1, f1, hCf, hCa, hor, ix_slc]
          show Wp fns K51_1 _ _ _
          unfold K51_1
          simp (maxSteps := 4000000) (disch := first | omega | assumption | (simp only [bxS, bxV, stOk, Nat.reduceBEq, Nat.reduceEqDiff, Nat.reduceAdd]; done) | (simp only [bxU]; omega) | ((try apply has_setN); apply has_ofL; simp only [bxL]; omega)) only [↓bxD, bxP, bxQ, Nat.reduceBEq, reduceCtorEq, Nat.reduceAdd, Nat.reduceSub, Nat.reduceMul, Nat.reduceLeDiff, Nat.reduceLT, bxR, h2, h6, h9, h10, h11, d1, d2, hg, hC, v1, v2, g0, a1, f1, hCf, hCa, hor, ix_slc]
          exact ⟨(i + 1, k ||| fAt F zn), by simp only; omega, by simp only; omega, Nat.or_lt_two_pow hk (hFlt zn), by rw [hK, Nat.or_assoc], hA, rfl, rfl⟩
        | false =>
          rw [hb, if_neg (by simp)] at hK
          rw [hb, Bool.false_and] at hA
          rw [hb] at hCa
          simp (maxSteps := 4000000) (disch := first | omega | assumption | (simp only [bxS, bxV, stOk, Nat.reduceBEq, Nat.reduceEqDiff, Nat.reduceAdd]; done) | (simp only [bxU]; omega) | ((try apply has_setN); apply has_ofL; simp only [bxL]; omega)) only [↓bxD, bxP, bxQ, Nat.reduceBEq, reduceCtorEq, Nat.reduceAdd, Nat.reduceSub, Nat.reduceMul, Nat.reduceLeDiff, Nat.reduceLT, bxR, h2, h6, h9, h10, h11, d1, d2, hg, hC, v1, v2, g0, a1, f1, hCf, hCa, hor, ix_slc]
          show Wp fns K51_2 _ _ _
          unfold K51_2
          simp (maxSteps := 4000000) (disch := first | omega | assumption | (simp only [bxS, bxV, stOk, Nat.reduceBEq, Nat.reduceEqDiff, Nat.reduceAdd]; done) | (simp only [bxU]; omega) | ((try apply has_setN); apply has_ofL; simp only [bxL]; omega)) only [↓bxD, bxP, bxQ, Nat.reduceBEq, reduceCtorEq, Nat.reduceAdd, Nat.reduceSub, Nat.reduceMul, Nat.reduceLeDiff, Nat.reduceLT, bxR, h2, h6, h9, h10, h11, d1, d2, hg, hC, v1, v2, g0, a1, f1, hCf, hCa, hor, ix_slc]
          show Wp fns K51_0 _ _ _
          unfold K51_0
          simp (maxSteps := 4000000) (disch := first | omega | assumption | (simp only [bxS, bxV, stOk, Nat.reduceBEq, Nat.reduceEqDiff, Nat.reduceAdd]; done) | (simp only [bxU]; omega) | ((try apply has_setN); apply has_ofL; simp only [bxL]; omega)) only [↓bxD, bxP, bxQ, Nat.reduceBEq, reduceCtorEq, Nat.reduceAdd, Nat.reduceSub, Nat.reduceMul, Nat.reduceLeDiff, Nat.reduceLT, bxR, h2, h6, h9, h10, h11, d1, d2, hg, hC, v1, v2, g0, a1, f1, hCf, hCa, hor, ix_slc]
          exact ⟨by rw [hK, hA], x1⟩
    · have d1 : decide ((i : Int) < (l.length : Int)) = false := decide_eq_false (by omega)
      have hie : i = l.length := by omega
      subst hie
      rw [List.drop_length] at hK hA
      simp (maxSteps := 4000000) (disch := first | omega | assumption | (simp only [bxS, bxV, stOk, Nat.reduceBEq, Nat.reduceEqDiff, Nat.reduceAdd]; done) | (simp only [bxU]; omega) | ((try apply has_setN); apply has_ofL; simp only [bxL]; omega)) only [↓bxD, bxP, bxQ, Nat.reduceBEq, reduceCtorEq, Nat.reduceAdd, Nat.reduceSub, Nat.reduceMul, Nat.reduceLeDiff, Nat.reduceLT, bxR, h2, h6, h9, h10, h11, d1, v1, v2]
      show Wp fns K51_4 _ _ _
      unfold K51_4
      simp (maxSteps := 4000000) (disch := first | omega | assumption | (simp only [bxS, bxV, stOk, Nat.reduceBEq, Nat.reduceEqDiff, Nat.reduceAdd]; done) | (simp only [bxU]; omega) | ((try apply has_setN); apply has_ofL; simp only [bxL]; omega)) only [↓bxD, bxP, bxQ, Nat.reduceBEq, reduceCtorEq, Nat.reduceAdd, Nat.reduceSub, Nat.reduceMul, Nat.reduceLeDiff, Nat.reduceLT, bxR, h2, h6, h9, h10, h11, d1, v1, v2]
      exact ⟨by rw [hK, hA]; simp [rowK, allN], x1⟩
  · refine ⟨rfl, Nat.zero_le _, by decide, by simp, by simp, ?_⟩
    exact ⟨by simp only [bxP, bxQ, reduceCtorEq, v1, v2], by simp only [bxP, bxQ, reduceCtorEq, v1, v2] <;> rfl, by simp only [bxP, bxQ, reduceCtorEq, v1, v2], by simp only [bxP, bxQ, reduceCtorEq, v1, v2], by simp only [bxP, bxQ, reduceCtorEq, v1, v2] <;> rfl⟩
theorem apart_st {i j sz id id' off off' : Nat} {x y z : X} {l : List (IOper × DK)} {n : Nat} {f : Fr} {hs : List MH} {d d' : Option Ky} {gd gd' : Option (Ky × Bool)} {kd : DK} (h1 : l[i]? = some (⟨d, gd, .st sz x y⟩, .md)) (h2 : l[j]? = some (⟨d', gd', .ld1 z⟩, kd)) (hx : X.ev f x = .p id' off') (hz : X.ev f z = .p id off) (hne : id' ≠ id) (hid : id < n) (hn : ∀ M ∈ hs, n ≤ M.n) : apartL [(i, j)] l n f hs = true := by
  unfold apartL
  have e1 : hs.all (fun M => Nat.ble n M.n) = true := List.all_eq_true.2 fun M hM => ble_t' (hn M hM)
  have e2 : apartB n (cidx (l.map (·.2)) i) hs (.st sz x y) (.ld1 z) f = true := by
    unfold apartB
    show (match (match X.ev f z with
      | .p id _ => some id
      | _ => none) with
      | some id => Nat.blt id n && ((match (match X.ev f x with
        | .p id _ => some (some id)
        | _ => none) with
        | some (some q) => !(q == id)
        | some none => true
        | none => false) || (Nat.blt (cidx (l.map (·.2)) i + 1) hs.length && sameO (atS hs (cidx (l.map (·.2)) i + 1) id) (atS hs (cidx (l.map (·.2)) i) id)))
      | none => false) = true
    rw [hz, hx]
    show (Nat.blt id n && (!(id' == id) || _)) = true
    rw [blt_t hid, show (id' == id) = false from by simpa using hne]
    rfl
  simp only [List.isEmpty_cons, Bool.false_or, List.all_cons, List.all_nil, h1, h2, e1, e2, Bool.and_true, Bool.true_and]
  rfl
def D41 : IC := .dreg 0 [(⟨some q41, none, .fa 1 (.t q4)⟩, .pu), (⟨some q42, none, .ld1 (.t q41)⟩, .rd 0), (⟨some q43, none, .mov (.t q1)⟩, .pu), (⟨some q44, none, .fa 0 (.t q4)⟩, .pu), (⟨some q45, none, .ld1 (.t q44)⟩, .rd 0), (⟨some q46, none, .mov (.t q1)⟩, .pu), (⟨some q47, none, .mov (.t q2)⟩, .pu), (⟨some q48, none, .mov (.t q3)⟩, .pu), (⟨some q49, none, .ixS 1 (.t q42) (.t q43)⟩, .pu), (⟨none, none, .st 1 (.t q49) (.t q47)⟩, .md)] [⟨some q50, none, .ixS 1 (.t q45) (.t q46)⟩, ⟨none, none, .st 1 (.t q50) (.t q48)⟩] [(9, 4)]
theorem add_tail {M1 : MH} {f : Fr} {na nf n0 a k' : Nat} {N : List Bool} {F : List Nat} {b' r : Bool} {P : MV → MH → Prop} (h : Two M1 na nf N F) (ha : a < F.length) (hlo : M1.lo ≤ M1.n) (ln : M1.lo ≤ na) (lf : M1.lo ≤ nf) (hn0 : n0 < M1.n) (e1 : na ≠ n0) (e2 : nf ≠ n0) (hk : k' < 2 ^ 64)
    (g0 : M1.get n0 = some (.cs false 2 (ofL [.sl na 0 F.length 0, .sl nf 0 F.length 0] 0))) (h1 : X.ev f (.t q1) = .i .i64 (a : Int)) (h2 : X.ev f (.t q2) = .i .u64 (k' : Int)) (h3 : X.ev f (.t q3) = .b b') (h4 : X.ev f (.t q4) = .p n0 0) (h9 : X.ev f (.t q9) = .b r)
    (hP : ∀ M', Chg (fun j => j = na ∨ j = nf) M1 M' → Two M' na nf (N.set a b') (F.set a k') → P (.b r) M') : Wp fns D41 f M1 (thenQ fns K52_0 (retQ F52 P)) := by
  have hal : a < N.length := by rw [h.len]; exact ha
  obtain ⟨ta, a1, a2, a3, a4⟩ := bools_readA h.a
  obtain ⟨tf, f1, f2, f3, f4⟩ := h.f.read
  have hHf := f3 a ha
  have hHa := a3 a hal
  have hna := h.lna
  have hnf := h.lnf
  have hne := h.ne
  simp only [q1, q2, q3, q4, q9] at h1 h2 h3 h4 h9
  unfold D41
  refine Wp_dreg_of hlo ?_
  have hS := stW_ok (n := 1) (id := nf) (off := a * 1) (sz := 1) (t := tf) (M := M1) (y := .i .u64 (k' : Int)) lf rfl hHf
  have hS2 : ∀ o, stW (M1.set nf o) 1 na (a * 1) (.b b') (some (.cs false 1 ta)) = _ := fun o => stW_ok (n := 1) (id := na) (off := a * 1) (sz := 1) (t := ta) (M := M1.set nf o) (y := .b b') ln rfl hHa
  simp (maxSteps := 4000000) (disch := first | omega | assumption | (simp only [bxS, bxV, stOk, Nat.reduceBEq, Nat.reduceEqDiff, Nat.reduceAdd]; done) | (simp only [bxU]; omega) | ((try apply has_setN); apply has_ofL; simp only [bxL]; omega)) only [↓bxD, bxP, bxQ, Nat.reduceBEq, reduceCtorEq, Nat.reduceAdd, Nat.reduceSub, Nat.reduceMul, Nat.reduceLeDiff, Nat.reduceLT, bxR, g0, h1, h2, h3, h4, h9, ix_slc, f1, hS, hS2, a1]
  refine ⟨apart_st (id' := nf) (id := n0) (x := .t q49) (z := .t q44) rfl rfl (by simp only [bxP, bxQ, reduceCtorEq, g0, h1, h2, h3, h4, h9, ix_slc] <;> rfl) (by simp only [bxP, bxQ, reduceCtorEq, g0, h1, h2, h3, h4, h9, ix_slc] <;> rfl) e2 hn0 ?_, ?_⟩
  · intro M hM
    simp only [List.mem_cons, List.not_mem_nil, or_false] at hM
    rcases hM with rfl | rfl
    · exact Nat.le_refl _
    · exact Nat.le_refl _
  generalize hM2 : MH.set _ _ _ = M2
  have c2 : Chg (fun j => j = na ∨ j = nf) M1 M2 := by rw [← hM2]; exact ((Chg.refl _ M1).set _ (.inl (.inr rfl))).set _ (.inl (.inl rfl))
  have n2 : M2.n = M1.n := by rw [← hM2]; rfl
  have gA : M2.get na = some (.cs false 1 (setN [.b b'] (a * 1) ta)) := by rw [← hM2]; exact set_same _ _
  have gF : M2.get nf = some (.cs false 1 (setN [.i .u64 (k' : Int)] (a * 1) tf)) := by rw [← hM2, set_ne (Ne.symm hne)]; exact set_same _ _
  clear hM2
  show Wp fns K52_0 _ _ _
  unfold K52_0
  simp (maxSteps := 4000000) (disch := first | omega | assumption | (simp only [bxS, bxV, stOk, Nat.reduceBEq, Nat.reduceEqDiff, Nat.reduceAdd]; done) | (simp only [bxU]; omega) | ((try apply has_setN); apply has_ofL; simp only [bxL]; omega)) only [↓bxD, bxP, bxQ, Nat.reduceBEq, reduceCtorEq, Nat.reduceAdd, Nat.reduceSub, Nat.reduceMul, Nat.reduceLeDiff, Nat.reduceLT, bxR, g0, h1, h2, h3, h4, h9, ix_slc]
  refine hP M2 c2 ⟨⟨_, gA, a4 a b' hal⟩, ⟨_, gF, f4 a k' ha⟩, by omega, by omega, hne, by rw [List.length_set, List.length_set]; exact h.len, fun k hk' => ?_⟩
  rcases List.mem_or_eq_of_mem_set hk' with h' | h'
  · exact h.lt k h'
  · rw [h']; exact hk
theorem addU_any {M : MH} {na nf : Nat} {N : List Bool} {F : List Nat} {a k : Nat} {b : Bool} (h : Two M na nf N F) (ha : a < F.length) (hk : k < 2 ^ 64) (hlo : M.lo ≤ M.n) (ln : M.lo ≤ na) (lf : M.lo ≤ nf) :
    Cp fns 52 [.ag (tw na nf F.length), .i .i64 (a : Int), .i .u64 (k : Int), .b b] M fun m M' => m = .b (decide (k ||| fAt F a ≠ fAt F a) || ((b || bAt N a) != bAt N a)) ∧ Chg (fun j => j = na ∨ j = nf) M M' ∧ Two M' na nf (N.set a (b || bAt N a)) (F.set a (k ||| fAt F a)) := by
  have hal : a < N.length := by rw [h.len]; exact ha
  have hFlt : ∀ a, fAt F a < 2 ^ 64 := fAt_lt h.lt
  have hor := or_u64 hk (hFlt a)
  have hk2 : k ||| fAt F a < 2 ^ 64 := Nat.or_lt_two_pow hk (hFlt a)
  refine Cp_call (fn := F52) (by kernel_rfl) (Nat.le_of_ble_eq_true rfl) ?_
  show Wp fns B52 (T.set q3 (some (.b b)) (T.set q2 (some (.i .u64 (k : Int))) (T.set q1 (some (.i .i64 (a : Int))) (T.set q0 (some (.ag (tw na nf F.length))) T.lf)))) M _
  unfold B52 tw
  simp (maxSteps := 4000000) (disch := first | omega | assumption | (simp only [bxS, bxV, stOk, Nat.reduceBEq, Nat.reduceEqDiff, Nat.reduceAdd]; done) | (simp only [bxU]; omega) | ((try apply has_setN); apply has_ofL; simp only [bxL]; omega)) only [↓bxD, bxP, bxQ, Nat.reduceBEq, reduceCtorEq, Nat.reduceAdd, Nat.reduceSub, Nat.reduceMul, Nat.reduceLeDiff, Nat.reduceLT, bxR]
  generalize hM1 : M.push _ = M1
  have g0 : M1.get M.n = some (.cs false 2 (ofL [.sl na 0 F.length 0, .sl nf 0 F.length 0] 0)) := by rw [← hM1]; exact push_new _
  have x1 : Ext M M1 := by rw [← hM1]; exact .push M _
  have n1 : M1.n = M.n + 1 := by rw [← hM1]; rfl
  have l1 := x1.lo
  clear hM1
  have h1 := h.ext x1
  obtain ⟨ta, a1, a2, a3, a4⟩ := bools_readA h1.a
  obtain ⟨tf, f1, f2, f3, f4⟩ := h1.f.read
  have hCf := f2 a ha
  have hCa := a2 a hal
  have hne := h.ne
  have hna := h.lna
  have hnf := h.lnf
  have hHf := f3 a ha
  have hHa := a3 a hal
  generalize hk' : k ||| fAt F a = k' at hor hk2
  generalize hv : bAt N a = x at hCa
  generalize hw : fAt F a = y at hCf hor hk'
  have hd : decide (((k' : Nat) : Int) ≠ (y : Int)) = decide (k' ≠ y) := by rw [decide_eq_decide]; omega
  have fin : ∀ M', Chg (fun j => j = na ∨ j = nf) M1 M' → Chg (fun j => j = na ∨ j = nf) M M' := fun M' h => ((Chg.of x1).trans h)
  cases hd1 : decide (k' ≠ y) with
  | true =>
    rw [hd1] at hd
    cases b with
    | true =>
      simp (maxSteps := 4000000) (disch := first | omega | assumption | (simp only [bxS, bxV, stOk, Nat.reduceBEq, Nat.reduceEqDiff, Nat.reduceAdd]; done) | (simp only [bxU]; omega) | ((try apply has_setN); apply has_ofL; simp only [bxL]; omega)) only [↓bxD, bxP, bxQ, Nat.reduceBEq, reduceCtorEq, Nat.reduceAdd, Nat.reduceSub, Nat.reduceMul, Nat.reduceLeDiff, Nat.reduceLT, bxR, g0, a1, f1, hCf, hCa, hor, ix_slc, hd]
      refine add_tail (b' := true) (r := true) (k' := k') h1 ha (by omega) (by omega) (by omega) (by omega) (by omega) (by omega) hk2 g0 (by simp only [bxP, bxQ, reduceCtorEq, g0, a1, f1, hCf, hCa, hor, ix_slc, hd]) (by simp only [bxP, bxQ, reduceCtorEq, g0, a1, f1, hCf, hCa, hor, ix_slc, hd]) (by simp only [bxP, bxQ, reduceCtorEq, g0, a1, f1, hCf, hCa, hor, ix_slc, hd]) (by simp only [bxP, bxQ, reduceCtorEq, g0, a1, f1, hCf, hCa, hor, ix_slc, hd]) (by simp only [bxP, bxQ, reduceCtorEq, g0, a1, f1, hCf, hCa, hor, ix_slc, hd]) fun M' c t => ⟨rfl, fin M' c, t⟩
    | false =>
      simp (maxSteps := 4000000) (disch := first | omega | assumption | (simp only [bxS, bxV, stOk, Nat.reduceBEq, Nat.reduceEqDiff, Nat.reduceAdd]; done) | (simp only [bxU]; omega) | ((try apply has_setN); apply has_ofL; simp only [bxL]; omega)) only [↓bxD, bxP, bxQ, Nat.reduceBEq, reduceCtorEq, Nat.reduceAdd, Nat.reduceSub, Nat.reduceMul, Nat.reduceLeDiff, Nat.reduceLT, bxR, g0, a1, f1, hCf, hCa, hor, ix_slc, hd]
      refine add_tail (b' := x) (r := true) (k' := k') h1 ha (by omega) (by omega) (by omega) (by omega) (by omega) (by omega) hk2 g0 (by simp only [bxP, bxQ, reduceCtorEq, g0, a1, f1, hCf, hCa, hor, ix_slc, hd]) (by simp only [bxP, bxQ, reduceCtorEq, g0, a1, f1, hCf, hCa, hor, ix_slc, hd]) (by simp only [bxP, bxQ, reduceCtorEq, g0, a1, f1, hCf, hCa, hor, ix_slc, hd]) (by simp only [bxP, bxQ, reduceCtorEq, g0, a1, f1, hCf, hCa, hor, ix_slc, hd]) (by simp only [bxP, bxQ, reduceCtorEq, g0, a1, f1, hCf, hCa, hor, ix_slc, hd]) fun M' c t => ⟨rfl, fin M' c, t⟩
  | false =>
    rw [hd1] at hd
    cases b with
    | true =>
      simp (maxSteps := 4000000) (disch := first | omega | assumption | (simp only [bxS, bxV, stOk, Nat.reduceBEq, Nat.reduceEqDiff, Nat.reduceAdd]; done) | (simp only [bxU]; omega) | ((try apply has_setN); apply has_ofL; simp only [bxL]; omega)) only [↓bxD, bxP, bxQ, Nat.reduceBEq, reduceCtorEq, Nat.reduceAdd, Nat.reduceSub, Nat.reduceMul, Nat.reduceLeDiff, Nat.reduceLT, bxR, g0, a1, f1, hCf, hCa, hor, ix_slc, hd]
      refine add_tail (b' := true) (r := true != x) (k' := k') h1 ha (by omega) (by omega) (by omega) (by omega) (by omega) (by omega) hk2 g0 (by simp only [bxP, bxQ, reduceCtorEq, g0, a1, f1, hCf, hCa, hor, ix_slc, hd]) (by simp only [bxP, bxQ, reduceCtorEq, g0, a1, f1, hCf, hCa, hor, ix_slc, hd]) (by simp only [bxP, bxQ, reduceCtorEq, g0, a1, f1, hCf, hCa, hor, ix_slc, hd]) (by simp only [bxP, bxQ, reduceCtorEq, g0, a1, f1, hCf, hCa, hor, ix_slc, hd]) (by simp only [bxP, bxQ, reduceCtorEq, g0, a1, f1, hCf, hCa, hor, ix_slc, hd] <;> rfl) fun M' c t => ⟨by simp, fin M' c, t⟩
    | false =>
      simp (maxSteps := 4000000) (disch := first | omega | assumption | (simp only [bxS, bxV, stOk, Nat.reduceBEq, Nat.reduceEqDiff, Nat.reduceAdd]; done) | (simp only [bxU]; omega) | ((try apply has_setN); apply has_ofL; simp only [bxL]; omega)) only [↓bxD, bxP, bxQ, Nat.reduceBEq, reduceCtorEq, Nat.reduceAdd, Nat.reduceSub, Nat.reduceMul, Nat.reduceLeDiff, Nat.reduceLT, bxR, g0, a1, f1, hCf, hCa, hor, ix_slc, hd]
      refine add_tail (b' := x) (r := x != x) (k' := k') h1 ha (by omega) (by omega) (by omega) (by omega) (by omega) (by omega) hk2 g0 (by simp only [bxP, bxQ, reduceCtorEq, g0, a1, f1, hCf, hCa, hor, ix_slc, hd]) (by simp only [bxP, bxQ, reduceCtorEq, g0, a1, f1, hCf, hCa, hor, ix_slc, hd]) (by simp only [bxP, bxQ, reduceCtorEq, g0, a1, f1, hCf, hCa, hor, ix_slc, hd]) (by simp only [bxP, bxQ, reduceCtorEq, g0, a1, f1, hCf, hCa, hor, ix_slc, hd]) (by simp only [bxP, bxQ, reduceCtorEq, g0, a1, f1, hCf, hCa, hor, ix_slc, hd] <;> cases x <;> rfl) fun M' c t => ⟨by simp, fin M' c, t⟩
end Go.Proofs.Ytddaggodpmhmpaa.K
set_option linter.unusedSimpArgs false
set_option linter.unusedVariables false
namespace Go.Proofs.Ytddaggodpmhmpaa.Ev
open Go
theorem float_new (l : List MV) (f : Fr) (id : Nat) : floatEv (.new l) f id = some (.p id 0, .cs false l.length (ofL l 0)) := rfl
theorem lateL_of {l : List (IOper × DK)} {b : Nat} {os : List (Nat × MO)} (h : (l.any fun p => match p.2 with
  | .ma _ => true
  | _ => false) = false) : lateL l b os = os := by
  unfold lateL
  refine List.filter_eq_self.2 fun x _ => ?_
  rw [Bool.not_eq_true', List.any_eq_false]
  intro p hp
  have := List.any_eq_false.1 h p hp
  cases hk : p.2 <;> simp_all
noncomputable def mksF (sz bytes : Nat) (zs : List MV) (x y : MV) (id : Nat) : Option (MV × MO) := match x, y with
  | .i _ (.ofNat l), .i _ (.ofNat c) => bif Nat.ble l c && Nat.ble (bytes * c) 281474976710656 && Nat.ble c 9223372036854775807 then some (.sl id 0 l 0, .cs false sz (ofL (zrow zs c) 0)) else none
  | _, _ => none
theorem float_mks (sz bytes : Nat) (zs : List MV) (x y : X) (f : Fr) (id : Nat) : floatEv (.mks sz bytes zs x y) f id = mksF sz bytes zs (x.ev f) (y.ev f) id := rfl
theorem mksF_ok {sz bytes : Nat} {zs : List MV} {n id : Nat} {k k' : IntKind} (h1 : bytes * n ≤ 281474976710656) (h2 : n ≤ 9223372036854775807) : mksF sz bytes zs (.i k (n : Int)) (.i k' (n : Int)) id = some (.sl id 0 n 0, .cs false sz (ofL (zrow zs n) 0)) := by
  show (bif Nat.ble n n && Nat.ble (bytes * n) 281474976710656 && Nat.ble n 9223372036854775807 then some (MV.sl id 0 n 0, MO.cs false sz (ofL (zrow zs n) 0)) else none) = _
  rw [ble_t' (Nat.le_refl n), ble_t' h1, ble_t' h2]
  rfl
theorem slot_get {f : Fr} {k : Ky} {id off : Nat} (h : X.ev f (.t k) = .p id off) : T.get f k = some (.p id off) := by
  unfold X.ev at h
  simp only at h
  cases e : f.get k with
  | none => rw [e] at h; cases h
  | some v => rw [e] at h; simp only at h; rw [← h]
theorem adopt3 {M M2 : MH} {a b c : MO} (h : adoptM [(M.n, a), (M.n + 1, b), (M.n + 2, c)] (M.room 3) = M2) : Ext M M2 ∧ M2.n = M.n + 3 ∧ M2.get M.n = some a ∧ M2.get (M.n + 1) = some b ∧ M2.get (M.n + 2) = some c := by
  subst h
  simp only [adopt_cons, adopt_nil]
  refine ⟨((((Ext.room M 3).set _ (by omega)).set _ (by omega)).set _ (by omega)), rfl, ?_, ?_, ?_⟩
  · rw [set_ne (by omega), set_ne (by omega)]; exact set_same _ _
  · rw [set_ne (by omega)]; exact set_same _ _
  · exact set_same _ _
end Go.Proofs.Ytddaggodpmhmpaa.Ev
set_option linter.unusedSimpArgs false
set_option linter.unusedVariables false
namespace Go.Proofs.Ytddaggodpmhmpaa.K
open Go Ev
set_option maxRecDepth 100000
set_option maxHeartbeats 4000000

structure BgSt (M0 M : MH) (g : Gr) (vr vf vc vk : MV) (es : List (List MV)) (na nf ns : Nat) (N : List Bool) (F : List Nat) (f : Fr) : Prop where
  gr : GrAt M0 vr vf vc vk es g
  ok : GrOk g
  ext : Ext M0 M
  lo0 : M0.lo ≤ M0.n
  b0 : M.get M0.n = some (.cs false 7 (ofL (gcs g vr vf vc vk) 0))
  two : Two M na nf N F
  b2 : M.get (M0.n + 1) = some (.cs false 2 (ofL [.nils, .nils] 0))
  la : M0.n + 1 < na
  lf : M0.n + 1 < nf
  ls : M0.n + 1 < ns ∧ ns < M.n ∧ ns ≠ na ∧ ns ≠ nf
  len : F.length = g.names.toNat
  lt : ∀ k ∈ F, k < 2 ^ (g.kinds.toNat + 1)
  nsnd : NSnd g N
  fsnd : FSnd g F
  bs : M.get ns = some (.cs false 2 (ofL (tw na nf F.length) 0))
  fq1 : X.ev f (.t q1) = .p M0.n 0
  fq2 : X.ev f (.t q2) = .p (M0.n + 1) 0
  fq3 : X.ev f (.t q3) = .p ns 0
def BgPost (g : Gr) (M0 : MH) (m : MV) (M' : MH) : Prop := Ext M0 M' ∧ ∃ na nf N F, m = .ag (tw na nf F.length) ∧ Two M' na nf N F ∧ M0.n ≤ na ∧ M0.n ≤ nf ∧ NulVec g N ∧ F.length = g.names.toNat ∧ (∀ k ∈ F, k < 2 ^ (g.kinds.toNat + 1)) ∧ FstMat g (FM (g.kinds.toNat + 1) F)
theorem BgSt.chg {M0 M M' : MH} {g : Gr} {vr vf vc vk : MV} {es : List (List MV)} {na nf ns : Nat} {N : List Bool} {F : List Nat} {f f' : Fr} (h : BgSt M0 M g vr vf vc vk es na nf ns N F f) (k : Chg (fun j => j = na ∨ j = nf ∨ M.n ≤ j) M M') {N' : List Bool} {F' : List Nat} (ht : Two M' na nf N' F') (hl : F'.length = F.length) (h2 : ∀ k ∈ F', k < 2 ^ (g.kinds.toNat + 1)) (h3 : NSnd g N') (h4 : FSnd g F') (e1 : X.ev f' (.t q1) = X.ev f (.t q1)) (e2 : X.ev f' (.t q2) = X.ev f (.t q2)) (e3 : X.ev f' (.t q3) = X.ev f (.t q3)) : BgSt M0 M' g vr vf vc vk es na nf ns N' F' f' := by
  have hla := h.la
  have hlf := h.lf
  obtain ⟨s1, s2, s3, s4⟩ := h.ls
  have hn := h.ext.n
  exact ⟨h.gr, h.ok, ⟨Nat.le_trans hn k.n, k.lo.trans h.ext.lo, fun j hj => (k.old j (by omega) (by omega)).trans (h.ext.old j hj)⟩, h.lo0, (k.old _ (by omega) (by omega)).trans h.b0, ht, (k.old _ (by omega) (by omega)).trans h.b2, hla, hlf, ⟨s1, Nat.lt_of_lt_of_le s2 k.n, s3, s4⟩, by rw [hl]; exact h.len, h2, h3, h4, by rw [hl]; exact (k.old _ s2 (by omega)).trans h.bs, e1.trans h.fq1, e2.trans h.fq2, e3.trans h.fq3⟩
theorem begins_round {M0 M : MH} {g : Gr} {vr vf vc vk : MV} {es : List (List MV)} {na nf ns : Nat} {N : List Bool} {F : List Nat} {f : Fr} (h : BgSt M0 M g vr vf vc vk es na nf ns N F f) (h4 : X.ev f (.t q4) = .b false) (h18 : X.ev f (.t q18) = vr) (h19 : X.ev f (.t q19) = .i .i64 (g.rules.length : Int)) (h20 : X.ev f (.t q20) = .i .i64 0) (Q : Post)
    (hQ : ∀ f' M' N' F' more, BgSt M0 M' g vr vf vc vk es na nf ns N' F' f' → X.ev f' (.t q4) = .b more → big N' F' ≤ big N F → (more = true → big N' F' < big N F) → (more = false → ∀ r ∈ g.rules, BClosed N' F' r) → Q .norm f' M') :
    Wp fns (.loop L46_2) f M (blockQ 2 Q) := by
  obtain ⟨hr1, hr2⟩ := h.gr.rules.row.sl
  rw [h.gr.rules.len] at hr2
  refine Wp_inv (σ := Nat × List Bool × List Nat × Bool) (fun p f' M' => BgSt M0 M' g vr vf vc vk es na nf ns p.2.1 p.2.2.1 f' ∧ p.1 ≤ g.rules.length ∧ X.ev f' (.t q4) = .b p.2.2.2 ∧ X.ev f' (.t q18) = vr ∧ X.ev f' (.t q19) = .i .i64 (g.rules.length : Int) ∧ X.ev f' (.t q20) = .i .i64 (p.1 : Int) ∧ big p.2.1 p.2.2.1 ≤ big N F ∧ (p.2.2.2 = true → big p.2.1 p.2.2.1 < big N F) ∧ (p.2.2.2 = false → ∀ j r, j < p.1 → g.rules[j]? = some r → BClosed p.2.1 p.2.2.1 r)) (fun p => g.rules.length - p.1) ?_ (0, N, F, false) ?_
  · rintro ⟨i, N1, F1, mo⟩ f1 M1 ⟨h, hi, h4, h18, h19, h20, hb1, hb2, hcl⟩
    simp only at h hi h4 h20 hb1 hb2 hcl
    have hq1 := h.fq1
    have hq3 := h.fq3
    simp only [q1, q3, q4, q18, q19, q20] at hq1 hq3 h4 h18 h19 h20
    have hn := h.ext.n
    have hlo := h.lo0
    have hl := h.ext.lo
    have hk40 := h.ok.k2
    have hk0 := h.ok.k1
    have hn40 := h.ok.n2
    have hrl := h.ok.rl
    obtain ⟨s1, s2, s3, s4⟩ := h.ls
    have hla := h.la
    have hlf := h.lf
    have hlna := h.two.lna
    have hlnf := h.two.lnf
    have hbs := h.bs
    have hlen := h.len
    unfold L46_2
    by_cases hi' : i < g.rules.length
    · have d1 : decide ((i : Int) < (g.rules.length : Int)) = true := decide_eq_true (by omega)
      obtain ⟨x, hz⟩ : ∃ x, g.rules[i]? = some x := ⟨_, List.getElem?_eq_getElem hi'⟩
      have hmem := List.mem_of_getElem? hz
      have hleft := h.ok.left _ hmem
      have hsym := h.ok.sym _ hmem
      have hlen8 := h.ok.len _ hmem
      have hwf := h.gr.wf.rules _ hmem
      obtain ⟨a0, ar, a2⟩ := x
      simp only at hleft hsym hlen8 hwf
      obtain ⟨a, rfl⟩ : ∃ n : Nat, a0 = n := ⟨a0.toNat, by omega⟩
      obtain ⟨ua, hua, hura⟩ : ∃ u1, es[i]? = some [.i .i64 (a : Int), u1, .i .i64 a2] ∧ IntRow M0 u1 ar := h.gr.rules.get hz
      obtain ⟨hsu1, hsu2⟩ := hura.sl
      obtain ⟨ro, s, t, hg, hid, hat⟩ := (h.gr.ext h.ext).rules.row.read hua
      have hN : Ev.getN t 3 (soff vr + i * 3) = some [.i .i64 (a : Int), ua, .i .i64 a2] := hat.getN
      have hone : MV.one ua = true := isSl_one hsu1
      have hst : stOk 3 (.ag [.i .i64 (a : Int), ua, .i .i64 a2]) = true := by cases ua <;> first | rfl | cases hsu1
      have hG2 : ∀ n, Ev.getN (ofL (tw na nf n) 0) 2 0 = some (tw na nf n) := fun n => (at_ofL (tw na nf n)).getN
      simp (maxSteps := 4000000) (disch := first | omega | assumption | (simp only [bxS, bxV, stOk, Nat.reduceBEq, Nat.reduceEqDiff, Nat.reduceAdd]; done) | (simp only [bxU]; omega) | ((try apply has_setN); apply has_ofL; simp only [bxL]; omega)) only [↓bxD, bxP, bxQ, bxQ2, Nat.reduceBEq, reduceCtorEq, Nat.reduceAdd, Nat.reduceSub, Nat.reduceMul, Nat.reduceLeDiff, Nat.reduceLT, bxR, hq1, hq3, h4, h18, h19, h20, hr1, hr2, d1, hg, hN, hst]
      show Wp fns K46_1 _ _ _
      unfold K46_1
      simp (maxSteps := 4000000) (disch := first | omega | assumption | (simp only [bxS, bxV, stOk, Nat.reduceBEq, Nat.reduceEqDiff, Nat.reduceAdd]; done) | (simp only [bxU]; omega) | ((try apply has_setN); apply has_ofL; simp only [bxL]; omega)) only [↓bxD, bxP, bxQ, bxQ2, Nat.reduceBEq, reduceCtorEq, Nat.reduceAdd, Nat.reduceSub, Nat.reduceMul, Nat.reduceLeDiff, Nat.reduceLT, bxR, hq1, hq3, h4, h18, h19, h20, hr1, hr2, d1, hg, hN, hst]
      generalize hM2 : (M1.push _).set M1.n _ = M2
      have x2 : Ext M1 M2 := by rw [← hM2]; exact (Ext.push M1 _).set _ (Nat.le_refl _)
      have n2 : M2.n = M1.n + 1 := by rw [← hM2]; rfl
      have l2 := x2.lo
      have g9 : M2.get M1.n = some (.cs false 3 (setN [.i .i64 (a : Int), ua, .i .i64 a2] 0 (ofL [.i .i64 0, .nils, .i .i64 0] 0))) := by rw [← hM2, set_same]
      have c9 : At (setN [.i .i64 (a : Int), ua, .i .i64 a2] 0 (ofL [.i .i64 0, .nils, .i .i64 0] 0)) 0 [.i .i64 (a : Int), ua, .i .i64 a2] := at_setN _ _ _
      generalize setN [.i .i64 (a : Int), ua, .i .i64 a2] 0 (ofL [.i .i64 0, .nils, .i .i64 0] 0) = cc at g9 c9
      clear hM2
      have cc0 : cget cc 0 = some (.i .i64 (a : Int)) := c9 0 _ rfl
      have cc1 : cget cc 1 = some ua := c9 1 _ rfl
      have hbs2 := (x2.old _ s2).trans hbs
      have hG2 := hG2 F1.length
      simp (maxSteps := 4000000) (disch := first | omega | assumption | (simp only [bxS, bxV, stOk, Nat.reduceBEq, Nat.reduceEqDiff, Nat.reduceAdd]; done) | (simp only [bxU]; omega) | ((try apply has_setN); apply has_ofL; simp only [bxL]; omega)) only [↓bxD, bxP, bxQ, bxQ2, Nat.reduceBEq, reduceCtorEq, Nat.reduceAdd, Nat.reduceSub, Nat.reduceMul, Nat.reduceLeDiff, Nat.reduceLT, bxR, hq1, hq3, h4, h18, h19, h20, hr1, hr2, d1, g9, cc0, cc1, hbs, hbs2, hG2]
      refine bindP_call (rowU_any (h.two.ext x2) ((hura.ext h.ext).ext x2) (fun s hs => ?_) (by omega) (by omega)) ?_
      · have hss := hsym s hs
        split
        · rename_i hneg
          have := symB_neg hss hneg
          omega
        · rename_i hneg
          have := symB_lt hss (by omega)
          omega
      rintro m M3 ⟨rfl, x3⟩
      have n3 := x3.n
      have l3 := x3.lo
      have hbs3 := (x3.old _ (by omega)).trans hbs2
      have g93 := (x3.old _ (by omega)).trans g9
      have hal : a < F1.length := by omega
      have hk64 : rowK N1 F1 ar < 2 ^ (g.kinds.toNat + 1) := rowK_lt h.lt fun s hs hneg => by have := symB_neg (hsym s hs) hneg; omega
      have hk64' : rowK N1 F1 ar < 2 ^ 64 := Nat.lt_of_lt_of_le hk64 (Nat.pow_le_pow_right (by omega) (by omega))
      simp (maxSteps := 4000000) (disch := first | omega | assumption | (simp only [bxS, bxV, stOk, Nat.reduceBEq, Nat.reduceEqDiff, Nat.reduceAdd]; done) | (simp only [bxU]; omega) | ((try apply has_setN); apply has_ofL; simp only [bxL]; omega)) only [↓bxD, bxP, bxQ, bxQ2, Nat.reduceBEq, reduceCtorEq, Nat.reduceAdd, Nat.reduceSub, Nat.reduceMul, Nat.reduceLeDiff, Nat.reduceLT, bxR, hq1, hq3, h4, h18, h19, h20, hr1, hr2, d1, g93, cc0, cc1, hbs3, hG2]
      refine bindP_call (addU_any ((h.two.ext x2).ext x3) hal hk64' (by omega) (by omega) (by omega)) ?_
      rintro m M4 ⟨rfl, c4, t4⟩
      obtain ⟨hs1, hs2⟩ := snd_add h.nsnd h.fsnd hmem (by simp only [Int.toNat_natCast]; rw [h.two.len]; exact hal) (by simp only [Int.toNat_natCast]; exact hal)
      simp only [Int.toNat_natCast] at hs1 hs2
      have hbig := big_add (N := N1) (F := F1) (a := a) (k := rowK N1 F1 ar) (b := allN N1 ar) (by rw [h.two.len]; exact hal) hal hk64' (fAt_lt h.two.lt a)
      simp only at hbig
      have cc : Chg (fun j => j = na ∨ j = nf ∨ M1.n ≤ j) M1 M4 := ((Chg.of x2).trans (Chg.of x3)).trans (c4.mono fun j _ hj => hj.elim .inl fun x => .inr (.inl x))
      have hlt4 : ∀ k ∈ F1.set a (rowK N1 F1 ar ||| fAt F1 a), k < 2 ^ (g.kinds.toNat + 1) := fun k hk => by
        rcases List.mem_or_eq_of_mem_set hk with h' | h'
        · exact h.lt k h'
        · rw [h']; exact Nat.or_lt_two_pow hk64 (fAt_lt h.lt a)
      cases hm : (decide (rowK N1 F1 ar ||| fAt F1 a ≠ fAt F1 a) || ((allN N1 ar || bAt N1 a) != bAt N1 a)) with
      | true =>
        simp (maxSteps := 4000000) (disch := first | omega | assumption | (simp only [bxS, bxV, stOk, Nat.reduceBEq, Nat.reduceEqDiff, Nat.reduceAdd]; done) | (simp only [bxU]; omega) | ((try apply has_setN); apply has_ofL; simp only [bxL]; omega)) only [↓bxD, bxP, bxQ, bxQ2, Nat.reduceBEq, reduceCtorEq, Nat.reduceAdd, Nat.reduceSub, Nat.reduceMul, Nat.reduceLeDiff, Nat.reduceLT, bxR, hq1, hq3, h4, h18, h19, h20, hr1, hr2, d1, g93, cc0, cc1, hbs3, hG2]
        show Wp fns K46_0 _ _ _
        unfold K46_0
        simp (maxSteps := 4000000) (disch := first | omega | assumption | (simp only [bxS, bxV, stOk, Nat.reduceBEq, Nat.reduceEqDiff, Nat.reduceAdd]; done) | (simp only [bxU]; omega) | ((try apply has_setN); apply has_ofL; simp only [bxL]; omega)) only [↓bxD, bxP, bxQ, bxQ2, Nat.reduceBEq, reduceCtorEq, Nat.reduceAdd, Nat.reduceSub, Nat.reduceMul, Nat.reduceLeDiff, Nat.reduceLT, bxR, hq1, hq3, h4, h18, h19, h20, hr1, hr2, d1, g93, cc0, cc1, hbs3, hG2]
        have hlt : big (N1.set a (allN N1 ar || bAt N1 a)) (F1.set a (rowK N1 F1 ar ||| fAt F1 a)) < big N1 F1 := by
          rcases hbig with ⟨e1, e2, _⟩ | ⟨_, e⟩
          · rw [e1, e2] at hm; simp at hm
          · exact e
        refine ⟨(i + 1, N1.set a (allN N1 ar || bAt N1 a), F1.set a (rowK N1 F1 ar ||| fAt F1 a), true), by simp only; omega, h.chg cc t4 (by simp only [List.length_set]) hlt4 hs1 hs2 (by simp only [bxP, bxQ, bxQ2, reduceCtorEq, hq1, hq3, h4, h18, h19, h20, hr1, hr2, d1, g93, cc0, cc1, hbs3, hG2]) (by simp only [bxP, bxQ, bxQ2, reduceCtorEq, hq1, hq3, h4, h18, h19, h20, hr1, hr2, d1, g93, cc0, cc1, hbs3, hG2]) (by simp only [bxP, bxQ, bxQ2, reduceCtorEq, hq1, hq3, h4, h18, h19, h20, hr1, hr2, d1, g93, cc0, cc1, hbs3, hG2]), by simp only; omega, rfl, rfl, by simp only; omega, fun _ => by simp only; omega, fun e => by cases e⟩
      | false =>
        simp (maxSteps := 4000000) (disch := first | omega | assumption | (simp only [bxS, bxV, stOk, Nat.reduceBEq, Nat.reduceEqDiff, Nat.reduceAdd]; done) | (simp only [bxU]; omega) | ((try apply has_setN); apply has_ofL; simp only [bxL]; omega)) only [↓bxD, bxP, bxQ, bxQ2, Nat.reduceBEq, reduceCtorEq, Nat.reduceAdd, Nat.reduceSub, Nat.reduceMul, Nat.reduceLeDiff, Nat.reduceLT, bxR, hq1, hq3, h4, h18, h19, h20, hr1, hr2, d1, g93, cc0, cc1, hbs3, hG2]
        show Wp fns K46_0 _ _ _
        unfold K46_0
        simp (maxSteps := 4000000) (disch := first | omega | assumption | (simp only [bxS, bxV, stOk, Nat.reduceBEq, Nat.reduceEqDiff, Nat.reduceAdd]; done) | (simp only [bxU]; omega) | ((try apply has_setN); apply has_ofL; simp only [bxL]; omega)) only [↓bxD, bxP, bxQ, bxQ2, Nat.reduceBEq, reduceCtorEq, Nat.reduceAdd, Nat.reduceSub, Nat.reduceMul, Nat.reduceLeDiff, Nat.reduceLT, bxR, hq1, hq3, h4, h18, h19, h20, hr1, hr2, d1, g93, cc0, cc1, hbs3, hG2]
        obtain ⟨m1, m2⟩ := Bool.or_eq_false_iff.1 hm
        have m1 : rowK N1 F1 ar ||| fAt F1 a = fAt F1 a := by simpa using m1
        have m2 : (allN N1 ar || bAt N1 a) = bAt N1 a := by simpa using m2
        have e1 : F1.set a (rowK N1 F1 ar ||| fAt F1 a) = F1 := by rw [m1]; exact set_self (fAt_at hal)
        have e2 : N1.set a (allN N1 ar || bAt N1 a) = N1 := by rw [m2]; exact set_self (bAt_at (by rw [h.two.len]; exact hal))
        rw [e1, e2] at t4
        refine ⟨(i + 1, N1, F1, mo), by simp only; omega, h.chg cc t4 rfl h.lt h.nsnd h.fsnd (by simp only [bxP, bxQ, bxQ2, reduceCtorEq, hq1, hq3, h4, h18, h19, h20, hr1, hr2, d1, g93, cc0, cc1, hbs3, hG2]) (by simp only [bxP, bxQ, bxQ2, reduceCtorEq, hq1, hq3, h4, h18, h19, h20, hr1, hr2, d1, g93, cc0, cc1, hbs3, hG2]) (by simp only [bxP, bxQ, bxQ2, reduceCtorEq, hq1, hq3, h4, h18, h19, h20, hr1, hr2, d1, g93, cc0, cc1, hbs3, hG2]), by simp only; omega, rfl, rfl, hb1, hb2, fun e j r hj hr => ?_⟩
        by_cases hji : j = i
        · subst hji
          rw [hz] at hr
          injection hr with hr
          subst hr
          exact closed_of (by simp only [Int.toNat_natCast]; exact m1) (by simp only [Int.toNat_natCast]; exact m2)
        · exact hcl e j r (by simp only at hj; omega) hr
    · have d1 : decide ((i : Int) < (g.rules.length : Int)) = false := decide_eq_false (by omega)
      simp (maxSteps := 4000000) (disch := first | omega | assumption | (simp only [bxS, bxV, stOk, Nat.reduceBEq, Nat.reduceEqDiff, Nat.reduceAdd]; done) | (simp only [bxU]; omega) | ((try apply has_setN); apply has_ofL; simp only [bxL]; omega)) only [↓bxD, bxP, bxQ, bxQ2, Nat.reduceBEq, reduceCtorEq, Nat.reduceAdd, Nat.reduceSub, Nat.reduceMul, Nat.reduceLeDiff, Nat.reduceLT, bxR, hq1, hq3, h4, h18, h19, h20, hr1, hr2, d1]
      refine hQ _ _ N1 F1 mo (h.chg ((Chg.refl _ M1)) h.two rfl h.lt h.nsnd h.fsnd (by simp only [bxP, bxQ, bxQ2, reduceCtorEq, hq1, hq3, h4, h18, h19, h20, hr1, hr2, d1]) (by simp only [bxP, bxQ, bxQ2, reduceCtorEq, hq1, hq3, h4, h18, h19, h20, hr1, hr2, d1]) (by simp only [bxP, bxQ, bxQ2, reduceCtorEq, hq1, hq3, h4, h18, h19, h20, hr1, hr2, d1])) (by simp only [bxP, bxQ, bxQ2, reduceCtorEq, hq1, hq3, h4, h18, h19, h20, hr1, hr2, d1]) hb1 hb2 fun e r hr => ?_
      obtain ⟨j, hj⟩ := List.getElem?_of_mem hr
      exact hcl e j r (by have := (List.getElem?_eq_some_iff.1 hj).1; omega) hj
  · exact ⟨h, Nat.zero_le _, h4, h18, h19, h20, Nat.le_refl _, fun e => (by cases e), fun _ j r hj => by simp at hj⟩
theorem beginsOf_any {M0 : MH} {g : Gr} {vr vf vc vk : MV} {es : List (List MV)} (h : GrAt M0 vr vf vc vk es g) (hlo : M0.lo ≤ M0.n) (hok : GrOk g) : Cp fns 46 [.ag (gcs g vr vf vc vk)] M0 (BgPost g M0) := by
  have hG : ∀ l, l = gcs g vr vf vc vk → Ev.getN (ofL l 0) 7 0 = some (gcs g vr vf vc vk) := fun l e => by subst e; exact (at_ofL (gcs g vr vf vc vk)).getN
  have hG := hG [MV.i IntKind.i64 g.names, MV.i IntKind.i64 g.kinds, MV.i IntKind.i64 g.start, vr, vf, vc, vk] rfl
  refine Cp_call (fn := F46) (by kernel_rfl) (Nat.le_of_ble_eq_true rfl) ?_
  show Wp fns B46 (T.set q0 (some (.ag (gcs g vr vf vc vk))) T.lf) M0 _
  unfold B46
  rw [show gcs g vr vf vc vk = [MV.i IntKind.i64 g.names, MV.i IntKind.i64 g.kinds, MV.i IntKind.i64 g.start, vr, vf, vc, vk] from rfl]
  obtain ⟨nn, hnn⟩ : ∃ n : Nat, g.names = n := ⟨g.names.toNat, by have := hok.n1; omega⟩
  have hn40 := hok.n2
  simp (maxSteps := 4000000) (disch := first | omega | assumption | (simp only [bxS, bxV, stOk, Nat.reduceBEq, Nat.reduceEqDiff, Nat.reduceAdd]; done) | (simp only [bxU]; omega) | ((try apply has_setN); apply has_ofL; simp only [bxL]; omega)) only [↓bxD, bxP, bxQ, bxQ2, Nat.reduceBEq, reduceCtorEq, Nat.reduceAdd, Nat.reduceSub, Nat.reduceMul, Nat.reduceLeDiff, Nat.reduceLT, bxR]
  generalize hM1 : MH.push _ _ = M1
  have g0 : M1.get M0.n = some (.cs false 7 (ofL [MV.i IntKind.i64 g.names, MV.i IntKind.i64 g.kinds, MV.i IntKind.i64 g.start, vr, vf, vc, vk] 0)) := by rw [← hM1, push_old (by show M0.n < M0.n + 1; omega)]; exact push_new _
  have g02 : M1.get (M0.n + 1) = some (.cs false 2 (ofL [.nils, .nils] 0)) := by rw [← hM1]; exact push_new (M := M0.push _) _
  have x1 : Ext M0 M1 := by rw [← hM1]; exact (Ext.push M0 _).trans (.push _ _)
  have n1 : M1.n = M0.n + 2 := by rw [← hM1]; rfl
  have l1 := x1.lo
  clear hM1
  refine Wp_dreg_of (by omega) ?_
  have g0' := g0
  rw [hnn] at hG g0
  rw [hnn]
  have hmk := fun (id : Nat) => mksF_ok (id := id) (sz := 1) (bytes := 1) (zs := [.b false]) (k := .i64) (k' := .i64) (n := nn) (by omega) (by omega)
  have hmk2 := fun (id : Nat) => mksF_ok (id := id) (sz := 1) (bytes := 8) (zs := [.i .u64 0]) (k := .i64) (k' := .i64) (n := nn) (by omega) (by omega)
  have ff : ∀ a b : Nat, fillM [(0, 1, MV.sl a 0 nn 0), (1, 1, MV.sl b 0 nn 0)] [.nils, .nils] = some [.sl a 0 nn 0, .sl b 0 nn 0] := fun _ _ => rfl
  simp (maxSteps := 4000000) (disch := first | omega | assumption | (simp only [bxS, bxV, stOk, Nat.reduceBEq, Nat.reduceEqDiff, Nat.reduceAdd]; done) | (simp only [bxU]; omega) | ((try apply has_setN); apply has_ofL; simp only [bxL]; omega)) only [↓bxD, bxP, bxQ, bxQ2, Nat.reduceBEq, reduceCtorEq, Nat.reduceAdd, Nat.reduceSub, Nat.reduceMul, Nat.reduceLeDiff, Nat.reduceLT, bxR, hG, g0, float_mks, hmk, hmk2, float_new, ff, adopt_cons]
  rw [lateL_of (by rfl)]
  generalize hM2 : adoptM _ _ = M2
  obtain ⟨x2, n2, gN, gF, gS⟩ := adopt3 hM2
  have l2 := x2.lo
  have hS := stW_ok (n := 2) (id := M1.n + 2) (off := 0) (sz := 2) (t := ofL [.nils, .nils] 0) (M := M2) (y := .ag [.sl M1.n 0 nn 0, .sl (M1.n + 1) 0 nn 0]) (by omega) rfl (has_ofL _ _ _ (by decide))
  clear hM2
  simp (maxSteps := 4000000) (disch := first | omega | assumption | (simp only [bxS, bxV, stOk, Nat.reduceBEq, Nat.reduceEqDiff, Nat.reduceAdd]; done) | (simp only [bxU]; omega) | ((try apply has_setN); apply has_ofL; simp only [bxL]; omega)) only [↓bxD, bxP, bxQ, bxQ2, Nat.reduceBEq, reduceCtorEq, Nat.reduceAdd, Nat.reduceSub, Nat.reduceMul, Nat.reduceLeDiff, Nat.reduceLT, bxR, hG, g0, float_mks, hmk, hmk2, float_new, ff, adopt_cons, gS, hS]
  show Wp fns K46_6 _ _ _
  unfold K46_6
  simp (maxSteps := 4000000) (disch := first | omega | assumption | (simp only [bxS, bxV, stOk, Nat.reduceBEq, Nat.reduceEqDiff, Nat.reduceAdd]; done) | (simp only [bxU]; omega) | ((try apply has_setN); apply has_ofL; simp only [bxL]; omega)) only [↓bxD, bxP, bxQ, bxQ2, Nat.reduceBEq, reduceCtorEq, Nat.reduceAdd, Nat.reduceSub, Nat.reduceMul, Nat.reduceLeDiff, Nat.reduceLT, bxR, hG, g0, float_mks, hmk, hmk2, float_new, ff, adopt_cons]
  generalize hM3 : M2.set _ _ = M3
  have x3 : Ext M1 M3 := by rw [← hM3]; exact x2.set _ (by omega)
  have n3 : M3.n = M1.n + 3 := by rw [← hM3]; exact n2
  have gS3 : M3.get (M1.n + 2) = some (.cs false 2 (ofL (tw M1.n (M1.n + 1) nn) 0)) := by rw [← hM3, set_same]; rfl
  have gN3 : M3.get M1.n = some (.cs false 1 (ofL (zrow [.b false] nn) 0)) := by rw [← hM3, set_ne (by omega)]; exact gN
  have gF3 : M3.get (M1.n + 1) = some (.cs false 1 (ofL (zrow [.i .u64 0] nn) 0)) := by rw [← hM3, set_ne (by omega)]; exact gF
  have l3 := x3.lo
  clear hM3
  have hk40 := hok.k2
  have hk0 := hok.k1
  have hN0 : nn = (List.replicate nn false).length := by rw [List.length_replicate]
  have hF0 : nn = (List.replicate nn 0).length := by rw [List.length_replicate]
  have hb0 : ∀ a, bAt (List.replicate nn false) a = false := fun a => by
    unfold bAt
    rw [List.getD_eq_getElem?_getD, List.getElem?_replicate]
    split <;> rfl
  have hf0 : ∀ a, fAt (List.replicate nn 0) a = 0 := fun a => by
    unfold fAt
    rw [List.getD_eq_getElem?_getD, List.getElem?_replicate]
    split <;> rfl
  have t0 : Two M3 M1.n (M1.n + 1) (List.replicate nn false) (List.replicate nn 0) := ⟨⟨_, gN3, by rw [List.map_replicate, ← zrow_rep]; exact at_ofL _⟩, ⟨_, gF3, by rw [List.map_replicate]; show At (ofL (zrow [MV.i .u64 0] nn) 0) 0 (List.replicate nn (MV.i .u64 ((0 : Nat) : Int))); rw [← zrow_rep]; exact at_ofL _⟩, by omega, by omega, by omega, by rw [← hN0, ← hF0], fun k hk => by rw [(List.mem_replicate.1 hk).2]; decide⟩
  refine Wp_inv (σ := List Bool × List Nat × Bool) (fun p f' M' => BgSt M0 M' g vr vf vc vk es M1.n (M1.n + 1) (M1.n + 2) p.1 p.2.1 f' ∧ X.ev f' (.t q4) = .b p.2.2 ∧ (p.2.2 = false → ∀ r ∈ g.rules, BClosed p.1 p.2.1 r)) (fun p => 2 * big p.1 p.2.1 + p.2.2.toNat) ?_ (List.replicate nn false, List.replicate nn 0, true) ?_
  · rintro ⟨N, F, more⟩ f M ⟨h, h4, hcl⟩
    simp only at h h4 hcl
    have hq1 := h.fq1
    have hq3 := h.fq3
    have hb := h.b0
    unfold gcs at hb
    have hG := (at_ofL (gcs g vr vf vc vk)).getN
    obtain ⟨hr1, hr2⟩ := h.gr.rules.row.sl
    rw [h.gr.rules.len] at hr2
    simp only [q1, q3, q4] at hq1 hq3 h4
    unfold L46_4
    cases more with
    | true =>
      simp (maxSteps := 4000000) (disch := first | omega | assumption | (simp only [bxS, bxV, stOk, Nat.reduceBEq, Nat.reduceEqDiff, Nat.reduceAdd]; done) | (simp only [bxU]; omega) | ((try apply has_setN); apply has_ofL; simp only [bxL]; omega)) only [↓bxD, bxP, bxQ, bxQ2, Nat.reduceBEq, reduceCtorEq, Nat.reduceAdd, Nat.reduceSub, Nat.reduceMul, Nat.reduceLeDiff, Nat.reduceLT, bxR, hq1, hq3, h4, hb, hr1, hr2]
      show Wp fns K46_3 _ _ _
      unfold K46_3
      simp (maxSteps := 4000000) (disch := first | omega | assumption | (simp only [bxS, bxV, stOk, Nat.reduceBEq, Nat.reduceEqDiff, Nat.reduceAdd]; done) | (simp only [bxU]; omega) | ((try apply has_setN); apply has_ofL; simp only [bxL]; omega)) only [↓bxD, bxP, bxQ, bxQ2, Nat.reduceBEq, reduceCtorEq, Nat.reduceAdd, Nat.reduceSub, Nat.reduceMul, Nat.reduceLeDiff, Nat.reduceLT, bxR, hq1, hq3, h4, hb, hr1, hr2]
      refine begins_round (h.chg (Chg.refl _ M) h.two rfl h.lt h.nsnd h.fsnd (by simp only [bxP, bxQ, bxQ2, reduceCtorEq, hq1, hq3, h4, hb, hr1, hr2]) (by simp only [bxP, bxQ, bxQ2, reduceCtorEq, hq1, hq3, h4, hb, hr1, hr2]) (by simp only [bxP, bxQ, bxQ2, reduceCtorEq, hq1, hq3, h4, hb, hr1, hr2])) (by simp only [bxP, bxQ, bxQ2, reduceCtorEq, hq1, hq3, h4, hb, hr1, hr2]) (by simp only [bxP, bxQ, bxQ2, reduceCtorEq, hq1, hq3, h4, hb, hr1, hr2]) (by simp only [bxP, bxQ, bxQ2, reduceCtorEq, hq1, hq3, h4, hb, hr1, hr2]) (by simp only [bxP, bxQ, bxQ2, reduceCtorEq, hq1, hq3, h4, hb, hr1, hr2]) _ fun f' M' N' F' more h' h4' hb1 hb2 hcl' => ?_
      refine ⟨(N', F', more), ?_, h', h4', hcl'⟩
      cases more with
      | true => have := hb2 rfl; simp only [Bool.toNat_true]; omega
      | false => simp only [Bool.toNat_true, Bool.toNat_false]; omega
    | false =>
      have hbs := h.bs
      have hq2 := h.fq2
      have hb2 := h.b2
      have hla := h.la
      have hlf := h.lf
      have hn := h.ext.n
      have hl := h.ext.lo
      have hS : ∀ n, stW M 2 (M0.n + 1) 0 (.ag (tw M1.n (M1.n + 1) n)) (some (.cs false 2 (ofL [.nils, .nils] 0))) = _ := fun n => stW_ok (n := 2) (id := M0.n + 1) (off := 0) (sz := 2) (M := M) (y := .ag (tw M1.n (M1.n + 1) n)) (by omega) rfl (has_ofL _ _ _ (by decide))
      have hcl2 : ∀ n, MV.cells (.ag (tw M1.n (M1.n + 1) n)) = tw M1.n (M1.n + 1) n := fun _ => rfl
      have hgt : ∀ n, Ev.getN (setN (tw M1.n (M1.n + 1) n) 0 (ofL [.nils, .nils] 0)) 2 0 = some (tw M1.n (M1.n + 1) n) := fun n => (at_setN (tw M1.n (M1.n + 1) n) 0 _).getN
      simp only [q2] at hq2
      have hq2' := slot_get hq2
      have hk40' := hok.k2
      have hG2 : Ev.getN (ofL (tw M1.n (M1.n + 1) F.length) 0) 2 0 = some (tw M1.n (M1.n + 1) F.length) := (at_ofL (tw M1.n (M1.n + 1) F.length)).getN
      simp (maxSteps := 4000000) (disch := first | omega | assumption | (simp only [bxS, bxV, stOk, Nat.reduceBEq, Nat.reduceEqDiff, Nat.reduceAdd]; done) | (simp only [bxU]; omega) | ((try apply has_setN); apply has_ofL; simp only [bxL]; omega)) only [↓bxD, bxP, bxQ, bxQ2, Nat.reduceBEq, reduceCtorEq, Nat.reduceAdd, Nat.reduceSub, Nat.reduceMul, Nat.reduceLeDiff, Nat.reduceLT, bxR, hq1, hq2, hq2', hq3, h4, hbs, hb2, hG2, hS, res_cN, cNV_p, cNo_cs, get_set, map_ag, hcl2, hgt]
      show Wp fns K46_5 _ _ _
      unfold K46_5
      simp (maxSteps := 4000000) (disch := first | omega | assumption | (simp only [bxS, bxV, stOk, Nat.reduceBEq, Nat.reduceEqDiff, Nat.reduceAdd]; done) | (simp only [bxU]; omega) | ((try apply has_setN); apply has_ofL; simp only [bxL]; omega)) only [↓bxD, bxP, bxQ, bxQ2, Nat.reduceBEq, reduceCtorEq, Nat.reduceAdd, Nat.reduceSub, Nat.reduceMul, Nat.reduceLeDiff, Nat.reduceLT, bxR, hq1, hq2, hq2', hq3, h4, hbs, hb2, hG2, hS, res_cN, cNV_p, cNo_cs, get_set, map_ag, hcl2, hgt]
      have hcl' := hcl rfl
      have hNv := begins_vec (by rw [h.two.len]; exact h.len) h.nsnd hcl' hok
      refine ⟨h.ext.set _ (by omega), M1.n, M1.n + 1, N, F, rfl, h.two.chg (S := fun j => j = M0.n + 1) ((Chg.refl _ M).set _ (.inl rfl)) (by omega) (by omega), by omega, by omega, hNv, h.len, h.lt, begins_mat h.len hNv h.fsnd h.lt hcl' hok⟩
  · refine ⟨⟨h, hok, x1.trans x3, hlo, (x3.old _ (by omega)).trans g0', t0, (x3.old _ (by omega)).trans g02, by omega, by omega, ⟨by omega, by omega, by omega, by omega⟩, by rw [← hF0, hnn]; simp, fun k hk => by rw [(List.mem_replicate.1 hk).2]; exact Nat.two_pow_pos _, fun a ha => (by rw [hb0] at ha; cases ha), fun a t ha => (by rw [hf0, Nat.zero_testBit] at ha; cases ha), by rw [← hF0]; exact gS3, by simp only [bxP, bxQ, bxQ2, reduceCtorEq, hG, g0, float_mks, hmk, hmk2, float_new, ff, adopt_cons], by simp only [bxP, bxQ, bxQ2, reduceCtorEq, hG, g0, float_mks, hmk, hmk2, float_new, ff, adopt_cons], by simp only [bxP, bxQ, bxQ2, reduceCtorEq, hG, g0, float_mks, hmk, hmk2, float_new, ff, adopt_cons]⟩, by simp only [bxP, bxQ, bxQ2, reduceCtorEq, hG, g0, float_mks, hmk, hmk2, float_new, ff, adopt_cons], fun e => by cases e⟩
theorem ixA_0 {n s id off : Nat} {k : IntKind} (h : 0 < n) : ixAV n s (.p id off) (.i k 0) = some (.p id (off + 0 * s)) := ixA_p (i := 0) h
theorem ixA_1 {n s id off : Nat} {k : IntKind} (h : 1 < n) : ixAV n s (.p id off) (.i k 1) = some (.p id (off + 1 * s)) := ixA_p (i := 1) h
theorem ixA_2 {n s id off : Nat} {k : IntKind} (h : 2 < n) : ixAV n s (.p id off) (.i k 2) = some (.p id (off + 2 * s)) := ixA_p (i := 2) h
structure Rdy (M0 M : MH) (g : Gr) (vr vf vc vk : MV) (es : List (List MV)) (f : Fr) : Prop where
  gr : GrAt M vr vf vc vk es g
  ext : Ext M0 M
  lo0 : M0.lo ≤ M0.n
  lt : M0.n < M.n
  box : M.get M0.n = some (.cs false 7 (ofL (gcs g vr vf vc vk) 0))
  fr : X.ev f (.t q1) = .p M0.n 0
def FormPost (g : Gr) (M0 : MH) : MV → MH → Prop := fun m M' => m = .tp [.i .i64 (formP g).1, .i .i64 (formP g).2] ∧ Ext M0 M'
structure NSt (M0 M : MH) (g : Gr) (vr vf vc vk : MV) (es : List (List MV)) (id : Nat) (l : List Bool) (f : Fr) : Prop where
  gr : GrAt M0 vr vf vc vk es g
  ok : GrOk g
  ext : Ext M0 M
  lo0 : M0.lo ≤ M0.n
  b0 : M.get M0.n = some (.cs false 7 (ofL (gcs g vr vf vc vk) 0))
  id1 : M0.n < id
  id2 : id < M.n
  row : BoolsAt M id l
  len : l.length = g.names.toNat
  q1 : X.ev f (.t q1) = .p M0.n 0
  q3 : X.ev f (.t q3) = .sl id 0 l.length 0
end Go.Proofs.Ytddaggodpmhmpaa.K
set_option linter.unusedSimpArgs false
set_option linter.unusedVariables false
namespace Go.Proofs.Ytddaggodpmhmpaa.Ev
open Go
def mostZ : Int := 1000000000
def shV (l : List Int) (s : Int) : Int := if s < 0 then 1 else l.getD s.toNat (-1)
def shOk (l : List Int) (r : List Int) : Bool := r.all fun s => decide (0 ≤ shV l s)
def shSum (l : List Int) (r : List Int) : Int := (r.map (shV l)).sum
def shRow (l : List Int) (r : List Int) : Int := if shOk l r = true then min (shSum l r) mostZ else -1
def shCond (l : List Int) (r : Int × List Int × Int) : Bool := decide (0 ≤ shRow l r.2.1) && (decide (l.getD r.1.toNat (-1) < 0) || decide (shRow l r.2.1 < l.getD r.1.toNat (-1)))
def shStep (l : List Int) (r : Int × List Int × Int) : List Int := if shCond l r = true then l.set r.1.toNat (shRow l r.2.1) else l
def shRnd (rs : List (Int × List Int × Int)) (l : List Int) : List Int := rs.foldl shStep l
def shIt (g : Gr) : Nat → List Int
  | 0 => List.replicate g.names.toNat (-1)
  | n + 1 => shRnd g.rules (shIt g n)
def ShStill (rs : List (Int × List Int × Int)) (l : List Int) : Prop := ∀ r ∈ rs, shCond l r = false
def ShVec (g : Gr) (l : List Int) : Prop := (∃ n, l = shIt g n) ∧ ShStill g.rules l
structure ShIn (g : Gr) (l : List Int) : Prop where
  len : l.length = g.names.toNat
  lo : ∀ z ∈ l, -1 ≤ z ∧ z ≤ mostZ
  met : ∀ (a : Nat) z, l[a]? = some z → 0 ≤ z → ∃ r ∈ g.rules, r.1.toNat = a ∧ shOk l r.2.1 = true ∧ shRow l r.2.1 ≤ z
theorem shV_lo {l : List Int} (h : ∀ z ∈ l, -1 ≤ z ∧ z ≤ mostZ) (s : Int) : -1 ≤ shV l s ∧ shV l s ≤ mostZ := by
  unfold shV mostZ at *
  split
  · omega
  · rw [List.getD_eq_getElem?_getD]
    cases hx : l[s.toNat]? with
    | none => simp only [Option.getD_none]; omega
    | some z => exact h z (List.mem_of_getElem? hx)
def ShLe (a b : List Int) : Prop := ∀ s, 0 ≤ shV b s → 0 ≤ shV a s ∧ shV a s ≤ shV b s
theorem ShLe.refl (a : List Int) : ShLe a a := fun s h => ⟨h, Int.le_refl _⟩
theorem ShLe.trans {a b c : List Int} (h : ShLe a b) (k : ShLe b c) : ShLe a c := fun s hs => by
  obtain ⟨h1, h2⟩ := k s hs
  obtain ⟨h3, h4⟩ := h s h1
  exact ⟨h3, by omega⟩
theorem ShLe.ok {a b : List Int} (h : ShLe a b) {r : List Int} (hr : shOk b r = true) : shOk a r = true := by
  unfold shOk at *
  rw [List.all_eq_true] at *
  intro s hs
  have := hr s hs
  simp only [decide_eq_true_eq] at *
  exact (h s this).1
theorem ShLe.sum {a b : List Int} (h : ShLe a b) : ∀ {r : List Int}, shOk b r = true → shSum a r ≤ shSum b r
  | [], _ => Int.le_refl _
  | s :: r, hr => by
    unfold shOk at hr
    simp only [List.all_cons, Bool.and_eq_true, decide_eq_true_eq] at hr
    have h1 := (h s hr.1).2
    have h2 := ShLe.sum h (r := r) hr.2
    unfold shSum at *
    simp only [List.map_cons, List.sum_cons]
    omega
theorem shSum_pos {l : List Int} : ∀ {r : List Int}, shOk l r = true → 0 ≤ shSum l r
  | [], _ => Int.le_refl _
  | s :: r, hr => by
    unfold shOk at hr
    simp only [List.all_cons, Bool.and_eq_true, decide_eq_true_eq] at hr
    have h2 := shSum_pos (l := l) (r := r) hr.2
    unfold shSum at *
    simp only [List.map_cons, List.sum_cons]
    omega
theorem shRow_pos {l r : List Int} : 0 ≤ shRow l r ↔ shOk l r = true := by
  unfold shRow
  split
  · rename_i h
    have := shSum_pos h
    unfold mostZ
    constructor
    · intro _; exact h
    · intro _; omega
  · rename_i h
    constructor
    · intro h'; omega
    · intro h'; exact absurd h' h
theorem shRow_le {l r : List Int} : -1 ≤ shRow l r ∧ shRow l r ≤ mostZ := by
  unfold shRow mostZ
  split
  · rename_i h
    have := shSum_pos h
    omega
  · omega
theorem ShLe.row {a b : List Int} (h : ShLe a b) {r : List Int} (hr : shOk b r = true) : shRow a r ≤ shRow b r := by
  have := h.sum hr
  unfold shRow
  rw [hr, h.ok hr]
  simp only [if_true]
  unfold mostZ
  omega
theorem getD_setS {l : List Int} {i j : Nat} {z d : Int} (hi : i < l.length) : (l.set i z).getD j d = if i = j then z else l.getD j d := by
  rw [List.getD_eq_getElem?_getD, List.getD_eq_getElem?_getD, List.getElem?_set]
  by_cases e : i = j
  · subst e; simp [hi]
  · simp [e]
theorem ShLe.step {l : List Int} {i : Nat} {z : Int} (hi : i < l.length) (h0 : 0 ≤ z) (h1 : l.getD i (-1) < 0 ∨ z < l.getD i (-1)) : ShLe (l.set i z) l := fun s hs => by
  unfold shV at *
  by_cases h : s < 0
  · simp only [h, if_true] at *; omega
  · simp only [h, if_false] at *
    rw [getD_setS hi]
    by_cases e : i = s.toNat
    · subst e; simp only [if_true]; omega
    · simp only [e, if_false]; omega
theorem ShIn.step {g : Gr} {l : List Int} (h : ShIn g l) (hok : GrOk g) {r : Int × List Int × Int} (hr : r ∈ g.rules) : ShIn g (shStep l r) := by
  unfold shStep
  split
  · rename_i hc
    unfold shCond at hc
    simp only [Bool.and_eq_true, Bool.or_eq_true, decide_eq_true_eq] at hc
    obtain ⟨hl0, hl1⟩ := hok.left r hr
    have hi : r.1.toNat < l.length := by rw [h.len]; omega
    have hle := ShLe.step hi hc.1 hc.2
    have hrw := @shRow_le l r.2.1
    refine ⟨by rw [List.length_set]; exact h.len, fun z hz => ?_, fun a z ha hz => ?_⟩
    · rcases List.mem_or_eq_of_mem_set hz with h1 | h1
      · exact h.lo z h1
      · subst h1; exact hrw
    · rw [List.getElem?_set] at ha
      by_cases e : r.1.toNat = a
      · subst e
        rw [if_pos rfl, if_pos hi] at ha
        injection ha with ha
        refine ⟨r, hr, rfl, hle.ok (shRow_pos.1 hc.1), ?_⟩
        have := hle.row (shRow_pos.1 hc.1)
        omega
      · rw [if_neg e] at ha
        obtain ⟨r', h1, h2, h3, h4⟩ := h.met a z ha hz
        exact ⟨r', h1, h2, hle.ok h3, Int.le_trans (hle.row h3) h4⟩
  · exact h
theorem ShIn.fold {g : Gr} (hok : GrOk g) : ∀ {rs : List (Int × List Int × Int)} {l : List Int}, (∀ r ∈ rs, r ∈ g.rules) → ShIn g l → ShIn g (shRnd rs l)
  | [], l, hs, h => h
  | r :: rs, l, hs, h => ShIn.fold (rs := rs) (l := shStep l r) hok (fun x hx => hs x (List.mem_cons_of_mem _ hx)) (h.step hok (hs r List.mem_cons_self))
theorem ShIn.it {g : Gr} (hok : GrOk g) : ∀ n, ShIn g (shIt g n)
  | 0 => by
    refine ⟨List.length_replicate, fun z hz => ?_, fun a z ha hz => ?_⟩
    · rw [(List.mem_replicate.1 hz).2]; unfold mostZ; omega
    · have : z = -1 := by
        have := List.mem_of_getElem? ha
        exact (List.mem_replicate.1 this).2
      omega
  | n + 1 => ShIn.fold hok (fun r h => h) (ShIn.it hok n)
theorem ShVec.inn {g : Gr} {l : List Int} (h : ShVec g l) (hok : GrOk g) : ShIn g l := by
  obtain ⟨⟨n, rfl⟩, _⟩ := h
  exact ShIn.it hok n
def shW (z : Int) : Nat := if z < 0 then 1000000001 else z.toNat
def shMu (l : List Int) : Nat := (l.map shW).sum
theorem shMu_set : ∀ {l : List Int} {i : Nat} {z : Int}, i < l.length → shW z < shW (l.getD i (-1)) → shMu (l.set i z) < shMu l
  | [], i, z, hi, h => by simp at hi
  | x :: l, 0, z, hi, h => by
    rw [List.set_cons_zero]
    unfold shMu
    simp only [List.map_cons, List.sum_cons, List.getD_cons_zero] at *
    omega
  | x :: l, i + 1, z, hi, h => by
    rw [List.set_cons_succ]
    have := shMu_set (l := l) (i := i) (z := z) (by simpa using hi) (by simpa using h)
    unfold shMu at *
    simp only [List.map_cons, List.sum_cons] at *
    omega
theorem shMu_step {g : Gr} {l : List Int} (h : l.length = g.names.toNat) (hok : GrOk g) {r : Int × List Int × Int} (hr : r ∈ g.rules) (hc : shCond l r = true) : shMu (l.set r.1.toNat (shRow l r.2.1)) < shMu l := by
  unfold shCond at hc
  simp only [Bool.and_eq_true, Bool.or_eq_true, decide_eq_true_eq] at hc
  obtain ⟨hl0, hl1⟩ := hok.left r hr
  have hi : r.1.toNat < l.length := by rw [h]; omega
  have hrw := @shRow_le l r.2.1
  refine shMu_set hi ?_
  unfold mostZ at hrw
  unfold shW
  obtain ⟨h0, h1⟩ := hc
  rw [if_neg (by omega)]
  split <;> omega
end Go.Proofs.Ytddaggodpmhmpaa.Ev
set_option linter.unusedSimpArgs false
set_option linter.unusedVariables false
namespace Go.Proofs.Ytddaggodpmhmpaa.K
open Go Ev
set_option maxRecDepth 100000
set_option maxHeartbeats 4000000

theorem ev_wrm (c : CallM) (f : Fr) (M : MH) (g : WG) (x y z : X) : Iop.ev c f M (.wrm g x y z) = wrF g M (x.ev f) (y.ev f) (z.ev f) := rfl
def IntsAt (M : MH) (id : Nat) (l : List Int) : Prop := ∃ t, M.get id = some (.cs false 1 t) ∧ At t 0 (l.map (MV.i .i64))
theorem flat_ints : ∀ l : List Int, (ints l).flatten = l.map (MV.i .i64)
  | [] => rfl
  | b :: l => by
    show (MV.i .i64 b) :: (ints l).flatten = _
    rw [flat_ints l]; rfl
theorem IntsAt.same {M M' : MH} {id : Nat} {l : List Int} (h : IntsAt M id l) (e : M'.get id = M.get id) : IntsAt M' id l := let ⟨t, h1, h2⟩ := h; ⟨t, e.trans h1, h2⟩
theorem IntsAt.read {M : MH} {id : Nat} {l : List Int} (h : IntsAt M id l) : ∃ t, M.get id = some (.cs false 1 t) ∧ (∀ i b, l[i]? = some b → cget t (i * 1) = some (.i .i64 b)) ∧ (∀ i, i < l.length → hasB t 1 (i * 1) = true) ∧ ∀ i x, i < l.length → At (setN [.i .i64 x] (i * 1) t) 0 ((l.set i x).map (MV.i .i64)) := by
  obtain ⟨t, h1, h2⟩ := h
  refine ⟨t, h1, fun i b hb => ?_, fun i hi => has_at h2 (Nat.zero_le _) (by rw [List.length_map]; omega), fun i x hi => ?_⟩
  · rw [Nat.mul_one]
    have := h2 i _ (by rw [List.getElem?_map, hb]; rfl)
    rwa [Nat.zero_add] at this
  · rw [List.map_set]
    exact h2.set' i _ (by rw [List.length_map]; exact hi) (by omega)
theorem IntsAt.new {M : MH} (n : Nat) : IntsAt (M.push (.cs false 1 (ofL (zrow [.i .i64 0] n) 0))) M.n (List.replicate n 0) := ⟨_, push_new _, by rw [List.map_replicate, ← zrow_rep]; exact at_ofL _⟩
theorem IntsAt.row {M : MH} {id : Nat} {l : List Int} (h : IntsAt M id l) (hid : id < M.n) : IntRow M (.sl id 0 l.length 0) l := by
  obtain ⟨t, h1, h2⟩ := h
  refine ⟨fun e he => ?_, .inr ⟨id, 0, 0, false, 1, t, by rw [ints_len], h1, hid, ?_⟩⟩
  · obtain ⟨b, _, rfl⟩ := List.mem_map.1 he; rfl
  · rw [flat_ints]; exact h2
theorem one_ints (l : List Int) : allOne (l.map (MV.i .i64)) = true := by
  unfold allOne
  rw [List.all_eq_true]
  intro x hx
  obtain ⟨z, _, rfl⟩ := List.mem_map.1 hx
  rfl
theorem src_part {M : MH} {id off n d : Nat} {l : List Int} {ro : Bool} {s : Nat} {c : T MV} (hg : M.get id = some (.cs ro s c)) (hl : l.length = n) (h : At c off (l.map (MV.i .i64))) : srcM M 1 (.sl id off n d) = some (n, l.map (MV.i .i64)) := by
  subst hl
  cases l with
  | nil => rfl
  | cons x l =>
    unfold srcM
    simp only [List.length_cons, hg]
    have hn : Ev.getN c ((x :: l).map (MV.i .i64)).length off = _ := h.getN
    rw [List.length_map, List.length_cons] at hn
    rw [Nat.mul_one, hn]
theorem cpy_rep {M : MH} {id off n d m q : Nat} {y : MV} {l : List MV} {t : T MV} (hy : srcM M 1 y = some (m, l)) (hq : min m n = q + 1) (hl : q + 1 ≤ l.length) (ho : allOne (l.take (q + 1)) = true) (hg : M.get id = some (.cs false 1 t)) (hlo : M.lo ≤ id) (hb : hasB t (q + 1) off = true) : wrF .cpy M (.sl id off n d) y y = some (.i .i64 ((q : Int) + 1), M.set id (some (.cs false 1 (setN (l.take (q + 1)) off t)))) := by
  unfold wrF
  simp only [hy, hq, ho, ble_t' hl, hg, ble_t' hlo, hb, Bool.and_self, cond_true]
theorem at_rep {t : T MV} {k q n : Nat} {v z : Int} (hk : k + q ≤ n) (h : At t 0 ((List.replicate k v ++ List.replicate (n - k) z).map (MV.i .i64))) : At (setN (List.replicate q (MV.i .i64 v)) k t) 0 ((List.replicate (k + q) v ++ List.replicate (n - (k + q)) z).map (MV.i .i64)) := fun j x hj => by
  rw [cget_setN, Nat.zero_add]
  have h' := h j
  rw [Nat.zero_add] at h'
  simp only [List.map_append, List.map_replicate] at hj h'
  by_cases h1 : k ≤ j ∧ j < k + q
  · rw [if_pos (by rw [List.length_replicate]; exact h1), List.getElem?_replicate, if_pos (by omega)]
    rw [List.getElem?_append_left (by rw [List.length_replicate]; omega), List.getElem?_replicate, if_pos (by omega)] at hj
    exact hj
  · rw [if_neg (by rw [List.length_replicate]; exact h1)]
    refine h' x ?_
    by_cases h2 : j < k
    · rw [List.getElem?_append_left (by rw [List.length_replicate]; omega), List.getElem?_replicate, if_pos (by omega)] at hj ⊢
      exact hj
    · rw [List.getElem?_append_right (by rw [List.length_replicate]; omega), List.getElem?_replicate, List.length_replicate] at hj ⊢
      split at hj
      · rw [if_pos (by omega)]; exact hj
      · cases hj
theorem cv_i (k k' : IntKind) (z : Int) : cvIV k (.i k' z) = some (.i k (wrapF k z)) := rfl
theorem mul_run : ∀ (n : Nat), n ≤ 40 → ∀ M : MH, callF fns 20 50 [.i .u64 1, .i .u64 (n : Int)] M = some (.tp [.i .u64 0, .i .u64 (n : Int)], M)
  | 0, _, M => by kernel_rfl
  | 1, _, M => by kernel_rfl
  | 2, _, M => by kernel_rfl
  | 3, _, M => by kernel_rfl
  | 4, _, M => by kernel_rfl
  | 5, _, M => by kernel_rfl
  | 6, _, M => by kernel_rfl
  | 7, _, M => by kernel_rfl
  | 8, _, M => by kernel_rfl
  | 9, _, M => by kernel_rfl
  | 10, _, M => by kernel_rfl
  | 11, _, M => by kernel_rfl
  | 12, _, M => by kernel_rfl
  | 13, _, M => by kernel_rfl
  | 14, _, M => by kernel_rfl
  | 15, _, M => by kernel_rfl
  | 16, _, M => by kernel_rfl
  | 17, _, M => by kernel_rfl
  | 18, _, M => by kernel_rfl
  | 19, _, M => by kernel_rfl
  | 20, _, M => by kernel_rfl
  | 21, _, M => by kernel_rfl
  | 22, _, M => by kernel_rfl
  | 23, _, M => by kernel_rfl
  | 24, _, M => by kernel_rfl
  | 25, _, M => by kernel_rfl
  | 26, _, M => by kernel_rfl
  | 27, _, M => by kernel_rfl
  | 28, _, M => by kernel_rfl
  | 29, _, M => by kernel_rfl
  | 30, _, M => by kernel_rfl
  | 31, _, M => by kernel_rfl
  | 32, _, M => by kernel_rfl
  | 33, _, M => by kernel_rfl
  | 34, _, M => by kernel_rfl
  | 35, _, M => by kernel_rfl
  | 36, _, M => by kernel_rfl
  | 37, _, M => by kernel_rfl
  | 38, _, M => by kernel_rfl
  | 39, _, M => by kernel_rfl
  | 40, _, M => by kernel_rfl
  | n + 41, h, _ => absurd h (by omega)
theorem mul_any {M : MH} {n : Nat} (h : n ≤ 40) : Cp fns 50 [.i .u64 1, .i .u64 (n : Int)] M fun m M' => m = .tp [.i .u64 0, .i .u64 (n : Int)] ∧ M' = M := ⟨_, _, callA_of (mul_run n h M), rfl, rfl⟩
theorem wrap_u {z : Int} (h : 0 ≤ z) (h' : z < 9223372036854775808) : wrapF .u64 z = z := by
  rw [wrapF_eq]
  have e64 : (2 : Int) ^ 64 = 18446744073709551616 := by decide
  simp [IntKind.wrap, IntKind.bits, IntKind.signed, e64]
  omega
theorem cut_lo {id n k : Nat} (h : k ≤ n) : cutM 1 (.sl id 0 n 0) (some (.i .i64 (k : Int))) none = some (.sl id k (n - k) k) := by
  show (bif Nat.ble k n && Nat.ble n n then some (MV.sl id (0 + k * 1) (n - k) (0 + k)) else none) = _
  rw [ble_t' h, ble_t' (Nat.le_refl n), Nat.zero_add, Nat.zero_add, Nat.mul_one]
  rfl
theorem cut_hi {id n k : Nat} (h : k ≤ n) : cutM 1 (.sl id 0 n 0) none (some (.i .i64 (k : Int))) = some (.sl id 0 k 0) := by
  show (bif Nat.ble 0 k && Nat.ble k n then some (MV.sl id (0 + 0 * 1) (k - 0) (0 + 0)) else none) = _
  rw [ble_t' h, ble_t' (Nat.zero_le k)]
  rfl
theorem repeat_any {M : MH} {v : MV} {z : Int} {n : Nat} (h : IntRow M v [z]) (hn : 1 ≤ n ∧ n ≤ 40) (hlo : M.lo ≤ M.n) : Cp fns 44 [v, .i .i64 (n : Int)] M fun m M' => Ext M M' ∧ m = .sl M.n 0 n 0 ∧ IntsAt M' M.n (List.replicate n z) ∧ M'.n = M.n + 1 := by
  obtain ⟨hs1, hs2⟩ := h.sl
  refine Cp_call (fn := F44) (by kernel_rfl) (Nat.le_of_ble_eq_true rfl) ?_
  show Wp fns B44 (T.set q1 (some (.i .i64 (n : Int))) (T.set q0 (some v) T.lf)) M _
  unfold B44
  have d0 : decide ((n : Int) < 0) = false := decide_eq_false (by omega)
  have w1 : wrapF .u64 ((n : Nat) : Int) = (n : Int) := wrap_u (by omega) (by omega)
  have w2 : wrapF .u64 ((1 : Nat) : Int) = (1 : Int) := wrap_u (by omega) (by omega)
  have hs3 : slen v = 1 := hs2
  simp (maxSteps := 4000000) (disch := first | omega | assumption | (simp only [bxS, bxV, stOk, Nat.reduceBEq, Nat.reduceEqDiff, Nat.reduceAdd]; done) | (simp only [bxU]; omega) | ((try apply has_setN); apply has_ofL; simp only [bxL]; omega)) only [↓bxD, bxP, bxQ, Nat.reduceBEq, reduceCtorEq, Nat.reduceAdd, Nat.reduceSub, Nat.reduceMul, Nat.reduceLeDiff, Nat.reduceLT, bxR, hs1, hs3, d0, w1, w2, cv_i]
  show Wp fns K44_4 _ _ _
  unfold K44_4
  simp (maxSteps := 4000000) (disch := first | omega | assumption | (simp only [bxS, bxV, stOk, Nat.reduceBEq, Nat.reduceEqDiff, Nat.reduceAdd]; done) | (simp only [bxU]; omega) | ((try apply has_setN); apply has_ofL; simp only [bxL]; omega)) only [↓bxD, bxP, bxQ, Nat.reduceBEq, reduceCtorEq, Nat.reduceAdd, Nat.reduceSub, Nat.reduceMul, Nat.reduceLeDiff, Nat.reduceLT, bxR, hs1, hs3, d0, w1, w2, cv_i]
  refine bindP_call (mul_any hn.2) ?_
  rintro m M1 ⟨rfl, rfl⟩
  have z0 : decide ((0 : Int) < 0) = false := rfl
  have z1 : decide ((9223372036854775807 : Int) < (n : Int)) = false := decide_eq_false (by omega)
  simp (maxSteps := 4000000) (disch := first | omega | assumption | (simp only [bxS, bxV, stOk, Nat.reduceBEq, Nat.reduceEqDiff, Nat.reduceAdd]; done) | (simp only [bxU]; omega) | ((try apply has_setN); apply has_ofL; simp only [bxL]; omega)) only [↓bxD, bxP, bxQ, Nat.reduceBEq, reduceCtorEq, Nat.reduceAdd, Nat.reduceSub, Nat.reduceMul, Nat.reduceLeDiff, Nat.reduceLT, bxR, hs1, hs3, d0, w1, w2, cv_i, ext_tp, z0, z1]
  show Wp fns K44_3 _ _ _
  unfold K44_3
  simp (maxSteps := 4000000) (disch := first | omega | assumption | (simp only [bxS, bxV, stOk, Nat.reduceBEq, Nat.reduceEqDiff, Nat.reduceAdd]; done) | (simp only [bxU]; omega) | ((try apply has_setN); apply has_ofL; simp only [bxL]; omega)) only [↓bxD, bxP, bxQ, Nat.reduceBEq, reduceCtorEq, Nat.reduceAdd, Nat.reduceSub, Nat.reduceMul, Nat.reduceLeDiff, Nat.reduceLT, bxR, hs1, hs3, d0, w1, w2, cv_i]
  have w3 : wrapF .i64 (n : Int) = (n : Int) := wrap_in (by omega) (by omega)
  simp (maxSteps := 4000000) (disch := first | omega | assumption | (simp only [bxS, bxV, stOk, Nat.reduceBEq, Nat.reduceEqDiff, Nat.reduceAdd]; done) | (simp only [bxU]; omega) | ((try apply has_setN); apply has_ofL; simp only [bxL]; omega)) only [↓bxD, bxP, bxQ, Nat.reduceBEq, reduceCtorEq, Nat.reduceAdd, Nat.reduceSub, Nat.reduceMul, Nat.reduceLeDiff, Nat.reduceLT, bxR, hs1, hs3, d0, w1, w2, cv_i, w3, ev_mks, mks_ok]
  have hn0 := IntsAt.new (M := M1) n
  have hx0 : Ext M1 (M1.push (.cs false 1 (ofL (zrow [.i .i64 0] n) 0))) := .push M1 _
  have hn1 : (M1.push (.cs false 1 (ofL (zrow [.i .i64 0] n) 0))).n = M1.n + 1 := rfl
  generalize M1.push (.cs false 1 (ofL (zrow [.i .i64 0] n) 0)) = M2 at hn0 hx0 hn1
  obtain ⟨t, ht1, ht2⟩ := hn0
  have hl2 := hx0.lo
  have hsrc : srcM M2 1 v = some (1, [.i .i64 z]) := src_row (h.ext hx0)
  have hat := at_rep (k := 0) (q := 1) (n := n) (v := z) (by omega) (by simpa using ht2)
  have hcp := cpy_rep (M := M2) (id := M1.n) (off := 0) (n := n) (d := 0) (q := 0) hsrc (by omega) (Nat.le_refl 1) rfl ht1 (by omega) (has_at ht2 (Nat.le_refl 0) (by simp; omega))
  simp (maxSteps := 4000000) (disch := first | omega | assumption | (simp only [bxS, bxV, stOk, Nat.reduceBEq, Nat.reduceEqDiff, Nat.reduceAdd]; done) | (simp only [bxU]; omega) | ((try apply has_setN); apply has_ofL; simp only [bxL]; omega)) only [↓bxD, bxP, bxQ, Nat.reduceBEq, reduceCtorEq, Nat.reduceAdd, Nat.reduceSub, Nat.reduceMul, Nat.reduceLeDiff, Nat.reduceLT, bxR, hs1, hs3, d0, w1, w2, cv_i, ev_wrm, hcp]
  generalize hM3 : M2.set M1.n _ = M3
  have hx3 : Ext M1 M3 := by rw [← hM3]; exact hx0.set _ (Nat.le_refl _)
  have hn3 : M3.n = M1.n + 1 := by rw [← hM3]; exact hn1
  have hi3 : IntsAt M3 M1.n (List.replicate 1 z ++ List.replicate (n - 1) 0) := ⟨_, by rw [← hM3, set_same]; rfl, hat⟩
  clear hM3
  refine Wp_inv (σ := Nat) (fun k f M' => 1 ≤ k ∧ k ≤ n ∧ Ext M1 M' ∧ M'.n = M1.n + 1 ∧ X.ev f (.t q7) = .sl M1.n 0 n 0 ∧ X.ev f (.t q8) = .i .i64 (k : Int) ∧ IntsAt M' M1.n (List.replicate k z ++ List.replicate (n - k) 0)) (fun k => n - k) ?_ 1 ?_
  · rintro k f M' ⟨hk1, hk, hx, hnn, h7, h8, hI⟩
    have hll := hx.lo
    simp only [q7, q8] at h7 h8
    unfold L44_1
    by_cases hkn : k < n
    · have d1 : decide ((k : Int) < (n : Int)) = true := decide_eq_true (by omega)
      obtain ⟨t', ht1', ht2'⟩ := hI
      obtain ⟨q, hq⟩ : ∃ q, min k (n - k) = q + 1 := ⟨min k (n - k) - 1, by omega⟩
      have hat0 : At t' 0 ((List.replicate k z).map (MV.i .i64)) := by rw [List.map_append] at ht2'; exact ht2'.left
      have hsrc := src_part (n := k) (d := 0) ht1' List.length_replicate hat0
      have htk : ((List.replicate k z).map (MV.i .i64)).take (q + 1) = List.replicate (q + 1) (MV.i .i64 z) := by rw [List.map_replicate, List.take_replicate, Nat.min_eq_left (by omega)]
      have hcp := cpy_rep (M := M') (id := M1.n) (off := k) (n := n - k) (d := k) (q := q) hsrc hq (by rw [List.length_map, List.length_replicate]; omega) (by rw [htk, ← List.map_replicate]; exact one_ints _) ht1' (by omega) (has_at ht2' (Nat.zero_le k) (by simp; omega))
      rw [htk] at hcp
      have hat := at_rep (k := k) (q := q + 1) (n := n) (v := z) (by omega) ht2'
      have c1 := cut_lo (id := M1.n) (n := n) (k := k) (by omega)
      have c2 := cut_hi (id := M1.n) (n := n) (k := k) (by omega)
      simp (maxSteps := 4000000) (disch := first | omega | assumption | (simp only [bxS, bxV, stOk, Nat.reduceBEq, Nat.reduceEqDiff, Nat.reduceAdd]; done) | (simp only [bxU]; omega) | ((try apply has_setN); apply has_ofL; simp only [bxL]; omega)) only [↓bxD, bxP, bxQ, Nat.reduceBEq, reduceCtorEq, Nat.reduceAdd, Nat.reduceSub, Nat.reduceMul, Nat.reduceLeDiff, Nat.reduceLT, bxR, h7, h8, d1, len_slc, ev_cut, c1, c2, ev_wrm, hcp]
      show Wp fns K44_0 _ _ _
      unfold K44_0
      simp (maxSteps := 4000000) (disch := first | omega | assumption | (simp only [bxS, bxV, stOk, Nat.reduceBEq, Nat.reduceEqDiff, Nat.reduceAdd]; done) | (simp only [bxU]; omega) | ((try apply has_setN); apply has_ofL; simp only [bxL]; omega)) only [↓bxD, bxP, bxQ, Nat.reduceBEq, reduceCtorEq, Nat.reduceAdd, Nat.reduceSub, Nat.reduceMul, Nat.reduceLeDiff, Nat.reduceLT, bxR, h7, h8, d1, len_slc, ev_cut, c1, c2, ev_wrm, hcp]
      refine Wp_dreg_of (by omega) ?_
      simp (maxSteps := 4000000) (disch := first | omega | assumption | (simp only [bxS, bxV, stOk, Nat.reduceBEq, Nat.reduceEqDiff, Nat.reduceAdd]; done) | (simp only [bxU]; omega) | ((try apply has_setN); apply has_ofL; simp only [bxL]; omega)) only [↓bxD, bxP, bxQ, Nat.reduceBEq, reduceCtorEq, Nat.reduceAdd, Nat.reduceSub, Nat.reduceMul, Nat.reduceLeDiff, Nat.reduceLT, bxR, h7, h8, d1, len_slc, ev_cut, c1, c2, ev_wrm, hcp, Option.map_some, Option.map_none]
      exact ⟨k + (q + 1), by omega, by omega, by omega, hx.set _ (Nat.le_refl _), hnn, by congr 1, ⟨_, set_same _ _, hat⟩⟩
    · have d1 : decide ((k : Int) < (n : Int)) = false := decide_eq_false (by omega)
      have hkn : k = n := by omega
      subst hkn
      simp (maxSteps := 4000000) (disch := first | omega | assumption | (simp only [bxS, bxV, stOk, Nat.reduceBEq, Nat.reduceEqDiff, Nat.reduceAdd]; done) | (simp only [bxU]; omega) | ((try apply has_setN); apply has_ofL; simp only [bxL]; omega)) only [↓bxD, bxP, bxQ, Nat.reduceBEq, reduceCtorEq, Nat.reduceAdd, Nat.reduceSub, Nat.reduceMul, Nat.reduceLeDiff, Nat.reduceLT, bxR, h7, h8, d1, len_slc]
      show Wp fns K44_2 _ _ _
      unfold K44_2
      simp (maxSteps := 4000000) (disch := first | omega | assumption | (simp only [bxS, bxV, stOk, Nat.reduceBEq, Nat.reduceEqDiff, Nat.reduceAdd]; done) | (simp only [bxU]; omega) | ((try apply has_setN); apply has_ofL; simp only [bxL]; omega)) only [↓bxD, bxP, bxQ, Nat.reduceBEq, reduceCtorEq, Nat.reduceAdd, Nat.reduceSub, Nat.reduceMul, Nat.reduceLeDiff, Nat.reduceLT, bxR, h7, h8, d1, len_slc]
      rw [Nat.sub_self, List.replicate_zero, List.append_nil] at hI
      exact ⟨hx, hI, hnn⟩
  · exact ⟨Nat.le_refl _, hn.1, hx3, hn3, by simp only [bxP, bxQ, reduceCtorEq, hs1, hs3, d0, w1, w2, cv_i], by simp only [bxP, bxQ, reduceCtorEq, hs1, hs3, d0, w1, w2, cv_i] <;> rfl, hi3⟩
theorem shOk_take {l ar : List Int} {k : Nat} {s : Int} (h : ar[k]? = some s) : shOk l (ar.take (k + 1)) = (shOk l (ar.take k) && decide (0 ≤ shV l s)) := by
  unfold shOk
  rw [List.take_add_one, h, List.all_append]
  simp
theorem shSum_take {l ar : List Int} {k : Nat} {s : Int} (h : ar[k]? = some s) : shSum l (ar.take (k + 1)) = shSum l (ar.take k) + shV l s := by
  unfold shSum
  rw [List.take_add_one, h, List.map_append, List.sum_append]
  simp
theorem shOk_le {l ar : List Int} {k : Nat} (h : shOk l (ar.take k) = false) : shOk l ar = false := by
  have : shOk l ar = (shOk l (ar.take k) && shOk l (ar.drop k)) := by unfold shOk; rw [← List.all_append, List.take_append_drop]
  rw [this, h, Bool.false_and]
theorem mn_i (k k' : IntKind) (a b : Int) : mnV (.i k a) (.i k' b) = some (.i k (if b < a then b else a)) := by
  show some (MV.i k (bif decide (b < a) then b else a)) = _
  by_cases h : b < a
  · rw [decide_eq_true h, if_pos h]; rfl
  · rw [decide_eq_false h, if_neg h]; rfl
theorem row_any {M : MH} {v ur : MV} {l ar : List Int} (h : IntRow M v l) (hu : IntRow M ur ar) (hl : ∀ z ∈ l, -1 ≤ z ∧ z ≤ mostZ) (hs : ∀ s ∈ ar, 0 ≤ s → s.toNat < l.length) (ha : ar.length ≤ 8) : Cp fns 45 [v, ur] M fun m M' => m = .i .i64 (shRow l ar) ∧ M' = M := by
  obtain ⟨hs1, hs2⟩ := h.sl
  obtain ⟨hu1, hu2⟩ := hu.sl
  refine Cp_call (fn := F45) (by kernel_rfl) (Nat.le_of_ble_eq_true rfl) ?_
  show Wp fns B45 (T.set q1 (some ur) (T.set q0 (some v) T.lf)) M _
  unfold B45
  simp (maxSteps := 4000000) (disch := first | omega | assumption | (simp only [bxS, bxV, stOk, Nat.reduceBEq, Nat.reduceEqDiff, Nat.reduceAdd]; done) | (simp only [bxU]; omega) | ((try apply has_setN); apply has_ofL; simp only [bxL]; omega)) only [↓bxD, bxP, bxQ, Nat.reduceBEq, reduceCtorEq, Nat.reduceAdd, Nat.reduceSub, Nat.reduceMul, Nat.reduceLeDiff, Nat.reduceLT, bxR, hu1, hu2]
  refine Wp_inv (σ := Nat) (fun k f M' => M' = M ∧ k ≤ ar.length ∧ X.ev f (.t q0) = v ∧ X.ev f (.t q9) = ur ∧ X.ev f (.t q10) = .i .i64 (ar.length : Int) ∧ X.ev f (.t q11) = .i .i64 (k : Int) ∧ shOk l (ar.take k) = true ∧ X.ev f (.t q5) = .i .i64 (min (shSum l (ar.take k)) mostZ)) (fun k => ar.length - k) ?_ 0 ?_
  · rintro k f M' ⟨rfl, hk, h0, h9, h10, h11, ho, h5⟩
    simp only [q0, q5, q9, q10, q11] at h0 h5 h9 h10 h11
    have hp := shSum_pos ho
    unfold L45_4
    by_cases hk1 : k < ar.length
    · have d1 : decide ((k : Int) < (ar.length : Int)) = true := decide_eq_true (by omega)
      obtain ⟨s, hsk⟩ : ∃ s, ar[k]? = some s := ⟨_, List.getElem?_eq_getElem hk1⟩
      obtain ⟨ro, sz, t, hg, hid, hC⟩ := hu.read hsk
      have hvb := shV_lo hl s
      have ho2 := shOk_take (l := l) hsk
      have hs2' := shSum_take (l := l) hsk
      rw [ho, Bool.true_and] at ho2
      unfold mostZ at hvb
      by_cases s0 : 0 ≤ s
      · have ds : decide (0 ≤ s) = true := decide_eq_true s0
        obtain ⟨sn, rfl⟩ : ∃ n : Nat, s = n := ⟨s.toNat, by omega⟩
        have hsl := hs sn (List.mem_of_getElem? hsk) s0
        simp only [Int.toNat_natCast] at hsl
        obtain ⟨z, hz⟩ : ∃ z, l[sn]? = some z := ⟨_, List.getElem?_eq_getElem hsl⟩
        obtain ⟨ro2, sz2, t2, hg2, hid2, hC2⟩ := h.read hz
        have hzv : shV l (sn : Int) = z := by unfold shV; rw [if_neg (by omega), List.getD_eq_getElem?_getD, Int.toNat_natCast, hz]; rfl
        rw [hzv] at hvb ho2 hs2'
        by_cases z1 : z = -1
        · subst z1
          have dm : decide ((-1 : Int) = Int.negSucc 0) = true := rfl
          have hf : shRow l ar = -1 := by
            unfold shRow
            rw [shOk_le (k := k + 1) (by rw [ho2]; rfl)]
            rfl
          simp (maxSteps := 4000000) (disch := first | omega | assumption | (simp only [bxS, bxV, stOk, Nat.reduceBEq, Nat.reduceEqDiff, Nat.reduceAdd]; done) | (simp only [bxU]; omega) | ((try apply has_setN); apply has_ofL; simp only [bxL]; omega)) only [↓bxD, bxP, bxQ, Nat.reduceBEq, reduceCtorEq, Nat.reduceAdd, Nat.reduceSub, Nat.reduceMul, Nat.reduceLeDiff, Nat.reduceLT, bxR, h0, h5, h9, h10, h11, hu1, hu2, hs1, hs2, hg, hC, d1, ds, hg2, hC2, dm]
          show Wp fns K45_3 _ _ _
          unfold K45_3
          simp (maxSteps := 4000000) (disch := first | omega | assumption | (simp only [bxS, bxV, stOk, Nat.reduceBEq, Nat.reduceEqDiff, Nat.reduceAdd]; done) | (simp only [bxU]; omega) | ((try apply has_setN); apply has_ofL; simp only [bxL]; omega)) only [↓bxD, bxP, bxQ, Nat.reduceBEq, reduceCtorEq, Nat.reduceAdd, Nat.reduceSub, Nat.reduceMul, Nat.reduceLeDiff, Nat.reduceLT, bxR, h0, h5, h9, h10, h11, hu1, hu2, hs1, hs2, hg, hC, d1, ds, hg2, hC2, dm]
          show Wp fns K45_1 _ _ _
          unfold K45_1
          simp (maxSteps := 4000000) (disch := first | omega | assumption | (simp only [bxS, bxV, stOk, Nat.reduceBEq, Nat.reduceEqDiff, Nat.reduceAdd]; done) | (simp only [bxU]; omega) | ((try apply has_setN); apply has_ofL; simp only [bxL]; omega)) only [↓bxD, bxP, bxQ, Nat.reduceBEq, reduceCtorEq, Nat.reduceAdd, Nat.reduceSub, Nat.reduceMul, Nat.reduceLeDiff, Nat.reduceLT, bxR, h0, h5, h9, h10, h11, hu1, hu2, hs1, hs2, hg, hC, d1, ds, hg2, hC2, dm]
          exact congrArg (MV.i .i64) hf.symm
        · have dz : decide (z = Int.negSucc 0) = false := decide_eq_false z1
          have dz2 : decide (0 ≤ z) = true := decide_eq_true (by omega)
          rw [dz2] at ho2
          have wa : wrapF .i64 (min (shSum l (ar.take k)) mostZ + z) = min (shSum l (ar.take k)) mostZ + z := wrap_in (by unfold mostZ; omega) (by unfold mostZ; omega)
          simp (maxSteps := 4000000) (disch := first | omega | assumption | (simp only [bxS, bxV, stOk, Nat.reduceBEq, Nat.reduceEqDiff, Nat.reduceAdd]; done) | (simp only [bxU]; omega) | ((try apply has_setN); apply has_ofL; simp only [bxL]; omega)) only [↓bxD, bxP, bxQ, Nat.reduceBEq, reduceCtorEq, Nat.reduceAdd, Nat.reduceSub, Nat.reduceMul, Nat.reduceLeDiff, Nat.reduceLT, bxR, h0, h5, h9, h10, h11, hu1, hu2, hs1, hs2, hg, hC, d1, ds, hg2, hC2, dz, wa, mn_i]
          show Wp fns K45_3 _ _ _
          unfold K45_3
          simp (maxSteps := 4000000) (disch := first | omega | assumption | (simp only [bxS, bxV, stOk, Nat.reduceBEq, Nat.reduceEqDiff, Nat.reduceAdd]; done) | (simp only [bxU]; omega) | ((try apply has_setN); apply has_ofL; simp only [bxL]; omega)) only [↓bxD, bxP, bxQ, Nat.reduceBEq, reduceCtorEq, Nat.reduceAdd, Nat.reduceSub, Nat.reduceMul, Nat.reduceLeDiff, Nat.reduceLT, bxR, h0, h5, h9, h10, h11, hu1, hu2, hs1, hs2, hg, hC, d1, ds, hg2, hC2, dz, wa, mn_i]
          show Wp fns K45_1 _ _ _
          unfold K45_1
          simp (maxSteps := 4000000) (disch := first | omega | assumption | (simp only [bxS, bxV, stOk, Nat.reduceBEq, Nat.reduceEqDiff, Nat.reduceAdd]; done) | (simp only [bxU]; omega) | ((try apply has_setN); apply has_ofL; simp only [bxL]; omega)) only [↓bxD, bxP, bxQ, Nat.reduceBEq, reduceCtorEq, Nat.reduceAdd, Nat.reduceSub, Nat.reduceMul, Nat.reduceLeDiff, Nat.reduceLT, bxR, h0, h5, h9, h10, h11, hu1, hu2, hs1, hs2, hg, hC, d1, ds, hg2, hC2, dz, wa, mn_i]
          show Wp fns K45_0 _ _ _
          unfold K45_0
          simp (maxSteps := 4000000) (disch := first | omega | assumption | (simp only [bxS, bxV, stOk, Nat.reduceBEq, Nat.reduceEqDiff, Nat.reduceAdd]; done) | (simp only [bxU]; omega) | ((try apply has_setN); apply has_ofL; simp only [bxL]; omega)) only [↓bxD, bxP, bxQ, Nat.reduceBEq, reduceCtorEq, Nat.reduceAdd, Nat.reduceSub, Nat.reduceMul, Nat.reduceLeDiff, Nat.reduceLT, bxR, h0, h5, h9, h10, h11, hu1, hu2, hs1, hs2, hg, hC, d1, ds, hg2, hC2, dz, wa, mn_i]
          show Wp fns K45_2 _ _ _
          unfold K45_2
          simp (maxSteps := 4000000) (disch := first | omega | assumption | (simp only [bxS, bxV, stOk, Nat.reduceBEq, Nat.reduceEqDiff, Nat.reduceAdd]; done) | (simp only [bxU]; omega) | ((try apply has_setN); apply has_ofL; simp only [bxL]; omega)) only [↓bxD, bxP, bxQ, Nat.reduceBEq, reduceCtorEq, Nat.reduceAdd, Nat.reduceSub, Nat.reduceMul, Nat.reduceLeDiff, Nat.reduceLT, bxR, h0, h5, h9, h10, h11, hu1, hu2, hs1, hs2, hg, hC, d1, ds, hg2, hC2, dz, wa, mn_i]
          refine ⟨k + 1, by omega, by omega, rfl, ho2, congrArg (MV.i .i64) ?_⟩
          rw [hs2']
          unfold mostZ
          split <;> omega
      · have ds : decide (0 ≤ s) = false := decide_eq_false s0
        have hzv : shV l s = 1 := by unfold shV; rw [if_pos (by omega)]
        rw [hzv] at ho2 hs2'
        have wa : wrapF .i64 (min (shSum l (ar.take k)) mostZ + 1) = min (shSum l (ar.take k)) mostZ + 1 := wrap_in (by unfold mostZ; omega) (by unfold mostZ; omega)
        simp (maxSteps := 4000000) (disch := first | omega | assumption | (simp only [bxS, bxV, stOk, Nat.reduceBEq, Nat.reduceEqDiff, Nat.reduceAdd]; done) | (simp only [bxU]; omega) | ((try apply has_setN); apply has_ofL; simp only [bxL]; omega)) only [↓bxD, bxP, bxQ, Nat.reduceBEq, reduceCtorEq, Nat.reduceAdd, Nat.reduceSub, Nat.reduceMul, Nat.reduceLeDiff, Nat.reduceLT, bxR, h0, h5, h9, h10, h11, hu1, hu2, hs1, hs2, hg, hC, d1, ds, wa, decide_false, mn_i]
        show Wp fns K45_3 _ _ _
        unfold K45_3
        simp (maxSteps := 4000000) (disch := first | omega | assumption | (simp only [bxS, bxV, stOk, Nat.reduceBEq, Nat.reduceEqDiff, Nat.reduceAdd]; done) | (simp only [bxU]; omega) | ((try apply has_setN); apply has_ofL; simp only [bxL]; omega)) only [↓bxD, bxP, bxQ, Nat.reduceBEq, reduceCtorEq, Nat.reduceAdd, Nat.reduceSub, Nat.reduceMul, Nat.reduceLeDiff, Nat.reduceLT, bxR, h0, h5, h9, h10, h11, hu1, hu2, hs1, hs2, hg, hC, d1, ds, wa, decide_false, mn_i]
        show Wp fns K45_1 _ _ _
        unfold K45_1
        simp (maxSteps := 4000000) (disch := first | omega | assumption | (simp only [bxS, bxV, stOk, Nat.reduceBEq, Nat.reduceEqDiff, Nat.reduceAdd]; done) | (simp only [bxU]; omega) | ((try apply has_setN); apply has_ofL; simp only [bxL]; omega)) only [↓bxD, bxP, bxQ, Nat.reduceBEq, reduceCtorEq, Nat.reduceAdd, Nat.reduceSub, Nat.reduceMul, Nat.reduceLeDiff, Nat.reduceLT, bxR, h0, h5, h9, h10, h11, hu1, hu2, hs1, hs2, hg, hC, d1, ds, wa, decide_false, mn_i]
        show Wp fns K45_0 _ _ _
        unfold K45_0
        simp (maxSteps := 4000000) (disch := first | omega | assumption | (simp only [bxS, bxV, stOk, Nat.reduceBEq, Nat.reduceEqDiff, Nat.reduceAdd]; done) | (simp only [bxU]; omega) | ((try apply has_setN); apply has_ofL; simp only [bxL]; omega)) only [↓bxD, bxP, bxQ, Nat.reduceBEq, reduceCtorEq, Nat.reduceAdd, Nat.reduceSub, Nat.reduceMul, Nat.reduceLeDiff, Nat.reduceLT, bxR, h0, h5, h9, h10, h11, hu1, hu2, hs1, hs2, hg, hC, d1, ds, wa, decide_false, mn_i]
        show Wp fns K45_2 _ _ _
        unfold K45_2
        simp (maxSteps := 4000000) (disch := first | omega | assumption | (simp only [bxS, bxV, stOk, Nat.reduceBEq, Nat.reduceEqDiff, Nat.reduceAdd]; done) | (simp only [bxU]; omega) | ((try apply has_setN); apply has_ofL; simp only [bxL]; omega)) only [↓bxD, bxP, bxQ, Nat.reduceBEq, reduceCtorEq, Nat.reduceAdd, Nat.reduceSub, Nat.reduceMul, Nat.reduceLeDiff, Nat.reduceLT, bxR, h0, h5, h9, h10, h11, hu1, hu2, hs1, hs2, hg, hC, d1, ds, wa, decide_false, mn_i]
        refine ⟨k + 1, by omega, by omega, rfl, ho2, congrArg (MV.i .i64) ?_⟩
        rw [hs2']
        unfold mostZ
        split <;> omega
    · have d1 : decide ((k : Int) < (ar.length : Int)) = false := decide_eq_false (by omega)
      have hkl : k = ar.length := by omega
      subst hkl
      rw [List.take_length] at h5 ho
      simp (maxSteps := 4000000) (disch := first | omega | assumption | (simp only [bxS, bxV, stOk, Nat.reduceBEq, Nat.reduceEqDiff, Nat.reduceAdd]; done) | (simp only [bxU]; omega) | ((try apply has_setN); apply has_ofL; simp only [bxL]; omega)) only [↓bxD, bxP, bxQ, Nat.reduceBEq, reduceCtorEq, Nat.reduceAdd, Nat.reduceSub, Nat.reduceMul, Nat.reduceLeDiff, Nat.reduceLT, bxR, h0, h5, h9, h10, h11, d1]
      show Wp fns K45_5 _ _ _
      unfold K45_5
      simp (maxSteps := 4000000) (disch := first | omega | assumption | (simp only [bxS, bxV, stOk, Nat.reduceBEq, Nat.reduceEqDiff, Nat.reduceAdd]; done) | (simp only [bxU]; omega) | ((try apply has_setN); apply has_ofL; simp only [bxL]; omega)) only [↓bxD, bxP, bxQ, Nat.reduceBEq, reduceCtorEq, Nat.reduceAdd, Nat.reduceSub, Nat.reduceMul, Nat.reduceLeDiff, Nat.reduceLT, bxR, h0, h5, h9, h10, h11, d1]
      unfold shRow
      rw [ho]
      rfl
  · exact ⟨rfl, Nat.zero_le _, by simp only [bxP, bxQ, reduceCtorEq, hu1, hu2], by simp only [bxP, bxQ, reduceCtorEq, hu1, hu2], by simp only [bxP, bxQ, reduceCtorEq, hu1, hu2], by simp only [bxP, bxQ, reduceCtorEq, hu1, hu2] <;> rfl, rfl, by simp only [bxP, bxQ, reduceCtorEq, hu1, hu2] <;> rfl⟩
def numE : Option Int → Int
  | some e => e
  | none => 0
theorem ruleError_any {M : MH} {g : Gr} {vr vf vc vk ur : MV} {a0 a2 : Int} {ar : List Int} (hlo : M.lo ≤ M.n) (hu : IntRow M ur ar) (hw : ∀ z ∈ ar, Wf64 z) (hwl : ar.length ≤ 9223372036854775807) :
    Cp fns 29 [.ag (gcs g vr vf vc vk), .ag [.i .i64 a0, ur, .i .i64 a2]] M fun m M' => m = .i .i64 (numE (ruleE g (a0, ar, a2))) ∧ Ext M M' := by
  obtain ⟨hs1, hs2⟩ := hu.sl
  refine Cp_call (fn := F29) (by kernel_rfl) (Nat.le_of_ble_eq_true rfl) ?_
  show Wp fns B29 (T.set q1 (some (.ag [.i .i64 a0, ur, .i .i64 a2])) (T.set q0 (some (.ag (gcs g vr vf vc vk))) T.lf)) M _
  unfold B29
  have hG : ∀ l, l = gcs g vr vf vc vk → Ev.getN (ofL l 0) 7 0 = some (gcs g vr vf vc vk) := fun l e => by subst e; exact (at_ofL (gcs g vr vf vc vk)).getN
  have hall : ar.any (fun z => !(symB g z)) = !(ar.all (symB g)) := by rw [List.not_all_eq_any_not]
  rw [show gcs g vr vf vc vk = [MV.i IntKind.i64 g.names, MV.i IntKind.i64 g.kinds, MV.i IntKind.i64 g.start, vr, vf, vc, vk] from rfl]
  simp (maxSteps := 4000000) (disch := first | omega | assumption | (simp only [bxS, bxV, stOk, Nat.reduceBEq, Nat.reduceEqDiff, Nat.reduceAdd]; done) | (simp only [bxU]; omega) | ((try apply has_setN); apply has_ofL; simp only [bxL]; omega)) only [↓bxD, bxP, bxQ, Nat.reduceBEq, reduceCtorEq, Nat.reduceAdd, Nat.reduceSub, Nat.reduceMul, Nat.reduceLeDiff, Nat.reduceLT, bxR, hs1, hs2]
  generalize hM1 : (M.push _).push _ = M1
  have hb0 : M1.get M.n = some (.cs false 7 (ofL [MV.i IntKind.i64 g.names, MV.i IntKind.i64 g.kinds, MV.i IntKind.i64 g.start, vr, vf, vc, vk] 0)) := by rw [← hM1, push_old (Nat.lt_succ_self _)]; exact push_new _
  have hb1 : M1.get (M.n + 1) = some (.cs false 3 (ofL [MV.i IntKind.i64 a0, ur, MV.i IntKind.i64 a2] 0)) := by rw [← hM1]; exact push_new (M := M.push _) _
  have hx1 : Ext M M1 := by rw [← hM1]; exact (Ext.push M _).trans (Ext.push _ _)
  have hn1 : M1.n = M.n + 2 := by rw [← hM1]; rfl
  have hl1 := hx1.lo
  clear hM1
  have hu1 := hu.ext hx1
  simp (maxSteps := 4000000) (disch := first | omega | assumption | (simp only [bxS, bxV, stOk, Nat.reduceBEq, Nat.reduceEqDiff, Nat.reduceAdd]; done) | (simp only [bxU]; omega) | ((try apply has_setN); apply has_ofL; simp only [bxL]; omega)) only [↓bxD, bxP, bxQ, Nat.reduceBEq, reduceCtorEq, Nat.reduceAdd, Nat.reduceSub, Nat.reduceMul, Nat.reduceLeDiff, Nat.reduceLT, bxR, hs1, hs2, hb0, hb1]
  refine bindP_call number_any ?_
  rintro m M2 ⟨rfl, rfl⟩
  simp (maxSteps := 4000000) (disch := first | omega | assumption | (simp only [bxS, bxV, stOk, Nat.reduceBEq, Nat.reduceEqDiff, Nat.reduceAdd]; done) | (simp only [bxU]; omega) | ((try apply has_setN); apply has_ofL; simp only [bxL]; omega)) only [↓bxD, bxP, bxQ, Nat.reduceBEq, reduceCtorEq, Nat.reduceAdd, Nat.reduceSub, Nat.reduceMul, Nat.reduceLeDiff, Nat.reduceLT, bxR, hs1, hs2, hb0, hb1]
  cases hn : isN a0 g.names with
  | false =>
    simp (maxSteps := 4000000) (disch := first | omega | assumption | (simp only [bxS, bxV, stOk, Nat.reduceBEq, Nat.reduceEqDiff, Nat.reduceAdd]; done) | (simp only [bxU]; omega) | ((try apply has_setN); apply has_ofL; simp only [bxL]; omega)) only [↓bxD, bxP, bxQ, Nat.reduceBEq, reduceCtorEq, Nat.reduceAdd, Nat.reduceSub, Nat.reduceMul, Nat.reduceLeDiff, Nat.reduceLT, bxR, hs1, hs2, hb0, hb1, hn]
    show Wp fns K29_0 _ _ _
    unfold K29_0
    simp (maxSteps := 4000000) (disch := first | omega | assumption | (simp only [bxS, bxV, stOk, Nat.reduceBEq, Nat.reduceEqDiff, Nat.reduceAdd]; done) | (simp only [bxU]; omega) | ((try apply has_setN); apply has_ofL; simp only [bxL]; omega)) only [↓bxD, bxP, bxQ, Nat.reduceBEq, reduceCtorEq, Nat.reduceAdd, Nat.reduceSub, Nat.reduceMul, Nat.reduceLeDiff, Nat.reduceLT, bxR, hs1, hs2, hb0, hb1]
    exact ⟨by unfold ruleE okR; rw [if_pos (by unfold isN at hn; rw [hn, Bool.false_and])]; rfl, hx1⟩
  | true =>
    simp (maxSteps := 4000000) (disch := first | omega | assumption | (simp only [bxS, bxV, stOk, Nat.reduceBEq, Nat.reduceEqDiff, Nat.reduceAdd]; done) | (simp only [bxU]; omega) | ((try apply has_setN); apply has_ofL; simp only [bxL]; omega)) only [↓bxD, bxP, bxQ, Nat.reduceBEq, reduceCtorEq, Nat.reduceAdd, Nat.reduceSub, Nat.reduceMul, Nat.reduceLeDiff, Nat.reduceLT, bxR, hs1, hs2, hb0, hb1, hn]
    refine bindP_call (contains_any (p := fun z => !(symB g z)) hu1 hwl fun M' z hx hz => noSymbol_any (by have := hx.n; have := hx.lo; omega) (hw z hz) ((hx.old _ (by omega)).trans hb0)) ?_
    rintro m M2 ⟨rfl, hx2⟩
    have hb1' := (hx2.old _ (by omega)).trans hb1
    rw [hall]
    have hok : okR g (a0, ar, a2) = ar.all (symB g) := by unfold okR; unfold isN at hn; simp only; rw [hn, Bool.true_and]
    simp (maxSteps := 4000000) (disch := first | omega | assumption | (simp only [bxS, bxV, stOk, Nat.reduceBEq, Nat.reduceEqDiff, Nat.reduceAdd]; done) | (simp only [bxU]; omega) | ((try apply has_setN); apply has_ofL; simp only [bxL]; omega)) only [↓bxD, bxP, bxQ, Nat.reduceBEq, reduceCtorEq, Nat.reduceAdd, Nat.reduceSub, Nat.reduceMul, Nat.reduceLeDiff, Nat.reduceLT, bxR, hs1, hs2, hb1']
    cases ha : ar.all (symB g) with
    | false =>
      simp (maxSteps := 4000000) (disch := first | omega | assumption | (simp only [bxS, bxV, stOk, Nat.reduceBEq, Nat.reduceEqDiff, Nat.reduceAdd]; done) | (simp only [bxU]; omega) | ((try apply has_setN); apply has_ofL; simp only [bxL]; omega)) only [↓bxD, bxP, bxQ, Nat.reduceBEq, reduceCtorEq, Nat.reduceAdd, Nat.reduceSub, Nat.reduceMul, Nat.reduceLeDiff, Nat.reduceLT, bxR, hs1, hs2, hb1', ha]
      show Wp fns K29_0 _ _ _
      unfold K29_0
      simp (maxSteps := 4000000) (disch := first | omega | assumption | (simp only [bxS, bxV, stOk, Nat.reduceBEq, Nat.reduceEqDiff, Nat.reduceAdd]; done) | (simp only [bxU]; omega) | ((try apply has_setN); apply has_ofL; simp only [bxL]; omega)) only [↓bxD, bxP, bxQ, Nat.reduceBEq, reduceCtorEq, Nat.reduceAdd, Nat.reduceSub, Nat.reduceMul, Nat.reduceLeDiff, Nat.reduceLT, bxR, hs1, hs2, hb1']
      exact ⟨by unfold ruleE; rw [if_pos (by rw [hok, ha])]; rfl, hx1.trans hx2⟩
    | true =>
      simp (maxSteps := 4000000) (disch := first | omega | assumption | (simp only [bxS, bxV, stOk, Nat.reduceBEq, Nat.reduceEqDiff, Nat.reduceAdd]; done) | (simp only [bxU]; omega) | ((try apply has_setN); apply has_ofL; simp only [bxL]; omega)) only [↓bxD, bxP, bxQ, Nat.reduceBEq, reduceCtorEq, Nat.reduceAdd, Nat.reduceSub, Nat.reduceMul, Nat.reduceLeDiff, Nat.reduceLT, bxR, hs1, hs2, hb1', ha]
      show Wp fns K29_0 _ _ _
      unfold K29_0
      simp (maxSteps := 4000000) (disch := first | omega | assumption | (simp only [bxS, bxV, stOk, Nat.reduceBEq, Nat.reduceEqDiff, Nat.reduceAdd]; done) | (simp only [bxU]; omega) | ((try apply has_setN); apply has_ofL; simp only [bxL]; omega)) only [↓bxD, bxP, bxQ, Nat.reduceBEq, reduceCtorEq, Nat.reduceAdd, Nat.reduceSub, Nat.reduceMul, Nat.reduceLeDiff, Nat.reduceLT, bxR, hs1, hs2, hb1']
      have hne : ¬ okR g (a0, ar, a2) = false := by rw [hok, ha]; simp
      by_cases e8 : (8 : Int) < (ar.length : Int)
      · have d8 : decide ((8 : Int) < (ar.length : Int)) = true := decide_eq_true e8
        simp (maxSteps := 4000000) (disch := first | omega | assumption | (simp only [bxS, bxV, stOk, Nat.reduceBEq, Nat.reduceEqDiff, Nat.reduceAdd]; done) | (simp only [bxU]; omega) | ((try apply has_setN); apply has_ofL; simp only [bxL]; omega)) only [↓bxD, bxP, bxQ, Nat.reduceBEq, reduceCtorEq, Nat.reduceAdd, Nat.reduceSub, Nat.reduceMul, Nat.reduceLeDiff, Nat.reduceLT, bxR, hs1, hs2, hb1', d8]
        exact ⟨by unfold ruleE; rw [if_neg hne, if_pos e8]; rfl, hx1.trans hx2⟩
      · have d8 : decide ((8 : Int) < (ar.length : Int)) = false := decide_eq_false e8
        by_cases e9 : a2 < Int.negSucc 999
        · have d9 : decide (a2 < Int.negSucc 999) = true := decide_eq_true e9
          simp (maxSteps := 4000000) (disch := first | omega | assumption | (simp only [bxS, bxV, stOk, Nat.reduceBEq, Nat.reduceEqDiff, Nat.reduceAdd]; done) | (simp only [bxU]; omega) | ((try apply has_setN); apply has_ofL; simp only [bxL]; omega)) only [↓bxD, bxP, bxQ, Nat.reduceBEq, reduceCtorEq, Nat.reduceAdd, Nat.reduceSub, Nat.reduceMul, Nat.reduceLeDiff, Nat.reduceLT, bxR, hs1, hs2, hb1', d8, d9]
          exact ⟨by unfold ruleE; rw [if_neg hne, if_neg e8, if_pos (by simp only; omega)]; rfl, hx1.trans hx2⟩
        · have d9 : decide (a2 < Int.negSucc 999) = false := decide_eq_false e9
          by_cases e10 : 1000 < a2
          · have d10 : decide (1000 < a2) = true := decide_eq_true e10
            simp (maxSteps := 4000000) (disch := first | omega | assumption | (simp only [bxS, bxV, stOk, Nat.reduceBEq, Nat.reduceEqDiff, Nat.reduceAdd]; done) | (simp only [bxU]; omega) | ((try apply has_setN); apply has_ofL; simp only [bxL]; omega)) only [↓bxD, bxP, bxQ, Nat.reduceBEq, reduceCtorEq, Nat.reduceAdd, Nat.reduceSub, Nat.reduceMul, Nat.reduceLeDiff, Nat.reduceLT, bxR, hs1, hs2, hb1', d8, d9, d10]
            exact ⟨by unfold ruleE; rw [if_neg hne, if_neg e8, if_pos (by simp only; omega)]; rfl, hx1.trans hx2⟩
          · have d10 : decide (1000 < a2) = false := decide_eq_false e10
            simp (maxSteps := 4000000) (disch := first | omega | assumption | (simp only [bxS, bxV, stOk, Nat.reduceBEq, Nat.reduceEqDiff, Nat.reduceAdd]; done) | (simp only [bxU]; omega) | ((try apply has_setN); apply has_ofL; simp only [bxL]; omega)) only [↓bxD, bxP, bxQ, Nat.reduceBEq, reduceCtorEq, Nat.reduceAdd, Nat.reduceSub, Nat.reduceMul, Nat.reduceLeDiff, Nat.reduceLT, bxR, hs1, hs2, hb1', d8, d9, d10]
            show Wp fns K29_1 _ _ _
            unfold K29_1
            simp (maxSteps := 4000000) (disch := first | omega | assumption | (simp only [bxS, bxV, stOk, Nat.reduceBEq, Nat.reduceEqDiff, Nat.reduceAdd]; done) | (simp only [bxU]; omega) | ((try apply has_setN); apply has_ofL; simp only [bxL]; omega)) only [↓bxD, bxP, bxQ, Nat.reduceBEq, reduceCtorEq, Nat.reduceAdd, Nat.reduceSub, Nat.reduceMul, Nat.reduceLeDiff, Nat.reduceLT, bxR, hs1, hs2, hb1']
            exact ⟨by unfold ruleE; rw [if_neg hne, if_neg e8, if_neg (by simp only; omega)]; rfl, hx1.trans hx2⟩
theorem canForbid_any {M : MH} {g : Gr} {vr vf vc vk : MV} {es : List (List MV)} {x0 x1 x2 : Int} (h : GrAt M vr vf vc vk es g) (hlo : M.lo ≤ M.n) :
    Cp fns 30 [.ag (gcs g vr vf vc vk), .ag [.i .i64 x0, .i .i64 x1, .i .i64 x2]] M fun m M' => m = .b (!(badF g (x0, x1, x2))) ∧ Ext M M' := by
  obtain ⟨hr1, hr2⟩ := h.rules.row.sl
  rw [h.rules.len] at hr2
  refine Cp_call (fn := F30) (by kernel_rfl) (Nat.le_of_ble_eq_true rfl) ?_
  show Wp fns B30 (T.set q1 (some (.ag [.i .i64 x0, .i .i64 x1, .i .i64 x2])) (T.set q0 (some (.ag (gcs g vr vf vc vk))) T.lf)) M _
  unfold B30
  rw [show gcs g vr vf vc vk = [MV.i IntKind.i64 g.names, MV.i IntKind.i64 g.kinds, MV.i IntKind.i64 g.start, vr, vf, vc, vk] from rfl]
  simp (maxSteps := 4000000) (disch := first | omega | assumption | (simp only [bxS, bxV, stOk, Nat.reduceBEq, Nat.reduceEqDiff, Nat.reduceAdd]; done) | (simp only [bxU]; omega) | ((try apply has_setN); apply has_ofL; simp only [bxL]; omega)) only [↓bxD, bxP, bxQ, Nat.reduceBEq, reduceCtorEq, Nat.reduceAdd, Nat.reduceSub, Nat.reduceMul, Nat.reduceLeDiff, Nat.reduceLT, bxR, hr1, hr2]
  generalize hM1 : (M.push _).push _ = M1
  have hb0 : M1.get M.n = some (.cs false 7 (ofL [MV.i IntKind.i64 g.names, MV.i IntKind.i64 g.kinds, MV.i IntKind.i64 g.start, vr, vf, vc, vk] 0)) := by rw [← hM1, push_old (Nat.lt_succ_self _)]; exact push_new _
  have hb1 : M1.get (M.n + 1) = some (.cs false 3 (ofL [MV.i IntKind.i64 x0, MV.i .i64 x1, MV.i IntKind.i64 x2] 0)) := by rw [← hM1]; exact push_new (M := M.push _) _
  have hx1 : Ext M M1 := by rw [← hM1]; exact (Ext.push M _).trans (Ext.push _ _)
  have hn1 : M1.n = M.n + 2 := by rw [← hM1]; rfl
  have hl1 := hx1.lo
  clear hM1
  have h1 := h.ext hx1
  simp (maxSteps := 4000000) (disch := first | omega | assumption | (simp only [bxS, bxV, stOk, Nat.reduceBEq, Nat.reduceEqDiff, Nat.reduceAdd]; done) | (simp only [bxU]; omega) | ((try apply has_setN); apply has_ofL; simp only [bxL]; omega)) only [↓bxD, bxP, bxQ, Nat.reduceBEq, reduceCtorEq, Nat.reduceAdd, Nat.reduceSub, Nat.reduceMul, Nat.reduceLeDiff, Nat.reduceLT, bxR, hr1, hr2, hb0, hb1, ixA_0, ixA_1, ixA_2]
  refine bindP_call number_any ?_
  rintro m M2 ⟨rfl, rfl⟩
  simp (maxSteps := 4000000) (disch := first | omega | assumption | (simp only [bxS, bxV, stOk, Nat.reduceBEq, Nat.reduceEqDiff, Nat.reduceAdd]; done) | (simp only [bxU]; omega) | ((try apply has_setN); apply has_ofL; simp only [bxL]; omega)) only [↓bxD, bxP, bxQ, Nat.reduceBEq, reduceCtorEq, Nat.reduceAdd, Nat.reduceSub, Nat.reduceMul, Nat.reduceLeDiff, Nat.reduceLT, bxR, hr1, hr2, hb0, hb1, ixA_0, ixA_1, ixA_2]
  cases c0 : isN x0 (g.rules.length : Int) with
  | false =>
    simp (maxSteps := 4000000) (disch := first | omega | assumption | (simp only [bxS, bxV, stOk, Nat.reduceBEq, Nat.reduceEqDiff, Nat.reduceAdd]; done) | (simp only [bxU]; omega) | ((try apply has_setN); apply has_ofL; simp only [bxL]; omega)) only [↓bxD, bxP, bxQ, Nat.reduceBEq, reduceCtorEq, Nat.reduceAdd, Nat.reduceSub, Nat.reduceMul, Nat.reduceLeDiff, Nat.reduceLT, bxR, hr1, hr2, hb0, hb1, ixA_0, ixA_1, ixA_2, c0]
    unfold isN at c0
    simp only [Bool.and_eq_false_iff, decide_eq_false_iff_not] at c0
    exact ⟨by unfold badF; rw [if_pos (by simp only; omega)]; rfl, hx1⟩
  | true =>
  simp (maxSteps := 4000000) (disch := first | omega | assumption | (simp only [bxS, bxV, stOk, Nat.reduceBEq, Nat.reduceEqDiff, Nat.reduceAdd]; done) | (simp only [bxU]; omega) | ((try apply has_setN); apply has_ofL; simp only [bxL]; omega)) only [↓bxD, bxP, bxQ, Nat.reduceBEq, reduceCtorEq, Nat.reduceAdd, Nat.reduceSub, Nat.reduceMul, Nat.reduceLeDiff, Nat.reduceLT, bxR, hr1, hr2, hb0, hb1, ixA_0, ixA_1, ixA_2, c0]
  refine bindP_call number_any ?_
  rintro m M2 ⟨rfl, rfl⟩
  simp (maxSteps := 4000000) (disch := first | omega | assumption | (simp only [bxS, bxV, stOk, Nat.reduceBEq, Nat.reduceEqDiff, Nat.reduceAdd]; done) | (simp only [bxU]; omega) | ((try apply has_setN); apply has_ofL; simp only [bxL]; omega)) only [↓bxD, bxP, bxQ, Nat.reduceBEq, reduceCtorEq, Nat.reduceAdd, Nat.reduceSub, Nat.reduceMul, Nat.reduceLeDiff, Nat.reduceLT, bxR, hr1, hr2, hb0, hb1, ixA_0, ixA_1, ixA_2, c0]
  cases c2 : isN x2 (g.rules.length : Int) with
  | false =>
    simp (maxSteps := 4000000) (disch := first | omega | assumption | (simp only [bxS, bxV, stOk, Nat.reduceBEq, Nat.reduceEqDiff, Nat.reduceAdd]; done) | (simp only [bxU]; omega) | ((try apply has_setN); apply has_ofL; simp only [bxL]; omega)) only [↓bxD, bxP, bxQ, Nat.reduceBEq, reduceCtorEq, Nat.reduceAdd, Nat.reduceSub, Nat.reduceMul, Nat.reduceLeDiff, Nat.reduceLT, bxR, hr1, hr2, hb0, hb1, ixA_0, ixA_1, ixA_2, c0, c2]
    unfold isN at c2
    simp only [Bool.and_eq_false_iff, decide_eq_false_iff_not] at c2
    exact ⟨by unfold badF; rw [if_pos (by simp only; omega)]; rfl, hx1⟩
  | true =>
  simp (maxSteps := 4000000) (disch := first | omega | assumption | (simp only [bxS, bxV, stOk, Nat.reduceBEq, Nat.reduceEqDiff, Nat.reduceAdd]; done) | (simp only [bxU]; omega) | ((try apply has_setN); apply has_ofL; simp only [bxL]; omega)) only [↓bxD, bxP, bxQ, Nat.reduceBEq, reduceCtorEq, Nat.reduceAdd, Nat.reduceSub, Nat.reduceMul, Nat.reduceLeDiff, Nat.reduceLT, bxR, hr1, hr2, hb0, hb1, ixA_0, ixA_1, ixA_2, c0, c2]
  unfold isN at c0 c2
  simp only [Bool.and_eq_true, decide_eq_true_eq] at c0 c2
  obtain ⟨k0, rfl⟩ : ∃ k : Nat, x0 = (k : Int) := ⟨x0.toNat, by omega⟩
  obtain ⟨k2, rfl⟩ : ∃ k : Nat, x2 = (k : Int) := ⟨x2.toNat, by omega⟩
  obtain ⟨⟨a0, ar, a2⟩, hA⟩ : ∃ z, g.rules[k0]? = some z := ⟨_, List.getElem?_eq_getElem (by omega)⟩
  obtain ⟨⟨b0, br, b2⟩, hB⟩ : ∃ z, g.rules[k2]? = some z := ⟨_, List.getElem?_eq_getElem (by omega)⟩
  obtain ⟨ua, hua, hura⟩ : ∃ u1, es[k0]? = some [.i .i64 a0, u1, .i .i64 a2] ∧ IntRow _ u1 ar := h1.rules.get hA
  obtain ⟨ub, hub, hurb⟩ : ∃ u1, es[k2]? = some [.i .i64 b0, u1, .i .i64 b2] ∧ IntRow _ u1 br := h1.rules.get hB
  obtain ⟨hsa1, hsa2⟩ := hura.sl
  obtain ⟨ro, s, t, hg, hid, hT⟩ := h1.rules.row.read hua
  obtain ⟨ro2, s2, t2, hg2, hid2, hT2⟩ := h1.rules.row.read hub
  have ea0 : cget t (soff vr + k0 * 3) = some (.i .i64 a0) := hT 0 _ rfl
  have ea1 : cget t (soff vr + k0 * 3 + 1) = some ua := hT 1 _ rfl
  obtain rfl : t2 = t := by rw [hg] at hg2; injection hg2 with e; injection e with _ _ e; exact e.symm
  have eb0 : cget t2 (soff vr + k2 * 3) = some (.i .i64 b0) := hT2 0 _ rfl
  have hwl : ar.length ≤ 9223372036854775807 := (h.wf.rules _ (List.mem_of_getElem? hA)).2.2.2
  have hbadF : badF g ((k0 : Int), x1, (k2 : Int)) = if x1 < 0 ∨ (ar.length : Int) ≤ x1 then true else match ar[x1.toNat]? with
      | some s => decide (s ≠ b0)
      | none => true := by
    unfold badF
    rw [if_neg (by simp only; omega)]
    simp only [Int.toNat_natCast, hA, hB]
    rfl
  rw [hbadF]
  show Wp fns K30_0 _ _ _
  unfold K30_0
  simp (maxSteps := 4000000) (disch := first | omega | assumption | (simp only [bxS, bxV, stOk, Nat.reduceBEq, Nat.reduceEqDiff, Nat.reduceAdd]; done) | (simp only [bxU]; omega) | ((try apply has_setN); apply has_ofL; simp only [bxL]; omega)) only [↓bxD, bxP, bxQ, Nat.reduceBEq, reduceCtorEq, Nat.reduceAdd, Nat.reduceSub, Nat.reduceMul, Nat.reduceLeDiff, Nat.reduceLT, bxR, hr1, hr2, hb0, hb1, ixA_0, ixA_1, ixA_2, hsa1, hsa2, hg, ea0, ea1, eb0]
  refine Wp_dreg_of (by omega) ?_
  simp (maxSteps := 4000000) (disch := first | omega | assumption | (simp only [bxS, bxV, stOk, Nat.reduceBEq, Nat.reduceEqDiff, Nat.reduceAdd]; done) | (simp only [bxU]; omega) | ((try apply has_setN); apply has_ofL; simp only [bxL]; omega)) only [↓bxD, bxP, bxQ, Nat.reduceBEq, reduceCtorEq, Nat.reduceAdd, Nat.reduceSub, Nat.reduceMul, Nat.reduceLeDiff, Nat.reduceLT, bxR, hr1, hr2, hb0, hb1, ixA_0, ixA_1, ixA_2, hsa1, hsa2, hg, ea0, ea1, eb0]
  refine bindP_call number_any ?_
  rintro m M2 ⟨rfl, rfl⟩
  simp (maxSteps := 4000000) (disch := first | omega | assumption | (simp only [bxS, bxV, stOk, Nat.reduceBEq, Nat.reduceEqDiff, Nat.reduceAdd]; done) | (simp only [bxU]; omega) | ((try apply has_setN); apply has_ofL; simp only [bxL]; omega)) only [↓bxD, bxP, bxQ, Nat.reduceBEq, reduceCtorEq, Nat.reduceAdd, Nat.reduceSub, Nat.reduceMul, Nat.reduceLeDiff, Nat.reduceLT, bxR, hr1, hr2, hb0, hb1, ixA_0, ixA_1, ixA_2, hsa1, hsa2, hg, ea0, ea1, eb0]
  cases c1 : isN x1 (ar.length : Int) with
  | false =>
    simp (maxSteps := 4000000) (disch := first | omega | assumption | (simp only [bxS, bxV, stOk, Nat.reduceBEq, Nat.reduceEqDiff, Nat.reduceAdd]; done) | (simp only [bxU]; omega) | ((try apply has_setN); apply has_ofL; simp only [bxL]; omega)) only [↓bxD, bxP, bxQ, Nat.reduceBEq, reduceCtorEq, Nat.reduceAdd, Nat.reduceSub, Nat.reduceMul, Nat.reduceLeDiff, Nat.reduceLT, bxR, hr1, hr2, hb0, hb1, ixA_0, ixA_1, ixA_2, hsa1, hsa2, hg, ea0, ea1, eb0, c1]
    unfold isN at c1
    simp only [Bool.and_eq_false_iff, decide_eq_false_iff_not] at c1
    rw [if_pos (by omega)]
    show Wp fns IC.ret _ _ _
    simp (maxSteps := 4000000) (disch := first | omega | assumption | (simp only [bxS, bxV, stOk, Nat.reduceBEq, Nat.reduceEqDiff, Nat.reduceAdd]; done) | (simp only [bxU]; omega) | ((try apply has_setN); apply has_ofL; simp only [bxL]; omega)) only [↓bxD, bxP, bxQ, Nat.reduceBEq, reduceCtorEq, Nat.reduceAdd, Nat.reduceSub, Nat.reduceMul, Nat.reduceLeDiff, Nat.reduceLT, bxR, hr1, hr2, hb0, hb1, ixA_0, ixA_1, ixA_2, hsa1, hsa2, hg, ea0, ea1, eb0]
    exact hx1
  | true =>
    have hc1 := c1
    unfold isN at c1
    simp only [Bool.and_eq_true, decide_eq_true_eq] at c1
    obtain ⟨k1, rfl⟩ : ∃ k : Nat, x1 = (k : Int) := ⟨x1.toNat, by omega⟩
    obtain ⟨z, hz⟩ : ∃ z, ar[k1]? = some z := ⟨_, List.getElem?_eq_getElem (by omega)⟩
    obtain ⟨ro3, s3, t3, hg3, hid3, hT3⟩ := hura.read hz
    simp (maxSteps := 4000000) (disch := first | omega | assumption | (simp only [bxS, bxV, stOk, Nat.reduceBEq, Nat.reduceEqDiff, Nat.reduceAdd]; done) | (simp only [bxU]; omega) | ((try apply has_setN); apply has_ofL; simp only [bxL]; omega)) only [↓bxD, bxP, bxQ, Nat.reduceBEq, reduceCtorEq, Nat.reduceAdd, Nat.reduceSub, Nat.reduceMul, Nat.reduceLeDiff, Nat.reduceLT, bxR, hr1, hr2, hb0, hb1, ixA_0, ixA_1, ixA_2, hsa1, hsa2, hg, ea0, ea1, eb0, hc1, hg3, hT3]
    rw [if_neg (by omega), Int.toNat_natCast, hz]
    show Wp fns IC.ret _ _ _
    simp (maxSteps := 4000000) (disch := first | omega | assumption | (simp only [bxS, bxV, stOk, Nat.reduceBEq, Nat.reduceEqDiff, Nat.reduceAdd]; done) | (simp only [bxU]; omega) | ((try apply has_setN); apply has_ofL; simp only [bxL]; omega)) only [↓bxD, bxP, bxQ, Nat.reduceBEq, reduceCtorEq, Nat.reduceAdd, Nat.reduceSub, Nat.reduceMul, Nat.reduceLeDiff, Nat.reduceLT, bxR, hr1, hr2, hb0, hb1, ixA_0, ixA_1, ixA_2, hsa1, hsa2, hg, ea0, ea1, eb0, hc1, hg3, hT3]
    exact ⟨by simp, hx1⟩
theorem wholeError_any {M : MH} {g : Gr} {vr vf vc vk : MV} {es : List (List MV)} (h : GrAt M vr vf vc vk es g) (hlo : M.lo ≤ M.n) :
    Cp fns 28 [.ag (gcs g vr vf vc vk)] M fun m M' => m = .i .i64 (numE (headE g)) ∧ Ext M M' := by
  obtain ⟨hr1, hr2⟩ := h.rules.row.sl
  rw [h.rules.len] at hr2
  obtain ⟨hf1, hf2⟩ := h.forbid.sl
  rw [List.length_map] at hf2
  obtain ⟨hc1, hc2⟩ := h.rc.sl
  obtain ⟨hk1, hk2⟩ := h.kc.sl
  obtain ⟨hw1, hw2, hw3, hw4⟩ := h.wf.lens
  refine Cp_call (fn := F28) (by kernel_rfl) (Nat.le_of_ble_eq_true rfl) ?_
  show Wp fns B28 (T.set q0 (some (.ag (gcs g vr vf vc vk))) T.lf) M _
  unfold B28
  rw [show gcs g vr vf vc vk = [MV.i IntKind.i64 g.names, MV.i IntKind.i64 g.kinds, MV.i IntKind.i64 g.start, vr, vf, vc, vk] from rfl]
  simp (maxSteps := 4000000) (disch := first | omega | assumption | (simp only [bxS, bxV, stOk, Nat.reduceBEq, Nat.reduceEqDiff, Nat.reduceAdd]; done) | (simp only [bxU]; omega) | ((try apply has_setN); apply has_ofL; simp only [bxL]; omega)) only [↓bxD, bxP, bxQ, Nat.reduceBEq, reduceCtorEq, Nat.reduceAdd, Nat.reduceSub, Nat.reduceMul, Nat.reduceLeDiff, Nat.reduceLT, bxR, hr1, hr2, hf1, hf2, hc1, hc2, hk1, hk2]
  generalize hM1 : M.push _ = M1
  have hb0 : M1.get M.n = some (.cs false 7 (ofL [MV.i IntKind.i64 g.names, MV.i IntKind.i64 g.kinds, MV.i IntKind.i64 g.start, vr, vf, vc, vk] 0)) := by rw [← hM1]; exact push_new _
  have hx1 : Ext M M1 := by rw [← hM1]; exact .push M _
  have hn1 : M1.n = M.n + 1 := by rw [← hM1]; rfl
  have hl1 := hx1.lo
  clear hM1
  have h1 := h.ext hx1
  have hq1 : ∀ (c : Prop) [Decidable c], c → decide c = true := fun c _ h => decide_eq_true h
  by_cases ca0 : g.names < 1
  · have da0 : decide (g.names < 1) = true := decide_eq_true ca0
    simp (maxSteps := 4000000) (disch := first | omega | assumption | (simp only [bxS, bxV, stOk, Nat.reduceBEq, Nat.reduceEqDiff, Nat.reduceAdd]; done) | (simp only [bxU]; omega) | ((try apply has_setN); apply has_ofL; simp only [bxL]; omega)) only [↓bxD, bxP, bxQ, Nat.reduceBEq, reduceCtorEq, Nat.reduceAdd, Nat.reduceSub, Nat.reduceMul, Nat.reduceLeDiff, Nat.reduceLT, bxR, hr1, hr2, hf1, hf2, hc1, hc2, hk1, hk2, hb0, da0]
    show Wp fns K28_1 _ _ _
    unfold K28_1
    simp (maxSteps := 4000000) (disch := first | omega | assumption | (simp only [bxS, bxV, stOk, Nat.reduceBEq, Nat.reduceEqDiff, Nat.reduceAdd]; done) | (simp only [bxU]; omega) | ((try apply has_setN); apply has_ofL; simp only [bxL]; omega)) only [↓bxD, bxP, bxQ, Nat.reduceBEq, reduceCtorEq, Nat.reduceAdd, Nat.reduceSub, Nat.reduceMul, Nat.reduceLeDiff, Nat.reduceLT, bxR, hr1, hr2, hf1, hf2, hc1, hc2, hk1, hk2, hb0, da0]
    exact ⟨by unfold headE; rw [if_pos (by omega)]; rfl, hx1⟩
  have da0 : decide (g.names < 1) = false := decide_eq_false ca0
  by_cases ca1 : 40 < g.names
  · have da1 : decide (40 < g.names) = true := decide_eq_true ca1
    simp (maxSteps := 4000000) (disch := first | omega | assumption | (simp only [bxS, bxV, stOk, Nat.reduceBEq, Nat.reduceEqDiff, Nat.reduceAdd]; done) | (simp only [bxU]; omega) | ((try apply has_setN); apply has_ofL; simp only [bxL]; omega)) only [↓bxD, bxP, bxQ, Nat.reduceBEq, reduceCtorEq, Nat.reduceAdd, Nat.reduceSub, Nat.reduceMul, Nat.reduceLeDiff, Nat.reduceLT, bxR, hr1, hr2, hf1, hf2, hc1, hc2, hk1, hk2, hb0, da0, da1]
    show Wp fns K28_1 _ _ _
    unfold K28_1
    simp (maxSteps := 4000000) (disch := first | omega | assumption | (simp only [bxS, bxV, stOk, Nat.reduceBEq, Nat.reduceEqDiff, Nat.reduceAdd]; done) | (simp only [bxU]; omega) | ((try apply has_setN); apply has_ofL; simp only [bxL]; omega)) only [↓bxD, bxP, bxQ, Nat.reduceBEq, reduceCtorEq, Nat.reduceAdd, Nat.reduceSub, Nat.reduceMul, Nat.reduceLeDiff, Nat.reduceLT, bxR, hr1, hr2, hf1, hf2, hc1, hc2, hk1, hk2, hb0, da0, da1]
    exact ⟨by unfold headE; rw [if_pos (by omega)]; rfl, hx1⟩
  have da1 : decide (40 < g.names) = false := decide_eq_false ca1
  by_cases ca2 : g.kinds < 0
  · have da2 : decide (g.kinds < 0) = true := decide_eq_true ca2
    simp (maxSteps := 4000000) (disch := first | omega | assumption | (simp only [bxS, bxV, stOk, Nat.reduceBEq, Nat.reduceEqDiff, Nat.reduceAdd]; done) | (simp only [bxU]; omega) | ((try apply has_setN); apply has_ofL; simp only [bxL]; omega)) only [↓bxD, bxP, bxQ, Nat.reduceBEq, reduceCtorEq, Nat.reduceAdd, Nat.reduceSub, Nat.reduceMul, Nat.reduceLeDiff, Nat.reduceLT, bxR, hr1, hr2, hf1, hf2, hc1, hc2, hk1, hk2, hb0, da0, da1, da2]
    show Wp fns K28_1 _ _ _
    unfold K28_1
    simp (maxSteps := 4000000) (disch := first | omega | assumption | (simp only [bxS, bxV, stOk, Nat.reduceBEq, Nat.reduceEqDiff, Nat.reduceAdd]; done) | (simp only [bxU]; omega) | ((try apply has_setN); apply has_ofL; simp only [bxL]; omega)) only [↓bxD, bxP, bxQ, Nat.reduceBEq, reduceCtorEq, Nat.reduceAdd, Nat.reduceSub, Nat.reduceMul, Nat.reduceLeDiff, Nat.reduceLT, bxR, hr1, hr2, hf1, hf2, hc1, hc2, hk1, hk2, hb0, da0, da1, da2]
    exact ⟨by unfold headE; rw [if_pos (by omega)]; rfl, hx1⟩
  have da2 : decide (g.kinds < 0) = false := decide_eq_false ca2
  by_cases ca3 : 40 < g.kinds
  · have da3 : decide (40 < g.kinds) = true := decide_eq_true ca3
    simp (maxSteps := 4000000) (disch := first | omega | assumption | (simp only [bxS, bxV, stOk, Nat.reduceBEq, Nat.reduceEqDiff, Nat.reduceAdd]; done) | (simp only [bxU]; omega) | ((try apply has_setN); apply has_ofL; simp only [bxL]; omega)) only [↓bxD, bxP, bxQ, Nat.reduceBEq, reduceCtorEq, Nat.reduceAdd, Nat.reduceSub, Nat.reduceMul, Nat.reduceLeDiff, Nat.reduceLT, bxR, hr1, hr2, hf1, hf2, hc1, hc2, hk1, hk2, hb0, da0, da1, da2, da3]
    show Wp fns K28_1 _ _ _
    unfold K28_1
    simp (maxSteps := 4000000) (disch := first | omega | assumption | (simp only [bxS, bxV, stOk, Nat.reduceBEq, Nat.reduceEqDiff, Nat.reduceAdd]; done) | (simp only [bxU]; omega) | ((try apply has_setN); apply has_ofL; simp only [bxL]; omega)) only [↓bxD, bxP, bxQ, Nat.reduceBEq, reduceCtorEq, Nat.reduceAdd, Nat.reduceSub, Nat.reduceMul, Nat.reduceLeDiff, Nat.reduceLT, bxR, hr1, hr2, hf1, hf2, hc1, hc2, hk1, hk2, hb0, da0, da1, da2, da3]
    exact ⟨by unfold headE; rw [if_pos (by omega)]; rfl, hx1⟩
  have da3 : decide (40 < g.kinds) = false := decide_eq_false ca3
  by_cases ca4 : (60 : Int) < (g.rules.length : Int)
  · have da4 : decide ((60 : Int) < (g.rules.length : Int)) = true := decide_eq_true ca4
    simp (maxSteps := 4000000) (disch := first | omega | assumption | (simp only [bxS, bxV, stOk, Nat.reduceBEq, Nat.reduceEqDiff, Nat.reduceAdd]; done) | (simp only [bxU]; omega) | ((try apply has_setN); apply has_ofL; simp only [bxL]; omega)) only [↓bxD, bxP, bxQ, Nat.reduceBEq, reduceCtorEq, Nat.reduceAdd, Nat.reduceSub, Nat.reduceMul, Nat.reduceLeDiff, Nat.reduceLT, bxR, hr1, hr2, hf1, hf2, hc1, hc2, hk1, hk2, hb0, da0, da1, da2, da3, da4]
    show Wp fns K28_1 _ _ _
    unfold K28_1
    simp (maxSteps := 4000000) (disch := first | omega | assumption | (simp only [bxS, bxV, stOk, Nat.reduceBEq, Nat.reduceEqDiff, Nat.reduceAdd]; done) | (simp only [bxU]; omega) | ((try apply has_setN); apply has_ofL; simp only [bxL]; omega)) only [↓bxD, bxP, bxQ, Nat.reduceBEq, reduceCtorEq, Nat.reduceAdd, Nat.reduceSub, Nat.reduceMul, Nat.reduceLeDiff, Nat.reduceLT, bxR, hr1, hr2, hf1, hf2, hc1, hc2, hk1, hk2, hb0, da0, da1, da2, da3, da4]
    exact ⟨by unfold headE; rw [if_pos (by omega)]; rfl, hx1⟩
  have da4 : decide ((60 : Int) < (g.rules.length : Int)) = false := decide_eq_false ca4
  by_cases ca5 : (200 : Int) < (g.forbid.length : Int)
  · have da5 : decide ((200 : Int) < (g.forbid.length : Int)) = true := decide_eq_true ca5
    simp (maxSteps := 4000000) (disch := first | omega | assumption | (simp only [bxS, bxV, stOk, Nat.reduceBEq, Nat.reduceEqDiff, Nat.reduceAdd]; done) | (simp only [bxU]; omega) | ((try apply has_setN); apply has_ofL; simp only [bxL]; omega)) only [↓bxD, bxP, bxQ, Nat.reduceBEq, reduceCtorEq, Nat.reduceAdd, Nat.reduceSub, Nat.reduceMul, Nat.reduceLeDiff, Nat.reduceLT, bxR, hr1, hr2, hf1, hf2, hc1, hc2, hk1, hk2, hb0, da0, da1, da2, da3, da4, da5]
    show Wp fns K28_1 _ _ _
    unfold K28_1
    simp (maxSteps := 4000000) (disch := first | omega | assumption | (simp only [bxS, bxV, stOk, Nat.reduceBEq, Nat.reduceEqDiff, Nat.reduceAdd]; done) | (simp only [bxU]; omega) | ((try apply has_setN); apply has_ofL; simp only [bxL]; omega)) only [↓bxD, bxP, bxQ, Nat.reduceBEq, reduceCtorEq, Nat.reduceAdd, Nat.reduceSub, Nat.reduceMul, Nat.reduceLeDiff, Nat.reduceLT, bxR, hr1, hr2, hf1, hf2, hc1, hc2, hk1, hk2, hb0, da0, da1, da2, da3, da4, da5]
    exact ⟨by unfold headE; rw [if_pos (by omega)]; rfl, hx1⟩
  have da5 : decide ((200 : Int) < (g.forbid.length : Int)) = false := decide_eq_false ca5
  simp (maxSteps := 4000000) (disch := first | omega | assumption | (simp only [bxS, bxV, stOk, Nat.reduceBEq, Nat.reduceEqDiff, Nat.reduceAdd]; done) | (simp only [bxU]; omega) | ((try apply has_setN); apply has_ofL; simp only [bxL]; omega)) only [↓bxD, bxP, bxQ, Nat.reduceBEq, reduceCtorEq, Nat.reduceAdd, Nat.reduceSub, Nat.reduceMul, Nat.reduceLeDiff, Nat.reduceLT, bxR, hr1, hr2, hf1, hf2, hc1, hc2, hk1, hk2, hb0, da0, da1, da2, da3, da4, da5]
  show Wp fns K28_1 _ _ _
  unfold K28_1
  simp (maxSteps := 4000000) (disch := first | omega | assumption | (simp only [bxS, bxV, stOk, Nat.reduceBEq, Nat.reduceEqDiff, Nat.reduceAdd]; done) | (simp only [bxU]; omega) | ((try apply has_setN); apply has_ofL; simp only [bxL]; omega)) only [↓bxD, bxP, bxQ, Nat.reduceBEq, reduceCtorEq, Nat.reduceAdd, Nat.reduceSub, Nat.reduceMul, Nat.reduceLeDiff, Nat.reduceLT, bxR, hr1, hr2, hf1, hf2, hc1, hc2, hk1, hk2, hb0, da0, da1, da2, da3, da4, da5]
  have hh1 : ¬ (g.names < 1 ∨ 40 < g.names ∨ g.kinds < 0 ∨ 40 < g.kinds ∨ (60 : Int) < (g.rules.length : Int) ∨ (200 : Int) < (g.forbid.length : Int)) := by omega
  refine bindP_call number_any ?_
  rintro m M2 ⟨rfl, rfl⟩
  simp (maxSteps := 4000000) (disch := first | omega | assumption | (simp only [bxS, bxV, stOk, Nat.reduceBEq, Nat.reduceEqDiff, Nat.reduceAdd]; done) | (simp only [bxU]; omega) | ((try apply has_setN); apply has_ofL; simp only [bxL]; omega)) only [↓bxD, bxP, bxQ, Nat.reduceBEq, reduceCtorEq, Nat.reduceAdd, Nat.reduceSub, Nat.reduceMul, Nat.reduceLeDiff, Nat.reduceLT, bxR, hr1, hr2, hf1, hf2, hc1, hc2, hk1, hk2, hb0, da0, da1, da2, da3, da4, da5]
  cases cs : isN g.start g.names with
  | false =>
    simp (maxSteps := 4000000) (disch := first | omega | assumption | (simp only [bxS, bxV, stOk, Nat.reduceBEq, Nat.reduceEqDiff, Nat.reduceAdd]; done) | (simp only [bxU]; omega) | ((try apply has_setN); apply has_ofL; simp only [bxL]; omega)) only [↓bxD, bxP, bxQ, Nat.reduceBEq, reduceCtorEq, Nat.reduceAdd, Nat.reduceSub, Nat.reduceMul, Nat.reduceLeDiff, Nat.reduceLT, bxR, hr1, hr2, hf1, hf2, hc1, hc2, hk1, hk2, hb0, da0, da1, da2, da3, da4, da5, cs]
    unfold isN at cs
    simp only [Bool.and_eq_false_iff, decide_eq_false_iff_not] at cs
    exact ⟨by unfold headE; rw [if_neg hh1, if_pos (by omega)]; rfl, hx1⟩
  | true =>
  simp (maxSteps := 4000000) (disch := first | omega | assumption | (simp only [bxS, bxV, stOk, Nat.reduceBEq, Nat.reduceEqDiff, Nat.reduceAdd]; done) | (simp only [bxU]; omega) | ((try apply has_setN); apply has_ofL; simp only [bxL]; omega)) only [↓bxD, bxP, bxQ, Nat.reduceBEq, reduceCtorEq, Nat.reduceAdd, Nat.reduceSub, Nat.reduceMul, Nat.reduceLeDiff, Nat.reduceLT, bxR, hr1, hr2, hf1, hf2, hc1, hc2, hk1, hk2, hb0, cs]
  unfold isN at cs
  simp only [Bool.and_eq_true, decide_eq_true_eq] at cs
  refine bindP_call (areClasses_any h1.rc hw3) ?_
  rintro m M2 ⟨rfl, hx2⟩
  have hb2 := (hx2.old _ (by omega)).trans hb0
  have hn2 := hx2.n
  simp (maxSteps := 4000000) (disch := first | omega | assumption | (simp only [bxS, bxV, stOk, Nat.reduceBEq, Nat.reduceEqDiff, Nat.reduceAdd]; done) | (simp only [bxU]; omega) | ((try apply has_setN); apply has_ofL; simp only [bxL]; omega)) only [↓bxD, bxP, bxQ, Nat.reduceBEq, reduceCtorEq, Nat.reduceAdd, Nat.reduceSub, Nat.reduceMul, Nat.reduceLeDiff, Nat.reduceLT, bxR, hr1, hr2, hf1, hf2, hc1, hc2, hk1, hk2, hb2]
  have hh2 : headE g = if (g.rules.length : Int) < (g.rc.length : Int) ∨ g.kinds < (g.kc.length : Int) ∨ clsB g.rc = false ∨ clsB g.kc = false then some 1 else none := by
    unfold headE
    rw [if_neg hh1, if_neg (by omega)]
  cases e1 : (decide ((g.rc.length : Int) ≤ (g.rules.length : Int)) && clsB g.rc) with
  | false =>
    simp (maxSteps := 4000000) (disch := first | omega | assumption | (simp only [bxS, bxV, stOk, Nat.reduceBEq, Nat.reduceEqDiff, Nat.reduceAdd]; done) | (simp only [bxU]; omega) | ((try apply has_setN); apply has_ofL; simp only [bxL]; omega)) only [↓bxD, bxP, bxQ, Nat.reduceBEq, reduceCtorEq, Nat.reduceAdd, Nat.reduceSub, Nat.reduceMul, Nat.reduceLeDiff, Nat.reduceLT, bxR, hr1, hr2, hf1, hf2, hc1, hc2, hk1, hk2, hb2, e1]
    show Wp fns K28_0 _ _ _
    unfold K28_0
    simp (maxSteps := 4000000) (disch := first | omega | assumption | (simp only [bxS, bxV, stOk, Nat.reduceBEq, Nat.reduceEqDiff, Nat.reduceAdd]; done) | (simp only [bxU]; omega) | ((try apply has_setN); apply has_ofL; simp only [bxL]; omega)) only [↓bxD, bxP, bxQ, Nat.reduceBEq, reduceCtorEq, Nat.reduceAdd, Nat.reduceSub, Nat.reduceMul, Nat.reduceLeDiff, Nat.reduceLT, bxR, hr1, hr2, hf1, hf2, hc1, hc2, hk1, hk2, hb2]
    simp only [Bool.and_eq_false_iff, decide_eq_false_iff_not] at e1
    exact ⟨by rw [hh2, if_pos (by rcases e1 with e1 | e1; exact .inl (by omega); exact .inr (.inr (.inl e1)))]; rfl, hx1.trans hx2⟩
  | true =>
  simp (maxSteps := 4000000) (disch := first | omega | assumption | (simp only [bxS, bxV, stOk, Nat.reduceBEq, Nat.reduceEqDiff, Nat.reduceAdd]; done) | (simp only [bxU]; omega) | ((try apply has_setN); apply has_ofL; simp only [bxL]; omega)) only [↓bxD, bxP, bxQ, Nat.reduceBEq, reduceCtorEq, Nat.reduceAdd, Nat.reduceSub, Nat.reduceMul, Nat.reduceLeDiff, Nat.reduceLT, bxR, hr1, hr2, hf1, hf2, hc1, hc2, hk1, hk2, hb2, e1]
  refine bindP_call (areClasses_any (h1.kc.ext hx2) hw4) ?_
  rintro m M3 ⟨rfl, hx3⟩
  simp (maxSteps := 4000000) (disch := first | omega | assumption | (simp only [bxS, bxV, stOk, Nat.reduceBEq, Nat.reduceEqDiff, Nat.reduceAdd]; done) | (simp only [bxU]; omega) | ((try apply has_setN); apply has_ofL; simp only [bxL]; omega)) only [↓bxD, bxP, bxQ, Nat.reduceBEq, reduceCtorEq, Nat.reduceAdd, Nat.reduceSub, Nat.reduceMul, Nat.reduceLeDiff, Nat.reduceLT, bxR, hr1, hr2, hf1, hf2, hc1, hc2, hk1, hk2, hb2]
  simp only [Bool.and_eq_true, decide_eq_true_eq] at e1
  cases e2 : (decide ((g.kc.length : Int) ≤ g.kinds) && clsB g.kc) with
  | false =>
    simp (maxSteps := 4000000) (disch := first | omega | assumption | (simp only [bxS, bxV, stOk, Nat.reduceBEq, Nat.reduceEqDiff, Nat.reduceAdd]; done) | (simp only [bxU]; omega) | ((try apply has_setN); apply has_ofL; simp only [bxL]; omega)) only [↓bxD, bxP, bxQ, Nat.reduceBEq, reduceCtorEq, Nat.reduceAdd, Nat.reduceSub, Nat.reduceMul, Nat.reduceLeDiff, Nat.reduceLT, bxR, hr1, hr2, hf1, hf2, hc1, hc2, hk1, hk2, hb2, e2]
    show Wp fns K28_0 _ _ _
    unfold K28_0
    simp (maxSteps := 4000000) (disch := first | omega | assumption | (simp only [bxS, bxV, stOk, Nat.reduceBEq, Nat.reduceEqDiff, Nat.reduceAdd]; done) | (simp only [bxU]; omega) | ((try apply has_setN); apply has_ofL; simp only [bxL]; omega)) only [↓bxD, bxP, bxQ, Nat.reduceBEq, reduceCtorEq, Nat.reduceAdd, Nat.reduceSub, Nat.reduceMul, Nat.reduceLeDiff, Nat.reduceLT, bxR, hr1, hr2, hf1, hf2, hc1, hc2, hk1, hk2, hb2]
    simp only [Bool.and_eq_false_iff, decide_eq_false_iff_not] at e2
    exact ⟨by rw [hh2, if_pos (by rcases e2 with e2 | e2; exact .inr (.inl (by omega)); exact .inr (.inr (.inr e2)))]; rfl, (hx1.trans hx2).trans hx3⟩
  | true =>
  simp (maxSteps := 4000000) (disch := first | omega | assumption | (simp only [bxS, bxV, stOk, Nat.reduceBEq, Nat.reduceEqDiff, Nat.reduceAdd]; done) | (simp only [bxU]; omega) | ((try apply has_setN); apply has_ofL; simp only [bxL]; omega)) only [↓bxD, bxP, bxQ, Nat.reduceBEq, reduceCtorEq, Nat.reduceAdd, Nat.reduceSub, Nat.reduceMul, Nat.reduceLeDiff, Nat.reduceLT, bxR, hr1, hr2, hf1, hf2, hc1, hc2, hk1, hk2, hb2, e2]
  show Wp fns K28_0 _ _ _
  unfold K28_0
  simp (maxSteps := 4000000) (disch := first | omega | assumption | (simp only [bxS, bxV, stOk, Nat.reduceBEq, Nat.reduceEqDiff, Nat.reduceAdd]; done) | (simp only [bxU]; omega) | ((try apply has_setN); apply has_ofL; simp only [bxL]; omega)) only [↓bxD, bxP, bxQ, Nat.reduceBEq, reduceCtorEq, Nat.reduceAdd, Nat.reduceSub, Nat.reduceMul, Nat.reduceLeDiff, Nat.reduceLT, bxR, hr1, hr2, hf1, hf2, hc1, hc2, hk1, hk2, hb2]
  show Wp fns K28_2 _ _ _
  unfold K28_2
  simp (maxSteps := 4000000) (disch := first | omega | assumption | (simp only [bxS, bxV, stOk, Nat.reduceBEq, Nat.reduceEqDiff, Nat.reduceAdd]; done) | (simp only [bxU]; omega) | ((try apply has_setN); apply has_ofL; simp only [bxL]; omega)) only [↓bxD, bxP, bxQ, Nat.reduceBEq, reduceCtorEq, Nat.reduceAdd, Nat.reduceSub, Nat.reduceMul, Nat.reduceLeDiff, Nat.reduceLT, bxR, hr1, hr2, hf1, hf2, hc1, hc2, hk1, hk2, hb2]
  simp only [Bool.and_eq_true, decide_eq_true_eq] at e2
  refine ⟨?_, (hx1.trans hx2).trans hx3⟩
  rw [hh2, if_neg]
  · rfl
  · rintro (x | x | x | x)
    · omega
    · omega
    · rw [e1.2] at x; cases x
    · rw [e2.2] at x; cases x
theorem pform_forb {M0 M : MH} {g : Gr} {vr vf vc vk : MV} {es : List (List MV)} {f : Fr} (h : Rdy M0 M g vr vf vc vk es f) (hh : headE g = none) (hr : findE (ruleE g) g.rules 0 = none) : Wp fns K15_7 f M (retQ F15 (FormPost g M0)) := by
  have hq := h.fr
  have hbox := h.box
  obtain ⟨hf1, hf2⟩ := h.gr.forbid.sl
  rw [List.length_map] at hf2
  simp only [q1] at hq
  unfold gcs at hbox
  unfold K15_7
  simp (maxSteps := 4000000) (disch := first | omega | assumption | (simp only [bxS, bxV, stOk, Nat.reduceBEq, Nat.reduceEqDiff, Nat.reduceAdd]; done) | (simp only [bxU]; omega) | ((try apply has_setN); apply has_ofL; simp only [bxL]; omega)) only [↓bxD, bxP, bxQ, Nat.reduceBEq, reduceCtorEq, Nat.reduceAdd, Nat.reduceSub, Nat.reduceMul, Nat.reduceLeDiff, Nat.reduceLT, bxR, hq, hbox, hf1, hf2]
  refine Wp_inv (σ := Nat) (fun i f M' => Rdy M0 M' g vr vf vc vk es f ∧ i ≤ g.forbid.length ∧ X.ev f (.t q32) = vf ∧ X.ev f (.t q33) = .i .i64 (g.forbid.length : Int) ∧ X.ev f (.t q34) = .i .i64 (i : Int) ∧ (g.forbid.take i).any (badF g) = false) (fun i => g.forbid.length - i) ?_ 0 ?_
  · rintro i f M' ⟨h, hi, h32, h33, h34, hp⟩
    have hq := h.fr
    have hlo := h.lo0
    have hn := h.ext.n
    have hl := h.ext.lo
    have hlt := h.lt
    have hbox := h.box
    obtain ⟨hw1, hw2, _, _⟩ := h.gr.wf.lens
    simp only [q1, q32, q33, q34] at hq h32 h33 h34
    unfold gcs at hbox
    unfold L15_5
    simp (maxSteps := 4000000) (disch := first | omega | assumption | (simp only [bxS, bxV, stOk, Nat.reduceBEq, Nat.reduceEqDiff, Nat.reduceAdd]; done) | (simp only [bxU]; omega) | ((try apply has_setN); apply has_ofL; simp only [bxL]; omega)) only [↓bxD, bxP, bxQ, Nat.reduceBEq, reduceCtorEq, Nat.reduceAdd, Nat.reduceSub, Nat.reduceMul, Nat.reduceLeDiff, Nat.reduceLT, bxR, hq, h32, h33, h34, hf1, hf2]
    refine condP_split (fun hlt2 => ?_) (fun hge => ?_)
    · have hi' : i < g.forbid.length := by omega
      obtain ⟨x, hz⟩ : ∃ x, g.forbid[i]? = some x := ⟨_, List.getElem?_eq_getElem hi'⟩
      obtain ⟨x0, x1, x2⟩ := x
      obtain ⟨ro, s, t, hg, hid, hat⟩ := h.gr.forbid.read (i := i) (e := trip (x0, x1, x2)) (by rw [List.getElem?_map, hz]; rfl)
      have hN : Ev.getN t 3 (soff vf + i * 3) = some (trip (x0, x1, x2)) := hat.getN
      unfold trip at hN
      have hany : g.forbid.any (badF g) = ((g.forbid.take (i + 1)).any (badF g) || (g.forbid.drop (i + 1)).any (badF g)) := by rw [← List.any_append, List.take_append_drop]
      have htk : (g.forbid.take (i + 1)).any (badF g) = badF g (x0, x1, x2) := by rw [List.take_add_one, hz, List.any_append, hp]; simp
      have hbad : badF g (x0, x1, x2) = true → formP g = (-1, 6) := fun e => by unfold formP; rw [hh, hr]; simp only; rw [if_pos (by rw [hany, htk, e]; rfl)]
      have hG : Ev.getN (ofL [MV.i IntKind.i64 g.names, MV.i IntKind.i64 g.kinds, MV.i IntKind.i64 g.start, vr, vf, vc, vk] 0) 7 0 = some (gcs g vr vf vc vk) := (at_ofL (gcs g vr vf vc vk)).getN
      simp (maxSteps := 4000000) (disch := first | omega | assumption | (simp only [bxS, bxV, stOk, Nat.reduceBEq, Nat.reduceEqDiff, Nat.reduceAdd]; done) | (simp only [bxU]; omega) | ((try apply has_setN); apply has_ofL; simp only [bxL]; omega)) only [↓bxD, bxP, bxQ, Nat.reduceBEq, reduceCtorEq, Nat.reduceAdd, Nat.reduceSub, Nat.reduceMul, Nat.reduceLeDiff, Nat.reduceLT, bxR, hq, h32, h33, h34, hf1, hf2, hg, hN, hG]
      show Wp fns K15_4 _ _ _
      unfold K15_4
      simp (maxSteps := 4000000) (disch := first | omega | assumption | (simp only [bxS, bxV, stOk, Nat.reduceBEq, Nat.reduceEqDiff, Nat.reduceAdd]; done) | (simp only [bxU]; omega) | ((try apply has_setN); apply has_ofL; simp only [bxL]; omega)) only [↓bxD, bxP, bxQ, Nat.reduceBEq, reduceCtorEq, Nat.reduceAdd, Nat.reduceSub, Nat.reduceMul, Nat.reduceLeDiff, Nat.reduceLT, bxR, hq, h32, h33, h34, hf1, hf2, hg, hN, hG]
      generalize hM2 : (M'.push _).set M'.n _ = M2
      have hx2 : Ext M' M2 := by rw [← hM2]; exact (Ext.push M' _).set _ (Nat.le_refl _)
      have hn2 := hx2.n
      have hl2 := hx2.lo
      have h9 : M2.get M'.n = some (.cs false 3 (setN [.i .i64 x0, .i .i64 x1, .i .i64 x2] 0 (ofL [.i .i64 0, .i .i64 0, .i .i64 0] 0))) := by rw [← hM2, set_same]
      have hbox2 := (hx2.old _ hlt).trans hbox
      have hgr := h.gr.ext hx2
      clear hM2
      have hxx := h.ext.trans hx2
      simp (maxSteps := 4000000) (disch := first | omega | assumption | (simp only [bxS, bxV, stOk, Nat.reduceBEq, Nat.reduceEqDiff, Nat.reduceAdd]; done) | (simp only [bxU]; omega) | ((try apply has_setN); apply has_ofL; simp only [bxL]; omega)) only [↓bxD, bxP, bxQ, Nat.reduceBEq, reduceCtorEq, Nat.reduceAdd, Nat.reduceSub, Nat.reduceMul, Nat.reduceLeDiff, Nat.reduceLT, bxR, hq, h32, h33, h34, hf1, hf2, hG, hbox, hbox2, h9]
      refine bindP_call (canForbid_any hgr (by omega)) ?_
      rintro m M3 ⟨rfl, hx3⟩
      simp (maxSteps := 4000000) (disch := first | omega | assumption | (simp only [bxS, bxV, stOk, Nat.reduceBEq, Nat.reduceEqDiff, Nat.reduceAdd]; done) | (simp only [bxU]; omega) | ((try apply has_setN); apply has_ofL; simp only [bxL]; omega)) only [↓bxD, bxP, bxQ, Nat.reduceBEq, reduceCtorEq, Nat.reduceAdd, Nat.reduceSub, Nat.reduceMul, Nat.reduceLeDiff, Nat.reduceLT, bxR, hq, h32, h33, h34, hf1, hf2, hG, hbox, hbox2, h9]
      cases hb : badF g (x0, x1, x2) with
      | true =>
        simp (maxSteps := 4000000) (disch := first | omega | assumption | (simp only [bxS, bxV, stOk, Nat.reduceBEq, Nat.reduceEqDiff, Nat.reduceAdd]; done) | (simp only [bxU]; omega) | ((try apply has_setN); apply has_ofL; simp only [bxL]; omega)) only [↓bxD, bxP, bxQ, Nat.reduceBEq, reduceCtorEq, Nat.reduceAdd, Nat.reduceSub, Nat.reduceMul, Nat.reduceLeDiff, Nat.reduceLT, bxR, hq, h32, h33, h34, hf1, hf2, hG, hbox, hbox2, h9, hb]
        have e : formP g = (-1, 6) := hbad hb
        unfold FormPost
        rw [e]
        exact ⟨rfl, hxx.trans hx3⟩
      | false =>
        simp (maxSteps := 4000000) (disch := first | omega | assumption | (simp only [bxS, bxV, stOk, Nat.reduceBEq, Nat.reduceEqDiff, Nat.reduceAdd]; done) | (simp only [bxU]; omega) | ((try apply has_setN); apply has_ofL; simp only [bxL]; omega)) only [↓bxD, bxP, bxQ, Nat.reduceBEq, reduceCtorEq, Nat.reduceAdd, Nat.reduceSub, Nat.reduceMul, Nat.reduceLeDiff, Nat.reduceLT, bxR, hq, h32, h33, h34, hf1, hf2, hG, hbox, hbox2, h9, hb]
        show Wp fns K15_3 _ _ _
        unfold K15_3
        simp (maxSteps := 4000000) (disch := first | omega | assumption | (simp only [bxS, bxV, stOk, Nat.reduceBEq, Nat.reduceEqDiff, Nat.reduceAdd]; done) | (simp only [bxU]; omega) | ((try apply has_setN); apply has_ofL; simp only [bxL]; omega)) only [↓bxD, bxP, bxQ, Nat.reduceBEq, reduceCtorEq, Nat.reduceAdd, Nat.reduceSub, Nat.reduceMul, Nat.reduceLeDiff, Nat.reduceLT, bxR, hq, h32, h33, h34, hf1, hf2, hG, hbox, hbox2, h9]
        have hn3 := hx3.n
        refine ⟨i + 1, by omega, ⟨hgr.ext hx3, hxx.trans hx3, h.lo0, by omega, (hx3.old _ (by omega)).trans hbox2, by simp only [bxP, bxQ, reduceCtorEq, hq, h32, h33, h34, hf1, hf2, hG, hbox, hbox2, h9]⟩, by omega, rfl, by rw [htk, hb]⟩
    · have hi' : i = g.forbid.length := by omega
      subst hi'
      rw [List.take_length] at hp
      simp (maxSteps := 4000000) (disch := first | omega | assumption | (simp only [bxS, bxV, stOk, Nat.reduceBEq, Nat.reduceEqDiff, Nat.reduceAdd]; done) | (simp only [bxU]; omega) | ((try apply has_setN); apply has_ofL; simp only [bxL]; omega)) only [↓bxD, bxP, bxQ, Nat.reduceBEq, reduceCtorEq, Nat.reduceAdd, Nat.reduceSub, Nat.reduceMul, Nat.reduceLeDiff, Nat.reduceLT, bxR, hq, h32, h33, h34, hf1, hf2]
      show Wp fns K15_6 _ _ _
      unfold K15_6
      simp (maxSteps := 4000000) (disch := first | omega | assumption | (simp only [bxS, bxV, stOk, Nat.reduceBEq, Nat.reduceEqDiff, Nat.reduceAdd]; done) | (simp only [bxU]; omega) | ((try apply has_setN); apply has_ofL; simp only [bxL]; omega)) only [↓bxD, bxP, bxQ, Nat.reduceBEq, reduceCtorEq, Nat.reduceAdd, Nat.reduceSub, Nat.reduceMul, Nat.reduceLeDiff, Nat.reduceLT, bxR, hq, h32, h33, h34, hf1, hf2]
      have e : formP g = (-1, 0) := by unfold formP; rw [hh, hr]; simp only; rw [if_neg (by rw [hp]; simp)]
      unfold FormPost
      rw [e]
      exact ⟨rfl, h.ext⟩
  · exact ⟨⟨h.gr, h.ext, h.lo0, h.lt, h.box, by simp only [bxP, bxQ, reduceCtorEq, hq, hbox, hf1, hf2]⟩, Nat.zero_le _, by simp only [bxP, bxQ, reduceCtorEq, hq, hbox, hf1, hf2], by simp only [bxP, bxQ, reduceCtorEq, hq, hbox, hf1, hf2], by simp only [bxP, bxQ, reduceCtorEq, hq, hbox, hf1, hf2] <;> rfl, rfl⟩
theorem pform_rules {M0 M : MH} {g : Gr} {vr vf vc vk : MV} {es : List (List MV)} {f : Fr} (h : Rdy M0 M g vr vf vc vk es f) (hh : headE g = none) : Wp fns K15_8 f M (retQ F15 (FormPost g M0)) := by
  have hq := h.fr
  have hbox := h.box
  obtain ⟨hr1, hr2⟩ := h.gr.rules.row.sl
  rw [h.gr.rules.len] at hr2
  simp only [q1] at hq
  unfold gcs at hbox
  unfold K15_8
  simp (maxSteps := 4000000) (disch := first | omega | assumption | (simp only [bxS, bxV, stOk, Nat.reduceBEq, Nat.reduceEqDiff, Nat.reduceAdd]; done) | (simp only [bxU]; omega) | ((try apply has_setN); apply has_ofL; simp only [bxL]; omega)) only [↓bxD, bxP, bxQ, Nat.reduceBEq, reduceCtorEq, Nat.reduceAdd, Nat.reduceSub, Nat.reduceMul, Nat.reduceLeDiff, Nat.reduceLT, bxR, hq, hbox, hr1, hr2]
  refine Wp_inv (σ := Nat) (fun i f M' => Rdy M0 M' g vr vf vc vk es f ∧ i ≤ g.rules.length ∧ X.ev f (.t q16) = vr ∧ X.ev f (.t q17) = .i .i64 (g.rules.length : Int) ∧ X.ev f (.t q18) = .i .i64 (i : Int) ∧ findE (ruleE g) g.rules 0 = findE (ruleE g) (g.rules.drop i) i) (fun i => g.rules.length - i) ?_ 0 ?_
  · rintro i f M' ⟨h, hi, h16, h17, h18, hp⟩
    have hq := h.fr
    have hlo := h.lo0
    have hn := h.ext.n
    have hl := h.ext.lo
    have hlt := h.lt
    have hbox := h.box
    obtain ⟨hw1, hw2, _, _⟩ := h.gr.wf.lens
    simp only [q1, q16, q17, q18] at hq h16 h17 h18
    unfold gcs at hbox
    unfold L15_2
    simp (maxSteps := 4000000) (disch := first | omega | assumption | (simp only [bxS, bxV, stOk, Nat.reduceBEq, Nat.reduceEqDiff, Nat.reduceAdd]; done) | (simp only [bxU]; omega) | ((try apply has_setN); apply has_ofL; simp only [bxL]; omega)) only [↓bxD, bxP, bxQ, Nat.reduceBEq, reduceCtorEq, Nat.reduceAdd, Nat.reduceSub, Nat.reduceMul, Nat.reduceLeDiff, Nat.reduceLT, bxR, hq, h16, h17, h18, hr1, hr2]
    refine condP_split (fun hlt2 => ?_) (fun hge => ?_)
    · have hi' : i < g.rules.length := by omega
      obtain ⟨x, hz⟩ : ∃ x, g.rules[i]? = some x := ⟨_, List.getElem?_eq_getElem hi'⟩
      obtain ⟨a0, ar, a2⟩ := x
      obtain ⟨ua, hua, hura⟩ : ∃ u1, es[i]? = some [.i .i64 a0, u1, .i .i64 a2] ∧ IntRow _ u1 ar := h.gr.rules.get hz
      obtain ⟨hsu1, hsu2⟩ := hura.sl
      obtain ⟨ro, s, t, hg, hid, hat⟩ := h.gr.rules.row.read hua
      have hN : Ev.getN t 3 (soff vr + i * 3) = some [.i .i64 a0, ua, .i .i64 a2] := hat.getN
      have hone : MV.one ua = true := isSl_one hsu1
      have hwr := h.gr.wf.rules _ (List.mem_of_getElem? hz)
      have hdrop := findE_drop (f := ruleE g) hz
      have hG : Ev.getN (ofL [MV.i IntKind.i64 g.names, MV.i IntKind.i64 g.kinds, MV.i IntKind.i64 g.start, vr, vf, vc, vk] 0) 7 0 = some (gcs g vr vf vc vk) := (at_ofL (gcs g vr vf vc vk)).getN
      have hst : stOk 3 (.ag [.i .i64 a0, ua, .i .i64 a2]) = true := by cases ua <;> first | rfl | cases hsu1
      simp (maxSteps := 4000000) (disch := first | omega | assumption | (simp only [bxS, bxV, stOk, Nat.reduceBEq, Nat.reduceEqDiff, Nat.reduceAdd]; done) | (simp only [bxU]; omega) | ((try apply has_setN); apply has_ofL; simp only [bxL]; omega)) only [↓bxD, bxP, bxQ, Nat.reduceBEq, reduceCtorEq, Nat.reduceAdd, Nat.reduceSub, Nat.reduceMul, Nat.reduceLeDiff, Nat.reduceLT, bxR, hq, h16, h17, h18, hr1, hr2, hg, hN, hG]
      show Wp fns K15_1 _ _ _
      unfold K15_1
      simp (maxSteps := 4000000) (disch := first | omega | assumption | (simp only [bxS, bxV, stOk, Nat.reduceBEq, Nat.reduceEqDiff, Nat.reduceAdd]; done) | (simp only [bxU]; omega) | ((try apply has_setN); apply has_ofL; simp only [bxL]; omega)) only [↓bxD, bxP, bxQ, Nat.reduceBEq, reduceCtorEq, Nat.reduceAdd, Nat.reduceSub, Nat.reduceMul, Nat.reduceLeDiff, Nat.reduceLT, bxR, hq, h16, h17, h18, hr1, hr2, hg, hN, hG]
      generalize hM2 : (M'.push _).set M'.n _ = M2
      have hx2 : Ext M' M2 := by rw [← hM2]; exact (Ext.push M' _).set _ (Nat.le_refl _)
      have hn2 := hx2.n
      have hl2 := hx2.lo
      have h9 : M2.get M'.n = some (.cs false 3 (setN [.i .i64 a0, ua, .i .i64 a2] 0 (ofL [.i .i64 0, .nils, .i .i64 0] 0))) := by rw [← hM2, set_same]
      have hbox2 := (hx2.old _ hlt).trans hbox
      have hgr := h.gr.ext hx2
      clear hM2
      have hxx := h.ext.trans hx2
      simp (maxSteps := 4000000) (disch := first | omega | assumption | (simp only [bxS, bxV, stOk, Nat.reduceBEq, Nat.reduceEqDiff, Nat.reduceAdd]; done) | (simp only [bxU]; omega) | ((try apply has_setN); apply has_ofL; simp only [bxL]; omega)) only [↓bxD, bxP, bxQ, Nat.reduceBEq, reduceCtorEq, Nat.reduceAdd, Nat.reduceSub, Nat.reduceMul, Nat.reduceLeDiff, Nat.reduceLT, bxR, hq, h16, h17, h18, hr1, hr2, hG, hbox, hbox2, h9]
      refine bindP_call (ruleError_any (by omega) (hura.ext hx2) hwr.2.1 hwr.2.2.2) ?_
      rintro m M3 ⟨rfl, hx3⟩
      simp (maxSteps := 4000000) (disch := first | omega | assumption | (simp only [bxS, bxV, stOk, Nat.reduceBEq, Nat.reduceEqDiff, Nat.reduceAdd]; done) | (simp only [bxU]; omega) | ((try apply has_setN); apply has_ofL; simp only [bxL]; omega)) only [↓bxD, bxP, bxQ, Nat.reduceBEq, reduceCtorEq, Nat.reduceAdd, Nat.reduceSub, Nat.reduceMul, Nat.reduceLeDiff, Nat.reduceLT, bxR, hq, h16, h17, h18, hr1, hr2, hG, hbox, hbox2, h9]
      cases hb : ruleE g (a0, ar, a2) with
      | some e =>
        have e0' : e ≠ 0 := by
          unfold ruleE at hb
          split at hb
          · cases hb; decide
          · split at hb
            · cases hb; decide
            · split at hb
              · cases hb; decide
              · cases hb
        rw [hb] at hdrop
        simp (maxSteps := 4000000) (disch := first | omega | assumption | (simp only [bxS, bxV, stOk, Nat.reduceBEq, Nat.reduceEqDiff, Nat.reduceAdd]; done) | (simp only [bxU]; omega) | ((try apply has_setN); apply has_ofL; simp only [bxL]; omega)) only [↓bxD, bxP, bxQ, Nat.reduceBEq, reduceCtorEq, Nat.reduceAdd, Nat.reduceSub, Nat.reduceMul, Nat.reduceLeDiff, Nat.reduceLT, bxR, hq, h16, h17, h18, hr1, hr2, hG, hbox, hbox2, h9, hb, numE]
        refine condP_split (fun _ => ?_) (fun hc => (hc e0').elim)
        simp (maxSteps := 4000000) (disch := first | omega | assumption | (simp only [bxS, bxV, stOk, Nat.reduceBEq, Nat.reduceEqDiff, Nat.reduceAdd]; done) | (simp only [bxU]; omega) | ((try apply has_setN); apply has_ofL; simp only [bxL]; omega)) only [↓bxD, bxP, bxQ, Nat.reduceBEq, reduceCtorEq, Nat.reduceAdd, Nat.reduceSub, Nat.reduceMul, Nat.reduceLeDiff, Nat.reduceLT, bxR, hq, h16, h17, h18, hr1, hr2, hG, hbox, hbox2, h9]
        have e : formP g = ((i : Int), e) := by unfold formP; rw [hh, hp, hdrop]
        unfold FormPost
        rw [e]
        exact ⟨rfl, hxx.trans hx3⟩
      | none =>
        rw [hb] at hdrop
        simp (maxSteps := 4000000) (disch := first | omega | assumption | (simp only [bxS, bxV, stOk, Nat.reduceBEq, Nat.reduceEqDiff, Nat.reduceAdd]; done) | (simp only [bxU]; omega) | ((try apply has_setN); apply has_ofL; simp only [bxL]; omega)) only [↓bxD, bxP, bxQ, Nat.reduceBEq, reduceCtorEq, Nat.reduceAdd, Nat.reduceSub, Nat.reduceMul, Nat.reduceLeDiff, Nat.reduceLT, bxR, hq, h16, h17, h18, hr1, hr2, hG, hbox, hbox2, h9, hb, numE]
        refine condP_split (fun hc => (hc rfl).elim) (fun _ => ?_)
        simp (maxSteps := 4000000) (disch := first | omega | assumption | (simp only [bxS, bxV, stOk, Nat.reduceBEq, Nat.reduceEqDiff, Nat.reduceAdd]; done) | (simp only [bxU]; omega) | ((try apply has_setN); apply has_ofL; simp only [bxL]; omega)) only [↓bxD, bxP, bxQ, Nat.reduceBEq, reduceCtorEq, Nat.reduceAdd, Nat.reduceSub, Nat.reduceMul, Nat.reduceLeDiff, Nat.reduceLT, bxR, hq, h16, h17, h18, hr1, hr2, hG, hbox, hbox2, h9]
        show Wp fns K15_0 _ _ _
        unfold K15_0
        simp (maxSteps := 4000000) (disch := first | omega | assumption | (simp only [bxS, bxV, stOk, Nat.reduceBEq, Nat.reduceEqDiff, Nat.reduceAdd]; done) | (simp only [bxU]; omega) | ((try apply has_setN); apply has_ofL; simp only [bxL]; omega)) only [↓bxD, bxP, bxQ, Nat.reduceBEq, reduceCtorEq, Nat.reduceAdd, Nat.reduceSub, Nat.reduceMul, Nat.reduceLeDiff, Nat.reduceLT, bxR, hq, h16, h17, h18, hr1, hr2, hG, hbox, hbox2, h9]
        have hn3 := hx3.n
        refine ⟨i + 1, by omega, ⟨hgr.ext hx3, hxx.trans hx3, h.lo0, by omega, (hx3.old _ (by omega)).trans hbox2, by simp only [bxP, bxQ, reduceCtorEq, hq, h16, h17, h18, hr1, hr2, hG, hbox, hbox2, h9]⟩, by omega, rfl, hp.trans hdrop⟩
    · have hi' : i = g.rules.length := by omega
      subst hi'
      simp (maxSteps := 4000000) (disch := first | omega | assumption | (simp only [bxS, bxV, stOk, Nat.reduceBEq, Nat.reduceEqDiff, Nat.reduceAdd]; done) | (simp only [bxU]; omega) | ((try apply has_setN); apply has_ofL; simp only [bxL]; omega)) only [↓bxD, bxP, bxQ, Nat.reduceBEq, reduceCtorEq, Nat.reduceAdd, Nat.reduceSub, Nat.reduceMul, Nat.reduceLeDiff, Nat.reduceLT, bxR, hq, h16, h17, h18, hr1, hr2]
      show Wp fns K15_7 _ _ _
      exact pform_forb ⟨h.gr, h.ext, h.lo0, h.lt, h.box, by simp only [bxP, bxQ, reduceCtorEq, hq, h16, h17, h18, hr1, hr2]⟩ hh (by rw [hp, List.drop_length]; rfl)
  · exact ⟨⟨h.gr, h.ext, h.lo0, h.lt, h.box, by simp only [bxP, bxQ, reduceCtorEq, hq, hbox, hr1, hr2]⟩, Nat.zero_le _, by simp only [bxP, bxQ, reduceCtorEq, hq, hbox, hr1, hr2], by simp only [bxP, bxQ, reduceCtorEq, hq, hbox, hr1, hr2], by simp only [bxP, bxQ, reduceCtorEq, hq, hbox, hr1, hr2] <;> rfl, rfl⟩
theorem prog_form {M : MH} {g : Gr} {vr vf vc vk : MV} {es : List (List MV)} (h : GrAt M vr vf vc vk es g) (hlo : M.lo ≤ M.n) : Cp fns 15 [.ag (gcs g vr vf vc vk)] M fun m M' => m = .tp [.i .i64 (formP g).1, .i .i64 (formP g).2] ∧ Ext M M' := by
  have hG : ∀ l, l = gcs g vr vf vc vk → Ev.getN (ofL l 0) 7 0 = some (gcs g vr vf vc vk) := fun l e => by subst e; exact (at_ofL (gcs g vr vf vc vk)).getN
  have hG := hG [MV.i IntKind.i64 g.names, MV.i IntKind.i64 g.kinds, MV.i IntKind.i64 g.start, vr, vf, vc, vk] rfl
  refine Cp_call (fn := F15) (by kernel_rfl) (Nat.le_of_ble_eq_true rfl) ?_
  show Wp fns B15 (T.set q0 (some (.ag (gcs g vr vf vc vk))) T.lf) M _
  unfold B15
  rw [show gcs g vr vf vc vk = [MV.i IntKind.i64 g.names, MV.i IntKind.i64 g.kinds, MV.i IntKind.i64 g.start, vr, vf, vc, vk] from rfl]
  simp (maxSteps := 4000000) (disch := first | omega | assumption | (simp only [bxS, bxV, stOk, Nat.reduceBEq, Nat.reduceEqDiff, Nat.reduceAdd]; done) | (simp only [bxU]; omega) | ((try apply has_setN); apply has_ofL; simp only [bxL]; omega)) only [↓bxD, bxP, bxQ, Nat.reduceBEq, reduceCtorEq, Nat.reduceAdd, Nat.reduceSub, Nat.reduceMul, Nat.reduceLeDiff, Nat.reduceLT, bxR]
  generalize hM1 : M.push _ = M1
  have hb0 : M1.get M.n = some (.cs false 7 (ofL [MV.i IntKind.i64 g.names, MV.i IntKind.i64 g.kinds, MV.i IntKind.i64 g.start, vr, vf, vc, vk] 0)) := by rw [← hM1]; exact push_new _
  have hx1 : Ext M M1 := by rw [← hM1]; exact .push M _
  have hn1 : M1.n = M.n + 1 := by rw [← hM1]; rfl
  have hl1 := hx1.lo
  clear hM1
  have h1 := h.ext hx1
  simp (maxSteps := 4000000) (disch := first | omega | assumption | (simp only [bxS, bxV, stOk, Nat.reduceBEq, Nat.reduceEqDiff, Nat.reduceAdd]; done) | (simp only [bxU]; omega) | ((try apply has_setN); apply has_ofL; simp only [bxL]; omega)) only [↓bxD, bxP, bxQ, Nat.reduceBEq, reduceCtorEq, Nat.reduceAdd, Nat.reduceSub, Nat.reduceMul, Nat.reduceLeDiff, Nat.reduceLT, bxR, hb0, hG]
  refine bindP_call (wholeError_any h1 (by omega)) ?_
  rintro m M2 ⟨rfl, hx2⟩
  simp (maxSteps := 4000000) (disch := first | omega | assumption | (simp only [bxS, bxV, stOk, Nat.reduceBEq, Nat.reduceEqDiff, Nat.reduceAdd]; done) | (simp only [bxU]; omega) | ((try apply has_setN); apply has_ofL; simp only [bxL]; omega)) only [↓bxD, bxP, bxQ, Nat.reduceBEq, reduceCtorEq, Nat.reduceAdd, Nat.reduceSub, Nat.reduceMul, Nat.reduceLeDiff, Nat.reduceLT, bxR, hb0, hG]
  have hn2 := hx2.n
  have hb2 := (hx2.old _ (by omega)).trans hb0
  cases hb : headE g with
  | some e =>
    have e0' : e ≠ 0 := by
      unfold headE at hb
      split at hb
      · cases hb; decide
      · split at hb
        · cases hb; decide
        · split at hb
          · cases hb; decide
          · cases hb
    simp (maxSteps := 4000000) (disch := first | omega | assumption | (simp only [bxS, bxV, stOk, Nat.reduceBEq, Nat.reduceEqDiff, Nat.reduceAdd]; done) | (simp only [bxU]; omega) | ((try apply has_setN); apply has_ofL; simp only [bxL]; omega)) only [↓bxD, bxP, bxQ, Nat.reduceBEq, reduceCtorEq, Nat.reduceAdd, Nat.reduceSub, Nat.reduceMul, Nat.reduceLeDiff, Nat.reduceLT, bxR, hb0, hG, hb, numE]
    refine condP_split (fun _ => ?_) (fun hc => (hc e0').elim)
    simp (maxSteps := 4000000) (disch := first | omega | assumption | (simp only [bxS, bxV, stOk, Nat.reduceBEq, Nat.reduceEqDiff, Nat.reduceAdd]; done) | (simp only [bxU]; omega) | ((try apply has_setN); apply has_ofL; simp only [bxL]; omega)) only [↓bxD, bxP, bxQ, Nat.reduceBEq, reduceCtorEq, Nat.reduceAdd, Nat.reduceSub, Nat.reduceMul, Nat.reduceLeDiff, Nat.reduceLT, bxR, hb0, hG]
    have e : formP g = (-1, e) := by unfold formP; rw [hb]
    rw [e]
    exact ⟨rfl, hx1.trans hx2⟩
  | none =>
    simp (maxSteps := 4000000) (disch := first | omega | assumption | (simp only [bxS, bxV, stOk, Nat.reduceBEq, Nat.reduceEqDiff, Nat.reduceAdd]; done) | (simp only [bxU]; omega) | ((try apply has_setN); apply has_ofL; simp only [bxL]; omega)) only [↓bxD, bxP, bxQ, Nat.reduceBEq, reduceCtorEq, Nat.reduceAdd, Nat.reduceSub, Nat.reduceMul, Nat.reduceLeDiff, Nat.reduceLT, bxR, hb0, hG, hb, numE]
    refine condP_split (fun hc => (hc rfl).elim) (fun _ => ?_)
    simp (maxSteps := 4000000) (disch := first | omega | assumption | (simp only [bxS, bxV, stOk, Nat.reduceBEq, Nat.reduceEqDiff, Nat.reduceAdd]; done) | (simp only [bxU]; omega) | ((try apply has_setN); apply has_ofL; simp only [bxL]; omega)) only [↓bxD, bxP, bxQ, Nat.reduceBEq, reduceCtorEq, Nat.reduceAdd, Nat.reduceSub, Nat.reduceMul, Nat.reduceLeDiff, Nat.reduceLT, bxR, hb0, hG]
    show Wp fns K15_8 _ _ _
    exact pform_rules ⟨h1.ext hx2, hx1.trans hx2, hlo, by omega, hb2, by simp only [bxP, bxQ, reduceCtorEq, hb0, hG]⟩ hb
structure ISt (M0 M : MH) (g : Gr) (vr vf vc vk : MV) (es : List (List MV)) (id : Nat) (l : List Int) (f : Fr) : Prop where
  gr : GrAt M0 vr vf vc vk es g
  ok : GrOk g
  ext : Ext M0 M
  lo0 : M0.lo ≤ M0.n
  b0 : M.get M0.n = some (.cs false 7 (ofL (gcs g vr vf vc vk) 0))
  id1 : M0.n < id
  id2 : id < M.n
  row : IntsAt M id l
  inn : ShIn g l
  q1 : X.ev f (.t q1) = .p M0.n 0
  q3 : X.ev f (.t q3) = .sl id 0 l.length 0
theorem shRnd_take {rs : List (Int × List Int × Int)} {l : List Int} {i : Nat} {r : Int × List Int × Int} (h : rs[i]? = some r) : shRnd (rs.take (i + 1)) l = shStep (shRnd (rs.take i) l) r := by
  unfold shRnd
  rw [List.take_add_one, h, List.foldl_append]
  rfl
theorem short_round {M0 M : MH} {g : Gr} {vr vf vc vk : MV} {es : List (List MV)} {id : Nat} {l0 : List Int} {f : Fr} (h : ISt M0 M g vr vf vc vk es id l0 f) (Q : Post)
    (hn : ∀ f' M' l' more, ISt M0 M' g vr vf vc vk es id l' f' → X.ev f' (.t q4) = .b more → l' = shRnd g.rules l0 → ((more = true ∧ shMu l' < shMu l0) ∨ (more = false ∧ l' = l0 ∧ ShStill g.rules l0)) → Q .norm f' M') : Wp fns K32_3 f M Q := by
  have hq1 := h.q1
  have hq3 := h.q3
  have hbox := h.b0
  obtain ⟨hr1, hr2⟩ := h.gr.rules.row.sl
  rw [h.gr.rules.len] at hr2
  unfold gcs at hbox
  simp only [q1, q3] at hq1 hq3
  unfold K32_3
  simp (maxSteps := 4000000) (disch := first | omega | assumption | (simp only [bxS, bxV, stOk, Nat.reduceBEq, Nat.reduceEqDiff, Nat.reduceAdd]; done) | (simp only [bxU]; omega) | ((try apply has_setN); apply has_ofL; simp only [bxL]; omega)) only [↓bxD, bxP, bxQ, Nat.reduceBEq, reduceCtorEq, Nat.reduceAdd, Nat.reduceSub, Nat.reduceMul, Nat.reduceLeDiff, Nat.reduceLT, bxR, hq1, hq3, hbox, hr1, hr2]
  refine Wp_inv (σ := Nat × List Int × Bool) (fun s f1 M1 => ISt M0 M1 g vr vf vc vk es id s.2.1 f1 ∧ s.1 ≤ g.rules.length ∧ X.ev f1 (.t q14) = vr ∧ X.ev f1 (.t q15) = .i .i64 (g.rules.length : Int) ∧ X.ev f1 (.t q16) = .i .i64 (s.1 : Int) ∧ X.ev f1 (.t q4) = .b s.2.2 ∧ s.2.1 = shRnd (g.rules.take s.1) l0 ∧ ((s.2.2 = true ∧ shMu s.2.1 < shMu l0) ∨ (s.2.2 = false ∧ s.2.1 = l0 ∧ ShStill (g.rules.take s.1) l0))) (fun s => g.rules.length - s.1) ?_ (0, l0, false) ?_
  · rintro ⟨i, l, more⟩ f1 M1 ⟨h, hi, h14, h15, h16, h4, hl, hc⟩
    simp only at h hi h14 h15 h16 h4 hl hc
    clear hq1 hq3 hbox
    have hq1 := h.q1
    have hq3 := h.q3
    have hbox := h.b0
    have hlo := h.lo0
    have hn0 := h.ext.n
    have hl0 := h.ext.lo
    have hid1 := h.id1
    have hid2 := h.id2
    unfold gcs at hbox
    have hrl := h.ok.rl
    simp only [q1, q3, q4, q14, q15, q16] at hq1 hq3 h4 h14 h15 h16
    unfold L32_2
    by_cases hi' : i < g.rules.length
    · have d1 : decide ((i : Int) < (g.rules.length : Int)) = true := decide_eq_true (by omega)
      obtain ⟨r, hr⟩ : ∃ r, g.rules[i]? = some r := ⟨_, List.getElem?_eq_getElem hi'⟩
      have hrt := shRnd_take (l := l0) hr
      rw [← hl] at hrt
      obtain ⟨a0, ar, a2⟩ := r
      have hmem := List.mem_of_getElem? hr
      obtain ⟨ur, hu1, hu2⟩ := h.gr.rules.get hr
      have hrow := h.gr.rules.row.ext h.ext
      obtain ⟨ro3, s3, t3, hg3, hid3, hat3⟩ := hrow.read hu1
      have hN : Ev.getN t3 3 (soff vr + i * 3) = some [.i .i64 a0, ur, .i .i64 a2] := hat3.getN
      obtain ⟨hu3, hu4⟩ := hu2.sl
      have hu6 := isSl_one hu3
      have hst : stOk 3 (.ag [.i .i64 a0, ur, .i .i64 a2]) = true := by simp only [stOk, cells_ag, isU_ag, all_cons, all_nil, one_i, hu6]; rfl
      obtain ⟨ha0, ha1⟩ := h.ok.left _ hmem
      simp only at ha0 ha1
      obtain ⟨an, rfl⟩ : ∃ n : Nat, a0 = n := ⟨a0.toNat, by omega⟩
      have hll := h.inn.len
      have han : an < l.length := by omega
      simp (maxSteps := 4000000) (disch := first | omega | assumption | (simp only [bxS, bxV, stOk, Nat.reduceBEq, Nat.reduceEqDiff, Nat.reduceAdd]; done) | (simp only [bxU]; omega) | ((try apply has_setN); apply has_ofL; simp only [bxL]; omega)) only [↓bxD, bxP, bxQ, Nat.reduceBEq, reduceCtorEq, Nat.reduceAdd, Nat.reduceSub, Nat.reduceMul, Nat.reduceLeDiff, Nat.reduceLT, bxR, hq1, hq3, h4, h14, h15, h16, hr1, hr2, hg3, hN, d1]
      show Wp fns K32_1 _ _ _
      unfold K32_1
      simp (maxSteps := 4000000) (disch := first | omega | assumption | (simp only [bxS, bxV, stOk, Nat.reduceBEq, Nat.reduceEqDiff, Nat.reduceAdd]; done) | (simp only [bxU]; omega) | ((try apply has_setN); apply has_ofL; simp only [bxL]; omega)) only [↓bxD, bxP, bxQ, Nat.reduceBEq, reduceCtorEq, Nat.reduceAdd, Nat.reduceSub, Nat.reduceMul, Nat.reduceLeDiff, Nat.reduceLT, bxR, hq1, hq3, h4, h14, h15, h16, hr1, hr2, hg3, hN, d1]
      generalize hM2 : (M1.push _).set M1.n _ = M2
      have hx2 : Ext M1 M2 := by rw [← hM2]; exact (Ext.push M1 _).set _ (Nat.le_refl _)
      have h9 : M2.get M1.n = some (.cs false 3 (setN [.i .i64 (an : Int), ur, .i .i64 a2] 0 (ofL [.i .i64 0, .nils, .i .i64 0] 0))) := by rw [← hM2, set_same]
      have hn3 : M2.n = M1.n + 1 := by rw [← hM2]; rfl
      clear hM2
      have hC3 : At (setN [MV.i .i64 (an : Int), ur, .i .i64 a2] 0 (ofL [.i .i64 0, .nils, .i .i64 0] 0)) 0 [.i .i64 (an : Int), ur, .i .i64 a2] := at_setN _ _ _
      have c0 : cget (setN [MV.i .i64 (an : Int), ur, .i .i64 a2] 0 (ofL [.i .i64 0, .nils, .i .i64 0] 0)) 0 = some (.i .i64 (an : Int)) := hC3 0 _ rfl
      have c1 : cget (setN [MV.i .i64 (an : Int), ur, .i .i64 a2] 0 (ofL [.i .i64 0, .nils, .i .i64 0] 0)) 1 = some ur := hC3 1 _ rfl
      have hl2 := hx2.lo
      have hrow2 : IntsAt M2 id l := h.row.same (hx2.old _ hid2)
      have hsy := h.ok.sym _ hmem
      have hle := h.ok.len _ hmem
      simp only at hsy hle
      have hb2 : M2.get M0.n = some (.cs false 7 (ofL (gcs g vr vf vc vk) 0)) := (hx2.old _ (by omega)).trans h.b0
      refine bindP_call (row_any (hrow2.row (by omega)) (hu2.ext (h.ext.trans hx2)) h.inn.lo (fun s hs s0 => by have := symB_lt (hsy s hs) s0; omega) hle) ?_
      rintro m M3 ⟨rfl, rfl⟩
      obtain ⟨t, ht1, ht2, ht3, ht4⟩ := hrow2.read
      obtain ⟨z, hz⟩ : ∃ z, l[an]? = some z := ⟨_, List.getElem?_eq_getElem han⟩
      have hR := ht2 _ _ hz
      have hH := ht3 an han
      have hzb := h.inn.lo z (List.mem_of_getElem? hz)
      have hgd : l.getD an (-1) = z := by rw [List.getD_eq_getElem?_getD, hz]; rfl
      have hrb := @shRow_le l ar
      have hcd : shCond l ((an : Int), ar, a2) = (decide (0 ≤ shRow l ar) && (decide (z < 0) || decide (shRow l ar < z))) := by unfold shCond; simp only [Int.toNat_natCast, hgd]
      have stay : shCond l ((an : Int), ar, a2) = false → ISt M0 M3 g vr vf vc vk es id l f1 ∧ l = shRnd (g.rules.take (i + 1)) l0 ∧ ((more = true ∧ shMu l < shMu l0) ∨ (more = false ∧ l = l0 ∧ ShStill (g.rules.take (i + 1)) l0)) := fun e => by
        refine ⟨⟨h.gr, h.ok, h.ext.trans hx2, h.lo0, hb2, h.id1, by omega, hrow2, h.inn, h.q1, h.q3⟩, ?_, ?_⟩
        · rw [hrt]; unfold shStep; rw [e]; rfl
        · rcases hc with hc | ⟨hc1, hc2, hc3⟩
          · exact .inl hc
          · refine .inr ⟨hc1, hc2, fun r hr' => ?_⟩
            rw [List.take_add_one, hr] at hr'
            rcases List.mem_append.1 hr' with h1 | h1
            · exact hc3 r h1
            · simp only [Option.toList_some, List.mem_singleton] at h1
              subst h1
              rw [← hc2]; exact e
      by_cases e1 : shRow l ar = -1
      · have de : decide (shRow l ar ≠ Int.negSucc 0) = false := decide_eq_false (fun h => h e1)
        have hcf : shCond l ((an : Int), ar, a2) = false := by rw [hcd, decide_eq_false (by omega)]; rfl
        obtain ⟨s1, s2, s3⟩ := stay hcf
        simp (maxSteps := 4000000) (disch := first | omega | assumption | (simp only [bxS, bxV, stOk, Nat.reduceBEq, Nat.reduceEqDiff, Nat.reduceAdd]; done) | (simp only [bxU]; omega) | ((try apply has_setN); apply has_ofL; simp only [bxL]; omega)) only [↓bxD, bxP, bxQ, Nat.reduceBEq, reduceCtorEq, Nat.reduceAdd, Nat.reduceSub, Nat.reduceMul, Nat.reduceLeDiff, Nat.reduceLT, bxR, hq1, hq3, h4, h14, h15, h16, h9, c0, c1, ix_slc, ht1, hR, de]
        show Wp fns K32_0 _ _ _
        unfold K32_0
        simp (maxSteps := 4000000) (disch := first | omega | assumption | (simp only [bxS, bxV, stOk, Nat.reduceBEq, Nat.reduceEqDiff, Nat.reduceAdd]; done) | (simp only [bxU]; omega) | ((try apply has_setN); apply has_ofL; simp only [bxL]; omega)) only [↓bxD, bxP, bxQ, Nat.reduceBEq, reduceCtorEq, Nat.reduceAdd, Nat.reduceSub, Nat.reduceMul, Nat.reduceLeDiff, Nat.reduceLT, bxR, hq1, hq3, h4, h14, h15, h16, h9, c0, c1, ix_slc, ht1, hR, de]
        exact ⟨(i + 1, l, more), by simp only; omega, ⟨s1.gr, s1.ok, s1.ext, s1.lo0, s1.b0, s1.id1, s1.id2, s1.row, s1.inn, by simp only [bxP, bxQ, reduceCtorEq, hq1, hq3, h4, h14, h15, h16, h9, c0, c1, ix_slc, ht1, hR, de], by simp only [bxP, bxQ, reduceCtorEq, hq1, hq3, h4, h14, h15, h16, h9, c0, c1, ix_slc, ht1, hR, de]⟩, by simp only; omega, rfl, rfl, s2, s3⟩
      · have de : decide (shRow l ar ≠ Int.negSucc 0) = true := decide_eq_true e1
        have turn : shCond l ((an : Int), ar, a2) = true → Ext M0 (M3.set id (some (.cs false 1 (setN (MV.i .i64 (shRow l ar)).cells (an * 1) t)))) ∧ (M3.set id (some (.cs false 1 (setN (MV.i .i64 (shRow l ar)).cells (an * 1) t)))).get M0.n = some (.cs false 7 (ofL (gcs g vr vf vc vk) 0)) ∧ IntsAt (M3.set id (some (.cs false 1 (setN (MV.i .i64 (shRow l ar)).cells (an * 1) t)))) id (l.set an (shRow l ar)) ∧ ShIn g (l.set an (shRow l ar)) ∧ l.set an (shRow l ar) = shRnd (g.rules.take (i + 1)) l0 ∧ shMu (l.set an (shRow l ar)) < shMu l0 := fun e => by
          have hs := h.inn.step h.ok hmem
          unfold shStep at hs hrt
          rw [e] at hs hrt
          simp only [if_true, Int.toNat_natCast] at hs hrt
          have hmu := shMu_step hll h.ok hmem e
          simp only [Int.toNat_natCast] at hmu
          refine ⟨(h.ext.trans hx2).set _ (by omega), ?_, ⟨_, set_same _ _, ht4 an _ han⟩, hs, hrt.symm, ?_⟩
          · rw [set_ne (by omega)]; exact hb2
          · rcases hc with ⟨_, hc⟩ | ⟨_, rfl, _⟩
            · exact Nat.lt_trans hmu hc
            · exact hmu
        by_cases e2 : z = -1
        · have hcf : shCond l ((an : Int), ar, a2) = true := by rw [hcd, decide_eq_true (show 0 ≤ shRow l ar by omega), decide_eq_true (show z < 0 by omega)]; rfl
          have dz : decide (z = Int.negSucc 0) = true := decide_eq_true e2
          simp (maxSteps := 4000000) (disch := first | omega | assumption | (simp only [bxS, bxV, stOk, Nat.reduceBEq, Nat.reduceEqDiff, Nat.reduceAdd]; done) | (simp only [bxU]; omega) | ((try apply has_setN); apply has_ofL; simp only [bxL]; omega)) only [↓bxD, bxP, bxQ, Nat.reduceBEq, reduceCtorEq, Nat.reduceAdd, Nat.reduceSub, Nat.reduceMul, Nat.reduceLeDiff, Nat.reduceLT, bxR, hq1, hq3, h4, h14, h15, h16, h9, c0, c1, ix_slc, ht1, hR, hH, de, dz]
          show Wp fns K32_0 _ _ _
          unfold K32_0
          simp (maxSteps := 4000000) (disch := first | omega | assumption | (simp only [bxS, bxV, stOk, Nat.reduceBEq, Nat.reduceEqDiff, Nat.reduceAdd]; done) | (simp only [bxU]; omega) | ((try apply has_setN); apply has_ofL; simp only [bxL]; omega)) only [↓bxD, bxP, bxQ, Nat.reduceBEq, reduceCtorEq, Nat.reduceAdd, Nat.reduceSub, Nat.reduceMul, Nat.reduceLeDiff, Nat.reduceLT, bxR, hq1, hq3, h4, h14, h15, h16, h9, c0, c1, ix_slc, ht1, hR, hH, de, dz]
          obtain ⟨s1, s2, s3, s4, s5, s6⟩ := turn hcf
          exact ⟨(i + 1, _, true), by simp only; omega, ⟨h.gr, h.ok, s1, h.lo0, s2, h.id1, by rw [set_n]; omega, s3, s4, by simp only [bxP, bxQ, reduceCtorEq, hq1, hq3, h4, h14, h15, h16, h9, c0, c1, ix_slc, ht1, hR, hH, de, dz], by simp (maxSteps := 4000000) (disch := first | omega | assumption | (simp only [bxS, bxV, stOk, Nat.reduceBEq, Nat.reduceEqDiff, Nat.reduceAdd]; done) | (simp only [bxU]; omega) | ((try apply has_setN); apply has_ofL; simp only [bxL]; omega)) only [↓bxD, bxP, bxQ, Nat.reduceBEq, reduceCtorEq, Nat.reduceAdd, Nat.reduceSub, Nat.reduceMul, Nat.reduceLeDiff, Nat.reduceLT, bxR, hq1, hq3, h4, h14, h15, h16, h9, c0, c1, ix_slc, ht1, hR, hH, de, dz, List.length_set]⟩, by simp only; omega, rfl, rfl, s5, .inl ⟨rfl, s6⟩⟩
        · have dz : decide (z = Int.negSucc 0) = false := decide_eq_false e2
          by_cases e3 : shRow l ar < z
          · have hcf : shCond l ((an : Int), ar, a2) = true := by rw [hcd, decide_eq_true (show 0 ≤ shRow l ar by omega), decide_eq_true e3, Bool.or_true]; rfl
            have d3 : decide (shRow l ar < z) = true := decide_eq_true e3
            simp (maxSteps := 4000000) (disch := first | omega | assumption | (simp only [bxS, bxV, stOk, Nat.reduceBEq, Nat.reduceEqDiff, Nat.reduceAdd]; done) | (simp only [bxU]; omega) | ((try apply has_setN); apply has_ofL; simp only [bxL]; omega)) only [↓bxD, bxP, bxQ, Nat.reduceBEq, reduceCtorEq, Nat.reduceAdd, Nat.reduceSub, Nat.reduceMul, Nat.reduceLeDiff, Nat.reduceLT, bxR, hq1, hq3, h4, h14, h15, h16, h9, c0, c1, ix_slc, ht1, hR, hH, de, dz, d3]
            show Wp fns K32_0 _ _ _
            unfold K32_0
            simp (maxSteps := 4000000) (disch := first | omega | assumption | (simp only [bxS, bxV, stOk, Nat.reduceBEq, Nat.reduceEqDiff, Nat.reduceAdd]; done) | (simp only [bxU]; omega) | ((try apply has_setN); apply has_ofL; simp only [bxL]; omega)) only [↓bxD, bxP, bxQ, Nat.reduceBEq, reduceCtorEq, Nat.reduceAdd, Nat.reduceSub, Nat.reduceMul, Nat.reduceLeDiff, Nat.reduceLT, bxR, hq1, hq3, h4, h14, h15, h16, h9, c0, c1, ix_slc, ht1, hR, hH, de, dz, d3]
            obtain ⟨s1, s2, s3, s4, s5, s6⟩ := turn hcf
            exact ⟨(i + 1, _, true), by simp only; omega, ⟨h.gr, h.ok, s1, h.lo0, s2, h.id1, by rw [set_n]; omega, s3, s4, by simp only [bxP, bxQ, reduceCtorEq, hq1, hq3, h4, h14, h15, h16, h9, c0, c1, ix_slc, ht1, hR, hH, de, dz, d3], by simp (maxSteps := 4000000) (disch := first | omega | assumption | (simp only [bxS, bxV, stOk, Nat.reduceBEq, Nat.reduceEqDiff, Nat.reduceAdd]; done) | (simp only [bxU]; omega) | ((try apply has_setN); apply has_ofL; simp only [bxL]; omega)) only [↓bxD, bxP, bxQ, Nat.reduceBEq, reduceCtorEq, Nat.reduceAdd, Nat.reduceSub, Nat.reduceMul, Nat.reduceLeDiff, Nat.reduceLT, bxR, hq1, hq3, h4, h14, h15, h16, h9, c0, c1, ix_slc, ht1, hR, hH, de, dz, d3, List.length_set]⟩, by simp only; omega, rfl, rfl, s5, .inl ⟨rfl, s6⟩⟩
          · have hcf : shCond l ((an : Int), ar, a2) = false := by rw [hcd, decide_eq_false (show ¬ z < 0 by omega), decide_eq_false e3]; simp
            have d3 : decide (shRow l ar < z) = false := decide_eq_false e3
            obtain ⟨s1, s2, s3⟩ := stay hcf
            simp (maxSteps := 4000000) (disch := first | omega | assumption | (simp only [bxS, bxV, stOk, Nat.reduceBEq, Nat.reduceEqDiff, Nat.reduceAdd]; done) | (simp only [bxU]; omega) | ((try apply has_setN); apply has_ofL; simp only [bxL]; omega)) only [↓bxD, bxP, bxQ, Nat.reduceBEq, reduceCtorEq, Nat.reduceAdd, Nat.reduceSub, Nat.reduceMul, Nat.reduceLeDiff, Nat.reduceLT, bxR, hq1, hq3, h4, h14, h15, h16, h9, c0, c1, ix_slc, ht1, hR, hH, de, dz, d3]
            show Wp fns K32_0 _ _ _
            unfold K32_0
            simp (maxSteps := 4000000) (disch := first | omega | assumption | (simp only [bxS, bxV, stOk, Nat.reduceBEq, Nat.reduceEqDiff, Nat.reduceAdd]; done) | (simp only [bxU]; omega) | ((try apply has_setN); apply has_ofL; simp only [bxL]; omega)) only [↓bxD, bxP, bxQ, Nat.reduceBEq, reduceCtorEq, Nat.reduceAdd, Nat.reduceSub, Nat.reduceMul, Nat.reduceLeDiff, Nat.reduceLT, bxR, hq1, hq3, h4, h14, h15, h16, h9, c0, c1, ix_slc, ht1, hR, hH, de, dz, d3]
            exact ⟨(i + 1, l, more), by simp only; omega, ⟨s1.gr, s1.ok, s1.ext, s1.lo0, s1.b0, s1.id1, s1.id2, s1.row, s1.inn, by simp only [bxP, bxQ, reduceCtorEq, hq1, hq3, h4, h14, h15, h16, h9, c0, c1, ix_slc, ht1, hR, hH, de, dz, d3], by simp only [bxP, bxQ, reduceCtorEq, hq1, hq3, h4, h14, h15, h16, h9, c0, c1, ix_slc, ht1, hR, hH, de, dz, d3]⟩, by simp only; omega, rfl, rfl, s2, s3⟩
    · have d1 : decide ((i : Int) < (g.rules.length : Int)) = false := decide_eq_false (by omega)
      have hi2 : i = g.rules.length := by omega
      subst hi2
      rw [List.take_length] at hc hl
      simp (maxSteps := 4000000) (disch := first | omega | assumption | (simp only [bxS, bxV, stOk, Nat.reduceBEq, Nat.reduceEqDiff, Nat.reduceAdd]; done) | (simp only [bxU]; omega) | ((try apply has_setN); apply has_ofL; simp only [bxL]; omega)) only [↓bxD, bxP, bxQ, Nat.reduceBEq, reduceCtorEq, Nat.reduceAdd, Nat.reduceSub, Nat.reduceMul, Nat.reduceLeDiff, Nat.reduceLT, bxR, hq1, hq3, h4, h14, h15, h16, d1]
      exact hn _ _ l more ⟨h.gr, h.ok, h.ext, h.lo0, h.b0, h.id1, h.id2, h.row, h.inn, by simp only [bxP, bxQ, reduceCtorEq, hq1, hq3, h4, h14, h15, h16, d1], by simp only [bxP, bxQ, reduceCtorEq, hq1, hq3, h4, h14, h15, h16, d1]⟩ (by simp only [bxP, bxQ, reduceCtorEq, hq1, hq3, h4, h14, h15, h16, d1]) hl hc
  · exact ⟨⟨h.gr, h.ok, h.ext, h.lo0, h.b0, h.id1, h.id2, h.row, h.inn, by simp only [bxP, bxQ, reduceCtorEq, hq1, hq3, hbox, hr1, hr2], by simp only [bxP, bxQ, reduceCtorEq, hq1, hq3, hbox, hr1, hr2]⟩, Nat.zero_le _, by simp only [bxP, bxQ, reduceCtorEq, hq1, hq3, hbox, hr1, hr2], by simp only [bxP, bxQ, reduceCtorEq, hq1, hq3, hbox, hr1, hr2], by simp only [bxP, bxQ, reduceCtorEq, hq1, hq3, hbox, hr1, hr2] <;> rfl, by simp only [bxP, bxQ, reduceCtorEq, hq1, hq3, hbox, hr1, hr2], rfl, .inr ⟨rfl, rfl, fun r hr => by simp at hr⟩⟩
theorem push2b {M M2 : MH} {a b : MO} (h : (M.push a).push b = M2) : Ext M M2 ∧ M2.n = M.n + 2 ∧ M2.get M.n = some a ∧ M2.get (M.n + 1) = some b := by
  subst h
  refine ⟨(Ext.push M a).trans (.push _ b), rfl, ?_, push_new (M := M.push a) b⟩
  rw [push_old (by show M.n < M.n + 1; omega)]; exact push_new _
theorem shortest_any {M : MH} {g : Gr} {vr vf vc vk : MV} {es : List (List MV)} (h : GrAt M vr vf vc vk es g) (hok : GrOk g) (hlo : M.lo ≤ M.n) : Cp fns 32 [.ag (gcs g vr vf vc vk)] M fun m M' => Ext M M' ∧ ∃ l id, ShVec g l ∧ m = .sl id 0 l.length 0 ∧ IntsAt M' id l ∧ M.n ≤ id ∧ id < M'.n := by
  refine Cp_call (fn := F32) (by kernel_rfl) (Nat.le_of_ble_eq_true rfl) ?_
  show Wp fns B32 (T.set q0 (some (.ag (gcs g vr vf vc vk))) T.lf) M _
  unfold B32
  rw [show gcs g vr vf vc vk = [MV.i IntKind.i64 g.names, MV.i IntKind.i64 g.kinds, MV.i IntKind.i64 g.start, vr, vf, vc, vk] from rfl]
  obtain ⟨nn, hnn⟩ : ∃ n : Nat, g.names = n := ⟨g.names.toNat, by have := hok.n1; omega⟩
  have hn1 := hok.n1
  have hn40 := hok.n2
  have hfill : fillM [(0, 1, MV.i .i64 (Int.negSucc 0))] [MV.i .i64 0] = some [MV.i .i64 (Int.negSucc 0)] := fill_one rfl rfl
  simp (maxSteps := 4000000) (disch := first | omega | assumption | (simp only [bxS, bxV, stOk, Nat.reduceBEq, Nat.reduceEqDiff, Nat.reduceAdd]; done) | (simp only [bxU]; omega) | ((try apply has_setN); apply has_ofL; simp only [bxL]; omega)) only [↓bxD, bxP, bxQ, Nat.reduceBEq, reduceCtorEq, Nat.reduceAdd, Nat.reduceSub, Nat.reduceMul, Nat.reduceLeDiff, Nat.reduceLT, bxR, hnn, hfill]
  have hp := row_one (M := M.push (.cs false 7 (ofL [MV.i .i64 (nn : Int), .i .i64 g.kinds, .i .i64 g.start, vr, vf, vc, vk] 0))) (sz := 1) (e := [MV.i .i64 (Int.negSucc 0)]) rfl
  generalize hM2 : (M.push _).push _ = M2 at hp ⊢
  obtain ⟨x2, n2, g2, _⟩ := push2b hM2
  have l2 := x2.lo
  clear hM2
  have hp : IntRow M2 (.sl (M.n + 1) 0 1 0) [-1] := hp
  refine bindP_call (repeat_any (z := -1) hp ⟨by omega, by omega⟩ (by omega)) ?_
  rintro m M3 ⟨x3, rfl, hi3, n3⟩
  have g3 := (x3.old M.n (by omega)).trans g2
  simp (maxSteps := 4000000) (disch := first | omega | assumption | (simp only [bxS, bxV, stOk, Nat.reduceBEq, Nat.reduceEqDiff, Nat.reduceAdd]; done) | (simp only [bxU]; omega) | ((try apply has_setN); apply has_ofL; simp only [bxL]; omega)) only [↓bxD, bxP, bxQ, Nat.reduceBEq, reduceCtorEq, Nat.reduceAdd, Nat.reduceSub, Nat.reduceMul, Nat.reduceLeDiff, Nat.reduceLT, bxR, hnn, hfill]
  have hin : ShIn g (shIt g 0) := ShIn.it hok 0
  have hnn' : g.names.toNat = nn := by omega
  refine Wp_inv (σ := List Int × Bool) (fun s f1 M1 => ISt M M1 g vr vf vc vk es M2.n s.1 f1 ∧ X.ev f1 (.t q4) = .b s.2 ∧ (∃ n, s.1 = shIt g n) ∧ (s.2 = false → ShStill g.rules s.1)) (fun s => 2 * shMu s.1 + (if s.2 = true then 1 else 0)) ?_ (shIt g 0, true) ?_
  · rintro ⟨l, more⟩ f1 M4 ⟨h4, ht, hs, hc⟩
    simp only at h4 ht hs hc
    have hq1 := h4.q1
    have hq3 := h4.q3
    simp only [q1, q3, q4] at hq1 hq3 ht
    unfold L32_4
    cases more with
    | true =>
      simp (maxSteps := 4000000) (disch := first | omega | assumption | (simp only [bxS, bxV, stOk, Nat.reduceBEq, Nat.reduceEqDiff, Nat.reduceAdd]; done) | (simp only [bxU]; omega) | ((try apply has_setN); apply has_ofL; simp only [bxL]; omega)) only [↓bxD, bxP, bxQ, Nat.reduceBEq, reduceCtorEq, Nat.reduceAdd, Nat.reduceSub, Nat.reduceMul, Nat.reduceLeDiff, Nat.reduceLT, bxR, hq1, hq3, ht]
      show Wp fns K32_3 _ _ _
      refine short_round ⟨h4.gr, h4.ok, h4.ext, h4.lo0, h4.b0, h4.id1, h4.id2, h4.row, h4.inn, by simp only [bxP, bxQ, reduceCtorEq, hq1, hq3, ht], by simp only [bxP, bxQ, reduceCtorEq, hq1, hq3, ht]⟩ _ ?_
      intro f' M' l' more' h' h4' hs' hcase
      refine ⟨(l', more'), ?_, h', h4', ?_, fun e => ?_⟩
      · rcases hcase with ⟨rfl, hlt⟩ | ⟨rfl, rfl, _⟩
        · simp only [if_true]; omega
        · simp
      · obtain ⟨n, rfl⟩ := hs
        exact ⟨n + 1, hs'⟩
      · rcases hcase with ⟨rfl, _⟩ | ⟨_, rfl, hc'⟩
        · cases e
        · exact hc'
    | false =>
      simp (maxSteps := 4000000) (disch := first | omega | assumption | (simp only [bxS, bxV, stOk, Nat.reduceBEq, Nat.reduceEqDiff, Nat.reduceAdd]; done) | (simp only [bxU]; omega) | ((try apply has_setN); apply has_ofL; simp only [bxL]; omega)) only [↓bxD, bxP, bxQ, Nat.reduceBEq, reduceCtorEq, Nat.reduceAdd, Nat.reduceSub, Nat.reduceMul, Nat.reduceLeDiff, Nat.reduceLT, bxR, hq1, hq3, ht]
      show Wp fns K32_5 _ _ _
      unfold K32_5
      simp (maxSteps := 4000000) (disch := first | omega | assumption | (simp only [bxS, bxV, stOk, Nat.reduceBEq, Nat.reduceEqDiff, Nat.reduceAdd]; done) | (simp only [bxU]; omega) | ((try apply has_setN); apply has_ofL; simp only [bxL]; omega)) only [↓bxD, bxP, bxQ, Nat.reduceBEq, reduceCtorEq, Nat.reduceAdd, Nat.reduceSub, Nat.reduceMul, Nat.reduceLeDiff, Nat.reduceLT, bxR, hq1, hq3, ht]
      exact ⟨h4.ext, l, M2.n, ⟨hs, hc rfl⟩, rfl, h4.row, by omega, h4.id2⟩
  · refine ⟨⟨h, hok, x2.trans x3, hlo, by rw [g3]; unfold gcs; rw [hnn], by omega, by omega, ?_, hin, by simp only [bxP, bxQ, reduceCtorEq, hnn, hfill], ?_⟩, by simp only [bxP, bxQ, reduceCtorEq, hnn, hfill], ⟨0, rfl⟩, fun e => by cases e⟩
    · show IntsAt M3 M2.n (List.replicate g.names.toNat (-1))
      rw [hnn']; exact hi3
    · simp (maxSteps := 4000000) (disch := first | omega | assumption | (simp only [bxS, bxV, stOk, Nat.reduceBEq, Nat.reduceEqDiff, Nat.reduceAdd]; done) | (simp only [bxU]; omega) | ((try apply has_setN); apply has_ofL; simp only [bxL]; omega)) only [↓bxD, bxP, bxQ, Nat.reduceBEq, reduceCtorEq, Nat.reduceAdd, Nat.reduceSub, Nat.reduceMul, Nat.reduceLeDiff, Nat.reduceLT, bxR, hnn, hfill]
      show MV.sl M2.n 0 nn 0 = .sl M2.n 0 (List.replicate g.names.toNat (-1)).length 0
      rw [List.length_replicate, hnn']
theorem isForm_any {M : MH} {g : Gr} {vr vf vc vk : MV} {es : List (List MV)} (h : GrAt M vr vf vc vk es g) (hlo : M.lo ≤ M.n) : Cp fns 22 [.ag (gcs g vr vf vc vk)] M fun m M' => m = .b (decide ((formP g).2 = 0)) ∧ Ext M M' := by
  have hG : ∀ l, l = gcs g vr vf vc vk → Ev.getN (ofL l 0) 7 0 = some (gcs g vr vf vc vk) := fun l e => by subst e; exact (at_ofL (gcs g vr vf vc vk)).getN
  have hG := hG [MV.i IntKind.i64 g.names, MV.i IntKind.i64 g.kinds, MV.i IntKind.i64 g.start, vr, vf, vc, vk] rfl
  refine Cp_call (fn := F22) (by kernel_rfl) (Nat.le_of_ble_eq_true rfl) ?_
  show Wp fns B22 (T.set q0 (some (.ag (gcs g vr vf vc vk))) T.lf) M _
  unfold B22
  rw [show gcs g vr vf vc vk = [MV.i IntKind.i64 g.names, MV.i IntKind.i64 g.kinds, MV.i IntKind.i64 g.start, vr, vf, vc, vk] from rfl]
  simp (maxSteps := 4000000) (disch := first | omega | assumption | (simp only [bxS, bxV, stOk, Nat.reduceBEq, Nat.reduceEqDiff, Nat.reduceAdd]; done) | (simp only [bxU]; omega) | ((try apply has_setN); apply has_ofL; simp only [bxL]; omega)) only [↓bxD, bxP, bxQ, Nat.reduceBEq, reduceCtorEq, Nat.reduceAdd, Nat.reduceSub, Nat.reduceMul, Nat.reduceLeDiff, Nat.reduceLT, bxR, hG]
  refine bindP_call (prog_form (h.ext (.push M _)) (by show M.lo ≤ M.n + 1; omega)) ?_
  rintro m M2 ⟨rfl, hx⟩
  simp (maxSteps := 4000000) (disch := first | omega | assumption | (simp only [bxS, bxV, stOk, Nat.reduceBEq, Nat.reduceEqDiff, Nat.reduceAdd]; done) | (simp only [bxU]; omega) | ((try apply has_setN); apply has_ofL; simp only [bxL]; omega)) only [↓bxD, bxP, bxQ, Nat.reduceBEq, reduceCtorEq, Nat.reduceAdd, Nat.reduceSub, Nat.reduceMul, Nat.reduceLeDiff, Nat.reduceLT, bxR, hG]
  exact (Ext.push M _).trans hx
def ShPost (g : Gr) (M : MH) (m : MV) (M' : MH) : Prop := Ext M M' ∧ (((formP g).2 ≠ 0 ∧ m = .nils) ∨ ((formP g).2 = 0 ∧ ∃ l, ShVec g l ∧ IntRow M' m l))
def PrPost (g : Gr) (M : MH) (m : MV) (M' : MH) : Prop := Ext M M' ∧ (((formP g).2 ≠ 0 ∧ m = .nils) ∨ ((formP g).2 = 0 ∧ ∃ l, ShVec g l ∧ BRow M' m (l.map fun z => decide (0 ≤ z))))
theorem pprod_any {M : MH} {g : Gr} {vr vf vc vk : MV} {es : List (List MV)} (h : GrAt M vr vf vc vk es g) (hlo : M.lo ≤ M.n) : Cp fns 17 [.ag (gcs g vr vf vc vk)] M (PrPost g M) := by
  have hG : ∀ l, l = gcs g vr vf vc vk → Ev.getN (ofL l 0) 7 0 = some (gcs g vr vf vc vk) := fun l e => by subst e; exact (at_ofL (gcs g vr vf vc vk)).getN
  have hG := hG [MV.i IntKind.i64 g.names, MV.i IntKind.i64 g.kinds, MV.i IntKind.i64 g.start, vr, vf, vc, vk] rfl
  refine Cp_call (fn := F17) (by kernel_rfl) (Nat.le_of_ble_eq_true rfl) ?_
  show Wp fns B17 (T.set q0 (some (.ag (gcs g vr vf vc vk))) T.lf) M _
  unfold B17
  rw [show gcs g vr vf vc vk = [MV.i IntKind.i64 g.names, MV.i IntKind.i64 g.kinds, MV.i IntKind.i64 g.start, vr, vf, vc, vk] from rfl]
  generalize hM1 : M.push (.cs false 7 (ofL [MV.i IntKind.i64 g.names, MV.i IntKind.i64 g.kinds, MV.i IntKind.i64 g.start, vr, vf, vc, vk] 0)) = M1
  have g0 : M1.get M.n = some (.cs false 7 (ofL [MV.i IntKind.i64 g.names, MV.i IntKind.i64 g.kinds, MV.i IntKind.i64 g.start, vr, vf, vc, vk] 0)) := by rw [← hM1]; exact push_new _
  have x1 : Ext M M1 := by rw [← hM1]; exact .push M _
  have n1 : M1.n = M.n + 1 := by rw [← hM1]; rfl
  have l1 := x1.lo
  simp (maxSteps := 4000000) (disch := first | omega | assumption | (simp only [bxS, bxV, stOk, Nat.reduceBEq, Nat.reduceEqDiff, Nat.reduceAdd]; done) | (simp only [bxU]; omega) | ((try apply has_setN); apply has_ofL; simp only [bxL]; omega)) only [↓bxD, bxP, bxQ, Nat.reduceBEq, reduceCtorEq, Nat.reduceAdd, Nat.reduceSub, Nat.reduceMul, Nat.reduceLeDiff, Nat.reduceLT, bxR, hG, hM1, g0]
  refine bindP_call (isForm_any (h.ext x1) (by omega)) ?_
  rintro m M2 ⟨rfl, x2⟩
  have n2 := x2.n
  have l2 := x2.lo
  have g2 := (x2.old _ (by omega)).trans g0
  by_cases hz : (formP g).2 = 0
  · have dz : decide ((formP g).2 = 0) = true := decide_eq_true hz
    have hok := form_ok hz
    obtain ⟨nn, hnn⟩ : ∃ n : Nat, g.names = n := ⟨g.names.toNat, by have := hok.n1; omega⟩
    have hn1 := hok.n1
    have hn40 := hok.n2
    have hcs : gcs g vr vf vc vk = [MV.i .i64 (nn : Int), .i .i64 g.kinds, .i .i64 g.start, vr, vf, vc, vk] := by unfold gcs; rw [hnn]
    have g2' := g2
    rw [hnn] at g2'
    have hG' := hG
    rw [hnn, hcs] at hG'
    simp (maxSteps := 4000000) (disch := first | omega | assumption | (simp only [bxS, bxV, stOk, Nat.reduceBEq, Nat.reduceEqDiff, Nat.reduceAdd]; done) | (simp only [bxU]; omega) | ((try apply has_setN); apply has_ofL; simp only [bxL]; omega)) only [↓bxD, bxP, bxQ, Nat.reduceBEq, reduceCtorEq, Nat.reduceAdd, Nat.reduceSub, Nat.reduceMul, Nat.reduceLeDiff, Nat.reduceLT, bxR, hG', g2', dz, ev_mks, mks_ok]
    show Wp fns K17_4 _ _ _
    unfold K17_4
    simp (maxSteps := 4000000) (disch := first | omega | assumption | (simp only [bxS, bxV, stOk, Nat.reduceBEq, Nat.reduceEqDiff, Nat.reduceAdd]; done) | (simp only [bxU]; omega) | ((try apply has_setN); apply has_ofL; simp only [bxL]; omega)) only [↓bxD, bxP, bxQ, Nat.reduceBEq, reduceCtorEq, Nat.reduceAdd, Nat.reduceSub, Nat.reduceMul, Nat.reduceLeDiff, Nat.reduceLT, bxR, hG', g2', dz, ev_mks, mks_ok, hG]
    have hbn := BoolsAt.new (M := M2) nn
    have x3 : Ext M2 (M2.push (.cs false 1 (ofL (zrow [.b false] nn) 0))) := .push M2 _
    have n3 : (M2.push (.cs false 1 (ofL (zrow [.b false] nn) 0))).n = M2.n + 1 := rfl
    generalize M2.push (.cs false 1 (ofL (zrow [.b false] nn) 0)) = M3 at hbn x3 n3
    have l3 := x3.lo
    rw [← hcs]
    refine bindP_call (shortest_any (((h.ext x1).ext x2).ext x3) hok (by omega)) ?_
    rintro m M4 ⟨x4, l, id, h1, rfl, h2, h3, h4⟩
    have hin := h1.inn hok
    have hll := hin.len
    have l4 := x4.lo
    simp (maxSteps := 4000000) (disch := first | omega | assumption | (simp only [bxS, bxV, stOk, Nat.reduceBEq, Nat.reduceEqDiff, Nat.reduceAdd]; done) | (simp only [bxU]; omega) | ((try apply has_setN); apply has_ofL; simp only [bxL]; omega)) only [↓bxD, bxP, bxQ, Nat.reduceBEq, reduceCtorEq, Nat.reduceAdd, Nat.reduceSub, Nat.reduceMul, Nat.reduceLeDiff, Nat.reduceLT, bxR, hG', g2', dz, ev_mks, mks_ok, len_slc]
    refine Wp_inv (σ := Nat × List Bool) (fun s f M' => Ext M M' ∧ M'.n = M4.n ∧ s.1 ≤ l.length ∧ X.ev f (.t q3) = .sl M2.n 0 nn 0 ∧ X.ev f (.t q13) = .sl id 0 l.length 0 ∧ X.ev f (.t q14) = .i .i64 (l.length : Int) ∧ X.ev f (.t q15) = .i .i64 (s.1 : Int) ∧ IntsAt M' id l ∧ BoolsAt M' M2.n s.2 ∧ s.2.length = nn ∧ ∀ j z, j < s.1 → l[j]? = some z → s.2[j]? = some (decide (0 ≤ z))) (fun s => l.length - s.1) ?_ (0, List.replicate nn false) ?_
    · rintro ⟨i, L⟩ f M' ⟨hx, hn', hi, h3', h13, h14, h15, hI, hB, hL, hv⟩
      simp only at hi h3' h13 h14 h15 hB hL hv
      simp only [q3, q13, q14, q15] at h3' h13 h14 h15
      have hl' := hx.lo
      unfold L17_2
      by_cases hi' : i < l.length
      · have d1 : decide ((i : Int) < (l.length : Int)) = true := decide_eq_true (by omega)
        obtain ⟨z, hz⟩ : ∃ z, l[i]? = some z := ⟨_, List.getElem?_eq_getElem hi'⟩
        have hzb := hin.lo z (List.mem_of_getElem? hz)
        obtain ⟨t, ht1, ht2, ht3, ht4⟩ := hI.read
        obtain ⟨tb, hb1, hb2, hb3, hb4⟩ := hB.read
        have hR := ht2 _ _ hz
        have hH := hb3 i (by omega)
        have dz : decide (z ≠ Int.negSucc 0) = decide (0 ≤ z) := by
          by_cases e : 0 ≤ z
          · rw [decide_eq_true e]; exact decide_eq_true (fun e' => by omega)
          · rw [decide_eq_false e]; exact decide_eq_false (fun e' => e' (by omega))
        simp (maxSteps := 4000000) (disch := first | omega | assumption | (simp only [bxS, bxV, stOk, Nat.reduceBEq, Nat.reduceEqDiff, Nat.reduceAdd]; done) | (simp only [bxU]; omega) | ((try apply has_setN); apply has_ofL; simp only [bxL]; omega)) only [↓bxD, bxP, bxQ, Nat.reduceBEq, reduceCtorEq, Nat.reduceAdd, Nat.reduceSub, Nat.reduceMul, Nat.reduceLeDiff, Nat.reduceLT, bxR, h3', h13, h14, h15, d1, ix_slc, ht1, hR, hb1, hH, dz]
        show Wp fns K17_1 _ _ _
        unfold K17_1
        simp (maxSteps := 4000000) (disch := first | omega | assumption | (simp only [bxS, bxV, stOk, Nat.reduceBEq, Nat.reduceEqDiff, Nat.reduceAdd]; done) | (simp only [bxU]; omega) | ((try apply has_setN); apply has_ofL; simp only [bxL]; omega)) only [↓bxD, bxP, bxQ, Nat.reduceBEq, reduceCtorEq, Nat.reduceAdd, Nat.reduceSub, Nat.reduceMul, Nat.reduceLeDiff, Nat.reduceLT, bxR, h3', h13, h14, h15, d1, ix_slc, ht1, hR, hb1, hH, dz]
        show Wp fns K17_0 _ _ _
        unfold K17_0
        simp (maxSteps := 4000000) (disch := first | omega | assumption | (simp only [bxS, bxV, stOk, Nat.reduceBEq, Nat.reduceEqDiff, Nat.reduceAdd]; done) | (simp only [bxU]; omega) | ((try apply has_setN); apply has_ofL; simp only [bxL]; omega)) only [↓bxD, bxP, bxQ, Nat.reduceBEq, reduceCtorEq, Nat.reduceAdd, Nat.reduceSub, Nat.reduceMul, Nat.reduceLeDiff, Nat.reduceLT, bxR, h3', h13, h14, h15, d1, ix_slc, ht1, hR, hb1, hH, dz]
        refine ⟨(i + 1, L.set i (decide (0 ≤ z))), by simp only; omega, hx.set _ (by omega), hn', by simp only; omega, rfl, hI.same (set_ne (by omega)), ⟨_, set_same _ _, hb4 i _ (by omega)⟩, by rw [List.length_set]; exact hL, fun j y hj hy => ?_⟩
        simp only at hj ⊢
        rw [List.getElem?_set]
        by_cases e : i = j
        · subst e
          rw [hz] at hy
          injection hy with hy
          subst hy
          rw [if_pos rfl, if_pos (by omega)]
        · rw [if_neg e]
          exact hv j y (by omega) hy
      · have d1 : decide ((i : Int) < (l.length : Int)) = false := decide_eq_false (by omega)
        simp (maxSteps := 4000000) (disch := first | omega | assumption | (simp only [bxS, bxV, stOk, Nat.reduceBEq, Nat.reduceEqDiff, Nat.reduceAdd]; done) | (simp only [bxU]; omega) | ((try apply has_setN); apply has_ofL; simp only [bxL]; omega)) only [↓bxD, bxP, bxQ, Nat.reduceBEq, reduceCtorEq, Nat.reduceAdd, Nat.reduceSub, Nat.reduceMul, Nat.reduceLeDiff, Nat.reduceLT, bxR, h3', h13, h14, h15, d1]
        show Wp fns K17_3 _ _ _
        unfold K17_3
        simp (maxSteps := 4000000) (disch := first | omega | assumption | (simp only [bxS, bxV, stOk, Nat.reduceBEq, Nat.reduceEqDiff, Nat.reduceAdd]; done) | (simp only [bxU]; omega) | ((try apply has_setN); apply has_ofL; simp only [bxL]; omega)) only [↓bxD, bxP, bxQ, Nat.reduceBEq, reduceCtorEq, Nat.reduceAdd, Nat.reduceSub, Nat.reduceMul, Nat.reduceLeDiff, Nat.reduceLT, bxR, h3', h13, h14, h15, d1]
        refine ⟨hx, .inr ⟨hz, l, h1, ?_⟩⟩
        have e : l.map (fun z => decide (0 ≤ z)) = L := by
          refine List.ext_getElem? fun j => ?_
          rw [List.getElem?_map]
          cases hj : l[j]? with
          | none =>
            have := List.getElem?_eq_none_iff.1 hj
            rw [List.getElem?_eq_none (by omega)]; rfl
          | some z =>
            have := (List.getElem?_eq_some_iff.1 hj).1
            rw [hv j z (by omega) hj]; rfl
        rw [e]
        have := hB.row (by omega)
        rw [hL] at this
        exact this
    · exact ⟨((x1.trans x2).trans x3).trans x4, rfl, Nat.zero_le _, by simp only [bxP, bxQ, reduceCtorEq, hG', g2', dz, ev_mks, mks_ok], by simp only [bxP, bxQ, reduceCtorEq, hG', g2', dz, ev_mks, mks_ok], by simp only [bxP, bxQ, reduceCtorEq, hG', g2', dz, ev_mks, mks_ok], by simp only [bxP, bxQ, reduceCtorEq, hG', g2', dz, ev_mks, mks_ok] <;> rfl, h2, hbn.same (x4.old _ (by omega)), List.length_replicate, fun j z hj => by cases hj⟩
  · have dz : decide ((formP g).2 = 0) = false := decide_eq_false hz
    simp (maxSteps := 4000000) (disch := first | omega | assumption | (simp only [bxS, bxV, stOk, Nat.reduceBEq, Nat.reduceEqDiff, Nat.reduceAdd]; done) | (simp only [bxU]; omega) | ((try apply has_setN); apply has_ofL; simp only [bxL]; omega)) only [↓bxD, bxP, bxQ, Nat.reduceBEq, reduceCtorEq, Nat.reduceAdd, Nat.reduceSub, Nat.reduceMul, Nat.reduceLeDiff, Nat.reduceLT, bxR, hG, g2, dz]
    exact ⟨x1.trans x2, .inl ⟨hz, rfl⟩⟩
def NulPost (g : Gr) (M : MH) (m : MV) (M' : MH) : Prop := Ext M M' ∧ (((formP g).2 ≠ 0 ∧ m = .nils) ∨ ((formP g).2 = 0 ∧ ∃ l, NulVec g l ∧ BRow M' m l))
theorem pnull_any {M : MH} {g : Gr} {vr vf vc vk : MV} {es : List (List MV)} (h : GrAt M vr vf vc vk es g) (hlo : M.lo ≤ M.n) : Cp fns 36 [.ag (gcs g vr vf vc vk)] M (NulPost g M) := by
  have hG : ∀ l, l = gcs g vr vf vc vk → Ev.getN (ofL l 0) 7 0 = some (gcs g vr vf vc vk) := fun l e => by subst e; exact (at_ofL (gcs g vr vf vc vk)).getN
  have hG := hG [MV.i IntKind.i64 g.names, MV.i IntKind.i64 g.kinds, MV.i IntKind.i64 g.start, vr, vf, vc, vk] rfl
  refine Cp_call (fn := F36) (by kernel_rfl) (Nat.le_of_ble_eq_true rfl) ?_
  show Wp fns B36 (T.set q0 (some (.ag (gcs g vr vf vc vk))) T.lf) M _
  unfold B36
  rw [show gcs g vr vf vc vk = [MV.i IntKind.i64 g.names, MV.i IntKind.i64 g.kinds, MV.i IntKind.i64 g.start, vr, vf, vc, vk] from rfl]
  generalize hM1 : M.push (.cs false 7 (ofL [MV.i IntKind.i64 g.names, MV.i IntKind.i64 g.kinds, MV.i IntKind.i64 g.start, vr, vf, vc, vk] 0)) = M1
  have g0 : M1.get M.n = some (.cs false 7 (ofL [MV.i IntKind.i64 g.names, MV.i IntKind.i64 g.kinds, MV.i IntKind.i64 g.start, vr, vf, vc, vk] 0)) := by rw [← hM1]; exact push_new _
  have x1 : Ext M M1 := by rw [← hM1]; exact .push M _
  have n1 : M1.n = M.n + 1 := by rw [← hM1]; rfl
  have l1 := x1.lo
  have fld0 : ∀ a b : MV, fld1V 0 (.ag [a, b]) = some a := fun _ _ => rfl
  have fld1 : ∀ a b : MV, fld1V 1 (.ag [a, b]) = some b := fun _ _ => rfl
  simp (maxSteps := 4000000) (disch := first | omega | assumption | (simp only [bxS, bxV, stOk, Nat.reduceBEq, Nat.reduceEqDiff, Nat.reduceAdd]; done) | (simp only [bxU]; omega) | ((try apply has_setN); apply has_ofL; simp only [bxL]; omega)) only [↓bxD, bxP, bxQ, Nat.reduceBEq, reduceCtorEq, Nat.reduceAdd, Nat.reduceSub, Nat.reduceMul, Nat.reduceLeDiff, Nat.reduceLT, bxR, hG, hM1, g0]
  refine bindP_call (isForm_any (h.ext x1) (by omega)) ?_
  rintro m M2 ⟨rfl, x2⟩
  have n2 := x2.n
  have l2 := x2.lo
  have g2 := (x2.old _ (by omega)).trans g0
  by_cases hz : (formP g).2 = 0
  · have dz : decide ((formP g).2 = 0) = true := decide_eq_true hz
    have hok := form_ok hz
    have hk40 := hok.k2
    have hk0 := hok.k1
    have hn40 := hok.n2
    simp (maxSteps := 4000000) (disch := first | omega | assumption | (simp only [bxS, bxV, stOk, Nat.reduceBEq, Nat.reduceEqDiff, Nat.reduceAdd]; done) | (simp only [bxU]; omega) | ((try apply has_setN); apply has_ofL; simp only [bxL]; omega)) only [↓bxD, bxP, bxQ, Nat.reduceBEq, reduceCtorEq, Nat.reduceAdd, Nat.reduceSub, Nat.reduceMul, Nat.reduceLeDiff, Nat.reduceLT, bxR, hG, g2, dz, fld0, fld1]
    show Wp fns K36_0 _ _ _
    unfold K36_0
    simp (maxSteps := 4000000) (disch := first | omega | assumption | (simp only [bxS, bxV, stOk, Nat.reduceBEq, Nat.reduceEqDiff, Nat.reduceAdd]; done) | (simp only [bxU]; omega) | ((try apply has_setN); apply has_ofL; simp only [bxL]; omega)) only [↓bxD, bxP, bxQ, Nat.reduceBEq, reduceCtorEq, Nat.reduceAdd, Nat.reduceSub, Nat.reduceMul, Nat.reduceLeDiff, Nat.reduceLT, bxR, hG, g2, dz, fld0, fld1]
    refine bindP_call (beginsOf_any ((h.ext x1).ext x2) (by omega) hok) ?_
    rintro m M3 ⟨x3, na, nf, N, F, rfl, t, h1, h2, h3, h4, h5, h6⟩
    unfold tw
    simp (maxSteps := 4000000) (disch := first | omega | assumption | (simp only [bxS, bxV, stOk, Nat.reduceBEq, Nat.reduceEqDiff, Nat.reduceAdd]; done) | (simp only [bxU]; omega) | ((try apply has_setN); apply has_ofL; simp only [bxL]; omega)) only [↓bxD, bxP, bxQ, Nat.reduceBEq, reduceCtorEq, Nat.reduceAdd, Nat.reduceSub, Nat.reduceMul, Nat.reduceLeDiff, Nat.reduceLT, bxR, hG, g2, dz, fld0, fld1]
    have hr := t.a.row t.lna
    rw [t.len] at hr
    exact ⟨(x1.trans x2).trans x3, .inr ⟨hz, N, h3, hr⟩⟩
  · have dz : decide ((formP g).2 = 0) = false := decide_eq_false hz
    simp (maxSteps := 4000000) (disch := first | omega | assumption | (simp only [bxS, bxV, stOk, Nat.reduceBEq, Nat.reduceEqDiff, Nat.reduceAdd]; done) | (simp only [bxU]; omega) | ((try apply has_setN); apply has_ofL; simp only [bxL]; omega)) only [↓bxD, bxP, bxQ, Nat.reduceBEq, reduceCtorEq, Nat.reduceAdd, Nat.reduceSub, Nat.reduceMul, Nat.reduceLeDiff, Nat.reduceLT, bxR, hG, g2, dz]
    exact ⟨x1.trans x2, .inl ⟨hz, rfl⟩⟩
theorem gr_lift {M : MH} {vr vf vc vk : MV} {es : List (List MV)} {g : Gr} (h : GrAt M vr vf vc vk es g) : GrAt M.lift vr vf vc vk es g := ⟨⟨h.rules.row, h.rules.len, fun i e r h1 h2 => let ⟨v, k1, k2⟩ := h.rules.at_ i e r h1 h2; ⟨v, k1, k2⟩⟩, h.forbid, h.rc, h.kc, h.wf⟩
theorem ext_dl {M M' : MH} (h : Ext M.lift M') : Ext M (M'.down M.lo) := ⟨h.n, rfl, h.old⟩
theorem words_new {M : MH} (n : Nat) : WordsAt (M.push (.cs false 1 (ofL (zrow [.i .u64 0] n) 0))) M.n (List.replicate n 0) := ⟨_, push_new _, by rw [List.map_replicate, ← zrow_rep]; exact at_ofL _⟩
structure OSt (M0 M : MH) (g : Gr) (vr vf vc vk : MV) (es : List (List MV)) (vn : MV) (N : List Bool) (id : Nat) (F : List Nat) (f : Fr) : Prop where
  gr : GrAt M0 vr vf vc vk es g
  ok : GrOk g
  ext : Ext M0 M
  lo0 : M0.lo ≤ M0.n
  nul : BRow M vn N
  nl : N.length = g.names.toNat
  ws : WordsAt M id F
  id1 : M0.n ≤ id
  id2 : id < M.n
  nid : sid vn ≠ id ∨ N = []
  len : F.length = g.names.toNat
  lt : ∀ k ∈ F, k < 2 ^ 64
  q3 : X.ev f (.t q3) = vn
  q4 : X.ev f (.t q4) = .sl id 0 F.length 0
def OneStep (g : Gr) (N : List Bool) (F : List Nat) (n : Nat) : Prop := ∀ i j, i < F.length → (fAt F i).testBit j = cyB N (g.rules.take n) i j
theorem one_set {g : Gr} {N : List Bool} {F : List Nat} {n a w : Nat} {ar : List Int} {dy : Int} (h : OneStep g N F n) (hr : g.rules[n]? = some ((a : Int), ar, dy)) (ha : a < F.length) (hw : ∀ j, w.testBit j = aloneB N ar ar.length j) : OneStep g N (F.set a (fAt F a ||| w)) (n + 1) := fun i j hi => by
  rw [List.length_set] at hi
  rw [fAt_set ha, cyB_take hr]
  by_cases e : a = i
  · subst e
    rw [if_pos rfl, Nat.testBit_or, h a j hi, hw j, decide_eq_true rfl, Bool.true_and]
  · rw [if_neg e, h i j hi, decide_eq_false (fun e' => e (by simp only at e'; omega)), Bool.false_and, Bool.or_false]
theorem oneStep_any {M : MH} {g : Gr} {vr vf vc vk : MV} {es : List (List MV)} (h : GrAt M vr vf vc vk es g) (hz : (formP g).2 = 0) (hlo : M.lo ≤ M.n) : Cp fns 23 [.ag (gcs g vr vf vc vk)] M fun m M' => Ext M M' ∧ ∃ id F N, m = .sl id 0 F.length 0 ∧ M.n ≤ id ∧ id < M'.n ∧ WordsAt M' id F ∧ F.length = g.names.toNat ∧ (∀ k ∈ F, k < 2 ^ 64) ∧ NulVec g N ∧ OneStep g N F g.rules.length := by
  have hG : ∀ l, l = gcs g vr vf vc vk → Ev.getN (ofL l 0) 7 0 = some (gcs g vr vf vc vk) := fun l e => by subst e; exact (at_ofL (gcs g vr vf vc vk)).getN
  have hG := hG [MV.i IntKind.i64 g.names, MV.i IntKind.i64 g.kinds, MV.i IntKind.i64 g.start, vr, vf, vc, vk] rfl
  have hok := form_ok hz
  have hn1 := hok.n1
  have hn40 := hok.n2
  have hrl := hok.rl
  obtain ⟨hr1, hr2⟩ := h.rules.row.sl
  rw [h.rules.len] at hr2
  obtain ⟨nn, hnn⟩ : ∃ n : Nat, g.names = n := ⟨g.names.toNat, by omega⟩
  refine Cp_call (fn := F23) (by kernel_rfl) (Nat.le_of_ble_eq_true rfl) ?_
  show Wp fns B23 (T.set q0 (some (.ag (gcs g vr vf vc vk))) T.lf) M _
  unfold B23
  rw [show gcs g vr vf vc vk = [MV.i IntKind.i64 g.names, MV.i IntKind.i64 g.kinds, MV.i IntKind.i64 g.start, vr, vf, vc, vk] from rfl]
  generalize hM1 : M.push (.cs false 7 (ofL [MV.i IntKind.i64 g.names, MV.i IntKind.i64 g.kinds, MV.i IntKind.i64 g.start, vr, vf, vc, vk] 0)) = M1
  have g0 : M1.get M.n = some (.cs false 7 (ofL [MV.i IntKind.i64 g.names, MV.i IntKind.i64 g.kinds, MV.i IntKind.i64 g.start, vr, vf, vc, vk] 0)) := by rw [← hM1]; exact push_new _
  have x1 : Ext M M1 := by rw [← hM1]; exact .push M _
  have n1 : M1.n = M.n + 1 := by rw [← hM1]; rfl
  have l1 := x1.lo
  simp (maxSteps := 4000000) (disch := first | omega | assumption | (simp only [bxS, bxV, stOk, Nat.reduceBEq, Nat.reduceEqDiff, Nat.reduceAdd]; done) | (simp only [bxU]; omega) | ((try apply has_setN); apply has_ofL; simp only [bxL]; omega)) only [↓bxD, bxP, bxQ, Nat.reduceBEq, reduceCtorEq, Nat.reduceAdd, Nat.reduceSub, Nat.reduceMul, Nat.reduceLeDiff, Nat.reduceLT, bxR, hG, hM1, g0]
  refine bindP_call (pnull_any (h.ext x1) (by omega)) ?_
  rintro m M2 ⟨x2, ⟨hne, _⟩ | ⟨_, N, hN, hNr⟩⟩
  · exact absurd hz hne
  have n2 := x2.n
  have l2 := x2.lo
  have g2 := (x2.old _ (by omega)).trans g0
  obtain ⟨m1, m2⟩ := hNr.sl
  have cg0 : cget (ofL [MV.i IntKind.i64 g.names, MV.i IntKind.i64 g.kinds, MV.i IntKind.i64 g.start, vr, vf, vc, vk] 0) 0 = some (.i .i64 (nn : Int)) := by rw [← hnn]; exact (at_ofL _) 0 _ rfl
  have cg3 : cget (ofL [MV.i IntKind.i64 g.names, MV.i IntKind.i64 g.kinds, MV.i IntKind.i64 g.start, vr, vf, vc, vk] 0) 3 = some vr := (at_ofL _) 3 _ rfl
  generalize ofL [MV.i IntKind.i64 g.names, MV.i IntKind.i64 g.kinds, MV.i IntKind.i64 g.start, vr, vf, vc, vk] 0 = cg at g2 cg0 cg3
  have hmk : mksF 1 8 [.i .u64 0] (.i .i64 (nn : Int)) (.i .i64 (nn : Int)) M2.n = some (.sl M2.n 0 nn 0, .cs false 1 (ofL (zrow [.i .u64 0] nn) 0)) := mksF_ok (by omega) (by omega)
  simp (maxSteps := 4000000) (disch := first | omega | assumption | (simp only [bxS, bxV, stOk, Nat.reduceBEq, Nat.reduceEqDiff, Nat.reduceAdd]; done) | (simp only [bxU]; omega) | ((try apply has_setN); apply has_ofL; simp only [bxL]; omega)) only [↓bxD, bxP, bxQ, Nat.reduceBEq, reduceCtorEq, Nat.reduceAdd, Nat.reduceSub, Nat.reduceMul, Nat.reduceLeDiff, Nat.reduceLT, bxR, hG, g2, cg0, cg3, hr1, hr2, ev_mks, mks_ok]
  generalize hM3 : M2.push _ = M3
  have w0 : WordsAt M3 M2.n (List.replicate nn 0) := by rw [← hM3]; exact words_new nn
  have x3 : Ext M2 M3 := by rw [← hM3]; exact .push M2 _
  have n3 : M3.n = M2.n + 1 := by rw [← hM3]; rfl
  have l3 := x3.lo
  clear hM3
  have hNl : N.length = nn := by rw [hN.1]; omega
  have hsid : sid m ≠ M2.n ∨ N = [] := by
    obtain ⟨_, ⟨_, e⟩ | ⟨id, off, e, ro, s, c, rfl, _, e4, _⟩⟩ := hNr
    · exact .inr (List.map_eq_nil_iff.1 e)
    · exact .inl (by show id ≠ _; omega)
  refine Wp_inv (σ := Nat × List Nat) (fun s f M' => s.1 ≤ g.rules.length ∧ OSt M M' g vr vf vc vk es m N M2.n s.2 f ∧ OneStep g N s.2 s.1 ∧ X.ev f (.t q13) = vr ∧ X.ev f (.t q14) = .i .i64 (g.rules.length : Int) ∧ X.ev f (.t q15) = .i .i64 (s.1 : Int)) (fun s => g.rules.length - s.1) ?_ (0, List.replicate nn 0) ?_
  · rintro ⟨i, F⟩ f M4 ⟨hi, hst, hone, h13, h14, h15⟩
    simp only at hi hst hone h15
    have h3 := hst.q3
    have h4 := hst.q4
    simp only [q3, q4, q13, q14, q15] at h3 h4 h13 h14 h15
    have hx := hst.ext
    have xn := hx.n
    have xl := hx.lo
    have hid1 := hst.id1
    have hid2 := hst.id2
    have hFl := hst.len
    unfold L23_2
    by_cases hi' : i < g.rules.length
    · have d1 : decide ((i : Int) < (g.rules.length : Int)) = true := decide_eq_true (by omega)
      obtain ⟨x, hzr⟩ : ∃ x, g.rules[i]? = some x := ⟨_, List.getElem?_eq_getElem hi'⟩
      have hmem := List.mem_of_getElem? hzr
      have hleft := hok.left _ hmem
      have hsym := hok.sym _ hmem
      have hlen8 := hok.len _ hmem
      obtain ⟨a0, ar, a2⟩ := x
      simp only at hleft hsym hlen8
      obtain ⟨a, rfl⟩ : ∃ n : Nat, a0 = n := ⟨a0.toNat, by omega⟩
      obtain ⟨ua, hua, hura⟩ : ∃ u1, es[i]? = some [.i .i64 (a : Int), u1, .i .i64 a2] ∧ IntRow M u1 ar := h.rules.get hzr
      obtain ⟨hsu1, hsu2⟩ := hura.sl
      obtain ⟨ro, s, t, hg, hid, hat⟩ := (h.ext hx).rules.row.read hua
      have hNn : Ev.getN t 3 (soff vr + i * 3) = some [.i .i64 (a : Int), ua, .i .i64 a2] := hat.getN
      have hst2 : stOk 3 (.ag [.i .i64 (a : Int), ua, .i .i64 a2]) = true := by cases ua <;> first | rfl | cases hsu1
      simp (maxSteps := 4000000) (disch := first | omega | assumption | (simp only [bxS, bxV, stOk, Nat.reduceBEq, Nat.reduceEqDiff, Nat.reduceAdd]; done) | (simp only [bxU]; omega) | ((try apply has_setN); apply has_ofL; simp only [bxL]; omega)) only [↓bxD, bxP, bxQ, Nat.reduceBEq, reduceCtorEq, Nat.reduceAdd, Nat.reduceSub, Nat.reduceMul, Nat.reduceLeDiff, Nat.reduceLT, bxR, h3, h4, h13, h14, h15, hr1, hr2, d1, hg, hNn, hst2]
      show Wp fns K23_1 _ _ _
      unfold K23_1
      simp (maxSteps := 4000000) (disch := first | omega | assumption | (simp only [bxS, bxV, stOk, Nat.reduceBEq, Nat.reduceEqDiff, Nat.reduceAdd]; done) | (simp only [bxU]; omega) | ((try apply has_setN); apply has_ofL; simp only [bxL]; omega)) only [↓bxD, bxP, bxQ, Nat.reduceBEq, reduceCtorEq, Nat.reduceAdd, Nat.reduceSub, Nat.reduceMul, Nat.reduceLeDiff, Nat.reduceLT, bxR, h3, h4, h13, h14, h15, hr1, hr2, d1, hg, hNn, hst2]
      generalize hM5 : (M4.push _).set M4.n _ = M5
      have x5 : Ext M4 M5 := by rw [← hM5]; exact (Ext.push M4 _).set _ (Nat.le_refl _)
      have n5 : M5.n = M4.n + 1 := by rw [← hM5]; rfl
      have l5 := x5.lo
      have g9 : M5.get M4.n = some (.cs false 3 (setN [.i .i64 (a : Int), ua, .i .i64 a2] 0 (ofL [.i .i64 0, .nils, .i .i64 0] 0))) := by rw [← hM5, set_same]
      have c9 : At (setN [.i .i64 (a : Int), ua, .i .i64 a2] 0 (ofL [.i .i64 0, .nils, .i .i64 0] 0)) 0 [.i .i64 (a : Int), ua, .i .i64 a2] := at_setN _ _ _
      generalize setN [.i .i64 (a : Int), ua, .i .i64 a2] 0 (ofL [.i .i64 0, .nils, .i .i64 0] 0) = cc at g9 c9
      clear hM5
      have cc0 : cget cc 0 = some (.i .i64 (a : Int)) := c9 0 _ rfl
      have cc1 : cget cc 1 = some ua := c9 1 _ rfl
      have hal : a < F.length := by omega
      have hws5 : WordsAt M5 M2.n F := hst.ws.same (x5.old _ hid2)
      obtain ⟨t5, ht1, ht2, ht3, ht4⟩ := hws5.read
      have hC5 := ht2 a hal
      refine Wp_dreg_of (by omega) ?_
      simp (maxSteps := 4000000) (disch := first | omega | assumption | (simp only [bxS, bxV, stOk, Nat.reduceBEq, Nat.reduceEqDiff, Nat.reduceAdd]; done) | (simp only [bxU]; omega) | ((try apply has_setN); apply has_ofL; simp only [bxL]; omega)) only [↓bxD, bxP, bxQ, Nat.reduceBEq, reduceCtorEq, Nat.reduceAdd, Nat.reduceSub, Nat.reduceMul, Nat.reduceLeDiff, Nat.reduceLT, bxR, h3, h4, h13, h14, h15, g9, cc0, cc1, ix_slc, ht1, hC5]
      have hnl4 : BRow M5 m N := hst.nul.ext x5
      have hur4 : IntRow M5 ua ar := (hura.ext hx).ext x5
      have hnl5 : BRow M5.lift m N := hnl4
      have hur5 : IntRow M5.lift ua ar := hur4
      refine bindP_call (alone_any hnl5 hur5 (fun s hs h0 => ?_) (by omega) (by omega) (Nat.le_refl _)) ?_
      · have := symB_lt (hsym s hs) h0
        omega
      rintro m2 M6 ⟨⟨w, rfl, hw, hwb⟩, x6⟩
      have x56 := ext_dl x6
      have n6 := x56.n
      have l6 := x56.lo
      have hws6 : WordsAt (M6.down M5.lo) M2.n F := hws5.same (x56.old _ (by omega))
      obtain ⟨t6, hu1, hu2, hu3, hu4⟩ := hws6.read
      have hH6 := hu3 a hal
      have hC6 := hu2 a hal
      have hF := fAt_lt hst.lt a
      have hor := or_u64 (a := fAt F a) (b := w) hF hw
      rw [down_get] at hu1
      simp (maxSteps := 4000000) (disch := first | omega | assumption | (simp only [bxS, bxV, stOk, Nat.reduceBEq, Nat.reduceEqDiff, Nat.reduceAdd]; done) | (simp only [bxU]; omega) | ((try apply has_setN); apply has_ofL; simp only [bxL]; omega)) only [↓bxD, bxP, bxQ, Nat.reduceBEq, reduceCtorEq, Nat.reduceAdd, Nat.reduceSub, Nat.reduceMul, Nat.reduceLeDiff, Nat.reduceLT, bxR, h3, h4, h13, h14, h15, g9, cc0, cc1, ix_slc, hu1, hC6, hor, hH6, down_get]
      show Wp fns K23_0 _ _ _
      unfold K23_0
      simp (maxSteps := 4000000) (disch := first | omega | assumption | (simp only [bxS, bxV, stOk, Nat.reduceBEq, Nat.reduceEqDiff, Nat.reduceAdd]; done) | (simp only [bxU]; omega) | ((try apply has_setN); apply has_ofL; simp only [bxL]; omega)) only [↓bxD, bxP, bxQ, Nat.reduceBEq, reduceCtorEq, Nat.reduceAdd, Nat.reduceSub, Nat.reduceMul, Nat.reduceLeDiff, Nat.reduceLT, bxR, h3, h4, h13, h14, h15, g9, cc0, cc1, ix_slc, hu1, hC6, hor, hH6, down_get]
      have hnl6 : BRow (M6.down M5.lo) m N := hnl4.ext x56
      have x46 := x5.trans x56
      have hsA := hu4 a (fAt F a ||| w) hal
      generalize M6.down M5.lo = N6 at hnl6 hws6 x46 x56 n6 l6
      generalize hN7 : N6.set M2.n _ = N7
      have e7 : N7.n = N6.n := by rw [← hN7]; rfl
      have l7 : N7.lo = N6.lo := by rw [← hN7]; rfl
      refine ⟨(i + 1, F.set a (fAt F a ||| w)), by simp only; omega, by simp only; omega, ⟨h, hok, ⟨by omega, by omega, fun j hj => ?_⟩, hlo, ?_, hN.1, ⟨_, by rw [← hN7]; exact set_same _ _, hsA⟩, hid1, by omega, hsid, by simp only [List.length_set]; exact hst.len, fun k hk => ?_, by simp only [bxP, bxQ, reduceCtorEq, h3, h4, h13, h14, h15, g9, cc0, cc1, ix_slc, hu1, hC6, hor, hH6, down_get], by simp (maxSteps := 4000000) (disch := first | omega | assumption | (simp only [bxS, bxV, stOk, Nat.reduceBEq, Nat.reduceEqDiff, Nat.reduceAdd]; done) | (simp only [bxU]; omega) | ((try apply has_setN); apply has_ofL; simp only [bxL]; omega)) only [↓bxD, bxP, bxQ, Nat.reduceBEq, reduceCtorEq, Nat.reduceAdd, Nat.reduceSub, Nat.reduceMul, Nat.reduceLeDiff, Nat.reduceLT, bxR, h3, h4, h13, h14, h15, g9, cc0, cc1, ix_slc, hu1, hC6, hor, hH6, down_get, List.length_set]⟩, one_set hone hzr hal hwb, rfl⟩
      · rw [← hN7, set_ne (by omega), x56.old j (by omega), x5.old j (by omega)]
        exact hx.old j hj
      · rcases hsid with hs | hs
        · obtain ⟨q1', ⟨q2', q3'⟩ | ⟨id', off', e', ro', s', c', rfl, q4', q5', q6'⟩⟩ := hnl6
          · exact ⟨q1', .inl ⟨q2', q3'⟩⟩
          · refine ⟨q1', .inr ⟨id', off', e', ro', s', c', rfl, ?_, by omega, q6'⟩⟩
            rw [← hN7, set_ne (show id' ≠ M2.n from hs)]
            exact q4'
        · subst hs
          obtain ⟨q1', ⟨q2', q3'⟩ | ⟨id', off', e', ro', s', c', rfl, q4', q5', q6'⟩⟩ := hnl6
          · exact ⟨q1', .inl ⟨q2', q3'⟩⟩
          · simp at hNl
            omega
      · rcases List.mem_or_eq_of_mem_set hk with h' | h'
        · exact hst.lt k h'
        · rw [h']; exact Nat.or_lt_two_pow hF hw
    · have d1 : decide ((i : Int) < (g.rules.length : Int)) = false := decide_eq_false (by omega)
      obtain rfl : i = g.rules.length := by omega
      simp (maxSteps := 4000000) (disch := first | omega | assumption | (simp only [bxS, bxV, stOk, Nat.reduceBEq, Nat.reduceEqDiff, Nat.reduceAdd]; done) | (simp only [bxU]; omega) | ((try apply has_setN); apply has_ofL; simp only [bxL]; omega)) only [↓bxD, bxP, bxQ, Nat.reduceBEq, reduceCtorEq, Nat.reduceAdd, Nat.reduceSub, Nat.reduceMul, Nat.reduceLeDiff, Nat.reduceLT, bxR, h3, h4, h13, h14, h15, d1]
      show Wp fns K23_3 _ _ _
      unfold K23_3
      simp (maxSteps := 4000000) (disch := first | omega | assumption | (simp only [bxS, bxV, stOk, Nat.reduceBEq, Nat.reduceEqDiff, Nat.reduceAdd]; done) | (simp only [bxU]; omega) | ((try apply has_setN); apply has_ofL; simp only [bxL]; omega)) only [↓bxD, bxP, bxQ, Nat.reduceBEq, reduceCtorEq, Nat.reduceAdd, Nat.reduceSub, Nat.reduceMul, Nat.reduceLeDiff, Nat.reduceLT, bxR, h3, h4, h13, h14, h15, d1]
      exact ⟨hx, M2.n, F, N, rfl, hid1, hid2, hst.ws, hst.len, hst.lt, hN, hone⟩
  · refine ⟨Nat.zero_le _, ⟨h, hok, ((x1.trans x2).trans x3), hlo, hNr.ext x3, hN.1, w0, by omega, by omega, hsid, by rw [List.length_replicate, hnn]; rfl, fun k hk => by rw [(List.mem_replicate.1 hk).2]; decide, by simp only [bxP, bxQ, reduceCtorEq, hG, g2, cg0, cg3, hr1, hr2], ?_⟩, fun i j _ => ?_, by simp only [bxP, bxQ, reduceCtorEq, hG, g2, cg0, cg3, hr1, hr2], by simp only [bxP, bxQ, reduceCtorEq, hG, g2, cg0, cg3, hr1, hr2] <;> rfl, by simp only [bxP, bxQ, reduceCtorEq, hG, g2, cg0, cg3, hr1, hr2] <;> rfl⟩
    · simp (maxSteps := 4000000) (disch := first | omega | assumption | (simp only [bxS, bxV, stOk, Nat.reduceBEq, Nat.reduceEqDiff, Nat.reduceAdd]; done) | (simp only [bxU]; omega) | ((try apply has_setN); apply has_ofL; simp only [bxL]; omega)) only [↓bxD, bxP, bxQ, Nat.reduceBEq, reduceCtorEq, Nat.reduceAdd, Nat.reduceSub, Nat.reduceMul, Nat.reduceLeDiff, Nat.reduceLT, bxR, hG, g2, cg0, cg3, hr1, hr2]
      show MV.sl M2.n 0 nn 0 = _
      rw [List.length_replicate]
    · rw [List.take_zero, cyB_nil]
      have : fAt (List.replicate nn 0) i = 0 := by unfold fAt; rw [List.getD_eq_getElem?_getD, List.getElem?_replicate]; split <;> rfl
      rw [this, Nat.zero_testBit]
def RelF (F : List Nat) (U : Nat → Nat → Bool) : Prop := ∀ i j, i < F.length → (fAt F i).testBit j = U i j
theorem anySteps_any {M : MH} {id : Nat} {F : List Nat} {U : Nat → Nat → Bool} (h : WordsAt M id F) (hid : id < M.n) (hlo : M.lo ≤ id) (hF : ∀ k ∈ F, k < 2 ^ 64) (hn : F.length ≤ 40) (hT : RelF F U) : Cp fns 24 [.sl id 0 F.length 0] M fun m M' => m = .tp [] ∧ (∀ j, j ≠ id → M'.get j = M.get j) ∧ M'.n = M.n ∧ M'.lo = M.lo ∧ ∃ F', WordsAt M' id F' ∧ F'.length = F.length ∧ (∀ k ∈ F', k < 2 ^ 64) ∧ RelF F' (cyIt U F.length) := by
  refine Cp_call (fn := F24) (by kernel_rfl) (Nat.le_of_ble_eq_true rfl) ?_
  show Wp fns B24 (T.set q0 (some (.sl id 0 F.length 0)) T.lf) M _
  unfold B24
  simp (maxSteps := 4000000) (disch := first | omega | assumption | (simp only [bxS, bxV, stOk, Nat.reduceBEq, Nat.reduceEqDiff, Nat.reduceAdd]; done) | (simp only [bxU]; omega) | ((try apply has_setN); apply has_ofL; simp only [bxL]; omega)) only [↓bxD, bxP, bxQ, Nat.reduceBEq, reduceCtorEq, Nat.reduceAdd, Nat.reduceSub, Nat.reduceMul, Nat.reduceLeDiff, Nat.reduceLT, bxR, len_slc]
  refine Wp_inv (σ := Nat × List Nat) (fun s f M' => s.1 ≤ F.length ∧ WordsAt M' id s.2 ∧ s.2.length = F.length ∧ (∀ k ∈ s.2, k < 2 ^ 64) ∧ RelF s.2 (cyIt U s.1) ∧ (∀ j, j ≠ id → M'.get j = M.get j) ∧ M'.n = M.n ∧ M'.lo = M.lo ∧ X.ev f (.t q0) = .sl id 0 F.length 0 ∧ X.ev f (.t q5) = .i .i64 (F.length : Int) ∧ X.ev f (.t q6) = .i .i64 (s.1 : Int)) (fun s => F.length - s.1) ?_ (0, F) ?_
  · rintro ⟨k, G⟩ f M1 ⟨hk, hw, hl, hG, hr, hold, hnn, hll, h0, h5, h6⟩
    simp only at hk hw hl hG hr h6
    simp only [q0, q5, q6] at h0 h5 h6
    unfold L24_5
    by_cases hk' : k < F.length
    · have d1 : decide ((k : Int) < (F.length : Int)) = true := decide_eq_true (by omega)
      simp (maxSteps := 4000000) (disch := first | omega | assumption | (simp only [bxS, bxV, stOk, Nat.reduceBEq, Nat.reduceEqDiff, Nat.reduceAdd]; done) | (simp only [bxU]; omega) | ((try apply has_setN); apply has_ofL; simp only [bxL]; omega)) only [↓bxD, bxP, bxQ, Nat.reduceBEq, reduceCtorEq, Nat.reduceAdd, Nat.reduceSub, Nat.reduceMul, Nat.reduceLeDiff, Nat.reduceLT, bxR, h0, h5, h6, d1, len_slc]
      show Wp fns K24_4 _ _ _
      unfold K24_4
      simp (maxSteps := 4000000) (disch := first | omega | assumption | (simp only [bxS, bxV, stOk, Nat.reduceBEq, Nat.reduceEqDiff, Nat.reduceAdd]; done) | (simp only [bxU]; omega) | ((try apply has_setN); apply has_ofL; simp only [bxL]; omega)) only [↓bxD, bxP, bxQ, Nat.reduceBEq, reduceCtorEq, Nat.reduceAdd, Nat.reduceSub, Nat.reduceMul, Nat.reduceLeDiff, Nat.reduceLT, bxR, h0, h5, h6, d1, len_slc]
      refine Wp_inv (σ := Nat × List Nat) (fun s f M' => s.1 ≤ F.length ∧ WordsAt M' id s.2 ∧ s.2.length = F.length ∧ (∀ x ∈ s.2, x < 2 ^ 64) ∧ (∀ i j, i < F.length → (fAt s.2 i).testBit j = if i < s.1 then cyW (cyIt U k) k i j else cyIt U k i j) ∧ (∀ j, j ≠ id → M'.get j = M.get j) ∧ M'.n = M.n ∧ M'.lo = M.lo ∧ X.ev f (.t q0) = .sl id 0 F.length 0 ∧ X.ev f (.t q2) = .i .i64 (k : Int) ∧ X.ev f (.t q5) = .i .i64 (F.length : Int) ∧ X.ev f (.t q6) = .i .i64 (k : Int) ∧ X.ev f (.t q10) = .i .i64 (F.length : Int) ∧ X.ev f (.t q11) = .i .i64 (s.1 : Int)) (fun s => F.length - s.1) ?_ (0, G) ?_
      · clear hw hl hG hr hold hnn hll h0 h5 h6
        rintro ⟨i, G⟩ f M1 ⟨hi, hw, hl, hG, hr, hold, hnn, hll, h0, h2, h5, h6, h10, h11⟩
        simp only at hi hw hl hG hr h11
        simp only [q0, q2, q5, q6, q10, q11] at h0 h2 h5 h6 h10 h11
        unfold L24_2
        by_cases hi' : i < F.length
        · have d2 : decide ((i : Int) < (F.length : Int)) = true := decide_eq_true (by omega)
          obtain ⟨t, ht1, ht2, ht3, ht4⟩ := hw.read
          have hCi := ht2 i (by omega)
          have hCk := ht2 k (by omega)
          have hHi := ht3 i (by omega)
          have hFi := fAt_lt hG i
          have hFk := fAt_lt hG k
          have bi : ∀ j, (fAt G i).testBit j = cyIt U k i j := fun j => by rw [hr i j hi', if_neg (Nat.lt_irrefl _)]
          have bk : ∀ j, (fAt G k).testBit j = cyIt U k k j := fun j => by
            rw [hr k j hk']
            split
            · exact cyW_via _ _ _
            · rfl
          simp (maxSteps := 4000000) (disch := first | omega | assumption | (simp only [bxS, bxV, stOk, Nat.reduceBEq, Nat.reduceEqDiff, Nat.reduceAdd]; done) | (simp only [bxU]; omega) | ((try apply has_setN); apply has_ofL; simp only [bxL]; omega)) only [↓bxD, bxP, bxQ, Nat.reduceBEq, reduceCtorEq, Nat.reduceAdd, Nat.reduceSub, Nat.reduceMul, Nat.reduceLeDiff, Nat.reduceLT, bxR, h0, h2, h5, h6, h10, h11, d2, ht1, hCi, ix_slc, hHi]
          show Wp fns K24_1 _ _ _
          unfold K24_1
          simp (maxSteps := 4000000) (disch := first | omega | assumption | (simp only [bxS, bxV, stOk, Nat.reduceBEq, Nat.reduceEqDiff, Nat.reduceAdd]; done) | (simp only [bxU]; omega) | ((try apply has_setN); apply has_ofL; simp only [bxL]; omega)) only [↓bxD, bxP, bxQ, Nat.reduceBEq, reduceCtorEq, Nat.reduceAdd, Nat.reduceSub, Nat.reduceMul, Nat.reduceLeDiff, Nat.reduceLT, bxR, h0, h2, h5, h6, h10, h11, d2, ht1, hCi, ix_slc, hHi]
          refine bindP_call (has_any hFi (k := k) (by omega)) ?_
          rintro m M2 ⟨rfl, rfl⟩
          cases hb : (fAt G i).testBit k with
          | false =>
            simp (maxSteps := 4000000) (disch := first | omega | assumption | (simp only [bxS, bxV, stOk, Nat.reduceBEq, Nat.reduceEqDiff, Nat.reduceAdd]; done) | (simp only [bxU]; omega) | ((try apply has_setN); apply has_ofL; simp only [bxL]; omega)) only [↓bxD, bxP, bxQ, Nat.reduceBEq, reduceCtorEq, Nat.reduceAdd, Nat.reduceSub, Nat.reduceMul, Nat.reduceLeDiff, Nat.reduceLT, bxR, h0, h2, h5, h6, h10, h11, d2, ht1, hCi, ix_slc, hHi]
            show Wp fns K24_0 _ _ _
            unfold K24_0
            simp (maxSteps := 4000000) (disch := first | omega | assumption | (simp only [bxS, bxV, stOk, Nat.reduceBEq, Nat.reduceEqDiff, Nat.reduceAdd]; done) | (simp only [bxU]; omega) | ((try apply has_setN); apply has_ofL; simp only [bxL]; omega)) only [↓bxD, bxP, bxQ, Nat.reduceBEq, reduceCtorEq, Nat.reduceAdd, Nat.reduceSub, Nat.reduceMul, Nat.reduceLeDiff, Nat.reduceLT, bxR, h0, h2, h5, h6, h10, h11, d2, ht1, hCi, ix_slc, hHi]
            refine ⟨(i + 1, G), by simp only; omega, by simp only; omega, hw, hl, hG, fun x j hx => ?_, hold, hnn, hll, rfl⟩
            simp only
            by_cases e : x = i
            · subst e
              rw [if_pos (Nat.lt_succ_self _), bi j]
              unfold cyW
              rw [← bi k, hb, Bool.false_and, Bool.or_false]
            · rw [hr x j hx]
              by_cases e2 : x < i
              · rw [if_pos e2, if_pos (by omega)]
              · rw [if_neg e2, if_neg (by omega)]
          | true =>
            have hor := or_u64 (a := fAt G i) (b := fAt G k) hFi hFk
            simp (maxSteps := 4000000) (disch := first | omega | assumption | (simp only [bxS, bxV, stOk, Nat.reduceBEq, Nat.reduceEqDiff, Nat.reduceAdd]; done) | (simp only [bxU]; omega) | ((try apply has_setN); apply has_ofL; simp only [bxL]; omega)) only [↓bxD, bxP, bxQ, Nat.reduceBEq, reduceCtorEq, Nat.reduceAdd, Nat.reduceSub, Nat.reduceMul, Nat.reduceLeDiff, Nat.reduceLT, bxR, h0, h2, h5, h6, h10, h11, d2, ht1, hCi, ix_slc, hHi]
            refine Wp_dreg_of (by omega) ?_
            simp (maxSteps := 4000000) (disch := first | omega | assumption | (simp only [bxS, bxV, stOk, Nat.reduceBEq, Nat.reduceEqDiff, Nat.reduceAdd]; done) | (simp only [bxU]; omega) | ((try apply has_setN); apply has_ofL; simp only [bxL]; omega)) only [↓bxD, bxP, bxQ, Nat.reduceBEq, reduceCtorEq, Nat.reduceAdd, Nat.reduceSub, Nat.reduceMul, Nat.reduceLeDiff, Nat.reduceLT, bxR, h0, h2, h5, h6, h10, h11, d2, ht1, hCi, ix_slc, hHi, hCk, hor, hHi]
            show Wp fns K24_0 _ _ _
            unfold K24_0
            simp (maxSteps := 4000000) (disch := first | omega | assumption | (simp only [bxS, bxV, stOk, Nat.reduceBEq, Nat.reduceEqDiff, Nat.reduceAdd]; done) | (simp only [bxU]; omega) | ((try apply has_setN); apply has_ofL; simp only [bxL]; omega)) only [↓bxD, bxP, bxQ, Nat.reduceBEq, reduceCtorEq, Nat.reduceAdd, Nat.reduceSub, Nat.reduceMul, Nat.reduceLeDiff, Nat.reduceLT, bxR, h0, h2, h5, h6, h10, h11, d2, ht1, hCi, ix_slc, hHi]
            refine ⟨(i + 1, G.set i (fAt G i ||| fAt G k)), by simp only; omega, by simp only; omega, ⟨_, set_same _ _, ht4 i (fAt G i ||| fAt G k) (by omega)⟩, by simp only [List.length_set]; exact hl, fun x hx => ?_, fun x j hx => ?_, fun j hj => ?_, hnn, hll, rfl⟩
            · rcases List.mem_or_eq_of_mem_set hx with h' | h'
              · exact hG x h'
              · rw [h']; exact Nat.or_lt_two_pow hFi hFk
            · simp only
              rw [fAt_set (by omega)]
              by_cases e : i = x
              · subst e
                rw [if_pos rfl, if_pos (Nat.lt_succ_self _), Nat.testBit_or, bi j, bk j]
                unfold cyW
                rw [← bi k, hb, Bool.true_and]
              · rw [if_neg e, hr x j hx]
                by_cases e2 : x < i
                · rw [if_pos e2, if_pos (by omega)]
                · rw [if_neg e2, if_neg (by omega)]
            · rw [set_ne hj]
              exact hold j hj
        · have d2 : decide ((i : Int) < (F.length : Int)) = false := decide_eq_false (by omega)
          obtain rfl : i = F.length := by omega
          simp (maxSteps := 4000000) (disch := first | omega | assumption | (simp only [bxS, bxV, stOk, Nat.reduceBEq, Nat.reduceEqDiff, Nat.reduceAdd]; done) | (simp only [bxU]; omega) | ((try apply has_setN); apply has_ofL; simp only [bxL]; omega)) only [↓bxD, bxP, bxQ, Nat.reduceBEq, reduceCtorEq, Nat.reduceAdd, Nat.reduceSub, Nat.reduceMul, Nat.reduceLeDiff, Nat.reduceLT, bxR, h0, h2, h5, h6, h10, h11, d2]
          show Wp fns K24_3 _ _ _
          unfold K24_3
          simp (maxSteps := 4000000) (disch := first | omega | assumption | (simp only [bxS, bxV, stOk, Nat.reduceBEq, Nat.reduceEqDiff, Nat.reduceAdd]; done) | (simp only [bxU]; omega) | ((try apply has_setN); apply has_ofL; simp only [bxL]; omega)) only [↓bxD, bxP, bxQ, Nat.reduceBEq, reduceCtorEq, Nat.reduceAdd, Nat.reduceSub, Nat.reduceMul, Nat.reduceLeDiff, Nat.reduceLT, bxR, h0, h2, h5, h6, h10, h11, d2]
          refine ⟨(k + 1, G), by simp only; omega, by simp only; omega, hw, hl, hG, fun x j hx => ?_, hold, hnn, hll, rfl⟩
          simp only at hx ⊢
          rw [hr x j (by omega), if_pos (by omega)]
          rfl
      · exact ⟨Nat.zero_le _, hw, hl, hG, fun i j hi => by simp only; rw [hr i j (by omega), if_neg (Nat.not_lt_zero _)], hold, hnn, hll, by simp only [bxP, bxQ, reduceCtorEq, h0, h5, h6, d1, len_slc], by simp only [bxP, bxQ, reduceCtorEq, h0, h5, h6, d1, len_slc], by simp only [bxP, bxQ, reduceCtorEq, h0, h5, h6, d1, len_slc], by simp only [bxP, bxQ, reduceCtorEq, h0, h5, h6, d1, len_slc], by simp only [bxP, bxQ, reduceCtorEq, h0, h5, h6, d1, len_slc] <;> rfl, by simp only [bxP, bxQ, reduceCtorEq, h0, h5, h6, d1, len_slc] <;> rfl⟩
    · have d1 : decide ((k : Int) < (F.length : Int)) = false := decide_eq_false (by omega)
      obtain rfl : k = F.length := by omega
      simp (maxSteps := 4000000) (disch := first | omega | assumption | (simp only [bxS, bxV, stOk, Nat.reduceBEq, Nat.reduceEqDiff, Nat.reduceAdd]; done) | (simp only [bxU]; omega) | ((try apply has_setN); apply has_ofL; simp only [bxL]; omega)) only [↓bxD, bxP, bxQ, Nat.reduceBEq, reduceCtorEq, Nat.reduceAdd, Nat.reduceSub, Nat.reduceMul, Nat.reduceLeDiff, Nat.reduceLT, bxR, h0, h5, h6, d1, resL]
      exact ⟨rfl, hold, hnn, hll, G, hw, hl, hG, hr⟩
  · exact ⟨Nat.zero_le _, h, rfl, hF, hT, fun _ _ => rfl, rfl, rfl, by simp only [bxP, bxQ, reduceCtorEq], by simp only [bxP, bxQ, reduceCtorEq] <;> rfl, by simp only [bxP, bxQ, reduceCtorEq] <;> rfl⟩
end Go.Proofs.Ytddaggodpmhmpaa.K
