/-
  The survey goes through a pattern. Conditions: none.
-/
import Derived.Test.YtaagkdljkpbilaaS8
import Derived.Test.YtaagkdljkpbilaaLitK
import Derived.Test.YtaagkdljkpbilaaSw
import Derived.Test.YtaagkdljkpbilaaBx
set_option linter.unusedSimpArgs false
set_option linter.unusedVariables false
namespace Go.Proofs.Ytaagkdljkpbilaa.K
open Go Ev
set_option maxRecDepth 100000
set_option maxHeartbeats 4000000

def RunPost (Mb M' : MH) (sv : Nat) (x : Rx) (id off : Nat) : Prop := ∃ ms, Sv Mb M' sv ms [] ∧ SInv ms [] ∧ (x.lk = [] ∨ ∃ j mj, findK id off ms = some j ∧ ms[j]? = some mj ∧ mj.x = x)
theorem sinv_nil : SInv [] [] := ⟨fun m h => (by cases h), fun m h => (by cases h), List.Pairwise.nil, fun q h => (by cases h), fun n m h => (by simp at h), fun q h => (by cases h), fun m h => (by cases h), fun n r e => (by cases e), fun m h => (by cases h)⟩
theorem sinv_one {a : Mk} (h1 : a.x.lk ≠ []) (h2 : a.k = 0) (h3 : a.done = false) (h4 : a.pl = 0) (h5 : a.dp = 0) : SInv [a] [0] := by
  refine ⟨?_, ?_, List.pairwise_singleton _ _, ?_, ?_, ?_, ?_, ?_, ?_⟩
  · intro m hm
    simp only [List.mem_cons, List.not_mem_nil, or_false] at hm
    subst hm; omega
  · intro m hm
    simp only [List.mem_cons, List.not_mem_nil, or_false] at hm
    subst hm; exact ⟨by omega, h1⟩
  · intro q hq
    simp only [List.mem_cons, List.not_mem_nil, or_false] at hq
    subst hq; simp
  · intro n m hn _
    have := (List.getElem?_eq_some_iff.1 hn).1
    simp at this; subst this; simp
  · intro q hq m hm
    simp only [List.mem_cons, List.not_mem_nil, or_false] at hq
    subst hq
    cases hm; exact h3
  · intro m hm hd
    simp only [List.mem_cons, List.not_mem_nil, or_false] at hm
    subst hm
    rw [h3] at hd; cases hd
  · intro n r e
    cases e
    refine ⟨⟨a, rfl, ?_⟩, trivial⟩
    unfold acc
    rw [h2, h4, h5]
    exact ⟨by simp [cntL], rfl⟩
  · intro m hm k y hk
    simp only [List.mem_cons, List.not_mem_nil, or_false] at hm
    subst hm; omega
theorem mz_path {ms : List Mk} : ∀ {rp : List Nat}, (∀ q ∈ rp, q < ms.length) → rp.length ≤ mz ms rp
  | [], _ => Nat.le_refl _
  | q :: r, h => by
    have := mz_path (ms := ms) (rp := r) fun z hz => h z (List.mem_cons_of_mem _ hz)
    rw [mz_cons, List.length_cons]
    obtain ⟨m, hm⟩ : ∃ m, ms[q]? = some m := ⟨_, List.getElem?_eq_getElem (h q List.mem_cons_self)⟩
    have e : rem1 ms q = 1 + weiL (m.x.lk.drop m.k) := by unfold rem1; rw [hm]
    omega
theorem closeP_ids {ms : List Mk} {p : List Nat} {n : Nat} {m : Mk} (hm : ms[n]? = some m) : (closeP ms p n m).map (fun m => (m.id, m.off, m.x)) = ms.map (fun m => (m.id, m.off, m.x)) := by
  have one : ∀ {l : List Mk} {i : Nat} {a b : Mk}, l[i]? = some b → Same a b → (l.set i a).map (fun m => (m.id, m.off, m.x)) = l.map (fun m => (m.id, m.off, m.x)) := fun {l i a b} hb hs => by
    refine List.ext_getElem? fun j => ?_
    rw [List.getElem?_map, List.getElem?_map]
    by_cases e : j = i
    · subst e
      rw [set_self hb, hb]
      show some (a.id, a.off, a.x) = some (b.id, b.off, b.x)
      rw [hs.1, hs.2.1, hs.2.2.1]
    · rw [set_other e]
  have h1 := one hm (a := { m with done := true }) ⟨rfl, rfl, rfl, rfl⟩
  unfold closeP
  split
  · exact h1
  · rename_i q hq
    split
    · rename_i mq hmq
      by_cases e : q = n
      · subst e
        rw [hm] at hmq
        cases hmq
        rw [List.set_set]
        exact one (a := m.plus m.pl m.dp) hm ⟨rfl, rfl, rfl, rfl⟩
      · exact (one (a := mq.plus m.pl m.dp) (b := mq) (by rw [set_other e]; exact hmq) ⟨rfl, rfl, rfl, rfl⟩).trans h1
    · exact h1
theorem reg_ids {ms ms' : List Mk} (h : ms'.map (fun m => (m.id, m.off, m.x)) = ms.map (fun m => (m.id, m.off, m.x))) {id off : Nat} {y : Rx} (k : ∃ j mj, findK id off ms = some j ∧ ms[j]? = some mj ∧ mj.x = y) : ∃ j mj, findK id off ms' = some j ∧ ms'[j]? = some mj ∧ mj.x = y := by
  obtain ⟨j, mj, h1, h2, h3⟩ := k
  have hi : ms'.map (fun m => (m.id, m.off)) = ms.map (fun m => (m.id, m.off)) := by
    have := congrArg (List.map fun (x : Nat × Nat × Rx) => (x.1, x.2.1)) h
    rw [List.map_map, List.map_map] at this
    exact this
  have hj : (ms'.map fun m => (m.id, m.off, m.x))[j]? = (ms.map fun m => (m.id, m.off, m.x))[j]? := by rw [h]
  rw [List.getElem?_map, List.getElem?_map, h2] at hj
  cases hm : ms'[j]? with
  | none => rw [hm] at hj; cases hj
  | some m' =>
    rw [hm] at hj
    simp only [Option.map_some, Option.some.injEq, Prod.mk.injEq] at hj
    exact ⟨j, m', by rw [findK_ids hi]; exact h1, hm, by rw [hj.2.2]; exact h3⟩
theorem run_any {Mb M : MH} {sv : Nat} {c : T MV} {x : Rx} {id off : Nat} (hlo : Mb.lo ≤ Mb.n) (hx : Ext Mb M) (hg : M.get sv = some (.cs false 3 c)) (hsv : Mb.n ≤ sv ∧ sv < M.n) (hat : At c 0 [.nilm, .nils, .nils]) (hn : NodeAt Mb x id off) (hw : wei x ≤ 400000000) :
    Cp fns 22 [.p sv 0, .p id off] M fun _ M' => RunPost Mb M' sv x id off := by
  have en := hx.n
  have el := hx.lo
  refine Cp_call (fn := F22) (by kernel_rfl) (Nat.le_of_ble_eq_true rfl) ?_
  show Wp fns B22 (T.set q1 (some (.p id off)) (T.set q0 (some (.p sv 0)) T.lf)) M _
  unfold B22
  have hb0 : hasB c 1 0 = true := has_at hat (by omega) (by simp)
  have hcm : ∀ n, MV.cells (.m n) = [.m n] := fun _ => rfl
  simp (maxSteps := 4000000) (disch := first | omega | assumption | (simp only [bxS, stOk, Nat.reduceBEq, Nat.reduceEqDiff, Nat.reduceAdd]; done) | (simp only [push_lo, push_n, set_lo, set_n]; omega) | (apply has_ofL; simp only [List.length_cons, List.length_nil]; omega) | (apply has_setN; apply has_ofL; simp only [List.length_cons, List.length_nil]; omega)) only [↓bxD, bxP, bxQ, bxQ2, Nat.reduceBEq, reduceCtorEq, Nat.reduceAdd, Nat.reduceSub, Nat.reduceMul, Nat.reduceLeDiff, Nat.reduceLT, R10, R13, R22, R23, R24, R25, R4, R40, R41, R42, R43, R44, R45, R46, R47, R48, R5, R61, R62, R63, R64, R65, R9, hg, nck_p, hcm]
  generalize hM1 : MH.set _ _ _ = M1
  have h1 : SvO Mb M1 sv (setN [.m M.n] 0 c) M.n .nils .nils [] [] := by
    have gs : M1.get sv = some (.cs false 3 (setN [.m M.n] 0 c)) := by rw [← hM1]; exact set_same _ _
    have gm : M1.get M.n = some (.mp [] 0) := by rw [← hM1, set_ne (by omega)]; exact push_new _
    have n1 : M1.n = M.n + 1 := by rw [← hM1]; rfl
    have x1 : Chg (fun j => j = sv) M M1 := by rw [← hM1]; exact ((Chg.refl (fun j => j = sv) M).push _).set _ (.inl rfl)
    exact ⟨⟨by omega, by have := x1.lo; omega, fun j hj => (x1.old j (by omega) (by omega)).trans (hx.old j hj)⟩, gs, ⟨hsv.1, by omega⟩, hat.set' 0 _ (by simp) rfl, gm, ⟨en, by omega⟩, OwnRow.nil _ _ _, OwnRow.nil _ _ _, fun m hm => (by cases hm)⟩
  clear hM1
  have en1 := h1.ext.n
  have el1 := h1.ext.lo
  -- the loop
  have loop : ∀ (f : Fr) (M2 : MH) (ms0 : List Mk) (rp0 : List Nat), X.ev f (.t q0) = .p sv 0 → Sv Mb M2 sv ms0 rp0.reverse → SInv ms0 rp0 → ms0.length + mz ms0 rp0 ≤ 900000000 → (x.lk = [] ∨ ∃ j mj, findK id off ms0 = some j ∧ ms0[j]? = some mj ∧ mj.x = x) →
      Wp fns (.loop L22_2) f M2 (blockQ 0 (retQ F22 fun _ M' => RunPost Mb M' sv x id off)) := by
    intro f M2 ms0 rp0 hf hS hI hz hr
    refine Wp_inv (σ := List Mk × List Nat) (fun s f M' => X.ev f (.t q0) = .p sv 0 ∧ Sv Mb M' sv s.1 s.2.reverse ∧ SInv s.1 s.2 ∧ s.1.length + mz s.1 s.2 ≤ 900000000 ∧ (x.lk = [] ∨ ∃ j mj, findK id off s.1 = some j ∧ s.1[j]? = some mj ∧ mj.x = x)) (fun s => mz s.1 s.2) ?_ (ms0, rp0) ⟨hf, hS, hI, hz, hr⟩
    rintro ⟨ms, rp⟩ f M' ⟨hf, hS, hI, hz, hr⟩
    simp only at hS hI hz hr ⊢
    obtain ⟨c, mid, mv, pv, h⟩ := hS
    have g2 := h.g
    have c1 : cget c 1 = some mv := h.at_ 1 _ rfl
    have c2 : cget c 2 = some pv := h.at_ 2 _ rfl
    obtain ⟨p1, p2⟩ := h.rp.row.sl
    rw [nv_len, List.length_reverse] at p2
    have en2 := h.ext.n
    have el2 := h.ext.lo
    simp only [q0] at hf
    unfold L22_2
    cases rp with
    | nil =>
      have d0 : decide ((0 : Int) < (([] : List Nat).length : Int)) = false := rfl
      have p2' : slen pv = 0 := p2
      have d0' : decide ((0 : Int) < ((0 : Nat) : Int)) = false := rfl
      simp (maxSteps := 4000000) (disch := first | omega | assumption | (simp only [bxS, stOk, Nat.reduceBEq, Nat.reduceEqDiff, Nat.reduceAdd]; done) | (simp only [push_lo, push_n, set_lo, set_n]; omega) | (apply has_ofL; simp only [List.length_cons, List.length_nil]; omega) | (apply has_setN; apply has_ofL; simp only [List.length_cons, List.length_nil]; omega)) only [↓bxD, bxP, bxQ, bxQ2, Nat.reduceBEq, reduceCtorEq, Nat.reduceAdd, Nat.reduceSub, Nat.reduceMul, Nat.reduceLeDiff, Nat.reduceLT, R10, R13, R22, R23, R24, R25, R4, R40, R41, R42, R43, R44, R45, R46, R47, R48, R5, R61, R62, R63, R64, R65, R9, hf, g2, c2, nck_p, p1, p2, len_sl, p2', d0', resL_nil]
      exact ⟨ms, ⟨c, mid, mv, pv, h⟩, hI, hr⟩
    | cons n r =>
      have d0 : decide ((0 : Int) < ((n :: r).length : Int)) = true := decide_eq_true (by rw [List.length_cons]; omega)
      have hlen : (n :: r).length = r.length + 1 := rfl
      obtain ⟨m, hm⟩ : ∃ m, ms[n]? = some m := ⟨_, List.getElem?_eq_getElem (hI.lt n List.mem_cons_self)⟩
      have hlt := (List.getElem?_eq_some_iff.1 hm).1
      obtain ⟨A, cm, rfl, hA, hat, hA1, hA2, hA3, hA4⟩ := h.open hlt
      obtain ⟨_, kv1, kv2, kv3⟩ := h.nodes m (List.mem_of_getElem? hm)
      have hkle := hI.kle m (List.mem_of_getElem? hm)
      obtain ⟨u1, u2, _, _⟩ : isSl (cutLo 6 m.k m.kv) = true ∧ slen (cutLo 6 m.k m.kv) = slen m.kv - m.k ∧ True ∧ True := by
        cases hv : m.kv <;> first | (rw [hv] at kv1; cases kv1; done) | skip
        · rw [hv] at kv2
          exact (hkle.2 (List.length_eq_zero_iff.1 kv2.symm)).elim
        · exact ⟨rfl, rfl, trivial, trivial⟩
      have hrl := mz_path hI.lt
      obtain ⟨ro, sz, t, w1, w2, w3⟩ := h.rp.row.read (i := r.length) (e := [.i .i64 (n : Int)]) (by rw [List.reverse_cons, nv_app, List.getElem?_append_right (by rw [nv_len, List.length_reverse]; exact Nat.le_refl _), nv_len, List.length_reverse, Nat.sub_self]; rfl)
      have w4 : cget t (soff pv + r.length * 1) = some (.i .i64 (n : Int)) := w3 0 _ rfl
      have hsub : (((n :: r).length : Nat) : Int) - 1 = (r.length : Int) := by rw [hlen]; omega
      have hsub' : ((r.length + 1 : Nat) : Int) - 1 = (r.length : Int) := by omega
      have p2' : slen pv = r.length + 1 := p2
      have d0' : decide ((0 : Int) < ((r.length + 1 : Nat) : Int)) = true := d0
      have ixq : ixV 1 pv (.i .i64 (r.length : Int)) = some (.p (sid pv) (soff pv + r.length * 1)) := ix_sl p1 (by omega)
      have ixm : ixV 5 (.sl A 0 ms.length 0) (.i .i64 (n : Int)) = some (.p A (0 + n * 5)) := ix_sl (v := .sl A 0 ms.length 0) rfl hlt
      have hmc := mk_at hat hm
      have m2 : cget cm (n * 5 + 2) = some (cutLo 6 m.k m.kv) := hmc 2 _ rfl
      simp (maxSteps := 4000000) (disch := first | omega | assumption | (simp only [bxS, stOk, Nat.reduceBEq, Nat.reduceEqDiff, Nat.reduceAdd]; done) | (simp only [push_lo, push_n, set_lo, set_n]; omega) | (apply has_ofL; simp only [List.length_cons, List.length_nil]; omega) | (apply has_setN; apply has_ofL; simp only [List.length_cons, List.length_nil]; omega)) only [↓bxD, bxP, bxQ, bxQ2, Nat.reduceBEq, reduceCtorEq, Nat.reduceAdd, Nat.reduceSub, Nat.reduceMul, Nat.reduceLeDiff, Nat.reduceLT, R10, R13, R22, R23, R24, R25, R4, R40, R41, R42, R43, R44, R45, R46, R47, R48, R5, R61, R62, R63, R64, R65, R9, hf, g2, c1, c2, nck_p, p1, p2', len_sl, d0', hsub', ixq, ixm, w1, w4, hA, m2, Nat.zero_add, u1, u2]
      show Wp fns K22_1 _ _ _
      unfold K22_1
      simp (maxSteps := 4000000) (disch := first | omega | assumption | (simp only [bxS, stOk, Nat.reduceBEq, Nat.reduceEqDiff, Nat.reduceAdd]; done) | (simp only [push_lo, push_n, set_lo, set_n]; omega) | (apply has_ofL; simp only [List.length_cons, List.length_nil]; omega) | (apply has_setN; apply has_ofL; simp only [List.length_cons, List.length_nil]; omega)) only [↓bxD, bxP, bxQ, bxQ2, Nat.reduceBEq, reduceCtorEq, Nat.reduceAdd, Nat.reduceSub, Nat.reduceMul, Nat.reduceLeDiff, Nat.reduceLT, R10, R13, R22, R23, R24, R25, R4, R40, R41, R42, R43, R44, R45, R46, R47, R48, R5, R61, R62, R63, R64, R65, R9, hf, g2, c1, c2, nck_p, p1, p2', len_sl, d0', hsub', ixq, ixm, w1, w4, hA, m2, Nat.zero_add, u1, u2]
      refine Wp_dreg_of (by omega) ?_
      simp (maxSteps := 4000000) (disch := first | omega | assumption | (simp only [bxS, stOk, Nat.reduceBEq, Nat.reduceEqDiff, Nat.reduceAdd]; done) | (simp only [push_lo, push_n, set_lo, set_n]; omega) | (apply has_ofL; simp only [List.length_cons, List.length_nil]; omega) | (apply has_setN; apply has_ofL; simp only [List.length_cons, List.length_nil]; omega)) only [↓bxD, bxP, bxQ, bxQ2, Nat.reduceBEq, reduceCtorEq, Nat.reduceAdd, Nat.reduceSub, Nat.reduceMul, Nat.reduceLeDiff, Nat.reduceLT, R10, R13, R22, R23, R24, R25, R4, R40, R41, R42, R43, R44, R45, R46, R47, R48, R5, R61, R62, R63, R64, R65, R9, hf, g2, c1, c2, nck_p, p1, p2', len_sl, d0', hsub', ixq, ixm, w1, w4, hA, m2, Nat.zero_add, u1, u2]
      show Wp fns K22_0 _ _ _
      unfold K22_0
      simp (maxSteps := 4000000) (disch := first | omega | assumption | (simp only [bxS, stOk, Nat.reduceBEq, Nat.reduceEqDiff, Nat.reduceAdd]; done) | (simp only [push_lo, push_n, set_lo, set_n]; omega) | (apply has_ofL; simp only [List.length_cons, List.length_nil]; omega) | (apply has_setN; apply has_ofL; simp only [List.length_cons, List.length_nil]; omega)) only [↓bxD, bxP, bxQ, bxQ2, Nat.reduceBEq, reduceCtorEq, Nat.reduceAdd, Nat.reduceSub, Nat.reduceMul, Nat.reduceLeDiff, Nat.reduceLT, R10, R13, R22, R23, R24, R25, R4, R40, R41, R42, R43, R44, R45, R46, R47, R48, R5, R61, R62, R63, R64, R65, R9, hf, g2, c1, c2, nck_p, p1, p2', len_sl, d0', hsub', ixq, ixm, w1, w4, hA, m2, Nat.zero_add, u1, u2]
      by_cases hk : m.k = m.x.lk.length
      · have d1 : decide (((slen m.kv - m.k : Nat) : Int) = 0) = true := decide_eq_true (by omega)
        simp (maxSteps := 4000000) (disch := first | omega | assumption | (simp only [bxS, stOk, Nat.reduceBEq, Nat.reduceEqDiff, Nat.reduceAdd]; done) | (simp only [push_lo, push_n, set_lo, set_n]; omega) | (apply has_ofL; simp only [List.length_cons, List.length_nil]; omega) | (apply has_setN; apply has_ofL; simp only [List.length_cons, List.length_nil]; omega)) only [↓bxD, bxP, bxQ, bxQ2, Nat.reduceBEq, reduceCtorEq, Nat.reduceAdd, Nat.reduceSub, Nat.reduceMul, Nat.reduceLeDiff, Nat.reduceLT, R10, R13, R22, R23, R24, R25, R4, R40, R41, R42, R43, R44, R45, R46, R47, R48, R5, R61, R62, R63, R64, R65, R9, hf, g2, c1, c2, nck_p, p1, p2', len_sl, d0', hsub', ixq, ixm, w1, w4, hA, m2, Nat.zero_add, u1, u2, d1]
        have hS' : Sv Mb M' sv ms (r.reverse ++ [n]) := by rw [← List.reverse_cons]; exact ⟨_, _, _, _, h⟩
        refine bindP_call (close_any hS' hlo hm hI.bnd (fun q hq => ⟨hI.lt q (List.mem_cons_of_mem _ (List.mem_reverse.1 hq)), nodup_tail hI.pw q (List.mem_reverse.1 hq)⟩) (by rw [List.length_reverse]; omega)) ?_
        rintro mm M2 hS2
        obtain ⟨j1, j2, j3⟩ := step_close hI hm hk
        simp (maxSteps := 4000000) (disch := first | omega | assumption | (simp only [bxS, stOk, Nat.reduceBEq, Nat.reduceEqDiff, Nat.reduceAdd]; done) | (simp only [push_lo, push_n, set_lo, set_n]; omega) | (apply has_ofL; simp only [List.length_cons, List.length_nil]; omega) | (apply has_setN; apply has_ofL; simp only [List.length_cons, List.length_nil]; omega)) only [↓bxD, bxP, bxQ, bxQ2, Nat.reduceBEq, reduceCtorEq, Nat.reduceAdd, Nat.reduceSub, Nat.reduceMul, Nat.reduceLeDiff, Nat.reduceLT, R10, R13, R22, R23, R24, R25, R4, R40, R41, R42, R43, R44, R45, R46, R47, R48, R5, R61, R62, R63, R64, R65, R9, hf, g2, c1, c2, nck_p, p1, p2', len_sl, d0', hsub', ixq, ixm, w1, w4, hA, m2, Nat.zero_add, u1, u2]
        refine ⟨(closeP ms r.reverse n m, r), j2, hS2, j1, by simp only; omega, ?_⟩
        rcases hr with hr | ⟨j, mj, r1, r2, r3⟩
        · exact .inl hr
        · refine .inr ?_
          have ids : (closeP ms r.reverse n m).map (fun m => (m.id, m.off, m.x)) = ms.map (fun m => (m.id, m.off, m.x)) := closeP_ids hm
          exact reg_ids ids ⟨j, mj, r1, r2, r3⟩
      · have d1 : decide (((slen m.kv - m.k : Nat) : Int) = 0) = false := decide_eq_false (by omega)
        simp (maxSteps := 4000000) (disch := first | omega | assumption | (simp only [bxS, stOk, Nat.reduceBEq, Nat.reduceEqDiff, Nat.reduceAdd]; done) | (simp only [push_lo, push_n, set_lo, set_n]; omega) | (apply has_ofL; simp only [List.length_cons, List.length_nil]; omega) | (apply has_setN; apply has_ofL; simp only [List.length_cons, List.length_nil]; omega)) only [↓bxD, bxP, bxQ, bxQ2, Nat.reduceBEq, reduceCtorEq, Nat.reduceAdd, Nat.reduceSub, Nat.reduceMul, Nat.reduceLeDiff, Nat.reduceLT, R10, R13, R22, R23, R24, R25, R4, R40, R41, R42, R43, R44, R45, R46, R47, R48, R5, R61, R62, R63, R64, R65, R9, hf, g2, c1, c2, nck_p, p1, p2', len_sl, d0', hsub', ixq, ixm, w1, w4, hA, m2, Nat.zero_add, u1, u2, d1]
        obtain ⟨y, hy⟩ : ∃ y, m.x.lk[m.k]? = some y := ⟨_, List.getElem?_eq_getElem (by omega)⟩
        have hkid : NodeAt Mb y m.kid.1 m.kid.2 := kv3.1.get hy
        have hreg : ∀ j mj, findK m.kid.1 m.kid.2 ms = some j → ms[j]? = some mj → mj.x = y := fun j mj h1 h2 => by
          obtain ⟨m', e1, e2, e3⟩ := findK_some h1
          rw [h2] at e1
          cases e1
          have := (h.nodes mj (List.mem_of_getElem? h2)).1
          rw [e2, e3] at this
          exact NodeAt.uniq this hkid
        have hdone : ∀ j mj, y.lk ≠ [] → findK m.kid.1 m.kid.2 ms = some j → ms[j]? = some mj → mj.done = true := fun j mj _ h1 h2 => by
          cases hdn : mj.done with
          | true => rfl
          | false =>
            have e := hreg j mj h1 h2
            have hw := lk_wei hy
            rcases List.mem_cons.1 (hI.und j mj h2 hdn) with rfl | hj
            · rw [hm] at h2
              cases h2
              rw [e] at hw; omega
            · obtain ⟨mq, q1, q2⟩ := (hI.top n r rfl).2.wei hm j hj
              rw [h2] at q1
              cases q1
              rw [e] at q2; omega
        refine bindP_call (look_any ⟨_, _, _, _, h⟩ hlo hm hy hI.bnd (by omega) (by rw [List.length_reverse]; omega) hdone) ?_
        rintro mm M2 hL
        simp (maxSteps := 4000000) (disch := first | omega | assumption | (simp only [bxS, stOk, Nat.reduceBEq, Nat.reduceEqDiff, Nat.reduceAdd]; done) | (simp only [push_lo, push_n, set_lo, set_n]; omega) | (apply has_ofL; simp only [List.length_cons, List.length_nil]; omega) | (apply has_setN; apply has_ofL; simp only [List.length_cons, List.length_nil]; omega)) only [↓bxD, bxP, bxQ, bxQ2, Nat.reduceBEq, reduceCtorEq, Nat.reduceAdd, Nat.reduceSub, Nat.reduceMul, Nat.reduceLeDiff, Nat.reduceLT, R10, R13, R22, R23, R24, R25, R4, R40, R41, R42, R43, R44, R45, R46, R47, R48, R5, R61, R62, R63, R64, R65, R9, hf, g2, c1, c2, nck_p, p1, p2', len_sl, d0', hsub', ixq, ixm, w1, w4, hA, m2, Nat.zero_add, u1, u2]
        rcases hL with ⟨hl, hS2⟩ | ⟨hl, hf2, kv', hkv', hS2⟩ | ⟨hl, j, mj, hf2, hmj, hS2⟩
        · obtain ⟨j1, j2⟩ := step_add hI hm hy (.inl hl)
          refine ⟨(ms.set n (m.next.plus (szP y) (szD y)), n :: r), j2, hS2, j1, by simp only [List.length_set]; omega, ?_⟩
          exact hr.imp (fun z => z) (reg_set hm (plus_same m _ _))
        · obtain ⟨j1, j2⟩ := step_open (kv := kv') hI hm hy hl hf2
          refine ⟨(ms.set n m.next ++ [⟨m.kid.1, m.kid.2, y, kv', 0, false, 0, 0⟩], ms.length :: n :: r), j2, by simp only [List.reverse_cons] at hS2 ⊢; exact hS2, j1, by simp only [List.length_append, List.length_set, List.length_singleton]; omega, ?_⟩
          refine hr.imp (fun z => z) fun e => ?_
          obtain ⟨j, mj, h1, h2, h3⟩ := reg_set hm (next_same m) e
          exact ⟨j, mj, findK_app h1, app_old h2, h3⟩
        · have e := hreg j mj hf2 hmj
          have hdn := hI.dn mj (List.mem_of_getElem? hmj) (hdone j mj hl hf2 hmj)
          rw [e] at hdn
          rw [hdn.2.1, hdn.2.2] at hS2
          obtain ⟨j1, j2⟩ := step_add hI hm hy (.inr ⟨j, mj, hf2, hmj, e⟩)
          refine ⟨(ms.set n (m.next.plus (szP y) (szD y)), n :: r), j2, hS2, j1, by simp only [List.length_set]; omega, ?_⟩
          exact hr.imp (fun z => z) (reg_set hm (plus_same m _ _))
  by_cases hl : x.lk = []
  · refine bindP_call (open_leaf (hn.ext h1.ext) hl (by omega)) ?_
    rintro mm M2 rfl
    simp (maxSteps := 4000000) (disch := first | omega | assumption | (simp only [bxS, stOk, Nat.reduceBEq, Nat.reduceEqDiff, Nat.reduceAdd]; done) | (simp only [push_lo, push_n, set_lo, set_n]; omega) | (apply has_ofL; simp only [List.length_cons, List.length_nil]; omega) | (apply has_setN; apply has_ofL; simp only [List.length_cons, List.length_nil]; omega)) only [↓bxD, bxP, bxQ, bxQ2, Nat.reduceBEq, reduceCtorEq, Nat.reduceAdd, Nat.reduceSub, Nat.reduceMul, Nat.reduceLeDiff, Nat.reduceLT, R10, R13, R22, R23, R24, R25, R4, R40, R41, R42, R43, R44, R45, R46, R47, R48, R5, R61, R62, R63, R64, R65, R9, hg, nck_p, hcm]
    exact loop _ _ [] [] rfl ⟨_, _, _, _, h1⟩ sinv_nil (by show 0 + 0 ≤ _; omega) (.inl hl)
  · refine bindP_call (open_any ⟨_, _, _, _, h1⟩ hlo hn hl rfl (by simp) (by simp)) ?_
    rintro mm M2 ⟨kv, hkv, hS⟩
    simp (maxSteps := 4000000) (disch := first | omega | assumption | (simp only [bxS, stOk, Nat.reduceBEq, Nat.reduceEqDiff, Nat.reduceAdd]; done) | (simp only [push_lo, push_n, set_lo, set_n]; omega) | (apply has_ofL; simp only [List.length_cons, List.length_nil]; omega) | (apply has_setN; apply has_ofL; simp only [List.length_cons, List.length_nil]; omega)) only [↓bxD, bxP, bxQ, bxQ2, Nat.reduceBEq, reduceCtorEq, Nat.reduceAdd, Nat.reduceSub, Nat.reduceMul, Nat.reduceLeDiff, Nat.reduceLT, R10, R13, R22, R23, R24, R25, R4, R40, R41, R42, R43, R44, R45, R46, R47, R48, R5, R61, R62, R63, R64, R65, R9, hg, nck_p, hcm]
    refine loop _ _ [⟨id, off, x, kv, 0, false, 0, 0⟩] [0] rfl hS (sinv_one hl rfl rfl rfl rfl) ?_ (.inr ⟨0, _, by unfold findK; rw [if_pos ⟨rfl, rfl⟩], rfl, rfl⟩)
    have := wei_lk x
    show 1 + (1 + weiL (x.lk.drop 0) + 0) ≤ _
    rw [List.drop_zero]
    omega
end Go.Proofs.Ytaagkdljkpbilaa.K
