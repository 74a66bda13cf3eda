/-
  What the claim leans on, part 4: The survey closes a pattern. Conditions: none. The survey looks at the next kid. Conditions: none. What holds while a survey is under way, and how each step keeps it. Conditions: none. Each step of a survey keeps what holds, and there is less to look at. Conditions: none. The survey goes through a pattern. Conditions: none. Sets of places as bits of three words. Conditions: none. What package posit does with sets of places. Conditions: none. The list of a set of places. Conditions: none. What is built of a pattern: its places and what follows them. Conditions: none. A place of a set is built. 
-/
import Derived.Test.YtcajphnjiepbaaaMP3
set_option linter.unusedSimpArgs false
set_option linter.unusedVariables false
namespace Go.Proofs.Ytcajphnjiepbaaa.K
open Go Ev
set_option maxRecDepth 100000
set_option maxHeartbeats 4000000

theorem SvO.open {Mb M : MH} {sv : Nat} {c : T MV} {mid : Nat} {mv pv : MV} {ms : List Mk} {path : List Nat} (h : SvO Mb M sv c mid mv pv ms path) {n : Nat} (hn : n < ms.length) :
    ∃ A cm, mv = .sl A 0 ms.length 0 ∧ M.get A = some (.cs false 5 cm) ∧ At cm 0 (ms.map Mk.cells).flatten ∧ Mb.n ≤ A ∧ A < M.n ∧ A ≠ sv ∧ A ≠ mid := by
  obtain ⟨hs, ⟨h1, h2⟩ | ⟨A, cm, h1, h2, h3, h4, h5⟩⟩ := h.rm
  · have : ms.length = 0 := by have := congrArg List.length h2; simpa using this
    omega
  · rw [List.length_map] at h1
    exact ⟨A, cm, h1, h2, h5, h3, h4, fun e => (by rw [e, h.g] at h2; cases h2), fun e => (by rw [e, h.gm] at h2; cases h2)⟩
theorem sized_mk (ms : List Mk) : Sized 5 (ms.map Mk.cells) := fun e he => by
  obtain ⟨m, _, rfl⟩ := List.mem_map.1 he
  rfl
theorem mk_at {ms : List Mk} {n : Nat} {m : Mk} {cm : T MV} (h : At cm 0 (ms.map Mk.cells).flatten) (hm : ms[n]? = some m) : At cm (n * 5) m.cells := by
  have := At.elem (sized_mk ms) h (i := n) (e := m.cells) (by rw [List.getElem?_map, hm]; rfl)
  rwa [Nat.zero_add] at this
theorem mk_set {ms : List Mk} {n o : Nat} {m m' : Mk} {cm : T MV} {x : MV} {k : Nat} (h : At cm 0 (ms.map Mk.cells).flatten) (hm : ms[n]? = some m) (ho : o < 5) (hc : m'.cells = m.cells.set o x) (hk : k = n * 5 + o) : At (setN [x] k cm) 0 ((ms.set n m').map Mk.cells).flatten := by
  have := At.elem_set (sized_mk ms) h (i := n) (o := o) (e := m.cells) (x := x) (by rw [List.getElem?_map, hm]; rfl) ho hk
  rw [← hc] at this
  rwa [List.map_set]
theorem ids_set {ms : List Mk} {n : Nat} {m m' : Mk} (hm : ms[n]? = some m) (h1 : m'.id = m.id) (h2 : m'.off = m.off) : (ms.set n m').map (fun m => (m.id, m.off)) = ms.map (fun m => (m.id, m.off)) := by
  rw [List.map_set, h1, h2]
  refine List.ext_getElem? fun i => ?_
  rw [List.getElem?_set]
  split
  · rename_i e
    subst e
    rw [List.getElem?_map, hm]
    split
    · rfl
    · rename_i hlt
      rw [List.length_map] at hlt
      exact (hlt (List.getElem?_eq_some_iff.1 hm).1).elim
  · rfl
theorem SvO.upd {Mb M M' : MH} {sv : Nat} {c : T MV} {mid : Nat} {mv pv : MV} {ms : List Mk} {path : List Nat} (h : SvO Mb M sv c mid mv pv ms path) {n A : Nat} {m m' : Mk} {cm' : T MV} (hm : ms[n]? = some m) (hA : mv = .sl A 0 ms.length 0) (hsv : A ≠ sv) (hmid : A ≠ mid) (hAb : Mb.n ≤ A) (hx : Chg (fun j => j = A) M M') (hg : M'.get A = some (.cs false 5 cm')) (hat : At cm' 0 ((ms.set n m').map Mk.cells).flatten) (hAn : A < M.n)
    (h1 : m'.id = m.id) (h2 : m'.off = m.off) (h3 : m'.x = m.x) (h4 : m'.kv = m.kv) : SvO Mb M' sv c mid mv pv (ms.set n m') path := by
  have e1 := h.svl
  have e2 := h.ml
  have e3 := h.ext.n
  have e4 := hx.n
  refine ⟨⟨by omega, hx.lo.trans h.ext.lo, fun j hj => (hx.old j (by omega) (by omega)).trans (h.ext.old j hj)⟩, (hx.old sv e1.2 (fun e => hsv e.symm)).trans h.g, ⟨e1.1, by omega⟩, h.at_, ?_, ⟨e2.1, by omega⟩, ?_, ?_, ?_⟩
  · rw [hx.old mid e2.2 (fun e => hmid e.symm), h.gm, List.length_set, ents_same (ids_set hm h1 h2)]
  · refine ⟨sized_mk _, .inr ⟨A, cm', ?_, hg, hAb, by omega, hat⟩⟩
    rw [hA, List.length_map, List.length_set]
  · exact h.rp.keep (by omega) fun a b n d e => by
      obtain ⟨cc, q1, q2, q3⟩ := own_id h.rp e
      obtain ⟨cc', q1', _⟩ := own_id h.rm hA
      exact hx.old a q3 fun e => by rw [e, q1'] at q1; cases q1
  · intro x hx'
    rcases List.mem_or_eq_of_mem_set hx' with hx' | rfl
    · exact h.nodes x hx'
    · rw [h1, h2, h3, h4]
      exact h.nodes m (List.mem_of_getElem? hm)
def Mk.plus (m : Mk) (a b : Int) : Mk := { m with pl := min (m.pl + a) 151, dp := min (max m.dp (b + 1)) 201 }
def closeP (ms : List Mk) (p : List Nat) (n : Nat) (m : Mk) : List Mk :=
  match p.getLast? with
  | none => ms.set n { m with done := true }
  | some q => match ms[q]? with
    | some mq => (ms.set n { m with done := true }).set q (mq.plus m.pl m.dp)
    | none => ms.set n { m with done := true }
theorem close_any {Mb M : MH} {sv : Nat} {ms : List Mk} {p : List Nat} {n : Nat} {m : Mk} (h : Sv Mb M sv ms (p ++ [n])) (hlo : Mb.lo ≤ Mb.n) (hm : ms[n]? = some m) (hms : ∀ m ∈ ms, 0 ≤ m.pl ∧ m.pl ≤ 1000 ∧ 0 ≤ m.dp ∧ m.dp ≤ 1000) (hp : ∀ q ∈ p, q < ms.length ∧ q ≠ n) (hpl : p.length ≤ 1000000000) :
    Cp fns 41 [.p sv 0, .i .i64 (n : Int)] M fun _ M' => Sv Mb M' sv (closeP ms p n m) p := by
  obtain ⟨c, mid, mv, pv, h⟩ := h
  have hn := h.ext.n
  have hl2 := h.ext.lo
  have hlt := (List.getElem?_eq_some_iff.1 hm).1
  obtain ⟨A, cm, rfl, hA, hat, hA1, hA2, hA3, hA4⟩ := h.open hlt
  refine Cp_call (fn := F41) (by kernel_rfl) (Nat.le_of_ble_eq_true rfl) ?_
  show Wp fns B41 (T.set q1 (some (.i .i64 (n : Int))) (T.set q0 (some (.p sv 0)) T.lf)) M _
  unfold B41
  have g1 := h.g
  have c0 : cget c 0 = some (.m mid) := h.at_ 0 _ rfl
  have c1 : cget c 1 = some (.sl A 0 ms.length 0) := h.at_ 1 _ rfl
  have c2 : cget c 2 = some pv := h.at_ 2 _ rfl
  have ixm : ∀ i, i < ms.length → ixV 5 (.sl A 0 ms.length 0) (.i .i64 (i : Int)) = some (.p A (0 + i * 5)) := fun i hi => ix_sl (v := .sl A 0 ms.length 0) rfl hi
  have hmc := mk_at hat hm
  have m4 : cget cm (n * 5 + 4) = some (.b false) := hmc 4 _ rfl
  have hb : hasB cm 1 (n * 5 + 3) = true := has_at hmc (by omega) (by show _ ≤ n * 5 + 5; omega)
  have z4 : (n * 5 ≤ n * 5 + 1 ∧ n * 5 + 4 < n * 5 + 3 + 1) = False := eq_false (by omega)
  simp (maxSteps := 4000000) (disch := first | omega | assumption | (simp only [bxS, bxV, stOk, Nat.reduceBEq, Nat.reduceEqDiff, Nat.reduceAdd]; done) | (simp only [bxU]; omega) | ((try apply has_setN); apply has_ofL; simp only [bxL]; omega)) only [↓bxD, bxP, bxQ, bxQ2, Nat.reduceBEq, reduceCtorEq, Nat.reduceAdd, Nat.reduceSub, Nat.reduceMul, Nat.reduceLeDiff, Nat.reduceLT, bxR, g1, c0, c1, c2, nck_p, ixm, Nat.zero_add, hA, m4, cells_b, z4]
  show Wp fns K41_1 _ _ _
  generalize hM1 : MH.set _ _ _ = M1
  generalize hfr : (T.set _ _ _ : Fr) = f1
  have q0' : X.ev f1 (.t q0) = .p sv 0 := by rw [← hfr]; simp (maxSteps := 4000000) (disch := first | omega | assumption | (simp only [bxS, bxV, stOk, Nat.reduceBEq, Nat.reduceEqDiff, Nat.reduceAdd]; done) | (simp only [bxU]; omega) | ((try apply has_setN); apply has_ofL; simp only [bxL]; omega)) only [↓bxD, bxP, bxQ, bxQ2, Nat.reduceBEq, reduceCtorEq, Nat.reduceAdd, Nat.reduceSub, Nat.reduceMul, Nat.reduceLeDiff, Nat.reduceLT, bxR, g1, c0, c1, c2, nck_p, ixm, Nat.zero_add, hA, m4, cells_b, z4]
  have q4' : X.ev f1 (.t q4) = .p A (n * 5) := by rw [← hfr]; simp (maxSteps := 4000000) (disch := first | omega | assumption | (simp only [bxS, bxV, stOk, Nat.reduceBEq, Nat.reduceEqDiff, Nat.reduceAdd]; done) | (simp only [bxU]; omega) | ((try apply has_setN); apply has_ofL; simp only [bxL]; omega)) only [↓bxD, bxP, bxQ, bxQ2, Nat.reduceBEq, reduceCtorEq, Nat.reduceAdd, Nat.reduceSub, Nat.reduceMul, Nat.reduceLeDiff, Nat.reduceLT, bxR, g1, c0, c1, c2, nck_p, ixm, Nat.zero_add, hA, m4, cells_b, z4]
  clear hfr
  have x1 : Chg (fun j => j = A) M M1 := by rw [← hM1]; exact (Chg.refl (fun j => j = A) M).set _ (.inl rfl)
  have hA' : M1.get A = some (.cs false 5 (setN [.b true] (n * 5 + 3) cm)) := by rw [← hM1]; exact set_same _ _
  have n1 : M1.n = M.n := by rw [← hM1]; rfl
  have l1 := x1.lo
  clear hM1
  have h1 : SvO Mb M1 sv c mid (.sl A 0 ms.length 0) pv (ms.set n { m with done := true }) (p ++ [n]) := h.upd hm rfl hA3 hA4 hA1 x1 hA' (mk_set hat hm (by omega) rfl rfl) hA2 rfl rfl rfl rfl
  have g2 := h1.g
  obtain ⟨p1, p2⟩ := h1.rp.row.sl
  rw [nv_len, List.length_append, List.length_singleton] at p2
  simp only [q0, q4] at q0' q4'
  have hcut : cutM 1 pv none (some (.i .i64 (p.length : Int))) = some (cutHi p.length pv) := cutM_hi p1 (by omega)
  have hsub : ((p.length + 1 : Nat) : Int) - 1 = (p.length : Int) := by omega
  have hb2 : hasB c 1 2 = true := has_at h.at_ (by omega) (by simp)
  have hone : MV.cells (cutHi p.length pv) = [cutHi p.length pv] := by cases pv <;> first | rfl | cases p1
  have hst : stOk 1 (cutHi p.length pv) = true := by cases pv <;> first | rfl | cases p1
  have hsv := h.svl
  unfold K41_1
  rw [Wp_seq_dreg]
  refine Wp_dreg_of (by omega) ?_
  simp (maxSteps := 4000000) (disch := first | omega | assumption | (simp only [bxS, bxV, stOk, Nat.reduceBEq, Nat.reduceEqDiff, Nat.reduceAdd]; done) | (simp only [bxU]; omega) | ((try apply has_setN); apply has_ofL; simp only [bxL]; omega)) only [↓bxD, bxP, bxQ, bxQ2, Nat.reduceBEq, reduceCtorEq, Nat.reduceAdd, Nat.reduceSub, Nat.reduceMul, Nat.reduceLeDiff, Nat.reduceLT, bxR, q0', q4', g2, c0, c1, c2, nck_p, p1, p2, len_sl, hsub, hcut, ev_cut, Option.map_some, Option.map_none, hone]
  show Wp fns K41_0 _ _ _
  generalize hM2 : MH.set _ _ _ = M2
  generalize hfr : (T.set _ _ _ : Fr) = f2
  have r0' : X.ev f2 (.t q0) = .p sv 0 := by rw [← hfr]; simp (maxSteps := 4000000) (disch := first | omega | assumption | (simp only [bxS, bxV, stOk, Nat.reduceBEq, Nat.reduceEqDiff, Nat.reduceAdd]; done) | (simp only [bxU]; omega) | ((try apply has_setN); apply has_ofL; simp only [bxL]; omega)) only [↓bxD, bxP, bxQ, bxQ2, Nat.reduceBEq, reduceCtorEq, Nat.reduceAdd, Nat.reduceSub, Nat.reduceMul, Nat.reduceLeDiff, Nat.reduceLT, bxR, q0', q4', g2, c0, c1, c2, nck_p, p1, p2, len_sl, hsub, hcut, ev_cut, Option.map_some, Option.map_none, hone]
  have r4' : X.ev f2 (.t q4) = .p A (n * 5) := by rw [← hfr]; simp (maxSteps := 4000000) (disch := first | omega | assumption | (simp only [bxS, bxV, stOk, Nat.reduceBEq, Nat.reduceEqDiff, Nat.reduceAdd]; done) | (simp only [bxU]; omega) | ((try apply has_setN); apply has_ofL; simp only [bxL]; omega)) only [↓bxD, bxP, bxQ, bxQ2, Nat.reduceBEq, reduceCtorEq, Nat.reduceAdd, Nat.reduceSub, Nat.reduceMul, Nat.reduceLeDiff, Nat.reduceLT, bxR, q0', q4', g2, c0, c1, c2, nck_p, p1, p2, len_sl, hsub, hcut, ev_cut, Option.map_some, Option.map_none, hone]
  clear hfr
  simp only [q0, q4] at r0' r4'
  have x2 : Chg (fun j => j = sv) M1 M2 := by rw [← hM2]; exact (Chg.refl (fun j => j = sv) M1).set _ (.inl rfl)
  have g3 : M2.get sv = some (.cs false 3 (setN [cutHi p.length pv] 2 c)) := by rw [← hM2]; exact set_same _ _
  have n2 : M2.n = M1.n := by rw [← hM2]; rfl
  have l2 := x2.lo
  clear hM2
  obtain ⟨c1', c2', c3', c4'⟩ := cutHi_sl (h := p.length) p1 (by omega)
  have h2 : SvO Mb M2 sv (setN [cutHi p.length pv] 2 c) mid (.sl A 0 ms.length 0) (cutHi p.length pv) (ms.set n { m with done := true }) p := by
    have e1 := h1.svl
    have e2 := h1.ml
    refine ⟨⟨by omega, by omega, fun j hj => (x2.old j (by omega) (by omega)).trans (h1.ext.old j hj)⟩, g3, ⟨e1.1, by omega⟩, h1.at_.set' 2 _ (by simp) rfl, ?_, ⟨e2.1, by omega⟩, ?_, ?_, h1.nodes⟩
    · rw [x2.old mid e2.2 (fun e => by have := h1.gm; rw [e, h1.g] at this; cases this)]; exact h1.gm
    · exact h1.rm.keep (by omega) fun a b n d e => by
        obtain ⟨cc, q1, q2, q3⟩ := own_id h1.rm e
        exact x2.old a q3 fun e => by rw [e, h1.g] at q1; cases q1
    · obtain ⟨hs, ⟨e1, e2⟩ | ⟨id, cp, e1, e2, e3, e4, e5⟩⟩ := h1.rp
      · have := congrArg List.length e2
        rw [nv_len] at this
        simp at this
      · rw [nv_len, List.length_append, List.length_singleton] at e1
        have hx2 : M2.get id = some (.cs false 1 cp) := by rw [x2.old id e4 (fun e => by rw [e, h1.g] at e2; cases e2)]; exact e2
        refine ⟨fun e he => hs e (by rw [nv_app]; exact List.mem_append_left _ he), .inr ⟨id, cp, ?_, hx2, e3, by omega, ?_⟩⟩
        · rw [e1, nv_len]; rfl
        · rw [nv_app, List.flatten_append] at e5
          exact e5.left
  have hsv2 := h2.svl
  have k1 : cget (setN [cutHi p.length pv] 2 c) 1 = some (.sl A 0 ms.length 0) := h2.at_ 1 _ rfl
  have k2 : cget (setN [cutHi p.length pv] 2 c) 2 = some (cutHi p.length pv) := h2.at_ 2 _ rfl
  have hA2' : M2.get A = some (.cs false 5 (setN [.b true] (n * 5 + 3) cm)) := by rw [x2.old A (by omega) hA3]; exact hA'
  unfold K41_0
  rcases List.eq_nil_or_concat p with rfl | ⟨p0, q, rfl⟩
  · have d0 : decide ((0 : Int) < ((0 : Nat) : Int)) = false := rfl
    have u1 : isSl (cutHi 0 pv) = true := c1'
    have u2 : slen (cutHi 0 pv) = 0 := c2'
    have u3 : cget (setN [cutHi 0 pv] 2 c) 2 = some (cutHi 0 pv) := k2
    have u4 : M2.get sv = some (.cs false 3 (setN [cutHi 0 pv] 2 c)) := g3
    simp (maxSteps := 4000000) (disch := first | omega | assumption | (simp only [bxS, bxV, stOk, Nat.reduceBEq, Nat.reduceEqDiff, Nat.reduceAdd]; done) | (simp only [bxU]; omega) | ((try apply has_setN); apply has_ofL; simp only [bxL]; omega)) only [↓bxD, bxP, bxQ, bxQ2, Nat.reduceBEq, reduceCtorEq, Nat.reduceAdd, Nat.reduceSub, Nat.reduceMul, Nat.reduceLeDiff, Nat.reduceLT, bxR, r0', r4', u4, u3, nck_p, u1, u2, len_sl, d0, resL_nil]
    exact ⟨_, _, _, _, h2⟩
  · rw [List.concat_eq_append] at *
    have hq := hp q (by simp)
    have d0 : decide ((0 : Int) < ((p0 ++ [q]).length : Int)) = true := decide_eq_true (by simp)
    obtain ⟨mq, hmq⟩ : ∃ mq, ms[q]? = some mq := ⟨_, List.getElem?_eq_getElem hq.1⟩
    have hmq1 : (ms.set n { m with done := true })[q]? = some mq := by rw [List.getElem?_set, if_neg (fun e => hq.2 e.symm)]; exact hmq
    have hmn1 : (ms.set n { m with done := true })[n]? = some { m with done := true } := by rw [List.getElem?_set, if_pos rfl, if_pos hlt]
    have hat2 := mk_set (x := .b true) (o := 3) (m' := { m with done := true }) hat hm (by omega) rfl rfl
    have hcq := mk_at hat2 hmq1
    have hcn := mk_at hat2 hmn1
    have hgn : Ev.getN (setN [.b true] (n * 5 + 3) cm) 2 (n * 5) = some [.i .i64 m.pl, .i .i64 m.dp] := (At.left (a := [.i .i64 m.pl, .i .i64 m.dp]) (b := [cutLo 6 m.k m.kv, .b true, .b false]) hcn).getN
    obtain ⟨ro, sz, t, w1, w2, w3⟩ := h2.rp.row.read (i := p0.length) (e := [.i .i64 (q : Int)]) (by rw [nv_app, List.getElem?_append_right (by rw [nv_len]; exact Nat.le_refl _), nv_len, Nat.sub_self]; rfl)
    have w4 : cget t (soff (cutHi (p0 ++ [q]).length pv) + p0.length * 1) = some (.i .i64 (q : Int)) := w3 0 _ rfl
    have hsub2 : (((p0 ++ [q]).length : Nat) : Int) - 1 = (p0.length : Int) := by simp
    have ixq : ixV 1 (cutHi (p0 ++ [q]).length pv) (.i .i64 (p0.length : Int)) = some (.p (sid (cutHi (p0 ++ [q]).length pv)) (soff (cutHi (p0 ++ [q]).length pv) + p0.length * 1)) := ix_sl c1' (by rw [c2']; simp)
    have hpq := hms mq (List.mem_of_getElem? hmq)
    have hpm := hms m (List.mem_of_getElem? hm)
    have l2' : M2.lo ≤ A := by have := h2.ext.lo; omega
    simp (maxSteps := 4000000) (disch := first | omega | assumption | (simp only [bxS, bxV, stOk, Nat.reduceBEq, Nat.reduceEqDiff, Nat.reduceAdd]; done) | (simp only [bxU]; omega) | ((try apply has_setN); apply has_ofL; simp only [bxL]; omega)) only [↓bxD, bxP, bxQ, bxQ2, Nat.reduceBEq, reduceCtorEq, Nat.reduceAdd, Nat.reduceSub, Nat.reduceMul, Nat.reduceLeDiff, Nat.reduceLT, bxR, r0', r4', g3, k1, k2, nck_p, c1', c2', len_sl, d0, resL_nil, hsub2, ixq, w1, w4, ixm, Nat.zero_add, hA2', hgn]
    refine Wp_dreg_of (by have := h2.ext.lo; have := h2.ext.n; omega) ?_
    simp (maxSteps := 4000000) (disch := first | omega | assumption | (simp only [bxS, bxV, stOk, Nat.reduceBEq, Nat.reduceEqDiff, Nat.reduceAdd]; done) | (simp only [bxU]; omega) | ((try apply has_setN); apply has_ofL; simp only [bxL]; omega)) only [↓bxD, bxP, bxQ, bxQ2, Nat.reduceBEq, reduceCtorEq, Nat.reduceAdd, Nat.reduceSub, Nat.reduceMul, Nat.reduceLeDiff, Nat.reduceLT, bxR, r0', r4', g3, k1, k2, nck_p, c1', c2', len_sl, d0, resL_nil, hsub2, ixq, w1, w4, ixm, Nat.zero_add, hA2', hgn]
    refine bindP_call (size_add (by have := h2.ext.lo; have := h2.ext.n; omega) l2' (by omega) hA2' (At.left (a := [.i .i64 mq.pl, .i .i64 mq.dp]) (b := [cutLo 6 mq.k mq.kv, .b mq.done, .b false]) hcq) ⟨hpq.1, hpq.2.1⟩ ⟨hpq.2.2.1, hpq.2.2.2⟩ ⟨hpm.1, hpm.2.1⟩ ⟨hpm.2.2.1, hpm.2.2.2⟩) ?_
    rintro mm M3 ⟨x3, hA3'⟩
    simp (maxSteps := 4000000) (disch := first | omega | assumption | (simp only [bxS, bxV, stOk, Nat.reduceBEq, Nat.reduceEqDiff, Nat.reduceAdd]; done) | (simp only [bxU]; omega) | ((try apply has_setN); apply has_ofL; simp only [bxL]; omega)) only [↓bxD, bxP, bxQ, bxQ2, Nat.reduceBEq, reduceCtorEq, Nat.reduceAdd, Nat.reduceSub, Nat.reduceMul, Nat.reduceLeDiff, Nat.reduceLT, bxR, r0', r4', g3, k1, k2, nck_p, c1', c2', len_sl, d0, resL_nil, hsub2, ixq, w1, w4, ixm, Nat.zero_add, hA2', hgn]
    have s1 := mk_set (x := .i .i64 (min (mq.pl + m.pl) 151)) (o := 0) (k := q * 5) (m' := { mq with pl := min (mq.pl + m.pl) 151 }) hat2 hmq1 (by omega) rfl (by omega)
    have hlq : q < (ms.set n { m with done := true }).length := by rw [List.length_set]; exact hq.1
    have s2 := mk_set (x := .i .i64 (min (max mq.dp (m.dp + 1)) 201)) (o := 1) (k := q * 5 + 1) (m := { mq with pl := min (mq.pl + m.pl) 151 }) (m' := mq.plus m.pl m.dp) s1 (by rw [List.getElem?_set, if_pos rfl, if_pos hlq]) (by omega) rfl rfl
    rw [List.set_set] at s2
    have hcl : closeP ms (p0 ++ [q]) n m = (ms.set n { m with done := true }).set q (mq.plus m.pl m.dp) := by
      unfold closeP
      rw [List.getLast?_concat]
      simp only [hmq]
    rw [hcl]
    have hlen : (MV.sl A 0 ms.length 0) = .sl A 0 (ms.set n { m with done := true }).length 0 := by rw [List.length_set]
    exact ⟨_, _, _, _, h2.upd hmq1 hlen hA3 hA4 hA1 x3 hA3' s2 (by omega) rfl rfl rfl rfl⟩
def Mk.next (m : Mk) : Mk := { m with k := m.k + 1 }
theorem cutLo_next {v : MV} {k : Nat} (hv : isSl v = true) : cutLo 6 1 (cutLo 6 k v) = cutLo 6 (k + 1) v := by
  cases v <;> first | cases hv | skip
  · rfl
  · rename_i id off n e
    show MV.sl id (off + k * 6 + 1 * 6) (n - k - 1) (e + k + 1) = MV.sl id (off + (k + 1) * 6) (n - (k + 1)) (e + (k + 1))
    rw [show off + k * 6 + 1 * 6 = off + (k + 1) * 6 from by omega, show n - k - 1 = n - (k + 1) from by omega, show e + k + 1 = e + (k + 1) from by omega]
theorem next_cells {m : Mk} (hv : isSl m.kv = true) : m.next.cells = m.cells.set 2 (cutLo 6 1 (cutLo 6 m.k m.kv)) := by
  rw [cutLo_next hv]
  rfl
def Mk.kid (m : Mk) : Nat × Nat := (sid m.kv, soff m.kv + m.k * 6)
def LookPost (Mb M' : MH) (sv : Nat) (ms : List Mk) (path : List Nat) (n : Nat) (m : Mk) (y : Rx) : Prop :=
  (y.lk = [] ∧ Sv Mb M' sv (ms.set n (m.next.plus (szP y) (szD y))) path) ∨
  (y.lk ≠ [] ∧ findK m.kid.1 m.kid.2 ms = none ∧ ∃ kv, KidsV Mb y m.kid.1 m.kid.2 kv ∧ Sv Mb M' sv (ms.set n m.next ++ [⟨m.kid.1, m.kid.2, y, kv, 0, false, 0, 0⟩]) (path ++ [ms.length])) ∨
  (y.lk ≠ [] ∧ ∃ j mj, findK m.kid.1 m.kid.2 ms = some j ∧ ms[j]? = some mj ∧ Sv Mb M' sv (ms.set n (m.next.plus mj.pl mj.dp)) path)
theorem findK_ids {id off : Nat} : ∀ {l r : List Mk}, l.map (fun m => (m.id, m.off)) = r.map (fun m => (m.id, m.off)) → findK id off l = findK id off r
  | [], [], _ => rfl
  | [], _ :: _, h => by simp at h
  | _ :: _, [], h => by simp at h
  | a :: l, b :: r, h => by
    simp only [List.map_cons, List.cons.injEq, Prod.mk.injEq] at h
    unfold findK
    rw [h.1.1, h.1.2, findK_ids h.2]
theorem rdP_ents {M : MH} {mid id off : Nat} {ms : List Mk} {k : Nat} (hg : M.get mid = some (.mp (ents ms 0) k)) (h0 : rwcs M id = true) (h : ∀ m ∈ ms, rwcs M m.id = true) : rdF (.lkpP true (.i .i64 0)) M (.m mid) (.p id off) = some (match findK id off ms with
    | some j => .tp [.i .i64 (j : Int), .b true]
    | none => .tp [.i .i64 0, .b false]) := by
  show (match M.get mid with
    | some (.mp es _) => match findP M id off es 0 with
      | some (some (_, v)) => some (bif true then MV.tp [v, .b true] else v)
      | some none => some (bif true then MV.tp [.i .i64 0, .b false] else .i .i64 0)
      | none => none
    | _ => none) = _
  rw [hg]
  simp only
  rw [find_ents h0 0 0 h]
  cases findK id off ms with
  | none => rfl
  | some j => simp
theorem look_any {Mb M : MH} {sv : Nat} {ms : List Mk} {path : List Nat} {n : Nat} {m : Mk} {y : Rx} (h : Sv Mb M sv ms path) (hlo : Mb.lo ≤ Mb.n) (hm : ms[n]? = some m) (hy : m.x.lk[m.k]? = some y) (hms : ∀ m ∈ ms, 0 ≤ m.pl ∧ m.pl ≤ 1000 ∧ 0 ≤ m.dp ∧ m.dp ≤ 1000) (hb : ms.length ≤ 1000000000) (hbp : path.length ≤ 1000000000)
    (hd : ∀ j mj, y.lk ≠ [] → findK m.kid.1 m.kid.2 ms = some j → ms[j]? = some mj → mj.done = true) :
    Cp fns 42 [.p sv 0, .i .i64 (n : Int)] M fun _ M' => LookPost Mb M' sv ms path n m y := by
  obtain ⟨c, mid, mv, pv, h⟩ := h
  have hn := h.ext.n
  have hl2 := h.ext.lo
  have hlt := (List.getElem?_eq_some_iff.1 hm).1
  obtain ⟨A, cm, rfl, hA, hat, hA1, hA2, hA3, hA4⟩ := h.open hlt
  obtain ⟨_, kv1, kv2, kv3⟩ := h.nodes m (List.mem_of_getElem? hm)
  have hkl := (List.getElem?_eq_some_iff.1 hy).1
  obtain ⟨u1, u2, u3, u4⟩ := cutLo_sl (v := m.kv) (sz := 6) (l := m.k) kv1 (.inl (by omega))
  have hkid : NodeAt Mb y m.kid.1 m.kid.2 := kv3.1.get hy
  refine Cp_call (fn := F42) (by kernel_rfl) (Nat.le_of_ble_eq_true rfl) ?_
  show Wp fns B42 (T.set q1 (some (.i .i64 (n : Int))) (T.set q0 (some (.p sv 0)) T.lf)) M _
  unfold B42
  have g1 := h.g
  have c0 : cget c 0 = some (.m mid) := h.at_ 0 _ rfl
  have c1 : cget c 1 = some (.sl A 0 ms.length 0) := h.at_ 1 _ rfl
  have c2 : cget c 2 = some pv := h.at_ 2 _ rfl
  have ixm : ∀ i, i < ms.length → ixV 5 (.sl A 0 ms.length 0) (.i .i64 (i : Int)) = some (.p A (0 + i * 5)) := fun i hi => ix_sl (v := .sl A 0 ms.length 0) rfl hi
  have hmc := mk_at hat hm
  have m2 : cget cm (n * 5 + 2) = some (cutLo 6 m.k m.kv) := hmc 2 _ rfl
  have hb2 : hasB cm 1 (n * 5 + 2) = true := has_at hmc (by omega) (by show _ ≤ n * 5 + 5; omega)
  have ixr : ixV 6 (cutLo 6 m.k m.kv) (.i .i64 0) = some (.p m.kid.1 (m.kid.2 + 0 * 6)) := by
    have := ix_sl (s := 6) (k := .i64) (i := 0) u1 (by omega)
    rw [u3, u4] at this
    exact this
  have hcut : cutM 6 (cutLo 6 m.k m.kv) (some (.i .i64 1)) none = some (cutLo 6 1 (cutLo 6 m.k m.kv)) := cutM_lo (l := 1) u1 (by omega)
  have hone : MV.cells (cutLo 6 1 (cutLo 6 m.k m.kv)) = [cutLo 6 1 (cutLo 6 m.k m.kv)] := by rw [cutLo_next kv1]; cases hh : m.kv <;> first | rfl | (rw [hh] at kv1; cases kv1)
  have hst : stOk 1 (cutLo 6 1 (cutLo 6 m.k m.kv)) = true := by rw [cutLo_next kv1]; cases hh : m.kv <;> first | rfl | (rw [hh] at kv1; cases kv1)
  simp (maxSteps := 4000000) (disch := first | omega | assumption | (simp only [bxS, bxV, stOk, Nat.reduceBEq, Nat.reduceEqDiff, Nat.reduceAdd]; done) | (simp only [bxU]; omega) | ((try apply has_setN); apply has_ofL; simp only [bxL]; omega)) only [↓bxD, bxP, bxQ, bxQ2, Nat.reduceBEq, reduceCtorEq, Nat.reduceAdd, Nat.reduceSub, Nat.reduceMul, Nat.reduceLeDiff, Nat.reduceLT, bxR, g1, c0, c1, c2, nck_p, ixm, Nat.zero_add, hA, m2, ixr, Nat.zero_mul, Nat.add_zero, ev_cut, Option.map_some, Option.map_none, hcut, hone]
  refine Wp_dreg_of (by omega) ?_
  simp (maxSteps := 4000000) (disch := first | omega | assumption | (simp only [bxS, bxV, stOk, Nat.reduceBEq, Nat.reduceEqDiff, Nat.reduceAdd]; done) | (simp only [bxU]; omega) | ((try apply has_setN); apply has_ofL; simp only [bxL]; omega)) only [↓bxD, bxP, bxQ, bxQ2, Nat.reduceBEq, reduceCtorEq, Nat.reduceAdd, Nat.reduceSub, Nat.reduceMul, Nat.reduceLeDiff, Nat.reduceLT, bxR, g1, c0, c1, c2, nck_p, ixm, Nat.zero_add, hA, m2, ixr, Nat.zero_mul, Nat.add_zero, ev_cut, Option.map_some, Option.map_none, hcut, hone]
  show Wp fns K42_1 _ _ _
  generalize hM1 : MH.set _ _ _ = M1
  generalize hfr : (T.set _ _ _ : Fr) = f1
  have q0' : X.ev f1 (.t q0) = .p sv 0 := by rw [← hfr]; simp (maxSteps := 4000000) (disch := first | omega | assumption | (simp only [bxS, bxV, stOk, Nat.reduceBEq, Nat.reduceEqDiff, Nat.reduceAdd]; done) | (simp only [bxU]; omega) | ((try apply has_setN); apply has_ofL; simp only [bxL]; omega)) only [↓bxD, bxP, bxQ, bxQ2, Nat.reduceBEq, reduceCtorEq, Nat.reduceAdd, Nat.reduceSub, Nat.reduceMul, Nat.reduceLeDiff, Nat.reduceLT, bxR, g1, c0, c1, c2, nck_p, ixm, Nat.zero_add, hA, m2, ixr, Nat.zero_mul, Nat.add_zero, ev_cut, Option.map_some, Option.map_none, hcut, hone]
  have q1' : X.ev f1 (.t q1) = .i .i64 (n : Int) := by rw [← hfr]; simp (maxSteps := 4000000) (disch := first | omega | assumption | (simp only [bxS, bxV, stOk, Nat.reduceBEq, Nat.reduceEqDiff, Nat.reduceAdd]; done) | (simp only [bxU]; omega) | ((try apply has_setN); apply has_ofL; simp only [bxL]; omega)) only [↓bxD, bxP, bxQ, bxQ2, Nat.reduceBEq, reduceCtorEq, Nat.reduceAdd, Nat.reduceSub, Nat.reduceMul, Nat.reduceLeDiff, Nat.reduceLT, bxR, g1, c0, c1, c2, nck_p, ixm, Nat.zero_add, hA, m2, ixr, Nat.zero_mul, Nat.add_zero, ev_cut, Option.map_some, Option.map_none, hcut, hone]
  have q4' : X.ev f1 (.t q4) = .p m.kid.1 m.kid.2 := by rw [← hfr]; simp (maxSteps := 4000000) (disch := first | omega | assumption | (simp only [bxS, bxV, stOk, Nat.reduceBEq, Nat.reduceEqDiff, Nat.reduceAdd]; done) | (simp only [bxU]; omega) | ((try apply has_setN); apply has_ofL; simp only [bxL]; omega)) only [↓bxD, bxP, bxQ, bxQ2, Nat.reduceBEq, reduceCtorEq, Nat.reduceAdd, Nat.reduceSub, Nat.reduceMul, Nat.reduceLeDiff, Nat.reduceLT, bxR, g1, c0, c1, c2, nck_p, ixm, Nat.zero_add, hA, m2, ixr, Nat.zero_mul, Nat.add_zero, ev_cut, Option.map_some, Option.map_none, hcut, hone]
  clear hfr
  have x1 : Chg (fun j => j = A) M M1 := by rw [← hM1]; exact (Chg.refl (fun j => j = A) M).set _ (.inl rfl)
  have hA' : M1.get A = some (.cs false 5 (setN [cutLo 6 1 (cutLo 6 m.k m.kv)] (n * 5 + 2) cm)) := by rw [← hM1]; exact set_same _ _
  have n1 : M1.n = M.n := by rw [← hM1]; rfl
  have l1 := x1.lo
  clear hM1
  have hat1 := mk_set (x := cutLo 6 1 (cutLo 6 m.k m.kv)) (o := 2) (m' := m.next) hat hm (by omega) (next_cells kv1) rfl
  have h1 : SvO Mb M1 sv c mid (.sl A 0 ms.length 0) pv (ms.set n m.next) path := h.upd hm rfl hA3 hA4 hA1 x1 hA' hat1 hA2 rfl rfl rfl rfl
  have hmn : (ms.set n m.next)[n]? = some m.next := by rw [List.getElem?_set, if_pos rfl, if_pos hlt]
  have hcn := mk_at hat1 hmn
  have hfk : findK m.kid.1 m.kid.2 (ms.set n m.next) = findK m.kid.1 m.kid.2 ms := findK_ids (ids_set hm rfl rfl)
  have hpm := hms m (List.mem_of_getElem? hm)
  have g2 := h1.g
  have l1' : M1.lo ≤ A := by omega
  simp only [q0, q1, q4] at q0' q1' q4'
  have fin : ∀ (a b : Int) (M2 M3 : MH), Chg (fun j => j = A) M2 M3 → Ext M1 M2 → M3.get A = some (.cs false 5 (setN [.i .i64 (min (max m.dp (b + 1)) 201)] (n * 5 + 1) (setN [.i .i64 (min (m.pl + a) 151)] (n * 5) (setN [cutLo 6 1 (cutLo 6 m.k m.kv)] (n * 5 + 2) cm)))) → Sv Mb M3 sv (ms.set n (m.next.plus a b)) path := fun a b M2 M3 x3 x2 hA3' => by
    have s1 := mk_set (x := .i .i64 (min (m.pl + a) 151)) (o := 0) (k := n * 5) (m' := { m.next with pl := min (m.pl + a) 151 }) hat1 hmn (by omega) rfl (by omega)
    have hlq : n < (ms.set n m.next).length := by rw [List.length_set]; exact hlt
    have s2 := mk_set (x := .i .i64 (min (max m.dp (b + 1)) 201)) (o := 1) (k := n * 5 + 1) (m := { m.next with pl := min (m.pl + a) 151 }) (m' := m.next.plus a b) s1 (by rw [List.getElem?_set, if_pos rfl, if_pos hlq]) (by omega) rfl rfl
    rw [List.set_set] at s2
    have hlen : (MV.sl A 0 ms.length 0) = .sl A 0 (ms.set n m.next).length 0 := by rw [List.length_set]
    have xx : Chg (fun j => j = A) M1 M3 := (Chg.of x2).trans x3
    have := h1.upd hmn hlen hA3 hA4 hA1 xx hA3' s2 (by omega) rfl rfl rfl rfl
    rw [List.set_set] at this
    exact ⟨_, _, _, _, this⟩
  unfold K42_1
  simp (maxSteps := 4000000) (disch := first | omega | assumption | (simp only [bxS, bxV, stOk, Nat.reduceBEq, Nat.reduceEqDiff, Nat.reduceAdd]; done) | (simp only [bxU]; omega) | ((try apply has_setN); apply has_ofL; simp only [bxL]; omega)) only [↓bxD, bxP, bxQ, bxQ2, Nat.reduceBEq, reduceCtorEq, Nat.reduceAdd, Nat.reduceSub, Nat.reduceMul, Nat.reduceLeDiff, Nat.reduceLT, bxR, q0', q1', q4', g2, c0, c1, c2, nck_p, ixm, Nat.zero_add, hA', resL_nil]
  refine bindP_call (kids_in hkid h1.ext (by omega)) ?_
  rintro kv M2 ⟨⟨k1, k2, k3⟩, rfl⟩
  by_cases hl : y.lk = []
  · have d0 : decide ((y.lk.length : Int) = 0) = true := decide_eq_true (by rw [hl]; rfl)
    simp (maxSteps := 4000000) (disch := first | omega | assumption | (simp only [bxS, bxV, stOk, Nat.reduceBEq, Nat.reduceEqDiff, Nat.reduceAdd]; done) | (simp only [bxU]; omega) | ((try apply has_setN); apply has_ofL; simp only [bxL]; omega)) only [↓bxD, bxP, bxQ, bxQ2, Nat.reduceBEq, reduceCtorEq, Nat.reduceAdd, Nat.reduceSub, Nat.reduceMul, Nat.reduceLeDiff, Nat.reduceLT, bxR, q0', q1', q4', g2, c0, c1, c2, nck_p, ixm, Nat.zero_add, hA', resL_nil, k1, k2, len_sl, d0]
    refine Wp_dreg_of (by omega) ?_
    simp (maxSteps := 4000000) (disch := first | omega | assumption | (simp only [bxS, bxV, stOk, Nat.reduceBEq, Nat.reduceEqDiff, Nat.reduceAdd]; done) | (simp only [bxU]; omega) | ((try apply has_setN); apply has_ofL; simp only [bxL]; omega)) only [↓bxD, bxP, bxQ, bxQ2, Nat.reduceBEq, reduceCtorEq, Nat.reduceAdd, Nat.reduceSub, Nat.reduceMul, Nat.reduceLeDiff, Nat.reduceLT, bxR, q0', q1', q4', g2, c0, c1, c2, nck_p, ixm, Nat.zero_add, hA', resL_nil]
    refine bindP_call (sizeOf_any (h1.rd.sub (.lift _)) (NodeAt.sub (.lift _) (hkid.ext h1.ext)) (.inl hl) (Nat.le_refl _)) ?_
    rintro mm M3 ⟨rfl, hx3⟩
    have sx : Sub M2 (M3.down M2.lo) := ((Sub.lift M2).trans hx3.sub).trans (.down _ _)
    have ex := sx.ext rfl
    simp (maxSteps := 4000000) (disch := first | omega | assumption | (simp only [bxS, bxV, stOk, Nat.reduceBEq, Nat.reduceEqDiff, Nat.reduceAdd]; done) | (simp only [bxU]; omega) | ((try apply has_setN); apply has_ofL; simp only [bxL]; omega)) only [↓bxD, bxP, bxQ, bxQ2, Nat.reduceBEq, reduceCtorEq, Nat.reduceAdd, Nat.reduceSub, Nat.reduceMul, Nat.reduceLeDiff, Nat.reduceLT, bxR, q0', q1', q4', g2, c0, c1, c2, nck_p, ixm, Nat.zero_add, hA', resL_nil]
    have bP : 0 ≤ szP y ∧ szP y ≤ 1000 := by unfold szP; omega
    have bD : 0 ≤ szD y ∧ szD y ≤ 1000 := by unfold szD; omega
    have en := ex.n
    have el := ex.lo
    refine bindP_call (size_add (by omega) (by omega) (by omega) ((ex.old A (by omega)).trans hA') (At.left (a := [.i .i64 m.pl, .i .i64 m.dp]) (b := [cutLo 6 (m.k + 1) m.kv, .b m.done, .b false]) hcn) ⟨hpm.1, hpm.2.1⟩ ⟨hpm.2.2.1, hpm.2.2.2⟩ bP bD) ?_
    rintro mm M4 ⟨x4, hA4'⟩
    simp (maxSteps := 4000000) (disch := first | omega | assumption | (simp only [bxS, bxV, stOk, Nat.reduceBEq, Nat.reduceEqDiff, Nat.reduceAdd]; done) | (simp only [bxU]; omega) | ((try apply has_setN); apply has_ofL; simp only [bxL]; omega)) only [↓bxD, bxP, bxQ, bxQ2, Nat.reduceBEq, reduceCtorEq, Nat.reduceAdd, Nat.reduceSub, Nat.reduceMul, Nat.reduceLeDiff, Nat.reduceLT, bxR, q0', q1', q4', g2, c0, c1, c2, nck_p, ixm, Nat.zero_add, hA', resL_nil]
    show Wp fns .ret _ _ _
    simp (maxSteps := 4000000) (disch := first | omega | assumption | (simp only [bxS, bxV, stOk, Nat.reduceBEq, Nat.reduceEqDiff, Nat.reduceAdd]; done) | (simp only [bxU]; omega) | ((try apply has_setN); apply has_ofL; simp only [bxL]; omega)) only [↓bxD, bxP, bxQ, bxQ2, Nat.reduceBEq, reduceCtorEq, Nat.reduceAdd, Nat.reduceSub, Nat.reduceMul, Nat.reduceLeDiff, Nat.reduceLT, bxR, q0', q1', q4', g2, c0, c1, c2, nck_p, ixm, Nat.zero_add, hA', resL_nil]
    exact .inl ⟨hl, fin _ _ _ _ x4 ex hA4'⟩
  · have d0 : decide ((y.lk.length : Int) = 0) = false := decide_eq_false (by have := List.length_pos_iff.2 hl; omega)
    simp (maxSteps := 4000000) (disch := first | omega | assumption | (simp only [bxS, bxV, stOk, Nat.reduceBEq, Nat.reduceEqDiff, Nat.reduceAdd]; done) | (simp only [bxU]; omega) | ((try apply has_setN); apply has_ofL; simp only [bxL]; omega)) only [↓bxD, bxP, bxQ, bxQ2, Nat.reduceBEq, reduceCtorEq, Nat.reduceAdd, Nat.reduceSub, Nat.reduceMul, Nat.reduceLeDiff, Nat.reduceLT, bxR, q0', q1', q4', g2, c0, c1, c2, nck_p, ixm, Nat.zero_add, hA', resL_nil, k1, k2, len_sl, d0]
    have hrd := rdP_ents (id := m.kid.1) (off := m.kid.2) h1.gm (NodeAt.rw (hkid.ext h1.ext)).1 (fun m hm => (NodeAt.rw ((h1.nodes m hm).1.ext h1.ext)).1)
    rw [hfk] at hrd
    cases hf : findK m.kid.1 m.kid.2 ms with
    | none =>
      rw [hf] at hrd
      show Wp fns K42_0 _ _ _
      unfold K42_0
      simp (maxSteps := 4000000) (disch := first | omega | assumption | (simp only [bxS, bxV, stOk, Nat.reduceBEq, Nat.reduceEqDiff, Nat.reduceAdd]; done) | (simp only [bxU]; omega) | ((try apply has_setN); apply has_ofL; simp only [bxL]; omega)) only [↓bxD, bxP, bxQ, bxQ2, Nat.reduceBEq, reduceCtorEq, Nat.reduceAdd, Nat.reduceSub, Nat.reduceMul, Nat.reduceLeDiff, Nat.reduceLT, bxR, q0', q1', q4', g2, c0, c1, c2, nck_p, ixm, Nat.zero_add, hA', resL_nil, ev_rdm, hrd]
      have hsl : (ms.set n m.next).length = ms.length := List.length_set
      refine bindP_call (open_any ⟨_, _, _, _, h1⟩ hlo hkid hl (by rw [hfk]; exact hf) (by omega) hbp) ?_
      rintro mm M4 ⟨kv', hkv, hS⟩
      rw [hsl] at hS
      simp (maxSteps := 4000000) (disch := first | omega | assumption | (simp only [bxS, bxV, stOk, Nat.reduceBEq, Nat.reduceEqDiff, Nat.reduceAdd]; done) | (simp only [bxU]; omega) | ((try apply has_setN); apply has_ofL; simp only [bxL]; omega)) only [↓bxD, bxP, bxQ, bxQ2, Nat.reduceBEq, reduceCtorEq, Nat.reduceAdd, Nat.reduceSub, Nat.reduceMul, Nat.reduceLeDiff, Nat.reduceLT, bxR, q0', q1', q4', g2, c0, c1, c2, nck_p, ixm, Nat.zero_add, hA', resL_nil]
      exact .inr (.inl ⟨hl, hf, kv', hkv, hS⟩)
    | some j =>
      rw [hf] at hrd
      obtain ⟨mj, hmj, _, _⟩ := findK_some hf
      have hdn := hd j mj hl hf hmj
      obtain ⟨mj', hmj', e1, e2, e3⟩ : ∃ mj', (ms.set n m.next)[j]? = some mj' ∧ mj'.pl = mj.pl ∧ mj'.dp = mj.dp ∧ mj'.done = mj.done := by
        rw [List.getElem?_set]
        by_cases e : n = j
        · subst e
          rw [hm] at hmj
          cases hmj
          rw [if_pos rfl, if_pos hlt]
          exact ⟨_, rfl, rfl, rfl, rfl⟩
        · rw [if_neg e]
          exact ⟨mj, hmj, rfl, rfl, rfl⟩
      have hcj := mk_at hat1 hmj'
      have hjl := (List.getElem?_eq_some_iff.1 hmj).1
      have j3 : cget (setN [cutLo 6 1 (cutLo 6 m.k m.kv)] (n * 5 + 2) cm) (j * 5 + 3) = some (.b true) := by rw [← hdn, ← e3]; exact hcj 3 _ rfl
      have j0 : Ev.getN (setN [cutLo 6 1 (cutLo 6 m.k m.kv)] (n * 5 + 2) cm) 2 (j * 5) = some [.i .i64 mj'.pl, .i .i64 mj'.dp] := (At.left (a := [.i .i64 mj'.pl, .i .i64 mj'.dp]) (b := [cutLo 6 mj'.k mj'.kv, .b mj'.done, .b false]) hcj).getN
      show Wp fns K42_0 _ _ _
      unfold K42_0
      simp (maxSteps := 4000000) (disch := first | omega | assumption | (simp only [bxS, bxV, stOk, Nat.reduceBEq, Nat.reduceEqDiff, Nat.reduceAdd]; done) | (simp only [bxU]; omega) | ((try apply has_setN); apply has_ofL; simp only [bxL]; omega)) only [↓bxD, bxP, bxQ, bxQ2, Nat.reduceBEq, reduceCtorEq, Nat.reduceAdd, Nat.reduceSub, Nat.reduceMul, Nat.reduceLeDiff, Nat.reduceLT, bxR, q0', q1', q4', g2, c0, c1, c2, nck_p, ixm, Nat.zero_add, hA', resL_nil, ev_rdm, hrd, j3, j0]
      refine Wp_dreg_of (by omega) ?_
      simp (maxSteps := 4000000) (disch := first | omega | assumption | (simp only [bxS, bxV, stOk, Nat.reduceBEq, Nat.reduceEqDiff, Nat.reduceAdd]; done) | (simp only [bxU]; omega) | ((try apply has_setN); apply has_ofL; simp only [bxL]; omega)) only [↓bxD, bxP, bxQ, bxQ2, Nat.reduceBEq, reduceCtorEq, Nat.reduceAdd, Nat.reduceSub, Nat.reduceMul, Nat.reduceLeDiff, Nat.reduceLT, bxR, q0', q1', q4', g2, c0, c1, c2, nck_p, ixm, Nat.zero_add, hA', resL_nil, j3, j0]
      have bj := hms mj (List.mem_of_getElem? hmj)
      refine bindP_call (size_add (by omega) (by omega) (by omega) hA' (At.left (a := [.i .i64 m.pl, .i .i64 m.dp]) (b := [cutLo 6 (m.k + 1) m.kv, .b m.done, .b false]) hcn) ⟨hpm.1, hpm.2.1⟩ ⟨hpm.2.2.1, hpm.2.2.2⟩ (by rw [e1]; exact ⟨bj.1, bj.2.1⟩) (by rw [e2]; exact ⟨bj.2.2.1, bj.2.2.2⟩)) ?_
      rintro mm M4 ⟨x4, hA4'⟩
      simp (maxSteps := 4000000) (disch := first | omega | assumption | (simp only [bxS, bxV, stOk, Nat.reduceBEq, Nat.reduceEqDiff, Nat.reduceAdd]; done) | (simp only [bxU]; omega) | ((try apply has_setN); apply has_ofL; simp only [bxL]; omega)) only [↓bxD, bxP, bxQ, bxQ2, Nat.reduceBEq, reduceCtorEq, Nat.reduceAdd, Nat.reduceSub, Nat.reduceMul, Nat.reduceLeDiff, Nat.reduceLT, bxR, q0', q1', q4', g2, c0, c1, c2, nck_p, ixm, Nat.zero_add, hA', resL_nil]
      rw [e1, e2] at hA4'
      exact .inr (.inr ⟨hl, j, mj, hf, hmj, fin _ _ _ _ x4 (.refl _) hA4'⟩)
def place (m : Mk) (k : Nat) : Nat × Nat := (sid m.kv, soff m.kv + k * 6)
def acc (m : Mk) (k : Nat) : Prop := m.pl = ((min 151 (cntL (m.x.lk.take k)) : Nat) : Int) ∧ m.dp = ((if k = 0 then 0 else min 201 (deepL (m.x.lk.take k) + 1) : Nat) : Int)
theorem acc_plus {m : Mk} {k : Nat} {y : Rx} (h : acc m k) (hy : m.x.lk[k]? = some y) (k' : Nat) : acc ({ m with k := k' }.plus (szP y) (szD y)) (k + 1) := by
  obtain ⟨h1, h2⟩ := h
  have ht : m.x.lk.take (k + 1) = m.x.lk.take k ++ [y] := by rw [List.take_add_one, hy]; rfl
  refine ⟨?_, ?_⟩
  · show min (m.pl + szP y) 151 = _
    rw [show ({ m with k := k' } : Mk).plus (szP y) (szD y) = { m with k := k', pl := min (m.pl + szP y) 151, dp := min (max m.dp (szD y + 1)) 201 } from rfl]
    simp only
    rw [ht, cntL_app, h1]
    unfold szP
    simp only [cntL]
    omega
  · show min (max m.dp (szD y + 1)) 201 = _
    rw [show ({ m with k := k' } : Mk).plus (szP y) (szD y) = { m with k := k', pl := min (m.pl + szP y) 151, dp := min (max m.dp (szD y + 1)) 201 } from rfl]
    simp only
    rw [ht, deepL_app, h2, if_neg (Nat.succ_ne_zero k)]
    unfold szD
    simp only [deepL]
    split
    · rename_i e
      subst e
      simp only [List.take_zero, deepL]
      omega
    · omega
theorem acc_done {m : Mk} (h : acc m m.x.lk.length) (hl : m.x.lk ≠ []) : m.pl = szP m.x ∧ m.dp = szD m.x := by
  obtain ⟨h1, h2⟩ := h
  rw [List.take_length] at h1 h2
  have : m.x.lk.length ≠ 0 := fun e => hl (List.length_eq_zero_iff.1 e)
  rw [if_neg this] at h2
  unfold szP szD
  rw [cnt_lk hl, deep_lk]
  exact ⟨h1, h2⟩
def Below (ms : List Mk) : Nat → List Nat → Prop
  | _, [] => True
  | n, q :: r => ∃ m m', ms[n]? = some m ∧ ms[q]? = some m' ∧ ∃ k, m'.k = k + 1 ∧ m'.x.lk[k]? = some m.x ∧ (m.id, m.off) = place m' k ∧ acc m' k ∧ Below ms q r
def Same (a b : Mk) : Prop := a.id = b.id ∧ a.off = b.off ∧ a.x = b.x ∧ a.kv = b.kv
theorem Below.mono {ms ms' : List Mk} : ∀ {r : List Nat} {n : Nat}, Below ms n r → (∀ m, ms[n]? = some m → ∃ m', ms'[n]? = some m' ∧ Same m' m) → (∀ q ∈ r, ∀ m, ms[q]? = some m → ms'[q]? = some m) → Below ms' n r
  | [], n, h, _, _ => trivial
  | q :: r, n, h, hn, hr => by
    obtain ⟨m, m', h1, h2, k, h3, h4, h5, h6, h7⟩ := h
    obtain ⟨m2, e1, e2⟩ := hn m h1
    refine ⟨m2, m', e1, hr q List.mem_cons_self m' h2, k, h3, by rw [e2.2.2.1]; exact h4, by rw [e2.1, e2.2.1]; exact h5, h6, h7.mono (fun x hx => ⟨x, hr q List.mem_cons_self x hx, rfl, rfl, rfl, rfl⟩) fun z hz => hr z (List.mem_cons_of_mem _ hz)⟩
theorem lk_wei {x y : Rx} {k : Nat} (h : x.lk[k]? = some y) : wei y < wei x := by
  have := wei_mem h
  have := wei_lk x
  omega
theorem Below.wei {ms : List Mk} : ∀ {r : List Nat} {n : Nat} {m : Mk}, Below ms n r → ms[n]? = some m → ∀ q ∈ r, ∃ mq, ms[q]? = some mq ∧ wei m.x < wei mq.x
  | [], n, m, h, _, q, hq => by cases hq
  | p :: r, n, m, h, hm, q, hq => by
    obtain ⟨m1, m', h1, h2, k, h3, h4, h5, h6, h7⟩ := h
    rw [hm] at h1
    cases h1
    have hw := lk_wei h4
    rcases List.mem_cons.1 hq with rfl | hq
    · exact ⟨m', h2, hw⟩
    · obtain ⟨mq, e1, e2⟩ := Below.wei h7 h2 q hq
      exact ⟨mq, e1, by omega⟩
structure SInv (ms : List Mk) (rp : List Nat) : Prop where
  bnd : ∀ m ∈ ms, 0 ≤ m.pl ∧ m.pl ≤ 1000 ∧ 0 ≤ m.dp ∧ m.dp ≤ 1000
  kle : ∀ m ∈ ms, m.k ≤ m.x.lk.length ∧ m.x.lk ≠ []
  pw : rp.Pairwise (· > ·)
  lt : ∀ q ∈ rp, q < ms.length
  und : ∀ n m, ms[n]? = some m → m.done = false → n ∈ rp
  pnd : ∀ n ∈ rp, ∀ m, ms[n]? = some m → m.done = false
  dn : ∀ m ∈ ms, m.done = true → m.k = m.x.lk.length ∧ m.pl = szP m.x ∧ m.dp = szD m.x
  top : ∀ n r, rp = n :: r → (∃ m, ms[n]? = some m ∧ acc m m.k) ∧ Below ms n r
  reg : ∀ m ∈ ms, ∀ k y, k < m.k → m.x.lk[k]? = some y → y.lk = [] ∨ ∃ j mj, findK (place m k).1 (place m k).2 ms = some j ∧ ms[j]? = some mj ∧ mj.x = y
def rem1 (ms : List Mk) (n : Nat) : Nat := match ms[n]? with
  | some m => 1 + weiL (m.x.lk.drop m.k)
  | none => 0
def mz (ms : List Mk) (rp : List Nat) : Nat := (rp.map (rem1 ms)).sum
theorem mz_same {ms ms' : List Mk} {r : List Nat} (h : ∀ q ∈ r, rem1 ms' q = rem1 ms q) : mz ms' r = mz ms r := by
  unfold mz
  rw [List.map_congr_left h]
theorem mz_cons (ms : List Mk) (n : Nat) (r : List Nat) : mz ms (n :: r) = rem1 ms n + mz ms r := rfl
theorem pl_bnd (m : Mk) {a b : Int} (h : 0 ≤ m.pl ∧ m.pl ≤ 1000 ∧ 0 ≤ m.dp ∧ m.dp ≤ 1000) (ha : 0 ≤ a) (hb : 0 ≤ b) : 0 ≤ (m.plus a b).pl ∧ (m.plus a b).pl ≤ 1000 ∧ 0 ≤ (m.plus a b).dp ∧ (m.plus a b).dp ≤ 1000 := by
  show 0 ≤ min (m.pl + a) 151 ∧ min (m.pl + a) 151 ≤ 1000 ∧ 0 ≤ min (max m.dp (b + 1)) 201 ∧ min (max m.dp (b + 1)) 201 ≤ 1000
  omega
theorem szP_nn (x : Rx) : 0 ≤ szP x := by unfold szP; omega
theorem szD_nn (x : Rx) : 0 ≤ szD x := by unfold szD; omega
theorem set_cases {ms : List Mk} {n i : Nat} {a m : Mk} (h : (ms.set n a)[i]? = some m) : (i = n ∧ m = a ∧ n < ms.length) ∨ (i ≠ n ∧ ms[i]? = some m) := by
  rw [List.getElem?_set] at h
  by_cases e : n = i
  · rw [if_pos e] at h
    split at h
    · cases h; exact .inl ⟨e.symm, rfl, by omega⟩
    · cases h
  · rw [if_neg e] at h
    exact .inr ⟨fun x => e x.symm, h⟩
theorem set_self {ms : List Mk} {n : Nat} {a m : Mk} (h : ms[n]? = some m) : (ms.set n a)[n]? = some a := by
  rw [List.getElem?_set, if_pos rfl, if_pos (List.getElem?_eq_some_iff.1 h).1]
theorem set_other {ms : List Mk} {n i : Nat} {a : Mk} (h : i ≠ n) : (ms.set n a)[i]? = ms[i]? := by
  rw [List.getElem?_set, if_neg (fun e => h e.symm)]
theorem reg_set {ms : List Mk} {n : Nat} {a m : Mk} (hm : ms[n]? = some m) (hs : Same a m) {id off : Nat} {y : Rx} (h : ∃ j mj, findK id off ms = some j ∧ ms[j]? = some mj ∧ mj.x = y) : ∃ j mj, findK id off (ms.set n a) = some j ∧ (ms.set n a)[j]? = some mj ∧ mj.x = y := by
  obtain ⟨j, mj, h1, h2, h3⟩ := h
  rw [← findK_ids (ids_set hm hs.1 hs.2.1)] at h1
  by_cases e : j = n
  · subst e
    rw [hm] at h2
    cases h2
    exact ⟨j, a, h1, set_self hm, by rw [hs.2.2.1]; exact h3⟩
  · exact ⟨j, mj, h1, by rw [set_other e]; exact h2, h3⟩
theorem plus_same (m : Mk) (a b : Int) : Same (m.next.plus a b) m := ⟨rfl, rfl, rfl, rfl⟩
theorem mem_set' {ms : List Mk} {n : Nat} {a x : Mk} (h : x ∈ ms.set n a) : x ∈ ms ∨ x = a := List.mem_or_eq_of_mem_set h
theorem rem_set {ms : List Mk} {n q : Nat} {a : Mk} (h : q ≠ n) : rem1 (ms.set n a) q = rem1 ms q := by unfold rem1; rw [set_other h]
theorem nodup_tail {n : Nat} {r : List Nat} (h : (n :: r).Pairwise (· > ·)) : ∀ q ∈ r, q ≠ n := fun q hq => by
  have := (List.pairwise_cons.1 h).1 q hq
  omega
theorem step_add {ms : List Mk} {n : Nat} {r : List Nat} {m : Mk} {y : Rx} (h : SInv ms (n :: r)) (hm : ms[n]? = some m) (hy : m.x.lk[m.k]? = some y) (hreg : y.lk = [] ∨ ∃ j mj, findK m.kid.1 m.kid.2 ms = some j ∧ ms[j]? = some mj ∧ mj.x = y) :
    SInv (ms.set n (m.next.plus (szP y) (szD y))) (n :: r) ∧ mz (ms.set n (m.next.plus (szP y) (szD y))) (n :: r) < mz ms (n :: r) := by
  have hmm := List.mem_of_getElem? hm
  have hnd := h.pnd n List.mem_cons_self m hm
  have hkl := (List.getElem?_eq_some_iff.1 hy).1
  obtain ⟨⟨m0, e0, hacc⟩, hbel⟩ := h.top n r rfl
  rw [hm] at e0
  cases e0
  have hne := nodup_tail h.pw
  refine ⟨⟨?_, ?_, h.pw, ?_, ?_, ?_, ?_, ?_, ?_⟩, ?_⟩
  · intro x hx
    rcases mem_set' hx with hx | rfl
    · exact h.bnd x hx
    · exact pl_bnd m.next (h.bnd m hmm) (szP_nn y) (szD_nn y)
  · intro x hx
    rcases mem_set' hx with hx | rfl
    · exact h.kle x hx
    · exact ⟨hkl, (h.kle m hmm).2⟩
  · intro q hq
    rw [List.length_set]
    exact h.lt q hq
  · intro i x hi hx
    rcases set_cases hi with ⟨rfl, _, _⟩ | ⟨_, hi⟩
    · exact List.mem_cons_self
    · exact h.und i x hi hx
  · intro q hq x hx
    rcases set_cases hx with ⟨_, rfl, _⟩ | ⟨_, hx⟩
    · exact hnd
    · exact h.pnd q hq x hx
  · intro x hx hd
    rcases mem_set' hx with hx | rfl
    · exact h.dn x hx hd
    · have : m.done = true := hd
      rw [hnd] at this; cases this
  · intro n' r' e
    cases e
    refine ⟨⟨_, set_self hm, acc_plus (m := m) hacc hy (m.k + 1)⟩, hbel.mono (fun x hx => ?_) fun q hq x hx => ?_⟩
    · rw [hm] at hx
      cases hx
      exact ⟨_, set_self hm, plus_same m _ _⟩
    · rw [set_other (hne q hq)]; exact hx
  · intro x hx k z hk hz
    rcases mem_set' hx with hx | rfl
    · rcases h.reg x hx k z hk hz with e | e
      · exact .inl e
      · exact .inr (reg_set hm (plus_same m _ _) e)
    · have hk : k < m.k + 1 := hk
      have hz : m.x.lk[k]? = some z := hz
      by_cases e : k = m.k
      · subst e
        rw [hy] at hz
        cases hz
        rcases hreg with e | e
        · exact .inl e
        · exact .inr (reg_set hm (plus_same m _ _) e)
      · rcases h.reg m hmm k z (by omega) hz with e | e
        · exact .inl e
        · exact .inr (reg_set hm (plus_same m _ _) e)
  · rw [mz_cons, mz_cons, mz_same (ms := ms) fun q hq => rem_set (hne q hq)]
    have e1 : rem1 (ms.set n (m.next.plus (szP y) (szD y))) n = 1 + weiL (m.x.lk.drop (m.k + 1)) := by unfold rem1; rw [set_self hm]; rfl
    have e2 : rem1 ms n = 1 + weiL (m.x.lk.drop m.k) := by unfold rem1; rw [hm]
    rw [e1, e2, weiL_drop hy]
    obtain ⟨op, a, b, c, d, kk⟩ := y
    unfold wei
    omega
theorem findK_app {id off : Nat} : ∀ {l : List Mk} {a : Mk} {j : Nat}, findK id off l = some j → findK id off (l ++ [a]) = some j
  | [], a, j, h => by cases h
  | b :: l, a, j, h => by
    rw [List.cons_append]
    unfold findK at h ⊢
    split
    · rename_i e
      rw [if_pos e] at h
      exact h
    · rename_i e
      rw [if_neg e] at h
      cases hf : findK id off l with
      | none => rw [hf] at h; cases h
      | some k => rw [hf] at h; rw [findK_app hf]; exact h
theorem findK_new {id off : Nat} : ∀ {l : List Mk} {a : Mk}, findK id off l = none → a.id = id → a.off = off → findK id off (l ++ [a]) = some l.length
  | [], a, h, h1, h2 => by rw [List.nil_append]; unfold findK; rw [if_pos ⟨h1, h2⟩]; rfl
  | b :: l, a, h, h1, h2 => by
    rw [List.cons_append]
    unfold findK at h ⊢
    split at h
    · cases h
    · rename_i e
      rw [if_neg e]
      cases hf : findK id off l with
      | some k => rw [hf] at h; cases h
      | none => rw [findK_new hf h1 h2]; rfl
theorem next_same (m : Mk) : Same m.next m := ⟨rfl, rfl, rfl, rfl⟩
theorem app_cases {ms : List Mk} {i : Nat} {a m : Mk} (h : (ms ++ [a])[i]? = some m) : (i = ms.length ∧ m = a) ∨ ms[i]? = some m := by
  rw [List.getElem?_append] at h
  split at h
  · exact .inr h
  · rename_i hlt
    have hi : i - ms.length = 0 := by
      have := (List.getElem?_eq_some_iff.1 h).1
      simp at this; omega
    rw [hi] at h
    cases h
    exact .inl ⟨by omega, rfl⟩
theorem app_old {ms : List Mk} {i : Nat} {a m : Mk} (h : ms[i]? = some m) : (ms ++ [a])[i]? = some m := by
  rw [List.getElem?_append_left (List.getElem?_eq_some_iff.1 h).1]; exact h
theorem step_open {ms : List Mk} {n : Nat} {r : List Nat} {m : Mk} {y : Rx} {kv : MV} (h : SInv ms (n :: r)) (hm : ms[n]? = some m) (hy : m.x.lk[m.k]? = some y) (hl : y.lk ≠ []) (hf : findK m.kid.1 m.kid.2 ms = none) :
    SInv (ms.set n m.next ++ [⟨m.kid.1, m.kid.2, y, kv, 0, false, 0, 0⟩]) (ms.length :: n :: r) ∧ mz (ms.set n m.next ++ [⟨m.kid.1, m.kid.2, y, kv, 0, false, 0, 0⟩]) (ms.length :: n :: r) < mz ms (n :: r) := by
  have hmm := List.mem_of_getElem? hm
  have hnd := h.pnd n List.mem_cons_self m hm
  have hkl := (List.getElem?_eq_some_iff.1 hy).1
  obtain ⟨⟨m0, e0, hacc⟩, hbel⟩ := h.top n r rfl
  rw [hm] at e0
  cases e0
  have hne := nodup_tail h.pw
  have hsl : (ms.set n m.next).length = ms.length := List.length_set
  generalize hA : (⟨m.kid.1, m.kid.2, y, kv, 0, false, 0, 0⟩ : Mk) = a
  have ha1 : a.id = m.kid.1 := by rw [← hA]
  have ha2 : a.off = m.kid.2 := by rw [← hA]
  have ha3 : a.x = y := by rw [← hA]
  have ha4 : a.k = 0 := by rw [← hA]
  have ha5 : a.done = false := by rw [← hA]
  have ha6 : a.pl = 0 := by rw [← hA]
  have ha7 : a.dp = 0 := by rw [← hA]
  clear hA
  have hnew : (ms.set n m.next ++ [a])[ms.length]? = some a := by rw [List.getElem?_append_right (by omega), hsl, Nat.sub_self]; rfl
  have hfn : findK m.kid.1 m.kid.2 (ms.set n m.next) = none := (findK_ids (ids_set (m' := m.next) hm rfl rfl)).trans hf
  have hnn : (ms.set n m.next ++ [a])[n]? = some m.next := app_old (set_self hm)
  have oth : ∀ q, q ≠ n → ∀ x, ms[q]? = some x → (ms.set n m.next ++ [a])[q]? = some x := fun q hq x hx => app_old (by rw [set_other hq]; exact hx)
  have mem : ∀ x ∈ ms.set n m.next ++ [a], x ∈ ms ∨ x = m.next ∨ x = a := fun x hx => by
    rcases List.mem_append.1 hx with hx | hx
    · rcases mem_set' hx with hx | hx
      · exact .inl hx
      · exact .inr (.inl hx)
    · simp only [List.mem_cons, List.not_mem_nil, or_false] at hx
      exact .inr (.inr hx)
  have rg : ∀ {id off : Nat} {z : Rx}, (∃ j mj, findK id off ms = some j ∧ ms[j]? = some mj ∧ mj.x = z) → ∃ j mj, findK id off (ms.set n m.next ++ [a]) = some j ∧ (ms.set n m.next ++ [a])[j]? = some mj ∧ mj.x = z := fun e => by
    obtain ⟨j, mj, h1, h2, h3⟩ := reg_set hm (next_same m) e
    exact ⟨j, mj, findK_app h1, app_old h2, h3⟩
  have hltn := h.lt n List.mem_cons_self
  refine ⟨⟨?_, ?_, ?_, ?_, ?_, ?_, ?_, ?_, ?_⟩, ?_⟩
  · intro x hx
    rcases mem x hx with hx | rfl | rfl
    · exact h.bnd x hx
    · exact h.bnd m hmm
    · omega
  · intro x hx
    rcases mem x hx with hx | rfl | rfl
    · exact h.kle x hx
    · exact ⟨hkl, (h.kle m hmm).2⟩
    · exact ⟨by omega, by rw [ha3]; exact hl⟩
  · refine List.pairwise_cons.2 ⟨fun q hq => h.lt q hq, h.pw⟩
  · intro q hq
    rw [List.length_append, hsl]
    rcases List.mem_cons.1 hq with rfl | hq
    · simp
    · have := h.lt q hq; omega
  · intro i x hi hx
    rcases app_cases hi with ⟨rfl, _⟩ | hi
    · rw [hsl]; exact List.mem_cons_self
    · rcases set_cases hi with ⟨rfl, _, _⟩ | ⟨_, hi⟩
      · exact List.mem_cons_of_mem _ List.mem_cons_self
      · exact List.mem_cons_of_mem _ (h.und i x hi hx)
  · intro q hq x hx
    rcases app_cases hx with ⟨_, rfl⟩ | hx
    · exact ha5
    · rcases set_cases hx with ⟨_, rfl, _⟩ | ⟨_, hx⟩
      · exact hnd
      · rcases List.mem_cons.1 hq with rfl | hq
        · have := (List.getElem?_eq_some_iff.1 hx).1; omega
        · exact h.pnd q hq x hx
  · intro x hx hd
    rcases mem x hx with hx | rfl | rfl
    · exact h.dn x hx hd
    · have : m.done = true := hd
      rw [hnd] at this; cases this
    · rw [ha5] at hd; cases hd
  · intro n' r' e
    cases e
    refine ⟨⟨a, hnew, ?_⟩, a, m.next, hnew, hnn, m.k, rfl, by rw [ha3]; exact hy, by rw [ha1, ha2]; rfl, hacc, hbel.mono (fun x hx => ?_) fun q hq x hx => oth q (hne q hq) x hx⟩
    · unfold acc
      rw [ha4, ha6, ha7]
      exact ⟨by simp [cntL], rfl⟩
    · rw [hm] at hx
      cases hx
      exact ⟨_, hnn, next_same m⟩
  · intro x hx k z hk hz
    rcases mem x hx with hx | rfl | rfl
    · rcases h.reg x hx k z hk hz with e | e
      · exact .inl e
      · exact .inr (rg e)
    · have hk : k < m.k + 1 := hk
      have hz : m.x.lk[k]? = some z := hz
      by_cases e : k = m.k
      · subst e
        rw [hy] at hz
        cases hz
        exact .inr ⟨ms.length, a, by have := findK_new (a := a) hfn ha1 ha2; rw [hsl] at this; exact this, hnew, ha3⟩
      · rcases h.reg m hmm k z (by omega) hz with e | e
        · exact .inl e
        · exact .inr (rg e)
    · omega
  · rw [mz_cons, mz_cons, mz_cons]
    have hrest : mz (ms.set n m.next ++ [a]) r = mz ms r := mz_same fun q hq => by
      unfold rem1
      obtain ⟨x, hx⟩ : ∃ x, ms[q]? = some x := ⟨_, List.getElem?_eq_getElem (h.lt q (List.mem_cons_of_mem _ hq))⟩
      rw [oth q (hne q hq) x hx, hx]
    have e0 : rem1 (ms.set n m.next ++ [a]) ms.length = 1 + weiL y.lk := by unfold rem1; rw [hnew]; simp only; rw [ha3, ha4, List.drop_zero]
    have e1 : rem1 (ms.set n m.next ++ [a]) n = 1 + weiL (m.x.lk.drop (m.k + 1)) := by unfold rem1; rw [hnn]; rfl
    have e2 : rem1 ms n = 1 + weiL (m.x.lk.drop m.k) := by unfold rem1; rw [hm]
    rw [hrest, e0, e1, e2, weiL_drop hy]
    have := wei_lk y
    omega
theorem step_close {ms : List Mk} {n : Nat} {r : List Nat} {m : Mk} (h : SInv ms (n :: r)) (hm : ms[n]? = some m) (hk : m.k = m.x.lk.length) :
    SInv (closeP ms r.reverse n m) r ∧ mz (closeP ms r.reverse n m) r < mz ms (n :: r) ∧ (closeP ms r.reverse n m).length = ms.length := by
  have hmm := List.mem_of_getElem? hm
  have hnd := h.pnd n List.mem_cons_self m hm
  obtain ⟨⟨m0, e0, hacc⟩, hbel⟩ := h.top n r rfl
  rw [hm] at e0
  cases e0
  have hne := nodup_tail h.pw
  rw [hk] at hacc
  have hfin := acc_done hacc (h.kle m hmm).2
  have hsame : Same { m with done := true } m := ⟨rfl, rfl, rfl, rfl⟩
  have e1 : rem1 ms n = 1 := by unfold rem1; rw [hm]; simp only; rw [hk, List.drop_length]; rfl
  cases r with
  | nil =>
    rw [show closeP ms [].reverse n m = ms.set n { m with done := true } from rfl]
    refine ⟨⟨?_, ?_, List.Pairwise.nil, fun q hq => (by cases hq), ?_, fun q hq => (by cases hq), ?_, fun n' r' e => (by cases e), ?_⟩, ?_, List.length_set⟩
    · intro x hx
      rcases mem_set' hx with hx | rfl
      · exact h.bnd x hx
      · exact h.bnd m hmm
    · intro x hx
      rcases mem_set' hx with hx | rfl
      · exact h.kle x hx
      · exact h.kle m hmm
    · intro i x hi hx
      rcases set_cases hi with ⟨rfl, rfl, _⟩ | ⟨hin, hi⟩
      · cases hx
      · have := h.und i x hi hx
        simp only [List.mem_cons, List.not_mem_nil, or_false] at this
        exact (hin this).elim
    · intro x hx hd
      rcases mem_set' hx with hx | rfl
      · exact h.dn x hx hd
      · exact ⟨hk, hfin⟩
    · intro x hx k z hk' hz
      rcases mem_set' hx with hx | rfl
      · rcases h.reg x hx k z hk' hz with e | e
        · exact .inl e
        · exact .inr (reg_set hm hsame e)
      · rcases h.reg m hmm k z hk' hz with e | e
        · exact .inl e
        · exact .inr (reg_set hm hsame e)
    · rw [mz_cons, e1]
      unfold mz
      simp
  | cons q r =>
    obtain ⟨m1, mq, b1, b2, k, b3, b4, b5, b6, b7⟩ := hbel
    rw [hm] at b1
    cases b1
    have hqn : q ≠ n := hne q List.mem_cons_self
    have hqr := nodup_tail (List.pairwise_cons.1 h.pw).2
    have hcl : closeP ms (q :: r).reverse n m = (ms.set n { m with done := true }).set q (mq.plus m.pl m.dp) := by
      unfold closeP
      rw [List.reverse_cons, List.getLast?_concat]
      simp only [b2]
    rw [show mq.plus m.pl m.dp = mq.plus (szP m.x) (szD m.x) from by rw [hfin.1, hfin.2]] at hcl
    rw [hcl]
    have hq1 : (ms.set n { m with done := true })[q]? = some mq := by rw [set_other hqn]; exact b2
    have hqs : Same (mq.plus (szP m.x) (szD m.x)) mq := ⟨rfl, rfl, rfl, rfl⟩
    have hmq := List.mem_of_getElem? b2
    have hqd := h.pnd q (List.mem_cons_of_mem _ List.mem_cons_self) mq b2
    have mem : ∀ x ∈ (ms.set n { m with done := true }).set q (mq.plus (szP m.x) (szD m.x)), x ∈ ms ∨ x = { m with done := true } ∨ x = mq.plus (szP m.x) (szD m.x) := fun x hx => by
      rcases mem_set' hx with hx | hx
      · rcases mem_set' hx with hx | hx
        · exact .inl hx
        · exact .inr (.inl hx)
      · exact .inr (.inr hx)
    have oth : ∀ i, i ≠ n → i ≠ q → ((ms.set n { m with done := true }).set q (mq.plus (szP m.x) (szD m.x)))[i]? = ms[i]? := fun i h1 h2 => by rw [set_other h2, set_other h1]
    have rg : ∀ {id off : Nat} {z : Rx}, (∃ j mj, findK id off ms = some j ∧ ms[j]? = some mj ∧ mj.x = z) → ∃ j mj, findK id off ((ms.set n { m with done := true }).set q (mq.plus (szP m.x) (szD m.x))) = some j ∧ ((ms.set n { m with done := true }).set q (mq.plus (szP m.x) (szD m.x)))[j]? = some mj ∧ mj.x = z := fun e => reg_set hq1 hqs (reg_set hm hsame e)
    refine ⟨⟨?_, ?_, (List.pairwise_cons.1 h.pw).2, ?_, ?_, ?_, ?_, ?_, ?_⟩, ?_, by rw [List.length_set, List.length_set]⟩
    · intro x hx
      rcases mem x hx with hx | rfl | rfl
      · exact h.bnd x hx
      · exact h.bnd m hmm
      · exact pl_bnd mq (h.bnd mq hmq) (szP_nn _) (szD_nn _)
    · intro x hx
      rcases mem x hx with hx | rfl | rfl
      · exact h.kle x hx
      · exact h.kle m hmm
      · exact h.kle mq hmq
    · intro i hi
      rw [List.length_set, List.length_set]
      exact h.lt i (List.mem_cons_of_mem _ hi)
    · intro i x hi hx
      rcases set_cases hi with ⟨rfl, _, _⟩ | ⟨h1, hi⟩
      · exact List.mem_cons_self
      · rcases set_cases hi with ⟨rfl, rfl, _⟩ | ⟨h2, hi⟩
        · cases hx
        · rcases List.mem_cons.1 (h.und i x hi hx) with e | e
          · exact (h2 e).elim
          · exact e
    · intro i hi x hx
      rcases set_cases hx with ⟨_, rfl, _⟩ | ⟨h1, hx⟩
      · exact hqd
      · rw [set_other (hne i hi)] at hx
        exact h.pnd i (List.mem_cons_of_mem _ hi) x hx
    · intro x hx hd
      rcases mem x hx with hx | rfl | rfl
      · exact h.dn x hx hd
      · exact ⟨hk, hfin⟩
      · have : mq.done = true := hd
        rw [hqd] at this; cases this
    · intro n' r' e
      cases e
      refine ⟨⟨_, set_self hq1, ?_⟩, b7.mono (fun x hx => ?_) fun i hi x hx => ?_⟩
      · show acc (mq.plus (szP m.x) (szD m.x)) mq.k
        rw [b3]
        exact acc_plus (m := mq) b6 b4 mq.k
      · rw [b2] at hx
        cases hx
        exact ⟨_, set_self hq1, hqs⟩
      · rw [oth i (hne i (List.mem_cons_of_mem _ hi)) (hqr i hi)]; exact hx
    · intro x hx k' z hk' hz
      rcases mem x hx with hx | rfl | rfl
      · rcases h.reg x hx k' z hk' hz with e | e
        · exact .inl e
        · exact .inr (rg e)
      · rcases h.reg m hmm k' z hk' hz with e | e
        · exact .inl e
        · exact .inr (rg e)
      · rcases h.reg mq hmq k' z hk' hz with e | e
        · exact .inl e
        · exact .inr (rg e)
    · rw [show mz ms (n :: q :: r) = rem1 ms n + mz ms (q :: r) from rfl, e1]
      have : mz ((ms.set n { m with done := true }).set q (mq.plus (szP m.x) (szD m.x))) (q :: r) = mz ms (q :: r) := by
        refine mz_same fun i hi => ?_
        by_cases e : i = q
        · subst e
          unfold rem1
          rw [set_self hq1, b2]
          rfl
        · unfold rem1
          rw [oth i (hne i hi) e]
      omega
def RunPost (Mb M' : MH) (sv : Nat) (x : Rx) (id off : Nat) : Prop := ∃ ms, Sv Mb M' sv ms [] ∧ SInv ms [] ∧ (x.lk = [] ∨ ∃ j mj, findK id off ms = some j ∧ ms[j]? = some mj ∧ mj.x = x)
theorem sinv_nil : SInv [] [] := ⟨fun m h => (by cases h), fun m h => (by cases h), List.Pairwise.nil, fun q h => (by cases h), fun n m h => (by simp at h), fun q h => (by cases h), fun m h => (by cases h), fun n r e => (by cases e), fun m h => (by cases h)⟩
theorem sinv_one {a : Mk} (h1 : a.x.lk ≠ []) (h2 : a.k = 0) (h3 : a.done = false) (h4 : a.pl = 0) (h5 : a.dp = 0) : SInv [a] [0] := by
  refine ⟨?_, ?_, List.pairwise_singleton _ _, ?_, ?_, ?_, ?_, ?_, ?_⟩
  · intro m hm
    simp only [List.mem_cons, List.not_mem_nil, or_false] at hm
    subst hm; omega
  · intro m hm
    simp only [List.mem_cons, List.not_mem_nil, or_false] at hm
    subst hm; exact ⟨by omega, h1⟩
  · intro q hq
    simp only [List.mem_cons, List.not_mem_nil, or_false] at hq
    subst hq; simp
  · intro n m hn _
    have := (List.getElem?_eq_some_iff.1 hn).1
    simp at this; subst this; simp
  · intro q hq m hm
    simp only [List.mem_cons, List.not_mem_nil, or_false] at hq
    subst hq
    cases hm; exact h3
  · intro m hm hd
    simp only [List.mem_cons, List.not_mem_nil, or_false] at hm
    subst hm
    rw [h3] at hd; cases hd
  · intro n r e
    cases e
    refine ⟨⟨a, rfl, ?_⟩, trivial⟩
    unfold acc
    rw [h2, h4, h5]
    exact ⟨by simp [cntL], rfl⟩
  · intro m hm k y hk
    simp only [List.mem_cons, List.not_mem_nil, or_false] at hm
    subst hm; omega
theorem mz_path {ms : List Mk} : ∀ {rp : List Nat}, (∀ q ∈ rp, q < ms.length) → rp.length ≤ mz ms rp
  | [], _ => Nat.le_refl _
  | q :: r, h => by
    have := mz_path (ms := ms) (rp := r) fun z hz => h z (List.mem_cons_of_mem _ hz)
    rw [mz_cons, List.length_cons]
    obtain ⟨m, hm⟩ : ∃ m, ms[q]? = some m := ⟨_, List.getElem?_eq_getElem (h q List.mem_cons_self)⟩
    have e : rem1 ms q = 1 + weiL (m.x.lk.drop m.k) := by unfold rem1; rw [hm]
    omega
theorem closeP_ids {ms : List Mk} {p : List Nat} {n : Nat} {m : Mk} (hm : ms[n]? = some m) : (closeP ms p n m).map (fun m => (m.id, m.off, m.x)) = ms.map (fun m => (m.id, m.off, m.x)) := by
  have one : ∀ {l : List Mk} {i : Nat} {a b : Mk}, l[i]? = some b → Same a b → (l.set i a).map (fun m => (m.id, m.off, m.x)) = l.map (fun m => (m.id, m.off, m.x)) := fun {l i a b} hb hs => by
    refine List.ext_getElem? fun j => ?_
    rw [List.getElem?_map, List.getElem?_map]
    by_cases e : j = i
    · subst e
      rw [set_self hb, hb]
      show some (a.id, a.off, a.x) = some (b.id, b.off, b.x)
      rw [hs.1, hs.2.1, hs.2.2.1]
    · rw [set_other e]
  have h1 := one hm (a := { m with done := true }) ⟨rfl, rfl, rfl, rfl⟩
  unfold closeP
  split
  · exact h1
  · rename_i q hq
    split
    · rename_i mq hmq
      by_cases e : q = n
      · subst e
        rw [hm] at hmq
        cases hmq
        rw [List.set_set]
        exact one (a := m.plus m.pl m.dp) hm ⟨rfl, rfl, rfl, rfl⟩
      · exact (one (a := mq.plus m.pl m.dp) (b := mq) (by rw [set_other e]; exact hmq) ⟨rfl, rfl, rfl, rfl⟩).trans h1
    · exact h1
theorem reg_ids {ms ms' : List Mk} (h : ms'.map (fun m => (m.id, m.off, m.x)) = ms.map (fun m => (m.id, m.off, m.x))) {id off : Nat} {y : Rx} (k : ∃ j mj, findK id off ms = some j ∧ ms[j]? = some mj ∧ mj.x = y) : ∃ j mj, findK id off ms' = some j ∧ ms'[j]? = some mj ∧ mj.x = y := by
  obtain ⟨j, mj, h1, h2, h3⟩ := k
  have hi : ms'.map (fun m => (m.id, m.off)) = ms.map (fun m => (m.id, m.off)) := by
    have := congrArg (List.map fun (x : Nat × Nat × Rx) => (x.1, x.2.1)) h
    rw [List.map_map, List.map_map] at this
    exact this
  have hj : (ms'.map fun m => (m.id, m.off, m.x))[j]? = (ms.map fun m => (m.id, m.off, m.x))[j]? := by rw [h]
  rw [List.getElem?_map, List.getElem?_map, h2] at hj
  cases hm : ms'[j]? with
  | none => rw [hm] at hj; cases hj
  | some m' =>
    rw [hm] at hj
    simp only [Option.map_some, Option.some.injEq, Prod.mk.injEq] at hj
    exact ⟨j, m', by rw [findK_ids hi]; exact h1, hm, by rw [hj.2.2]; exact h3⟩
theorem run_any {Mb M : MH} {sv : Nat} {c : T MV} {x : Rx} {id off : Nat} (hlo : Mb.lo ≤ Mb.n) (hx : Ext Mb M) (hg : M.get sv = some (.cs false 3 c)) (hsv : Mb.n ≤ sv ∧ sv < M.n) (hat : At c 0 [.nilm, .nils, .nils]) (hn : NodeAt Mb x id off) (hw : wei x ≤ 400000000) :
    Cp fns 22 [.p sv 0, .p id off] M fun _ M' => RunPost Mb M' sv x id off := by
  have en := hx.n
  have el := hx.lo
  refine Cp_call (fn := F22) (by kernel_rfl) (Nat.le_of_ble_eq_true rfl) ?_
  show Wp fns B22 (T.set q1 (some (.p id off)) (T.set q0 (some (.p sv 0)) T.lf)) M _
  unfold B22
  have hb0 : hasB c 1 0 = true := has_at hat (by omega) (by simp)
  have hcm : ∀ n, MV.cells (.m n) = [.m n] := fun _ => rfl
  simp (maxSteps := 4000000) (disch := first | omega | assumption | (simp only [bxS, bxV, stOk, Nat.reduceBEq, Nat.reduceEqDiff, Nat.reduceAdd]; done) | (simp only [bxU]; omega) | ((try apply has_setN); apply has_ofL; simp only [bxL]; omega)) only [↓bxD, bxP, bxQ, bxQ2, Nat.reduceBEq, reduceCtorEq, Nat.reduceAdd, Nat.reduceSub, Nat.reduceMul, Nat.reduceLeDiff, Nat.reduceLT, bxR, hg, nck_p, hcm]
  generalize hM1 : MH.set _ _ _ = M1
  have h1 : SvO Mb M1 sv (setN [.m M.n] 0 c) M.n .nils .nils [] [] := by
    have gs : M1.get sv = some (.cs false 3 (setN [.m M.n] 0 c)) := by rw [← hM1]; exact set_same _ _
    have gm : M1.get M.n = some (.mp [] 0) := by rw [← hM1, set_ne (by omega)]; exact push_new _
    have n1 : M1.n = M.n + 1 := by rw [← hM1]; rfl
    have x1 : Chg (fun j => j = sv) M M1 := by rw [← hM1]; exact ((Chg.refl (fun j => j = sv) M).push _).set _ (.inl rfl)
    exact ⟨⟨by omega, by have := x1.lo; omega, fun j hj => (x1.old j (by omega) (by omega)).trans (hx.old j hj)⟩, gs, ⟨hsv.1, by omega⟩, hat.set' 0 _ (by simp) rfl, gm, ⟨en, by omega⟩, OwnRow.nil _ _ _, OwnRow.nil _ _ _, fun m hm => (by cases hm)⟩
  clear hM1
  have en1 := h1.ext.n
  have el1 := h1.ext.lo
  have loop : ∀ (f : Fr) (M2 : MH) (ms0 : List Mk) (rp0 : List Nat), X.ev f (.t q0) = .p sv 0 → Sv Mb M2 sv ms0 rp0.reverse → SInv ms0 rp0 → ms0.length + mz ms0 rp0 ≤ 900000000 → (x.lk = [] ∨ ∃ j mj, findK id off ms0 = some j ∧ ms0[j]? = some mj ∧ mj.x = x) →
      Wp fns (.loop L22_2) f M2 (blockQ 0 (retQ F22 fun _ M' => RunPost Mb M' sv x id off)) := by
    intro f M2 ms0 rp0 hf hS hI hz hr
    refine Wp_inv (σ := List Mk × List Nat) (fun s f M' => X.ev f (.t q0) = .p sv 0 ∧ Sv Mb M' sv s.1 s.2.reverse ∧ SInv s.1 s.2 ∧ s.1.length + mz s.1 s.2 ≤ 900000000 ∧ (x.lk = [] ∨ ∃ j mj, findK id off s.1 = some j ∧ s.1[j]? = some mj ∧ mj.x = x)) (fun s => mz s.1 s.2) ?_ (ms0, rp0) ⟨hf, hS, hI, hz, hr⟩
    rintro ⟨ms, rp⟩ f M' ⟨hf, hS, hI, hz, hr⟩
    simp only at hS hI hz hr ⊢
    obtain ⟨c, mid, mv, pv, h⟩ := hS
    have g2 := h.g
    have c1 : cget c 1 = some mv := h.at_ 1 _ rfl
    have c2 : cget c 2 = some pv := h.at_ 2 _ rfl
    obtain ⟨p1, p2⟩ := h.rp.row.sl
    rw [nv_len, List.length_reverse] at p2
    have en2 := h.ext.n
    have el2 := h.ext.lo
    simp only [q0] at hf
    unfold L22_2
    cases rp with
    | nil =>
      have d0 : decide ((0 : Int) < (([] : List Nat).length : Int)) = false := rfl
      have p2' : slen pv = 0 := p2
      have d0' : decide ((0 : Int) < ((0 : Nat) : Int)) = false := rfl
      simp (maxSteps := 4000000) (disch := first | omega | assumption | (simp only [bxS, bxV, stOk, Nat.reduceBEq, Nat.reduceEqDiff, Nat.reduceAdd]; done) | (simp only [bxU]; omega) | ((try apply has_setN); apply has_ofL; simp only [bxL]; omega)) only [↓bxD, bxP, bxQ, bxQ2, Nat.reduceBEq, reduceCtorEq, Nat.reduceAdd, Nat.reduceSub, Nat.reduceMul, Nat.reduceLeDiff, Nat.reduceLT, bxR, hf, g2, c2, nck_p, p1, p2, len_sl, p2', d0', resL_nil]
      exact ⟨ms, ⟨c, mid, mv, pv, h⟩, hI, hr⟩
    | cons n r =>
      have d0 : decide ((0 : Int) < ((n :: r).length : Int)) = true := decide_eq_true (by rw [List.length_cons]; omega)
      have hlen : (n :: r).length = r.length + 1 := rfl
      obtain ⟨m, hm⟩ : ∃ m, ms[n]? = some m := ⟨_, List.getElem?_eq_getElem (hI.lt n List.mem_cons_self)⟩
      have hlt := (List.getElem?_eq_some_iff.1 hm).1
      obtain ⟨A, cm, rfl, hA, hat, hA1, hA2, hA3, hA4⟩ := h.open hlt
      obtain ⟨_, kv1, kv2, kv3⟩ := h.nodes m (List.mem_of_getElem? hm)
      have hkle := hI.kle m (List.mem_of_getElem? hm)
      obtain ⟨u1, u2, _, _⟩ : isSl (cutLo 6 m.k m.kv) = true ∧ slen (cutLo 6 m.k m.kv) = slen m.kv - m.k ∧ True ∧ True := by
        cases hv : m.kv <;> first | (rw [hv] at kv1; cases kv1; done) | skip
        · rw [hv] at kv2
          exact (hkle.2 (List.length_eq_zero_iff.1 kv2.symm)).elim
        · exact ⟨rfl, rfl, trivial, trivial⟩
      have hrl := mz_path hI.lt
      obtain ⟨ro, sz, t, w1, w2, w3⟩ := h.rp.row.read (i := r.length) (e := [.i .i64 (n : Int)]) (by rw [List.reverse_cons, nv_app, List.getElem?_append_right (by rw [nv_len, List.length_reverse]; exact Nat.le_refl _), nv_len, List.length_reverse, Nat.sub_self]; rfl)
      have w4 : cget t (soff pv + r.length * 1) = some (.i .i64 (n : Int)) := w3 0 _ rfl
      have hsub : (((n :: r).length : Nat) : Int) - 1 = (r.length : Int) := by rw [hlen]; omega
      have hsub' : ((r.length + 1 : Nat) : Int) - 1 = (r.length : Int) := by omega
      have p2' : slen pv = r.length + 1 := p2
      have d0' : decide ((0 : Int) < ((r.length + 1 : Nat) : Int)) = true := d0
      have ixq : ixV 1 pv (.i .i64 (r.length : Int)) = some (.p (sid pv) (soff pv + r.length * 1)) := ix_sl p1 (by omega)
      have ixm : ixV 5 (.sl A 0 ms.length 0) (.i .i64 (n : Int)) = some (.p A (0 + n * 5)) := ix_sl (v := .sl A 0 ms.length 0) rfl hlt
      have hmc := mk_at hat hm
      have m2 : cget cm (n * 5 + 2) = some (cutLo 6 m.k m.kv) := hmc 2 _ rfl
      simp (maxSteps := 4000000) (disch := first | omega | assumption | (simp only [bxS, bxV, stOk, Nat.reduceBEq, Nat.reduceEqDiff, Nat.reduceAdd]; done) | (simp only [bxU]; omega) | ((try apply has_setN); apply has_ofL; simp only [bxL]; omega)) only [↓bxD, bxP, bxQ, bxQ2, Nat.reduceBEq, reduceCtorEq, Nat.reduceAdd, Nat.reduceSub, Nat.reduceMul, Nat.reduceLeDiff, Nat.reduceLT, bxR, hf, g2, c1, c2, nck_p, p1, p2', len_sl, d0', hsub', ixq, ixm, w1, w4, hA, m2, Nat.zero_add, u1, u2]
      show Wp fns K22_1 _ _ _
      unfold K22_1
      simp (maxSteps := 4000000) (disch := first | omega | assumption | (simp only [bxS, bxV, stOk, Nat.reduceBEq, Nat.reduceEqDiff, Nat.reduceAdd]; done) | (simp only [bxU]; omega) | ((try apply has_setN); apply has_ofL; simp only [bxL]; omega)) only [↓bxD, bxP, bxQ, bxQ2, Nat.reduceBEq, reduceCtorEq, Nat.reduceAdd, Nat.reduceSub, Nat.reduceMul, Nat.reduceLeDiff, Nat.reduceLT, bxR, hf, g2, c1, c2, nck_p, p1, p2', len_sl, d0', hsub', ixq, ixm, w1, w4, hA, m2, Nat.zero_add, u1, u2]
      refine Wp_dreg_of (by omega) ?_
      simp (maxSteps := 4000000) (disch := first | omega | assumption | (simp only [bxS, bxV, stOk, Nat.reduceBEq, Nat.reduceEqDiff, Nat.reduceAdd]; done) | (simp only [bxU]; omega) | ((try apply has_setN); apply has_ofL; simp only [bxL]; omega)) only [↓bxD, bxP, bxQ, bxQ2, Nat.reduceBEq, reduceCtorEq, Nat.reduceAdd, Nat.reduceSub, Nat.reduceMul, Nat.reduceLeDiff, Nat.reduceLT, bxR, hf, g2, c1, c2, nck_p, p1, p2', len_sl, d0', hsub', ixq, ixm, w1, w4, hA, m2, Nat.zero_add, u1, u2]
      show Wp fns K22_0 _ _ _
      unfold K22_0
      simp (maxSteps := 4000000) (disch := first | omega | assumption | (simp only [bxS, bxV, stOk, Nat.reduceBEq, Nat.reduceEqDiff, Nat.reduceAdd]; done) | (simp only [bxU]; omega) | ((try apply has_setN); apply has_ofL; simp only [bxL]; omega)) only [↓bxD, bxP, bxQ, bxQ2, Nat.reduceBEq, reduceCtorEq, Nat.reduceAdd, Nat.reduceSub, Nat.reduceMul, Nat.reduceLeDiff, Nat.reduceLT, bxR, hf, g2, c1, c2, nck_p, p1, p2', len_sl, d0', hsub', ixq, ixm, w1, w4, hA, m2, Nat.zero_add, u1, u2]
      by_cases hk : m.k = m.x.lk.length
      · have d1 : decide (((slen m.kv - m.k : Nat) : Int) = 0) = true := decide_eq_true (by omega)
        simp (maxSteps := 4000000) (disch := first | omega | assumption | (simp only [bxS, bxV, stOk, Nat.reduceBEq, Nat.reduceEqDiff, Nat.reduceAdd]; done) | (simp only [bxU]; omega) | ((try apply has_setN); apply has_ofL; simp only [bxL]; omega)) only [↓bxD, bxP, bxQ, bxQ2, Nat.reduceBEq, reduceCtorEq, Nat.reduceAdd, Nat.reduceSub, Nat.reduceMul, Nat.reduceLeDiff, Nat.reduceLT, bxR, hf, g2, c1, c2, nck_p, p1, p2', len_sl, d0', hsub', ixq, ixm, w1, w4, hA, m2, Nat.zero_add, u1, u2, d1]
        have hS' : Sv Mb M' sv ms (r.reverse ++ [n]) := by rw [← List.reverse_cons]; exact ⟨_, _, _, _, h⟩
        refine bindP_call (close_any hS' hlo hm hI.bnd (fun q hq => ⟨hI.lt q (List.mem_cons_of_mem _ (List.mem_reverse.1 hq)), nodup_tail hI.pw q (List.mem_reverse.1 hq)⟩) (by rw [List.length_reverse]; omega)) ?_
        rintro mm M2 hS2
        obtain ⟨j1, j2, j3⟩ := step_close hI hm hk
        simp (maxSteps := 4000000) (disch := first | omega | assumption | (simp only [bxS, bxV, stOk, Nat.reduceBEq, Nat.reduceEqDiff, Nat.reduceAdd]; done) | (simp only [bxU]; omega) | ((try apply has_setN); apply has_ofL; simp only [bxL]; omega)) only [↓bxD, bxP, bxQ, bxQ2, Nat.reduceBEq, reduceCtorEq, Nat.reduceAdd, Nat.reduceSub, Nat.reduceMul, Nat.reduceLeDiff, Nat.reduceLT, bxR, hf, g2, c1, c2, nck_p, p1, p2', len_sl, d0', hsub', ixq, ixm, w1, w4, hA, m2, Nat.zero_add, u1, u2]
        refine ⟨(closeP ms r.reverse n m, r), j2, hS2, j1, by simp only; omega, ?_⟩
        rcases hr with hr | ⟨j, mj, r1, r2, r3⟩
        · exact .inl hr
        · refine .inr ?_
          have ids : (closeP ms r.reverse n m).map (fun m => (m.id, m.off, m.x)) = ms.map (fun m => (m.id, m.off, m.x)) := closeP_ids hm
          exact reg_ids ids ⟨j, mj, r1, r2, r3⟩
      · have d1 : decide (((slen m.kv - m.k : Nat) : Int) = 0) = false := decide_eq_false (by omega)
        simp (maxSteps := 4000000) (disch := first | omega | assumption | (simp only [bxS, bxV, stOk, Nat.reduceBEq, Nat.reduceEqDiff, Nat.reduceAdd]; done) | (simp only [bxU]; omega) | ((try apply has_setN); apply has_ofL; simp only [bxL]; omega)) only [↓bxD, bxP, bxQ, bxQ2, Nat.reduceBEq, reduceCtorEq, Nat.reduceAdd, Nat.reduceSub, Nat.reduceMul, Nat.reduceLeDiff, Nat.reduceLT, bxR, hf, g2, c1, c2, nck_p, p1, p2', len_sl, d0', hsub', ixq, ixm, w1, w4, hA, m2, Nat.zero_add, u1, u2, d1]
        obtain ⟨y, hy⟩ : ∃ y, m.x.lk[m.k]? = some y := ⟨_, List.getElem?_eq_getElem (by omega)⟩
        have hkid : NodeAt Mb y m.kid.1 m.kid.2 := kv3.1.get hy
        have hreg : ∀ j mj, findK m.kid.1 m.kid.2 ms = some j → ms[j]? = some mj → mj.x = y := fun j mj h1 h2 => by
          obtain ⟨m', e1, e2, e3⟩ := findK_some h1
          rw [h2] at e1
          cases e1
          have := (h.nodes mj (List.mem_of_getElem? h2)).1
          rw [e2, e3] at this
          exact NodeAt.uniq this hkid
        have hdone : ∀ j mj, y.lk ≠ [] → findK m.kid.1 m.kid.2 ms = some j → ms[j]? = some mj → mj.done = true := fun j mj _ h1 h2 => by
          cases hdn : mj.done with
          | true => rfl
          | false =>
            have e := hreg j mj h1 h2
            have hw := lk_wei hy
            rcases List.mem_cons.1 (hI.und j mj h2 hdn) with rfl | hj
            · rw [hm] at h2
              cases h2
              rw [e] at hw; omega
            · obtain ⟨mq, q1, q2⟩ := (hI.top n r rfl).2.wei hm j hj
              rw [h2] at q1
              cases q1
              rw [e] at q2; omega
        refine bindP_call (look_any ⟨_, _, _, _, h⟩ hlo hm hy hI.bnd (by omega) (by rw [List.length_reverse]; omega) hdone) ?_
        rintro mm M2 hL
        simp (maxSteps := 4000000) (disch := first | omega | assumption | (simp only [bxS, bxV, stOk, Nat.reduceBEq, Nat.reduceEqDiff, Nat.reduceAdd]; done) | (simp only [bxU]; omega) | ((try apply has_setN); apply has_ofL; simp only [bxL]; omega)) only [↓bxD, bxP, bxQ, bxQ2, Nat.reduceBEq, reduceCtorEq, Nat.reduceAdd, Nat.reduceSub, Nat.reduceMul, Nat.reduceLeDiff, Nat.reduceLT, bxR, hf, g2, c1, c2, nck_p, p1, p2', len_sl, d0', hsub', ixq, ixm, w1, w4, hA, m2, Nat.zero_add, u1, u2]
        rcases hL with ⟨hl, hS2⟩ | ⟨hl, hf2, kv', hkv', hS2⟩ | ⟨hl, j, mj, hf2, hmj, hS2⟩
        · obtain ⟨j1, j2⟩ := step_add hI hm hy (.inl hl)
          refine ⟨(ms.set n (m.next.plus (szP y) (szD y)), n :: r), j2, hS2, j1, by simp only [List.length_set]; omega, ?_⟩
          exact hr.imp (fun z => z) (reg_set hm (plus_same m _ _))
        · obtain ⟨j1, j2⟩ := step_open (kv := kv') hI hm hy hl hf2
          refine ⟨(ms.set n m.next ++ [⟨m.kid.1, m.kid.2, y, kv', 0, false, 0, 0⟩], ms.length :: n :: r), j2, by simp only [List.reverse_cons] at hS2 ⊢; exact hS2, j1, by simp only [List.length_append, List.length_set, List.length_singleton]; omega, ?_⟩
          refine hr.imp (fun z => z) fun e => ?_
          obtain ⟨j, mj, h1, h2, h3⟩ := reg_set hm (next_same m) e
          exact ⟨j, mj, findK_app h1, app_old h2, h3⟩
        · have e := hreg j mj hf2 hmj
          have hdn := hI.dn mj (List.mem_of_getElem? hmj) (hdone j mj hl hf2 hmj)
          rw [e] at hdn
          rw [hdn.2.1, hdn.2.2] at hS2
          obtain ⟨j1, j2⟩ := step_add hI hm hy (.inr ⟨j, mj, hf2, hmj, e⟩)
          refine ⟨(ms.set n (m.next.plus (szP y) (szD y)), n :: r), j2, hS2, j1, by simp only [List.length_set]; omega, ?_⟩
          exact hr.imp (fun z => z) (reg_set hm (plus_same m _ _))
  by_cases hl : x.lk = []
  · refine bindP_call (open_leaf (hn.ext h1.ext) hl (by omega)) ?_
    rintro mm M2 rfl
    simp (maxSteps := 4000000) (disch := first | omega | assumption | (simp only [bxS, bxV, stOk, Nat.reduceBEq, Nat.reduceEqDiff, Nat.reduceAdd]; done) | (simp only [bxU]; omega) | ((try apply has_setN); apply has_ofL; simp only [bxL]; omega)) only [↓bxD, bxP, bxQ, bxQ2, Nat.reduceBEq, reduceCtorEq, Nat.reduceAdd, Nat.reduceSub, Nat.reduceMul, Nat.reduceLeDiff, Nat.reduceLT, bxR, hg, nck_p, hcm]
    exact loop _ _ [] [] rfl ⟨_, _, _, _, h1⟩ sinv_nil (by show 0 + 0 ≤ _; omega) (.inl hl)
  · refine bindP_call (open_any ⟨_, _, _, _, h1⟩ hlo hn hl rfl (by simp) (by simp)) ?_
    rintro mm M2 ⟨kv, hkv, hS⟩
    simp (maxSteps := 4000000) (disch := first | omega | assumption | (simp only [bxS, bxV, stOk, Nat.reduceBEq, Nat.reduceEqDiff, Nat.reduceAdd]; done) | (simp only [bxU]; omega) | ((try apply has_setN); apply has_ofL; simp only [bxL]; omega)) only [↓bxD, bxP, bxQ, bxQ2, Nat.reduceBEq, reduceCtorEq, Nat.reduceAdd, Nat.reduceSub, Nat.reduceMul, Nat.reduceLeDiff, Nat.reduceLT, bxR, hg, nck_p, hcm]
    refine loop _ _ [⟨id, off, x, kv, 0, false, 0, 0⟩] [0] rfl hS (sinv_one hl rfl rfl rfl rfl) ?_ (.inr ⟨0, _, by unfold findK; rw [if_pos ⟨rfl, rfl⟩], rfl, rfl⟩)
    have := wei_lk x
    show 1 + (1 + weiL (x.lk.drop 0) + 0) ≤ _
    rw [List.drop_zero]
    omega
theorem wrap_u64 {n : Nat} (h : n < 18446744073709551616) : wrapF .u64 (n : Int) = (n : Int) := by
  rw [wrapF_eq]
  simp only [IntKind.wrap, IntKind.bits, IntKind.signed]
  simp
  omega
theorem fdiv_nat (a b : Nat) : (a : Int).fdiv (b : Int) = ((a / b : Nat) : Int) := by
  rw [Int.fdiv_eq_ediv_of_nonneg _ (by omega)]
  rfl
theorem shr_i64 (i : Nat) : binV .shr (.i .i64 (i : Int)) (.i .u64 6) = some (.i .i64 ((i / 64 : Nat) : Int)) := by
  show (bif decide ((6 : Int) < 0) then none else some (MV.i .i64 ((i : Int).fdiv ((2 ^ (min (6 : Int).toNat 64) : Nat) : Int)))) = _
  rw [show ((2 ^ (min (6 : Int).toNat 64) : Nat)) = 64 from by decide, fdiv_nat]
  rfl
theorem shr_u64 (w s : Nat) (h : s < 64) : binV .shr (.i .u64 (w : Int)) (.i .i64 (s : Int)) = some (.i .u64 ((w / 2 ^ s : Nat) : Int)) := by
  show (bif decide ((s : Int) < 0) then none else some (MV.i .u64 ((w : Int).fdiv ((2 ^ (min (s : Int).toNat 64) : Nat) : Int)))) = _
  rw [decide_eq_false (by omega), cond_false, show min (s : Int).toNat 64 = s from by omega, fdiv_nat]
theorem shl_u64 (s : Nat) (h : s < 64) : binV .shl (.i .u64 1) (.i .i64 (s : Int)) = some (.i .u64 ((2 ^ s : Nat) : Int)) := by
  show (bif decide ((s : Int) < 0) then none else some (MV.i .u64 (wrapF .u64 (1 * ((2 ^ (min (s : Int).toNat 64) : Nat) : Int))))) = _
  rw [decide_eq_false (by omega), cond_false, show min (s : Int).toNat 64 = s from by omega, Int.one_mul, wrap_u64]
  exact Nat.lt_of_lt_of_le (Nat.pow_lt_pow_right (by omega) h) (by decide)
theorem and_lt {a b n : Nat} (h : b < n) : a &&& b < n := Nat.lt_of_le_of_lt Nat.and_le_right h
theorem bits_u64 {a b : Nat} (ha : a < 18446744073709551616) (hb : b < 18446744073709551616) : bitsF .and .u64 (a : Int) (b : Int) = ((a &&& b : Nat) : Int) ∧ bitsF .or .u64 (a : Int) (b : Int) = ((a ||| b : Nat) : Int) := by
  have e1 : (BitVec.ofInt IntKind.u64.bits (a : Int)).toNat = a := by
    rw [BitVec.ofInt_natCast, BitVec.toNat_ofNat]; exact Nat.mod_eq_of_lt ha
  have e2 : (BitVec.ofInt IntKind.u64.bits (b : Int)).toNat = b := by
    rw [BitVec.ofInt_natCast, BitVec.toNat_ofNat]; exact Nat.mod_eq_of_lt hb
  refine ⟨?_, ?_⟩
  · show wrapF .u64 (((BitVec.ofInt IntKind.u64.bits (a : Int)) &&& (BitVec.ofInt IntKind.u64.bits (b : Int))).toNat : Int) = _
    rw [BitVec.toNat_and, e1, e2]
    exact wrap_u64 (and_lt hb)
  · show wrapF .u64 (((BitVec.ofInt IntKind.u64.bits (a : Int)) ||| (BitVec.ofInt IntKind.u64.bits (b : Int))).toNat : Int) = _
    rw [BitVec.toNat_or, e1, e2]
    exact wrap_u64 (Nat.or_lt_two_pow (n := 64) ha hb)
theorem and_u64 {a b : Nat} (ha : a < 18446744073709551616) (hb : b < 18446744073709551616) : binV .and (.i .u64 (a : Int)) (.i .u64 (b : Int)) = some (.i .u64 ((a &&& b : Nat) : Int)) := by
  show (bif (IntKind.u64 == IntKind.u64) then some (MV.i .u64 (bitsF .and .u64 a b)) else none) = _
  rw [(bits_u64 ha hb).1]
  rfl
theorem or_u64 {a b : Nat} (ha : a < 18446744073709551616) (hb : b < 18446744073709551616) : binV .or (.i .u64 (a : Int)) (.i .u64 (b : Int)) = some (.i .u64 ((a ||| b : Nat) : Int)) := by
  show (bif (IntKind.u64 == IntKind.u64) then some (MV.i .u64 (bitsF .or .u64 a b)) else none) = _
  rw [(bits_u64 ha hb).2]
  rfl
theorem and63 {i : Nat} (h : i < 1000000) : binV .and (.i .i64 (i : Int)) (.i .i64 63) = some (.i .i64 ((i % 64 : Nat) : Int)) := by
  have e1 : (BitVec.ofInt IntKind.i64.bits (i : Int)).toNat = i := by
    rw [BitVec.ofInt_natCast, BitVec.toNat_ofNat]; exact Nat.mod_eq_of_lt (Nat.lt_of_lt_of_le h (by decide))
  have e2 : (BitVec.ofInt IntKind.i64.bits ((63 : Nat) : Int)).toNat = 63 := by
    rw [BitVec.ofInt_natCast, BitVec.toNat_ofNat]; rfl
  show (bif (IntKind.i64 == IntKind.i64) then some (MV.i .i64 (wrapF .i64 (((BitVec.ofInt IntKind.i64.bits (i : Int)) &&& (BitVec.ofInt IntKind.i64.bits ((63 : Nat) : Int))).toNat : Int))) else none) = _
  rw [BitVec.toNat_and, e1, e2]
  have : i &&& 63 = i % 64 := Nat.and_two_pow_sub_one_eq_mod i 6
  rw [this, wrap_in (by omega) (by omega)]
  rfl
def wd (N k : Nat) : Nat := (N >>> (64 * k)) % 2 ^ 64
theorem wd_lt (N k : Nat) : wd N k < 18446744073709551616 := Nat.mod_lt _ (by decide)
def plc (N : Nat) : List MV := [.i .u64 ((wd N 0 : Nat) : Int), .i .u64 ((wd N 1 : Nat) : Int), .i .u64 ((wd N 2 : Nat) : Int)]
theorem wd_bit (N k j : Nat) : (wd N k).testBit j = (decide (j < 64) && N.testBit (64 * k + j)) := by
  unfold wd
  rw [Nat.testBit_mod_two_pow, Nat.testBit_shiftRight]
theorem wd_or (N N' k : Nat) : wd N k ||| wd N' k = wd (N ||| N') k := Nat.eq_of_testBit_eq fun j => by
  rw [Nat.testBit_or, wd_bit, wd_bit, wd_bit, Nat.testBit_or, Bool.and_or_distrib_left]
theorem wd_add (N i k : Nat) : wd (N ||| 2 ^ i) k = if k = i / 64 then wd N k ||| 2 ^ (i % 64) else wd N k := Nat.eq_of_testBit_eq fun j => by
  rw [wd_bit, Nat.testBit_or, Nat.testBit_two_pow]
  split
  · rename_i e
    rw [Nat.testBit_or, wd_bit, Nat.testBit_two_pow]
    by_cases hj : j < 64
    · rw [decide_eq_true hj, Bool.true_and, Bool.true_and]
      congr 1
      rw [decide_eq_decide]
      omega
    · rw [decide_eq_false hj, Bool.false_and, Bool.false_and, Bool.false_or]
      exact (decide_eq_false (by omega)).symm
  · rename_i e
    rw [wd_bit]
    by_cases hj : j < 64
    · rw [decide_eq_true hj, Bool.true_and, Bool.true_and, decide_eq_false (by omega), Bool.or_false]
    · rw [decide_eq_false hj, Bool.false_and, Bool.false_and]
theorem wd_has (N i : Nat) : decide ((((wd N (i / 64) / 2 ^ (i % 64)) &&& 1 : Nat) : Int) = 1) = N.testBit i := by
  have h := wd_bit N (i / 64) (i % 64)
  rw [decide_eq_true (by omega), Bool.true_and, show 64 * (i / 64) + i % 64 = i from by omega, Nat.testBit_eq_decide_div_mod_eq] at h
  rw [← h, Nat.and_one_is_mod, decide_eq_decide]
  omega
theorem plc_at {N k : Nat} (h : k < 3) : (plc N)[k]? = some (.i .u64 ((wd N k : Nat) : Int)) := by
  match k, h with
  | 0, _ => rfl
  | 1, _ => rfl
  | 2, _ => rfl
theorem has_any' {M : MH} {N i : Nat} (hi : i < 192) (hlo : M.lo ≤ M.n) : Cp fns 62 [.ag (plc N), .i .i64 (i : Int)] M fun m M' => m = .b (N.testBit i) ∧ Ext M M' := by
  refine Cp_call (fn := F62) (by kernel_rfl) (Nat.le_of_ble_eq_true rfl) ?_
  show Wp fns B62 (T.set q1 (some (.i .i64 (i : Int))) (T.set q0 (some (.ag (plc N))) T.lf)) M _
  unfold B62
  have hU : isU (.ag (plc N)) = false := rfl
  have hcl : MV.cells (.ag (plc N)) = plc N := rfl
  have hlen : (plc N).length = 3 := rfl
  have c1 : cget (ofL (plc N) 0) (0 + i / 64 * 1) = some (.i .u64 ((wd N (i / 64) : Nat) : Int)) := at_ofL (plc N) _ _ (by rw [Nat.mul_one]; exact plc_at (by omega))
  have c2 : cget (ofL (plc N) 0) (i / 64 * 1) = some (.i .u64 ((wd N (i / 64) : Nat) : Int)) := by rw [Nat.zero_add] at c1; exact c1
  have e1 := shr_i64 i
  have e2 := and63 (i := i) (by omega)
  have e3 := shr_u64 (wd N (i / 64)) (i % 64) (by omega)
  have hlt : wd N (i / 64) / 2 ^ (i % 64) < 18446744073709551616 := Nat.lt_of_le_of_lt (Nat.div_le_self _ _) (wd_lt _ _)
  have e4 : binV .and (.i .u64 ((wd N (i / 64) / 2 ^ (i % 64) : Nat) : Int)) (.i .u64 1) = some (.i .u64 ((((wd N (i / 64) / 2 ^ (i % 64)) &&& 1 : Nat)) : Int)) := and_u64 (b := 1) hlt (by decide)
  have e5 : ixAV 3 1 (.p M.n 0) (.i .i64 ((i / 64 : Nat) : Int)) = some (.p M.n (0 + i / 64 * 1)) := ixA_p (by omega)
  have e6 := wd_has N i
  have c0 := plc_at (N := N) (k := i / 64) (by omega)
  simp (maxSteps := 4000000) (disch := first | omega | assumption | (simp only [bxS, bxV, stOk, Nat.reduceBEq, Nat.reduceEqDiff, Nat.reduceAdd]; done) | (simp only [bxU]; omega) | ((try apply has_setN); apply has_ofL; simp only [bxL]; omega)) only [↓bxD, bxP, bxQ, bxQ2, Nat.reduceBEq, reduceCtorEq, Nat.reduceAdd, Nat.reduceSub, Nat.reduceMul, Nat.reduceLeDiff, Nat.reduceLT, bxR, hU, hcl, hlen, c0, e1, e2, e3, e4, e5, e6, Nat.zero_add, Nat.mul_one]
  exact .push M _
theorem ev_get {f : Fr} {p : Ky} {m : MV} (h : f.get p = some m) : X.ev f (.t p) = m := by
  show (match f.get p with | some m => m | none => .u) = m
  rw [h]
def mixW (N N' k : Nat) : List MV := [.i .u64 ((if 0 < k then wd (N ||| N') 0 else wd N 0 : Nat) : Int), .i .u64 ((if 1 < k then wd (N ||| N') 1 else wd N 1 : Nat) : Int), .i .u64 ((if 2 < k then wd (N ||| N') 2 else wd N 2 : Nat) : Int)]
theorem mixW_at {N N' k j : Nat} (h : j < 3) : (mixW N N' k)[j]? = some (.i .u64 ((if j < k then wd (N ||| N') j else wd N j : Nat) : Int)) := by
  match j, h with
  | 0, _ => rfl
  | 1, _ => rfl
  | 2, _ => rfl
theorem mixW_set {N N' k : Nat} {c : T MV} (h : At c 0 (mixW N N' k)) (hk : k < 3) : At (setN [.i .u64 ((wd (N ||| N') k : Nat) : Int)] k c) 0 (mixW N N' (k + 1)) := by
  have := h.set' (k := k) k (.i .u64 ((wd (N ||| N') k : Nat) : Int)) (by show k < 3; exact hk) (by omega)
  rwa [show (mixW N N' k).set k (.i .u64 ((wd (N ||| N') k : Nat) : Int)) = mixW N N' (k + 1) from by
    match k, hk with
    | 0, _ => rfl
    | 1, _ => rfl
    | 2, _ => rfl] at this
theorem with_any {M : MH} {N N' : Nat} (hlo : M.lo ≤ M.n) : Cp fns 65 [.ag (plc N), .ag (plc N')] M fun m M' => m = .ag (plc (N ||| N')) ∧ Ext M M' := by
  refine Cp_call (fn := F65) (by kernel_rfl) (Nat.le_of_ble_eq_true rfl) ?_
  show Wp fns B65 (T.set q1 (some (.ag (plc N'))) (T.set q0 (some (.ag (plc N))) T.lf)) M _
  unfold B65
  have hU : ∀ N, isU (.ag (plc N)) = false := fun _ => rfl
  have hcl : ∀ N, MV.cells (.ag (plc N)) = plc N := fun _ => rfl
  have hlen : ∀ N, (plc N).length = 3 := fun _ => rfl
  simp (maxSteps := 4000000) (disch := first | omega | assumption | (simp only [bxS, bxV, stOk, Nat.reduceBEq, Nat.reduceEqDiff, Nat.reduceAdd]; done) | (simp only [bxU]; omega) | ((try apply has_setN); apply has_ofL; simp only [bxL]; omega)) only [↓bxD, bxP, bxQ, bxQ2, Nat.reduceBEq, reduceCtorEq, Nat.reduceAdd, Nat.reduceSub, Nat.reduceMul, Nat.reduceLeDiff, Nat.reduceLT, bxR, hU, hcl, hlen]
  generalize hM1 : ((M.push _).push _).push _ = M1
  have g0 : M1.get M.n = some (.cs false 3 (ofL (plc N) 0)) := by rw [← hM1, push_old (by show M.n < M.n + 2; omega), push_old (by show M.n < M.n + 1; omega)]; exact push_new _
  have g1 : M1.get (M.n + 1) = some (.cs false 3 (ofL (plc N') 0)) := by rw [← hM1, push_old (by show M.n + 1 < M.n + 2; omega)]; exact push_new (M := M.push _) _
  have g2 : M1.get (M.n + 2) = some (.cs false 3 (ofL [.i .u64 0, .i .u64 0, .i .u64 0] 0)) := by rw [← hM1]; exact push_new (M := (M.push _).push _) _
  have hx : Ext M M1 := by rw [← hM1]; exact ((Ext.push M _).trans (.push _ _)).trans (.push _ _)
  have hn : M1.n = M.n + 3 := by rw [← hM1]; rfl
  have hl := hx.lo
  clear hM1
  refine Wp_inv (σ := Nat) (fun k f M' => k ≤ 3 ∧ X.ev f (.t q2) = .p M.n 0 ∧ X.ev f (.t q3) = .p (M.n + 1) 0 ∧ f.get q4 = some (.p (M.n + 1 + 1) 0) ∧ X.ev f (.t q6) = .i .i64 (k : Int) ∧ Chg (fun j => j = M.n) M1 M' ∧ ∃ c, M'.get M.n = some (.cs false 3 c) ∧ At c 0 (mixW N N' k)) (fun k => 3 - k) ?_ 0 ?_
  · rintro k f M' ⟨hk, h2, h3, h4, h6, hx', c, hc, hat⟩
    have n1 := hx'.n
    have l1 := hx'.lo
    have g1' : M'.get (M.n + 1) = _ := (hx'.old (M.n + 1) (by omega) (by omega)).trans g1
    have g2' : M'.get (M.n + 1 + 1) = _ := (hx'.old (M.n + 1 + 1) (by omega) (by omega)).trans g2
    have h4' := ev_get h4
    simp only [q2, q3, q4, q6] at h2 h3 h4 h4' h6
    unfold L65_2
    simp (maxSteps := 4000000) (disch := first | omega | assumption | (simp only [bxS, bxV, stOk, Nat.reduceBEq, Nat.reduceEqDiff, Nat.reduceAdd]; done) | (simp only [bxU]; omega) | ((try apply has_setN); apply has_ofL; simp only [bxL]; omega)) only [↓bxD, bxP, bxQ, bxQ2, Nat.reduceBEq, reduceCtorEq, Nat.reduceAdd, Nat.reduceSub, Nat.reduceMul, Nat.reduceLeDiff, Nat.reduceLT, bxR, h2, h3, h6]
    refine condP_split (fun hlt => ?_) (fun hge => ?_)
    · have hk3 : k < 3 := by omega
      have a1 : ixAV 3 1 (.p M.n 0) (.i .i64 (k : Int)) = some (.p M.n (0 + k * 1)) := ixA_p hk3
      have a2 : ixAV 3 1 (.p (M.n + 1) 0) (.i .i64 (k : Int)) = some (.p (M.n + 1) (0 + k * 1)) := ixA_p hk3
      have a3 : cget c k = some (.i .u64 ((wd N k : Nat) : Int)) := by
        have := hat k (.i .u64 ((wd N k : Nat) : Int)) (by rw [mixW_at hk3, if_neg (Nat.lt_irrefl _)])
        rwa [Nat.zero_add] at this
      have a4 := plc_at (N := N') hk3
      have a5 := or_u64 (wd_lt N k) (wd_lt N' k)
      have a6 : hasB c 1 k = true := has_at hat (by omega) (by show k + 1 ≤ 0 + 3; omega)
      simp (maxSteps := 4000000) (disch := first | omega | assumption | (simp only [bxS, bxV, stOk, Nat.reduceBEq, Nat.reduceEqDiff, Nat.reduceAdd]; done) | (simp only [bxU]; omega) | ((try apply has_setN); apply has_ofL; simp only [bxL]; omega)) only [↓bxD, bxP, bxQ, bxQ2, Nat.reduceBEq, reduceCtorEq, Nat.reduceAdd, Nat.reduceSub, Nat.reduceMul, Nat.reduceLeDiff, Nat.reduceLT, bxR, h2, h3, h6]
      show Wp fns K65_1 _ _ _
      unfold K65_1
      simp (maxSteps := 4000000) (disch := first | omega | assumption | (simp only [bxS, bxV, stOk, Nat.reduceBEq, Nat.reduceEqDiff, Nat.reduceAdd]; done) | (simp only [bxU]; omega) | ((try apply has_setN); apply has_ofL; simp only [bxL]; omega)) only [↓bxD, bxP, bxQ, bxQ2, Nat.reduceBEq, reduceCtorEq, Nat.reduceAdd, Nat.reduceSub, Nat.reduceMul, Nat.reduceLeDiff, Nat.reduceLT, bxR, h2, h3, h6, a1, a2, hc, g1', Nat.zero_add, Nat.mul_one, a3, a4]
      refine Wp_dreg_of (by omega) ?_
      simp (maxSteps := 4000000) (disch := first | omega | assumption | (simp only [bxS, bxV, stOk, Nat.reduceBEq, Nat.reduceEqDiff, Nat.reduceAdd]; done) | (simp only [bxU]; omega) | ((try apply has_setN); apply has_ofL; simp only [bxL]; omega)) only [↓bxD, bxP, bxQ, bxQ2, Nat.reduceBEq, reduceCtorEq, Nat.reduceAdd, Nat.reduceSub, Nat.reduceMul, Nat.reduceLeDiff, Nat.reduceLT, bxR, h2, h3, h6, a1, a2, hc, g1', Nat.zero_add, Nat.mul_one, a3, a4, a5, cells_i]
      show Wp fns K65_0 _ _ _
      unfold K65_0
      simp (maxSteps := 4000000) (disch := first | omega | assumption | (simp only [bxS, bxV, stOk, Nat.reduceBEq, Nat.reduceEqDiff, Nat.reduceAdd]; done) | (simp only [bxU]; omega) | ((try apply has_setN); apply has_ofL; simp only [bxL]; omega)) only [↓bxD, bxP, bxQ, bxQ2, Nat.reduceBEq, reduceCtorEq, Nat.reduceAdd, Nat.reduceSub, Nat.reduceMul, Nat.reduceLeDiff, Nat.reduceLT, bxR, h2, h3, h6, get_set]
      refine ⟨k + 1, by omega, by omega, h4, rfl, hx'.set _ (.inl rfl), _, rfl, ?_⟩
      rw [wd_or]
      exact mixW_set hat hk3
    · have hk3 : k = 3 := by omega
      subst hk3
      have a7 : Ev.getN c 3 0 = some (plc (N ||| N')) := hat.getN
      have a8 : ∀ l : List MV, Ev.getN (setN (plc (N ||| N')) 0 (ofL l 0)) 3 0 = some (plc (N ||| N')) := fun l => getN_setN' rfl
      have hst : stOk 3 (.ag (plc (N ||| N'))) = true := rfl
      simp (maxSteps := 4000000) (disch := first | omega | assumption | (simp only [bxS, bxV, stOk, Nat.reduceBEq, Nat.reduceEqDiff, Nat.reduceAdd]; done) | (simp only [bxU]; omega) | ((try apply has_setN); apply has_ofL; simp only [bxL]; omega)) only [↓bxD, bxP, bxQ, bxQ2, Nat.reduceBEq, reduceCtorEq, Nat.reduceAdd, Nat.reduceSub, Nat.reduceMul, Nat.reduceLeDiff, Nat.reduceLT, bxR, h2, h3, h6]
      show Wp fns K65_3 _ _ _
      unfold K65_3
      simp (maxSteps := 4000000) (disch := first | omega | assumption | (simp only [bxS, bxV, stOk, Nat.reduceBEq, Nat.reduceEqDiff, Nat.reduceAdd]; done) | (simp only [bxU]; omega) | ((try apply has_setN); apply has_ofL; simp only [bxL]; omega)) only [↓bxD, bxP, bxQ, bxQ2, Nat.reduceBEq, reduceCtorEq, Nat.reduceAdd, Nat.reduceSub, Nat.reduceMul, Nat.reduceLeDiff, Nat.reduceLT, bxR, h2, h3, h6, res_cN, cNV_p, cNo_cs, get_set, hc, g2', a7, a8, h4, h4', hU, hcl, hlen]
      exact ((Chg.trans (S := fun j => M.n ≤ j) (Chg.of hx) (hx'.mono fun j _ e => by omega)).set _ (.inl (by omega))).ext fun j hj => by omega
  · refine ⟨by omega, by simp only [bxP, bxQ, bxQ2, reduceCtorEq, hU, hcl, hlen], by simp only [bxP, bxQ, bxQ2, reduceCtorEq, hU, hcl, hlen], by simp (maxSteps := 4000000) (disch := first | omega | assumption | (simp only [bxS, bxV, stOk, Nat.reduceBEq, Nat.reduceEqDiff, Nat.reduceAdd]; done) | (simp only [bxU]; omega) | ((try apply has_setN); apply has_ofL; simp only [bxL]; omega)) only [↓bxD, bxP, bxQ, bxQ2, Nat.reduceBEq, reduceCtorEq, Nat.reduceAdd, Nat.reduceSub, Nat.reduceMul, Nat.reduceLeDiff, Nat.reduceLT, bxR, hU, hcl, hlen, get_set], by simp only [bxP, bxQ, bxQ2, reduceCtorEq, hU, hcl, hlen] <;> rfl, Chg.refl _ _, _, g0, at_ofL _⟩
theorem add_any' {M : MH} {N i id off sz : Nat} {c : T MV} (hi : i < 192) (hlo : M.lo ≤ M.n) (hid : M.lo ≤ id) (hg : M.get id = some (.cs false sz c)) (hat : At c off (plc N)) :
    Cp fns 63 [.p id off, .i .i64 (i : Int)] M fun _ M' => Chg (fun j => j = id) M M' ∧ ∃ c', M'.get id = some (.cs false sz c') ∧ At c' off (plc (N ||| 2 ^ i)) := by
  refine Cp_call (fn := F63) (by kernel_rfl) (Nat.le_of_ble_eq_true rfl) ?_
  show Wp fns B63 (T.set q1 (some (.i .i64 (i : Int))) (T.set q0 (some (.p id off)) T.lf)) M _
  unfold B63
  have e1 := shr_i64 i
  have e2 := and63 (i := i) (by omega)
  have e3 := shl_u64 (i % 64) (by omega)
  have e5 : ixAV 3 1 (.p id off) (.i .i64 ((i / 64 : Nat) : Int)) = some (.p id (off + i / 64 * 1)) := ixA_p (by omega)
  have c1 : cget c (off + i / 64) = some (.i .u64 ((wd N (i / 64) : Nat) : Int)) := hat _ _ (plc_at (by omega))
  have e6 := or_u64 (wd_lt N (i / 64)) (b := 2 ^ (i % 64)) (Nat.lt_of_lt_of_le (Nat.pow_lt_pow_right (by omega) (show i % 64 < 64 by omega)) (by decide))
  have hb : hasB c 1 (off + i / 64) = true := has_at hat (by omega) (by show _ ≤ off + 3; omega)
  refine Wp_dreg_of hlo ?_
  simp (maxSteps := 4000000) (disch := first | omega | assumption | (simp only [bxS, bxV, stOk, Nat.reduceBEq, Nat.reduceEqDiff, Nat.reduceAdd]; done) | (simp only [bxU]; omega) | ((try apply has_setN); apply has_ofL; simp only [bxL]; omega)) only [↓bxD, bxP, bxQ, bxQ2, Nat.reduceBEq, reduceCtorEq, Nat.reduceAdd, Nat.reduceSub, Nat.reduceMul, Nat.reduceLeDiff, Nat.reduceLT, bxR, hg, nck_p, e1, e2, e3, e5, e6, c1, Nat.mul_one, cells_i, resL_nil]
  refine ⟨(Chg.refl _ M).set _ (.inl rfl), _, rfl, ?_⟩
  have := hat.set' (k := off + i / 64) (i / 64) (.i .u64 (((wd N (i / 64) ||| 2 ^ (i % 64) : Nat)) : Int)) (by show i / 64 < 3; omega) rfl
  rwa [show (plc N).set (i / 64) (.i .u64 (((wd N (i / 64) ||| 2 ^ (i % 64) : Nat)) : Int)) = plc (N ||| 2 ^ i) from by
    unfold plc
    rw [wd_add, wd_add, wd_add]
    have : i / 64 = 0 ∨ i / 64 = 1 ∨ i / 64 = 2 := by omega
    rcases this with e | e | e <;> rw [e] <;> rfl] at this
def bitsOf (N n : Nat) : List Nat := (List.range n).filter fun i => N.testBit i
theorem bitsOf_succ (N n : Nat) : bitsOf N (n + 1) = if N.testBit n = true then bitsOf N n ++ [n] else bitsOf N n := by
  unfold bitsOf
  rw [List.range_succ, List.filter_append]
  cases h : N.testBit n <;> simp [h]
theorem bitsOf_len (N n : Nat) : (bitsOf N n).length ≤ n := by
  unfold bitsOf
  exact Nat.le_trans (List.length_filter_le _ _) (by rw [List.length_range]; exact Nat.le_refl _)
theorem list_any {M : MH} {N : Nat} (hlo : M.lo ≤ M.n) : Cp fns 44 [.ag (plc N)] M fun m M' => Ext M M' ∧ OwnRow M.n M' 1 m (nv (bitsOf N 150)) := by
  refine Cp_call (fn := F44) (by kernel_rfl) (Nat.le_of_ble_eq_true rfl) ?_
  show Wp fns B44 (T.set q0 (some (.ag (plc N))) T.lf) M _
  unfold B44
  have hU : ∀ N, isU (.ag (plc N)) = false := fun _ => rfl
  have hcl : ∀ N, MV.cells (.ag (plc N)) = plc N := fun _ => rfl
  have hlen : ∀ N, (plc N).length = 3 := fun _ => rfl
  simp (maxSteps := 4000000) (disch := first | omega | assumption | (simp only [bxS, bxV, stOk, Nat.reduceBEq, Nat.reduceEqDiff, Nat.reduceAdd]; done) | (simp only [bxU]; omega) | ((try apply has_setN); apply has_ofL; simp only [bxL]; omega)) only [↓bxD, bxP, bxQ, bxQ2, Nat.reduceBEq, reduceCtorEq, Nat.reduceAdd, Nat.reduceSub, Nat.reduceMul, Nat.reduceLeDiff, Nat.reduceLT, bxR, hU, hcl, hlen]
  generalize hM1 : M.push _ = M1
  have g0 : M1.get M.n = some (.cs false 3 (ofL (plc N) 0)) := by rw [← hM1]; exact push_new _
  have hx : Ext M M1 := by rw [← hM1]; exact .push M _
  have hn : M1.n = M.n + 1 := by rw [← hM1]; rfl
  have hl := hx.lo
  clear hM1
  refine Wp_inv (σ := Nat) (fun k f M' => k ≤ 150 ∧ X.ev f (.t q1) = .p M.n 0 ∧ X.ev f (.t q5) = .i .i64 (k : Int) ∧ Ext M1 M' ∧ OwnRow M1.n M' 1 (X.ev f (.t q3)) (nv (bitsOf N k))) (fun k => 150 - k) ?_ 0 ?_
  · rintro k f M' ⟨hk, h1, h5, hx', hr⟩
    have n1 := hx'.n
    have l1 := hx'.lo
    have g1 : M'.get M.n = _ := (hx'.old M.n (by omega)).trans g0
    have hG : Ev.getN (ofL (plc N) 0) 3 0 = some (plc N) := (at_ofL (plc N)).getN
    simp only [q1, q3, q5] at h1 h5 hr
    generalize h3 : X.ev f (.t (Ky.k1 Dg.d3)) = v at hr
    unfold L44_2
    simp (maxSteps := 4000000) (disch := first | omega | assumption | (simp only [bxS, bxV, stOk, Nat.reduceBEq, Nat.reduceEqDiff, Nat.reduceAdd]; done) | (simp only [bxU]; omega) | ((try apply has_setN); apply has_ofL; simp only [bxL]; omega)) only [↓bxD, bxP, bxQ, bxQ2, Nat.reduceBEq, reduceCtorEq, Nat.reduceAdd, Nat.reduceSub, Nat.reduceMul, Nat.reduceLeDiff, Nat.reduceLT, bxR, h1, h3, h5]
    refine condP_split (fun hlt => ?_) (fun hge => ?_)
    · have hk3 : k < 150 := by omega
      simp (maxSteps := 4000000) (disch := first | omega | assumption | (simp only [bxS, bxV, stOk, Nat.reduceBEq, Nat.reduceEqDiff, Nat.reduceAdd]; done) | (simp only [bxU]; omega) | ((try apply has_setN); apply has_ofL; simp only [bxL]; omega)) only [↓bxD, bxP, bxQ, bxQ2, Nat.reduceBEq, reduceCtorEq, Nat.reduceAdd, Nat.reduceSub, Nat.reduceMul, Nat.reduceLeDiff, Nat.reduceLT, bxR, h1, h3, h5]
      show Wp fns K44_1 _ _ _
      unfold K44_1
      simp (maxSteps := 4000000) (disch := first | omega | assumption | (simp only [bxS, bxV, stOk, Nat.reduceBEq, Nat.reduceEqDiff, Nat.reduceAdd]; done) | (simp only [bxU]; omega) | ((try apply has_setN); apply has_ofL; simp only [bxL]; omega)) only [↓bxD, bxP, bxQ, bxQ2, Nat.reduceBEq, reduceCtorEq, Nat.reduceAdd, Nat.reduceSub, Nat.reduceMul, Nat.reduceLeDiff, Nat.reduceLT, bxR, h1, h3, h5, g1, hG]
      refine bindP_call (has_any' (by omega) (by omega)) ?_
      rintro m M2 ⟨rfl, hx2⟩
      have n2 := hx2.n
      have l2 := hx2.lo
      have hr2 : OwnRow M1.n M2 1 v (nv (bitsOf N k)) := hr.ext hx2
      have ff : fillM [(0, 1, MV.i .i64 (k : Int))] (zrow [.i .i64 0] 1) = some [.i .i64 (k : Int)] := rfl
      cases hb : N.testBit k with
      | false =>
        simp (maxSteps := 4000000) (disch := first | omega | assumption | (simp only [bxS, bxV, stOk, Nat.reduceBEq, Nat.reduceEqDiff, Nat.reduceAdd]; done) | (simp only [bxU]; omega) | ((try apply has_setN); apply has_ofL; simp only [bxL]; omega)) only [↓bxD, bxP, bxQ, bxQ2, Nat.reduceBEq, reduceCtorEq, Nat.reduceAdd, Nat.reduceSub, Nat.reduceMul, Nat.reduceLeDiff, Nat.reduceLT, bxR, h1, h3, h5, hb]
        show Wp fns K44_0 _ _ _
        unfold K44_0
        simp (maxSteps := 4000000) (disch := first | omega | assumption | (simp only [bxS, bxV, stOk, Nat.reduceBEq, Nat.reduceEqDiff, Nat.reduceAdd]; done) | (simp only [bxU]; omega) | ((try apply has_setN); apply has_ofL; simp only [bxL]; omega)) only [↓bxD, bxP, bxQ, bxQ2, Nat.reduceBEq, reduceCtorEq, Nat.reduceAdd, Nat.reduceSub, Nat.reduceMul, Nat.reduceLeDiff, Nat.reduceLT, bxR, h1, h3, h5]
        refine ⟨k + 1, by omega, by omega, rfl, hx'.trans hx2, ?_⟩
        rw [bitsOf_succ, if_neg (by rw [hb]; simp)]
        exact hr2
      | true =>
        simp (maxSteps := 4000000) (disch := first | omega | assumption | (simp only [bxS, bxV, stOk, Nat.reduceBEq, Nat.reduceEqDiff, Nat.reduceAdd]; done) | (simp only [bxU]; omega) | ((try apply has_setN); apply has_ofL; simp only [bxL]; omega)) only [↓bxD, bxP, bxQ, bxQ2, Nat.reduceBEq, reduceCtorEq, Nat.reduceAdd, Nat.reduceSub, Nat.reduceMul, Nat.reduceLeDiff, Nat.reduceLT, bxR, h1, h3, h5, hb, ff, bslW_some]
        generalize hM3 : M2.push _ = M3
        have x3 : Ext M2 M3 := by rw [← hM3]; exact .push M2 _
        have n3 : M3.n = M2.n + 1 := by rw [← hM3]; rfl
        have t3 : RowAt M3 1 (.sl M2.n 0 1 0) [[.i .i64 (k : Int)]] := by rw [← hM3]; exact row_one (M := M2) rfl
        have l3 := x3.lo
        clear hM3
        have hbl := bitsOf_len N k
        obtain ⟨v', M4, a1, a2, a3, a4, a5, a6, a7⟩ := app_rowX (bytes := 8) (hr2.ext x3) t3 (by omega) (by omega) (fun e he => by
          simp only [List.mem_cons, List.not_mem_nil, or_false] at he
          subst he; rfl) (by rw [nv_len]; simp only [List.length_cons, List.length_nil]; omega) (by rw [nv_len]; simp only [List.length_cons, List.length_nil]; omega)
        refine bindP_of a1 ?_
        simp (maxSteps := 4000000) (disch := first | omega | assumption | (simp only [bxS, bxV, stOk, Nat.reduceBEq, Nat.reduceEqDiff, Nat.reduceAdd]; done) | (simp only [bxU]; omega) | ((try apply has_setN); apply has_ofL; simp only [bxL]; omega)) only [↓bxD, bxP, bxQ, bxQ2, Nat.reduceBEq, reduceCtorEq, Nat.reduceAdd, Nat.reduceSub, Nat.reduceMul, Nat.reduceLeDiff, Nat.reduceLT, bxR, h1, h3, h5]
        show Wp fns K44_0 _ _ _
        unfold K44_0
        simp (maxSteps := 4000000) (disch := first | omega | assumption | (simp only [bxS, bxV, stOk, Nat.reduceBEq, Nat.reduceEqDiff, Nat.reduceAdd]; done) | (simp only [bxU]; omega) | ((try apply has_setN); apply has_ofL; simp only [bxL]; omega)) only [↓bxD, bxP, bxQ, bxQ2, Nat.reduceBEq, reduceCtorEq, Nat.reduceAdd, Nat.reduceSub, Nat.reduceMul, Nat.reduceLeDiff, Nat.reduceLT, bxR, h1, h3, h5]
        refine ⟨k + 1, by omega, by omega, rfl, ⟨by omega, by omega, fun j hj => ?_⟩, ?_⟩
        · rw [a6 j hj (by omega)]
          exact ((hx'.trans hx2).trans x3).old j hj
        · rw [bitsOf_succ, if_pos hb, nv_app]
          exact a2
    · have hk3 : k = 150 := by omega
      subst hk3
      simp (maxSteps := 4000000) (disch := first | omega | assumption | (simp only [bxS, bxV, stOk, Nat.reduceBEq, Nat.reduceEqDiff, Nat.reduceAdd]; done) | (simp only [bxU]; omega) | ((try apply has_setN); apply has_ofL; simp only [bxL]; omega)) only [↓bxD, bxP, bxQ, bxQ2, Nat.reduceBEq, reduceCtorEq, Nat.reduceAdd, Nat.reduceSub, Nat.reduceMul, Nat.reduceLeDiff, Nat.reduceLT, bxR, h1, h3, h5]
      show Wp fns K44_3 _ _ _
      unfold K44_3
      simp (maxSteps := 4000000) (disch := first | omega | assumption | (simp only [bxS, bxV, stOk, Nat.reduceBEq, Nat.reduceEqDiff, Nat.reduceAdd]; done) | (simp only [bxU]; omega) | ((try apply has_setN); apply has_ofL; simp only [bxL]; omega)) only [↓bxD, bxP, bxQ, bxQ2, Nat.reduceBEq, reduceCtorEq, Nat.reduceAdd, Nat.reduceSub, Nat.reduceMul, Nat.reduceLeDiff, Nat.reduceLT, bxR, h1, h3, h5]
      exact ⟨hx.trans hx', hr.le (by omega)⟩
  · refine ⟨by omega, by simp only [bxP, bxQ, bxQ2, reduceCtorEq, hU, hcl, hlen], by simp only [bxP, bxQ, bxQ2, reduceCtorEq, hU, hcl, hlen] <;> rfl, .refl _, ?_⟩
    simp (maxSteps := 4000000) (disch := first | omega | assumption | (simp only [bxS, bxV, stOk, Nat.reduceBEq, Nat.reduceEqDiff, Nat.reduceAdd]; done) | (simp only [bxU]; omega) | ((try apply has_setN); apply has_ofL; simp only [bxL]; omega)) only [↓bxD, bxP, bxQ, bxQ2, Nat.reduceBEq, reduceCtorEq, Nat.reduceAdd, Nat.reduceSub, Nat.reduceMul, Nat.reduceLeDiff, Nat.reduceLT, bxR, hU, hcl, hlen]
    exact OwnRow.nil _ _ _
structure Pm where
  null : Bool
  fi : Nat
  la : Nat
def Pm.cells (p : Pm) : List MV := .b p.null :: (plc p.fi ++ plc p.la)
structure Bs where
  sets : List (List MV)
  fol : List Nat
def linkM (fol : List Nat) (la fi : Nat) : List Nat := fol.mapIdx fun i f => if la.testBit i then f ||| fi else f
theorem linkM_len (fol : List Nat) (la fi : Nat) : (linkM fol la fi).length = fol.length := by unfold linkM; rw [List.length_mapIdx]
structure SvB (Mb : MH) (mid : Nat) (mv : MV) (ms : List Mk) : Prop where
  gm : Mb.get mid = some (.mp (ents ms 0) ms.length)
  ml : mid < Mb.n
  rm : RowAt Mb 5 mv (ms.map Mk.cells)
  nodes : ∀ m ∈ ms, NodeAt Mb m.x m.id m.off ∧ KidsV Mb m.x m.id m.off m.kv
  inv : SInv ms []
structure BdO (Mb M : MH) (bx mid : Nat) (mv pv : MV) (ms : List Mk) (c : T MV) (sv fv : MV) (b : Bs) : Prop where
  srv : SvB Mb mid mv ms
  ext : Ext Mb M
  g : M.get bx = some (.cs false 5 c)
  bl : Mb.n ≤ bx ∧ bx < M.n
  at_ : At c 0 [.m mid, mv, pv, sv, fv]
  rs : OwnRow Mb.n M 4 sv b.sets
  rf : OwnRow Mb.n M 3 fv (b.fol.map plc)
  len : b.fol.length = b.sets.length
def Bd (Mb M : MH) (bx mid : Nat) (mv pv : MV) (ms : List Mk) (b : Bs) : Prop := ∃ c sv fv, BdO Mb M bx mid mv pv ms c sv fv b
structure Fr7 (M M' : MH) : Prop where
  n : M.n ≤ M'.n
  lo : M'.lo = M.lo
  old : ∀ j c, j < M.n → M.get j = some (.cs false 7 c) → M'.get j = some (.cs false 7 c)
theorem Fr7.refl (M : MH) : Fr7 M M := ⟨Nat.le_refl _, rfl, fun _ _ _ h => h⟩
theorem Fr7.trans {a b c : MH} (h : Fr7 a b) (k : Fr7 b c) : Fr7 a c := ⟨Nat.le_trans h.n k.n, k.lo.trans h.lo, fun j x hj e => k.old j x (Nat.lt_of_lt_of_le hj h.n) (h.old j x hj e)⟩
theorem Fr7.of {a b : MH} (h : Ext a b) : Fr7 a b := ⟨h.n, h.lo, fun j x hj e => (h.old j hj).trans e⟩
theorem BdO.rd {Mb M : MH} {bx mid : Nat} {mv pv : MV} {ms : List Mk} {c : T MV} {sv fv : MV} {b : Bs} (h : BdO Mb M bx mid mv pv ms c sv fv b) : SvRd M bx ms :=
  ⟨⟨false, 5, c, mid, mv, h.g, h.bl.2, h.at_ 0 _ rfl, h.at_ 1 _ rfl, (h.ext.old mid h.srv.ml).trans h.srv.gm, Nat.lt_of_lt_of_le h.srv.ml h.ext.n, h.srv.rm.ext h.ext⟩, fun m hm => (h.srv.nodes m hm).1.ext h.ext⟩
theorem BdO.more {Mb M M' : MH} {bx mid : Nat} {mv pv : MV} {ms : List Mk} {c : T MV} {sv fv : MV} {b : Bs} (h : BdO Mb M bx mid mv pv ms c sv fv b) (k : Ext M M') : BdO Mb M' bx mid mv pv ms c sv fv b :=
  ⟨h.srv, h.ext.trans k, (k.old bx h.bl.2).trans h.g, ⟨h.bl.1, Nat.lt_of_lt_of_le h.bl.2 k.n⟩, h.at_, h.rs.ext k, h.rf.ext k, h.len⟩
theorem sized_plc (l : List Nat) : Sized 3 (l.map plc) := fun e he => by
  obtain ⟨m, _, rfl⟩ := List.mem_map.1 he
  rfl
theorem set3_at {c : T MV} {es : List (List MV)} (hs : Sized 3 es) (h : At c 0 es.flatten) {i : Nat} {e : List MV} (he : es[i]? = some e) (x y z : MV) : At (setN [x, y, z] (i * 3) c) 0 (es.set i [x, y, z]).flatten := by
  have hl : e.length = 3 := hs e (List.mem_of_getElem? he)
  obtain ⟨a, b, d, rfl⟩ : ∃ a b d, e = [a, b, d] := by
    match e, hl with
    | [a, b, d], _ => exact ⟨a, b, d, rfl⟩
  have hi := (List.getElem?_eq_some_iff.1 he).1
  have h1 := At.elem_set hs h (i := i) (o := 0) (x := x) he (by omega) (k := i * 3) (by omega)
  have s1 : Sized 3 (es.set i [x, b, d]) := hs.set i rfl
  have h2 := At.elem_set s1 h1 (i := i) (o := 1) (x := y) (e := [x, b, d]) (by rw [List.getElem?_set, if_pos rfl, if_pos hi]) (by omega) (k := i * 3 + 1) (by omega)
  rw [List.set_set] at h2
  have s2 : Sized 3 (es.set i [x, y, d]) := hs.set i rfl
  have h3 := At.elem_set s2 h2 (i := i) (o := 2) (x := z) (e := [x, y, d]) (by rw [List.getElem?_set, if_pos rfl, if_pos hi]) (by omega) (k := i * 3 + 2) (by omega)
  rw [List.set_set] at h3
  exact h3
def mixF (fol : List Nat) (la fi k : Nat) : List Nat := fol.mapIdx fun i f => if i < k ∧ la.testBit i = true then f ||| fi else f
theorem mixF_len (fol : List Nat) (la fi k : Nat) : (mixF fol la fi k).length = fol.length := by unfold mixF; rw [List.length_mapIdx]
theorem mixF_zero (fol : List Nat) (la fi : Nat) : mixF fol la fi 0 = fol := by
  refine List.ext_getElem? fun j => ?_
  unfold mixF
  rw [List.getElem?_mapIdx]
  cases fol[j]? <;> simp
theorem mixF_all (fol : List Nat) (la fi : Nat) : mixF fol la fi fol.length = linkM fol la fi := by
  refine List.ext_getElem? fun j => ?_
  unfold mixF linkM
  rw [List.getElem?_mapIdx, List.getElem?_mapIdx]
  cases h : fol[j]? with
  | none => rfl
  | some f =>
    have := (List.getElem?_eq_some_iff.1 h).1
    simp [this]
theorem mixF_at {fol : List Nat} {la fi k f : Nat} (h : fol[k]? = some f) : (mixF fol la fi k)[k]? = some f := by
  unfold mixF
  rw [List.getElem?_mapIdx, h]
  simp
theorem mixF_succ {fol : List Nat} {la fi k f : Nat} (h : fol[k]? = some f) : mixF fol la fi (k + 1) = if la.testBit k = true then (mixF fol la fi k).set k (f ||| fi) else mixF fol la fi k := by
  have hk := (List.getElem?_eq_some_iff.1 h).1
  refine List.ext_getElem? fun j => ?_
  split
  · rename_i e
    rw [List.getElem?_set]
    by_cases hj : k = j
    · subst hj
      rw [if_pos rfl, if_pos (by rw [mixF_len]; exact hk)]
      unfold mixF
      rw [List.getElem?_mapIdx, h]
      simp [e]
    · rw [if_neg hj]
      unfold mixF
      rw [List.getElem?_mapIdx, List.getElem?_mapIdx]
      cases fol[j]? with
      | none => rfl
      | some x =>
        have : (j < k + 1) = (j < k) := by rw [eq_iff_iff]; omega
        simp [this]
  · rename_i e
    unfold mixF
    rw [List.getElem?_mapIdx, List.getElem?_mapIdx]
    cases hx : fol[j]? with
    | none => rfl
    | some x =>
      by_cases hj : j = k
      · subst hj
        simp [e]
      · have : (j < k + 1) = (j < k) := by rw [eq_iff_iff]; omega
        simp [this]
theorem link_any {Mb M : MH} {bx mid : Nat} {mv pv : MV} {ms : List Mk} {b : Bs} {la fi : Nat} (h : Bd Mb M bx mid mv pv ms b) (hlo : Mb.lo ≤ Mb.n) (hb : b.fol.length ≤ 190) :
    Cp fns 64 [.p bx 0, .ag (plc la), .ag (plc fi)] M fun _ M' => Bd Mb M' bx mid mv pv ms ⟨b.sets, linkM b.fol la fi⟩ ∧ Fr7 M M' := by
  obtain ⟨c, sv, fv, h⟩ := h
  have en := h.ext.n
  have el := h.ext.lo
  refine Cp_call (fn := F64) (by kernel_rfl) (Nat.le_of_ble_eq_true rfl) ?_
  show Wp fns B64 (T.set q2 (some (.ag (plc fi))) (T.set q1 (some (.ag (plc la))) (T.set q0 (some (.p bx 0)) T.lf))) M _
  unfold B64
  have hU : ∀ N, isU (.ag (plc N)) = false := fun _ => rfl
  have hcl : ∀ N, MV.cells (.ag (plc N)) = plc N := fun _ => rfl
  have hlen : ∀ N, (plc N).length = 3 := fun _ => rfl
  have hbl := h.bl
  have c4 : cget c 4 = some fv := h.at_ 4 _ rfl
  obtain ⟨r1, r2⟩ := h.rf.row.sl
  rw [List.length_map] at r2
  have hg := h.g
  simp (maxSteps := 4000000) (disch := first | omega | assumption | (simp only [bxS, bxV, stOk, Nat.reduceBEq, Nat.reduceEqDiff, Nat.reduceAdd]; done) | (simp only [bxU]; omega) | ((try apply has_setN); apply has_ofL; simp only [bxL]; omega)) only [↓bxD, bxP, bxQ, bxQ2, Nat.reduceBEq, reduceCtorEq, Nat.reduceAdd, Nat.reduceSub, Nat.reduceMul, Nat.reduceLeDiff, Nat.reduceLT, bxR, hU, hcl, hlen, nck_p, hg, c4, r1, r2, len_sl]
  generalize hM1 : (M.push _).push _ = M1
  have g0 : M1.get M.n = some (.cs false 3 (ofL (plc la) 0)) := by rw [← hM1, push_old (by show M.n < M.n + 1; omega)]; exact push_new _
  have g1 : M1.get (M.n + 1) = some (.cs false 3 (ofL (plc fi) 0)) := by rw [← hM1]; exact push_new (M := M.push _) _
  have hx : Ext M M1 := by rw [← hM1]; exact (Ext.push M _).trans (.push _ _)
  have hn : M1.n = M.n + 2 := by rw [← hM1]; rfl
  have hl := hx.lo
  clear hM1
  have h1 := h.more hx
  refine Wp_inv (σ := Nat) (fun k f M' => k ≤ b.fol.length ∧ X.ev f (.t q0) = .p bx 0 ∧ X.ev f (.t q4) = .p M.n 0 ∧ X.ev f (.t q5) = .p (M.n + 1) 0 ∧ X.ev f (.t q11) = .i .i64 (b.fol.length : Int) ∧ X.ev f (.t q12) = .i .i64 (k : Int) ∧ BdO Mb M' bx mid mv pv ms c sv fv ⟨b.sets, mixF b.fol la fi k⟩ ∧ Fr7 M1 M' ∧ M'.get M.n = some (.cs false 3 (ofL (plc la) 0)) ∧ M'.get (M.n + 1) = some (.cs false 3 (ofL (plc fi) 0)) ∧ (∀ a n d e, fv = .sl a n d e → a < M.n)) (fun k => b.fol.length - k) ?_ 0 ?_
  · rintro k f M' ⟨hk, h0, h4, h5, h11, h12, hB, hF, e4, e5, hfv⟩
    have n1 := hF.n
    have l1 := hF.lo
    have g2 := hB.g
    have c4' : cget c 4 = some fv := hB.at_ 4 _ rfl
    have hG : ∀ N, Ev.getN (ofL (plc N) 0) 3 0 = some (plc N) := fun N => (at_ofL (plc N)).getN
    simp only [q0, q4, q5, q11, q12] at h0 h4 h5 h11 h12
    unfold L64_2
    simp (maxSteps := 4000000) (disch := first | omega | assumption | (simp only [bxS, bxV, stOk, Nat.reduceBEq, Nat.reduceEqDiff, Nat.reduceAdd]; done) | (simp only [bxU]; omega) | ((try apply has_setN); apply has_ofL; simp only [bxL]; omega)) only [↓bxD, bxP, bxQ, bxQ2, Nat.reduceBEq, reduceCtorEq, Nat.reduceAdd, Nat.reduceSub, Nat.reduceMul, Nat.reduceLeDiff, Nat.reduceLT, bxR, h0, h4, h5, h11, h12]
    refine condP_split (fun hlt => ?_) (fun hge => ?_)
    · have hk3 : k < b.fol.length := by omega
      obtain ⟨f0, hf0⟩ : ∃ f0, b.fol[k]? = some f0 := ⟨_, List.getElem?_eq_getElem hk3⟩
      simp (maxSteps := 4000000) (disch := first | omega | assumption | (simp only [bxS, bxV, stOk, Nat.reduceBEq, Nat.reduceEqDiff, Nat.reduceAdd]; done) | (simp only [bxU]; omega) | ((try apply has_setN); apply has_ofL; simp only [bxL]; omega)) only [↓bxD, bxP, bxQ, bxQ2, Nat.reduceBEq, reduceCtorEq, Nat.reduceAdd, Nat.reduceSub, Nat.reduceMul, Nat.reduceLeDiff, Nat.reduceLT, bxR, h0, h4, h5, h11, h12]
      show Wp fns K64_1 _ _ _
      unfold K64_1
      simp (maxSteps := 4000000) (disch := first | omega | assumption | (simp only [bxS, bxV, stOk, Nat.reduceBEq, Nat.reduceEqDiff, Nat.reduceAdd]; done) | (simp only [bxU]; omega) | ((try apply has_setN); apply has_ofL; simp only [bxL]; omega)) only [↓bxD, bxP, bxQ, bxQ2, Nat.reduceBEq, reduceCtorEq, Nat.reduceAdd, Nat.reduceSub, Nat.reduceMul, Nat.reduceLeDiff, Nat.reduceLT, bxR, h0, h4, h5, h11, h12, e4, hG]
      refine bindP_call (has_any' (by omega) (by omega)) ?_
      rintro m M2 ⟨rfl, hx2⟩
      have n2 := hx2.n
      have l2 := hx2.lo
      have hB2 := hB.more hx2
      have f4 := (hx2.old M.n (by omega)).trans e4
      have f5 := (hx2.old (M.n + 1) (by omega)).trans e5
      cases hbit : la.testBit k with
      | false =>
        simp (maxSteps := 4000000) (disch := first | omega | assumption | (simp only [bxS, bxV, stOk, Nat.reduceBEq, Nat.reduceEqDiff, Nat.reduceAdd]; done) | (simp only [bxU]; omega) | ((try apply has_setN); apply has_ofL; simp only [bxL]; omega)) only [↓bxD, bxP, bxQ, bxQ2, Nat.reduceBEq, reduceCtorEq, Nat.reduceAdd, Nat.reduceSub, Nat.reduceMul, Nat.reduceLeDiff, Nat.reduceLT, bxR, h0, h4, h5, h11, h12, hbit]
        show Wp fns K64_0 _ _ _
        unfold K64_0
        simp (maxSteps := 4000000) (disch := first | omega | assumption | (simp only [bxS, bxV, stOk, Nat.reduceBEq, Nat.reduceEqDiff, Nat.reduceAdd]; done) | (simp only [bxU]; omega) | ((try apply has_setN); apply has_ofL; simp only [bxL]; omega)) only [↓bxD, bxP, bxQ, bxQ2, Nat.reduceBEq, reduceCtorEq, Nat.reduceAdd, Nat.reduceSub, Nat.reduceMul, Nat.reduceLeDiff, Nat.reduceLT, bxR, h0, h4, h5, h11, h12]
        refine ⟨k + 1, by omega, by omega, rfl, ?_, hF.trans (.of hx2), f4, f5, hfv⟩
        rw [mixF_succ hf0, if_neg (by rw [hbit]; simp)]
        exact hB2
      | true =>
        have hfk : (mixF b.fol la fi k)[k]? = some f0 := mixF_at hf0
        obtain ⟨A, cf, rfl, hA1, hA2, hA3, hA4⟩ : ∃ A cf, fv = .sl A 0 b.fol.length 0 ∧ M2.get A = some (.cs false 3 cf) ∧ Mb.n ≤ A ∧ A < M2.n ∧ At cf 0 ((mixF b.fol la fi k).map plc).flatten := by
          obtain ⟨hs, ⟨_, e2⟩ | ⟨A, cf, e1, e2, e3, e4, e5⟩⟩ := hB2.rf
          · have := congrArg List.length e2
            rw [List.length_map, mixF_len] at this
            simp at this
            rw [this] at hk3; simp at hk3
          · rw [List.length_map, mixF_len] at e1
            exact ⟨A, cf, e1, e2, e3, e4, e5⟩
        have hAlt := hfv _ _ _ _ rfl
        have hAbx : A ≠ bx := fun e => by rw [e, hB2.g] at hA1; cases hA1
        have g3 := hB2.g
        have c4'' : cget c 4 = some (.sl A 0 b.fol.length 0) := hB2.at_ 4 _ rfl
        have ixf : ixV 3 (.sl A 0 b.fol.length 0) (.i .i64 (k : Int)) = some (.p A (0 + k * 3)) := ix_sl (v := .sl A 0 b.fol.length 0) rfl hk3
        have hek : At cf (k * 3) (plc f0) := by
          have := At.elem (sized_plc _) hA4 (i := k) (e := plc f0) (by rw [List.getElem?_map, hfk]; rfl)
          rwa [Nat.zero_add] at this
        have hgk : Ev.getN cf 3 (k * 3) = some (plc f0) := hek.getN
        have hst : stOk 3 (.ag (plc (f0 ||| fi))) = true := rfl
        have hbk : hasB cf 3 (k * 3) = true := hek.has
        simp (maxSteps := 4000000) (disch := first | omega | assumption | (simp only [bxS, bxV, stOk, Nat.reduceBEq, Nat.reduceEqDiff, Nat.reduceAdd]; done) | (simp only [bxU]; omega) | ((try apply has_setN); apply has_ofL; simp only [bxL]; omega)) only [↓bxD, bxP, bxQ, bxQ2, Nat.reduceBEq, reduceCtorEq, Nat.reduceAdd, Nat.reduceSub, Nat.reduceMul, Nat.reduceLeDiff, Nat.reduceLT, bxR, h0, h4, h5, h11, h12, hbit]
        refine Wp_dreg_of (by omega) ?_
        simp (maxSteps := 4000000) (disch := first | omega | assumption | (simp only [bxS, bxV, stOk, Nat.reduceBEq, Nat.reduceEqDiff, Nat.reduceAdd]; done) | (simp only [bxU]; omega) | ((try apply has_setN); apply has_ofL; simp only [bxL]; omega)) only [↓bxD, bxP, bxQ, bxQ2, Nat.reduceBEq, reduceCtorEq, Nat.reduceAdd, Nat.reduceSub, Nat.reduceMul, Nat.reduceLeDiff, Nat.reduceLT, bxR, h0, h4, h5, h11, h12, nck_p, g3, c4'', ixf, Nat.zero_add, hA1, hgk, f5, hG]
        refine bindP_call (with_any (Nat.le_refl _)) ?_
        rintro m M3 ⟨rfl, hx3⟩
        have sx : Sub M2 (M3.down M2.lo) := ((Sub.lift M2).trans hx3.sub).trans (.down _ _)
        have ex := sx.ext rfl
        have n3 := ex.n
        have hA1' : (M3.down M2.lo).get A = some (.cs false 3 cf) := (ex.old A hA3).trans hA1
        have l3 : (M3.down M2.lo).lo ≤ A := by have := ex.lo; omega
        have hA1'' : M3.get A = some (.cs false 3 cf) := hA1'
        simp (maxSteps := 4000000) (disch := first | omega | assumption | (simp only [bxS, bxV, stOk, Nat.reduceBEq, Nat.reduceEqDiff, Nat.reduceAdd]; done) | (simp only [bxU]; omega) | ((try apply has_setN); apply has_ofL; simp only [bxL]; omega)) only [↓bxD, bxP, bxQ, bxQ2, Nat.reduceBEq, reduceCtorEq, Nat.reduceAdd, Nat.reduceSub, Nat.reduceMul, Nat.reduceLeDiff, Nat.reduceLT, bxR, h0, h4, h5, h11, h12, ixf, Nat.zero_add, hcl, hA1'']
        generalize hM4 : MH.set _ _ _ = M4
        have x4 : Chg (fun j => j = A) M2 M4 := by rw [← hM4]; exact (Chg.of ex).set _ (.inl rfl)
        have g4 : M4.get A = some (.cs false 3 (setN (plc (f0 ||| fi)) (k * 3) cf)) := by rw [← hM4]; exact set_same _ _
        have n4 := x4.n
        have l4 := x4.lo
        clear hM4
        show Wp fns K64_0 _ _ _
        unfold K64_0
        simp (maxSteps := 4000000) (disch := first | omega | assumption | (simp only [bxS, bxV, stOk, Nat.reduceBEq, Nat.reduceEqDiff, Nat.reduceAdd]; done) | (simp only [bxU]; omega) | ((try apply has_setN); apply has_ofL; simp only [bxL]; omega)) only [↓bxD, bxP, bxQ, bxQ2, Nat.reduceBEq, reduceCtorEq, Nat.reduceAdd, Nat.reduceSub, Nat.reduceMul, Nat.reduceLeDiff, Nat.reduceLT, bxR, h0, h4, h5, h11, h12]
        have hbx2 := hB2.bl
        have en2 := hB2.ext.n
        have el2 := hB2.ext.lo
        refine ⟨k + 1, by omega, by omega, rfl, ⟨hB2.srv, ⟨by omega, by omega, fun j hj => (x4.old j (by omega) (by omega)).trans (hB2.ext.old j hj)⟩, (x4.old bx hbx2.2 (fun e => hAbx e.symm)).trans g3, ⟨hbx2.1, by omega⟩, hB2.at_, ?_, ?_, by rw [mixF_len]; exact h.len⟩, hF.trans ((Fr7.of hx2).trans ⟨n4, l4, fun j cc hj e => (x4.old j hj (fun e2 => by rw [e2, hA1] at e; cases e)).trans e⟩), (x4.old M.n (by omega) (by omega)).trans f4, (x4.old (M.n + 1) (by omega) (by omega)).trans f5, hfv⟩
        · exact hB2.rs.keep n4 fun a b n d e => by
            obtain ⟨cc, q1, q2, q3⟩ := own_id hB2.rs e
            exact x4.old a q3 fun e => by rw [e, hA1] at q1; cases q1
        · have := set3_at (sized_plc _) hA4 (i := k) (e := plc f0) (by rw [List.getElem?_map, hfk]; rfl) (.i .u64 ((wd (f0 ||| fi) 0 : Nat) : Int)) (.i .u64 ((wd (f0 ||| fi) 1 : Nat) : Int)) (.i .u64 ((wd (f0 ||| fi) 2 : Nat) : Int))
          rw [mixF_succ hf0, if_pos hbit]
          refine ⟨sized_plc _, .inr ⟨A, _, ?_, g4, hA2, by omega, ?_⟩⟩
          · rw [List.length_map, List.length_set, mixF_len]
          · rw [List.map_set]; exact this
    · have hk3 : k = b.fol.length := by omega
      subst hk3
      simp (maxSteps := 4000000) (disch := first | omega | assumption | (simp only [bxS, bxV, stOk, Nat.reduceBEq, Nat.reduceEqDiff, Nat.reduceAdd]; done) | (simp only [bxU]; omega) | ((try apply has_setN); apply has_ofL; simp only [bxL]; omega)) only [↓bxD, bxP, bxQ, bxQ2, Nat.reduceBEq, reduceCtorEq, Nat.reduceAdd, Nat.reduceSub, Nat.reduceMul, Nat.reduceLeDiff, Nat.reduceLT, bxR, h0, h4, h5, h11, h12, resL_nil]
      refine ⟨⟨c, sv, fv, ?_⟩, (Fr7.of hx).trans hF⟩
      rw [← mixF_all]
      exact hB
  · refine ⟨Nat.zero_le _, by simp only [bxP, bxQ, bxQ2, reduceCtorEq, hU, hcl, hlen, nck_p, hg, c4, r1, r2, len_sl], by simp only [bxP, bxQ, bxQ2, reduceCtorEq, hU, hcl, hlen, nck_p, hg, c4, r1, r2, len_sl], by simp only [bxP, bxQ, bxQ2, reduceCtorEq, hU, hcl, hlen, nck_p, hg, c4, r1, r2, len_sl], by simp only [bxP, bxQ, bxQ2, reduceCtorEq, hU, hcl, hlen, nck_p, hg, c4, r1, r2, len_sl], by simp only [bxP, bxQ, bxQ2, reduceCtorEq, hU, hcl, hlen, nck_p, hg, c4, r1, r2, len_sl] <;> rfl, by rw [mixF_zero]; exact h1, .refl _, g0, g1, fun a n d e e2 => ?_⟩
    obtain ⟨cc, q1, q2, q3⟩ := own_id h.rf e2
    exact q3
def st4 (a b c d : Int) : List MV := [.i .u64 a, .i .u64 b, .i .u64 c, .i .u64 d]
theorem place_any {Mb M : MH} {bx mid : Nat} {mv pv : MV} {ms : List Mk} {b : Bs} {s0 s1 s2 s3 : Int} (h : Bd Mb M bx mid mv pv ms b) (hlo : Mb.lo ≤ Mb.n) (hb : b.sets.length ≤ 190) :
    Cp fns 45 [.p bx 0, .ag (st4 s0 s1 s2 s3)] M fun m M' => m = .ag (Pm.cells ⟨false, 2 ^ b.sets.length, 2 ^ b.sets.length⟩) ∧ Bd Mb M' bx mid mv pv ms ⟨b.sets ++ [st4 s0 s1 s2 s3], b.fol ++ [0]⟩ ∧ Fr7 M M' := by
  obtain ⟨c, sv, fv, h⟩ := h
  have en := h.ext.n
  have el := h.ext.lo
  refine Cp_call (fn := F45) (by kernel_rfl) (Nat.le_of_ble_eq_true rfl) ?_
  show Wp fns B45 (T.set q1 (some (.ag (st4 s0 s1 s2 s3))) (T.set q0 (some (.p bx 0)) T.lf)) M _
  unfold B45
  have hU : isU (.ag (st4 s0 s1 s2 s3)) = false := rfl
  have hcl : MV.cells (.ag (st4 s0 s1 s2 s3)) = st4 s0 s1 s2 s3 := rfl
  have hlen : (st4 s0 s1 s2 s3).length = 4 := rfl
  have hbl := h.bl
  have c3 : cget c 3 = some sv := h.at_ 3 _ rfl
  have c4 : cget c 4 = some fv := h.at_ 4 _ rfl
  obtain ⟨r1, r2⟩ := h.rs.row.sl
  have hg := h.g
  simp (maxSteps := 4000000) (disch := first | omega | assumption | (simp only [bxS, bxV, stOk, Nat.reduceBEq, Nat.reduceEqDiff, Nat.reduceAdd]; done) | (simp only [bxU]; omega) | ((try apply has_setN); apply has_ofL; simp only [bxL]; omega)) only [↓bxD, bxP, bxQ, bxQ2, Nat.reduceBEq, reduceCtorEq, Nat.reduceAdd, Nat.reduceSub, Nat.reduceMul, Nat.reduceLeDiff, Nat.reduceLT, bxR, hU, hcl, hlen, nck_p]
  generalize hM1 : ((M.push _).push _).push _ = M1
  have g0 : M1.get M.n = some (.cs false 4 (ofL (st4 s0 s1 s2 s3) 0)) := by rw [← hM1, push_old (by show M.n < M.n + 2; omega), push_old (by show M.n < M.n + 1; omega)]; exact push_new _
  have g1 : M1.get (M.n + 1) = some (.cs false 7 (ofL [.b false, .i .u64 0, .i .u64 0, .i .u64 0, .i .u64 0, .i .u64 0, .i .u64 0] 0)) := by rw [← hM1, push_old (by show M.n + 1 < M.n + 2; omega)]; exact push_new (M := M.push _) _
  have g2 : M1.get (M.n + 1 + 1) = some (.cs false 3 (ofL (plc 0) 0)) := by rw [← hM1]; exact push_new (M := (M.push _).push _) _
  have hx : Ext M M1 := by rw [← hM1]; exact ((Ext.push M _).trans (.push _ _)).trans (.push _ _)
  have hn : M1.n = M.n + 3 := by rw [← hM1]; rfl
  have hl := hx.lo
  clear hM1
  have h1 := h.more hx
  have hg1 := h1.g
  simp (maxSteps := 4000000) (disch := first | omega | assumption | (simp only [bxS, bxV, stOk, Nat.reduceBEq, Nat.reduceEqDiff, Nat.reduceAdd]; done) | (simp only [bxU]; omega) | ((try apply has_setN); apply has_ofL; simp only [bxL]; omega)) only [↓bxD, bxP, bxQ, bxQ2, Nat.reduceBEq, reduceCtorEq, Nat.reduceAdd, Nat.reduceSub, Nat.reduceMul, Nat.reduceLeDiff, Nat.reduceLT, bxR, nck_p, hg, hg1, c3, r1, r2, len_sl]
  refine bindP_call (add_any' (by omega) (by omega) (by omega) g2 (at_ofL (plc 0))) ?_
  rintro m M2 ⟨x2, c2', g2', at2⟩
  rw [show (0 : Nat) ||| 2 ^ b.sets.length = 2 ^ b.sets.length from Nat.zero_or _] at at2
  have n2 := x2.n
  have l2 := x2.lo
  have g0' := (x2.old M.n (by omega) (by omega)).trans g0
  have g1' := (x2.old (M.n + 1) (by omega) (by omega)).trans g1
  have hg2 := (x2.old bx (by omega) (by omega)).trans hg1
  have hG4 : Ev.getN (ofL (st4 s0 s1 s2 s3) 0) 4 0 = some (st4 s0 s1 s2 s3) := (at_ofL (st4 s0 s1 s2 s3)).getN
  have ff : fillM [(0, 4, .ag (st4 s0 s1 s2 s3))] (zrow [.i .u64 0, .i .u64 0, .i .u64 0, .i .u64 0] 1) = some (st4 s0 s1 s2 s3) := rfl
  simp (maxSteps := 4000000) (disch := first | omega | assumption | (simp only [bxS, bxV, stOk, Nat.reduceBEq, Nat.reduceEqDiff, Nat.reduceAdd]; done) | (simp only [bxU]; omega) | ((try apply has_setN); apply has_ofL; simp only [bxL]; omega)) only [↓bxD, bxP, bxQ, bxQ2, Nat.reduceBEq, reduceCtorEq, Nat.reduceAdd, Nat.reduceSub, Nat.reduceMul, Nat.reduceLeDiff, Nat.reduceLT, bxR, nck_p, hg, hg1, c3, r1, r2, len_sl]
  refine Wp_dreg_of (by omega) ?_
  have hpl : ∀ m o, pushV M2.lift m o = some (m, M2.lift.push o) := fun m o => push_ok (Nat.le_refl _)
  simp (maxSteps := 4000000) (disch := first | omega | assumption | (simp only [bxS, bxV, stOk, Nat.reduceBEq, Nat.reduceEqDiff, Nat.reduceAdd]; done) | (simp only [bxU]; omega) | ((try apply has_setN); apply has_ofL; simp only [bxL]; omega)) only [↓bxD, bxP, bxQ, bxQ2, Nat.reduceBEq, reduceCtorEq, Nat.reduceAdd, Nat.reduceSub, Nat.reduceMul, Nat.reduceLeDiff, Nat.reduceLT, bxR, nck_p, hg, hg1, c3, r1, r2, len_sl, hg2, g0', hG4, ff, bslW_some, hcl, hpl]
  generalize hM3 : MH.down _ _ = M3
  have t3 : RowAt M3 4 (.sl M2.n 0 1 0) [st4 s0 s1 s2 s3] := by rw [← hM3]; exact (row_one (M := M2.lift) rfl).sub (.down _ _)
  have x3 : Ext M2 M3 := by rw [← hM3]; exact Sub.ext (((Sub.lift M2).trans (Ext.push M2.lift _).sub).trans (.down _ _)) rfl
  have n3 : M3.n = M2.n + 1 := by rw [← hM3]; rfl
  have l3 := x3.lo
  clear hM3
  have rs2 : OwnRow Mb.n M2 4 sv b.sets := h1.rs.keep n2 fun a n d e e2 => by
    obtain ⟨cc, q1, q2, q3⟩ := own_id h1.rs e2
    exact x2.old a q3 fun e => by rw [e, g2] at q1; cases q1
  have rf2 : OwnRow Mb.n M2 3 fv (b.fol.map plc) := h1.rf.keep n2 fun a n d e e2 => by
    obtain ⟨cc, q1, q2, q3⟩ := own_id h.rf e2
    exact x2.old a (by omega) (by omega)
  have hsl := h.len
  obtain ⟨sv', M4, a1, a2, a3, a4, a5, a6, a7⟩ := app_rowX (bytes := 32) (rs2.ext x3) t3 (by omega) (by omega) (fun e he => by
    simp only [List.mem_cons, List.not_mem_nil, or_false] at he
    subst he; rfl) (by simp only [List.length_cons, List.length_nil]; omega) (by simp only [List.length_cons, List.length_nil]; omega)
  obtain ⟨nn, rfl⟩ := a7 (by simp)
  have other : ∀ j sz cc, j < M2.n → sz ≠ 4 → M2.get j = some (.cs false sz cc) → M4.get j = some (.cs false sz cc) := fun j sz cc hj hz e => by
    have e3 := (x3.old j hj).trans e
    rw [a5 j (by omega) fun a n d f e2 e4 => by
      obtain ⟨c5, q1, q2, q3⟩ := own_id (rs2.ext x3) e2
      rw [e4, e3] at q1; cases q1; exact hz rfl]
    exact e3
  have bx4 := other bx 5 c (by omega) (by omega) hg2
  have ex4 : Ext Mb M4 := ⟨by omega, by omega, fun j hj => by
    rw [a6 j hj (by omega), x3.old j (by omega), x2.old j (by omega) (by omega), hx.old j (by omega)]; exact h.ext.old j hj⟩
  have hb1 : hasB c 1 3 = true := has_at h.at_ (by omega) (by simp)
  have hb2 : hasB c 1 4 = true := has_at h.at_ (by omega) (by simp)
  refine bindP_of a1 ?_
  simp (maxSteps := 4000000) (disch := first | omega | assumption | (simp only [bxS, bxV, stOk, Nat.reduceBEq, Nat.reduceEqDiff, Nat.reduceAdd]; done) | (simp only [bxU]; omega) | ((try apply has_setN); apply has_ofL; simp only [bxL]; omega)) only [↓bxD, bxP, bxQ, bxQ2, Nat.reduceBEq, reduceCtorEq, Nat.reduceAdd, Nat.reduceSub, Nat.reduceMul, Nat.reduceLeDiff, Nat.reduceLT, bxR, nck_p, hg, hg1, c3, r1, r2, len_sl, bx4, cells_sl]
  show Wp fns K45_0 _ _ _
  generalize hM5 : MH.set _ _ _ = M5
  generalize hfr : (T.set _ _ _ : Fr) = f1
  have u0 : X.ev f1 (.t q0) = .p bx 0 := by rw [← hfr]; simp (maxSteps := 4000000) (disch := first | omega | assumption | (simp only [bxS, bxV, stOk, Nat.reduceBEq, Nat.reduceEqDiff, Nat.reduceAdd]; done) | (simp only [bxU]; omega) | ((try apply has_setN); apply has_ofL; simp only [bxL]; omega)) only [↓bxD, bxP, bxQ, bxQ2, Nat.reduceBEq, reduceCtorEq, Nat.reduceAdd, Nat.reduceSub, Nat.reduceMul, Nat.reduceLeDiff, Nat.reduceLT, bxR, nck_p, hg, hg1, c3, r1, r2, len_sl]
  have u4 : f1.get q4 = some (.p (M.n + 1) 0) := by rw [← hfr]; simp (maxSteps := 4000000) (disch := first | omega | assumption | (simp only [bxS, bxV, stOk, Nat.reduceBEq, Nat.reduceEqDiff, Nat.reduceAdd]; done) | (simp only [bxU]; omega) | ((try apply has_setN); apply has_ofL; simp only [bxL]; omega)) only [↓bxD, bxP, bxQ, bxQ2, Nat.reduceBEq, reduceCtorEq, Nat.reduceAdd, Nat.reduceSub, Nat.reduceMul, Nat.reduceLeDiff, Nat.reduceLT, bxR, nck_p, hg, hg1, c3, r1, r2, len_sl, get_set]
  have u5 : X.ev f1 (.t q5) = .p (M.n + 1 + 1) 0 := by rw [← hfr]; simp (maxSteps := 4000000) (disch := first | omega | assumption | (simp only [bxS, bxV, stOk, Nat.reduceBEq, Nat.reduceEqDiff, Nat.reduceAdd]; done) | (simp only [bxU]; omega) | ((try apply has_setN); apply has_ofL; simp only [bxL]; omega)) only [↓bxD, bxP, bxQ, bxQ2, Nat.reduceBEq, reduceCtorEq, Nat.reduceAdd, Nat.reduceSub, Nat.reduceMul, Nat.reduceLeDiff, Nat.reduceLT, bxR, nck_p, hg, hg1, c3, r1, r2, len_sl]
  have u4' := ev_get u4
  clear hfr
  simp only [q0, q4, q5] at u0 u4 u4' u5
  have x5 : Chg (fun j => j = bx) M4 M5 := by rw [← hM5]; exact (Chg.refl (fun j => j = bx) M4).set _ (.inl rfl)
  have bx5 : M5.get bx = some (.cs false 5 (setN [.sl M3.n 0 nn 0] 3 c)) := by rw [← hM5]; exact set_same _ _
  have n5 : M5.n = M4.n := by rw [← hM5]; rfl
  have l5 := x5.lo
  clear hM5
  have at5 : At (setN [.sl M3.n 0 nn 0] 3 c) 0 [.m mid, mv, pv, .sl M3.n 0 nn 0, fv] := h.at_.set' 3 _ (by simp) rfl
  have c4' : cget (setN [.sl M3.n 0 nn 0] 3 c) 4 = some fv := at5 4 _ rfl
  have other5 : ∀ j sz cc, j < M2.n → sz ≠ 4 → sz ≠ 5 → M2.get j = some (.cs false sz cc) → M5.get j = some (.cs false sz cc) := fun j sz cc hj hz hz5 e => by
    rw [x5.old j (by omega) (fun e2 => by rw [e2, hg2] at e; cases e; exact hz5 rfl)]
    exact other j sz cc hj hz e
  have rf5 : OwnRow Mb.n M5 3 fv (b.fol.map plc) := rf2.keep (by omega) fun a n d e e2 => by
    obtain ⟨cc, q1, q2, q3⟩ := own_id rf2 e2
    rw [other5 a 3 cc q3 (by omega) (by omega) q1, q1]
  have rs5 : OwnRow Mb.n M5 4 (.sl M3.n 0 nn 0) (b.sets ++ [st4 s0 s1 s2 s3]) := a2.keep (by omega) fun a n d e e2 => by
    obtain ⟨cc, q1, q2, q3⟩ := own_id a2 e2
    exact x5.old a q3 fun e3 => by rw [e3, bx4] at q1; cases q1
  have t55 := other5 (M.n + 1 + 1) 3 c2' (by omega) (by omega) (by omega) g2'
  have t45 := other5 (M.n + 1) 7 _ (by omega) (by omega) (by omega) g1'
  have ex5 : Ext Mb M5 := ⟨by omega, by omega, fun j hj => by rw [x5.old j (by omega) (by omega)]; exact ex4.old j hj⟩
  have f2 : fillM [(0, 3, .ag [.i .u64 0, .i .u64 0, .i .u64 0])] (zrow [.i .u64 0, .i .u64 0, .i .u64 0] 1) = some [.i .u64 0, .i .u64 0, .i .u64 0] := rfl
  unfold K45_0
  simp (maxSteps := 4000000) (disch := first | omega | assumption | (simp only [bxS, bxV, stOk, Nat.reduceBEq, Nat.reduceEqDiff, Nat.reduceAdd]; done) | (simp only [bxU]; omega) | ((try apply has_setN); apply has_ofL; simp only [bxL]; omega)) only [↓bxD, bxP, bxQ, bxQ2, Nat.reduceBEq, reduceCtorEq, Nat.reduceAdd, Nat.reduceSub, Nat.reduceMul, Nat.reduceLeDiff, Nat.reduceLT, bxR, nck_p, hg, hg1, c3, r1, r2, len_sl, u0, u4, u4', u5, bx5, c4', f2, bslW_some, fill_nil]
  generalize hM6 : M5.push _ = M6
  have t6 : RowAt M6 3 (.sl M5.n 0 1 0) [plc 0] := by rw [← hM6]; exact row_one rfl
  have x6 : Ext M5 M6 := by rw [← hM6]; exact .push _ _
  have n6 : M6.n = M5.n + 1 := by rw [← hM6]; rfl
  have l6 := x6.lo
  clear hM6
  obtain ⟨fv', M7, b1, b2, b3, b4, b5, b6, b7⟩ := app_rowX (bytes := 24) (rf5.ext x6) t6 (by omega) (by omega) (fun e he => by
    simp only [List.mem_cons, List.not_mem_nil, or_false] at he
    subst he; rfl) (by rw [List.length_map]; simp only [List.length_cons, List.length_nil]; omega) (by rw [List.length_map]; simp only [List.length_cons, List.length_nil]; omega)
  obtain ⟨nf, rfl⟩ := b7 (by simp)
  have hfvlt : ∀ a n d e, fv = .sl a n d e → a < M.n := fun a n d e e2 => by
    obtain ⟨cc, q1, q2, q3⟩ := own_id h.rf e2
    exact q3
  have oth7 : ∀ j o, j < M5.n → (∀ a n d e, fv = .sl a n d e → a ≠ j) → M5.get j = some o → M7.get j = some o := fun j o hj hz e => by
    rw [b5 j (by omega) hz, x6.old j hj]; exact e
  have bx7 := oth7 bx _ (by omega) (fun a n d e e2 e3 => by
    obtain ⟨cc, q1, q2, q3⟩ := own_id rf5 e2
    rw [e3, bx5] at q1; cases q1) bx5
  have t57 := oth7 (M.n + 1 + 1) _ (by omega) (fun a n d e e2 e3 => by have := hfvlt a n d e e2; omega) t55
  have t47 := oth7 (M.n + 1) _ (by omega) (fun a n d e e2 e3 => by have := hfvlt a n d e e2; omega) t45
  have hb3 : hasB (setN [.sl M3.n 0 nn 0] 3 c) 1 4 = true := has_setN _ _ _ _ hb2
  have hne : M.n + 1 + 1 ≠ bx := by omega
  have hne2 : M.n + 1 ≠ bx := by omega
  have hgN : Ev.getN c2' 3 0 = some (plc (2 ^ b.sets.length)) := at2.getN
  have f3 : fillM [(1, 3, .ag (plc (2 ^ b.sets.length))), (4, 3, .ag (plc (2 ^ b.sets.length)))] [.b false, .i .u64 0, .i .u64 0, .i .u64 0, .i .u64 0, .i .u64 0, .i .u64 0] = some (Pm.cells ⟨false, 2 ^ b.sets.length, 2 ^ b.sets.length⟩) := rfl
  have hc7 : ∀ p : Pm, MV.cells (.ag p.cells) = p.cells := fun _ => rfl
  have hst7 : ∀ p : Pm, stOk 7 (.ag p.cells) = true := fun _ => rfl
  have hst7' := hst7 ⟨false, 2 ^ b.sets.length, 2 ^ b.sets.length⟩
  have hgp : ∀ (p : Pm) l, Ev.getN (setN p.cells 0 (ofL l 0)) 7 0 = some p.cells := fun p l => getN_setN' rfl
  refine bindP_of b1 ?_
  simp (maxSteps := 4000000) (disch := first | omega | assumption | (simp only [bxS, bxV, stOk, Nat.reduceBEq, Nat.reduceEqDiff, Nat.reduceAdd]; done) | (simp only [bxU]; omega) | ((try apply has_setN); apply has_ofL; simp only [bxL]; omega)) only [↓bxD, bxP, bxQ, bxQ2, Nat.reduceBEq, reduceCtorEq, Nat.reduceAdd, Nat.reduceSub, Nat.reduceMul, Nat.reduceLeDiff, Nat.reduceLT, bxR, nck_p, hg, hg1, c3, r1, r2, len_sl, u0, u4, u4', u5, bx7, cells_sl, t57, t47, hgN, f3, hc7, res_cN, cNV_p, cNo_cs, get_set, hgp]
  generalize hM9 : MH.set _ _ _ = M9
  have x9 : Chg (fun j => j = bx ∨ j = M.n + 1) M7 M9 := by rw [← hM9]; exact ((Chg.refl (fun j => j = bx ∨ j = M.n + 1) M7).set _ (.inl (.inl rfl))).set _ (.inl (.inr rfl))
  have bx9 : M9.get bx = some (.cs false 5 (setN [MV.sl M6.n 0 nf 0] 4 (setN [MV.sl M3.n 0 nn 0] 3 c))) := by rw [← hM9, set_ne (by omega)]; exact set_same _ _
  have n9 := x9.n
  have l9 := x9.lo
  clear hM9
  have sz7 : ∀ j cc, j < M.n → M.get j = some (.cs false 7 cc) → M9.get j = some (.cs false 7 cc) := fun j cc hj e => by
    have e2 : M2.get j = some (.cs false 7 cc) := (x2.old j (by omega) (by omega)).trans ((hx.old j hj).trans e)
    have e5 := other5 j 7 cc (by omega) (by omega) (by omega) e2
    have e7 := oth7 j _ (by omega) (fun a n d f q q' => by
      obtain ⟨c1, q1, _⟩ := own_id rf5 q
      rw [q', e5] at q1; cases q1) e5
    rw [x9.old j (by omega) (by
      rintro (q | q)
      · rw [q, bx7] at e7; cases e7
      · omega)]
    exact e7
  refine ⟨⟨_, .sl M3.n 0 nn 0, .sl M6.n 0 nf 0, h.srv, ⟨by omega, by omega, fun j hj => ?_⟩, bx9, ⟨hbl.1, by omega⟩, at5.set' 4 _ (by simp) rfl, ?_, ?_, by rw [List.length_append, List.length_append, h.len]; rfl⟩, ⟨by omega, by omega, sz7⟩⟩
  · rw [x9.old j (by omega) (by omega), b6 j hj (by omega), x6.old j (by omega)]
    exact ex5.old j hj
  · exact rs5.keep (by omega) fun a n d e e2 => by
      obtain ⟨cc, q1, q2, q3⟩ := own_id rs5 e2
      have e7 := oth7 a _ q3 (fun a' n' d' f' q q' => by
        obtain ⟨c1, q1', _⟩ := own_id rf5 q
        rw [q', q1] at q1'; cases q1') q1
      rw [x9.old a (by omega) (by
        rintro (q | q)
        · rw [q, bx7] at e7; cases e7
        · rw [q, t47] at e7; cases e7)]
      rw [e7, q1]
  · have hr : OwnRow Mb.n M7 3 (.sl M6.n 0 nf 0) ((b.fol ++ [0]).map plc) := by rw [List.map_append]; exact b2
    exact hr.keep (by omega) fun a n d e e2 => by
      obtain ⟨cc, q1, q2, q3⟩ := own_id hr e2
      exact x9.old a q3 (by
        rintro (q | q)
        · rw [q, bx7] at q1; cases q1
        · rw [q, t47] at q1; cases q1)
def p0M : Pm := ⟨true, 0, 0⟩
def placeM (s : List MV) (st : Bs) : Pm × Bs := (⟨false, 2 ^ st.sets.length, 2 ^ st.sets.length⟩, ⟨st.sets ++ [s], st.fol ++ [0]⟩)
def catP (p q : Pm) : Pm := ⟨p.null && q.null, if p.null = true then p.fi ||| q.fi else p.fi, if q.null = true then p.la ||| q.la else q.la⟩
def altP (p q : Pm) : Pm := ⟨p.null || q.null, p.fi ||| q.fi, p.la ||| q.la⟩
def linkB (st : Bs) (la fi : Nat) : Bs := ⟨st.sets, linkM st.fol la fi⟩
def repP (op : Int) (q : Pm × Bs) : Pm × Bs := (⟨if op = 5 then q.1.null else true, q.1.fi, q.1.la⟩, if op = 6 then q.2 else linkB q.2 q.1.la q.1.fi)
mutual
def partM : Rx → Bs → Pm × Bs
  | .mk op a b c d kids, st => if cnt (.mk op a b c d kids) = 0 then (p0M, st) else if op = 1 then placeM (st4 a b c d) st else if op = 2 then catM kids p0M st else if op = 3 then altM kids ⟨false, 0, 0⟩ st else rep1M op kids st
def catM : List Rx → Pm → Bs → Pm × Bs
  | [], p, st => (p, st)
  | k :: r, p, st => catM r (catP p (partM k st).1) (linkB (partM k st).2 p.la (partM k st).1.fi)
def altM : List Rx → Pm → Bs → Pm × Bs
  | [], p, st => (p, st)
  | k :: r, p, st => altM r (altP p (partM k st).1) (partM k st).2
def rep1M : Int → List Rx → Bs → Pm × Bs
  | _, [], st => (p0M, st)
  | op, k :: _, st => repP op (partM k st)
end
theorem repP_sets (op : Int) (q : Pm × Bs) : (repP op q).2.sets = q.2.sets := by
  show (if op = 6 then q.2 else linkB q.2 q.1.la q.1.fi).sets = _
  split <;> rfl
theorem linkB_len (st : Bs) (la fi : Nat) : (linkB st la fi).sets.length = st.sets.length := rfl
mutual
theorem partM_len : ∀ (x : Rx) (st : Bs), (partM x st).2.sets.length = st.sets.length + cnt x
  | .mk op a b c d kids, st => by
    rw [partM]
    by_cases h0 : cnt (.mk op a b c d kids) = 0
    · rw [if_pos h0, h0]; rfl
    rw [if_neg h0]
    rw [cnt] at h0 ⊢
    by_cases h1 : op = 1
    · rw [if_pos h1, if_pos h1]; simp [placeM]
    rw [if_neg h1] at h0
    rw [if_neg h1, if_neg h1]
    by_cases h2 : op = 2
    · rw [if_pos h2, if_pos (.inl h2)]; exact catM_len kids _ st
    by_cases h3 : op = 3
    · rw [if_neg h2, if_pos h3, if_pos (.inr h3)]; exact altM_len kids _ st
    have h23 : ¬ (op = 2 ∨ op = 3) := fun h => h.elim h2 h3
    rw [if_neg h23] at h0
    rw [if_neg h2, if_neg h3, if_neg h23]
    by_cases h4 : op = 4 ∨ op = 5 ∨ op = 6
    · rw [if_pos h4]; exact rep1M_len op kids st
    · rw [if_neg h4] at h0; exact (h0 rfl).elim
theorem catM_len : ∀ (l : List Rx) (p : Pm) (st : Bs), (catM l p st).2.sets.length = st.sets.length + cntL l
  | [], p, st => by rw [catM, cntL]; rfl
  | k :: r, p, st => by rw [catM, cntL, catM_len r, linkB_len, partM_len k st, Nat.add_assoc]
theorem altM_len : ∀ (l : List Rx) (p : Pm) (st : Bs), (altM l p st).2.sets.length = st.sets.length + cntL l
  | [], p, st => by rw [altM, cntL]; rfl
  | k :: r, p, st => by rw [altM, cntL, altM_len r, partM_len k st, Nat.add_assoc]
theorem rep1M_len : ∀ (op : Int) (l : List Rx) (st : Bs), (rep1M op l st).2.sets.length = st.sets.length + cnt1 l
  | op, [], st => by rw [rep1M, cnt1]; rfl
  | op, k :: r, st => by
    rw [rep1M, cnt1, repP_sets]
    exact partM_len k st
end
def Reg (ms : List Mk) (x : Rx) (id off : Nat) : Prop := x.lk = [] ∨ ∃ j mj, findK id off ms = some j ∧ ms[j]? = some mj ∧ mj.x = x
theorem reg_done {ms : List Mk} (h : SInv ms []) {n : Nat} {m : Mk} (hm : ms[n]? = some m) : m.done = true := by
  cases hd : m.done with
  | true => rfl
  | false => have := h.und n m hm hd; cases this
theorem reg_known {ms : List Mk} (h : SInv ms []) {x : Rx} {id off : Nat} (hr : Reg ms x id off) : Known ms x id off := by
  rcases hr with hr | ⟨j, mj, h1, h2, h3⟩
  · exact .inl hr
  · have := h.dn mj (List.mem_of_getElem? h2) (reg_done h h2)
    rw [h3] at this
    exact .inr ⟨j, mj, h1, h2, this.2.1, this.2.2⟩
theorem reg_kid {Mb : MH} {mid : Nat} {mv : MV} {ms : List Mk} (h : SvB Mb mid mv ms) {op a b c d : Int} {kids : List Rx} {id off : Nat} {t : T MV} {kv : MV} (hg : Mb.get id = some (.cs false 6 t)) (hc : cget t (off + 5) = some kv) (hr : Reg ms (.mk op a b c d kids) id off) {i : Nat} {y : Rx} (hy : (Rx.mk op a b c d kids).lk[i]? = some y) : Reg ms y (sid kv) (soff kv + i * 6) := by
  rcases hr with hr | ⟨j, mj, h1, h2, h3⟩
  · rw [hr] at hy; simp at hy
  · obtain ⟨m', e1, e2, e3⟩ := findK_some h1
    rw [h2] at e1
    cases e1
    have hmem := List.mem_of_getElem? h2
    have hdn := h.inv.dn mj hmem (reg_done h.inv h2)
    obtain ⟨_, k1, k2, k3, k4⟩ := h.nodes mj hmem
    rw [h3] at hdn k4
    obtain ⟨t', kv', q1, q2, q3, q4⟩ := k4 (fun e => by rw [e] at hy; simp at hy)
    rw [e2, hg] at q1
    cases q1
    rw [e3, hc] at q2
    cases q2
    have := h.inv.reg mj hmem i y (by rw [hdn.1]; exact (List.getElem?_eq_some_iff.1 hy).1) (by rw [h3]; exact hy)
    unfold place at this
    rw [q3, q4] at this
    exact this
theorem push_at {M : MH} {o : MO} {j : Nat} (h : (j == M.n) = true) : (M.push o).get j = some o := by rw [beq_iff_eq] at h; subst h; exact push_new _
theorem plc_set_at {c : T MV} {off : Nat} {a l : List MV} {x y z : MV} {k : Nat} (N : Nat) (h : At c off (a ++ ([x, y, z] ++ l))) (hk : k = off + a.length) : At (setN (plc N) k c) off (a ++ (plc N ++ l)) := by
  have h1 := h.set' (k := k) a.length (.i .u64 ((wd N 0 : Nat) : Int)) (by simp) hk
  have h2 := h1.set' (k := k + 1) (a.length + 1) (.i .u64 ((wd N 1 : Nat) : Int)) (by simp) (by omega)
  have h3 := h2.set' (k := k + 2) (a.length + 2) (.i .u64 ((wd N 2 : Nat) : Int)) (by simp) (by omega)
  rw [List.set_append_right _ _ (Nat.le_refl _), List.set_append_right _ _ (by omega), List.set_append_right _ _ (by omega), Nat.sub_self, show a.length + 1 - a.length = 1 from by omega, show a.length + 2 - a.length = 2 from by omega] at h3
  exact h3
theorem pm_fi {c : T MV} {p : Pm} (N : Nat) (h : At c 0 p.cells) : At (setN (plc N) 1 c) 0 (Pm.cells { p with fi := N }) := plc_set_at (a := [.b p.null]) (l := plc p.la) N h rfl
theorem pm_la {c : T MV} {p : Pm} (N : Nat) (h : At c 0 p.cells) : At (setN (plc N) 4 c) 0 (Pm.cells { p with la := N }) := plc_set_at (a := .b p.null :: plc p.fi) (l := []) N h rfl
theorem pm_null {c : T MV} {p : Pm} (b : Bool) (h : At c 0 p.cells) : At (setN [.b b] 0 c) 0 (Pm.cells { p with null := b }) := h.set' 0 _ (by simp [Pm.cells]) rfl
theorem pm_get {c : T MV} {p : Pm} (h : At c 0 p.cells) : cget c 0 = some (.b p.null) ∧ Ev.getN c 3 1 = some (plc p.fi) ∧ Ev.getN c 3 4 = some (plc p.la) ∧ Ev.getN c 7 0 = some p.cells := by
  refine ⟨h 0 _ rfl, ?_, ?_, h.getN⟩
  · have h1 : At c 0 ([.b p.null] ++ (plc p.fi ++ plc p.la)) := h
    exact h1.right.left.getN
  · have h1 : At c 0 ((.b p.null :: plc p.fi) ++ plc p.la) := h
    exact h1.right.getN
theorem pm_has {c : T MV} {p : Pm} (h : At c 0 p.cells) : hasB c 1 0 = true ∧ hasB c 3 1 = true ∧ hasB c 3 4 = true ∧ hasB c 7 0 = true :=
  ⟨has_at h (by omega) (by show _ ≤ 7; omega), has_at h (by omega) (by show _ ≤ 7; omega), has_at h (by omega) (by show _ ≤ 7; omega), has_at h (by omega) (by show _ ≤ 7; omega)⟩
theorem BdO.keep7 {Mb M M' : MH} {bx mid : Nat} {mv pv : MV} {ms : List Mk} {c : T MV} {sv fv : MV} {b : Bs} (h : BdO Mb M bx mid mv pv ms c sv fv b) {L : Nat} {c0 : T MV} (hL : M.get L = some (.cs false 7 c0)) (hLn : Mb.n ≤ L) (x : Chg (fun j => j = L) M M') : BdO Mb M' bx mid mv pv ms c sv fv b := by
  have e1 := h.bl
  have e2 := x.n
  have e3 := h.ext.n
  refine ⟨h.srv, ⟨by omega, x.lo.trans h.ext.lo, fun j hj => (x.old j (by omega) (by omega)).trans (h.ext.old j hj)⟩, (x.old bx e1.2 (fun e => by rw [← e, h.g] at hL; cases hL)).trans h.g, ⟨e1.1, by omega⟩, h.at_, ?_, ?_, h.len⟩
  · exact h.rs.keep e2 fun a b n d e => by
      obtain ⟨cc, q1, q2, q3⟩ := own_id h.rs e
      exact x.old a q3 fun e => by rw [e, hL] at q1; cases q1
  · exact h.rf.keep e2 fun a b n d e => by
      obtain ⟨cc, q1, q2, q3⟩ := own_id h.rf e
      exact x.old a q3 fun e => by rw [e, hL] at q1; cases q1
theorem Bd.keep7 {Mb M M' : MH} {bx mid : Nat} {mv pv : MV} {ms : List Mk} {b : Bs} (h : Bd Mb M bx mid mv pv ms b) {L : Nat} {c0 : T MV} (hL : M.get L = some (.cs false 7 c0)) (hLn : Mb.n ≤ L) (x : Chg (fun j => j = L) M M') : Bd Mb M' bx mid mv pv ms b := by
  obtain ⟨c, sv, fv, h⟩ := h
  exact ⟨c, sv, fv, h.keep7 hL hLn x⟩
theorem Bd.more {Mb M M' : MH} {bx mid : Nat} {mv pv : MV} {ms : List Mk} {b : Bs} (h : Bd Mb M bx mid mv pv ms b) (k : Ext M M') : Bd Mb M' bx mid mv pv ms b := by
  obtain ⟨c, sv, fv, h⟩ := h
  exact ⟨c, sv, fv, h.more k⟩
theorem Bd.ext {Mb M : MH} {bx mid : Nat} {mv pv : MV} {ms : List Mk} {b : Bs} (h : Bd Mb M bx mid mv pv ms b) : Ext Mb M := by
  obtain ⟨c, sv, fv, h⟩ := h
  exact h.ext
theorem Bd.len {Mb M : MH} {bx mid : Nat} {mv pv : MV} {ms : List Mk} {b : Bs} (h : Bd Mb M bx mid mv pv ms b) : b.fol.length = b.sets.length := by
  obtain ⟨c, sv, fv, h⟩ := h
  exact h.len
theorem Fr7.chg {M0 M M' : MH} (h : Fr7 M0 M) {L : Nat} (hL : M0.n ≤ L) (x : Chg (fun j => j = L) M M') : Fr7 M0 M' := ⟨Nat.le_trans h.n x.n, x.lo.trans h.lo, fun j c hj e => (x.old j (Nat.lt_of_lt_of_le hj h.n) (by omega)).trans (h.old j c hj e)⟩
def z7 : List MV := [.b false, .i .u64 0, .i .u64 0, .i .u64 0, .i .u64 0, .i .u64 0, .i .u64 0]
def PartOk (Mb : MH) (bx mid : Nat) (mv pv : MV) (ms : List Mk) (x : Rx) : Prop := ∀ (M : MH) (st : Bs) (id off : Nat), Bd Mb M bx mid mv pv ms st → NodeAt Mb x id off → Reg ms x id off → st.sets.length + cnt x ≤ 150 →
  Cp fns 25 [.p bx 0, .p id off] M fun m M' => m = .ag (partM x st).1.cells ∧ Bd Mb M' bx mid mv pv ms (partM x st).2 ∧ Fr7 M M'
theorem cat_end {f : Fr} {M : MH} {L5 L7 : Nat} {c5 c7 : T MV} {p q : Pm} {Q : Post} (hlo : M.lo ≤ M.n) (h5 : X.ev f (.t q5) = .p L5 0) (h7 : X.ev f (.t q7) = .p L7 0) (hl5 : M.lo ≤ L5) (hn5 : L5 < M.n) (hn7 : L7 < M.n) (hne : L7 ≠ L5) (e5 : M.get L5 = some (.cs false 7 c5)) (a5 : At c5 0 p.cells) (e7 : M.get L7 = some (.cs false 7 c7)) (a7 : At c7 0 q.cells)
    (hQ : ∀ f' M' c', X.ev f' (.t q0) = X.ev f (.t q0) → X.ev f' (.t q1) = X.ev f (.t q1) → f'.get q4 = f.get q4 → X.ev f' (.t q5) = X.ev f (.t q5) → X.ev f' (.t q10) = X.ev f (.t q10) → X.ev f' (.t q11) = X.ev f (.t q11) → Chg (fun j => j = L5) M M' → M'.get L5 = some (.cs false 7 c') → At c' 0 (Pm.cells ⟨p.null && q.null, p.fi, if q.null = true then p.la ||| q.la else q.la⟩) → Q .norm f' M') : Wp fns K46_1 f M Q := by
  obtain ⟨v1, v2, v3, v4⟩ := pm_get a5
  obtain ⟨w1, w2, w3, w4⟩ := pm_get a7
  obtain ⟨b1, b2, b3, b4⟩ := pm_has a5
  have hst : ∀ N, stOk 3 (.ag (plc N)) = true := fun _ => rfl
  have hcl : ∀ N, MV.cells (.ag (plc N)) = plc N := fun _ => rfl
  simp only [q5, q7] at h5 h7
  have tail : ∀ (f2 : Fr) (M2 : MH) (c2 : T MV) (la : Nat), X.ev f2 (.t q5) = .p L5 0 → X.ev f2 (.t q7) = .p L7 0 → X.ev f2 (.t q0) = X.ev f (.t q0) → X.ev f2 (.t q1) = X.ev f (.t q1) → f2.get q4 = f.get q4 → X.ev f2 (.t q10) = X.ev f (.t q10) → X.ev f2 (.t q11) = X.ev f (.t q11) → Chg (fun j => j = L5) M M2 → M2.get L5 = some (.cs false 7 c2) → At c2 0 (Pm.cells { p with la := la }) → la = (if q.null = true then p.la ||| q.la else q.la) → Wp fns K46_0 f2 M2 Q := by
    intro f2 M2 c2 la k5 k7 k0 k1 k4 k10 k11 x2 g2 a2 hla
    subst hla
    obtain ⟨u1, _, _, _⟩ := pm_get a2
    have u1 : cget c2 0 = some (.b p.null) := u1
    obtain ⟨z1, _, _, _⟩ := pm_has a2
    have g7 := (x2.old L7 hn7 hne).trans e7
    have n2 := x2.n
    have l2 := x2.lo
    have fin := fun b => pm_null b a2
    simp only [q5, q7] at k5 k7
    unfold K46_0
    cases hp : p.null with
    | false =>
      rw [hp] at u1
      simp (maxSteps := 4000000) (disch := first | omega | assumption | (simp only [bxS, bxV, stOk, Nat.reduceBEq, Nat.reduceEqDiff, Nat.reduceAdd]; done) | (simp only [bxU]; omega) | ((try apply has_setN); apply has_ofL; simp only [bxL]; omega)) only [↓bxD, bxP, bxQ, bxQ2, Nat.reduceBEq, reduceCtorEq, Nat.reduceAdd, Nat.reduceSub, Nat.reduceMul, Nat.reduceLeDiff, Nat.reduceLT, bxR, k5, k7, g2, g7, u1, w1, cells_b, u1, hp]
      have := fin (p.null && q.null)
      rw [hp, Bool.false_and] at this
      refine hQ _ _ _ (by rw [← k0]; simp (maxSteps := 4000000) (disch := first | omega | assumption | (simp only [bxS, bxV, stOk, Nat.reduceBEq, Nat.reduceEqDiff, Nat.reduceAdd]; done) | (simp only [bxU]; omega) | ((try apply has_setN); apply has_ofL; simp only [bxL]; omega)) only [↓bxD, bxP, bxQ, bxQ2, Nat.reduceBEq, reduceCtorEq, Nat.reduceAdd, Nat.reduceSub, Nat.reduceMul, Nat.reduceLeDiff, Nat.reduceLT, bxR, k5, k7, g2, g7, u1, w1, cells_b]) (by rw [← k1]; simp (maxSteps := 4000000) (disch := first | omega | assumption | (simp only [bxS, bxV, stOk, Nat.reduceBEq, Nat.reduceEqDiff, Nat.reduceAdd]; done) | (simp only [bxU]; omega) | ((try apply has_setN); apply has_ofL; simp only [bxL]; omega)) only [↓bxD, bxP, bxQ, bxQ2, Nat.reduceBEq, reduceCtorEq, Nat.reduceAdd, Nat.reduceSub, Nat.reduceMul, Nat.reduceLeDiff, Nat.reduceLT, bxR, k5, k7, g2, g7, u1, w1, cells_b]) (by rw [← k4]; simp (maxSteps := 4000000) (disch := first | omega | assumption | (simp only [bxS, bxV, stOk, Nat.reduceBEq, Nat.reduceEqDiff, Nat.reduceAdd]; done) | (simp only [bxU]; omega) | ((try apply has_setN); apply has_ofL; simp only [bxL]; omega)) only [↓bxD, bxP, bxQ, bxQ2, Nat.reduceBEq, reduceCtorEq, Nat.reduceAdd, Nat.reduceSub, Nat.reduceMul, Nat.reduceLeDiff, Nat.reduceLT, bxR, k5, k7, g2, g7, u1, w1, cells_b, get_set]) (by simp only [q5]; rw [h5, ← k5]; simp (maxSteps := 4000000) (disch := first | omega | assumption | (simp only [bxS, bxV, stOk, Nat.reduceBEq, Nat.reduceEqDiff, Nat.reduceAdd]; done) | (simp only [bxU]; omega) | ((try apply has_setN); apply has_ofL; simp only [bxL]; omega)) only [↓bxD, bxP, bxQ, bxQ2, Nat.reduceBEq, reduceCtorEq, Nat.reduceAdd, Nat.reduceSub, Nat.reduceMul, Nat.reduceLeDiff, Nat.reduceLT, bxR, k5, k7, g2, g7, u1, w1, cells_b]) (by rw [← k10]; simp (maxSteps := 4000000) (disch := first | omega | assumption | (simp only [bxS, bxV, stOk, Nat.reduceBEq, Nat.reduceEqDiff, Nat.reduceAdd]; done) | (simp only [bxU]; omega) | ((try apply has_setN); apply has_ofL; simp only [bxL]; omega)) only [↓bxD, bxP, bxQ, bxQ2, Nat.reduceBEq, reduceCtorEq, Nat.reduceAdd, Nat.reduceSub, Nat.reduceMul, Nat.reduceLeDiff, Nat.reduceLT, bxR, k5, k7, g2, g7, u1, w1, cells_b]) (by rw [← k11]; simp (maxSteps := 4000000) (disch := first | omega | assumption | (simp only [bxS, bxV, stOk, Nat.reduceBEq, Nat.reduceEqDiff, Nat.reduceAdd]; done) | (simp only [bxU]; omega) | ((try apply has_setN); apply has_ofL; simp only [bxL]; omega)) only [↓bxD, bxP, bxQ, bxQ2, Nat.reduceBEq, reduceCtorEq, Nat.reduceAdd, Nat.reduceSub, Nat.reduceMul, Nat.reduceLeDiff, Nat.reduceLT, bxR, k5, k7, g2, g7, u1, w1, cells_b]) (x2.set _ (.inl rfl)) (set_same _ _) ?_
      rw [hp, Bool.false_and]
      exact this
    | true =>
      rw [hp] at u1
      simp (maxSteps := 4000000) (disch := first | omega | assumption | (simp only [bxS, bxV, stOk, Nat.reduceBEq, Nat.reduceEqDiff, Nat.reduceAdd]; done) | (simp only [bxU]; omega) | ((try apply has_setN); apply has_ofL; simp only [bxL]; omega)) only [↓bxD, bxP, bxQ, bxQ2, Nat.reduceBEq, reduceCtorEq, Nat.reduceAdd, Nat.reduceSub, Nat.reduceMul, Nat.reduceLeDiff, Nat.reduceLT, bxR, k5, k7, g2, g7, u1, w1, cells_b, u1, hp]
      have := fin (p.null && q.null)
      rw [hp, Bool.true_and] at this
      refine hQ _ _ _ (by rw [← k0]; simp (maxSteps := 4000000) (disch := first | omega | assumption | (simp only [bxS, bxV, stOk, Nat.reduceBEq, Nat.reduceEqDiff, Nat.reduceAdd]; done) | (simp only [bxU]; omega) | ((try apply has_setN); apply has_ofL; simp only [bxL]; omega)) only [↓bxD, bxP, bxQ, bxQ2, Nat.reduceBEq, reduceCtorEq, Nat.reduceAdd, Nat.reduceSub, Nat.reduceMul, Nat.reduceLeDiff, Nat.reduceLT, bxR, k5, k7, g2, g7, u1, w1, cells_b]) (by rw [← k1]; simp (maxSteps := 4000000) (disch := first | omega | assumption | (simp only [bxS, bxV, stOk, Nat.reduceBEq, Nat.reduceEqDiff, Nat.reduceAdd]; done) | (simp only [bxU]; omega) | ((try apply has_setN); apply has_ofL; simp only [bxL]; omega)) only [↓bxD, bxP, bxQ, bxQ2, Nat.reduceBEq, reduceCtorEq, Nat.reduceAdd, Nat.reduceSub, Nat.reduceMul, Nat.reduceLeDiff, Nat.reduceLT, bxR, k5, k7, g2, g7, u1, w1, cells_b]) (by rw [← k4]; simp (maxSteps := 4000000) (disch := first | omega | assumption | (simp only [bxS, bxV, stOk, Nat.reduceBEq, Nat.reduceEqDiff, Nat.reduceAdd]; done) | (simp only [bxU]; omega) | ((try apply has_setN); apply has_ofL; simp only [bxL]; omega)) only [↓bxD, bxP, bxQ, bxQ2, Nat.reduceBEq, reduceCtorEq, Nat.reduceAdd, Nat.reduceSub, Nat.reduceMul, Nat.reduceLeDiff, Nat.reduceLT, bxR, k5, k7, g2, g7, u1, w1, cells_b, get_set]) (by simp only [q5]; rw [h5, ← k5]; simp (maxSteps := 4000000) (disch := first | omega | assumption | (simp only [bxS, bxV, stOk, Nat.reduceBEq, Nat.reduceEqDiff, Nat.reduceAdd]; done) | (simp only [bxU]; omega) | ((try apply has_setN); apply has_ofL; simp only [bxL]; omega)) only [↓bxD, bxP, bxQ, bxQ2, Nat.reduceBEq, reduceCtorEq, Nat.reduceAdd, Nat.reduceSub, Nat.reduceMul, Nat.reduceLeDiff, Nat.reduceLT, bxR, k5, k7, g2, g7, u1, w1, cells_b]) (by rw [← k10]; simp (maxSteps := 4000000) (disch := first | omega | assumption | (simp only [bxS, bxV, stOk, Nat.reduceBEq, Nat.reduceEqDiff, Nat.reduceAdd]; done) | (simp only [bxU]; omega) | ((try apply has_setN); apply has_ofL; simp only [bxL]; omega)) only [↓bxD, bxP, bxQ, bxQ2, Nat.reduceBEq, reduceCtorEq, Nat.reduceAdd, Nat.reduceSub, Nat.reduceMul, Nat.reduceLeDiff, Nat.reduceLT, bxR, k5, k7, g2, g7, u1, w1, cells_b]) (by rw [← k11]; simp (maxSteps := 4000000) (disch := first | omega | assumption | (simp only [bxS, bxV, stOk, Nat.reduceBEq, Nat.reduceEqDiff, Nat.reduceAdd]; done) | (simp only [bxU]; omega) | ((try apply has_setN); apply has_ofL; simp only [bxL]; omega)) only [↓bxD, bxP, bxQ, bxQ2, Nat.reduceBEq, reduceCtorEq, Nat.reduceAdd, Nat.reduceSub, Nat.reduceMul, Nat.reduceLeDiff, Nat.reduceLT, bxR, k5, k7, g2, g7, u1, w1, cells_b]) (x2.set _ (.inl rfl)) (set_same _ _) ?_
      rw [hp, Bool.true_and]
      exact this
  unfold K46_1
  simp (maxSteps := 4000000) (disch := first | omega | assumption | (simp only [bxS, bxV, stOk, Nat.reduceBEq, Nat.reduceEqDiff, Nat.reduceAdd]; done) | (simp only [bxU]; omega) | ((try apply has_setN); apply has_ofL; simp only [bxL]; omega)) only [↓bxD, bxP, bxQ, bxQ2, Nat.reduceBEq, reduceCtorEq, Nat.reduceAdd, Nat.reduceSub, Nat.reduceMul, Nat.reduceLeDiff, Nat.reduceLT, bxR, h5, h7, e5, e7, v3, w1, w3, map_ag, hcl]
  cases hq : q.null with
  | true =>
    simp (maxSteps := 4000000) (disch := first | omega | assumption | (simp only [bxS, bxV, stOk, Nat.reduceBEq, Nat.reduceEqDiff, Nat.reduceAdd]; done) | (simp only [bxU]; omega) | ((try apply has_setN); apply has_ofL; simp only [bxL]; omega)) only [↓bxD, bxP, bxQ, bxQ2, Nat.reduceBEq, reduceCtorEq, Nat.reduceAdd, Nat.reduceSub, Nat.reduceMul, Nat.reduceLeDiff, Nat.reduceLT, bxR, h5, h7, e5, e7, v3, w1, w3, map_ag, hcl, hq]
    refine bindP_call (with_any hlo) ?_
    rintro m M2 ⟨rfl, hx2⟩
    have n2 := hx2.n
    have l2 := hx2.lo
    have e52 := (hx2.old L5 hn5).trans e5
    have hst2 := hst (p.la ||| q.la)
    simp (maxSteps := 4000000) (disch := first | omega | assumption | (simp only [bxS, bxV, stOk, Nat.reduceBEq, Nat.reduceEqDiff, Nat.reduceAdd]; done) | (simp only [bxU]; omega) | ((try apply has_setN); apply has_ofL; simp only [bxL]; omega)) only [↓bxD, bxP, bxQ, bxQ2, Nat.reduceBEq, reduceCtorEq, Nat.reduceAdd, Nat.reduceSub, Nat.reduceMul, Nat.reduceLeDiff, Nat.reduceLT, bxR, h5, h7, e5, e7, v3, w1, w3, map_ag, hcl, e52]
    generalize hM3 : MH.set _ _ _ = M3
    have x3 : Chg (fun j => j = L5) M M3 := by rw [← hM3]; exact (Chg.of hx2).set _ (.inl rfl)
    have g3 : M3.get L5 = some (.cs false 7 (setN (plc (p.la ||| q.la)) 4 c5)) := by rw [← hM3]; exact set_same _ _
    clear hM3
    exact tail _ _ _ (p.la ||| q.la) (by simp only [bxP, bxQ, bxQ2, reduceCtorEq, h5, h7, e5, e7, v3, w1, w3, map_ag, hcl]) (by simp only [bxP, bxQ, bxQ2, reduceCtorEq, h5, h7, e5, e7, v3, w1, w3, map_ag, hcl]) (by simp only [bxP, bxQ, bxQ2, reduceCtorEq, h5, h7, e5, e7, v3, w1, w3, map_ag, hcl]) (by simp only [bxP, bxQ, bxQ2, reduceCtorEq, h5, h7, e5, e7, v3, w1, w3, map_ag, hcl]) (by simp (maxSteps := 4000000) (disch := first | omega | assumption | (simp only [bxS, bxV, stOk, Nat.reduceBEq, Nat.reduceEqDiff, Nat.reduceAdd]; done) | (simp only [bxU]; omega) | ((try apply has_setN); apply has_ofL; simp only [bxL]; omega)) only [↓bxD, bxP, bxQ, bxQ2, Nat.reduceBEq, reduceCtorEq, Nat.reduceAdd, Nat.reduceSub, Nat.reduceMul, Nat.reduceLeDiff, Nat.reduceLT, bxR, h5, h7, e5, e7, v3, w1, w3, map_ag, hcl, get_set]) (by simp only [bxP, bxQ, bxQ2, reduceCtorEq, h5, h7, e5, e7, v3, w1, w3, map_ag, hcl]) (by simp only [bxP, bxQ, bxQ2, reduceCtorEq, h5, h7, e5, e7, v3, w1, w3, map_ag, hcl]) x3 g3 (pm_la _ a5) (by rw [hq, if_pos rfl])
  | false =>
    have hst2 := hst q.la
    simp (maxSteps := 4000000) (disch := first | omega | assumption | (simp only [bxS, bxV, stOk, Nat.reduceBEq, Nat.reduceEqDiff, Nat.reduceAdd]; done) | (simp only [bxU]; omega) | ((try apply has_setN); apply has_ofL; simp only [bxL]; omega)) only [↓bxD, bxP, bxQ, bxQ2, Nat.reduceBEq, reduceCtorEq, Nat.reduceAdd, Nat.reduceSub, Nat.reduceMul, Nat.reduceLeDiff, Nat.reduceLT, bxR, h5, h7, e5, e7, v3, w1, w3, map_ag, hcl, hq]
    generalize hM3 : MH.set _ _ _ = M3
    have x3 : Chg (fun j => j = L5) M M3 := by rw [← hM3]; exact (Chg.refl (fun j => j = L5) M).set _ (.inl rfl)
    have g3 : M3.get L5 = some (.cs false 7 (setN (plc q.la) 4 c5)) := by rw [← hM3]; exact set_same _ _
    clear hM3
    exact tail _ _ _ q.la (by simp only [bxP, bxQ, bxQ2, reduceCtorEq, h5, h7, e5, e7, v3, w1, w3, map_ag, hcl]) (by simp only [bxP, bxQ, bxQ2, reduceCtorEq, h5, h7, e5, e7, v3, w1, w3, map_ag, hcl]) (by simp only [bxP, bxQ, bxQ2, reduceCtorEq, h5, h7, e5, e7, v3, w1, w3, map_ag, hcl]) (by simp only [bxP, bxQ, bxQ2, reduceCtorEq, h5, h7, e5, e7, v3, w1, w3, map_ag, hcl]) (by simp (maxSteps := 4000000) (disch := first | omega | assumption | (simp only [bxS, bxV, stOk, Nat.reduceBEq, Nat.reduceEqDiff, Nat.reduceAdd]; done) | (simp only [bxU]; omega) | ((try apply has_setN); apply has_ofL; simp only [bxL]; omega)) only [↓bxD, bxP, bxQ, bxQ2, Nat.reduceBEq, reduceCtorEq, Nat.reduceAdd, Nat.reduceSub, Nat.reduceMul, Nat.reduceLeDiff, Nat.reduceLT, bxR, h5, h7, e5, e7, v3, w1, w3, map_ag, hcl, get_set]) (by simp only [bxP, bxQ, bxQ2, reduceCtorEq, h5, h7, e5, e7, v3, w1, w3, map_ag, hcl]) (by simp only [bxP, bxQ, bxQ2, reduceCtorEq, h5, h7, e5, e7, v3, w1, w3, map_ag, hcl]) x3 g3 (pm_la _ a5) (by rw [hq]; rfl)
theorem cat_any {Mb M : MH} {bx mid : Nat} {mv pv kv : MV} {ms : List Mk} {st : Bs} {kids : List Rx} (hlo : Mb.lo ≤ Mb.n) (hP : ∀ y ∈ kids, PartOk Mb bx mid mv pv ms y) (h : Bd Mb M bx mid mv pv ms st) (k1 : isSl kv = true) (k2 : slen kv = kids.length) (k3 : NodesAt Mb kids (sid kv) (soff kv)) (k4 : ∀ i y, kids[i]? = some y → Reg ms y (sid kv) (soff kv + i * 6)) (hb : st.sets.length + cntL kids ≤ 150) (hkl : kids.length ≤ 1000000000) :
    Cp fns 46 [.p bx 0, kv] M fun m M' => m = .ag (catM kids p0M st).1.cells ∧ Bd Mb M' bx mid mv pv ms (catM kids p0M st).2 ∧ Fr7 M M' := by
  have en := h.ext.n
  have el := h.ext.lo
  refine Cp_call (fn := F46) (by kernel_rfl) (Nat.le_of_ble_eq_true rfl) ?_
  show Wp fns B46 (T.set q1 (some kv) (T.set q0 (some (.p bx 0)) T.lf)) M _
  unfold B46
  have f1 : fillM [(0, 1, MV.b true)] [.b false, .i .u64 0, .i .u64 0, .i .u64 0, .i .u64 0, .i .u64 0, .i .u64 0] = some [.b true, .i .u64 0, .i .u64 0, .i .u64 0, .i .u64 0, .i .u64 0, .i .u64 0] := rfl
  simp (maxSteps := 4000000) (disch := first | omega | assumption | (simp only [bxS, bxV, stOk, Nat.reduceBEq, Nat.reduceEqDiff, Nat.reduceAdd]; done) | (simp only [bxU]; omega) | ((try apply has_setN); apply has_ofL; simp only [bxL]; omega)) only [↓bxD, bxP, bxQ, bxQ2, Nat.reduceBEq, reduceCtorEq, Nat.reduceAdd, Nat.reduceSub, Nat.reduceMul, Nat.reduceLeDiff, Nat.reduceLT, bxR, k1, k2, len_sl, f1, push_at]
  generalize hM1 : MH.set _ _ _ = M1
  have g0 : M1.get M.n = some (.cs false 7 (ofL z7 0)) := by rw [← hM1, set_ne (by omega), push_old (by show M.n < M.n + 1; omega)]; exact push_new _
  have g1 : M1.get (M.n + 1) = some (.cs false 7 (setN p0M.cells 0 (ofL z7 0))) := by rw [← hM1]; exact set_same _ _
  have hx : Ext M M1 := by rw [← hM1]; exact ((Ext.push M _).trans (.push _ _)).set _ (by omega)
  have hn : M1.n = M.n + 2 := by rw [← hM1]; rfl
  have hl := hx.lo
  clear hM1
  refine Wp_inv (σ := Nat × Pm × Bs) (fun s f M' => s.1 ≤ kids.length ∧ X.ev f (.t q0) = .p bx 0 ∧ X.ev f (.t q1) = kv ∧ f.get q4 = some (.p M.n 0) ∧ X.ev f (.t q5) = .p (M.n + 1) 0 ∧ X.ev f (.t q10) = .i .i64 (kids.length : Int) ∧ X.ev f (.t q11) = .i .i64 (s.1 : Int) ∧ Bd Mb M' bx mid mv pv ms s.2.2 ∧ (Fr7 M M' ∧ M1.n ≤ M'.n ∧ M'.get M.n = some (.cs false 7 (ofL z7 0))) ∧ (∃ c5, M'.get (M.n + 1) = some (.cs false 7 c5) ∧ At c5 0 s.2.1.cells) ∧ catM (kids.drop s.1) s.2.1 s.2.2 = catM kids p0M st ∧ s.2.2.sets.length + cntL (kids.drop s.1) ≤ 150) (fun s => kids.length - s.1) ?_ (0, p0M, st) ?_
  · rintro ⟨i, p, b⟩ f M' ⟨hi, h0, h1, h4, h5, h10, h11, hB, ⟨hF, n1, e0⟩, ⟨c5, e5, a5⟩, hc, hcb⟩
    simp only at hi h11 hB a5 hc hcb
    have l1 := hF.lo
    have h4' := ev_get h4
    simp only [q0, q1, q4, q5, q10, q11] at h0 h1 h4 h4' h5 h10 h11
    have hc7 : ∀ p : Pm, MV.cells (.ag p.cells) = p.cells := fun _ => rfl
    have hst7 : ∀ p : Pm, stOk 7 (.ag p.cells) = true := fun _ => rfl
    have hgp : ∀ (p : Pm) l, Ev.getN (setN p.cells 0 (ofL l 0)) 7 0 = some p.cells := fun p l => getN_setN' rfl
    unfold L46_4
    simp (maxSteps := 4000000) (disch := first | omega | assumption | (simp only [bxS, bxV, stOk, Nat.reduceBEq, Nat.reduceEqDiff, Nat.reduceAdd]; done) | (simp only [bxU]; omega) | ((try apply has_setN); apply has_ofL; simp only [bxL]; omega)) only [↓bxD, bxP, bxQ, bxQ2, Nat.reduceBEq, reduceCtorEq, Nat.reduceAdd, Nat.reduceSub, Nat.reduceMul, Nat.reduceLeDiff, Nat.reduceLT, bxR, h0, h1, h4', h5, h10, h11, k1, k2, push_at]
    refine condP_split (fun hlt => ?_) (fun hge => ?_)
    · have hik : i < kids.length := by omega
      obtain ⟨y, hy⟩ : ∃ y, kids[i]? = some y := ⟨_, List.getElem?_eq_getElem hik⟩
      have hyc : cntL (kids.drop i) = cnt y + cntL (kids.drop (i + 1)) := by rw [List.drop_eq_getElem_cons hik, (List.getElem?_eq_some_iff.1 hy).2]; rfl
      have hcs : catM (kids.drop i) p b = catM (kids.drop (i + 1)) (catP p (partM y b).1) (linkB (partM y b).2 p.la (partM y b).1.fi) := by rw [List.drop_eq_getElem_cons hik, (List.getElem?_eq_some_iff.1 hy).2]; rfl
      simp (maxSteps := 4000000) (disch := first | omega | assumption | (simp only [bxS, bxV, stOk, Nat.reduceBEq, Nat.reduceEqDiff, Nat.reduceAdd]; done) | (simp only [bxU]; omega) | ((try apply has_setN); apply has_ofL; simp only [bxL]; omega)) only [↓bxD, bxP, bxQ, bxQ2, Nat.reduceBEq, reduceCtorEq, Nat.reduceAdd, Nat.reduceSub, Nat.reduceMul, Nat.reduceLeDiff, Nat.reduceLT, bxR, h0, h1, h4', h5, h10, h11, k1, k2, push_at]
      show Wp fns K46_3 _ _ _
      unfold K46_3
      simp (maxSteps := 4000000) (disch := first | omega | assumption | (simp only [bxS, bxV, stOk, Nat.reduceBEq, Nat.reduceEqDiff, Nat.reduceAdd]; done) | (simp only [bxU]; omega) | ((try apply has_setN); apply has_ofL; simp only [bxL]; omega)) only [↓bxD, bxP, bxQ, bxQ2, Nat.reduceBEq, reduceCtorEq, Nat.reduceAdd, Nat.reduceSub, Nat.reduceMul, Nat.reduceLeDiff, Nat.reduceLT, bxR, h0, h1, h4', h5, h10, h11, k1, k2, push_at]
      refine bindP_call (hP y (List.mem_of_getElem? hy) M' b (sid kv) (soff kv + i * 6) hB (k3.get hy) (k4 i y hy) (by omega)) ?_
      rintro m M2 ⟨rfl, hB2, hF2⟩
      have n2 := hF2.n
      have l2 := hF2.lo
      have e52 := hF2.old _ _ (by omega) e5
      have hs7 := hst7 (partM y b).1
      simp (maxSteps := 4000000) (disch := first | omega | assumption | (simp only [bxS, bxV, stOk, Nat.reduceBEq, Nat.reduceEqDiff, Nat.reduceAdd]; done) | (simp only [bxU]; omega) | ((try apply has_setN); apply has_ofL; simp only [bxL]; omega)) only [↓bxD, bxP, bxQ, bxQ2, Nat.reduceBEq, reduceCtorEq, Nat.reduceAdd, Nat.reduceSub, Nat.reduceMul, Nat.reduceLeDiff, Nat.reduceLT, bxR, h0, h1, h4', h5, h10, h11, k1, k2, push_at, hc7]
      generalize hM3 : MH.set _ _ _ = M3
      have x3 : Ext M2 M3 := by rw [← hM3]; exact (Ext.push M2 _).set _ (Nat.le_refl _)
      have n3 : M3.n = M2.n + 1 := by rw [← hM3]; rfl
      have e7 : M3.get M2.n = some (.cs false 7 (setN (partM y b).1.cells 0 (ofL z7 0))) := by rw [← hM3]; exact set_same _ _
      have l3 := x3.lo
      clear hM3
      have a7 : At (setN (partM y b).1.cells 0 (ofL z7 0)) 0 (partM y b).1.cells := at_setN _ _ _
      obtain ⟨w1, w2, w3, w4⟩ := pm_get a7
      obtain ⟨v1, v2, v3, v4⟩ := pm_get a5
      have e53 := (x3.old (M.n + 1) (by omega)).trans e52
      have hB3 := hB2.more x3
      have hlen2 := hB3.len
      have hsl := partM_len y b
      simp (maxSteps := 4000000) (disch := first | omega | assumption | (simp only [bxS, bxV, stOk, Nat.reduceBEq, Nat.reduceEqDiff, Nat.reduceAdd]; done) | (simp only [bxU]; omega) | ((try apply has_setN); apply has_ofL; simp only [bxL]; omega)) only [↓bxD, bxP, bxQ, bxQ2, Nat.reduceBEq, reduceCtorEq, Nat.reduceAdd, Nat.reduceSub, Nat.reduceMul, Nat.reduceLeDiff, Nat.reduceLT, bxR, h0, h1, h4', h5, h10, h11, k1, k2, push_at, e52, v3, e7, w2, map_ag]
      refine bindP_call (link_any hB3 hlo (by omega)) ?_
      rintro m M4 ⟨hB4, hF4⟩
      have n4 := hF4.n
      have l4 := hF4.lo
      have e54 := hF4.old _ _ (by omega) e53
      have e74 := hF4.old _ _ (by omega) e7
      have hbn : Mb.n ≤ M.n + 1 := by omega
      have hst3 : stOk 3 (.ag (plc (p.fi ||| (partM y b).1.fi))) = true := rfl
      have hcl3 : ∀ N, MV.cells (.ag (plc N)) = plc N := fun _ => rfl
      obtain ⟨b1, b2, b3, b4⟩ := pm_has a5
      have hne : M2.n ≠ M.n + 1 := by omega
      have lB := hB4.ext.lo
      cases hp : p.null with
      | false =>
        simp (maxSteps := 4000000) (disch := first | omega | assumption | (simp only [bxS, bxV, stOk, Nat.reduceBEq, Nat.reduceEqDiff, Nat.reduceAdd]; done) | (simp only [bxU]; omega) | ((try apply has_setN); apply has_ofL; simp only [bxL]; omega)) only [↓bxD, bxP, bxQ, bxQ2, Nat.reduceBEq, reduceCtorEq, Nat.reduceAdd, Nat.reduceSub, Nat.reduceMul, Nat.reduceLeDiff, Nat.reduceLT, bxR, h0, h1, h4', h5, h10, h11, k1, k2, push_at, e54, v1, hp]
        show Wp fns K46_1 _ _ _
        generalize hf2 : (T.set _ _ _ : Fr) = f2
        obtain ⟨M5, hM5⟩ : ∃ M5, M4 = M5 := ⟨_, rfl⟩
        rw [show Wp fns K46_1 f2 M4 = Wp fns K46_1 f2 M5 from by rw [hM5]]
        have x5 : Chg (fun j => j = M.n + 1) M4 M5 := by rw [← hM5]; exact Chg.refl (fun j => j = M.n + 1) M4
        have e55 : M5.get (M.n + 1) = some (.cs false 7 c5) := by rw [← hM5]; exact e54
        clear hM5
        have n5 := x5.n
        have l5 := x5.lo
        have elo : M5.lo ≤ M5.n := by omega
        have elo2 : M5.lo ≤ M.n + 1 := by omega
        have k4 : f2.get q4 = some (.p M.n 0) := by rw [← hf2]; simp (maxSteps := 4000000) (disch := first | omega | assumption | (simp only [bxS, bxV, stOk, Nat.reduceBEq, Nat.reduceEqDiff, Nat.reduceAdd]; done) | (simp only [bxU]; omega) | ((try apply has_setN); apply has_ofL; simp only [bxL]; omega)) only [↓bxD, bxP, bxQ, bxQ2, Nat.reduceBEq, reduceCtorEq, Nat.reduceAdd, Nat.reduceSub, Nat.reduceMul, Nat.reduceLeDiff, Nat.reduceLT, bxR, h0, h1, h4', h5, h10, h11, k1, k2, push_at, get_set, h4]
        have k0 : X.ev f2 (.t q0) = .p bx 0 := by rw [← hf2]; simp (maxSteps := 4000000) (disch := first | omega | assumption | (simp only [bxS, bxV, stOk, Nat.reduceBEq, Nat.reduceEqDiff, Nat.reduceAdd]; done) | (simp only [bxU]; omega) | ((try apply has_setN); apply has_ofL; simp only [bxL]; omega)) only [↓bxD, bxP, bxQ, bxQ2, Nat.reduceBEq, reduceCtorEq, Nat.reduceAdd, Nat.reduceSub, Nat.reduceMul, Nat.reduceLeDiff, Nat.reduceLT, bxR, h0, h1, h4', h5, h10, h11, k1, k2, push_at]
        have k1 : X.ev f2 (.t q1) = kv := by rw [← hf2]; simp (maxSteps := 4000000) (disch := first | omega | assumption | (simp only [bxS, bxV, stOk, Nat.reduceBEq, Nat.reduceEqDiff, Nat.reduceAdd]; done) | (simp only [bxU]; omega) | ((try apply has_setN); apply has_ofL; simp only [bxL]; omega)) only [↓bxD, bxP, bxQ, bxQ2, Nat.reduceBEq, reduceCtorEq, Nat.reduceAdd, Nat.reduceSub, Nat.reduceMul, Nat.reduceLeDiff, Nat.reduceLT, bxR, h0, h1, h4', h5, h10, h11, k1, k2, push_at]
        have k5 : X.ev f2 (.t q5) = .p (M.n + 1) 0 := by rw [← hf2]; simp (maxSteps := 4000000) (disch := first | omega | assumption | (simp only [bxS, bxV, stOk, Nat.reduceBEq, Nat.reduceEqDiff, Nat.reduceAdd]; done) | (simp only [bxU]; omega) | ((try apply has_setN); apply has_ofL; simp only [bxL]; omega)) only [↓bxD, bxP, bxQ, bxQ2, Nat.reduceBEq, reduceCtorEq, Nat.reduceAdd, Nat.reduceSub, Nat.reduceMul, Nat.reduceLeDiff, Nat.reduceLT, bxR, h0, h1, h4', h5, h10, h11, k1, k2, push_at]
        have k7 : X.ev f2 (.t q7) = .p M2.n 0 := by rw [← hf2]; simp (maxSteps := 4000000) (disch := first | omega | assumption | (simp only [bxS, bxV, stOk, Nat.reduceBEq, Nat.reduceEqDiff, Nat.reduceAdd]; done) | (simp only [bxU]; omega) | ((try apply has_setN); apply has_ofL; simp only [bxL]; omega)) only [↓bxD, bxP, bxQ, bxQ2, Nat.reduceBEq, reduceCtorEq, Nat.reduceAdd, Nat.reduceSub, Nat.reduceMul, Nat.reduceLeDiff, Nat.reduceLT, bxR, h0, h1, h4', h5, h10, h11, k1, k2, push_at]
        have k10 : X.ev f2 (.t q10) = .i .i64 (kids.length : Int) := by rw [← hf2]; simp (maxSteps := 4000000) (disch := first | omega | assumption | (simp only [bxS, bxV, stOk, Nat.reduceBEq, Nat.reduceEqDiff, Nat.reduceAdd]; done) | (simp only [bxU]; omega) | ((try apply has_setN); apply has_ofL; simp only [bxL]; omega)) only [↓bxD, bxP, bxQ, bxQ2, Nat.reduceBEq, reduceCtorEq, Nat.reduceAdd, Nat.reduceSub, Nat.reduceMul, Nat.reduceLeDiff, Nat.reduceLT, bxR, h0, h1, h4', h5, h10, h11, k1, k2, push_at]
        have k11 : X.ev f2 (.t q11) = .i .i64 (i : Int) := by rw [← hf2]; simp (maxSteps := 4000000) (disch := first | omega | assumption | (simp only [bxS, bxV, stOk, Nat.reduceBEq, Nat.reduceEqDiff, Nat.reduceAdd]; done) | (simp only [bxU]; omega) | ((try apply has_setN); apply has_ofL; simp only [bxL]; omega)) only [↓bxD, bxP, bxQ, bxQ2, Nat.reduceBEq, reduceCtorEq, Nat.reduceAdd, Nat.reduceSub, Nat.reduceMul, Nat.reduceLeDiff, Nat.reduceLT, bxR, h0, h1, h4', h5, h10, h11, k1, k2, push_at]
        clear hf2
        refine cat_end (p := { p with fi := p.fi }) (q := (partM y b).1) elo k5 k7 elo2 (by omega) (by omega) hne e55 a5 ((x5.old M2.n (by omega) hne).trans e74) a7 ?_
        intro f' M' c' j0 j1 j4 j5 j10 j11 x6 g6 a6'
        rw [k0] at j0
        rw [k1] at j1
        rw [k4] at j4
        rw [k5] at j5
        rw [k10] at j10
        rw [k11] at j11
        simp only [q0, q1, q4, q5, q10, q11] at j0 j1 j4 j5 j10 j11
        show Wp fns K46_2 _ _ _
        unfold K46_2
        simp (maxSteps := 4000000) (disch := first | omega | assumption | (simp only [bxS, bxV, stOk, Nat.reduceBEq, Nat.reduceEqDiff, Nat.reduceAdd]; done) | (simp only [bxU]; omega) | ((try apply has_setN); apply has_ofL; simp only [bxL]; omega)) only [↓bxD, bxP, bxQ, bxQ2, Nat.reduceBEq, reduceCtorEq, Nat.reduceAdd, Nat.reduceSub, Nat.reduceMul, Nat.reduceLeDiff, Nat.reduceLT, bxR, j0, j1, j4, j5, j10, j11, get_set]
        have xx := x5.trans x6
        have n6 := xx.n
        refine ⟨(i + 1, catP p (partM y b).1, linkB (partM y b).2 p.la (partM y b).1.fi), by simp only; omega, by simp only; omega, rfl, Bd.keep7 hB4 e54 (by omega) xx, ⟨(((hF.trans hF2).trans (.of x3)).trans hF4).chg (by omega) xx, by omega, (xx.old M.n (by omega) (by omega)).trans (hF4.old _ _ (by omega) ((x3.old M.n (by omega)).trans (hF2.old _ _ (by omega) e0)))⟩, ⟨c', g6, ?_⟩, ?_, ?_⟩
        · unfold catP; rw [if_neg (by rw [hp]; simp)]; exact a6'
        · simp only; rw [← hcs]; exact hc
        · simp only [linkB_len]; omega
      | true =>
        simp (maxSteps := 4000000) (disch := first | omega | assumption | (simp only [bxS, bxV, stOk, Nat.reduceBEq, Nat.reduceEqDiff, Nat.reduceAdd]; done) | (simp only [bxU]; omega) | ((try apply has_setN); apply has_ofL; simp only [bxL]; omega)) only [↓bxD, bxP, bxQ, bxQ2, Nat.reduceBEq, reduceCtorEq, Nat.reduceAdd, Nat.reduceSub, Nat.reduceMul, Nat.reduceLeDiff, Nat.reduceLT, bxR, h0, h1, h4', h5, h10, h11, k1, k2, push_at, e54, v1, hp, v2, e74, w2, map_ag]
        refine bindP_call (with_any (by omega)) ?_
        rintro m M45 ⟨rfl, hx45⟩
        have e545 := (hx45.old (M.n + 1) (by omega)).trans e54
        have n45 := hx45.n
        have l45 := hx45.lo
        simp (maxSteps := 4000000) (disch := first | omega | assumption | (simp only [bxS, bxV, stOk, Nat.reduceBEq, Nat.reduceEqDiff, Nat.reduceAdd]; done) | (simp only [bxU]; omega) | ((try apply has_setN); apply has_ofL; simp only [bxL]; omega)) only [↓bxD, bxP, bxQ, bxQ2, Nat.reduceBEq, reduceCtorEq, Nat.reduceAdd, Nat.reduceSub, Nat.reduceMul, Nat.reduceLeDiff, Nat.reduceLT, bxR, h0, h1, h4', h5, h10, h11, k1, k2, push_at, e545, hcl3]
        show Wp fns K46_1 _ _ _
        generalize hM5 : MH.set _ _ _ = M5
        generalize hf2 : (T.set _ _ _ : Fr) = f2
        have x5 : Chg (fun j => j = M.n + 1) M4 M5 := by rw [← hM5]; exact (Chg.of hx45).set _ (.inl rfl)
        have e55 : M5.get (M.n + 1) = some (.cs false 7 (setN (plc (p.fi ||| (partM y b).1.fi)) 1 c5)) := by rw [← hM5]; exact set_same _ _
        clear hM5
        have n5 := x5.n
        have l5 := x5.lo
        have elo : M5.lo ≤ M5.n := by omega
        have elo2 : M5.lo ≤ M.n + 1 := by omega
        have k4 : f2.get q4 = some (.p M.n 0) := by rw [← hf2]; simp (maxSteps := 4000000) (disch := first | omega | assumption | (simp only [bxS, bxV, stOk, Nat.reduceBEq, Nat.reduceEqDiff, Nat.reduceAdd]; done) | (simp only [bxU]; omega) | ((try apply has_setN); apply has_ofL; simp only [bxL]; omega)) only [↓bxD, bxP, bxQ, bxQ2, Nat.reduceBEq, reduceCtorEq, Nat.reduceAdd, Nat.reduceSub, Nat.reduceMul, Nat.reduceLeDiff, Nat.reduceLT, bxR, h0, h1, h4', h5, h10, h11, k1, k2, push_at, get_set, h4]
        have k0 : X.ev f2 (.t q0) = .p bx 0 := by rw [← hf2]; simp (maxSteps := 4000000) (disch := first | omega | assumption | (simp only [bxS, bxV, stOk, Nat.reduceBEq, Nat.reduceEqDiff, Nat.reduceAdd]; done) | (simp only [bxU]; omega) | ((try apply has_setN); apply has_ofL; simp only [bxL]; omega)) only [↓bxD, bxP, bxQ, bxQ2, Nat.reduceBEq, reduceCtorEq, Nat.reduceAdd, Nat.reduceSub, Nat.reduceMul, Nat.reduceLeDiff, Nat.reduceLT, bxR, h0, h1, h4', h5, h10, h11, k1, k2, push_at]
        have k1 : X.ev f2 (.t q1) = kv := by rw [← hf2]; simp (maxSteps := 4000000) (disch := first | omega | assumption | (simp only [bxS, bxV, stOk, Nat.reduceBEq, Nat.reduceEqDiff, Nat.reduceAdd]; done) | (simp only [bxU]; omega) | ((try apply has_setN); apply has_ofL; simp only [bxL]; omega)) only [↓bxD, bxP, bxQ, bxQ2, Nat.reduceBEq, reduceCtorEq, Nat.reduceAdd, Nat.reduceSub, Nat.reduceMul, Nat.reduceLeDiff, Nat.reduceLT, bxR, h0, h1, h4', h5, h10, h11, k1, k2, push_at]
        have k5 : X.ev f2 (.t q5) = .p (M.n + 1) 0 := by rw [← hf2]; simp (maxSteps := 4000000) (disch := first | omega | assumption | (simp only [bxS, bxV, stOk, Nat.reduceBEq, Nat.reduceEqDiff, Nat.reduceAdd]; done) | (simp only [bxU]; omega) | ((try apply has_setN); apply has_ofL; simp only [bxL]; omega)) only [↓bxD, bxP, bxQ, bxQ2, Nat.reduceBEq, reduceCtorEq, Nat.reduceAdd, Nat.reduceSub, Nat.reduceMul, Nat.reduceLeDiff, Nat.reduceLT, bxR, h0, h1, h4', h5, h10, h11, k1, k2, push_at]
        have k7 : X.ev f2 (.t q7) = .p M2.n 0 := by rw [← hf2]; simp (maxSteps := 4000000) (disch := first | omega | assumption | (simp only [bxS, bxV, stOk, Nat.reduceBEq, Nat.reduceEqDiff, Nat.reduceAdd]; done) | (simp only [bxU]; omega) | ((try apply has_setN); apply has_ofL; simp only [bxL]; omega)) only [↓bxD, bxP, bxQ, bxQ2, Nat.reduceBEq, reduceCtorEq, Nat.reduceAdd, Nat.reduceSub, Nat.reduceMul, Nat.reduceLeDiff, Nat.reduceLT, bxR, h0, h1, h4', h5, h10, h11, k1, k2, push_at]
        have k10 : X.ev f2 (.t q10) = .i .i64 (kids.length : Int) := by rw [← hf2]; simp (maxSteps := 4000000) (disch := first | omega | assumption | (simp only [bxS, bxV, stOk, Nat.reduceBEq, Nat.reduceEqDiff, Nat.reduceAdd]; done) | (simp only [bxU]; omega) | ((try apply has_setN); apply has_ofL; simp only [bxL]; omega)) only [↓bxD, bxP, bxQ, bxQ2, Nat.reduceBEq, reduceCtorEq, Nat.reduceAdd, Nat.reduceSub, Nat.reduceMul, Nat.reduceLeDiff, Nat.reduceLT, bxR, h0, h1, h4', h5, h10, h11, k1, k2, push_at]
        have k11 : X.ev f2 (.t q11) = .i .i64 (i : Int) := by rw [← hf2]; simp (maxSteps := 4000000) (disch := first | omega | assumption | (simp only [bxS, bxV, stOk, Nat.reduceBEq, Nat.reduceEqDiff, Nat.reduceAdd]; done) | (simp only [bxU]; omega) | ((try apply has_setN); apply has_ofL; simp only [bxL]; omega)) only [↓bxD, bxP, bxQ, bxQ2, Nat.reduceBEq, reduceCtorEq, Nat.reduceAdd, Nat.reduceSub, Nat.reduceMul, Nat.reduceLeDiff, Nat.reduceLT, bxR, h0, h1, h4', h5, h10, h11, k1, k2, push_at]
        clear hf2
        refine cat_end (p := { p with fi := p.fi ||| (partM y b).1.fi }) (q := (partM y b).1) elo k5 k7 elo2 (by omega) (by omega) hne e55 (pm_fi _ a5) ((x5.old M2.n (by omega) hne).trans e74) a7 ?_
        intro f' M' c' j0 j1 j4 j5 j10 j11 x6 g6 a6'
        rw [k0] at j0
        rw [k1] at j1
        rw [k4] at j4
        rw [k5] at j5
        rw [k10] at j10
        rw [k11] at j11
        simp only [q0, q1, q4, q5, q10, q11] at j0 j1 j4 j5 j10 j11
        show Wp fns K46_2 _ _ _
        unfold K46_2
        simp (maxSteps := 4000000) (disch := first | omega | assumption | (simp only [bxS, bxV, stOk, Nat.reduceBEq, Nat.reduceEqDiff, Nat.reduceAdd]; done) | (simp only [bxU]; omega) | ((try apply has_setN); apply has_ofL; simp only [bxL]; omega)) only [↓bxD, bxP, bxQ, bxQ2, Nat.reduceBEq, reduceCtorEq, Nat.reduceAdd, Nat.reduceSub, Nat.reduceMul, Nat.reduceLeDiff, Nat.reduceLT, bxR, j0, j1, j4, j5, j10, j11, get_set]
        have xx := x5.trans x6
        have n6 := xx.n
        refine ⟨(i + 1, catP p (partM y b).1, linkB (partM y b).2 p.la (partM y b).1.fi), by simp only; omega, by simp only; omega, rfl, Bd.keep7 hB4 e54 (by omega) xx, ⟨(((hF.trans hF2).trans (.of x3)).trans hF4).chg (by omega) xx, by omega, (xx.old M.n (by omega) (by omega)).trans (hF4.old _ _ (by omega) ((x3.old M.n (by omega)).trans (hF2.old _ _ (by omega) e0)))⟩, ⟨c', g6, ?_⟩, ?_, ?_⟩
        · unfold catP; rw [if_pos hp]; exact a6'
        · simp only; rw [← hcs]; exact hc
        · simp only [linkB_len]; omega
    · have hik : i = kids.length := by omega
      subst hik
      rw [List.drop_length] at hc
      rw [catM] at hc
      have g0' := e0
      have hz7 : hasB (ofL z7 0) 7 0 = true := has_ofL z7 7 0 (by decide)
      obtain ⟨v1, v2, v3, v4⟩ := pm_get a5
      have hs7 := hst7 p
      simp (maxSteps := 4000000) (disch := first | omega | assumption | (simp only [bxS, bxV, stOk, Nat.reduceBEq, Nat.reduceEqDiff, Nat.reduceAdd]; done) | (simp only [bxU]; omega) | ((try apply has_setN); apply has_ofL; simp only [bxL]; omega)) only [↓bxD, bxP, bxQ, bxQ2, Nat.reduceBEq, reduceCtorEq, Nat.reduceAdd, Nat.reduceSub, Nat.reduceMul, Nat.reduceLeDiff, Nat.reduceLT, bxR, h0, h1, h4', h5, h10, h11, k1, k2, push_at]
      show Wp fns K46_5 _ _ _
      unfold K46_5
      simp (maxSteps := 4000000) (disch := first | omega | assumption | (simp only [bxS, bxV, stOk, Nat.reduceBEq, Nat.reduceEqDiff, Nat.reduceAdd]; done) | (simp only [bxU]; omega) | ((try apply has_setN); apply has_ofL; simp only [bxL]; omega)) only [↓bxD, bxP, bxQ, bxQ2, Nat.reduceBEq, reduceCtorEq, Nat.reduceAdd, Nat.reduceSub, Nat.reduceMul, Nat.reduceLeDiff, Nat.reduceLT, bxR, h0, h1, h4', h5, h10, h11, k1, k2, push_at, res_cN, cNV_p, cNo_cs, get_set, e5, v4, g0', hc7, hgp, h4, map_ag]
      rw [← hc]
      refine ⟨rfl, hB.keep7 g0' (by omega) ((Chg.refl (fun j => j = M.n) M').set _ (.inl rfl)), ?_⟩
      exact hF.chg (Nat.le_refl _) ((Chg.refl (fun j => j = M.n) M').set _ (.inl rfl))
  · exact ⟨Nat.zero_le _, by simp only [bxP, bxQ, bxQ2, reduceCtorEq, k1, k2, len_sl, f1, push_at], by simp only [bxP, bxQ, bxQ2, reduceCtorEq, k1, k2, len_sl, f1, push_at], by simp (maxSteps := 4000000) (disch := first | omega | assumption | (simp only [bxS, bxV, stOk, Nat.reduceBEq, Nat.reduceEqDiff, Nat.reduceAdd]; done) | (simp only [bxU]; omega) | ((try apply has_setN); apply has_ofL; simp only [bxL]; omega)) only [↓bxD, bxP, bxQ, bxQ2, Nat.reduceBEq, reduceCtorEq, Nat.reduceAdd, Nat.reduceSub, Nat.reduceMul, Nat.reduceLeDiff, Nat.reduceLT, bxR, k1, k2, len_sl, f1, push_at, get_set], by simp only [bxP, bxQ, bxQ2, reduceCtorEq, k1, k2, len_sl, f1, push_at], by simp only [bxP, bxQ, bxQ2, reduceCtorEq, k1, k2, len_sl, f1, push_at], by simp only [bxP, bxQ, bxQ2, reduceCtorEq, k1, k2, len_sl, f1, push_at] <;> rfl, h.more hx, ⟨.of hx, Nat.le_refl _, g0⟩, ⟨_, g1, at_setN _ _ _⟩, rfl, hb⟩
theorem alt_any {Mb M : MH} {bx mid : Nat} {mv pv kv : MV} {ms : List Mk} {st : Bs} {kids : List Rx} (hlo : Mb.lo ≤ Mb.n) (hP : ∀ y ∈ kids, PartOk Mb bx mid mv pv ms y) (h : Bd Mb M bx mid mv pv ms st) (k1 : isSl kv = true) (k2 : slen kv = kids.length) (k3 : NodesAt Mb kids (sid kv) (soff kv)) (k4 : ∀ i y, kids[i]? = some y → Reg ms y (sid kv) (soff kv + i * 6)) (hb : st.sets.length + cntL kids ≤ 150) (hkl : kids.length ≤ 1000000000) :
    Cp fns 47 [.p bx 0, kv] M fun m M' => m = .ag (altM kids ⟨false, 0, 0⟩ st).1.cells ∧ Bd Mb M' bx mid mv pv ms (altM kids ⟨false, 0, 0⟩ st).2 ∧ Fr7 M M' := by
  have en := h.ext.n
  have el := h.ext.lo
  refine Cp_call (fn := F47) (by kernel_rfl) (Nat.le_of_ble_eq_true rfl) ?_
  show Wp fns B47 (T.set q1 (some kv) (T.set q0 (some (.p bx 0)) T.lf)) M _
  unfold B47
  simp (maxSteps := 4000000) (disch := first | omega | assumption | (simp only [bxS, bxV, stOk, Nat.reduceBEq, Nat.reduceEqDiff, Nat.reduceAdd]; done) | (simp only [bxU]; omega) | ((try apply has_setN); apply has_ofL; simp only [bxL]; omega)) only [↓bxD, bxP, bxQ, bxQ2, Nat.reduceBEq, reduceCtorEq, Nat.reduceAdd, Nat.reduceSub, Nat.reduceMul, Nat.reduceLeDiff, Nat.reduceLT, bxR, k1, k2, len_sl, push_at]
  generalize hM1 : (M.push _).push _ = M1
  have g0 : M1.get M.n = some (.cs false 7 (ofL z7 0)) := by rw [← hM1, push_old (by show M.n < M.n + 1; omega)]; exact push_new _
  have g1 : M1.get (M.n + 1) = some (.cs false 7 (ofL (Pm.cells ⟨false, 0, 0⟩) 0)) := by rw [← hM1]; exact push_new (M := M.push _) _
  have hx : Ext M M1 := by rw [← hM1]; exact (Ext.push M _).trans (.push _ _)
  have hn : M1.n = M.n + 2 := by rw [← hM1]; rfl
  have hl := hx.lo
  clear hM1
  refine Wp_inv (σ := Nat × Pm × Bs) (fun s f M' => s.1 ≤ kids.length ∧ X.ev f (.t q0) = .p bx 0 ∧ X.ev f (.t q1) = kv ∧ f.get q4 = some (.p M.n 0) ∧ X.ev f (.t q5) = .p (M.n + 1) 0 ∧ X.ev f (.t q9) = .i .i64 (kids.length : Int) ∧ X.ev f (.t q10) = .i .i64 (s.1 : Int) ∧ Bd Mb M' bx mid mv pv ms s.2.2 ∧ (Fr7 M M' ∧ M1.n ≤ M'.n ∧ M'.get M.n = some (.cs false 7 (ofL z7 0))) ∧ (∃ c5, M'.get (M.n + 1) = some (.cs false 7 c5) ∧ At c5 0 s.2.1.cells) ∧ altM (kids.drop s.1) s.2.1 s.2.2 = altM kids ⟨false, 0, 0⟩ st ∧ s.2.2.sets.length + cntL (kids.drop s.1) ≤ 150) (fun s => kids.length - s.1) ?_ (0, ⟨false, 0, 0⟩, st) ?_
  · rintro ⟨i, p, b⟩ f M' ⟨hi, h0, h1, h4, h5, h9, h10, hB, ⟨hF, n1, e0⟩, ⟨c5, e5, a5⟩, hc, hcb⟩
    simp only at hi h10 hB a5 hc hcb
    have l1 := hF.lo
    have h4' := ev_get h4
    simp only [q0, q1, q4, q5, q9, q10] at h0 h1 h4 h4' h5 h9 h10
    have hc7 : ∀ p : Pm, MV.cells (.ag p.cells) = p.cells := fun _ => rfl
    have hst7 : ∀ p : Pm, stOk 7 (.ag p.cells) = true := fun _ => rfl
    have hgp : ∀ (p : Pm) l, Ev.getN (setN p.cells 0 (ofL l 0)) 7 0 = some p.cells := fun p l => getN_setN' rfl
    have hcl3 : ∀ N, MV.cells (.ag (plc N)) = plc N := fun _ => rfl
    unfold L47_2
    simp (maxSteps := 4000000) (disch := first | omega | assumption | (simp only [bxS, bxV, stOk, Nat.reduceBEq, Nat.reduceEqDiff, Nat.reduceAdd]; done) | (simp only [bxU]; omega) | ((try apply has_setN); apply has_ofL; simp only [bxL]; omega)) only [↓bxD, bxP, bxQ, bxQ2, Nat.reduceBEq, reduceCtorEq, Nat.reduceAdd, Nat.reduceSub, Nat.reduceMul, Nat.reduceLeDiff, Nat.reduceLT, bxR, h0, h1, h4', h5, h9, h10, k1, k2, push_at]
    refine condP_split (fun hlt => ?_) (fun hge => ?_)
    · have hik : i < kids.length := by omega
      obtain ⟨y, hy⟩ : ∃ y, kids[i]? = some y := ⟨_, List.getElem?_eq_getElem hik⟩
      have hyc : cntL (kids.drop i) = cnt y + cntL (kids.drop (i + 1)) := by rw [List.drop_eq_getElem_cons hik, (List.getElem?_eq_some_iff.1 hy).2]; rfl
      have hcs : altM (kids.drop i) p b = altM (kids.drop (i + 1)) (altP p (partM y b).1) (partM y b).2 := by rw [List.drop_eq_getElem_cons hik, (List.getElem?_eq_some_iff.1 hy).2]; rfl
      simp (maxSteps := 4000000) (disch := first | omega | assumption | (simp only [bxS, bxV, stOk, Nat.reduceBEq, Nat.reduceEqDiff, Nat.reduceAdd]; done) | (simp only [bxU]; omega) | ((try apply has_setN); apply has_ofL; simp only [bxL]; omega)) only [↓bxD, bxP, bxQ, bxQ2, Nat.reduceBEq, reduceCtorEq, Nat.reduceAdd, Nat.reduceSub, Nat.reduceMul, Nat.reduceLeDiff, Nat.reduceLT, bxR, h0, h1, h4', h5, h9, h10, k1, k2, push_at]
      show Wp fns K47_1 _ _ _
      unfold K47_1
      simp (maxSteps := 4000000) (disch := first | omega | assumption | (simp only [bxS, bxV, stOk, Nat.reduceBEq, Nat.reduceEqDiff, Nat.reduceAdd]; done) | (simp only [bxU]; omega) | ((try apply has_setN); apply has_ofL; simp only [bxL]; omega)) only [↓bxD, bxP, bxQ, bxQ2, Nat.reduceBEq, reduceCtorEq, Nat.reduceAdd, Nat.reduceSub, Nat.reduceMul, Nat.reduceLeDiff, Nat.reduceLT, bxR, h0, h1, h4', h5, h9, h10, k1, k2, push_at]
      refine bindP_call (hP y (List.mem_of_getElem? hy) M' b (sid kv) (soff kv + i * 6) hB (k3.get hy) (k4 i y hy) (by omega)) ?_
      rintro m M2 ⟨rfl, hB2, hF2⟩
      have n2 := hF2.n
      have l2 := hF2.lo
      have e52 := hF2.old _ _ (by omega) e5
      have hs7 := hst7 (partM y b).1
      have hsl := partM_len y b
      generalize hq : (partM y b).1 = q at hs7 hcs
      simp (maxSteps := 4000000) (disch := first | omega | assumption | (simp only [bxS, bxV, stOk, Nat.reduceBEq, Nat.reduceEqDiff, Nat.reduceAdd]; done) | (simp only [bxU]; omega) | ((try apply has_setN); apply has_ofL; simp only [bxL]; omega)) only [↓bxD, bxP, bxQ, bxQ2, Nat.reduceBEq, reduceCtorEq, Nat.reduceAdd, Nat.reduceSub, Nat.reduceMul, Nat.reduceLeDiff, Nat.reduceLT, bxR, h0, h1, h4', h5, h9, h10, k1, k2, push_at, hc7]
      generalize hM3 : MH.set _ _ _ = M3
      have x3 : Ext M2 M3 := by rw [← hM3]; exact (Ext.push M2 _).set _ (Nat.le_refl _)
      have n3 : M3.n = M2.n + 1 := by rw [← hM3]; rfl
      have e7 : M3.get M2.n = some (.cs false 7 (setN q.cells 0 (ofL z7 0))) := by rw [← hM3]; exact set_same _ _
      have l3 := x3.lo
      clear hM3
      have a7 : At (setN q.cells 0 (ofL z7 0)) 0 q.cells := at_setN _ _ _
      obtain ⟨w1, w2, w3, w4⟩ := pm_get a7
      obtain ⟨v1, v2, v3, v4⟩ := pm_get a5
      obtain ⟨b1, b2, b3, b4⟩ := pm_has a5
      have e53 := (x3.old (M.n + 1) (by omega)).trans e52
      have hB3 := hB2.more x3
      have hst3 : stOk 3 (.ag (plc (p.fi ||| q.fi))) = true := rfl
      have hst4 : stOk 3 (.ag (plc (p.la ||| q.la))) = true := rfl
      have hne : M2.n ≠ M.n + 1 := by omega
      have lB := hB3.ext.lo
      cases hp : p.null with
      | true =>
        rw [hp] at v1
        simp (maxSteps := 4000000) (disch := first | omega | assumption | (simp only [bxS, bxV, stOk, Nat.reduceBEq, Nat.reduceEqDiff, Nat.reduceAdd]; done) | (simp only [bxU]; omega) | ((try apply has_setN); apply has_ofL; simp only [bxL]; omega)) only [↓bxD, bxP, bxQ, bxQ2, Nat.reduceBEq, reduceCtorEq, Nat.reduceAdd, Nat.reduceSub, Nat.reduceMul, Nat.reduceLeDiff, Nat.reduceLT, bxR, h0, h1, h4', h5, h9, h10, k1, k2, push_at, e52, v1, e53, w1, cells_b, get_set]
        have a6 : At (setN [.b true] 0 c5) 0 (Pm.cells { p with null := p.null || q.null }) := by have := pm_null (p.null || q.null) a5; rw [hp] at this ⊢; exact this
        generalize hc6 : setN [.b true] 0 c5 = c6 at a6
        generalize hM4 : MH.set _ _ _ = M4
        have x4 : Chg (fun j => j = M.n + 1) M3 M4 := by rw [← hM4]; exact (Chg.refl (fun j => j = M.n + 1) M3).set _ (.inl rfl)
        have e54 : M4.get (M.n + 1) = some (.cs false 7 c6) := by rw [← hM4]; exact set_same _ _
        have e74 := (x4.old M2.n (by omega) hne).trans e7
        have n4 := x4.n
        have l4 := x4.lo
        clear hM4 hc6
        obtain ⟨r1, r2, r3, r4⟩ := pm_get a6
        have r2 : Ev.getN c6 3 1 = some (plc p.fi) := r2
        obtain ⟨t1, t2, t3, t4⟩ := pm_has a6
        simp (maxSteps := 4000000) (disch := first | omega | assumption | (simp only [bxS, bxV, stOk, Nat.reduceBEq, Nat.reduceEqDiff, Nat.reduceAdd]; done) | (simp only [bxU]; omega) | ((try apply has_setN); apply has_ofL; simp only [bxL]; omega)) only [↓bxD, bxP, bxQ, bxQ2, Nat.reduceBEq, reduceCtorEq, Nat.reduceAdd, Nat.reduceSub, Nat.reduceMul, Nat.reduceLeDiff, Nat.reduceLT, bxR, h0, h1, h4', h5, h9, h10, k1, k2, push_at, r2, map_ag, e74, w2]
        refine bindP_call (with_any (by omega)) ?_
        rintro m M5 ⟨rfl, hx5⟩
        have n5 := hx5.n
        have l5 := hx5.lo
        have e55 := (hx5.old (M.n + 1) (by omega)).trans e54
        have e75 := (hx5.old M2.n (by omega)).trans e74
        simp (maxSteps := 4000000) (disch := first | omega | assumption | (simp only [bxS, bxV, stOk, Nat.reduceBEq, Nat.reduceEqDiff, Nat.reduceAdd]; done) | (simp only [bxU]; omega) | ((try apply has_setN); apply has_ofL; simp only [bxL]; omega)) only [↓bxD, bxP, bxQ, bxQ2, Nat.reduceBEq, reduceCtorEq, Nat.reduceAdd, Nat.reduceSub, Nat.reduceMul, Nat.reduceLeDiff, Nat.reduceLT, bxR, h0, h1, h4', h5, h9, h10, k1, k2, push_at, e55, hcl3]
        have a8 := pm_fi (p.fi ||| q.fi) a6
        generalize hc8 : setN (plc (p.fi ||| q.fi)) 1 c6 = c8 at a8
        generalize hM6 : MH.set _ _ _ = M6
        have x6 : Chg (fun j => j = M.n + 1) M4 M6 := by rw [← hM6]; exact (Chg.of hx5).set _ (.inl rfl)
        have e56 : M6.get (M.n + 1) = some (.cs false 7 c8) := by rw [← hM6]; exact set_same _ _
        have e76 := (x6.old M2.n (by omega) hne).trans e74
        have n6 := x6.n
        have l6 := x6.lo
        clear hM6 hc8
        obtain ⟨_, _, s3, _⟩ := pm_get a8
        have s3 : Ev.getN c8 3 4 = some (plc p.la) := s3
        obtain ⟨_, _, y3, _⟩ := pm_has a8
        simp (maxSteps := 4000000) (disch := first | omega | assumption | (simp only [bxS, bxV, stOk, Nat.reduceBEq, Nat.reduceEqDiff, Nat.reduceAdd]; done) | (simp only [bxU]; omega) | ((try apply has_setN); apply has_ofL; simp only [bxL]; omega)) only [↓bxD, bxP, bxQ, bxQ2, Nat.reduceBEq, reduceCtorEq, Nat.reduceAdd, Nat.reduceSub, Nat.reduceMul, Nat.reduceLeDiff, Nat.reduceLT, bxR, h0, h1, h4', h5, h9, h10, k1, k2, push_at, s3, map_ag, e76, w3]
        refine bindP_call (with_any (by omega)) ?_
        rintro m M7 ⟨rfl, hx7⟩
        have n7 := hx7.n
        have l7 := hx7.lo
        have e57 := (hx7.old (M.n + 1) (by omega)).trans e56
        simp (maxSteps := 4000000) (disch := first | omega | assumption | (simp only [bxS, bxV, stOk, Nat.reduceBEq, Nat.reduceEqDiff, Nat.reduceAdd]; done) | (simp only [bxU]; omega) | ((try apply has_setN); apply has_ofL; simp only [bxL]; omega)) only [↓bxD, bxP, bxQ, bxQ2, Nat.reduceBEq, reduceCtorEq, Nat.reduceAdd, Nat.reduceSub, Nat.reduceMul, Nat.reduceLeDiff, Nat.reduceLT, bxR, h0, h1, h4', h5, h9, h10, k1, k2, push_at, e57, hcl3]
        have a9 := pm_la (p.la ||| q.la) a8
        generalize hc9 : setN (plc (p.la ||| q.la)) 4 c8 = c9 at a9
        generalize hM8 : MH.set _ _ _ = M8
        have x8 : Chg (fun j => j = M.n + 1) M6 M8 := by rw [← hM8]; exact (Chg.of hx7).set _ (.inl rfl)
        have e58 : M8.get (M.n + 1) = some (.cs false 7 c9) := by rw [← hM8]; exact set_same _ _
        clear hM8 hc9
        show Wp fns K47_0 _ _ _
        unfold K47_0
        simp (maxSteps := 4000000) (disch := first | omega | assumption | (simp only [bxS, bxV, stOk, Nat.reduceBEq, Nat.reduceEqDiff, Nat.reduceAdd]; done) | (simp only [bxU]; omega) | ((try apply has_setN); apply has_ofL; simp only [bxL]; omega)) only [↓bxD, bxP, bxQ, bxQ2, Nat.reduceBEq, reduceCtorEq, Nat.reduceAdd, Nat.reduceSub, Nat.reduceMul, Nat.reduceLeDiff, Nat.reduceLT, bxR, h0, h1, h4', h5, h9, h10, k1, k2, push_at]
        have xx := (x4.trans x6).trans x8
        have n8 := xx.n
        refine ⟨(i + 1, altP p q, (partM y b).2), by simp only; omega, by simp only; omega, h4, rfl, hB3.keep7 e53 (by omega) xx, ⟨((hF.trans hF2).trans (.of x3)).chg (by omega) xx, by omega, (xx.old M.n (by omega) (by omega)).trans ((x3.old M.n (by omega)).trans (hF2.old _ _ (by omega) e0))⟩, ⟨c9, e58, a9⟩, ?_, ?_⟩
        · simp only; rw [← hcs]; exact hc
        · simp only; omega
      | false =>
        rw [hp] at v1
        simp (maxSteps := 4000000) (disch := first | omega | assumption | (simp only [bxS, bxV, stOk, Nat.reduceBEq, Nat.reduceEqDiff, Nat.reduceAdd]; done) | (simp only [bxU]; omega) | ((try apply has_setN); apply has_ofL; simp only [bxL]; omega)) only [↓bxD, bxP, bxQ, bxQ2, Nat.reduceBEq, reduceCtorEq, Nat.reduceAdd, Nat.reduceSub, Nat.reduceMul, Nat.reduceLeDiff, Nat.reduceLT, bxR, h0, h1, h4', h5, h9, h10, k1, k2, push_at, e52, v1, e7, e53, w1, cells_b, get_set]
        have a6 : At (setN [.b q.null] 0 c5) 0 (Pm.cells { p with null := p.null || q.null }) := by have := pm_null (p.null || q.null) a5; rw [hp] at this ⊢; exact this
        generalize hc6 : setN [.b q.null] 0 c5 = c6 at a6
        generalize hM4 : MH.set _ _ _ = M4
        have x4 : Chg (fun j => j = M.n + 1) M3 M4 := by rw [← hM4]; exact (Chg.refl (fun j => j = M.n + 1) M3).set _ (.inl rfl)
        have e54 : M4.get (M.n + 1) = some (.cs false 7 c6) := by rw [← hM4]; exact set_same _ _
        have e74 := (x4.old M2.n (by omega) hne).trans e7
        have n4 := x4.n
        have l4 := x4.lo
        clear hM4 hc6
        obtain ⟨r1, r2, r3, r4⟩ := pm_get a6
        have r2 : Ev.getN c6 3 1 = some (plc p.fi) := r2
        obtain ⟨t1, t2, t3, t4⟩ := pm_has a6
        simp (maxSteps := 4000000) (disch := first | omega | assumption | (simp only [bxS, bxV, stOk, Nat.reduceBEq, Nat.reduceEqDiff, Nat.reduceAdd]; done) | (simp only [bxU]; omega) | ((try apply has_setN); apply has_ofL; simp only [bxL]; omega)) only [↓bxD, bxP, bxQ, bxQ2, Nat.reduceBEq, reduceCtorEq, Nat.reduceAdd, Nat.reduceSub, Nat.reduceMul, Nat.reduceLeDiff, Nat.reduceLT, bxR, h0, h1, h4', h5, h9, h10, k1, k2, push_at, r2, map_ag, e74, w2]
        refine bindP_call (with_any (by omega)) ?_
        rintro m M5 ⟨rfl, hx5⟩
        have n5 := hx5.n
        have l5 := hx5.lo
        have e55 := (hx5.old (M.n + 1) (by omega)).trans e54
        have e75 := (hx5.old M2.n (by omega)).trans e74
        simp (maxSteps := 4000000) (disch := first | omega | assumption | (simp only [bxS, bxV, stOk, Nat.reduceBEq, Nat.reduceEqDiff, Nat.reduceAdd]; done) | (simp only [bxU]; omega) | ((try apply has_setN); apply has_ofL; simp only [bxL]; omega)) only [↓bxD, bxP, bxQ, bxQ2, Nat.reduceBEq, reduceCtorEq, Nat.reduceAdd, Nat.reduceSub, Nat.reduceMul, Nat.reduceLeDiff, Nat.reduceLT, bxR, h0, h1, h4', h5, h9, h10, k1, k2, push_at, e55, hcl3]
        have a8 := pm_fi (p.fi ||| q.fi) a6
        generalize hc8 : setN (plc (p.fi ||| q.fi)) 1 c6 = c8 at a8
        generalize hM6 : MH.set _ _ _ = M6
        have x6 : Chg (fun j => j = M.n + 1) M4 M6 := by rw [← hM6]; exact (Chg.of hx5).set _ (.inl rfl)
        have e56 : M6.get (M.n + 1) = some (.cs false 7 c8) := by rw [← hM6]; exact set_same _ _
        have e76 := (x6.old M2.n (by omega) hne).trans e74
        have n6 := x6.n
        have l6 := x6.lo
        clear hM6 hc8
        obtain ⟨_, _, s3, _⟩ := pm_get a8
        have s3 : Ev.getN c8 3 4 = some (plc p.la) := s3
        obtain ⟨_, _, y3, _⟩ := pm_has a8
        simp (maxSteps := 4000000) (disch := first | omega | assumption | (simp only [bxS, bxV, stOk, Nat.reduceBEq, Nat.reduceEqDiff, Nat.reduceAdd]; done) | (simp only [bxU]; omega) | ((try apply has_setN); apply has_ofL; simp only [bxL]; omega)) only [↓bxD, bxP, bxQ, bxQ2, Nat.reduceBEq, reduceCtorEq, Nat.reduceAdd, Nat.reduceSub, Nat.reduceMul, Nat.reduceLeDiff, Nat.reduceLT, bxR, h0, h1, h4', h5, h9, h10, k1, k2, push_at, s3, map_ag, e76, w3]
        refine bindP_call (with_any (by omega)) ?_
        rintro m M7 ⟨rfl, hx7⟩
        have n7 := hx7.n
        have l7 := hx7.lo
        have e57 := (hx7.old (M.n + 1) (by omega)).trans e56
        simp (maxSteps := 4000000) (disch := first | omega | assumption | (simp only [bxS, bxV, stOk, Nat.reduceBEq, Nat.reduceEqDiff, Nat.reduceAdd]; done) | (simp only [bxU]; omega) | ((try apply has_setN); apply has_ofL; simp only [bxL]; omega)) only [↓bxD, bxP, bxQ, bxQ2, Nat.reduceBEq, reduceCtorEq, Nat.reduceAdd, Nat.reduceSub, Nat.reduceMul, Nat.reduceLeDiff, Nat.reduceLT, bxR, h0, h1, h4', h5, h9, h10, k1, k2, push_at, e57, hcl3]
        have a9 := pm_la (p.la ||| q.la) a8
        generalize hc9 : setN (plc (p.la ||| q.la)) 4 c8 = c9 at a9
        generalize hM8 : MH.set _ _ _ = M8
        have x8 : Chg (fun j => j = M.n + 1) M6 M8 := by rw [← hM8]; exact (Chg.of hx7).set _ (.inl rfl)
        have e58 : M8.get (M.n + 1) = some (.cs false 7 c9) := by rw [← hM8]; exact set_same _ _
        clear hM8 hc9
        show Wp fns K47_0 _ _ _
        unfold K47_0
        simp (maxSteps := 4000000) (disch := first | omega | assumption | (simp only [bxS, bxV, stOk, Nat.reduceBEq, Nat.reduceEqDiff, Nat.reduceAdd]; done) | (simp only [bxU]; omega) | ((try apply has_setN); apply has_ofL; simp only [bxL]; omega)) only [↓bxD, bxP, bxQ, bxQ2, Nat.reduceBEq, reduceCtorEq, Nat.reduceAdd, Nat.reduceSub, Nat.reduceMul, Nat.reduceLeDiff, Nat.reduceLT, bxR, h0, h1, h4', h5, h9, h10, k1, k2, push_at]
        have xx := (x4.trans x6).trans x8
        have n8 := xx.n
        refine ⟨(i + 1, altP p q, (partM y b).2), by simp only; omega, by simp only; omega, h4, rfl, hB3.keep7 e53 (by omega) xx, ⟨((hF.trans hF2).trans (.of x3)).chg (by omega) xx, by omega, (xx.old M.n (by omega) (by omega)).trans ((x3.old M.n (by omega)).trans (hF2.old _ _ (by omega) e0))⟩, ⟨c9, e58, a9⟩, ?_, ?_⟩
        · simp only; rw [← hcs]; exact hc
        · simp only; omega
    · have hik : i = kids.length := by omega
      subst hik
      rw [List.drop_length] at hc
      rw [altM] at hc
      have g0' := e0
      have hz7 : hasB (ofL z7 0) 7 0 = true := has_ofL z7 7 0 (by decide)
      obtain ⟨v1, v2, v3, v4⟩ := pm_get a5
      have hs7 := hst7 p
      simp (maxSteps := 4000000) (disch := first | omega | assumption | (simp only [bxS, bxV, stOk, Nat.reduceBEq, Nat.reduceEqDiff, Nat.reduceAdd]; done) | (simp only [bxU]; omega) | ((try apply has_setN); apply has_ofL; simp only [bxL]; omega)) only [↓bxD, bxP, bxQ, bxQ2, Nat.reduceBEq, reduceCtorEq, Nat.reduceAdd, Nat.reduceSub, Nat.reduceMul, Nat.reduceLeDiff, Nat.reduceLT, bxR, h0, h1, h4', h5, h9, h10, k1, k2, push_at]
      show Wp fns K47_3 _ _ _
      unfold K47_3
      simp (maxSteps := 4000000) (disch := first | omega | assumption | (simp only [bxS, bxV, stOk, Nat.reduceBEq, Nat.reduceEqDiff, Nat.reduceAdd]; done) | (simp only [bxU]; omega) | ((try apply has_setN); apply has_ofL; simp only [bxL]; omega)) only [↓bxD, bxP, bxQ, bxQ2, Nat.reduceBEq, reduceCtorEq, Nat.reduceAdd, Nat.reduceSub, Nat.reduceMul, Nat.reduceLeDiff, Nat.reduceLT, bxR, h0, h1, h4', h5, h9, h10, k1, k2, push_at, res_cN, cNV_p, cNo_cs, get_set, e5, v4, g0', hc7, hgp, h4, map_ag]
      rw [← hc]
      refine ⟨rfl, hB.keep7 g0' (by omega) ((Chg.refl (fun j => j = M.n) M').set _ (.inl rfl)), ?_⟩
      exact hF.chg (Nat.le_refl _) ((Chg.refl (fun j => j = M.n) M').set _ (.inl rfl))
  · exact ⟨Nat.zero_le _, by simp only [bxP, bxQ, bxQ2, reduceCtorEq, k1, k2, len_sl, push_at], by simp only [bxP, bxQ, bxQ2, reduceCtorEq, k1, k2, len_sl, push_at], by simp (maxSteps := 4000000) (disch := first | omega | assumption | (simp only [bxS, bxV, stOk, Nat.reduceBEq, Nat.reduceEqDiff, Nat.reduceAdd]; done) | (simp only [bxU]; omega) | ((try apply has_setN); apply has_ofL; simp only [bxL]; omega)) only [↓bxD, bxP, bxQ, bxQ2, Nat.reduceBEq, reduceCtorEq, Nat.reduceAdd, Nat.reduceSub, Nat.reduceMul, Nat.reduceLeDiff, Nat.reduceLT, bxR, k1, k2, len_sl, push_at, get_set], by simp only [bxP, bxQ, bxQ2, reduceCtorEq, k1, k2, len_sl, push_at], by simp only [bxP, bxQ, bxQ2, reduceCtorEq, k1, k2, len_sl, push_at], by simp only [bxP, bxQ, bxQ2, reduceCtorEq, k1, k2, len_sl, push_at] <;> rfl, h.more hx, ⟨.of hx, Nat.le_refl _, g0⟩, ⟨_, g1, at_ofL _⟩, rfl, hb⟩
theorem rep_any {Mb M : MH} {bx mid : Nat} {mv pv : MV} {ms : List Mk} {st : Bs} {y : Rx} {op : Int} {id off : Nat} (hlo : Mb.lo ≤ Mb.n) (hP : PartOk Mb bx mid mv pv ms y) (h : Bd Mb M bx mid mv pv ms st) (hy : NodeAt Mb y id off) (hr : Reg ms y id off) (hb : st.sets.length + cnt y ≤ 150) :
    Cp fns 48 [.p bx 0, .i .i64 op, .p id off] M fun m M' => m = .ag (repP op (partM y st)).1.cells ∧ Bd Mb M' bx mid mv pv ms (repP op (partM y st)).2 ∧ Fr7 M M' := by
  have en := h.ext.n
  have el := h.ext.lo
  refine Cp_call (fn := F48) (by kernel_rfl) (Nat.le_of_ble_eq_true rfl) ?_
  show Wp fns B48 (T.set q2 (some (.p id off)) (T.set q1 (some (.i .i64 op)) (T.set q0 (some (.p bx 0)) T.lf))) M _
  unfold B48
  simp (maxSteps := 4000000) (disch := first | omega | assumption | (simp only [bxS, bxV, stOk, Nat.reduceBEq, Nat.reduceEqDiff, Nat.reduceAdd]; done) | (simp only [bxU]; omega) | ((try apply has_setN); apply has_ofL; simp only [bxL]; omega)) only [↓bxD, bxP, bxQ, bxQ2, Nat.reduceBEq, reduceCtorEq, Nat.reduceAdd, Nat.reduceSub, Nat.reduceMul, Nat.reduceLeDiff, Nat.reduceLT, bxR, push_at]
  generalize hM1 : M.push _ = M1
  have g0 : M1.get M.n = some (.cs false 7 (ofL z7 0)) := by rw [← hM1]; exact push_new _
  have hx : Ext M M1 := by rw [← hM1]; exact .push M _
  have hn : M1.n = M.n + 1 := by rw [← hM1]; rfl
  have hl := hx.lo
  clear hM1
  refine bindP_call (hP M1 st id off (h.more hx) hy hr hb) ?_
  rintro m M2 ⟨rfl, hB2, hF2⟩
  have n2 := hF2.n
  have l2 := hF2.lo
  have g2 := hF2.old _ _ (by omega) g0
  have hsl := partM_len y st
  have hlen2 := hB2.len
  generalize partM y st = qb at hB2 hsl hlen2
  obtain ⟨q, b2⟩ := qb
  simp only at hB2 hsl hlen2
  have hc7 : ∀ p : Pm, MV.cells (.ag p.cells) = p.cells := fun _ => rfl
  have hst7 : ∀ p : Pm, stOk 7 (.ag p.cells) = true := fun _ => rfl
  have hs7 := hst7 q
  have hgp : ∀ (p : Pm) l, Ev.getN (setN p.cells 0 (ofL l 0)) 7 0 = some p.cells := fun p l => getN_setN' rfl
  simp (maxSteps := 4000000) (disch := first | omega | assumption | (simp only [bxS, bxV, stOk, Nat.reduceBEq, Nat.reduceEqDiff, Nat.reduceAdd]; done) | (simp only [bxU]; omega) | ((try apply has_setN); apply has_ofL; simp only [bxL]; omega)) only [↓bxD, bxP, bxQ, bxQ2, Nat.reduceBEq, reduceCtorEq, Nat.reduceAdd, Nat.reduceSub, Nat.reduceMul, Nat.reduceLeDiff, Nat.reduceLT, bxR, push_at, hc7]
  generalize hM3 : MH.set _ _ _ = M3
  have x3 : Ext M2 M3 := by rw [← hM3]; exact (Ext.push M2 _).set _ (Nat.le_refl _)
  have n3 : M3.n = M2.n + 1 := by rw [← hM3]; rfl
  have e7 : M3.get M2.n = some (.cs false 7 (setN q.cells 0 (ofL z7 0))) := by rw [← hM3]; exact set_same _ _
  have l3 := x3.lo
  clear hM3
  have a7 : At (setN q.cells 0 (ofL z7 0)) 0 q.cells := at_setN _ _ _
  generalize hc0 : setN q.cells 0 (ofL z7 0) = c7 at a7 e7
  clear hc0
  obtain ⟨w1, w2, w3, w4⟩ := pm_get a7
  obtain ⟨t1, t2, t3, t4⟩ := pm_has a7
  have g3 := (x3.old M.n (by omega)).trans g2
  have hB3 := hB2.more x3
  have hF3 : Fr7 M M3 := ((Fr7.of hx).trans hF2).trans (.of x3)
  have lB := hB3.ext.lo
  have tail : ∀ (f2 : Fr) (M4 : MH) (b4 : Bs), X.ev f2 (.t q1) = .i .i64 op → f2.get q6 = some (.p M.n 0) → X.ev f2 (.t q7) = .p M2.n 0 → Bd Mb M4 bx mid mv pv ms b4 → Fr7 M M4 → M4.get M.n = some (.cs false 7 (ofL z7 0)) → M4.get M2.n = some (.cs false 7 c7) → M3.n ≤ M4.n →
      Wp fns K48_1 f2 M4 (retQ F48 fun m M' => m = .ag (Pm.cells ⟨if op = 5 then q.null else true, q.fi, q.la⟩) ∧ Bd Mb M' bx mid mv pv ms b4 ∧ Fr7 M M') := by
    intro f2 M4 b4 k1 k6 k7 hB4 hF4 e0 e4 n4
    have k6' := ev_get k6
    have l4 := hF4.lo
    have lB4 := hB4.ext.lo
    have hz7 : hasB (ofL z7 0) 7 0 = true := has_ofL z7 7 0 (by decide)
    have hne : M2.n ≠ M.n := by omega
    have hne' : M.n ≠ M2.n := by omega
    simp only [q1, q6, q7] at k1 k6 k6' k7
    have hs7b := hst7 ⟨true, q.fi, q.la⟩
    have a8 : At (setN [.b true] 0 c7) 0 (Pm.cells ⟨true, q.fi, q.la⟩) := pm_null true a7
    obtain ⟨_, _, _, r4⟩ := pm_get a8
    unfold K48_1
    simp (maxSteps := 4000000) (disch := first | omega | assumption | (simp only [bxS, bxV, stOk, Nat.reduceBEq, Nat.reduceEqDiff, Nat.reduceAdd]; done) | (simp only [bxU]; omega) | ((try apply has_setN); apply has_ofL; simp only [bxL]; omega)) only [↓bxD, bxP, bxQ, bxQ2, Nat.reduceBEq, reduceCtorEq, Nat.reduceAdd, Nat.reduceSub, Nat.reduceMul, Nat.reduceLeDiff, Nat.reduceLT, bxR, k1, k6, k6', k7, e4, e0, cells_b, res_cN, cNV_p, cNo_cs, get_set, hc7, hgp, map_ag]
    refine condP_split (fun h5 => ?_) (fun h5 => ?_)
    · simp (maxSteps := 4000000) (disch := first | omega | assumption | (simp only [bxS, bxV, stOk, Nat.reduceBEq, Nat.reduceEqDiff, Nat.reduceAdd]; done) | (simp only [bxU]; omega) | ((try apply has_setN); apply has_ofL; simp only [bxL]; omega)) only [↓bxD, bxP, bxQ, bxQ2, Nat.reduceBEq, reduceCtorEq, Nat.reduceAdd, Nat.reduceSub, Nat.reduceMul, Nat.reduceLeDiff, Nat.reduceLT, bxR, k1, k6, k6', k7, e4, e0, cells_b, res_cN, cNV_p, cNo_cs, get_set, hc7, hgp, map_ag]
      show Wp fns K48_0 _ _ _
      unfold K48_0
      simp (maxSteps := 4000000) (disch := first | omega | assumption | (simp only [bxS, bxV, stOk, Nat.reduceBEq, Nat.reduceEqDiff, Nat.reduceAdd]; done) | (simp only [bxU]; omega) | ((try apply has_setN); apply has_ofL; simp only [bxL]; omega)) only [↓bxD, bxP, bxQ, bxQ2, Nat.reduceBEq, reduceCtorEq, Nat.reduceAdd, Nat.reduceSub, Nat.reduceMul, Nat.reduceLeDiff, Nat.reduceLT, bxR, k1, k6, k6', k7, e4, e0, cells_b, res_cN, cNV_p, cNo_cs, get_set, hc7, hgp, map_ag, r4]
      rw [if_neg h5]
      refine ⟨rfl, ?_, ?_⟩
      · exact (hB4.keep7 e4 (by omega) ((Chg.refl (fun j => j = M2.n) M4).set _ (.inl rfl))).keep7 (L := M.n) (by rw [set_ne hne']; exact e0) (by omega) ((Chg.refl (fun j => j = M.n) _).set _ (.inl rfl))
      · exact (hF4.chg (by omega) ((Chg.refl (fun j => j = M2.n) M4).set _ (.inl rfl))).chg (Nat.le_refl _) ((Chg.refl (fun j => j = M.n) _).set _ (.inl rfl))
    · have h5 : op = 5 := Decidable.not_not.1 h5
      simp (maxSteps := 4000000) (disch := first | omega | assumption | (simp only [bxS, bxV, stOk, Nat.reduceBEq, Nat.reduceEqDiff, Nat.reduceAdd]; done) | (simp only [bxU]; omega) | ((try apply has_setN); apply has_ofL; simp only [bxL]; omega)) only [↓bxD, bxP, bxQ, bxQ2, Nat.reduceBEq, reduceCtorEq, Nat.reduceAdd, Nat.reduceSub, Nat.reduceMul, Nat.reduceLeDiff, Nat.reduceLT, bxR, k1, k6, k6', k7, e4, e0, cells_b, res_cN, cNV_p, cNo_cs, get_set, hc7, hgp, map_ag]
      show Wp fns K48_0 _ _ _
      unfold K48_0
      simp (maxSteps := 4000000) (disch := first | omega | assumption | (simp only [bxS, bxV, stOk, Nat.reduceBEq, Nat.reduceEqDiff, Nat.reduceAdd]; done) | (simp only [bxU]; omega) | ((try apply has_setN); apply has_ofL; simp only [bxL]; omega)) only [↓bxD, bxP, bxQ, bxQ2, Nat.reduceBEq, reduceCtorEq, Nat.reduceAdd, Nat.reduceSub, Nat.reduceMul, Nat.reduceLeDiff, Nat.reduceLT, bxR, k1, k6, k6', k7, e4, e0, cells_b, res_cN, cNV_p, cNo_cs, get_set, hc7, hgp, map_ag, w4]
      rw [if_pos h5]
      refine ⟨rfl, ?_, ?_⟩
      · exact hB4.keep7 e0 (by omega) ((Chg.refl (fun j => j = M.n) M4).set _ (.inl rfl))
      · exact hF4.chg (Nat.le_refl _) ((Chg.refl (fun j => j = M.n) M4).set _ (.inl rfl))
  refine condP_split (fun h6 => ?_) (fun h6 => ?_)
  · simp (maxSteps := 4000000) (disch := first | omega | assumption | (simp only [bxS, bxV, stOk, Nat.reduceBEq, Nat.reduceEqDiff, Nat.reduceAdd]; done) | (simp only [bxU]; omega) | ((try apply has_setN); apply has_ofL; simp only [bxL]; omega)) only [↓bxD, bxP, bxQ, bxQ2, Nat.reduceBEq, reduceCtorEq, Nat.reduceAdd, Nat.reduceSub, Nat.reduceMul, Nat.reduceLeDiff, Nat.reduceLT, bxR, push_at, e7, w3, w2, map_ag]
    refine bindP_call (link_any hB3 hlo (by omega)) ?_
    rintro m M4 ⟨hB4, hF4⟩
    simp (maxSteps := 4000000) (disch := first | omega | assumption | (simp only [bxS, bxV, stOk, Nat.reduceBEq, Nat.reduceEqDiff, Nat.reduceAdd]; done) | (simp only [bxU]; omega) | ((try apply has_setN); apply has_ofL; simp only [bxL]; omega)) only [↓bxD, bxP, bxQ, bxQ2, Nat.reduceBEq, reduceCtorEq, Nat.reduceAdd, Nat.reduceSub, Nat.reduceMul, Nat.reduceLeDiff, Nat.reduceLT, bxR, push_at]
    show Wp fns K48_1 _ _ _
    unfold repP
    rw [if_neg h6]
    refine tail _ M4 (linkB b2 q.la q.fi) ?_ ?_ ?_ hB4 (hF3.trans hF4) (hF4.old _ _ (by omega) g3) (hF4.old _ _ (by omega) e7) hF4.n
    · simp only [bxP, bxQ, bxQ2, reduceCtorEq, push_at]
    · simp (maxSteps := 4000000) (disch := first | omega | assumption | (simp only [bxS, bxV, stOk, Nat.reduceBEq, Nat.reduceEqDiff, Nat.reduceAdd]; done) | (simp only [bxU]; omega) | ((try apply has_setN); apply has_ofL; simp only [bxL]; omega)) only [↓bxD, bxP, bxQ, bxQ2, Nat.reduceBEq, reduceCtorEq, Nat.reduceAdd, Nat.reduceSub, Nat.reduceMul, Nat.reduceLeDiff, Nat.reduceLT, bxR, push_at, get_set]
    · simp only [bxP, bxQ, bxQ2, reduceCtorEq, push_at]
  · have h6 : op = 6 := Decidable.not_not.1 h6
    simp (maxSteps := 4000000) (disch := first | omega | assumption | (simp only [bxS, bxV, stOk, Nat.reduceBEq, Nat.reduceEqDiff, Nat.reduceAdd]; done) | (simp only [bxU]; omega) | ((try apply has_setN); apply has_ofL; simp only [bxL]; omega)) only [↓bxD, bxP, bxQ, bxQ2, Nat.reduceBEq, reduceCtorEq, Nat.reduceAdd, Nat.reduceSub, Nat.reduceMul, Nat.reduceLeDiff, Nat.reduceLT, bxR, push_at]
    show Wp fns K48_1 _ _ _
    unfold repP
    rw [if_pos h6]
    refine tail _ M3 b2 ?_ ?_ ?_ hB3 hF3 g3 e7 (Nat.le_refl _)
    · simp only [bxP, bxQ, bxQ2, reduceCtorEq, push_at]
    · simp (maxSteps := 4000000) (disch := first | omega | assumption | (simp only [bxS, bxV, stOk, Nat.reduceBEq, Nat.reduceEqDiff, Nat.reduceAdd]; done) | (simp only [bxU]; omega) | ((try apply has_setN); apply has_ofL; simp only [bxL]; omega)) only [↓bxD, bxP, bxQ, bxQ2, Nat.reduceBEq, reduceCtorEq, Nat.reduceAdd, Nat.reduceSub, Nat.reduceMul, Nat.reduceLeDiff, Nat.reduceLT, bxR, push_at, get_set]
    · simp only [bxP, bxQ, bxQ2, reduceCtorEq, push_at]
theorem part_any {Mb : MH} {bx mid : Nat} {mv pv : MV} {ms : List Mk} (hlo : Mb.lo ≤ Mb.n) : ∀ (n : Nat) (x : Rx), wei x ≤ n → n ≤ 1000000000 → PartOk Mb bx mid mv pv ms x
  | 0, x, hw, _ => by obtain ⟨op, a, b, c, d, kids⟩ := x; rw [wei] at hw; omega
  | n + 1, x, hw, hn1 => by
    intro M st id off h hx hr hb
    have ih := fun y (hy : wei y < wei x) => part_any (bx := bx) (mid := mid) (mv := mv) (pv := pv) (ms := ms) hlo n y (by omega) (by omega)
    have en := h.ext.n
    have el := h.ext.lo
    obtain ⟨cb, sv, fv, hO⟩ := h
    have hxM : NodeAt M x id off := hx.ext hO.ext
    have hsiz := sizeOf_any (M := M.push (.cs false 7 (ofL z7 0))) (hO.rd.ext (.push M _)) (hxM.ext (.push M _)) (reg_known hO.srv.inv hr) (by show M.lo ≤ M.n + 1; omega)
    obtain ⟨op, a, b, c, d, kids⟩ := x
    have hkl : kids.length ≤ 1000000000 := by
      have : ∀ l : List Rx, l.length ≤ weiL l := fun l => by
        induction l with
        | nil => exact Nat.le_refl _
        | cons y r ihl => obtain ⟨_, _, _, _, _, _⟩ := y; rw [List.length_cons, weiL, wei]; omega
      have := this kids
      rw [wei] at hw; omega
    have hx0 := hx
    unfold NodeAt at hx0
    obtain ⟨t, kv, g1, g2, g3, g4, g5, g6⟩ := hx0
    have c0 : cget t off = some (.i .i64 op) := g3 0 _ rfl
    have c5 : cget t (off + 5) = some kv := g3 5 _ rfl
    have c14 : Ev.getN t 4 (off + 1) = some (st4 a b c d) := (At.left (b := [kv]) (At.right (a := [.i .i64 op]) (b := st4 a b c d ++ [kv]) g3)).getN
    refine Cp_call (fn := F25) (by kernel_rfl) (Nat.le_of_ble_eq_true rfl) ?_
    show Wp fns B25 (T.set q1 (some (.p id off)) (T.set q0 (some (.p bx 0)) T.lf)) M _
    unfold B25
    have f1 : fillM [(0, 1, MV.b true)] [.b false, .i .u64 0, .i .u64 0, .i .u64 0, .i .u64 0, .i .u64 0, .i .u64 0] = some p0M.cells := rfl
    have hc7 : ∀ p : Pm, MV.cells (.ag p.cells) = p.cells := fun _ => rfl
    have hst7 : ∀ p : Pm, stOk 7 (.ag p.cells) = true := fun _ => rfl
    have hgp : ∀ (p : Pm) l, Ev.getN (setN p.cells 0 (ofL l 0)) 7 0 = some p.cells := fun p l => getN_setN' rfl
    have hz7 : hasB (ofL z7 0) 7 0 = true := has_ofL z7 7 0 (by decide)
    have hs0 := hst7 p0M
    simp (maxSteps := 4000000) (disch := first | omega | assumption | (simp only [bxS, bxV, stOk, Nat.reduceBEq, Nat.reduceEqDiff, Nat.reduceAdd]; done) | (simp only [bxU]; omega) | ((try apply has_setN); apply has_ofL; simp only [bxL]; omega)) only [↓bxD, bxP, bxQ, bxQ2, Nat.reduceBEq, reduceCtorEq, Nat.reduceAdd, Nat.reduceSub, Nat.reduceMul, Nat.reduceLeDiff, Nat.reduceLT, bxR, nck_p]
    refine bindP_call hsiz ?_
    rintro m M2 ⟨rfl, hx2⟩
    have n2 := hx2.n
    have l2 := hx2.lo
    have n2' : M.n + 1 ≤ M2.n := n2
    have l2' : M2.lo = M.lo := l2
    have e4 : M2.get M.n = some (.cs false 7 (ofL z7 0)) := (hx2.old M.n (Nat.lt_succ_self _)).trans (push_new _)
    have hx : Ext M M2 := (Ext.push M _).trans hx2
    have hB2 : Bd Mb M2 bx mid mv pv ms st := ⟨cb, sv, fv, hO.more hx⟩
    have hG : M2.get id = some (.cs false 6 t) := (hB2.ext.old id g2).trans g1
    have hfld : fld1V 0 (.ag [.i .i64 (szP (.mk op a b c d kids)), .i .i64 (szD (.mk op a b c d kids))]) = some (.i .i64 (szP (.mk op a b c d kids))) := rfl
    have fin : ∀ (M4 : MH) (r : Pm × Bs), partM (.mk op a b c d kids) st = r → Bd Mb M4 bx mid mv pv ms r.2 → Fr7 M2 M4 → MV.ag r.1.cells = MV.ag (partM (.mk op a b c d kids) st).1.cells ∧ Bd Mb (M4.set M.n (some (.cs false 7 (setN r.1.cells 0 (ofL z7 0))))) bx mid mv pv ms (partM (.mk op a b c d kids) st).2 ∧ Fr7 M (M4.set M.n (some (.cs false 7 (setN r.1.cells 0 (ofL z7 0))))) := fun M4 r hr hB hF => by
      have x : Chg (fun j => j = M.n) M4 (M4.set M.n (some (.cs false 7 (setN r.1.cells 0 (ofL z7 0))))) := (Chg.refl (fun j => j = M.n) M4).set _ (.inl rfl)
      refine ⟨by rw [hr], ?_, ((Fr7.of hx).trans hF).chg (Nat.le_refl _) x⟩
      rw [hr]
      exact hB.keep7 (hF.old _ _ (by omega) e4) (by omega) x
    have hlk : ∀ i y, (Rx.mk op a b c d kids).lk[i]? = some y → Reg ms y (sid kv) (soff kv + i * 6) := fun i y hy => reg_kid hO.srv g1 c5 hr hy
    by_cases h0 : cnt (.mk op a b c d kids) = 0
    · have d0 : decide (szP (.mk op a b c d kids) = 0) = true := decide_eq_true (by unfold szP; rw [h0]; rfl)
      simp (maxSteps := 4000000) (disch := first | omega | assumption | (simp only [bxS, bxV, stOk, Nat.reduceBEq, Nat.reduceEqDiff, Nat.reduceAdd]; done) | (simp only [bxU]; omega) | ((try apply has_setN); apply has_ofL; simp only [bxL]; omega)) only [↓bxD, bxP, bxQ, bxQ2, Nat.reduceBEq, reduceCtorEq, Nat.reduceAdd, Nat.reduceSub, Nat.reduceMul, Nat.reduceLeDiff, Nat.reduceLT, bxR, nck_p, ev_fld1, hfld, e4, hc7, f1, hG, c0, c5, c14, get_set, map_ag, res_cN, cNV_p, cNo_cs, hgp, d0]
      exact fin M2 (p0M, st) (by rw [partM, if_pos h0]) hB2 (.refl _)
    · have d0 : decide (szP (.mk op a b c d kids) = 0) = false := decide_eq_false (by unfold szP; omega)
      simp (maxSteps := 4000000) (disch := first | omega | assumption | (simp only [bxS, bxV, stOk, Nat.reduceBEq, Nat.reduceEqDiff, Nat.reduceAdd]; done) | (simp only [bxU]; omega) | ((try apply has_setN); apply has_ofL; simp only [bxL]; omega)) only [↓bxD, bxP, bxQ, bxQ2, Nat.reduceBEq, reduceCtorEq, Nat.reduceAdd, Nat.reduceSub, Nat.reduceMul, Nat.reduceLeDiff, Nat.reduceLT, bxR, nck_p, ev_fld1, hfld, e4, hc7, f1, hG, c0, c5, c14, get_set, map_ag, res_cN, cNV_p, cNo_cs, hgp, d0]
      show Wp fns K25_1 _ _ _
      unfold K25_1
      simp (maxSteps := 4000000) (disch := first | omega | assumption | (simp only [bxS, bxV, stOk, Nat.reduceBEq, Nat.reduceEqDiff, Nat.reduceAdd]; done) | (simp only [bxU]; omega) | ((try apply has_setN); apply has_ofL; simp only [bxL]; omega)) only [↓bxD, bxP, bxQ, bxQ2, Nat.reduceBEq, reduceCtorEq, Nat.reduceAdd, Nat.reduceSub, Nat.reduceMul, Nat.reduceLeDiff, Nat.reduceLT, bxR, nck_p, ev_fld1, hfld, e4, hc7, f1, hG, c0, c5, c14, get_set, map_ag, res_cN, cNV_p, cNo_cs, hgp]
      by_cases h1 : op = 1
      · have d1 : decide (op = 1) = true := decide_eq_true h1
        have hc1 : cnt (.mk op a b c d kids) = 1 := by rw [cnt, if_pos h1]
        simp (maxSteps := 4000000) (disch := first | omega | assumption | (simp only [bxS, bxV, stOk, Nat.reduceBEq, Nat.reduceEqDiff, Nat.reduceAdd]; done) | (simp only [bxU]; omega) | ((try apply has_setN); apply has_ofL; simp only [bxL]; omega)) only [↓bxD, bxP, bxQ, bxQ2, Nat.reduceBEq, reduceCtorEq, Nat.reduceAdd, Nat.reduceSub, Nat.reduceMul, Nat.reduceLeDiff, Nat.reduceLT, bxR, nck_p, ev_fld1, hfld, e4, hc7, f1, hG, c0, c5, c14, get_set, map_ag, res_cN, cNV_p, cNo_cs, hgp, d1]
        refine bindP_call (place_any hB2 hlo (by omega)) ?_
        rintro m M3 ⟨rfl, hB3, hF3⟩
        have e43 := hF3.old _ _ (by omega) e4
        have n3 := hF3.n
        have l3 := hF3.lo
        have hs1 := hst7 ⟨false, 2 ^ st.sets.length, 2 ^ st.sets.length⟩
        simp (maxSteps := 4000000) (disch := first | omega | assumption | (simp only [bxS, bxV, stOk, Nat.reduceBEq, Nat.reduceEqDiff, Nat.reduceAdd]; done) | (simp only [bxU]; omega) | ((try apply has_setN); apply has_ofL; simp only [bxL]; omega)) only [↓bxD, bxP, bxQ, bxQ2, Nat.reduceBEq, reduceCtorEq, Nat.reduceAdd, Nat.reduceSub, Nat.reduceMul, Nat.reduceLeDiff, Nat.reduceLT, bxR, nck_p, ev_fld1, hfld, e4, hc7, f1, hG, c0, c5, c14, get_set, map_ag, res_cN, cNV_p, cNo_cs, hgp, e43]
        exact fin M3 (placeM (st4 a b c d) st) (by rw [partM, if_neg h0, if_pos h1]) hB3 hF3
      have d1 : decide (op = 1) = false := decide_eq_false h1
      have hkids : ∀ y ∈ kids, PartOk Mb bx mid mv pv ms y := fun y hy => ih y (by
        obtain ⟨i, hi⟩ := List.mem_iff_getElem?.1 hy
        have := wei_mem hi
        rw [wei]; omega)
      by_cases h2 : op = 2
      · have d2 : decide (op = 2) = true := decide_eq_true h2
        have hlk2 : (Rx.mk op a b c d kids).lk = kids := by rw [lk_mk, if_pos (.inl h2)]
        rw [hlk2] at hlk
        have hc2 : cnt (.mk op a b c d kids) = cntL kids := by rw [cnt, if_neg h1, if_pos (.inl h2)]
        simp (maxSteps := 4000000) (disch := first | omega | assumption | (simp only [bxS, bxV, stOk, Nat.reduceBEq, Nat.reduceEqDiff, Nat.reduceAdd]; done) | (simp only [bxU]; omega) | ((try apply has_setN); apply has_ofL; simp only [bxL]; omega)) only [↓bxD, bxP, bxQ, bxQ2, Nat.reduceBEq, reduceCtorEq, Nat.reduceAdd, Nat.reduceSub, Nat.reduceMul, Nat.reduceLeDiff, Nat.reduceLT, bxR, nck_p, ev_fld1, hfld, e4, hc7, f1, hG, c0, c5, c14, get_set, map_ag, res_cN, cNV_p, cNo_cs, hgp, d1, d2]
        refine bindP_call (cat_any hlo hkids hB2 g4 g5 g6 hlk (by omega) hkl) ?_
        rintro m M3 ⟨rfl, hB3, hF3⟩
        have e43 := hF3.old _ _ (by omega) e4
        have n3 := hF3.n
        have l3 := hF3.lo
        have hs1 := hst7 (catM kids p0M st).1
        simp (maxSteps := 4000000) (disch := first | omega | assumption | (simp only [bxS, bxV, stOk, Nat.reduceBEq, Nat.reduceEqDiff, Nat.reduceAdd]; done) | (simp only [bxU]; omega) | ((try apply has_setN); apply has_ofL; simp only [bxL]; omega)) only [↓bxD, bxP, bxQ, bxQ2, Nat.reduceBEq, reduceCtorEq, Nat.reduceAdd, Nat.reduceSub, Nat.reduceMul, Nat.reduceLeDiff, Nat.reduceLT, bxR, nck_p, ev_fld1, hfld, e4, hc7, f1, hG, c0, c5, c14, get_set, map_ag, res_cN, cNV_p, cNo_cs, hgp, e43]
        exact fin M3 (catM kids p0M st) (by rw [partM, if_neg h0, if_neg h1, if_pos h2]) hB3 hF3
      have d2 : decide (op = 2) = false := decide_eq_false h2
      by_cases h3 : op = 3
      · have d3 : decide (op = 3) = true := decide_eq_true h3
        have hlk2 : (Rx.mk op a b c d kids).lk = kids := by rw [lk_mk, if_pos (.inr h3)]
        rw [hlk2] at hlk
        have hc2 : cnt (.mk op a b c d kids) = cntL kids := by rw [cnt, if_neg h1, if_pos (.inr h3)]
        simp (maxSteps := 4000000) (disch := first | omega | assumption | (simp only [bxS, bxV, stOk, Nat.reduceBEq, Nat.reduceEqDiff, Nat.reduceAdd]; done) | (simp only [bxU]; omega) | ((try apply has_setN); apply has_ofL; simp only [bxL]; omega)) only [↓bxD, bxP, bxQ, bxQ2, Nat.reduceBEq, reduceCtorEq, Nat.reduceAdd, Nat.reduceSub, Nat.reduceMul, Nat.reduceLeDiff, Nat.reduceLT, bxR, nck_p, ev_fld1, hfld, e4, hc7, f1, hG, c0, c5, c14, get_set, map_ag, res_cN, cNV_p, cNo_cs, hgp, d1, d2, d3]
        refine bindP_call (alt_any hlo hkids hB2 g4 g5 g6 hlk (by omega) hkl) ?_
        rintro m M3 ⟨rfl, hB3, hF3⟩
        have e43 := hF3.old _ _ (by omega) e4
        have n3 := hF3.n
        have l3 := hF3.lo
        have hs1 := hst7 (altM kids ⟨false, 0, 0⟩ st).1
        simp (maxSteps := 4000000) (disch := first | omega | assumption | (simp only [bxS, bxV, stOk, Nat.reduceBEq, Nat.reduceEqDiff, Nat.reduceAdd]; done) | (simp only [bxU]; omega) | ((try apply has_setN); apply has_ofL; simp only [bxL]; omega)) only [↓bxD, bxP, bxQ, bxQ2, Nat.reduceBEq, reduceCtorEq, Nat.reduceAdd, Nat.reduceSub, Nat.reduceMul, Nat.reduceLeDiff, Nat.reduceLT, bxR, nck_p, ev_fld1, hfld, e4, hc7, f1, hG, c0, c5, c14, get_set, map_ag, res_cN, cNV_p, cNo_cs, hgp, e43]
        exact fin M3 (altM kids ⟨false, 0, 0⟩ st) (by rw [partM, if_neg h0, if_neg h1, if_neg h2, if_pos h3]) hB3 hF3
      have d3 : decide (op = 3) = false := decide_eq_false h3
      have h23 : ¬ (op = 2 ∨ op = 3) := fun h => h.elim h2 h3
      by_cases h4 : op = 4 ∨ op = 5 ∨ op = 6
      · have hc4 : cnt (.mk op a b c d kids) = cnt1 kids := by rw [cnt, if_neg h1, if_neg h23, if_pos h4]
        obtain ⟨y, ys, rfl⟩ : ∃ y ys, kids = y :: ys := by
          cases kids with
          | nil => rw [hc4] at h0; exact (h0 rfl).elim
          | cons y ys => exact ⟨y, ys, rfl⟩
        have hlk2 : (Rx.mk op a b c d (y :: ys)).lk = [y] := by rw [lk_mk, if_neg h23, if_pos h4]; rfl
        rw [hlk2] at hlk
        have hy0 := hlk 0 y rfl
        have hyn : NodeAt Mb y (sid kv) (soff kv + 0 * 6) := g6.get rfl
        have ix0 : ixV 6 kv (.i .i64 0) = some (.p (sid kv) (soff kv + 0 * 6)) := ix_sl (i := 0) g4 (by rw [g5]; simp)
        simp (maxSteps := 4000000) (disch := first | omega | assumption | (simp only [bxS, bxV, stOk, Nat.reduceBEq, Nat.reduceEqDiff, Nat.reduceAdd]; done) | (simp only [bxU]; omega) | ((try apply has_setN); apply has_ofL; simp only [bxL]; omega)) only [↓bxD, bxP, bxQ, bxQ2, Nat.reduceBEq, reduceCtorEq, Nat.reduceAdd, Nat.reduceSub, Nat.reduceMul, Nat.reduceLeDiff, Nat.reduceLT, bxR, nck_p, ev_fld1, hfld, e4, hc7, f1, hG, c0, c5, c14, get_set, map_ag, res_cN, cNV_p, cNo_cs, hgp, d1, d2, d3]
        show Wp fns K25_0 _ _ _
        unfold K25_0
        simp (maxSteps := 4000000) (disch := first | omega | assumption | (simp only [bxS, bxV, stOk, Nat.reduceBEq, Nat.reduceEqDiff, Nat.reduceAdd]; done) | (simp only [bxU]; omega) | ((try apply has_setN); apply has_ofL; simp only [bxL]; omega)) only [↓bxD, bxP, bxQ, bxQ2, Nat.reduceBEq, reduceCtorEq, Nat.reduceAdd, Nat.reduceSub, Nat.reduceMul, Nat.reduceLeDiff, Nat.reduceLT, bxR, nck_p, ev_fld1, hfld, e4, hc7, f1, hG, c0, c5, c14, get_set, map_ag, res_cN, cNV_p, cNo_cs, hgp]
        refine Wp_dreg_of (by omega) ?_
        simp (maxSteps := 4000000) (disch := first | omega | assumption | (simp only [bxS, bxV, stOk, Nat.reduceBEq, Nat.reduceEqDiff, Nat.reduceAdd]; done) | (simp only [bxU]; omega) | ((try apply has_setN); apply has_ofL; simp only [bxL]; omega)) only [↓bxD, bxP, bxQ, bxQ2, Nat.reduceBEq, reduceCtorEq, Nat.reduceAdd, Nat.reduceSub, Nat.reduceMul, Nat.reduceLeDiff, Nat.reduceLT, bxR, nck_p, ev_fld1, hfld, e4, hc7, f1, hG, c0, c5, c14, get_set, map_ag, res_cN, cNV_p, cNo_cs, hgp, ix0]
        refine bindP_call (rep_any hlo (hkids y List.mem_cons_self) hB2 (by simpa using hyn) (by simpa using hy0) (by rw [hc4, cnt1] at hb; exact hb)) ?_
        rintro m M3 ⟨rfl, hB3, hF3⟩
        have e43 := hF3.old _ _ (by omega) e4
        have n3 := hF3.n
        have l3 := hF3.lo
        have hs1 := hst7 (repP op (partM y st)).1
        simp (maxSteps := 4000000) (disch := first | omega | assumption | (simp only [bxS, bxV, stOk, Nat.reduceBEq, Nat.reduceEqDiff, Nat.reduceAdd]; done) | (simp only [bxU]; omega) | ((try apply has_setN); apply has_ofL; simp only [bxL]; omega)) only [↓bxD, bxP, bxQ, bxQ2, Nat.reduceBEq, reduceCtorEq, Nat.reduceAdd, Nat.reduceSub, Nat.reduceMul, Nat.reduceLeDiff, Nat.reduceLT, bxR, nck_p, ev_fld1, hfld, e4, hc7, f1, hG, c0, c5, c14, get_set, map_ag, res_cN, cNV_p, cNo_cs, hgp, e43]
        show Wp fns IC.ret _ _ _
        simp (maxSteps := 4000000) (disch := first | omega | assumption | (simp only [bxS, bxV, stOk, Nat.reduceBEq, Nat.reduceEqDiff, Nat.reduceAdd]; done) | (simp only [bxU]; omega) | ((try apply has_setN); apply has_ofL; simp only [bxL]; omega)) only [↓bxD, bxP, bxQ, bxQ2, Nat.reduceBEq, reduceCtorEq, Nat.reduceAdd, Nat.reduceSub, Nat.reduceMul, Nat.reduceLeDiff, Nat.reduceLT, bxR, nck_p, ev_fld1, hfld, e4, hc7, f1, hG, c0, c5, c14, get_set, map_ag, res_cN, cNV_p, cNo_cs, hgp]
        exact fin M3 (repP op (partM y st)) (by rw [partM, if_neg h0, if_neg h1, if_neg h2, if_neg h3, rep1M]) hB3 hF3
      · exact (h0 (by rw [cnt, if_neg h1, if_neg h23, if_neg h4])).elim
theorem float_new (l : List MV) (f : Fr) (id : Nat) : floatEv (.new l) f id = some (.p id 0, .cs false l.length (ofL l 0)) := rfl
theorem lateL_of {l : List (IOper × DK)} {b : Nat} {os : List (Nat × MO)} (h : (l.any fun p => match p.2 with
  | .ma _ => true
  | _ => false) = false) : lateL l b os = os := by
  unfold lateL
  refine List.filter_eq_self.2 fun x _ => ?_
  rw [Bool.not_eq_true', List.any_eq_false]
  intro p hp
  have := List.any_eq_false.1 h p hp
  cases hk : p.2 <;> simp_all
def ListsAt (lo : Nat) (M : MH) (v : MV) (l : List (List Nat)) : Prop := ∃ es : List MV, OwnRow lo M 1 v (es.map fun x => [x]) ∧ es.length = l.length ∧ ∀ (i : Nat) x y, es[i]? = some x → l[i]? = some y → OwnRow lo M 1 x (nv y)
def PosAt (lo : Nat) (M : MH) (m : MV) (p : Pm) (b : Bs) : Prop := ∃ vs vf vl vo, m = .ag [vs, .b p.null, vf, vl, vo] ∧ OwnRow lo M 4 vs b.sets ∧ OwnRow lo M 1 vf (nv (bitsOf p.fi 150)) ∧ OwnRow lo M 1 vl (nv (bitsOf p.la 150)) ∧ ListsAt lo M vo (b.fol.map fun N => bitsOf N 150)
theorem posits_any {Mb M : MH} {bx mid : Nat} {mv pv : MV} {ms : List Mk} {b : Bs} {p : Pm} (hlo : Mb.lo ≤ Mb.n) (h : Bd Mb M bx mid mv pv ms b) (hb : b.sets.length ≤ 150) :
    Cp fns 24 [.p bx 0, .ag p.cells] M fun m M' => PosAt Mb.n M' m p b ∧ Ext M M' := by
  obtain ⟨cb, sv, fv, h⟩ := h
  have en := h.ext.n
  have el := h.ext.lo
  have hlen := h.len
  refine Cp_call (fn := F24) (by kernel_rfl) (Nat.le_of_ble_eq_true rfl) ?_
  show Wp fns B24 (T.set q1 (some (.ag p.cells)) (T.set q0 (some (.p bx 0)) T.lf)) M _
  unfold B24
  have hU : isU (.ag p.cells) = false := rfl
  have hc7 : MV.cells (.ag p.cells) = p.cells := rfl
  have hl7 : p.cells.length = 7 := rfl
  simp (maxSteps := 4000000) (disch := first | omega | assumption | (simp only [bxS, bxV, stOk, Nat.reduceBEq, Nat.reduceEqDiff, Nat.reduceAdd]; done) | (simp only [bxU]; omega) | ((try apply has_setN); apply has_ofL; simp only [bxL]; omega)) only [↓bxD, bxP, bxQ, bxQ2, Nat.reduceBEq, reduceCtorEq, Nat.reduceAdd, Nat.reduceSub, Nat.reduceMul, Nat.reduceLeDiff, Nat.reduceLT, bxR, hU, hc7, hl7, push_at]
  generalize hM1 : (M.push _).push _ = M1
  have g0 : M1.get M.n = some (.cs false 7 (ofL p.cells 0)) := by rw [← hM1, push_old (by show M.n < M.n + 1; omega)]; exact push_new _
  have g1 : M1.get (M.n + 1) = some (.cs false 5 (ofL [.nils, .b false, .nils, .nils, .nils] 0)) := by rw [← hM1]; exact push_new (M := M.push _) _
  have hx : Ext M M1 := by rw [← hM1]; exact (Ext.push M _).trans (.push _ _)
  have hn : M1.n = M.n + 2 := by rw [← hM1]; rfl
  have hl := hx.lo
  clear hM1
  have h1 := h.more hx
  have hg := h1.g
  have c3 : cget cb 3 = some sv := h.at_ 3 _ rfl
  have c4 : cget cb 4 = some fv := h.at_ 4 _ rfl
  obtain ⟨v1, v2, v3, v4⟩ := pm_get (at_ofL p.cells)
  refine Wp_dreg_of (by omega) ?_
  simp (maxSteps := 4000000) (disch := first | omega | assumption | (simp only [bxS, bxV, stOk, Nat.reduceBEq, Nat.reduceEqDiff, Nat.reduceAdd]; done) | (simp only [bxU]; omega) | ((try apply has_setN); apply has_ofL; simp only [bxL]; omega)) only [↓bxD, bxP, bxQ, bxQ2, Nat.reduceBEq, reduceCtorEq, Nat.reduceAdd, Nat.reduceSub, Nat.reduceMul, Nat.reduceLeDiff, Nat.reduceLT, bxR, nck_p, hg, c3, c4, g0, v1, v2, v3, map_ag]
  refine bindP_call (list_any (Nat.le_refl _)) ?_
  rintro vfi M2 ⟨hx2, hr2⟩
  simp (maxSteps := 4000000) (disch := first | omega | assumption | (simp only [bxS, bxV, stOk, Nat.reduceBEq, Nat.reduceEqDiff, Nat.reduceAdd]; done) | (simp only [bxU]; omega) | ((try apply has_setN); apply has_ofL; simp only [bxL]; omega)) only [↓bxD, bxP, bxQ, bxQ2, Nat.reduceBEq, reduceCtorEq, Nat.reduceAdd, Nat.reduceSub, Nat.reduceMul, Nat.reduceLeDiff, Nat.reduceLT, bxR, nck_p, hg, c3, c4, g0, v1, v2, v3, map_ag]
  refine bindP_call (list_any (Nat.le_refl _)) ?_
  rintro vla M3 ⟨hx3, hr3⟩
  obtain ⟨s1, _⟩ := h.rs.row.sl
  obtain ⟨s2, _⟩ := hr2.row.sl
  obtain ⟨s3, _⟩ := hr3.row.sl
  have ff : fillM [(0, 1, sv), (1, 1, MV.b p.null), (2, 1, vfi), (3, 1, vla)] [.nils, .b false, .nils, .nils, .nils] = some [sv, .b p.null, vfi, vla, .nils] := by
    cases sv <;> first | cases s1 | skip
    all_goals cases vfi <;> first | cases s2 | skip
    all_goals cases vla <;> first | cases s3 | skip
    all_goals rfl
  simp (maxSteps := 4000000) (disch := first | omega | assumption | (simp only [bxS, bxV, stOk, Nat.reduceBEq, Nat.reduceEqDiff, Nat.reduceAdd]; done) | (simp only [bxU]; omega) | ((try apply has_setN); apply has_ofL; simp only [bxL]; omega)) only [↓bxD, bxP, bxQ, bxQ2, Nat.reduceBEq, reduceCtorEq, Nat.reduceAdd, Nat.reduceSub, Nat.reduceMul, Nat.reduceLeDiff, Nat.reduceLT, bxR, nck_p, hg, c3, c4, g0, v1, v2, v3, map_ag, ff, float_new, adopt_cons]
  rw [lateL_of (by rfl)]
  simp (maxSteps := 4000000) (disch := first | omega | assumption | (simp only [bxS, bxV, stOk, Nat.reduceBEq, Nat.reduceEqDiff, Nat.reduceAdd]; done) | (simp only [bxU]; omega) | ((try apply has_setN); apply has_ofL; simp only [bxL]; omega)) only [↓bxD, bxP, bxQ, bxQ2, Nat.reduceBEq, reduceCtorEq, Nat.reduceAdd, Nat.reduceSub, Nat.reduceMul, Nat.reduceLeDiff, Nat.reduceLT, bxR, nck_p, hg, c3, c4, g0, v1, v2, v3, map_ag, adopt_cons]
  have hst5 : stOk 5 (.ag [sv, .b p.null, vfi, vla, .nils]) = true := by
    cases sv <;> first | cases s1 | skip
    all_goals cases vfi <;> first | cases s2 | skip
    all_goals cases vla <;> first | cases s3 | skip
    all_goals rfl
  have hlo3 : (M3.down M1.lo).lo ≤ M1.n := by show M1.lo ≤ M1.n; omega
  have hcl5 : MV.cells (.ag [sv, .b p.null, vfi, vla, .nils]) = [sv, .b p.null, vfi, vla, .nils] := rfl
  have hlo3' : M1.lo ≤ M1.n := hlo3
  have hb5 : hasB (ofL [MV.nils, .b false, .nils, .nils, .nils] 0) 5 0 = true := has_ofL _ _ _ (by decide)
  have hds : stW ((M3.down M1.lo).set M1.n (some (MO.cs false 5 (ofL [MV.nils, MV.b false, MV.nils, MV.nils, MV.nils] 0)))) 5 M1.n 0 (MV.ag [sv, MV.b p.null, vfi, vla, MV.nils]) (some (MO.cs false 5 (ofL [MV.nils, MV.b false, MV.nils, MV.nils, MV.nils] 0))) = some (.u, ((M3.down M1.lo).set M1.n (some (MO.cs false 5 (ofL [MV.nils, MV.b false, MV.nils, MV.nils, MV.nils] 0)))).set M1.n (some (.cs false 5 (setN [sv, .b p.null, vfi, vla, .nils] 0 (ofL [MV.nils, MV.b false, MV.nils, MV.nils, MV.nils] 0))))) := stW_ok hlo3 hst5 hb5
  simp (maxSteps := 4000000) (disch := first | omega | assumption | (simp only [bxS, bxV, stOk, Nat.reduceBEq, Nat.reduceEqDiff, Nat.reduceAdd]; done) | (simp only [bxU]; omega) | ((try apply has_setN); apply has_ofL; simp only [bxL]; omega)) only [↓bxD, bxP, bxQ, bxQ2, Nat.reduceBEq, reduceCtorEq, Nat.reduceAdd, Nat.reduceSub, Nat.reduceMul, Nat.reduceLeDiff, Nat.reduceLT, bxR, nck_p, hg, c3, c4, g0, v1, v2, v3, map_ag, hds]
  generalize hM4 : MH.set _ _ _ = M4
  have u2 : Sub M1 M2 := ⟨Nat.le_trans (Nat.le_succ _) hx2.n, fun j hj => hx2.old j (Nat.lt_succ_of_lt hj)⟩
  have n2 : M1.n + 1 ≤ M2.n := hx2.n
  have u3 : Sub M2 M3 := ⟨hx3.n, fun j hj => hx3.old j hj⟩
  have n3 : M2.n ≤ M3.n := hx3.n
  have n4 : M4.n = M3.n := by rw [← hM4]; rfl
  have l4 : M4.lo = M1.lo := by rw [← hM4]; rfl
  have o4 : ∀ j, j ≠ M1.n → M4.get j = M3.get j := fun j hj => by rw [← hM4, set_ne hj, set_ne hj]; rfl
  have g4 : M4.get M1.n = some (.cs false 5 (setN [sv, .b p.null, vfi, vla, .nils] 0 (ofL [MV.nils, MV.b false, MV.nils, MV.nils, MV.nils] 0))) := by rw [← hM4]; exact set_same _ _
  clear hM4
  have x4 : Ext M1 M4 := ⟨by omega, l4, fun j hj => by rw [o4 j (by omega), u3.old j (by omega), u2.old j hj]⟩
  have hr2' : OwnRow (M1.n + 1) M4 1 vfi (nv (bitsOf p.fi 150)) := OwnRow.keep hr2 (by omega) fun a n d e e2 => by
    obtain ⟨cc, q1, q2, q3⟩ := own_id hr2 e2
    have q2 : M1.n + 1 ≤ a := q2
    rw [o4 a (by omega), u3.old a q3]
  have hr3' : OwnRow (M1.n + 1) M4 1 vla (nv (bitsOf p.la 150)) := (OwnRow.le hr3 (show M1.n + 1 ≤ M2.n from n2)).keep (by omega) fun a n d e e2 => by
    obtain ⟨cc, q1, q2, q3⟩ := own_id hr3 e2
    have q2 : M2.n ≤ a := q2
    rw [o4 a (by omega)]
  have a4 : At (setN [sv, .b p.null, vfi, vla, .nils] 0 (ofL [MV.nils, MV.b false, MV.nils, MV.nils, MV.nils] 0)) 0 [sv, .b p.null, vfi, vla, .nils] := at_setN _ _ _
  generalize hc5 : setN [sv, .b p.null, vfi, vla, .nils] 0 (ofL [MV.nils, MV.b false, MV.nils, MV.nils, MV.nils] 0) = c5 at g4 a4
  clear hc5
  have h4 := h1.more x4
  have hg4 := h4.g
  have g14 := (x4.old (M.n + 1) (by omega)).trans g1
  obtain ⟨rf1, rf2⟩ := h4.rf.row.sl
  rw [List.length_map] at rf2
  show Wp fns K24_4 _ _ _
  generalize hf1 : (T.set _ _ _ : Fr) = f1
  have k0 : X.ev f1 (.t q0) = .p bx 0 := by rw [← hf1]; simp (maxSteps := 4000000) (disch := first | omega | assumption | (simp only [bxS, bxV, stOk, Nat.reduceBEq, Nat.reduceEqDiff, Nat.reduceAdd]; done) | (simp only [bxU]; omega) | ((try apply has_setN); apply has_ofL; simp only [bxL]; omega)) only [↓bxD, bxP, bxQ, bxQ2, Nat.reduceBEq, reduceCtorEq, Nat.reduceAdd, Nat.reduceSub, Nat.reduceMul, Nat.reduceLeDiff, Nat.reduceLT, bxR, nck_p, hg, c3, c4, g0, v1, v2, v3, map_ag]
  have k5 : X.ev f1 (.t q5) = .p M1.n 0 := by rw [← hf1]; simp (maxSteps := 4000000) (disch := first | omega | assumption | (simp only [bxS, bxV, stOk, Nat.reduceBEq, Nat.reduceEqDiff, Nat.reduceAdd]; done) | (simp only [bxU]; omega) | ((try apply has_setN); apply has_ofL; simp only [bxL]; omega)) only [↓bxD, bxP, bxQ, bxQ2, Nat.reduceBEq, reduceCtorEq, Nat.reduceAdd, Nat.reduceSub, Nat.reduceMul, Nat.reduceLeDiff, Nat.reduceLT, bxR, nck_p, hg, c3, c4, g0, v1, v2, v3, map_ag]
  have k4 : f1.get q4 = some (.p (M.n + 1) 0) := by rw [← hf1]; simp (maxSteps := 4000000) (disch := first | omega | assumption | (simp only [bxS, bxV, stOk, Nat.reduceBEq, Nat.reduceEqDiff, Nat.reduceAdd]; done) | (simp only [bxU]; omega) | ((try apply has_setN); apply has_ofL; simp only [bxL]; omega)) only [↓bxD, bxP, bxQ, bxQ2, Nat.reduceBEq, reduceCtorEq, Nat.reduceAdd, Nat.reduceSub, Nat.reduceMul, Nat.reduceLeDiff, Nat.reduceLT, bxR, nck_p, hg, c3, c4, g0, v1, v2, v3, map_ag, get_set]
  clear hf1
  simp only [q0, q4, q5] at k0 k4 k5
  unfold K24_4
  simp (maxSteps := 4000000) (disch := first | omega | assumption | (simp only [bxS, bxV, stOk, Nat.reduceBEq, Nat.reduceEqDiff, Nat.reduceAdd]; done) | (simp only [bxU]; omega) | ((try apply has_setN); apply has_ofL; simp only [bxL]; omega)) only [↓bxD, bxP, bxQ, bxQ2, Nat.reduceBEq, reduceCtorEq, Nat.reduceAdd, Nat.reduceSub, Nat.reduceMul, Nat.reduceLeDiff, Nat.reduceLT, bxR, k0, k4, k5, hg4, c4, nck_p, rf1, rf2, len_sl, get_set]
  refine Wp_inv (σ := Nat) (fun k f M' => k ≤ b.fol.length ∧ X.ev f (.t q24) = fv ∧ X.ev f (.t q5) = .p M1.n 0 ∧ f.get q4 = some (.p (M.n + 1) 0) ∧ X.ev f (.t q25) = .i .i64 (b.fol.length : Int) ∧ X.ev f (.t q26) = .i .i64 (k : Int) ∧ Chg (fun j => j = M1.n) M4 M' ∧ ∃ (c : T MV) (vo : MV) (es : List MV), M'.get M1.n = some (.cs false 5 c) ∧ At c 0 [sv, .b p.null, vfi, vla, vo] ∧ OwnRow M4.n M' 1 vo (es.map fun x => [x]) ∧ es.length = k ∧ ∀ (i : Nat) (x : MV) (N : Nat), es[i]? = some x → b.fol[i]? = some N → OwnRow M4.n M' 1 x (nv (bitsOf N 150)) ∧ ∀ a n d e, x = .sl a n d e → ∀ a' n' d' e', vo = .sl a' n' d' e' → a < a') (fun k => b.fol.length - k) ?_ 0 ?_
  · rintro k f M' ⟨hk, h24, h5, h4', h25, h26, hC, c, vo, es, gc, ac, rv, hel, hes⟩
    have n5 := hC.n
    have l5 := hC.lo
    have hk4 := ev_get h4'
    simp only [q4, q5, q24, q25, q26] at h5 h4' hk4 h24 h25 h26
    unfold L24_2
    simp (maxSteps := 4000000) (disch := first | omega | assumption | (simp only [bxS, bxV, stOk, Nat.reduceBEq, Nat.reduceEqDiff, Nat.reduceAdd]; done) | (simp only [bxU]; omega) | ((try apply has_setN); apply has_ofL; simp only [bxL]; omega)) only [↓bxD, bxP, bxQ, bxQ2, Nat.reduceBEq, reduceCtorEq, Nat.reduceAdd, Nat.reduceSub, Nat.reduceMul, Nat.reduceLeDiff, Nat.reduceLT, bxR, h24, h5, hk4, h25, h26, rf1, rf2, push_at]
    refine condP_split (fun hlt => ?_) (fun hge => ?_)
    · have hik : k < b.fol.length := by omega
      obtain ⟨N, hN⟩ : ∃ N, b.fol[k]? = some N := ⟨_, List.getElem?_eq_getElem hik⟩
      have rfM : RowAt M' 3 fv (b.fol.map plc) := by
        obtain ⟨hs, ⟨e1, e2⟩ | ⟨A, cf, e1, e2, e3, e4, e5⟩⟩ := h4.rf
        · exact ⟨hs, .inl ⟨e1, e2⟩⟩
        · exact ⟨hs, .inr ⟨A, 0, 0, false, 3, cf, e1, by rw [hC.old A e4 (fun e => by rw [e, g4] at e2; cases e2)]; exact e2, by omega, e5⟩⟩
      obtain ⟨ro, sz, t, q1', q2', q3'⟩ := rfM.read (i := k) (e := plc N) (by rw [List.getElem?_map, hN]; rfl)
      have hgN : Ev.getN t 3 (soff fv + k * 3) = some (plc N) := q3'.getN
      have hstp : stOk 3 (.ag (plc N)) = true := rfl
      have hclp : MV.cells (.ag (plc N)) = plc N := rfl
      have hgp : Ev.getN (setN (plc N) 0 (ofL [.i .u64 0, .i .u64 0, .i .u64 0] 0)) 3 0 = some (plc N) := getN_setN' rfl
      have c4' : cget c 4 = some vo := ac 4 _ rfl
      simp (maxSteps := 4000000) (disch := first | omega | assumption | (simp only [bxS, bxV, stOk, Nat.reduceBEq, Nat.reduceEqDiff, Nat.reduceAdd]; done) | (simp only [bxU]; omega) | ((try apply has_setN); apply has_ofL; simp only [bxL]; omega)) only [↓bxD, bxP, bxQ, bxQ2, Nat.reduceBEq, reduceCtorEq, Nat.reduceAdd, Nat.reduceSub, Nat.reduceMul, Nat.reduceLeDiff, Nat.reduceLT, bxR, h24, h5, hk4, h25, h26, rf1, rf2, push_at]
      show Wp fns K24_1 _ _ _
      unfold K24_1
      simp (maxSteps := 4000000) (disch := first | omega | assumption | (simp only [bxS, bxV, stOk, Nat.reduceBEq, Nat.reduceEqDiff, Nat.reduceAdd]; done) | (simp only [bxU]; omega) | ((try apply has_setN); apply has_ofL; simp only [bxL]; omega)) only [↓bxD, bxP, bxQ, bxQ2, Nat.reduceBEq, reduceCtorEq, Nat.reduceAdd, Nat.reduceSub, Nat.reduceMul, Nat.reduceLeDiff, Nat.reduceLT, bxR, h24, h5, hk4, h25, h26, rf1, rf2, push_at, q1', hgN, hclp]
      generalize hM5 : MH.set _ _ _ = M5
      have x5 : Ext M' M5 := by rw [← hM5]; exact (Ext.push M' _).set _ (Nat.le_refl _)
      have n5' : M5.n = M'.n + 1 := by rw [← hM5]; rfl
      have g7 : M5.get M'.n = some (.cs false 3 (setN (plc N) 0 (ofL [.i .u64 0, .i .u64 0, .i .u64 0] 0))) := by rw [← hM5]; exact set_same _ _
      have l5' := x5.lo
      clear hM5
      have gc5 := (x5.old M1.n (by omega)).trans gc
      have hbk : hasB c 1 4 = true := has_at ac (by omega) (by simp)
      refine Wp_dreg_of (by omega) ?_
      simp (maxSteps := 4000000) (disch := first | omega | assumption | (simp only [bxS, bxV, stOk, Nat.reduceBEq, Nat.reduceEqDiff, Nat.reduceAdd]; done) | (simp only [bxU]; omega) | ((try apply has_setN); apply has_ofL; simp only [bxL]; omega)) only [↓bxD, bxP, bxQ, bxQ2, Nat.reduceBEq, reduceCtorEq, Nat.reduceAdd, Nat.reduceSub, Nat.reduceMul, Nat.reduceLeDiff, Nat.reduceLT, bxR, h24, h5, hk4, h25, h26, rf1, rf2, push_at, gc5, c4', g7, hgp, map_ag]
      refine bindP_call (list_any (Nat.le_refl _)) ?_
      rintro vx M6 ⟨hx6, hr6⟩
      have u6 : Sub M5 M6 := ⟨hx6.n, fun j hj => hx6.old j hj⟩
      have n6 : M5.n ≤ M6.n := hx6.n
      have hl6 : M6.lo = M5.n := hx6.lo
      obtain ⟨sx1, sx2⟩ := hr6.row.sl
      have ffx : fillM [(0, 1, vx)] [.nils] = some [vx] := by cases vx <;> first | rfl | cases sx1
      have hpl : ∀ m o, pushV (M6.down M5.lo).lift m o = some (m, (M6.down M5.lo).lift.push o) := fun m o => push_ok (Nat.le_refl _)
      simp (maxSteps := 4000000) (disch := first | omega | assumption | (simp only [bxS, bxV, stOk, Nat.reduceBEq, Nat.reduceEqDiff, Nat.reduceAdd]; done) | (simp only [bxU]; omega) | ((try apply has_setN); apply has_ofL; simp only [bxL]; omega)) only [↓bxD, bxP, bxQ, bxQ2, Nat.reduceBEq, reduceCtorEq, Nat.reduceAdd, Nat.reduceSub, Nat.reduceMul, Nat.reduceLeDiff, Nat.reduceLT, bxR, h24, h5, hk4, h25, h26, rf1, rf2, push_at, ffx, bslW_some, hpl]
      generalize hM7 : MH.down _ _ = M7
      have u7 : Sub M6 M7 := by rw [← hM7]; exact (((Sub.down M6 M5.lo).trans (Sub.lift _)).trans (Ext.push _ _).sub).trans (.down _ _)
      have n7 : M7.n = M6.n + 1 := by rw [← hM7]; rfl
      have l7 : M7.lo = M5.lo := by rw [← hM7]; rfl
      have t7 : RowAt M7 1 (.sl M6.n 0 1 0) [[vx]] := by rw [← hM7]; exact (row_one (M := (M6.down M5.lo).lift) rfl).sub (.down _ _)
      clear hM7
      have u57 : Sub M5 M7 := u6.trans u7
      have x7 : Ext M' M7 := (x5.sub.trans u57).ext (by omega)
      have rv7 : OwnRow M4.n M7 1 vo (es.map fun x => [x]) := rv.ext x7
      have gc7 := (x7.old M1.n (by omega)).trans gc
      have rx7 : OwnRow M4.n M7 1 vx (nv (bitsOf N 150)) := (OwnRow.le hr6 (show M4.n ≤ M5.n by omega)).keep (by omega) fun a n d e e2 => by
        obtain ⟨cc, q1, q2, q3⟩ := own_id hr6 e2
        exact u7.old a q3
      obtain ⟨vo', M8, a1, a2, a3, a4', a5, a6, a7⟩ := app_rowX (bytes := 24) rv7 t7 (by omega) (by omega) (fun e he => by
        simp only [List.mem_cons, List.not_mem_nil, or_false] at he
        subst he
        cases vx <;> first | rfl | cases sx1) (by rw [List.length_map]; simp only [List.length_cons, List.length_nil]; omega) (by rw [List.length_map]; simp only [List.length_cons, List.length_nil]; omega)
      obtain ⟨nn, rfl⟩ := a7 (by simp)
      have gc8 : M8.get M1.n = some (.cs false 5 c) := by
        rw [a6 M1.n (by omega) (by omega)]; exact gc7
      refine bindP_of a1 ?_
      simp (maxSteps := 4000000) (disch := first | omega | assumption | (simp only [bxS, bxV, stOk, Nat.reduceBEq, Nat.reduceEqDiff, Nat.reduceAdd]; done) | (simp only [bxU]; omega) | ((try apply has_setN); apply has_ofL; simp only [bxL]; omega)) only [↓bxD, bxP, bxQ, bxQ2, Nat.reduceBEq, reduceCtorEq, Nat.reduceAdd, Nat.reduceSub, Nat.reduceMul, Nat.reduceLeDiff, Nat.reduceLT, bxR, h24, h5, hk4, h25, h26, rf1, rf2, push_at, gc8, cells_sl]
      show Wp fns K24_0 _ _ _
      unfold K24_0
      simp (maxSteps := 4000000) (disch := first | omega | assumption | (simp only [bxS, bxV, stOk, Nat.reduceBEq, Nat.reduceEqDiff, Nat.reduceAdd]; done) | (simp only [bxU]; omega) | ((try apply has_setN); apply has_ofL; simp only [bxL]; omega)) only [↓bxD, bxP, bxQ, bxQ2, Nat.reduceBEq, reduceCtorEq, Nat.reduceAdd, Nat.reduceSub, Nat.reduceMul, Nat.reduceLeDiff, Nat.reduceLT, bxR, h24, h5, hk4, h25, h26, rf1, rf2, push_at]
      generalize hM9 : MH.set _ _ _ = M9
      have n9 : M9.n = M8.n := by rw [← hM9]; rfl
      have l9 : M9.lo = M8.lo := by rw [← hM9]; rfl
      have g9 : M9.get M1.n = some (.cs false 5 (setN [MV.sl M7.n 0 nn 0] 4 c)) := by rw [← hM9]; exact set_same _ _
      have o9 : ∀ j, j ≠ M1.n → M9.get j = M8.get j := fun j hj => by rw [← hM9, set_ne hj]
      clear hM9
      refine ⟨k + 1, by omega, by omega, h4', rfl, ⟨by omega, by omega, fun j hj hs => ?_⟩, setN [MV.sl M7.n 0 nn 0] 4 c, .sl M7.n 0 nn 0, es ++ [vx], rfl, ac.set' 4 _ (by simp) rfl, ?_, by rw [List.length_append, hel]; rfl, ?_⟩
      · rw [o9 j hs, a6 j hj (by omega), x7.old j (by omega)]
        exact hC.old j hj hs
      · rw [List.map_append]
        exact a2.keep (by omega) fun a n d e e2 => by
          cases e2
          rw [o9 _ (by omega)]
      · intro i x N' hi hN'
        have keepx : ∀ (x : MV) (l : List Nat), OwnRow M4.n M7 1 x (nv l) → (∀ a n d e, x = .sl a n d e → ∀ a' n' d' e', vo = .sl a' n' d' e' → a ≠ a') → OwnRow M4.n M9 1 x (nv l) := fun x l hr hne => hr.keep (by omega) fun a n d e e2 => by
          obtain ⟨cc, q1, q2, q3⟩ := own_id hr e2
          rw [o9 a (by omega), a5 a q3 fun a' n' d' e' e3 e4 => hne _ _ _ _ e2 _ _ _ _ e3 e4.symm]
        rw [List.getElem?_append] at hi
        split at hi
        · obtain ⟨r1, r2⟩ := hes i x N' hi hN'
          refine ⟨keepx x _ (r1.ext x7) fun a n d e e2 a' n' d' e' e3 e4 => ?_, fun a n d e e2 a' n' d' e' e3 => ?_⟩
          · have := r2 a n d e e2 a' n' d' e' e3
            omega
          · obtain ⟨cc, q1, q2, q3⟩ := own_id r1 e2
            cases e3
            omega
        · rename_i hge
          have hi0 : i = k := by
            have := (List.getElem?_eq_some_iff.1 hi).1
            simp at this; omega
          subst hi0
          rw [show i - es.length = 0 from by omega] at hi
          cases hi
          rw [hN] at hN'
          cases hN'
          refine ⟨keepx _ _ rx7 fun a n d e e2 a' n' d' e' e3 e4 => ?_, fun a n d e e2 a' n' d' e' e3 => ?_⟩
          · obtain ⟨cc, q1, q2, q3⟩ := own_id hr6 e2
            obtain ⟨cc', q1', q2', q3'⟩ := own_id rv e3
            have q2 : M5.n ≤ a := q2
            omega
          · obtain ⟨cc, q1, q2, q3⟩ := own_id hr6 e2
            cases e3
            omega
    · have hik : k = b.fol.length := by omega
      have gN : Ev.getN c 5 0 = some [sv, .b p.null, vfi, vla, vo] := ac.getN
      have g15 : M'.get (M.n + 1) = _ := (hC.old (M.n + 1) (by omega) (by omega)).trans g14
      obtain ⟨so1, so2⟩ := rv.row.sl
      have hst6 : stOk 5 (.ag [sv, .b p.null, vfi, vla, vo]) = true := by
        cases sv <;> first | cases s1 | skip
        all_goals cases vfi <;> first | cases s2 | skip
        all_goals cases vla <;> first | cases s3 | skip
        all_goals cases vo <;> first | cases so1 | skip
        all_goals rfl
      have hcl6 : MV.cells (.ag [sv, .b p.null, vfi, vla, vo]) = [sv, .b p.null, vfi, vla, vo] := rfl
      have hgf : ∀ l : List MV, Ev.getN (setN [sv, .b p.null, vfi, vla, vo] 0 (ofL l 0)) 5 0 = some [sv, .b p.null, vfi, vla, vo] := fun l => getN_setN' rfl
      have hb5' : hasB (ofL [MV.nils, .b false, .nils, .nils, .nils] 0) 5 0 = true := has_ofL _ _ _ (by decide)
      simp (maxSteps := 4000000) (disch := first | omega | assumption | (simp only [bxS, bxV, stOk, Nat.reduceBEq, Nat.reduceEqDiff, Nat.reduceAdd]; done) | (simp only [bxU]; omega) | ((try apply has_setN); apply has_ofL; simp only [bxL]; omega)) only [↓bxD, bxP, bxQ, bxQ2, Nat.reduceBEq, reduceCtorEq, Nat.reduceAdd, Nat.reduceSub, Nat.reduceMul, Nat.reduceLeDiff, Nat.reduceLT, bxR, h24, h5, hk4, h25, h26, rf1, rf2, push_at]
      show Wp fns K24_3 _ _ _
      unfold K24_3
      simp (maxSteps := 4000000) (disch := first | omega | assumption | (simp only [bxS, bxV, stOk, Nat.reduceBEq, Nat.reduceEqDiff, Nat.reduceAdd]; done) | (simp only [bxU]; omega) | ((try apply has_setN); apply has_ofL; simp only [bxL]; omega)) only [↓bxD, bxP, bxQ, bxQ2, Nat.reduceBEq, reduceCtorEq, Nat.reduceAdd, Nat.reduceSub, Nat.reduceMul, Nat.reduceLeDiff, Nat.reduceLT, bxR, h24, h5, hk4, h25, h26, rf1, rf2, push_at, gc, gN, g15, hcl6, hgf, res_cN, cNV_p, cNo_cs, get_set, h4', map_ag]
      generalize hM9 : MH.set _ _ _ = M9
      have o9 : ∀ j, j ≠ M.n + 1 → M9.get j = M'.get j := fun j hj => by rw [← hM9, set_ne hj]
      have n9 : M9.n = M'.n := by rw [← hM9]; rfl
      have l9 : M9.lo = M'.lo := by rw [← hM9]; rfl
      clear hM9
      have keep4 : ∀ {lo sz : Nat} {v : MV} {l : List (List MV)}, sz ≠ 5 → Mb.n ≤ lo → OwnRow lo M4 sz v l → OwnRow Mb.n M9 sz v l := fun hz hlo' hr => OwnRow.le (hr.keep (by omega) fun a n d e e2 => by
        obtain ⟨cc, q1, q2, q3⟩ := own_id hr e2
        rw [o9 a (fun e => by rw [e, g14] at q1; cases q1; exact hz rfl), hC.old a q3 (fun e => by rw [e, g4] at q1; cases q1; exact hz rfl)]) hlo'
      have keep5 : ∀ {v : MV} {l : List (List MV)}, OwnRow M4.n M' 1 v l → OwnRow Mb.n M9 1 v l := fun hr => OwnRow.le (hr.keep (by omega) fun a n d e e2 => by
        obtain ⟨cc, q1, q2, q3⟩ := own_id hr e2
        rw [o9 a (by omega)]) (by omega)
      refine ⟨⟨sv, vfi, vla, vo, rfl, keep4 (by omega) (Nat.le_refl _) h4.rs, keep4 (by omega) (by omega) hr2', keep4 (by omega) (by omega) hr3', es, keep5 rv, by rw [List.length_map, hel, hik], fun i x y hi hy => ?_⟩, ⟨by omega, by omega, fun j hj => ?_⟩⟩
      · rw [List.getElem?_map] at hy
        cases hN : b.fol[i]? with
        | none => rw [hN] at hy; cases hy
        | some N =>
          rw [hN] at hy
          cases hy
          exact keep5 (hes i x N hi hN).1
      · rw [o9 j (by omega), hC.old j (by omega) (by omega), x4.old j (by omega)]
        exact hx.old j hj
  · refine ⟨Nat.zero_le _, by simp only [bxP, bxQ, bxQ2, reduceCtorEq, k0, k4, k5, hg4, c4, nck_p, rf1, rf2, len_sl, get_set], by simp only [bxP, bxQ, bxQ2, reduceCtorEq, k0, k4, k5, hg4, c4, nck_p, rf1, rf2, len_sl, get_set], by simp (maxSteps := 4000000) (disch := first | omega | assumption | (simp only [bxS, bxV, stOk, Nat.reduceBEq, Nat.reduceEqDiff, Nat.reduceAdd]; done) | (simp only [bxU]; omega) | ((try apply has_setN); apply has_ofL; simp only [bxL]; omega)) only [↓bxD, bxP, bxQ, bxQ2, Nat.reduceBEq, reduceCtorEq, Nat.reduceAdd, Nat.reduceSub, Nat.reduceMul, Nat.reduceLeDiff, Nat.reduceLT, bxR, k0, k4, k5, hg4, c4, nck_p, rf1, rf2, len_sl, get_set, get_set], by simp only [bxP, bxQ, bxQ2, reduceCtorEq, k0, k4, k5, hg4, c4, nck_p, rf1, rf2, len_sl, get_set], by simp only [bxP, bxQ, bxQ2, reduceCtorEq, k0, k4, k5, hg4, c4, nck_p, rf1, rf2, len_sl, get_set] <;> rfl, .refl _ _, c5, .nils, [], g4, a4, OwnRow.nil _ _ _, rfl, fun i x N hi => by simp at hi⟩
def wHas (w : Int) (k : Nat) : Bool := decide (bitsF .and .u64 (w.fdiv ((2 ^ k : Nat) : Int)) 1 = 1)
def hasS (s : List MV) (c : Nat) : Bool := match s[c / 64]? with
  | some (.i .u64 w) => wHas w (c % 64)
  | _ => false
theorem shr_u8 (i : Nat) : binV .shr (.i .u8 (i : Int)) (.i .u64 6) = some (.i .u8 ((i / 64 : Nat) : Int)) := by
  show (bif decide ((6 : Int) < 0) then none else some (MV.i .u8 ((i : Int).fdiv ((2 ^ (min (6 : Int).toNat 64) : Nat) : Int)))) = _
  rw [show ((2 ^ (min (6 : Int).toNat 64) : Nat)) = 64 from by decide, fdiv_nat]
  rfl
theorem shr_w {kk : IntKind} (w : Int) (s : Nat) (h : s < 64) : binV .shr (.i .u64 w) (.i kk (s : Int)) = some (.i .u64 (w.fdiv ((2 ^ s : Nat) : Int))) := by
  have : binV .shr (.i .u64 w) (.i kk (s : Int)) = (bif decide ((s : Int) < 0) then none else some (MV.i .u64 (w.fdiv ((2 ^ (min (s : Int).toNat 64) : Nat) : Int)))) := by cases kk <;> rfl
  rw [this, decide_eq_false (by omega), cond_false, show min (s : Int).toNat 64 = s from by omega]
theorem and_w (w : Int) : binV .and (.i .u64 w) (.i .u64 1) = some (.i .u64 (bitsF .and .u64 w 1)) := rfl
theorem and63_u8 {i : Nat} (h : i < 256) : binV .and (.i .u8 (i : Int)) (.i .u8 63) = some (.i .u8 ((i % 64 : Nat) : Int)) := by
  have e1 : (BitVec.ofInt IntKind.u8.bits (i : Int)).toNat = i := by
    rw [BitVec.ofInt_natCast, BitVec.toNat_ofNat]; exact Nat.mod_eq_of_lt (Nat.lt_of_lt_of_le h (by decide))
  have e2 : (BitVec.ofInt IntKind.u8.bits ((63 : Nat) : Int)).toNat = 63 := by
    rw [BitVec.ofInt_natCast, BitVec.toNat_ofNat]; rfl
  show (bif (IntKind.u8 == IntKind.u8) then some (MV.i .u8 (wrapF .u8 (((BitVec.ofInt IntKind.u8.bits (i : Int)) &&& (BitVec.ofInt IntKind.u8.bits ((63 : Nat) : Int))).toNat : Int))) else none) = _
  rw [BitVec.toNat_and, e1, e2]
  have : i &&& 63 = i % 64 := Nat.and_two_pow_sub_one_eq_mod i 6
  rw [this, wrapF_eq]
  simp only [IntKind.wrap, IntKind.bits, IntKind.signed]
  simp
  omega
theorem cv_u8 {i : Nat} (h : i < 256) : cvIV .u64 (.i .u8 (i : Int)) = some (.i .u64 (i : Int)) := by
  show some (MV.i .u64 (wrapF .u64 (i : Int))) = _
  rw [wrap_u64 (by omega)]
theorem st4_at (a b c d : Int) {k : Nat} (h : k < 4) : ∃ w, (st4 a b c d)[k]? = some (.i .u64 w) := by
  match k, h with
  | 0, _ => exact ⟨a, rfl⟩
  | 1, _ => exact ⟨b, rfl⟩
  | 2, _ => exact ⟨c, rfl⟩
  | 3, _ => exact ⟨d, rfl⟩
theorem hasByte {M : MH} {a b c d : Int} {e : Nat} (he : e < 256) (hlo : M.lo ≤ M.n) : Cp fns 66 [.ag (st4 a b c d), .i .u8 (e : Int)] M fun m M' => m = .b (hasS (st4 a b c d) e) ∧ Ext M M' := by
  refine Cp_call (fn := F66) (by kernel_rfl) (Nat.le_of_ble_eq_true rfl) ?_
  show Wp fns B66 (T.set q1 (some (.i .u8 (e : Int))) (T.set q0 (some (.ag (st4 a b c d))) T.lf)) M _
  unfold B66
  obtain ⟨w, hw⟩ := st4_at a b c d (k := e / 64) (by omega)
  have hU : isU (.ag (st4 a b c d)) = false := rfl
  have hcl : MV.cells (.ag (st4 a b c d)) = st4 a b c d := rfl
  have hlen : (st4 a b c d).length = 4 := rfl
  have c1 : cget (ofL (st4 a b c d) 0) (0 + e / 64 * 1) = some (.i .u64 w) := at_ofL (st4 a b c d) _ _ (by rw [Nat.mul_one]; exact hw)
  have e1 := shr_u8 e
  have e2 := and63_u8 he
  have e3 := shr_w (kk := .u8) w (e % 64) (by omega)
  have e5 : ixAV 4 1 (.p M.n 0) (.i .u8 ((e / 64 : Nat) : Int)) = some (.p M.n (0 + e / 64 * 1)) := ixA_p (by omega)
  simp (maxSteps := 4000000) (disch := first | omega | assumption | (simp only [bxS, bxV, stOk, Nat.reduceBEq, Nat.reduceEqDiff, Nat.reduceAdd]; done) | (simp only [bxU]; omega) | ((try apply has_setN); apply has_ofL; simp only [bxL]; omega)) only [↓bxD, bxP, bxQ, Nat.reduceBEq, reduceCtorEq, Nat.reduceAdd, Nat.reduceSub, Nat.reduceMul, Nat.reduceLeDiff, Nat.reduceLT, bxR, hU, hcl, hlen, hw, e1, e2, e3, e5, and_w, Nat.zero_add, Nat.mul_one]
  refine ⟨?_, .push M _⟩
  unfold hasS wHas
  rw [hw]
theorem hasByte' {M : MH} {a b c d : Int} {e : Nat} (he : e < 256) (hlo : M.lo ≤ M.n) : Cp fns 29 [.ag (st4 a b c d), .i .u8 (e : Int)] M fun m M' => m = .b (hasS (st4 a b c d) e) ∧ Ext M M' := by
  refine Cp_call (fn := F29) (by kernel_rfl) (Nat.le_of_ble_eq_true rfl) ?_
  show Wp fns B29 (T.set q1 (some (.i .u8 (e : Int))) (T.set q0 (some (.ag (st4 a b c d))) T.lf)) M _
  unfold B29
  obtain ⟨w, hw⟩ := st4_at a b c d (k := e / 64) (by omega)
  have hU : isU (.ag (st4 a b c d)) = false := rfl
  have hcl : MV.cells (.ag (st4 a b c d)) = st4 a b c d := rfl
  have hlen : (st4 a b c d).length = 4 := rfl
  have c1 : cget (ofL (st4 a b c d) 0) (0 + e / 64 * 1) = some (.i .u64 w) := at_ofL (st4 a b c d) _ _ (by rw [Nat.mul_one]; exact hw)
  have e1 := shr_u8 e
  have e2 := and63_u8 he
  have e3 := shr_w (kk := .u64) w (e % 64) (by omega)
  have e4 := cv_u8 (i := e % 64) (by omega)
  have e5 : ixAV 4 1 (.p M.n 0) (.i .u8 ((e / 64 : Nat) : Int)) = some (.p M.n (0 + e / 64 * 1)) := ixA_p (by omega)
  simp (maxSteps := 4000000) (disch := first | omega | assumption | (simp only [bxS, bxV, stOk, Nat.reduceBEq, Nat.reduceEqDiff, Nat.reduceAdd]; done) | (simp only [bxU]; omega) | ((try apply has_setN); apply has_ofL; simp only [bxL]; omega)) only [↓bxD, bxP, bxQ, Nat.reduceBEq, reduceCtorEq, Nat.reduceAdd, Nat.reduceSub, Nat.reduceMul, Nat.reduceLeDiff, Nat.reduceLT, bxR, hU, hcl, hlen, hw, e1, e2, e3, e4, e5, and_w, Nat.zero_add, Nat.mul_one]
  refine ⟨?_, .push M _⟩
  unfold hasS wHas
  rw [hw]
structure WS (M0 M : MH) (wx : Nat) (ps : List MV) (tv : MV) (k : Nat) (tk nw : List Nat) (nowv spv : MV) : Prop where
  ext : Ext M0 M
  lo : M0.lo ≤ M0.n
  w0 : M0.n ≤ wx
  w1 : wx < M.n
  ps5 : ps.length = 5
  cell : ∃ c, M.get wx = some (.cs false 9 c) ∧ At c 0 (ps ++ [.i .i64 (k : Int), nowv, spv, tv])
  T : OwnRow M0.n M 1 tv (nv tk)
  N : OwnRow M0.n M 1 nowv (nv nw)
  dT : ∀ a b n d, tv = .sl a b n d → a ≠ wx
  dN : ∀ a b n d, nowv = .sl a b n d → a ≠ wx ∧ ∀ a' b' n' d', tv = .sl a' b' n' d' → a ≠ a'
theorem WS.at5 {M0 M : MH} {wx : Nat} {ps : List MV} {tv : MV} {k : Nat} {tk nw : List Nat} {nowv spv : MV} (h : WS M0 M wx ps tv k tk nw nowv spv) : ∃ c, M.get wx = some (.cs false 9 c) ∧ At c 0 (ps ++ [.i .i64 (k : Int), nowv, spv, tv]) ∧ cget c 5 = some (.i .i64 (k : Int)) ∧ cget c 6 = some nowv ∧ cget c 7 = some spv ∧ cget c 8 = some tv := by
  obtain ⟨c, h1, h2⟩ := h.cell
  have h5 := h.ps5
  have e : ∀ j x, [MV.i .i64 (k : Int), nowv, spv, tv][j]? = some x → cget c (0 + (5 + j)) = some x := fun j x hx => h2 (5 + j) x (by rw [List.getElem?_append_right (by omega), h5, Nat.add_sub_cancel_left]; exact hx)
  exact ⟨c, h1, h2, e 0 _ rfl, e 1 _ rfl, e 2 _ rfl, e 3 _ rfl⟩
theorem isPlace_any {M : MH} {wx n i : Nat} {c : T MV} {tv : MV} (hg : M.get wx = some (.cs false 9 c)) (c8 : cget c 8 = some tv) (hs1 : isSl tv = true) (hs2 : slen tv = n) : Cp fns 51 [.p wx 0, .i .i64 (i : Int)] M fun m M' => m = .b (decide (i < n)) ∧ M' = M := by
  refine Cp_call (fn := F51) (by kernel_rfl) (Nat.le_of_ble_eq_true rfl) ?_
  show Wp fns B51 (T.set q1 (some (.i .i64 (i : Int))) (T.set q0 (some (.p wx 0)) T.lf)) M _
  unfold B51
  have h0 : decide ((0 : Int) ≤ (i : Int)) = true := decide_eq_true (by omega)
  simp (maxSteps := 4000000) (disch := first | omega | assumption | (simp only [bxS, bxV, stOk, Nat.reduceBEq, Nat.reduceEqDiff, Nat.reduceAdd]; done) | (simp only [bxU]; omega) | ((try apply has_setN); apply has_ofL; simp only [bxL]; omega)) only [↓bxD, bxP, bxQ, Nat.reduceBEq, reduceCtorEq, Nat.reduceAdd, Nat.reduceSub, Nat.reduceMul, Nat.reduceLeDiff, Nat.reduceLT, bxR, hg, c8, hs1, hs2, h0, nck_p]
  rw [show decide ((i : Int) < (n : Int)) = decide (i < n) from decide_eq_decide.2 Int.ofNat_lt]
theorem isAt_any {M : MH} {wx i k : Nat} {tk : List Nat} {c : T MV} {tv : MV} (hlo : M.lo ≤ M.n) (hg : M.get wx = some (.cs false 9 c)) (hw : wx < M.n) (c5 : cget c 5 = some (.i .i64 (k : Int))) (c8 : cget c 8 = some tv) (hT : RowAt M 1 tv (nv tk)) : Cp fns 28 [.p wx 0, .i .i64 (i : Int)] M fun m M' => m = .b (decide (tk[i]? = some k)) ∧ Ext M M' := by
  obtain ⟨hs1, hs2⟩ := hT.sl
  have hs2 : slen tv = tk.length := hs2.trans (nv_len tk)
  refine Cp_call (fn := F28) (by kernel_rfl) (Nat.le_of_ble_eq_true rfl) ?_
  show Wp fns B28 (T.set q1 (some (.i .i64 (i : Int))) (T.set q0 (some (.p wx 0)) T.lf)) M _
  unfold B28
  simp (maxSteps := 4000000) (disch := first | omega | assumption | (simp only [bxS, bxV, stOk, Nat.reduceBEq, Nat.reduceEqDiff, Nat.reduceAdd]; done) | (simp only [bxU]; omega) | ((try apply has_setN); apply has_ofL; simp only [bxL]; omega)) only [↓bxD, bxP, bxQ, Nat.reduceBEq, reduceCtorEq, Nat.reduceAdd, Nat.reduceSub, Nat.reduceMul, Nat.reduceLeDiff, Nat.reduceLT, bxR, hg, c5, c8, hs1, hs2, nck_p]
  refine Wp_dreg_of hlo ?_
  simp (maxSteps := 4000000) (disch := first | omega | assumption | (simp only [bxS, bxV, stOk, Nat.reduceBEq, Nat.reduceEqDiff, Nat.reduceAdd]; done) | (simp only [bxU]; omega) | ((try apply has_setN); apply has_ofL; simp only [bxL]; omega)) only [↓bxD, bxP, bxQ, Nat.reduceBEq, reduceCtorEq, Nat.reduceAdd, Nat.reduceSub, Nat.reduceMul, Nat.reduceLeDiff, Nat.reduceLT, bxR, hg, c5, c8, hs1, hs2, nck_p]
  refine bindP_call (isPlace_any hg c8 hs1 hs2) ?_
  rintro m M2 ⟨rfl, rfl⟩
  by_cases hi : i < tk.length
  · obtain ⟨y, hy⟩ : ∃ y, tk[i]? = some y := ⟨_, List.getElem?_eq_getElem hi⟩
    obtain ⟨ro, sz, t, hg2, hlt, hA⟩ := hT.read (nv_at hy)
    have ha : cget t (soff tv + i * 1) = some (.i .i64 (y : Int)) := hA 0 _ rfl
    have hd : decide (i < tk.length) = true := decide_eq_true hi
    simp (maxSteps := 4000000) (disch := first | omega | assumption | (simp only [bxS, bxV, stOk, Nat.reduceBEq, Nat.reduceEqDiff, Nat.reduceAdd]; done) | (simp only [bxU]; omega) | ((try apply has_setN); apply has_ofL; simp only [bxL]; omega)) only [↓bxD, bxP, bxQ, Nat.reduceBEq, reduceCtorEq, Nat.reduceAdd, Nat.reduceSub, Nat.reduceMul, Nat.reduceLeDiff, Nat.reduceLT, bxR, hg, c5, c8, hs1, hs2, nck_p, hd, hg2, ha, hi]
    show Wp fns IC.ret _ _ _
    simp (maxSteps := 4000000) (disch := first | omega | assumption | (simp only [bxS, bxV, stOk, Nat.reduceBEq, Nat.reduceEqDiff, Nat.reduceAdd]; done) | (simp only [bxU]; omega) | ((try apply has_setN); apply has_ofL; simp only [bxL]; omega)) only [↓bxD, bxP, bxQ, Nat.reduceBEq, reduceCtorEq, Nat.reduceAdd, Nat.reduceSub, Nat.reduceMul, Nat.reduceLeDiff, Nat.reduceLT, bxR, hg, c5, c8, hs1, hs2, nck_p, hd, hg2, ha, hi]
    refine ⟨?_, .refl _⟩
    rw [hy]
    rw [show decide ((y : Int) = (k : Int)) = decide (some y = some k) from decide_eq_decide.2 (by rw [Option.some.injEq]; exact Int.ofNat_inj)]
  · have hd : decide (i < tk.length) = false := decide_eq_false hi
    simp (maxSteps := 4000000) (disch := first | omega | assumption | (simp only [bxS, bxV, stOk, Nat.reduceBEq, Nat.reduceEqDiff, Nat.reduceAdd]; done) | (simp only [bxU]; omega) | ((try apply has_setN); apply has_ofL; simp only [bxL]; omega)) only [↓bxD, bxP, bxQ, Nat.reduceBEq, reduceCtorEq, Nat.reduceAdd, Nat.reduceSub, Nat.reduceMul, Nat.reduceLeDiff, Nat.reduceLT, bxR, hd]
    show Wp fns IC.ret _ _ _
    simp (maxSteps := 4000000) (disch := first | omega | assumption | (simp only [bxS, bxV, stOk, Nat.reduceBEq, Nat.reduceEqDiff, Nat.reduceAdd]; done) | (simp only [bxU]; omega) | ((try apply has_setN); apply has_ofL; simp only [bxL]; omega)) only [↓bxD, bxP, bxQ, Nat.reduceBEq, reduceCtorEq, Nat.reduceAdd, Nat.reduceSub, Nat.reduceMul, Nat.reduceLeDiff, Nat.reduceLT, bxR, hd]
    rw [List.getElem?_eq_none (by omega)]
    exact ⟨rfl, .refl _⟩
end Go.Proofs.Ytcajphnjiepbaaa.K
