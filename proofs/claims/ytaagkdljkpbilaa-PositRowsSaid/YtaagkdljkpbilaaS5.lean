/-
  The survey closes a pattern. Conditions: none.
-/
import Derived.Test.YtaagkdljkpbilaaS4
import Derived.Test.YtaagkdljkpbilaaLitK
import Derived.Test.YtaagkdljkpbilaaSw
import Derived.Test.YtaagkdljkpbilaaBx
set_option linter.unusedSimpArgs false
set_option linter.unusedVariables false
namespace Go.Proofs.Ytaagkdljkpbilaa.K
open Go Ev
set_option maxRecDepth 100000
set_option maxHeartbeats 4000000

theorem SvO.open {Mb M : MH} {sv : Nat} {c : T MV} {mid : Nat} {mv pv : MV} {ms : List Mk} {path : List Nat} (h : SvO Mb M sv c mid mv pv ms path) {n : Nat} (hn : n < ms.length) :
    ∃ A cm, mv = .sl A 0 ms.length 0 ∧ M.get A = some (.cs false 5 cm) ∧ At cm 0 (ms.map Mk.cells).flatten ∧ Mb.n ≤ A ∧ A < M.n ∧ A ≠ sv ∧ A ≠ mid := by
  obtain ⟨hs, ⟨h1, h2⟩ | ⟨A, cm, h1, h2, h3, h4, h5⟩⟩ := h.rm
  · have : ms.length = 0 := by have := congrArg List.length h2; simpa using this
    omega
  · rw [List.length_map] at h1
    exact ⟨A, cm, h1, h2, h5, h3, h4, fun e => (by rw [e, h.g] at h2; cases h2), fun e => (by rw [e, h.gm] at h2; cases h2)⟩
theorem sized_mk (ms : List Mk) : Sized 5 (ms.map Mk.cells) := fun e he => by
  obtain ⟨m, _, rfl⟩ := List.mem_map.1 he
  rfl
theorem mk_at {ms : List Mk} {n : Nat} {m : Mk} {cm : T MV} (h : At cm 0 (ms.map Mk.cells).flatten) (hm : ms[n]? = some m) : At cm (n * 5) m.cells := by
  have := At.elem (sized_mk ms) h (i := n) (e := m.cells) (by rw [List.getElem?_map, hm]; rfl)
  rwa [Nat.zero_add] at this
theorem mk_set {ms : List Mk} {n o : Nat} {m m' : Mk} {cm : T MV} {x : MV} {k : Nat} (h : At cm 0 (ms.map Mk.cells).flatten) (hm : ms[n]? = some m) (ho : o < 5) (hc : m'.cells = m.cells.set o x) (hk : k = n * 5 + o) : At (setN [x] k cm) 0 ((ms.set n m').map Mk.cells).flatten := by
  have := At.elem_set (sized_mk ms) h (i := n) (o := o) (e := m.cells) (x := x) (by rw [List.getElem?_map, hm]; rfl) ho hk
  rw [← hc] at this
  rwa [List.map_set]
theorem ids_set {ms : List Mk} {n : Nat} {m m' : Mk} (hm : ms[n]? = some m) (h1 : m'.id = m.id) (h2 : m'.off = m.off) : (ms.set n m').map (fun m => (m.id, m.off)) = ms.map (fun m => (m.id, m.off)) := by
  rw [List.map_set, h1, h2]
  refine List.ext_getElem? fun i => ?_
  rw [List.getElem?_set]
  split
  · rename_i e
    subst e
    rw [List.getElem?_map, hm]
    split
    · rfl
    · rename_i hlt
      rw [List.length_map] at hlt
      exact (hlt (List.getElem?_eq_some_iff.1 hm).1).elim
  · rfl
theorem SvO.upd {Mb M M' : MH} {sv : Nat} {c : T MV} {mid : Nat} {mv pv : MV} {ms : List Mk} {path : List Nat} (h : SvO Mb M sv c mid mv pv ms path) {n A : Nat} {m m' : Mk} {cm' : T MV} (hm : ms[n]? = some m) (hA : mv = .sl A 0 ms.length 0) (hsv : A ≠ sv) (hmid : A ≠ mid) (hAb : Mb.n ≤ A) (hx : Chg (fun j => j = A) M M') (hg : M'.get A = some (.cs false 5 cm')) (hat : At cm' 0 ((ms.set n m').map Mk.cells).flatten) (hAn : A < M.n)
    (h1 : m'.id = m.id) (h2 : m'.off = m.off) (h3 : m'.x = m.x) (h4 : m'.kv = m.kv) : SvO Mb M' sv c mid mv pv (ms.set n m') path := by
  have e1 := h.svl
  have e2 := h.ml
  have e3 := h.ext.n
  have e4 := hx.n
  refine ⟨⟨by omega, hx.lo.trans h.ext.lo, fun j hj => (hx.old j (by omega) (by omega)).trans (h.ext.old j hj)⟩, (hx.old sv e1.2 (fun e => hsv e.symm)).trans h.g, ⟨e1.1, by omega⟩, h.at_, ?_, ⟨e2.1, by omega⟩, ?_, ?_, ?_⟩
  · rw [hx.old mid e2.2 (fun e => hmid e.symm), h.gm, List.length_set, ents_same (ids_set hm h1 h2)]
  · refine ⟨sized_mk _, .inr ⟨A, cm', ?_, hg, hAb, by omega, hat⟩⟩
    rw [hA, List.length_map, List.length_set]
  · exact h.rp.keep (by omega) fun a b n d e => by
      obtain ⟨cc, q1, q2, q3⟩ := own_id h.rp e
      obtain ⟨cc', q1', _⟩ := own_id h.rm hA
      exact hx.old a q3 fun e => by rw [e, q1'] at q1; cases q1
  · intro x hx'
    rcases List.mem_or_eq_of_mem_set hx' with hx' | rfl
    · exact h.nodes x hx'
    · rw [h1, h2, h3, h4]
      exact h.nodes m (List.mem_of_getElem? hm)
/-- One more kid's size. -/
def Mk.plus (m : Mk) (a b : Int) : Mk := { m with pl := min (m.pl + a) 151, dp := min (max m.dp (b + 1)) 201 }
def closeP (ms : List Mk) (p : List Nat) (n : Nat) (m : Mk) : List Mk :=
  match p.getLast? with
  | none => ms.set n { m with done := true }
  | some q => match ms[q]? with
    | some mq => (ms.set n { m with done := true }).set q (mq.plus m.pl m.dp)
    | none => ms.set n { m with done := true }
theorem close_any {Mb M : MH} {sv : Nat} {ms : List Mk} {p : List Nat} {n : Nat} {m : Mk} (h : Sv Mb M sv ms (p ++ [n])) (hlo : Mb.lo ≤ Mb.n) (hm : ms[n]? = some m) (hms : ∀ m ∈ ms, 0 ≤ m.pl ∧ m.pl ≤ 1000 ∧ 0 ≤ m.dp ∧ m.dp ≤ 1000) (hp : ∀ q ∈ p, q < ms.length ∧ q ≠ n) (hpl : p.length ≤ 1000000000) :
    Cp fns 41 [.p sv 0, .i .i64 (n : Int)] M fun _ M' => Sv Mb M' sv (closeP ms p n m) p := by
  obtain ⟨c, mid, mv, pv, h⟩ := h
  have hn := h.ext.n
  have hl2 := h.ext.lo
  have hlt := (List.getElem?_eq_some_iff.1 hm).1
  obtain ⟨A, cm, rfl, hA, hat, hA1, hA2, hA3, hA4⟩ := h.open hlt
  refine Cp_call (fn := F41) (by kernel_rfl) (Nat.le_of_ble_eq_true rfl) ?_
  show Wp fns B41 (T.set q1 (some (.i .i64 (n : Int))) (T.set q0 (some (.p sv 0)) T.lf)) M _
  unfold B41
  have g1 := h.g
  have c0 : cget c 0 = some (.m mid) := h.at_ 0 _ rfl
  have c1 : cget c 1 = some (.sl A 0 ms.length 0) := h.at_ 1 _ rfl
  have c2 : cget c 2 = some pv := h.at_ 2 _ rfl
  have ixm : ∀ i, i < ms.length → ixV 5 (.sl A 0 ms.length 0) (.i .i64 (i : Int)) = some (.p A (0 + i * 5)) := fun i hi => ix_sl (v := .sl A 0 ms.length 0) rfl hi
  have hmc := mk_at hat hm
  have m4 : cget cm (n * 5 + 4) = some (.b false) := hmc 4 _ rfl
  have hb : hasB cm 1 (n * 5 + 3) = true := has_at hmc (by omega) (by show _ ≤ n * 5 + 5; omega)
  have z4 : (n * 5 ≤ n * 5 + 1 ∧ n * 5 + 4 < n * 5 + 3 + 1) = False := eq_false (by omega)
  simp (maxSteps := 4000000) (disch := first | omega | assumption | (simp only [bxS, stOk, Nat.reduceBEq, Nat.reduceEqDiff, Nat.reduceAdd]; done) | (simp only [push_lo, push_n, set_lo, set_n]; omega) | (apply has_ofL; simp only [List.length_cons, List.length_nil]; omega) | (apply has_setN; apply has_ofL; simp only [List.length_cons, List.length_nil]; omega)) only [↓bxD, bxP, bxQ, bxQ2, Nat.reduceBEq, reduceCtorEq, Nat.reduceAdd, Nat.reduceSub, Nat.reduceMul, Nat.reduceLeDiff, Nat.reduceLT, R10, R13, R22, R23, R24, R25, R4, R40, R41, R42, R43, R44, R45, R46, R47, R48, R5, R61, R62, R63, R64, R65, R9, g1, c0, c1, c2, nck_p, ixm, Nat.zero_add, hA, m4, cells_b, z4]
  show Wp fns K41_1 _ _ _
  generalize hM1 : MH.set _ _ _ = M1
  generalize hfr : (T.set _ _ _ : Fr) = f1
  have q0' : X.ev f1 (.t q0) = .p sv 0 := by rw [← hfr]; simp (maxSteps := 4000000) (disch := first | omega | assumption | (simp only [bxS, stOk, Nat.reduceBEq, Nat.reduceEqDiff, Nat.reduceAdd]; done) | (simp only [push_lo, push_n, set_lo, set_n]; omega) | (apply has_ofL; simp only [List.length_cons, List.length_nil]; omega) | (apply has_setN; apply has_ofL; simp only [List.length_cons, List.length_nil]; omega)) only [↓bxD, bxP, bxQ, bxQ2, Nat.reduceBEq, reduceCtorEq, Nat.reduceAdd, Nat.reduceSub, Nat.reduceMul, Nat.reduceLeDiff, Nat.reduceLT, R10, R13, R22, R23, R24, R25, R4, R40, R41, R42, R43, R44, R45, R46, R47, R48, R5, R61, R62, R63, R64, R65, R9, g1, c0, c1, c2, nck_p, ixm, Nat.zero_add, hA, m4, cells_b, z4]
  have q4' : X.ev f1 (.t q4) = .p A (n * 5) := by rw [← hfr]; simp (maxSteps := 4000000) (disch := first | omega | assumption | (simp only [bxS, stOk, Nat.reduceBEq, Nat.reduceEqDiff, Nat.reduceAdd]; done) | (simp only [push_lo, push_n, set_lo, set_n]; omega) | (apply has_ofL; simp only [List.length_cons, List.length_nil]; omega) | (apply has_setN; apply has_ofL; simp only [List.length_cons, List.length_nil]; omega)) only [↓bxD, bxP, bxQ, bxQ2, Nat.reduceBEq, reduceCtorEq, Nat.reduceAdd, Nat.reduceSub, Nat.reduceMul, Nat.reduceLeDiff, Nat.reduceLT, R10, R13, R22, R23, R24, R25, R4, R40, R41, R42, R43, R44, R45, R46, R47, R48, R5, R61, R62, R63, R64, R65, R9, g1, c0, c1, c2, nck_p, ixm, Nat.zero_add, hA, m4, cells_b, z4]
  clear hfr
  have x1 : Chg (fun j => j = A) M M1 := by rw [← hM1]; exact (Chg.refl (fun j => j = A) M).set _ (.inl rfl)
  have hA' : M1.get A = some (.cs false 5 (setN [.b true] (n * 5 + 3) cm)) := by rw [← hM1]; exact set_same _ _
  have n1 : M1.n = M.n := by rw [← hM1]; rfl
  have l1 := x1.lo
  clear hM1
  have h1 : SvO Mb M1 sv c mid (.sl A 0 ms.length 0) pv (ms.set n { m with done := true }) (p ++ [n]) := h.upd hm rfl hA3 hA4 hA1 x1 hA' (mk_set hat hm (by omega) rfl rfl) hA2 rfl rfl rfl rfl
  have g2 := h1.g
  obtain ⟨p1, p2⟩ := h1.rp.row.sl
  rw [nv_len, List.length_append, List.length_singleton] at p2
  simp only [q0, q4] at q0' q4'
  have hcut : cutM 1 pv none (some (.i .i64 (p.length : Int))) = some (cutHi p.length pv) := cutM_hi p1 (by omega)
  have hsub : ((p.length + 1 : Nat) : Int) - 1 = (p.length : Int) := by omega
  have hb2 : hasB c 1 2 = true := has_at h.at_ (by omega) (by simp)
  have hone : MV.cells (cutHi p.length pv) = [cutHi p.length pv] := by cases pv <;> first | rfl | cases p1
  have hst : stOk 1 (cutHi p.length pv) = true := by cases pv <;> first | rfl | cases p1
  have hsv := h.svl
  unfold K41_1
  rw [Wp_seq_dreg]
  refine Wp_dreg_of (by omega) ?_
  simp (maxSteps := 4000000) (disch := first | omega | assumption | (simp only [bxS, stOk, Nat.reduceBEq, Nat.reduceEqDiff, Nat.reduceAdd]; done) | (simp only [push_lo, push_n, set_lo, set_n]; omega) | (apply has_ofL; simp only [List.length_cons, List.length_nil]; omega) | (apply has_setN; apply has_ofL; simp only [List.length_cons, List.length_nil]; omega)) only [↓bxD, bxP, bxQ, bxQ2, Nat.reduceBEq, reduceCtorEq, Nat.reduceAdd, Nat.reduceSub, Nat.reduceMul, Nat.reduceLeDiff, Nat.reduceLT, R10, R13, R22, R23, R24, R25, R4, R40, R41, R42, R43, R44, R45, R46, R47, R48, R5, R61, R62, R63, R64, R65, R9, q0', q4', g2, c0, c1, c2, nck_p, p1, p2, len_sl, hsub, hcut, ev_cut, Option.map_some, Option.map_none, hone]
  show Wp fns K41_0 _ _ _
  generalize hM2 : MH.set _ _ _ = M2
  generalize hfr : (T.set _ _ _ : Fr) = f2
  have r0' : X.ev f2 (.t q0) = .p sv 0 := by rw [← hfr]; simp (maxSteps := 4000000) (disch := first | omega | assumption | (simp only [bxS, stOk, Nat.reduceBEq, Nat.reduceEqDiff, Nat.reduceAdd]; done) | (simp only [push_lo, push_n, set_lo, set_n]; omega) | (apply has_ofL; simp only [List.length_cons, List.length_nil]; omega) | (apply has_setN; apply has_ofL; simp only [List.length_cons, List.length_nil]; omega)) only [↓bxD, bxP, bxQ, bxQ2, Nat.reduceBEq, reduceCtorEq, Nat.reduceAdd, Nat.reduceSub, Nat.reduceMul, Nat.reduceLeDiff, Nat.reduceLT, R10, R13, R22, R23, R24, R25, R4, R40, R41, R42, R43, R44, R45, R46, R47, R48, R5, R61, R62, R63, R64, R65, R9, q0', q4', g2, c0, c1, c2, nck_p, p1, p2, len_sl, hsub, hcut, ev_cut, Option.map_some, Option.map_none, hone]
  have r4' : X.ev f2 (.t q4) = .p A (n * 5) := by rw [← hfr]; simp (maxSteps := 4000000) (disch := first | omega | assumption | (simp only [bxS, stOk, Nat.reduceBEq, Nat.reduceEqDiff, Nat.reduceAdd]; done) | (simp only [push_lo, push_n, set_lo, set_n]; omega) | (apply has_ofL; simp only [List.length_cons, List.length_nil]; omega) | (apply has_setN; apply has_ofL; simp only [List.length_cons, List.length_nil]; omega)) only [↓bxD, bxP, bxQ, bxQ2, Nat.reduceBEq, reduceCtorEq, Nat.reduceAdd, Nat.reduceSub, Nat.reduceMul, Nat.reduceLeDiff, Nat.reduceLT, R10, R13, R22, R23, R24, R25, R4, R40, R41, R42, R43, R44, R45, R46, R47, R48, R5, R61, R62, R63, R64, R65, R9, q0', q4', g2, c0, c1, c2, nck_p, p1, p2, len_sl, hsub, hcut, ev_cut, Option.map_some, Option.map_none, hone]
  clear hfr
  simp only [q0, q4] at r0' r4'
  have x2 : Chg (fun j => j = sv) M1 M2 := by rw [← hM2]; exact (Chg.refl (fun j => j = sv) M1).set _ (.inl rfl)
  have g3 : M2.get sv = some (.cs false 3 (setN [cutHi p.length pv] 2 c)) := by rw [← hM2]; exact set_same _ _
  have n2 : M2.n = M1.n := by rw [← hM2]; rfl
  have l2 := x2.lo
  clear hM2
  obtain ⟨c1', c2', c3', c4'⟩ := cutHi_sl (h := p.length) p1 (by omega)
  have h2 : SvO Mb M2 sv (setN [cutHi p.length pv] 2 c) mid (.sl A 0 ms.length 0) (cutHi p.length pv) (ms.set n { m with done := true }) p := by
    have e1 := h1.svl
    have e2 := h1.ml
    refine ⟨⟨by omega, by omega, fun j hj => (x2.old j (by omega) (by omega)).trans (h1.ext.old j hj)⟩, g3, ⟨e1.1, by omega⟩, h1.at_.set' 2 _ (by simp) rfl, ?_, ⟨e2.1, by omega⟩, ?_, ?_, h1.nodes⟩
    · rw [x2.old mid e2.2 (fun e => by have := h1.gm; rw [e, h1.g] at this; cases this)]; exact h1.gm
    · exact h1.rm.keep (by omega) fun a b n d e => by
        obtain ⟨cc, q1, q2, q3⟩ := own_id h1.rm e
        exact x2.old a q3 fun e => by rw [e, h1.g] at q1; cases q1
    · obtain ⟨hs, ⟨e1, e2⟩ | ⟨id, cp, e1, e2, e3, e4, e5⟩⟩ := h1.rp
      · have := congrArg List.length e2
        rw [nv_len] at this
        simp at this
      · rw [nv_len, List.length_append, List.length_singleton] at e1
        have hx2 : M2.get id = some (.cs false 1 cp) := by rw [x2.old id e4 (fun e => by rw [e, h1.g] at e2; cases e2)]; exact e2
        refine ⟨fun e he => hs e (by rw [nv_app]; exact List.mem_append_left _ he), .inr ⟨id, cp, ?_, hx2, e3, by omega, ?_⟩⟩
        · rw [e1, nv_len]; rfl
        · rw [nv_app, List.flatten_append] at e5
          exact e5.left
  have hsv2 := h2.svl
  have k1 : cget (setN [cutHi p.length pv] 2 c) 1 = some (.sl A 0 ms.length 0) := h2.at_ 1 _ rfl
  have k2 : cget (setN [cutHi p.length pv] 2 c) 2 = some (cutHi p.length pv) := h2.at_ 2 _ rfl
  have hA2' : M2.get A = some (.cs false 5 (setN [.b true] (n * 5 + 3) cm)) := by rw [x2.old A (by omega) hA3]; exact hA'
  unfold K41_0
  rcases List.eq_nil_or_concat p with rfl | ⟨p0, q, rfl⟩
  · have d0 : decide ((0 : Int) < ((0 : Nat) : Int)) = false := rfl
    have u1 : isSl (cutHi 0 pv) = true := c1'
    have u2 : slen (cutHi 0 pv) = 0 := c2'
    have u3 : cget (setN [cutHi 0 pv] 2 c) 2 = some (cutHi 0 pv) := k2
    have u4 : M2.get sv = some (.cs false 3 (setN [cutHi 0 pv] 2 c)) := g3
    simp (maxSteps := 4000000) (disch := first | omega | assumption | (simp only [bxS, stOk, Nat.reduceBEq, Nat.reduceEqDiff, Nat.reduceAdd]; done) | (simp only [push_lo, push_n, set_lo, set_n]; omega) | (apply has_ofL; simp only [List.length_cons, List.length_nil]; omega) | (apply has_setN; apply has_ofL; simp only [List.length_cons, List.length_nil]; omega)) only [↓bxD, bxP, bxQ, bxQ2, Nat.reduceBEq, reduceCtorEq, Nat.reduceAdd, Nat.reduceSub, Nat.reduceMul, Nat.reduceLeDiff, Nat.reduceLT, R10, R13, R22, R23, R24, R25, R4, R40, R41, R42, R43, R44, R45, R46, R47, R48, R5, R61, R62, R63, R64, R65, R9, r0', r4', u4, u3, nck_p, u1, u2, len_sl, d0, resL_nil]
    exact ⟨_, _, _, _, h2⟩
  · rw [List.concat_eq_append] at *
    have hq := hp q (by simp)
    have d0 : decide ((0 : Int) < ((p0 ++ [q]).length : Int)) = true := decide_eq_true (by simp)
    obtain ⟨mq, hmq⟩ : ∃ mq, ms[q]? = some mq := ⟨_, List.getElem?_eq_getElem hq.1⟩
    have hmq1 : (ms.set n { m with done := true })[q]? = some mq := by rw [List.getElem?_set, if_neg (fun e => hq.2 e.symm)]; exact hmq
    have hmn1 : (ms.set n { m with done := true })[n]? = some { m with done := true } := by rw [List.getElem?_set, if_pos rfl, if_pos hlt]
    have hat2 := mk_set (x := .b true) (o := 3) (m' := { m with done := true }) hat hm (by omega) rfl rfl
    have hcq := mk_at hat2 hmq1
    have hcn := mk_at hat2 hmn1
    have hgn : Ev.getN (setN [.b true] (n * 5 + 3) cm) 2 (n * 5) = some [.i .i64 m.pl, .i .i64 m.dp] := (At.left (a := [.i .i64 m.pl, .i .i64 m.dp]) (b := [cutLo 6 m.k m.kv, .b true, .b false]) hcn).getN
    obtain ⟨ro, sz, t, w1, w2, w3⟩ := h2.rp.row.read (i := p0.length) (e := [.i .i64 (q : Int)]) (by rw [nv_app, List.getElem?_append_right (by rw [nv_len]; exact Nat.le_refl _), nv_len, Nat.sub_self]; rfl)
    have w4 : cget t (soff (cutHi (p0 ++ [q]).length pv) + p0.length * 1) = some (.i .i64 (q : Int)) := w3 0 _ rfl
    have hsub2 : (((p0 ++ [q]).length : Nat) : Int) - 1 = (p0.length : Int) := by simp
    have ixq : ixV 1 (cutHi (p0 ++ [q]).length pv) (.i .i64 (p0.length : Int)) = some (.p (sid (cutHi (p0 ++ [q]).length pv)) (soff (cutHi (p0 ++ [q]).length pv) + p0.length * 1)) := ix_sl c1' (by rw [c2']; simp)
    have hpq := hms mq (List.mem_of_getElem? hmq)
    have hpm := hms m (List.mem_of_getElem? hm)
    have l2' : M2.lo ≤ A := by have := h2.ext.lo; omega
    simp (maxSteps := 4000000) (disch := first | omega | assumption | (simp only [bxS, stOk, Nat.reduceBEq, Nat.reduceEqDiff, Nat.reduceAdd]; done) | (simp only [push_lo, push_n, set_lo, set_n]; omega) | (apply has_ofL; simp only [List.length_cons, List.length_nil]; omega) | (apply has_setN; apply has_ofL; simp only [List.length_cons, List.length_nil]; omega)) only [↓bxD, bxP, bxQ, bxQ2, Nat.reduceBEq, reduceCtorEq, Nat.reduceAdd, Nat.reduceSub, Nat.reduceMul, Nat.reduceLeDiff, Nat.reduceLT, R10, R13, R22, R23, R24, R25, R4, R40, R41, R42, R43, R44, R45, R46, R47, R48, R5, R61, R62, R63, R64, R65, R9, r0', r4', g3, k1, k2, nck_p, c1', c2', len_sl, d0, resL_nil, hsub2, ixq, w1, w4, ixm, Nat.zero_add, hA2', hgn]
    refine Wp_dreg_of (by have := h2.ext.lo; have := h2.ext.n; omega) ?_
    simp (maxSteps := 4000000) (disch := first | omega | assumption | (simp only [bxS, stOk, Nat.reduceBEq, Nat.reduceEqDiff, Nat.reduceAdd]; done) | (simp only [push_lo, push_n, set_lo, set_n]; omega) | (apply has_ofL; simp only [List.length_cons, List.length_nil]; omega) | (apply has_setN; apply has_ofL; simp only [List.length_cons, List.length_nil]; omega)) only [↓bxD, bxP, bxQ, bxQ2, Nat.reduceBEq, reduceCtorEq, Nat.reduceAdd, Nat.reduceSub, Nat.reduceMul, Nat.reduceLeDiff, Nat.reduceLT, R10, R13, R22, R23, R24, R25, R4, R40, R41, R42, R43, R44, R45, R46, R47, R48, R5, R61, R62, R63, R64, R65, R9, r0', r4', g3, k1, k2, nck_p, c1', c2', len_sl, d0, resL_nil, hsub2, ixq, w1, w4, ixm, Nat.zero_add, hA2', hgn]
    refine bindP_call (size_add (by have := h2.ext.lo; have := h2.ext.n; omega) l2' (by omega) hA2' (At.left (a := [.i .i64 mq.pl, .i .i64 mq.dp]) (b := [cutLo 6 mq.k mq.kv, .b mq.done, .b false]) hcq) ⟨hpq.1, hpq.2.1⟩ ⟨hpq.2.2.1, hpq.2.2.2⟩ ⟨hpm.1, hpm.2.1⟩ ⟨hpm.2.2.1, hpm.2.2.2⟩) ?_
    rintro mm M3 ⟨x3, hA3'⟩
    simp (maxSteps := 4000000) (disch := first | omega | assumption | (simp only [bxS, stOk, Nat.reduceBEq, Nat.reduceEqDiff, Nat.reduceAdd]; done) | (simp only [push_lo, push_n, set_lo, set_n]; omega) | (apply has_ofL; simp only [List.length_cons, List.length_nil]; omega) | (apply has_setN; apply has_ofL; simp only [List.length_cons, List.length_nil]; omega)) only [↓bxD, bxP, bxQ, bxQ2, Nat.reduceBEq, reduceCtorEq, Nat.reduceAdd, Nat.reduceSub, Nat.reduceMul, Nat.reduceLeDiff, Nat.reduceLT, R10, R13, R22, R23, R24, R25, R4, R40, R41, R42, R43, R44, R45, R46, R47, R48, R5, R61, R62, R63, R64, R65, R9, r0', r4', g3, k1, k2, nck_p, c1', c2', len_sl, d0, resL_nil, hsub2, ixq, w1, w4, ixm, Nat.zero_add, hA2', hgn]
    have s1 := mk_set (x := .i .i64 (min (mq.pl + m.pl) 151)) (o := 0) (k := q * 5) (m' := { mq with pl := min (mq.pl + m.pl) 151 }) hat2 hmq1 (by omega) rfl (by omega)
    have hlq : q < (ms.set n { m with done := true }).length := by rw [List.length_set]; exact hq.1
    have s2 := mk_set (x := .i .i64 (min (max mq.dp (m.dp + 1)) 201)) (o := 1) (k := q * 5 + 1) (m := { mq with pl := min (mq.pl + m.pl) 151 }) (m' := mq.plus m.pl m.dp) s1 (by rw [List.getElem?_set, if_pos rfl, if_pos hlq]) (by omega) rfl rfl
    rw [List.set_set] at s2
    have hcl : closeP ms (p0 ++ [q]) n m = (ms.set n { m with done := true }).set q (mq.plus m.pl m.dp) := by
      unfold closeP
      rw [List.getLast?_concat]
      simp only [hmq]
    rw [hcl]
    have hlen : (MV.sl A 0 ms.length 0) = .sl A 0 (ms.set n { m with done := true }).length 0 := by rw [List.length_set]
    exact ⟨_, _, _, _, h2.upd hmq1 hlen hA3 hA4 hA1 x3 hA3' s2 (by omega) rfl rfl rfl rfl⟩
end Go.Proofs.Ytaagkdljkpbilaa.K
