/-
  The survey looks at the next kid. Conditions: none.
-/
import Derived.Test.YtaagkdljkpbilaaS5
import Derived.Test.YtaagkdljkpbilaaLitK
import Derived.Test.YtaagkdljkpbilaaSw
import Derived.Test.YtaagkdljkpbilaaBx
set_option linter.unusedSimpArgs false
set_option linter.unusedVariables false
namespace Go.Proofs.Ytaagkdljkpbilaa.K
open Go Ev
set_option maxRecDepth 100000
set_option maxHeartbeats 4000000

def Mk.next (m : Mk) : Mk := { m with k := m.k + 1 }
theorem cutLo_next {v : MV} {k : Nat} (hv : isSl v = true) : cutLo 6 1 (cutLo 6 k v) = cutLo 6 (k + 1) v := by
  cases v <;> first | cases hv | skip
  · rfl
  · rename_i id off n e
    show MV.sl id (off + k * 6 + 1 * 6) (n - k - 1) (e + k + 1) = MV.sl id (off + (k + 1) * 6) (n - (k + 1)) (e + (k + 1))
    rw [show off + k * 6 + 1 * 6 = off + (k + 1) * 6 from by omega, show n - k - 1 = n - (k + 1) from by omega, show e + k + 1 = e + (k + 1) from by omega]
theorem next_cells {m : Mk} (hv : isSl m.kv = true) : m.next.cells = m.cells.set 2 (cutLo 6 1 (cutLo 6 m.k m.kv)) := by
  rw [cutLo_next hv]
  rfl
/-- The place of the next kid. -/
def Mk.kid (m : Mk) : Nat × Nat := (sid m.kv, soff m.kv + m.k * 6)
def LookPost (Mb M' : MH) (sv : Nat) (ms : List Mk) (path : List Nat) (n : Nat) (m : Mk) (y : Rx) : Prop :=
  (y.lk = [] ∧ Sv Mb M' sv (ms.set n (m.next.plus (szP y) (szD y))) path) ∨
  (y.lk ≠ [] ∧ findK m.kid.1 m.kid.2 ms = none ∧ ∃ kv, KidsV Mb y m.kid.1 m.kid.2 kv ∧ Sv Mb M' sv (ms.set n m.next ++ [⟨m.kid.1, m.kid.2, y, kv, 0, false, 0, 0⟩]) (path ++ [ms.length])) ∨
  (y.lk ≠ [] ∧ ∃ j mj, findK m.kid.1 m.kid.2 ms = some j ∧ ms[j]? = some mj ∧ Sv Mb M' sv (ms.set n (m.next.plus mj.pl mj.dp)) path)
theorem findK_ids {id off : Nat} : ∀ {l r : List Mk}, l.map (fun m => (m.id, m.off)) = r.map (fun m => (m.id, m.off)) → findK id off l = findK id off r
  | [], [], _ => rfl
  | [], _ :: _, h => by simp at h
  | _ :: _, [], h => by simp at h
  | a :: l, b :: r, h => by
    simp only [List.map_cons, List.cons.injEq, Prod.mk.injEq] at h
    unfold findK
    rw [h.1.1, h.1.2, findK_ids h.2]
theorem rdP_ents {M : MH} {mid id off : Nat} {ms : List Mk} {k : Nat} (hg : M.get mid = some (.mp (ents ms 0) k)) (h0 : rwcs M id = true) (h : ∀ m ∈ ms, rwcs M m.id = true) : rdF (.lkpP true (.i .i64 0)) M (.m mid) (.p id off) = some (match findK id off ms with
    | some j => .tp [.i .i64 (j : Int), .b true]
    | none => .tp [.i .i64 0, .b false]) := by
  show (match M.get mid with
    | some (.mp es _) => match findP M id off es 0 with
      | some (some (_, v)) => some (bif true then MV.tp [v, .b true] else v)
      | some none => some (bif true then MV.tp [.i .i64 0, .b false] else .i .i64 0)
      | none => none
    | _ => none) = _
  rw [hg]
  simp only
  rw [find_ents h0 0 0 h]
  cases findK id off ms with
  | none => rfl
  | some j => simp
theorem look_any {Mb M : MH} {sv : Nat} {ms : List Mk} {path : List Nat} {n : Nat} {m : Mk} {y : Rx} (h : Sv Mb M sv ms path) (hlo : Mb.lo ≤ Mb.n) (hm : ms[n]? = some m) (hy : m.x.lk[m.k]? = some y) (hms : ∀ m ∈ ms, 0 ≤ m.pl ∧ m.pl ≤ 1000 ∧ 0 ≤ m.dp ∧ m.dp ≤ 1000) (hb : ms.length ≤ 1000000000) (hbp : path.length ≤ 1000000000)
    (hd : ∀ j mj, y.lk ≠ [] → findK m.kid.1 m.kid.2 ms = some j → ms[j]? = some mj → mj.done = true) :
    Cp fns 42 [.p sv 0, .i .i64 (n : Int)] M fun _ M' => LookPost Mb M' sv ms path n m y := by
  obtain ⟨c, mid, mv, pv, h⟩ := h
  have hn := h.ext.n
  have hl2 := h.ext.lo
  have hlt := (List.getElem?_eq_some_iff.1 hm).1
  obtain ⟨A, cm, rfl, hA, hat, hA1, hA2, hA3, hA4⟩ := h.open hlt
  obtain ⟨_, kv1, kv2, kv3⟩ := h.nodes m (List.mem_of_getElem? hm)
  have hkl := (List.getElem?_eq_some_iff.1 hy).1
  obtain ⟨u1, u2, u3, u4⟩ := cutLo_sl (v := m.kv) (sz := 6) (l := m.k) kv1 (.inl (by omega))
  have hkid : NodeAt Mb y m.kid.1 m.kid.2 := kv3.1.get hy
  refine Cp_call (fn := F42) (by kernel_rfl) (Nat.le_of_ble_eq_true rfl) ?_
  show Wp fns B42 (T.set q1 (some (.i .i64 (n : Int))) (T.set q0 (some (.p sv 0)) T.lf)) M _
  unfold B42
  have g1 := h.g
  have c0 : cget c 0 = some (.m mid) := h.at_ 0 _ rfl
  have c1 : cget c 1 = some (.sl A 0 ms.length 0) := h.at_ 1 _ rfl
  have c2 : cget c 2 = some pv := h.at_ 2 _ rfl
  have ixm : ∀ i, i < ms.length → ixV 5 (.sl A 0 ms.length 0) (.i .i64 (i : Int)) = some (.p A (0 + i * 5)) := fun i hi => ix_sl (v := .sl A 0 ms.length 0) rfl hi
  have hmc := mk_at hat hm
  have m2 : cget cm (n * 5 + 2) = some (cutLo 6 m.k m.kv) := hmc 2 _ rfl
  have hb2 : hasB cm 1 (n * 5 + 2) = true := has_at hmc (by omega) (by show _ ≤ n * 5 + 5; omega)
  have ixr : ixV 6 (cutLo 6 m.k m.kv) (.i .i64 0) = some (.p m.kid.1 (m.kid.2 + 0 * 6)) := by
    have := ix_sl (s := 6) (k := .i64) (i := 0) u1 (by omega)
    rw [u3, u4] at this
    exact this
  have hcut : cutM 6 (cutLo 6 m.k m.kv) (some (.i .i64 1)) none = some (cutLo 6 1 (cutLo 6 m.k m.kv)) := cutM_lo (l := 1) u1 (by omega)
  have hone : MV.cells (cutLo 6 1 (cutLo 6 m.k m.kv)) = [cutLo 6 1 (cutLo 6 m.k m.kv)] := by rw [cutLo_next kv1]; cases hh : m.kv <;> first | rfl | (rw [hh] at kv1; cases kv1)
  have hst : stOk 1 (cutLo 6 1 (cutLo 6 m.k m.kv)) = true := by rw [cutLo_next kv1]; cases hh : m.kv <;> first | rfl | (rw [hh] at kv1; cases kv1)
  simp (maxSteps := 4000000) (disch := first | omega | assumption | (simp only [bxS, stOk, Nat.reduceBEq, Nat.reduceEqDiff, Nat.reduceAdd]; done) | (simp only [push_lo, push_n, set_lo, set_n]; omega) | (apply has_ofL; simp only [List.length_cons, List.length_nil]; omega) | (apply has_setN; apply has_ofL; simp only [List.length_cons, List.length_nil]; omega)) only [↓bxD, bxP, bxQ, bxQ2, Nat.reduceBEq, reduceCtorEq, Nat.reduceAdd, Nat.reduceSub, Nat.reduceMul, Nat.reduceLeDiff, Nat.reduceLT, R10, R13, R22, R23, R24, R25, R4, R40, R41, R42, R43, R44, R45, R46, R47, R48, R5, R61, R62, R63, R64, R65, R9, g1, c0, c1, c2, nck_p, ixm, Nat.zero_add, hA, m2, ixr, Nat.zero_mul, Nat.add_zero, ev_cut, Option.map_some, Option.map_none, hcut, hone]
  refine Wp_dreg_of (by omega) ?_
  simp (maxSteps := 4000000) (disch := first | omega | assumption | (simp only [bxS, stOk, Nat.reduceBEq, Nat.reduceEqDiff, Nat.reduceAdd]; done) | (simp only [push_lo, push_n, set_lo, set_n]; omega) | (apply has_ofL; simp only [List.length_cons, List.length_nil]; omega) | (apply has_setN; apply has_ofL; simp only [List.length_cons, List.length_nil]; omega)) only [↓bxD, bxP, bxQ, bxQ2, Nat.reduceBEq, reduceCtorEq, Nat.reduceAdd, Nat.reduceSub, Nat.reduceMul, Nat.reduceLeDiff, Nat.reduceLT, R10, R13, R22, R23, R24, R25, R4, R40, R41, R42, R43, R44, R45, R46, R47, R48, R5, R61, R62, R63, R64, R65, R9, g1, c0, c1, c2, nck_p, ixm, Nat.zero_add, hA, m2, ixr, Nat.zero_mul, Nat.add_zero, ev_cut, Option.map_some, Option.map_none, hcut, hone]
  show Wp fns K42_1 _ _ _
  generalize hM1 : MH.set _ _ _ = M1
  generalize hfr : (T.set _ _ _ : Fr) = f1
  have q0' : X.ev f1 (.t q0) = .p sv 0 := by rw [← hfr]; simp (maxSteps := 4000000) (disch := first | omega | assumption | (simp only [bxS, stOk, Nat.reduceBEq, Nat.reduceEqDiff, Nat.reduceAdd]; done) | (simp only [push_lo, push_n, set_lo, set_n]; omega) | (apply has_ofL; simp only [List.length_cons, List.length_nil]; omega) | (apply has_setN; apply has_ofL; simp only [List.length_cons, List.length_nil]; omega)) only [↓bxD, bxP, bxQ, bxQ2, Nat.reduceBEq, reduceCtorEq, Nat.reduceAdd, Nat.reduceSub, Nat.reduceMul, Nat.reduceLeDiff, Nat.reduceLT, R10, R13, R22, R23, R24, R25, R4, R40, R41, R42, R43, R44, R45, R46, R47, R48, R5, R61, R62, R63, R64, R65, R9, g1, c0, c1, c2, nck_p, ixm, Nat.zero_add, hA, m2, ixr, Nat.zero_mul, Nat.add_zero, ev_cut, Option.map_some, Option.map_none, hcut, hone]
  have q1' : X.ev f1 (.t q1) = .i .i64 (n : Int) := by rw [← hfr]; simp (maxSteps := 4000000) (disch := first | omega | assumption | (simp only [bxS, stOk, Nat.reduceBEq, Nat.reduceEqDiff, Nat.reduceAdd]; done) | (simp only [push_lo, push_n, set_lo, set_n]; omega) | (apply has_ofL; simp only [List.length_cons, List.length_nil]; omega) | (apply has_setN; apply has_ofL; simp only [List.length_cons, List.length_nil]; omega)) only [↓bxD, bxP, bxQ, bxQ2, Nat.reduceBEq, reduceCtorEq, Nat.reduceAdd, Nat.reduceSub, Nat.reduceMul, Nat.reduceLeDiff, Nat.reduceLT, R10, R13, R22, R23, R24, R25, R4, R40, R41, R42, R43, R44, R45, R46, R47, R48, R5, R61, R62, R63, R64, R65, R9, g1, c0, c1, c2, nck_p, ixm, Nat.zero_add, hA, m2, ixr, Nat.zero_mul, Nat.add_zero, ev_cut, Option.map_some, Option.map_none, hcut, hone]
  have q4' : X.ev f1 (.t q4) = .p m.kid.1 m.kid.2 := by rw [← hfr]; simp (maxSteps := 4000000) (disch := first | omega | assumption | (simp only [bxS, stOk, Nat.reduceBEq, Nat.reduceEqDiff, Nat.reduceAdd]; done) | (simp only [push_lo, push_n, set_lo, set_n]; omega) | (apply has_ofL; simp only [List.length_cons, List.length_nil]; omega) | (apply has_setN; apply has_ofL; simp only [List.length_cons, List.length_nil]; omega)) only [↓bxD, bxP, bxQ, bxQ2, Nat.reduceBEq, reduceCtorEq, Nat.reduceAdd, Nat.reduceSub, Nat.reduceMul, Nat.reduceLeDiff, Nat.reduceLT, R10, R13, R22, R23, R24, R25, R4, R40, R41, R42, R43, R44, R45, R46, R47, R48, R5, R61, R62, R63, R64, R65, R9, g1, c0, c1, c2, nck_p, ixm, Nat.zero_add, hA, m2, ixr, Nat.zero_mul, Nat.add_zero, ev_cut, Option.map_some, Option.map_none, hcut, hone]
  clear hfr
  have x1 : Chg (fun j => j = A) M M1 := by rw [← hM1]; exact (Chg.refl (fun j => j = A) M).set _ (.inl rfl)
  have hA' : M1.get A = some (.cs false 5 (setN [cutLo 6 1 (cutLo 6 m.k m.kv)] (n * 5 + 2) cm)) := by rw [← hM1]; exact set_same _ _
  have n1 : M1.n = M.n := by rw [← hM1]; rfl
  have l1 := x1.lo
  clear hM1
  have hat1 := mk_set (x := cutLo 6 1 (cutLo 6 m.k m.kv)) (o := 2) (m' := m.next) hat hm (by omega) (next_cells kv1) rfl
  have h1 : SvO Mb M1 sv c mid (.sl A 0 ms.length 0) pv (ms.set n m.next) path := h.upd hm rfl hA3 hA4 hA1 x1 hA' hat1 hA2 rfl rfl rfl rfl
  have hmn : (ms.set n m.next)[n]? = some m.next := by rw [List.getElem?_set, if_pos rfl, if_pos hlt]
  have hcn := mk_at hat1 hmn
  have hfk : findK m.kid.1 m.kid.2 (ms.set n m.next) = findK m.kid.1 m.kid.2 ms := findK_ids (ids_set hm rfl rfl)
  have hpm := hms m (List.mem_of_getElem? hm)
  have g2 := h1.g
  have l1' : M1.lo ≤ A := by omega
  simp only [q0, q1, q4] at q0' q1' q4'
  -- the size of the kid is added
  have fin : ∀ (a b : Int) (M2 M3 : MH), Chg (fun j => j = A) M2 M3 → Ext M1 M2 → M3.get A = some (.cs false 5 (setN [.i .i64 (min (max m.dp (b + 1)) 201)] (n * 5 + 1) (setN [.i .i64 (min (m.pl + a) 151)] (n * 5) (setN [cutLo 6 1 (cutLo 6 m.k m.kv)] (n * 5 + 2) cm)))) → Sv Mb M3 sv (ms.set n (m.next.plus a b)) path := fun a b M2 M3 x3 x2 hA3' => by
    have s1 := mk_set (x := .i .i64 (min (m.pl + a) 151)) (o := 0) (k := n * 5) (m' := { m.next with pl := min (m.pl + a) 151 }) hat1 hmn (by omega) rfl (by omega)
    have hlq : n < (ms.set n m.next).length := by rw [List.length_set]; exact hlt
    have s2 := mk_set (x := .i .i64 (min (max m.dp (b + 1)) 201)) (o := 1) (k := n * 5 + 1) (m := { m.next with pl := min (m.pl + a) 151 }) (m' := m.next.plus a b) s1 (by rw [List.getElem?_set, if_pos rfl, if_pos hlq]) (by omega) rfl rfl
    rw [List.set_set] at s2
    have hlen : (MV.sl A 0 ms.length 0) = .sl A 0 (ms.set n m.next).length 0 := by rw [List.length_set]
    have xx : Chg (fun j => j = A) M1 M3 := (Chg.of x2).trans x3
    have := h1.upd hmn hlen hA3 hA4 hA1 xx hA3' s2 (by omega) rfl rfl rfl rfl
    rw [List.set_set] at this
    exact ⟨_, _, _, _, this⟩
  unfold K42_1
  simp (maxSteps := 4000000) (disch := first | omega | assumption | (simp only [bxS, stOk, Nat.reduceBEq, Nat.reduceEqDiff, Nat.reduceAdd]; done) | (simp only [push_lo, push_n, set_lo, set_n]; omega) | (apply has_ofL; simp only [List.length_cons, List.length_nil]; omega) | (apply has_setN; apply has_ofL; simp only [List.length_cons, List.length_nil]; omega)) only [↓bxD, bxP, bxQ, bxQ2, Nat.reduceBEq, reduceCtorEq, Nat.reduceAdd, Nat.reduceSub, Nat.reduceMul, Nat.reduceLeDiff, Nat.reduceLT, R10, R13, R22, R23, R24, R25, R4, R40, R41, R42, R43, R44, R45, R46, R47, R48, R5, R61, R62, R63, R64, R65, R9, q0', q1', q4', g2, c0, c1, c2, nck_p, ixm, Nat.zero_add, hA', resL_nil]
  refine bindP_call (kids_in hkid h1.ext (by omega)) ?_
  rintro kv M2 ⟨⟨k1, k2, k3⟩, rfl⟩
  by_cases hl : y.lk = []
  · have d0 : decide ((y.lk.length : Int) = 0) = true := decide_eq_true (by rw [hl]; rfl)
    simp (maxSteps := 4000000) (disch := first | omega | assumption | (simp only [bxS, stOk, Nat.reduceBEq, Nat.reduceEqDiff, Nat.reduceAdd]; done) | (simp only [push_lo, push_n, set_lo, set_n]; omega) | (apply has_ofL; simp only [List.length_cons, List.length_nil]; omega) | (apply has_setN; apply has_ofL; simp only [List.length_cons, List.length_nil]; omega)) only [↓bxD, bxP, bxQ, bxQ2, Nat.reduceBEq, reduceCtorEq, Nat.reduceAdd, Nat.reduceSub, Nat.reduceMul, Nat.reduceLeDiff, Nat.reduceLT, R10, R13, R22, R23, R24, R25, R4, R40, R41, R42, R43, R44, R45, R46, R47, R48, R5, R61, R62, R63, R64, R65, R9, q0', q1', q4', g2, c0, c1, c2, nck_p, ixm, Nat.zero_add, hA', resL_nil, k1, k2, len_sl, d0]
    refine Wp_dreg_of (by omega) ?_
    simp (maxSteps := 4000000) (disch := first | omega | assumption | (simp only [bxS, stOk, Nat.reduceBEq, Nat.reduceEqDiff, Nat.reduceAdd]; done) | (simp only [push_lo, push_n, set_lo, set_n]; omega) | (apply has_ofL; simp only [List.length_cons, List.length_nil]; omega) | (apply has_setN; apply has_ofL; simp only [List.length_cons, List.length_nil]; omega)) only [↓bxD, bxP, bxQ, bxQ2, Nat.reduceBEq, reduceCtorEq, Nat.reduceAdd, Nat.reduceSub, Nat.reduceMul, Nat.reduceLeDiff, Nat.reduceLT, R10, R13, R22, R23, R24, R25, R4, R40, R41, R42, R43, R44, R45, R46, R47, R48, R5, R61, R62, R63, R64, R65, R9, q0', q1', q4', g2, c0, c1, c2, nck_p, ixm, Nat.zero_add, hA', resL_nil]
    refine bindP_call (sizeOf_any (h1.rd.sub (.lift _)) (NodeAt.sub (.lift _) (hkid.ext h1.ext)) (.inl hl) (Nat.le_refl _)) ?_
    rintro mm M3 ⟨rfl, hx3⟩
    have sx : Sub M2 (M3.down M2.lo) := ((Sub.lift M2).trans hx3.sub).trans (.down _ _)
    have ex := sx.ext rfl
    simp (maxSteps := 4000000) (disch := first | omega | assumption | (simp only [bxS, stOk, Nat.reduceBEq, Nat.reduceEqDiff, Nat.reduceAdd]; done) | (simp only [push_lo, push_n, set_lo, set_n]; omega) | (apply has_ofL; simp only [List.length_cons, List.length_nil]; omega) | (apply has_setN; apply has_ofL; simp only [List.length_cons, List.length_nil]; omega)) only [↓bxD, bxP, bxQ, bxQ2, Nat.reduceBEq, reduceCtorEq, Nat.reduceAdd, Nat.reduceSub, Nat.reduceMul, Nat.reduceLeDiff, Nat.reduceLT, R10, R13, R22, R23, R24, R25, R4, R40, R41, R42, R43, R44, R45, R46, R47, R48, R5, R61, R62, R63, R64, R65, R9, q0', q1', q4', g2, c0, c1, c2, nck_p, ixm, Nat.zero_add, hA', resL_nil]
    have bP : 0 ≤ szP y ∧ szP y ≤ 1000 := by unfold szP; omega
    have bD : 0 ≤ szD y ∧ szD y ≤ 1000 := by unfold szD; omega
    have en := ex.n
    have el := ex.lo
    refine bindP_call (size_add (by omega) (by omega) (by omega) ((ex.old A (by omega)).trans hA') (At.left (a := [.i .i64 m.pl, .i .i64 m.dp]) (b := [cutLo 6 (m.k + 1) m.kv, .b m.done, .b false]) hcn) ⟨hpm.1, hpm.2.1⟩ ⟨hpm.2.2.1, hpm.2.2.2⟩ bP bD) ?_
    rintro mm M4 ⟨x4, hA4'⟩
    simp (maxSteps := 4000000) (disch := first | omega | assumption | (simp only [bxS, stOk, Nat.reduceBEq, Nat.reduceEqDiff, Nat.reduceAdd]; done) | (simp only [push_lo, push_n, set_lo, set_n]; omega) | (apply has_ofL; simp only [List.length_cons, List.length_nil]; omega) | (apply has_setN; apply has_ofL; simp only [List.length_cons, List.length_nil]; omega)) only [↓bxD, bxP, bxQ, bxQ2, Nat.reduceBEq, reduceCtorEq, Nat.reduceAdd, Nat.reduceSub, Nat.reduceMul, Nat.reduceLeDiff, Nat.reduceLT, R10, R13, R22, R23, R24, R25, R4, R40, R41, R42, R43, R44, R45, R46, R47, R48, R5, R61, R62, R63, R64, R65, R9, q0', q1', q4', g2, c0, c1, c2, nck_p, ixm, Nat.zero_add, hA', resL_nil]
    show Wp fns .ret _ _ _
    simp (maxSteps := 4000000) (disch := first | omega | assumption | (simp only [bxS, stOk, Nat.reduceBEq, Nat.reduceEqDiff, Nat.reduceAdd]; done) | (simp only [push_lo, push_n, set_lo, set_n]; omega) | (apply has_ofL; simp only [List.length_cons, List.length_nil]; omega) | (apply has_setN; apply has_ofL; simp only [List.length_cons, List.length_nil]; omega)) only [↓bxD, bxP, bxQ, bxQ2, Nat.reduceBEq, reduceCtorEq, Nat.reduceAdd, Nat.reduceSub, Nat.reduceMul, Nat.reduceLeDiff, Nat.reduceLT, R10, R13, R22, R23, R24, R25, R4, R40, R41, R42, R43, R44, R45, R46, R47, R48, R5, R61, R62, R63, R64, R65, R9, q0', q1', q4', g2, c0, c1, c2, nck_p, ixm, Nat.zero_add, hA', resL_nil]
    exact .inl ⟨hl, fin _ _ _ _ x4 ex hA4'⟩
  · have d0 : decide ((y.lk.length : Int) = 0) = false := decide_eq_false (by have := List.length_pos_iff.2 hl; omega)
    simp (maxSteps := 4000000) (disch := first | omega | assumption | (simp only [bxS, stOk, Nat.reduceBEq, Nat.reduceEqDiff, Nat.reduceAdd]; done) | (simp only [push_lo, push_n, set_lo, set_n]; omega) | (apply has_ofL; simp only [List.length_cons, List.length_nil]; omega) | (apply has_setN; apply has_ofL; simp only [List.length_cons, List.length_nil]; omega)) only [↓bxD, bxP, bxQ, bxQ2, Nat.reduceBEq, reduceCtorEq, Nat.reduceAdd, Nat.reduceSub, Nat.reduceMul, Nat.reduceLeDiff, Nat.reduceLT, R10, R13, R22, R23, R24, R25, R4, R40, R41, R42, R43, R44, R45, R46, R47, R48, R5, R61, R62, R63, R64, R65, R9, q0', q1', q4', g2, c0, c1, c2, nck_p, ixm, Nat.zero_add, hA', resL_nil, k1, k2, len_sl, d0]
    have hrd := rdP_ents (id := m.kid.1) (off := m.kid.2) h1.gm (NodeAt.rw (hkid.ext h1.ext)).1 (fun m hm => (NodeAt.rw ((h1.nodes m hm).1.ext h1.ext)).1)
    rw [hfk] at hrd
    cases hf : findK m.kid.1 m.kid.2 ms with
    | none =>
      rw [hf] at hrd
      show Wp fns K42_0 _ _ _
      unfold K42_0
      simp (maxSteps := 4000000) (disch := first | omega | assumption | (simp only [bxS, stOk, Nat.reduceBEq, Nat.reduceEqDiff, Nat.reduceAdd]; done) | (simp only [push_lo, push_n, set_lo, set_n]; omega) | (apply has_ofL; simp only [List.length_cons, List.length_nil]; omega) | (apply has_setN; apply has_ofL; simp only [List.length_cons, List.length_nil]; omega)) only [↓bxD, bxP, bxQ, bxQ2, Nat.reduceBEq, reduceCtorEq, Nat.reduceAdd, Nat.reduceSub, Nat.reduceMul, Nat.reduceLeDiff, Nat.reduceLT, R10, R13, R22, R23, R24, R25, R4, R40, R41, R42, R43, R44, R45, R46, R47, R48, R5, R61, R62, R63, R64, R65, R9, q0', q1', q4', g2, c0, c1, c2, nck_p, ixm, Nat.zero_add, hA', resL_nil, ev_rdm, hrd]
      have hsl : (ms.set n m.next).length = ms.length := List.length_set
      refine bindP_call (open_any ⟨_, _, _, _, h1⟩ hlo hkid hl (by rw [hfk]; exact hf) (by omega) hbp) ?_
      rintro mm M4 ⟨kv', hkv, hS⟩
      rw [hsl] at hS
      simp (maxSteps := 4000000) (disch := first | omega | assumption | (simp only [bxS, stOk, Nat.reduceBEq, Nat.reduceEqDiff, Nat.reduceAdd]; done) | (simp only [push_lo, push_n, set_lo, set_n]; omega) | (apply has_ofL; simp only [List.length_cons, List.length_nil]; omega) | (apply has_setN; apply has_ofL; simp only [List.length_cons, List.length_nil]; omega)) only [↓bxD, bxP, bxQ, bxQ2, Nat.reduceBEq, reduceCtorEq, Nat.reduceAdd, Nat.reduceSub, Nat.reduceMul, Nat.reduceLeDiff, Nat.reduceLT, R10, R13, R22, R23, R24, R25, R4, R40, R41, R42, R43, R44, R45, R46, R47, R48, R5, R61, R62, R63, R64, R65, R9, q0', q1', q4', g2, c0, c1, c2, nck_p, ixm, Nat.zero_add, hA', resL_nil]
      exact .inr (.inl ⟨hl, hf, kv', hkv, hS⟩)
    | some j =>
      rw [hf] at hrd
      obtain ⟨mj, hmj, _, _⟩ := findK_some hf
      have hdn := hd j mj hl hf hmj
      obtain ⟨mj', hmj', e1, e2, e3⟩ : ∃ mj', (ms.set n m.next)[j]? = some mj' ∧ mj'.pl = mj.pl ∧ mj'.dp = mj.dp ∧ mj'.done = mj.done := by
        rw [List.getElem?_set]
        by_cases e : n = j
        · subst e
          rw [hm] at hmj
          cases hmj
          rw [if_pos rfl, if_pos hlt]
          exact ⟨_, rfl, rfl, rfl, rfl⟩
        · rw [if_neg e]
          exact ⟨mj, hmj, rfl, rfl, rfl⟩
      have hcj := mk_at hat1 hmj'
      have hjl := (List.getElem?_eq_some_iff.1 hmj).1
      have j3 : cget (setN [cutLo 6 1 (cutLo 6 m.k m.kv)] (n * 5 + 2) cm) (j * 5 + 3) = some (.b true) := by rw [← hdn, ← e3]; exact hcj 3 _ rfl
      have j0 : Ev.getN (setN [cutLo 6 1 (cutLo 6 m.k m.kv)] (n * 5 + 2) cm) 2 (j * 5) = some [.i .i64 mj'.pl, .i .i64 mj'.dp] := (At.left (a := [.i .i64 mj'.pl, .i .i64 mj'.dp]) (b := [cutLo 6 mj'.k mj'.kv, .b mj'.done, .b false]) hcj).getN
      show Wp fns K42_0 _ _ _
      unfold K42_0
      simp (maxSteps := 4000000) (disch := first | omega | assumption | (simp only [bxS, stOk, Nat.reduceBEq, Nat.reduceEqDiff, Nat.reduceAdd]; done) | (simp only [push_lo, push_n, set_lo, set_n]; omega) | (apply has_ofL; simp only [List.length_cons, List.length_nil]; omega) | (apply has_setN; apply has_ofL; simp only [List.length_cons, List.length_nil]; omega)) only [↓bxD, bxP, bxQ, bxQ2, Nat.reduceBEq, reduceCtorEq, Nat.reduceAdd, Nat.reduceSub, Nat.reduceMul, Nat.reduceLeDiff, Nat.reduceLT, R10, R13, R22, R23, R24, R25, R4, R40, R41, R42, R43, R44, R45, R46, R47, R48, R5, R61, R62, R63, R64, R65, R9, q0', q1', q4', g2, c0, c1, c2, nck_p, ixm, Nat.zero_add, hA', resL_nil, ev_rdm, hrd, j3, j0]
      refine Wp_dreg_of (by omega) ?_
      simp (maxSteps := 4000000) (disch := first | omega | assumption | (simp only [bxS, stOk, Nat.reduceBEq, Nat.reduceEqDiff, Nat.reduceAdd]; done) | (simp only [push_lo, push_n, set_lo, set_n]; omega) | (apply has_ofL; simp only [List.length_cons, List.length_nil]; omega) | (apply has_setN; apply has_ofL; simp only [List.length_cons, List.length_nil]; omega)) only [↓bxD, bxP, bxQ, bxQ2, Nat.reduceBEq, reduceCtorEq, Nat.reduceAdd, Nat.reduceSub, Nat.reduceMul, Nat.reduceLeDiff, Nat.reduceLT, R10, R13, R22, R23, R24, R25, R4, R40, R41, R42, R43, R44, R45, R46, R47, R48, R5, R61, R62, R63, R64, R65, R9, q0', q1', q4', g2, c0, c1, c2, nck_p, ixm, Nat.zero_add, hA', resL_nil, j3, j0]
      have bj := hms mj (List.mem_of_getElem? hmj)
      refine bindP_call (size_add (by omega) (by omega) (by omega) hA' (At.left (a := [.i .i64 m.pl, .i .i64 m.dp]) (b := [cutLo 6 (m.k + 1) m.kv, .b m.done, .b false]) hcn) ⟨hpm.1, hpm.2.1⟩ ⟨hpm.2.2.1, hpm.2.2.2⟩ (by rw [e1]; exact ⟨bj.1, bj.2.1⟩) (by rw [e2]; exact ⟨bj.2.2.1, bj.2.2.2⟩)) ?_
      rintro mm M4 ⟨x4, hA4'⟩
      simp (maxSteps := 4000000) (disch := first | omega | assumption | (simp only [bxS, stOk, Nat.reduceBEq, Nat.reduceEqDiff, Nat.reduceAdd]; done) | (simp only [push_lo, push_n, set_lo, set_n]; omega) | (apply has_ofL; simp only [List.length_cons, List.length_nil]; omega) | (apply has_setN; apply has_ofL; simp only [List.length_cons, List.length_nil]; omega)) only [↓bxD, bxP, bxQ, bxQ2, Nat.reduceBEq, reduceCtorEq, Nat.reduceAdd, Nat.reduceSub, Nat.reduceMul, Nat.reduceLeDiff, Nat.reduceLT, R10, R13, R22, R23, R24, R25, R4, R40, R41, R42, R43, R44, R45, R46, R47, R48, R5, R61, R62, R63, R64, R65, R9, q0', q1', q4', g2, c0, c1, c2, nck_p, ixm, Nat.zero_add, hA', resL_nil]
      rw [e1, e2] at hA4'
      exact .inr (.inr ⟨hl, j, mj, hf, hmj, fin _ _ _ _ x4 (.refl _) hA4'⟩)
end Go.Proofs.Ytaagkdljkpbilaa.K
