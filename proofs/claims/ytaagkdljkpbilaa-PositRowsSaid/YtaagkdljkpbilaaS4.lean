/-
  The survey opens a pattern. Conditions: none.
-/
import Derived.Test.YtaagkdljkpbilaaS3
import Derived.Test.YtaagkdljkpbilaaLitK
import Derived.Test.YtaagkdljkpbilaaSw
import Derived.Test.YtaagkdljkpbilaaBx
set_option linter.unusedSimpArgs false
set_option linter.unusedVariables false
namespace Go.Proofs.Ytaagkdljkpbilaa.K
open Go Ev
set_option maxRecDepth 100000
set_option maxHeartbeats 4000000

theorem ev_wrm (c : CallM) (f : Fr) (M : MH) (g : WG) (x y z : X) : Iop.ev c f M (.wrm g x y z) = wrF g M (x.ev f) (y.ev f) (z.ev f) := rfl
def nv (l : List Nat) : List (List MV) := l.map fun (n : Nat) => [.i .i64 (n : Int)]
theorem nv_len (l : List Nat) : (nv l).length = l.length := by unfold nv; rw [List.length_map]
theorem nv_app (l : List Nat) (n : Nat) : nv (l ++ [n]) = nv l ++ [[.i .i64 (n : Int)]] := by unfold nv; simp
theorem nv_at {l : List Nat} {i n : Nat} (h : l[i]? = some n) : (nv l)[i]? = some [.i .i64 (n : Int)] := by unfold nv; rw [List.getElem?_map, h]; rfl
/-- A survey that is under way: all that it made lies behind what there was. -/
structure SvO (Mb M : MH) (sv : Nat) (c : T MV) (mid : Nat) (mv pv : MV) (ms : List Mk) (path : List Nat) : Prop where
  ext : Ext Mb M
  g : M.get sv = some (.cs false 3 c)
  svl : Mb.n ≤ sv ∧ sv < M.n
  at_ : At c 0 [.m mid, mv, pv]
  gm : M.get mid = some (.mp (ents ms 0) ms.length)
  ml : Mb.n ≤ mid ∧ mid < M.n
  rm : OwnRow Mb.n M 5 mv (ms.map Mk.cells)
  rp : OwnRow Mb.n M 1 pv (nv path)
  nodes : ∀ m ∈ ms, NodeAt Mb m.x m.id m.off ∧ KidsV Mb m.x m.id m.off m.kv
def Sv (Mb M : MH) (sv : Nat) (ms : List Mk) (path : List Nat) : Prop := ∃ c mid mv pv, SvO Mb M sv c mid mv pv ms path
theorem SvO.rd {Mb M : MH} {sv : Nat} {c : T MV} {mid : Nat} {mv pv : MV} {ms : List Mk} {path : List Nat} (h : SvO Mb M sv c mid mv pv ms path) : SvRd M sv ms :=
  ⟨⟨false, 3, c, mid, mv, h.g, h.svl.2, h.at_ 0 _ rfl, h.at_ 1 _ rfl, h.gm, h.ml.2, h.rm.row⟩, fun m hm => (h.nodes m hm).1.ext h.ext⟩
theorem own_id {lo : Nat} {M : MH} {sz : Nat} {v : MV} {es : List (List MV)} (h : OwnRow lo M sz v es) {a b n d : Nat} (e : v = .sl a b n d) : ∃ c, M.get a = some (.cs false sz c) ∧ lo ≤ a ∧ a < M.n := by
  obtain ⟨hs, ⟨h1, _⟩ | ⟨id, c, h1, h2, h3, h4, h5⟩⟩ := h
  · rw [h1] at e; cases e
  · rw [h1] at e; cases e; exact ⟨c, h2, h3, h4⟩
theorem NodeAt.uni {Mb : MH} {x y : Rx} {id off : Nat} (h : NodeAt Mb x id off) (k : NodeAt Mb y id off) : x = y := NodeAt.uniq h k
theorem open_leaf {M : MH} {sv : Nat} {x : Rx} {id off : Nat} (hx : NodeAt M x id off) (hl : x.lk = []) (hlo : M.lo ≤ M.n) : Cp fns 40 [.p sv 0, .p id off] M fun _ M' => M' = M := by
  refine Cp_call (fn := F40) (by kernel_rfl) (Nat.le_of_ble_eq_true rfl) ?_
  show Wp fns B40 (T.set q1 (some (.p id off)) (T.set q0 (some (.p sv 0)) T.lf)) M _
  unfold B40
  simp (maxSteps := 4000000) (disch := first | omega | assumption | (simp only [bxS, stOk, Nat.reduceBEq, Nat.reduceEqDiff, Nat.reduceAdd]; done) | (simp only [push_lo, push_n, set_lo, set_n]; omega) | (apply has_ofL; simp only [List.length_cons, List.length_nil]; omega) | (apply has_setN; apply has_ofL; simp only [List.length_cons, List.length_nil]; omega)) only [↓bxD, bxP, bxQ, bxQ2, Nat.reduceBEq, reduceCtorEq, Nat.reduceAdd, Nat.reduceSub, Nat.reduceMul, Nat.reduceLeDiff, Nat.reduceLT, R10, R13, R22, R23, R24, R25, R4, R40, R41, R42, R43, R44, R45, R46, R47, R48, R5, R61, R62, R63, R64, R65, R9]
  refine bindP_call (kids_any hx hlo) ?_
  rintro kv M2 ⟨⟨k1, k2, k3⟩, rfl⟩
  have d0 : decide ((x.lk.length : Int) = 0) = true := decide_eq_true (by rw [hl]; rfl)
  simp (maxSteps := 4000000) (disch := first | omega | assumption | (simp only [bxS, stOk, Nat.reduceBEq, Nat.reduceEqDiff, Nat.reduceAdd]; done) | (simp only [push_lo, push_n, set_lo, set_n]; omega) | (apply has_ofL; simp only [List.length_cons, List.length_nil]; omega) | (apply has_setN; apply has_ofL; simp only [List.length_cons, List.length_nil]; omega)) only [↓bxD, bxP, bxQ, bxQ2, Nat.reduceBEq, reduceCtorEq, Nat.reduceAdd, Nat.reduceSub, Nat.reduceMul, Nat.reduceLeDiff, Nat.reduceLT, R10, R13, R22, R23, R24, R25, R4, R40, R41, R42, R43, R44, R45, R46, R47, R48, R5, R61, R62, R63, R64, R65, R9, k1, k2, len_sl, d0, resL_nil]
theorem open_any {Mb M : MH} {sv : Nat} {ms : List Mk} {path : List Nat} {x : Rx} {id off : Nat} (h : Sv Mb M sv ms path) (hlo : Mb.lo ≤ Mb.n) (hx : NodeAt Mb x id off) (hl : x.lk ≠ []) (hf : findK id off ms = none) (hb : ms.length ≤ 1000000000) (hbp : path.length ≤ 1000000000) :
    Cp fns 40 [.p sv 0, .p id off] M fun _ M' => ∃ kv, KidsV Mb x id off kv ∧ Sv Mb M' sv (ms ++ [⟨id, off, x, kv, 0, false, 0, 0⟩]) (path ++ [ms.length]) := by
  obtain ⟨c, mid, mv, pv, h⟩ := h
  have hn := h.ext.n
  have hl2 := h.ext.lo
  refine Cp_call (fn := F40) (by kernel_rfl) (Nat.le_of_ble_eq_true rfl) ?_
  show Wp fns B40 (T.set q1 (some (.p id off)) (T.set q0 (some (.p sv 0)) T.lf)) M _
  unfold B40
  simp (maxSteps := 4000000) (disch := first | omega | assumption | (simp only [bxS, stOk, Nat.reduceBEq, Nat.reduceEqDiff, Nat.reduceAdd]; done) | (simp only [push_lo, push_n, set_lo, set_n]; omega) | (apply has_ofL; simp only [List.length_cons, List.length_nil]; omega) | (apply has_setN; apply has_ofL; simp only [List.length_cons, List.length_nil]; omega)) only [↓bxD, bxP, bxQ, bxQ2, Nat.reduceBEq, reduceCtorEq, Nat.reduceAdd, Nat.reduceSub, Nat.reduceMul, Nat.reduceLeDiff, Nat.reduceLT, R10, R13, R22, R23, R24, R25, R4, R40, R41, R42, R43, R44, R45, R46, R47, R48, R5, R61, R62, R63, R64, R65, R9]
  refine bindP_call (kids_in hx h.ext (by omega)) ?_
  rintro kv M2 ⟨⟨k1, k2, k3⟩, rfl⟩
  have d0 : decide ((x.lk.length : Int) = 0) = false := decide_eq_false (by have := List.length_pos_iff.2 hl; omega)
  have g1 := h.g
  have c0 : cget c 0 = some (.m mid) := h.at_ 0 _ rfl
  have c1 : cget c 1 = some mv := h.at_ 1 _ rfl
  have c2 : cget c 2 = some pv := h.at_ 2 _ rfl
  obtain ⟨r1, r2⟩ := h.rm.row.sl
  rw [List.length_map] at r2
  simp (maxSteps := 4000000) (disch := first | omega | assumption | (simp only [bxS, stOk, Nat.reduceBEq, Nat.reduceEqDiff, Nat.reduceAdd]; done) | (simp only [push_lo, push_n, set_lo, set_n]; omega) | (apply has_ofL; simp only [List.length_cons, List.length_nil]; omega) | (apply has_setN; apply has_ofL; simp only [List.length_cons, List.length_nil]; omega)) only [↓bxD, bxP, bxQ, bxQ2, Nat.reduceBEq, reduceCtorEq, Nat.reduceAdd, Nat.reduceSub, Nat.reduceMul, Nat.reduceLeDiff, Nat.reduceLT, R10, R13, R22, R23, R24, R25, R4, R40, R41, R42, R43, R44, R45, R46, R47, R48, R5, R61, R62, R63, R64, R65, R9, k1, k2, len_sl, d0, g1, c0, c1, c2, nck_p, r1, r2]
  show Wp fns K40_0 _ _ _
  unfold K40_0
  simp (maxSteps := 4000000) (disch := first | omega | assumption | (simp only [bxS, stOk, Nat.reduceBEq, Nat.reduceEqDiff, Nat.reduceAdd]; done) | (simp only [push_lo, push_n, set_lo, set_n]; omega) | (apply has_ofL; simp only [List.length_cons, List.length_nil]; omega) | (apply has_setN; apply has_ofL; simp only [List.length_cons, List.length_nil]; omega)) only [↓bxD, bxP, bxQ, bxQ2, Nat.reduceBEq, reduceCtorEq, Nat.reduceAdd, Nat.reduceSub, Nat.reduceMul, Nat.reduceLeDiff, Nat.reduceLT, R10, R13, R22, R23, R24, R25, R4, R40, R41, R42, R43, R44, R45, R46, R47, R48, R5, R61, R62, R63, R64, R65, R9, k1, k2, len_sl, d0, g1, c0, c1, c2, nck_p, r1, r2]
  have hw : wrF .mupP M2 (.m mid) (.p id off) (.i .i64 (ms.length : Int)) = some (.u, M2.set mid (some (.mp (ents ms 0 ++ [(.p id off, .i .i64 (ms.length : Int), ms.length)]) (ms.length + 1)))) := by
    show (bif Nat.ble M2.lo mid then match M2.get mid with
      | some (.mp es ck) => match findP M2 id off es 0 with
        | some none => some (MV.u, M2.set mid (some (.mp (es ++ [(.p id off, .i .i64 (ms.length : Int), ck)]) (ck + 1))))
        | _ => none
      | _ => none
      else none) = _
    have hl3 := h.ml
    rw [ble_t' (show M2.lo ≤ mid by omega), cond_true, h.gm]
    simp only
    rw [find_ents (NodeAt.rw (hx.ext h.ext)).1 0 0 (fun m hm => (NodeAt.rw ((h.nodes m hm).1.ext h.ext)).1), hf]
    rfl
  rw [← show ents (ms ++ [⟨id, off, x, kv, 0, false, 0, 0⟩]) 0 = ents ms 0 ++ [(.p id off, .i .i64 (ms.length : Int), ms.length)] from by rw [ents_app]; simp] at hw
  have e1 : fillM [(2, 1, kv)] [.i .i64 0, .i .i64 0, .nils, .b false, .b false] = some [.i .i64 0, .i .i64 0, kv, .b false, .b false] := by cases kv <;> first | rfl | cases k1
  have e2 : fillM [(0, 5, .ag [.i .i64 0, .i .i64 0, kv, .b false, .b false])] (zrow [.i .i64 0, .i .i64 0, .nils, .b false, .b false] 1) = some [.i .i64 0, .i .i64 0, kv, .b false, .b false] := by cases kv <;> first | rfl | cases k1
  have hsm : sv ≠ mid := fun e => by have := h.gm; rw [← e, h.g] at this; cases this
  simp (maxSteps := 4000000) (disch := first | omega | assumption | (simp only [bxS, stOk, Nat.reduceBEq, Nat.reduceEqDiff, Nat.reduceAdd]; done) | (simp only [push_lo, push_n, set_lo, set_n]; omega) | (apply has_ofL; simp only [List.length_cons, List.length_nil]; omega) | (apply has_setN; apply has_ofL; simp only [List.length_cons, List.length_nil]; omega)) only [↓bxD, bxP, bxQ, bxQ2, Nat.reduceBEq, reduceCtorEq, Nat.reduceAdd, Nat.reduceSub, Nat.reduceMul, Nat.reduceLeDiff, Nat.reduceLT, R10, R13, R22, R23, R24, R25, R4, R40, R41, R42, R43, R44, R45, R46, R47, R48, R5, R61, R62, R63, R64, R65, R9, k1, k2, len_sl, d0, g1, c0, c1, c2, nck_p, r1, r2, ev_wrm, hw, e1, e2, bslW_some]
  generalize hMs : ents (ms ++ [⟨id, off, x, kv, 0, false, 0, 0⟩]) 0 = es'
  have hmc : (⟨id, off, x, kv, 0, false, 0, 0⟩ : Mk).cells = [.i .i64 0, .i .i64 0, kv, .b false, .b false] := by unfold Mk.cells; cases kv <;> first | rfl | cases k1
  generalize hM3 : MH.push _ _ = M3
  have x3 : Chg (fun j => j = mid) M2 M3 := by rw [← hM3]; exact ((Chg.refl (fun j => j = mid) M2).set _ (.inl rfl)).push _
  have n3 : M3.n = M2.n + 1 := by rw [← hM3]; rfl
  have g3 : M3.get sv = some (.cs false 3 c) := by rw [x3.old sv h.svl.2 hsm]; exact h.g
  have m3 : M3.get mid = some (.mp es' (ms.length + 1)) := by rw [← hM3, push_old (by show mid < M2.n; exact h.ml.2)]; exact set_same _ _
  have t3 : RowAt M3 5 (.sl M2.n 0 1 0) [[.i .i64 0, .i .i64 0, kv, .b false, .b false]] := by rw [← hM3]; exact row_one (M := M2.set mid _) rfl
  have rm3 : OwnRow Mb.n M3 5 mv (ms.map Mk.cells) := h.rm.keep (by omega) fun a b n d e => by
    obtain ⟨cc, q1, q2, q3⟩ := own_id h.rm e
    exact x3.old a q3 fun e => by rw [e, h.gm] at q1; cases q1
  have rp3 : OwnRow Mb.n M3 1 pv (nv path) := h.rp.keep (by omega) fun a b n d e => by
    obtain ⟨cc, q1, q2, q3⟩ := own_id h.rp e
    exact x3.old a q3 fun e => by rw [e, h.gm] at q1; cases q1
  have l3 := x3.lo
  clear hM3
  have hone : ∀ e ∈ [[MV.i .i64 0, .i .i64 0, kv, .b false, .b false]], allOne e = true := fun e he => by
    simp only [List.mem_cons, List.not_mem_nil, or_false] at he
    subst he
    cases kv <;> first | rfl | cases k1
  obtain ⟨mv', M4, a1, a2, a3, a4, a5, a6, a7⟩ := app_rowX (bytes := 48) rm3 t3 (by omega) (by omega) hone (by rw [List.length_map]; simp only [List.length_cons, List.length_nil]; omega) (by rw [List.length_map]; simp only [List.length_cons, List.length_nil]; omega)
  obtain ⟨nn, rfl⟩ := a7 (by simp)
  have hsv := h.svl
  have hml := h.ml
  have g4 : M4.get sv = some (.cs false 3 c) := by
    rw [a5 sv (by omega) fun a b n d e e2 => by
      obtain ⟨cc, q1, q2, q3⟩ := own_id rm3 e
      rw [e2, g3] at q1; cases q1]
    exact g3
  have m4 : M4.get mid = some (.mp es' (ms.length + 1)) := by
    rw [a5 mid (by omega) fun a b n d e e2 => by
      obtain ⟨cc, q1, q2, q3⟩ := own_id rm3 e
      rw [e2, m3] at q1; cases q1]
    exact m3
  have rp4 : OwnRow Mb.n M4 1 pv (nv path) := rp3.keep a3 fun a b n d e => by
    obtain ⟨cc, q1, q2, q3⟩ := own_id rp3 e
    exact a5 a q3 fun a' b' n' d' e' e2 => by
      obtain ⟨cc', q1', _⟩ := own_id rm3 e'
      rw [e2, q1] at q1'; cases q1'
  have hb1 : hasB c 1 1 = true := has_at h.at_ (by omega) (by simp)
  have hb2 : hasB c 1 2 = true := has_at h.at_ (by omega) (by simp)
  have ex4 : Ext Mb M4 := ⟨by omega, by omega, fun j hj => by
    rw [a6 j hj (by omega), x3.old j (by omega) (by omega)]; exact h.ext.old j hj⟩
  refine bindP_of a1 ?_
  simp (maxSteps := 4000000) (disch := first | omega | assumption | (simp only [bxS, stOk, Nat.reduceBEq, Nat.reduceEqDiff, Nat.reduceAdd]; done) | (simp only [push_lo, push_n, set_lo, set_n]; omega) | (apply has_ofL; simp only [List.length_cons, List.length_nil]; omega) | (apply has_setN; apply has_ofL; simp only [List.length_cons, List.length_nil]; omega)) only [↓bxD, bxP, bxQ, bxQ2, Nat.reduceBEq, reduceCtorEq, Nat.reduceAdd, Nat.reduceSub, Nat.reduceMul, Nat.reduceLeDiff, Nat.reduceLT, R10, R13, R22, R23, R24, R25, R4, R40, R41, R42, R43, R44, R45, R46, R47, R48, R5, R61, R62, R63, R64, R65, R9, g4, c0, c1, c2, nck_p, ev_wrm, bslW_some, cells_sl]
  generalize hM5 : MH.push _ _ = M5
  have n5 : M5.n = M4.n + 1 := by rw [← hM5]; rfl
  have l5 : M5.lo = M4.lo := by rw [← hM5]; rfl
  have x5 : Chg (fun j => j = sv) M4 M5 := by rw [← hM5]; exact ((Chg.refl (fun j => j = sv) M4).set _ (.inl rfl)).push _
  have g5 : M5.get sv = some (.cs false 3 (setN [MV.sl M3.n 0 nn 0] 1 c)) := by rw [← hM5, push_old (by show sv < M4.n; omega)]; exact set_same _ _
  have t5 : RowAt M5 1 (.sl M4.n 0 1 0) [[.i .i64 (ms.length : Int)]] := by rw [← hM5]; exact row_one (M := M4.set sv _) rfl
  clear hM5
  have m5 : M5.get mid = some (.mp es' (ms.length + 1)) := by rw [x5.old mid (by omega) (fun e => hsm e.symm)]; exact m4
  have rm5 : OwnRow Mb.n M5 5 (.sl M3.n 0 nn 0) (ms.map Mk.cells ++ [[.i .i64 0, .i .i64 0, kv, .b false, .b false]]) := a2.keep (by omega) fun a b n d e => by
    obtain ⟨cc, q1, q2, q3⟩ := own_id a2 e
    exact x5.old a q3 fun e => by rw [e, g4] at q1; cases q1
  have rp5 : OwnRow Mb.n M5 1 pv (nv path) := rp4.keep (by omega) fun a b n d e => by
    obtain ⟨cc, q1, q2, q3⟩ := own_id rp4 e
    exact x5.old a q3 fun e => by rw [e, g4] at q1; cases q1
  have at5 : At (setN [MV.sl M3.n 0 nn 0] 1 c) 0 [.m mid, .sl M3.n 0 nn 0, pv] := h.at_.set' 1 _ (by simp) rfl
  have ex5 : Ext Mb M5 := ⟨by omega, by omega, fun j hj => by rw [x5.old j (by omega) (by omega)]; exact ex4.old j hj⟩
  obtain ⟨pv', M6, b1, b2, b3, b4, b5, b6, b7⟩ := app_rowX (bytes := 8) rp5 t5 (by omega) (by omega) (fun e he => by
    simp only [List.mem_cons, List.not_mem_nil, or_false] at he
    subst he; rfl) (by rw [nv_len]; simp only [List.length_cons, List.length_nil]; omega) (by rw [nv_len]; simp only [List.length_cons, List.length_nil]; omega)
  obtain ⟨np, rfl⟩ := b7 (by simp)
  have g6 : M6.get sv = some (.cs false 3 (setN [MV.sl M3.n 0 nn 0] 1 c)) := by
    rw [b5 sv (by omega) fun a b n d e e2 => by
      obtain ⟨cc, q1, q2, q3⟩ := own_id rp5 e
      rw [e2, g5] at q1; cases q1]
    exact g5
  have m6 : M6.get mid = some (.mp es' (ms.length + 1)) := by
    rw [b5 mid (by omega) fun a b n d e e2 => by
      obtain ⟨cc, q1, q2, q3⟩ := own_id rp5 e
      rw [e2, m5] at q1; cases q1]
    exact m5
  have rm6 : OwnRow Mb.n M6 5 (.sl M3.n 0 nn 0) (ms.map Mk.cells ++ [[.i .i64 0, .i .i64 0, kv, .b false, .b false]]) := rm5.keep b3 fun a b n d e => by
    obtain ⟨cc, q1, q2, q3⟩ := own_id rm5 e
    exact b5 a q3 fun a' b' n' d' e' e2 => by
      obtain ⟨cc', q1', _⟩ := own_id rp5 e'
      rw [e2, q1] at q1'; cases q1'
  have ex6 : Ext Mb M6 := ⟨by omega, by omega, fun j hj => by rw [b6 j hj (by omega)]; exact ex5.old j hj⟩
  have hb3 : hasB (setN [MV.sl M3.n 0 nn 0] 1 c) 1 2 = true := has_setN _ _ _ _ hb2
  refine bindP_of b1 ?_
  simp (maxSteps := 4000000) (disch := first | omega | assumption | (simp only [bxS, stOk, Nat.reduceBEq, Nat.reduceEqDiff, Nat.reduceAdd]; done) | (simp only [push_lo, push_n, set_lo, set_n]; omega) | (apply has_ofL; simp only [List.length_cons, List.length_nil]; omega) | (apply has_setN; apply has_ofL; simp only [List.length_cons, List.length_nil]; omega)) only [↓bxD, bxP, bxQ, bxQ2, Nat.reduceBEq, reduceCtorEq, Nat.reduceAdd, Nat.reduceSub, Nat.reduceMul, Nat.reduceLeDiff, Nat.reduceLT, R10, R13, R22, R23, R24, R25, R4, R40, R41, R42, R43, R44, R45, R46, R47, R48, R5, R61, R62, R63, R64, R65, R9, g6, nck_p, cells_sl, resL_nil]
  generalize hM7 : MH.set _ _ _ = M7
  have x7 : Chg (fun j => j = sv) M6 M7 := by rw [← hM7]; exact (Chg.refl (fun j => j = sv) M6).set _ (.inl rfl)
  have g7 : M7.get sv = some (.cs false 3 (setN [MV.sl M5.n 0 np 0] 2 (setN [MV.sl M3.n 0 nn 0] 1 c))) := by rw [← hM7]; exact set_same _ _
  have n7 : M7.n = M6.n := by rw [← hM7]; rfl
  have l7 := x7.lo
  clear hM7
  refine ⟨kv, ⟨k1, k2, k3⟩, setN [MV.sl M5.n 0 np 0] 2 (setN [MV.sl M3.n 0 nn 0] 1 c), mid, .sl M3.n 0 nn 0, .sl M5.n 0 np 0, ?_⟩
  · refine ⟨⟨by omega, by omega, fun j hj => by rw [x7.old j (by omega) (by omega)]; exact ex6.old j hj⟩, g7, ⟨hsv.1, by omega⟩, at5.set' 2 _ (by simp) rfl, ?_, ⟨hml.1, by omega⟩, ?_, ?_, ?_⟩
    · rw [x7.old mid (by omega) (fun e => hsm e.symm), m6, hMs, List.length_append]; rfl
    · rw [List.map_append, List.map_cons, List.map_nil, hmc]
      exact rm6.keep (by omega) fun a b n d e => by
        obtain ⟨cc, q1, q2, q3⟩ := own_id rm6 e
        exact x7.old a q3 fun e => by rw [e, g6] at q1; cases q1
    · rw [nv_app]
      exact b2.keep (by omega) fun a b n d e => by
        obtain ⟨cc, q1, q2, q3⟩ := own_id b2 e
        exact x7.old a q3 fun e => by rw [e, g6] at q1; cases q1
    · intro m hm
      rcases List.mem_append.1 hm with hm | hm
      · exact h.nodes m hm
      · simp only [List.mem_cons, List.not_mem_nil, or_false] at hm
        subst hm
        exact ⟨hx, k1, k2, k3⟩
end Go.Proofs.Ytaagkdljkpbilaa.K
