/-
  What is built of a pattern: its places and what follows them. Conditions: none.
-/
import Derived.Test.YtaagkdljkpbilaaP2
import Derived.Test.YtaagkdljkpbilaaLitK
import Derived.Test.YtaagkdljkpbilaaSw
import Derived.Test.YtaagkdljkpbilaaBx
set_option linter.unusedSimpArgs false
set_option linter.unusedVariables false
namespace Go.Proofs.Ytaagkdljkpbilaa.K
open Go Ev
set_option maxRecDepth 100000
set_option maxHeartbeats 4000000

/-- A part of a pattern, to what stands around it. -/
structure Pm where
  null : Bool
  fi : Nat
  la : Nat
def Pm.cells (p : Pm) : List MV := .b p.null :: (plc p.fi ++ plc p.la)
structure Bs where
  sets : List (List MV)
  fol : List Nat
def linkM (fol : List Nat) (la fi : Nat) : List Nat := fol.mapIdx fun i f => if la.testBit i then f ||| fi else f
theorem linkM_len (fol : List Nat) (la fi : Nat) : (linkM fol la fi).length = fol.length := by unfold linkM; rw [List.length_mapIdx]
/-- What the survey left. -/
structure SvB (Mb : MH) (mid : Nat) (mv : MV) (ms : List Mk) : Prop where
  gm : Mb.get mid = some (.mp (ents ms 0) ms.length)
  ml : mid < Mb.n
  rm : RowAt Mb 5 mv (ms.map Mk.cells)
  nodes : ∀ m ∈ ms, NodeAt Mb m.x m.id m.off ∧ KidsV Mb m.x m.id m.off m.kv
  inv : SInv ms []
/-- A builder at work. -/
structure BdO (Mb M : MH) (bx mid : Nat) (mv pv : MV) (ms : List Mk) (c : T MV) (sv fv : MV) (b : Bs) : Prop where
  srv : SvB Mb mid mv ms
  ext : Ext Mb M
  g : M.get bx = some (.cs false 5 c)
  bl : Mb.n ≤ bx ∧ bx < M.n
  at_ : At c 0 [.m mid, mv, pv, sv, fv]
  rs : OwnRow Mb.n M 4 sv b.sets
  rf : OwnRow Mb.n M 3 fv (b.fol.map plc)
  len : b.fol.length = b.sets.length
def Bd (Mb M : MH) (bx mid : Nat) (mv pv : MV) (ms : List Mk) (b : Bs) : Prop := ∃ c sv fv, BdO Mb M bx mid mv pv ms c sv fv b
/-- The parts that are under way stay as they are. -/
structure Fr7 (M M' : MH) : Prop where
  n : M.n ≤ M'.n
  lo : M'.lo = M.lo
  old : ∀ j c, j < M.n → M.get j = some (.cs false 7 c) → M'.get j = some (.cs false 7 c)
theorem Fr7.refl (M : MH) : Fr7 M M := ⟨Nat.le_refl _, rfl, fun _ _ _ h => h⟩
theorem Fr7.trans {a b c : MH} (h : Fr7 a b) (k : Fr7 b c) : Fr7 a c := ⟨Nat.le_trans h.n k.n, k.lo.trans h.lo, fun j x hj e => k.old j x (Nat.lt_of_lt_of_le hj h.n) (h.old j x hj e)⟩
theorem Fr7.of {a b : MH} (h : Ext a b) : Fr7 a b := ⟨h.n, h.lo, fun j x hj e => (h.old j hj).trans e⟩
theorem BdO.rd {Mb M : MH} {bx mid : Nat} {mv pv : MV} {ms : List Mk} {c : T MV} {sv fv : MV} {b : Bs} (h : BdO Mb M bx mid mv pv ms c sv fv b) : SvRd M bx ms :=
  ⟨⟨false, 5, c, mid, mv, h.g, h.bl.2, h.at_ 0 _ rfl, h.at_ 1 _ rfl, (h.ext.old mid h.srv.ml).trans h.srv.gm, Nat.lt_of_lt_of_le h.srv.ml h.ext.n, h.srv.rm.ext h.ext⟩, fun m hm => (h.srv.nodes m hm).1.ext h.ext⟩
theorem BdO.more {Mb M M' : MH} {bx mid : Nat} {mv pv : MV} {ms : List Mk} {c : T MV} {sv fv : MV} {b : Bs} (h : BdO Mb M bx mid mv pv ms c sv fv b) (k : Ext M M') : BdO Mb M' bx mid mv pv ms c sv fv b :=
  ⟨h.srv, h.ext.trans k, (k.old bx h.bl.2).trans h.g, ⟨h.bl.1, Nat.lt_of_lt_of_le h.bl.2 k.n⟩, h.at_, h.rs.ext k, h.rf.ext k, h.len⟩
theorem sized_plc (l : List Nat) : Sized 3 (l.map plc) := fun e he => by
  obtain ⟨m, _, rfl⟩ := List.mem_map.1 he
  rfl
theorem set3_at {c : T MV} {es : List (List MV)} (hs : Sized 3 es) (h : At c 0 es.flatten) {i : Nat} {e : List MV} (he : es[i]? = some e) (x y z : MV) : At (setN [x, y, z] (i * 3) c) 0 (es.set i [x, y, z]).flatten := by
  have hl : e.length = 3 := hs e (List.mem_of_getElem? he)
  obtain ⟨a, b, d, rfl⟩ : ∃ a b d, e = [a, b, d] := by
    match e, hl with
    | [a, b, d], _ => exact ⟨a, b, d, rfl⟩
  have hi := (List.getElem?_eq_some_iff.1 he).1
  have h1 := At.elem_set hs h (i := i) (o := 0) (x := x) he (by omega) (k := i * 3) (by omega)
  have s1 : Sized 3 (es.set i [x, b, d]) := hs.set i rfl
  have h2 := At.elem_set s1 h1 (i := i) (o := 1) (x := y) (e := [x, b, d]) (by rw [List.getElem?_set, if_pos rfl, if_pos hi]) (by omega) (k := i * 3 + 1) (by omega)
  rw [List.set_set] at h2
  have s2 : Sized 3 (es.set i [x, y, d]) := hs.set i rfl
  have h3 := At.elem_set s2 h2 (i := i) (o := 2) (x := z) (e := [x, y, d]) (by rw [List.getElem?_set, if_pos rfl, if_pos hi]) (by omega) (k := i * 3 + 2) (by omega)
  rw [List.set_set] at h3
  exact h3
def mixF (fol : List Nat) (la fi k : Nat) : List Nat := fol.mapIdx fun i f => if i < k ∧ la.testBit i = true then f ||| fi else f
theorem mixF_len (fol : List Nat) (la fi k : Nat) : (mixF fol la fi k).length = fol.length := by unfold mixF; rw [List.length_mapIdx]
theorem mixF_zero (fol : List Nat) (la fi : Nat) : mixF fol la fi 0 = fol := by
  refine List.ext_getElem? fun j => ?_
  unfold mixF
  rw [List.getElem?_mapIdx]
  cases fol[j]? <;> simp
theorem mixF_all (fol : List Nat) (la fi : Nat) : mixF fol la fi fol.length = linkM fol la fi := by
  refine List.ext_getElem? fun j => ?_
  unfold mixF linkM
  rw [List.getElem?_mapIdx, List.getElem?_mapIdx]
  cases h : fol[j]? with
  | none => rfl
  | some f =>
    have := (List.getElem?_eq_some_iff.1 h).1
    simp [this]
theorem mixF_at {fol : List Nat} {la fi k f : Nat} (h : fol[k]? = some f) : (mixF fol la fi k)[k]? = some f := by
  unfold mixF
  rw [List.getElem?_mapIdx, h]
  simp
theorem mixF_succ {fol : List Nat} {la fi k f : Nat} (h : fol[k]? = some f) : mixF fol la fi (k + 1) = if la.testBit k = true then (mixF fol la fi k).set k (f ||| fi) else mixF fol la fi k := by
  have hk := (List.getElem?_eq_some_iff.1 h).1
  refine List.ext_getElem? fun j => ?_
  split
  · rename_i e
    rw [List.getElem?_set]
    by_cases hj : k = j
    · subst hj
      rw [if_pos rfl, if_pos (by rw [mixF_len]; exact hk)]
      unfold mixF
      rw [List.getElem?_mapIdx, h]
      simp [e]
    · rw [if_neg hj]
      unfold mixF
      rw [List.getElem?_mapIdx, List.getElem?_mapIdx]
      cases fol[j]? with
      | none => rfl
      | some x =>
        have : (j < k + 1) = (j < k) := by rw [eq_iff_iff]; omega
        simp [this]
  · rename_i e
    unfold mixF
    rw [List.getElem?_mapIdx, List.getElem?_mapIdx]
    cases hx : fol[j]? with
    | none => rfl
    | some x =>
      by_cases hj : j = k
      · subst hj
        simp [e]
      · have : (j < k + 1) = (j < k) := by rw [eq_iff_iff]; omega
        simp [this]
/-- What follows the places of last is first, too. -/
theorem link_any {Mb M : MH} {bx mid : Nat} {mv pv : MV} {ms : List Mk} {b : Bs} {la fi : Nat} (h : Bd Mb M bx mid mv pv ms b) (hlo : Mb.lo ≤ Mb.n) (hb : b.fol.length ≤ 190) :
    Cp fns 64 [.p bx 0, .ag (plc la), .ag (plc fi)] M fun _ M' => Bd Mb M' bx mid mv pv ms ⟨b.sets, linkM b.fol la fi⟩ ∧ Fr7 M M' := by
  obtain ⟨c, sv, fv, h⟩ := h
  have en := h.ext.n
  have el := h.ext.lo
  refine Cp_call (fn := F64) (by kernel_rfl) (Nat.le_of_ble_eq_true rfl) ?_
  show Wp fns B64 (T.set q2 (some (.ag (plc fi))) (T.set q1 (some (.ag (plc la))) (T.set q0 (some (.p bx 0)) T.lf))) M _
  unfold B64
  have hU : ∀ N, isU (.ag (plc N)) = false := fun _ => rfl
  have hcl : ∀ N, MV.cells (.ag (plc N)) = plc N := fun _ => rfl
  have hlen : ∀ N, (plc N).length = 3 := fun _ => rfl
  have hbl := h.bl
  have c4 : cget c 4 = some fv := h.at_ 4 _ rfl
  obtain ⟨r1, r2⟩ := h.rf.row.sl
  rw [List.length_map] at r2
  have hg := h.g
  simp (maxSteps := 4000000) (disch := first | omega | assumption | (simp only [bxS, stOk, Nat.reduceBEq, Nat.reduceEqDiff, Nat.reduceAdd]; done) | (simp only [push_lo, push_n, set_lo, set_n]; omega) | (apply has_ofL; simp only [List.length_cons, List.length_nil]; omega) | (apply has_setN; apply has_ofL; simp only [List.length_cons, List.length_nil]; omega)) only [↓bxD, bxP, bxQ, bxQ2, Nat.reduceBEq, reduceCtorEq, Nat.reduceAdd, Nat.reduceSub, Nat.reduceMul, Nat.reduceLeDiff, Nat.reduceLT, R10, R13, R22, R23, R24, R25, R4, R40, R41, R42, R43, R44, R45, R46, R47, R48, R5, R61, R62, R63, R64, R65, R9, hU, hcl, hlen, nck_p, hg, c4, r1, r2, len_sl]
  generalize hM1 : (M.push _).push _ = M1
  have g0 : M1.get M.n = some (.cs false 3 (ofL (plc la) 0)) := by rw [← hM1, push_old (by show M.n < M.n + 1; omega)]; exact push_new _
  have g1 : M1.get (M.n + 1) = some (.cs false 3 (ofL (plc fi) 0)) := by rw [← hM1]; exact push_new (M := M.push _) _
  have hx : Ext M M1 := by rw [← hM1]; exact (Ext.push M _).trans (.push _ _)
  have hn : M1.n = M.n + 2 := by rw [← hM1]; rfl
  have hl := hx.lo
  clear hM1
  have h1 := h.more hx
  refine Wp_inv (σ := Nat) (fun k f M' => k ≤ b.fol.length ∧ X.ev f (.t q0) = .p bx 0 ∧ X.ev f (.t q4) = .p M.n 0 ∧ X.ev f (.t q5) = .p (M.n + 1) 0 ∧ X.ev f (.t q11) = .i .i64 (b.fol.length : Int) ∧ X.ev f (.t q12) = .i .i64 (k : Int) ∧ BdO Mb M' bx mid mv pv ms c sv fv ⟨b.sets, mixF b.fol la fi k⟩ ∧ Fr7 M1 M' ∧ M'.get M.n = some (.cs false 3 (ofL (plc la) 0)) ∧ M'.get (M.n + 1) = some (.cs false 3 (ofL (plc fi) 0)) ∧ (∀ a n d e, fv = .sl a n d e → a < M.n)) (fun k => b.fol.length - k) ?_ 0 ?_
  · rintro k f M' ⟨hk, h0, h4, h5, h11, h12, hB, hF, e4, e5, hfv⟩
    have n1 := hF.n
    have l1 := hF.lo
    have g2 := hB.g
    have c4' : cget c 4 = some fv := hB.at_ 4 _ rfl
    have hG : ∀ N, Ev.getN (ofL (plc N) 0) 3 0 = some (plc N) := fun N => (at_ofL (plc N)).getN
    simp only [q0, q4, q5, q11, q12] at h0 h4 h5 h11 h12
    unfold L64_2
    simp (maxSteps := 4000000) (disch := first | omega | assumption | (simp only [bxS, stOk, Nat.reduceBEq, Nat.reduceEqDiff, Nat.reduceAdd]; done) | (simp only [push_lo, push_n, set_lo, set_n]; omega) | (apply has_ofL; simp only [List.length_cons, List.length_nil]; omega) | (apply has_setN; apply has_ofL; simp only [List.length_cons, List.length_nil]; omega)) only [↓bxD, bxP, bxQ, bxQ2, Nat.reduceBEq, reduceCtorEq, Nat.reduceAdd, Nat.reduceSub, Nat.reduceMul, Nat.reduceLeDiff, Nat.reduceLT, R10, R13, R22, R23, R24, R25, R4, R40, R41, R42, R43, R44, R45, R46, R47, R48, R5, R61, R62, R63, R64, R65, R9, h0, h4, h5, h11, h12]
    refine condP_split (fun hlt => ?_) (fun hge => ?_)
    · have hk3 : k < b.fol.length := by omega
      obtain ⟨f0, hf0⟩ : ∃ f0, b.fol[k]? = some f0 := ⟨_, List.getElem?_eq_getElem hk3⟩
      simp (maxSteps := 4000000) (disch := first | omega | assumption | (simp only [bxS, stOk, Nat.reduceBEq, Nat.reduceEqDiff, Nat.reduceAdd]; done) | (simp only [push_lo, push_n, set_lo, set_n]; omega) | (apply has_ofL; simp only [List.length_cons, List.length_nil]; omega) | (apply has_setN; apply has_ofL; simp only [List.length_cons, List.length_nil]; omega)) only [↓bxD, bxP, bxQ, bxQ2, Nat.reduceBEq, reduceCtorEq, Nat.reduceAdd, Nat.reduceSub, Nat.reduceMul, Nat.reduceLeDiff, Nat.reduceLT, R10, R13, R22, R23, R24, R25, R4, R40, R41, R42, R43, R44, R45, R46, R47, R48, R5, R61, R62, R63, R64, R65, R9, h0, h4, h5, h11, h12]
      show Wp fns K64_1 _ _ _
      unfold K64_1
      simp (maxSteps := 4000000) (disch := first | omega | assumption | (simp only [bxS, stOk, Nat.reduceBEq, Nat.reduceEqDiff, Nat.reduceAdd]; done) | (simp only [push_lo, push_n, set_lo, set_n]; omega) | (apply has_ofL; simp only [List.length_cons, List.length_nil]; omega) | (apply has_setN; apply has_ofL; simp only [List.length_cons, List.length_nil]; omega)) only [↓bxD, bxP, bxQ, bxQ2, Nat.reduceBEq, reduceCtorEq, Nat.reduceAdd, Nat.reduceSub, Nat.reduceMul, Nat.reduceLeDiff, Nat.reduceLT, R10, R13, R22, R23, R24, R25, R4, R40, R41, R42, R43, R44, R45, R46, R47, R48, R5, R61, R62, R63, R64, R65, R9, h0, h4, h5, h11, h12, e4, hG]
      refine bindP_call (has_any' (by omega) (by omega)) ?_
      rintro m M2 ⟨rfl, hx2⟩
      have n2 := hx2.n
      have l2 := hx2.lo
      have hB2 := hB.more hx2
      have f4 := (hx2.old M.n (by omega)).trans e4
      have f5 := (hx2.old (M.n + 1) (by omega)).trans e5
      cases hbit : la.testBit k with
      | false =>
        simp (maxSteps := 4000000) (disch := first | omega | assumption | (simp only [bxS, stOk, Nat.reduceBEq, Nat.reduceEqDiff, Nat.reduceAdd]; done) | (simp only [push_lo, push_n, set_lo, set_n]; omega) | (apply has_ofL; simp only [List.length_cons, List.length_nil]; omega) | (apply has_setN; apply has_ofL; simp only [List.length_cons, List.length_nil]; omega)) only [↓bxD, bxP, bxQ, bxQ2, Nat.reduceBEq, reduceCtorEq, Nat.reduceAdd, Nat.reduceSub, Nat.reduceMul, Nat.reduceLeDiff, Nat.reduceLT, R10, R13, R22, R23, R24, R25, R4, R40, R41, R42, R43, R44, R45, R46, R47, R48, R5, R61, R62, R63, R64, R65, R9, h0, h4, h5, h11, h12, hbit]
        show Wp fns K64_0 _ _ _
        unfold K64_0
        simp (maxSteps := 4000000) (disch := first | omega | assumption | (simp only [bxS, stOk, Nat.reduceBEq, Nat.reduceEqDiff, Nat.reduceAdd]; done) | (simp only [push_lo, push_n, set_lo, set_n]; omega) | (apply has_ofL; simp only [List.length_cons, List.length_nil]; omega) | (apply has_setN; apply has_ofL; simp only [List.length_cons, List.length_nil]; omega)) only [↓bxD, bxP, bxQ, bxQ2, Nat.reduceBEq, reduceCtorEq, Nat.reduceAdd, Nat.reduceSub, Nat.reduceMul, Nat.reduceLeDiff, Nat.reduceLT, R10, R13, R22, R23, R24, R25, R4, R40, R41, R42, R43, R44, R45, R46, R47, R48, R5, R61, R62, R63, R64, R65, R9, h0, h4, h5, h11, h12]
        refine ⟨k + 1, by omega, by omega, rfl, ?_, hF.trans (.of hx2), f4, f5, hfv⟩
        rw [mixF_succ hf0, if_neg (by rw [hbit]; simp)]
        exact hB2
      | true =>
        have hfk : (mixF b.fol la fi k)[k]? = some f0 := mixF_at hf0
        obtain ⟨A, cf, rfl, hA1, hA2, hA3, hA4⟩ : ∃ A cf, fv = .sl A 0 b.fol.length 0 ∧ M2.get A = some (.cs false 3 cf) ∧ Mb.n ≤ A ∧ A < M2.n ∧ At cf 0 ((mixF b.fol la fi k).map plc).flatten := by
          obtain ⟨hs, ⟨_, e2⟩ | ⟨A, cf, e1, e2, e3, e4, e5⟩⟩ := hB2.rf
          · have := congrArg List.length e2
            rw [List.length_map, mixF_len] at this
            simp at this
            rw [this] at hk3; simp at hk3
          · rw [List.length_map, mixF_len] at e1
            exact ⟨A, cf, e1, e2, e3, e4, e5⟩
        have hAlt := hfv _ _ _ _ rfl
        have hAbx : A ≠ bx := fun e => by rw [e, hB2.g] at hA1; cases hA1
        have g3 := hB2.g
        have c4'' : cget c 4 = some (.sl A 0 b.fol.length 0) := hB2.at_ 4 _ rfl
        have ixf : ixV 3 (.sl A 0 b.fol.length 0) (.i .i64 (k : Int)) = some (.p A (0 + k * 3)) := ix_sl (v := .sl A 0 b.fol.length 0) rfl hk3
        have hek : At cf (k * 3) (plc f0) := by
          have := At.elem (sized_plc _) hA4 (i := k) (e := plc f0) (by rw [List.getElem?_map, hfk]; rfl)
          rwa [Nat.zero_add] at this
        have hgk : Ev.getN cf 3 (k * 3) = some (plc f0) := hek.getN
        have hst : stOk 3 (.ag (plc (f0 ||| fi))) = true := rfl
        have hbk : hasB cf 3 (k * 3) = true := hek.has
        simp (maxSteps := 4000000) (disch := first | omega | assumption | (simp only [bxS, stOk, Nat.reduceBEq, Nat.reduceEqDiff, Nat.reduceAdd]; done) | (simp only [push_lo, push_n, set_lo, set_n]; omega) | (apply has_ofL; simp only [List.length_cons, List.length_nil]; omega) | (apply has_setN; apply has_ofL; simp only [List.length_cons, List.length_nil]; omega)) only [↓bxD, bxP, bxQ, bxQ2, Nat.reduceBEq, reduceCtorEq, Nat.reduceAdd, Nat.reduceSub, Nat.reduceMul, Nat.reduceLeDiff, Nat.reduceLT, R10, R13, R22, R23, R24, R25, R4, R40, R41, R42, R43, R44, R45, R46, R47, R48, R5, R61, R62, R63, R64, R65, R9, h0, h4, h5, h11, h12, hbit]
        refine Wp_dreg_of (by omega) ?_
        simp (maxSteps := 4000000) (disch := first | omega | assumption | (simp only [bxS, stOk, Nat.reduceBEq, Nat.reduceEqDiff, Nat.reduceAdd]; done) | (simp only [push_lo, push_n, set_lo, set_n]; omega) | (apply has_ofL; simp only [List.length_cons, List.length_nil]; omega) | (apply has_setN; apply has_ofL; simp only [List.length_cons, List.length_nil]; omega)) only [↓bxD, bxP, bxQ, bxQ2, Nat.reduceBEq, reduceCtorEq, Nat.reduceAdd, Nat.reduceSub, Nat.reduceMul, Nat.reduceLeDiff, Nat.reduceLT, R10, R13, R22, R23, R24, R25, R4, R40, R41, R42, R43, R44, R45, R46, R47, R48, R5, R61, R62, R63, R64, R65, R9, h0, h4, h5, h11, h12, nck_p, g3, c4'', ixf, Nat.zero_add, hA1, hgk, f5, hG]
        refine bindP_call (with_any (Nat.le_refl _)) ?_
        rintro m M3 ⟨rfl, hx3⟩
        have sx : Sub M2 (M3.down M2.lo) := ((Sub.lift M2).trans hx3.sub).trans (.down _ _)
        have ex := sx.ext rfl
        have n3 := ex.n
        have hA1' : (M3.down M2.lo).get A = some (.cs false 3 cf) := (ex.old A hA3).trans hA1
        have l3 : (M3.down M2.lo).lo ≤ A := by have := ex.lo; omega
        have hA1'' : M3.get A = some (.cs false 3 cf) := hA1'
        simp (maxSteps := 4000000) (disch := first | omega | assumption | (simp only [bxS, stOk, Nat.reduceBEq, Nat.reduceEqDiff, Nat.reduceAdd]; done) | (simp only [push_lo, push_n, set_lo, set_n]; omega) | (apply has_ofL; simp only [List.length_cons, List.length_nil]; omega) | (apply has_setN; apply has_ofL; simp only [List.length_cons, List.length_nil]; omega)) only [↓bxD, bxP, bxQ, bxQ2, Nat.reduceBEq, reduceCtorEq, Nat.reduceAdd, Nat.reduceSub, Nat.reduceMul, Nat.reduceLeDiff, Nat.reduceLT, R10, R13, R22, R23, R24, R25, R4, R40, R41, R42, R43, R44, R45, R46, R47, R48, R5, R61, R62, R63, R64, R65, R9, h0, h4, h5, h11, h12, ixf, Nat.zero_add, hcl, hA1'']
        generalize hM4 : MH.set _ _ _ = M4
        have x4 : Chg (fun j => j = A) M2 M4 := by rw [← hM4]; exact (Chg.of ex).set _ (.inl rfl)
        have g4 : M4.get A = some (.cs false 3 (setN (plc (f0 ||| fi)) (k * 3) cf)) := by rw [← hM4]; exact set_same _ _
        have n4 := x4.n
        have l4 := x4.lo
        clear hM4
        show Wp fns K64_0 _ _ _
        unfold K64_0
        simp (maxSteps := 4000000) (disch := first | omega | assumption | (simp only [bxS, stOk, Nat.reduceBEq, Nat.reduceEqDiff, Nat.reduceAdd]; done) | (simp only [push_lo, push_n, set_lo, set_n]; omega) | (apply has_ofL; simp only [List.length_cons, List.length_nil]; omega) | (apply has_setN; apply has_ofL; simp only [List.length_cons, List.length_nil]; omega)) only [↓bxD, bxP, bxQ, bxQ2, Nat.reduceBEq, reduceCtorEq, Nat.reduceAdd, Nat.reduceSub, Nat.reduceMul, Nat.reduceLeDiff, Nat.reduceLT, R10, R13, R22, R23, R24, R25, R4, R40, R41, R42, R43, R44, R45, R46, R47, R48, R5, R61, R62, R63, R64, R65, R9, h0, h4, h5, h11, h12]
        have hbx2 := hB2.bl
        have en2 := hB2.ext.n
        have el2 := hB2.ext.lo
        refine ⟨k + 1, by omega, by omega, rfl, ⟨hB2.srv, ⟨by omega, by omega, fun j hj => (x4.old j (by omega) (by omega)).trans (hB2.ext.old j hj)⟩, (x4.old bx hbx2.2 (fun e => hAbx e.symm)).trans g3, ⟨hbx2.1, by omega⟩, hB2.at_, ?_, ?_, by rw [mixF_len]; exact h.len⟩, hF.trans ((Fr7.of hx2).trans ⟨n4, l4, fun j cc hj e => (x4.old j hj (fun e2 => by rw [e2, hA1] at e; cases e)).trans e⟩), (x4.old M.n (by omega) (by omega)).trans f4, (x4.old (M.n + 1) (by omega) (by omega)).trans f5, hfv⟩
        · exact hB2.rs.keep n4 fun a b n d e => by
            obtain ⟨cc, q1, q2, q3⟩ := own_id hB2.rs e
            exact x4.old a q3 fun e => by rw [e, hA1] at q1; cases q1
        · have := set3_at (sized_plc _) hA4 (i := k) (e := plc f0) (by rw [List.getElem?_map, hfk]; rfl) (.i .u64 ((wd (f0 ||| fi) 0 : Nat) : Int)) (.i .u64 ((wd (f0 ||| fi) 1 : Nat) : Int)) (.i .u64 ((wd (f0 ||| fi) 2 : Nat) : Int))
          rw [mixF_succ hf0, if_pos hbit]
          refine ⟨sized_plc _, .inr ⟨A, _, ?_, g4, hA2, by omega, ?_⟩⟩
          · rw [List.length_map, List.length_set, mixF_len]
          · rw [List.map_set]; exact this
    · have hk3 : k = b.fol.length := by omega
      subst hk3
      simp (maxSteps := 4000000) (disch := first | omega | assumption | (simp only [bxS, stOk, Nat.reduceBEq, Nat.reduceEqDiff, Nat.reduceAdd]; done) | (simp only [push_lo, push_n, set_lo, set_n]; omega) | (apply has_ofL; simp only [List.length_cons, List.length_nil]; omega) | (apply has_setN; apply has_ofL; simp only [List.length_cons, List.length_nil]; omega)) only [↓bxD, bxP, bxQ, bxQ2, Nat.reduceBEq, reduceCtorEq, Nat.reduceAdd, Nat.reduceSub, Nat.reduceMul, Nat.reduceLeDiff, Nat.reduceLT, R10, R13, R22, R23, R24, R25, R4, R40, R41, R42, R43, R44, R45, R46, R47, R48, R5, R61, R62, R63, R64, R65, R9, h0, h4, h5, h11, h12, resL_nil]
      refine ⟨⟨c, sv, fv, ?_⟩, (Fr7.of hx).trans hF⟩
      rw [← mixF_all]
      exact hB
  · refine ⟨Nat.zero_le _, by simp (maxSteps := 4000000) (disch := first | omega | assumption | (simp only [bxS, stOk, Nat.reduceBEq, Nat.reduceEqDiff, Nat.reduceAdd]; done) | (simp only [push_lo, push_n, set_lo, set_n]; omega) | (apply has_ofL; simp only [List.length_cons, List.length_nil]; omega) | (apply has_setN; apply has_ofL; simp only [List.length_cons, List.length_nil]; omega)) only [↓bxD, bxP, bxQ, bxQ2, Nat.reduceBEq, reduceCtorEq, Nat.reduceAdd, Nat.reduceSub, Nat.reduceMul, Nat.reduceLeDiff, Nat.reduceLT, R10, R13, R22, R23, R24, R25, R4, R40, R41, R42, R43, R44, R45, R46, R47, R48, R5, R61, R62, R63, R64, R65, R9, hU, hcl, hlen, nck_p, hg, c4, r1, r2, len_sl], by simp (maxSteps := 4000000) (disch := first | omega | assumption | (simp only [bxS, stOk, Nat.reduceBEq, Nat.reduceEqDiff, Nat.reduceAdd]; done) | (simp only [push_lo, push_n, set_lo, set_n]; omega) | (apply has_ofL; simp only [List.length_cons, List.length_nil]; omega) | (apply has_setN; apply has_ofL; simp only [List.length_cons, List.length_nil]; omega)) only [↓bxD, bxP, bxQ, bxQ2, Nat.reduceBEq, reduceCtorEq, Nat.reduceAdd, Nat.reduceSub, Nat.reduceMul, Nat.reduceLeDiff, Nat.reduceLT, R10, R13, R22, R23, R24, R25, R4, R40, R41, R42, R43, R44, R45, R46, R47, R48, R5, R61, R62, R63, R64, R65, R9, hU, hcl, hlen, nck_p, hg, c4, r1, r2, len_sl], by simp (maxSteps := 4000000) (disch := first | omega | assumption | (simp only [bxS, stOk, Nat.reduceBEq, Nat.reduceEqDiff, Nat.reduceAdd]; done) | (simp only [push_lo, push_n, set_lo, set_n]; omega) | (apply has_ofL; simp only [List.length_cons, List.length_nil]; omega) | (apply has_setN; apply has_ofL; simp only [List.length_cons, List.length_nil]; omega)) only [↓bxD, bxP, bxQ, bxQ2, Nat.reduceBEq, reduceCtorEq, Nat.reduceAdd, Nat.reduceSub, Nat.reduceMul, Nat.reduceLeDiff, Nat.reduceLT, R10, R13, R22, R23, R24, R25, R4, R40, R41, R42, R43, R44, R45, R46, R47, R48, R5, R61, R62, R63, R64, R65, R9, hU, hcl, hlen, nck_p, hg, c4, r1, r2, len_sl], by simp (maxSteps := 4000000) (disch := first | omega | assumption | (simp only [bxS, stOk, Nat.reduceBEq, Nat.reduceEqDiff, Nat.reduceAdd]; done) | (simp only [push_lo, push_n, set_lo, set_n]; omega) | (apply has_ofL; simp only [List.length_cons, List.length_nil]; omega) | (apply has_setN; apply has_ofL; simp only [List.length_cons, List.length_nil]; omega)) only [↓bxD, bxP, bxQ, bxQ2, Nat.reduceBEq, reduceCtorEq, Nat.reduceAdd, Nat.reduceSub, Nat.reduceMul, Nat.reduceLeDiff, Nat.reduceLT, R10, R13, R22, R23, R24, R25, R4, R40, R41, R42, R43, R44, R45, R46, R47, R48, R5, R61, R62, R63, R64, R65, R9, hU, hcl, hlen, nck_p, hg, c4, r1, r2, len_sl], by simp (maxSteps := 4000000) (disch := first | omega | assumption | (simp only [bxS, stOk, Nat.reduceBEq, Nat.reduceEqDiff, Nat.reduceAdd]; done) | (simp only [push_lo, push_n, set_lo, set_n]; omega) | (apply has_ofL; simp only [List.length_cons, List.length_nil]; omega) | (apply has_setN; apply has_ofL; simp only [List.length_cons, List.length_nil]; omega)) only [↓bxD, bxP, bxQ, bxQ2, Nat.reduceBEq, reduceCtorEq, Nat.reduceAdd, Nat.reduceSub, Nat.reduceMul, Nat.reduceLeDiff, Nat.reduceLT, R10, R13, R22, R23, R24, R25, R4, R40, R41, R42, R43, R44, R45, R46, R47, R48, R5, R61, R62, R63, R64, R65, R9, hU, hcl, hlen, nck_p, hg, c4, r1, r2, len_sl] <;> rfl, by rw [mixF_zero]; exact h1, .refl _, g0, g1, fun a n d e e2 => ?_⟩
    obtain ⟨cc, q1, q2, q3⟩ := own_id h.rf e2
    exact q3
end Go.Proofs.Ytaagkdljkpbilaa.K
