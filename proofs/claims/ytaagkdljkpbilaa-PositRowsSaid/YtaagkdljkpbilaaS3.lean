/-
  What a survey knows, and the size that it tells. Conditions: none.
-/
import Derived.Test.YtaagkdljkpbilaaS2
import Derived.Test.YtaagkdljkpbilaaLitK
import Derived.Test.YtaagkdljkpbilaaSw
import Derived.Test.YtaagkdljkpbilaaBx
set_option linter.unusedSimpArgs false
set_option linter.unusedVariables false
namespace Go.Proofs.Ytaagkdljkpbilaa.K
open Go Ev
set_option maxRecDepth 100000
set_option maxHeartbeats 4000000

/-! Results that lie in memory. -/
noncomputable def cNo (n off : Nat) : Option MO → Option MV
  | some (.cs _ _ c) => (getN c n off).map MV.ag
  | _ => none
noncomputable def cNV (M : MH) (n : Nat) : Option MV → Option MV
  | some (.p id off) => cNo n off (M.get id)
  | _ => none
theorem res_cN (f : Fr) (M : MH) (p : Ky) (n : Nat) : IRes.ev f M (.cN p n) = cNV M n (f.get p) := by
  unfold IRes.ev cNV
  simp only
  cases f.get p with
  | none => rfl
  | some v =>
    cases v <;> try rfl
    rename_i id off
    simp only
    unfold cNo
    cases M.get id with
    | none => rfl
    | some o =>
      cases o <;> try rfl
      simp only
      cases getN _ n off <;> rfl
theorem cNV_p (M : MH) (n id off : Nat) : cNV M n (some (.p id off)) = cNo n off (M.get id) := rfl
theorem cNo_cs (n off : Nat) (r : Bool) (s : Nat) (c : T MV) : cNo n off (some (.cs r s c)) = (getN c n off).map MV.ag := rfl
theorem get_set (p q : Ky) (m : MV) (f : Fr) : (T.set p (some m) f : Fr).get q = if p = q then some m else f.get q := T.get_set p (some m) f q
/-- What is marked of a pattern that has kids. -/
structure Mk where
  id : Nat
  off : Nat
  x : Rx
  kv : MV
  k : Nat
  done : Bool
  pl : Int
  dp : Int
def Mk.cells (m : Mk) : List MV := [.i .i64 m.pl, .i .i64 m.dp, cutLo 6 m.k m.kv, .b m.done, .b false]
/-- The map of numbers. -/
def ents : List Mk → Nat → List (MV × MV × Nat)
  | [], _ => []
  | m :: r, n => (.p m.id m.off, .i .i64 (n : Int), n) :: ents r (n + 1)
theorem ents_app : ∀ (l : List Mk) (m : Mk) (n : Nat), ents (l ++ [m]) n = ents l n ++ [(.p m.id m.off, .i .i64 ((n + l.length : Nat) : Int), n + l.length)]
  | [], m, n => rfl
  | a :: l, m, n => by
    rw [List.cons_append, ents, ents, ents_app l m (n + 1), List.cons_append]
    simp only [List.length_cons]
    rw [show n + 1 + l.length = n + (l.length + 1) from by omega]
theorem ents_same : ∀ {l r : List Mk} {n : Nat}, l.map (fun m => (m.id, m.off)) = r.map (fun m => (m.id, m.off)) → ents l n = ents r n
  | [], [], _, _ => rfl
  | [], _ :: _, _, h => by simp at h
  | _ :: _, [], _, h => by simp at h
  | a :: l, b :: r, n, h => by
    simp only [List.map_cons, List.cons.injEq, Prod.mk.injEq] at h
    rw [ents, ents, h.1.1, h.1.2, ents_same h.2]
/-- Where a pattern is marked. -/
def findK (id off : Nat) : List Mk → Option Nat
  | [] => none
  | m :: r => if m.id = id ∧ m.off = off then some 0 else (findK id off r).map (· + 1)
theorem findK_some {id off : Nat} : ∀ {l : List Mk} {n : Nat}, findK id off l = some n → ∃ m, l[n]? = some m ∧ m.id = id ∧ m.off = off
  | [], n, h => by cases h
  | a :: l, n, h => by
    unfold findK at h
    split at h
    · rename_i e
      cases h
      exact ⟨a, rfl, e⟩
    · cases hf : findK id off l with
      | none => rw [hf] at h; cases h
      | some j =>
        rw [hf] at h
        cases h
        obtain ⟨m, h1, h2⟩ := findK_some hf
        exact ⟨m, by simpa using h1, h2⟩
theorem findK_of {id off : Nat} : ∀ {l : List Mk} {n : Nat} {m : Mk}, l[n]? = some m → m.id = id → m.off = off → ∃ j, findK id off l = some j
  | [], n, m, h, _, _ => by simp at h
  | a :: l, 0, m, h, h1, h2 => by
    simp only [List.getElem?_cons_zero, Option.some.injEq] at h
    subst h
    exact ⟨0, by unfold findK; rw [if_pos ⟨h1, h2⟩]⟩
  | a :: l, n + 1, m, h, h1, h2 => by
    obtain ⟨j, hj⟩ := findK_of (l := l) (by simpa using h) h1 h2
    unfold findK
    split
    · exact ⟨0, rfl⟩
    · rw [hj]; exact ⟨j + 1, rfl⟩
theorem find_ents {M : MH} {id off : Nat} (h0 : rwcs M id = true) : ∀ {l : List Mk} (n i : Nat), (∀ m ∈ l, rwcs M m.id = true) → findP M id off (ents l n) i = some ((findK id off l).map fun j => (i + j, .i .i64 ((n + j : Nat) : Int)))
  | [], n, i, _ => rfl
  | a :: l, n, i, h => by
    rw [ents, findP_cons]
    simp only
    unfold findK
    by_cases e : id = a.id
    · rw [show Nat.beq id a.id = true from by rw [e]; exact Nat.beq_refl _, cond_true]
      by_cases e2 : off = a.off
      · rw [show Nat.beq off a.off = true from by rw [e2]; exact Nat.beq_refl _, cond_true, if_pos ⟨e.symm, e2.symm⟩]
        rfl
      · rw [show Nat.beq off a.off = false from by cases hb : Nat.beq off a.off with | false => rfl | true => exact (e2 (Nat.eq_of_beq_eq_true hb)).elim, cond_false, if_neg (fun x => e2 x.2.symm), find_ents h0 (n + 1) (i + 1) fun m hm => h m (List.mem_cons_of_mem _ hm)]
        cases findK id off l with
        | none => rfl
        | some j => simp only [Option.map_some]; rw [show i + 1 + j = i + (j + 1) from by omega, show n + 1 + j = n + (j + 1) from by omega]
    · rw [show Nat.beq id a.id = false from by cases hb : Nat.beq id a.id with | false => rfl | true => exact (e (Nat.eq_of_beq_eq_true hb)).elim, cond_false, h0, h a List.mem_cons_self, Bool.true_and, cond_true, if_neg (fun x => e x.1.symm), find_ents h0 (n + 1) (i + 1) fun m hm => h m (List.mem_cons_of_mem _ hm)]
      cases findK id off l with
      | none => rfl
      | some j => simp only [Option.map_some]; rw [show i + 1 + j = i + (j + 1) from by omega, show n + 1 + j = n + (j + 1) from by omega]
theorem NodeAt.rw {M : MH} {x : Rx} {id off : Nat} (h : NodeAt M x id off) : rwcs M id = true ∧ id < M.n := by
  obtain ⟨op, a, b, c, d, k⟩ := x
  unfold NodeAt at h
  obtain ⟨t, kv, h1, h2, _⟩ := h
  refine ⟨?_, h2⟩
  unfold rwcs
  rw [h1]; rfl
/-- What is told of a pattern's size. -/
def szP (x : Rx) : Int := ((min 151 (cnt x) : Nat) : Int)
def szD (x : Rx) : Int := ((min 201 (deep x) : Nat) : Int)
/-- Of a pattern it is known how large it is. -/
def Known (ms : List Mk) (x : Rx) (id off : Nat) : Prop := x.lk = [] ∨ ∃ n m, findK id off ms = some n ∧ ms[n]? = some m ∧ m.pl = szP x ∧ m.dp = szD x
structure SvRd (M : MH) (sv : Nat) (ms : List Mk) : Prop where
  rd : ∃ ro sz c mid mv, M.get sv = some (.cs ro sz c) ∧ sv < M.n ∧ cget c 0 = some (.m mid) ∧ cget c 1 = some mv ∧ M.get mid = some (.mp (ents ms 0) ms.length) ∧ mid < M.n ∧ RowAt M 5 mv (ms.map Mk.cells)
  nodes : ∀ m ∈ ms, NodeAt M m.x m.id m.off
theorem SvRd.sub {M M' : MH} {sv : Nat} {ms : List Mk} (h : SvRd M sv ms) (k : Sub M M') : SvRd M' sv ms := by
  obtain ⟨ro, sz, c, mid, mv, h1, h2, h3, h4, h5, h6, h7⟩ := h.rd
  exact ⟨⟨ro, sz, c, mid, mv, (k.old _ h2).trans h1, Nat.lt_of_lt_of_le h2 k.n, h3, h4, (k.old _ h6).trans h5, Nat.lt_of_lt_of_le h6 k.n, h7.sub k⟩, fun m hm => NodeAt.sub k (h.nodes m hm)⟩
theorem SvRd.ext {M M' : MH} {sv : Nat} {ms : List Mk} (h : SvRd M sv ms) (k : Ext M M') : SvRd M' sv ms := h.sub k.sub
theorem sizeOf_any {M : MH} {sv : Nat} {ms : List Mk} {x : Rx} {id off : Nat} (h : SvRd M sv ms) (hx : NodeAt M x id off) (hk : Known ms x id off) (hlo : M.lo ≤ M.n) :
    Cp fns 23 [.p sv 0, .p id off] M fun m M' => m = .ag [.i .i64 (szP x), .i .i64 (szD x)] ∧ Ext M M' := by
  refine Cp_call (fn := F23) (by kernel_rfl) (Nat.le_of_ble_eq_true rfl) ?_
  show Wp fns B23 (T.set q1 (some (.p id off)) (T.set q0 (some (.p sv 0)) T.lf)) M _
  unfold B23
  simp (maxSteps := 4000000) (disch := first | omega | assumption | (simp only [bxS, stOk, Nat.reduceBEq, Nat.reduceEqDiff, Nat.reduceAdd]; done) | (simp only [push_lo, push_n, set_lo, set_n]; omega) | (apply has_ofL; simp only [List.length_cons, List.length_nil]; omega) | (apply has_setN; apply has_ofL; simp only [List.length_cons, List.length_nil]; omega)) only [↓bxD, bxP, bxQ, bxQ2, Nat.reduceBEq, reduceCtorEq, Nat.reduceAdd, Nat.reduceSub, Nat.reduceMul, Nat.reduceLeDiff, Nat.reduceLT, R10, R13, R22, R23, R24, R25, R4, R40, R41, R42, R43, R44, R45, R46, R47, R48, R5, R61, R62, R63, R64, R65, R9]
  generalize hM1 : M.push _ = M1
  have hb : M1.get M.n = some (.cs false 2 (ofL [MV.i IntKind.i64 0, MV.i IntKind.i64 0] 0)) := by rw [← hM1]; exact push_new _
  have hx1 : Ext M M1 := by rw [← hM1]; exact .push M _
  have hn1 : M1.n = M.n + 1 := by rw [← hM1]; rfl
  have hl1 := hx1.lo
  clear hM1
  refine bindP_call (kids_any (hx.ext hx1) (by omega)) ?_
  rintro kv M2 ⟨⟨k1, k2, k3⟩, rfl⟩
  obtain ⟨op, a, b, c, d, kk⟩ := x
  have hx' : NodeAt M2 (Rx.mk op a b c d kk) id off := NodeAt.ext hx1 hx
  have hrw := NodeAt.rw hx'
  unfold NodeAt at hx'
  obtain ⟨t, kv', h1, h2, h3, h4, h5, h6⟩ := hx'
  have c0 : cget t off = some (.i .i64 op) := h3 0 _ rfl
  have hone : ∀ x y : Int, MV.cells (.ag [.i .i64 x, .i .i64 y]) = [.i .i64 x, .i .i64 y] := fun _ _ => rfl
  have hfin : ∀ x y : Int, Ext M (M2.set M.n (some (.cs false 2 (setN [.i .i64 x, .i .i64 y] 0 (ofL [MV.i IntKind.i64 0, MV.i IntKind.i64 0] 0))))) := fun x y => hx1.set _ (Nat.le_refl _)
  have hgN : ∀ x y : Int, Ev.getN (setN [.i .i64 x, .i .i64 y] 0 (ofL [MV.i IntKind.i64 0, MV.i IntKind.i64 0] 0)) 2 0 = some [.i .i64 x, .i .i64 y] := fun x y => getN_setN' rfl
  have f1 : fillM [(0, 1, MV.i .i64 1), (1, 1, MV.i .i64 1)] [.i .i64 0, .i .i64 0] = some [.i .i64 1, .i .i64 1] := rfl
  have f2 : fillM [(1, 1, MV.i .i64 1)] [.i .i64 0, .i .i64 0] = some [.i .i64 0, .i .i64 1] := rfl
  by_cases hl : (Rx.mk op a b c d kk).lk = []
  · have d0 : decide ((0 : Int) < ((Rx.mk op a b c d kk).lk.length : Int)) = false := decide_eq_false (by rw [hl]; simp)
    have e1 : szD (Rx.mk op a b c d kk) = 1 := by unfold szD; rw [deep_lk, hl]; rfl
    by_cases ho : op = 1
    · have d1 : decide (op = 1) = true := decide_eq_true ho
      have e2 : szP (Rx.mk op a b c d kk) = 1 := by unfold szP; rw [cnt_leaf hl, op_mk, if_pos ho]; rfl
      simp (maxSteps := 4000000) (disch := first | omega | assumption | (simp only [bxS, stOk, Nat.reduceBEq, Nat.reduceEqDiff, Nat.reduceAdd]; done) | (simp only [push_lo, push_n, set_lo, set_n]; omega) | (apply has_ofL; simp only [List.length_cons, List.length_nil]; omega) | (apply has_setN; apply has_ofL; simp only [List.length_cons, List.length_nil]; omega)) only [↓bxD, bxP, bxQ, bxQ2, Nat.reduceBEq, reduceCtorEq, Nat.reduceAdd, Nat.reduceSub, Nat.reduceMul, Nat.reduceLeDiff, Nat.reduceLT, R10, R13, R22, R23, R24, R25, R4, R40, R41, R42, R43, R44, R45, R46, R47, R48, R5, R61, R62, R63, R64, R65, R9, k1, k2, len_sl, hb, h1, c0, nck_p, res_cN, cNV_p, cNo_cs, get_set, hgN, hone, map_ag, f1, f2, d0, d1]
      rw [e1, e2]
      exact ⟨rfl, hfin _ _⟩
    · have d1 : decide (op = 1) = false := decide_eq_false ho
      have e2 : szP (Rx.mk op a b c d kk) = 0 := by unfold szP; rw [cnt_leaf hl, op_mk, if_neg ho]; rfl
      simp (maxSteps := 4000000) (disch := first | omega | assumption | (simp only [bxS, stOk, Nat.reduceBEq, Nat.reduceEqDiff, Nat.reduceAdd]; done) | (simp only [push_lo, push_n, set_lo, set_n]; omega) | (apply has_ofL; simp only [List.length_cons, List.length_nil]; omega) | (apply has_setN; apply has_ofL; simp only [List.length_cons, List.length_nil]; omega)) only [↓bxD, bxP, bxQ, bxQ2, Nat.reduceBEq, reduceCtorEq, Nat.reduceAdd, Nat.reduceSub, Nat.reduceMul, Nat.reduceLeDiff, Nat.reduceLT, R10, R13, R22, R23, R24, R25, R4, R40, R41, R42, R43, R44, R45, R46, R47, R48, R5, R61, R62, R63, R64, R65, R9, k1, k2, len_sl, hb, h1, c0, nck_p, res_cN, cNV_p, cNo_cs, get_set, hgN, hone, map_ag, f1, f2, d0, d1]
      show Wp fns K23_0 _ _ _
      unfold K23_0
      simp (maxSteps := 4000000) (disch := first | omega | assumption | (simp only [bxS, stOk, Nat.reduceBEq, Nat.reduceEqDiff, Nat.reduceAdd]; done) | (simp only [push_lo, push_n, set_lo, set_n]; omega) | (apply has_ofL; simp only [List.length_cons, List.length_nil]; omega) | (apply has_setN; apply has_ofL; simp only [List.length_cons, List.length_nil]; omega)) only [↓bxD, bxP, bxQ, bxQ2, Nat.reduceBEq, reduceCtorEq, Nat.reduceAdd, Nat.reduceSub, Nat.reduceMul, Nat.reduceLeDiff, Nat.reduceLT, R10, R13, R22, R23, R24, R25, R4, R40, R41, R42, R43, R44, R45, R46, R47, R48, R5, R61, R62, R63, R64, R65, R9, k1, k2, len_sl, hb, h1, c0, nck_p, res_cN, cNV_p, cNo_cs, get_set, hgN, hone, map_ag, f1, f2]
      rw [e1, e2]
      exact ⟨rfl, hfin _ _⟩
  · have d0 : decide ((0 : Int) < ((Rx.mk op a b c d kk).lk.length : Int)) = true := decide_eq_true (by have := List.length_pos_iff.2 hl; omega)
    obtain ⟨n, m, hf, hm, hp, hd⟩ := hk.resolve_left hl
    obtain ⟨ro, sz, cs, mid, mv, g1, g2, g3, g4, g5, g6, g7⟩ := (h.ext hx1).rd
    obtain ⟨r1, r2⟩ := g7.sl
    rw [List.length_map] at r2
    have hlen : n < ms.length := (List.getElem?_eq_some_iff.1 hm).1
    obtain ⟨ro2, s2, t2, q1', q2', q3'⟩ := g7.read (i := n) (e := m.cells) (by rw [List.getElem?_map, hm]; rfl)
    have hrd : rdF (.lkpP false (.i .i64 0)) M2 (.m mid) (.p id off) = some (.i .i64 (n : Int)) := by
      show (match M2.get mid with
        | some (.mp es _) => match findP M2 id off es 0 with
          | some (some (_, v)) => some (bif false then MV.tp [v, .b true] else v)
          | some none => some (bif false then MV.tp [.i .i64 0, .b false] else .i .i64 0)
          | none => none
        | _ => none) = _
      rw [g5]
      simp only
      rw [find_ents hrw.1 0 0 (fun m hm => (NodeAt.rw ((h.ext hx1).nodes m hm)).1), hf]
      simp
    have hg2 : Ev.getN t2 2 (soff mv + n * 5) = some [.i .i64 m.pl, .i .i64 m.dp] := (At.left (a := [.i .i64 m.pl, .i .i64 m.dp]) (b := [cutLo 6 m.k m.kv, .b m.done, .b false]) q3').getN
    simp (maxSteps := 4000000) (disch := first | omega | assumption | (simp only [bxS, stOk, Nat.reduceBEq, Nat.reduceEqDiff, Nat.reduceAdd]; done) | (simp only [push_lo, push_n, set_lo, set_n]; omega) | (apply has_ofL; simp only [List.length_cons, List.length_nil]; omega) | (apply has_setN; apply has_ofL; simp only [List.length_cons, List.length_nil]; omega)) only [↓bxD, bxP, bxQ, bxQ2, Nat.reduceBEq, reduceCtorEq, Nat.reduceAdd, Nat.reduceSub, Nat.reduceMul, Nat.reduceLeDiff, Nat.reduceLT, R10, R13, R22, R23, R24, R25, R4, R40, R41, R42, R43, R44, R45, R46, R47, R48, R5, R61, R62, R63, R64, R65, R9, k1, k2, len_sl, hb, h1, c0, nck_p, res_cN, cNV_p, cNo_cs, get_set, hgN, hone, map_ag, f1, f2, d0]
    refine Wp_dreg_of (by omega) ?_
    simp (maxSteps := 4000000) (disch := first | omega | assumption | (simp only [bxS, stOk, Nat.reduceBEq, Nat.reduceEqDiff, Nat.reduceAdd]; done) | (simp only [push_lo, push_n, set_lo, set_n]; omega) | (apply has_ofL; simp only [List.length_cons, List.length_nil]; omega) | (apply has_setN; apply has_ofL; simp only [List.length_cons, List.length_nil]; omega)) only [↓bxD, bxP, bxQ, bxQ2, Nat.reduceBEq, reduceCtorEq, Nat.reduceAdd, Nat.reduceSub, Nat.reduceMul, Nat.reduceLeDiff, Nat.reduceLT, R10, R13, R22, R23, R24, R25, R4, R40, R41, R42, R43, R44, R45, R46, R47, R48, R5, R61, R62, R63, R64, R65, R9, k1, k2, len_sl, hb, h1, c0, nck_p, res_cN, cNV_p, cNo_cs, get_set, hgN, hone, map_ag, f1, f2, g1, g3, g4, ev_rdm, hrd, r1, r2, q1', hg2]
    show Wp fns IC.ret _ _ _
    simp (maxSteps := 4000000) (disch := first | omega | assumption | (simp only [bxS, stOk, Nat.reduceBEq, Nat.reduceEqDiff, Nat.reduceAdd]; done) | (simp only [push_lo, push_n, set_lo, set_n]; omega) | (apply has_ofL; simp only [List.length_cons, List.length_nil]; omega) | (apply has_setN; apply has_ofL; simp only [List.length_cons, List.length_nil]; omega)) only [↓bxD, bxP, bxQ, bxQ2, Nat.reduceBEq, reduceCtorEq, Nat.reduceAdd, Nat.reduceSub, Nat.reduceMul, Nat.reduceLeDiff, Nat.reduceLT, R10, R13, R22, R23, R24, R25, R4, R40, R41, R42, R43, R44, R45, R46, R47, R48, R5, R61, R62, R63, R64, R65, R9, k1, k2, len_sl, hb, h1, c0, nck_p, res_cN, cNV_p, cNo_cs, get_set, hgN, hone, map_ag, f1, f2]
    rw [hp, hd]
    exact ⟨rfl, hfin _ _⟩
end Go.Proofs.Ytaagkdljkpbilaa.K
