/-
 What the claim leans on, part 5: The document's automata: all rows of pairs, whole. Conditions: none. The document's automata: how many classes, and which states are alike. Conditions: none. The document's automata: classes of states, what they are. Conditions: none. The document's automata: one round of classes. Conditions: none. The document's automata: classes. Conditions: none. The document's automata: classes, whole. Conditions: none. The document's automata: which states lead to one that accepts. Conditions: none. The document's automata: states in their order, as they lie while they are made. Conditions: none. The docu
-/
import Derived.Test.YthklpecigkdkiaaMN4
import Derived.Test.YthklpecigkdkiaaMN3
set_option linter.unusedSimpArgs false
set_option linter.unusedVariables false
namespace Go.Proofs.Ythklpecigkdkiaa.K
open Go Ev
set_option maxRecDepth 100000
set_option maxHeartbeats 4000000

structure OSt (Mb M : MH) (v0 : MV) (ps : List (Pm × Bs)) (b6 : Nat) (v5 vn va : MV) (vs : List MV) (ids : List Nat) (all : List (List (Nat × Int))) (N : List (List Int)) (A : List Int) (i : Nat) (f : Fr) : Prop where
 ext : Ext Mb M
 lo : Mb.lo ≤ Mb.n
 psat : PsAt Mb v0 ps
 okps : OkPs ps
 b2 : ∃ t, M.get Mb.n = some (.cs false 3 t) ∧ hasB t 3 0 = true
 b2n : Mb.n < M.n
 ss : SSt (Mb.n + 1) M b6 v5 vn va vs ids all N A
 si : SubIn ps all N A
 li : N.length = i ∧ A.length = i ∧ i ≤ all.length
 q0 : X.ev f (.t q0) = v0
 q2 : X.ev f (.t q2) = .p Mb.n 0
 q5 : X.ev f (.t q5) = v5
 q6 : X.ev f (.t q6) = .p b6 0
 q7 : X.ev f (.t q7) = .i .i64 (i : Int)
structure MOwn (lo : Nat) (M : MH) (vn : MV) (ids : List Nat) (N : List (List Int)) : Prop where
 rn : OwnRow lo M 1 vn (ids.map fun id => [MV.sl id 0 256 0])
 li : ids.length = N.length
 nd : ids.Nodup
 mx : ∀ (i id : Nat) l, ids[i]? = some id → N[i]? = some l → IntsAt M id l ∧ l.length = 256 ∧ lo ≤ id ∧ id < M.n
 dn : ∀ a ∈ ids, obj vn ≠ some a
def SubPost (ps : List (Pm × Bs)) (M : MH) (m : MV) (M' : MH) : Prop := Ext M M' ∧ ∃ vn va b, m = .ag [vn, va, .b b] ∧ isSl vn = true ∧ isSl va = true ∧ (b = false → ∃ ids all N A, MOwn M.n M' vn ids N ∧ OwnRow M.n M' 1 va (ints A) ∧ (∀ a ∈ ids, obj va ≠ some a) ∧ SubIn ps all N A ∧ N.length = all.length ∧ A.length = all.length)
theorem PsAt.len {M : MH} {v : MV} {ps : List (Pm × Bs)} (h : PsAt M v ps) : isSl v = true ∧ slen v = ps.length := by
 obtain ⟨es, h1, h2, _⟩ := h
 obtain ⟨a, b⟩ := h1.sl
 exact ⟨a, b.trans h2⟩
theorem push2b {M M2 : MH} {a b : MO} (h : (M.push a).push b = M2) : Ext M M2 ∧ M2.n = M.n + 2 ∧ M2.get M.n = some a ∧ M2.get (M.n + 1) = some b := by
 subst h
 refine ⟨(Ext.push M a).trans (.push _ b), rfl, ?_, push_new (M := M.push a) b⟩
 rw [push_old (by show M.n < M.n + 1; omega)]; exact push_new _
theorem slot_p {f : Fr} {k : Ky} {id off : Nat} (h : X.ev f (.t k) = .p id off) : T.get f k = some (.p id off) := by
 unfold X.ev at h
 simp only at h
 cases e : f.get k with
 | none => rw [e] at h; cases h
 | some v => rw [e] at h; simp only at h; rw [← h]
theorem lpd (M : MH) (o : MO) (lo : Nat) (h : lo = M.lo) : (M.lift.push o).down lo = M.push o := by subst h; cases M; rfl
theorem ext_dl {M M' : MH} (h : Ext M.lift M') : Ext M (M'.down M.lo) := ⟨h.n, rfl, h.old⟩
theorem sub_rows {Mb M : MH} {v0 v5 vn va : MV} {ps : List (Pm × Bs)} {b6 : Nat} {vs : List MV} {ids : List Nat} {all : List (List (Nat × Int))} {N : List (List Int)} {A : List Int} {f : Fr} (hst : OSt Mb M v0 ps b6 v5 vn va vs ids all N A 0 f) : Wp fns (.loop L33_15) f M (blockQ 2 (thenQ fns K33_16 (retQ F33 (SubPost ps Mb)))) := by
 refine Wp_inv (σ := (MV × MV × MV × List MV × List Nat × List (List (Nat × Int)) × List (List Int) × List Int)) (fun s f1 M1 => OSt Mb M1 v0 ps b6 s.1 s.2.1 s.2.2.1 s.2.2.2.1 s.2.2.2.2.1 s.2.2.2.2.2.1 s.2.2.2.2.2.2.1 s.2.2.2.2.2.2.2 s.2.2.2.2.2.2.1.length f1) (fun s => 400 - s.2.2.2.2.2.2.1.length) ?_ (v5, vn, va, vs, ids, all, N, A) ?_
 ·clear hst
  rintro ⟨v5, vn, va, vs, ids, all, N, A⟩ f1 M1 h
  simp only at h
  have g0 := h.q0
  have g2 := h.q2
  have g5 := h.q5
  have g6 := h.q6
  have g7 := h.q7
  simp only [q0, q2, q5, q6, q7] at g0 g2 g5 g6 g7
  have hx := h.ext
  have hlo := h.lo
  have hxl := hx.lo
  have hxn := hx.n
  have hb2n := h.b2n
  have hbig := h.si.big
  have hlen := h.li
  have hr5 := h.ss.r5.row
  obtain ⟨s1, s2⟩ := hr5.sl
  have hl5 := h.ss.l5
  rw [List.length_map, hl5] at s2
  unfold L33_15
  by_cases hi : N.length < all.length
  ·have d1 : decide ((N.length : Int) < (all.length : Int)) = true := decide_eq_true (by omega)
   obtain ⟨li, hli⟩ : ∃ l, all[N.length]? = some l := ⟨_, List.getElem?_eq_getElem hi⟩
   have hmk : mksI M1 1 8 [.i .i64 0] (.i .i64 256) (.i .i64 256) = some (.sl M1.n 0 256 0, M1.push (.cs false 1 (ofL (zrow [.i .i64 0] 256) 0))) := mks_ok (n := 256) (by omega) (by omega) (by omega)
   simp (disch := first | omega | assumption) only [↓bxD, bA, reduceCtorEq, g0, g2, g5, g6, g7, s1, s2, d1, ev_mks, hmk]
   show Wp fns K33_14 _ _ _
   unfold K33_14
   simp (disch := first | omega | assumption) only [↓bxD, bA, reduceCtorEq, g0, g2, g5, g6, g7, s1, s2, d1, ev_mks, hmk]
   have hbn := IntsAt.new (M := M1) 256
   have x2 : Ext M1 (M1.push (.cs false 1 (ofL (zrow [.i .i64 0] 256) 0))) := .push M1 _
   have n2 : (M1.push (.cs false 1 (ofL (zrow [.i .i64 0] 256) 0))).n = M1.n + 1 := rfl
   generalize M1.push (.cs false 1 (ofL (zrow [.i .i64 0] 256) 0)) = M2 at hbn x2 n2
   refine sub_row (Mb := Mb) (v0 := v0) (v5 := v5) (vn := vn) (va := va) (ps := ps) (b6 := b6) (i := N.length) (id8 := M1.n) (vs := vs) (ids := ids) (all := all) (N := N) (A := A) (L := List.replicate 256 0) (li := li) ?_ hli ?_ _ ?_ ?_
   ·obtain ⟨t, y1, y2⟩ := h.b2
    exact ⟨hx.trans x2, hlo, h.psat, h.okps, ⟨t, (x2.old _ hb2n).trans y1, y2⟩, by omega, h.ss.ext x2, h.si, ⟨rfl, hlen.2.1, hi⟩, hbn, List.length_replicate, ⟨by omega, by omega⟩, fun hf => by have := (h.ss.foot_lt hf).2; omega, by simp only [bA, reduceCtorEq, g0, g2, g5, g6, g7, s1, s2, d1, ev_mks, hmk], by simp only [bA, reduceCtorEq, g0, g2, g5, g6, g7, s1, s2, d1, ev_mks, hmk], by simp only [bA, reduceCtorEq, g0, g2, g5, g6, g7, s1, s2, d1, ev_mks, hmk], by simp only [bA, reduceCtorEq, g0, g2, g5, g6, g7, s1, s2, d1, ev_mks, hmk], by simp only [bA, reduceCtorEq, g0, g2, g5, g6, g7, s1, s2, d1, ev_mks, hmk], by simp only [bA, reduceCtorEq, g0, g2, g5, g6, g7, s1, s2, d1, ev_mks, hmk]⟩
   ·simp only [bA, reduceCtorEq, g0, g2, g5, g6, g7, s1, s2, d1, ev_mks, hmk] <;> rfl
   ·intro f' M' t e2 hg hat hx'
    simp only [q2] at e2
    have hgn : Ev.getN t 3 0 = some [vn, va, .b true] := hat.getN
    have hget := slot_p e2
    obtain ⟨z1, _⟩ := h.ss.rn.row.sl
    obtain ⟨z2, _⟩ := h.ss.ra.row.sl
    simp (disch := first | omega | assumption) only [↓bxD, bA, reduceCtorEq, hg, hgn, hget, res_cN, cNV_p, cNo_cs, get_set, map_ag]
    exact ⟨hx', vn, va, true, rfl, z1, z2, fun e => by cases e⟩
   intro f2 M3 v5' vs' all' L' h3 hli' hcells
   have g0 := h3.q0
   have g2 := h3.q2
   have g5 := h3.q5
   have g6 := h3.q6
   have g7 := h3.q7
   have g8 := h3.q8
   simp only [q0, q2, q5, q6, q7, q8] at g0 g2 g5 g6 g7 g8
   have hx3 := h3.ext
   have hxl3 := hx3.lo
   have hxn3 := hx3.n
   have hb6 := h3.ss.bx
   obtain ⟨tb, hb1, hb2⟩ := h3.ss.box
   have cb0 : cget tb 0 = some vn := hb2 0 _ rfl
   have hfill : fillM [(0, 1, MV.sl M1.n 0 256 0)] [MV.nils] = some [.sl M1.n 0 256 0] := rfl
   obtain ⟨vn', M4, t4, a1, a2, a3, a4, a5, a6, a8, a7⟩ := h3.ss.pushN (by omega) (by omega) h3.row h3.rl h3.r1 h3.rf (by omega)
   have hbcl := isSl_cells a6
   have hbst : stOk 1 vn' = true := by
    unfold stOk
    rw [isSl_cells a6, isSl_isU a6]
    simp only [all_cons, all_nil, isSl_one a6]
    rfl
   show Wp fns K33_12 _ _ _
   unfold K33_12
   simp (disch := first | omega | assumption) only [↓bxD, bA, reduceCtorEq, g0, g2, g5, g6, g7, g8, hb1, cb0, hfill, bslW_some]
   refine bindP_of a1 ?_
   simp (disch := first | omega | assumption) only [↓bxD, bA, reduceCtorEq, g0, g2, g5, g6, g7, g8, hb1, cb0, hfill, bslW_some, a2, a3, hbcl]
   have hx5 : Ext Mb (M4.set b6 (some (.cs false 3 (setN [vn'] 0 t4)))) := by
    refine ⟨by rw [set_n]; omega, by rw [set_lo]; omega, fun j hj => ?_⟩
    rw [set_ne (by omega)]
    have := a8 j (by omega) (fun e' => by have := (own_obj h3.ss.rn e').1; omega)
    rw [this]
    exact hx3.old j hj
   have hb25 : ∃ t, (M4.set b6 (some (.cs false 3 (setN [vn'] 0 t4)))).get Mb.n = some (.cs false 3 t) ∧ hasB t 3 0 = true := by
    obtain ⟨t, y1, y2⟩ := h3.b2
    refine ⟨t, ?_, y2⟩
    rw [set_ne (by omega)]
    have := a8 Mb.n h3.b2n (fun e' => by have := (own_obj h3.ss.rn e').1; omega)
    rw [this]
    exact y1
   have hn5 : (M4.set b6 (some (.cs false 3 (setN [vn'] 0 t4)))).n = M4.n := rfl
   have hl5' : (M4.set b6 (some (.cs false 3 (setN [vn'] 0 t4)))).lo = M4.lo := rfl
   generalize M4.set b6 (some (.cs false 3 (setN [vn'] 0 t4))) = M5 at a7 hx5 hb25 hn5 hl5'
   obtain ⟨tb5, hd1, hd2⟩ := a7.box
   have cb1 : cget tb5 1 = some va := hd2 1 _ rfl
   have hr5' := a7.r5.row
   obtain ⟨s1', s2'⟩ := hr5'.sl
   have hl55 := a7.l5
   rw [List.length_map, hl55] at s2'
   have hil' : N.length < all'.length := (List.getElem?_eq_some_iff.1 hli').1
   obtain ⟨vi, hvi⟩ : ∃ v, vs'[N.length]? = some v := ⟨_, List.getElem?_eq_getElem (by omega)⟩
   have hpi := a7.p5 N.length vi li hvi hli'
   obtain ⟨ro, sz, tt, gg, _, hat⟩ := hr5'.read (i := N.length) (e := [vi]) (by rw [List.getElem?_map, hvi]; rfl)
   have hcv : cget tt (soff v5' + N.length * 1) = some vi := hat 0 _ rfl
   have hokl := h3.si.ok li (List.mem_of_getElem? hli')
   refine Wp_dreg_of (by omega) ?_
   simp (disch := first | omega | assumption) only [↓bxD, bA, reduceCtorEq, g0, g2, g5, g6, g7, g8, hd1, cb1, s1', s2', gg, hcv]
   refine bindP_call (accepts_any (M := M5.lift) (Nat.le_refl _) (show PsAt M5.lift v0 ps from (h3.psat.ext hx5 : PsAt M5 v0 ps)) (hpi.row) hokl.ok (by have := okL_len h3.okps hokl; omega)) ?_
   rintro m M6 ⟨x6, rfl⟩
   have x6d := ext_dl x6
   have hl6 := x6d.lo
   have hn6 := x6d.n
   have hpu : ∀ m o, pushV (M6.down M5.lo).lift m o = some (m, (M6.down M5.lo).lift.push o) := fun m o => push_ok (Nat.le_refl _)
   have hlp : ∀ o, ((M6.down M5.lo).lift.push o).down (M6.down M5.lo).lo = (M6.down M5.lo).push o := fun o => lpd _ _ _ rfl
   have a9 := a7.ext x6d
   obtain ⟨va', M7, t7, b1, b2, b3, b4, b5, b6', b8, b7⟩ := a9.pushA (by omega) (by omega) (accP ps li) (by have := hlen.2.1; omega)
   simp (disch := first | omega | assumption | (simp only [bZ, stOk, Nat.reduceBEq, Nat.reduceEqDiff, Nat.reduceAdd] <;> omega) | ((try apply has_setN); apply has_ofL; simp only [bxL]; omega)) only [↓bxD, bA, Nat.reduceBEq, reduceCtorEq, Nat.reduceAdd, Nat.reduceSub, Nat.reduceMul, Nat.reduceLeDiff, Nat.reduceLT, g0, g2, g5, g6, g7, g8, hd1, cb1, s1', s2', gg, hcv, hpu]
   rw [lpd (M6.down M5.lo) _ M5.lo rfl]
   refine bindP_of b1 ?_
   have hbcl7 := isSl_cells b6'
   have hbst7 : stOk 1 va' = true := by
    unfold stOk
    rw [isSl_cells b6', isSl_isU b6']
    simp only [all_cons, all_nil, isSl_one b6']
    rfl
   have hl7 : M7.lo = M5.lo := b5
   have hn7 : M6.n + 1 ≤ M7.n := b4
   have hn6' : M5.n ≤ M6.n := hn6
   simp (disch := first | omega | assumption) only [↓bxD, bA, reduceCtorEq, g0, g2, g5, g6, g7, g8, hd1, cb1, s1', s2', gg, hcv, b2, b3, hbcl7]
   show Wp fns K33_13 _ _ _
   unfold K33_13
   simp (disch := first | omega | assumption) only [↓bxD, bA, reduceCtorEq, g0, g2, g5, g6, g7, g8, hd1, cb1, s1', s2', gg, hcv]
   refine ⟨(v5', vn', va', vs', ids ++ [M1.n], all', N ++ [L'], A ++ [accP ps li]), by simp only [List.length_append, List.length_singleton]; omega, ?_⟩
   have hx7 : Ext Mb (M7.set b6 (some (.cs false 3 (setN [va'] 1 t7)))) := by
    refine ⟨by rw [set_n]; have := hx5.n; omega, by rw [set_lo]; have := hx5.lo; omega, fun j hj => ?_⟩
    have e1 := x6d.old j (by have := hx5.n; omega)
    rw [set_ne (by omega), b8 j (by show j < M6.n; have := hx5.n; omega) (fun e' => by have := (own_obj a9.ra e').1; omega), e1]
    exact hx5.old j hj
   have hb27 : ∃ t, (M7.set b6 (some (.cs false 3 (setN [va'] 1 t7)))).get Mb.n = some (.cs false 3 t) ∧ hasB t 3 0 = true := by
    obtain ⟨t, y1, y2⟩ := hb25
    refine ⟨t, ?_, y2⟩
    have e1 := x6d.old Mb.n (by have := h3.b2n; omega)
    rw [set_ne (by omega), b8 Mb.n (by show Mb.n < M6.n; have := h3.b2n; omega) (fun e' => by have := (own_obj a9.ra e').1; omega), e1]
    exact y1
   have hsi1 := h3.si.row (L := L') hli' h3.rl hcells
   have hAl := h3.li.2.1
   have hsi2 := hsi1.accs (l := li) (by rw [hAl]; exact hli')
   exact ⟨hx7, hlo, h3.psat, h3.okps, hb27, by rw [set_n]; have := h3.b2n; omega, b7, hsi2, ⟨rfl, by simp only [List.length_append, List.length_singleton]; omega, by simp only [List.length_append, List.length_singleton]; omega⟩, by simp only [bA, reduceCtorEq, g0, g2, g5, g6, g7, g8, hd1, cb1, s1', s2', gg, hcv], by simp only [bA, reduceCtorEq, g0, g2, g5, g6, g7, g8, hd1, cb1, s1', s2', gg, hcv], by simp only [bA, reduceCtorEq, g0, g2, g5, g6, g7, g8, hd1, cb1, s1', s2', gg, hcv], by simp only [bA, reduceCtorEq, g0, g2, g5, g6, g7, g8, hd1, cb1, s1', s2', gg, hcv], by simp only [List.length_append, List.length_singleton]; simp (disch := first | omega | assumption) only [↓bxD, bA, reduceCtorEq, g0, g2, g5, g6, g7, g8, hd1, cb1, s1', s2', gg, hcv] <;> rfl⟩
  ·have d1 : decide ((N.length : Int) < (all.length : Int)) = false := decide_eq_false (by omega)
   obtain ⟨tb, hb1, hb2⟩ := h.ss.box
   obtain ⟨t2, hc1, hc2⟩ := h.b2
   have hb6 := h.ss.bx
   have hgn : Ev.getN tb 3 0 = some [vn, va, .b false] := hb2.getN
   obtain ⟨z1, _⟩ := h.ss.rn.row.sl
   obtain ⟨z2, _⟩ := h.ss.ra.row.sl
   have hst : stOk 3 (.ag [vn, va, .b false]) = true := by
    cases vn <;> first | cases z1 | skip
    all_goals cases va <;> first | cases z2 | skip
    all_goals rfl
   have hcl : MV.cells (.ag [vn, va, .b false]) = [vn, va, .b false] := rfl
   have hgn2 : Ev.getN (setN [vn, va, .b false] 0 t2) 3 0 = some [vn, va, .b false] := (at_setN _ _ _).getN
   have hget := slot_p h.q2
   simp only [q2] at hget
   simp (disch := first | omega | assumption) only [↓bxD, bA, reduceCtorEq, g0, g2, g5, g6, g7, s1, s2, d1, hb1, hgn, map_ag, hc1, hc2, hst, hcl]
   show Wp fns K33_16 _ _ _
   unfold K33_16
   simp (disch := first | omega | assumption) only [↓bxD, bA, reduceCtorEq, g0, g2, g5, g6, g7, s1, s2, d1, hb1, hgn, map_ag, hc1, hc2, hst, hcl, res_cN, cNV_p, cNo_cs, get_set, hget, hgn2, set_same]
   have hk := h.ss.keep (M' := M1.set Mb.n (some (.cs false 3 (setN [vn, va, .b false] 0 t2)))) (by rw [set_n]; exact Nat.le_refl _) fun j hj => set_ne (by have := (h.ss.foot_lt hj).1; omega)
   have hNl : N.length = all.length := by omega
   refine ⟨hx.set _ (Nat.le_refl _), vn, va, false, rfl, z1, z2, fun _ => ⟨ids, all, N, A, ⟨hk.rn.le (by omega), hk.li, hk.nd, fun i id l e1 e2 => ?_, hk.dni⟩, hk.ra.le (by omega), hk.dai, h.si, hNl, by have := hlen.2.1; omega⟩⟩
   obtain ⟨y1, y2, y3, y4⟩ := hk.mx i id l e1 e2
   exact ⟨y1, y2, by omega, y4⟩
 ·obtain ⟨t, y1, y2⟩ := hst.b2
  have hN := hst.li.1
  simp only
  rw [hN]
  exact hst
theorem subsets_any {M : MH} {v0 : MV} {ps : List (Pm × Bs)} (hlo : M.lo ≤ M.n) (hps : PsAt M v0 ps) (hok : OkPs ps) : Cp fns 33 [v0] M (SubPost ps M) := by
 obtain ⟨r1, r2⟩ := hps.len
 have hn40 := hok.n
 refine Cp_call (fn := F33) (by kernel_rfl) (Nat.le_of_ble_eq_true rfl) ?_
 show Wp fns B33 (T.set q0 (some v0) T.lf) M _
 unfold B33
 simp (disch := first | omega | assumption) only [↓bxD, bA, reduceCtorEq]
 generalize hM1 : M.push _ = M1
 have x1 : Ext M M1 := by rw [← hM1]; exact .push M _
 have g1 : M1.get M.n = some (.cs false 3 (ofL [.nils, .nils, .b false] 0)) := by rw [← hM1]; exact push_new _
 have n1 : M1.n = M.n + 1 := by rw [← hM1]; rfl
 have l1 := x1.lo
 clear hM1
 refine Wp_inv (σ := Nat × MV) (fun s f M' => s.1 ≤ ps.length ∧ Ext M1 M' ∧ X.ev f (.t q0) = v0 ∧ X.ev f (.t q2) = .p M.n 0 ∧ X.ev f (.t q3) = s.2 ∧ X.ev f (.t q4) = .i .i64 (s.1 : Int) ∧ OwnRow (M.n + 1) M' 2 s.2 (pv (firstL s.1))) (fun s => ps.length - s.1) ?_ (0, .nils) ?_
 ·rintro ⟨i, v3⟩ f M' ⟨hi, hx, e0, e2, e3, e4, hr⟩
  simp only at hi e3 e4 hr
  simp only [q0, q2, q3, q4] at e0 e2 e3 e4
  have hxl := hx.lo
  have hxn := hx.n
  unfold L33_2
  by_cases hi' : i < ps.length
  ·have d1 : decide ((i : Int) < (ps.length : Int)) = true := decide_eq_true (by omega)
   have hf : fillM [(0, 1, MV.i .i64 (i : Int)), (1, 1, .i .i64 (Int.negSucc 0))] [MV.i .i64 0, .i .i64 0] = some [.i .i64 (i : Int), .i .i64 (-1)] := rfl
   simp (disch := first | omega | assumption) only [↓bxD, bA, reduceCtorEq, e0, e2, e3, e4, r1, r2, d1, hf, map_ag]
   show Wp fns K33_1 _ _ _
   unfold K33_1
   simp (disch := first | omega | assumption) only [↓bxD, bA, reduceCtorEq, e0, e2, e3, e4, r1, r2, d1, hf, map_ag]
   refine bindP_call (add_any (p := (i, -1)) (by omega) (by omega) hr (by unfold firstL; rw [List.length_map, List.length_range]; omega)) ?_
   rintro m M2 ⟨x2, h2⟩
   rw [firstL_ins] at h2
   simp (disch := first | omega | assumption) only [↓bxD, bA, reduceCtorEq, e0, e2, e3, e4, r1, r2, d1, hf, map_ag]
   show Wp fns K33_0 _ _ _
   unfold K33_0
   simp (disch := first | omega | assumption) only [↓bxD, bA, reduceCtorEq, e0, e2, e3, e4, r1, r2, d1, hf, map_ag]
   exact ⟨(i + 1, m), by simp only; omega, by simp only; omega, hx.trans x2, rfl, rfl, h2⟩
  ·have d1 : decide ((i : Int) < (ps.length : Int)) = false := decide_eq_false (by omega)
   have hie : i = ps.length := by omega
   rw [hie] at hr
   obtain ⟨z1, _⟩ := hr.row.sl
   have hfill : fillM [(0, 1, v3)] [MV.nils] = some [v3] := fill_one (isSl_cells z1) (isSl_isU z1)
   simp (disch := first | omega | assumption) only [↓bxD, bA, reduceCtorEq, e0, e2, e3, e4, r1, r2, d1, hfill, bslW_some]
   show Wp fns K33_17 _ _ _
   unfold K33_17
   simp (disch := first | omega | assumption | (simp only [bZ, stOk, Nat.reduceBEq, Nat.reduceEqDiff, Nat.reduceAdd] <;> omega) | ((try apply has_setN); apply has_ofL; simp only [bxL]; omega)) only [↓bxD, bA, Nat.reduceBEq, reduceCtorEq, Nat.reduceAdd, Nat.reduceSub, Nat.reduceMul, Nat.reduceLeDiff, Nat.reduceLT, e0, e2, e3, e4, r1, r2, d1, hfill, bslW_some]
   generalize hM2 : (M'.push (.cs false 1 (ofL [v3] 0))).push (.cs false 3 (ofL [.nils, .nils, .b false] 0)) = M2
   obtain ⟨x2, n2, p1, p2⟩ := push2b hM2
   have l2 := x2.lo
   have hr2 := hr.ext x2
   refine sub_rows (Mb := M) (v0 := v0) (v5 := .sl M'.n 0 1 0) (vn := .nils) (va := .nils) (ps := ps) (b6 := M'.n + 1) (vs := [v3]) (ids := []) (all := [firstL ps.length]) (N := []) (A := []) ?_
   refine ⟨(x1.trans hx).trans x2, hlo, hps, hok, ⟨_, (x2.old M.n (by omega)).trans ((hx.old M.n (by omega)).trans g1), rfl⟩, by omega, ?_, SubIn.start, ⟨rfl, rfl, Nat.zero_le _⟩, by simp only [bA, reduceCtorEq, e0, e2, e3, e4, r1, r2, d1, hfill, bslW_some], by simp only [bA, reduceCtorEq, e0, e2, e3, e4, r1, r2, d1, hfill, bslW_some], by simp only [bA, reduceCtorEq, e0, e2, e3, e4, r1, r2, d1, hfill, bslW_some], by simp only [bA, reduceCtorEq, e0, e2, e3, e4, r1, r2, d1, hfill, bslW_some], by simp only [bA, reduceCtorEq, e0, e2, e3, e4, r1, r2, d1, hfill, bslW_some] <;> rfl⟩
   refine ⟨⟨fun e he => by rw [List.mem_singleton.1 he]; rfl, .inr ⟨M'.n, _, rfl, p1, by omega, by omega, at_ofL [v3]⟩⟩, rfl, fun k v l h1 h2 => ?_, OwnRow.nil _ _ _, OwnRow.nil _ _ _, rfl, List.nodup_nil, fun i id l h1 => by simp at h1, ⟨_, p2, at_ofL _⟩, ⟨by omega, by omega⟩, fun a _ h => (by cases h), fun a _ h => (by cases h), fun a h => (by cases h), fun a h => (by cases h), fun a h => (by cases h), fun a h => (by cases h)⟩
   have hk : k = 0 := by
    have := (List.getElem?_eq_some_iff.1 h1).1
    simp at this
    omega
   subst hk
   simp only [List.getElem?_cons_zero, Option.some.injEq] at h1 h2
   subst h1 h2
   exact hr2
 ·exact ⟨Nat.zero_le _, .refl _, by simp only [bA, reduceCtorEq], by simp only [bA, reduceCtorEq], by simp only [bA, reduceCtorEq], by simp only [bA, reduceCtorEq] <;> rfl, OwnRow.nil _ _ _⟩
def partsTo (l : List Nat) : Nat → Nat
 | 0 => 0
 | k + 1 => partsTo l k + if l.getD k 0 ∈ l.take k then 0 else 1
theorem partsTo_succ (l : List Nat) (k : Nat) : partsTo l (k + 1) = partsTo l k + if l.getD k 0 ∈ l.take k then 0 else 1 := rfl
theorem partsTo_le (l : List Nat) : ∀ k, partsTo l k ≤ k
 | 0 => Nat.le_refl _
 | k + 1 => by
  have := partsTo_le l k
  unfold partsTo
  split <;> omega
theorem nv_sub {M : MH} {v : MV} {l : List Nat} {i : Nat} (h : RowAt M 1 v (nv l)) (hi : i ≤ l.length) : RowAt M 1 (cutHi i v) (nv (l.take i)) := by
 have := row_take (i := i) h (by rw [nv_len]; exact hi)
 unfold nv at this ⊢
 rw [List.map_take]
 exact this
theorem parts_any {M : MH} {v : MV} {l : List Nat} (hlo : M.lo ≤ M.n) (h : RowAt M 1 v (nv l)) (hl : l.length ≤ 1000000) : Cp fns 58 [v] M fun m M' => m = .i .i64 (partsTo l l.length : Int) ∧ Ext M M' := by
 obtain ⟨s1, s2⟩ := h.sl
 have s2 : slen v = l.length := s2.trans (nv_len l)
 refine Cp_call (fn := F58) (by kernel_rfl) (Nat.le_of_ble_eq_true rfl) ?_
 show Wp fns B58 (T.set q0 (some v) T.lf) M _
 unfold B58
 simp (disch := first | omega | assumption) only [↓bxD, bA, reduceCtorEq]
 refine Wp_inv (σ := Nat) (fun i f M' => i ≤ l.length ∧ X.ev f (.t q0) = v ∧ X.ev f (.t q4) = .i .i64 (i : Int) ∧ X.ev f (.t q3) = .i .i64 (partsTo l i : Int) ∧ Ext M M') (fun i => l.length - i) ?_ 0 ?_
 ·rintro i f M' ⟨hi, e0, e4, e3, hx⟩
  have xn := hx.n
  have xl := hx.lo
  have hpl := partsTo_le l i
  simp only [q0, q3, q4] at e0 e3 e4
  unfold L58_3
  by_cases hi' : i < l.length
  ·have d0 : decide ((i : Int) < (l.length : Int)) = true := decide_eq_true (by omega)
   obtain ⟨y, hy⟩ : ∃ y, l[i]? = some y := ⟨_, List.getElem?_eq_getElem hi'⟩
   obtain ⟨ro, sz, t, g, _, hc⟩ := nv_read (h.ext hx) hy
   have hcut : cutM 1 v none (some (.i .i64 (i : Int))) = some (cutHi i v) := cutM_hi s1 (by omega)
   have hgd : l.getD i 0 = y := by rw [List.getD_eq_getElem?_getD, hy]; rfl
   simp (disch := first | omega | assumption) only [↓bxD, bA, reduceCtorEq, e0, e3, e4, s1, s2, d0, g, hc, hi', hcut, Option.map_some, Option.map_none]
   show Wp fns K58_2 _ _ _
   unfold K58_2
   simp (disch := first | omega | assumption) only [↓bxD, bA, reduceCtorEq, e0, e3, e4, s1, s2, d0, g, hc, hi', hcut, Option.map_some, Option.map_none]
   refine Wp_dreg_of (by omega) ?_
   simp (disch := first | omega | assumption) only [↓bxD, bA, reduceCtorEq, e0, e3, e4, s1, s2, d0, g, hc, hi', hcut, Option.map_some, Option.map_none]
   refine bindP_call (in_any (z := y) (nv_sub (h.ext hx) hi) (by rw [List.length_take]; omega)) ?_
   rintro m M2 ⟨rfl, x2⟩
   by_cases hm : y ∈ l.take i
   ·have dm : decide (y ∈ l.take i) = true := decide_eq_true hm
    have ps : partsTo l (i + 1) = partsTo l i + 0 := by rw [partsTo_succ, hgd]; simp [hm]
    simp (disch := first | omega | assumption) only [↓bxD, bA, reduceCtorEq, e0, e3, e4, s1, s2, d0, g, hc, hi', hcut, Option.map_some, Option.map_none, dm]
    show Wp fns K58_0 _ _ _
    unfold K58_0
    simp (disch := first | omega | assumption) only [↓bxD, bA, reduceCtorEq, e0, e3, e4, s1, s2, d0, g, hc, hi', hcut, Option.map_some, Option.map_none]
    show Wp fns K58_1 _ _ _
    unfold K58_1
    simp (disch := first | omega | assumption) only [↓bxD, bA, reduceCtorEq, e0, e3, e4, s1, s2, d0, g, hc, hi', hcut, Option.map_some, Option.map_none]
    exact ⟨i + 1, by omega, by omega, rfl, by rw [ps]; rfl, hx.trans x2⟩
   ·have dm : decide (y ∈ l.take i) = false := decide_eq_false hm
    have ps : partsTo l (i + 1) = partsTo l i + 1 := by rw [partsTo_succ, hgd]; simp [hm]
    simp (disch := first | omega | assumption) only [↓bxD, bA, reduceCtorEq, e0, e3, e4, s1, s2, d0, g, hc, hi', hcut, Option.map_some, Option.map_none, dm]
    show Wp fns K58_0 _ _ _
    unfold K58_0
    simp (disch := first | omega | assumption) only [↓bxD, bA, reduceCtorEq, e0, e3, e4, s1, s2, d0, g, hc, hi', hcut, Option.map_some, Option.map_none]
    show Wp fns K58_1 _ _ _
    unfold K58_1
    simp (disch := first | omega | assumption) only [↓bxD, bA, reduceCtorEq, e0, e3, e4, s1, s2, d0, g, hc, hi', hcut, Option.map_some, Option.map_none]
    exact ⟨i + 1, by omega, by omega, rfl, by rw [ps]; rfl, hx.trans x2⟩
  ·have d0 : decide ((i : Int) < (l.length : Int)) = false := decide_eq_false (by omega)
   have hil : i = l.length := by omega
   rw [hil] at e3
   simp (disch := first | omega | assumption) only [↓bxD, bA, reduceCtorEq, e0, e3, e4, s1, s2, d0]
   show Wp fns K58_4 _ _ _
   unfold K58_4
   simp (disch := first | omega | assumption) only [↓bxD, bA, reduceCtorEq, e0, e3, e4, s1, s2, d0]
   exact hx
 ·exact ⟨Nat.zero_le _, by simp only [bA, reduceCtorEq], by simp only [bA, reduceCtorEq] <;> rfl, by simp only [bA, reduceCtorEq] <;> rfl, .refl _⟩
def cellN (N : List (List Int)) (i c : Nat) : Int := (N.getD i []).getD c (-1)
def cmpC (cls : List Nat) (a b : Int) : Bool := if a < 0 then decide (b < 0) else decide (0 ≤ b) && decide (cls.getD a.toNat 0 = cls.getD b.toNat 0)
def alikeP (N : List (List Int)) (cls : List Nat) (i k : Nat) : Bool := decide (cls.getD i 0 = cls.getD k 0) && (List.range 256).all fun c => cmpC cls (cellN N i c) (cellN N k c)
structure RawAt (M : MH) (m : MV) (N : List (List Int)) (A : List Int) : Prop where
 ag : ∃ vn va b, m = .ag [vn, va, .b b] ∧ MxAt M vn N ∧ IntRow M va A
structure RawOk (N : List (List Int)) (A : List Int) : Prop where
 len : A.length = N.length
 big : N.length ≤ 400
 row : ∀ l ∈ N, l.length = 256
 to : ∀ l ∈ N, ∀ z ∈ l, -1 ≤ z ∧ z < N.length
 acc : ∀ z ∈ A, -1 ≤ z ∧ z ≤ 1000
theorem RawAt.ext {M M' : MH} {m : MV} {N : List (List Int)} {A : List Int} (h : RawAt M m N A) (k : Ext M M') : RawAt M' m N A := by
 obtain ⟨vn, va, b, h1, h2, h3⟩ := h.ag
 exact ⟨⟨vn, va, b, h1, h2.ext k, h3.ext k⟩⟩
theorem cell_at {N : List (List Int)} {A : List Int} (h : RawOk N A) {i c : Nat} (hi : i < N.length) (hc : c < 256) : ∃ l, N[i]? = some l ∧ l.length = 256 ∧ l[c]? = some (cellN N i c) ∧ -1 ≤ cellN N i c ∧ cellN N i c < N.length := by
 have hl := List.getElem?_eq_getElem hi
 have hm := List.mem_of_getElem? hl
 have h1 := h.row _ hm
 have e : N[i][c]? = some (cellN N i c) := by
  unfold cellN
  rw [List.getD_eq_getElem?_getD (l := N), hl, Option.getD_some, List.getD_eq_getElem?_getD, List.getElem?_eq_getElem (by omega)]
  rfl
 exact ⟨_, hl, h1, e, h.to _ hm _ (List.mem_of_getElem? e)⟩
theorem alike_any {M : MH} {m v : MV} {N : List (List Int)} {A : List Int} {cls : List Nat} {i k : Nat} (hlo : M.lo ≤ M.n) (h : RawAt M m N A) (hok : RawOk N A) (hv : RowAt M 1 v (nv cls)) (hcl : cls.length = N.length) (hi : i < N.length) (hk : k < N.length) : Cp fns 57 [m, v, .i .i64 (i : Int), .i .i64 (k : Int)] M fun r M' => r = .b (alikeP N cls i k) ∧ Ext M M' := by
 obtain ⟨vn, va, b, rfl, hN, hA⟩ := h.ag
 obtain ⟨s1, s2⟩ := hv.sl
 have s2 : slen v = cls.length := s2.trans (nv_len cls)
 obtain ⟨n1, n2⟩ := hN.sl
 obtain ⟨y, hy⟩ : ∃ y, cls[i]? = some y := ⟨_, List.getElem?_eq_getElem (by omega)⟩
 obtain ⟨z, hz⟩ : ∃ z, cls[k]? = some z := ⟨_, List.getElem?_eq_getElem (by omega)⟩
 have gy : cls.getD i 0 = y := by rw [List.getD_eq_getElem?_getD, hy]; rfl
 have gz : cls.getD k 0 = z := by rw [List.getD_eq_getElem?_getD, hz]; rfl
 refine Cp_call (fn := F57) (by kernel_rfl) (Nat.le_of_ble_eq_true rfl) ?_
 show Wp fns B57 (T.set q3 (some (.i .i64 (k : Int))) (T.set q2 (some (.i .i64 (i : Int))) (T.set q1 (some v) (T.set q0 (some (.ag [vn, va, .b b])) T.lf)))) M _
 have hU : isU (.ag [vn, va, .b b]) = false := rfl
 have hc3 : MV.cells (.ag [vn, va, .b b]) = [vn, va, .b b] := rfl
 unfold B57
 simp (disch := first | omega | assumption) only [↓bxD, bA, reduceCtorEq, hU, hc3, s1, s2, n1, n2]
 generalize hM1 : M.push _ = M1
 have x1 : Ext M M1 := by rw [← hM1]; exact .push M _
 have g1 : M1.get M.n = some (.cs false 3 (ofL [vn, va, .b b] 0)) := by rw [← hM1]; exact push_new _
 have n1' : M1.n = M.n + 1 := by rw [← hM1]; rfl
 have l1 := x1.lo
 clear hM1
 obtain ⟨ro, sz, t, g, _, hc⟩ := nv_read (hv.ext x1) hy
 obtain ⟨ro2, sz2, t2, g2, _, hc2⟩ := nv_read (hv.ext x1) hz
 obtain rfl : t = t2 := by rw [g] at g2; injection g2 with g2; injection g2
 refine Wp_dreg_of (by omega) ?_
 by_cases e : y = z
 ·have de : decide ((y : Int) ≠ (z : Int)) = false := decide_eq_false (fun h => h (by omega))
  simp (disch := first | omega | assumption) only [↓bxD, bA, reduceCtorEq, hU, hc3, s1, s2, n1, n2, g, hc, g2, hc2, de]
  show Wp fns (IC.seq K57_0 K57_6) _ _ _
  unfold K57_0
  simp (disch := first | omega | assumption) only [↓bxD, bA, reduceCtorEq, hU, hc3, s1, s2, n1, n2, g, hc, g2, hc2, de]
  show Wp fns K57_6 _ _ _
  unfold K57_6
  simp (disch := first | omega | assumption) only [↓bxD, bA, reduceCtorEq, hU, hc3, s1, s2, n1, n2, g, hc, g2, hc2, de]
  have hAl : alikeP N cls i k = (List.range 256).all fun c => cmpC cls (cellN N i c) (cellN N k c) := by
   unfold alikeP
   rw [gy, gz, decide_eq_true e, Bool.true_and]
  refine Wp_inv (σ := Nat) (fun c f M' => c ≤ 256 ∧ X.ev f (.t q1) = v ∧ X.ev f (.t q2) = .i .i64 (i : Int) ∧ X.ev f (.t q3) = .i .i64 (k : Int) ∧ X.ev f (.t q4) = .p M.n 0 ∧ X.ev f (.t q9) = .i .i64 (c : Int) ∧ M' = M1 ∧ ((List.range c).all fun c => cmpC cls (cellN N i c) (cellN N k c)) = true) (fun c => 256 - c) ?_ 0 ?_
  ·rintro c f M' ⟨hcl256, e1, e2, e3, e4, e9, rfl, hall⟩
   simp only [q1, q2, q3, q4, q9] at e1 e2 e3 e4 e9
   unfold L57_4
   by_cases hcc : c < 256
   ·have d0 : decide ((c : Int) < 256) = true := decide_eq_true (by omega)
    have c0 : cget (ofL [vn, va, .b b] 0) 0 = some vn := at_ofL [vn, va, .b b] 0 _ rfl
    obtain ⟨li, hli, hlil, hlic, ha1, ha2⟩ := cell_at hok hi hcc
    obtain ⟨lk, hlk, hlkl, hlkc, hb1, hb2⟩ := cell_at hok hk hcc
    obtain ⟨ui, ro3, sz3, t3, g3, _, hc3', hui⟩ := (hN.ext x1).read hli
    obtain ⟨uk, ro4, sz4, t4, g4, _, hc4', huk⟩ := (hN.ext x1).read hlk
    obtain rfl : t3 = t4 := by rw [g3] at g4; injection g4 with g4; injection g4
    obtain ⟨ro5, sz5, t5, g5, _, hc5⟩ := hui.read hlic
    obtain ⟨ro6, sz6, t6, g6, _, hc6⟩ := huk.read hlkc
    obtain ⟨ui1, ui2⟩ := hui.sl
    obtain ⟨uk1, uk2⟩ := huk.sl
    have hnext : ((List.range (c + 1)).all fun c => cmpC cls (cellN N i c) (cellN N k c)) = cmpC cls (cellN N i c) (cellN N k c) := by
     rw [List.range_succ, List.all_append, hall]
     simp
    generalize ha : cellN N i c = a at *
    generalize hb : cellN N k c = a' at *
    have no : cmpC cls a a' = false → alikeP N cls i k = false := fun e => by
     rw [hAl, Bool.eq_false_iff]
     intro hh
     have := List.all_eq_true.1 hh c (List.mem_range.2 hcc)
     rw [ha, hb, e] at this
     cases this
    simp (disch := first | omega | assumption) only [↓bxD, bA, reduceCtorEq, e1, e2, e3, e4, e9, s1, s2, n1, n2, nck_p, d0, g1, c0, g3, hc3', hc4', ui1, ui2, uk1, uk2, hlil, hlkl, g5, hc5, g6, hc6]
    show Wp fns K57_3 _ _ _
    unfold K57_3
    simp (disch := first | omega | assumption) only [↓bxD, bA, reduceCtorEq, e1, e2, e3, e4, e9, s1, s2, n1, n2, nck_p, d0, g1, c0, g3, hc3', hc4', ui1, ui2, uk1, uk2, hlil, hlkl, g5, hc5, g6, hc6]
    refine Wp_dreg_of (by omega) ?_
    have tf : (true == false) = false := rfl
    have ft : (false == true) = false := rfl
    by_cases a0 : a < 0
    ·have da : decide (a < 0) = true := decide_eq_true a0
     have da2 : decide (0 ≤ a) = false := decide_eq_false (by omega)
     by_cases b0 : a' < 0
     ·have db : decide (a' < 0) = true := decide_eq_true b0
      have hcm : cmpC cls a a' = true := by unfold cmpC; rw [if_pos a0, db]
      simp (disch := first | omega | assumption) only [↓bxD, bA, reduceCtorEq, e1, e2, e3, e4, e9, s1, s2, nck_p, da, da2, db, tf, ft, Bool.not_false]
      show Wp fns K57_1 _ _ _
      unfold K57_1
      simp (disch := first | omega | assumption) only [↓bxD, bA, reduceCtorEq, e1, e2, e3, e4, e9, s1, s2, nck_p, da, da2, db, tf, ft, Bool.not_false]
      show Wp fns K57_2 _ _ _
      unfold K57_2
      simp (disch := first | omega | assumption) only [↓bxD, bA, reduceCtorEq, e1, e2, e3, e4, e9, s1, s2, nck_p, da, da2, db, tf, ft, Bool.not_false]
      exact ⟨c + 1, by omega, by omega, rfl, by rw [hnext, hcm]⟩
     ·have db : decide (a' < 0) = false := decide_eq_false b0
      have hcm : cmpC cls a a' = false := by unfold cmpC; rw [if_pos a0, db]
      simp (disch := first | omega | assumption) only [↓bxD, bA, reduceCtorEq, e1, e2, e3, e4, e9, s1, s2, nck_p, da, da2, db, tf, ft, Bool.not_false]
      show Wp fns K57_1 _ _ _
      unfold K57_1
      simp (disch := first | omega | assumption) only [↓bxD, bA, reduceCtorEq, e1, e2, e3, e4, e9, s1, s2, nck_p, da, da2, db, tf, ft, Bool.not_false]
      exact ⟨(no hcm).symm ▸ rfl, x1⟩
    ·have da : decide (a < 0) = false := decide_eq_false a0
     have da2 : decide (0 ≤ a) = true := decide_eq_true (by omega)
     by_cases b0 : a' < 0
     ·have db : decide (a' < 0) = true := decide_eq_true b0
      have hcm : cmpC cls a a' = false := by unfold cmpC; rw [if_neg a0, decide_eq_false (by omega)]; rfl
      simp (disch := first | omega | assumption | (simp only [bZ, stOk, Nat.reduceBEq, Nat.reduceEqDiff, Nat.reduceAdd] <;> omega) | ((try apply has_setN); apply has_ofL; simp only [bxL]; omega)) only [↓bxD, bA, Nat.reduceBEq, reduceCtorEq, Nat.reduceAdd, Nat.reduceSub, Nat.reduceMul, Nat.reduceLeDiff, Nat.reduceLT, e1, e2, e3, e4, e9, s1, s2, nck_p, da, da2, db, tf, ft, Bool.not_false]
      show Wp fns K57_1 _ _ _
      unfold K57_1
      simp (disch := first | omega | assumption | (simp only [bZ, stOk, Nat.reduceBEq, Nat.reduceEqDiff, Nat.reduceAdd] <;> omega) | ((try apply has_setN); apply has_ofL; simp only [bxL]; omega)) only [↓bxD, bA, Nat.reduceBEq, reduceCtorEq, Nat.reduceAdd, Nat.reduceSub, Nat.reduceMul, Nat.reduceLeDiff, Nat.reduceLT, e1, e2, e3, e4, e9, s1, s2, nck_p, da, da2, db, tf, ft, Bool.not_false]
      exact ⟨(no hcm).symm ▸ rfl, x1⟩
     ·have db : decide (a' < 0) = false := decide_eq_false b0
      obtain ⟨an, rfl⟩ : ∃ n : Nat, a = n := ⟨a.toNat, by omega⟩
      obtain ⟨bn, rfl⟩ : ∃ n : Nat, a' = n := ⟨a'.toNat, by omega⟩
      obtain ⟨u, hu⟩ : ∃ u, cls[an]? = some u := ⟨_, List.getElem?_eq_getElem (by omega)⟩
      obtain ⟨w, hw⟩ : ∃ w, cls[bn]? = some w := ⟨_, List.getElem?_eq_getElem (by omega)⟩
      obtain ⟨ro7, sz7, t7, g7, _, hc7⟩ := nv_read (hv.ext x1) hu
      obtain ⟨ro8, sz8, t8, g8, _, hc8⟩ := nv_read (hv.ext x1) hw
      obtain rfl : t7 = t8 := by rw [g7] at g8; injection g8 with g8; injection g8
      have hcm : cmpC cls (an : Int) (bn : Int) = decide (u = w) := by
       unfold cmpC
       rw [if_neg a0, decide_eq_true (show (0 : Int) ≤ (bn : Int) by omega), Int.toNat_natCast, Int.toNat_natCast, List.getD_eq_getElem?_getD, List.getD_eq_getElem?_getD, hu, hw]
       rfl
      have hal : an < cls.length := by omega
      have hbl : bn < cls.length := by omega
      by_cases euw : u = w
      ·have dw : decide ((u : Int) ≠ (w : Int)) = false := decide_eq_false (fun h => h (by omega))
       simp (maxSteps := 4000000) (disch := first | omega | assumption | (simp only [bxS, bxV, stOk, Nat.reduceBEq, Nat.reduceEqDiff, Nat.reduceAdd]; done) | (simp only [bxU]; omega) | ((try apply has_setN); apply has_ofL; simp only [bxL]; omega)) only [↓bxD, bxP, bxQ, bxQ2, Nat.reduceBEq, reduceCtorEq, Nat.reduceAdd, Nat.reduceSub, Nat.reduceMul, Nat.reduceLeDiff, Nat.reduceLT, bxR, e1, e2, e3, e4, e9, s1, s2, nck_p, da, da2, db, g7, hc7, hc8, dw]
       show Wp fns K57_1 _ _ _
       unfold K57_1
       simp (disch := first | omega | assumption | (simp only [bZ, stOk, Nat.reduceBEq, Nat.reduceEqDiff, Nat.reduceAdd] <;> omega) | ((try apply has_setN); apply has_ofL; simp only [bxL]; omega)) only [↓bxD, bA, Nat.reduceBEq, reduceCtorEq, Nat.reduceAdd, Nat.reduceSub, Nat.reduceMul, Nat.reduceLeDiff, Nat.reduceLT, e1, e2, e3, e4, e9, s1, s2, nck_p, da, da2, db, g7, hc7, hc8, dw]
       show Wp fns K57_2 _ _ _
       unfold K57_2
       simp (disch := first | omega | assumption | (simp only [bZ, stOk, Nat.reduceBEq, Nat.reduceEqDiff, Nat.reduceAdd] <;> omega) | ((try apply has_setN); apply has_ofL; simp only [bxL]; omega)) only [↓bxD, bA, Nat.reduceBEq, reduceCtorEq, Nat.reduceAdd, Nat.reduceSub, Nat.reduceMul, Nat.reduceLeDiff, Nat.reduceLT, e1, e2, e3, e4, e9, s1, s2, nck_p, da, da2, db, g7, hc7, hc8, dw]
       exact ⟨c + 1, by omega, by omega, rfl, by rw [hnext, hcm, decide_eq_true euw]⟩
      ·have dw : decide ((u : Int) ≠ (w : Int)) = true := decide_eq_true (fun h => euw (by omega))
       simp (maxSteps := 4000000) (disch := first | omega | assumption | (simp only [bxS, bxV, stOk, Nat.reduceBEq, Nat.reduceEqDiff, Nat.reduceAdd]; done) | (simp only [bxU]; omega) | ((try apply has_setN); apply has_ofL; simp only [bxL]; omega)) only [↓bxD, bxP, bxQ, bxQ2, Nat.reduceBEq, reduceCtorEq, Nat.reduceAdd, Nat.reduceSub, Nat.reduceMul, Nat.reduceLeDiff, Nat.reduceLT, bxR, e1, e2, e3, e4, e9, s1, s2, nck_p, da, da2, db, g7, hc7, hc8, dw]
       show Wp fns K57_1 _ _ _
       unfold K57_1
       simp (disch := first | omega | assumption) only [↓bxD, bA, reduceCtorEq, e1, e2, e3, e4, e9, s1, s2, nck_p, da, da2, db, g7, hc7, hc8, dw]
       exact ⟨(no (by rw [hcm, decide_eq_false euw])).symm ▸ rfl, x1⟩
   ·have d0 : decide ((c : Int) < 256) = false := decide_eq_false (by omega)
    have hc256 : c = 256 := by omega
    rw [hc256] at hall
    simp (disch := first | omega | assumption) only [↓bxD, bA, reduceCtorEq, e1, e2, e3, e4, e9, d0]
    show Wp fns K57_5 _ _ _
    unfold K57_5
    simp (disch := first | omega | assumption) only [↓bxD, bA, reduceCtorEq, e1, e2, e3, e4, e9, d0]
    rw [hAl, hall]
    exact ⟨rfl, x1⟩
  ·exact ⟨Nat.zero_le _, by simp only [bA, reduceCtorEq, hU, hc3, s1, s2, n1, n2, g, hc, g2, hc2, de], by simp only [bA, reduceCtorEq, hU, hc3, s1, s2, n1, n2, g, hc, g2, hc2, de], by simp only [bA, reduceCtorEq, hU, hc3, s1, s2, n1, n2, g, hc, g2, hc2, de], by simp only [bA, reduceCtorEq, hU, hc3, s1, s2, n1, n2, g, hc, g2, hc2, de], by simp only [bA, reduceCtorEq, hU, hc3, s1, s2, n1, n2, g, hc, g2, hc2, de] <;> rfl, rfl, by simp⟩
 ·have de : decide ((y : Int) ≠ (z : Int)) = true := decide_eq_true (fun h => e (by omega))
  simp (disch := first | omega | assumption) only [↓bxD, bA, reduceCtorEq, hU, hc3, s1, s2, n1, n2, g, hc, g2, hc2, de]
  show Wp fns (IC.seq K57_0 K57_6) _ _ _
  unfold K57_0
  simp (disch := first | omega | assumption) only [↓bxD, bA, reduceCtorEq, hU, hc3, s1, s2, n1, n2, g, hc, g2, hc2, de]
  refine ⟨?_, x1⟩
  unfold alikeP
  rw [gy, gz, decide_eq_false e]
  rfl
theorem cmpC_refl (cls : List Nat) (a : Int) : cmpC cls a a = true := by
 unfold cmpC
 split
 ·exact decide_eq_true (by omega)
 ·rw [decide_eq_true (by omega)]; simp
theorem cmpC_symm {cls : List Nat} {a b : Int} (h : cmpC cls a b = true) : cmpC cls b a = true := by
 unfold cmpC at *
 split at h
 ·rename_i h0
  rw [if_pos (by simpa using h)]
  exact decide_eq_true h0
 ·rename_i h0
  simp only [Bool.and_eq_true, decide_eq_true_eq] at h
  rw [if_neg (by omega), decide_eq_true (show 0 ≤ a by omega), Bool.true_and]
  exact decide_eq_true h.2.symm
theorem cmpC_trans {cls : List Nat} {a b c : Int} (h : cmpC cls a b = true) (k : cmpC cls b c = true) : cmpC cls a c = true := by
 unfold cmpC at *
 split at h
 ·rename_i h0
  have hb : b < 0 := by simpa using h
  rw [if_pos hb] at k
  rw [if_pos h0]
  exact k
 ·rename_i h0
  simp only [Bool.and_eq_true, decide_eq_true_eq] at h
  rw [if_neg (by omega)] at k
  simp only [Bool.and_eq_true, decide_eq_true_eq] at k
  rw [if_neg h0, decide_eq_true k.1, Bool.true_and]
  exact decide_eq_true (h.2.trans k.2)
theorem alike_iff {N : List (List Int)} {cls : List Nat} {i k : Nat} : alikeP N cls i k = true ↔ cls.getD i 0 = cls.getD k 0 ∧ ∀ c, c < 256 → cmpC cls (cellN N i c) (cellN N k c) = true := by
 unfold alikeP
 simp only [Bool.and_eq_true, decide_eq_true_eq, List.all_eq_true, List.mem_range]
theorem alike_refl (N : List (List Int)) (cls : List Nat) (i : Nat) : alikeP N cls i i = true := alike_iff.2 ⟨rfl, fun c _ => cmpC_refl _ _⟩
theorem alike_symm {N : List (List Int)} {cls : List Nat} {i k : Nat} (h : alikeP N cls i k = true) : alikeP N cls k i = true := by
 obtain ⟨a, b⟩ := alike_iff.1 h
 exact alike_iff.2 ⟨a.symm, fun c hc => cmpC_symm (b c hc)⟩
theorem alike_trans {N : List (List Int)} {cls : List Nat} {i j k : Nat} (h : alikeP N cls i j = true) (h' : alikeP N cls j k = true) : alikeP N cls i k = true := by
 obtain ⟨a, b⟩ := alike_iff.1 h
 obtain ⟨a', b'⟩ := alike_iff.1 h'
 exact alike_iff.2 ⟨a.trans a', fun c hc => cmpC_trans (b c hc) (b' c hc)⟩
theorem partsTo_app (l r : List Nat) : ∀ k, k ≤ l.length → partsTo (l ++ r) k = partsTo l k
 | 0, _ => rfl
 | k + 1, h => by
  rw [partsTo_succ, partsTo_succ, partsTo_app l r k (by omega), List.getD_eq_getElem?_getD, List.getElem?_append_left (by omega), List.take_append_of_le_length (by omega), ← List.getD_eq_getElem?_getD]
theorem partsTo_ref {a b : List Nat} (hl : a.length = b.length) (h : ∀ i k, i < a.length → k < a.length → b.getD i 0 = b.getD k 0 → a.getD i 0 = a.getD k 0) : ∀ k, k ≤ a.length → partsTo a k ≤ partsTo b k ∧ (partsTo a k = partsTo b k → ∀ i, i < k → (a.getD i 0 ∉ a.take i ↔ b.getD i 0 ∉ b.take i))
 | 0, _ => ⟨Nat.le_refl _, fun _ i hi => absurd hi (Nat.not_lt_zero i)⟩
 | k + 1, hk => by
  obtain ⟨h1, h2⟩ := partsTo_ref hl h k (by omega)
  have hmem : b.getD k 0 ∈ b.take k → a.getD k 0 ∈ a.take k := fun hm => by
   obtain ⟨j, hj, e⟩ := List.mem_iff_getElem.1 hm
   rw [List.length_take] at hj
   rw [List.getElem_take] at e
   have e2 : b.getD j 0 = b.getD k 0 := by rw [List.getD_eq_getElem?_getD, List.getElem?_eq_getElem (by omega)]; exact e
   have e3 := h j k (by omega) (by omega) e2
   rw [← e3]
   refine List.mem_iff_getElem.2 ⟨j, by rw [List.length_take]; omega, ?_⟩
   rw [List.getElem_take, List.getD_eq_getElem?_getD, List.getElem?_eq_getElem (by omega)]
   rfl
  rw [partsTo_succ, partsTo_succ]
  by_cases hb : b.getD k 0 ∈ b.take k
  ·rw [if_pos hb, if_pos (hmem hb)]
   refine ⟨h1, fun e i hi => ?_⟩
   by_cases hik : i = k
   ·subst hik; exact ⟨fun x => absurd (hmem hb) x, fun x => absurd hb x⟩
   ·exact h2 (by omega) i (by omega)
  ·rw [if_neg hb]
   by_cases ha : a.getD k 0 ∈ a.take k
   ·rw [if_pos ha]
    exact ⟨by omega, fun e => by omega⟩
   ·rw [if_neg ha]
    refine ⟨by omega, fun e i hi => ?_⟩
    by_cases hik : i = k
    ·subst hik; exact ⟨fun _ => hb, fun _ => ha⟩
    ·exact h2 (by omega) i (by omega)
theorem first_of (l : List Nat) : ∀ (k : Nat), k < l.length → ∃ j, j ≤ k ∧ l.getD j 0 = l.getD k 0 ∧ l.getD j 0 ∉ l.take j := by
 intro k
 induction k using Nat.strongRecOn with
 | _ k ih =>
  intro hk
  by_cases hm : l.getD k 0 ∈ l.take k
  ·obtain ⟨j, hj, e⟩ := List.mem_iff_getElem.1 hm
   rw [List.length_take] at hj
   rw [List.getElem_take] at e
   have e2 : l.getD j 0 = l.getD k 0 := by rw [List.getD_eq_getElem?_getD, List.getElem?_eq_getElem (by omega)]; exact e
   obtain ⟨j', h1, h2, h3⟩ := ih j (by omega) (by omega)
   exact ⟨j', by omega, h2.trans e2, h3⟩
  ·exact ⟨k, Nat.le_refl _, rfl, hm⟩
theorem not_first {l : List Nat} {i j : Nat} (hij : i < j) (hj : j < l.length) (h : l.getD j 0 ∉ l.take j) : l.getD i 0 ≠ l.getD j 0 := fun e => h (by
 rw [← e]
 refine List.mem_iff_getElem.2 ⟨i, by rw [List.length_take]; omega, ?_⟩
 rw [List.getElem_take, List.getD_eq_getElem?_getD, List.getElem?_eq_getElem (by omega)]
 rfl)
theorem parts_same {a b : List Nat} (hl : a.length = b.length) (h : ∀ i k, i < a.length → k < a.length → b.getD i 0 = b.getD k 0 → a.getD i 0 = a.getD k 0) (hp : partsTo a a.length = partsTo b a.length) : ∀ i k, i < a.length → k < a.length → a.getD i 0 = a.getD k 0 → b.getD i 0 = b.getD k 0 := by
 have hf := (partsTo_ref hl h a.length (Nat.le_refl _)).2 hp
 have key : ∀ k, k < a.length → ∀ j, j < a.length → a.getD j 0 ∉ a.take j → a.getD j 0 = a.getD k 0 → b.getD j 0 = b.getD k 0 := fun k hk j hj hjf hjk => by
  obtain ⟨j', h1, h2, h3⟩ := first_of b k (by omega)
  have h4 := (hf j' (by omega)).2 h3
  have h5 := h j' k (by omega) hk h2
  have : j = j' := by
   rcases Nat.lt_trichotomy j j' with hlt | rfl | hgt
   ·exact absurd (hjk.trans h5.symm) (not_first hlt (by omega) h4)
   ·rfl
   ·exact absurd (h5.trans hjk.symm) (not_first hgt hj hjf)
  subst this
  exact h2
 intro i k hi hk e
 obtain ⟨j, h1, h2, h3⟩ := first_of a k hk
 exact (key i hi j (by omega) h3 (h2.trans e.symm)).symm.trans (key k hk j (by omega) h3 h2)
def Bisim (N : List (List Int)) (A : List Int) (R : Nat → Nat → Prop) : Prop := ∀ i k, R i k → A.getD i 0 = A.getD k 0 ∧ ∀ c, c < 256 → (cellN N i c < 0 ∧ cellN N k c < 0) ∨ (0 ≤ cellN N i c ∧ 0 ≤ cellN N k c ∧ R (cellN N i c).toNat (cellN N k c).toNat)
structure ClsIn (N : List (List Int)) (A : List Int) (cls : List Nat) : Prop where
 len : cls.length = N.length
 acc : ∀ i k, i < N.length → k < N.length → cls.getD i 0 = cls.getD k 0 → A.getD i 0 = A.getD k 0
 all : ∀ R, Bisim N A R → ∀ i k, i < N.length → k < N.length → R i k → cls.getD i 0 = cls.getD k 0
structure ClsOk (N : List (List Int)) (A : List Int) (cl : List Nat) : Prop where
 len : cl.length = N.length
 acc : ∀ i k, i < N.length → k < N.length → cl.getD i 0 = cl.getD k 0 → A.getD i 0 = A.getD k 0
 to : ∀ i k, i < N.length → k < N.length → cl.getD i 0 = cl.getD k 0 → ∀ c, c < 256 → (cellN N i c < 0 ∧ cellN N k c < 0) ∨ (0 ≤ cellN N i c ∧ 0 ≤ cellN N k c ∧ cl.getD (cellN N i c).toNat 0 = cl.getD (cellN N k c).toNat 0)
 all : ∀ R, Bisim N A R → ∀ i k, i < N.length → k < N.length → R i k → cl.getD i 0 = cl.getD k 0
def NextOf (N : List (List Int)) (cls nx : List Nat) : Prop := nx.length = N.length ∧ ∀ i k, i < N.length → k < N.length → (nx.getD i 0 = nx.getD k 0 ↔ alikeP N cls i k = true)
theorem next_in {N : List (List Int)} {A : List Int} (hok : RawOk N A) {cls nx : List Nat} (h : ClsIn N A cls) (hn : NextOf N cls nx) : ClsIn N A nx := by
 refine ⟨hn.1, fun i k hi hk e => h.acc i k hi hk (alike_iff.1 ((hn.2 i k hi hk).1 e)).1, fun R hR i k hi hk hr => ?_⟩
 refine (hn.2 i k hi hk).2 (alike_iff.2 ⟨h.all R hR i k hi hk hr, fun c hc => ?_⟩)
 obtain ⟨_, _, _, _, a1, a2⟩ := cell_at hok hi hc
 obtain ⟨_, _, _, _, b1, b2⟩ := cell_at hok hk hc
 unfold cmpC
 rcases (hR i k hr).2 c hc with ⟨h1, h2⟩ | ⟨h1, h2, h3⟩
 ·rw [if_pos h1]; exact decide_eq_true h2
 ·rw [if_neg (by omega), decide_eq_true h2, Bool.true_and]
  exact decide_eq_true (h.all R hR _ _ (by omega) (by omega) h3)
theorem next_ok {N : List (List Int)} {A : List Int} (hok : RawOk N A) {cls nx : List Nat} (h : ClsIn N A cls) (hn : NextOf N cls nx) (hp : partsTo cls N.length = partsTo nx N.length) : ClsOk N A nx := by
 have hi := next_in hok h hn
 have hsame := parts_same (a := cls) (b := nx) (by rw [h.len, hn.1]) (fun i k h1 h2 e => (alike_iff.1 ((hn.2 i k (by rw [← h.len]; exact h1) (by rw [← h.len]; exact h2)).1 e)).1) (by rw [h.len]; exact hp)
 rw [h.len] at hsame
 refine ⟨hn.1, hi.acc, fun i k hi hk e c hc => ?_, hi.all⟩
 have hc2 := (alike_iff.1 ((hn.2 i k hi hk).1 e)).2 c hc
 obtain ⟨_, _, _, _, a1, a2⟩ := cell_at hok hi hc
 obtain ⟨_, _, _, _, b1, b2⟩ := cell_at hok hk hc
 unfold cmpC at hc2
 split at hc2
 ·rename_i h0
  exact .inl ⟨h0, by simpa using hc2⟩
 ·rename_i h0
  simp only [Bool.and_eq_true, decide_eq_true_eq] at hc2
  exact .inr ⟨by omega, hc2.1, hsame _ _ (by omega) (by omega) hc2.2⟩
theorem next_more {N : List (List Int)} {A : List Int} {cls nx : List Nat} (h : ClsIn N A cls) (hn : NextOf N cls nx) : partsTo cls N.length ≤ partsTo nx N.length := by
 have := (partsTo_ref (a := cls) (b := nx) (by rw [h.len, hn.1]) (fun i k h1 h2 e => (alike_iff.1 ((hn.2 i k (by rw [← h.len]; exact h1) (by rw [← h.len]; exact h2)).1 e)).1) N.length (by rw [h.len]; exact Nat.le_refl _)).1
 exact this
structure PIn (N : List (List Int)) (cls P : List Nat) (cnt : Nat) : Prop where
 lt : ∀ j, j < P.length → P.getD j 0 < cnt
 eqv : ∀ i k, i < P.length → k < P.length → (P.getD i 0 = P.getD k 0 ↔ alikeP N cls i k = true)
 cnt : cnt = partsTo P P.length
theorem getD_app {P : List Nat} {x j : Nat} : (P ++ [x]).getD j 0 = if j < P.length then P.getD j 0 else if j = P.length then x else 0 := by
 rw [List.getD_eq_getElem?_getD, List.getD_eq_getElem?_getD]
 by_cases h : j < P.length
 ·rw [if_pos h, List.getElem?_append_left h]
 ·rw [if_neg h, List.getElem?_append_right (by omega)]
  by_cases e : j = P.length
  ·rw [if_pos e, e, Nat.sub_self]; rfl
  ·rw [if_neg e, List.getElem?_eq_none (by simp; omega)]; rfl
theorem partsTo_one (P : List Nat) (x : Nat) : partsTo (P ++ [x]) (P ++ [x]).length = partsTo P P.length + if x ∈ P then 0 else 1 := by
 rw [List.length_append, List.length_singleton, partsTo_succ, partsTo_app P [x] P.length (Nat.le_refl _), List.take_append_of_le_length (Nat.le_refl _), List.take_length, getD_app, if_neg (Nat.lt_irrefl _), if_pos rfl]
theorem PIn.old {N : List (List Int)} {cls P : List Nat} {cnt k0 : Nat} (h : PIn N cls P cnt) (hk : k0 < P.length) (ha : alikeP N cls P.length k0 = true) : PIn N cls (P ++ [P.getD k0 0]) cnt := by
 refine ⟨fun j hj => ?_, fun i k hi hk' => ?_, ?_⟩
 ·rw [List.length_append, List.length_singleton] at hj
  rw [getD_app]
  split
  ·exact h.lt j (by assumption)
  ·rw [if_pos (by omega)]; exact h.lt k0 hk
 ·rw [List.length_append, List.length_singleton] at hi hk'
  rw [getD_app, getD_app]
  by_cases h1 : i < P.length <;> by_cases h2 : k < P.length
  ·rw [if_pos h1, if_pos h2]; exact h.eqv i k h1 h2
  ·obtain rfl : k = P.length := by omega
   rw [if_pos h1, if_neg h2, if_pos rfl, h.eqv i k0 h1 hk]
   exact ⟨fun e => alike_trans e (alike_symm ha), fun e => alike_trans e ha⟩
  ·obtain rfl : i = P.length := by omega
   rw [if_neg h1, if_pos rfl, if_pos h2, h.eqv k0 k hk h2]
   exact ⟨fun e => alike_trans ha e, fun e => alike_trans (alike_symm ha) e⟩
  ·obtain rfl : i = P.length := by omega
   obtain rfl : k = P.length := by omega
   exact ⟨fun _ => alike_refl _ _ _, fun _ => rfl⟩
 ·have hm : P.getD k0 0 ∈ P := by
   rw [List.getD_eq_getElem?_getD, List.getElem?_eq_getElem hk]
   exact List.getElem_mem hk
  rw [partsTo_one, if_pos hm]
  exact h.cnt
theorem PIn.fresh {N : List (List Int)} {cls P : List Nat} {cnt : Nat} (h : PIn N cls P cnt) (ha : ∀ k, k < P.length → alikeP N cls P.length k = false) : PIn N cls (P ++ [cnt]) (cnt + 1) := by
 have ha' : ∀ k, k < P.length → alikeP N cls k P.length = false := fun k hk => by
  cases e : alikeP N cls k P.length with
  | false => rfl
  | true => have := alike_symm e; rw [ha k hk] at this; cases this
 refine ⟨fun j hj => ?_, fun i k hi hk' => ?_, ?_⟩
 ·rw [List.length_append, List.length_singleton] at hj
  rw [getD_app]
  split
  ·have := h.lt j (by assumption); omega
  ·rw [if_pos (by omega)]; omega
 ·rw [List.length_append, List.length_singleton] at hi hk'
  rw [getD_app, getD_app]
  by_cases h1 : i < P.length <;> by_cases h2 : k < P.length
  ·rw [if_pos h1, if_pos h2]; exact h.eqv i k h1 h2
  ·obtain rfl : k = P.length := by omega
   rw [if_pos h1, if_neg h2, if_pos rfl, ha' i h1]
   exact ⟨fun e => by have := h.lt i h1; omega, fun e => by cases e⟩
  ·obtain rfl : i = P.length := by omega
   rw [if_neg h1, if_pos rfl, if_pos h2, ha k h2]
   exact ⟨fun e => by have := h.lt k h2; omega, fun e => by cases e⟩
  ·obtain rfl : i = P.length := by omega
   obtain rfl : k = P.length := by omega
   exact ⟨fun _ => alike_refl _ _ _, fun _ => rfl⟩
 ·have hm : cnt ∉ P := fun hm => by
   obtain ⟨j, hj, e⟩ := List.mem_iff_getElem.1 hm
   have := h.lt j hj
   rw [List.getD_eq_getElem?_getD, List.getElem?_eq_getElem hj] at this
   simp only [Option.getD_some] at this
   omega
  rw [partsTo_one, if_neg hm, ← h.cnt]
structure NxSt (Mb M : MH) (vn va vc : MV) (bb : Bool) (N : List (List Int)) (A : List Int) (cls : List Nat) (bx id : Nat) (L : List Int) (f : Fr) : Prop where
 ext : Ext Mb M
 lo : Mb.lo ≤ Mb.n
 raw : RawAt Mb (.ag [vn, va, .b bb]) N A
 ok : RawOk N A
 box : Mb.get bx = some (.cs false 3 (ofL [vn, va, .b bb] 0))
 bl : bx < Mb.n
 crow : RowAt Mb 1 vc (nv cls)
 clen : cls.length = N.length
 id1 : Mb.n ≤ id
 id2 : id < M.n
 row : IntsAt M id L
 llen : L.length = N.length
 q1 : X.ev f (.t q1) = .p bx 0
 q3 : X.ev f (.t q3) = .i .i64 (N.length : Int)
 q4 : X.ev f (.t q4) = vc
 q6 : X.ev f (.t q6) = .sl id 0 L.length 0
theorem cls_in {Mb M : MH} {vn va vc : MV} {bb : Bool} {N : List (List Int)} {A L : List Int} {cls P : List Nat} {bx id i cnt : Nat} {f : Fr} (hst : NxSt Mb M vn va vc bb N A cls bx id L f) (hi : i < N.length) (hP : P.length = i) (hLP : ∀ j, j < i → L[j]? = some (P.getD j 0 : Int)) (hLi : L[i]? = some (-1))
  (h7 : X.ev f (.t q7) = .i .i64 (cnt : Int)) (h8 : X.ev f (.t q8) = .i .i64 (i : Int)) (h9 : X.ev f (.t q9) = .i .i64 0) (Q : Post)
  (hn : ∀ f' M' L', NxSt Mb M' vn va vc bb N A cls bx id L' f' → X.ev f' (.t q7) = .i .i64 (cnt : Int) → X.ev f' (.t q8) = .i .i64 (i : Int) → ((L' = L ∧ ∀ k, k < i → alikeP N cls i k = false) ∨ ∃ k0, k0 < i ∧ alikeP N cls i k0 = true ∧ L' = L.set i (P.getD k0 0 : Int)) → Q .norm f' M') : Wp fns (.loop L35_5) f M (blockQ 6 Q) := by
 refine Wp_inv (σ := Nat × List Int) (fun s f1 M1 => s.1 ≤ i ∧ NxSt Mb M1 vn va vc bb N A cls bx id s.2 f1 ∧ X.ev f1 (.t q7) = .i .i64 (cnt : Int) ∧ X.ev f1 (.t q8) = .i .i64 (i : Int) ∧ X.ev f1 (.t q9) = .i .i64 (s.1 : Int) ∧ ((s.2 = L ∧ ∀ k, k < s.1 → alikeP N cls i k = false) ∨ ∃ k0, k0 < i ∧ alikeP N cls i k0 = true ∧ s.2 = L.set i (P.getD k0 0 : Int))) (fun s => i - s.1) ?_ (0, L) ?_
 ·clear hst h7 h8 h9
  rintro ⟨k, L1⟩ f1 M1 ⟨hk, h, h7, h8, h9, hc⟩
  simp only at hk h h7 h8 h9 hc
  have hq1 := h.q1
  have hq3 := h.q3
  have hq4 := h.q4
  have hq6 := h.q6
  have hbox := (h.ext.old bx h.bl).trans h.box
  have hlo := h.lo
  have hn0 := h.ext.n
  have hl0 := h.ext.lo
  have hid1 := h.id1
  have hid2 := h.id2
  have hbl := h.bl
  have hll := h.llen
  have hbig := h.ok.big
  simp only [q1, q3, q4, q6, q7, q8, q9] at hq1 hq3 hq4 hq6 h7 h8 h9
  obtain ⟨t, ht1, ht2, ht3, ht4⟩ := h.row.read
  have hG : Ev.getN (ofL [vn, va, .b bb] 0) 3 0 = some [vn, va, .b bb] := (at_ofL [vn, va, .b bb]).getN
  unfold L35_5
  by_cases hki : k < i
  ·have d1 : decide ((k : Int) < (i : Int)) = true := decide_eq_true (by omega)
   rcases hc with ⟨rfl, hno⟩ | ⟨k0, hk0, hal, rfl⟩
   ·have hR := ht2 _ _ hLi
    have dm : decide ((-1 : Int) < 0) = true := rfl
    simp (disch := first | omega | assumption) only [↓bxD, bA, reduceCtorEq, hq1, hq3, hq4, hq6, h7, h8, h9, hbox, hG, map_ag, ix_slc, ht1, hR, d1, dm]
    show Wp fns K35_4 _ _ _
    unfold K35_4
    simp (disch := first | omega | assumption) only [↓bxD, bA, reduceCtorEq, hq1, hq3, hq4, hq6, h7, h8, h9, hbox, hG, map_ag, ix_slc, ht1, hR, d1, dm]
    refine bindP_call (alike_any (by omega) (h.raw.ext h.ext) h.ok (h.crow.ext h.ext) h.clen hi (by omega)) ?_
    rintro m M2 ⟨rfl, x2⟩
    have hl2 := x2.lo
    have hn2 := x2.n
    have ht1' := (x2.old _ hid2).trans ht1
    have hrk := ht2 _ _ (hLP k hki)
    have hH := ht3 i (by omega)
    cases ha : alikeP N cls i k with
    | false =>
     simp (disch := first | omega | assumption) only [↓bxD, bA, reduceCtorEq, hq1, hq3, hq4, hq6, h7, h8, h9]
     show Wp fns K35_3 _ _ _
     unfold K35_3
     simp (disch := first | omega | assumption) only [↓bxD, bA, reduceCtorEq, hq1, hq3, hq4, hq6, h7, h8, h9]
     refine ⟨(k + 1, L1), by simp only; omega, by simp only; omega, ⟨h.ext.trans x2, h.lo, h.raw, h.ok, h.box, h.bl, h.crow, h.clen, h.id1, by omega, h.row.same (x2.old _ hid2), h.llen, by simp only [bA, reduceCtorEq, hq1, hq3, hq4, hq6, h7, h8, h9], by simp only [bA, reduceCtorEq, hq1, hq3, hq4, hq6, h7, h8, h9], by simp only [bA, reduceCtorEq, hq1, hq3, hq4, hq6, h7, h8, h9], by simp only [bA, reduceCtorEq, hq1, hq3, hq4, hq6, h7, h8, h9]⟩, rfl, .inl ⟨rfl, fun k' hk' => ?_⟩⟩
     by_cases e : k' = k
     ·rw [e]; exact ha
     ·exact hno k' (by simp only at hk'; omega)
    | true =>
     simp (disch := first | omega | assumption | (simp only [bZ, stOk, Nat.reduceBEq, Nat.reduceEqDiff, Nat.reduceAdd] <;> omega) | ((try apply has_setN); apply has_ofL; simp only [bxL]; omega)) only [↓bxD, bA, Nat.reduceBEq, reduceCtorEq, Nat.reduceAdd, Nat.reduceSub, Nat.reduceMul, Nat.reduceLeDiff, Nat.reduceLT, hq1, hq3, hq4, hq6, h7, h8, h9, ix_slc, ht1', hrk, hH]
     show Wp fns K35_3 _ _ _
     unfold K35_3
     simp (disch := first | omega | assumption) only [↓bxD, bA, reduceCtorEq, hq1, hq3, hq4, hq6, h7, h8, h9, ix_slc, ht1', hrk, hH]
     refine ⟨(k + 1, L1.set i (P.getD k 0 : Int)), by simp only; omega, by simp only; omega, ⟨(h.ext.trans x2).set _ (by omega), h.lo, h.raw, h.ok, h.box, h.bl, h.crow, h.clen, h.id1, by rw [set_n]; omega, ⟨_, set_same _ _, ht4 i _ (by omega)⟩, by rw [List.length_set]; exact h.llen, by simp only [bA, reduceCtorEq, hq1, hq3, hq4, hq6, h7, h8, h9, ix_slc, ht1', hrk, hH], by simp only [bA, reduceCtorEq, hq1, hq3, hq4, hq6, h7, h8, h9, ix_slc, ht1', hrk, hH], by simp only [bA, reduceCtorEq, hq1, hq3, hq4, hq6, h7, h8, h9, ix_slc, ht1', hrk, hH], by simp (disch := first | omega | assumption) only [↓bxD, bA, reduceCtorEq, hq1, hq3, hq4, hq6, h7, h8, h9, ix_slc, ht1', hrk, hH, List.length_set]⟩, rfl, .inr ⟨k, hki, ha, rfl⟩⟩
   ·have hLi' : (L.set i (P.getD k0 0 : Int))[i]? = some (P.getD k0 0 : Int) := by
     rw [List.getElem?_set, if_pos rfl, if_pos (by rw [List.length_set] at hll; omega)]
    have hR := ht2 _ _ hLi'
    have dm : decide ((P.getD k0 0 : Int) < 0) = false := decide_eq_false (by omega)
    simp (disch := first | omega | assumption) only [↓bxD, bA, reduceCtorEq, hq1, hq3, hq4, hq6, h7, h8, h9, hbox, hG, map_ag, ix_slc, ht1, hR, d1, dm]
    exact hn _ _ _ ⟨h.ext, h.lo, h.raw, h.ok, h.box, h.bl, h.crow, h.clen, h.id1, h.id2, h.row, h.llen, by simp only [bA, reduceCtorEq, hq1, hq3, hq4, hq6, h7, h8, h9, hbox, hG, map_ag, ix_slc, ht1, hR, d1, dm], by simp only [bA, reduceCtorEq, hq1, hq3, hq4, hq6, h7, h8, h9, hbox, hG, map_ag, ix_slc, ht1, hR, d1, dm], by simp only [bA, reduceCtorEq, hq1, hq3, hq4, hq6, h7, h8, h9, hbox, hG, map_ag, ix_slc, ht1, hR, d1, dm], by simp only [bA, reduceCtorEq, hq1, hq3, hq4, hq6, h7, h8, h9, hbox, hG, map_ag, ix_slc, ht1, hR, d1, dm]⟩ (by simp only [bA, reduceCtorEq, hq1, hq3, hq4, hq6, h7, h8, h9, hbox, hG, map_ag, ix_slc, ht1, hR, d1, dm]) (by simp only [bA, reduceCtorEq, hq1, hq3, hq4, hq6, h7, h8, h9, hbox, hG, map_ag, ix_slc, ht1, hR, d1, dm]) (.inr ⟨k0, hk0, hal, rfl⟩)
  ·have d1 : decide ((k : Int) < (i : Int)) = false := decide_eq_false (by omega)
   have hki' : k = i := by omega
   simp (disch := first | omega | assumption) only [↓bxD, bA, reduceCtorEq, hq1, hq3, hq4, hq6, h7, h8, h9, d1]
   refine hn _ _ L1 ⟨h.ext, h.lo, h.raw, h.ok, h.box, h.bl, h.crow, h.clen, h.id1, h.id2, h.row, h.llen, by simp only [bA, reduceCtorEq, hq1, hq3, hq4, hq6, h7, h8, h9, d1], by simp only [bA, reduceCtorEq, hq1, hq3, hq4, hq6, h7, h8, h9, d1], by simp only [bA, reduceCtorEq, hq1, hq3, hq4, hq6, h7, h8, h9, d1], by simp only [bA, reduceCtorEq, hq1, hq3, hq4, hq6, h7, h8, h9, d1]⟩ (by simp only [bA, reduceCtorEq, hq1, hq3, hq4, hq6, h7, h8, h9, d1]) (by simp only [bA, reduceCtorEq, hq1, hq3, hq4, hq6, h7, h8, h9, d1]) ?_
   rw [hki'] at hc
   exact hc
 ·exact ⟨Nat.zero_le _, hst, h7, h8, h9, .inl ⟨rfl, fun k hk => absurd hk (Nat.not_lt_zero k)⟩⟩
theorem cls_rows {Mb M : MH} {vn va vc : MV} {bb : Bool} {N : List (List Int)} {A L : List Int} {cls : List Nat} {bx id : Nat} {f : Fr} (hst : NxSt Mb M vn va vc bb N A cls bx id L f) (h7 : X.ev f (.t q7) = .i .i64 0) (h8 : X.ev f (.t q8) = .i .i64 0) (Q : Post)
  (hn : ∀ f' M' P (cnt : Nat), NxSt Mb M' vn va vc bb N A cls bx id (P.map fun (n : Nat) => (n : Int)) f' → X.ev f' (.t q7) = .i .i64 (cnt : Int) → P.length = N.length → PIn N cls P cnt → Q .norm f' M') : Wp fns (.loop L35_9) f M (blockQ 4 Q) := by
 refine Wp_inv (σ := List Int × List Nat × Nat) (fun s f1 M1 => s.2.1.length ≤ N.length ∧ NxSt Mb M1 vn va vc bb N A cls bx id s.1 f1 ∧ X.ev f1 (.t q7) = .i .i64 (s.2.2 : Int) ∧ X.ev f1 (.t q8) = .i .i64 (s.2.1.length : Int) ∧ PIn N cls s.2.1 s.2.2 ∧ ∀ j, j < s.2.1.length → s.1[j]? = some (s.2.1.getD j 0 : Int)) (fun s => N.length - s.2.1.length) ?_ (L, [], 0) ?_
 ·clear hst h7 h8
  rintro ⟨L1, P, cnt⟩ f1 M1 ⟨hi, h, h7, h8, hP, hLP⟩
  simp only at hi h h7 h8 hP hLP
  have hq1 := h.q1
  have hq3 := h.q3
  have hq4 := h.q4
  have hq6 := h.q6
  have hlo := h.lo
  have hn0 := h.ext.n
  have hl0 := h.ext.lo
  have hid1 := h.id1
  have hid2 := h.id2
  have hll := h.llen
  have hbig := h.ok.big
  have hcl := partsTo_le P P.length
  have hcnt := hP.cnt
  simp only [q1, q3, q4, q6, q7, q8] at hq1 hq3 hq4 hq6 h7 h8
  obtain ⟨t, ht1, ht2, ht3, ht4⟩ := h.row.read
  unfold L35_9
  by_cases hi' : P.length < N.length
  ·have d1 : decide ((P.length : Int) < (N.length : Int)) = true := decide_eq_true (by omega)
   have hH := ht3 P.length (by omega)
   simp (disch := first | omega | assumption) only [↓bxD, bA, reduceCtorEq, hq1, hq3, hq4, hq6, h7, h8, ix_slc, ht1, hH, d1]
   show Wp fns K35_8 _ _ _
   unfold K35_8
   simp (disch := first | omega | assumption | (simp only [bZ, stOk, Nat.reduceBEq, Nat.reduceEqDiff, Nat.reduceAdd] <;> omega) | ((try apply has_setN); apply has_ofL; simp only [bxL]; omega)) only [↓bxD, bA, Nat.reduceBEq, reduceCtorEq, Nat.reduceAdd, Nat.reduceSub, Nat.reduceMul, Nat.reduceLeDiff, Nat.reduceLT, hq1, hq3, hq4, hq6, h7, h8, ix_slc, ht1, hH, d1]
   refine cls_in (Mb := Mb) (vn := vn) (va := va) (vc := vc) (bb := bb) (A := A) (cls := cls) (bx := bx) (id := id) (i := P.length) (P := P) (cnt := cnt) (L := L1.set P.length (-1)) ?_ hi' rfl ?_ ?_ ?_ ?_ ?_ _ ?_
   ·exact ⟨h.ext.set _ (by omega), h.lo, h.raw, h.ok, h.box, h.bl, h.crow, h.clen, h.id1, by rw [set_n]; omega, ⟨_, set_same _ _, ht4 P.length (-1) (by omega)⟩, by rw [List.length_set]; exact h.llen, by simp only [bA, reduceCtorEq, hq1, hq3, hq4, hq6, h7, h8, ix_slc, ht1, hH, d1], by simp only [bA, reduceCtorEq, hq1, hq3, hq4, hq6, h7, h8, ix_slc, ht1, hH, d1], by simp only [bA, reduceCtorEq, hq1, hq3, hq4, hq6, h7, h8, ix_slc, ht1, hH, d1], by simp (disch := first | omega | assumption) only [↓bxD, bA, reduceCtorEq, hq1, hq3, hq4, hq6, h7, h8, ix_slc, ht1, hH, d1, List.length_set]⟩
   ·intro j hj
    rw [List.getElem?_set, if_neg (by omega)]
    exact hLP j hj
   ·rw [List.getElem?_set, if_pos rfl, if_pos (by omega)]
   ·simp only [bA, reduceCtorEq, hq1, hq3, hq4, hq6, h7, h8, ix_slc, ht1, hH, d1]
   ·simp only [bA, reduceCtorEq, hq1, hq3, hq4, hq6, h7, h8, ix_slc, ht1, hH, d1]
   ·simp only [bA, reduceCtorEq, hq1, hq3, hq4, hq6, h7, h8, ix_slc, ht1, hH, d1] <;> rfl
   intro f2 M2 L2 h2 h72 h82 hcase
   have g1 := h2.q1
   have g3 := h2.q3
   have g4 := h2.q4
   have g6 := h2.q6
   have hl2 := h2.ext.lo
   have hn2 := h2.ext.n
   have hid22 := h2.id2
   have hll2 := h2.llen
   simp only [q1, q3, q4, q6, q7, q8] at g1 g3 g4 g6 h72 h82
   obtain ⟨t2, hu1, hu2, hu3, hu4⟩ := h2.row.read
   rcases hcase with ⟨rfl, hno⟩ | ⟨k0, hk0, hal, rfl⟩
   ·have hR := hu2 P.length (-1) (by rw [List.getElem?_set, if_pos rfl, if_pos (by omega)])
    have hH2 := hu3 P.length (by omega)
    have dm : decide ((-1 : Int) < 0) = true := rfl
    show Wp fns K35_6 _ _ _
    unfold K35_6
    simp (disch := first | omega | assumption | (simp only [bZ, stOk, Nat.reduceBEq, Nat.reduceEqDiff, Nat.reduceAdd] <;> omega) | ((try apply has_setN); apply has_ofL; simp only [bxL]; omega)) only [↓bxD, bA, Nat.reduceBEq, reduceCtorEq, Nat.reduceAdd, Nat.reduceSub, Nat.reduceMul, Nat.reduceLeDiff, Nat.reduceLT, g1, g3, g4, g6, h72, h82, ix_slc, hu1, hR, hH2, dm]
    show Wp fns K35_7 _ _ _
    unfold K35_7
    simp (disch := first | omega | assumption) only [↓bxD, bA, reduceCtorEq, g1, g3, g4, g6, h72, h82, ix_slc, hu1, hR, hH2, dm]
    refine ⟨((L1.set P.length (-1)).set P.length (cnt : Int), P ++ [cnt], cnt + 1), by simp only [List.length_append, List.length_singleton]; omega, by simp only [List.length_append, List.length_singleton]; omega, ⟨h2.ext.set _ (by omega), h2.lo, h2.raw, h2.ok, h2.box, h2.bl, h2.crow, h2.clen, h2.id1, by rw [set_n]; omega, ⟨_, set_same _ _, hu4 P.length (cnt : Int) (by omega)⟩, by rw [List.length_set]; exact h2.llen, by simp only [bA, reduceCtorEq, g1, g3, g4, g6, h72, h82, ix_slc, hu1, hR, hH2, dm], by simp only [bA, reduceCtorEq, g1, g3, g4, g6, h72, h82, ix_slc, hu1, hR, hH2, dm], by simp only [bA, reduceCtorEq, g1, g3, g4, g6, h72, h82, ix_slc, hu1, hR, hH2, dm], by simp (disch := first | omega | assumption) only [↓bxD, bA, reduceCtorEq, g1, g3, g4, g6, h72, h82, ix_slc, hu1, hR, hH2, dm, List.length_set]⟩, by simp only; congr 1, by simp only [List.length_append, List.length_singleton]; congr 1, hP.fresh hno, fun j hj => ?_⟩
    simp only [List.length_append, List.length_singleton] at hj ⊢
    rw [List.set_set, List.getElem?_set, getD_app]
    by_cases e : P.length = j
    ·rw [if_pos e, if_pos (by omega), if_neg (by omega), if_pos e.symm]
    ·rw [if_neg e, if_pos (by omega)]; exact hLP j (by omega)
   ·have hR := hu2 P.length (P.getD k0 0 : Int) (by rw [List.set_set, List.getElem?_set, if_pos rfl, if_pos (by omega)])
    have dm : decide ((P.getD k0 0 : Int) < 0) = false := decide_eq_false (by omega)
    show Wp fns K35_6 _ _ _
    unfold K35_6
    simp (disch := first | omega | assumption) only [↓bxD, bA, reduceCtorEq, g1, g3, g4, g6, h72, h82, ix_slc, hu1, hR, dm]
    show Wp fns K35_7 _ _ _
    unfold K35_7
    simp (disch := first | omega | assumption) only [↓bxD, bA, reduceCtorEq, g1, g3, g4, g6, h72, h82, ix_slc, hu1, hR, dm]
    refine ⟨((L1.set P.length (-1)).set P.length (P.getD k0 0 : Int), P ++ [P.getD k0 0], cnt), by simp only [List.length_append, List.length_singleton]; omega, by simp only [List.length_append, List.length_singleton]; omega, ⟨h2.ext, h2.lo, h2.raw, h2.ok, h2.box, h2.bl, h2.crow, h2.clen, h2.id1, h2.id2, h2.row, h2.llen, by simp only [bA, reduceCtorEq, g1, g3, g4, g6, h72, h82, ix_slc, hu1, hR, dm], by simp only [bA, reduceCtorEq, g1, g3, g4, g6, h72, h82, ix_slc, hu1, hR, dm], by simp only [bA, reduceCtorEq, g1, g3, g4, g6, h72, h82, ix_slc, hu1, hR, dm], by simp only [bA, reduceCtorEq, g1, g3, g4, g6, h72, h82, ix_slc, hu1, hR, dm]⟩, rfl, by simp only [List.length_append, List.length_singleton]; congr 1, hP.old hk0 hal, fun j hj => ?_⟩
    simp only [List.length_append, List.length_singleton] at hj ⊢
    rw [List.set_set, List.getElem?_set, getD_app]
    by_cases e : P.length = j
    ·rw [if_pos e, if_pos (by omega), if_neg (by omega), if_pos e.symm]
    ·rw [if_neg e, if_pos (by omega)]; exact hLP j (by omega)
  ·have d1 : decide ((P.length : Int) < (N.length : Int)) = false := decide_eq_false (by omega)
   simp (disch := first | omega | assumption) only [↓bxD, bA, reduceCtorEq, hq1, hq3, hq4, hq6, h7, h8, d1]
   have hPL : L1 = P.map fun (n : Nat) => (n : Int) := by
    refine List.ext_getElem? fun j => ?_
    rw [List.getElem?_map]
    by_cases hj : j < P.length
    ·rw [hLP j hj, List.getD_eq_getElem?_getD, List.getElem?_eq_getElem hj]; rfl
    ·rw [List.getElem?_eq_none (by omega), List.getElem?_eq_none (by omega)]; rfl
   subst hPL
   exact hn _ _ P cnt ⟨h.ext, h.lo, h.raw, h.ok, h.box, h.bl, h.crow, h.clen, h.id1, h.id2, h.row, h.llen, by simp only [bA, reduceCtorEq, hq1, hq3, hq4, hq6, h7, h8, d1], by simp only [bA, reduceCtorEq, hq1, hq3, hq4, hq6, h7, h8, d1], by simp only [bA, reduceCtorEq, hq1, hq3, hq4, hq6, h7, h8, d1], by simp only [bA, reduceCtorEq, hq1, hq3, hq4, hq6, h7, h8, d1]⟩ (by simp only [bA, reduceCtorEq, hq1, hq3, hq4, hq6, h7, h8, d1]) (by omega) hP
 ·exact ⟨Nat.zero_le _, hst, h7, h8, ⟨fun j hj => absurd hj (Nat.not_lt_zero j), fun i k hi => absurd hi (Nat.not_lt_zero i), rfl⟩, fun j hj => absurd hj (Nat.not_lt_zero j)⟩
theorem nv_map (l : List Nat) : nv l = ints (l.map fun (n : Nat) => (n : Int)) := by unfold nv ints; rw [List.map_map]; rfl
theorem nats_row {M : MH} {id : Nat} {l : List Nat} (h : IntsAt M id (l.map fun (n : Nat) => (n : Int))) (hid : id < M.n) : RowAt M 1 (.sl id 0 l.length 0) (nv l) := by
 have := h.row hid
 rw [List.length_map] at this
 rw [nv_map]
 exact this
theorem cls_init {N : List (List Int)} {A : List Int} (hok : RawOk N A) : ClsIn N A (A.map fun z => (z + 1).toNat) := by
 have hl := hok.len
 have hg : ∀ i, i < N.length → (A.map fun z => (z + 1).toNat).getD i 0 = (A.getD i 0 + 1).toNat ∧ -1 ≤ A.getD i 0 := fun i hi => by
  rw [List.getD_eq_getElem?_getD, List.getD_eq_getElem?_getD, List.getElem?_map, List.getElem?_eq_getElem (by omega)]
  exact ⟨rfl, (hok.acc _ (List.getElem_mem (by omega))).1⟩
 refine ⟨by rw [List.length_map]; exact hl, fun i k hi hk e => ?_, fun R hR i k hi hk hr => ?_⟩
 ·have h1 := hg i hi
  have h2 := hg k hk
  rw [h1.1, h2.1] at e
  omega
 ·rw [(hg i hi).1, (hg k hk).1, (hR i k hr).1]
theorem classes_any {M : MH} {m : MV} {N : List (List Int)} {A : List Int} (hlo : M.lo ≤ M.n) (h : RawAt M m N A) (hok : RawOk N A) : Cp fns 35 [m] M fun r M' => Ext M M' ∧ ∃ cl, ClsOk N A cl ∧ RowAt M' 1 r (nv cl) := by
 obtain ⟨vn, va, b, rfl, hN, hA⟩ := h.ag
 obtain ⟨a1, a2⟩ := hA.sl
 have hl := hok.len
 have hbig := hok.big
 refine Cp_call (fn := F35) (by kernel_rfl) (Nat.le_of_ble_eq_true rfl) ?_
 show Wp fns B35 (T.set q0 (some (.ag [vn, va, .b b])) T.lf) M _
 have hU : isU (.ag [vn, va, .b b]) = false := rfl
 have hc3 : MV.cells (.ag [vn, va, .b b]) = [vn, va, .b b] := rfl
 have c1 : cget (ofL [vn, va, .b b] 0) 1 = some va := at_ofL [vn, va, .b b] 1 _ rfl
 unfold B35
 generalize hM1 : M.push (.cs false 3 (ofL [vn, va, .b b] 0)) = M1
 have x1 : Ext M M1 := by rw [← hM1]; exact .push M _
 have g1 : M1.get M.n = some (.cs false 3 (ofL [vn, va, .b b] 0)) := by rw [← hM1]; exact push_new _
 have n1 : M1.n = M.n + 1 := by rw [← hM1]; rfl
 have l1 := x1.lo
 simp (disch := first | omega | assumption) only [↓bxD, bA, reduceCtorEq, hU, hc3, hM1, g1, c1, a1, a2, ev_mks, mks_ok]
 have hbn := IntsAt.new (M := M1) A.length
 have x2 : Ext M1 (M1.push (.cs false 1 (ofL (zrow [.i .i64 0] A.length) 0))) := .push M1 _
 have n2 : (M1.push (.cs false 1 (ofL (zrow [.i .i64 0] A.length) 0))).n = M1.n + 1 := rfl
 generalize M1.push (.cs false 1 (ofL (zrow [.i .i64 0] A.length) 0)) = M2 at hbn x2 n2
 have l2 := x2.lo
 have hA1 := hA.ext x1
 refine Wp_inv (σ := Nat × List Int) (fun s f M' => Ext M1 M' ∧ M'.n = M2.n ∧ s.1 ≤ A.length ∧ X.ev f (.t q1) = .p M.n 0 ∧ X.ev f (.t q3) = .i .i64 (A.length : Int) ∧ X.ev f (.t q4) = .sl M1.n 0 A.length 0 ∧ X.ev f (.t q5) = .i .i64 (s.1 : Int) ∧ IntsAt M' M1.n s.2 ∧ s.2.length = A.length ∧ ∀ j, j < s.1 → s.2[j]? = some (A.getD j 0 + 1)) (fun s => A.length - s.1) ?_ (0, List.replicate A.length 0) ?_
 ·rintro ⟨i, L⟩ f M' ⟨hx, hn', hi, h1, h3, h4, h5, hI, hL, hv⟩
  simp only at hi h5 hI hL hv
  simp only [q1, q3, q4, q5] at h1 h3 h4 h5
  have hl' := hx.lo
  unfold L35_2
  by_cases hi' : i < A.length
  ·have d1 : decide ((i : Int) < (A.length : Int)) = true := decide_eq_true (by omega)
   obtain ⟨z, hz⟩ : ∃ z, A[i]? = some z := ⟨_, List.getElem?_eq_getElem hi'⟩
   have hzb := hok.acc z (List.mem_of_getElem? hz)
   have hgd : A.getD i 0 = z := by rw [List.getD_eq_getElem?_getD, hz]; rfl
   obtain ⟨ro, sz, t, hg, hid, hC⟩ := (hA1.ext hx).read hz
   obtain ⟨tb, hb1, hb2, hb3, hb4⟩ := hI.read
   have hH := hb3 i (by omega)
   have gx := (hx.old M.n (by omega)).trans g1
   have wz : wrapF .i64 (z + 1) = z + 1 := wrap_in (by omega) (by omega)
   simp (disch := first | omega | assumption) only [↓bxD, bA, reduceCtorEq, h1, h3, h4, h5, d1, gx, c1, a1, a2, hg, hC, ix_slc, hb1, hH, wz]
   show Wp fns K35_1 _ _ _
   unfold K35_1
   simp (disch := first | omega | assumption | (simp only [bZ, stOk, Nat.reduceBEq, Nat.reduceEqDiff, Nat.reduceAdd] <;> omega) | ((try apply has_setN); apply has_ofL; simp only [bxL]; omega)) only [↓bxD, bA, Nat.reduceBEq, reduceCtorEq, Nat.reduceAdd, Nat.reduceSub, Nat.reduceMul, Nat.reduceLeDiff, Nat.reduceLT, h1, h3, h4, h5, d1, gx, c1, a1, a2, hg, hC, ix_slc, hb1, hH, wz]
   show Wp fns K35_0 _ _ _
   unfold K35_0
   simp (disch := first | omega | assumption) only [↓bxD, bA, reduceCtorEq, h1, h3, h4, h5, d1, gx, c1, a1, a2, hg, hC, ix_slc, hb1, hH, wz]
   refine ⟨(i + 1, L.set i (z + 1)), by simp only; omega, hx.set _ (by omega), hn', by simp only; omega, rfl, ⟨_, set_same _ _, hb4 i _ (by omega)⟩, by rw [List.length_set]; exact hL, fun j hj => ?_⟩
   simp only at hj ⊢
   rw [List.getElem?_set]
   by_cases e : i = j
   ·subst e
    rw [if_pos rfl, if_pos (by omega), hgd]
   ·rw [if_neg e]
    exact hv j (by omega)
  ·have d1 : decide ((i : Int) < (A.length : Int)) = false := decide_eq_false (by omega)
   have e : L = (A.map fun z => (z + 1).toNat).map fun (n : Nat) => (n : Int) := by
    rw [List.map_map]
    refine List.ext_getElem? fun j => ?_
    rw [List.getElem?_map]
    by_cases hj : j < A.length
    ·have := hok.acc _ (List.getElem_mem hj)
     rw [hv j (by omega), List.getD_eq_getElem?_getD, List.getElem?_eq_getElem hj]
     show some (A[j] + 1) = some (((A[j] + 1).toNat : Nat) : Int)
     congr 1
     omega
    ·rw [List.getElem?_eq_none (by omega), List.getElem?_eq_none (by omega)]; rfl
   rw [e] at hI
   simp (disch := first | omega | assumption) only [↓bxD, bA, reduceCtorEq, h1, h3, h4, h5, d1]
   show Wp fns (IC.block 2 (IC.loop L35_12)) _ _ _
   rw [Wp_block_iff]
   have hr0 := nats_row hI (by omega)
   rw [List.length_map] at hr0
   refine Wp_inv (σ := MV × List Nat) (fun s f M' => Ext M1 M' ∧ X.ev f (.t q1) = .p M.n 0 ∧ X.ev f (.t q3) = .i .i64 (A.length : Int) ∧ X.ev f (.t q4) = s.1 ∧ RowAt M' 1 s.1 (nv s.2) ∧ ClsIn N A s.2) (fun s => N.length - partsTo s.2 N.length) ?_ (.sl M1.n 0 A.length 0, A.map fun z => (z + 1).toNat) ?_
   ·clear h1 h3 h4 h5
    rintro ⟨vc, cls⟩ f Mb ⟨hx, h1, h3, h4, hr, hC⟩
    simp only at h4 hr hC
    simp only [q1, q3, q4] at h1 h3 h4
    have hl' := hx.lo
    have hn' := hx.n
    unfold L35_12
    simp (disch := first | omega | assumption) only [↓bxD, bA, reduceCtorEq, h1, h3, h4, ev_mks, mks_ok]
    have hbn := IntsAt.new (M := Mb) A.length
    have xb : Ext Mb (Mb.push (.cs false 1 (ofL (zrow [.i .i64 0] A.length) 0))) := .push Mb _
    have nb : (Mb.push (.cs false 1 (ofL (zrow [.i .i64 0] A.length) 0))).n = Mb.n + 1 := rfl
    generalize Mb.push (.cs false 1 (ofL (zrow [.i .i64 0] A.length) 0)) = Mc at hbn xb nb
    have lb := xb.lo
    refine cls_rows (Mb := Mb) (vn := vn) (va := va) (vc := vc) (bb := b) (A := A) (N := N) (cls := cls) (bx := M.n) (id := Mb.n) (L := List.replicate A.length 0) ?_ ?_ ?_ _ ?_
    ·exact ⟨xb, by omega, ⟨vn, va, b, rfl, hN.ext (x1.trans hx), hA.ext (x1.trans hx)⟩, hok, (hx.old M.n (by omega)).trans g1, by omega, hr, hC.len, Nat.le_refl _, by omega, hbn, by rw [List.length_replicate]; exact hl, by simp only [bA, reduceCtorEq, h1, h3, h4, ev_mks, mks_ok], by simp (disch := first | omega | assumption) only [↓bxD, bA, reduceCtorEq, h1, h3, h4, ev_mks, mks_ok, hl], by simp only [bA, reduceCtorEq, h1, h3, h4, ev_mks, mks_ok], by simp (disch := first | omega | assumption) only [↓bxD, bA, reduceCtorEq, h1, h3, h4, ev_mks, mks_ok, List.length_replicate]⟩
    ·simp only [bA, reduceCtorEq, h1, h3, h4, ev_mks, mks_ok] <;> rfl
    ·simp only [bA, reduceCtorEq, h1, h3, h4, ev_mks, mks_ok] <;> rfl
    intro f2 M3 P cnt h2 h72 hPl hP
    have g1' := h2.q1
    have g3 := h2.q3
    have g4 := h2.q4
    have g6 := h2.q6
    have hl3 := h2.ext.lo
    have hn3 := h2.ext.n
    simp only [q1, q3, q4, q6, q7] at g1' g3 g4 g6 h72
    show Wp fns K35_11 _ _ _
    unfold K35_11
    simp (disch := first | omega | assumption) only [↓bxD, bA, reduceCtorEq, g1', g3, g4, g6, h72]
    refine bindP_call (parts_any (by omega) (hr.ext h2.ext) (by have := hC.len; omega)) ?_
    rintro m M4 ⟨rfl, x4⟩
    have hrow := h2.row.same (x4.old _ h2.id2)
    have hid4 : Mb.n < M4.n := by have := x4.n; have := h2.id2; omega
    have hrP := nats_row hrow hid4
    have hnx : NextOf N cls P := ⟨hPl, fun i k hi hk => hP.eqv i k (by omega) (by omega)⟩
    have hcn := hP.cnt
    rw [hPl] at hcn
    by_cases ep : partsTo cls cls.length = cnt
    ·have dp : decide ((partsTo cls cls.length : Int) = (cnt : Int)) = true := decide_eq_true (by omega)
     simp (disch := first | omega | assumption) only [↓bxD, bA, reduceCtorEq, g1', g3, g4, g6, h72, dp]
     refine ⟨((x1.trans hx).trans h2.ext).trans x4, P, next_ok hok hC hnx ?_, by rw [List.length_map]; exact hrP⟩
     have := hC.len
     rw [← this, ep]
     rw [← this] at hcn
     exact hcn
    ·have dp : decide ((partsTo cls cls.length : Int) = (cnt : Int)) = false := decide_eq_false (by omega)
     simp (disch := first | omega | assumption) only [↓bxD, bA, reduceCtorEq, g1', g3, g4, g6, h72, dp]
     show Wp fns K35_10 _ _ _
     unfold K35_10
     simp (disch := first | omega | assumption) only [↓bxD, bA, reduceCtorEq, g1', g3, g4, g6, h72]
     have hmore := next_more hC hnx
     have hle := partsTo_le P N.length
     have hclen := hC.len
     rw [hclen] at ep
     refine ⟨(.sl Mb.n 0 P.length 0, P), by simp only; omega, (hx.trans h2.ext).trans x4, by rw [hl], by rw [List.length_map], hrP, next_in hok hC hnx⟩
   ·exact ⟨hx, by simp only [bA, reduceCtorEq, h1, h3, h4, h5, d1], by simp only [bA, reduceCtorEq, h1, h3, h4, h5, d1], by simp only [bA, reduceCtorEq, h1, h3, h4, h5, d1], hr0, cls_init hok⟩
 ·exact ⟨x2, rfl, Nat.zero_le _, by simp only [bA, reduceCtorEq, hU, hc3, hM1, g1, c1, a1, a2, ev_mks, mks_ok], by simp only [bA, reduceCtorEq, hU, hc3, hM1, g1, c1, a1, a2, ev_mks, mks_ok], by simp only [bA, reduceCtorEq, hU, hc3, hM1, g1, c1, a1, a2, ev_mks, mks_ok], by simp only [bA, reduceCtorEq, hU, hc3, hM1, g1, c1, a1, a2, ev_mks, mks_ok] <;> rfl, hbn, List.length_replicate, fun j hj => absurd hj (Nat.not_lt_zero j)⟩
inductive UseI (N : List (List Int)) (A : List Int) : Nat → Prop
 | acc (i : Nat) (hi : i < N.length) (h : 0 ≤ A.getD i (-1)) : UseI N A i
 | step (i c : Nat) (hi : i < N.length) (hc : c < 256) (h0 : 0 ≤ cellN N i c) (h : UseI N A (cellN N i c).toNat) : UseI N A i
def goesB (N : List (List Int)) (out : List Bool) (i c : Nat) : Bool := decide (0 ≤ cellN N i c) && bAt out (cellN N i c).toNat
def UseSound (N : List (List Int)) (A : List Int) (out : List Bool) : Prop := ∀ i, out[i]? = some true → UseI N A i
def useNow (N : List (List Int)) (A : List Int) (out : List Bool) (i : Nat) : Prop := 0 ≤ A.getD i (-1) ∨ ∃ c, c < 256 ∧ goesB N out i c = true
def UseClosed (N : List (List Int)) (A : List Int) (out : List Bool) (n : Nat) : Prop := ∀ i, i < n → useNow N A out i → out[i]? = some true
theorem use_all {N : List (List Int)} {A : List Int} {out : List Bool} (h : UseClosed N A out N.length) {i : Nat} (hu : UseI N A i) : out[i]? = some true := by
 induction hu with
 | acc i hi h0 => exact h i hi (.inl h0)
 | step i c hi hc h0 _ ih =>
  refine h i hi (.inr ⟨c, hc, ?_⟩)
  unfold goesB
  rw [decide_eq_true h0, bAt_some ih]
  rfl
structure USt (M0 M : MH) (vn va : MV) (bb : Bool) (N : List (List Int)) (A : List Int) (bx id : Nat) (out : List Bool) (f : Fr) : Prop where
 ext : Ext M0 M
 lo : M0.lo ≤ M0.n
 mx : MxAt M0 vn N
 ia : IntRow M0 va A
 ok : RawOk N A
 box : M0.get bx = some (.cs false 3 (ofL [vn, va, .b bb] 0))
 bl : bx < M0.n
 id1 : M0.n ≤ id
 id2 : id < M.n
 row : BoolsAt M id out
 olen : out.length = N.length
 q1 : X.ev f (.t q1) = .p bx 0
 q3 : X.ev f (.t q3) = .sl id 0 out.length 0
theorem use_in {M0 M : MH} {vn va : MV} {bb : Bool} {N : List (List Int)} {A : List Int} {bx id i : Nat} {out : List Bool} {f : Fr} {b0 more : Bool} (hst : USt M0 M vn va bb N A bx id out f) (hi : i < N.length) (h4 : X.ev f (.t q4) = .b more) (h5 : X.ev f (.t q5) = .i .i64 (i : Int)) (h6 : X.ev f (.t q6) = .b b0) (h7 : X.ev f (.t q7) = .i .i64 0) (Q : Post)
  (hn : ∀ f' b, USt M0 M vn va bb N A bx id out f' → X.ev f' (.t q4) = .b more → X.ev f' (.t q5) = .i .i64 (i : Int) → X.ev f' (.t q6) = .b b → (b = true ↔ b0 = true ∨ ∃ c, c < 256 ∧ goesB N out i c = true) → Q .norm f' M) : Wp fns (.loop L34_2) f M (blockQ 4 Q) := by
 refine Wp_inv (σ := Nat × Bool) (fun s f1 M1 => M1 = M ∧ s.1 ≤ 256 ∧ USt M0 M vn va bb N A bx id out f1 ∧ X.ev f1 (.t q4) = .b more ∧ X.ev f1 (.t q5) = .i .i64 (i : Int) ∧ X.ev f1 (.t q6) = .b s.2 ∧ X.ev f1 (.t q7) = .i .i64 (s.1 : Int) ∧ (s.2 = true → b0 = true ∨ ∃ c, c < 256 ∧ goesB N out i c = true) ∧ (s.2 = false → b0 = false ∧ ∀ c, c < s.1 → goesB N out i c = false)) (fun s => 256 - s.1) ?_ (0, b0) ?_
 ·clear hst h4 h5 h6 h7
  rintro ⟨k, b⟩ f1 M1 ⟨rfl, hk, h, h4, h5, h6, h7, hy, hno⟩
  simp only at hk h h4 h5 h6 h7 hy hno
  have hq1 := h.q1
  have hq3 := h.q3
  have hbox := (h.ext.old bx h.bl).trans h.box
  have hol := h.olen
  simp only [q1, q3, q4, q5, q6, q7] at hq1 hq3 h4 h5 h6 h7
  obtain ⟨t, ht1, ht2, ht3, ht4⟩ := h.row.read
  have c0 : cget (ofL [vn, va, .b bb] 0) 0 = some vn := at_ofL [vn, va, .b bb] 0 _ rfl
  unfold L34_2
  by_cases hk1 : k < 256
  ·have d1 : decide ((k : Int) < 256) = true := decide_eq_true (by omega)
   cases b with
   | true =>
    simp (disch := first | omega | assumption) only [↓bxD, bA, reduceCtorEq, hq1, hq3, h4, h5, h6, h7, d1]
    exact hn _ true ⟨h.ext, h.lo, h.mx, h.ia, h.ok, h.box, h.bl, h.id1, h.id2, h.row, h.olen, by simp only [bA, reduceCtorEq, hq1, hq3, h4, h5, h6, h7, d1], by simp only [bA, reduceCtorEq, hq1, hq3, h4, h5, h6, h7, d1]⟩ (by simp only [bA, reduceCtorEq, hq1, hq3, h4, h5, h6, h7, d1]) (by simp only [bA, reduceCtorEq, hq1, hq3, h4, h5, h6, h7, d1]) (by simp only [bA, reduceCtorEq, hq1, hq3, h4, h5, h6, h7, d1]) ⟨fun _ => hy rfl, fun _ => rfl⟩
   | false =>
    obtain ⟨hb0, hno'⟩ := hno rfl
    obtain ⟨li, hli, hlil, hlic, ha1, ha2⟩ := cell_at h.ok hi hk1
    have hmx := h.mx.ext h.ext
    obtain ⟨n1, n2⟩ := hmx.sl
    obtain ⟨ui, ro3, sz3, t3, g3, _, hc3', hui⟩ := hmx.read hli
    obtain ⟨ro5, sz5, t5, g5, _, hc5⟩ := hui.read hlic
    obtain ⟨ui1, ui2⟩ := hui.sl
    have hgo : goesB N out i k = (decide (0 ≤ cellN N i k) && bAt out (cellN N i k).toNat) := rfl
    generalize hz : cellN N i k = z at *
    by_cases z0 : 0 ≤ z
    ·have dz : decide (0 ≤ z) = true := decide_eq_true z0
     obtain ⟨zn, rfl⟩ : ∃ n : Nat, z = n := ⟨z.toNat, by omega⟩
     obtain ⟨bz, hbz⟩ : ∃ x, out[zn]? = some x := ⟨_, List.getElem?_eq_getElem (by omega)⟩
     have hR := ht2 _ _ hbz
     rw [dz, Bool.true_and, Int.toNat_natCast, bAt_some hbz] at hgo
     simp (disch := first | omega | assumption) only [↓bxD, bA, reduceCtorEq, hq1, hq3, h4, h5, h6, h7, d1, hbox, c0, n1, n2, g3, hc3', ui1, ui2, hlil, g5, hc5, dz, ix_slc, ht1, hR]
     show Wp fns K34_1 _ _ _
     unfold K34_1
     simp (disch := first | omega | assumption) only [↓bxD, bA, reduceCtorEq, hq1, hq3, h4, h5, h6, h7, d1, hbox, c0, n1, n2, g3, hc3', ui1, ui2, hlil, g5, hc5, dz, ix_slc, ht1, hR]
     show Wp fns K34_0 _ _ _
     unfold K34_0
     simp (disch := first | omega | assumption) only [↓bxD, bA, reduceCtorEq, hq1, hq3, h4, h5, h6, h7, d1, hbox, c0, n1, n2, g3, hc3', ui1, ui2, hlil, g5, hc5, dz, ix_slc, ht1, hR]
     refine ⟨(k + 1, bz), by simp only; omega, by simp only; omega, ⟨h.ext, h.lo, h.mx, h.ia, h.ok, h.box, h.bl, h.id1, h.id2, h.row, h.olen, by simp only [bA, reduceCtorEq, hq1, hq3, h4, h5, h6, h7, d1, hbox, c0, n1, n2, g3, hc3', ui1, ui2, hlil, g5, hc5, dz, ix_slc, ht1, hR], by simp only [bA, reduceCtorEq, hq1, hq3, h4, h5, h6, h7, d1, hbox, c0, n1, n2, g3, hc3', ui1, ui2, hlil, g5, hc5, dz, ix_slc, ht1, hR]⟩, rfl, rfl, fun e => .inr ⟨k, hk1, by rw [hgo]; exact e⟩, fun e => ⟨hb0, fun c hc => ?_⟩⟩
     simp only at e hc
     by_cases e2 : c = k
     ·rw [e2, hgo]; exact e
     ·exact hno' c (by omega)
    ·have dz : decide (0 ≤ z) = false := decide_eq_false z0
     rw [dz, Bool.false_and] at hgo
     simp (disch := first | omega | assumption) only [↓bxD, bA, reduceCtorEq, hq1, hq3, h4, h5, h6, h7, d1, hbox, c0, n1, n2, g3, hc3', ui1, ui2, hlil, g5, hc5, dz]
     show Wp fns K34_1 _ _ _
     unfold K34_1
     simp (disch := first | omega | assumption) only [↓bxD, bA, reduceCtorEq, hq1, hq3, h4, h5, h6, h7, d1, hbox, c0, n1, n2, g3, hc3', ui1, ui2, hlil, g5, hc5, dz]
     show Wp fns K34_0 _ _ _
     unfold K34_0
     simp (disch := first | omega | assumption) only [↓bxD, bA, reduceCtorEq, hq1, hq3, h4, h5, h6, h7, d1, hbox, c0, n1, n2, g3, hc3', ui1, ui2, hlil, g5, hc5, dz]
     refine ⟨(k + 1, false), by simp only; omega, by simp only; omega, ⟨h.ext, h.lo, h.mx, h.ia, h.ok, h.box, h.bl, h.id1, h.id2, h.row, h.olen, by simp only [bA, reduceCtorEq, hq1, hq3, h4, h5, h6, h7, d1, hbox, c0, n1, n2, g3, hc3', ui1, ui2, hlil, g5, hc5, dz], by simp only [bA, reduceCtorEq, hq1, hq3, h4, h5, h6, h7, d1, hbox, c0, n1, n2, g3, hc3', ui1, ui2, hlil, g5, hc5, dz]⟩, rfl, rfl, (fun e => by cases e), fun e => ⟨hb0, fun c hc => ?_⟩⟩
     simp only at hc
     by_cases e2 : c = k
     ·rw [e2, hgo]
     ·exact hno' c (by omega)
  ·have d1 : decide ((k : Int) < 256) = false := decide_eq_false (by omega)
   have hk2 : k = 256 := by omega
   subst hk2
   simp (disch := first | omega | assumption) only [↓bxD, bA, reduceCtorEq, hq1, hq3, h4, h5, h6, h7, d1]
   refine hn _ b ⟨h.ext, h.lo, h.mx, h.ia, h.ok, h.box, h.bl, h.id1, h.id2, h.row, h.olen, by simp only [bA, reduceCtorEq, hq1, hq3, h4, h5, h6, h7, d1], by simp only [bA, reduceCtorEq, hq1, hq3, h4, h5, h6, h7, d1]⟩ (by simp only [bA, reduceCtorEq, hq1, hq3, h4, h5, h6, h7, d1]) (by simp only [bA, reduceCtorEq, hq1, hq3, h4, h5, h6, h7, d1]) (by simp only [bA, reduceCtorEq, hq1, hq3, h4, h5, h6, h7, d1]) ⟨hy, fun hh => ?_⟩
   cases b with
   | true => rfl
   | false =>
    obtain ⟨e1, e2⟩ := hno rfl
    rcases hh with hh | ⟨c, hc, hh⟩
    ·rw [e1] at hh; cases hh
    ·rw [e2 c hc] at hh; cases hh
 ·exact ⟨rfl, Nat.zero_le _, hst, h4, h5, h6, h7, fun e => .inl e, fun e => ⟨e, fun c hc => absurd hc (Nat.not_lt_zero c)⟩⟩
theorem UseSound.set {N : List (List Int)} {A : List Int} {out : List Bool} (h : UseSound N A out) {i : Nat} (hi : UseI N A i) : UseSound N A (out.set i true) := fun a e => by
 rw [List.getElem?_set] at e
 split at e
 ·rename_i e1; subst e1; exact hi
 ·exact h a e
theorem use_now_sound {N : List (List Int)} {A : List Int} {out : List Bool} (h : UseSound N A out) (hol : out.length = N.length) {i : Nat} (hi : i < N.length) (hu : useNow N A out i) : UseI N A i := by
 rcases hu with hu | ⟨c, hc, hu⟩
 ·exact .acc i hi hu
 ·unfold goesB at hu
  simp only [Bool.and_eq_true, decide_eq_true_eq] at hu
  refine .step i c hi hc hu.1 (h _ ?_)
  have h2 := hu.2
  unfold bAt at h2
  rw [List.getD_eq_getElem?_getD] at h2
  cases e : out[(cellN N i c).toNat]? with
  | none => rw [e] at h2; cases h2
  | some b => rw [e] at h2; simp only [Option.getD_some] at h2; rw [h2]
theorem use_round {M0 M : MH} {vn va : MV} {bb : Bool} {N : List (List Int)} {A : List Int} {bx id : Nat} {out0 : List Bool} {f : Fr} (hst : USt M0 M vn va bb N A bx id out0 f) (hs0 : UseSound N A out0) (Q : Post)
  (hn : ∀ f' M' out more, USt M0 M' vn va bb N A bx id out f' → X.ev f' (.t q4) = .b more → UseSound N A out → ((more = true ∧ falses out < falses out0) ∨ (more = false ∧ out = out0 ∧ UseClosed N A out0 N.length)) → Q .norm f' M') : Wp fns K34_7 f M Q := by
 have hq1 := hst.q1
 have hq3 := hst.q3
 simp only [q1, q3] at hq1 hq3
 unfold K34_7
 simp (disch := first | omega | assumption) only [↓bxD, bA, reduceCtorEq, hq1, hq3]
 refine Wp_inv (σ := Nat × List Bool × Bool) (fun s f1 M1 => s.1 ≤ N.length ∧ USt M0 M1 vn va bb N A bx id s.2.1 f1 ∧ X.ev f1 (.t q4) = .b s.2.2 ∧ X.ev f1 (.t q5) = .i .i64 (s.1 : Int) ∧ UseSound N A s.2.1 ∧ ((s.2.2 = true ∧ falses s.2.1 < falses out0) ∨ (s.2.2 = false ∧ s.2.1 = out0 ∧ UseClosed N A out0 s.1))) (fun s => N.length - s.1) ?_ (0, out0, false) ?_
 ·clear hq1 hq3
  rintro ⟨i, out, more⟩ f1 M1 ⟨hi, h, h4, h5, hs, hc⟩
  simp only at hi h h4 h5 hs hc
  have hq1 := h.q1
  have hq3 := h.q3
  have hbox := (h.ext.old bx h.bl).trans h.box
  have hol := h.olen
  have hl0 := h.ext.lo
  have hlo := h.lo
  have hid1 := h.id1
  have hid2 := h.id2
  have hbig := h.ok.big
  have hal := h.ok.len
  have hbl := h.bl
  simp only [q1, q3, q4, q5] at hq1 hq3 h4 h5
  have c1 : cget (ofL [vn, va, .b bb] 0) 1 = some va := at_ofL [vn, va, .b bb] 1 _ rfl
  unfold L34_6
  by_cases hi' : i < N.length
  ·have d1 : decide ((i : Int) < (N.length : Int)) = true := decide_eq_true (by omega)
   obtain ⟨z, hz⟩ : ∃ z, A[i]? = some z := ⟨_, List.getElem?_eq_getElem (by omega)⟩
   have hgd : A.getD i (-1) = z := by rw [List.getD_eq_getElem?_getD, hz]; rfl
   have hia := h.ia.ext h.ext
   obtain ⟨a1, a2⟩ := hia.sl
   obtain ⟨ro, sz, t, hg, hid, hC⟩ := hia.read hz
   simp (disch := first | omega | assumption) only [↓bxD, bA, reduceCtorEq, hq1, hq3, h4, h5, d1, hol, len_slc, hbox, c1, a1, a2, hg, hC]
   show Wp fns K34_5 _ _ _
   unfold K34_5
   simp (disch := first | omega | assumption) only [↓bxD, bA, reduceCtorEq, hq1, hq3, h4, h5, d1, hol, len_slc, hbox, c1, a1, a2, hg, hC]
   refine use_in (M0 := M0) (vn := vn) (va := va) (bb := bb) (N := N) (A := A) (bx := bx) (id := id) (i := i) (out := out) (b0 := decide (0 ≤ z)) (more := more) ?_ hi' ?_ ?_ ?_ ?_ _ ?_
   ·exact ⟨h.ext, h.lo, h.mx, h.ia, h.ok, h.box, h.bl, h.id1, h.id2, h.row, h.olen, by simp only [bA, reduceCtorEq, hq1, hq3, h4, h5, d1, hol, len_slc, hbox, c1, a1, a2, hg, hC], by simp only [bA, reduceCtorEq, hq1, hq3, h4, h5, d1, hol, len_slc, hbox, c1, a1, a2, hg, hC]⟩
   ·simp only [bA, reduceCtorEq, hq1, hq3, h4, h5, d1, hol, len_slc, hbox, c1, a1, a2, hg, hC]
   ·simp only [bA, reduceCtorEq, hq1, hq3, h4, h5, d1, hol, len_slc, hbox, c1, a1, a2, hg, hC]
   ·simp only [bA, reduceCtorEq, hq1, hq3, h4, h5, d1, hol, len_slc, hbox, c1, a1, a2, hg, hC]
   ·simp only [bA, reduceCtorEq, hq1, hq3, h4, h5, d1, hol, len_slc, hbox, c1, a1, a2, hg, hC] <;> rfl
   intro f2 b h2 h42 h52 h62 hb
   have hnow : useNow N A out i ↔ b = true := by
    rw [hb]
    unfold useNow
    rw [hgd, decide_eq_true_eq]
   have g1 := h2.q1
   have g3 := h2.q3
   simp only [q1, q3, q4, q5, q6] at g1 g3 h42 h52 h62
   obtain ⟨tb, hb1, hb2, hb3, hb4⟩ := h.row.read
   obtain ⟨bz, hbz⟩ : ∃ x, out[i]? = some x := ⟨_, List.getElem?_eq_getElem (by omega)⟩
   have hR := hb2 _ _ hbz
   have hH := hb3 i (by omega)
   have stay : (b = true → bz = true) → ((more = true ∧ falses out < falses out0) ∨ (more = false ∧ out = out0 ∧ UseClosed N A out0 (i + 1))) := fun hbb => by
    rcases hc with hc | ⟨hc1, hc2, hc3⟩
    ·exact .inl hc
    ·refine .inr ⟨hc1, hc2, fun j hj hu => ?_⟩
     by_cases e : j = i
     ·subst e
      subst hc2
      rw [hbz, hbb (hnow.1 hu)]
     ·exact hc3 j (by omega) hu
   cases b with
   | false =>
    show Wp fns K34_3 _ _ _
    unfold K34_3
    simp (disch := first | omega | assumption) only [↓bxD, bA, reduceCtorEq, g1, g3, h42, h52, h62]
    show Wp fns K34_4 _ _ _
    unfold K34_4
    simp (disch := first | omega | assumption) only [↓bxD, bA, reduceCtorEq, g1, g3, h42, h52, h62]
    exact ⟨(i + 1, out, more), by simp only; omega, by simp only; omega, ⟨h.ext, h.lo, h.mx, h.ia, h.ok, h.box, h.bl, h.id1, h.id2, h.row, h.olen, by simp only [bA, reduceCtorEq, g1, g3, h42, h52, h62], by simp only [bA, reduceCtorEq, g1, g3, h42, h52, h62]⟩, rfl, rfl, hs, stay (fun e => by cases e)⟩
   | true =>
    cases bz with
    | true =>
     show Wp fns K34_3 _ _ _
     unfold K34_3
     simp (disch := first | omega | assumption) only [↓bxD, bA, reduceCtorEq, g1, g3, h42, h52, h62, ix_slc, hb1, hR]
     show Wp fns K34_4 _ _ _
     unfold K34_4
     simp (disch := first | omega | assumption) only [↓bxD, bA, reduceCtorEq, g1, g3, h42, h52, h62, ix_slc, hb1, hR]
     exact ⟨(i + 1, out, more), by simp only; omega, by simp only; omega, ⟨h.ext, h.lo, h.mx, h.ia, h.ok, h.box, h.bl, h.id1, h.id2, h.row, h.olen, by simp only [bA, reduceCtorEq, g1, g3, h42, h52, h62, ix_slc, hb1, hR], by simp only [bA, reduceCtorEq, g1, g3, h42, h52, h62, ix_slc, hb1, hR]⟩, rfl, rfl, hs, stay (fun e => rfl)⟩
    | false =>
     show Wp fns K34_3 _ _ _
     unfold K34_3
     simp (disch := first | omega | assumption | (simp only [bZ, stOk, Nat.reduceBEq, Nat.reduceEqDiff, Nat.reduceAdd] <;> omega) | ((try apply has_setN); apply has_ofL; simp only [bxL]; omega)) only [↓bxD, bA, Nat.reduceBEq, reduceCtorEq, Nat.reduceAdd, Nat.reduceSub, Nat.reduceMul, Nat.reduceLeDiff, Nat.reduceLT, g1, g3, h42, h52, h62, ix_slc, hb1, hR, hH]
     show Wp fns K34_4 _ _ _
     unfold K34_4
     simp (disch := first | omega | assumption) only [↓bxD, bA, reduceCtorEq, g1, g3, h42, h52, h62, ix_slc, hb1, hR, hH]
     refine ⟨(i + 1, out.set i true, true), by simp only; omega, by simp only; omega, ⟨h.ext.set _ (by omega), h.lo, h.mx, h.ia, h.ok, h.box, h.bl, h.id1, by rw [set_n]; omega, ⟨_, set_same _ _, hb4 i true (by omega)⟩, by rw [List.length_set]; exact h.olen, by simp only [bA, reduceCtorEq, g1, g3, h42, h52, h62, ix_slc, hb1, hR, hH], by simp (disch := first | omega | assumption) only [↓bxD, bA, reduceCtorEq, g1, g3, h42, h52, h62, ix_slc, hb1, hR, hH, List.length_set]⟩, rfl, rfl, hs.set (use_now_sound hs hol hi' (hnow.2 rfl)), .inl ⟨rfl, ?_⟩⟩
     have h1 := falses_set hbz
     rcases hc with ⟨_, hc⟩ | ⟨_, rfl, _⟩
     ·exact Nat.lt_trans h1 hc
     ·exact h1
  ·have d1 : decide ((i : Int) < (N.length : Int)) = false := decide_eq_false (by omega)
   have hi2 : i = N.length := by omega
   subst hi2
   simp (disch := first | omega | assumption) only [↓bxD, bA, reduceCtorEq, hq1, hq3, h4, h5, d1, hol, len_slc]
   exact hn _ _ out more ⟨h.ext, h.lo, h.mx, h.ia, h.ok, h.box, h.bl, h.id1, h.id2, h.row, h.olen, by simp only [bA, reduceCtorEq, hq1, hq3, h4, h5, d1, hol, len_slc], by simp only [bA, reduceCtorEq, hq1, hq3, h4, h5, d1, hol, len_slc]⟩ (by simp only [bA, reduceCtorEq, hq1, hq3, h4, h5, d1, hol, len_slc]) hs hc
 ·exact ⟨Nat.zero_le _, ⟨hst.ext, hst.lo, hst.mx, hst.ia, hst.ok, hst.box, hst.bl, hst.id1, hst.id2, hst.row, hst.olen, by simp only [bA, reduceCtorEq, hq1, hq3], by simp only [bA, reduceCtorEq, hq1, hq3]⟩, by simp only [bA, reduceCtorEq, hq1, hq3], by simp only [bA, reduceCtorEq, hq1, hq3] <;> rfl, hs0, .inr ⟨rfl, rfl, fun j hj => absurd hj (Nat.not_lt_zero j)⟩⟩
def UseVec (N : List (List Int)) (A : List Int) (out : List Bool) : Prop := out.length = N.length ∧ ∀ i, out[i]? = some true ↔ UseI N A i
theorem useful_any {M : MH} {m : MV} {N : List (List Int)} {A : List Int} (hlo : M.lo ≤ M.n) (h : RawAt M m N A) (hok : RawOk N A) : Cp fns 34 [m] M fun r M' => Ext M M' ∧ ∃ out id, UseVec N A out ∧ r = .sl id 0 out.length 0 ∧ BoolsAt M' id out ∧ M.n ≤ id ∧ id < M'.n := by
 obtain ⟨vn, va, b, rfl, hN, hA⟩ := h.ag
 obtain ⟨a1, a2⟩ := hA.sl
 have hl := hok.len
 have hbig := hok.big
 refine Cp_call (fn := F34) (by kernel_rfl) (Nat.le_of_ble_eq_true rfl) ?_
 show Wp fns B34 (T.set q0 (some (.ag [vn, va, .b b])) T.lf) M _
 have hU : isU (.ag [vn, va, .b b]) = false := rfl
 have hc3 : MV.cells (.ag [vn, va, .b b]) = [vn, va, .b b] := rfl
 have c1 : cget (ofL [vn, va, .b b] 0) 1 = some va := at_ofL [vn, va, .b b] 1 _ rfl
 unfold B34
 generalize hM1 : M.push (.cs false 3 (ofL [vn, va, .b b] 0)) = M1
 have x1 : Ext M M1 := by rw [← hM1]; exact .push M _
 have g1 : M1.get M.n = some (.cs false 3 (ofL [vn, va, .b b] 0)) := by rw [← hM1]; exact push_new _
 have n1 : M1.n = M.n + 1 := by rw [← hM1]; rfl
 have l1 := x1.lo
 simp (disch := first | omega | assumption) only [↓bxD, bA, reduceCtorEq, hU, hc3, hM1, g1, c1, a1, a2, ev_mks, mks_ok]
 have hbn := BoolsAt.new (M := M1) A.length
 have x2 : Ext M1 (M1.push (.cs false 1 (ofL (zrow [.b false] A.length) 0))) := .push M1 _
 have n2 : (M1.push (.cs false 1 (ofL (zrow [.b false] A.length) 0))).n = M1.n + 1 := rfl
 generalize M1.push (.cs false 1 (ofL (zrow [.b false] A.length) 0)) = M2 at hbn x2 n2
 refine Wp_inv (σ := List Bool × Bool) (fun s f M' => USt M1 M' vn va b N A M.n M1.n s.1 f ∧ X.ev f (.t q4) = .b s.2 ∧ UseSound N A s.1 ∧ (s.2 = false → UseClosed N A s.1 N.length)) (fun s => 2 * falses s.1 + (if s.2 = true then 1 else 0)) ?_ (List.replicate A.length false, true) ?_
 ·rintro ⟨l, more⟩ f1 M4 ⟨h4, ht, hs, hc⟩
  simp only at h4 ht hs hc
  have hq1 := h4.q1
  have hq3 := h4.q3
  simp only [q1, q3, q4] at hq1 hq3 ht
  unfold L34_8
  cases more with
  | true =>
   simp (disch := first | omega | assumption) only [↓bxD, bA, reduceCtorEq, hq1, hq3, ht]
   show Wp fns K34_7 _ _ _
   refine use_round (M0 := M1) (vn := vn) (va := va) (bb := b) (N := N) (A := A) (bx := M.n) (id := M1.n) (out0 := l) ?_ hs _ ?_
   ·exact ⟨h4.ext, h4.lo, h4.mx, h4.ia, h4.ok, h4.box, h4.bl, h4.id1, h4.id2, h4.row, h4.olen, by simp only [bA, reduceCtorEq, hq1, hq3, ht], by simp only [bA, reduceCtorEq, hq1, hq3, ht]⟩
   intro f' M' l' more' h' h4' hs' hcase
   refine ⟨(l', more'), ?_, h', h4', hs', fun e => ?_⟩
   ·rcases hcase with ⟨rfl, hlt⟩ | ⟨rfl, rfl, _⟩
    ·simp only [if_true]; omega
    ·simp
   ·rcases hcase with ⟨rfl, _⟩ | ⟨_, rfl, hc'⟩
    ·cases e
    ·exact hc'
  | false =>
   simp (disch := first | omega | assumption) only [↓bxD, bA, reduceCtorEq, hq1, hq3, ht]
   show Wp fns K34_9 _ _ _
   unfold K34_9
   simp (disch := first | omega | assumption) only [↓bxD, bA, reduceCtorEq, hq1, hq3, ht]
   exact ⟨x1.trans h4.ext, l, M1.n, ⟨h4.olen, fun i => ⟨hs i, use_all (hc rfl)⟩⟩, rfl, h4.row, by omega, h4.id2⟩
 ·refine ⟨⟨x2, by omega, hN.ext x1, hA.ext x1, hok, g1, by omega, Nat.le_refl _, by omega, hbn, by rw [List.length_replicate]; exact hl, by simp only [bA, reduceCtorEq, hU, hc3, hM1, g1, c1, a1, a2, ev_mks, mks_ok], by simp (disch := first | omega | assumption) only [↓bxD, bA, reduceCtorEq, hU, hc3, hM1, g1, c1, a1, a2, ev_mks, mks_ok, List.length_replicate]⟩, by simp only [bA, reduceCtorEq, hU, hc3, hM1, g1, c1, a1, a2, ev_mks, mks_ok], fun a e => ?_, fun e => by cases e⟩
  rw [List.getElem?_replicate] at e
  split at e <;> cases e
structure DSt (lo : Nat) (M : MH) (b6 : Nat) (v5 vn va : MV) (ids : List Nat) (ord : List Nat) (N : List (List Int)) (A : List Int) : Prop where
 r5 : OwnRow lo M 1 v5 (nv ord)
 rn : OwnRow lo M 1 vn (ids.map fun id => [MV.sl id 0 256 0])
 ra : OwnRow lo M 1 va (ints A)
 li : ids.length = N.length
 nd : ids.Nodup
 mx : ∀ (i id : Nat) l, ids[i]? = some id → N[i]? = some l → IntsAt M id l ∧ l.length = 256 ∧ lo ≤ id ∧ id < M.n
 box : ∃ t, M.get b6 = some (.cs false 2 t) ∧ At t 0 [vn, va]
 bx : lo ≤ b6 ∧ b6 < M.n
 d5n : ∀ a, obj v5 = some a → obj vn ≠ some a
 d5a : ∀ a, obj v5 = some a → obj va ≠ some a
 dna : ∀ a, obj vn = some a → obj va ≠ some a
 d5i : ∀ a ∈ ids, obj v5 ≠ some a
 dni : ∀ a ∈ ids, obj vn ≠ some a
 dai : ∀ a ∈ ids, obj va ≠ some a
def FootD (b6 : Nat) (v5 vn va : MV) (ids : List Nat) (j : Nat) : Prop := obj v5 = some j ∨ obj vn = some j ∨ obj va = some j ∨ j ∈ ids ∨ j = b6
variable {lo : Nat} {M M' : MH} {b6 : Nat} {v5 vn va : MV} {ids : List Nat} {ord : List Nat} {N : List (List Int)} {A : List Int}
theorem DSt.foot_lt (h : DSt lo M b6 v5 vn va ids ord N A) {j : Nat} (hj : FootD b6 v5 vn va ids j) : lo ≤ j ∧ j < M.n := by
 rcases hj with hj | hj | hj | hj | rfl
 ·obtain ⟨a, b, _⟩ := own_obj h.r5 hj; exact ⟨a, b⟩
 ·obtain ⟨a, b, _⟩ := own_obj h.rn hj; exact ⟨a, b⟩
 ·obtain ⟨a, b, _⟩ := own_obj h.ra hj; exact ⟨a, b⟩
 ·obtain ⟨i, hi⟩ := List.getElem?_of_mem hj
  have hil := (List.getElem?_eq_some_iff.1 hi).1
  have hl := h.li
  obtain ⟨_, _, a, b⟩ := h.mx i j _ hi (List.getElem?_eq_getElem (by omega))
  exact ⟨a, b⟩
 ·exact h.bx
theorem DSt.keep (h : DSt lo M b6 v5 vn va ids ord N A) (hn : M.n ≤ M'.n) (hk : ∀ j, FootD b6 v5 vn va ids j → M'.get j = M.get j) : DSt lo M' b6 v5 vn va ids ord N A := by
 refine ⟨own_keep h.r5 hn fun j e => hk j (.inl e), own_keep h.rn hn fun j e => hk j (.inr (.inl e)), own_keep h.ra hn fun j e => hk j (.inr (.inr (.inl e))), h.li, h.nd, fun i id l h1 h2 => ?_, ?_, ⟨h.bx.1, by have := h.bx.2; omega⟩, h.d5n, h.d5a, h.dna, h.d5i, h.dni, h.dai⟩
 ·obtain ⟨a, b, c, d⟩ := h.mx i id l h1 h2
  exact ⟨a.same (hk id (.inr (.inr (.inr (.inl (List.mem_of_getElem? h1)))))), b, c, by omega⟩
 ·obtain ⟨t, a, b⟩ := h.box
  exact ⟨t, (hk b6 (.inr (.inr (.inr (.inr rfl))))).trans a, b⟩
theorem DSt.ext (h : DSt lo M b6 v5 vn va ids ord N A) (k : Ext M M') : DSt lo M' b6 v5 vn va ids ord N A := h.keep k.n fun j hj => k.old j (h.foot_lt hj).2
theorem DSt.push5 (h : DSt lo M b6 v5 vn va ids ord N A) (hlo : M.lo ≤ lo) (hln : lo ≤ M.n) (z : Nat) (hbig : ord.length ≤ 1000) :
  ∃ v' M', appM (M.push (.cs false 1 (ofL [MV.i .i64 (z : Int)] 0))) 1 8 v5 (.sl M.n 0 1 0) = some (v', M') ∧ DSt lo M' b6 v' vn va ids (ord ++ [z]) N A ∧ M.n + 1 ≤ M'.n ∧ M'.lo = M.lo ∧ isSl v' = true ∧ (∀ j, j < M.n → obj v5 ≠ some j → M'.get j = M.get j) ∧ ∀ j, j < M.n → ¬ FootD b6 v5 vn va ids j → ¬ FootD b6 v' vn va ids j := by
 obtain ⟨v', M', a, b, c, d, e, e2, f⟩ := app_obj (bytes := 8) (e := [MV.i .i64 (z : Int)]) h.r5 hlo hln rfl rfl (by rw [nv_len]; omega) (by rw [nv_len]; omega)
 have dn : ∀ j sz t, M.get j = some (.cs false sz t) → sz ≠ 1 → obj v5 ≠ some j := fun j sz t hg hs e => by
  obtain ⟨_, _, c', hc⟩ := own_obj h.r5 e
  rw [hg] at hc
  injection hc with hc
  injection hc with _ hc
  exact hs hc
 refine ⟨v', M', a, ⟨by rw [nv_app]; exact b, own_keep h.rn (by omega) fun j e' => ?_, own_keep h.ra (by omega) fun j e' => ?_, h.li, h.nd, fun i id y h1 h2 => ?_, ?_, ⟨h.bx.1, by have := h.bx.2; omega⟩, fun x hx hx' => ?_, fun x hx hx' => ?_, h.dna, fun x hx hx' => ?_, h.dni, h.dai⟩, c, d, e2, f, fun j hj hnf hf => ?_⟩
 ·obtain ⟨p1, p2, _⟩ := own_obj h.rn e'
  exact f j p2 (fun e5 => h.d5n j e5 e')
 ·obtain ⟨p1, p2, _⟩ := own_obj h.ra e'
  exact f j p2 (fun e5 => h.d5a j e5 e')
 ·obtain ⟨p1, p2, p3, p4⟩ := h.mx i id y h1 h2
  exact ⟨p1.same (f id p4 (h.d5i id (List.mem_of_getElem? h1))), p2, p3, by omega⟩
 ·obtain ⟨t, p1, p2⟩ := h.box
  exact ⟨t, (f b6 h.bx.2 (dn b6 2 t p1 (by decide))).trans p1, p2⟩
 ·rw [e] at hx
  injection hx with hx
  obtain ⟨_, p2, _⟩ := own_obj h.rn hx'
  omega
 ·rw [e] at hx
  injection hx with hx
  obtain ⟨_, p2, _⟩ := own_obj h.ra hx'
  omega
 ·rw [e] at hx'
  injection hx' with hx'
  have := (h.foot_lt (.inr (.inr (.inr (.inl hx))))).2
  omega
 ·rcases hf with hf | hf | hf | hf | hf
  ·rw [e] at hf; injection hf with hf; omega
  ·exact hnf (.inr (.inl hf))
  ·exact hnf (.inr (.inr (.inl hf)))
  ·exact hnf (.inr (.inr (.inr (.inl hf))))
  ·exact hnf (.inr (.inr (.inr (.inr hf))))
theorem DSt.pushN (h : DSt lo M b6 v5 vn va ids ord N A) (hlo : M.lo ≤ lo) (hln : lo ≤ M.n) {id : Nat} {L : List Int} (hI : IntsAt M id L) (hL : L.length = 256) (hid : lo ≤ id ∧ id < M.n) (hnf : ¬ FootD b6 v5 vn va ids id) (hbig : N.length ≤ 1000) :
  ∃ v' M' t, appM (M.push (.cs false 1 (ofL [MV.sl id 0 256 0] 0))) 1 24 vn (.sl M.n 0 1 0) = some (v', M') ∧ M'.get b6 = some (.cs false 2 t) ∧ hasB t 1 0 = true ∧ M.n + 1 ≤ M'.n ∧ M'.lo = M.lo ∧ isSl v' = true ∧ (∀ j, j < M.n → obj vn ≠ some j → M'.get j = M.get j) ∧ DSt lo (M'.set b6 (some (.cs false 2 (setN [v'] 0 t)))) b6 v5 v' va (ids ++ [id]) ord (N ++ [L]) A := by
 have hli := h.li
 obtain ⟨v', M', a, b, c, d, e, e2, f⟩ := app_obj (bytes := 24) (e := [MV.sl id 0 256 0]) h.rn hlo hln rfl rfl (by rw [List.length_map]; omega) (by rw [List.length_map]; omega)
 have dn : ∀ j sz t, M.get j = some (.cs false sz t) → sz ≠ 1 → obj vn ≠ some j := fun j sz t hg hs e => by
  obtain ⟨_, _, c', hc⟩ := own_obj h.rn e
  rw [hg] at hc
  injection hc with hc
  injection hc with _ hc
  exact hs hc
 obtain ⟨t, p1, p2⟩ := h.box
 have hb6 := h.bx
 have hg6 := (f b6 hb6.2 (dn b6 2 t p1 (by decide))).trans p1
 have sz1 : ∀ j t', M.get j = some (.cs false 1 t') → j ≠ b6 := fun j t' hg e => by
  subst e
  rw [p1] at hg
  injection hg with hg
  injection hg with _ hg
  cases hg
 have kp : ∀ j, j < M.n → obj vn ≠ some j → j ≠ b6 → (M'.set b6 (some (.cs false 2 (setN [v'] 0 t)))).get j = M.get j := fun j hj hv hb => by rw [set_ne hb]; exact f j hj hv
 refine ⟨v', M', t, a, hg6, has_at p2 (Nat.le_refl _) (by simp), c, d, e2, f, ⟨own_keep h.r5 (by rw [set_n]; omega) fun j e' => ?_, ?_, own_keep h.ra (by rw [set_n]; omega) fun j e' => ?_, by rw [List.length_append, List.length_append, hli]; rfl, ?_, fun i x y h1 h2 => ?_, ⟨_, set_same _ _, ?_⟩, ⟨hb6.1, by rw [set_n]; omega⟩, fun x hx hx' => ?_, h.d5a, fun x hx hx' => ?_, fun x hx hx' => ?_, fun x hx hx' => ?_, fun x hx hx' => ?_⟩⟩
 ·obtain ⟨q1, q2, q3, q4⟩ := own_obj h.r5 e'
  exact kp j q2 (h.d5n j e') (sz1 j q3 q4)
 ·refine own_keep (M := M') (by rw [List.map_append]; exact b) (Nat.le_refl _) fun j e' => set_ne ?_
  rw [e] at e'
  injection e' with e'
  omega
 ·obtain ⟨q1, q2, q3, q4⟩ := own_obj h.ra e'
  exact kp j q2 (fun en => h.dna j en e') (sz1 j q3 q4)
 ·rw [List.nodup_append]
  refine ⟨h.nd, by simp, fun x hx y hy e => ?_⟩
  rw [List.mem_singleton.1 hy] at e
  subst e
  exact hnf (.inr (.inr (.inr (.inl hx))))
 ·have key : ∀ id l, IntsAt M id l → id < M.n → obj vn ≠ some id → IntsAt (M'.set b6 (some (.cs false 2 (setN [v'] 0 t)))) id l := fun id l hI hid hv => by
   obtain ⟨c', hc⟩ : ∃ c', M.get id = some (.cs false 1 c') := let ⟨c', q, _⟩ := hI; ⟨c', q⟩
   exact hI.same (kp id hid hv (sz1 id c' hc))
  by_cases hk : i < ids.length
  ·rw [List.getElem?_append_left hk] at h1
   rw [List.getElem?_append_left (by omega)] at h2
   obtain ⟨q1, q2, q3, q4⟩ := h.mx i x y h1 h2
   exact ⟨key x y q1 q4 (h.dni x (List.mem_of_getElem? h1)), q2, q3, by rw [set_n]; omega⟩
  ·rw [List.getElem?_append_right (by omega)] at h1 h2
   have hk0 : i - ids.length = 0 := by
    have := (List.getElem?_eq_some_iff.1 h1).1
    simp at this
    omega
   rw [hk0] at h1
   rw [← hli, hk0] at h2
   simp only [List.getElem?_cons_zero, Option.some.injEq] at h1 h2
   subst h1 h2
   exact ⟨key _ _ hI hid.2 (fun e' => hnf (.inr (.inl e'))), hL, hid.1, by rw [set_n]; omega⟩
 ·exact p2.set' 0 v' (by simp) (k := 0) rfl
 ·rw [e] at hx'
  injection hx' with hx'
  obtain ⟨_, q2, _⟩ := own_obj h.r5 hx
  omega
 ·rw [e] at hx
  injection hx with hx
  obtain ⟨_, q2, _⟩ := own_obj h.ra hx'
  omega
 ·rcases List.mem_append.1 hx with hx | hx
  ·exact h.d5i x hx hx'
  ·rw [List.mem_singleton.1 hx] at hx'
   exact hnf (.inl hx')
 ·rw [e] at hx'
  injection hx' with hx'
  rcases List.mem_append.1 hx with hx | hx
  ·have := (h.foot_lt (.inr (.inr (.inr (.inl hx))))).2
   omega
  ·rw [List.mem_singleton.1 hx] at hx'
   omega
 ·rcases List.mem_append.1 hx with hx | hx
  ·exact h.dai x hx hx'
  ·rw [List.mem_singleton.1 hx] at hx'
   exact hnf (.inr (.inr (.inl hx')))
theorem DSt.pushA (h : DSt lo M b6 v5 vn va ids ord N A) (hlo : M.lo ≤ lo) (hln : lo ≤ M.n) (z : Int) (hbig : A.length ≤ 1000) :
  ∃ v' M' t, appM (M.push (.cs false 1 (ofL [MV.i .i64 z] 0))) 1 8 va (.sl M.n 0 1 0) = some (v', M') ∧ M'.get b6 = some (.cs false 2 t) ∧ hasB t 1 1 = true ∧ M.n + 1 ≤ M'.n ∧ M'.lo = M.lo ∧ isSl v' = true ∧ (∀ j, j < M.n → obj va ≠ some j → M'.get j = M.get j) ∧ DSt lo (M'.set b6 (some (.cs false 2 (setN [v'] 1 t)))) b6 v5 vn v' ids ord N (A ++ [z]) := by
 have hli := h.li
 obtain ⟨v', M', a, b, c, d, e, e2, f⟩ := app_obj (bytes := 8) (e := [MV.i .i64 z]) h.ra hlo hln rfl rfl (by rw [ints_len]; omega) (by rw [ints_len]; omega)
 have dn : ∀ j sz t, M.get j = some (.cs false sz t) → sz ≠ 1 → obj va ≠ some j := fun j sz t hg hs e => by
  obtain ⟨_, _, c', hc⟩ := own_obj h.ra e
  rw [hg] at hc
  injection hc with hc
  injection hc with _ hc
  exact hs hc
 obtain ⟨t, p1, p2⟩ := h.box
 have hb6 := h.bx
 have hg6 := (f b6 hb6.2 (dn b6 2 t p1 (by decide))).trans p1
 have sz1 : ∀ j t', M.get j = some (.cs false 1 t') → j ≠ b6 := fun j t' hg e => by
  subst e
  rw [p1] at hg
  injection hg with hg
  injection hg with _ hg
  cases hg
 have kp : ∀ j, j < M.n → obj va ≠ some j → j ≠ b6 → (M'.set b6 (some (.cs false 2 (setN [v'] 1 t)))).get j = M.get j := fun j hj hv hb => by rw [set_ne hb]; exact f j hj hv
 refine ⟨v', M', t, a, hg6, has_at p2 (Nat.zero_le _) (by simp), c, d, e2, f, ⟨own_keep h.r5 (by rw [set_n]; omega) fun j e' => ?_, own_keep h.rn (by rw [set_n]; omega) fun j e' => ?_, ?_, h.li, h.nd, fun i x y h1 h2 => ?_, ⟨_, set_same _ _, ?_⟩, ⟨hb6.1, by rw [set_n]; omega⟩, h.d5n, fun x hx hx' => ?_, fun x hx hx' => ?_, h.d5i, h.dni, fun x hx hx' => ?_⟩⟩
 ·obtain ⟨q1, q2, q3, q4⟩ := own_obj h.r5 e'
  exact kp j q2 (h.d5a j e') (sz1 j q3 q4)
 ·obtain ⟨q1, q2, q3, q4⟩ := own_obj h.rn e'
  exact kp j q2 (h.dna j e') (sz1 j q3 q4)
 ·refine own_keep (M := M') (by rw [ints_one]; exact b) (Nat.le_refl _) fun j e' => set_ne ?_
  rw [e] at e'
  injection e' with e'
  omega
 ·obtain ⟨q1, q2, q3, q4⟩ := h.mx i x y h1 h2
  obtain ⟨c', hc⟩ : ∃ c', M.get x = some (.cs false 1 c') := let ⟨c', q, _⟩ := q1; ⟨c', q⟩
  exact ⟨q1.same (kp x q4 (h.dai x (List.mem_of_getElem? h1)) (sz1 x c' hc)), q2, q3, by rw [set_n]; omega⟩
 ·exact p2.set' 1 v' (by simp) (k := 1) rfl
 ·rw [e] at hx'
  injection hx' with hx'
  obtain ⟨_, q2, _⟩ := own_obj h.r5 hx
  omega
 ·rw [e] at hx'
  injection hx' with hx'
  obtain ⟨_, q2, _⟩ := own_obj h.rn hx
  omega
 ·rw [e] at hx'
  injection hx' with hx'
  have := (h.foot_lt (.inr (.inr (.inr (.inl hx))))).2
  omega
end Go.Proofs.Ythklpecigkdkiaa.K
set_option linter.unusedSimpArgs false
set_option linter.unusedVariables false
namespace Go.Proofs.Ythklpecigkdkiaa.K
open Go Ev
set_option maxRecDepth 100000
set_option maxHeartbeats 4000000

def prC (out : List Bool) (z : Int) : Int := if 0 ≤ z ∧ bAt out z.toNat = false then -1 else z
structure Shape (N : List (List Int)) (n : Nat) : Prop where
 len : N.length = n
 row : ∀ l ∈ N, l.length = 256
theorem cell_get {N : List (List Int)} {n : Nat} (h : Shape N n) {i c : Nat} (hi : i < n) (hc : c < 256) : ∃ l, N[i]? = some l ∧ l.length = 256 ∧ l[c]? = some (cellN N i c) := by
 have hil : i < N.length := by have := h.len; omega
 have hl := List.getElem?_eq_getElem hil
 have hm := List.mem_of_getElem? hl
 have h1 := h.row _ hm
 refine ⟨_, hl, h1, ?_⟩
 unfold cellN
 rw [List.getD_eq_getElem?_getD (l := N), hl, Option.getD_some, List.getD_eq_getElem?_getD, List.getElem?_eq_getElem (by omega)]
 rfl
theorem cell_set {N : List (List Int)} {n : Nat} (h : Shape N n) {i c : Nat} {l : List Int} (hl : N[i]? = some l) (hc : c < 256) (z : Int) (i' c' : Nat) : cellN (N.set i (l.set c z)) i' c' = if i' = i ∧ c' = c then z else cellN N i' c' := by
 have hil := (List.getElem?_eq_some_iff.1 hl).1
 have hll := h.row l (List.mem_of_getElem? hl)
 unfold cellN
 rw [List.getD_eq_getElem?_getD (l := N.set i _), List.getElem?_set, List.getD_eq_getElem?_getD (l := N)]
 by_cases e : i = i'
 ·subst e
  rw [if_pos rfl, if_pos hil, hl]
  simp only [Option.getD_some, true_and]
  rw [List.getD_eq_getElem?_getD, List.getElem?_set, List.getD_eq_getElem?_getD]
  by_cases e2 : c = c'
  ·subst e2; simp [hll, hc]
  ·rw [if_neg e2, if_neg (fun e' => e2 e'.symm)]
 ·rw [if_neg e, if_neg (fun e' => e e'.1.symm)]
theorem shape_set {N : List (List Int)} {n : Nat} (h : Shape N n) {i c : Nat} {l : List Int} (hl : N[i]? = some l) (z : Int) : Shape (N.set i (l.set c z)) n := by
 refine ⟨by rw [List.length_set]; exact h.len, fun x hx => ?_⟩
 rcases List.mem_or_eq_of_mem_set hx with hx | hx
 ·exact h.row x hx
 ·rw [hx, List.length_set]; exact h.row l (List.mem_of_getElem? hl)
structure PrSt (M0 M : MH) (b5 : Nat) (vn va : MV) (ids : List Nat) (N : List (List Int)) (A : List Int) (out : List Bool) (id6 n : Nat) (f : Fr) : Prop where
 ext : Ext M0 M
 lo : M0.lo ≤ M0.n
 mo : MOwn M0.n M vn ids N
 ra : OwnRow M0.n M 1 va (ints A)
 dai : ∀ a ∈ ids, obj va ≠ some a
 box : ∃ t, M.get b5 = some (.cs false 3 t) ∧ At t 0 [vn, va, .b false]
 bx : M0.n ≤ b5 ∧ b5 < M.n
 b2 : ∃ t, M.get M0.n = some (.cs false 2 t) ∧ hasB t 2 0 = true
 b2n : M0.n < M.n
 ob : BoolsAt M id6 out
 o6 : id6 < M.n
 oi : id6 ∉ ids
 sh : Shape N n
 olen : out.length = n
 big : n ≤ 400
 q2 : X.ev f (.t q2) = .p M0.n 0
 q5 : X.ev f (.t q5) = .p b5 0
 q6 : X.ev f (.t q6) = .sl id6 0 out.length 0
theorem MOwn.set {lo : Nat} {M : MH} {vn : MV} {ids : List Nat} {N : List (List Int)} (h : MOwn lo M vn ids N) {i id : Nat} {l : List Int} (hid : ids[i]? = some id) (hl : N[i]? = some l) {t : T MV} {l' : List Int} (hat : At t 0 (l'.map (MV.i .i64))) (hl' : l'.length = 256) : MOwn lo (M.set id (some (.cs false 1 t))) vn ids (N.set i l') := by
 have hil := (List.getElem?_eq_some_iff.1 hl).1
 refine ⟨own_keep h.rn (by rw [set_n]; exact Nat.le_refl _) fun j e => set_ne fun e' => h.dn id (List.mem_of_getElem? hid) (e' ▸ e), by rw [List.length_set]; exact h.li, h.nd, fun i2 id2 l2 h1 h2 => ?_, h.dn⟩
 rw [List.getElem?_set] at h2
 by_cases e : i = i2
 ·subst e
  rw [if_pos rfl, if_pos hil] at h2
  injection h2 with h2
  subst h2
  rw [hid] at h1
  injection h1 with h1
  subst h1
  obtain ⟨_, _, y3, y4⟩ := h.mx i id l hid hl
  exact ⟨⟨_, set_same _ _, hat⟩, hl', y3, by rw [set_n]; exact y4⟩
 ·rw [if_neg e] at h2
  obtain ⟨y1, y2, y3, y4⟩ := h.mx i2 id2 l2 h1 h2
  refine ⟨y1.same (set_ne fun e' => e ?_), y2, y3, by rw [set_n]; exact y4⟩
  have h1' := (List.getElem?_eq_some_iff.1 h1)
  have hid' := (List.getElem?_eq_some_iff.1 hid)
  obtain ⟨p1, p2⟩ := h1'
  obtain ⟨p3, p4⟩ := hid'
  exact (List.getElem_inj h.nd).1 (by rw [p4, p2, e'])
theorem prune_in {M0 M : MH} {b5 id6 n i : Nat} {vn va : MV} {ids : List Nat} {N : List (List Int)} {A : List Int} {out : List Bool} {f : Fr} (hst : PrSt M0 M b5 vn va ids N A out id6 n f) (hi : i < n) (hto : ∀ c, c < 256 → -1 ≤ cellN N i c ∧ cellN N i c < n) (h7 : X.ev f (.t q7) = .i .i64 (i : Int)) (h8 : X.ev f (.t q8) = .i .i64 0) (Q : Post)
  (hn : ∀ f' M' N', PrSt M0 M' b5 vn va ids N' A out id6 n f' → X.ev f' (.t q7) = .i .i64 (i : Int) → (∀ i' c', cellN N' i' c' = if i' = i ∧ c' < 256 then prC out (cellN N i' c') else cellN N i' c') → Q .norm f' M') : Wp fns (.loop L16_2) f M (blockQ 2 Q) := by
 refine Wp_inv (σ := Nat × List (List Int)) (fun s f1 M1 => s.1 ≤ 256 ∧ PrSt M0 M1 b5 vn va ids s.2 A out id6 n f1 ∧ X.ev f1 (.t q7) = .i .i64 (i : Int) ∧ X.ev f1 (.t q8) = .i .i64 (s.1 : Int) ∧ ∀ i' c', cellN s.2 i' c' = if i' = i ∧ c' < s.1 then prC out (cellN N i' c') else cellN N i' c') (fun s => 256 - s.1) ?_ (0, N) ?_
 ·clear hst h7 h8
  rintro ⟨c, N1⟩ f1 M1 ⟨hc, h, h7, h8, hcell⟩
  simp only at hc h h7 h8 hcell
  have g2 := h.q2
  have g5 := h.q5
  have g6 := h.q6
  simp only [q2, q5, q6, q7, q8] at g2 g5 g6 h7 h8
  have hx := h.ext
  have hxl := hx.lo
  have hlo := h.lo
  have hol := h.olen
  unfold L16_2
  by_cases hcc : c < 256
  ·have d1 : decide ((c : Int) < 256) = true := decide_eq_true (by omega)
   obtain ⟨tb, hb1, hb2⟩ := h.box
   have cb0 : cget tb 0 = some vn := hb2 0 _ rfl
   obtain ⟨li, hli, hlil, hlic⟩ := cell_get h.sh hi hcc
   obtain ⟨n1, n2⟩ := h.mo.rn.row.sl
   rw [List.length_map] at n2
   have hml := h.mo.li
   have hshl := h.sh.len
   obtain ⟨id, hid⟩ : ∃ id, ids[i]? = some id := ⟨_, List.getElem?_eq_getElem (by omega)⟩
   obtain ⟨y1, y2, y3, y4⟩ := h.mo.mx i id li hid hli
   obtain ⟨ro, sz, t, hg, _, hat⟩ := h.mo.rn.row.read (i := i) (e := [.sl id 0 256 0]) (by rw [List.getElem?_map, hid]; rfl)
   have hcv : cget t (soff vn + i * 1) = some (.sl id 0 256 0) := hat 0 _ rfl
   obtain ⟨ti, ht1, ht2, ht3, ht4⟩ := y1.read
   have hR := ht2 _ _ hlic
   have hH := ht3 c (by omega)
   have hzc : cellN N1 i c = cellN N i c := by
    rw [hcell, if_neg (by omega)]
   have hzb := hto c hcc
   have hil : i < ids.length := by omega
   rw [hzc] at hR
   have stay : (∀ z, z = cellN N i c → prC out z = z) → ∀ i' c', cellN N1 i' c' = if i' = i ∧ c' < c + 1 then prC out (cellN N i' c') else cellN N i' c' := fun hz i' c' => by
    rw [hcell]
    by_cases e : i' = i ∧ c' = c
    ·obtain ⟨rfl, rfl⟩ := e
     rw [if_neg (by omega), if_pos (by omega), hz _ rfl]
    ·by_cases e2 : i' = i ∧ c' < c
     ·rw [if_pos e2, if_pos (by omega)]
     ·rw [if_neg e2, if_neg (by omega)]
   generalize hz : cellN N i c = z at *
   by_cases z0 : 0 ≤ z
   ·have dz : decide (0 ≤ z) = true := decide_eq_true z0
    obtain ⟨zn, rfl⟩ : ∃ n : Nat, z = n := ⟨z.toNat, by omega⟩
    obtain ⟨bz, hbz⟩ : ∃ x, out[zn]? = some x := ⟨_, List.getElem?_eq_getElem (by omega)⟩
    obtain ⟨to, hu1, hu2, hu3, hu4⟩ := h.ob.read
    have hRo := hu2 _ _ hbz
    cases bz with
    | true =>
     have hpr : prC out (zn : Int) = zn := by unfold prC; rw [Int.toNat_natCast, bAt_some hbz, if_neg (by simp)]
     simp (disch := first | omega | assumption) only [↓bxD, bA, reduceCtorEq, g2, g5, g6, h7, h8, d1, hb1, cb0, n1, n2, hg, hcv, ix_slc, ht1, hR, dz, hu1, hRo]
     show Wp fns K16_1 _ _ _
     unfold K16_1
     simp (disch := first | omega | assumption) only [↓bxD, bA, reduceCtorEq, g2, g5, g6, h7, h8, d1, hb1, cb0, n1, n2, hg, hcv, ix_slc, ht1, hR, dz, hu1, hRo]
     show Wp fns K16_0 _ _ _
     unfold K16_0
     simp (disch := first | omega | assumption) only [↓bxD, bA, reduceCtorEq, g2, g5, g6, h7, h8, d1, hb1, cb0, n1, n2, hg, hcv, ix_slc, ht1, hR, dz, hu1, hRo]
     exact ⟨(c + 1, N1), by simp only; omega, by simp only; omega, ⟨h.ext, h.lo, h.mo, h.ra, h.dai, h.box, h.bx, h.b2, h.b2n, h.ob, h.o6, h.oi, h.sh, h.olen, h.big, by simp only [bA, reduceCtorEq, g2, g5, g6, h7, h8, d1, hb1, cb0, n1, n2, hg, hcv, ix_slc, ht1, hR, dz, hu1, hRo], by simp only [bA, reduceCtorEq, g2, g5, g6, h7, h8, d1, hb1, cb0, n1, n2, hg, hcv, ix_slc, ht1, hR, dz, hu1, hRo], by simp only [bA, reduceCtorEq, g2, g5, g6, h7, h8, d1, hb1, cb0, n1, n2, hg, hcv, ix_slc, ht1, hR, dz, hu1, hRo]⟩, rfl, stay (fun z e => by rw [e]; exact hpr)⟩
    | false =>
     have hpr : prC out (zn : Int) = -1 := by unfold prC; rw [Int.toNat_natCast, bAt_some hbz, if_pos ⟨by omega, rfl⟩]
     simp (disch := first | omega | assumption) only [↓bxD, bA, reduceCtorEq, g2, g5, g6, h7, h8, d1, hb1, cb0, n1, n2, hg, hcv, ix_slc, ht1, hR, dz, hu1, hRo, hH]
     show Wp fns K16_1 _ _ _
     unfold K16_1
     simp (disch := first | omega | assumption | (simp only [bZ, stOk, Nat.reduceBEq, Nat.reduceEqDiff, Nat.reduceAdd] <;> omega) | ((try apply has_setN); apply has_ofL; simp only [bxL]; omega)) only [↓bxD, bA, Nat.reduceBEq, reduceCtorEq, Nat.reduceAdd, Nat.reduceSub, Nat.reduceMul, Nat.reduceLeDiff, Nat.reduceLT, g2, g5, g6, h7, h8, d1, hb1, cb0, n1, n2, hg, hcv, ix_slc, ht1, hR, dz, hu1, hRo, hH]
     show Wp fns K16_0 _ _ _
     unfold K16_0
     simp (disch := first | omega | assumption) only [↓bxD, bA, reduceCtorEq, g2, g5, g6, h7, h8, d1, hb1, cb0, n1, n2, hg, hcv, ix_slc, ht1, hR, dz, hu1, hRo, hH]
     obtain ⟨t2, hc1, hc2⟩ := h.b2
     have nb5 : b5 ≠ id := fun e => by
      subst e
      rw [ht1] at hb1
      injection hb1 with hb1
      injection hb1 with _ hb1
      cases hb1
     have nb2 : M0.n ≠ id := fun e => by
      rw [e, ht1] at hc1
      injection hc1 with hc1
      injection hc1 with _ hc1
      cases hc1
     have hidm := List.mem_of_getElem? hid
     have n6 : id6 ≠ id := fun e => h.oi (e ▸ hidm)
     refine ⟨(c + 1, N1.set i (li.set c (-1))), by simp only; omega, by simp only; omega, ⟨h.ext.set _ y3, h.lo, h.mo.set hid hli (ht4 c (-1) (by omega)) (by rw [List.length_set]; exact hlil), own_keep h.ra (by rw [set_n]; exact Nat.le_refl _) (fun j e => set_ne fun e' => h.dai id hidm (e' ▸ e)), h.dai, ⟨tb, by rw [set_ne nb5]; exact hb1, hb2⟩, ⟨h.bx.1, by rw [set_n]; exact h.bx.2⟩, ⟨t2, by rw [set_ne nb2]; exact hc1, hc2⟩, by rw [set_n]; exact h.b2n, h.ob.same (set_ne n6), by rw [set_n]; exact h.o6, h.oi, shape_set h.sh hli (-1), h.olen, h.big, by simp only [bA, reduceCtorEq, g2, g5, g6, h7, h8, d1, hb1, cb0, n1, n2, hg, hcv, ix_slc, ht1, hR, dz, hu1, hRo, hH], by simp only [bA, reduceCtorEq, g2, g5, g6, h7, h8, d1, hb1, cb0, n1, n2, hg, hcv, ix_slc, ht1, hR, dz, hu1, hRo, hH], by simp only [bA, reduceCtorEq, g2, g5, g6, h7, h8, d1, hb1, cb0, n1, n2, hg, hcv, ix_slc, ht1, hR, dz, hu1, hRo, hH]⟩, rfl, fun i' c' => ?_⟩
     simp only
     rw [cell_set h.sh hli hcc, hcell]
     by_cases e : i' = i ∧ c' = c
     ·obtain ⟨rfl, rfl⟩ := e
      rw [if_pos ⟨rfl, rfl⟩, if_pos ⟨rfl, by omega⟩, hz, hpr]
     ·rw [if_neg e]
      by_cases e2 : i' = i ∧ c' < c
      ·rw [if_pos e2, if_pos (by omega)]
      ·rw [if_neg e2, if_neg (by omega)]
   ·have dz : decide (0 ≤ z) = false := decide_eq_false z0
    have hpr : prC out z = z := by unfold prC; rw [if_neg (fun e => z0 e.1)]
    simp (disch := first | omega | assumption) only [↓bxD, bA, reduceCtorEq, g2, g5, g6, h7, h8, d1, hb1, cb0, n1, n2, hg, hcv, ix_slc, ht1, hR, dz]
    show Wp fns K16_1 _ _ _
    unfold K16_1
    simp (disch := first | omega | assumption) only [↓bxD, bA, reduceCtorEq, g2, g5, g6, h7, h8, d1, hb1, cb0, n1, n2, hg, hcv, ix_slc, ht1, hR, dz]
    show Wp fns K16_0 _ _ _
    unfold K16_0
    simp (disch := first | omega | assumption) only [↓bxD, bA, reduceCtorEq, g2, g5, g6, h7, h8, d1, hb1, cb0, n1, n2, hg, hcv, ix_slc, ht1, hR, dz]
    exact ⟨(c + 1, N1), by simp only; omega, by simp only; omega, ⟨h.ext, h.lo, h.mo, h.ra, h.dai, h.box, h.bx, h.b2, h.b2n, h.ob, h.o6, h.oi, h.sh, h.olen, h.big, by simp only [bA, reduceCtorEq, g2, g5, g6, h7, h8, d1, hb1, cb0, n1, n2, hg, hcv, ix_slc, ht1, hR, dz], by simp only [bA, reduceCtorEq, g2, g5, g6, h7, h8, d1, hb1, cb0, n1, n2, hg, hcv, ix_slc, ht1, hR, dz], by simp only [bA, reduceCtorEq, g2, g5, g6, h7, h8, d1, hb1, cb0, n1, n2, hg, hcv, ix_slc, ht1, hR, dz]⟩, rfl, stay (fun z e => by rw [e]; exact hpr)⟩
  ·have d1 : decide ((c : Int) < 256) = false := decide_eq_false (by omega)
   have hc256 : c = 256 := by omega
   rw [hc256] at hcell
   simp (disch := first | omega | assumption) only [↓bxD, bA, reduceCtorEq, g2, g5, g6, h7, h8, d1]
   exact hn _ _ N1 ⟨h.ext, h.lo, h.mo, h.ra, h.dai, h.box, h.bx, h.b2, h.b2n, h.ob, h.o6, h.oi, h.sh, h.olen, h.big, by simp only [bA, reduceCtorEq, g2, g5, g6, h7, h8, d1], by simp only [bA, reduceCtorEq, g2, g5, g6, h7, h8, d1], by simp only [bA, reduceCtorEq, g2, g5, g6, h7, h8, d1]⟩ (by simp only [bA, reduceCtorEq, g2, g5, g6, h7, h8, d1]) hcell
 ·exact ⟨Nat.zero_le _, hst, h7, h8, fun i' c' => by rw [if_neg (by omega)]⟩
theorem prune_all {M0 M : MH} {b5 id6 n : Nat} {vn va : MV} {ids : List Nat} {N : List (List Int)} {A : List Int} {out : List Bool} {f : Fr} (hst : PrSt M0 M b5 vn va ids N A out id6 n f) (hto : ∀ i c, i < n → c < 256 → -1 ≤ cellN N i c ∧ cellN N i c < n) (h7 : X.ev f (.t q7) = .i .i64 0) (Q : Post)
  (hn : ∀ f' M' N', PrSt M0 M' b5 vn va ids N' A out id6 n f' → (∀ i' c', i' < n → c' < 256 → cellN N' i' c' = prC out (cellN N i' c')) → Q .norm f' M') : Wp fns (.loop L16_5) f M (blockQ 0 Q) := by
 refine Wp_inv (σ := Nat × List (List Int)) (fun s f1 M1 => s.1 ≤ n ∧ PrSt M0 M1 b5 vn va ids s.2 A out id6 n f1 ∧ X.ev f1 (.t q7) = .i .i64 (s.1 : Int) ∧ ∀ i' c', c' < 256 → cellN s.2 i' c' = if i' < s.1 then prC out (cellN N i' c') else cellN N i' c') (fun s => n - s.1) ?_ (0, N) ?_
 ·clear hst h7
  rintro ⟨i, N1⟩ f1 M1 ⟨hi, h, h7, hcell⟩
  simp only at hi h h7 hcell
  have g2 := h.q2
  have g5 := h.q5
  have g6 := h.q6
  simp only [q2, q5, q6, q7] at g2 g5 g6 h7
  obtain ⟨tb, hb1, hb2⟩ := h.box
  have cb0 : cget tb 0 = some vn := hb2 0 _ rfl
  obtain ⟨n1, n2⟩ := h.mo.rn.row.sl
  rw [List.length_map] at n2
  have hml := h.mo.li
  have hshl := h.sh.len
  have hbig := h.big
  have n2' : slen vn = n := by omega
  unfold L16_5
  by_cases hi' : i < n
  ·have d1 : decide ((i : Int) < (n : Int)) = true := decide_eq_true (by omega)
   simp (disch := first | omega | assumption) only [↓bxD, bA, reduceCtorEq, g2, g5, g6, h7, d1, hb1, cb0, n1, n2']
   show Wp fns K16_4 _ _ _
   unfold K16_4
   simp (disch := first | omega | assumption) only [↓bxD, bA, reduceCtorEq, g2, g5, g6, h7, d1, hb1, cb0, n1, n2']
   refine prune_in (M0 := M0) (b5 := b5) (id6 := id6) (n := n) (i := i) (vn := vn) (va := va) (ids := ids) (N := N1) (A := A) (out := out) ?_ hi' ?_ ?_ ?_ _ ?_
   ·exact ⟨h.ext, h.lo, h.mo, h.ra, h.dai, h.box, h.bx, h.b2, h.b2n, h.ob, h.o6, h.oi, h.sh, h.olen, h.big, by simp only [bA, reduceCtorEq, g2, g5, g6, h7, d1, hb1, cb0, n1, n2'], by simp only [bA, reduceCtorEq, g2, g5, g6, h7, d1, hb1, cb0, n1, n2'], by simp only [bA, reduceCtorEq, g2, g5, g6, h7, d1, hb1, cb0, n1, n2']⟩
   ·intro c hc
    rw [hcell i c hc, if_neg (by omega)]
    exact hto i c hi' hc
   ·simp only [bA, reduceCtorEq, g2, g5, g6, h7, d1, hb1, cb0, n1, n2']
   ·simp only [bA, reduceCtorEq, g2, g5, g6, h7, d1, hb1, cb0, n1, n2'] <;> rfl
   intro f2 M2 N2 h2 h72 hcell2
   have k2 := h2.q2
   have k5 := h2.q5
   have k6 := h2.q6
   simp only [q2, q5, q6, q7] at k2 k5 k6 h72
   show Wp fns K16_3 _ _ _
   unfold K16_3
   simp (disch := first | omega | assumption) only [↓bxD, bA, reduceCtorEq, k2, k5, k6, h72]
   refine ⟨(i + 1, N2), by simp only; omega, by simp only; omega, ⟨h2.ext, h2.lo, h2.mo, h2.ra, h2.dai, h2.box, h2.bx, h2.b2, h2.b2n, h2.ob, h2.o6, h2.oi, h2.sh, h2.olen, h2.big, by simp only [bA, reduceCtorEq, k2, k5, k6, h72], by simp only [bA, reduceCtorEq, k2, k5, k6, h72], by simp only [bA, reduceCtorEq, k2, k5, k6, h72]⟩, rfl, fun i' c' hc' => ?_⟩
   simp only
   rw [hcell2, hcell i' c' hc']
   by_cases e : i' = i
   ·subst e
    rw [if_pos ⟨rfl, hc'⟩, if_neg (by omega), if_pos (by omega)]
   ·rw [if_neg (fun e' => e e'.1)]
    by_cases e2 : i' < i
    ·rw [if_pos e2, if_pos (by omega)]
    ·rw [if_neg e2, if_neg (by omega)]
  ·have d1 : decide ((i : Int) < (n : Int)) = false := decide_eq_false (by omega)
   have hin : i = n := by omega
   simp (disch := first | omega | assumption) only [↓bxD, bA, reduceCtorEq, g2, g5, g6, h7, d1, hb1, cb0, n1, n2']
   exact hn _ _ N1 ⟨h.ext, h.lo, h.mo, h.ra, h.dai, h.box, h.bx, h.b2, h.b2n, h.ob, h.o6, h.oi, h.sh, h.olen, h.big, by simp only [bA, reduceCtorEq, g2, g5, g6, h7, d1, hb1, cb0, n1, n2'], by simp only [bA, reduceCtorEq, g2, g5, g6, h7, d1, hb1, cb0, n1, n2'], by simp only [bA, reduceCtorEq, g2, g5, g6, h7, d1, hb1, cb0, n1, n2']⟩ (fun i' c' h1 h2 => by rw [hcell i' c' h2, if_pos (by omega)])
 ·exact ⟨Nat.zero_le _, hst, h7, fun i' c' _ => by rw [if_neg (by omega)]⟩
def CanonS (S : List Int) (m : Nat) : Prop := (∀ z ∈ S, -1 ≤ z ∧ z < m) ∧ ∀ j : Nat, 1 ≤ j → j < m → ∃ p : Nat, S[p]? = some (j : Int) ∧ ∀ (p' : Nat) z, p' < p → S[p']? = some z → z < j
theorem CanonS.old {S : List Int} {m : Nat} (h : CanonS S m) {z : Int} (h0 : -1 ≤ z) (h1 : z < m) : CanonS (S ++ [z]) m := by
 refine ⟨fun x hx => ?_, fun j hj hm => ?_⟩
 ·rcases List.mem_append.1 hx with hx | hx
  ·exact h.1 x hx
  ·rw [List.mem_singleton.1 hx]; exact ⟨h0, h1⟩
 ·obtain ⟨p, h2, h3⟩ := h.2 j hj hm
  have hp := (List.getElem?_eq_some_iff.1 h2).1
  refine ⟨p, by rw [List.getElem?_append_left hp]; exact h2, fun p' x hp' hx => h3 p' x hp' ?_⟩
  rw [List.getElem?_append_left (by omega)] at hx
  exact hx
theorem CanonS.fresh {S : List Int} {m : Nat} (h : CanonS S m) : CanonS (S ++ [(m : Int)]) (m + 1) := by
 refine ⟨fun x hx => ?_, fun j hj hm => ?_⟩
 ·rcases List.mem_append.1 hx with hx | hx
  ·have := h.1 x hx; omega
  ·rw [List.mem_singleton.1 hx]; omega
 ·by_cases e : j = m
  ·subst e
   refine ⟨S.length, by rw [List.getElem?_append_right (Nat.le_refl _), Nat.sub_self]; rfl, fun p' x hp' hx => ?_⟩
   rw [List.getElem?_append_left hp'] at hx
   exact (h.1 x (List.mem_of_getElem? hx)).2
  ·obtain ⟨p, h2, h3⟩ := h.2 j hj (by omega)
   have hp := (List.getElem?_eq_some_iff.1 h2).1
   refine ⟨p, by rw [List.getElem?_append_left hp]; exact h2, fun p' x hp' hx => h3 p' x hp' ?_⟩
   rw [List.getElem?_append_left (by omega)] at hx
   exact hx
def CellD (cl ord : List Nat) (to z : Int) : Prop := (to < 0 ∧ z = -1) ∨ (0 ≤ to ∧ ∃ k x : Nat, z = (k : Int) ∧ ord[k]? = some x ∧ cl.getD x 0 = cl.getD to.toNat 0)
theorem CellD.app {cl ord : List Nat} {to z : Int} (h : CellD cl ord to z) (y : Nat) : CellD cl (ord ++ [y]) to z := by
 rcases h with h | ⟨h1, k, x, h2, h3, h4⟩
 ·exact .inl h
 ·exact .inr ⟨h1, k, x, h2, by rw [List.getElem?_append_left (List.getElem?_eq_some_iff.1 h3).1]; exact h3, h4⟩
theorem CellD.rng {cl ord : List Nat} {to z : Int} (h : CellD cl ord to z) : -1 ≤ z ∧ z < ord.length := by
 rcases h with ⟨_, h⟩ | ⟨_, k, x, h2, h3, _⟩
 ·omega
 ·have := (List.getElem?_eq_some_iff.1 h3).1
  omega
structure OrdIn (N : List (List Int)) (A : List Int) (cl : List Nat) (n : Nat) (ord : List Nat) (D : List (List Int)) (Ac S : List Int) : Prop where
 hd : ord[0]? = some 0
 lt : ∀ x ∈ ord, x < n
 inj : ∀ (j k x y : Nat), ord[j]? = some x → ord[k]? = some y → cl.getD x 0 = cl.getD y 0 → j = k
 rows : ∀ (i : Nat) r, D[i]? = some r → r.length = 256 ∧ ∃ x, ord[i]? = some x ∧ ∀ c, c < 256 → CellD cl ord (cellN N x c) (r.getD c (-1))
 acc : ∀ (i : Nat) z, Ac[i]? = some z → ∃ x, ord[i]? = some x ∧ z = A.getD x (-1)
 can : CanonS S ord.length
theorem nodup_le : ∀ (n : Nat) (l : List Nat), l.Nodup → (∀ x ∈ l, x < n) → l.length ≤ n
 | 0, [], _, _ => Nat.le_refl _
 | 0, x :: l, _, h => absurd (h x List.mem_cons_self) (Nat.not_lt_zero x)
 | n + 1, l, hn, h => by
  have h1 := nodup_le n (l.erase n) (hn.erase n) (fun x hx => by
   have h2 := h x (List.mem_of_mem_erase hx)
   have h3 : x ≠ n := fun e => by subst e; exact (hn.mem_erase_iff.1 hx).1 rfl
   omega)
  have h4 : l.length ≤ (l.erase n).length + 1 := by
   rw [List.length_erase]
   split <;> omega
  omega
theorem OrdIn.len {N : List (List Int)} {A : List Int} {cl : List Nat} {n : Nat} {ord : List Nat} {D : List (List Int)} {Ac S : List Int} (h : OrdIn N A cl n ord D Ac S) : ord.length ≤ n := by
 refine nodup_le n ord ?_ h.lt
 unfold List.Nodup
 rw [List.pairwise_iff_getElem]
 intro i j hi hj hij e
 have := h.inj i j _ _ (List.getElem?_eq_getElem hi) (List.getElem?_eq_getElem hj) (by rw [e])
 omega
variable {N : List (List Int)} {A : List Int} {cl : List Nat} {n : Nat} {ord : List Nat} {D : List (List Int)} {Ac S : List Int}
theorem OrdIn.cell (h : OrdIn N A cl n ord D Ac S) {z : Int} (h0 : -1 ≤ z) (h1 : z < ord.length) : OrdIn N A cl n ord D Ac (S ++ [z]) := ⟨h.hd, h.lt, h.inj, h.rows, h.acc, h.can.old h0 h1⟩
theorem OrdIn.push (h : OrdIn N A cl n ord D Ac S) {y : Nat} (hy : y < n) (hno : ∀ (k x : Nat), ord[k]? = some x → cl.getD x 0 ≠ cl.getD y 0) : OrdIn N A cl n (ord ++ [y]) D Ac (S ++ [(ord.length : Int)]) := by
 have hlen : 0 < ord.length := (List.getElem?_eq_some_iff.1 h.hd).1
 refine ⟨by rw [List.getElem?_append_left hlen]; exact h.hd, fun x hx => ?_, fun j k x z hj hk e => ?_, fun i r hr => ?_, fun i z hz => ?_, ?_⟩
 ·rcases List.mem_append.1 hx with hx | hx
  ·exact h.lt x hx
  ·rw [List.mem_singleton.1 hx]; exact hy
 ·rcases mem_app_get hj with ⟨_, kj⟩ | ⟨ej, e1⟩ <;> rcases mem_app_get hk with ⟨_, kk⟩ | ⟨ek, e2⟩
  ·exact h.inj j k x z kj kk e
  ·rw [e2] at e; exact absurd e (hno j x kj)
  ·rw [e1] at e; exact absurd e.symm (hno k z kk)
  ·omega
 ·obtain ⟨h1, x, h2, h3⟩ := h.rows i r hr
  exact ⟨h1, x, by rw [List.getElem?_append_left (List.getElem?_eq_some_iff.1 h2).1]; exact h2, fun c hc => (h3 c hc).app y⟩
 ·obtain ⟨x, h2, h3⟩ := h.acc i z hz
  exact ⟨x, by rw [List.getElem?_append_left (List.getElem?_eq_some_iff.1 h2).1]; exact h2, h3⟩
 ·rw [List.length_append, List.length_singleton]
  exact h.can.fresh
theorem OrdIn.row (h : OrdIn N A cl n ord D Ac S) {x : Nat} {L : List Int} (hx : ord[D.length]? = some x) (hL : L.length = 256) (hc : ∀ c, c < 256 → CellD cl ord (cellN N x c) (L.getD c (-1))) : OrdIn N A cl n ord (D ++ [L]) Ac S := by
 refine ⟨h.hd, h.lt, h.inj, fun i r hr => ?_, h.acc, h.can⟩
 rcases mem_app_get hr with ⟨_, hr⟩ | ⟨rfl, rfl⟩
 ·exact h.rows i r hr
 ·exact ⟨hL, x, hx, hc⟩
theorem OrdIn.accs (h : OrdIn N A cl n ord D Ac S) {x : Nat} (hx : ord[Ac.length]? = some x) : OrdIn N A cl n ord D (Ac ++ [A.getD x (-1)]) S := by
 refine ⟨h.hd, h.lt, h.inj, h.rows, fun i z hz => ?_, h.can⟩
 rcases mem_app_get hz with ⟨_, hz⟩ | ⟨rfl, rfl⟩
 ·exact h.acc i z hz
 ·exact ⟨x, hx, rfl⟩
theorem OrdIn.start (hn : 0 < n) : OrdIn N A cl n [0] [] [] [] := by
 refine ⟨rfl, fun x hx => by rw [List.mem_singleton.1 hx]; exact hn, fun j k x y hj hk _ => ?_, fun i r hr => by simp at hr, fun i z hz => by simp at hz, fun z hz => by simp at hz, fun j hj hm => by simp at hm; omega⟩
 have h1 := (List.getElem?_eq_some_iff.1 hj).1
 have h2 := (List.getElem?_eq_some_iff.1 hk).1
 simp at h1 h2
 omega
end Go.Proofs.Ythklpecigkdkiaa.K
set_option linter.unusedSimpArgs false
set_option linter.unusedVariables false
namespace Go.Proofs.Ythklpecigkdkiaa.K
open Go Ev
set_option maxRecDepth 100000
set_option maxHeartbeats 4000000

structure Cst (Mc : MH) (b2 b5 : Nat) (vn va vcl : MV) (N : List (List Int)) (A : List Int) (cl : List Nat) (n : Nat) : Prop where
 lo : Mc.lo ≤ b2
 hb2 : ∃ t, Mc.get b2 = some (.cs false 2 t) ∧ hasB t 2 0 = true
 b2n : b2 < Mc.n
 box : ∃ t, Mc.get b5 = some (.cs false 3 t) ∧ At t 0 [vn, va, .b false]
 bl : b5 < Mc.n
 mx : MxAt Mc vn N
 ia : IntRow Mc va A
 sh : Shape N n
 al : A.length = n
 to : ∀ i c, i < n → c < 256 → -1 ≤ cellN N i c ∧ cellN N i c < n
 cr : RowAt Mc 1 vcl (nv cl)
 clen : cl.length = n
 big : n ≤ 400
structure BSt (Mc M : MH) (b2 b5 : Nat) (vn va vcl : MV) (N : List (List Int)) (A : List Int) (cl : List Nat) (n b10 : Nat) (v11 vn2 va2 : MV) (ids ord : List Nat) (D : List (List Int)) (Ac S : List Int) (i id13 : Nat) (L : List Int) (f : Fr) : Prop where
 c : Cst Mc b2 b5 vn va vcl N A cl n
 ext : Ext Mc M
 ds : DSt Mc.n M b10 v11 vn2 va2 ids ord D Ac
 oi : OrdIn N A cl n ord D Ac S
 li : D.length = i ∧ Ac.length = i ∧ i < ord.length
 row : IntsAt M id13 L
 rl : L.length = 256
 r1 : Mc.n ≤ id13 ∧ id13 < M.n
 rf : ¬ FootD b10 v11 vn2 va2 ids id13
 q2 : X.ev f (.t q2) = .p b2 0
 q5 : X.ev f (.t q5) = .p b5 0
 q9 : X.ev f (.t q9) = vcl
 q10 : X.ev f (.t q10) = .p b10 0
 q11 : X.ev f (.t q11) = v11
 q12 : X.ev f (.t q12) = .i .i64 (i : Int)
 q13 : X.ev f (.t q13) = .sl id13 0 256 0
section
variable {Mc M : MH} {b2 b5 n b10 i id13 : Nat} {vn va vcl v11 vn2 va2 : MV} {N D : List (List Int)} {A Ac S L : List Int} {cl ids ord : List Nat} {f : Fr}
theorem BSt.fr {f' : Fr} (h : BSt Mc M b2 b5 vn va vcl N A cl n b10 v11 vn2 va2 ids ord D Ac S i id13 L f) (e2 : X.ev f' (.t Ev.q2) = .p b2 0) (e5 : X.ev f' (.t Ev.q5) = .p b5 0) (e9 : X.ev f' (.t Ev.q9) = vcl) (e10 : X.ev f' (.t Ev.q10) = .p b10 0) (e11 : X.ev f' (.t Ev.q11) = v11) (e12 : X.ev f' (.t Ev.q12) = .i .i64 (i : Int)) (e13 : X.ev f' (.t Ev.q13) = .sl id13 0 256 0) : BSt Mc M b2 b5 vn va vcl N A cl n b10 v11 vn2 va2 ids ord D Ac S i id13 L f' :=
 ⟨h.c, h.ext, h.ds, h.oi, h.li, h.row, h.rl, h.r1, h.rf, e2, e5, e9, e10, e11, e12, e13⟩
theorem BSt.put (h : BSt Mc M b2 b5 vn va vcl N A cl n b10 v11 vn2 va2 ids ord D Ac S i id13 L f) {t : T MV} {L' : List Int} (hat : At t 0 (L'.map (MV.i .i64))) (hl : L'.length = 256) : BSt Mc (M.set id13 (some (.cs false 1 t))) b2 b5 vn va vcl N A cl n b10 v11 vn2 va2 ids ord D Ac S i id13 L' f :=
 ⟨h.c, h.ext.set _ h.r1.1, h.ds.keep (by rw [set_n]; exact Nat.le_refl _) fun j hj => set_ne fun e => h.rf (e ▸ hj), h.oi, h.li, ⟨_, set_same _ _, hat⟩, hl, ⟨h.r1.1, by rw [set_n]; exact h.r1.2⟩, h.rf, h.q2, h.q5, h.q9, h.q10, h.q11, h.q12, h.q13⟩
end
theorem ord_search {Mc M : MH} {b2 b5 n b10 i id13 c to : Nat} {vn va vcl v11 vn2 va2 : MV} {N D : List (List Int)} {A Ac S L : List Int} {cl ids ord : List Nat} {f : Fr} (hst : BSt Mc M b2 b5 vn va vcl N A cl n b10 v11 vn2 va2 ids ord D Ac S i id13 L f) (hc : c < 256) (hto : to < n) (hLc : L[c]? = some (-1))
  (h14 : X.ev f (.t q14) = .i .i64 (c : Int)) (h15 : X.ev f (.t q15) = .i .i64 (to : Int)) (h16 : X.ev f (.t q16) = .i .i64 0) (Q : Post)
  (hn : ∀ f' M' L', BSt Mc M' b2 b5 vn va vcl N A cl n b10 v11 vn2 va2 ids ord D Ac S i id13 L' f' → X.ev f' (.t q14) = .i .i64 (c : Int) → X.ev f' (.t q15) = .i .i64 (to : Int) → ((L' = L ∧ ∀ (k x : Nat), ord[k]? = some x → cl.getD x 0 ≠ cl.getD to 0) ∨ ∃ k0 x : Nat, ord[k0]? = some x ∧ cl.getD x 0 = cl.getD to 0 ∧ L' = L.set c (k0 : Int)) → Q .norm f' M') : Wp fns (.loop L16_9) f M (blockQ 8 Q) := by
 refine Wp_inv (σ := Nat × List Int) (fun s f1 M1 => s.1 ≤ ord.length ∧ BSt Mc M1 b2 b5 vn va vcl N A cl n b10 v11 vn2 va2 ids ord D Ac S i id13 s.2 f1 ∧ X.ev f1 (.t q14) = .i .i64 (c : Int) ∧ X.ev f1 (.t q15) = .i .i64 (to : Int) ∧ X.ev f1 (.t q16) = .i .i64 (s.1 : Int) ∧ ((s.2 = L ∧ ∀ (k x : Nat), k < s.1 → ord[k]? = some x → cl.getD x 0 ≠ cl.getD to 0) ∨ ∃ k0 x : Nat, ord[k0]? = some x ∧ cl.getD x 0 = cl.getD to 0 ∧ s.2 = L.set c (k0 : Int))) (fun s => ord.length - s.1) ?_ (0, L) ?_
 ·clear hst h14 h15 h16
  rintro ⟨k, L1⟩ f1 M1 ⟨hk, h, h14, h15, h16, hcs⟩
  simp only at hk h h14 h15 h16 hcs
  have g2 := h.q2
  have g5 := h.q5
  have g9 := h.q9
  have g10 := h.q10
  have g11 := h.q11
  have g12 := h.q12
  have g13 := h.q13
  simp only [q2, q5, q9, q10, q11, q12, q13, q14, q15, q16] at g2 g5 g9 g10 g11 g12 g13 h14 h15 h16
  have hx := h.ext
  have hxl := hx.lo
  have hxn := hx.n
  have hlo := h.c.lo
  have hb2n := h.c.b2n
  have hr1 := h.r1
  have hrl := h.rl
  have hclen := h.c.clen
  have hbig := h.c.big
  have hol := h.oi.len
  obtain ⟨t, ht1, ht2, ht3, ht4⟩ := h.row.read
  have hr5 := h.ds.r5.row
  obtain ⟨s1, s2⟩ := hr5.sl
  have s2 : slen v11 = ord.length := s2.trans (nv_len ord)
  have hcr := h.c.cr.ext hx
  obtain ⟨c1, c2⟩ := hcr.sl
  have c2 : slen vcl = cl.length := c2.trans (nv_len cl)
  unfold L16_9
  by_cases hki : k < ord.length
  ·have d1 : decide ((k : Int) < (ord.length : Int)) = true := decide_eq_true (by omega)
   rcases hcs with ⟨rfl, hno⟩ | ⟨k0, x0, hk0, hx0, rfl⟩
   ·have hR := ht2 _ _ hLc
    have dm : decide ((-1 : Int) < 0) = true := rfl
    obtain ⟨x, hxk⟩ : ∃ x, ord[k]? = some x := ⟨_, List.getElem?_eq_getElem hki⟩
    have hxn' := h.oi.lt x (List.mem_of_getElem? hxk)
    obtain ⟨ro, sz, tt, gg, _, hcx⟩ := nv_read hr5 hxk
    obtain ⟨y, hy⟩ : ∃ y, cl[x]? = some y := ⟨_, List.getElem?_eq_getElem (by omega)⟩
    obtain ⟨z, hz⟩ : ∃ z, cl[to]? = some z := ⟨_, List.getElem?_eq_getElem (by omega)⟩
    have gy : cl.getD x 0 = y := by rw [List.getD_eq_getElem?_getD, hy]; rfl
    have gz : cl.getD to 0 = z := by rw [List.getD_eq_getElem?_getD, hz]; rfl
    obtain ⟨ro2, sz2, t2, gg2, _, hcy⟩ := nv_read hcr hy
    obtain ⟨ro3, sz3, t3, gg3, _, hcz⟩ := nv_read hcr hz
    obtain rfl : t2 = t3 := by rw [gg2] at gg3; injection gg3 with gg3; injection gg3
    have hH := ht3 c (by omega)
    have hxl2 : x < cl.length := by omega
    have htl2 : to < cl.length := by omega
    simp (disch := first | omega | assumption) only [↓bxD, bA, reduceCtorEq, g2, g5, g9, g10, g11, g12, g13, h14, h15, h16, s1, s2, c1, c2, d1, dm, ix_slc, ht1, hR]
    show Wp fns K16_8 _ _ _
    unfold K16_8
    simp (disch := first | omega | assumption) only [↓bxD, bA, reduceCtorEq, g2, g5, g9, g10, g11, g12, g13, h14, h15, h16, s1, s2, c1, c2, d1, dm, ix_slc, ht1, hR]
    refine Wp_dreg_of (by omega) ?_
    by_cases e : y = z
    ·have de : decide ((y : Int) = (z : Int)) = true := decide_eq_true (by omega)
     simp (disch := first | omega | assumption) only [↓bxD, bA, reduceCtorEq, g2, g5, g9, g10, g11, g12, g13, h14, h15, h16, s1, s2, c1, c2, d1, dm, ix_slc, ht1, hR, gg, hcx, gg2, hcy, hcz, de]
     show Wp fns K16_6 _ _ _
     unfold K16_6
     simp (disch := first | omega | assumption | (simp only [bZ, stOk, Nat.reduceBEq, Nat.reduceEqDiff, Nat.reduceAdd] <;> omega) | ((try apply has_setN); apply has_ofL; simp only [bxL]; omega)) only [↓bxD, bA, Nat.reduceBEq, reduceCtorEq, Nat.reduceAdd, Nat.reduceSub, Nat.reduceMul, Nat.reduceLeDiff, Nat.reduceLT, g2, g5, g9, g10, g11, g12, g13, h14, h15, h16, s1, s2, c1, c2, d1, dm, ix_slc, ht1, hR, hH, ht1]
     show Wp fns K16_7 _ _ _
     unfold K16_7
     simp (disch := first | omega | assumption) only [↓bxD, bA, reduceCtorEq, g2, g5, g9, g10, g11, g12, g13, h14, h15, h16, s1, s2, c1, c2, d1, dm, ix_slc, ht1, hR]
     exact ⟨(k + 1, L1.set c (k : Int)), by simp only; omega, by simp only; omega, (h.put (ht4 c (k : Int) (by omega)) (by rw [List.length_set]; exact hrl)).fr (by simp only [bA, reduceCtorEq, g2, g5, g9, g10, g11, g12, g13, h14, h15, h16, s1, s2, c1, c2, d1, dm, ix_slc, ht1, hR]) (by simp only [bA, reduceCtorEq, g2, g5, g9, g10, g11, g12, g13, h14, h15, h16, s1, s2, c1, c2, d1, dm, ix_slc, ht1, hR]) (by simp only [bA, reduceCtorEq, g2, g5, g9, g10, g11, g12, g13, h14, h15, h16, s1, s2, c1, c2, d1, dm, ix_slc, ht1, hR]) (by simp only [bA, reduceCtorEq, g2, g5, g9, g10, g11, g12, g13, h14, h15, h16, s1, s2, c1, c2, d1, dm, ix_slc, ht1, hR]) (by simp only [bA, reduceCtorEq, g2, g5, g9, g10, g11, g12, g13, h14, h15, h16, s1, s2, c1, c2, d1, dm, ix_slc, ht1, hR]) (by simp only [bA, reduceCtorEq, g2, g5, g9, g10, g11, g12, g13, h14, h15, h16, s1, s2, c1, c2, d1, dm, ix_slc, ht1, hR]) (by simp only [bA, reduceCtorEq, g2, g5, g9, g10, g11, g12, g13, h14, h15, h16, s1, s2, c1, c2, d1, dm, ix_slc, ht1, hR]), rfl, .inr ⟨k, x, hxk, by rw [gy, gz]; exact e, rfl⟩⟩
    ·have de : decide ((y : Int) = (z : Int)) = false := decide_eq_false (by omega)
     simp (disch := first | omega | assumption) only [↓bxD, bA, reduceCtorEq, g2, g5, g9, g10, g11, g12, g13, h14, h15, h16, s1, s2, c1, c2, d1, dm, ix_slc, ht1, hR, gg, hcx, gg2, hcy, hcz, de]
     show Wp fns K16_6 _ _ _
     unfold K16_6
     simp (disch := first | omega | assumption) only [↓bxD, bA, reduceCtorEq, g2, g5, g9, g10, g11, g12, g13, h14, h15, h16, s1, s2, c1, c2, d1, dm, ix_slc, ht1, hR]
     show Wp fns K16_7 _ _ _
     unfold K16_7
     simp (disch := first | omega | assumption) only [↓bxD, bA, reduceCtorEq, g2, g5, g9, g10, g11, g12, g13, h14, h15, h16, s1, s2, c1, c2, d1, dm, ix_slc, ht1, hR]
     refine ⟨(k + 1, L1), by simp only; omega, by simp only; omega, h.fr (by simp only [bA, reduceCtorEq, g2, g5, g9, g10, g11, g12, g13, h14, h15, h16, s1, s2, c1, c2, d1, dm, ix_slc, ht1, hR]) (by simp only [bA, reduceCtorEq, g2, g5, g9, g10, g11, g12, g13, h14, h15, h16, s1, s2, c1, c2, d1, dm, ix_slc, ht1, hR]) (by simp only [bA, reduceCtorEq, g2, g5, g9, g10, g11, g12, g13, h14, h15, h16, s1, s2, c1, c2, d1, dm, ix_slc, ht1, hR]) (by simp only [bA, reduceCtorEq, g2, g5, g9, g10, g11, g12, g13, h14, h15, h16, s1, s2, c1, c2, d1, dm, ix_slc, ht1, hR]) (by simp only [bA, reduceCtorEq, g2, g5, g9, g10, g11, g12, g13, h14, h15, h16, s1, s2, c1, c2, d1, dm, ix_slc, ht1, hR]) (by simp only [bA, reduceCtorEq, g2, g5, g9, g10, g11, g12, g13, h14, h15, h16, s1, s2, c1, c2, d1, dm, ix_slc, ht1, hR]) (by simp only [bA, reduceCtorEq, g2, g5, g9, g10, g11, g12, g13, h14, h15, h16, s1, s2, c1, c2, d1, dm, ix_slc, ht1, hR]), rfl, .inl ⟨rfl, fun k' x' hk' hx' => ?_⟩⟩
     simp only at hk'
     by_cases ek : k' = k
     ·subst ek
      rw [hxk] at hx'
      injection hx' with hx'
      subst hx'
      rw [gy, gz]
      exact e
     ·exact hno k' x' (by omega) hx'
   ·have hLi' : (L.set c (k0 : Int))[c]? = some (k0 : Int) := by
     rw [List.getElem?_set, if_pos rfl, if_pos (by rw [List.length_set] at hrl; omega)]
    have hR := ht2 _ _ hLi'
    have dm : decide ((k0 : Int) < 0) = false := decide_eq_false (by omega)
    simp (disch := first | omega | assumption) only [↓bxD, bA, reduceCtorEq, g2, g5, g9, g10, g11, g12, g13, h14, h15, h16, s1, s2, d1, dm, ix_slc, ht1, hR]
    exact hn _ _ _ (h.fr (by simp only [bA, reduceCtorEq, g2, g5, g9, g10, g11, g12, g13, h14, h15, h16, s1, s2, d1, dm, ix_slc, ht1, hR]) (by simp only [bA, reduceCtorEq, g2, g5, g9, g10, g11, g12, g13, h14, h15, h16, s1, s2, d1, dm, ix_slc, ht1, hR]) (by simp only [bA, reduceCtorEq, g2, g5, g9, g10, g11, g12, g13, h14, h15, h16, s1, s2, d1, dm, ix_slc, ht1, hR]) (by simp only [bA, reduceCtorEq, g2, g5, g9, g10, g11, g12, g13, h14, h15, h16, s1, s2, d1, dm, ix_slc, ht1, hR]) (by simp only [bA, reduceCtorEq, g2, g5, g9, g10, g11, g12, g13, h14, h15, h16, s1, s2, d1, dm, ix_slc, ht1, hR]) (by simp only [bA, reduceCtorEq, g2, g5, g9, g10, g11, g12, g13, h14, h15, h16, s1, s2, d1, dm, ix_slc, ht1, hR]) (by simp only [bA, reduceCtorEq, g2, g5, g9, g10, g11, g12, g13, h14, h15, h16, s1, s2, d1, dm, ix_slc, ht1, hR])) (by simp only [bA, reduceCtorEq, g2, g5, g9, g10, g11, g12, g13, h14, h15, h16, s1, s2, d1, dm, ix_slc, ht1, hR]) (by simp only [bA, reduceCtorEq, g2, g5, g9, g10, g11, g12, g13, h14, h15, h16, s1, s2, d1, dm, ix_slc, ht1, hR]) (.inr ⟨k0, x0, hk0, hx0, rfl⟩)
  ·have d1 : decide ((k : Int) < (ord.length : Int)) = false := decide_eq_false (by omega)
   have hki' : k = ord.length := by omega
   simp (disch := first | omega | assumption) only [↓bxD, bA, reduceCtorEq, g2, g5, g9, g10, g11, g12, g13, h14, h15, h16, s1, s2, d1]
   refine hn _ _ _ (h.fr (by simp only [bA, reduceCtorEq, g2, g5, g9, g10, g11, g12, g13, h14, h15, h16, s1, s2, d1]) (by simp only [bA, reduceCtorEq, g2, g5, g9, g10, g11, g12, g13, h14, h15, h16, s1, s2, d1]) (by simp only [bA, reduceCtorEq, g2, g5, g9, g10, g11, g12, g13, h14, h15, h16, s1, s2, d1]) (by simp only [bA, reduceCtorEq, g2, g5, g9, g10, g11, g12, g13, h14, h15, h16, s1, s2, d1]) (by simp only [bA, reduceCtorEq, g2, g5, g9, g10, g11, g12, g13, h14, h15, h16, s1, s2, d1]) (by simp only [bA, reduceCtorEq, g2, g5, g9, g10, g11, g12, g13, h14, h15, h16, s1, s2, d1]) (by simp only [bA, reduceCtorEq, g2, g5, g9, g10, g11, g12, g13, h14, h15, h16, s1, s2, d1])) (by simp only [bA, reduceCtorEq, g2, g5, g9, g10, g11, g12, g13, h14, h15, h16, s1, s2, d1]) (by simp only [bA, reduceCtorEq, g2, g5, g9, g10, g11, g12, g13, h14, h15, h16, s1, s2, d1]) ?_
   rcases hcs with ⟨e, hno⟩ | hcs
   ·exact .inl ⟨e, fun k' x' hx' => hno k' x' (by have := (List.getElem?_eq_some_iff.1 hx').1; omega) hx'⟩
   ·exact .inr hcs
 ·exact ⟨Nat.zero_le _, hst, h14, h15, h16, .inl ⟨rfl, fun k x hk => absurd hk (Nat.not_lt_zero k)⟩⟩
end Go.Proofs.Ythklpecigkdkiaa.K
set_option linter.unusedSimpArgs false
set_option linter.unusedVariables false
namespace Go.Proofs.Ythklpecigkdkiaa.K
open Go Ev
set_option maxRecDepth 100000
set_option maxHeartbeats 4000000

theorem takeL_set {L : List Int} {c : Nat} {z : Int} (hc : c < L.length) : (L.set c z).take (c + 1) = L.take c ++ [z] := by
 rw [List.take_add_one, List.getElem?_set, if_pos rfl, if_pos hc, List.take_set_of_le (Nat.le_refl c)]
 rfl
theorem ord_row {Mc M : MH} {b2 b5 n b10 i id13 x0 : Nat} {vn va vcl v11 vn2 va2 : MV} {N D : List (List Int)} {A Ac L : List Int} {cl ids ord : List Nat} {f : Fr} (hst : BSt Mc M b2 b5 vn va vcl N A cl n b10 v11 vn2 va2 ids ord D Ac D.flatten i id13 L f) (hx0 : ord[i]? = some x0) (h14 : X.ev f (.t q14) = .i .i64 0) (Q : Post)
  (hn : ∀ f' M' v11' ord' L', BSt Mc M' b2 b5 vn va vcl N A cl n b10 v11' vn2 va2 ids ord' D Ac (D.flatten ++ L') i id13 L' f' → ord'[i]? = some x0 → (∀ c, c < 256 → CellD cl ord' (cellN N x0 c) (L'.getD c (-1))) → Q .norm f' M') : Wp fns (.loop L16_15) f M (blockQ 6 Q) := by
 refine Wp_inv (σ := Nat × MV × List Nat × List Int) (fun s f1 M1 => s.1 ≤ 256 ∧ BSt Mc M1 b2 b5 vn va vcl N A cl n b10 s.2.1 vn2 va2 ids s.2.2.1 D Ac (D.flatten ++ s.2.2.2.take s.1) i id13 s.2.2.2 f1 ∧ X.ev f1 (.t q14) = .i .i64 (s.1 : Int) ∧ s.2.2.1[i]? = some x0 ∧ ∀ c, c < s.1 → CellD cl s.2.2.1 (cellN N x0 c) (s.2.2.2.getD c (-1))) (fun s => 256 - s.1) ?_ (0, v11, ord, L) ?_
 ·clear hst h14 hx0
  rintro ⟨c, v11, ord, L⟩ f1 M1 ⟨hc, h, h14, hx0, hcells⟩
  simp only at hc h h14 hx0 hcells
  have g2 := h.q2
  have g5 := h.q5
  have g9 := h.q9
  have g10 := h.q10
  have g11 := h.q11
  have g12 := h.q12
  have g13 := h.q13
  simp only [q2, q5, q9, q10, q11, q12, q13, q14] at g2 g5 g9 g10 g11 g12 g13 h14
  have hx := h.ext
  have hxl := hx.lo
  have hxn := hx.n
  have hlo := h.c.lo
  have hb2n := h.c.b2n
  have hbl := h.c.bl
  have hr1 := h.r1
  have hrl := h.rl
  have hclen := h.c.clen
  have hbig := h.c.big
  have hol := h.oi.len
  unfold L16_15
  by_cases hcc : c < 256
  ·have d1 : decide ((c : Int) < 256) = true := decide_eq_true (by omega)
   obtain ⟨t, ht1, ht2, ht3, ht4⟩ := h.row.read
   have hH := ht3 c (by omega)
   have h1 := h.put (ht4 c (-1) (by omega)) (by rw [List.length_set]; exact hrl)
   have hL1 : (L.set c (-1))[c]? = some (-1) := by rw [List.getElem?_set, if_pos rfl, if_pos (by omega)]
   have hM2' : M1.set id13 (some (.cs false 1 (setN (MV.i .i64 (Int.negSucc 0)).cells (c * 1) t))) = M1.set id13 (some (.cs false 1 (setN [MV.i .i64 (-1)] (c * 1) t))) := rfl
   generalize hM2 : M1.set id13 (some (.cs false 1 (setN [MV.i .i64 (-1)] (c * 1) t))) = M2 at h1 hM2'
   have hl2 : M2.lo = M1.lo := by rw [← hM2]; rfl
   have hn2 : M2.n = M1.n := by rw [← hM2]; rfl
   have hx0n := h.oi.lt x0 (List.mem_of_getElem? hx0)
   have hio := (List.getElem?_eq_some_iff.1 hx0).1
   obtain ⟨li, hli, hlil, hlic⟩ := cell_get h.c.sh hx0n hcc
   obtain ⟨ht0, ht1'⟩ := h.c.to x0 c hx0n hcc
   have hr5 := h1.ds.r5.row
   obtain ⟨s1, s2⟩ := hr5.sl
   have s2 : slen v11 = ord.length := s2.trans (nv_len ord)
   obtain ⟨ro, sz, tt, gg, _, hcx⟩ := nv_read hr5 hx0
   have hmx := h1.c.mx.ext h1.ext
   obtain ⟨n1, n2⟩ := hmx.sl
   have hshl := h.c.sh.len
   obtain ⟨ui, ro3, sz3, t3, g3, _, hc3', hui⟩ := hmx.read hli
   obtain ⟨ro5, sz5, t5, gg5, _, hc5⟩ := hui.read hlic
   obtain ⟨ui1, ui2⟩ := hui.sl
   obtain ⟨tb, hb1, hb2⟩ := h.c.box
   have hb1' := (h1.ext.old b5 hbl).trans hb1
   have cb0 : cget tb 0 = some vn := hb2 0 _ rfl
   have hx0l : x0 < N.length := by omega
   have gset : ∀ (X : List Int) (z : Int) j, X.length = 256 → (X.set c z).getD j (-1) = if j = c then z else X.getD j (-1) := fun X z j hX => by
    rw [List.getD_eq_getElem?_getD, List.getD_eq_getElem?_getD, List.getElem?_set]
    by_cases e : c = j
    ·subst e; simp [hX, hcc]
    ·rw [if_neg e, if_neg (fun e' => e e'.symm)]
   have hcells1 : ∀ (ord' : List Nat) (z : Int), (∀ c', c' < c → CellD cl ord' (cellN N x0 c') (L.getD c' (-1))) → CellD cl ord' (cellN N x0 c) z → ∀ c', c' < c + 1 → CellD cl ord' (cellN N x0 c') ((L.set c z).getD c' (-1)) := fun ord' z a d c' hc' => by
    rw [gset L z c' hrl]
    by_cases e : c' = c
    ·subst e; rw [if_pos rfl]; exact d
    ·rw [if_neg e]; exact a c' (by omega)
   have hS : ∀ z : Int, D.flatten ++ (L.set c z).take (c + 1) = D.flatten ++ L.take c ++ [z] := fun z => by
    rw [takeL_set (by omega), List.append_assoc]
   generalize hto : cellN N x0 c = to at *
   simp (disch := first | omega | assumption) only [↓bxD, bA, reduceCtorEq, g2, g5, g9, g10, g11, g12, g13, h14, d1, ix_slc, ht1, hH, hM2']
   show Wp fns K16_14 _ _ _
   unfold K16_14
   simp (disch := first | omega | assumption | (simp only [bZ, stOk, Nat.reduceBEq, Nat.reduceEqDiff, Nat.reduceAdd] <;> omega) | ((try apply has_setN); apply has_ofL; simp only [bxL]; omega)) only [↓bxD, bA, Nat.reduceBEq, reduceCtorEq, Nat.reduceAdd, Nat.reduceSub, Nat.reduceMul, Nat.reduceLeDiff, Nat.reduceLT, g2, g5, g9, g10, g11, g12, g13, h14, d1, ix_slc, ht1, hH, hM2']
   refine Wp_dreg_of (by omega) ?_
   simp (disch := first | omega | assumption) only [↓bxD, bA, reduceCtorEq, g2, g5, g9, g10, g11, g12, g13, h14, d1, ix_slc, ht1, hH, hM2', hb1', cb0, s1, s2, gg, hcx, n1, n2, g3, hc3', ui1, ui2, hlil, gg5, hc5]
   by_cases t0 : to < 0
   ·have dt : decide (to < 0) = true := decide_eq_true t0
    show Wp fns K16_12 _ _ _
    unfold K16_12
    simp (disch := first | omega | assumption) only [↓bxD, bA, reduceCtorEq, g2, g5, g9, g10, g11, g12, g13, h14, d1, ix_slc, ht1, hH, hM2', dt]
    show Wp fns K16_13 _ _ _
    unfold K16_13
    simp (disch := first | omega | assumption) only [↓bxD, bA, reduceCtorEq, g2, g5, g9, g10, g11, g12, g13, h14, d1, ix_slc, ht1, hH, hM2']
    refine ⟨(c + 1, v11, ord, L.set c (-1)), by simp only; omega, by simp only; omega, ?_, rfl, hx0, hcells1 ord (-1) hcells (.inl ⟨t0, rfl⟩)⟩
    have hoi := h1.oi.cell (z := -1) (by omega) (by omega)
    simp only
    rw [hS]
    exact ⟨h1.c, h1.ext, h1.ds, hoi, h1.li, h1.row, h1.rl, h1.r1, h1.rf, by simp only [bA, reduceCtorEq, g2, g5, g9, g10, g11, g12, g13, h14, d1, ix_slc, ht1, hH, hM2'], by simp only [bA, reduceCtorEq, g2, g5, g9, g10, g11, g12, g13, h14, d1, ix_slc, ht1, hH, hM2'], by simp only [bA, reduceCtorEq, g2, g5, g9, g10, g11, g12, g13, h14, d1, ix_slc, ht1, hH, hM2'], by simp only [bA, reduceCtorEq, g2, g5, g9, g10, g11, g12, g13, h14, d1, ix_slc, ht1, hH, hM2'], by simp only [bA, reduceCtorEq, g2, g5, g9, g10, g11, g12, g13, h14, d1, ix_slc, ht1, hH, hM2'], by simp only [bA, reduceCtorEq, g2, g5, g9, g10, g11, g12, g13, h14, d1, ix_slc, ht1, hH, hM2'], by simp only [bA, reduceCtorEq, g2, g5, g9, g10, g11, g12, g13, h14, d1, ix_slc, ht1, hH, hM2']⟩
   ·have dt : decide (to < 0) = false := decide_eq_false t0
    obtain ⟨tn, rfl⟩ : ∃ k : Nat, to = k := ⟨to.toNat, by omega⟩
    show Wp fns K16_12 _ _ _
    unfold K16_12
    simp (disch := first | omega | assumption) only [↓bxD, bA, reduceCtorEq, g2, g5, g9, g10, g11, g12, g13, h14, d1, ix_slc, ht1, hH, hM2', dt]
    show Wp fns K16_11 _ _ _
    unfold K16_11
    simp (disch := first | omega | assumption) only [↓bxD, bA, reduceCtorEq, g2, g5, g9, g10, g11, g12, g13, h14, d1, ix_slc, ht1, hH, hM2']
    refine ord_search (Mc := Mc) (b2 := b2) (b5 := b5) (n := n) (b10 := b10) (i := i) (id13 := id13) (c := c) (to := tn) (vn := vn) (va := va) (vcl := vcl) (v11 := v11) (vn2 := vn2) (va2 := va2) (N := N) (D := D) (A := A) (Ac := Ac) (S := D.flatten ++ L.take c) (L := L.set c (-1)) (cl := cl) (ids := ids) (ord := ord) ?_ hcc (by omega) hL1 ?_ ?_ ?_ _ ?_
    ·exact h1.fr (by simp only [bA, reduceCtorEq, g2, g5, g9, g10, g11, g12, g13, h14, d1, ix_slc, ht1, hH, hM2']) (by simp only [bA, reduceCtorEq, g2, g5, g9, g10, g11, g12, g13, h14, d1, ix_slc, ht1, hH, hM2']) (by simp only [bA, reduceCtorEq, g2, g5, g9, g10, g11, g12, g13, h14, d1, ix_slc, ht1, hH, hM2']) (by simp only [bA, reduceCtorEq, g2, g5, g9, g10, g11, g12, g13, h14, d1, ix_slc, ht1, hH, hM2']) (by simp only [bA, reduceCtorEq, g2, g5, g9, g10, g11, g12, g13, h14, d1, ix_slc, ht1, hH, hM2']) (by simp only [bA, reduceCtorEq, g2, g5, g9, g10, g11, g12, g13, h14, d1, ix_slc, ht1, hH, hM2']) (by simp only [bA, reduceCtorEq, g2, g5, g9, g10, g11, g12, g13, h14, d1, ix_slc, ht1, hH, hM2'])
    ·simp only [bA, reduceCtorEq, g2, g5, g9, g10, g11, g12, g13, h14, d1, ix_slc, ht1, hH, hM2']
    ·simp only [bA, reduceCtorEq, g2, g5, g9, g10, g11, g12, g13, h14, d1, ix_slc, ht1, hH, hM2']
    ·simp only [bA, reduceCtorEq, g2, g5, g9, g10, g11, g12, g13, h14, d1, ix_slc, ht1, hH, hM2'] <;> rfl
    intro f2 M4 L2 h4 k14 k15 hcase
    have g2 := h4.q2
    have g5 := h4.q5
    have g9 := h4.q9
    have g10 := h4.q10
    have g11 := h4.q11
    have g12 := h4.q12
    have g13 := h4.q13
    simp only [q2, q5, q9, q10, q11, q12, q13, q14, q15] at g2 g5 g9 g10 g11 g12 g13 k14 k15
    have hrl4 := h4.rl
    have hx4 := h4.ext
    have hxl4 := hx4.lo
    have hxn4 := hx4.n
    have hr14 := h4.r1
    obtain ⟨t4, hu1, hu2, hu3, hu4⟩ := h4.row.read
    rcases hcase with ⟨rfl, hno⟩ | ⟨k0, x, hk0, hxe, rfl⟩
    ·have hR := hu2 c (-1) (by rw [List.getElem?_set, if_pos rfl, if_pos (by omega)])
     have dm : decide ((-1 : Int) < 0) = true := rfl
     have hr5 := h4.ds.r5.row
     obtain ⟨s1, s2⟩ := hr5.sl
     have s2 : slen v11 = ord.length := s2.trans (nv_len ord)
     have hH4 := hu3 c (by omega)
     have hf1 : fillM [(0, 1, MV.i .i64 (tn : Int))] [MV.i .i64 0] = some [.i .i64 (tn : Int)] := rfl
     show Wp fns K16_10 _ _ _
     unfold K16_10
     simp (disch := first | omega | assumption | (simp only [bZ, stOk, Nat.reduceBEq, Nat.reduceEqDiff, Nat.reduceAdd] <;> omega) | ((try apply has_setN); apply has_ofL; simp only [bxL]; omega)) only [↓bxD, bA, Nat.reduceBEq, reduceCtorEq, Nat.reduceAdd, Nat.reduceSub, Nat.reduceMul, Nat.reduceLeDiff, Nat.reduceLT, g2, g5, g9, g10, g11, g12, g13, k14, k15, ix_slc, hu1, hR, dm, s1, s2, hH4, hf1, bslW_some]
     have h5 : BSt Mc (M4.set id13 (some (.cs false 1 (setN (MV.i .i64 (ord.length : Int)).cells (c * 1) t4)))) b2 b5 vn va vcl N A cl n b10 v11 vn2 va2 ids ord D Ac (D.flatten ++ L.take c) i id13 ((L.set c (-1)).set c (ord.length : Int)) f2 := h4.put (hu4 c (ord.length : Int) (by omega)) (by rw [List.length_set]; exact hrl4)
     have hl5' : (M4.set id13 (some (.cs false 1 (setN (MV.i .i64 (ord.length : Int)).cells (c * 1) t4)))).lo = M4.lo := rfl
     have hn5' : (M4.set id13 (some (.cs false 1 (setN (MV.i .i64 (ord.length : Int)).cells (c * 1) t4)))).n = M4.n := rfl
     rw [← hn5']
     generalize M4.set id13 (some (.cs false 1 (setN (MV.i .i64 (ord.length : Int)).cells (c * 1) t4))) = M5 at h5 hl5' hn5' ⊢
     obtain ⟨v5', M6, e1, e2, e3, e4, e5, e6, e7⟩ := h5.ds.push5 (by omega) (by omega) tn (by omega)
     refine bindP_of e1 ?_
     simp (disch := first | omega | assumption) only [↓bxD, bA, reduceCtorEq, g2, g5, g9, g10, g11, g12, g13, k14, k15, ix_slc, hu1, hR, dm, s1, s2, hH4, hf1, bslW_some]
     show Wp fns K16_13 _ _ _
     unfold K16_13
     simp (disch := first | omega | assumption) only [↓bxD, bA, reduceCtorEq, g2, g5, g9, g10, g11, g12, g13, k14, k15, ix_slc, hu1, hR, dm, s1, s2, hH4, hf1, bslW_some]
     have hv5id : obj v11 ≠ some id13 := fun e' => h5.rf (.inl e')
     have hoi := h5.oi.push (y := tn) (by omega) hno
     have hid5 := h5.r1
     obtain ⟨t5, hv1, hv2⟩ := h5.row
     refine ⟨(c + 1, v5', ord ++ [tn], (L.set c (-1)).set c (ord.length : Int)), by simp only; omega, by simp only; omega, ?_, rfl, ?_, ?_⟩
     ·simp only
      rw [List.set_set] at *
      rw [hS]
      refine ⟨h5.c, ⟨by have := h5.ext.n; omega, by rw [e4]; exact h5.ext.lo, fun j hj => ?_⟩, e2, hoi, ⟨h5.li.1, h5.li.2.1, by rw [List.length_append]; have := h5.li.2.2; omega⟩, ⟨t5, (e6 _ hid5.2 hv5id).trans hv1, hv2⟩, by rw [List.length_set]; exact hrl, ⟨hid5.1, by omega⟩, e7 id13 hid5.2 h5.rf, by simp only [bA, reduceCtorEq, g2, g5, g9, g10, g11, g12, g13, k14, k15, ix_slc, hu1, hR, dm, s1, s2, hH4, hf1, bslW_some], by simp only [bA, reduceCtorEq, g2, g5, g9, g10, g11, g12, g13, k14, k15, ix_slc, hu1, hR, dm, s1, s2, hH4, hf1, bslW_some], by simp only [bA, reduceCtorEq, g2, g5, g9, g10, g11, g12, g13, k14, k15, ix_slc, hu1, hR, dm, s1, s2, hH4, hf1, bslW_some], by simp only [bA, reduceCtorEq, g2, g5, g9, g10, g11, g12, g13, k14, k15, ix_slc, hu1, hR, dm, s1, s2, hH4, hf1, bslW_some], by simp only [bA, reduceCtorEq, g2, g5, g9, g10, g11, g12, g13, k14, k15, ix_slc, hu1, hR, dm, s1, s2, hH4, hf1, bslW_some], by simp only [bA, reduceCtorEq, g2, g5, g9, g10, g11, g12, g13, k14, k15, ix_slc, hu1, hR, dm, s1, s2, hH4, hf1, bslW_some], by simp only [bA, reduceCtorEq, g2, g5, g9, g10, g11, g12, g13, k14, k15, ix_slc, hu1, hR, dm, s1, s2, hH4, hf1, bslW_some]⟩
      rw [e6 j (by have := h5.ext.n; omega) (fun e' => by have := (own_obj h5.ds.r5 e').1; omega)]
      exact h5.ext.old j hj
     ·simp only
      rw [List.getElem?_append_left hio]
      exact hx0
     ·simp only
      rw [List.set_set]
      refine hcells1 (ord ++ [tn]) (ord.length : Int) (fun c' hc' => (hcells c' hc').app tn) (.inr ⟨by omega, ord.length, tn, rfl, ?_, by rw [Int.toNat_natCast]⟩)
      rw [List.getElem?_append_right (Nat.le_refl _), Nat.sub_self]
      rfl
    ·have hR := hu2 c (k0 : Int) (by rw [List.set_set, List.getElem?_set, if_pos rfl, if_pos (by omega)])
     have dm : decide ((k0 : Int) < 0) = false := decide_eq_false (by omega)
     show Wp fns K16_10 _ _ _
     unfold K16_10
     simp (disch := first | omega | assumption) only [↓bxD, bA, reduceCtorEq, g2, g5, g9, g10, g11, g12, g13, k14, k15, ix_slc, hu1, hR, dm]
     show Wp fns K16_13 _ _ _
     unfold K16_13
     simp (disch := first | omega | assumption) only [↓bxD, bA, reduceCtorEq, g2, g5, g9, g10, g11, g12, g13, k14, k15, ix_slc, hu1, hR, dm]
     have hcd : CellD cl ord (tn : Int) (k0 : Int) := .inr ⟨by omega, k0, x, rfl, hk0, by rw [Int.toNat_natCast]; exact hxe⟩
     have hrg := hcd.rng
     refine ⟨(c + 1, v11, ord, (L.set c (-1)).set c (k0 : Int)), by simp only; omega, by simp only; omega, ?_, rfl, hx0, ?_⟩
     ·have hoi := h4.oi.cell (z := (k0 : Int)) (by omega) hrg.2
      simp only
      rw [List.set_set] at *
      rw [hS]
      exact ⟨h4.c, h4.ext, h4.ds, hoi, h4.li, h4.row, h4.rl, h4.r1, h4.rf, by simp only [bA, reduceCtorEq, g2, g5, g9, g10, g11, g12, g13, k14, k15, ix_slc, hu1, hR, dm], by simp only [bA, reduceCtorEq, g2, g5, g9, g10, g11, g12, g13, k14, k15, ix_slc, hu1, hR, dm], by simp only [bA, reduceCtorEq, g2, g5, g9, g10, g11, g12, g13, k14, k15, ix_slc, hu1, hR, dm], by simp only [bA, reduceCtorEq, g2, g5, g9, g10, g11, g12, g13, k14, k15, ix_slc, hu1, hR, dm], by simp only [bA, reduceCtorEq, g2, g5, g9, g10, g11, g12, g13, k14, k15, ix_slc, hu1, hR, dm], by simp only [bA, reduceCtorEq, g2, g5, g9, g10, g11, g12, g13, k14, k15, ix_slc, hu1, hR, dm], by simp only [bA, reduceCtorEq, g2, g5, g9, g10, g11, g12, g13, k14, k15, ix_slc, hu1, hR, dm]⟩
     ·simp only
      rw [List.set_set]
      exact hcells1 ord (k0 : Int) hcells hcd
  ·have d1 : decide ((c : Int) < 256) = false := decide_eq_false (by omega)
   have hc256 : c = 256 := by omega
   subst hc256
   have htk : L.take 256 = L := List.take_of_length_le (by omega)
   rw [htk] at h
   simp (disch := first | omega | assumption) only [↓bxD, bA, reduceCtorEq, g2, g5, g9, g10, g11, g12, g13, h14, d1]
   exact hn _ _ v11 ord L (h.fr (by simp only [bA, reduceCtorEq, g2, g5, g9, g10, g11, g12, g13, h14, d1]) (by simp only [bA, reduceCtorEq, g2, g5, g9, g10, g11, g12, g13, h14, d1]) (by simp only [bA, reduceCtorEq, g2, g5, g9, g10, g11, g12, g13, h14, d1]) (by simp only [bA, reduceCtorEq, g2, g5, g9, g10, g11, g12, g13, h14, d1]) (by simp only [bA, reduceCtorEq, g2, g5, g9, g10, g11, g12, g13, h14, d1]) (by simp only [bA, reduceCtorEq, g2, g5, g9, g10, g11, g12, g13, h14, d1]) (by simp only [bA, reduceCtorEq, g2, g5, g9, g10, g11, g12, g13, h14, d1])) hx0 hcells
 ·refine ⟨Nat.zero_le _, ?_, h14, hx0, fun c hc => absurd hc (Nat.not_lt_zero c)⟩
  simp only
  rw [List.take_zero, List.append_nil]
  exact hst
structure OBt (Mc M : MH) (b2 b5 : Nat) (vn va vcl : MV) (N : List (List Int)) (A : List Int) (cl : List Nat) (n b10 : Nat) (v11 vn2 va2 : MV) (ids ord : List Nat) (D : List (List Int)) (Ac : List Int) (i : Nat) (f : Fr) : Prop where
 c : Cst Mc b2 b5 vn va vcl N A cl n
 ext : Ext Mc M
 ds : DSt Mc.n M b10 v11 vn2 va2 ids ord D Ac
 oi : OrdIn N A cl n ord D Ac D.flatten
 li : D.length = i ∧ Ac.length = i ∧ i ≤ ord.length
 q2 : X.ev f (.t q2) = .p b2 0
 q5 : X.ev f (.t q5) = .p b5 0
 q9 : X.ev f (.t q9) = vcl
 q10 : X.ev f (.t q10) = .p b10 0
 q11 : X.ev f (.t q11) = v11
 q12 : X.ev f (.t q12) = .i .i64 (i : Int)
def DfaAt (M : MH) (m : MV) (D : List (List Int)) (Ac : List Int) : Prop := ∃ vn va, m = .ag [vn, va] ∧ MxAt M vn D ∧ IntRow M va Ac
theorem MOwn.mxat {lo : Nat} {M : MH} {vn : MV} {ids : List Nat} {N : List (List Int)} (h : MOwn lo M vn ids N) : MxAt M vn N := by
 refine ⟨_, h.rn.row, by rw [List.length_map]; exact h.li, fun i l hl => ?_⟩
 have hil := (List.getElem?_eq_some_iff.1 hl).1
 have hli := h.li
 obtain ⟨id, hid⟩ : ∃ id, ids[i]? = some id := ⟨_, List.getElem?_eq_getElem (by omega)⟩
 obtain ⟨y1, y2, y3, y4⟩ := h.mx i id l hid hl
 refine ⟨.sl id 0 256 0, by rw [List.getElem?_map, hid]; rfl, ?_⟩
 have := y1.row y4
 rw [y2] at this
 exact this
def FinP (N : List (List Int)) (A : List Int) (cl : List Nat) (n : Nat) (Mc : MH) (b2 : Nat) (m : MV) (M' : MH) : Prop := (∀ id, id < Mc.n → id ≠ b2 → M'.get id = Mc.get id) ∧ Mc.n ≤ M'.n ∧ M'.lo = Mc.lo ∧ ∃ d ord D Ac, m = .tp [d, .i .i64 0, .b true] ∧ DfaAt M' d D Ac ∧ OrdIn N A cl n ord D Ac D.flatten ∧ D.length = ord.length ∧ Ac.length = ord.length
theorem ord_all {Mc M : MH} {b2 b5 n b10 : Nat} {vn va vcl v11 vn2 va2 : MV} {N D : List (List Int)} {A Ac : List Int} {cl ids ord : List Nat} {f : Fr} (hst : OBt Mc M b2 b5 vn va vcl N A cl n b10 v11 vn2 va2 ids ord D Ac 0 f) (K : MV → MH → Prop) (hK : ∀ m M', FinP N A cl n Mc b2 m M' → K m M') : Wp fns (.loop L16_19) f M (blockQ 4 (thenQ fns K16_20 (retQ F16 K))) := by
 refine Wp_inv (σ := (MV × MV × MV × List Nat × List Nat × List (List Int) × List Int)) (fun s f1 M1 => OBt Mc M1 b2 b5 vn va vcl N A cl n b10 s.1 s.2.1 s.2.2.1 s.2.2.2.1 s.2.2.2.2.1 s.2.2.2.2.2.1 s.2.2.2.2.2.2 s.2.2.2.2.2.1.length f1) (fun s => n - s.2.2.2.2.2.1.length) ?_ (v11, vn2, va2, ids, ord, D, Ac) ?_
 ·clear hst
  rintro ⟨v11, vn2, va2, ids, ord, D, Ac⟩ f1 M1 h
  simp only at h
  have g2 := h.q2
  have g5 := h.q5
  have g9 := h.q9
  have g10 := h.q10
  have g11 := h.q11
  have g12 := h.q12
  simp only [q2, q5, q9, q10, q11, q12] at g2 g5 g9 g10 g11 g12
  have hx := h.ext
  have hxl := hx.lo
  have hxn := hx.n
  have hlo := h.c.lo
  have hb2n := h.c.b2n
  have hbl := h.c.bl
  have hbig := h.c.big
  have hol := h.oi.len
  have hlen := h.li
  have hr5 := h.ds.r5.row
  obtain ⟨s1, s2⟩ := hr5.sl
  have s2 : slen v11 = ord.length := s2.trans (nv_len ord)
  unfold L16_19
  by_cases hi : D.length < ord.length
  ·have d1 : decide ((D.length : Int) < (ord.length : Int)) = true := decide_eq_true (by omega)
   obtain ⟨x0, hx0⟩ : ∃ x, ord[D.length]? = some x := ⟨_, List.getElem?_eq_getElem hi⟩
   have hmk : mksI M1 1 8 [.i .i64 0] (.i .i64 256) (.i .i64 256) = some (.sl M1.n 0 256 0, M1.push (.cs false 1 (ofL (zrow [.i .i64 0] 256) 0))) := mks_ok (n := 256) (by omega) (by omega) (by omega)
   simp (disch := first | omega | assumption) only [↓bxD, bA, reduceCtorEq, g2, g5, g9, g10, g11, g12, s1, s2, d1, ev_mks, hmk]
   show Wp fns K16_18 _ _ _
   unfold K16_18
   simp (disch := first | omega | assumption) only [↓bxD, bA, reduceCtorEq, g2, g5, g9, g10, g11, g12, s1, s2, d1, ev_mks, hmk]
   have hbn := IntsAt.new (M := M1) 256
   have x2 : Ext M1 (M1.push (.cs false 1 (ofL (zrow [.i .i64 0] 256) 0))) := .push M1 _
   have n2 : (M1.push (.cs false 1 (ofL (zrow [.i .i64 0] 256) 0))).n = M1.n + 1 := rfl
   generalize M1.push (.cs false 1 (ofL (zrow [.i .i64 0] 256) 0)) = M2 at hbn x2 n2
   refine ord_row (Mc := Mc) (b2 := b2) (b5 := b5) (n := n) (b10 := b10) (i := D.length) (id13 := M1.n) (x0 := x0) (vn := vn) (va := va) (vcl := vcl) (v11 := v11) (vn2 := vn2) (va2 := va2) (N := N) (D := D) (A := A) (Ac := Ac) (L := List.replicate 256 0) (cl := cl) (ids := ids) (ord := ord) ?_ hx0 ?_ _ ?_
   ·exact ⟨h.c, hx.trans x2, h.ds.ext x2, h.oi, ⟨rfl, hlen.2.1, hi⟩, hbn, List.length_replicate, ⟨by omega, by omega⟩, fun hf => by have := (h.ds.foot_lt hf).2; omega, by simp only [bA, reduceCtorEq, g2, g5, g9, g10, g11, g12, s1, s2, d1, ev_mks, hmk], by simp only [bA, reduceCtorEq, g2, g5, g9, g10, g11, g12, s1, s2, d1, ev_mks, hmk], by simp only [bA, reduceCtorEq, g2, g5, g9, g10, g11, g12, s1, s2, d1, ev_mks, hmk], by simp only [bA, reduceCtorEq, g2, g5, g9, g10, g11, g12, s1, s2, d1, ev_mks, hmk], by simp only [bA, reduceCtorEq, g2, g5, g9, g10, g11, g12, s1, s2, d1, ev_mks, hmk], by simp only [bA, reduceCtorEq, g2, g5, g9, g10, g11, g12, s1, s2, d1, ev_mks, hmk], by simp only [bA, reduceCtorEq, g2, g5, g9, g10, g11, g12, s1, s2, d1, ev_mks, hmk]⟩
   ·simp only [bA, reduceCtorEq, g2, g5, g9, g10, g11, g12, s1, s2, d1, ev_mks, hmk] <;> rfl
   intro f2 M3 v11' ord' L' h3 hx0' hcells
   have g2 := h3.q2
   have g5 := h3.q5
   have g9 := h3.q9
   have g10 := h3.q10
   have g11 := h3.q11
   have g12 := h3.q12
   have g13 := h3.q13
   simp only [q2, q5, q9, q10, q11, q12, q13] at g2 g5 g9 g10 g11 g12 g13
   have hx3 := h3.ext
   have hxl3 := hx3.lo
   have hxn3 := hx3.n
   have hol3 := h3.oi.len
   obtain ⟨tb, hb1, hb2⟩ := h3.ds.box
   have hb10 := h3.ds.bx
   have cb0 : cget tb 0 = some vn2 := hb2 0 _ rfl
   have hfill : fillM [(0, 1, MV.sl M1.n 0 256 0)] [MV.nils] = some [.sl M1.n 0 256 0] := rfl
   obtain ⟨vn', M4, t4, a1, a2, a3, a4, a5, a6, a8, a7⟩ := h3.ds.pushN (by omega) (by omega) h3.row h3.rl h3.r1 h3.rf (by omega)
   have hbcl := isSl_cells a6
   have hbst : stOk 1 vn' = true := by
    unfold stOk
    rw [isSl_cells a6, isSl_isU a6]
    simp only [all_cons, all_nil, isSl_one a6]
    rfl
   show Wp fns K16_16 _ _ _
   unfold K16_16
   simp (disch := first | omega | assumption) only [↓bxD, bA, reduceCtorEq, g2, g5, g9, g10, g11, g12, g13, hb1, cb0, hfill, bslW_some]
   refine bindP_of a1 ?_
   simp (disch := first | omega | assumption) only [↓bxD, bA, reduceCtorEq, g2, g5, g9, g10, g11, g12, g13, hb1, cb0, hfill, bslW_some, a2, a3, hbcl]
   have hx5 : Ext Mc (M4.set b10 (some (.cs false 2 (setN [vn'] 0 t4)))) := by
    refine ⟨by rw [set_n]; omega, by rw [set_lo]; omega, fun j hj => ?_⟩
    rw [set_ne (by omega), a8 j (by omega) (fun e' => by have := (own_obj h3.ds.rn e').1; omega)]
    exact hx3.old j hj
   have hn5 : (M4.set b10 (some (.cs false 2 (setN [vn'] 0 t4)))).n = M4.n := rfl
   have hl5' : (M4.set b10 (some (.cs false 2 (setN [vn'] 0 t4)))).lo = M4.lo := rfl
   generalize M4.set b10 (some (.cs false 2 (setN [vn'] 0 t4))) = M5 at a7 hx5 hn5 hl5' ⊢
   obtain ⟨tb5, hd1, hd2⟩ := a7.box
   have cb1 : cget tb5 1 = some va2 := hd2 1 _ rfl
   obtain ⟨tc, hc1, hc2⟩ := h.c.box
   have hc1' := (hx5.old b5 hbl).trans hc1
   have cc1 : cget tc 1 = some va := hc2 1 _ rfl
   have hr5' := a7.r5.row
   obtain ⟨s1', s2'⟩ := hr5'.sl
   have s2' : slen v11' = ord'.length := s2'.trans (nv_len ord')
   have hil' : D.length < ord'.length := (List.getElem?_eq_some_iff.1 hx0').1
   obtain ⟨ro, sz, tt, gg, _, hcx⟩ := nv_read hr5' hx0'
   have hx0n := h3.oi.lt x0 (List.mem_of_getElem? hx0')
   have hia := h.c.ia.ext hx5
   obtain ⟨i1, i2⟩ := hia.sl
   have hal := h.c.al
   obtain ⟨z, hz⟩ : ∃ z, A[x0]? = some z := ⟨_, List.getElem?_eq_getElem (by omega)⟩
   have hzd : A.getD x0 (-1) = z := by rw [List.getD_eq_getElem?_getD, hz]; rfl
   obtain ⟨ro6, sz6, t6, gg6, _, hcz⟩ := hia.read hz
   have hx0l : x0 < A.length := by omega
   have hf1 : fillM [(0, 1, MV.i .i64 z)] [MV.i .i64 0] = some [.i .i64 z] := rfl
   have hpu : ∀ m o, pushV M5.lift m o = some (m, M5.lift.push o) := fun m o => push_ok (Nat.le_refl _)
   obtain ⟨va', M7, t7, b1, b2', b3, b4, b5', b6', b8, b7⟩ := a7.pushA (by omega) (by omega) z (by have := hlen.2.1; omega)
   have hbcl7 := isSl_cells b6'
   have hbst7 : stOk 1 va' = true := by
    unfold stOk
    rw [isSl_cells b6', isSl_isU b6']
    simp only [all_cons, all_nil, isSl_one b6']
    rfl
   refine Wp_dreg_of (by omega) ?_
   simp (disch := first | omega | assumption) only [↓bxD, bA, reduceCtorEq, g2, g5, g9, g10, g11, g12, g13, hd1, cb1, hc1', cc1, s1', s2', gg, hcx, i1, i2, gg6, hcz, hf1, bslW_some, hpu]
   rw [lpd M5 _ M5.lo rfl]
   refine bindP_of b1 ?_
   simp (disch := first | omega | assumption) only [↓bxD, bA, reduceCtorEq, g2, g5, g9, g10, g11, g12, g13, hd1, cb1, hc1', cc1, s1', s2', gg, hcx, i1, i2, gg6, hcz, hf1, bslW_some, hpu, b2', b3, hbcl7]
   show Wp fns K16_17 _ _ _
   unfold K16_17
   simp (disch := first | omega | assumption) only [↓bxD, bA, reduceCtorEq, g2, g5, g9, g10, g11, g12, g13, hd1, cb1, hc1', cc1, s1', s2', gg, hcx, i1, i2, gg6, hcz, hf1, bslW_some, hpu]
   refine ⟨(v11', vn', va', ids ++ [M1.n], ord', D ++ [L'], Ac ++ [z]), by simp only [List.length_append, List.length_singleton]; omega, ?_⟩
   have hx7 : Ext Mc (M7.set b10 (some (.cs false 2 (setN [va'] 1 t7)))) := by
    refine ⟨by rw [set_n]; have := hx5.n; omega, by rw [set_lo]; have := hx5.lo; omega, fun j hj => ?_⟩
    rw [set_ne (by omega), b8 j (by have := hx5.n; omega) (fun e' => by have := (own_obj a7.ra e').1; omega)]
    exact hx5.old j hj
   have hAl := h3.li.2.1
   have hoi1 := h3.oi.row (L := L') (x := x0) hx0' h3.rl hcells
   have hoi2 := hoi1.accs (x := x0) (by rw [hAl]; exact hx0')
   rw [hzd] at hoi2
   have hfl : (D ++ [L']).flatten = D.flatten ++ L' := by rw [List.flatten_append]; simp
   simp only
   refine ⟨h.c, hx7, b7, by rw [hfl]; exact hoi2, ⟨rfl, by simp only [List.length_append, List.length_singleton]; omega, by simp only [List.length_append, List.length_singleton]; omega⟩, by simp only [bA, reduceCtorEq, g2, g5, g9, g10, g11, g12, g13, hd1, cb1, hc1', cc1, s1', s2', gg, hcx, i1, i2, gg6, hcz, hf1, bslW_some, hpu], by simp only [bA, reduceCtorEq, g2, g5, g9, g10, g11, g12, g13, hd1, cb1, hc1', cc1, s1', s2', gg, hcx, i1, i2, gg6, hcz, hf1, bslW_some, hpu], by simp only [bA, reduceCtorEq, g2, g5, g9, g10, g11, g12, g13, hd1, cb1, hc1', cc1, s1', s2', gg, hcx, i1, i2, gg6, hcz, hf1, bslW_some, hpu], by simp only [bA, reduceCtorEq, g2, g5, g9, g10, g11, g12, g13, hd1, cb1, hc1', cc1, s1', s2', gg, hcx, i1, i2, gg6, hcz, hf1, bslW_some, hpu], by simp only [bA, reduceCtorEq, g2, g5, g9, g10, g11, g12, g13, hd1, cb1, hc1', cc1, s1', s2', gg, hcx, i1, i2, gg6, hcz, hf1, bslW_some, hpu], by simp only [List.length_append, List.length_singleton]; simp (disch := first | omega | assumption) only [↓bxD, bA, reduceCtorEq, g2, g5, g9, g10, g11, g12, g13, hd1, cb1, hc1', cc1, s1', s2', gg, hcx, i1, i2, gg6, hcz, hf1, bslW_some, hpu] <;> rfl⟩
  ·have d1 : decide ((D.length : Int) < (ord.length : Int)) = false := decide_eq_false (by omega)
   obtain ⟨tb, hb1, hb2'⟩ := h.ds.box
   obtain ⟨t2, hc1, hc2⟩ := h.c.hb2
   have hc1' := (hx.old b2 hb2n).trans hc1
   have hb6 := h.ds.bx
   have hgn : Ev.getN tb 2 0 = some [vn2, va2] := hb2'.getN
   obtain ⟨z1, _⟩ := h.ds.rn.row.sl
   obtain ⟨z2, _⟩ := h.ds.ra.row.sl
   have hst : stOk 2 (.ag [vn2, va2]) = true := by
    cases vn2 <;> first | cases z1 | skip
    all_goals cases va2 <;> first | cases z2 | skip
    all_goals rfl
   have hcl : MV.cells (.ag [vn2, va2]) = [vn2, va2] := rfl
   have hgn2 : Ev.getN (setN [vn2, va2] 0 t2) 2 0 = some [vn2, va2] := (at_setN _ _ _).getN
   have hget := slot_p h.q2
   simp only [q2] at hget
   simp (disch := first | omega | assumption) only [↓bxD, bA, reduceCtorEq, g2, g5, g9, g10, g11, g12, s1, s2, d1, hb1, hgn, map_ag, hc1', hc2, hst, hcl]
   show Wp fns K16_20 _ _ _
   unfold K16_20
   simp (disch := first | omega | assumption) only [↓bxD, bA, reduceCtorEq, g2, g5, g9, g10, g11, g12, s1, s2, d1, hb1, hgn, map_ag, hc1', hc2, hst, hcl, res_cN, cNV_p, cNo_cs, get_set, hget, hgn2, set_same, resL_c, consO_some]
   have hk := h.ds.keep (M' := M1.set b2 (some (.cs false 2 (setN [vn2, va2] 0 t2)))) (by rw [set_n]; exact Nat.le_refl _) fun j hj => set_ne (by have := (h.ds.foot_lt hj).1; omega)
   refine hK _ _ ⟨fun id h1 h2 => by rw [set_ne h2]; exact hx.old id h1, by rw [set_n]; omega, by rw [set_lo]; exact hxl, _, ord, D, Ac, rfl, ⟨vn2, va2, rfl, MOwn.mxat ⟨hk.rn, hk.li, hk.nd, hk.mx, hk.dni⟩, hk.ra.row⟩, h.oi, by omega, by have := hlen.2.1; omega⟩
 ·have hN := hst.li.1
  simp only
  rw [hN]
  exact hst
def DfaPost (ps : List (Pm × Bs)) (M : MH) (m : MV) (M' : MH) : Prop := Ext M M' ∧ (m = .tp [.ag [.nils, .nils], .i .i64 0, .b false] ∨ ∃ d D Ac ord all N A out cl, m = .tp [d, .i .i64 0, .b true] ∧ DfaAt M' d D Ac ∧ SubIn ps all N A ∧ N.length = all.length ∧ A.length = all.length ∧ UseVec N A out ∧ ∃ N', (∀ i c, i < all.length → c < 256 → cellN N' i c = prC out (cellN N i c)) ∧ Shape N' all.length ∧ ClsOk N' A cl ∧ OrdIn N' A cl all.length ord D Ac D.flatten ∧ D.length = ord.length ∧ Ac.length = ord.length)
theorem MOwn.le {lo lo' : Nat} {M : MH} {vn : MV} {ids : List Nat} {N : List (List Int)} (h : MOwn lo M vn ids N) (k : lo' ≤ lo) : MOwn lo' M vn ids N := ⟨h.rn.le k, h.li, h.nd, fun i id l e1 e2 => let ⟨y1, y2, y3, y4⟩ := h.mx i id l e1 e2; ⟨y1, y2, by omega, y4⟩, h.dn⟩
theorem MOwn.ext {lo : Nat} {M M' : MH} {vn : MV} {ids : List Nat} {N : List (List Int)} (h : MOwn lo M vn ids N) (k : Ext M M') : MOwn lo M' vn ids N := ⟨h.rn.ext k, h.li, h.nd, fun i id l e1 e2 => let ⟨y1, y2, y3, y4⟩ := h.mx i id l e1 e2; ⟨y1.same (k.old id y4), y2, y3, by have := k.n; omega⟩, h.dn⟩
theorem accP_rng {ps : List (Pm × Bs)} {l : List (Nat × Int)} (h : OkL ps l) : -1 ≤ accP ps l ∧ accP ps l < ps.length := by
 unfold accP
 cases e : l.find? (hitP ps) with
 | none => simp only; omega
 | some p =>
  obtain ⟨q, hq, _⟩ := h.ok p (List.mem_of_find?_eq_some e)
  have := (List.getElem?_eq_some_iff.1 hq).1
  simp only
  omega
theorem sub_shape {ps : List (Pm × Bs)} {all : List (List (Nat × Int))} {N : List (List Int)} {A : List Int} (h : SubIn ps all N A) (hN : N.length = all.length) : Shape N all.length := by
 refine ⟨hN, fun l hl => ?_⟩
 obtain ⟨i, hi⟩ := List.getElem?_of_mem hl
 exact (h.rows i l hi).1
theorem sub_cell {ps : List (Pm × Bs)} {all : List (List (Nat × Int))} {N : List (List Int)} {A : List Int} (h : SubIn ps all N A) (hN : N.length = all.length) {i c : Nat} (hi : i < all.length) (hc : c < 256) : ∃ l, all[i]? = some l ∧ CellOk all (stpP ps c l) (cellN N i c) := by
 have hr := List.getElem?_eq_getElem (l := N) (i := i) (by omega)
 obtain ⟨_, l, h2, h3⟩ := h.rows i _ hr
 refine ⟨l, h2, ?_⟩
 have := h3 c hc
 unfold cellN
 rw [List.getD_eq_getElem?_getD (l := N), hr]
 exact this
theorem CellOk.rng {all : List (List (Nat × Int))} {to : List (Nat × Int)} {z : Int} (h : CellOk all to z) : -1 ≤ z ∧ z < all.length := by
 rcases h with ⟨_, h⟩ | ⟨_, k, h2, h3⟩
 ·omega
 ·have := (List.getElem?_eq_some_iff.1 h3).1
  omega
theorem shape_raw {N : List (List Int)} {A : List Int} {n : Nat} (hs : Shape N n) (hto : ∀ i c, i < n → c < 256 → -1 ≤ cellN N i c ∧ cellN N i c < n) (hA : A.length = n) (hb : n ≤ 400) (ha : ∀ z ∈ A, -1 ≤ z ∧ z ≤ 1000) : RawOk N A := by
 refine ⟨by rw [hs.len]; exact hA, by rw [hs.len]; exact hb, hs.row, fun l hl z hz => ?_, ha⟩
 obtain ⟨i, hi⟩ := List.getElem?_of_mem hl
 obtain ⟨c, hc⟩ := List.getElem?_of_mem hz
 have hil := (List.getElem?_eq_some_iff.1 hi).1
 have hcl := (List.getElem?_eq_some_iff.1 hc).1
 have hrl := hs.row l hl
 have hsl := hs.len
 have := hto i c (by omega) (by omega)
 have e : cellN N i c = z := by
  unfold cellN
  rw [List.getD_eq_getElem?_getD (l := N), hi, Option.getD_some, List.getD_eq_getElem?_getD, hc]
  rfl
 rw [e] at this
 rw [hsl]
 exact this
theorem sub_acc {ps : List (Pm × Bs)} (hok : OkPs ps) {all : List (List (Nat × Int))} {N : List (List Int)} {A : List Int} (h : SubIn ps all N A) : ∀ z ∈ A, -1 ≤ z ∧ z ≤ 1000 := fun z hz => by
 obtain ⟨i, hi⟩ := List.getElem?_of_mem hz
 obtain ⟨l, h2, rfl⟩ := h.acc i z hi
 have := accP_rng (h.ok l (List.mem_of_getElem? h2))
 have := hok.n
 omega
theorem prC_rng {out : List Bool} {z : Int} {n : Nat} (h : -1 ≤ z ∧ z < n) : -1 ≤ prC out z ∧ prC out z < n := by
 unfold prC
 split
 ·omega
 ·exact h
theorem dfa_any {M : MH} {v0 : MV} {ps : List (Pm × Bs)} (hlo : M.lo ≤ M.n) (hps : PsAt M v0 ps) (hok : OkPs ps) : Cp fns 16 [v0] M (DfaPost ps M) := by
 obtain ⟨r1, r2⟩ := hps.len
 have hn40 := hok.n
 refine Cp_call (fn := F16) (by kernel_rfl) (Nat.le_of_ble_eq_true rfl) ?_
 show Wp fns B16 (T.set q0 (some v0) T.lf) M _
 unfold B16
 have d40 : decide ((40 : Int) < (ps.length : Int)) = false := decide_eq_false (by omega)
 simp (disch := first | omega | assumption | (simp only [bZ, stOk, Nat.reduceBEq, Nat.reduceEqDiff, Nat.reduceAdd] <;> omega) | ((try apply has_setN); apply has_ofL; simp only [bxL]; omega)) only [↓bxD, bA, Nat.reduceBEq, reduceCtorEq, Nat.reduceAdd, Nat.reduceSub, Nat.reduceMul, Nat.reduceLeDiff, Nat.reduceLT, r1, r2, d40]
 show Wp fns K16_23 _ _ _
 unfold K16_23
 simp (disch := first | omega | assumption | (simp only [bZ, stOk, Nat.reduceBEq, Nat.reduceEqDiff, Nat.reduceAdd] <;> omega) | ((try apply has_setN); apply has_ofL; simp only [bxL]; omega)) only [↓bxD, bA, Nat.reduceBEq, reduceCtorEq, Nat.reduceAdd, Nat.reduceSub, Nat.reduceMul, Nat.reduceLeDiff, Nat.reduceLT, r1, r2, d40]
 generalize hM1 : M.push _ = M1
 have x1 : Ext M M1 := by rw [← hM1]; exact .push M _
 have g1 : M1.get M.n = some (.cs false 2 (ofL [.nils, .nils] 0)) := by rw [← hM1]; exact push_new _
 have n1 : M1.n = M.n + 1 := by rw [← hM1]; rfl
 have l1 := x1.lo
 clear hM1
 refine bindP_call (subsets_any (by omega) (hps.ext x1) hok) ?_
 rintro m M2 ⟨x2, vn, va, b, rfl, z1, z2, hsub⟩
 have n2 := x2.n
 have l2 := x2.lo
 have hst : stOk 3 (.ag [vn, va, .b b]) = true := by
  cases vn <;> first | cases z1 | skip
  all_goals cases va <;> first | cases z2 | skip
  all_goals rfl
 have hcl : MV.cells (.ag [vn, va, .b b]) = [vn, va, .b b] := rfl
 simp (disch := first | omega | assumption | (simp only [bZ, stOk, Nat.reduceBEq, Nat.reduceEqDiff, Nat.reduceAdd] <;> omega) | ((try apply has_setN); apply has_ofL; simp only [bxL]; omega)) only [↓bxD, bA, Nat.reduceBEq, reduceCtorEq, Nat.reduceAdd, Nat.reduceSub, Nat.reduceMul, Nat.reduceLeDiff, Nat.reduceLT, r1, r2, d40, hst, hcl]
 generalize hM3 : (M2.push _).set M2.n _ = M3
 have x3 : Ext M2 M3 := by rw [← hM3]; exact (Ext.push M2 _).set _ (Nat.le_refl _)
 have g3 : M3.get M2.n = some (.cs false 3 (setN [vn, va, .b b] 0 (ofL [.nils, .nils, .b false] 0))) := by rw [← hM3]; exact set_same _ _
 have n3 : M3.n = M2.n + 1 := by rw [← hM3]; rfl
 have l3 := x3.lo
 clear hM3
 have A3 := at_setN [vn, va, .b b] 0 (ofL [.nils, .nils, .b false] 0)
 generalize setN [vn, va, .b b] 0 (ofL [.nils, .nils, .b false] 0) = c3 at A3 g3
 have c2 : cget c3 2 = some (.b b) := A3 2 _ rfl
 have hg3 : Ev.getN c3 3 0 = some [vn, va, .b b] := A3.getN
 have gb2 := (x3.old M.n (by omega)).trans ((x2.old M.n (by omega)).trans g1)
 cases b with
 | true =>
  have hf0 : fillM [] [MV.nils, MV.nils] = some [.nils, .nils] := rfl
  have hst2 : stOk 2 (.ag [.nils, .nils]) = true := rfl
  have hh2 : hasB (ofL [MV.nils, MV.nils] 0) 2 0 = true := rfl
  have hgn2 : Ev.getN (setN [MV.nils, .nils] 0 (ofL [MV.nils, .nils] 0)) 2 0 = some [.nils, .nils] := (at_setN _ _ _).getN
  simp (disch := first | omega | assumption | (simp only [bZ, stOk, Nat.reduceBEq, Nat.reduceEqDiff, Nat.reduceAdd] <;> omega) | ((try apply has_setN); apply has_ofL; simp only [bxL]; omega)) only [↓bxD, bA, Nat.reduceBEq, reduceCtorEq, Nat.reduceAdd, Nat.reduceSub, Nat.reduceMul, Nat.reduceLeDiff, Nat.reduceLT, g3, c2, gb2, hf0, hst2, hh2, map_ag, hgn2, res_cN, cNV_p, cNo_cs, get_set, set_same, resL_c, consO_some]
  exact ⟨((x1.trans x2).trans x3).set _ (Nat.le_refl _), .inl rfl⟩
 | false =>
  simp (disch := first | omega | assumption | (simp only [bZ, stOk, Nat.reduceBEq, Nat.reduceEqDiff, Nat.reduceAdd] <;> omega) | ((try apply has_setN); apply has_ofL; simp only [bxL]; omega)) only [↓bxD, bA, Nat.reduceBEq, reduceCtorEq, Nat.reduceAdd, Nat.reduceSub, Nat.reduceMul, Nat.reduceLeDiff, Nat.reduceLT, g3, c2]
  show Wp fns K16_22 _ _ _
  unfold K16_22
  simp (disch := first | omega | assumption | (simp only [bZ, stOk, Nat.reduceBEq, Nat.reduceEqDiff, Nat.reduceAdd] <;> omega) | ((try apply has_setN); apply has_ofL; simp only [bxL]; omega)) only [↓bxD, bA, Nat.reduceBEq, reduceCtorEq, Nat.reduceAdd, Nat.reduceSub, Nat.reduceMul, Nat.reduceLeDiff, Nat.reduceLT, g3, c2, hg3, map_ag]
  obtain ⟨ids, all, N, A, hmo, hra, hdai, hsi, hNl, hAl⟩ := hsub rfl
  have hpos : 0 < all.length := (List.getElem?_eq_some_iff.1 hsi.hd).1
  have hbig := hsi.big
  have hsh := sub_shape hsi hNl
  have hto : ∀ i c, i < all.length → c < 256 → -1 ≤ cellN N i c ∧ cellN N i c < all.length := fun i c hi hc => by
   obtain ⟨l, _, h2⟩ := sub_cell hsi hNl hi hc
   exact h2.rng
  have hrok := shape_raw hsh hto hAl hbig (sub_acc hok hsi)
  have hmo3 := hmo.ext x3
  have hra3 := hra.ext x3
  refine bindP_call (useful_any (by omega) ⟨⟨vn, va, false, rfl, hmo3.mxat, hra3.row⟩⟩ hrok) ?_
  rintro r M4 ⟨x4, out, id6, huv, rfl, hob, hid6, hid6'⟩
  have n4 := x4.n
  have l4 := x4.lo
  have g4 := (x4.old M2.n (by omega)).trans g3
  have gb4 := (x4.old M.n (by omega)).trans gb2
  simp (disch := first | omega | assumption | (simp only [bZ, stOk, Nat.reduceBEq, Nat.reduceEqDiff, Nat.reduceAdd] <;> omega) | ((try apply has_setN); apply has_ofL; simp only [bxL]; omega)) only [↓bxD, bA, Nat.reduceBEq, reduceCtorEq, Nat.reduceAdd, Nat.reduceSub, Nat.reduceMul, Nat.reduceLeDiff, Nat.reduceLT, g3, c2]
  refine prune_all (M0 := M) (b5 := M2.n) (id6 := id6) (n := all.length) (vn := vn) (va := va) (ids := ids) (N := N) (A := A) (out := out) ?_ hto ?_ _ ?_
  ·refine ⟨((x1.trans x2).trans x3).trans x4, hlo, (hmo3.ext x4).le (by omega), (hra3.ext x4).le (by omega), hdai, ⟨c3, g4, A3⟩, ⟨by omega, by omega⟩, ⟨_, gb4, rfl⟩, by omega, hob, hid6', fun hm => ?_, hsh, by rw [huv.1]; exact hNl, hbig, by simp only [bxP, bxQ, bxQ2, reduceCtorEq, g3, c2], by simp only [bxP, bxQ, bxQ2, reduceCtorEq, g3, c2], by simp only [bxP, bxQ, bxQ2, reduceCtorEq, g3, c2]⟩
   obtain ⟨i, hi⟩ := List.getElem?_of_mem hm
   have hil := (List.getElem?_eq_some_iff.1 hi).1
   have hli := hmo.li
   obtain ⟨_, _, _, y4⟩ := hmo.mx i id6 _ hi (List.getElem?_eq_getElem (by omega))
   omega
  ·simp only [bxP, bxQ, bxQ2, reduceCtorEq, g3, c2] <;> rfl
  intro f5 M5 N' h5 hcell5
  have k2 := h5.q2
  have k5 := h5.q5
  simp only [q2, q5] at k2 k5
  obtain ⟨t5, hb1, hb2⟩ := h5.box
  have hgn5 : Ev.getN t5 3 0 = some [vn, va, .b false] := hb2.getN
  have hx5 := h5.ext
  have hxl5 := hx5.lo
  have hxn5 := hx5.n
  have hto' : ∀ i c, i < all.length → c < 256 → -1 ≤ cellN N' i c ∧ cellN N' i c < all.length := fun i c hi hc => by
   rw [hcell5 i c hi hc]
   exact prC_rng (hto i c hi hc)
  have hrok' := shape_raw h5.sh hto' hAl hbig (sub_acc hok hsi)
  show Wp fns K16_21 _ _ _
  unfold K16_21
  simp (disch := first | omega | assumption | (simp only [bZ, stOk, Nat.reduceBEq, Nat.reduceEqDiff, Nat.reduceAdd] <;> omega) | ((try apply has_setN); apply has_ofL; simp only [bxL]; omega)) only [↓bxD, bA, Nat.reduceBEq, reduceCtorEq, Nat.reduceAdd, Nat.reduceSub, Nat.reduceMul, Nat.reduceLeDiff, Nat.reduceLT, k2, k5, hb1, hgn5, map_ag]
  refine bindP_call (classes_any (by omega) ⟨⟨vn, va, false, rfl, h5.mo.mxat, h5.ra.row⟩⟩ hrok') ?_
  rintro r M6 ⟨x6, cl, hcls, hcr⟩
  have n6 := x6.n
  have l6 := x6.lo
  have hf0 : fillM [(0, 1, MV.i .i64 0)] [MV.i .i64 0] = some [.i .i64 0] := rfl
  simp (disch := first | omega | assumption | (simp only [bZ, stOk, Nat.reduceBEq, Nat.reduceEqDiff, Nat.reduceAdd] <;> omega) | ((try apply has_setN); apply has_ofL; simp only [bxL]; omega)) only [↓bxD, bA, Nat.reduceBEq, reduceCtorEq, Nat.reduceAdd, Nat.reduceSub, Nat.reduceMul, Nat.reduceLeDiff, Nat.reduceLT, k2, k5, hb1, hgn5, map_ag, hf0, bslW_some]
  generalize hM7 : (M6.push (.cs false 2 (ofL [.nils, .nils] 0))).push (.cs false 1 (ofL [.i .i64 0] 0)) = M7
  obtain ⟨x7, n7, p1, p2⟩ := push2b hM7
  clear hM7
  have hg2' : ∃ t, M6.get M.n = some (.cs false 2 t) ∧ hasB t 2 0 = true := by
   obtain ⟨t, y1, y2⟩ := h5.b2
   exact ⟨t, (x6.old M.n h5.b2n).trans y1, y2⟩
  have hc : Cst M6 M.n M2.n vn va r N' A cl all.length := by
   refine ⟨by omega, hg2', by have := h5.b2n; omega, ⟨t5, (x6.old M2.n h5.bx.2).trans hb1, hb2⟩, by have := h5.bx.2; omega, h5.mo.mxat.ext x6, (h5.ra.ext x6).row, h5.sh, hAl, hto', hcr, ?_, hbig⟩
   rw [hcls.len]
   exact h5.sh.len
  refine ord_all (Mc := M6) (b2 := M.n) (b5 := M2.n) (n := all.length) (b10 := M6.n) (vn := vn) (va := va) (vcl := r) (v11 := .sl (M6.n + 1) 0 1 0) (vn2 := .nils) (va2 := .nils) (N := N') (D := []) (A := A) (Ac := []) (cl := cl) (ids := []) (ord := [0]) ?_ _ ?_
  ·refine ⟨hc, x7, ?_, OrdIn.start hpos, ⟨rfl, rfl, Nat.zero_le _⟩, by simp only [bxP, bxQ, bxQ2, reduceCtorEq, k2, k5, hb1, hgn5, map_ag], by simp only [bxP, bxQ, bxQ2, reduceCtorEq, k2, k5, hb1, hgn5, map_ag], by simp only [bxP, bxQ, bxQ2, reduceCtorEq, k2, k5, hb1, hgn5, map_ag], by simp only [bxP, bxQ, bxQ2, reduceCtorEq, k2, k5, hb1, hgn5, map_ag], by simp only [bxP, bxQ, bxQ2, reduceCtorEq, k2, k5, hb1, hgn5, map_ag], by simp only [bxP, bxQ, bxQ2, reduceCtorEq, k2, k5, hb1, hgn5, map_ag] <;> rfl⟩
   refine ⟨⟨fun e he => by rw [List.mem_singleton.1 he]; rfl, .inr ⟨M6.n + 1, _, rfl, p2, by omega, by omega, at_ofL _⟩⟩, OwnRow.nil _ _ _, OwnRow.nil _ _ _, rfl, List.nodup_nil, fun i id l h1 => by simp at h1, ⟨_, p1, at_ofL _⟩, ⟨Nat.le_refl _, by omega⟩, fun a _ h => (by cases h), fun a _ h => (by cases h), fun a h => (by cases h), fun a h => (by cases h), fun a h => (by cases h), fun a h => (by cases h)⟩
  ·rintro m M8 ⟨e1, e2, e3, d, ord, D, Ac, rfl, hD, hoi, hDl, hAc⟩
   refine ⟨⟨by omega, by omega, fun id hid => ?_⟩, .inr ⟨d, D, Ac, ord, all, N, A, out, cl, rfl, hD, hsi, hNl, hAl, huv, N', hcell5, h5.sh, hcls, hoi, hDl, hAc⟩⟩
   rw [e1 id (by omega) (by omega), x6.old id (by omega)]
   exact hx5.old id hid
def Byt (w : List Nat) : Prop := ∀ c ∈ w, c < 256
def dstep (D : List (List Int)) (s : Int) (c : Nat) : Int := if s < 0 then -1 else cellN D s.toNat c
def drun (D : List (List Int)) (s : Int) (w : List Nat) : Int := w.foldl (dstep D) s
def dans (D : List (List Int)) (Ac : List Int) (s : Int) (w : List Nat) : Int := if drun D s w < 0 then -1 else Ac.getD (drun D s w).toNat (-1)
def ansP (ps : List (Pm × Bs)) (w : List Nat) : Int := accP ps (runL ps (firstL ps.length) w)
theorem drun_cons (D : List (List Int)) (s : Int) (c : Nat) (w : List Nat) : drun D s (c :: w) = drun D (dstep D s c) w := rfl
theorem drun_dead (D : List (List Int)) : ∀ (w : List Nat) (s : Int), s < 0 → drun D s w < 0
 | [], s, h => h
 | c :: w, s, h => by
  rw [drun_cons]
  refine drun_dead D w _ ?_
  unfold dstep
  rw [if_pos h]
  decide
theorem dans_dead (D : List (List Int)) (Ac : List Int) (w : List Nat) {s : Int} (h : s < 0) : dans D Ac s w = -1 := by
 unfold dans
 rw [if_pos (drun_dead D w s h)]
theorem dans_cons (D : List (List Int)) (Ac : List Int) (s : Int) (c : Nat) (w : List Nat) : dans D Ac s (c :: w) = dans D Ac (dstep D s c) w := rfl
theorem dstep_nat (D : List (List Int)) (k c : Nat) : dstep D (k : Int) c = cellN D k c := by
 unfold dstep
 rw [if_neg (by omega), Int.toNat_natCast]
theorem dans_nil (D : List (List Int)) (Ac : List Int) (k : Nat) : dans D Ac (k : Int) [] = Ac.getD k (-1) := by
 have e : drun D (k : Int) [] = (k : Int) := rfl
 unfold dans
 rw [e, if_neg (by omega), Int.toNat_natCast]
theorem Byt.tail {c : Nat} {w : List Nat} (h : Byt (c :: w)) : c < 256 ∧ Byt w := ⟨h c List.mem_cons_self, fun x hx => h x (List.mem_cons_of_mem _ hx)⟩
theorem runL_cons (ps : List (Pm × Bs)) (l : List (Nat × Int)) (c : Nat) (w : List Nat) : runL ps l (c :: w) = runL ps (stpP ps c l) w := rfl
theorem runL_nil (ps : List (Pm × Bs)) : ∀ w, runL ps [] w = []
 | [] => rfl
 | c :: w => by rw [runL_cons]; exact runL_nil ps w
theorem accP_nil (ps : List (Pm × Bs)) : accP ps [] = -1 := rfl
section
variable {ps : List (Pm × Bs)} {all : List (List (Nat × Int))} {N : List (List Int)} {A : List Int}
theorem raw_ans (h : SubIn ps all N A) (hN : N.length = all.length) (hA : A.length = all.length) : ∀ (w : List Nat) (k : Nat) (l : List (Nat × Int)), Byt w → all[k]? = some l → dans N A (k : Int) w = accP ps (runL ps l w)
 | [], k, l, _, hk => by
  rw [dans_nil]
  have hkl := (List.getElem?_eq_some_iff.1 hk).1
  have he := List.getElem?_eq_getElem (l := A) (i := k) (by omega)
  obtain ⟨l', h1, h2⟩ := h.acc k _ he
  rw [hk] at h1
  injection h1 with h1
  rw [List.getD_eq_getElem?_getD, he, Option.getD_some, h2, ← h1]
  rfl
 | c :: w, k, l, hw, hk => by
  obtain ⟨hc, hw⟩ := hw.tail
  have hkl := (List.getElem?_eq_some_iff.1 hk).1
  obtain ⟨l', h1, h2⟩ := sub_cell h hN hkl hc
  rw [hk] at h1
  injection h1 with h1
  subst h1
  rw [dans_cons, dstep_nat, runL_cons]
  rcases h2 with ⟨e1, e2⟩ | ⟨_, k', e2, e3⟩
  ·rw [e2, dans_dead _ _ _ (by decide), e1, runL_nil, accP_nil]
  ·rw [e2]
   exact raw_ans h hN hA w k' _ hw e3
theorem dans_lo (hA : ∀ z ∈ A, -1 ≤ z) (s : Int) (w : List Nat) : -1 ≤ dans N A s w := by
 unfold dans
 split
 ·omega
 ·rw [List.getD_eq_getElem?_getD]
  cases e : A[(drun N s w).toNat]? with
  | none => simp
  | some z => simp only [Option.getD_some]; exact hA z (List.mem_of_getElem? e)
theorem use_ans {n : Nat} (hN : N.length = n) (hto : ∀ i c, i < n → c < 256 → -1 ≤ cellN N i c ∧ cellN N i c < n) : ∀ (w : List Nat) (k : Nat), Byt w → k < n → 0 ≤ dans N A (k : Int) w → UseI N A k
 | [], k, _, hk, h => by
  rw [dans_nil] at h
  exact .acc k (by omega) h
 | c :: w, k, hw, hk, h => by
  obtain ⟨hc, hw⟩ := hw.tail
  rw [dans_cons, dstep_nat] at h
  obtain ⟨h1, h2⟩ := hto k c hk hc
  by_cases h0 : cellN N k c < 0
  ·rw [dans_dead _ _ _ h0] at h; omega
  ·obtain ⟨z, hz⟩ : ∃ z : Nat, cellN N k c = z := ⟨(cellN N k c).toNat, by omega⟩
   rw [hz] at h
   have := use_ans hN hto w z hw (by omega) h
   exact .step k c (by omega) hc (by omega) (by rw [hz, Int.toNat_natCast]; exact this)
theorem ans_use {k : Nat} (h : UseI N A k) : ∃ w, Byt w ∧ 0 ≤ dans N A (k : Int) w := by
 induction h with
 | acc i hi h => exact ⟨[], (fun c hc => by cases hc), by rw [dans_nil]; exact h⟩
 | step i c hi hc h0 _ ih =>
  obtain ⟨w, h1, h2⟩ := ih
  refine ⟨c :: w, fun x hx => ?_, ?_⟩
  ·rcases List.mem_cons.1 hx with rfl | hx
   ·exact hc
   ·exact h1 x hx
  ·rw [dans_cons, dstep_nat]
   rw [Int.toNat_of_nonneg h0] at h2
   exact h2
theorem prune_ans {N' : List (List Int)} {out : List Bool} {n : Nat} (hN : N.length = n) (hto : ∀ i c, i < n → c < 256 → -1 ≤ cellN N i c ∧ cellN N i c < n) (hA : ∀ z ∈ A, -1 ≤ z) (hu : UseVec N A out) (hp : ∀ i c, i < n → c < 256 → cellN N' i c = prC out (cellN N i c)) : ∀ (w : List Nat) (k : Nat), Byt w → k < n → dans N' A (k : Int) w = dans N A (k : Int) w
 | [], k, _, hk => by rw [dans_nil, dans_nil]
 | c :: w, k, hw, hk => by
  obtain ⟨hc, hw⟩ := hw.tail
  obtain ⟨h1, h2⟩ := hto k c hk hc
  rw [dans_cons, dans_cons, dstep_nat, dstep_nat, hp k c hk hc]
  by_cases h0 : cellN N k c < 0
  ·rw [dans_dead _ _ _ h0, dans_dead]
   unfold prC
   rw [if_neg (by omega)]
   exact h0
  ·obtain ⟨z, hz⟩ : ∃ z : Nat, cellN N k c = z := ⟨(cellN N k c).toNat, by omega⟩
   rw [hz]
   by_cases hb : bAt out z = false
   ·have e : prC out (z : Int) = -1 := by unfold prC; rw [Int.toNat_natCast, if_pos ⟨by omega, hb⟩]
    rw [e, dans_dead _ _ _ (by decide)]
    have hlo := dans_lo (N := N) hA (z : Int) w
    by_cases hd : 0 ≤ dans N A (z : Int) w
    ·have h3 := (hu.2 z).2 (use_ans hN hto w z hw (by omega) hd)
     rw [bAt_some h3] at hb
     cases hb
    ·omega
   ·have e : prC out (z : Int) = z := by unfold prC; rw [Int.toNat_natCast, if_neg (fun e => hb e.2)]
    rw [e]
    exact prune_ans hN hto hA hu hp w z hw (by omega)
end
theorem cls_ans {N : List (List Int)} {A : List Int} {cl : List Nat} {n : Nat} (hN : N.length = n) (hto : ∀ i c, i < n → c < 256 → -1 ≤ cellN N i c ∧ cellN N i c < n) (hA : A.length = n) (h : ClsOk N A cl) : ∀ (w : List Nat) (x y : Nat), Byt w → x < n → y < n → cl.getD x 0 = cl.getD y 0 → dans N A (x : Int) w = dans N A (y : Int) w
 | [], x, y, _, hx, hy, e => by
  rw [dans_nil, dans_nil]
  have := h.acc x y (by omega) (by omega) e
  rw [List.getD_eq_getElem?_getD, List.getD_eq_getElem?_getD, List.getElem?_eq_getElem (by omega), List.getElem?_eq_getElem (by omega)] at this ⊢
  exact this
 | c :: w, x, y, hw, hx, hy, e => by
  obtain ⟨hc, hw⟩ := hw.tail
  rw [dans_cons, dans_cons, dstep_nat, dstep_nat]
  have h1 := hto x c hx hc
  have h2 := hto y c hy hc
  rcases h.to x y (by omega) (by omega) e c hc with ⟨a, b⟩ | ⟨a, b, d⟩
  ·rw [dans_dead _ _ _ a, dans_dead _ _ _ b]
  ·have := cls_ans hN hto hA h w _ _ hw (by omega) (by omega) d
   rw [Int.toNat_of_nonneg a, Int.toNat_of_nonneg b] at this
   exact this
theorem ord_cell {N : List (List Int)} {A : List Int} {cl : List Nat} {n : Nat} {ord : List Nat} {D : List (List Int)} {Ac S : List Int} (h : OrdIn N A cl n ord D Ac S) (hD : D.length = ord.length) {k x : Nat} (hk : ord[k]? = some x) {c : Nat} (hc : c < 256) : CellD cl ord (cellN N x c) (cellN D k c) := by
 have hkl := (List.getElem?_eq_some_iff.1 hk).1
 have hr := List.getElem?_eq_getElem (l := D) (i := k) (by omega)
 obtain ⟨_, x', h1, h2⟩ := h.rows k _ hr
 rw [hk] at h1
 injection h1 with h1
 subst h1
 have := h2 c hc
 unfold cellN
 unfold cellN at this
 rw [List.getD_eq_getElem?_getD (l := D), hr]
 exact this
theorem ord_ans {N : List (List Int)} {A : List Int} {cl : List Nat} {n : Nat} {ord : List Nat} {D : List (List Int)} {Ac S : List Int} (hN : N.length = n) (hto : ∀ i c, i < n → c < 256 → -1 ≤ cellN N i c ∧ cellN N i c < n) (hA : A.length = n) (hcl : ClsOk N A cl) (h : OrdIn N A cl n ord D Ac S) (hD : D.length = ord.length) (hAc : Ac.length = ord.length) : ∀ (w : List Nat) (k x : Nat), Byt w → ord[k]? = some x → dans D Ac (k : Int) w = dans N A (x : Int) w
 | [], k, x, _, hk => by
  have hkl := (List.getElem?_eq_some_iff.1 hk).1
  have he := List.getElem?_eq_getElem (l := Ac) (i := k) (by omega)
  obtain ⟨x', h1, h2⟩ := h.acc k _ he
  rw [hk] at h1
  injection h1 with h1
  subst h1
  rw [dans_nil, dans_nil, List.getD_eq_getElem?_getD, he, Option.getD_some, h2]
 | c :: w, k, x, hw, hk => by
  obtain ⟨hc, hw⟩ := hw.tail
  rw [dans_cons, dans_cons, dstep_nat, dstep_nat]
  have hx := h.lt x (List.mem_of_getElem? hk)
  have h1 := hto x c hx hc
  rcases ord_cell h hD hk hc with ⟨a, b⟩ | ⟨a, k', y, b, d, e⟩
  ·rw [dans_dead _ _ _ a, b, dans_dead _ _ _ (by decide)]
  ·rw [b, ord_ans hN hto hA hcl h hD hAc w k' y hw d, cls_ans hN hto hA hcl w y (cellN N x c).toNat hw (h.lt y (List.mem_of_getElem? d)) (by omega) e, Int.toNat_of_nonneg a]
structure Aut (ps : List (Pm × Bs)) (D : List (List Int)) (Ac : List Int) : Prop where
 pos : 0 < D.length
 acl : Ac.length = D.length
 row : ∀ l ∈ D, l.length = 256
 to : ∀ k c, k < D.length → c < 256 → -1 ≤ cellN D k c ∧ cellN D k c < D.length
 acc : ∀ z ∈ Ac, -1 ≤ z ∧ z < ps.length
 ans : ∀ w, Byt w → dans D Ac 0 w = ansP ps w
 trim : ∀ k c, k < D.length → c < 256 → 0 ≤ cellN D k c → ∃ w, Byt w ∧ 0 ≤ dans D Ac (cellN D k c) w
 min : ∀ j k : Nat, j < D.length → k < D.length → (∀ w, Byt w → dans D Ac (j : Int) w = dans D Ac (k : Int) w) → j = k
 can : CanonS D.flatten D.length
 big : D.length ≤ 400
theorem aut_of {ps : List (Pm × Bs)} {all : List (List (Nat × Int))} {N N' D : List (List Int)} {A Ac : List Int} {out : List Bool} {cl ord : List Nat} (hsi : SubIn ps all N A) (hNl : N.length = all.length) (hAl : A.length = all.length) (huv : UseVec N A out) (hp : ∀ i c, i < all.length → c < 256 → cellN N' i c = prC out (cellN N i c)) (hsh : Shape N' all.length) (hcl : ClsOk N' A cl) (hoi : OrdIn N' A cl all.length ord D Ac D.flatten) (hDl : D.length = ord.length) (hAc : Ac.length = ord.length) : Aut ps D Ac := by
 have hto : ∀ i c, i < all.length → c < 256 → -1 ≤ cellN N i c ∧ cellN N i c < all.length := fun i c hi hc => by
  obtain ⟨l, _, h2⟩ := sub_cell hsi hNl hi hc
  exact h2.rng
 have hto' : ∀ i c, i < all.length → c < 256 → -1 ≤ cellN N' i c ∧ cellN N' i c < all.length := fun i c hi hc => by
  rw [hp i c hi hc]
  exact prC_rng (hto i c hi hc)
 have hacc : ∀ z ∈ A, -1 ≤ z ∧ z < ps.length := fun z hz => by
  obtain ⟨i, hi⟩ := List.getElem?_of_mem hz
  obtain ⟨l, h2, rfl⟩ := hsi.acc i z hi
  exact accP_rng (hsi.ok l (List.mem_of_getElem? h2))
 have hA1 : ∀ z ∈ A, -1 ≤ z := fun z hz => (hacc z hz).1
 have hpos : 0 < ord.length := (List.getElem?_eq_some_iff.1 hoi.hd).1
 have h0 : 0 < all.length := (List.getElem?_eq_some_iff.1 hsi.hd).1
 have hN'l : N'.length = all.length := hsh.len
 have hpr := fun w k hw hk => prune_ans (N := N) (A := A) (N' := N') (out := out) hNl hto hA1 huv hp w k hw hk
 have hor := fun w k x hw hk => ord_ans (N := N') (A := A) (cl := cl) (ord := ord) (D := D) (Ac := Ac) hN'l hto' hAl hcl hoi hDl hAc w k x hw hk
 have live : ∀ i c, i < all.length → c < 256 → 0 ≤ cellN N' i c → ∃ w, Byt w ∧ 0 ≤ dans N' A (cellN N' i c) w := fun i c hi hc h => by
  have hr := hto i c hi hc
  have hr' := hto' i c hi hc
  rw [hp i c hi hc] at h hr' ⊢
  have e : prC out (cellN N i c) = cellN N i c := by
   unfold prC at h ⊢
   split at h
   ·omega
   ·rename_i hh; rw [if_neg hh]
  have hz0 : 0 ≤ cellN N i c := by rw [e] at h; exact h
  have hb : bAt out (cellN N i c).toNat = true := by
   cases hb : bAt out (cellN N i c).toNat with
   | true => rfl
   | false =>
    unfold prC at h
    rw [if_pos ⟨hz0, hb⟩] at h
    omega
  have ho : out[(cellN N i c).toNat]? = some true := by
   have hol := huv.1
   rw [bAt_at (by omega), hb]
  obtain ⟨w, h1, h2⟩ := ans_use ((huv.2 _).1 ho)
  refine ⟨w, h1, ?_⟩
  rw [e]
  rw [← hpr w _ h1 (by omega), Int.toNat_of_nonneg hz0] at h2
  exact h2
 refine ⟨by omega, by omega, fun l hl => ?_, fun k c hk hc => ?_, fun z hz => ?_, fun w hw => ?_, fun k c hk hc hz => ?_, fun j k hj hk he => ?_, by rw [hDl]; exact hoi.can, ?_⟩
 ·obtain ⟨i, hi⟩ := List.getElem?_of_mem hl
  exact (hoi.rows i l hi).1
 ·have := (ord_cell hoi hDl (List.getElem?_eq_getElem (l := ord) (i := k) (by omega)) hc).rng
  omega
 ·obtain ⟨i, hi⟩ := List.getElem?_of_mem hz
  obtain ⟨x, h1, rfl⟩ := hoi.acc i z hi
  have hx := hoi.lt x (List.mem_of_getElem? h1)
  rw [List.getD_eq_getElem?_getD, List.getElem?_eq_getElem (by omega)]
  exact hacc _ (List.getElem_mem (by omega))
 ·have e1 := hor w 0 0 hw hoi.hd
  have e2 := hpr w 0 hw h0
  have e3 := raw_ans hsi hNl hAl w 0 _ hw hsi.hd
  exact e1.trans (e2.trans e3)
 ·have hk2 := List.getElem?_eq_getElem (l := ord) (i := k) (by omega)
  have hx := hoi.lt _ (List.mem_of_getElem? hk2)
  rcases ord_cell hoi hDl hk2 hc with ⟨_, b⟩ | ⟨a, k', y, b, d, e⟩
  ·omega
  ·obtain ⟨w, h1, h2⟩ := live _ c hx hc a
   have hr := hto' _ c hx hc
   refine ⟨w, h1, ?_⟩
   rw [b, hor w k' y h1 d, cls_ans hN'l hto' hAl hcl w y _ h1 (hoi.lt y (List.mem_of_getElem? d)) (by omega) e, Int.toNat_of_nonneg a]
   exact h2
 ·have hj2 := List.getElem?_eq_getElem (l := ord) (i := j) (by omega)
  have hk2 := List.getElem?_eq_getElem (l := ord) (i := k) (by omega)
  have hxj := hoi.lt _ (List.mem_of_getElem? hj2)
  have hxk := hoi.lt _ (List.mem_of_getElem? hk2)
  refine hoi.inj j k _ _ hj2 hk2 (hcl.all (fun a b => a < all.length ∧ b < all.length ∧ ∀ w, Byt w → dans N' A (a : Int) w = dans N' A (b : Int) w) ?_ _ _ (by omega) (by omega) ⟨hxj, hxk, fun w hw => ?_⟩)
  ·rintro a b ⟨ha, hb, hab⟩
   refine ⟨?_, fun c hc => ?_⟩
   ·have := hab [] (fun c hc => by cases hc)
    rw [dans_nil, dans_nil, List.getD_eq_getElem?_getD, List.getD_eq_getElem?_getD, List.getElem?_eq_getElem (by omega), List.getElem?_eq_getElem (by omega)] at this
    rw [List.getD_eq_getElem?_getD, List.getD_eq_getElem?_getD, List.getElem?_eq_getElem (by omega), List.getElem?_eq_getElem (by omega)]
    exact this
   ·have hab' : ∀ w, Byt w → dans N' A (cellN N' a c) w = dans N' A (cellN N' b c) w := fun w hw => by
     have := hab (c :: w) (fun x hx => by
      rcases List.mem_cons.1 hx with rfl | hx
      ·exact hc
      ·exact hw x hx)
     rw [dans_cons, dans_cons, dstep_nat, dstep_nat] at this
     exact this
    have ra := hto' a c ha hc
    have rb := hto' b c hb hc
    by_cases a0 : cellN N' a c < 0
    ·by_cases b0 : cellN N' b c < 0
     ·exact .inl ⟨a0, b0⟩
     ·obtain ⟨w, h1, h2⟩ := live b c hb hc (by omega)
      rw [← hab' w h1, dans_dead _ _ _ a0] at h2
      omega
    ·by_cases b0 : cellN N' b c < 0
     ·obtain ⟨w, h1, h2⟩ := live a c ha hc (by omega)
      rw [hab' w h1, dans_dead _ _ _ b0] at h2
      omega
     ·refine .inr ⟨by omega, by omega, by omega, by omega, fun w hw => ?_⟩
      rw [Int.toNat_of_nonneg (by omega), Int.toNat_of_nonneg (by omega)]
      exact hab' w hw
  ·rw [← hor w j _ hw hj2, ← hor w k _ hw hk2]
   exact he w hw
 ·have := hoi.len
  have := hsi.big
  omega
end Go.Proofs.Ythklpecigkdkiaa.K
set_option linter.unusedSimpArgs false
set_option linter.unusedVariables false
namespace Go.Proofs.Ythklpecigkdkiaa.K
open Go Ev
set_option maxRecDepth 100000
set_option maxHeartbeats 4000000

def nx (D : List (List Int)) (Ac : List Int) : Nat → Nat → Int → Nat → List Nat → Int × Nat × Nat
 | _, i, rule, long, [] => (rule, long, i + 1)
 | s, i, rule, long, c :: r => if cellN D s c < 0 then (rule, long, i + 1) else if -1 < Ac.getD (cellN D s c).toNat (-1) then nx D Ac (cellN D s c).toNat (i + 1) (Ac.getD (cellN D s c).toNat (-1)) (i + 1) r else nx D Ac (cellN D s c).toNat (i + 1) rule long r
theorem isState_any {M : MH} {d : MV} {D : List (List Int)} {Ac : List Int} {s : Int} (hlo : M.lo ≤ M.n) (hd : DfaAt M d D Ac) (hl : Ac.length = D.length) : Cp fns 59 [d, .i .i64 s] M fun m M' => m = .b (decide (0 ≤ s ∧ s < D.length)) ∧ Ext M M' := by
 obtain ⟨vn, va, rfl, h1, h2⟩ := hd
 obtain ⟨n1, n2⟩ := h1.sl
 obtain ⟨a1, a2⟩ := h2.sl
 rw [hl] at a2
 refine Cp_call (fn := F59) (by kernel_rfl) (Nat.le_of_ble_eq_true rfl) ?_
 show Wp fns B59 (T.set q1 (some (.i .i64 s)) (T.set q0 (some (.ag [vn, va])) T.lf)) M _
 have hU : isU (.ag [vn, va]) = false := rfl
 have hcl : MV.cells (.ag [vn, va]) = [vn, va] := rfl
 have c0 : cget (ofL [vn, va] 0) 0 = some vn := at_ofL [vn, va] 0 _ rfl
 have c1 : cget (ofL [vn, va] 0) 1 = some va := at_ofL [vn, va] 1 _ rfl
 unfold B59
 by_cases h0 : 0 ≤ s
 ·have d0 : decide (0 ≤ s) = true := decide_eq_true h0
  by_cases h3 : s < D.length
  ·have d1 : decide (s < (D.length : Int)) = true := decide_eq_true h3
   simp (disch := first | omega | assumption) only [↓bxD, bA, reduceCtorEq, hU, hcl, c0, c1, n1, n2, a1, a2, d0, d1]
   exact ⟨by rw [decide_eq_true ⟨h0, h3⟩], .push M _⟩
  ·have d1 : decide (s < (D.length : Int)) = false := decide_eq_false h3
   simp (disch := first | omega | assumption) only [↓bxD, bA, reduceCtorEq, hU, hcl, c0, c1, n1, n2, a1, a2, d0, d1]
   exact ⟨by rw [decide_eq_false (fun e => h3 e.2)], .push M _⟩
 ·have d0 : decide (0 ≤ s) = false := decide_eq_false h0
  simp (disch := first | omega | assumption) only [↓bxD, bA, reduceCtorEq, hU, hcl, c0, c1, n1, n2, a1, a2, d0]
  exact ⟨by rw [decide_eq_false (fun e => h0 e.1)], .push M _⟩
structure DOk (D : List (List Int)) (Ac : List Int) : Prop where
 acl : Ac.length = D.length
 row : ∀ l ∈ D, l.length = 256
 to : ∀ k c, k < D.length → c < 256 → -1 ≤ cellN D k c ∧ cellN D k c < D.length
 big : D.length ≤ 100000
theorem sstep_any {M : MH} {d : MV} {D : List (List Int)} {Ac : List Int} {s c : Nat} (hlo : M.lo ≤ M.n) (hd : DfaAt M d D Ac) (hok : DOk D Ac) (hs : s < D.length) (hc : c < 256) : Cp fns 36 [d, .i .i64 (s : Int), .i .u8 (c : Int)] M fun m M' => m = .tp [.i .i64 (cellN D s c), .b (decide (0 ≤ cellN D s c))] ∧ Ext M M' := by
 have hd0 := hd
 obtain ⟨vn, va, rfl, h1, h2⟩ := hd
 obtain ⟨n1, n2⟩ := h1.sl
 obtain ⟨a1, a2⟩ := h2.sl
 rw [hok.acl] at a2
 refine Cp_call (fn := F36) (by kernel_rfl) (Nat.le_of_ble_eq_true rfl) ?_
 show Wp fns B36 (T.set q2 (some (.i .u8 (c : Int))) (T.set q1 (some (.i .i64 (s : Int))) (T.set q0 (some (.ag [vn, va])) T.lf))) M _
 have hU : isU (.ag [vn, va]) = false := rfl
 have hcl : MV.cells (.ag [vn, va]) = [vn, va] := rfl
 have c0 : cget (ofL [vn, va] 0) 0 = some vn := at_ofL [vn, va] 0 _ rfl
 have hG : Ev.getN (ofL [vn, va] 0) 2 0 = some [vn, va] := (at_ofL [vn, va]).getN
 generalize hM1 : M.push (.cs false 2 (ofL [vn, va] 0)) = M1
 have x1 : Ext M M1 := by rw [← hM1]; exact .push M _
 have g1 : M1.get M.n = some (.cs false 2 (ofL [vn, va] 0)) := by rw [← hM1]; exact push_new _
 have n1' : M1.n = M.n + 1 := by rw [← hM1]; rfl
 have l1 := x1.lo
 unfold B36
 simp (disch := first | omega | assumption) only [↓bxD, bA, reduceCtorEq, hU, hcl, hM1, g1, hG, map_ag]
 have hdx : ∀ M', Ext M1 M' → DfaAt M' (.ag [vn, va]) D Ac := fun M' hx => ⟨vn, va, rfl, h1.ext (x1.trans hx), h2.ext (x1.trans hx)⟩
 refine bindP_call (isState_any (by omega) (hdx M1 (.refl _)) hok.acl) ?_
 rintro m M2 ⟨rfl, x2⟩
 have n2' := x2.n
 have l2 := x2.lo
 have g2 := (x2.old _ (by omega)).trans g1
 have ds : decide (0 ≤ (s : Int) ∧ (s : Int) < D.length) = true := decide_eq_true (by omega)
 have hsh : Shape D D.length := ⟨rfl, hok.row⟩
 obtain ⟨l, hl, hll, hlc⟩ := cell_get hsh hs hc
 obtain ⟨ui, ro, sz, t, g, _, hcu, hui⟩ := (h1.ext (x1.trans x2)).read hl
 obtain ⟨u1, u2⟩ := hui.sl
 rw [hll] at u2
 obtain ⟨ro5, sz5, t5, g5, _, hc5⟩ := hui.read hlc
 have cvc : cvIV .i64 (.i .u8 (c : Int)) = some (.i .i64 (c : Int)) := by
  show some (MV.i .i64 (wrapF .i64 (c : Int))) = _
  rw [wrap_in (by omega) (by omega)]
 have d256 : decide (((256 : Nat) : Int) ≤ (c : Int)) = false := decide_eq_false (by omega)
 simp (disch := first | omega | assumption) only [↓bxD, bA, reduceCtorEq, hU, hcl, g2, c0, hG, map_ag, ds, n1, n2, g, hcu, u1, u2, cvc, d256, g5, hc5]
 show Wp fns K36_0 _ _ _
 unfold K36_0
 simp (disch := first | omega | assumption) only [↓bxD, bA, reduceCtorEq, hU, hcl, g2, c0, hG, map_ag, ds, n1, n2, g, hcu, u1, u2, cvc, d256, g5, hc5]
 refine bindP_call (isState_any (by omega) (hdx M2 x2) hok.acl) ?_
 rintro m M3 ⟨rfl, x3⟩
 simp (disch := first | omega | assumption) only [↓bxD, bA, reduceCtorEq, hU, hcl, g2, c0, hG, map_ag, ds, n1, n2, g, hcu, u1, u2, cvc, d256, g5, hc5, resL_c, consO_some]
 refine ⟨?_, (x1.trans x2).trans x3⟩
 have := hok.to s c hs hc
 have e : decide (0 ≤ cellN D s c ∧ cellN D s c < (D.length : Int)) = decide (0 ≤ cellN D s c) := decide_eq_decide.2 ⟨fun e => e.1, fun e => ⟨e, this.2⟩⟩
 rw [e]
theorem bvs_read {M : MH} {v : MV} {l : List Nat} (h : RowAt M 1 v (bvs l)) {i x : Nat} (hx : l[i]? = some x) : ∃ ro s c, M.get (sid v) = some (.cs ro s c) ∧ sid v < M.n ∧ cget c (soff v + i * 1) = some (.i .u8 (x : Int)) := by
 obtain ⟨ro, s, c, h1, h2, h3⟩ := h.read (bvs_at hx)
 exact ⟨ro, s, c, h1, h2, h3 0 _ rfl⟩
theorem next_any {M : MH} {d v : MV} {D : List (List Int)} {Ac : List Int} {b : List Nat} {a : Nat} (hlo : M.lo ≤ M.n) (hd : DfaAt M d D Ac) (hok : DOk D Ac) (hpos : 0 < D.length) (hb : RowAt M 1 v (bvs b)) (hby : ∀ c ∈ b, c < 256) (hbl : b.length ≤ 1000000) (ha : a ≤ b.length) : Cp fns 17 [d, v, .i .i64 (a : Int)] M fun m M' => m = .tp [.i .i64 (nx D Ac 0 0 (-1) 0 (b.drop a)).1, .i .i64 ((nx D Ac 0 0 (-1) 0 (b.drop a)).2.1 : Int), .i .i64 ((nx D Ac 0 0 (-1) 0 (b.drop a)).2.2 : Int)] ∧ Ext M M' := by
 have hd0 := hd
 obtain ⟨vn, va, rfl, h1, h2⟩ := hd
 obtain ⟨a1, a2⟩ := h2.sl
 rw [hok.acl] at a2
 obtain ⟨s1, s2⟩ := hb.sl
 have s2 : slen v = b.length := s2.trans (bvs_len b)
 refine Cp_call (fn := F17) (by kernel_rfl) (Nat.le_of_ble_eq_true rfl) ?_
 show Wp fns B17 (T.set q2 (some (.i .i64 (a : Int))) (T.set q1 (some v) (T.set q0 (some (.ag [vn, va])) T.lf))) M _
 have hU : isU (.ag [vn, va]) = false := rfl
 have hcl : MV.cells (.ag [vn, va]) = [vn, va] := rfl
 have c1 : cget (ofL [vn, va] 0) 1 = some va := at_ofL [vn, va] 1 _ rfl
 have hG : Ev.getN (ofL [vn, va] 0) 2 0 = some [vn, va] := (at_ofL [vn, va]).getN
 generalize hM1 : M.push (.cs false 2 (ofL [vn, va] 0)) = M1
 have x1 : Ext M M1 := by rw [← hM1]; exact .push M _
 have g1 : M1.get M.n = some (.cs false 2 (ofL [vn, va] 0)) := by rw [← hM1]; exact push_new _
 have n1' : M1.n = M.n + 1 := by rw [← hM1]; rfl
 have l1 := x1.lo
 have hmx : mxV (.i .i64 (a : Int)) (.i .i64 0) = some (.i .i64 (a : Int)) := by
  show some (MV.i .i64 (bif decide ((a : Int) < 0) then 0 else (a : Int))) = _
  rw [decide_eq_false (by omega)]; rfl
 have hmn : mnV (.i .i64 (a : Int)) (.i .i64 (b.length : Int)) = some (.i .i64 (a : Int)) := by
  show some (MV.i .i64 (bif decide ((b.length : Int) < (a : Int)) then (b.length : Int) else (a : Int))) = _
  rw [decide_eq_false (by omega)]; rfl
 have hcut : cutM 1 v (some (.i .i64 (a : Int))) none = some (cutLo 1 a v) := cutM_lo s1 (by omega)
 have hrow : RowAt M1 1 (cutLo 1 a v) (bvs (b.drop a)) := by
  have := row_skip (i := a) (hb.ext x1) (by rw [bvs_len]; exact ha)
  unfold bvs at this ⊢
  rw [List.map_drop]
  exact this
 obtain ⟨t1, t2⟩ := hrow.sl
 have t2 : slen (cutLo 1 a v) = (b.drop a).length := t2.trans (bvs_len _)
 have hbl' : (b.drop a).length ≤ 1000000 := by rw [List.length_drop]; omega
 have hby' : ∀ c ∈ b.drop a, c < 256 := fun c hc => hby c (List.mem_of_mem_drop hc)
 unfold B17
 simp (disch := first | omega | assumption) only [↓bxD, bA, reduceCtorEq, hU, hcl, hM1, s1, s2, hmx, hmn, hcut, Option.map_some, Option.map_none, t1, t2]
 generalize b.drop a = r at hrow t2 hbl' hby' ⊢
 generalize cutLo 1 a v = vr at hrow t1 t2 ⊢
 refine Wp_inv (σ := Nat × Nat × Int × Nat) (fun s f M' => s.1 ≤ r.length ∧ Ext M1 M' ∧ s.2.1 < D.length ∧ s.2.2.2 ≤ s.1 ∧ X.ev f (.t q3) = .p M.n 0 ∧ X.ev f (.t q9) = vr ∧ X.ev f (.t q24) = vr ∧ X.ev f (.t q25) = .i .i64 (r.length : Int) ∧ X.ev f (.t q26) = .i .i64 (s.1 : Int) ∧ X.ev f (.t q12) = .i .i64 (s.2.1 : Int) ∧ X.ev f (.t q10) = .i .i64 s.2.2.1 ∧ X.ev f (.t q11) = .i .i64 (s.2.2.2 : Int) ∧ nx D Ac s.2.1 s.1 s.2.2.1 s.2.2.2 (r.drop s.1) = nx D Ac 0 0 (-1) 0 r) (fun s => r.length - s.1) ?_ (0, 0, -1, 0) ?_
 ·rintro ⟨i, st, rule, long⟩ f M' ⟨hi, hx, hst, hlong, e3, e9, e24, e25, e26, e12, e10, e11, hnx⟩
  simp only at hi hst hlong e26 e12 e10 e11 hnx
  simp only [q3, q9, q10, q11, q12, q24, q25, q26] at e3 e9 e10 e11 e12 e24 e25 e26
  have hxl := hx.lo
  have hxn := hx.n
  unfold L17_3
  by_cases hi' : i < r.length
  ·have d1 : decide ((i : Int) < (r.length : Int)) = true := decide_eq_true (by omega)
   obtain ⟨c, hc⟩ : ∃ c, r[i]? = some c := ⟨_, List.getElem?_eq_getElem hi'⟩
   have hcb := hby' c (List.mem_of_getElem? hc)
   obtain ⟨ro, sz, t, g, _, hct⟩ := bvs_read (hrow.ext hx) hc
   have gx := (hx.old M.n (by omega)).trans g1
   have hdr : r.drop i = c :: r.drop (i + 1) := by rw [List.drop_eq_getElem_cons hi', (List.getElem?_eq_some_iff.1 hc).2]
   rw [hdr] at hnx
   simp (disch := first | omega | assumption) only [↓bxD, bA, reduceCtorEq, e3, e9, e10, e11, e12, e24, e25, e26, d1, t1, t2, g, hct, gx, hG, map_ag]
   show Wp fns K17_2 _ _ _
   unfold K17_2
   simp (disch := first | omega | assumption) only [↓bxD, bA, reduceCtorEq, e3, e9, e10, e11, e12, e24, e25, e26, d1, t1, t2, g, hct, gx, hG, map_ag]
   refine bindP_call (sstep_any (by omega) ⟨vn, va, rfl, h1.ext (x1.trans hx), h2.ext (x1.trans hx)⟩ hok hst hcb) ?_
   rintro m M3 ⟨rfl, x3⟩
   have l3 := x3.lo
   have n3 := x3.n
   have gx3 := (x3.old M.n (by omega)).trans gx
   have hto := hok.to st c hst hcb
   by_cases t0 : cellN D st c < 0
   ·have d0 : decide (0 ≤ cellN D st c) = false := decide_eq_false (by omega)
    simp (disch := first | omega | assumption) only [↓bxD, bA, reduceCtorEq, e3, e9, e10, e11, e12, e24, e25, e26, d1, t1, t2, g, hct, gx, hG, map_ag, ext_tp, d0]
    have e : nx D Ac st i rule long (c :: r.drop (i + 1)) = (rule, long, i + 1) := by rw [nx, if_pos t0]
    rw [e] at hnx
    rw [← hnx]
    exact ⟨rfl, (x1.trans hx).trans x3⟩
   ·have d0 : decide (0 ≤ cellN D st c) = true := decide_eq_true (by omega)
    obtain ⟨tn, htn⟩ : ∃ k : Nat, cellN D st c = k := ⟨(cellN D st c).toNat, by omega⟩
    rw [htn] at d0
    rw [htn]
    simp (disch := first | omega | assumption) only [↓bxD, bA, reduceCtorEq, e3, e9, e10, e11, e12, e24, e25, e26, d1, t1, t2, g, hct, gx, hG, map_ag, ext_tp, d0]
    have hia := h2.ext ((x1.trans hx).trans x3)
    obtain ⟨z, hz⟩ : ∃ z, Ac[tn]? = some z := ⟨_, List.getElem?_eq_getElem (by have := hok.acl; omega)⟩
    have hzd : Ac.getD tn (-1) = z := by rw [List.getD_eq_getElem?_getD, hz]; rfl
    obtain ⟨ro6, sz6, t6, g6, _, hcz⟩ := hia.read hz
    have htl : tn < D.length := by omega
    have hstep : nx D Ac st i rule long (c :: r.drop (i + 1)) = if -1 < z then nx D Ac tn (i + 1) z (i + 1) (r.drop (i + 1)) else nx D Ac tn (i + 1) rule long (r.drop (i + 1)) := by rw [nx, if_neg t0, htn, Int.toNat_natCast, hzd]
    rw [hstep] at hnx
    have wi : wrapF .i64 ((i : Int) + 1) = (i : Int) + 1 := wrap_in (by omega) (by omega)
    by_cases z0 : -1 < z
    ·have dz : decide ((Int.negSucc 0) < z) = true := decide_eq_true z0
     rw [if_pos z0] at hnx
     show Wp fns K17_0 _ _ _
     unfold K17_0
     simp (disch := first | omega | assumption) only [↓bxD, bA, reduceCtorEq, e3, e9, e10, e11, e12, e24, e25, e26, gx3, c1, a1, a2, g6, hcz, dz, wi]
     show Wp fns K17_1 _ _ _
     unfold K17_1
     simp (disch := first | omega | assumption) only [↓bxD, bA, reduceCtorEq, e3, e9, e10, e11, e12, e24, e25, e26, gx3, c1, a1, a2, g6, hcz, dz, wi]
     exact ⟨(i + 1, tn, z, i + 1), by simp only; omega, by simp only; omega, hx.trans x3, htl, Nat.le_refl _, rfl, rfl, rfl, rfl, hnx⟩
    ·have dz : decide ((Int.negSucc 0) < z) = false := decide_eq_false z0
     rw [if_neg z0] at hnx
     show Wp fns K17_0 _ _ _
     unfold K17_0
     simp (disch := first | omega | assumption) only [↓bxD, bA, reduceCtorEq, e3, e9, e10, e11, e12, e24, e25, e26, gx3, c1, a1, a2, g6, hcz, dz, wi]
     show Wp fns K17_1 _ _ _
     unfold K17_1
     simp (disch := first | omega | assumption) only [↓bxD, bA, reduceCtorEq, e3, e9, e10, e11, e12, e24, e25, e26, gx3, c1, a1, a2, g6, hcz, dz, wi]
     exact ⟨(i + 1, tn, rule, long), by simp only; omega, by simp only; omega, hx.trans x3, htl, by simp only; omega, rfl, rfl, rfl, rfl, hnx⟩
  ·have d1 : decide ((i : Int) < (r.length : Int)) = false := decide_eq_false (by omega)
   have hir : i = r.length := by omega
   rw [hir, List.drop_length] at hnx
   have hw : wrapF .i64 ((r.length : Int) + 1) = (r.length : Int) + 1 := wrap_in (by omega) (by omega)
   simp (disch := first | omega | assumption) only [↓bxD, bA, reduceCtorEq, e3, e9, e10, e11, e12, e24, e25, e26, d1, t1, t2, hw, resL_c, consO_some]
   show Wp fns K17_4 _ _ _
   unfold K17_4
   simp (disch := first | omega | assumption) only [↓bxD, bA, reduceCtorEq, e3, e9, e10, e11, e12, e24, e25, e26, d1, t1, t2, hw, resL_c, consO_some]
   have e : nx D Ac st r.length rule long [] = (rule, long, r.length + 1) := by rw [nx]
   rw [e] at hnx
   rw [← hnx]
   exact ⟨rfl, x1.trans hx⟩
 ·exact ⟨Nat.zero_le _, .refl _, hpos, Nat.le_refl _, by simp only [bA, reduceCtorEq, hU, hcl, hM1, s1, s2, hmx, hmn, hcut, Option.map_some, Option.map_none, t1, t2], by simp only [bA, reduceCtorEq, hU, hcl, hM1, s1, s2, hmx, hmn, hcut, Option.map_some, Option.map_none, t1, t2], by simp only [bA, reduceCtorEq, hU, hcl, hM1, s1, s2, hmx, hmn, hcut, Option.map_some, Option.map_none, t1, t2], by simp only [bA, reduceCtorEq, hU, hcl, hM1, s1, s2, hmx, hmn, hcut, Option.map_some, Option.map_none, t1, t2], by simp only [bA, reduceCtorEq, hU, hcl, hM1, s1, s2, hmx, hmn, hcut, Option.map_some, Option.map_none, t1, t2] <;> rfl, by simp only [bA, reduceCtorEq, hU, hcl, hM1, s1, s2, hmx, hmn, hcut, Option.map_some, Option.map_none, t1, t2] <;> rfl, by simp only [bA, reduceCtorEq, hU, hcl, hM1, s1, s2, hmx, hmn, hcut, Option.map_some, Option.map_none, t1, t2] <;> rfl, by simp only [bA, reduceCtorEq, hU, hcl, hM1, s1, s2, hmx, hmn, hcut, Option.map_some, Option.map_none, t1, t2] <;> rfl, rfl⟩
def keepH (q : Pm × Bs) (c : Nat) (S : List Nat) : List Nat := S.filter fun j => hasS (q.2.sets[j]?.getD []) c
def foldF (q : Pm × Bs) (H : List Nat) (A : Nat) : Nat := H.foldl (fun A j => A ||| q.2.fol[j]?.getD 0) A
theorem keepH_succ (q : Pm × Bs) (c : Nat) {S : List Nat} {k z : Nat} (h : S[k]? = some z) : keepH q c (S.take (k + 1)) = if hasS (q.2.sets[z]?.getD []) c = true then keepH q c (S.take k) ++ [z] else keepH q c (S.take k) := by
 unfold keepH
 rw [List.take_add_one, h, List.filter_append]
 show _ ++ List.filter _ [z] = _
 rw [List.filter_cons]
 split
 ·rename_i e
  rw [List.filter_nil]
 ·rename_i e
  rw [List.filter_nil, List.append_nil]
theorem foldF_app (q : Pm × Bs) (H : List Nat) (z A : Nat) : foldF q (H ++ [z]) A = foldF q H A ||| q.2.fol[z]?.getD 0 := by
 unfold foldF
 rw [List.foldl_append]
 rfl
theorem keepH_len (q : Pm × Bs) (c : Nat) (S : List Nat) (k : Nat) : (keepH q c (S.take k)).length ≤ S.length := by
 refine Nat.le_trans (List.length_filter_le _ _) ?_
 rw [List.length_take]
 omega
def Ap (v1 v2 : MV) : Prop := ∀ a b n d, v1 = .sl a b n d → ∀ x y m e, v2 = .sl x y m e → x ≠ a
theorem tk_in {M : MH} {f : Fr} {v1 v5 vs vo : MV} {bx i c : Nat} {q : Pm × Bs} {S w : List Nat} {fs : List MV} {c5 : Ev.T MV} (hlo : M.lo ≤ M.n) (hc : c < 256)
  (h1 : X.ev f (.t q1) = v1) (h2 : X.ev f (.t q2) = .p bx 0) (h5 : X.ev f (.t q5) = v5) (h6 : X.ev f (.t q6) = .i .i64 (i : Int)) (h7 : X.ev f (.t q7) = .nils) (h8 : X.ev f (.t q8) = .nils) (h9 : X.ev f (.t q9) = .i .i64 0)
  (g5 : M.get bx = some (.cs false 5 c5)) (hbx : bx < M.n) (k0 : cget c5 0 = some vs) (k4 : cget c5 4 = some vo) (hs : RowAt M 4 vs q.2.sets) (ho : RowAt M 1 vo (lv fs)) (hfl : fs.length = q.2.fol.length) (hff : ∀ (k : Nat) (x : MV) (A : Nat), fs[k]? = some x → q.2.fol[k]? = some A → RowAt M 1 x (nv (bitsOf A 150))) (hok : OkQ q) (hfs : q.2.fol.length = q.2.sets.length)
  (hb : RowAt M 1 v1 (bvs w)) (hw : w[i]? = some c) (hS : RowAt M 1 v5 (nv S)) (hSl : ∀ k ∈ S, k < q.2.sets.length) (hSn : S.length ≤ 1000) {Q : Post}
  (hQ : ∀ f' M' v7 v8, X.ev f' (.t q1) = v1 → X.ev f' (.t q2) = .p bx 0 → X.ev f' (.t q5) = v5 → X.ev f' (.t q6) = .i .i64 (i : Int) → X.ev f' (.t q7) = v7 → X.ev f' (.t q8) = v8 → Ext M M' → NrAt M.n M' v7 (bitsOf (foldF q (keepH q c S) 0) 150) → OwnRow M.n M' 1 v8 (nv (keepH q c S)) → Q .norm f' M') : Wp fns (.loop L18_3) f M (blockQ 2 Q) := by
 obtain ⟨s1, s2⟩ := hs.sl
 obtain ⟨o1, o2⟩ := ho.sl
 have o2 : slen vo = fs.length := o2.trans (by unfold lv; rw [List.length_map])
 obtain ⟨b1, b2⟩ := hb.sl
 have b2 : slen v1 = w.length := b2.trans (bvs_len w)
 obtain ⟨n1, n2⟩ := hS.sl
 have n2 : slen v5 = S.length := n2.trans (nv_len S)
 have hiw : i < w.length := (List.getElem?_eq_some_iff.1 hw).1
 simp only [q1, q2, q5, q6, q7, q8, q9] at h1 h2 h5 h6 h7 h8 h9
 have e0 : bitsOf 0 150 = [] := by decide +kernel
 refine Wp_inv (σ := Nat) (fun k f M' => k ≤ S.length ∧ X.ev f (.t q1) = v1 ∧ X.ev f (.t q2) = .p bx 0 ∧ X.ev f (.t q5) = v5 ∧ X.ev f (.t q6) = .i .i64 (i : Int) ∧ X.ev f (.t q9) = .i .i64 (k : Int) ∧ Ext M M' ∧ NrAt M.n M' (X.ev f (.t q7)) (bitsOf (foldF q (keepH q c (S.take k)) 0) 150) ∧ OwnRow M.n M' 1 (X.ev f (.t q8)) (nv (keepH q c (S.take k))) ∧ Ap (X.ev f (.t q7)) (X.ev f (.t q8))) (fun k => S.length - k) ?_ 0 ?_
 ·rintro k f M' ⟨hk, e1, e2, e5, e6, e9, hx, hn, hh, hap⟩
  have xn := hx.n
  have xl := hx.lo
  have g5' := (hx.old bx hbx).trans g5
  simp only [q1, q2, q5, q6, q7, q8, q9] at e1 e2 e5 e6 e9 hn hh hap
  generalize e7 : X.ev f (.t (Ky.k1 Dg.d7)) = u7 at hn hap
  generalize e8 : X.ev f (.t (Ky.k1 Dg.d8)) = u8 at hh hap
  unfold L18_3
  by_cases hk' : k < S.length
  ·have dk : decide ((k : Int) < (S.length : Int)) = true := decide_eq_true (by omega)
   obtain ⟨z, hz⟩ : ∃ z, S[k]? = some z := ⟨_, List.getElem?_eq_getElem hk'⟩
   have hzs : z < q.2.sets.length := hSl z (List.mem_of_getElem? hz)
   obtain ⟨ro, sz, t, g, _, hct⟩ := nv_read (hS.ext hx) hz
   obtain ⟨sv, hsv⟩ : ∃ sv, q.2.sets[z]? = some sv := ⟨_, List.getElem?_eq_getElem hzs⟩
   obtain ⟨sa, sb, sc, sd, rfl⟩ := hok.sets sv (List.mem_of_getElem? hsv)
   obtain ⟨ro', sz', t', g', _, hat⟩ := (hs.ext hx).read hsv
   have hgs' : Ev.getN t' 4 (soff vs + z * 4) = some (st4 sa sb sc sd) := hat.getN
   have ixs : ixV 4 vs (.i .i64 (z : Int)) = some (.p (sid vs) (soff vs + z * 4)) := ix_sl s1 (by rw [s2]; exact hzs)
   obtain ⟨ro3, sz3, t3, g3, _, hc3⟩ := bvs_read (hb.ext hx) hw
   have ixw : ixV 1 v1 (.i .i64 (i : Int)) = some (.p (sid v1) (soff v1 + i * 1)) := ix_sl b1 (by rw [b2]; exact hiw)
   have ixn : ixV 1 v5 (.i .i64 (k : Int)) = some (.p (sid v5) (soff v5 + k * 1)) := ix_sl n1 (by rw [n2]; exact hk')
   have d0 : decide (0 ≤ (z : Int)) = true := decide_eq_true (by omega)
   have d1 : decide ((z : Int) < (q.2.sets.length : Int)) = true := decide_eq_true (by omega)
   simp (disch := first | omega | assumption) only [↓bxD, bA, reduceCtorEq, e1, e2, e5, e6, e7, e8, e9, s1, s2, o1, o2, b1, b2, n1, n2, nck_p, dk]
   show Wp fns K18_2 _ _ _
   unfold K18_2
   simp (disch := first | omega | assumption) only [↓bxD, bA, reduceCtorEq, e1, e2, e5, e6, e7, e8, e9, s1, s2, o1, o2, b1, b2, n1, n2, nck_p, ixn, g, hct]
   refine Wp_dreg_of (by omega) ?_
   simp (disch := first | omega | assumption) only [↓bxD, bA, reduceCtorEq, e1, e2, e5, e6, e7, e8, e9, s1, s2, o1, o2, b1, b2, n1, n2, nck_p, d0, d1, g5', k0, ixs, ixw, g', hgs', g3, hc3, Option.map_some]
   refine bindP_call (hasByte' hc (by omega)) ?_
   rintro m M2 ⟨rfl, x2⟩
   have xn2 := x2.n
   have xl2 := x2.lo
   have hsc := keepH_succ q c hz
   rw [hsv, Option.getD_some] at hsc
   have hlen := keepH_len q c S k
   cases hhh : hasS (st4 sa sb sc sd) c with
   | false =>
    rw [hhh, if_neg (by decide)] at hsc
    simp (disch := first | omega | assumption) only [↓bxD, bA, reduceCtorEq, e1, e2, e5, e6, e7, e8, e9, s1, s2, o1, o2, b1, b2, n1, n2, nck_p]
    show Wp fns K18_0 _ _ _
    unfold K18_0
    simp (disch := first | omega | assumption) only [↓bxD, bA, reduceCtorEq, e1, e2, e5, e6, e7, e8, e9, s1, s2, o1, o2, b1, b2, n1, n2, nck_p]
    show Wp fns K18_1 _ _ _
    unfold K18_1
    simp (disch := first | omega | assumption) only [↓bxD, bA, reduceCtorEq, e1, e2, e5, e6, e7, e8, e9, s1, s2, o1, o2, b1, b2, n1, n2, nck_p]
    refine ⟨k + 1, by omega, by omega, rfl, hx.trans x2, ?_, ?_, hap⟩
    ·rw [hsc]
     exact ⟨hn.1, hn.2.ext x2⟩
    ·rw [hsc]
     exact hh.ext x2
   | true =>
    rw [hhh, if_pos rfl] at hsc
    obtain ⟨w4, hw4⟩ : ∃ w4, fs[z]? = some w4 := ⟨_, List.getElem?_eq_getElem (by omega)⟩
    obtain ⟨A, hA⟩ : ∃ A, q.2.fol[z]? = some A := ⟨_, List.getElem?_eq_getElem (by omega)⟩
    have hh2 := hh.ext x2
    have ff : ∀ x : Nat, fillM [(0, 1, MV.i .i64 (x : Int))] (zrow [.i .i64 0] 1) = some [.i .i64 (x : Int)] := fun x => rfl
    have x3 : Ext M2 (M2.push (.cs false 1 (ofL [.i .i64 (z : Int)] 0))) := .push M2 _
    obtain ⟨v', M4, a1, a2, a3, a4, a5, a6, a7⟩ := app_rowX (bytes := 8) (hh2.ext x3) (row_one (M := M2) (e := [.i .i64 (z : Int)]) rfl) (by show M2.lo ≤ M.n; omega) (by show M.n ≤ M2.n + 1; omega) (fun e he => by
     simp only [List.mem_cons, List.not_mem_nil, or_false] at he
     subst he; rfl) (by rw [nv_len]; simp only [List.length_cons, List.length_nil]; omega) (by rw [nv_len]; simp only [List.length_cons, List.length_nil]; omega)
    obtain ⟨an, hv'⟩ := a7 (by simp)
    have n3 : (M2.push (.cs false 1 (ofL [.i .i64 (z : Int)] 0))).n = M2.n + 1 := rfl
    have l3 : (M2.push (.cs false 1 (ofL [.i .i64 (z : Int)] 0))).lo = M2.lo := rfl
    rw [n3] at a3 hv'
    rw [l3] at a4
    have xx : Ext M M4 := ⟨by omega, by omega, fun j hj => (a6 j hj (by omega)).trans ((x3.old j (by omega)).trans ((hx.trans x2).old j hj))⟩
    have hn4 : NrAt M.n M4 u7 (bitsOf (foldF q (keepH q c (S.take k)) 0) 150) := ⟨hn.1, (hn.2.ext (x2.trans x3)).keep (by show M2.n + 1 ≤ M4.n; omega) fun a b n d e => by
     obtain ⟨_, ⟨rfl, _⟩ | ⟨id, c', r1, r2, r3, r4, r5⟩⟩ := hn.2
     ·cases e
     ·have : id = a := by rw [r1] at e; injection e
      subst this
      exact a5 id (by omega) fun x y m e' r => fun h => hap _ _ _ _ r1 _ _ _ _ r (h)⟩
    have g54 := (xx.old bx hbx).trans g5
    have hv4 := (hff z w4 A hw4 hA).ext xx
    obtain ⟨ro6, sz6, t6, g6, _, hat6⟩ := (ho.ext xx).read (lv_at hw4)
    have cw : cget t6 (soff vo + z * 1) = some w4 := hat6 0 _ rfl
    have ixo : ixV 1 vo (.i .i64 (z : Int)) = some (.p (sid vo) (soff vo + z * 1)) := ix_sl o1 (by rw [o2]; omega)
    have d2 : decide ((z : Int) < (fs.length : Int)) = true := decide_eq_true (by omega)
    simp (disch := first | omega | assumption) only [↓bxD, bA, reduceCtorEq, e1, e2, e5, e6, e7, e8, e9, s1, s2, o1, o2, b1, b2, n1, n2, nck_p]
    show Wp fns K18_0 _ _ _
    unfold K18_0
    simp (disch := first | omega | assumption | (simp only [bZ, stOk, Nat.reduceBEq, Nat.reduceEqDiff, Nat.reduceAdd] <;> omega) | ((try apply has_setN); apply has_ofL; simp only [bxL]; omega)) only [↓bxD, bA, Nat.reduceBEq, reduceCtorEq, Nat.reduceAdd, Nat.reduceSub, Nat.reduceMul, Nat.reduceLeDiff, Nat.reduceLT, e1, e2, e5, e6, e7, e8, e9, s1, s2, o1, o2, b1, b2, n1, n2, nck_p, ff, bslW_some]
    refine bindP_of a1 ?_
    simp (disch := first | omega | assumption) only [↓bxD, bA, reduceCtorEq, e1, e2, e5, e6, e7, e8, e9, s1, s2, o1, o2, b1, b2, n1, n2, nck_p, g54, k4, d2, ixo, g6, cw]
    refine bindP_call (union_any (by omega) hn4.2.row hv4 (by have := bitsOf_len (foldF q (keepH q c (S.take k)) 0) 150; omega) (by have := bitsOf_len A 150; omega)) ?_
    rintro m M5 ⟨x5, hm5⟩
    simp (disch := first | omega | assumption) only [↓bxD, bA, reduceCtorEq, e1, e2, e5, e6, e7, e8, e9, s1, s2, o1, o2, b1, b2, n1, n2, nck_p]
    show Wp fns K18_1 _ _ _
    unfold K18_1
    simp (disch := first | omega | assumption) only [↓bxD, bA, reduceCtorEq, e1, e2, e5, e6, e7, e8, e9, s1, s2, o1, o2, b1, b2, n1, n2, nck_p]
    have y := xx.trans x5
    refine ⟨k + 1, by omega, by omega, rfl, y, ?_, ?_, ?_⟩
    ·rw [hsc, foldF_app, hA, ← mer_bits]
     exact hm5.le (by omega)
    ·rw [hsc, nv_app]
     exact a2.ext x5
    ·intro a b n d e x y' m' e' r
     obtain ⟨_, ⟨r0, _⟩ | ⟨id, c', r1, r2, r3, r4, r5⟩⟩ := hm5.2
     ·rw [r0] at e; cases e
     ·obtain ⟨_, ⟨t0, _⟩ | ⟨id2, c2, t1, t2, t3, t4, t5⟩⟩ := a2
      ·rw [t0] at r; cases r
      ·rw [r1] at e
       rw [t1] at r
       injection e with e1 e2 e3 e4
       injection r with e5 e6 e7 e8
       omega
  ·have hkl : k = S.length := by omega
   have dk : decide ((k : Int) < (S.length : Int)) = false := decide_eq_false (by omega)
   rw [hkl, List.take_length] at hn hh
   simp (disch := first | omega | assumption) only [↓bxD, bA, reduceCtorEq, e1, e2, e5, e6, e7, e8, e9, s1, s2, o1, o2, b1, b2, n1, n2, nck_p, dk]
   exact hQ _ _ u7 u8 (by simp only [bA, reduceCtorEq, e1, e2, e5, e6, e7, e8, e9, s1, s2, o1, o2, b1, b2, n1, n2, nck_p]) (by simp only [bA, reduceCtorEq, e1, e2, e5, e6, e7, e8, e9, s1, s2, o1, o2, b1, b2, n1, n2, nck_p]) (by simp only [bA, reduceCtorEq, e1, e2, e5, e6, e7, e8, e9, s1, s2, o1, o2, b1, b2, n1, n2, nck_p]) (by simp only [bA, reduceCtorEq, e1, e2, e5, e6, e7, e8, e9, s1, s2, o1, o2, b1, b2, n1, n2, nck_p]) (by simp only [bA, reduceCtorEq, e1, e2, e5, e6, e7, e8, e9, s1, s2, o1, o2, b1, b2, n1, n2, nck_p]) (by simp only [bA, reduceCtorEq, e1, e2, e5, e6, e7, e8, e9, s1, s2, o1, o2, b1, b2, n1, n2, nck_p]) hx hn hh
 ·refine ⟨Nat.zero_le _, h1, h2, h5, h6, h9, .refl _, ?_, ?_, ?_⟩
  ·simp only [q7]; rw [h7]
   show NrAt M.n M .nils (bitsOf 0 150)
   rw [e0]; exact .nil _ _
  ·simp only [q8]; rw [h8]
   exact OwnRow.nil _ _ _
  ·simp only [q7]; rw [h7]
   intro a b n d e; cases e
def endT (q : Pm × Bs) (H : List Nat) : Bool := H.any fun j => decide (j ∈ bitsOf q.1.la 150)
def tkD (q : Pm × Bs) : List Nat → List Nat → Bool
 | _, [] => false
 | S, c :: r => match r with
  | [] => endT q (keepH q c S)
  | d :: r' => tkD q (bitsOf (foldF q (keepH q c S) 0) 150) (d :: r')
def takesD (q : Pm × Bs) (w : List Nat) : Bool := if w = [] then q.1.null else tkD q (bitsOf q.1.fi 150) w
theorem tkD_one (q : Pm × Bs) (S : List Nat) (c : Nat) : tkD q S [c] = endT q (keepH q c S) := by rw [tkD]
theorem tkD_more (q : Pm × Bs) (S : List Nat) (c : Nat) {r : List Nat} (h : r ≠ []) : tkD q S (c :: r) = tkD q (bitsOf (foldF q (keepH q c S) 0) 150) r := by
 cases r with
 | nil => exact (h rfl).elim
 | cons d r => rw [tkD]
theorem tk_end {M : MH} {f : Fr} {v8 vl : MV} {bx : Nat} {H L : List Nat} {c5 : Ev.T MV} (hlo : M.lo ≤ M.n)
  (h2 : X.ev f (.t q2) = .p bx 0) (h8 : X.ev f (.t q8) = v8) (h11 : X.ev f (.t q11) = .i .i64 0) (g5 : M.get bx = some (.cs false 5 c5)) (k3 : cget c5 3 = some vl) (hl : RowAt M 1 vl (nv L)) (hh : RowAt M 1 v8 (nv H)) (hLn : L.length ≤ 1000) (hHn : H.length ≤ 1000) {Q : Post}
  (hQ1 : ∀ f', X.ev f' (.t q4) = .b true → (H.any fun j => decide (j ∈ L)) = true → Q .ret f' M) (hQ0 : ∀ f', (H.any fun j => decide (j ∈ L)) = false → Q .norm f' M) : Wp fns (.loop L18_10) f M (blockQ 4 Q) := by
 obtain ⟨l1, l2⟩ := hl.sl
 have l2 : slen vl = L.length := l2.trans (nv_len L)
 obtain ⟨n1, n2⟩ := hh.sl
 have n2 : slen v8 = H.length := n2.trans (nv_len H)
 simp only [q2, q8, q11] at h2 h8 h11
 refine Wp_inv (σ := Nat) (fun k f M' => M' = M ∧ k ≤ H.length ∧ X.ev f (.t q2) = .p bx 0 ∧ X.ev f (.t q8) = v8 ∧ X.ev f (.t q11) = .i .i64 (k : Int) ∧ ∀ z ∈ H.take k, z ∉ L) (fun k => H.length - k) ?_ 0 ?_
 ·rintro k f M' ⟨rfl, hk, e2, e8, e11, hno⟩
  simp only [q2, q8, q11] at e2 e8 e11
  unfold L18_10
  by_cases hk' : k < H.length
  ·have dk : decide ((k : Int) < (H.length : Int)) = true := decide_eq_true (by omega)
   obtain ⟨z, hz⟩ : ∃ z, H[k]? = some z := ⟨_, List.getElem?_eq_getElem hk'⟩
   obtain ⟨ro, sz, t, g, _, hct⟩ := nv_read hh hz
   have ixn : ixV 1 v8 (.i .i64 (k : Int)) = some (.p (sid v8) (soff v8 + k * 1)) := ix_sl n1 (by rw [n2]; exact hk')
   simp (disch := first | omega | assumption) only [↓bxD, bA, reduceCtorEq, e2, e8, e11, l1, l2, n1, n2, nck_p, dk]
   show Wp fns K18_9 _ _ _
   unfold K18_9
   simp (disch := first | omega | assumption) only [↓bxD, bA, reduceCtorEq, e2, e8, e11, l1, l2, n1, n2, nck_p]
   refine Wp_inv (σ := Nat) (fun i f M2 => M2 = M' ∧ i ≤ L.length ∧ X.ev f (.t q2) = .p bx 0 ∧ X.ev f (.t q8) = v8 ∧ X.ev f (.t q11) = .i .i64 (k : Int) ∧ X.ev f (.t q12) = .i .i64 (i : Int) ∧ z ∉ L.take i) (fun i => L.length - i) ?_ 0 ?_
   ·rintro i f M2 ⟨rfl, hi, e2, e8, e11, e12, hnz⟩
    simp only [q2, q8, q11, q12] at e2 e8 e11 e12
    unfold L18_7
    by_cases hi' : i < L.length
    ·have di : decide ((i : Int) < (L.length : Int)) = true := decide_eq_true (by omega)
     obtain ⟨y, hy⟩ : ∃ y, L[i]? = some y := ⟨_, List.getElem?_eq_getElem hi'⟩
     obtain ⟨ro2, sz2, t2, g2, _, hct2⟩ := nv_read hl hy
     have ixl : ixV 1 vl (.i .i64 (i : Int)) = some (.p (sid vl) (soff vl + i * 1)) := ix_sl l1 (by rw [l2]; exact hi')
     simp (disch := first | omega | assumption) only [↓bxD, bA, reduceCtorEq, e2, e8, e11, e12, l1, l2, n1, n2, nck_p, g5, k3, ixn, g, hct, di]
     show Wp fns K18_6 _ _ _
     unfold K18_6
     simp (disch := first | omega | assumption) only [↓bxD, bA, reduceCtorEq, e2, e8, e11, e12, l1, l2, n1, n2, nck_p, g5, k3, ixn, g, hct]
     refine Wp_dreg_of (by omega) ?_
     simp (disch := first | omega | assumption) only [↓bxD, bA, reduceCtorEq, e2, e8, e11, e12, l1, l2, n1, n2, nck_p, g5, k3, ixn, g, hct, ixl, g2, hct2]
     by_cases hyz : y = z
     ·have dy : decide ((y : Int) = (z : Int)) = true := decide_eq_true (by omega)
      show Wp fns K18_4 _ _ _
      unfold K18_4
      simp (disch := first | omega | assumption) only [↓bxD, bA, reduceCtorEq, e2, e8, e11, e12, l1, l2, n1, n2, nck_p, g5, k3, ixn, g, hct, dy]
      have hyL : y ∈ L := List.mem_of_getElem? hy
      refine hQ1 _ (by simp only [bA, reduceCtorEq, e2, e8, e11, e12, l1, l2, n1, n2, nck_p, g5, k3, ixn, g, hct]) ?_
      rw [List.any_eq_true]
      exact ⟨z, List.mem_of_getElem? hz, decide_eq_true (by rw [← hyz]; exact hyL)⟩
     ·have dy : decide ((y : Int) = (z : Int)) = false := decide_eq_false (by omega)
      show Wp fns K18_4 _ _ _
      unfold K18_4
      simp (disch := first | omega | assumption) only [↓bxD, bA, reduceCtorEq, e2, e8, e11, e12, l1, l2, n1, n2, nck_p, g5, k3, ixn, g, hct, dy]
      show Wp fns K18_5 _ _ _
      unfold K18_5
      simp (disch := first | omega | assumption) only [↓bxD, bA, reduceCtorEq, e2, e8, e11, e12, l1, l2, n1, n2, nck_p, g5, k3, ixn, g, hct]
      refine ⟨i + 1, by omega, by omega, rfl, ?_⟩
      rw [List.take_add_one, hy]
      intro h
      rcases List.mem_append.1 h with h | h
      ·exact hnz h
      ·simp only [Option.toList_some, List.mem_singleton] at h
       exact hyz h.symm
    ·have di : decide ((i : Int) < (L.length : Int)) = false := decide_eq_false (by omega)
     have hil : i = L.length := by omega
     rw [hil, List.take_length] at hnz
     simp (disch := first | omega | assumption) only [↓bxD, bA, reduceCtorEq, e2, e8, e11, e12, l1, l2, n1, n2, nck_p, g5, k3, ixn, g, hct, di]
     show Wp fns K18_8 _ _ _
     unfold K18_8
     simp (disch := first | omega | assumption) only [↓bxD, bA, reduceCtorEq, e2, e8, e11, e12, l1, l2, n1, n2, nck_p, g5, k3, ixn, g, hct]
     refine ⟨k + 1, by omega, by omega, rfl, ?_⟩
     rw [List.take_add_one, hz]
     intro y h
     rcases List.mem_append.1 h with h | h
     ·exact hno y h
     ·simp only [Option.toList_some, List.mem_singleton] at h
      rw [h]
      exact hnz
   ·refine ⟨rfl, Nat.zero_le _, by simp only [bA, reduceCtorEq, e2, e8, e11, l1, l2, n1, n2, nck_p], by simp only [bA, reduceCtorEq, e2, e8, e11, l1, l2, n1, n2, nck_p], by simp only [bA, reduceCtorEq, e2, e8, e11, l1, l2, n1, n2, nck_p], by simp only [bA, reduceCtorEq, e2, e8, e11, l1, l2, n1, n2, nck_p] <;> rfl, by simp⟩
  ·have dk : decide ((k : Int) < (H.length : Int)) = false := decide_eq_false (by omega)
   have hkl : k = H.length := by omega
   rw [hkl, List.take_length] at hno
   simp (disch := first | omega | assumption) only [↓bxD, bA, reduceCtorEq, e2, e8, e11, l1, l2, n1, n2, nck_p, dk]
   refine hQ0 _ ?_
   rw [List.any_eq_false]
   intro z hz
   simpa using hno z hz
 ·exact ⟨rfl, Nat.zero_le _, h2, h8, h11, by simp⟩
theorem foldF_in {q : Pm × Bs} (hok : OkQ q) : ∀ (H : List Nat) (A : Nat), (∀ i, A.testBit i = true → i < q.2.sets.length) → ∀ i, (foldF q H A).testBit i = true → i < q.2.sets.length
 | [], A, h => h
 | z :: H, A, h => by
  refine foldF_in hok H (A ||| q.2.fol[z]?.getD 0) fun i hi => ?_
  rw [Nat.testBit_or, Bool.or_eq_true] at hi
  rcases hi with hi | hi
  ·exact h i hi
  ·cases e : q.2.fol[z]? with
   | none => rw [e] at hi; simp at hi
   | some B => rw [e] at hi; exact hok.fol B (List.mem_of_getElem? e) i hi
theorem dtakes_any {M : MH} {e : List MV} {v1 : MV} {q : Pm × Bs} {w : List Nat} (hlo : M.lo ≤ M.n) (he : PvAt M e q) (hok : OkQ q) (hfs : q.2.fol.length = q.2.sets.length) (hb : RowAt M 1 v1 (bvs w)) (hw : ∀ c ∈ w, c < 256) (hwl : w.length ≤ 1000000) : Cp fns 18 [.ag e, v1] M fun m M' => m = .b (takesD q w) ∧ Ext M M' := by
 obtain ⟨vs, vf, vl, vo, fs, rfl, p1, p2, p3, p4, p5, p6⟩ := he
 obtain ⟨b1, b2⟩ := hb.sl
 have b2 : slen v1 = w.length := b2.trans (bvs_len w)
 refine Cp_call (fn := F18) (by kernel_rfl) (Nat.le_of_ble_eq_true rfl) ?_
 show Wp fns B18 (T.set q1 (some v1) (T.set q0 (some (.ag [vs, .b q.1.null, vf, vl, vo])) T.lf)) M _
 have hU : isU (.ag [vs, .b q.1.null, vf, vl, vo]) = false := rfl
 have hcl : MV.cells (.ag [vs, .b q.1.null, vf, vl, vo]) = [vs, .b q.1.null, vf, vl, vo] := rfl
 have A5 := at_ofL [vs, .b q.1.null, vf, vl, vo]
 generalize hM1 : M.push (.cs false 5 (ofL [vs, .b q.1.null, vf, vl, vo] 0)) = M1
 have x1 : Ext M M1 := by rw [← hM1]; exact .push M _
 have g1 : M1.get M.n = some (.cs false 5 (ofL [vs, .b q.1.null, vf, vl, vo] 0)) := by rw [← hM1]; exact push_new _
 have n1' : M1.n = M.n + 1 := by rw [← hM1]; rfl
 have l1 := x1.lo
 generalize hc5 : ofL [vs, .b q.1.null, vf, vl, vo] 0 = c5 at *
 have c0 : cget c5 0 = some vs := A5 0 _ rfl
 have c1 : cget c5 1 = some (.b q.1.null) := A5 1 _ rfl
 have c2 : cget c5 2 = some vf := A5 2 _ rfl
 have c3 : cget c5 3 = some vl := A5 3 _ rfl
 have c4 : cget c5 4 = some vo := A5 4 _ rfl
 unfold B18
 by_cases h0 : w = []
 ·have d0 : decide ((w.length : Int) = 0) = true := decide_eq_true (by rw [h0]; rfl)
  simp (disch := first | omega | assumption) only [↓bxD, bA, reduceCtorEq, hU, hcl, hc5, hM1, g1, b1, b2, nck_p, d0, c1]
  refine ⟨?_, x1⟩
  unfold takesD
  rw [if_pos h0]
 ·have hwp : 0 < w.length := List.length_pos_iff.2 h0
  have d0 : decide ((w.length : Int) = 0) = false := decide_eq_false (by omega)
  simp (disch := first | omega | assumption) only [↓bxD, bA, reduceCtorEq, hU, hcl, hc5, hM1, g1, b1, b2, nck_p, d0]
  show Wp fns K18_18 _ _ _
  unfold K18_18
  simp (disch := first | omega | assumption) only [↓bxD, bA, reduceCtorEq, hU, hcl, hc5, hM1, g1, b1, b2, nck_p, c2]
  have e0 : tkD q (bitsOf q.1.fi 150) (w.drop 0) = takesD q w := by
   unfold takesD
   rw [if_neg h0]; rfl
  refine Wp_inv (σ := Nat × List Nat) (fun s f M' => s.1 < w.length ∧ X.ev f (.t q1) = v1 ∧ X.ev f (.t q2) = .p M.n 0 ∧ X.ev f (.t q6) = .i .i64 (s.1 : Int) ∧ Ext M1 M' ∧ RowAt M' 1 (X.ev f (.t q5)) (nv s.2) ∧ s.2.length ≤ 1000 ∧ (∀ k ∈ s.2, k < q.2.sets.length) ∧ tkD q s.2 (w.drop s.1) = takesD q w) (fun s => w.length - s.1) ?_ (0, bitsOf q.1.fi 150) ?_
  ·rintro ⟨i, S⟩ f M' ⟨hi, e1, e2, e6, hx, hS, hSn, hSl, ht⟩
   have hi : i < w.length := hi
   have hSn : S.length ≤ 1000 := hSn
   have xn := hx.n
   have xl := hx.lo
   have xM := x1.trans hx
   have g5' := (hx.old M.n (by omega)).trans g1
   simp only [q1, q2, q5, q6] at e1 e2 e6 hS
   generalize e5 : X.ev f (.t (Ky.k1 Dg.d5)) = u5 at hS
   obtain ⟨c, hc⟩ : ∃ c, w[i]? = some c := ⟨_, List.getElem?_eq_getElem hi⟩
   have hdr : w.drop i = c :: w.drop (i + 1) := by
    rw [List.drop_eq_getElem_cons hi]; congr 1
    rw [List.getElem?_eq_getElem hi] at hc; exact Option.some.inj hc
   have di : decide ((i : Int) < (w.length : Int)) = true := decide_eq_true (by omega)
   unfold L18_16
   simp (disch := first | omega | assumption) only [↓bxD, bA, reduceCtorEq, e1, e2, e5, e6, b1, b2, nck_p, di]
   show Wp fns K18_15 _ _ _
   unfold K18_15
   simp (disch := first | omega | assumption) only [↓bxD, bA, reduceCtorEq, e1, e2, e5, e6, b1, b2, nck_p]
   refine tk_in (M := M') (v1 := v1) (v5 := u5) (bx := M.n) (i := i) (q := q) (S := S) (w := w) (by omega) (hw c (List.mem_of_getElem? hc)) (by simp only [bA, reduceCtorEq, e1, e2, e5, e6, b1, b2, nck_p]) (by simp only [bA, reduceCtorEq, e1, e2, e5, e6, b1, b2, nck_p]) (by simp only [bA, reduceCtorEq, e1, e2, e5, e6, b1, b2, nck_p]) (by simp only [bA, reduceCtorEq, e1, e2, e5, e6, b1, b2, nck_p]) (by simp only [bA, reduceCtorEq, e1, e2, e5, e6, b1, b2, nck_p]) (by simp only [bA, reduceCtorEq, e1, e2, e5, e6, b1, b2, nck_p]) (by simp only [bA, reduceCtorEq, e1, e2, e5, e6, b1, b2, nck_p]) g5' (by omega) c0 c4 (p1.ext xM) (p4.ext xM) p5 (fun k x A a b => (p6 k x A a b).ext xM) hok hfs (hb.ext xM) hc hS hSl hSn ?_
   intro f' M2 v7 v8 b1' b2' b5' b6' b7' b8' x2 hn hh
   simp only [q1, q2, q5, q6, q7, q8] at b1' b2' b5' b6' b7' b8'
   have xn2 := x2.n
   have xl2 := x2.lo
   have g52 := (x2.old M.n (by omega)).trans g5'
   by_cases hl : i + 1 = w.length
   ·have dl : decide ((i : Int) = (w.length : Int) - 1) = true := decide_eq_true (by omega)
    have hend : takesD q w = endT q (keepH q c S) := by
     rw [← ht, hdr, List.drop_eq_nil_of_le (by omega)]
     exact tkD_one q S c
    have hHl : (keepH q c S).length ≤ 1000 := Nat.le_trans (List.length_filter_le _ _) hSn
    show Wp fns K18_13 _ _ _
    unfold K18_13
    simp (disch := first | omega | assumption) only [↓bxD, bA, reduceCtorEq, b1', b2', b5', b6', b7', b8', b1, b2, nck_p, dl]
    refine tk_end (M := M2) (v8 := v8) (vl := vl) (bx := M.n) (H := keepH q c S) (L := bitsOf q.1.la 150) (by omega) (by simp only [bA, reduceCtorEq, b1', b2', b5', b6', b7', b8', b1, b2, nck_p]) (by simp only [bA, reduceCtorEq, b1', b2', b5', b6', b7', b8', b1, b2, nck_p]) (by simp only [bA, reduceCtorEq, b1', b2', b5', b6', b7', b8', b1, b2, nck_p]) g52 c3 (p3.ext (xM.trans x2)) hh.row (by have := bitsOf_len q.1.la 150; omega) hHl ?_ ?_
    ·intro f'' a1 a3
     refine ⟨[.b true], ?_, ?_⟩
     ·show resL f'' M2 [IRes.tmp q4] = _
      rw [resL_1, res_of a1 rfl]
     ·refine ⟨?_, xM.trans x2⟩
      rw [hend]
      unfold endT
      rw [a3]
      rfl
    ·intro f'' a3
     show Wp fns K18_11 _ _ _
     unfold K18_11
     simp (disch := first | omega | assumption) only [↓bxD, bA, reduceCtorEq, b1', b2', b5', b6', b7', b8', b1, b2, nck_p]
     refine ⟨?_, xM.trans x2⟩
     rw [hend]
     unfold endT
     rw [a3]
   ·have dl : decide ((i : Int) = (w.length : Int) - 1) = false := decide_eq_false (by omega)
    show Wp fns K18_13 _ _ _
    unfold K18_13
    simp (disch := first | omega | assumption) only [↓bxD, bA, reduceCtorEq, b1', b2', b5', b6', b7', b8', b1, b2, nck_p, dl]
    show Wp fns K18_12 _ _ _
    unfold K18_12
    simp (disch := first | omega | assumption) only [↓bxD, bA, reduceCtorEq, b1', b2', b5', b6', b7', b8', b1, b2, nck_p]
    show Wp fns K18_14 _ _ _
    unfold K18_14
    simp (disch := first | omega | assumption) only [↓bxD, bA, reduceCtorEq, b1', b2', b5', b6', b7', b8', b1, b2, nck_p]
    have hbit : ∀ k ∈ bitsOf (foldF q (keepH q c S) 0) 150, k < q.2.sets.length := fun k hk => by
     have hb := (List.mem_filter.1 hk).2
     exact foldF_in hok _ 0 (fun i h => by simp at h) k hb
    refine ⟨(i + 1, bitsOf (foldF q (keepH q c S) 0) 150), by show w.length - (i + 1) < w.length - i; omega, by show i + 1 < w.length; omega, rfl, hx.trans x2, hn.2.row, Nat.le_trans (bitsOf_len _ _) (by decide), hbit, ?_⟩
    show tkD q _ (w.drop (i + 1)) = _
    rw [← ht, hdr]
    exact (tkD_more q S c (fun e => by
     have := congrArg List.length e
     rw [List.length_drop] at this
     simp only [List.length_nil] at this
     omega)).symm
  ·refine ⟨hwp, by simp only [bA, reduceCtorEq, hU, hcl, hc5, hM1, g1, b1, b2, nck_p], by simp only [bA, reduceCtorEq, hU, hcl, hc5, hM1, g1, b1, b2, nck_p], by simp only [bA, reduceCtorEq, hU, hcl, hc5, hM1, g1, b1, b2, nck_p] <;> rfl, .refl _, ?_, Nat.le_trans (bitsOf_len _ _) (by decide), fun k hk => hok.fi k (List.mem_filter.1 hk).2, e0⟩
   simp (disch := first | omega | assumption) only [↓bxD, bA, reduceCtorEq, hU, hcl, hc5, hM1, g1, b1, b2, nck_p]
   exact p2.ext x1
def Cand (ps : List (Pm × Bs)) (i : Nat) (q : Pm × Bs) (l : List (Nat × Int)) (S : List Nat) : Prop := ∀ k, k ∈ S ↔ ∃ p ∈ l, p.1 = i ∧ k ∈ lookP q p.2
theorem mem_keepH {q : Pm × Bs} {c k : Nat} {S : List Nat} : k ∈ keepH q c S ↔ k ∈ S ∧ hasS (q.2.sets[k]?.getD []) c = true := List.mem_filter
theorem foldF_bit {q : Pm × Bs} : ∀ (H : List Nat) (A i : Nat), (foldF q H A).testBit i = true ↔ A.testBit i = true ∨ ∃ z ∈ H, (q.2.fol[z]?.getD 0).testBit i = true
 | [], A, i => by
  show A.testBit i = true ↔ _
  simp
 | z :: H, A, i => by
  have := foldF_bit (q := q) H (A ||| q.2.fol[z]?.getD 0) i
  show (foldF q H (A ||| q.2.fol[z]?.getD 0)).testBit i = true ↔ _
  rw [this, Nat.testBit_or, Bool.or_eq_true, or_assoc]
  simp only [List.mem_cons, exists_eq_or_imp]
theorem memB {A n k : Nat} : k ∈ bitsOf A n ↔ k < n ∧ A.testBit k = true := by
 unfold bitsOf
 rw [List.mem_filter, List.mem_range]
theorem Cand.step {ps : List (Pm × Bs)} {i c : Nat} {q : Pm × Bs} {l : List (Nat × Int)} {S : List Nat} (hq : ps[i]? = some q) (h : Cand ps i q l S) : ∀ k : Nat, k ∈ keepH q c S ↔ (i, (k : Int)) ∈ stpP ps c l := fun k => by
 rw [mem_keepH, h k, mem_stpP]
 constructor
 ·rintro ⟨⟨p, h1, h2, h3⟩, h4⟩
  exact ⟨p, h1, q, by rw [h2]; exact hq, k, h3, h4, by rw [h2]⟩
 ·rintro ⟨p, h1, x, h2, k', h3, h4, h5⟩
  injection h5 with h5 h6
  have h6 : k = k' := by omega
  subst h6
  rw [← h5, hq] at h2
  injection h2 with h2
  subst h2
  exact ⟨⟨p, h1, h5.symm, h3⟩, h4⟩
theorem stp_pos {ps : List (Pm × Bs)} {c : Nat} {l : List (Nat × Int)} {p : Nat × Int} (h : p ∈ stpP ps c l) : ∃ k : Nat, p.2 = (k : Int) := by
 obtain ⟨_, _, _, _, k, _, _, e⟩ := mem_stpP.1 h
 exact ⟨k, by rw [e]⟩
theorem Cand.next {ps : List (Pm × Bs)} {i c : Nat} {q : Pm × Bs} {l : List (Nat × Int)} {S : List Nat} (hq : ps[i]? = some q) (h : Cand ps i q l S) : Cand ps i q (stpP ps c l) (bitsOf (foldF q (keepH q c S) 0) 150) := fun k => by
 rw [memB, foldF_bit]
 constructor
 ·rintro ⟨h1, h2 | ⟨z, h2, h3⟩⟩
  ·simp at h2
  ·refine ⟨(i, (z : Int)), (h.step hq z).1 h2, rfl, ?_⟩
   unfold lookP
   rw [if_pos (by show (0 : Int) ≤ (z : Int); omega), memB]
   exact ⟨h1, h3⟩
 ·rintro ⟨p, h1, h2, h3⟩
  obtain ⟨z, hz⟩ := stp_pos h1
  unfold lookP at h3
  rw [hz, if_pos (by omega), memB, Int.toNat_natCast] at h3
  refine ⟨h3.1, .inr ⟨z, (h.step hq z).2 ?_, h3.2⟩⟩
  rw [← h2, ← hz]
  exact h1
theorem Cand.first {ps : List (Pm × Bs)} {i : Nat} {q : Pm × Bs} (hq : ps[i]? = some q) : Cand ps i q (firstL ps.length) (bitsOf q.1.fi 150) := fun k => by
 constructor
 ·intro h
  refine ⟨(i, -1), mem_firstL.2 ⟨(List.getElem?_eq_some_iff.1 hq).1, rfl⟩, rfl, ?_⟩
  unfold lookP
  rw [if_neg (by show ¬ (0 : Int) ≤ -1; decide)]
  exact h
 ·rintro ⟨p, h1, h2, h3⟩
  unfold lookP at h3
  rw [(mem_firstL.1 h1).2, if_neg (by decide)] at h3
  exact h3
theorem tk_run {ps : List (Pm × Bs)} {i : Nat} {q : Pm × Bs} (hq : ps[i]? = some q) : ∀ (w : List Nat) (l : List (Nat × Int)) (S : List Nat), w ≠ [] → Cand ps i q l S → (tkD q S w = true ↔ ∃ p ∈ runL ps l w, p.1 = i ∧ hitP ps p = true)
 | [], l, S, h, _ => (h rfl).elim
 | [c], l, S, _, hc => by
  rw [tkD_one]
  unfold endT
  rw [List.any_eq_true]
  show _ ↔ ∃ p ∈ stpP ps c l, _
  constructor
  ·rintro ⟨k, h1, h2⟩
   refine ⟨(i, (k : Int)), (hc.step hq k).1 h1, rfl, ?_⟩
   unfold hitP
   show (match ps[i]? with
    | some q => _
    | none => _) = _
   rw [hq]
   show (decide ((k : Int) < 0) && q.1.null || decide (0 ≤ (k : Int)) && decide ((k : Int).toNat ∈ bitsOf q.1.la 150)) = true
   rw [Int.toNat_natCast, h2, decide_eq_true (by omega : (0 : Int) ≤ (k : Int))]
   simp
  ·rintro ⟨p, h1, h2, h3⟩
   obtain ⟨k, hk⟩ := stp_pos h1
   refine ⟨k, (hc.step hq k).2 (by rw [← h2, ← hk]; exact h1), ?_⟩
   unfold hitP at h3
   rw [h2, hq, hk] at h3
   have h4 : (decide ((k : Int) < 0) && q.1.null || decide (0 ≤ (k : Int)) && decide ((k : Int).toNat ∈ bitsOf q.1.la 150)) = true := h3
   rw [Int.toNat_natCast, decide_eq_false (by omega : ¬ (k : Int) < 0)] at h4
   simpa using h4
 | c :: d :: w, l, S, _, hc => by
  rw [tkD_more q S c (by simp)]
  exact tk_run hq (d :: w) _ _ (by simp) (hc.next hq)
theorem takes_run {ps : List (Pm × Bs)} {i : Nat} {q : Pm × Bs} (hq : ps[i]? = some q) (w : List Nat) : takesD q w = true ↔ ∃ p ∈ runL ps (firstL ps.length) w, p.1 = i ∧ hitP ps p = true := by
 unfold takesD
 split
 ·rename_i h
  subst h
  show _ ↔ ∃ p ∈ firstL ps.length, _
  constructor
  ·intro h
   refine ⟨(i, -1), mem_firstL.2 ⟨(List.getElem?_eq_some_iff.1 hq).1, rfl⟩, rfl, ?_⟩
   unfold hitP
   show (match ps[i]? with
    | some q => _
    | none => _) = _
   rw [hq]
   show (decide ((-1 : Int) < 0) && q.1.null || decide (0 ≤ (-1 : Int)) && decide ((-1 : Int).toNat ∈ bitsOf q.1.la 150)) = true
   rw [h]; rfl
  ·rintro ⟨p, h1, h2, h3⟩
   have h4 := (mem_firstL.1 h1).2
   unfold hitP at h3
   rw [h2, hq, h4] at h3
   have h5 : (decide ((-1 : Int) < 0) && q.1.null || decide (0 ≤ (-1 : Int)) && decide ((-1 : Int).toNat ∈ bitsOf q.1.la 150)) = true := h3
   simpa using h5
 ·rename_i h
  exact tk_run hq w _ _ h (.first hq)
theorem ans_none {ps : List (Pm × Bs)} {w : List Nat} (h : ansP ps w < 0) {i : Nat} {q : Pm × Bs} (hq : ps[i]? = some q) : takesD q w = false := by
 cases e : takesD q w with
 | false => rfl
 | true =>
  obtain ⟨p, h1, h2, h3⟩ := (takes_run hq w).1 e
  unfold ansP accP at h
  cases e2 : (runL ps (firstL ps.length) w).find? (hitP ps) with
  | none => rw [List.find?_eq_none] at e2; exact (e2 p h1 h3).elim
  | some p2 =>
   rw [e2] at h
   have h : (p2.1 : Int) < 0 := h
   omega
theorem run_rise (ps : List (Pm × Bs)) : ∀ (w : List Nat) (l : List (Nat × Int)), Rise l → Rise (runL ps l w)
 | [], l, h => h
 | c :: w, l, h => run_rise ps w _ (rise_stpP ps c l)
theorem ans_some {ps : List (Pm × Bs)} {w : List Nat} {z : Nat} (h : ansP ps w = (z : Int)) : (∃ q, ps[z]? = some q ∧ takesD q w = true) ∧ ∀ i q, i < z → ps[i]? = some q → takesD q w = false := by
 unfold ansP accP at h
 cases e2 : (runL ps (firstL ps.length) w).find? (hitP ps) with
 | none => rw [e2] at h; have h : (-1 : Int) = (z : Int) := h; omega
 | some p2 =>
  rw [e2] at h
  have h : (p2.1 : Int) = (z : Int) := h
  have h : p2.1 = z := by omega
  obtain ⟨h1, xs, ys, h2, h3⟩ := List.find?_eq_some_iff_append.1 e2
  have hm : p2 ∈ runL ps (firstL ps.length) w := by rw [h2]; simp
  refine ⟨?_, fun i q hi hq => ?_⟩
  ·cases e : ps[z]? with
   | none => unfold hitP at h1; rw [h, e] at h1; cases h1
   | some q => exact ⟨q, rfl, (takes_run e w).2 ⟨p2, hm, h, h1⟩⟩
  ·cases e : takesD q w with
   | false => rfl
   | true =>
    obtain ⟨p, k1, k2, k3⟩ := (takes_run hq w).1 e
    have hr := run_rise ps w _ (firstL_rise ps.length)
    rw [h2] at k1 hr
    unfold Rise at hr
    rw [List.pairwise_append] at hr
    rcases List.mem_append.1 k1 with k1 | k1
    ·have := h3 p k1
     rw [k3] at this
     cases this
    ·rcases List.mem_cons.1 k1 with rfl | k1
     ·omega
     ·have := (List.pairwise_cons.1 hr.2.1).1 p k1
      rw [lt2_iff] at this
      omega
def best (ps : List (Pm × Bs)) (b : List Nat) : Nat → Int × Nat
 | 0 => (-1, 0)
 | k + 1 => if -1 < ansP ps (b.take (k + 1)) then (ansP ps (b.take (k + 1)), k + 1) else best ps b k
theorem drun_app (D : List (List Int)) (s : Int) (w : List Nat) (c : Nat) : drun D s (w ++ [c]) = dstep D (drun D s w) c := by
 unfold drun
 rw [List.foldl_append]; rfl
theorem drun_app2 (D : List (List Int)) (s : Int) (w u1 : List Nat) : drun D s (w ++ u1) = drun D (drun D s w) u1 := by
 unfold drun
 rw [List.foldl_append]
theorem best_dead {ps : List (Pm × Bs)} {b : List Nat} {i : Nat} (h : ∀ k, i < k → k ≤ b.length → ansP ps (b.take k) < 0) : ∀ d, i + d ≤ b.length → best ps b (i + d) = best ps b i
 | 0, _ => rfl
 | d + 1, hd => by
  show best ps b (i + d + 1) = _
  rw [best, if_neg (by have := h (i + d + 1) (by omega) (by omega); omega)]
  exact best_dead h d (by omega)
theorem byt_take {b : List Nat} (hb : Byt b) (k : Nat) : Byt (b.take k) := fun c hc => hb c (List.mem_of_mem_take hc)
theorem nx_best {ps : List (Pm × Bs)} {D : List (List Int)} {Ac : List Int} (h : Aut ps D Ac) {b : List Nat} (hb : Byt b) : ∀ (r : List Nat) (i s : Nat), b.drop i = r → i ≤ b.length → drun D 0 (b.take i) = (s : Int) → s < D.length → (nx D Ac s i (best ps b i).1 (best ps b i).2 r).1 = (best ps b b.length).1 ∧ (nx D Ac s i (best ps b i).1 (best ps b i).2 r).2.1 = (best ps b b.length).2
 | [], i, s, hr, hi, hs, hsl => by
  have : b.length ≤ i := List.drop_eq_nil_iff.1 hr
  have e : i = b.length := by omega
  rw [nx, e]
  exact ⟨rfl, rfl⟩
 | c :: r, i, s, hr, hi, hs, hsl => by
  have hil : i < b.length := by
   by_cases e : i < b.length
   ·exact e
   ·rw [List.drop_eq_nil_of_le (by omega)] at hr; cases hr
  have hd := List.drop_eq_getElem_cons hil
  rw [hr] at hd
  injection hd with hc hr'
  have htk : b.take (i + 1) = b.take i ++ [c] := by rw [List.take_add_one, List.getElem?_eq_getElem hil, ← hc]; rfl
  have hcb : c < 256 := hb c (by rw [hc]; exact List.getElem_mem hil)
  have hdr : drun D 0 (b.take (i + 1)) = cellN D s c := by rw [htk, drun_app, hs, dstep_nat]
  have hto := h.to s c hsl hcb
  rw [nx]
  split
  ·rename_i hneg
   have hdead : ∀ k, i < k → k ≤ b.length → ansP ps (b.take k) < 0 := fun k h1 h2 => by
    rw [← h.ans _ (byt_take hb k)]
    obtain ⟨e, rfl⟩ : ∃ e, k = i + 1 + e := ⟨k - (i + 1), by omega⟩
    have e2 : drun D 0 (b.take (i + 1 + e)) < 0 := by
     rw [List.take_add, drun_app2, hdr]
     exact drun_dead D _ _ hneg
    unfold dans
    rw [if_pos e2]
    decide
   obtain ⟨e, he⟩ : ∃ e, b.length = i + e := ⟨b.length - i, by omega⟩
   rw [he, best_dead hdead e (by omega)]
   exact ⟨rfl, rfl⟩
  ·rename_i hpos
   obtain ⟨z, hz⟩ : ∃ z : Nat, cellN D s c = z := ⟨(cellN D s c).toNat, by omega⟩
   have hans : ansP ps (b.take (i + 1)) = Ac.getD z (-1) := by
    rw [← h.ans _ (byt_take hb _)]
    unfold dans
    rw [hdr, hz, if_neg (by omega), Int.toNat_natCast]
   have ih := nx_best h hb r (i + 1) z hr'.symm (by omega) (by rw [hdr, hz]) (by omega)
   rw [hz, Int.toNat_natCast]
   split
   ·rename_i hac
    rw [best, if_pos (by rw [hans]; exact hac), hans] at ih
    exact ih
   ·rename_i hac
    rw [best, if_neg (by rw [hans]; exact hac)] at ih
    exact ih
theorem nx_look (D : List (List Int)) (Ac : List Int) : ∀ (r : List Nat) (s i : Nat) (rule : Int) (long : Nat), i + 1 ≤ (nx D Ac s i rule long r).2.2 ∧ (nx D Ac s i rule long r).2.2 ≤ i + r.length + 1 ∧ (long ≤ i → (nx D Ac s i rule long r).2.1 ≤ (nx D Ac s i rule long r).2.2)
 | [], s, i, rule, long => by rw [nx]; exact ⟨Nat.le_refl _, Nat.le_refl _, fun h => by show long ≤ i + 1; omega⟩
 | c :: r, s, i, rule, long => by
  rw [nx, List.length_cons]
  split
  ·exact ⟨Nat.le_refl _, by show i + 1 ≤ _; omega, fun h => by show long ≤ i + 1; omega⟩
  ·split
   ·have := nx_look D Ac r (cellN D s c).toNat (i + 1) (Ac.getD (cellN D s c).toNat (-1)) (i + 1)
    exact ⟨by omega, by omega, fun h => this.2.2 (Nat.le_refl _)⟩
   ·have := nx_look D Ac r (cellN D s c).toNat (i + 1) rule long
    exact ⟨by omega, by omega, fun h => this.2.2 (by omega)⟩
theorem nx_far (D : List (List Int)) (Ac : List Int) : ∀ (r r' : List Nat) (s i : Nat) (rule : Int) (long n : Nat), (nx D Ac s i rule long r).2.2 = i + n → n ≤ r.length → r'.take n = r.take n → nx D Ac s i rule long r' = nx D Ac s i rule long r
 | [], r', s, i, rule, long, n, h1, h2, h3 => by
  rw [nx] at h1
  have h1 : i + 1 = i + n := h1
  simp only [List.length_nil] at h2
  omega
 | c :: r, r', s, i, rule, long, n, h1, h2, h3 => by
  have hl := nx_look D Ac (c :: r) s i rule long
  obtain ⟨n', rfl⟩ : ∃ n', n = n' + 1 := ⟨n - 1, by omega⟩
  cases r' with
  | nil => simp at h3
  | cons c' r' =>
   rw [List.take_succ_cons, List.take_succ_cons] at h3
   injection h3 with h4 h5
   subst h4
   rw [nx] at h1 ⊢
   rw [nx]
   simp only [List.length_cons] at h2
   split
   ·rfl
   ·rename_i hneg
    rw [if_neg hneg] at h1
    split
    ·rename_i hac
     rw [if_pos hac] at h1
     exact nx_far D Ac r r' _ _ _ _ n' (by omega) (by omega) h5
    ·rename_i hac
     rw [if_neg hac] at h1
     exact nx_far D Ac r r' _ _ _ _ n' (by omega) (by omega) h5
end Go.Proofs.Ythklpecigkdkiaa.K
