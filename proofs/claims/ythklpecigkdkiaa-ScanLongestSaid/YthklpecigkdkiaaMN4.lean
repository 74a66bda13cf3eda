/-
 What the claim leans on, part 4: The document's walk: where nothing is to do. Conditions: none. The document's walk: a set. Conditions: none. The document's walk: one that is repeated. Conditions: none. The document's walk: parts behind each other, what is joined. Conditions: none. The document's walk: parts behind each other. Conditions: none. The document's walk: one of several. Conditions: none. The document's walk. Conditions: none. The document's number of places. Conditions: none. The document's depth of a pattern. Conditions: none. The document's Posits. Conditions: none. The document's automata: what is compared. Cond
-/
import Derived.Test.YthklpecigkdkiaaMN3
set_option linter.unusedSimpArgs false
set_option linter.unusedVariables false
namespace Go.Proofs.Ythklpecigkdkiaa.K
open Go Ev
set_option maxRecDepth 100000
set_option maxHeartbeats 4000000

theorem getN3 (x y z : MV) : Ev.getN (setN [x, y, z] 0 (ofL zP 0)) 3 0 = some [x, y, z] := getN_setN' rfl
theorem walk_no {Mb M : MH} {px : Nat} {x1 x2 x3 : MV} {st : Bs} {op a b c d : Int} {kv : MV} (hlo : Mb.lo ≤ Mb.n) (hds : Ds Mb M px x1 x2 x3 st) (hop : (op < 1 ∨ 6 < op) ∨ (2 ≤ op ∧ op ≤ 6 ∧ isSl kv = true ∧ slen kv = 0)) : Cp fns 32 [.p px 0, .ag [.i .i64 op, .i .u64 a, .i .u64 b, .i .u64 c, .i .u64 d, kv]] M (WkPost Mb px x1 x2 x3 (p0M, st) M) := by
 refine walk_in hlo hds fun f M1 t hW => ?_
 obtain ⟨hlo1, hlo2, c0, c14, c5⟩ := hW.cells hlo
 have n1 := hW.n
 have g3 := hW.g3
 have g4 := hW.g4
 have h0 := hW.h0
 have h3 := hW.h3
 have h4 := hW.h4
 have h4' := ev_get h4
 simp only [q0, q3, q4] at h0 h3 h4 h4'
 have ff : fillM [(0, 1, MV.b true)] [.b false, .nils, .nils] = some [.b true, .nils, .nils] := rfl
 have hz : hasB (ofL zP 0) 3 0 = true := rfl
 have hst : stOk 3 (.ag [.b true, .nils, .nils]) = true := rfl
 have hcl : MV.cells (.ag [.b true, .nils, .nils]) = [.b true, .nils, .nils] := rfl
 have fin : ∀ o, WkPost Mb px x1 x2 x3 (p0M, st) M (.ag [.b true, .nils, .nils]) (M1.set (M.n + 1) o) := fun o => by
  have hx := hW.ext.set o (show M.n ≤ M.n + 1 by omega)
  have e0 : bitsOf 0 150 = [] := by unfold bitsOf; simp
  exact ⟨.nils, .nils, rfl, by show NrAt _ _ _ (bitsOf 0 150); rw [e0]; exact .nil _ _, by show NrAt _ _ _ (bitsOf 0 150); rw [e0]; exact .nil _ _, hds.more hx, .of hx⟩
 unfold B32
 simp only [tl]
 rcases hop with hop | ⟨hop1, hop2, hs, hl⟩
 ·have d1 : decide (op = 1) = false := decide_eq_false (by omega)
  have d2 : decide (op = 2) = false := decide_eq_false (by omega)
  have d3 : decide (op = 3) = false := decide_eq_false (by omega)
  have d4 : decide (op = 4) = false := decide_eq_false (by omega)
  have d5 : decide (op = 5) = false := decide_eq_false (by omega)
  have d6 : decide (op = 6) = false := decide_eq_false (by omega)
  simp (disch := first | omega | assumption) only [↓bxD, bA, reduceCtorEq, h0, h3, h4, h4', g3, g4, c0, c5, ff, hz, hst, hcl, getN3, res_cN, cNV_p, cNo_cs, get_set, Option.map_some, d1, d2, d3, d4, d5, d6]
  show Wp fns K32_1 _ _ _
  unfold K32_1
  simp (disch := first | omega | assumption) only [↓bxD, bA, reduceCtorEq, h0, h3, h4, h4', g3, g4, c0, c5, ff, hz, hst, hcl, getN3, res_cN, cNV_p, cNo_cs, get_set, Option.map_some]
  show Wp fns K32_17 _ _ _
  unfold K32_17
  simp (disch := first | omega | assumption) only [↓bxD, bA, reduceCtorEq, h0, h3, h4, h4', g3, g4, c0, c5, ff, hz, hst, hcl, getN3, res_cN, cNV_p, cNo_cs, get_set, Option.map_some, d1, d2, d3, d4, d5, d6]
  show Wp fns K32_15 _ _ _
  unfold K32_15
  simp (disch := first | omega | assumption) only [↓bxD, bA, reduceCtorEq, h0, h3, h4, h4', g3, g4, c0, c5, ff, hz, hst, hcl, getN3, res_cN, cNV_p, cNo_cs, get_set, Option.map_some]
  show Wp fns K32_16 _ _ _
  unfold K32_16
  simp (disch := first | omega | assumption) only [↓bxD, bA, reduceCtorEq, h0, h3, h4, h4', g3, g4, c0, c5, ff, hz, hst, hcl, getN3, res_cN, cNV_p, cNo_cs, get_set, Option.map_some]
  exact fin _
 ·have hl0 : decide (((0 : Nat) : Int) = 0) = true := rfl
  have hop' : op = 2 ∨ op = 3 ∨ op = 4 ∨ op = 5 ∨ op = 6 := by omega
  rcases hop' with rfl | rfl | rfl | rfl | rfl
  ·have d1 : decide ((2 : Int) = 1) = false := rfl
   have d2 : decide ((2 : Int) = 2) = true := rfl
   have d3 : decide ((2 : Int) = 3) = false := rfl
   have d4 : decide ((2 : Int) = 4) = false := rfl
   have d5 : decide ((2 : Int) = 5) = false := rfl
   have d6 : decide ((2 : Int) = 6) = false := rfl
   simp (disch := first | omega | assumption) only [↓bxD, bA, reduceCtorEq, h0, h3, h4, h4', g3, g4, c0, c5, ff, hz, hst, hcl, getN3, res_cN, cNV_p, cNo_cs, get_set, Option.map_some, hs, hl, hl0, d1, d2, d3, d4, d5, d6]
   show Wp fns K32_1 _ _ _
   unfold K32_1
   simp (disch := first | omega | assumption) only [↓bxD, bA, reduceCtorEq, h0, h3, h4, h4', g3, g4, c0, c5, ff, hz, hst, hcl, getN3, res_cN, cNV_p, cNo_cs, get_set, Option.map_some, hs, hl, hl0]
   exact fin _
  ·have d1 : decide ((3 : Int) = 1) = false := rfl
   have d2 : decide ((3 : Int) = 2) = false := rfl
   have d3 : decide ((3 : Int) = 3) = true := rfl
   have d4 : decide ((3 : Int) = 4) = false := rfl
   have d5 : decide ((3 : Int) = 5) = false := rfl
   have d6 : decide ((3 : Int) = 6) = false := rfl
   simp (disch := first | omega | assumption) only [↓bxD, bA, reduceCtorEq, h0, h3, h4, h4', g3, g4, c0, c5, ff, hz, hst, hcl, getN3, res_cN, cNV_p, cNo_cs, get_set, Option.map_some, hs, hl, hl0, d1, d2, d3, d4, d5, d6]
   show Wp fns K32_1 _ _ _
   unfold K32_1
   simp (disch := first | omega | assumption) only [↓bxD, bA, reduceCtorEq, h0, h3, h4, h4', g3, g4, c0, c5, ff, hz, hst, hcl, getN3, res_cN, cNV_p, cNo_cs, get_set, Option.map_some, hs, hl, hl0]
   exact fin _
  ·have d1 : decide ((4 : Int) = 1) = false := rfl
   have d2 : decide ((4 : Int) = 2) = false := rfl
   have d3 : decide ((4 : Int) = 3) = false := rfl
   have d4 : decide ((4 : Int) = 4) = true := rfl
   have d5 : decide ((4 : Int) = 5) = false := rfl
   have d6 : decide ((4 : Int) = 6) = false := rfl
   simp (disch := first | omega | assumption) only [↓bxD, bA, reduceCtorEq, h0, h3, h4, h4', g3, g4, c0, c5, ff, hz, hst, hcl, getN3, res_cN, cNV_p, cNo_cs, get_set, Option.map_some, hs, hl, hl0, d1, d2, d3, d4, d5, d6]
   show Wp fns K32_1 _ _ _
   unfold K32_1
   simp (disch := first | omega | assumption) only [↓bxD, bA, reduceCtorEq, h0, h3, h4, h4', g3, g4, c0, c5, ff, hz, hst, hcl, getN3, res_cN, cNV_p, cNo_cs, get_set, Option.map_some, hs, hl, hl0]
   show Wp fns K32_17 _ _ _
   unfold K32_17
   simp (disch := first | omega | assumption) only [↓bxD, bA, reduceCtorEq, h0, h3, h4, h4', g3, g4, c0, c5, ff, hz, hst, hcl, getN3, res_cN, cNV_p, cNo_cs, get_set, Option.map_some, d1, d2, d3, d4, d5, d6]
   show Wp fns K32_15 _ _ _
   unfold K32_15
   simp (disch := first | omega | assumption) only [↓bxD, bA, reduceCtorEq, h0, h3, h4, h4', g3, g4, c0, c5, ff, hz, hst, hcl, getN3, res_cN, cNV_p, cNo_cs, get_set, Option.map_some, hs, hl, hl0]
   exact fin _
  ·have d1 : decide ((5 : Int) = 1) = false := rfl
   have d2 : decide ((5 : Int) = 2) = false := rfl
   have d3 : decide ((5 : Int) = 3) = false := rfl
   have d4 : decide ((5 : Int) = 4) = false := rfl
   have d5 : decide ((5 : Int) = 5) = true := rfl
   have d6 : decide ((5 : Int) = 6) = false := rfl
   simp (disch := first | omega | assumption) only [↓bxD, bA, reduceCtorEq, h0, h3, h4, h4', g3, g4, c0, c5, ff, hz, hst, hcl, getN3, res_cN, cNV_p, cNo_cs, get_set, Option.map_some, hs, hl, hl0, d1, d2, d3, d4, d5, d6]
   show Wp fns K32_1 _ _ _
   unfold K32_1
   simp (disch := first | omega | assumption) only [↓bxD, bA, reduceCtorEq, h0, h3, h4, h4', g3, g4, c0, c5, ff, hz, hst, hcl, getN3, res_cN, cNV_p, cNo_cs, get_set, Option.map_some, hs, hl, hl0]
   show Wp fns K32_17 _ _ _
   unfold K32_17
   simp (disch := first | omega | assumption) only [↓bxD, bA, reduceCtorEq, h0, h3, h4, h4', g3, g4, c0, c5, ff, hz, hst, hcl, getN3, res_cN, cNV_p, cNo_cs, get_set, Option.map_some, d1, d2, d3, d4, d5, d6]
   show Wp fns K32_15 _ _ _
   unfold K32_15
   simp (disch := first | omega | assumption) only [↓bxD, bA, reduceCtorEq, h0, h3, h4, h4', g3, g4, c0, c5, ff, hz, hst, hcl, getN3, res_cN, cNV_p, cNo_cs, get_set, Option.map_some, hs, hl, hl0]
   exact fin _
  ·have d1 : decide ((6 : Int) = 1) = false := rfl
   have d2 : decide ((6 : Int) = 2) = false := rfl
   have d3 : decide ((6 : Int) = 3) = false := rfl
   have d4 : decide ((6 : Int) = 4) = false := rfl
   have d5 : decide ((6 : Int) = 5) = false := rfl
   have d6 : decide ((6 : Int) = 6) = true := rfl
   simp (disch := first | omega | assumption) only [↓bxD, bA, reduceCtorEq, h0, h3, h4, h4', g3, g4, c0, c5, ff, hz, hst, hcl, getN3, res_cN, cNV_p, cNo_cs, get_set, Option.map_some, hs, hl, hl0, d1, d2, d3, d4, d5, d6]
   show Wp fns K32_1 _ _ _
   unfold K32_1
   simp (disch := first | omega | assumption) only [↓bxD, bA, reduceCtorEq, h0, h3, h4, h4', g3, g4, c0, c5, ff, hz, hst, hcl, getN3, res_cN, cNV_p, cNo_cs, get_set, Option.map_some, hs, hl, hl0]
   show Wp fns K32_17 _ _ _
   unfold K32_17
   simp (disch := first | omega | assumption) only [↓bxD, bA, reduceCtorEq, h0, h3, h4, h4', g3, g4, c0, c5, ff, hz, hst, hcl, getN3, res_cN, cNV_p, cNo_cs, get_set, Option.map_some, d1, d2, d3, d4, d5, d6]
   show Wp fns K32_15 _ _ _
   unfold K32_15
   simp (disch := first | omega | assumption) only [↓bxD, bA, reduceCtorEq, h0, h3, h4, h4', g3, g4, c0, c5, ff, hz, hst, hcl, getN3, res_cN, cNV_p, cNo_cs, get_set, Option.map_some, hs, hl, hl0]
   exact fin _
theorem bits_pow {n : Nat} (h : n < 150) : bitsOf (2 ^ n) 150 = [n] := by
 unfold bitsOf
 refine asc_eq (List.Pairwise.filter _ List.pairwise_lt_range) (List.pairwise_singleton _ _) fun j => ?_
 simp only [List.mem_filter, List.mem_range, Nat.testBit_two_pow, decide_eq_true_eq, List.mem_cons, List.not_mem_nil, or_false]
 omega
theorem walk_set {Mb M : MH} {px : Nat} {x1 x2 x3 : MV} {st : Bs} {a b c d : Int} {kv : MV} (hlo : Mb.lo ≤ Mb.n) (hds : Ds Mb M px x1 x2 x3 st) (hb : st.sets.length < 150) : Cp fns 32 [.p px 0, .ag [.i .i64 1, .i .u64 a, .i .u64 b, .i .u64 c, .i .u64 d, kv]] M (WkPost Mb px x1 x2 x3 (placeM (st4 a b c d) st) M) := by
 refine walk_in hlo hds fun f M1 t hW => ?_
 obtain ⟨hlo1, hlo2, c0, c14, c5⟩ := hW.cells hlo
 have n1 := hW.n
 have lM := hW.ext.lo
 have g3 := hW.g3
 have g4 := hW.g4
 have h0 := hW.h0
 have h3 := hW.h3
 have h4 := hW.h4
 have h4' := ev_get h4
 have hbn := hW.bn
 simp only [q0, q3, q4] at h0 h3 h4 h4'
 obtain ⟨cb, sv, fv, fs, hO⟩ := hW.ds
 have hbl := hO.bl
 have pxn : px < M.n := hds.bl.2.1
 have en := hO.ext.n
 have el := hO.ext.lo
 have g := hO.g
 have k0 : cget cb 0 = some sv := hO.at_ 0 _ rfl
 have k4 : cget cb 4 = some fv := hO.at_ 4 _ rfl
 obtain ⟨r1, r2⟩ := hO.rs.row.sl
 have hb1 : hasB cb 1 0 = true := has_at hO.at_ (by omega) (by simp)
 have hb2 : hasB cb 1 4 = true := has_at hO.at_ (by omega) (by simp)
 have d1 : decide ((1 : Int) = 1) = true := rfl
 have ff : fillM [(0, 4, .ag (st4 a b c d))] (zrow [.i .u64 0, .i .u64 0, .i .u64 0, .i .u64 0] 1) = some (st4 a b c d) := rfl
 have ff' : fillM [(0, 4, .ag (st4 a b c d))] [.i .u64 0, .i .u64 0, .i .u64 0, .i .u64 0] = some (st4 a b c d) := rfl
 have hpl : ∀ m o, pushV M1.lift m o = some (m, M1.lift.push o) := fun m o => push_ok (Nat.le_refl _)
 unfold B32
 simp only [tl]
 simp (maxSteps := 4000000) (disch := first | omega | assumption | (simp only [bxS, bxV, stOk, Nat.reduceBEq, Nat.reduceEqDiff, Nat.reduceAdd]; done) | (simp only [bxU]; omega) | ((try apply has_setN); apply has_ofL; simp only [bxL]; omega)) only [↓bxD, bxP, bxQ, bxQ2, Nat.reduceBEq, reduceCtorEq, Nat.reduceAdd, Nat.reduceSub, Nat.reduceMul, Nat.reduceLeDiff, Nat.reduceLT, bxR, h0, h3, h4, h4', g3, g4, g, c0, c14, k0, k4, r1, r2, d1, nck_p, Option.map_some]
 refine Wp_dreg_of (by omega) ?_
 simp (maxSteps := 4000000) (disch := first | omega | assumption | (simp only [bxS, bxV, stOk, Nat.reduceBEq, Nat.reduceEqDiff, Nat.reduceAdd]; done) | (simp only [bxU]; omega) | ((try apply has_setN); apply has_ofL; simp only [bxL]; omega)) only [↓bxD, bxP, bxQ, bxQ2, Nat.reduceBEq, reduceCtorEq, Nat.reduceAdd, Nat.reduceSub, Nat.reduceMul, Nat.reduceLeDiff, Nat.reduceLT, bxR, h0, h3, h4, h4', g3, g4, g, c0, c14, k0, k4, r1, r2, d1, nck_p, Option.map_some, ff, ff', bslW_some, hpl]
 generalize hM3 : MH.down _ _ = M3
 have t3 : RowAt M3 4 (.sl M1.n 0 1 0) [st4 a b c d] := by rw [← hM3]; exact (row_one (M := M1.lift) rfl).sub (.down _ _)
 have y3 : Ext M1 M3 := by rw [← hM3]; exact Sub.ext (((Sub.lift M1).trans (Ext.push M1.lift _).sub).trans (.down _ _)) rfl
 have n3 : M3.n = M1.n + 1 := by rw [← hM3]; rfl
 have l3 := y3.lo
 clear hM3
 have hO3 := hO.more y3
 obtain ⟨sv', M4, a1, a2, a3, a4, a5, a6, a7⟩ := app_rowX (bytes := 32) hO3.rs t3 (by omega) (by omega) (fun e he => by
  simp only [List.mem_cons, List.not_mem_nil, or_false] at he
  subst he; rfl) (by simp only [List.length_cons, List.length_nil]; omega) (by simp only [List.length_cons, List.length_nil]; omega)
 obtain ⟨nn, rfl⟩ := a7 (by simp)
 have other : ∀ j sz cc, j < M3.n → sz ≠ 4 → M3.get j = some (.cs false sz cc) → M4.get j = some (.cs false sz cc) := fun j sz cc hj hz e => by
  rw [a5 j (by omega) fun a n d f e2 e4 => by
   obtain ⟨c5, q1, q2, q3⟩ := own_id hO3.rs e2
   rw [e4, e] at q1; cases q1; exact hz rfl]
  exact e
 have g4m := other px 5 cb (by omega) (by omega) hO3.g
 refine bindP_of a1 ?_
 simp (maxSteps := 4000000) (disch := first | omega | assumption | (simp only [bxS, bxV, stOk, Nat.reduceBEq, Nat.reduceEqDiff, Nat.reduceAdd]; done) | (simp only [bxU]; omega) | ((try apply has_setN); apply has_ofL; simp only [bxL]; omega)) only [↓bxD, bxP, bxQ, bxQ2, Nat.reduceBEq, reduceCtorEq, Nat.reduceAdd, Nat.reduceSub, Nat.reduceMul, Nat.reduceLeDiff, Nat.reduceLT, bxR, h0, h3, h4, h4', g3, g4, g, c0, c14, k0, k4, r1, r2, d1, nck_p, Option.map_some, g4m, cells_sl, hb1]
 generalize hM5 : MH.set _ _ _ = M5
 have x5 : Chg (fun j => j = px) M4 M5 := by rw [← hM5]; exact (Chg.refl (fun j => j = px) M4).set _ (.inl rfl)
 have g5 : M5.get px = some (.cs false 5 (setN [.sl M3.n 0 nn 0] 0 cb)) := by rw [← hM5]; exact set_same _ _
 have n5 : M5.n = M4.n := by rw [← hM5]; rfl
 have l5 := x5.lo
 clear hM5
 have at5 : At (setN [.sl M3.n 0 nn 0] 0 cb) 0 [.sl M3.n 0 nn 0, x1, x2, x3, fv] := hO.at_.set' 0 _ (by simp) rfl
 have k4' : cget (setN [.sl M3.n 0 nn 0] 0 cb) 4 = some fv := at5 4 _ rfl
 have f3n : ∀ j sz cc, j < M3.n → sz ≠ 4 → sz ≠ 5 → M3.get j = some (.cs false sz cc) → M5.get j = some (.cs false sz cc) := fun j sz cc hj hz hz5 e => by
  rw [x5.old j (by omega) (fun e2 => by rw [e2, hO3.g] at e; cases e; exact hz5 rfl)]
  exact other j sz cc hj hz e
 have F35 : FrW M3 M5 := ⟨by omega, by omega, fun j sz cc hj e q => f3n j sz cc hj (by omega) (by omega) e⟩
 have rf5 : OwnRow Mb.n M5 1 fv (lv fs) := hO3.rf.keep (by omega) fun a n d e e2 => by
  obtain ⟨cc, q1, q2, q3⟩ := own_id hO3.rf e2
  rw [f3n a 1 cc q3 (by omega) (by omega) q1, q1]
 have rs5 : OwnRow Mb.n M5 4 (.sl M3.n 0 nn 0) (st.sets ++ [st4 a b c d]) := a2.keep (by omega) fun a n d e e2 => by
  obtain ⟨cc, q1, q2, q3⟩ := own_id a2 e2
  exact x5.old a q3 fun e3 => by rw [e3, g4m] at q1; cases q1
 have ex5 : Ext Mb M5 := ⟨by omega, by omega, fun j hj => by
  rw [x5.old j (by omega) (by omega), a6 j hj (by omega), y3.old j (by omega)]; exact hO.ext.old j hj⟩
 have f2' : fillM [(0, 1, MV.nils)] [.nils] = some [.nils] := rfl
 have f2 : fillM [(0, 1, MV.nils)] (zrow [.nils] 1) = some [.nils] := rfl
 have t45 := f3n (M.n + 1) 3 _ (by omega) (by omega) (by omega) ((y3.old (M.n + 1) (by omega)).trans g4)
 show Wp fns K32_0 _ _ _
 unfold K32_0
 simp (maxSteps := 4000000) (disch := first | omega | assumption | (simp only [bxS, bxV, stOk, Nat.reduceBEq, Nat.reduceEqDiff, Nat.reduceAdd]; done) | (simp only [bxU]; omega) | ((try apply has_setN); apply has_ofL; simp only [bxL]; omega)) only [↓bxD, bxP, bxQ, bxQ2, Nat.reduceBEq, reduceCtorEq, Nat.reduceAdd, Nat.reduceSub, Nat.reduceMul, Nat.reduceLeDiff, Nat.reduceLT, bxR, h0, h3, h4, h4', g3, g4, g, c0, c14, k0, k4, r1, r2, d1, nck_p, Option.map_some, g5, k4', f2, f2', bslW_some]
 generalize hM6 : M5.push _ = M6
 have t6 : RowAt M6 1 (.sl M5.n 0 1 0) [[.nils]] := by rw [← hM6]; exact row_one rfl
 have x6 : Ext M5 M6 := by rw [← hM6]; exact .push _ _
 have n6 : M6.n = M5.n + 1 := by rw [← hM6]; rfl
 have l6 := x6.lo
 clear hM6
 have hfl := hO.fl
 have hsl := hO.len
 have hlvl : (lv fs).length = fs.length := by unfold lv; rw [List.length_map]
 obtain ⟨fv', M7, b1, b2, b3, b4, b5, b6, b7⟩ := app_rowX (bytes := 24) (rf5.ext x6) t6 (by omega) (by omega) (fun e he => by
  simp only [List.mem_cons, List.not_mem_nil, or_false] at he
  subst he; rfl) (by simp only [List.length_cons, List.length_nil]; omega) (by simp only [List.length_cons, List.length_nil]; omega)
 obtain ⟨nf, rfl⟩ := b7 (by simp)
 have oth7 : ∀ j o, j < M5.n → (∀ a n d e, fv = .sl a n d e → a ≠ j) → M5.get j = some o → M7.get j = some o := fun j o hj hz e => by
  rw [b5 j (by omega) hz, x6.old j hj]; exact e
 have hfvA : ∀ a n d e, fv = .sl a n d e → ∃ cc, M5.get a = some (.cs false 1 cc) ∧ ¬ isNum cc ∧ Mb.n ≤ a ∧ a < M1.n := fun a n d e e2 => by
  obtain ⟨cc, q1, q2, q3, q4⟩ := hO.nn e2
  exact ⟨cc, f3n a 1 cc (by omega) (by omega) (by omega) ((y3.old a q4).trans q1), q2, q3, q4⟩
 have g7 := oth7 px _ (by omega) (fun a n d e e2 e3 => by
  obtain ⟨cc, q1, q2⟩ := hfvA a n d e e2
  rw [e3, g5] at q1; cases q1) g5
 have t47 := oth7 (M.n + 1) _ (by omega) (fun a n d e e2 e3 => by
  obtain ⟨cc, q1, q2⟩ := hfvA a n d e e2
  rw [e3, t45] at q1; cases q1) t45
 have F57 : FrW M5 M7 := ⟨by omega, by omega, fun j sz cc hj e q => oth7 j _ hj (fun a n d f e2 e3 => by
  obtain ⟨cc', q1, q2, _⟩ := hfvA a n d f e2
  rw [e3, e] at q1
  cases q1
  rcases q with q | q | q
  ·cases q
  ·cases q
  ·exact q2 q.2) e⟩
 have hb3 : hasB (setN [.sl M3.n 0 nn 0] 0 cb) 1 4 = true := has_setN _ _ _ _ hb2
 have hbn : ∀ z : Nat, fillM [(0, 1, MV.i .i64 (z : Int))] [.i .i64 0] = some [.i .i64 (z : Int)] := fun _ => rfl
 have hbn' : ∀ z : Nat, fillM [(0, 1, MV.i .i64 (z : Int))] (zrow [.i .i64 0] 1) = some [.i .i64 (z : Int)] := fun _ => rfl
 have f3 : ∀ a b : Nat, fillM [(1, 1, MV.sl a 0 1 0), (2, 1, MV.sl b 0 1 0)] [.b false, .nils, .nils] = some [.b false, .sl a 0 1 0, .sl b 0 1 0] := fun _ _ => rfl
 refine bindP_of b1 ?_
 simp (maxSteps := 4000000) (disch := first | omega | assumption | (simp only [bxS, bxV, stOk, Nat.reduceBEq, Nat.reduceEqDiff, Nat.reduceAdd]; done) | (simp only [bxU]; omega) | ((try apply has_setN); apply has_ofL; simp only [bxL]; omega)) only [↓bxD, bxP, bxQ, bxQ2, Nat.reduceBEq, reduceCtorEq, Nat.reduceAdd, Nat.reduceSub, Nat.reduceMul, Nat.reduceLeDiff, Nat.reduceLT, bxR, h0, h3, h4, h4', g3, g4, g, c0, c14, k0, k4, r1, r2, d1, nck_p, Option.map_some, g7, t47, cells_sl, hb3, hbn, hbn', bslW_some]
 generalize hM8 : M7.set px _ = M8
 generalize hM9 : M8.push _ = M9
 generalize hM10 : M9.push _ = M10
 have x8 : Chg (fun j => j = px) M7 M8 := by rw [← hM8]; exact (Chg.refl (fun j => j = px) M7).set _ (.inl rfl)
 have g8 : M8.get px = some (.cs false 5 (setN [.sl M6.n 0 nf 0] 4 (setN [.sl M3.n 0 nn 0] 0 cb))) := by rw [← hM8]; exact set_same _ _
 have n8 : M8.n = M7.n := by rw [← hM8]; rfl
 have l8 := x8.lo
 have x9 : Ext M8 M9 := by rw [← hM9]; exact .push _ _
 have n9 : M9.n = M8.n + 1 := by rw [← hM9]; rfl
 have l9 := x9.lo
 have x10 : Ext M9 M10 := by rw [← hM10]; exact .push _ _
 have n10 : M10.n = M9.n + 1 := by rw [← hM10]; rfl
 have l10 := x10.lo
 have o9 : OwnRow Mb.n M9 1 (.sl M8.n 0 1 0) (nv [st.sets.length]) := by
  rw [← hM9]; exact ⟨fun e he => (by rw [List.mem_singleton.1 he]; rfl), .inr ⟨M8.n, _, rfl, push_new _, by omega, Nat.lt_succ_self _, at_ofL _⟩⟩
 have o10 : OwnRow Mb.n M10 1 (.sl M9.n 0 1 0) (nv [st.sets.length]) := by
  rw [← hM10]; exact ⟨fun e he => (by rw [List.mem_singleton.1 he]; rfl), .inr ⟨M9.n, _, rfl, push_new _, by omega, Nat.lt_succ_self _, at_ofL _⟩⟩
 have e810 : Ext M8 M10 := x9.trans x10
 have t48 : M8.get (M.n + 1) = some (.cs false 3 (ofL zP 0)) := (x8.old _ (by omega) (by omega)).trans t47
 have t410 := (e810.old (M.n + 1) (by omega)).trans t48
 rw [n8] at o9 n9
 clear hM8 hM9 hM10
 have hzz : hasB (ofL zP 0) 3 0 = true := rfl
 have hst : ∀ a b : Nat, stOk 3 (.ag [.b false, .sl a 0 1 0, .sl b 0 1 0]) = true := fun _ _ => rfl
 have hcl : ∀ a b : Nat, MV.cells (.ag [.b false, .sl a 0 1 0, .sl b 0 1 0]) = [.b false, .sl a 0 1 0, .sl b 0 1 0] := fun _ _ => rfl
 simp (maxSteps := 4000000) (disch := first | omega | assumption | (simp only [bxS, bxV, stOk, Nat.reduceBEq, Nat.reduceEqDiff, Nat.reduceAdd]; done) | (simp only [bxU]; omega) | ((try apply has_setN); apply has_ofL; simp only [bxL]; omega)) only [↓bxD, bxP, bxQ, bxQ2, Nat.reduceBEq, reduceCtorEq, Nat.reduceAdd, Nat.reduceSub, Nat.reduceMul, Nat.reduceLeDiff, Nat.reduceLT, bxR, h0, h3, h4, h4', g3, g4, g, c0, c14, k0, k4, r1, r2, d1, nck_p, Option.map_some, f3, t410, hzz, hst, hcl, getN3, res_cN, cNV_p, cNo_cs, get_set]
 generalize hM11 : MH.set _ _ _ = M11
 have x11 : Chg (fun j => j = M.n + 1) M10 M11 := by rw [← hM11]; exact (Chg.refl (fun j => j = M.n + 1) M10).set _ (.inl rfl)
 have n11 : M11.n = M10.n := by rw [← hM11]; rfl
 have l11 := x11.lo
 clear hM11
 have F78 : FrW M7 M8 := ⟨by omega, by omega, fun j sz cc hj e q => (x8.old j hj (fun e2 => by
  rw [e2, g7] at e
  cases e
  rcases q with q | q | q
  ·cases q
  ·cases q
  ·cases q.1)).trans e⟩
 have F3 : FrW M3 M10 := (F35.trans F57).trans (F78.trans (.of e810))
 have F0 : FrW M M10 := (FrW.of (hW.ext.trans y3)).trans F3
 have s11 : ∀ j sz cc, j < M10.n → sz ≠ 3 → M10.get j = some (.cs false sz cc) → M11.get j = some (.cs false sz cc) := fun j sz cc hj hz e => (x11.old j hj (fun e2 => by
  rw [e2, t410] at e; cases e; exact hz rfl)).trans e
 have own11 : ∀ sz v es, sz ≠ 3 → OwnRow Mb.n M10 sz v es → OwnRow Mb.n M11 sz v es := fun sz v es hz h => h.keep (by omega) fun a n d e e2 => by
  obtain ⟨cc, q1, q2, q3⟩ := own_id h e2
  rw [s11 a sz cc q3 hz q1, q1]
 have own78 : ∀ sz v es, sz ≠ 5 → OwnRow Mb.n M7 sz v es → OwnRow Mb.n M8 sz v es := fun sz v es hz h => h.keep (by omega) fun a n d e e2 => by
  obtain ⟨cc, q1, q2, q3⟩ := own_id h e2
  exact x8.old a q3 fun e3 => by rw [e3, g7] at q1; cases q1; exact hz rfl
 have nr11 : ∀ v l, NrAt Mb.n M10 v l → NrAt Mb.n M11 v l := fun v l h => ⟨h.1, own11 1 v _ (by omega) h.2⟩
 have at7 : At (setN [.sl M6.n 0 nf 0] 4 (setN [.sl M3.n 0 nn 0] 0 cb)) 0 [.sl M3.n 0 nn 0, x1, x2, x3, .sl M6.n 0 nf 0] := at5.set' 4 _ (by simp) rfl
 refine ⟨_, _, rfl, ?_, ?_, ⟨_, _, _, fs ++ [.nils], ⟨⟨by omega, by omega, fun j hj => ?_⟩, ?_, ⟨hbl.1, by omega⟩, at7, ?_, ?_, ?_, ?_, ?_, ?_⟩⟩, ⟨by omega, by omega, fun j sz cc hj e q => ?_⟩⟩
 ·show NrAt _ _ _ (bitsOf (2 ^ st.sets.length) 150)
  rw [bits_pow hb]
  exact ⟨fun e => (by cases e), own11 1 _ _ (by omega) (o9.ext x10)⟩
 ·show NrAt _ _ _ (bitsOf (2 ^ st.sets.length) 150)
  rw [bits_pow hb]
  have o10' := own11 1 _ _ (by omega) o10
  rw [n9] at o10'
  exact ⟨fun e => (by cases e), o10'⟩
 ·rw [x11.old j (by omega) (by omega), e810.old j (by omega), x8.old j (by omega) (by omega), b6 j hj (by omega), x6.old j (by omega)]
  exact ex5.old j hj
 ·exact (x11.old px (by omega) (by omega)).trans ((e810.old px (by omega)).trans g8)
 ·refine own11 4 _ _ (by omega) ((own78 4 _ _ (by omega) ?_).ext e810)
  exact rs5.keep (by omega) fun a n d e e2 => by
   obtain ⟨cc, q1, q2, q3⟩ := own_id rs5 e2
   rw [oth7 a _ q3 (fun a2 n2 d2 e2' e3 e4 => by
    obtain ⟨cc', w1, w2⟩ := hfvA a2 n2 d2 e2' e3
    rw [e4, q1] at w1; cases w1) q1, q1]
 ·refine own11 1 _ _ (by omega) ((own78 1 _ _ (by omega) ?_).ext e810)
  unfold lv at b2 ⊢
  rw [List.map_append]
  exact b2
 ·show _ = (st.fol ++ [0]).length
  rw [List.length_append, List.length_append, hfl]; rfl
 ·intro e; simp at e
 ·intro i v A h1 h2
  have h2 : (st.fol ++ [0])[i]? = some A := h2
  refine nr11 _ _ ?_
  by_cases hi : i < fs.length
  ·rw [List.getElem?_append_left hi] at h1
   rw [List.getElem?_append_left (by omega)] at h2
   exact (hO3.fo i v A h1 h2).fr F3
  ·rw [List.getElem?_append_right (by omega)] at h1 h2
   have hi2 : i = fs.length := by
    have := (List.getElem?_eq_some_iff.1 h1).1
    simp only [List.length_cons, List.length_nil] at this
    omega
   rw [hi2, Nat.sub_self] at h1
   rw [show i - st.fol.length = 0 by omega] at h2
   cases h1; cases h2
   rw [show bitsOf 0 150 = [] from by unfold bitsOf; simp]
   exact .nil _ _
 ·show (st.fol ++ [0]).length = (st.sets ++ [_]).length
  rw [List.length_append, List.length_append, hsl]; rfl
 ·rw [x11.old j (by have := F0.n; omega) (by omega)]
  exact F0.old j sz cc hj e q
def WkIH (Mb : MH) (px : Nat) (x1 x2 x3 : MV) (y : Rx) : Prop := ∀ (M : MH) (st : Bs) (v : MV), Ds Mb M px x1 x2 x3 st → XAt Mb v y → st.sets.length + cnt y ≤ 150 → Cp fns 32 [.p px 0, v] M (WkPost Mb px x1 x2 x3 (partM y st) M)
theorem NrAt.chg3 {lo : Nat} {M M' : MH} {S : Nat → Prop} {v : MV} {l : List Nat} (h : NrAt lo M v l) (hC : Chg S M M') (hS : ∀ j, S j → ∃ c, M.get j = some (.cs false 3 c)) : NrAt lo M' v l := ⟨h.1, h.2.keep hC.n fun a n d e e2 => by
 obtain ⟨cc, q1, q2, q3⟩ := own_id h.2 e2
 refine hC.old a q3 fun hs => ?_
 obtain ⟨c, hc⟩ := hS a hs
 rw [hc] at q1; cases q1⟩
theorem Ds.chg3 {Mb M M' : MH} {S : Nat → Prop} {px : Nat} {x1 x2 x3 : MV} {b : Bs} (h : Ds Mb M px x1 x2 x3 b) (hC : Chg S M M') (hS : ∀ j, S j → Mb.n ≤ j ∧ ∃ c, M.get j = some (.cs false 3 c)) : Ds Mb M' px x1 x2 x3 b := by
 obtain ⟨c, sv, fv, fs, h⟩ := h
 have en := h.ext.n
 have el := h.ext.lo
 have cn := hC.n
 have cl := hC.lo
 have hbl := h.bl
 have ow : ∀ sz v es, sz ≠ 3 → OwnRow Mb.n M sz v es → OwnRow Mb.n M' sz v es := fun sz v es hz h => h.keep cn fun a n d e e2 => by
  obtain ⟨cc, q1, q2, q3⟩ := own_id h e2
  refine hC.old a q3 fun hs => ?_
  obtain ⟨_, c, hc⟩ := hS a hs
  rw [hc] at q1; cases q1; exact hz rfl
 refine ⟨c, sv, fv, fs, ⟨by omega, by omega, fun j hj => ?_⟩, ?_, ⟨hbl.1, by omega⟩, h.at_, ow 4 _ _ (by omega) h.rs, ow 1 _ _ (by omega) h.rf, h.fl, h.fz, fun i v A h1 h2 => (h.fo i v A h1 h2).chg3 hC fun j hj => (hS j hj).2, h.len⟩
 ·rw [hC.old j (by omega) fun hs => by have := (hS j hs).1; omega]
  exact h.ext.old j hj
 ·rw [hC.old px hbl.2 fun hs => by
   obtain ⟨_, c, hc⟩ := hS px hs
   rw [h.g] at hc; cases hc]
  exact h.g
theorem walk_fin {Mb M M4 M6 : MH} {S : Nat → Prop} {px : Nat} {x1 x2 x3 fv lv : MV} {q : Pm × Bs} (hC : Chg S M4 M6) (hS : ∀ j, S j → M.n ≤ j ∧ ∃ c, M4.get j = some (.cs false 3 c)) (hbn : Mb.n ≤ M.n) (hF : FrW M M4) (hds : Ds Mb M4 px x1 x2 x3 q.2) (hf : NrAt Mb.n M4 fv (bitsOf q.1.fi 150)) (hl : NrAt Mb.n M4 lv (bitsOf q.1.la 150)) : WkPost Mb px x1 x2 x3 q M (.ag [.b q.1.null, fv, lv]) M6 :=
 ⟨fv, lv, rfl, hf.chg3 hC fun j hj => (hS j hj).2, hl.chg3 hC fun j hj => (hS j hj).2, hds.chg3 hC fun j hj => ⟨Nat.le_trans hbn (hS j hj).1, (hS j hj).2⟩, ⟨Nat.le_trans hF.n hC.n, hC.lo.trans hF.lo, fun j sz c hj e k => by
  rw [hC.old j (Nat.lt_of_lt_of_le hj hF.n) fun hs => by have := (hS j hs).1; omega]
  exact hF.old j sz c hj e k⟩⟩
theorem walk_rep {Mb M : MH} {px : Nat} {x1 x2 x3 : MV} {st : Bs} {op a b c d : Int} {k : Rx} {kr : List Rx} {v : MV} (hlo : Mb.lo ≤ Mb.n) (hI : WkIH Mb px x1 x2 x3 k) (hds : Ds Mb M px x1 x2 x3 st) (hX : XAt Mb v (.mk op a b c d (k :: kr))) (hop : op = 4 ∨ op = 5 ∨ op = 6) (hc : st.sets.length + cnt k ≤ 150) : Cp fns 32 [.p px 0, v] M (WkPost Mb px x1 x2 x3 (repP op (partM k st)) M) := by
 obtain ⟨kv, rfl, k1, k2, k3⟩ := hX
 refine walk_in hlo hds fun f M1 t hW => ?_
 obtain ⟨hlo1, hlo2, c0, c14, c5⟩ := hW.cells hlo
 have n1 := hW.n
 have lM := hW.ext.lo
 have g3 := hW.g3
 have g4 := hW.g4
 have h0 := hW.h0
 have h3 := hW.h3
 have h4 := hW.h4
 have h4' := ev_get h4
 have hbn := hW.bn
 simp only [q0, q3, q4] at h0 h3 h4 h4'
 have d1 : decide (op = 1) = false := decide_eq_false (by omega)
 have d2 : decide (op = 2) = false := decide_eq_false (by omega)
 have d3 : decide (op = 3) = false := decide_eq_false (by omega)
 have k2' : slen kv = kr.length + 1 := k2
 have dl : decide (((kr.length + 1 : Nat) : Int) = 0) = false := decide_eq_false (by omega)
 have dl' : decide ((kr.length : Int) + 1 = 0) = false := decide_eq_false (by omega)
 have hix : ixV 6 kv (.i .i64 0) = some (.p (sid kv) (soff kv)) := by have := ix_sl (s := 6) (k := .i64) (i := 0) k1 (by rw [k2]; exact Nat.zero_lt_succ _); simpa using this
 have hk := k3
 rw [NodesAt] at hk
 obtain ⟨tk, vk, gk, nk, xk⟩ := NodeAt.xat hk.1
 have gk1 : M1.get (sid kv) = some (.cs false 6 tk) := by
  obtain ⟨cc, sv, fv, fs, hO⟩ := hW.ds
  exact (hO.ext.old _ (NodeAt.rw hk.1).2).trans gk
 have hpn : px < M.n := hds.bl.2.1
 have rest : ∀ f, X.ev f (.t q0) = .p px 0 → X.ev f (.t q3) = .p M.n 0 → f.get q4 = some (.p (M.n + 1) 0) → X.ev f (.t q148) = .b true → Wp fns K32_15 f M1 (blockQ 1 (thenQ fns K32_16 (retQ F32 (WkPost Mb px x1 x2 x3 (repP op (partM k st)) M)))) := by
  intro f h0 h3 h4 h148
  have h4' := ev_get h4
  simp only [q0, q3, q4, q148] at h0 h3 h4 h4' h148
  unfold K32_15
  simp (disch := first | omega | assumption) only [↓bxD, bA, reduceCtorEq, h0, h3, h4, h4', h148, g3, c5, k1, k2', nck_p, Option.map_some, dl, dl']
  show Wp fns K32_14 _ _ _
  unfold K32_14
  simp (disch := first | omega | assumption) only [↓bxD, bA, reduceCtorEq, h0, h3, h4, h4', h148, g3, c5, k1, k2', nck_p, Option.map_some, hix, gk1, nk]
  refine bindP_call (hI M1 st vk hW.ds xk hc) ?_
  have hlen : (partM k st).2.sets.length ≤ 150 := by rw [partM_len]; exact hc
  have hin := partM_in k st
  generalize partM k st = q at hlen hin ⊢
  rintro m M2 ⟨fv, lv, rfl, hf, hl, hD2, hF2⟩
  have n2 := hF2.n
  have l2 := hF2.lo
  have b2 := hD2.bl
  have hst : ∀ n : Bool, stOk 3 (.ag [.b n, fv, lv]) = true := fun n => by
   obtain ⟨_, _, ⟨e1, _⟩ | ⟨_, _, e1, _⟩⟩ := hf <;> obtain ⟨_, _, ⟨e2, _⟩ | ⟨_, _, e2, _⟩⟩ := hl <;> rw [e1, e2] <;> rfl
  have hcl : ∀ n : Bool, MV.cells (.ag [.b n, fv, lv]) = [.b n, fv, lv] := fun _ => rfl
  have hz : hasB (ofL zP 0) 3 0 = true := rfl
  have hz' : hasB (ofL [.b false, .nils, .nils] 0) 3 0 = true := rfl
  have hds1 : stW (M2.push (MO.cs false 3 (ofL [MV.b false, MV.nils, MV.nils] 0))) 3 M2.n 0 (.ag [.b q.1.null, fv, lv]) (some (MO.cs false 3 (ofL [MV.b false, MV.nils, MV.nils] 0))) = some (.u, (M2.push (MO.cs false 3 (ofL [MV.b false, MV.nils, MV.nils] 0))).set M2.n (some (.cs false 3 (setN [.b q.1.null, fv, lv] 0 (ofL [MV.b false, MV.nils, MV.nils] 0))))) := stW_ok (M := M2.push _) (by show M2.lo ≤ M2.n; omega) (hst _) hz'
  simp (disch := first | omega | assumption) only [↓bxD, bA, reduceCtorEq, h0, h3, h4, h4', hst, hcl, hz, hz', hds1]
  generalize hM3 : MH.set _ _ _ = M3
  have hx3 : Ext M2 M3 := by rw [← hM3]; exact (Ext.push M2 _).set _ (Nat.le_refl _)
  have g12 : M3.get M2.n = some (.cs false 3 (setN [.b q.1.null, fv, lv] 0 (ofL [MV.b false, MV.nils, MV.nils] 0))) := by rw [← hM3]; exact set_same _ _
  have n3 : M3.n = M2.n + 1 := by rw [← hM3]; rfl
  have l3 := hx3.lo
  clear hM3
  have hA := at_setN [.b q.1.null, fv, lv] 0 (ofL [MV.b false, MV.nils, MV.nils] 0)
  have hb12 : hasB (setN [.b q.1.null, fv, lv] 0 (ofL [MV.b false, MV.nils, MV.nils] 0)) 1 0 = true := has_at hA (Nat.zero_le _) (by simp)
  have hb12' : hasB (setN [.b q.1.null, fv, lv] 0 (ofL [MV.b false, MV.nils, MV.nils] 0)) 3 0 = true := hA.has
  generalize setN [.b q.1.null, fv, lv] 0 (ofL [MV.b false, MV.nils, MV.nils] 0) = c12 at hA g12 hb12 hb12'
  have a0 : cget c12 0 = some (.b q.1.null) := hA 0 _ rfl
  have a1 : cget c12 1 = some fv := hA 1 _ rfl
  have a2 : cget c12 2 = some lv := hA 2 _ rfl
  have g32 : M2.get M.n = some (.cs false 6 t) := hF2.old _ _ _ (by omega) g3 (.inr (.inl rfl))
  have g42 : M2.get (M.n + 1) = some (.cs false 3 (ofL zP 0)) := hF2.old _ _ _ (by omega) g4 (.inl rfl)
  have g33 := (hx3.old M.n (by omega)).trans g32
  have g43 := (hx3.old (M.n + 1) (by omega)).trans g42
  have F03 : FrW M M3 := ((FrW.of hW.ext).trans hF2).trans (.of hx3)
  have fin : ∀ (f : Fr) (M4 : MH) (b' : Bs), X.ev f (.t q3) = .p M.n 0 → f.get q4 = some (.p (M.n + 1) 0) → X.ev f (.t q12) = .p M2.n 0 → FrW M3 M4 → Ds Mb M4 px x1 x2 x3 b' → b' = (repP op q).2 → Wp fns K32_13 f M4 (blockQ 1 (thenQ fns K32_16 (retQ F32 (WkPost Mb px x1 x2 x3 (repP op q) M)))) := by
   rintro f M4 b' h3 h4 h12 hF4 hD4 rfl
   have h4' := ev_get h4
   simp only [q3, q4, q12] at h3 h4 h4' h12
   have n4 := hF4.n
   have l4 := hF4.lo
   have k3 := hF4.old _ _ _ (by omega) g33 (.inr (.inl rfl))
   have k4 := hF4.old _ _ _ (by omega) g43 (.inl rfl)
   have k12 := hF4.old _ _ _ (by omega) g12 (.inl rfl)
   have hf4 := (hf.fr (.of hx3)).fr hF4
   have hl4 := (hl.fr (.of hx3)).fr hF4
   have hne : M.n + 1 ≠ M2.n := by omega
   have hst1 := hst q.1.null
   have hst2 := hst true
   have hcb : MV.cells (.b true) = [.b true] := rfl
   have hrf : bitsOf (repP op q).1.fi 150 = bitsOf q.1.fi 150 := rfl
   have hrl : bitsOf (repP op q).1.la 150 = bitsOf q.1.la 150 := rfl
   have hS : ∀ j, (j = M2.n ∨ j = M.n + 1) → M.n ≤ j ∧ ∃ c, M4.get j = some (.cs false 3 c) := by
    rintro j (rfl | rfl)
    ·exact ⟨by omega, _, k12⟩
    ·exact ⟨by omega, _, k4⟩
   unfold K32_13
   by_cases h5 : op = 5
   ·have e5 : decide (op ≠ 5) = false := decide_eq_false (fun e => e h5)
    have hG : Ev.getN c12 3 0 = some [.b q.1.null, fv, lv] := hA.getN
    have hnl : (repP op q).1.null = q.1.null := by show (if op = 5 then q.1.null else true) = _; rw [if_pos h5]
    simp (disch := first | omega | assumption) only [↓bxD, bA, reduceCtorEq, h3, h4, h4', h12, k3, k4, k12, c0, e5, hG, hst, hcl, hz, hz', getN3, res_cN, cNV_p, cNo_cs, get_set, nck_p, Option.map_some]
    show Wp fns K32_12 _ _ _
    unfold K32_12
    simp (disch := first | omega | assumption) only [↓bxD, bA, reduceCtorEq, h3, h4, h4', h12, k3, k4, k12, c0, e5, hG, hst, hcl, hz, hz', getN3, res_cN, cNV_p, cNo_cs, get_set, nck_p, Option.map_some]
    have := walk_fin (x1 := x1) (x2 := x2) (x3 := x3) (px := px) (q := repP op q) ((Chg.refl (fun j => j = M2.n ∨ j = M.n + 1) M4).set (some (.cs false 3 (setN [.b q.1.null, fv, lv] 0 (ofL zP 0)))) (id := M.n + 1) (.inl (.inr rfl))) hS hbn (F03.trans hF4) hD4 hf4 hl4
    rw [hnl] at this
    exact this
   ·have e5 : decide (op ≠ 5) = true := decide_eq_true h5
    have hA' : At (setN [.b true] 0 c12) 0 [.b true, fv, lv] := hA.set' 0 _ (by simp) rfl
    have hG : Ev.getN (setN [.b true] 0 c12) 3 0 = some [.b true, fv, lv] := hA'.getN
    have hnl : (repP op q).1.null = true := by show (if op = 5 then q.1.null else true) = _; rw [if_neg h5]
    simp (disch := first | omega | assumption | (simp only [bZ, stOk, Nat.reduceBEq, Nat.reduceEqDiff, Nat.reduceAdd] <;> omega) | ((try apply has_setN); apply has_ofL; simp only [bxL]; omega)) only [↓bxD, bA, Nat.reduceBEq, reduceCtorEq, Nat.reduceAdd, Nat.reduceSub, Nat.reduceMul, Nat.reduceLeDiff, Nat.reduceLT, h3, h4, h4', h12, k3, k4, k12, c0, e5, hG, hst, hcl, hz, hz', hb12, hne, hcb, getN3, res_cN, cNV_p, cNo_cs, get_set, nck_p, Option.map_some]
    show Wp fns K32_12 _ _ _
    unfold K32_12
    simp (disch := first | omega | assumption | (simp only [bZ, stOk, Nat.reduceBEq, Nat.reduceEqDiff, Nat.reduceAdd] <;> omega) | ((try apply has_setN); apply has_ofL; simp only [bxL]; omega)) only [↓bxD, bA, Nat.reduceBEq, reduceCtorEq, Nat.reduceAdd, Nat.reduceSub, Nat.reduceMul, Nat.reduceLeDiff, Nat.reduceLT, h3, h4, h4', h12, k3, k4, k12, c0, e5, hG, hst, hcl, hz, hz', hb12, hne, hcb, getN3, res_cN, cNV_p, cNo_cs, get_set, nck_p, Option.map_some]
    have := walk_fin (x1 := x1) (x2 := x2) (x3 := x3) (px := px) (q := repP op q) (((Chg.refl (fun j => j = M2.n ∨ j = M.n + 1) M4).set (some (.cs false 3 (setN [.b true] 0 c12))) (id := M2.n) (.inl (.inl rfl))).set (some (.cs false 3 (setN [.b true, fv, lv] 0 (ofL zP 0)))) (id := M.n + 1) (.inl (.inr rfl))) hS hbn (F03.trans hF4) hD4 hf4 hl4
    rw [hnl] at this
    exact this
  simp (disch := first | omega | assumption) only [↓bxD, bA, reduceCtorEq, h0, h3, h4, h4', hst, hcl, hz, hz', g12, g32, g33, c0, a0, a1, a2, nck_p]
  by_cases h6 : op = 6
  ·have e6 : decide (op ≠ 6) = false := decide_eq_false (fun e => e h6)
   simp (disch := first | omega | assumption) only [↓bxD, bA, reduceCtorEq, h0, h3, h4, h4', hst, hcl, hz, hz', g12, g32, g33, c0, a0, a1, a2, nck_p, e6]
   exact fin _ M3 _ (by simp only [bA, reduceCtorEq, h0, h3, h4, h4', hst, hcl, hz, hz', g12, g32, g33, c0, a0, a1, a2, nck_p]) (by simp (disch := first | omega | assumption) only [↓bxD, bA, reduceCtorEq, h0, h3, h4, h4', hst, hcl, hz, hz', g12, g32, g33, c0, a0, a1, a2, nck_p, get_set]) (by simp only [bA, reduceCtorEq, h0, h3, h4, h4', hst, hcl, hz, hz', g12, g32, g33, c0, a0, a1, a2, nck_p]) (.refl _) (hD2.more hx3) (by show _ = (if op = 6 then q.2 else linkB q.2 q.1.la q.1.fi); rw [if_pos h6])
  ·have e6 : decide (op ≠ 6) = true := decide_eq_true h6
   simp (disch := first | omega | assumption) only [↓bxD, bA, reduceCtorEq, h0, h3, h4, h4', hst, hcl, hz, hz', g12, g32, g33, c0, a0, a1, a2, nck_p, e6]
   obtain ⟨cc, sv, fw, fs, hO3⟩ := hD2.more hx3
   refine bindP_call (link52 (la := q.1.la) (fi := q.1.fi) hO3 hlo ?_ (hl.fr (.of hx3)) (hf.fr (.of hx3)) ?_) ?_
   ·rw [hO3.len]; exact hlen
   ·intro i hi; rw [hO3.len]; exact hin.2 i hi
   rintro m M4 ⟨hD4, hF4⟩
   simp (disch := first | omega | assumption) only [↓bxD, bA, reduceCtorEq, h0, h3, h4, h4', hst, hcl, hz, hz', g12, g32, g33, c0, a0, a1, a2, nck_p]
   exact fin _ M4 _ (by simp only [bA, reduceCtorEq, h0, h3, h4, h4', hst, hcl, hz, hz', g12, g32, g33, c0, a0, a1, a2, nck_p]) (by simp (disch := first | omega | assumption) only [↓bxD, bA, reduceCtorEq, h0, h3, h4, h4', hst, hcl, hz, hz', g12, g32, g33, c0, a0, a1, a2, nck_p, get_set]) (by simp only [bA, reduceCtorEq, h0, h3, h4, h4', hst, hcl, hz, hz', g12, g32, g33, c0, a0, a1, a2, nck_p]) hF4 hD4 (by show _ = (if op = 6 then q.2 else linkB q.2 q.1.la q.1.fi); rw [if_neg h6])
 unfold B32
 simp only [tl]
 simp (disch := first | omega | assumption) only [↓bxD, bA, reduceCtorEq, h0, h3, h4, h4', g3, g4, c0, c14, c5, nck_p, Option.map_some, d1, d2, d3]
 show Wp fns K32_1 _ _ _
 unfold K32_1
 simp (disch := first | omega | assumption) only [↓bxD, bA, reduceCtorEq, h0, h3, h4, h4', g3, g4, c0, c14, c5, nck_p, Option.map_some]
 show Wp fns K32_17 _ _ _
 unfold K32_17
 simp (disch := first | omega | assumption) only [↓bxD, bA, reduceCtorEq, h0, h3, h4, h4', g3, g4, c0, c14, c5, nck_p, Option.map_some, d1, d2, d3]
 rcases hop with rfl | rfl | rfl
 ·have d4 : decide ((4 : Int) = 4) = true := rfl
  have d5 : decide ((4 : Int) = 5) = false := rfl
  have d6 : decide ((4 : Int) = 6) = false := rfl
  simp (disch := first | omega | assumption) only [↓bxD, bA, reduceCtorEq, h0, h3, h4, h4', g3, g4, c0, c14, c5, nck_p, Option.map_some, d4, d5, d6]
  exact rest _ (by simp only [bA, reduceCtorEq, h0, h3, h4, h4', g3, g4, c0, c14, c5, nck_p, Option.map_some]) (by simp only [bA, reduceCtorEq, h0, h3, h4, h4', g3, g4, c0, c14, c5, nck_p, Option.map_some]) (by simp (disch := first | omega | assumption) only [↓bxD, bA, reduceCtorEq, h0, h3, h4, h4', g3, g4, c0, c14, c5, nck_p, Option.map_some, get_set]) (by simp only [bA, reduceCtorEq, h0, h3, h4, h4', g3, g4, c0, c14, c5, nck_p, Option.map_some] <;> rfl)
 ·have d4 : decide ((5 : Int) = 4) = false := rfl
  have d5 : decide ((5 : Int) = 5) = true := rfl
  have d6 : decide ((5 : Int) = 6) = false := rfl
  simp (disch := first | omega | assumption) only [↓bxD, bA, reduceCtorEq, h0, h3, h4, h4', g3, g4, c0, c14, c5, nck_p, Option.map_some, d4, d5, d6]
  exact rest _ (by simp only [bA, reduceCtorEq, h0, h3, h4, h4', g3, g4, c0, c14, c5, nck_p, Option.map_some]) (by simp only [bA, reduceCtorEq, h0, h3, h4, h4', g3, g4, c0, c14, c5, nck_p, Option.map_some]) (by simp (disch := first | omega | assumption) only [↓bxD, bA, reduceCtorEq, h0, h3, h4, h4', g3, g4, c0, c14, c5, nck_p, Option.map_some, get_set]) (by simp only [bA, reduceCtorEq, h0, h3, h4, h4', g3, g4, c0, c14, c5, nck_p, Option.map_some] <;> rfl)
 ·have d4 : decide ((6 : Int) = 4) = false := rfl
  have d5 : decide ((6 : Int) = 5) = false := rfl
  have d6 : decide ((6 : Int) = 6) = true := rfl
  simp (disch := first | omega | assumption) only [↓bxD, bA, reduceCtorEq, h0, h3, h4, h4', g3, g4, c0, c14, c5, nck_p, Option.map_some, d4, d5, d6]
  exact rest _ (by simp only [bA, reduceCtorEq, h0, h3, h4, h4', g3, g4, c0, c14, c5, nck_p, Option.map_some]) (by simp only [bA, reduceCtorEq, h0, h3, h4, h4', g3, g4, c0, c14, c5, nck_p, Option.map_some]) (by simp (disch := first | omega | assumption) only [↓bxD, bA, reduceCtorEq, h0, h3, h4, h4', g3, g4, c0, c14, c5, nck_p, Option.map_some, get_set]) (by simp only [bA, reduceCtorEq, h0, h3, h4, h4', g3, g4, c0, c14, c5, nck_p, Option.map_some] <;> rfl)
theorem nr_st {lo : Nat} {M : MH} {v : MV} {l : List Nat} (h : NrAt lo M v l) : stOk 1 v = true ∧ MV.cells v = [v] := by
 obtain ⟨_, _, ⟨h1, _⟩ | ⟨id, c, h1, _⟩⟩ := h <;> rw [h1] <;> exact ⟨rfl, rfl⟩
theorem union_nr {Mb M : MH} {v w : MV} {A B : Nat} (hlo : Mb.lo ≤ Mb.n) (hl : M.lo = Mb.lo) (hn : Mb.n ≤ M.n) (ha : NrAt Mb.n M v (bitsOf A 150)) (hb : NrAt Mb.n M w (bitsOf B 150)) : Cp fns 37 [v, w] M fun m M' => Ext M M' ∧ NrAt Mb.n M' m (bitsOf (A ||| B) 150) :=
 (union_any (by omega) ha.2.row hb.2.row (Nat.le_trans (bitsOf_len _ _) (by omega)) (Nat.le_trans (bitsOf_len _ _) (by omega))).mono fun m M' h => ⟨h.1, by
  have := h.2
  rw [mer_bits] at this
  exact this.le hn⟩
theorem cat_tail {Mb M : MH} {f : Fr} {p6 p8 : Nat} {b1 b2 : Bool} {fv lv fw lw : MV} {la lb : Nat} {c6 c8 : Ev.T MV} (h6 : X.ev f (.t q6) = .p p6 0) (h8 : X.ev f (.t q8) = .p p8 0) (g6 : M.get p6 = some (.cs false 3 c6)) (A6 : At c6 0 [.b b1, fv, lv]) (g8 : M.get p8 = some (.cs false 3 c8)) (A8 : At c8 0 [.b b2, fw, lw]) (hne : p6 ≠ p8) (hlo : Mb.lo ≤ Mb.n) (hbn : Mb.n ≤ p6) (h6n : p6 < M.n) (h8n : p8 < M.n) (el : M.lo = Mb.lo) (hl : NrAt Mb.n M lv (bitsOf la 150)) (hm : NrAt Mb.n M lw (bitsOf lb 150)) {Q : Post}
  (hQ : ∀ f' M' c6' lv', X.ev f' (.t q0) = X.ev f (.t q0) → X.ev f' (.t q3) = X.ev f (.t q3) → f'.get q4 = f.get q4 → X.ev f' (.t q6) = .p p6 0 → X.ev f' (.t q7) = X.ev f (.t q7) → Chg (fun j => j = p6) M M' → M'.get p6 = some (.cs false 3 c6') → At c6' 0 [.b (b1 && b2), fv, lv'] → NrAt Mb.n M' lv' (bitsOf (if b2 = true then la ||| lb else lb) 150) → Q .norm f' M') : Wp fns K32_3 f M Q := by
 have a60 : cget c6 0 = some (.b b1) := A6 0 _ rfl
 have a62 : cget c6 2 = some lv := A6 2 _ rfl
 have a80 : cget c8 0 = some (.b b2) := A8 0 _ rfl
 have a82 : cget c8 2 = some lw := A8 2 _ rfl
 have hb0 : hasB c6 1 0 = true := has_at A6 (by omega) (by simp)
 have hb2 : hasB c6 1 2 = true := has_at A6 (by omega) (by simp)
 have hcb : ∀ b : Bool, MV.cells (.b b) = [.b b] := fun _ => rfl
 simp only [q6, q8] at h6 h8
 have last : ∀ (f1 : Fr) (M1 : MH) (c1 : T MV) (lv1 : MV), X.ev f1 (.t q0) = X.ev f (.t q0) → X.ev f1 (.t q3) = X.ev f (.t q3) → f1.get q4 = f.get q4 → X.ev f1 (.t q6) = .p p6 0 → X.ev f1 (.t q7) = X.ev f (.t q7) → X.ev f1 (.t q8) = .p p8 0 → Chg (fun j => j = p6) M M1 → M1.get p6 = some (.cs false 3 c1) → At c1 0 [.b b1, fv, lv1] → NrAt Mb.n M1 lv1 (bitsOf (if b2 = true then la ||| lb else lb) 150) → Wp fns K32_2 f1 M1 Q := by
  intro f1 M1 c1 lv1 e0 e3 e4 e6 e7 e8 hC k6 A1 hN
  have k8 := (hC.old p8 h8n (fun e => hne e.symm)).trans g8
  have a10 : cget c1 0 = some (.b b1) := A1 0 _ rfl
  have hb1 : hasB c1 1 0 = true := has_at A1 (by omega) (by simp)
  have lo1 := hC.lo
  have fin : ∀ f2 M2, X.ev f2 (.t q0) = X.ev f1 (.t q0) → X.ev f2 (.t q3) = X.ev f1 (.t q3) → f2.get q4 = f1.get q4 → X.ev f2 (.t q6) = .p p6 0 → X.ev f2 (.t q7) = X.ev f1 (.t q7) → M2 = M1.set p6 (some (.cs false 3 (setN [.b (b1 && b2)] 0 c1))) → Q .norm f2 M2 := by
   rintro f2 M2 w0 w3 w4 w6 w7 rfl
   exact hQ f2 _ _ lv1 (w0.trans e0) (w3.trans e3) (w4.trans e4) w6 (w7.trans e7) (hC.set _ (.inl rfl)) (set_same _ _) (A1.set' 0 _ (by simp) rfl) (hN.chg3 ((Chg.refl (fun j => j = p6) M1).set _ (.inl rfl)) (fun j hj => ⟨c1, by rw [hj]; exact k6⟩))
  simp only [q6, q8] at e6 e8
  unfold K32_2
  cases b1 with
  | false =>
   simp (maxSteps := 4000000) (disch := first | omega | assumption | (simp only [bxS, bxV, stOk, Nat.reduceBEq, Nat.reduceEqDiff, Nat.reduceAdd]; done) | (simp only [bxU]; omega) | ((try apply has_setN); apply has_ofL; simp only [bxL]; omega)) only [↓bxD, bxP, bxQ, bxQ2, Nat.reduceBEq, reduceCtorEq, Nat.reduceAdd, Nat.reduceSub, Nat.reduceMul, Nat.reduceLeDiff, Nat.reduceLT, bxR, e6, e8, k6, k8, a10, hb1, hcb, nck_p]
   exact fin _ _ (by simp only [bxP, bxQ, bxQ2, reduceCtorEq, e6, e8, k6, k8, a10, hb1, hcb, nck_p]) (by simp only [bxP, bxQ, bxQ2, reduceCtorEq, e6, e8, k6, k8, a10, hb1, hcb, nck_p]) (by simp (maxSteps := 4000000) (disch := first | omega | assumption | (simp only [bxS, bxV, stOk, Nat.reduceBEq, Nat.reduceEqDiff, Nat.reduceAdd]; done) | (simp only [bxU]; omega) | ((try apply has_setN); apply has_ofL; simp only [bxL]; omega)) only [↓bxD, bxP, bxQ, bxQ2, Nat.reduceBEq, reduceCtorEq, Nat.reduceAdd, Nat.reduceSub, Nat.reduceMul, Nat.reduceLeDiff, Nat.reduceLT, bxR, e6, e8, k6, k8, a10, hb1, hcb, nck_p, get_set]) (by simp only [bxP, bxQ, bxQ2, reduceCtorEq, e6, e8, k6, k8, a10, hb1, hcb, nck_p]) (by simp only [bxP, bxQ, bxQ2, reduceCtorEq, e6, e8, k6, k8, a10, hb1, hcb, nck_p]) rfl
  | true =>
   simp (disch := first | omega | assumption | (simp only [bZ, stOk, Nat.reduceBEq, Nat.reduceEqDiff, Nat.reduceAdd] <;> omega) | ((try apply has_setN); apply has_ofL; simp only [bxL]; omega)) only [↓bxD, bA, Nat.reduceBEq, reduceCtorEq, Nat.reduceAdd, Nat.reduceSub, Nat.reduceMul, Nat.reduceLeDiff, Nat.reduceLT, e6, e8, k6, k8, a10, a80, hb1, hcb, nck_p]
   exact fin _ _ (by simp only [bxP, bxQ, bxQ2, reduceCtorEq, e6, e8, k6, k8, a10, a80, hb1, hcb, nck_p]) (by simp only [bxP, bxQ, bxQ2, reduceCtorEq, e6, e8, k6, k8, a10, a80, hb1, hcb, nck_p]) (by simp (maxSteps := 4000000) (disch := first | omega | assumption | (simp only [bxS, bxV, stOk, Nat.reduceBEq, Nat.reduceEqDiff, Nat.reduceAdd]; done) | (simp only [bxU]; omega) | ((try apply has_setN); apply has_ofL; simp only [bxL]; omega)) only [↓bxD, bxP, bxQ, bxQ2, Nat.reduceBEq, reduceCtorEq, Nat.reduceAdd, Nat.reduceSub, Nat.reduceMul, Nat.reduceLeDiff, Nat.reduceLT, bxR, e6, e8, k6, k8, a10, a80, hb1, hcb, nck_p, get_set]) (by simp only [bxP, bxQ, bxQ2, reduceCtorEq, e6, e8, k6, k8, a10, a80, hb1, hcb, nck_p]) (by simp only [bxP, bxQ, bxQ2, reduceCtorEq, e6, e8, k6, k8, a10, a80, hb1, hcb, nck_p]) (by cases b2 <;> rfl)
 unfold K32_3
 cases b2 with
 | false =>
  obtain ⟨hst, hcl⟩ := nr_st hm
  simp (disch := first | omega | assumption) only [↓bxD, bA, reduceCtorEq, h6, h8, g6, g8, a62, a80, a82, hb2, hst, hcl, nck_p]
  refine last _ _ (setN [lw] 2 c6) lw (by simp only [bA, reduceCtorEq, h6, h8, g6, g8, a62, a80, a82, hb2, hst, hcl, nck_p]) (by simp only [bA, reduceCtorEq, h6, h8, g6, g8, a62, a80, a82, hb2, hst, hcl, nck_p]) (by simp (disch := first | omega | assumption) only [↓bxD, bA, reduceCtorEq, h6, h8, g6, g8, a62, a80, a82, hb2, hst, hcl, nck_p, get_set]) (by simp only [bA, reduceCtorEq, h6, h8, g6, g8, a62, a80, a82, hb2, hst, hcl, nck_p]) (by simp only [bA, reduceCtorEq, h6, h8, g6, g8, a62, a80, a82, hb2, hst, hcl, nck_p]) (by simp only [bA, reduceCtorEq, h6, h8, g6, g8, a62, a80, a82, hb2, hst, hcl, nck_p]) ((Chg.refl (fun j => j = p6) M).set _ (.inl rfl)) (set_same _ _) (A6.set' 2 _ (by simp) rfl) (hm.chg3 ((Chg.refl (fun j => j = p6) M).set _ (.inl rfl)) (fun j hj => ⟨c6, by rw [hj]; exact g6⟩))
 | true =>
  simp (disch := first | omega | assumption) only [↓bxD, bA, reduceCtorEq, h6, h8, g6, g8, a62, a80, a82, hb2, nck_p]
  refine bindP_call (union_nr hlo el (by omega) hl hm) ?_
  rintro m M2 ⟨hx, hm2⟩
  obtain ⟨hst, hcl⟩ := nr_st hm2
  have k6 := (hx.old p6 h6n).trans g6
  have lo2 := hx.lo
  simp (disch := first | omega | assumption) only [↓bxD, bA, reduceCtorEq, h6, h8, k6, a62, a80, a82, hb2, hst, hcl, nck_p]
  refine last _ _ (setN [m] 2 c6) m (by simp only [bA, reduceCtorEq, h6, h8, k6, a62, a80, a82, hb2, hst, hcl, nck_p]) (by simp only [bA, reduceCtorEq, h6, h8, k6, a62, a80, a82, hb2, hst, hcl, nck_p]) (by simp (disch := first | omega | assumption) only [↓bxD, bA, reduceCtorEq, h6, h8, k6, a62, a80, a82, hb2, hst, hcl, nck_p, get_set]) (by simp only [bA, reduceCtorEq, h6, h8, k6, a62, a80, a82, hb2, hst, hcl, nck_p]) (by simp only [bA, reduceCtorEq, h6, h8, k6, a62, a80, a82, hb2, hst, hcl, nck_p]) (by simp only [bA, reduceCtorEq, h6, h8, k6, a62, a80, a82, hb2, hst, hcl, nck_p]) ((Chg.of hx).set _ (.inl rfl)) (set_same _ _) (A6.set' 2 _ (by simp) rfl) (hm2.chg3 ((Chg.refl (fun j => j = p6) M2).set _ (.inl rfl)) (fun j hj => ⟨c6, by rw [hj]; exact k6⟩))
def PtAt (Mb M : MH) (p6 : Nat) (p : Pm) : Prop := ∃ fv lv c6, M.get p6 = some (.cs false 3 c6) ∧ At c6 0 [.b p.null, fv, lv] ∧ NrAt Mb.n M fv (bitsOf p.fi 150) ∧ NrAt Mb.n M lv (bitsOf p.la 150)
theorem PtAt.fr {Mb M M' : MH} {p6 : Nat} {p : Pm} (h : PtAt Mb M p6 p) (hn : p6 < M.n) (k : FrW M M') : PtAt Mb M' p6 p := by
 obtain ⟨fv, lv, c6, h1, h2, h3, h4⟩ := h
 exact ⟨fv, lv, c6, k.old _ _ _ hn h1 (.inl rfl), h2, h3.fr k, h4.fr k⟩
theorem part_st {lo : Nat} {M M' : MH} {fv lv : MV} {A B : List Nat} (hf : NrAt lo M fv A) (hl : NrAt lo M' lv B) (n : Bool) : stOk 3 (.ag [.b n, fv, lv]) = true := by
 obtain ⟨_, _, ⟨e1, _⟩ | ⟨_, _, e1, _⟩⟩ := hf <;> obtain ⟨_, _, ⟨e2, _⟩ | ⟨_, _, e2, _⟩⟩ := hl <;> rw [e1, e2] <;> rfl
theorem walk_cat {Mb M : MH} {px : Nat} {x1 x2 x3 : MV} {st : Bs} {a b c d : Int} {ks : List Rx} {v : MV} (hlo : Mb.lo ≤ Mb.n) (hI : ∀ y ∈ ks, WkIH Mb px x1 x2 x3 y) (hds : Ds Mb M px x1 x2 x3 st) (hX : XAt Mb v (.mk 2 a b c d ks)) (hne0 : ks ≠ []) (hkl : ks.length ≤ 1000000000) (hc : st.sets.length + cntL ks ≤ 150) : Cp fns 32 [.p px 0, v] M (WkPost Mb px x1 x2 x3 (catM ks p0M st) M) := by
 obtain ⟨kv, rfl, k1, k2, k3⟩ := hX
 refine walk_in hlo hds fun f M1 t hW => ?_
 obtain ⟨hlo1, hlo2, c0, c14, c5⟩ := hW.cells hlo
 have n1 := hW.n
 have lM := hW.ext.lo
 have g3 := hW.g3
 have g4 := hW.g4
 have h0 := hW.h0
 have h3 := hW.h3
 have h4 := hW.h4
 have h4' := ev_get h4
 have hbn := hW.bn
 have hpn : px < M.n := hds.bl.2.1
 simp only [q0, q3, q4] at h0 h3 h4 h4'
 have hlpos : 0 < ks.length := List.length_pos_iff.2 hne0
 have dl : decide ((ks.length : Int) = 0) = false := decide_eq_false (by omega)
 have d1 : decide ((2 : Int) = 1) = false := rfl
 have d2 : decide ((2 : Int) = 2) = true := rfl
 have hz' : hasB (ofL [.b false, .nils, .nils] 0) 3 0 = true := rfl
 have ff : fillM [(0, 1, MV.b true)] [.b false, .nils, .nils] = some [.b true, .nils, .nils] := rfl
 have hcl0 : MV.cells (.ag [.b true, .nils, .nils]) = [.b true, .nils, .nils] := rfl
 have hds0 : stW (M1.push (MO.cs false 3 (ofL [MV.b false, MV.nils, MV.nils] 0))) 3 M1.n 0 (.ag [.b true, .nils, .nils]) (some (MO.cs false 3 (ofL [MV.b false, MV.nils, MV.nils] 0))) = some (.u, (M1.push (MO.cs false 3 (ofL [MV.b false, MV.nils, MV.nils] 0))).set M1.n (some (.cs false 3 (setN [.b true, .nils, .nils] 0 (ofL [MV.b false, MV.nils, MV.nils] 0))))) := stW_ok (M := M1.push _) (by show M1.lo ≤ M1.n; omega) rfl hz'
 unfold B32
 simp only [tl]
 simp (disch := first | omega | assumption | (simp only [bZ, stOk, Nat.reduceBEq, Nat.reduceEqDiff, Nat.reduceAdd] <;> omega) | ((try apply has_setN); apply has_ofL; simp only [bxL]; omega)) only [↓bxD, bA, Nat.reduceBEq, reduceCtorEq, Nat.reduceAdd, Nat.reduceSub, Nat.reduceMul, Nat.reduceLeDiff, Nat.reduceLT, h0, h3, h4, h4', g3, g4, c0, c14, c5, k1, k2, dl, d1, d2, ff, nck_p, Option.map_some]
 show Wp fns K32_1 _ _ _
 unfold K32_1
 simp (disch := first | omega | assumption | (simp only [bZ, stOk, Nat.reduceBEq, Nat.reduceEqDiff, Nat.reduceAdd] <;> omega) | ((try apply has_setN); apply has_ofL; simp only [bxL]; omega)) only [↓bxD, bA, Nat.reduceBEq, reduceCtorEq, Nat.reduceAdd, Nat.reduceSub, Nat.reduceMul, Nat.reduceLeDiff, Nat.reduceLT, h0, h3, h4, h4', g3, g4, c0, c14, c5, k1, k2, dl, d1, d2, ff, nck_p, Option.map_some]
 show Wp fns K32_17 _ _ _
 unfold K32_17
 simp (disch := first | omega | assumption | (simp only [bZ, stOk, Nat.reduceBEq, Nat.reduceEqDiff, Nat.reduceAdd] <;> omega) | ((try apply has_setN); apply has_ofL; simp only [bxL]; omega)) only [↓bxD, bA, Nat.reduceBEq, reduceCtorEq, Nat.reduceAdd, Nat.reduceSub, Nat.reduceMul, Nat.reduceLeDiff, Nat.reduceLT, h0, h3, h4, h4', g3, g4, c0, c14, c5, k1, k2, dl, d1, d2, ff, nck_p, Option.map_some]
 generalize hM2 : MH.set _ _ _ = M2
 have x12 : Ext M1 M2 := by rw [← hM2]; exact (Ext.push M1 _).set _ (Nat.le_refl _)
 have g62 : M2.get M1.n = some (.cs false 3 (setN [.b true, .nils, .nils] 0 (ofL [MV.b false, MV.nils, MV.nils] 0))) := by rw [← hM2]; exact set_same _ _
 have n2 : M2.n = M1.n + 1 := by rw [← hM2]; rfl
 clear hM2
 have A62 := at_setN [.b true, .nils, .nils] 0 (ofL [MV.b false, MV.nils, MV.nils] 0)
 generalize setN [.b true, .nils, .nils] 0 (ofL [MV.b false, MV.nils, MV.nils] 0) = c62 at A62 g62
 have hD2 := hW.ds.more x12
 have e0 : bitsOf 0 150 = [] := by unfold bitsOf; simp
 have hP2 : PtAt Mb M2 M1.n p0M := ⟨.nils, .nils, c62, g62, A62, by show NrAt _ _ _ (bitsOf 0 150); rw [e0]; exact .nil _ _, by show NrAt _ _ _ (bitsOf 0 150); rw [e0]; exact .nil _ _⟩
 have hEx : Ext Mb M1 := by obtain ⟨cc, sv, fv, fs, hO⟩ := hW.ds; exact hO.ext
 have en1 := hEx.n
 have el1 := hEx.lo
 refine Wp_inv (σ := Nat) (fun i f M' => i ≤ ks.length ∧ X.ev f (.t q0) = .p px 0 ∧ X.ev f (.t q3) = .p M.n 0 ∧ f.get q4 = some (.p (M.n + 1) 0) ∧ X.ev f (.t q6) = .p M1.n 0 ∧ X.ev f (.t q7) = .i .i64 (i : Int) ∧ FrW M1 M' ∧ M1.n < M'.n ∧ ∃ p s, PtAt Mb M' M1.n p ∧ Ds Mb M' px x1 x2 x3 s ∧ InP p s.sets.length ∧ catM ks p0M st = catM (ks.drop i) p s ∧ s.sets.length + cntL (ks.drop i) ≤ 150) (fun i => ks.length - i) ?_ 0 ?_
 ·rintro i f M' ⟨hi, h0, h3, h4, h6, h7, hF, hn6, p, s, hP, hD, hin, hcat, hcb⟩
  have h4' := ev_get h4
  simp only [q0, q3, q4, q6, q7] at h0 h3 h4 h4' h6 h7
  have g3' := hF.old _ _ _ (by omega) g3 (.inr (.inl rfl))
  have l1 := hF.lo
  unfold L32_6
  simp (disch := first | omega | assumption | (simp only [bZ, stOk, Nat.reduceBEq, Nat.reduceEqDiff, Nat.reduceAdd] <;> omega) | ((try apply has_setN); apply has_ofL; simp only [bxL]; omega)) only [↓bxD, bA, Nat.reduceBEq, reduceCtorEq, Nat.reduceAdd, Nat.reduceSub, Nat.reduceMul, Nat.reduceLeDiff, Nat.reduceLT, h0, h3, h4, h4', h6, h7, g3', c5, k1, k2, nck_p]
  refine condP_split (fun hlt => ?_) (fun hge => ?_)
  ·have hi' : i < ks.length := by omega
   obtain ⟨k, hk⟩ : ∃ k, ks[i]? = some k := ⟨_, List.getElem?_eq_getElem hi'⟩
   have hdk : ks.drop i = k :: ks.drop (i + 1) := by
    rw [List.drop_eq_getElem_cons hi']; congr 1
    rw [List.getElem?_eq_getElem hi'] at hk; exact Option.some.inj hk
   have hkm : k ∈ ks := List.mem_of_getElem? hk
   rw [hdk] at hcat hcb
   rw [cntL] at hcb
   rw [catM] at hcat
   have hN := NodesAt.get k3 hk
   obtain ⟨tk, vk, gk, nk, xk⟩ := NodeAt.xat hN
   have hsl := (NodeAt.rw hN).2
   have gk1 : M'.get (sid kv) = some (.cs false 6 tk) := by
    obtain ⟨cc, sv, fv, fs, hO⟩ := hD
    exact (hO.ext.old _ hsl).trans gk
   simp (disch := first | omega | assumption | (simp only [bZ, stOk, Nat.reduceBEq, Nat.reduceEqDiff, Nat.reduceAdd] <;> omega) | ((try apply has_setN); apply has_ofL; simp only [bxL]; omega)) only [↓bxD, bA, Nat.reduceBEq, reduceCtorEq, Nat.reduceAdd, Nat.reduceSub, Nat.reduceMul, Nat.reduceLeDiff, Nat.reduceLT, h0, h3, h4, h4', h6, h7, g3', c5, k1, k2, nck_p]
   show Wp fns K32_5 _ _ _
   unfold K32_5
   simp (disch := first | omega | assumption | (simp only [bZ, stOk, Nat.reduceBEq, Nat.reduceEqDiff, Nat.reduceAdd] <;> omega) | ((try apply has_setN); apply has_ofL; simp only [bxL]; omega)) only [↓bxD, bA, Nat.reduceBEq, reduceCtorEq, Nat.reduceAdd, Nat.reduceSub, Nat.reduceMul, Nat.reduceLeDiff, Nat.reduceLT, h0, h3, h4, h4', h6, h7, g3', c5, k1, k2, nck_p, gk1, nk, hi', Option.map_some]
   refine bindP_call (hI k hkm M' s vk hD xk (by omega)) ?_
   have hlen : (partM k s).2.sets.length = s.sets.length + cnt k := partM_len k s
   have hinq := partM_in k s
   generalize partM k s = q at hlen hinq hcat ⊢
   rintro m M3 ⟨fw, lw, rfl, hf, hl, hD3, hF3⟩
   have nn3 := hF3.n
   have ll3 := hF3.lo
   have hP3 := hP.fr hn6 hF3
   have hst := part_st hf hl q.1.null
   have hcl : ∀ n : Bool, MV.cells (.ag [.b n, fw, lw]) = [.b n, fw, lw] := fun _ => rfl
   have hds1 : stW (M3.push (MO.cs false 3 (ofL [MV.b false, MV.nils, MV.nils] 0))) 3 M3.n 0 (.ag [.b q.1.null, fw, lw]) (some (MO.cs false 3 (ofL [MV.b false, MV.nils, MV.nils] 0))) = some (.u, (M3.push (MO.cs false 3 (ofL [MV.b false, MV.nils, MV.nils] 0))).set M3.n (some (.cs false 3 (setN [.b q.1.null, fw, lw] 0 (ofL [MV.b false, MV.nils, MV.nils] 0))))) := stW_ok (M := M3.push _) (by show M3.lo ≤ M3.n; omega) hst hz'
   obtain ⟨fv, lv, c6, g6, A6, nf, nl⟩ := hP3
   have a61 : cget c6 1 = some fv := A6 1 _ rfl
   have a62 : cget c6 2 = some lv := A6 2 _ rfl
   have a60 : cget c6 0 = some (.b p.null) := A6 0 _ rfl
   simp (disch := first | omega | assumption | (simp only [bZ, stOk, Nat.reduceBEq, Nat.reduceEqDiff, Nat.reduceAdd] <;> omega) | ((try apply has_setN); apply has_ofL; simp only [bxL]; omega)) only [↓bxD, bA, Nat.reduceBEq, reduceCtorEq, Nat.reduceAdd, Nat.reduceSub, Nat.reduceMul, Nat.reduceLeDiff, Nat.reduceLT, h0, h3, h4, h4', h6, h7, hst, hcl, hz', g6, a60, a61, a62, nck_p, hds1]
   generalize hM4 : MH.set _ _ _ = M4
   have x34 : Ext M3 M4 := by rw [← hM4]; exact (Ext.push M3 _).set _ (Nat.le_refl _)
   have g8 : M4.get M3.n = some (.cs false 3 (setN [.b q.1.null, fw, lw] 0 (ofL [MV.b false, MV.nils, MV.nils] 0))) := by rw [← hM4]; exact set_same _ _
   have n4 : M4.n = M3.n + 1 := by rw [← hM4]; rfl
   have l4 := x34.lo
   clear hM4
   have A8 := at_setN [.b q.1.null, fw, lw] 0 (ofL [MV.b false, MV.nils, MV.nils] 0)
   generalize setN [.b q.1.null, fw, lw] 0 (ofL [MV.b false, MV.nils, MV.nils] 0) = c8 at A8 g8
   have a81 : cget c8 1 = some fw := A8 1 _ rfl
   obtain ⟨cc, sv, fv0, fs, hO4⟩ := hD3.more x34
   refine bindP_call (link52 (la := p.la) (fi := q.1.fi) hO4 hlo (by rw [hO4.len]; omega) (nl.fr (.of x34)) (hf.fr (.of x34)) (fun j hj => by rw [hO4.len, hlen]; exact Nat.lt_of_lt_of_le (hin.2 j hj) (by omega))) ?_
   rintro m M5 ⟨hD5, hF5⟩
   have n5 := hF5.n
   have l5 := hF5.lo
   have F35 : FrW M3 M5 := (FrW.of x34).trans hF5
   have k6 := F35.old _ _ _ (by omega) g6 (.inl rfl)
   have k8 := hF5.old _ _ _ (by omega) g8 (.inl rfl)
   have nf5 := nf.fr F35
   have nl5 := nl.fr F35
   have mf5 := hf.fr F35
   have ml5 := hl.fr F35
   have hb61 : hasB c6 1 1 = true := has_at A6 (by omega) (by simp)
   have F15 : FrW M1 M5 := (hF.trans hF3).trans F35
   have en5 := hD5.bl
   have hqin : InP (catP p q.1) (linkB q.2 p.la q.1.fi).sets.length := by
    rw [linkB_len]
    exact (hin.le (by omega)).cat hinq
   have tail : ∀ (f : Fr) (M6 : MH) (c6' : Ev.T MV) (fv' : MV), X.ev f (.t q0) = .p px 0 → X.ev f (.t q3) = .p M.n 0 → f.get q4 = some (.p (M.n + 1) 0) → X.ev f (.t q6) = .p M1.n 0 → X.ev f (.t q7) = .i .i64 (i : Int) → X.ev f (.t q8) = .p M3.n 0 → Chg (fun j => j = M1.n) M5 M6 → M6.get M1.n = some (.cs false 3 c6') → At c6' 0 [.b p.null, fv', lv] → NrAt Mb.n M6 fv' (bitsOf (catP p q.1).fi 150) → Wp fns K32_3 f M6 (blockQ 3 (thenQ fns K32_4 (fun ex f' M' => match ex with
    | .norm => ∃ s', ks.length - s' < ks.length - i ∧ s' ≤ ks.length ∧ X.ev f' (.t q0) = .p px 0 ∧ X.ev f' (.t q3) = .p M.n 0 ∧ f'.get q4 = some (.p (M.n + 1) 0) ∧ X.ev f' (.t q6) = .p M1.n 0 ∧ X.ev f' (.t q7) = .i .i64 (s' : Int) ∧ FrW M1 M' ∧ M1.n < M'.n ∧ ∃ p s, PtAt Mb M' M1.n p ∧ Ds Mb M' px x1 x2 x3 s ∧ InP p s.sets.length ∧ catM ks p0M st = catM (ks.drop s') p s ∧ s.sets.length + cntL (ks.drop s') ≤ 150
    | ex => blockQ 2 (thenQ fns K32_7 (blockQ 1 (thenQ fns K32_16 (retQ F32 (WkPost Mb px x1 x2 x3 (catM ks p0M st) M))))) ex f' M'))) := by
    intro f M6 c6' fv' h0 h3 h4 h6 h7 h8 hC k6' A6' nf'
    have n6 := hC.n
    have l6 := hC.lo
    have hS : ∀ j, j = M1.n → ∃ c, M5.get j = some (.cs false 3 c) := fun j hj => ⟨c6, by rw [hj]; exact k6⟩
    have k8' := (hC.old M3.n (by omega) (by omega)).trans k8
    refine cat_tail (Mb := Mb) (la := p.la) (lb := q.1.la) h6 h8 k6' A6' k8' A8 (by omega) hlo (by omega) (by omega) (by omega) (by omega) (nl5.chg3 hC hS) (ml5.chg3 hC hS) ?_
    intro f' M7 c7 lv' e0 e3 e4 e6 e7 hC7 k7 A7 nl7
    rw [h0] at e0
    rw [h3] at e3
    rw [h4] at e4
    rw [h7] at e7
    have n7 := hC7.n
    have hC57 := hC.trans hC7
    simp only [q7] at e7
    show Wp fns K32_4 _ _ _
    unfold K32_4
    simp (disch := first | omega | assumption | (simp only [bZ, stOk, Nat.reduceBEq, Nat.reduceEqDiff, Nat.reduceAdd] <;> omega) | ((try apply has_setN); apply has_ofL; simp only [bxL]; omega)) only [↓bxD, bA, Nat.reduceBEq, reduceCtorEq, Nat.reduceAdd, Nat.reduceSub, Nat.reduceMul, Nat.reduceLeDiff, Nat.reduceLT, h0, h3, h4, h4', h6, h7, hst, hcl, hz', g6, a60, a61, a62, nck_p, e7]
    refine ⟨i + 1, by omega, by omega, e0, e3, ?_, e6, rfl, ?_, by omega, catP p q.1, linkB q.2 p.la q.1.fi, ⟨fv', lv', c7, k7, A7, nf'.chg3 hC7 (fun j hj => ⟨c6', by rw [hj]; exact k6'⟩), nl7⟩, hD5.chg3 hC57 (fun j hj => ⟨by omega, hS j hj⟩), hqin, hcat, by rw [linkB_len, hlen]; omega⟩
    ·exact e4
    ·exact ⟨by omega, hC57.lo.trans F15.lo, fun j sz c hj e w => by
      rw [hC57.old j (by omega) (by omega)]
      exact F15.old j sz c hj e w⟩
   simp (disch := first | omega | assumption | (simp only [bZ, stOk, Nat.reduceBEq, Nat.reduceEqDiff, Nat.reduceAdd] <;> omega) | ((try apply has_setN); apply has_ofL; simp only [bxL]; omega)) only [↓bxD, bA, Nat.reduceBEq, reduceCtorEq, Nat.reduceAdd, Nat.reduceSub, Nat.reduceMul, Nat.reduceLeDiff, Nat.reduceLT, h0, h3, h4, h4', h6, h7, k6, k8, a60, a61, a81, hb61, nck_p]
   cases hpn : p.null with
   | false =>
    have hfi : (catP p q.1).fi = p.fi := by show (if p.null = true then _ else _) = _; rw [hpn]; rfl
    simp (disch := first | omega | assumption | (simp only [bZ, stOk, Nat.reduceBEq, Nat.reduceEqDiff, Nat.reduceAdd] <;> omega) | ((try apply has_setN); apply has_ofL; simp only [bxL]; omega)) only [↓bxD, bA, Nat.reduceBEq, reduceCtorEq, Nat.reduceAdd, Nat.reduceSub, Nat.reduceMul, Nat.reduceLeDiff, Nat.reduceLT, h0, h3, h4, h4', h6, h7, k6, k8, a60, a61, a81, hb61, nck_p]
    refine tail _ M5 c6 fv (by simp only [bxP, bxQ, bxQ2, reduceCtorEq, h0, h3, h4, h4', h6, h7, k6, k8, a60, a61, a81, hb61, nck_p]) (by simp only [bxP, bxQ, bxQ2, reduceCtorEq, h0, h3, h4, h4', h6, h7, k6, k8, a60, a61, a81, hb61, nck_p]) (by simp (disch := first | omega | assumption | (simp only [bZ, stOk, Nat.reduceBEq, Nat.reduceEqDiff, Nat.reduceAdd] <;> omega) | ((try apply has_setN); apply has_ofL; simp only [bxL]; omega)) only [↓bxD, bA, Nat.reduceBEq, reduceCtorEq, Nat.reduceAdd, Nat.reduceSub, Nat.reduceMul, Nat.reduceLeDiff, Nat.reduceLT, h0, h3, h4, h4', h6, h7, k6, k8, a60, a61, a81, hb61, nck_p, get_set]) (by simp only [bxP, bxQ, bxQ2, reduceCtorEq, h0, h3, h4, h4', h6, h7, k6, k8, a60, a61, a81, hb61, nck_p]) (by simp only [bxP, bxQ, bxQ2, reduceCtorEq, h0, h3, h4, h4', h6, h7, k6, k8, a60, a61, a81, hb61, nck_p]) (by simp only [bxP, bxQ, bxQ2, reduceCtorEq, h0, h3, h4, h4', h6, h7, k6, k8, a60, a61, a81, hb61, nck_p]) (.refl _ _) k6 A6 ?_
    rw [hfi]; exact nf5
   | true =>
    have hfi : (catP p q.1).fi = p.fi ||| q.1.fi := by show (if p.null = true then _ else _) = _; rw [hpn]; rfl
    simp (disch := first | omega | assumption | (simp only [bZ, stOk, Nat.reduceBEq, Nat.reduceEqDiff, Nat.reduceAdd] <;> omega) | ((try apply has_setN); apply has_ofL; simp only [bxL]; omega)) only [↓bxD, bA, Nat.reduceBEq, reduceCtorEq, Nat.reduceAdd, Nat.reduceSub, Nat.reduceMul, Nat.reduceLeDiff, Nat.reduceLT, h0, h3, h4, h4', h6, h7, k6, k8, a60, a61, a81, hb61, nck_p]
    refine bindP_call (union_nr hlo (by omega) (by omega) nf5 mf5) ?_
    rintro m M6 ⟨hx6, hm6⟩
    obtain ⟨hst6, hcl6⟩ := nr_st hm6
    have kk6 := (hx6.old M1.n (by omega)).trans k6
    have lo6 := hx6.lo
    simp (disch := first | omega | assumption | (simp only [bZ, stOk, Nat.reduceBEq, Nat.reduceEqDiff, Nat.reduceAdd] <;> omega) | ((try apply has_setN); apply has_ofL; simp only [bxL]; omega)) only [↓bxD, bA, Nat.reduceBEq, reduceCtorEq, Nat.reduceAdd, Nat.reduceSub, Nat.reduceMul, Nat.reduceLeDiff, Nat.reduceLT, h0, h3, h4, h4', h6, h7, kk6, hb61, hst6, hcl6, nck_p]
    refine tail _ _ (setN [m] 1 c6) m (by simp only [bxP, bxQ, bxQ2, reduceCtorEq, h0, h3, h4, h4', h6, h7, kk6, hb61, hst6, hcl6, nck_p]) (by simp only [bxP, bxQ, bxQ2, reduceCtorEq, h0, h3, h4, h4', h6, h7, kk6, hb61, hst6, hcl6, nck_p]) (by simp (disch := first | omega | assumption | (simp only [bZ, stOk, Nat.reduceBEq, Nat.reduceEqDiff, Nat.reduceAdd] <;> omega) | ((try apply has_setN); apply has_ofL; simp only [bxL]; omega)) only [↓bxD, bA, Nat.reduceBEq, reduceCtorEq, Nat.reduceAdd, Nat.reduceSub, Nat.reduceMul, Nat.reduceLeDiff, Nat.reduceLT, h0, h3, h4, h4', h6, h7, kk6, hb61, hst6, hcl6, nck_p, get_set]) (by simp only [bxP, bxQ, bxQ2, reduceCtorEq, h0, h3, h4, h4', h6, h7, kk6, hb61, hst6, hcl6, nck_p]) (by simp only [bxP, bxQ, bxQ2, reduceCtorEq, h0, h3, h4, h4', h6, h7, kk6, hb61, hst6, hcl6, nck_p]) (by simp only [bxP, bxQ, bxQ2, reduceCtorEq, h0, h3, h4, h4', h6, h7, kk6, hb61, hst6, hcl6, nck_p]) ((Chg.of hx6).set _ (.inl rfl)) (set_same _ _) (A6.set' 1 _ (by simp) rfl) ?_
    rw [hfi]
    exact hm6.chg3 ((Chg.refl (fun j => j = M1.n) M6).set _ (.inl rfl)) (fun j hj => ⟨c6, by rw [hj]; exact kk6⟩)
  ·have hil : i = ks.length := by omega
   obtain ⟨fv, lv, c6, g6, A6, nf, nl⟩ := hP
   have hG : Ev.getN c6 3 0 = some [.b p.null, fv, lv] := A6.getN
   have hst := part_st nf nl p.null
   have hcl : ∀ n : Bool, MV.cells (.ag [.b n, fv, lv]) = [.b n, fv, lv] := fun _ => rfl
   have hz : hasB (ofL zP 0) 3 0 = true := rfl
   have g4' := hF.old _ _ _ (by omega) g4 (.inl rfl)
   rw [hil, List.drop_length, catM] at hcat
   simp (disch := first | omega | assumption | (simp only [bZ, stOk, Nat.reduceBEq, Nat.reduceEqDiff, Nat.reduceAdd] <;> omega) | ((try apply has_setN); apply has_ofL; simp only [bxL]; omega)) only [↓bxD, bA, Nat.reduceBEq, reduceCtorEq, Nat.reduceAdd, Nat.reduceSub, Nat.reduceMul, Nat.reduceLeDiff, Nat.reduceLT, h0, h3, h4, h4', h6, g6, g4', hG, hst, hcl, hz, getN3, res_cN, cNV_p, cNo_cs, get_set, nck_p, Option.map_some]
   show Wp fns K32_7 _ _ _
   unfold K32_7
   simp (disch := first | omega | assumption | (simp only [bZ, stOk, Nat.reduceBEq, Nat.reduceEqDiff, Nat.reduceAdd] <;> omega) | ((try apply has_setN); apply has_ofL; simp only [bxL]; omega)) only [↓bxD, bA, Nat.reduceBEq, reduceCtorEq, Nat.reduceAdd, Nat.reduceSub, Nat.reduceMul, Nat.reduceLeDiff, Nat.reduceLT, h0, h3, h4, h4', h6, g6, g4', hG, hst, hcl, hz, getN3, res_cN, cNV_p, cNo_cs, get_set, nck_p, Option.map_some]
   rw [hcat]
   exact walk_fin (x1 := x1) (x2 := x2) (x3 := x3) (px := px) (q := (p, s)) ((Chg.refl (fun j => j = M.n + 1) M').set _ (.inl rfl)) (fun j hj => ⟨by omega, ofL zP 0, by rw [hj]; exact g4'⟩) hbn ((FrW.of hW.ext).trans hF) hD nf nl
 ·refine ⟨Nat.zero_le _, by simp only [bxP, bxQ, bxQ2, reduceCtorEq, h0, h3, h4, h4', g3, g4, c0, c14, c5, k1, k2, dl, d1, d2, ff, nck_p, Option.map_some], by simp only [bxP, bxQ, bxQ2, reduceCtorEq, h0, h3, h4, h4', g3, g4, c0, c14, c5, k1, k2, dl, d1, d2, ff, nck_p, Option.map_some], by simp (disch := first | omega | assumption | (simp only [bZ, stOk, Nat.reduceBEq, Nat.reduceEqDiff, Nat.reduceAdd] <;> omega) | ((try apply has_setN); apply has_ofL; simp only [bxL]; omega)) only [↓bxD, bA, Nat.reduceBEq, reduceCtorEq, Nat.reduceAdd, Nat.reduceSub, Nat.reduceMul, Nat.reduceLeDiff, Nat.reduceLT, h0, h3, h4, h4', g3, g4, c0, c14, c5, k1, k2, dl, d1, d2, ff, nck_p, Option.map_some, get_set], by simp only [bxP, bxQ, bxQ2, reduceCtorEq, h0, h3, h4, h4', g3, g4, c0, c14, c5, k1, k2, dl, d1, d2, ff, nck_p, Option.map_some], by simp only [bxP, bxQ, bxQ2, reduceCtorEq, h0, h3, h4, h4', g3, g4, c0, c14, c5, k1, k2, dl, d1, d2, ff, nck_p, Option.map_some] <;> rfl, .of x12, by omega, p0M, st, hP2, hD2, .zero _ _, rfl, hc⟩
theorem walk_alt {Mb M : MH} {px : Nat} {x1 x2 x3 : MV} {st : Bs} {a b c d : Int} {ks : List Rx} {v : MV} (hlo : Mb.lo ≤ Mb.n) (hI : ∀ y ∈ ks, WkIH Mb px x1 x2 x3 y) (hds : Ds Mb M px x1 x2 x3 st) (hX : XAt Mb v (.mk 3 a b c d ks)) (hne0 : ks ≠ []) (hkl : ks.length ≤ 1000000000) (hc : st.sets.length + cntL ks ≤ 150) : Cp fns 32 [.p px 0, v] M (WkPost Mb px x1 x2 x3 (altM ks ⟨false, 0, 0⟩ st) M) := by
 obtain ⟨kv, rfl, k1, k2, k3⟩ := hX
 refine walk_in hlo hds fun f M1 t hW => ?_
 obtain ⟨hlo1, hlo2, c0, c14, c5⟩ := hW.cells hlo
 have n1 := hW.n
 have lM := hW.ext.lo
 have g3 := hW.g3
 have g4 := hW.g4
 have h0 := hW.h0
 have h3 := hW.h3
 have h4 := hW.h4
 have h4' := ev_get h4
 have hbn := hW.bn
 have hpn : px < M.n := hds.bl.2.1
 simp only [q0, q3, q4] at h0 h3 h4 h4'
 have hlpos : 0 < ks.length := List.length_pos_iff.2 hne0
 have dl : decide ((ks.length : Int) = 0) = false := decide_eq_false (by omega)
 have d1 : decide ((3 : Int) = 1) = false := rfl
 have d2 : decide ((3 : Int) = 2) = false := rfl
 have d3 : decide ((3 : Int) = 3) = true := rfl
 have hz' : hasB (ofL [.b false, .nils, .nils] 0) 3 0 = true := rfl
 unfold B32
 simp only [tl]
 simp (disch := first | omega | assumption) only [↓bxD, bA, reduceCtorEq, h0, h3, h4, h4', g3, g4, c0, c14, c5, k1, k2, dl, d1, d2, d3, nck_p, Option.map_some]
 show Wp fns K32_1 _ _ _
 unfold K32_1
 simp (disch := first | omega | assumption) only [↓bxD, bA, reduceCtorEq, h0, h3, h4, h4', g3, g4, c0, c14, c5, k1, k2, dl, d1, d2, d3, nck_p, Option.map_some]
 show Wp fns K32_17 _ _ _
 unfold K32_17
 simp (disch := first | omega | assumption) only [↓bxD, bA, reduceCtorEq, h0, h3, h4, h4', g3, g4, c0, c14, c5, k1, k2, dl, d1, d2, d3, nck_p, Option.map_some]
 generalize hM2 : M1.push _ = M2
 have x12 : Ext M1 M2 := by rw [← hM2]; exact .push M1 _
 have g62 : M2.get M1.n = some (.cs false 3 (ofL [.b false, .nils, .nils] 0)) := by rw [← hM2]; exact push_new _
 have n2 : M2.n = M1.n + 1 := by rw [← hM2]; rfl
 clear hM2
 have A62 := at_ofL [MV.b false, .nils, .nils]
 generalize ofL [MV.b false, .nils, .nils] 0 = c62 at A62 g62
 have hD2 := hW.ds.more x12
 have e0 : bitsOf 0 150 = [] := by unfold bitsOf; simp
 have hP2 : PtAt Mb M2 M1.n ⟨false, 0, 0⟩ := ⟨.nils, .nils, c62, g62, A62, by show NrAt _ _ _ (bitsOf 0 150); rw [e0]; exact .nil _ _, by show NrAt _ _ _ (bitsOf 0 150); rw [e0]; exact .nil _ _⟩
 have hEx : Ext Mb M1 := by obtain ⟨cc, sv, fv, fs, hO⟩ := hW.ds; exact hO.ext
 have en1 := hEx.n
 have el1 := hEx.lo
 refine Wp_inv (σ := Nat) (fun i f M' => i ≤ ks.length ∧ X.ev f (.t q0) = .p px 0 ∧ X.ev f (.t q3) = .p M.n 0 ∧ f.get q4 = some (.p (M.n + 1) 0) ∧ X.ev f (.t q9) = .p M1.n 0 ∧ X.ev f (.t q10) = .i .i64 (i : Int) ∧ FrW M1 M' ∧ M1.n < M'.n ∧ ∃ p s, PtAt Mb M' M1.n p ∧ Ds Mb M' px x1 x2 x3 s ∧ InP p s.sets.length ∧ altM ks ⟨false, 0, 0⟩ st = altM (ks.drop i) p s ∧ s.sets.length + cntL (ks.drop i) ≤ 150) (fun i => ks.length - i) ?_ 0 ?_
 ·rintro i f M' ⟨hi, h0, h3, h4, h6, h7, hF, hn6, p, s, hP, hD, hin, hcat, hcb⟩
  have h4' := ev_get h4
  simp only [q0, q3, q4, q9, q10] at h0 h3 h4 h4' h6 h7
  have g3' := hF.old _ _ _ (by omega) g3 (.inr (.inl rfl))
  have l1 := hF.lo
  unfold L32_10
  simp (disch := first | omega | assumption) only [↓bxD, bA, reduceCtorEq, h0, h3, h4, h4', h6, h7, g3', c5, k1, k2, nck_p]
  refine condP_split (fun hlt => ?_) (fun hge => ?_)
  ·have hi' : i < ks.length := by omega
   obtain ⟨k, hk⟩ : ∃ k, ks[i]? = some k := ⟨_, List.getElem?_eq_getElem hi'⟩
   have hdk : ks.drop i = k :: ks.drop (i + 1) := by
    rw [List.drop_eq_getElem_cons hi']; congr 1
    rw [List.getElem?_eq_getElem hi'] at hk; exact Option.some.inj hk
   have hkm : k ∈ ks := List.mem_of_getElem? hk
   rw [hdk] at hcat hcb
   rw [cntL] at hcb
   rw [altM] at hcat
   have hN := NodesAt.get k3 hk
   obtain ⟨tk, vk, gk, nk, xk⟩ := NodeAt.xat hN
   have hsl := (NodeAt.rw hN).2
   have gk1 : M'.get (sid kv) = some (.cs false 6 tk) := by
    obtain ⟨cc, sv, fv, fs, hO⟩ := hD
    exact (hO.ext.old _ hsl).trans gk
   simp (disch := first | omega | assumption) only [↓bxD, bA, reduceCtorEq, h0, h3, h4, h4', h6, h7, g3', c5, k1, k2, nck_p]
   show Wp fns K32_9 _ _ _
   unfold K32_9
   simp (disch := first | omega | assumption) only [↓bxD, bA, reduceCtorEq, h0, h3, h4, h4', h6, h7, g3', c5, k1, k2, nck_p, gk1, nk, hi', Option.map_some]
   refine bindP_call (hI k hkm M' s vk hD xk (by omega)) ?_
   have hlen : (partM k s).2.sets.length = s.sets.length + cnt k := partM_len k s
   have hinq := partM_in k s
   generalize partM k s = q at hlen hinq hcat ⊢
   rintro m M3 ⟨fw, lw, rfl, hf, hl, hD3, hF3⟩
   have nn3 := hF3.n
   have ll3 := hF3.lo
   have hP3 := hP.fr hn6 hF3
   have hst := part_st hf hl q.1.null
   have hcl : ∀ n : Bool, MV.cells (.ag [.b n, fw, lw]) = [.b n, fw, lw] := fun _ => rfl
   have hds1 : stW (M3.push (MO.cs false 3 (ofL [MV.b false, MV.nils, MV.nils] 0))) 3 M3.n 0 (.ag [.b q.1.null, fw, lw]) (some (MO.cs false 3 (ofL [MV.b false, MV.nils, MV.nils] 0))) = some (.u, (M3.push (MO.cs false 3 (ofL [MV.b false, MV.nils, MV.nils] 0))).set M3.n (some (.cs false 3 (setN [.b q.1.null, fw, lw] 0 (ofL [MV.b false, MV.nils, MV.nils] 0))))) := stW_ok (M := M3.push _) (by show M3.lo ≤ M3.n; omega) hst hz'
   obtain ⟨fv, lv, c6, g6, A6, nf, nl⟩ := hP3
   have a61 : cget c6 1 = some fv := A6 1 _ rfl
   have a62 : cget c6 2 = some lv := A6 2 _ rfl
   have a60 : cget c6 0 = some (.b p.null) := A6 0 _ rfl
   simp (disch := first | omega | assumption) only [↓bxD, bA, Nat.reduceBEq, reduceCtorEq, Nat.reduceAdd, Nat.reduceSub, Nat.reduceMul, Nat.reduceLeDiff, Nat.reduceLT, h0, h3, h4, h4', h6, h7, hst, hcl, hz', g6, a60, a61, a62, nck_p, hds1]
   generalize hM4 : MH.set _ _ _ = M4
   have x34 : Ext M3 M4 := by rw [← hM4]; exact (Ext.push M3 _).set _ (Nat.le_refl _)
   have g8 : M4.get M3.n = some (.cs false 3 (setN [.b q.1.null, fw, lw] 0 (ofL [MV.b false, MV.nils, MV.nils] 0))) := by rw [← hM4]; exact set_same _ _
   have n4 : M4.n = M3.n + 1 := by rw [← hM4]; rfl
   have l4 := x34.lo
   clear hM4
   have A8 := at_setN [.b q.1.null, fw, lw] 0 (ofL [MV.b false, MV.nils, MV.nils] 0)
   generalize setN [.b q.1.null, fw, lw] 0 (ofL [MV.b false, MV.nils, MV.nils] 0) = c8 at A8 g8
   have a81 : cget c8 1 = some fw := A8 1 _ rfl
   have F34 : FrW M3 M4 := .of x34
   have k6 := F34.old _ _ _ (by omega) g6 (.inl rfl)
   have hb61 : hasB c6 1 1 = true := has_at A6 (by omega) (by simp)
   have bb := hD3.bl
   have a82 : cget c8 2 = some lw := A8 2 _ rfl
   have a80 : cget c8 0 = some (.b q.1.null) := A8 0 _ rfl
   refine bindP_call (union_nr hlo (by omega) (by omega) (nf.fr F34) (hf.fr F34)) ?_
   rintro m M5 ⟨hx5, hm5⟩
   have lo5 := hx5.lo
   have n5 := hx5.n
   obtain ⟨hst5, hcl5⟩ := nr_st hm5
   have k65 := (hx5.old M1.n (by omega)).trans k6
   have k85 := (hx5.old M3.n (by omega)).trans g8
   simp (disch := first | omega | assumption) only [↓bxD, bA, Nat.reduceBEq, reduceCtorEq, Nat.reduceAdd, Nat.reduceSub, Nat.reduceMul, Nat.reduceLeDiff, Nat.reduceLT, h0, h3, h4, h4', h6, h7, k65, k85, a60, a61, a62, a80, a81, a82, hb61, hst5, hcl5, nck_p]
   generalize hM6 : MH.set _ _ _ = M6
   have C56 : Chg (fun j => j = M1.n) M5 M6 := by rw [← hM6]; exact (Chg.refl (fun j => j = M1.n) M5).set _ (.inl rfl)
   have k66 : M6.get M1.n = some (.cs false 3 (setN [m] 1 c6)) := by rw [← hM6]; exact set_same _ _
   clear hM6
   have A66 : At (setN [m] 1 c6) 0 [.b p.null, m, lv] := A6.set' 1 _ (by simp) rfl
   have n6 := C56.n
   have l6 := C56.lo
   have hS5 : ∀ j, j = M1.n → ∃ c, M5.get j = some (.cs false 3 c) := fun j hj => ⟨c6, by rw [hj]; exact k65⟩
   have k86 := (C56.old M3.n (by omega) (by omega)).trans k85
   have F35 : FrW M3 M5 := F34.trans (.of hx5)
   refine bindP_call (union_nr hlo (by omega) (by omega) ((nl.fr F35).chg3 C56 hS5) ((hl.fr F35).chg3 C56 hS5)) ?_
   rintro m2 M7 ⟨hx7, hm7⟩
   have lo7 := hx7.lo
   have n7 := hx7.n
   obtain ⟨hst7, hcl7⟩ := nr_st hm7
   generalize setN [m] 1 c6 = d6 at A66 k66
   have k67 := (hx7.old M1.n (by omega)).trans k66
   have k87 := (hx7.old M3.n (by omega)).trans k86
   have b60 : cget d6 0 = some (.b p.null) := A66 0 _ rfl
   have hb62 : hasB d6 1 2 = true := has_at A66 (by omega) (by simp)
   have A67 : At (setN [m2] 2 d6) 0 [.b p.null, m, m2] := A66.set' 2 _ (by simp) rfl
   have b70 : cget (setN [m2] 2 d6) 0 = some (.b p.null) := A67 0 _ rfl
   have hb70 : hasB (setN [m2] 2 d6) 1 0 = true := has_at A67 (by omega) (by simp)
   have hcb : ∀ b : Bool, MV.cells (.b b) = [.b b] := fun _ => rfl
   have hqin : InP (altP p q.1) q.2.sets.length := (hin.le (by omega)).alt hinq
   have F15 : FrW M1 M5 := (hF.trans hF3).trans F35
   have C57 : Chg (fun j => j = M1.n) M5 M7 := C56.trans (.of hx7)
   have hD7 := (hD3.more (x34.trans hx5)).chg3 C57 (fun j hj => ⟨by omega, hS5 j hj⟩)
   have hS7 : ∀ j, j = M1.n → ∃ c, M7.get j = some (.cs false 3 c) := fun j hj => ⟨d6, by rw [hj]; exact k67⟩
   have hm57 := (hm5.chg3 C56 hS5).fr (.of hx7)
   have fin : ∀ (M8 : MH) (b : Bool), b = (p.null || q.1.null) → M8 = (M7.set M1.n (some (.cs false 3 (setN [m2] 2 d6)))).set M1.n (some (.cs false 3 (setN [.b b] 0 (setN [m2] 2 d6)))) → FrW M1 M8 ∧ M1.n < M8.n ∧ PtAt Mb M8 M1.n (altP p q.1) ∧ Ds Mb M8 px x1 x2 x3 q.2 := by
    rintro M8 b rfl hM8
    have C78 : Chg (fun j => j = M1.n) M7 M8 := by rw [hM8]; exact ((Chg.refl (fun j => j = M1.n) M7).set _ (.inl rfl)).set _ (.inl rfl)
    have n8 := C78.n
    have C58 := C57.trans C78
    refine ⟨⟨by omega, C58.lo.trans F15.lo, fun j sz c hj e w => ?_⟩, by omega, ⟨m, m2, _, by rw [hM8]; exact set_same _ _, A67.set' 0 _ (by simp) rfl, hm57.chg3 C78 hS7, hm7.chg3 C78 hS7⟩, hD7.chg3 C78 (fun j hj => ⟨by omega, hS7 j hj⟩)⟩
    rw [C58.old j (by have := F15.n; omega) (by omega)]
    exact F15.old j sz c hj e w
   cases hpn : p.null with
   | false =>
    rw [hpn] at b60 b70 fin
    simp (disch := first | omega | assumption | (simp only [bZ, stOk, Nat.reduceBEq, Nat.reduceEqDiff, Nat.reduceAdd] <;> omega) | ((try apply has_setN); apply has_ofL; simp only [bxL]; omega)) only [↓bxD, bA, Nat.reduceBEq, reduceCtorEq, Nat.reduceAdd, Nat.reduceSub, Nat.reduceMul, Nat.reduceLeDiff, Nat.reduceLT, h0, h3, h4, h4', h6, h7, k67, k87, b60, b70, a80, hb62, hb70, hst7, hcl7, hcb, nck_p]
    show Wp fns K32_8 _ _ _
    unfold K32_8
    simp (disch := first | omega | assumption) only [↓bxD, bA, reduceCtorEq, h0, h3, h4, h4', h6, h7, k67, k87, b60, b70, a80, hb62, hb70, hst7, hcl7, hcb, nck_p]
    obtain ⟨z1, z2, z3, z4⟩ := fin _ q.1.null rfl rfl
    exact ⟨i + 1, by omega, by omega, by simp (disch := first | omega | assumption) only [↓bxD, bA, reduceCtorEq, h0, h3, h4, h4', h6, h7, k67, k87, b60, b70, a80, hb62, hb70, hst7, hcl7, hcb, nck_p, get_set], rfl, z1, z2, _, _, z3, z4, hqin, hcat, by omega⟩
   | true =>
    rw [hpn] at b60 b70 fin
    simp (disch := first | omega | assumption | (simp only [bZ, stOk, Nat.reduceBEq, Nat.reduceEqDiff, Nat.reduceAdd] <;> omega) | ((try apply has_setN); apply has_ofL; simp only [bxL]; omega)) only [↓bxD, bA, Nat.reduceBEq, reduceCtorEq, Nat.reduceAdd, Nat.reduceSub, Nat.reduceMul, Nat.reduceLeDiff, Nat.reduceLT, h0, h3, h4, h4', h6, h7, k67, k87, b60, b70, a80, hb62, hb70, hst7, hcl7, hcb, nck_p]
    show Wp fns K32_8 _ _ _
    unfold K32_8
    simp (disch := first | omega | assumption) only [↓bxD, bA, reduceCtorEq, h0, h3, h4, h4', h6, h7, k67, k87, b60, b70, a80, hb62, hb70, hst7, hcl7, hcb, nck_p]
    obtain ⟨z1, z2, z3, z4⟩ := fin _ true rfl rfl
    exact ⟨i + 1, by omega, by omega, by simp (disch := first | omega | assumption) only [↓bxD, bA, reduceCtorEq, h0, h3, h4, h4', h6, h7, k67, k87, b60, b70, a80, hb62, hb70, hst7, hcl7, hcb, nck_p, get_set], rfl, z1, z2, _, _, z3, z4, hqin, hcat, by omega⟩
  ·have hil : i = ks.length := by omega
   obtain ⟨fv, lv, c6, g6, A6, nf, nl⟩ := hP
   have hG : Ev.getN c6 3 0 = some [.b p.null, fv, lv] := A6.getN
   have hst := part_st nf nl p.null
   have hcl : ∀ n : Bool, MV.cells (.ag [.b n, fv, lv]) = [.b n, fv, lv] := fun _ => rfl
   have hz : hasB (ofL zP 0) 3 0 = true := rfl
   have g4' := hF.old _ _ _ (by omega) g4 (.inl rfl)
   rw [hil, List.drop_length, altM] at hcat
   simp (disch := first | omega | assumption) only [↓bxD, bA, reduceCtorEq, h0, h3, h4, h4', h6, g6, g4', hG, hst, hcl, hz, getN3, res_cN, cNV_p, cNo_cs, get_set, nck_p, Option.map_some]
   show Wp fns K32_11 _ _ _
   unfold K32_11
   simp (disch := first | omega | assumption) only [↓bxD, bA, reduceCtorEq, h0, h3, h4, h4', h6, g6, g4', hG, hst, hcl, hz, getN3, res_cN, cNV_p, cNo_cs, get_set, nck_p, Option.map_some]
   rw [hcat]
   exact walk_fin (x1 := x1) (x2 := x2) (x3 := x3) (px := px) (q := (p, s)) ((Chg.refl (fun j => j = M.n + 1) M').set _ (.inl rfl)) (fun j hj => ⟨by omega, ofL zP 0, by rw [hj]; exact g4'⟩) hbn ((FrW.of hW.ext).trans hF) hD nf nl
 ·refine ⟨Nat.zero_le _, by simp only [bA, reduceCtorEq, h0, h3, h4, h4', g3, g4, c0, c14, c5, k1, k2, dl, d1, d2, d3, nck_p, Option.map_some], by simp only [bA, reduceCtorEq, h0, h3, h4, h4', g3, g4, c0, c14, c5, k1, k2, dl, d1, d2, d3, nck_p, Option.map_some], by simp (disch := first | omega | assumption) only [↓bxD, bA, reduceCtorEq, h0, h3, h4, h4', g3, g4, c0, c14, c5, k1, k2, dl, d1, d2, d3, nck_p, Option.map_some, get_set], by simp only [bA, reduceCtorEq, h0, h3, h4, h4', g3, g4, c0, c14, c5, k1, k2, dl, d1, d2, d3, nck_p, Option.map_some], by simp only [bA, reduceCtorEq, h0, h3, h4, h4', g3, g4, c0, c14, c5, k1, k2, dl, d1, d2, d3, nck_p, Option.map_some] <;> rfl, .of x12, by omega, ⟨false, 0, 0⟩, st, hP2, hD2, .zero _ _, rfl, hc⟩
theorem walk_any {Mb : MH} {px : Nat} {x1 x2 x3 : MV} (hlo : Mb.lo ≤ Mb.n) : ∀ (n : Nat) (x : Rx), wei x ≤ n → n ≤ 1000000000 → WkIH Mb px x1 x2 x3 x
 | 0, x, hw, _ => by obtain ⟨op, a, b, c, d, kids⟩ := x; rw [wei] at hw; omega
 | n + 1, .mk op a b c d kids, hw, hn1 => by
  intro M st v hds hX hc
  have hX0 := hX
  obtain ⟨kv, rfl, k1, k2, k3⟩ := hX0
  rw [wei] at hw
  have hkl := wei_len kids
  have ih : ∀ y ∈ kids, WkIH Mb px x1 x2 x3 y := fun y hy => by
   obtain ⟨i, hi⟩ := List.mem_iff_getElem?.1 hy
   have := wei_mem hi
   exact walk_any hlo n y (by omega) (by omega)
  rw [partM_doc]
  unfold docM
  rw [cnt] at hc
  by_cases h1 : op = 1
  ·subst h1
   rw [if_pos rfl] at hc ⊢
   exact walk_set hlo hds (by omega)
  rw [if_neg h1] at hc ⊢
  by_cases hk : kids = []
  ·subst hk
   have hno : ∀ q : Pm × Bs, q = (p0M, st) → Cp fns 32 [.p px 0, .ag [.i .i64 op, .i .u64 a, .i .u64 b, .i .u64 c, .i .u64 d, kv]] M (WkPost Mb px x1 x2 x3 q M) := by
    rintro q rfl
    refine walk_no hlo hds ?_
    by_cases ho : 2 ≤ op ∧ op ≤ 6
    ·exact .inr ⟨ho.1, ho.2, k1, k2⟩
    ·exact .inl (by omega)
   refine hno _ ?_
   split
   ·rw [catM]
   split
   ·exact if_pos rfl
   split
   ·rw [rep1M]
   ·rfl
  by_cases h2 : op = 2
  ·subst h2
   rw [if_pos (.inl rfl)] at hc
   rw [if_pos rfl]
   exact walk_cat hlo ih hds hX hk (by omega) hc
  rw [if_neg h2]
  by_cases h3 : op = 3
  ·subst h3
   rw [if_pos (.inr rfl)] at hc
   rw [if_pos rfl, if_neg hk]
   exact walk_alt hlo ih hds hX hk (by omega) hc
  rw [if_neg h3]
  rw [if_neg (fun h => h.elim h2 h3)] at hc
  by_cases h4 : op = 4 ∨ op = 5 ∨ op = 6
  ·rw [if_pos h4] at hc ⊢
   cases kids with
   | nil => exact (hk rfl).elim
   | cons k r =>
    rw [cnt1] at hc
    rw [rep1M]
    exact walk_rep hlo (ih k List.mem_cons_self) hds hX h4 hc
  ·rw [if_neg h4]
   refine walk_no hlo hds (.inl ?_)
   omega
def rv (op a b c d : Int) (kv : MV) : List MV := [.i .i64 op, .i .u64 a, .i .u64 b, .i .u64 c, .i .u64 d, kv]
theorem cnt_lk' (op a b c d : Int) (ks : List Rx) (h : op ≠ 1) : cnt (.mk op a b c d ks) = cntL (Rx.mk op a b c d ks).lk := by
 by_cases hl : (Rx.mk op a b c d ks).lk = []
 ·rw [cnt_leaf hl, hl]
  show (if op = 1 then 1 else 0) = 0
  rw [if_neg h]
 ·exact cnt_lk hl
theorem cntL_take : ∀ {l : List Rx} {i : Nat} {k : Rx}, l[i]? = some k → cntL (l.take (i + 1)) = cntL (l.take i) + cnt k
 | [], _, _, h => by simp at h
 | x :: r, 0, k, h => by
  rw [List.getElem?_cons_zero, Option.some.injEq] at h
  subst h
  simp [cntL]
 | x :: r, i + 1, k, h => by
  rw [List.getElem?_cons_succ] at h
  rw [List.take_succ_cons, List.take_succ_cons, cntL, cntL, cntL_take h]
  omega
theorem cnt_wei : ∀ (n : Nat) (x : Rx), wei x ≤ n → cnt x ≤ n
 | 0, .mk op a b c d ks, h => by rw [wei] at h; omega
 | n + 1, .mk op a b c d ks, h => by
  rw [wei] at h
  have hL : ∀ l : List Rx, weiL l ≤ n → cntL l ≤ weiL l := fun l => by
   induction l with
   | nil => intro _; rw [cntL]; omega
   | cons k r ih =>
    intro hl
    rw [weiL] at hl
    rw [cntL, weiL]
    have := cnt_wei n k (by omega)
    have := ih (by omega)
    have : cnt k ≤ wei k := by
     obtain ⟨m, hm⟩ : ∃ m, wei k = m := ⟨_, rfl⟩
     by_cases hmn : m < n
     ·exact Nat.le_trans (cnt_wei m k (by omega)) (by omega)
     ·have : wei k = n := by omega
      omega
    omega
  by_cases h1 : op = 1
  ·rw [cnt, if_pos h1]; omega
  ·rw [cnt_lk' op a b c d ks h1, lk_mk]
   split
   ·have := hL ks (by omega); omega
   ·split
    ·cases ks with
     | nil => simp [cntL]
     | cons k r =>
      rw [weiL] at h
      show cntL [k] ≤ _
      rw [cntL, cntL]
      have := cnt_wei n k (by omega)
      omega
    ·rw [cntL]; omega
termination_by n => n
def PlPost (M : MH) (x : Rx) (m : MV) (M' : MH) : Prop := (∃ n : Nat, m = .i .i64 (n : Int) ∧ n ≤ cnt x ∧ (n = cnt x ∨ 150 < n)) ∧ Ext M M'
theorem places_any {Mb : MH} (hlo : Mb.lo ≤ Mb.n) : ∀ (N : Nat) (x : Rx), wei x ≤ N → N ≤ 1000000000 → ∀ (M : MH) (v : MV), Ext Mb M → XAt Mb v x → Cp fns 30 [v] M (PlPost M x)
 | 0, .mk op a b c d ks, hw, _, _, _, _, _ => by rw [wei] at hw; omega
 | N + 1, .mk op a b c d ks, hw, hN, M, v, hE, hX => by
  have hX0 := hX
  obtain ⟨kv, rfl, k1, k2, k3⟩ := hX0
  have hcw := cnt_wei _ (.mk op a b c d ks) (Nat.le_refl _)
  have hwl := wei_lk (.mk op a b c d ks)
  have hkl := wei_len ks
  have en := hE.n
  have el := hE.lo
  have hkw : wei (.mk op a b c d ks) = 2 + weiL ks := by rw [wei]
  have hU : isU (.ag (rv op a b c d kv)) = false := rfl
  have hcl : MV.cells (.ag (rv op a b c d kv)) = rv op a b c d kv := rfl
  have hlen : (rv op a b c d kv).length = 6 := rfl
  refine Cp_call (fn := F30) (by kernel_rfl) (Nat.le_of_ble_eq_true rfl) ?_
  show Wp fns B30 (T.set q0 (some (.ag (rv op a b c d kv))) T.lf) M _
  unfold B30
  have hat := at_ofL (rv op a b c d kv)
  have c0 : cget (ofL (rv op a b c d kv) 0) 0 = some (.i .i64 op) := hat 0 _ rfl
  have c5 : cget (ofL (rv op a b c d kv) 0) 5 = some kv := hat 5 _ rfl
  by_cases h1 : op = 1
  ·subst h1
   have d1 : decide ((1 : Int) = 1) = true := rfl
   simp (disch := first | omega | assumption) only [↓bxD, bA, reduceCtorEq, hU, hcl, hlen, c0, c5, d1]
   exact ⟨⟨1, rfl, by rw [cnt, if_pos rfl]; omega, .inl (by rw [cnt, if_pos rfl])⟩, .push M _⟩
  have d1 : decide (op = 1) = false := decide_eq_false h1
  rw [cnt_lk' op a b c d ks h1] at hcw
  by_cases h26 : op < 2 ∨ 6 < op
  ·have hz : cnt (.mk op a b c d ks) = 0 := by rw [cnt_lk' op a b c d ks h1, lk_mk, if_neg (by omega), if_neg (by omega), cntL]
   have fin : ∀ M', Ext M M' → PlPost M (.mk op a b c d ks) (.i .i64 0) M' := fun M' h => ⟨⟨0, rfl, by omega, .inl hz.symm⟩, h⟩
   by_cases h2 : op < 2
   ·have d2 : decide (op < 2) = true := decide_eq_true h2
    simp (disch := first | omega | assumption) only [↓bxD, bA, reduceCtorEq, hU, hcl, hlen, c0, c5, d1, d2]
    show Wp fns K30_5 _ _ _
    unfold K30_5
    simp (disch := first | omega | assumption) only [↓bxD, bA, reduceCtorEq, hU, hcl, hlen, c0, c5, d1, d2]
    exact fin _ (.push M _)
   ·have d2 : decide (op < 2) = false := decide_eq_false h2
    have d6 : decide (6 < op) = true := decide_eq_true (by omega)
    simp (disch := first | omega | assumption) only [↓bxD, bA, reduceCtorEq, hU, hcl, hlen, c0, c5, d1, d2, d6]
    show Wp fns K30_5 _ _ _
    unfold K30_5
    simp (disch := first | omega | assumption) only [↓bxD, bA, reduceCtorEq, hU, hcl, hlen, c0, c5, d1, d2, d6]
    exact fin _ (.push M _)
  have d2 : decide (op < 2) = false := decide_eq_false (by omega)
  have d6 : decide (6 < op) = false := decide_eq_false (by omega)
  simp (disch := first | omega | assumption) only [↓bxD, bA, reduceCtorEq, hU, hcl, hlen, c0, c5, d1, d2, d6]
  show Wp fns K30_5 _ _ _
  unfold K30_5
  simp (disch := first | omega | assumption) only [↓bxD, bA, reduceCtorEq, hU, hcl, hlen, c0, c5, d1, d2, d6]
  show Wp fns K30_4 _ _ _
  unfold K30_4
  simp (disch := first | omega | assumption) only [↓bxD, bA, reduceCtorEq, hU, hcl, hlen, c0, c5, d1, d2, d6]
  generalize hM1 : M.push _ = M1
  have hx1 : Ext M M1 := by rw [← hM1]; exact .push M _
  have g1 : M1.get M.n = some (.cs false 6 (ofL (rv op a b c d kv) 0)) := by rw [← hM1]; exact push_new _
  have n1 : M1.n = M.n + 1 := by rw [← hM1]; rfl
  have l1 := hx1.lo
  clear hM1
  have hll : (Rx.mk op a b c d ks).lk.length ≤ ks.length := by
   rw [lk_mk]; split
   ·omega
   ·split
    ·rw [List.length_take]; omega
    ·exact Nat.zero_le _
  have hget : ∀ (i : Nat) (k : Rx), (Rx.mk op a b c d ks).lk[i]? = some k → ks[i]? = some k := fun i k h => by
   rw [lk_mk] at h
   split at h
   ·exact h
   ·split at h
    ·rw [List.getElem?_take] at h
     split at h
     ·exact h
     ·cases h
    ·simp at h
  have hlk3 : op ≤ 3 → (Rx.mk op a b c d ks).lk.length = ks.length := fun h => by rw [lk_mk, if_pos (by omega)]
  have hlk4 : ¬ op ≤ 3 → (Rx.mk op a b c d ks).lk.length = min 1 ks.length := fun h => by rw [lk_mk, if_neg (by omega), if_pos (by omega), List.length_take]
  have hcnt : cnt (.mk op a b c d ks) = cntL (Rx.mk op a b c d ks).lk := cnt_lk' op a b c d ks h1
  have hmono : ∀ (l : List Rx) i, cntL (l.take i) ≤ cntL l := fun l i => by
   have := cntL_app (l.take i) (l.drop i)
   rw [List.take_append_drop] at this
   omega
  have hwm : ∀ (i : Nat) (k : Rx), ks[i]? = some k → wei k ≤ N := fun i k h => by have := wei_mem h; omega
  generalize (Rx.mk op a b c d ks).lk = lk at hcw hwl hll hget hlk3 hlk4 hcnt
  refine Wp_inv (σ := Nat) (fun i f M' => i ≤ lk.length ∧ X.ev f (.t q1) = .p M.n 0 ∧ X.ev f (.t q4) = .i .i64 (i : Int) ∧ Ext M1 M' ∧ ∃ n : Nat, X.ev f (.t q3) = .i .i64 (n : Int) ∧ n ≤ cntL (lk.take i) ∧ (n = cntL (lk.take i) ∨ 150 < n)) (fun i => lk.length - i) ?_ 0 ?_
  ·rintro i f M' ⟨hi, e1, e4, hx, n, e3, hn1, hn2⟩
   simp only [q1, q3, q4] at e1 e3 e4
   have g' := (hx.old M.n (by omega)).trans g1
   have hm := hmono lk i
   have xn := hx.n
   have xl := hx.lo
   have body : ∀ f, X.ev f (.t q1) = .p M.n 0 → X.ev f (.t q3) = .i .i64 (n : Int) → X.ev f (.t q4) = .i .i64 (i : Int) → i < lk.length → n ≤ 150 → Wp fns K30_1 f M' (fun ex f' M'' => match ex with
     | .norm => ∃ s', lk.length - s' < lk.length - i ∧ s' ≤ lk.length ∧ X.ev f' (.t q1) = .p M.n 0 ∧ X.ev f' (.t q4) = .i .i64 (s' : Int) ∧ Ext M1 M'' ∧ ∃ n : Nat, X.ev f' (.t q3) = .i .i64 (n : Int) ∧ n ≤ cntL (lk.take s') ∧ (n = cntL (lk.take s') ∨ 150 < n)
     | ex => blockQ 0 (thenQ fns K30_3 (retQ F30 (PlPost M (.mk op a b c d ks)))) ex f' M'') := by
    intro f e1 e3 e4 hi' hn150
    simp only [q1, q3, q4] at e1 e3 e4
    obtain ⟨k, hk⟩ : ∃ k, lk[i]? = some k := ⟨_, List.getElem?_eq_getElem hi'⟩
    have hkk := hget i k hk
    have hN := NodesAt.get k3 hkk
    obtain ⟨tk, vk, gk, nk, xk⟩ := NodeAt.xat hN
    have hsl := (NodeAt.rw hN).2
    have gk1 : M'.get (sid kv) = some (.cs false 6 tk) := ((hE.trans (hx1.trans hx)).old _ hsl).trans gk
    have hii : i < ks.length := by omega
    unfold K30_1
    simp (disch := first | omega | assumption) only [↓bxD, bA, reduceCtorEq, e1, e3, e4, g', c0, c5, k1, k2, gk1, nk, hii, nck_p, Option.map_some]
    refine bindP_call (places_any hlo N k (hwm i k hkk) (by omega) M' vk (hE.trans (hx1.trans hx)) xk) ?_
    rintro m M2 ⟨⟨n', rfl, w1, w2⟩, hx2⟩
    have hct := cntL_take hk
    have hm1 := hmono lk (i + 1)
    simp (disch := first | omega | assumption) only [↓bxD, bA, reduceCtorEq, e1, e3, e4, g', c0, c5, k1, k2, gk1, nk, hii, nck_p, Option.map_some]
    show Wp fns K30_0 _ _ _
    unfold K30_0
    simp (disch := first | omega | assumption) only [↓bxD, bA, reduceCtorEq, e1, e3, e4, g', c0, c5, k1, k2, gk1, nk, hii, nck_p, Option.map_some]
    exact ⟨i + 1, by omega, by omega, rfl, hx.trans hx2, n + n', by rw [Int.natCast_add], by omega, by omega⟩
   have fin : i = lk.length ∨ 150 < n → PlPost M (.mk op a b c d ks) (.i .i64 (n : Int)) M' := fun h => by
    refine ⟨⟨n, rfl, by omega, ?_⟩, hx1.trans hx⟩
    rcases h with h | h
    ·rw [h, List.take_length] at hn2; rw [hcnt]; exact hn2
    ·exact .inr h
   unfold L30_2
   by_cases hA : i < ks.length
   ·have dA : decide ((i : Int) < (ks.length : Int)) = true := decide_eq_true (by omega)
    by_cases hB : i = 0
    ·have dB : decide ((i : Int) = 0) = true := decide_eq_true (by omega)
     by_cases hD : n ≤ 150
     ·have dD : decide ((n : Int) ≤ 150) = true := decide_eq_true (by omega)
      simp (disch := first | omega | assumption) only [↓bxD, bA, reduceCtorEq, e1, e3, e4, g', c0, c5, k1, k2, nck_p, dA, dB, dD]
      refine body _ (by simp only [bA, reduceCtorEq, e1, e3, e4, g', c0, c5, k1, k2, nck_p]) (by simp only [bA, reduceCtorEq, e1, e3, e4, g', c0, c5, k1, k2, nck_p]) (by simp only [bA, reduceCtorEq, e1, e3, e4, g', c0, c5, k1, k2, nck_p]) ?_ hD
      by_cases h3 : op ≤ 3
      ·rw [hlk3 h3]; exact hA
      ·rw [hlk4 h3]; omega
     ·have dD : decide ((n : Int) ≤ 150) = false := decide_eq_false (by omega)
      simp (disch := first | omega | assumption) only [↓bxD, bA, reduceCtorEq, e1, e3, e4, g', c0, c5, k1, k2, nck_p, dA, dB, dD]
      show Wp fns K30_3 _ _ _
      unfold K30_3
      simp (disch := first | omega | assumption) only [↓bxD, bA, reduceCtorEq, e1, e3, e4, g', c0, c5, k1, k2, nck_p]
      exact fin (.inr (by omega))
    ·have dB : decide ((i : Int) = 0) = false := decide_eq_false (by omega)
     by_cases h3 : op ≤ 3
     ·have dC : decide (op ≤ 3) = true := decide_eq_true h3
      by_cases hD : n ≤ 150
      ·have dD : decide ((n : Int) ≤ 150) = true := decide_eq_true (by omega)
       simp (disch := first | omega | assumption) only [↓bxD, bA, reduceCtorEq, e1, e3, e4, g', c0, c5, k1, k2, nck_p, dA, dB, dC, dD]
       exact body _ (by simp only [bA, reduceCtorEq, e1, e3, e4, g', c0, c5, k1, k2, nck_p]) (by simp only [bA, reduceCtorEq, e1, e3, e4, g', c0, c5, k1, k2, nck_p]) (by simp only [bA, reduceCtorEq, e1, e3, e4, g', c0, c5, k1, k2, nck_p]) (by rw [hlk3 h3]; exact hA) hD
      ·have dD : decide ((n : Int) ≤ 150) = false := decide_eq_false (by omega)
       simp (disch := first | omega | assumption) only [↓bxD, bA, reduceCtorEq, e1, e3, e4, g', c0, c5, k1, k2, nck_p, dA, dB, dC, dD]
       show Wp fns K30_3 _ _ _
       unfold K30_3
       simp (disch := first | omega | assumption) only [↓bxD, bA, reduceCtorEq, e1, e3, e4, g', c0, c5, k1, k2, nck_p]
       exact fin (.inr (by omega))
     ·have dC : decide (op ≤ 3) = false := decide_eq_false h3
      simp (disch := first | omega | assumption) only [↓bxD, bA, reduceCtorEq, e1, e3, e4, g', c0, c5, k1, k2, nck_p, dA, dB, dC]
      show Wp fns K30_3 _ _ _
      unfold K30_3
      simp (disch := first | omega | assumption) only [↓bxD, bA, reduceCtorEq, e1, e3, e4, g', c0, c5, k1, k2, nck_p]
      exact fin (.inl (by have := hlk4 h3; omega))
   ·have dA : decide ((i : Int) < (ks.length : Int)) = false := decide_eq_false (by omega)
    simp (disch := first | omega | assumption) only [↓bxD, bA, reduceCtorEq, e1, e3, e4, g', c0, c5, k1, k2, nck_p, dA]
    show Wp fns K30_3 _ _ _
    unfold K30_3
    simp (disch := first | omega | assumption) only [↓bxD, bA, reduceCtorEq, e1, e3, e4, g', c0, c5, k1, k2, nck_p]
    refine fin (.inl ?_)
    by_cases h3 : op ≤ 3
    ·have := hlk3 h3; omega
    ·have := hlk4 h3; omega
  ·refine ⟨Nat.zero_le _, by simp only [bA, reduceCtorEq, hU, hcl, hlen, c0, c5, d1, d2, d6], by simp only [bA, reduceCtorEq, hU, hcl, hlen, c0, c5, d1, d2, d6] <;> rfl, .refl _, 0, by simp only [bA, reduceCtorEq, hU, hcl, hlen, c0, c5, d1, d2, d6] <;> rfl, Nat.zero_le _, .inl ?_⟩
   simp [cntL]
theorem deepL_take : ∀ {l : List Rx} {i : Nat} {k : Rx}, l[i]? = some k → deepL (l.take (i + 1)) = max (deepL (l.take i)) (deep k)
 | [], _, _, h => by simp at h
 | x :: r, 0, k, h => by
  rw [List.getElem?_cons_zero, Option.some.injEq] at h
  subst h
  simp [deepL]
 | x :: r, i + 1, k, h => by
  rw [List.getElem?_cons_succ] at h
  rw [List.take_succ_cons, List.take_succ_cons, deepL, deepL, deepL_take h]
  omega
theorem deep_wei : ∀ (n : Nat) (x : Rx), wei x ≤ n → deep x ≤ wei x
 | 0, .mk op a b c d ks, h => by rw [wei] at h; omega
 | n + 1, x, h => by
  have hl := wei_lk x
  have hL : ∀ l : List Rx, weiL l ≤ n → deepL l ≤ weiL l := fun l => by
   induction l with
   | nil => intro _; rw [deepL]; omega
   | cons k r ih =>
    intro hl
    rw [weiL] at hl
    rw [deepL, weiL]
    have := deep_wei n k (by omega)
    have := ih (by omega)
    omega
  rw [deep_lk]
  have := hL x.lk (by omega)
  omega
def DpPost (M : MH) (x : Rx) (m : MV) (M' : MH) : Prop := m = .i .i64 (deep x : Int) ∧ Ext M M'
theorem deep_any {Mb : MH} (hlo : Mb.lo ≤ Mb.n) : ∀ (N : Nat) (x : Rx), wei x ≤ N → N ≤ 1000000000 → ∀ (M : MH) (v : MV), Ext Mb M → XAt Mb v x → Cp fns 31 [v] M (DpPost M x)
 | 0, .mk op a b c d ks, hw, _, _, _, _, _ => by rw [wei] at hw; omega
 | N + 1, .mk op a b c d ks, hw, hN, M, v, hE, hX => by
  have hX0 := hX
  obtain ⟨kv, rfl, k1, k2, k3⟩ := hX0
  have hcw := deep_wei _ (.mk op a b c d ks) (Nat.le_refl _)
  have hwl := wei_lk (.mk op a b c d ks)
  have hkl := wei_len ks
  have en := hE.n
  have el := hE.lo
  have hkw : wei (.mk op a b c d ks) = 2 + weiL ks := by rw [wei]
  have hU : isU (.ag (rv op a b c d kv)) = false := rfl
  have hcl : MV.cells (.ag (rv op a b c d kv)) = rv op a b c d kv := rfl
  have hlen : (rv op a b c d kv).length = 6 := rfl
  refine Cp_call (fn := F31) (by kernel_rfl) (Nat.le_of_ble_eq_true rfl) ?_
  show Wp fns B31 (T.set q0 (some (.ag (rv op a b c d kv))) T.lf) M _
  unfold B31
  have hat := at_ofL (rv op a b c d kv)
  have c0 : cget (ofL (rv op a b c d kv) 0) 0 = some (.i .i64 op) := hat 0 _ rfl
  have c5 : cget (ofL (rv op a b c d kv) 0) 5 = some kv := hat 5 _ rfl
  simp (disch := first | omega | assumption) only [↓bxD, bA, reduceCtorEq, hU, hcl, hlen, c0, c5]
  generalize hM1 : M.push _ = M1
  have hx1 : Ext M M1 := by rw [← hM1]; exact .push M _
  have g1 : M1.get M.n = some (.cs false 6 (ofL (rv op a b c d kv) 0)) := by rw [← hM1]; exact push_new _
  have n1 : M1.n = M.n + 1 := by rw [← hM1]; rfl
  have l1 := hx1.lo
  clear hM1
  have hll : (Rx.mk op a b c d ks).lk.length ≤ ks.length := by
   rw [lk_mk]; split
   ·omega
   ·split
    ·rw [List.length_take]; omega
    ·exact Nat.zero_le _
  have hget : ∀ (i : Nat) (k : Rx), (Rx.mk op a b c d ks).lk[i]? = some k → ks[i]? = some k := fun i k h => by
   rw [lk_mk] at h
   split at h
   ·exact h
   ·split at h
    ·rw [List.getElem?_take] at h
     split at h
     ·exact h
     ·cases h
    ·simp at h
  have hlk3 : 2 ≤ op ∧ op ≤ 3 → (Rx.mk op a b c d ks).lk.length = ks.length := fun h => by rw [lk_mk, if_pos (by omega)]
  have hlk4 : 4 ≤ op ∧ op ≤ 6 → (Rx.mk op a b c d ks).lk.length = min 1 ks.length := fun h => by rw [lk_mk, if_neg (by omega), if_pos (by omega), List.length_take]
  have hlk0 : op < 2 ∨ 6 < op → (Rx.mk op a b c d ks).lk.length = 0 := fun h => by rw [lk_mk, if_neg (by omega), if_neg (by omega)]; rfl
  have hcnt : deep (.mk op a b c d ks) = deepL (Rx.mk op a b c d ks).lk + 1 := deep_lk _
  have hmono : ∀ (l : List Rx) i, deepL (l.take i) ≤ deepL l := fun l i => by
   have := deepL_app (l.take i) (l.drop i)
   rw [List.take_append_drop] at this
   omega
  have hwm : ∀ (i : Nat) (k : Rx), ks[i]? = some k → wei k ≤ N := fun i k h => by have := wei_mem h; omega
  generalize (Rx.mk op a b c d ks).lk = lk at hwl hll hget hlk3 hlk4 hlk0 hcnt
  refine Wp_inv (σ := Nat) (fun i f M' => i ≤ lk.length ∧ X.ev f (.t q1) = .p M.n 0 ∧ X.ev f (.t q4) = .i .i64 (i : Int) ∧ Ext M1 M' ∧ X.ev f (.t q3) = .i .i64 (deepL (lk.take i) : Int)) (fun i => lk.length - i) ?_ 0 ?_
  ·rintro i f M' ⟨hi, e1, e4, hx, e3⟩
   simp only [q1, q3, q4] at e1 e3 e4
   have g' := (hx.old M.n (by omega)).trans g1
   have hm := hmono lk i
   have xn := hx.n
   have xl := hx.lo
   have body : ∀ f, X.ev f (.t q1) = .p M.n 0 → X.ev f (.t q3) = .i .i64 (deepL (lk.take i) : Int) → X.ev f (.t q4) = .i .i64 (i : Int) → i < lk.length → Wp fns K31_1 f M' (fun ex f' M'' => match ex with
     | .norm => ∃ s', lk.length - s' < lk.length - i ∧ s' ≤ lk.length ∧ X.ev f' (.t q1) = .p M.n 0 ∧ X.ev f' (.t q4) = .i .i64 (s' : Int) ∧ Ext M1 M'' ∧ X.ev f' (.t q3) = .i .i64 (deepL (lk.take s') : Int)
     | ex => blockQ 0 (thenQ fns K31_3 (retQ F31 (DpPost M (.mk op a b c d ks)))) ex f' M'') := by
    intro f e1 e3 e4 hi'
    simp only [q1, q3, q4] at e1 e3 e4
    obtain ⟨k, hk⟩ : ∃ k, lk[i]? = some k := ⟨_, List.getElem?_eq_getElem hi'⟩
    have hkk := hget i k hk
    have hN := NodesAt.get k3 hkk
    obtain ⟨tk, vk, gk, nk, xk⟩ := NodeAt.xat hN
    have hsl := (NodeAt.rw hN).2
    have gk1 : M'.get (sid kv) = some (.cs false 6 tk) := ((hE.trans (hx1.trans hx)).old _ hsl).trans gk
    have hii : i < ks.length := by omega
    unfold K31_1
    simp (disch := first | omega | assumption) only [↓bxD, bA, reduceCtorEq, e1, e3, e4, g', c0, c5, k1, k2, gk1, nk, hii, nck_p, Option.map_some]
    refine bindP_call (deep_any hlo N k (hwm i k hkk) (by omega) M' vk (hE.trans (hx1.trans hx)) xk) ?_
    rintro m M2 ⟨rfl, hx2⟩
    have hct := deepL_take hk
    have hm1 := hmono lk (i + 1)
    simp (disch := first | omega | assumption) only [↓bxD, bA, reduceCtorEq, e1, e3, e4]
    refine condP_split (fun hgt => ?_) (fun hle => ?_)
    ·simp (disch := first | omega | assumption) only [↓bxD, bA, reduceCtorEq, e1, e3, e4]
     show Wp fns K31_0 _ _ _
     unfold K31_0
     simp (disch := first | omega | assumption) only [↓bxD, bA, reduceCtorEq, e1, e3, e4]
     exact ⟨i + 1, by omega, by omega, rfl, hx.trans hx2, by rw [hct, Nat.max_eq_right (by omega)]⟩
    ·simp (disch := first | omega | assumption) only [↓bxD, bA, reduceCtorEq, e1, e3, e4]
     show Wp fns K31_0 _ _ _
     unfold K31_0
     simp (disch := first | omega | assumption) only [↓bxD, bA, reduceCtorEq, e1, e3, e4]
     exact ⟨i + 1, by omega, by omega, rfl, hx.trans hx2, by rw [hct, Nat.max_eq_left (by omega)]⟩
   have fin : i = lk.length → DpPost M (.mk op a b c d ks) (.i .i64 ((deepL (lk.take i) : Int) + 1)) M' := fun h => by
    refine ⟨?_, hx1.trans hx⟩
    rw [h, List.take_length, hcnt]
    rfl
   unfold L31_2
   by_cases hA : i < ks.length
   ·have dA : decide ((i : Int) < (ks.length : Int)) = true := decide_eq_true (by omega)
    by_cases h2 : 2 ≤ op
    ·have d2 : decide (2 ≤ op) = true := decide_eq_true h2
     by_cases h6 : op ≤ 6
     ·have d6 : decide (op ≤ 6) = true := decide_eq_true h6
      by_cases hB : i = 0
      ·have dB : decide ((i : Int) = 0) = true := decide_eq_true (by omega)
       simp (disch := first | omega | assumption) only [↓bxD, bA, reduceCtorEq, e1, e3, e4, g', c0, c5, k1, k2, nck_p, dA, d2, d6, dB]
       refine body _ (by simp only [bA, reduceCtorEq, e1, e3, e4, g', c0, c5, k1, k2, nck_p]) (by simp only [bA, reduceCtorEq, e1, e3, e4, g', c0, c5, k1, k2, nck_p]) (by simp only [bA, reduceCtorEq, e1, e3, e4, g', c0, c5, k1, k2, nck_p]) ?_
       by_cases h3 : op ≤ 3
       ·rw [hlk3 ⟨h2, h3⟩]; exact hA
       ·rw [hlk4 (by omega)]; omega
      ·have dB : decide ((i : Int) = 0) = false := decide_eq_false (by omega)
       by_cases h3 : op ≤ 3
       ·have dC : decide (op ≤ 3) = true := decide_eq_true h3
        simp (disch := first | omega | assumption) only [↓bxD, bA, reduceCtorEq, e1, e3, e4, g', c0, c5, k1, k2, nck_p, dA, d2, d6, dB, dC]
        exact body _ (by simp only [bA, reduceCtorEq, e1, e3, e4, g', c0, c5, k1, k2, nck_p]) (by simp only [bA, reduceCtorEq, e1, e3, e4, g', c0, c5, k1, k2, nck_p]) (by simp only [bA, reduceCtorEq, e1, e3, e4, g', c0, c5, k1, k2, nck_p]) (by rw [hlk3 ⟨h2, h3⟩]; exact hA)
       ·have dC : decide (op ≤ 3) = false := decide_eq_false h3
        simp (disch := first | omega | assumption) only [↓bxD, bA, reduceCtorEq, e1, e3, e4, g', c0, c5, k1, k2, nck_p, dA, d2, d6, dB, dC]
        show Wp fns K31_3 _ _ _
        unfold K31_3
        simp (disch := first | omega | assumption) only [↓bxD, bA, reduceCtorEq, e1, e3, e4, g', c0, c5, k1, k2, nck_p]
        exact fin (by have := hlk4 (by omega); omega)
     ·have d6 : decide (op ≤ 6) = false := decide_eq_false h6
      simp (disch := first | omega | assumption) only [↓bxD, bA, reduceCtorEq, e1, e3, e4, g', c0, c5, k1, k2, nck_p, dA, d2, d6]
      show Wp fns K31_3 _ _ _
      unfold K31_3
      simp (disch := first | omega | assumption) only [↓bxD, bA, reduceCtorEq, e1, e3, e4, g', c0, c5, k1, k2, nck_p]
      exact fin (by have := hlk0 (by omega); omega)
    ·have d2 : decide (2 ≤ op) = false := decide_eq_false h2
     simp (disch := first | omega | assumption) only [↓bxD, bA, reduceCtorEq, e1, e3, e4, g', c0, c5, k1, k2, nck_p, dA, d2]
     show Wp fns K31_3 _ _ _
     unfold K31_3
     simp (disch := first | omega | assumption) only [↓bxD, bA, reduceCtorEq, e1, e3, e4, g', c0, c5, k1, k2, nck_p]
     exact fin (by have := hlk0 (by omega); omega)
   ·have dA : decide ((i : Int) < (ks.length : Int)) = false := decide_eq_false (by omega)
    simp (disch := first | omega | assumption) only [↓bxD, bA, reduceCtorEq, e1, e3, e4, g', c0, c5, k1, k2, nck_p, dA]
    show Wp fns K31_3 _ _ _
    unfold K31_3
    simp (disch := first | omega | assumption) only [↓bxD, bA, reduceCtorEq, e1, e3, e4, g', c0, c5, k1, k2, nck_p]
    refine fin ?_
    by_cases h3 : 2 ≤ op ∧ op ≤ 3
    ·have := hlk3 h3; omega
    ·by_cases h4 : 4 ≤ op ∧ op ≤ 6
     ·have := hlk4 h4; omega
     ·have := hlk0 (by omega); omega
  ·refine ⟨Nat.zero_le _, by simp only [bA, reduceCtorEq, hU, hcl, hlen, c0, c5], by simp only [bA, reduceCtorEq, hU, hcl, hlen, c0, c5] <;> rfl, .refl _, ?_⟩
   simp (disch := first | omega | assumption) only [↓bxD, bA, reduceCtorEq, hU, hcl, hlen, c0, c5]
   simp [deepL]
theorem part_len (x : Rx) : (partM x ⟨[], []⟩).2.sets.length = cnt x := by rw [partM_len]; simp
theorem Posits_any {M : MH} {x : Rx} {v : MV} (hlo : M.lo ≤ M.n) (hX : XAt M v x) (hw : wei x ≤ 1000000000) : Cp fns 15 [v] M fun m M' => OfPost M x m M' := by
 obtain ⟨op, a, b, c, d, ks⟩ := x
 have hX0 := hX
 obtain ⟨kv, rfl, k1, k2, k3⟩ := hX0
 have hU : isU (.ag (rv op a b c d kv)) = false := rfl
 have hcl : MV.cells (.ag (rv op a b c d kv)) = rv op a b c d kv := rfl
 have hlen : (rv op a b c d kv).length = 6 := rfl
 refine Cp_call (fn := F15) (by kernel_rfl) (Nat.le_of_ble_eq_true rfl) ?_
 show Wp fns B15 (T.set q0 (some (.ag (rv op a b c d kv))) T.lf) M _
 unfold B15
 have hG0 : Ev.getN (ofL (rv op a b c d kv) 0) 6 0 = some (rv op a b c d kv) := (at_ofL (rv op a b c d kv)).getN
 simp (maxSteps := 4000000) (disch := first | omega | assumption | (simp only [bxS, bxV, stOk, Nat.reduceBEq, Nat.reduceEqDiff, Nat.reduceAdd]; done) | (simp only [bxU]; omega) | ((try apply has_setN); apply has_ofL; simp only [bxL]; omega)) only [↓bxD, bxP, bxQ, bxQ2, Nat.reduceBEq, reduceCtorEq, Nat.reduceAdd, Nat.reduceSub, Nat.reduceMul, Nat.reduceLeDiff, Nat.reduceLT, bxR, hU, hcl, hlen, hG0, Option.map_some]
 have hxx := (Ext.push M (.cs false 6 (ofL (rv op a b c d kv) 0))).trans (.push _ (.cs false 5 (ofL z5 0)))
 refine bindP_call (places_any (Mb := M) hlo _ _ (Nat.le_refl _) hw _ _ hxx hX) ?_
 rintro m M1 ⟨⟨n, rfl, w1, w2⟩, hx1⟩
 have g0 : M1.get M.n = some (.cs false 6 (ofL (rv op a b c d kv) 0)) := (hx1.old M.n (by show M.n < M.n + 1 + 1; omega)).trans ((push_old (show M.n < M.n + 1 by omega)).trans (push_new _))
 have g1 : M1.get (M.n + 1) = some (.cs false 5 (ofL z5 0)) := (hx1.old (M.n + 1) (by show M.n + 1 < M.n + 1 + 1; omega)).trans (push_new (M := M.push _) _)
 have n1 : M.n + 2 ≤ M1.n := hx1.n
 have l1 : M1.lo = M.lo := hx1.lo
 have e1 := hxx.trans hx1
 clear hx1
 have hz5 : hasB (ofL z5 0) 5 0 = true := rfl
 have hz5' : hasB (ofL [MV.nils, .b false, .nils, .nils, .nils] 0) 5 0 = true := rfl
 have hst0 : stOk 5 (.ag z5) = true := rfl
 have hst0' : stOk 5 (.ag [MV.nils, .b false, .nils, .nils, .nils]) = true := rfl
 have hcl0 : MV.cells (.ag [MV.nils, .b false, .nils, .nils, .nils]) = [MV.nils, .b false, .nils, .nils, .nils] := rfl
 have fz : fillM [] [MV.nils, .b false, .nils, .nils, .nils] = some [MV.nils, .b false, .nils, .nils, .nils] := rfl
 have hgz : ∀ (a b c d e : MV), Ev.getN (setN [a, b, c, d, e] 0 (ofL z5 0)) 5 0 = some [a, b, c, d, e] := fun _ _ _ _ _ => getN_setN' rfl
 by_cases h3 : 150 < n
 ·have d3 : decide (150 < (n : Int)) = true := decide_eq_true (by omega)
  simp (disch := first | omega | assumption) only [↓bxD, bA, Nat.reduceBEq, reduceCtorEq, Nat.reduceAdd, Nat.reduceSub, Nat.reduceMul, Nat.reduceLeDiff, Nat.reduceLT, hU, hcl, hlen, hG0, g0, g1, hz5, hz5', hst0, hst0', hcl0, fz, hgz, fill_nil, res_cN, cNV_p, cNo_cs, get_set, Option.map_some, d3]
  exact ⟨e1.set _ (by omega), .inl ⟨by omega, rfl⟩⟩
 have d3 : decide (150 < (n : Int)) = false := decide_eq_false (by omega)
 have hn : n = cnt (.mk op a b c d ks) := by omega
 simp (disch := first | omega | assumption) only [↓bxD, bA, Nat.reduceBEq, reduceCtorEq, Nat.reduceAdd, Nat.reduceSub, Nat.reduceMul, Nat.reduceLeDiff, Nat.reduceLT, hU, hcl, hlen, hG0, g0, g1, hz5, hz5', hst0, hst0', hcl0, fz, hgz, fill_nil, res_cN, cNV_p, cNo_cs, get_set, Option.map_some, d3]
 show Wp fns K15_1 _ _ _
 unfold K15_1
 simp (disch := first | omega | assumption) only [↓bxD, bA, Nat.reduceBEq, reduceCtorEq, Nat.reduceAdd, Nat.reduceSub, Nat.reduceMul, Nat.reduceLeDiff, Nat.reduceLT, hU, hcl, hlen, hG0, g0, g1, hz5, hz5', hst0, hst0', hcl0, fz, hgz, fill_nil, res_cN, cNV_p, cNo_cs, get_set, Option.map_some]
 refine bindP_call (deep_any (Mb := M) hlo _ _ (Nat.le_refl _) hw _ _ e1 hX) ?_
 rintro m M2 ⟨rfl, hx2⟩
 have h0 := (hx2.old M.n (by omega)).trans g0
 have h1 := (hx2.old (M.n + 1) (by omega)).trans g1
 have n2 := hx2.n
 have l2 := hx2.lo
 have e2 := e1.trans hx2
 by_cases h4 : 200 < deep (.mk op a b c d ks)
 ·have d4 : decide (200 < (deep (.mk op a b c d ks) : Int)) = true := decide_eq_true (by omega)
  simp (disch := first | omega | assumption) only [↓bxD, bA, Nat.reduceBEq, reduceCtorEq, Nat.reduceAdd, Nat.reduceSub, Nat.reduceMul, Nat.reduceLeDiff, Nat.reduceLT, hU, hcl, hlen, hG0, h0, h1, hz5, hz5', hst0, hst0', hcl0, fz, hgz, fill_nil, res_cN, cNV_p, cNo_cs, get_set, Option.map_some, d4]
  exact ⟨e2.set _ (by omega), .inr (.inl ⟨by omega, h4, rfl⟩)⟩
 have d4 : decide (200 < (deep (.mk op a b c d ks) : Int)) = false := decide_eq_false (by omega)
 have hU5 : isU (.ag [MV.nils, .b false, .nils, .nils, .nils]) = false := rfl
 simp (disch := first | omega | assumption) only [↓bxD, bA, Nat.reduceBEq, reduceCtorEq, Nat.reduceAdd, Nat.reduceSub, Nat.reduceMul, Nat.reduceLeDiff, Nat.reduceLT, hU, hcl, hlen, hG0, h0, h1, hz5, hz5', hst0, hst0', hcl0, fz, hgz, fill_nil, res_cN, cNV_p, cNo_cs, get_set, Option.map_some, d4]
 show Wp fns K15_0 _ _ _
 unfold K15_0
 simp (disch := first | omega | assumption) only [↓bxD, bA, Nat.reduceBEq, reduceCtorEq, Nat.reduceAdd, Nat.reduceSub, Nat.reduceMul, Nat.reduceLeDiff, Nat.reduceLT, hU, hcl, hlen, hG0, h0, h1, hz5, hz5', hst0, hst0', hcl0, fz, hgz, fill_nil, res_cN, cNV_p, cNo_cs, get_set, Option.map_some, hU5]
 generalize hM3 : M2.push _ = M3
 have x3 : Ext M2 M3 := by rw [← hM3]; exact .push _ _
 have p3 : M3.get M2.n = some (.cs false 5 (ofL [MV.nils, MV.b false, MV.nils, MV.nils, MV.nils] 0)) := by rw [← hM3]; exact push_new _
 have n3 : M3.n = M2.n + 1 := by rw [← hM3]; rfl
 clear hM3
 have hD : Ds M2 M3 M2.n (.b false) .nils .nils ⟨[], []⟩ := ⟨_, .nils, .nils, [], ⟨x3, p3, ⟨Nat.le_refl _, by omega⟩, at_ofL _, OwnRow.nil _ _ _, OwnRow.nil _ _ _, rfl, fun _ => rfl, fun i v A h => (by simp at h), rfl⟩⟩
 refine bindP_call (walk_any (Mb := M2) (by omega) _ _ (Nat.le_refl _) hw M3 ⟨[], []⟩ _ hD (hX.ext e2) (by simp only [List.length_nil]; omega)) ?_
 have hpl := part_len (.mk op a b c d ks)
 generalize hq : partM (.mk op a b c d ks) ⟨[], []⟩ = q at hpl ⊢
 rintro m M4 ⟨fv, lv, rfl, hf, hl, ⟨cc, sv, wv, fs, hO⟩, hF4⟩
 have n4 := hO.ext.n
 have l4 := hO.ext.lo
 have k1 := (hO.ext.old (M.n + 1) (by omega)).trans h1
 have hst := part_st hf hl q.1.null
 have hcl3 : ∀ n : Bool, MV.cells (.ag [.b n, fv, lv]) = [.b n, fv, lv] := fun _ => rfl
 have hz' : hasB (ofL [.b false, .nils, .nils] 0) 3 0 = true := rfl
 have gp := hO.g
 have hds1 : stW (M4.push (MO.cs false 3 (ofL [MV.b false, MV.nils, MV.nils] 0))) 3 M4.n 0 (.ag [.b q.1.null, fv, lv]) (some (MO.cs false 3 (ofL [MV.b false, MV.nils, MV.nils] 0))) = some (.u, (M4.push (MO.cs false 3 (ofL [MV.b false, MV.nils, MV.nils] 0))).set M4.n (some (.cs false 3 (setN [.b q.1.null, fv, lv] 0 (ofL [MV.b false, MV.nils, MV.nils] 0))))) := stW_ok (M := M4.push _) (by show M4.lo ≤ M4.n; omega) hst hz'
 simp (disch := first | omega | assumption) only [↓bxD, bA, Nat.reduceBEq, reduceCtorEq, Nat.reduceAdd, Nat.reduceSub, Nat.reduceMul, Nat.reduceLeDiff, Nat.reduceLT, hst, hcl3, hz', nck_p, hds1]
 generalize hM5 : MH.set _ _ _ = M5
 have x45 : Ext M4 M5 := by rw [← hM5]; exact (Ext.push M4 _).set _ (Nat.le_refl _)
 have g5 : M5.get M4.n = some (.cs false 3 (setN [.b q.1.null, fv, lv] 0 (ofL [MV.b false, MV.nils, MV.nils] 0))) := by rw [← hM5]; exact set_same _ _
 have n5 : M5.n = M4.n + 1 := by rw [← hM5]; rfl
 have l5 := x45.lo
 clear hM5
 have A5 := at_setN [.b q.1.null, fv, lv] 0 (ofL [MV.b false, MV.nils, MV.nils] 0)
 generalize setN [.b q.1.null, fv, lv] 0 (ofL [MV.b false, MV.nils, MV.nils] 0) = c5 at A5 g5
 have a50 : cget c5 0 = some (.b q.1.null) := A5 0 _ rfl
 have a51 : cget c5 1 = some fv := A5 1 _ rfl
 have a52 : cget c5 2 = some lv := A5 2 _ rfl
 have hO5 := hO.more x45
 have gp5 := hO5.g
 have hAt := hO.at_
 have hb1 : hasB cc 1 1 = true := has_at hAt (by omega) (by simp)
 have A1 : At (setN [.b q.1.null] 1 cc) 0 [sv, .b q.1.null, .nils, .nils, wv] := hAt.set' 1 _ (by simp) rfl
 have hb2 : hasB (setN [.b q.1.null] 1 cc) 1 2 = true := has_at A1 (by omega) (by simp)
 have A2 : At (setN [fv] 2 (setN [.b q.1.null] 1 cc)) 0 [sv, .b q.1.null, fv, .nils, wv] := A1.set' 2 _ (by simp) rfl
 have hb3 : hasB (setN [fv] 2 (setN [.b q.1.null] 1 cc)) 1 3 = true := has_at A2 (by omega) (by simp)
 have A3 : At (setN [lv] 3 (setN [fv] 2 (setN [.b q.1.null] 1 cc))) 0 [sv, .b q.1.null, fv, lv, wv] := A2.set' 3 _ (by simp) rfl
 have hcb : ∀ b : Bool, MV.cells (.b b) = [.b b] := fun _ => rfl
 obtain ⟨hsf, hcf⟩ := nr_st hf
 obtain ⟨hsl, hcl'⟩ := nr_st hl
 have hG5 : Ev.getN (setN [lv] 3 (setN [fv] 2 (setN [.b q.1.null] 1 cc))) 5 0 = some [sv, .b q.1.null, fv, lv, wv] := A3.getN
 have k15 := (x45.old (M.n + 1) (by omega)).trans k1
 have hne1 : M.n + 1 ≠ M2.n := by omega
 have hne2 : M4.n ≠ M2.n := by have := hO.bl; omega
 have hsv : ∃ l, sv = .nils ∨ ∃ id, sv = .sl id 0 l 0 := by
  obtain ⟨_, ⟨e, _⟩ | ⟨id, _, e, _⟩⟩ := hO.rs
  ·exact ⟨0, .inl e⟩
  ·exact ⟨_, .inr ⟨id, e⟩⟩
 have hwv : ∃ l, wv = .nils ∨ ∃ id, wv = .sl id 0 l 0 := by
  obtain ⟨_, ⟨e, _⟩ | ⟨id, _, e, _⟩⟩ := hO.rf
  ·exact ⟨0, .inl e⟩
  ·exact ⟨_, .inr ⟨id, e⟩⟩
 have hst5 : stOk 5 (.ag [sv, .b q.1.null, fv, lv, wv]) = true := by
  obtain ⟨_, e1 | ⟨_, e1⟩⟩ := hsv <;> obtain ⟨_, e2 | ⟨_, e2⟩⟩ := hwv <;> obtain ⟨_, _, ⟨e3, _⟩ | ⟨_, _, e3, _⟩⟩ := hf <;> obtain ⟨_, _, ⟨e4, _⟩ | ⟨_, _, e4, _⟩⟩ := hl <;> rw [e1, e2, e3, e4] <;> rfl
 have hcl5 : MV.cells (.ag [sv, .b q.1.null, fv, lv, wv]) = [sv, .b q.1.null, fv, lv, wv] := rfl
 simp (maxSteps := 4000000) (disch := first | omega | assumption | (simp only [bxS, bxV, stOk, Nat.reduceBEq, Nat.reduceEqDiff, Nat.reduceAdd]; done) | (simp only [bxU]; omega) | ((try apply has_setN); apply has_ofL; simp only [bxL]; omega)) only [↓bxD, bxP, bxQ, bxQ2, Nat.reduceBEq, reduceCtorEq, Nat.reduceAdd, Nat.reduceSub, Nat.reduceMul, Nat.reduceLeDiff, Nat.reduceLT, bxR, g5, gp5, a50, a51, a52, hb1, hb2, hb3, hcb, hsf, hcf, hsl, hcl', hG5, k15, hne1, hne2, hst5, hcl5, hz5, hgz, res_cN, cNV_p, cNo_cs, get_set, nck_p, Option.map_some]
 generalize hM6 : MH.set _ (M.n + 1) _ = M6
 have C6 : Chg (fun j => j = M2.n ∨ j = M.n + 1) M5 M6 := by
  rw [← hM6]
  exact ((((Chg.refl (fun j => j = M2.n ∨ j = M.n + 1) M5).set _ (.inl (.inl rfl))).set _ (.inl (.inl rfl))).set _ (.inl (.inl rfl))).set _ (.inl (.inr rfl))
 clear hM6
 have n6 := C6.n
 have l6 := C6.lo
 have ow : ∀ sz v es, sz ≠ 5 → OwnRow M2.n M5 sz v es → OwnRow M.n M6 sz v es := fun sz v es hz h => (h.keep n6 fun a n d e e2 => by
  obtain ⟨cx, q1, q2, q3⟩ := own_id h e2
  refine C6.old a q3 fun hs => ?_
  rcases hs with hs | hs
  ·rw [hs, gp5] at q1; cases q1; exact hz rfl
  ·rw [hs, k15] at q1; cases q1; exact hz rfl).le (by omega)
 refine ⟨⟨by omega, by omega, fun j hj => ?_⟩, .inr (.inr ⟨by omega, by omega, _, rfl, sv, fv, lv, wv, ?_, ?_, ?_, ?_, ?_⟩)⟩
 ·rw [C6.old j (by omega) (by omega), x45.old j (by omega), hO.ext.old j (by omega)]
  exact e2.old j hj
 ·rw [hq]
 ·rw [hq]; exact ow 4 _ _ (by omega) hO5.rs
 ·rw [hq]; exact ow 1 _ _ (by omega) (hf.2.ext x45)
 ·rw [hq]; exact ow 1 _ _ (by omega) (hl.2.ext x45)
 ·rw [hq]
  refine ⟨fs, ow 1 _ _ (by omega) hO5.rf, by rw [List.length_map]; exact hO.fl, fun i v y h1 h2 => ?_⟩
  rw [List.getElem?_map] at h2
  cases hA : q.2.fol[i]? with
  | none => rw [hA] at h2; cases h2
  | some A =>
   rw [hA] at h2
   cases h2
   exact ow 1 _ _ (by omega) (hO5.fo i v A h1 hA).2
def lessP (a b c d : Int) : Bool := decide (a < c) || (decide (a = c) && decide (b < d))
theorem less_any {M : MH} {a b c d : Int} (hlo : M.lo ≤ M.n) : Cp fns 67 [.ag [.i .i64 a, .i .i64 b], .ag [.i .i64 c, .i .i64 d]] M fun m M' => m = .b (lessP a b c d) ∧ Ext M M' := by
 refine Cp_call (fn := F67) (by kernel_rfl) (Nat.le_of_ble_eq_true rfl) ?_
 show Wp fns B67 (T.set q1 (some (.ag [.i .i64 c, .i .i64 d])) (T.set q0 (some (.ag [.i .i64 a, .i .i64 b])) T.lf)) M _
 have hU : ∀ a b, isU (.ag [.i .i64 a, .i .i64 b]) = false := fun _ _ => rfl
 have hcl : ∀ a b, MV.cells (.ag [.i .i64 a, .i .i64 b]) = [.i .i64 a, .i .i64 b] := fun _ _ => rfl
 have hx := (Ext.push M (.cs false 2 (ofL [.i .i64 a, .i .i64 b] 0))).trans (.push _ (.cs false 2 (ofL [.i .i64 c, .i .i64 d] 0)))
 unfold B67
 unfold lessP
 by_cases h1 : a < c
 ·have d1 : decide (a < c) = true := decide_eq_true h1
  simp (disch := first | omega | assumption | (simp only [bZ, stOk, Nat.reduceBEq, Nat.reduceEqDiff, Nat.reduceAdd] <;> omega) | ((try apply has_setN); apply has_ofL; simp only [bxL]; omega)) only [↓bxD, bA, Nat.reduceBEq, reduceCtorEq, Nat.reduceAdd, Nat.reduceSub, Nat.reduceMul, Nat.reduceLeDiff, Nat.reduceLT, hU, hcl, d1, push_at]
  exact ⟨rfl, hx⟩
 ·have d1 : decide (a < c) = false := decide_eq_false h1
  by_cases h2 : a = c
  ·have d2 : decide (a = c) = true := decide_eq_true h2
   simp (disch := first | omega | assumption | (simp only [bZ, stOk, Nat.reduceBEq, Nat.reduceEqDiff, Nat.reduceAdd] <;> omega) | ((try apply has_setN); apply has_ofL; simp only [bxL]; omega)) only [↓bxD, bA, Nat.reduceBEq, reduceCtorEq, Nat.reduceAdd, Nat.reduceSub, Nat.reduceMul, Nat.reduceLeDiff, Nat.reduceLT, hU, hcl, d1, d2, push_at]
   exact ⟨rfl, hx⟩
  ·have d2 : decide (a = c) = false := decide_eq_false h2
   simp (disch := first | omega | assumption | (simp only [bZ, stOk, Nat.reduceBEq, Nat.reduceEqDiff, Nat.reduceAdd] <;> omega) | ((try apply has_setN); apply has_ofL; simp only [bxL]; omega)) only [↓bxD, bA, Nat.reduceBEq, reduceCtorEq, Nat.reduceAdd, Nat.reduceSub, Nat.reduceMul, Nat.reduceLeDiff, Nat.reduceLT, hU, hcl, d1, d2, push_at]
   exact ⟨rfl, hx⟩
theorem in_any {M : MH} {v : MV} {l : List Nat} {z : Nat} (h : RowAt M 1 v (nv l)) (hl : l.length ≤ 1000000) : Cp fns 68 [v, .i .i64 (z : Int)] M fun m M' => m = .b (decide (z ∈ l)) ∧ Ext M M' := by
 obtain ⟨s1, s2⟩ := h.sl
 have s2 : slen v = l.length := s2.trans (nv_len l)
 refine Cp_call (fn := F68) (by kernel_rfl) (Nat.le_of_ble_eq_true rfl) ?_
 show Wp fns B68 (T.set q1 (some (.i .i64 (z : Int))) (T.set q0 (some v) T.lf)) M _
 unfold B68
 simp (disch := first | omega | assumption) only [↓bxD, bA, reduceCtorEq]
 refine Wp_inv (σ := Nat) (fun i f M' => i ≤ l.length ∧ X.ev f (.t q0) = v ∧ X.ev f (.t q1) = .i .i64 (z : Int) ∧ X.ev f (.t q5) = .i .i64 (i : Int) ∧ M' = M ∧ z ∉ l.take i) (fun i => l.length - i) ?_ 0 ?_
 ·rintro i f M' ⟨hi, e0, e1, e5, rfl, hno⟩
  simp only [q0, q1, q5] at e0 e1 e5
  unfold L68_2
  simp (disch := first | omega | assumption) only [↓bxD, bA, reduceCtorEq, e0, e1, e5, s1, s2]
  refine condP_split (fun hlt => ?_) (fun hge => ?_)
  ·have hi' : i < l.length := by omega
   obtain ⟨y, hy⟩ : ∃ y, l[i]? = some y := ⟨_, List.getElem?_eq_getElem hi'⟩
   obtain ⟨ro, sz, t, g, _, hc⟩ := nv_read h hy
   simp (disch := first | omega | assumption) only [↓bxD, bA, reduceCtorEq, e0, e1, e5, s1, s2]
   show Wp fns K68_1 _ _ _
   unfold K68_1
   simp (disch := first | omega | assumption) only [↓bxD, bA, reduceCtorEq, e0, e1, e5, s1, s2, g, hc, hi']
   refine condP_split (fun heq => ?_) (fun hne => ?_)
   ·simp (disch := first | omega | assumption) only [↓bxD, bA, reduceCtorEq, e0, e1, e5, s1, s2]
    refine ⟨?_, .refl _⟩
    have : z = y := by omega
    rw [decide_eq_true (by rw [this]; exact List.mem_of_getElem? hy)]
   ·simp (disch := first | omega | assumption) only [↓bxD, bA, reduceCtorEq, e0, e1, e5, s1, s2]
    show Wp fns K68_0 _ _ _
    unfold K68_0
    simp (disch := first | omega | assumption) only [↓bxD, bA, reduceCtorEq, e0, e1, e5, s1, s2]
    refine ⟨i + 1, by omega, by omega, rfl, fun hz => ?_⟩
    rw [List.take_add_one, hy] at hz
    rcases List.mem_append.1 hz with hz | hz
    ·exact hno hz
    ·simp at hz; omega
  ·have hil : i = l.length := by omega
   simp (disch := first | omega | assumption) only [↓bxD, bA, reduceCtorEq, e0, e1, e5, s1, s2]
   show Wp fns K68_3 _ _ _
   unfold K68_3
   simp (disch := first | omega | assumption) only [↓bxD, bA, reduceCtorEq, e0, e1, e5, s1, s2]
   rw [hil, List.take_length] at hno
   rw [decide_eq_false hno]
   exact ⟨rfl, .refl _⟩
 ·exact ⟨Nat.zero_le _, by simp only [bA, reduceCtorEq], by simp only [bA, reduceCtorEq], by simp only [bA, reduceCtorEq] <;> rfl, rfl, by simp⟩
def pv (l : List (Nat × Int)) : List (List MV) := l.map fun p => [.i .i64 (p.1 : Int), .i .i64 p.2]
theorem pv_len (l : List (Nat × Int)) : (pv l).length = l.length := by unfold pv; rw [List.length_map]
theorem pv_at {l : List (Nat × Int)} {i : Nat} {p : Nat × Int} (h : l[i]? = some p) : (pv l)[i]? = some [.i .i64 (p.1 : Int), .i .i64 p.2] := by unfold pv; rw [List.getElem?_map, h]; rfl
theorem pv_app (l r : List (Nat × Int)) : pv (l ++ r) = pv l ++ pv r := by unfold pv; rw [List.map_append]
theorem pv_read {M : MH} {v : MV} {l : List (Nat × Int)} (h : RowAt M 2 v (pv l)) {i : Nat} {p : Nat × Int} (hp : l[i]? = some p) : ∃ ro s c, M.get (sid v) = some (.cs ro s c) ∧ sid v < M.n ∧ Ev.getN c 2 (soff v + i * 2) = some [.i .i64 (p.1 : Int), .i .i64 p.2] ∧ cget c (soff v + i * 2) = some (.i .i64 (p.1 : Int)) ∧ cget c (soff v + i * 2 + 1) = some (.i .i64 p.2) := by
 obtain ⟨ro, s, c, h1, h2, h3⟩ := h.read (pv_at hp)
 exact ⟨ro, s, c, h1, h2, h3.getN, h3 0 _ rfl, h3 1 _ rfl⟩
theorem same_any {M : MH} {v w : MV} {l r : List (Nat × Int)} (hlo : M.lo ≤ M.n) (h : RowAt M 2 v (pv l)) (k : RowAt M 2 w (pv r)) (hl : l.length ≤ 1000000) : Cp fns 55 [v, w] M fun m M' => m = .b (decide (l = r)) ∧ Ext M M' := by
 obtain ⟨s1, s2⟩ := h.sl
 have s2 : slen v = l.length := s2.trans (pv_len l)
 obtain ⟨t1, t2⟩ := k.sl
 have t2 : slen w = r.length := t2.trans (pv_len r)
 refine Cp_call (fn := F55) (by kernel_rfl) (Nat.le_of_ble_eq_true rfl) ?_
 show Wp fns B55 (T.set q1 (some w) (T.set q0 (some v) T.lf)) M _
 unfold B55
 simp (disch := first | omega | assumption) only [↓bxD, bA, reduceCtorEq, s1, s2, t1, t2]
 by_cases hlen : l.length = r.length
 ·have d0 : decide ((l.length : Int) ≠ (r.length : Int)) = false := decide_eq_false (fun e => e (by omega))
  simp (disch := first | omega | assumption) only [↓bxD, bA, reduceCtorEq, s1, s2, t1, t2, d0]
  show Wp fns K55_5 _ _ _
  unfold K55_5
  simp (disch := first | omega | assumption) only [↓bxD, bA, reduceCtorEq, s1, s2, t1, t2]
  refine Wp_inv (σ := Nat) (fun i f M' => i ≤ l.length ∧ X.ev f (.t q0) = v ∧ X.ev f (.t q1) = w ∧ X.ev f (.t q5) = .i .i64 (i : Int) ∧ Ext M M' ∧ l.take i = r.take i) (fun i => l.length - i) ?_ 0 ?_
  ·rintro i f M' ⟨hi, e0, e1, e5, hx, hno⟩
   have xn := hx.n
   have xl := hx.lo
   simp only [q0, q1, q5] at e0 e1 e5
   unfold L55_3
   simp (disch := first | omega | assumption) only [↓bxD, bA, reduceCtorEq, e0, e1, e5, s1, s2, t1, t2]
   refine condP_split (fun hlt => ?_) (fun hge => ?_)
   ·have hi' : i < l.length := by omega
    have hir : i < r.length := by omega
    obtain ⟨x, hx1⟩ : ∃ x, l[i]? = some x := ⟨_, List.getElem?_eq_getElem hi'⟩
    obtain ⟨y, hy⟩ : ∃ y, r[i]? = some y := ⟨_, List.getElem?_eq_getElem hir⟩
    obtain ⟨ro, sz, t, g, _, hc, _⟩ := pv_read (h.ext hx) hx1
    obtain ⟨ro', sz', t', g', _, hc', _⟩ := pv_read (k.ext hx) hy
    have dq : puM (.eqA 2 true) (.ag [.i .i64 (x.1 : Int), .i .i64 x.2]) (.ag [.i .i64 (y.1 : Int), .i .i64 y.2]) = some (.b (decide ¬ x = y)) := by
     obtain ⟨a, b⟩ := x
     obtain ⟨c, d⟩ := y
     rw [puM_eqA, eqAg_i, eqAg_i, eqAg_nil]
     by_cases h1 : a = c
     ·by_cases h2 : b = d
      ·subst h1; subst h2; simp
      ·simp [h1, h2]
     ·have h1' : ¬ (a : Int) = (c : Int) := fun e => h1 (by omega)
      simp [h1, h1']
    simp (disch := first | omega | assumption) only [↓bxD, bA, reduceCtorEq, e0, e1, e5, s1, s2, t1, t2]
    show Wp fns K55_2 _ _ _
    unfold K55_2
    simp (disch := first | omega | assumption) only [↓bxD, bA, reduceCtorEq, e0, e1, e5, s1, s2, t1, t2, g, g', hc, hc', hi', hir]
    refine Wp_dreg_of (by omega) ?_
    simp (disch := first | omega | assumption) only [↓bxD, bA, reduceCtorEq, e0, e1, e5, s1, s2, t1, t2, g, g', hc, hc', hi', hir, Option.map_some, dq]
    by_cases hxy : x = y
    ·have d1 : decide (¬ x = y) = false := decide_eq_false (fun e => e hxy)
     simp (disch := first | omega | assumption) only [↓bxD, bA, reduceCtorEq, e0, e1, e5, d1]
     show Wp fns K55_0 _ _ _
     unfold K55_0
     simp (disch := first | omega | assumption) only [↓bxD, bA, reduceCtorEq, e0, e1, e5, d1]
     show Wp fns K55_1 _ _ _
     unfold K55_1
     simp (disch := first | omega | assumption) only [↓bxD, bA, reduceCtorEq, e0, e1, e5, d1]
     refine ⟨i + 1, by omega, by omega, rfl, hx, ?_⟩
     rw [List.take_add_one, List.take_add_one, hx1, hy, hno, hxy]
    ·have d1 : decide (¬ x = y) = true := decide_eq_true hxy
     simp (disch := first | omega | assumption) only [↓bxD, bA, reduceCtorEq, d1]
     show Wp fns K55_0 _ _ _
     unfold K55_0
     simp (disch := first | omega | assumption) only [↓bxD, bA, reduceCtorEq, d1]
     refine ⟨?_, hx⟩
     rw [decide_eq_false (fun e => hxy (by rw [e, hy] at hx1; exact (Option.some.inj hx1).symm))]
   ·have hil : i = l.length := by omega
    simp (disch := first | omega | assumption) only [↓bxD, bA, reduceCtorEq, e0, e1, e5, s1, s2, t1, t2]
    show Wp fns K55_4 _ _ _
    unfold K55_4
    simp (disch := first | omega | assumption) only [↓bxD, bA, reduceCtorEq, e0, e1, e5, s1, s2, t1, t2]
    rw [hil, List.take_length, hlen, List.take_length] at hno
    rw [decide_eq_true hno]
    exact ⟨rfl, hx⟩
  ·exact ⟨Nat.zero_le _, by simp only [bA, reduceCtorEq, s1, s2, t1, t2], by simp only [bA, reduceCtorEq, s1, s2, t1, t2], by simp only [bA, reduceCtorEq, s1, s2, t1, t2] <;> rfl, .refl _, by simp⟩
 ·have d0 : decide ((l.length : Int) ≠ (r.length : Int)) = true := decide_eq_true (by omega)
  simp (disch := first | omega | assumption) only [↓bxD, bA, reduceCtorEq, s1, s2, t1, t2, d0]
  refine ⟨?_, .refl _⟩
  rw [decide_eq_false (fun e => hlen (by rw [e]))]
def ins (p : Nat × Int) : List (Nat × Int) → List (Nat × Int)
 | [] => [p]
 | q :: r => if lessP q.1 q.2 p.1 p.2 = true then q :: ins p r else if q = p then q :: r else p :: q :: r
theorem ins_at (p : Nat × Int) : ∀ (l : List (Nat × Int)) (i : Nat), i ≤ l.length → (∀ j q, j < i → l[j]? = some q → lessP q.1 q.2 p.1 p.2 = true) → (∀ q, l[i]? = some q → lessP q.1 q.2 p.1 p.2 = false) → ins p l = if l[i]? = some p then l else l.take i ++ p :: l.drop i
 | [], i, hi, _, _ => by
  have : i = 0 := by simpa using hi
  subst this
  simp [ins]
 | q :: r, 0, _, _, h2 => by
  have := h2 q rfl
  rw [ins, if_neg (by rw [this]; simp)]
  by_cases e : q = p
  ·rw [if_pos e, if_pos (by rw [e]; rfl)]
  ·rw [if_neg e, if_neg (by intro h; exact e (Option.some.inj h))]
   rfl
 | q :: r, i + 1, hi, h1, h2 => by
  have := h1 0 q (by omega) rfl
  rw [ins, if_pos this]
  have ih := ins_at p r i (by simpa using hi) (fun j x hj hx => h1 (j + 1) x (by omega) (by rw [List.getElem?_cons_succ]; exact hx)) (fun x hx => h2 x (by rw [List.getElem?_cons_succ]; exact hx))
  rw [ih, List.getElem?_cons_succ, List.take_succ_cons, List.drop_succ_cons]
  split <;> rfl
noncomputable def floB (sz n id : Nat) (o : Option (List MV)) : Option (MV × MO) := match o with
 | some l => some (.sl id 0 n 0, .cs false sz (ofL l 0))
 | none => none
theorem floB_some (sz n id : Nat) (l : List MV) : floB sz n id (some l) = some (.sl id 0 n 0, .cs false sz (ofL l 0)) := rfl
theorem float_bsl (sz n : Nat) (zs : List MV) (ps : List (Nat × Nat × X)) (f : Fr) (id : Nat) : floatEv (.bsl sz n zs ps) f id = floB sz n id (fillM (ps.map fun x => (x.1, x.2.1, x.2.2.ev f)) (zrow zs n)) := rfl
theorem apart_app {i j sz b k id off : Nat} {y x : X} {l : List (IOper × DK)} {n : Nat} {f : Fr} {hs : List MH} {d d' : Option Ky} {gd gd' : Option (Ky × Bool)} {kd : DK} (h1 : l[i]? = some (⟨d, gd, .app sz b (.c .nils) y⟩, .md)) (h2 : l[j]? = some (⟨d', gd', .ldN k x⟩, kd)) (hx : X.ev f x = .p id off) (hid : id < n) (hn : ∀ M ∈ hs, n ≤ M.n) : apartL [(i, j)] l n f hs = true := by
 unfold apartL
 have e1 : hs.all (fun M => Nat.ble n M.n) = true := List.all_eq_true.2 fun M hM => ble_t' (hn M hM)
 have e2 : apartB n (cidx (l.map (·.2)) i) hs (.app sz b (.c .nils) y) (.ldN k x) f = true := by
  unfold apartB
  show (match (match X.ev f x with
   | .p id _ => some id
   | _ => none) with
   | some id => Nat.blt id n && ((match touch (.app sz b (.c .nils) y) f with
    | some (some q) => !(q == id)
    | some none => true
    | none => false) || (Nat.blt (cidx (l.map (·.2)) i + 1) hs.length && sameO (atS hs (cidx (l.map (·.2)) i + 1) id) (atS hs (cidx (l.map (·.2)) i) id)))
   | none => false) = true
  rw [hx]
  show (Nat.blt id n && (true || _)) = true
  rw [blt_t hid, Bool.true_or]
  rfl
 simp only [List.isEmpty_cons, Bool.false_or, List.all_cons, List.all_nil, h1, h2, e1, e2, Bool.and_true, Bool.true_and]
 rfl
theorem row_take {M : MH} {v : MV} {sz : Nat} {es : List (List MV)} {i : Nat} (h : RowAt M sz v es) (hi : i ≤ es.length) : RowAt M sz (cutHi i v) (es.take i) := by
 obtain ⟨hs, ⟨rfl, h2⟩ | ⟨id, off, ed, ro, s, c, rfl, h2, h3, h4⟩⟩ := h
 ·rw [h2]; exact ⟨fun x hx => (by simp at hx), .inl ⟨rfl, by simp⟩⟩
 ·refine ⟨fun x hx => hs x (List.mem_of_mem_take hx), .inr ⟨id, off, ed, ro, s, c, ?_, h2, h3, ?_⟩⟩
  ·show MV.sl id off i ed = _
   rw [List.length_take, Nat.min_eq_left (by omega)]
  ·rw [← List.take_append_drop i es, List.flatten_append] at h4
   exact h4.left
theorem row_skip {M : MH} {v : MV} {sz : Nat} {es : List (List MV)} {i : Nat} (h : RowAt M sz v es) (hi : i ≤ es.length) : RowAt M sz (cutLo sz i v) (es.drop i) := by
 obtain ⟨hs, ⟨rfl, h2⟩ | ⟨id, off, ed, ro, s, c, rfl, h2, h3, h4⟩⟩ := h
 ·rw [h2]; exact ⟨fun x hx => (by simp at hx), .inl ⟨rfl, by simp⟩⟩
 ·refine ⟨fun x hx => hs x (List.mem_of_mem_drop hx), .inr ⟨id, off + i * sz, ed + i, ro, s, c, ?_, h2, h3, ?_⟩⟩
  ·show MV.sl id (off + i * sz) (es.length - i) (ed + i) = _
   rw [List.length_drop]
  ·have hz : (es.take i).flatten.length = i * sz := by
    rw [Sized.flat (sz := sz) (fun x hx => hs x (List.mem_of_mem_take hx)), List.length_take, Nat.min_eq_left (by omega)]
   rw [← List.take_append_drop i es, List.flatten_append] at h4
   have := h4.right
   rwa [hz] at this
theorem add_any {lo : Nat} {M : MH} {v : MV} {l : List (Nat × Int)} {p : Nat × Int} (hlo : M.lo ≤ M.n) (hln : lo ≤ M.n) (hown : OwnRow lo M 2 v (pv l)) (hl : l.length ≤ 100000) : Cp fns 53 [v, .ag [.i .i64 (p.1 : Int), .i .i64 p.2]] M fun m M' => Ext M M' ∧ OwnRow lo M' 2 m (pv (ins p l)) := by
 have h := hown.row
 obtain ⟨s1, s2⟩ := h.sl
 have s2 : slen v = l.length := s2.trans (pv_len l)
 refine Cp_call (fn := F53) (by kernel_rfl) (Nat.le_of_ble_eq_true rfl) ?_
 show Wp fns B53 (T.set q1 (some (.ag [.i .i64 (p.1 : Int), .i .i64 p.2])) (T.set q0 (some v) T.lf)) M _
 unfold B53
 have hU : ∀ a b, isU (.ag [.i .i64 a, .i .i64 b]) = false := fun _ _ => rfl
 have hcl : ∀ a b, MV.cells (.ag [.i .i64 a, .i .i64 b]) = [.i .i64 a, .i .i64 b] := fun _ _ => rfl
 have hG : ∀ a b : Int, Ev.getN (ofL [MV.i .i64 a, .i .i64 b] 0) 2 0 = some [.i .i64 a, .i .i64 b] := fun a b => (at_ofL _).getN
 simp (disch := first | omega | assumption) only [↓bxD, bA, reduceCtorEq, hU, hcl, s1, s2]
 generalize hM1 : M.push _ = M1
 have x1 : Ext M M1 := by rw [← hM1]; exact .push M _
 have g1 : M1.get M.n = some (.cs false 2 (ofL [.i .i64 (p.1 : Int), .i .i64 p.2] 0)) := by rw [← hM1]; exact push_new _
 have n1 : M1.n = M.n + 1 := by rw [← hM1]; rfl
 have l1 := x1.lo
 clear hM1
 have last : ∀ (i : Nat) (f : Fr) (M' : MH), i ≤ l.length → X.ev f (.t q0) = v → X.ev f (.t q3) = .p M.n 0 → X.ev f (.t q5) = .i .i64 (i : Int) → Ext M1 M' → (∀ j q, j < i → l[j]? = some q → lessP q.1 q.2 p.1 p.2 = true) → (∀ q, l[i]? = some q → lessP q.1 q.2 p.1 p.2 = false) → Wp fns K53_4 f M' (retQ F53 fun m M' => Ext M M' ∧ OwnRow lo M' 2 m (pv (ins p l))) := by
  intro i f M' hi e0 e3 e5 hx hno hat
  have hins := ins_at p l i hi hno hat
  have xn := hx.n
  have xl := hx.lo
  have g1' := (hx.old M.n (by omega)).trans g1
  have hGp := hG (p.1 : Int) p.2
  simp only [q0, q3, q5] at e0 e3 e5
  have rest : ∀ f, X.ev f (.t q0) = v → X.ev f (.t q3) = .p M.n 0 → X.ev f (.t q5) = .i .i64 (i : Int) → l[i]? ≠ some p → Wp fns K53_3 f M' (retQ F53 fun m M' => Ext M M' ∧ OwnRow lo M' 2 m (pv (ins p l))) := by
   intro f e0 e3 e5 hne
   rw [if_neg hne] at hins
   simp only [q0, q3, q5] at e0 e3 e5
   have hc1 : cutM 2 v none (some (.i .i64 (i : Int))) = some (cutHi i v) := cutM_hi s1 (by omega)
   have hc2 : cutM 2 v (some (.i .i64 (i : Int))) none = some (cutLo 2 i v) := cutM_lo s1 (by omega)
   unfold K53_3
   simp (disch := first | omega | assumption) only [↓bxD, bA, reduceCtorEq, e0, e3, e5, s1, s2, g1', hGp, hc1, hc2, Option.map_some, Option.map_none]
   refine Wp_dreg_of (by omega) ?_
   simp (disch := first | omega | assumption) only [↓bxD, bA, reduceCtorEq, e0, e3, e5, s1, s2, g1', hGp, hc1, hc2, Option.map_some, Option.map_none]
   have hR : RowAt (M'.room 1) 2 (cutHi i v) (pv (l.take i)) := by
    have := row_take (i := i) (h.ext ((x1.trans hx).trans (.room M' 1))) (by rw [pv_len]; exact hi)
    unfold pv at this ⊢
    rw [List.map_take]
    exact this
   obtain ⟨w1, M2, a1, a2, a3, a4, a5, a6, _⟩ := app_rowX (bytes := 16) (lo := M'.n + 1) (OwnRow.nil _ (M'.room 1) 2) hR (by show M'.lo ≤ _; omega) (by show M'.n + 1 ≤ M'.n + 1; omega) (fun e he => by
    unfold pv at he
    obtain ⟨x, _, rfl⟩ := List.mem_map.1 he
    rfl) (by rw [pv_len, List.length_take]; simp only [List.length_nil]; omega) (by rw [pv_len, List.length_take]; simp only [List.length_nil]; omega)
   refine bindP_of a1 ?_
   have ff : fillM [(0, 2, .ag [MV.i .i64 (p.1 : Int), .i .i64 p.2])] [.i .i64 0, .i .i64 0] = some [.i .i64 (p.1 : Int), .i .i64 p.2] := rfl
   have ff' : fillM [(0, 2, .ag [MV.i .i64 (p.1 : Int), .i .i64 p.2])] (zrow [.i .i64 0, .i .i64 0] 1) = some [.i .i64 (p.1 : Int), .i .i64 p.2] := rfl
   simp (disch := first | omega | assumption) only [↓bxD, bA, reduceCtorEq, e0, e3, e5, s1, s2, g1', hGp, hc1, hc2, Option.map_some, Option.map_none, float_bsl, List.map_cons, List.map_nil, ff, ff', floB_some]
   have hpk : pickL ([] ++ [(M'.n, MO.cs false 2 (ofL [MV.i .i64 (p.1 : Int), .i .i64 p.2] 0))]) M'.n [0] = some [(M'.n, MO.cs false 2 (ofL [MV.i .i64 (p.1 : Int), .i .i64 p.2] 0))] := by
    simp [pickL]
   simp (disch := first | omega | assumption) only [↓bxD, bA, reduceCtorEq, e0, e3, e5, s1, s2, g1', hGp, hc1, hc2, Option.map_some, Option.map_none, hpk, adopt_cons]
   have n2 : M'.n + 1 ≤ M2.n := a3
   have l2 : M2.lo = M'.lo := a4
   generalize hM3 : M2.set M'.n _ = M3
   have g3 : M3.get M'.n = some (.cs false 2 (ofL [MV.i .i64 (p.1 : Int), .i .i64 p.2] 0)) := by rw [← hM3]; exact set_same _ _
   have n3 : M3.n = M2.n := by rw [← hM3]; rfl
   have l3 : M3.lo = M2.lo := by rw [← hM3]; rfl
   have o3 : ∀ j, j ≠ M'.n → M3.get j = M2.get j := fun j hj => by rw [← hM3]; exact set_ne hj
   have w3 : OwnRow (M'.n + 1) M3 2 w1 (pv (l.take i)) := OwnRow.keep (by simpa using a2) (by omega) fun a b n d e => by
    obtain ⟨cc, q1, q2, q3⟩ := own_id a2 e
    exact o3 a (by omega)
   have r3 : RowAt M3 2 (.sl M'.n 0 1 0) [[.i .i64 (p.1 : Int), .i .i64 p.2]] := ⟨fun e he => by rw [List.mem_singleton.1 he]; rfl, .inr ⟨M'.n, 0, 0, false, 2, _, rfl, g3, by omega, at_ofL _⟩⟩
   have hpl : (pv (l.take i)).length = i := by rw [pv_len, List.length_take]; omega
   obtain ⟨w4, M4, b1, b2, b3, b4, b5, b6, _⟩ := app_rowX (bytes := 16) w3 r3 (by omega) (by omega) (fun e he => by
    rw [List.mem_singleton.1 he]; rfl) (by rw [hpl]; simp only [List.length_cons, List.length_nil]; omega) (by rw [hpl]; simp only [List.length_cons, List.length_nil]; omega)
   refine bindP_of b1 ?_
   simp (disch := first | omega | assumption) only [↓bxD, bA, reduceCtorEq, e0, e3, e5, s1, s2, g1', hGp, hc1, hc2, Option.map_some, Option.map_none]
   refine ⟨?_, ?_⟩
   ·refine apart_app rfl rfl (id := M.n) (off := 0) ?_ (by omega) ?_
    ·simp only [bA, reduceCtorEq, e0, e3, e5, s1, s2, g1', hGp, hc1, hc2, Option.map_some, Option.map_none]
    ·intro m hm
     simp only [List.mem_cons, List.not_mem_nil, or_false] at hm
     rcases hm with rfl | rfl | rfl
     all_goals first
      | omega
      | (show M'.n ≤ M'.n + 1; omega)
   ·have hlate : ∀ (os : List (Nat × MO)) (l : List (IOper × DK)), os = [(M'.n, MO.cs false 2 (ofL [MV.i .i64 (p.1 : Int), .i .i64 p.2] 0))] → (l.any fun q => match q.2 with
      | .ma js => js.any fun j => M'.n + j == M'.n
      | _ => false) = true → lateL l M'.n os = [] := fun os l e h => by
     subst e
     unfold lateL
     rw [List.filter_cons, if_neg (fun e => Bool.noConfusion (e.symm.trans (congrArg (fun b => !b) h)))]
     rfl
    rw [hlate _ _ (by simp) (by simp)]
    have n4 : M3.n ≤ M4.n := b3
    have x4 : Ext M M4 := ⟨by omega, by omega, fun j hj => by
     rw [b6 j (by omega) (by omega), o3 j (by omega), a6 j (by omega) (by show j < M'.n + 1; omega)]
     show M'.get j = _
     exact (x1.trans hx).old j hj⟩
    have r4 : RowAt M4 2 (cutLo 2 i v) (pv (l.drop i)) := by
     have := row_skip (i := i) (h.ext x4) (by rw [pv_len]; exact hi)
     unfold pv at this ⊢
     rw [List.map_drop]
     exact this
    obtain ⟨w5, M5, d1, d2, d3, d4, d5, d6, _⟩ := app_rowX (bytes := 16) b2 r4 (by omega) (by omega) (fun e he => by
     unfold pv at he
     obtain ⟨x, _, rfl⟩ := List.mem_map.1 he
     rfl) (by rw [List.length_append, hpl, pv_len, List.length_drop]; simp only [List.length_cons, List.length_nil]; omega) (by rw [List.length_append, hpl, pv_len, List.length_drop]; simp only [List.length_cons, List.length_nil]; omega)
    refine bindP_of d1 ?_
    simp (disch := first | omega | assumption) only [↓bxD, bA, reduceCtorEq, e0, e3, e5, s1, s2, g1', hGp, hc1, hc2, Option.map_some, Option.map_none]
    show Wp fns IC.ret _ _ _
    simp (disch := first | omega | assumption) only [↓bxD, bA, reduceCtorEq, e0, e3, e5, s1, s2, g1', hGp, hc1, hc2, Option.map_some, Option.map_none]
    refine ⟨⟨by omega, by omega, fun j hj => (d6 j (by omega) (by omega)).trans (x4.old j hj)⟩, ?_⟩
    rw [hins, pv_app]
    have := d2.le (lo' := lo) (by omega)
    rw [List.append_assoc] at this
    exact this
  unfold K53_4
  simp (disch := first | omega | assumption) only [↓bxD, bA, reduceCtorEq, e0, e3, e5, s1, s2]
  refine Wp_dreg_of (by omega) ?_
  by_cases hi' : i < l.length
  ·have d0 : decide ((i : Int) < (l.length : Int)) = true := decide_eq_true (by omega)
   obtain ⟨x, hx1⟩ : ∃ x, l[i]? = some x := ⟨_, List.getElem?_eq_getElem hi'⟩
   obtain ⟨ro, sz, t, g, _, hc, _⟩ := pv_read (h.ext (x1.trans hx)) hx1
   have dq : puM (.eqA 2 false) (.ag [.i .i64 (x.1 : Int), .i .i64 x.2]) (.ag [.i .i64 (p.1 : Int), .i .i64 p.2]) = some (.b (decide (x = p))) := by
    obtain ⟨a, b⟩ := x
    obtain ⟨c, d⟩ := p
    rw [puM_eqA, eqAg_i, eqAg_i, eqAg_nil]
    by_cases h1 : a = c
    ·by_cases h2 : b = d
     ·subst h1; subst h2; simp
     ·simp [h1, h2]
    ·have h1' : ¬ (a : Int) = (c : Int) := fun e => h1 (by omega)
     simp [h1, h1']
   simp (disch := first | omega | assumption) only [↓bxD, bA, reduceCtorEq, e0, e3, e5, s1, s2, d0, g, hc, hi', g1', hGp, Option.map_some, dq]
   by_cases hxp : x = p
   ·have d1 : decide (x = p) = true := decide_eq_true hxp
    show Wp fns (IC.seq K53_2 K53_3) _ _ _
    unfold K53_2
    simp (disch := first | omega | assumption) only [↓bxD, bA, reduceCtorEq, e0, e3, e5, d1]
    exact ⟨x1.trans hx, by rw [hins, if_pos (by rw [hx1, hxp])]; exact hown.ext (x1.trans hx)⟩
   ·have d1 : decide (x = p) = false := decide_eq_false hxp
    show Wp fns (IC.seq K53_2 K53_3) _ _ _
    unfold K53_2
    simp (disch := first | omega | assumption) only [↓bxD, bA, reduceCtorEq, e0, e3, e5, d1]
    exact rest _ (by simp only [bA, reduceCtorEq, e0, e3, e5, d1]) (by simp only [bA, reduceCtorEq, e0, e3, e5, d1]) (by simp only [bA, reduceCtorEq, e0, e3, e5, d1]) (fun e => hxp (by rw [hx1] at e; exact Option.some.inj e))
  ·have d0 : decide ((i : Int) < (l.length : Int)) = false := decide_eq_false (by omega)
   simp (disch := first | omega | assumption) only [↓bxD, bA, reduceCtorEq, e0, e3, e5, s1, s2, d0]
   show Wp fns (IC.seq K53_2 K53_3) _ _ _
   unfold K53_2
   simp (disch := first | omega | assumption) only [↓bxD, bA, reduceCtorEq, e0, e3, e5, s1, s2, d0]
   exact rest _ (by simp only [bA, reduceCtorEq, e0, e3, e5, s1, s2, d0]) (by simp only [bA, reduceCtorEq, e0, e3, e5, s1, s2, d0]) (by simp only [bA, reduceCtorEq, e0, e3, e5, s1, s2, d0]) (fun e => by rw [List.getElem?_eq_none (by omega)] at e; cases e)
 refine Wp_inv (σ := Nat) (fun i f M' => i ≤ l.length ∧ X.ev f (.t q0) = v ∧ X.ev f (.t q3) = .p M.n 0 ∧ X.ev f (.t q5) = .i .i64 (i : Int) ∧ Ext M1 M' ∧ ∀ j q, j < i → l[j]? = some q → lessP q.1 q.2 p.1 p.2 = true) (fun i => l.length - i) ?_ 0 ?_
 ·rintro i f M' ⟨hi, e0, e3, e5, hx, hno⟩
  have xn := hx.n
  have xl := hx.lo
  have g1' := (hx.old M.n (by omega)).trans g1
  have hGp := hG (p.1 : Int) p.2
  simp only [q0, q3, q5] at e0 e3 e5
  unfold L53_1
  simp (disch := first | omega | assumption) only [↓bxD, bA, reduceCtorEq, e0, e3, e5, s1, s2]
  refine Wp_dreg_of (by omega) ?_
  by_cases hi' : i < l.length
  ·have d0 : decide ((i : Int) < (l.length : Int)) = true := decide_eq_true (by omega)
   obtain ⟨x, hx1⟩ : ∃ x, l[i]? = some x := ⟨_, List.getElem?_eq_getElem hi'⟩
   obtain ⟨ro, sz, t, g, _, hc, _⟩ := pv_read (h.ext (x1.trans hx)) hx1
   simp (disch := first | omega | assumption) only [↓bxD, bA, reduceCtorEq, e0, e3, e5, s1, s2, d0, g, hc, hi', g1', hGp, Option.map_some]
   refine bindP_call (less_any (by omega)) ?_
   rintro m M2 ⟨rfl, hx2⟩
   have xn2 := hx2.n
   have xl2 := hx2.lo
   cases hb : lessP x.1 x.2 p.1 p.2 with
   | true =>
    simp (disch := first | omega | assumption) only [↓bxD, bA, reduceCtorEq, e0, e3, e5, s1, s2]
    show Wp fns (IC.seq _ K53_0) _ _ _
    simp (disch := first | omega | assumption) only [↓bxD, bA, reduceCtorEq, e0, e3, e5, s1, s2]
    show Wp fns K53_0 _ _ _
    unfold K53_0
    simp (disch := first | omega | assumption) only [↓bxD, bA, reduceCtorEq, e0, e3, e5, s1, s2]
    refine ⟨i + 1, by omega, by omega, rfl, hx.trans hx2, fun j q hj hq => ?_⟩
    by_cases hji : j = i
    ·rw [hji, hx1] at hq; cases hq; exact hb
    ·exact hno j q (by omega) hq
   | false =>
    simp (disch := first | omega | assumption) only [↓bxD, bA, reduceCtorEq, e0, e3, e5, s1, s2]
    show Wp fns (IC.seq _ K53_0) _ _ _
    simp (disch := first | omega | assumption) only [↓bxD, bA, reduceCtorEq, e0, e3, e5, s1, s2]
    exact last i _ M2 (by omega) (by simp only [bA, reduceCtorEq, e0, e3, e5, s1, s2]) (by simp only [bA, reduceCtorEq, e0, e3, e5, s1, s2]) (by simp only [bA, reduceCtorEq, e0, e3, e5, s1, s2]) (hx.trans hx2) hno (fun q hq => by rw [hx1] at hq; cases hq; exact hb)
  ·have d0 : decide ((i : Int) < (l.length : Int)) = false := decide_eq_false (by omega)
   simp (disch := first | omega | assumption) only [↓bxD, bA, reduceCtorEq, e0, e3, e5, s1, s2, d0]
   show Wp fns (IC.seq _ K53_0) _ _ _
   simp (disch := first | omega | assumption) only [↓bxD, bA, reduceCtorEq, e0, e3, e5, s1, s2]
   exact last i _ M' hi (by simp only [bA, reduceCtorEq, e0, e3, e5, s1, s2]) (by simp only [bA, reduceCtorEq, e0, e3, e5, s1, s2]) (by simp only [bA, reduceCtorEq, e0, e3, e5, s1, s2]) hx hno (fun q hq => by rw [List.getElem?_eq_none (by omega)] at hq; cases hq)
 ·exact ⟨Nat.zero_le _, by simp only [bA, reduceCtorEq, hU, hcl, s1, s2], by simp only [bA, reduceCtorEq, hU, hcl, s1, s2], by simp only [bA, reduceCtorEq, hU, hcl, s1, s2] <;> rfl, .refl _, fun j q hj => by omega⟩
def inS (sets : List (List MV)) (c a : Nat) (lk : List Nat) (out : List (Nat × Int)) : List (Nat × Int) := lk.foldl (fun out (k : Nat) => if hasS (sets[k]?.getD []) c = true then ins (a, (k : Int)) out else out) out
theorem ins_len (p : Nat × Int) : ∀ l : List (Nat × Int), (ins p l).length ≤ l.length + 1
 | [] => by simp [ins]
 | q :: r => by
  have := ins_len p r
  rw [ins]
  split
  ·simp only [List.length_cons]; omega
  ·split
   ·simp only [List.length_cons]; omega
   ·simp only [List.length_cons]; omega
theorem inS_len (sets : List (List MV)) (c a : Nat) : ∀ (lk : List Nat) (out : List (Nat × Int)), (inS sets c a lk out).length ≤ out.length + lk.length
 | [], out => Nat.le_refl _
 | k :: r, out => by
  unfold inS
  rw [List.foldl_cons]
  have := inS_len sets c a r (if hasS (sets[k]?.getD []) c = true then ins (a, (k : Int)) out else out)
  unfold inS at this
  refine Nat.le_trans this ?_
  rw [List.length_cons]
  split
  ·have := ins_len (a, (k : Int)) out; omega
  ·omega
theorem inS_succ (sets : List (List MV)) (c a : Nat) {lk : List Nat} {i k : Nat} (h : lk[i]? = some k) (out : List (Nat × Int)) : inS sets c a (lk.take (i + 1)) out = if hasS (sets[k]?.getD []) c = true then ins (a, (k : Int)) (inS sets c a (lk.take i) out) else inS sets c a (lk.take i) out := by
 unfold inS
 rw [List.take_add_one, h, List.foldl_append]
 rfl
theorem step_row {lo : Nat} {M : MH} {f : Fr} {v0 v1 w v7 vs : MV} {l : List (Nat × Int)} {i a c bx : Nat} {b : Int} {lk : List Nat} {out : List (Nat × Int)} {sets : List (List MV)} {c5 : Ev.T MV} (hlo : M.lo ≤ M.n) (hc : c < 256)
  (h0 : X.ev f (.t q0) = v0) (h1 : X.ev f (.t q1) = v1) (h2 : X.ev f (.t q2) = .i .u8 (c : Int)) (h7 : X.ev f (.t q7) = v7) (h8 : X.ev f (.t q8) = .i .i64 (i : Int)) (h9 : X.ev f (.t q9) = .p bx 0) (h10 : X.ev f (.t q10) = w)
  (g5 : M.get bx = some (.cs false 5 c5)) (hbx : bx < M.n) (k0 : cget c5 0 = some vs) (hs : RowAt M 4 vs sets) (h4 : ∀ s ∈ sets, ∃ a b c d, s = st4 a b c d) (hw : RowAt M 1 w (nv lk)) (hlk : ∀ k ∈ lk, k < sets.length) (hll : lk.length ≤ 1000) (hln : lo ≤ M.n) (h7r : OwnRow lo M 2 v7 (pv out)) (hol : out.length ≤ 50000)
  (hr1 : RowAt M 2 v1 (pv l)) (hi : l[i]? = some (a, b)) {Q : Post}
  (hQ : ∀ f' M' v7', X.ev f' (.t q0) = v0 → X.ev f' (.t q1) = v1 → X.ev f' (.t q2) = .i .u8 (c : Int) → X.ev f' (.t q7) = v7' → X.ev f' (.t q8) = .i .i64 (i : Int) → Ext M M' → OwnRow lo M' 2 v7' (pv (inS sets c a lk out)) → Q .norm f' M') : Wp fns K54_4 f M Q := by
 obtain ⟨w1, w2⟩ := hw.sl
 have w2 : slen w = lk.length := w2.trans (nv_len lk)
 obtain ⟨s1, s2⟩ := hs.sl
 obtain ⟨p1, p2⟩ := hr1.sl
 have p2 : slen v1 = l.length := p2.trans (pv_len l)
 have hil : i < l.length := (List.getElem?_eq_some_iff.1 hi).1
 simp only [q0, q1, q2, q7, q8, q9, q10] at h0 h1 h2 h7 h8 h9 h10
 unfold K54_4
 simp (disch := first | omega | assumption) only [↓bxD, bA, reduceCtorEq, h0, h1, h2, h7, h8, h9, h10]
 refine Wp_inv (σ := Nat) (fun k f M' => k ≤ lk.length ∧ X.ev f (.t q0) = v0 ∧ X.ev f (.t q1) = v1 ∧ X.ev f (.t q2) = .i .u8 (c : Int) ∧ X.ev f (.t q8) = .i .i64 (i : Int) ∧ X.ev f (.t q9) = .p bx 0 ∧ X.ev f (.t q10) = w ∧ X.ev f (.t q11) = .i .i64 (k : Int) ∧ Ext M M' ∧ OwnRow lo M' 2 (X.ev f (.t q7)) (pv (inS sets c a (lk.take k) out))) (fun k => lk.length - k) ?_ 0 ?_
 ·rintro k f M' ⟨hk, e0, e1, e2, e8, e9, e10, e11, hx, hr⟩
  have xn := hx.n
  have xl := hx.lo
  have g5' := (hx.old bx hbx).trans g5
  simp only [q0, q1, q2, q7, q8, q9, q10, q11] at e0 e1 e2 e8 e9 e10 e11 hr
  generalize e7 : X.ev f (.t (Ky.k1 Dg.d7)) = u7 at hr
  unfold L54_3
  simp (disch := first | omega | assumption) only [↓bxD, bA, reduceCtorEq, e0, e1, e2, e7, e8, e9, e10, e11, w1, w2, nck_p]
  refine condP_split (fun hlt => ?_) (fun hge => ?_)
  ·have hk' : k < lk.length := by omega
   obtain ⟨z, hz⟩ : ∃ z, lk[k]? = some z := ⟨_, List.getElem?_eq_getElem hk'⟩
   obtain ⟨ro, sz, t, g, _, hct⟩ := nv_read (hw.ext hx) hz
   have hzs : z < sets.length := hlk z (List.mem_of_getElem? hz)
   obtain ⟨sv, hsv⟩ : ∃ sv, sets[z]? = some sv := ⟨_, List.getElem?_eq_getElem hzs⟩
   obtain ⟨sa, sb, sc, sd, rfl⟩ := h4 sv (List.mem_of_getElem? hsv)
   obtain ⟨ro', sz', t', g', _, hat⟩ := (hs.ext hx).read hsv
   have hgs := hat.getN
   have hgs' : Ev.getN t' 4 (soff vs + z * 4) = some (st4 sa sb sc sd) := hgs
   have ixs : ixV 4 vs (.i .i64 (z : Int)) = some (.p (sid vs) (soff vs + z * 4)) := ix_sl s1 (by rw [s2]; exact hzs)
   simp (disch := first | omega | assumption) only [↓bxD, bA, reduceCtorEq, e0, e1, e2, e7, e8, e9, e10, e11, w1, w2, nck_p]
   show Wp fns K54_2 _ _ _
   unfold K54_2
   simp (disch := first | omega | assumption) only [↓bxD, bA, reduceCtorEq, e0, e1, e2, e7, e8, e9, e10, e11, w1, w2, nck_p, g5', k0, g, hct, hk']
   refine Wp_dreg_of (by omega) ?_
   simp (disch := first | omega | assumption) only [↓bxD, bA, reduceCtorEq, e0, e1, e2, e7, e8, e9, e10, e11, w1, w2, nck_p, g5', k0, g, hct, hk', ixs, g', hgs', Option.map_some]
   refine bindP_call (hasByte' hc (by omega)) ?_
   rintro m M2 ⟨rfl, hx2⟩
   have xn2 := hx2.n
   have xl2 := hx2.lo
   obtain ⟨ro1, sz1, t1, g1, _, _, hp1, _⟩ := pv_read (hr1.ext (hx.trans hx2)) hi
   obtain ⟨ro2, sz2, t2, g2, _, hct2⟩ := nv_read (hw.ext (hx.trans hx2)) hz
   have hr2 := hr.ext hx2
   have hb : (inS sets c a (lk.take k) out).length ≤ 100000 := by
    have := inS_len sets c a (lk.take k) out
    rw [List.length_take] at this
    omega
   have hsc := inS_succ sets c a hz out
   rw [hsv, Option.getD_some] at hsc
   have ff : ∀ x y : Int, fillM [(0, 1, MV.i .i64 x), (1, 1, MV.i .i64 y)] [.i .i64 0, .i .i64 0] = some [.i .i64 x, .i .i64 y] := fun _ _ => rfl
   cases hh : hasS (st4 sa sb sc sd) c with
   | false =>
    rw [hh] at hsc
    simp (disch := first | omega | assumption) only [↓bxD, bA, reduceCtorEq, e0, e1, e2, e7, e8, e9, e10, e11, w1, w2, nck_p]
    show Wp fns K54_0 _ _ _
    unfold K54_0
    simp (disch := first | omega | assumption) only [↓bxD, bA, reduceCtorEq, e0, e1, e2, e7, e8, e9, e10, e11, w1, w2, nck_p]
    show Wp fns K54_1 _ _ _
    unfold K54_1
    simp (disch := first | omega | assumption) only [↓bxD, bA, reduceCtorEq, e0, e1, e2, e7, e8, e9, e10, e11, w1, w2, nck_p]
    refine ⟨k + 1, by omega, by omega, rfl, hx.trans hx2, ?_⟩
    rw [hsc]
    exact hr2
   | true =>
    rw [hh] at hsc
    simp (disch := first | omega | assumption) only [↓bxD, bA, reduceCtorEq, e0, e1, e2, e7, e8, e9, e10, e11, w1, w2, nck_p]
    show Wp fns K54_0 _ _ _
    unfold K54_0
    simp (disch := first | omega | assumption) only [↓bxD, bA, reduceCtorEq, e0, e1, e2, e7, e8, e9, e10, e11, w1, w2, nck_p]
    refine Wp_dreg_of (by omega) ?_
    simp (disch := first | omega | assumption) only [↓bxD, bA, reduceCtorEq, e0, e1, e2, e7, e8, e9, e10, e11, w1, w2, nck_p, g1, hp1, g2, hct2, p1, p2, hil, hk', ff, Option.map_some]
    refine bindP_call (add_any (p := (a, (z : Int))) (by omega) (by omega) hr2 hb) ?_
    rintro m M3 ⟨hx3, hr3⟩
    simp (disch := first | omega | assumption) only [↓bxD, bA, reduceCtorEq, e0, e1, e2, e7, e8, e9, e10, e11, w1, w2, nck_p]
    show Wp fns K54_1 _ _ _
    unfold K54_1
    simp (disch := first | omega | assumption) only [↓bxD, bA, reduceCtorEq, e0, e1, e2, e7, e8, e9, e10, e11, w1, w2, nck_p]
    refine ⟨k + 1, by omega, by omega, rfl, (hx.trans hx2).trans hx3, ?_⟩
    rw [hsc]
    exact hr3
  ·have hkl : k = lk.length := by omega
   simp (disch := first | omega | assumption) only [↓bxD, bA, reduceCtorEq, e0, e1, e2, e7, e8, e9, e10, e11, w1, w2, nck_p]
   rw [hkl, List.take_length] at hr
   exact hQ _ _ u7 (by simp only [bA, reduceCtorEq, e0, e1, e2, e7, e8, e9, e10, e11, w1, w2, nck_p]) (by simp only [bA, reduceCtorEq, e0, e1, e2, e7, e8, e9, e10, e11, w1, w2, nck_p]) (by simp only [bA, reduceCtorEq, e0, e1, e2, e7, e8, e9, e10, e11, w1, w2, nck_p]) (by simp only [bA, reduceCtorEq, e0, e1, e2, e7, e8, e9, e10, e11, w1, w2, nck_p]) (by simp only [bA, reduceCtorEq, e0, e1, e2, e7, e8, e9, e10, e11, w1, w2, nck_p]) hx hr
 ·refine ⟨Nat.zero_le _, by simp only [bA, reduceCtorEq, h0, h1, h2, h7, h8, h9, h10], by simp only [bA, reduceCtorEq, h0, h1, h2, h7, h8, h9, h10], by simp only [bA, reduceCtorEq, h0, h1, h2, h7, h8, h9, h10], by simp only [bA, reduceCtorEq, h0, h1, h2, h7, h8, h9, h10], by simp only [bA, reduceCtorEq, h0, h1, h2, h7, h8, h9, h10], by simp only [bA, reduceCtorEq, h0, h1, h2, h7, h8, h9, h10], by simp only [bA, reduceCtorEq, h0, h1, h2, h7, h8, h9, h10] <;> rfl, .refl _, ?_⟩
  simp (disch := first | omega | assumption) only [↓bxD, bA, reduceCtorEq, h0, h1, h2, h7, h8, h9, h10]
  exact h7r
def PvAt (M : MH) (e : List MV) (q : Pm × Bs) : Prop := ∃ vs vf vl vo fs, e = [vs, .b q.1.null, vf, vl, vo] ∧ RowAt M 4 vs q.2.sets ∧ RowAt M 1 vf (nv (bitsOf q.1.fi 150)) ∧ RowAt M 1 vl (nv (bitsOf q.1.la 150)) ∧ RowAt M 1 vo (lv fs) ∧ fs.length = q.2.fol.length ∧ ∀ (k : Nat) (x : MV) (A : Nat), fs[k]? = some x → q.2.fol[k]? = some A → RowAt M 1 x (nv (bitsOf A 150))
theorem PvAt.ext {M M' : MH} {e : List MV} {q : Pm × Bs} (h : PvAt M e q) (k : Ext M M') : PvAt M' e q := by
 obtain ⟨vs, vf, vl, vo, fs, h1, h2, h3, h4, h5, h6, h7⟩ := h
 exact ⟨vs, vf, vl, vo, fs, h1, h2.ext k, h3.ext k, h4.ext k, h5.ext k, h6, fun i x A a b => (h7 i x A a b).ext k⟩
structure OkQ (q : Pm × Bs) : Prop where
 sets : ∀ s ∈ q.2.sets, ∃ a b c d, s = st4 a b c d
 fi : ∀ i, q.1.fi.testBit i = true → i < q.2.sets.length
 fol : ∀ A ∈ q.2.fol, ∀ i, A.testBit i = true → i < q.2.sets.length
def PsAt (M : MH) (v : MV) (ps : List (Pm × Bs)) : Prop := ∃ es, RowAt M 5 v es ∧ es.length = ps.length ∧ ∀ (i : Nat) e q, es[i]? = some e → ps[i]? = some q → PvAt M e q
theorem PsAt.ext {M M' : MH} {v : MV} {ps : List (Pm × Bs)} (h : PsAt M v ps) (k : Ext M M') : PsAt M' v ps := by
 obtain ⟨es, h1, h2, h3⟩ := h
 exact ⟨es, h1.ext k, h2, fun i e q a b => (h3 i e q a b).ext k⟩
def lookP (q : Pm × Bs) (j : Int) : List Nat := if 0 ≤ j then bitsOf (q.2.fol[j.toNat]?.getD 0) 150 else bitsOf q.1.fi 150
def stpP (ps : List (Pm × Bs)) (c : Nat) (l : List (Nat × Int)) : List (Nat × Int) := l.foldl (fun out pr => match ps[pr.1]? with
 | some q => inS q.2.sets c pr.1 (lookP q pr.2) out
 | none => out) []
def OkP (ps : List (Pm × Bs)) (p : Nat × Int) : Prop := ∃ q, ps[p.1]? = some q ∧ (0 ≤ p.2 → p.2.toNat < q.2.fol.length)
theorem look_in {q : Pm × Bs} (h : OkQ q) (j : Int) : ∀ k ∈ lookP q j, k < q.2.sets.length := fun k hk => by
 unfold lookP at hk
 have hb : ∀ A, k ∈ bitsOf A 150 → A.testBit k = true := fun A h => (List.mem_filter.1 h).2
 split at hk
 ·cases hA : q.2.fol[j.toNat]? with
  | none => rw [hA] at hk; have := hb _ hk; simp at this
  | some A => rw [hA] at hk; exact h.fol A (List.mem_of_getElem? hA) k (hb _ hk)
 ·exact h.fi k (hb _ hk)
theorem look_len (q : Pm × Bs) (j : Int) : (lookP q j).length ≤ 150 := by
 unfold lookP
 split <;> exact bitsOf_len _ _
theorem stpP_succ (ps : List (Pm × Bs)) (c : Nat) {l : List (Nat × Int)} {i : Nat} {p : Nat × Int} {q : Pm × Bs} (h : l[i]? = some p) (hq : ps[p.1]? = some q) : stpP ps c (l.take (i + 1)) = inS q.2.sets c p.1 (lookP q p.2) (stpP ps c (l.take i)) := by
 unfold stpP
 rw [List.take_add_one, h, List.foldl_append]
 show (match ps[p.1]? with
  | some q => _
  | none => _) = _
 rw [hq]
theorem stpP_any {M : MH} {v0 v1 : MV} {ps : List (Pm × Bs)} {l : List (Nat × Int)} {c : Nat} (hlo : M.lo ≤ M.n) (hc : c < 256) (hps : PsAt M v0 ps) (hok : ∀ q ∈ ps, OkQ q) (hl : RowAt M 2 v1 (pv l)) (hlp : ∀ p ∈ l, OkP ps p) (hlb : ∀ i, (stpP ps c (l.take i)).length ≤ 50000) (hll : l.length ≤ 50000) : Cp fns 54 [v0, v1, .i .u8 (c : Int)] M fun m M' => Ext M M' ∧ OwnRow M.n M' 2 m (pv (stpP ps c l)) := by
 obtain ⟨es, hr0, hes, hpv⟩ := hps
 obtain ⟨s1, s2⟩ := hl.sl
 have s2 : slen v1 = l.length := s2.trans (pv_len l)
 obtain ⟨r1, r2⟩ := hr0.sl
 refine Cp_call (fn := F54) (by kernel_rfl) (Nat.le_of_ble_eq_true rfl) ?_
 show Wp fns B54 (T.set q2 (some (.i .u8 (c : Int))) (T.set q1 (some v1) (T.set q0 (some v0) T.lf))) M _
 unfold B54
 simp (disch := first | omega | assumption) only [↓bxD, bA, reduceCtorEq]
 refine Wp_inv (σ := Nat) (fun i f M' => i ≤ l.length ∧ X.ev f (.t q0) = v0 ∧ X.ev f (.t q1) = v1 ∧ X.ev f (.t q2) = .i .u8 (c : Int) ∧ X.ev f (.t q8) = .i .i64 (i : Int) ∧ Ext M M' ∧ OwnRow M.n M' 2 (X.ev f (.t q7)) (pv (stpP ps c (l.take i)))) (fun i => l.length - i) ?_ 0 ?_
 ·rintro i f M' ⟨hi, e0, e1, e2, e8, hx, hr⟩
  have xn := hx.n
  have xl := hx.lo
  simp only [q0, q1, q2, q7, q8] at e0 e1 e2 e8 hr
  generalize e7 : X.ev f (.t (Ky.k1 Dg.d7)) = u7 at hr
  unfold L54_7
  simp (disch := first | omega | assumption) only [↓bxD, bA, reduceCtorEq, e0, e1, e2, e7, e8, s1, s2, r1, r2, nck_p]
  refine condP_split (fun hlt => ?_) (fun hge => ?_)
  ·have hi' : i < l.length := by omega
   obtain ⟨pr, hp⟩ : ∃ pr, l[i]? = some pr := ⟨_, List.getElem?_eq_getElem hi'⟩
   obtain ⟨q, hq, hqj⟩ := hlp pr (List.mem_of_getElem? hp)
   have hpl : pr.1 < ps.length := (List.getElem?_eq_some_iff.1 hq).1
   obtain ⟨e, he⟩ : ∃ e, es[pr.1]? = some e := ⟨_, List.getElem?_eq_getElem (by omega)⟩
   have hQ := (hpv pr.1 e q he hq).ext hx
   obtain ⟨vs, vf, vl, vo, fs, rfl, w1, w2, w3, w4, w5, w6⟩ := hQ
   obtain ⟨ro, sz, t, g, hsl1, _, hc0, hc1⟩ := pv_read (hl.ext hx) hp
   obtain ⟨ro', sz', t', g', _, hat⟩ := (hr0.ext hx).read he
   have hg5 : Ev.getN t' 5 (soff v0 + pr.1 * 5) = some [vs, .b q.1.null, vf, vl, vo] := hat.getN
   have ix0 : ixV 5 v0 (.i .i64 (pr.1 : Int)) = some (.p (sid v0) (soff v0 + pr.1 * 5)) := ix_sl r1 (by rw [r2, hes]; exact hpl)
   simp (disch := first | omega | assumption) only [↓bxD, bA, reduceCtorEq, e0, e1, e2, e7, e8, s1, s2, r1, r2, nck_p]
   show Wp fns K54_6 _ _ _
   unfold K54_6
   simp (disch := first | omega | assumption) only [↓bxD, bA, reduceCtorEq, e0, e1, e2, e7, e8, s1, s2, r1, r2, nck_p, g, hc0, hc1, hi', ix0, g', hg5, Option.map_some]
   obtain ⟨z1, _⟩ := w1.sl
   obtain ⟨z2, _⟩ := w2.sl
   obtain ⟨z3, _⟩ := w3.sl
   obtain ⟨z4, z4'⟩ := w4.sl
   have z4' : slen vo = fs.length := z4'.trans (by unfold lv; rw [List.length_map])
   have hst : stOk 5 (.ag [vs, .b q.1.null, vf, vl, vo]) = true := by
    cases vs <;> first | cases z1 | skip
    all_goals cases vf <;> first | cases z2 | skip
    all_goals cases vl <;> first | cases z3 | skip
    all_goals cases vo <;> first | cases z4 | skip
    all_goals rfl
   have hcl : MV.cells (.ag [vs, .b q.1.null, vf, vl, vo]) = [vs, .b q.1.null, vf, vl, vo] := rfl
   have hz : hasB (ofL [MV.nils, MV.b false, MV.nils, MV.nils, MV.nils] 0) 5 0 = true := rfl
   have hds : stW (M'.push (MO.cs false 5 (ofL [MV.nils, MV.b false, MV.nils, MV.nils, MV.nils] 0))) 5 M'.n 0 (.ag [vs, .b q.1.null, vf, vl, vo]) (some (MO.cs false 5 (ofL [MV.nils, MV.b false, MV.nils, MV.nils, MV.nils] 0))) = some (.u, (M'.push (MO.cs false 5 (ofL [MV.nils, MV.b false, MV.nils, MV.nils, MV.nils] 0))).set M'.n (some (.cs false 5 (setN [vs, .b q.1.null, vf, vl, vo] 0 (ofL [MV.nils, MV.b false, MV.nils, MV.nils, MV.nils] 0))))) := stW_ok (M := M'.push _) (by show M'.lo ≤ M'.n; omega) hst hz
   simp (disch := first | omega | assumption) only [↓bxD, bA, reduceCtorEq, e0, e1, e2, e7, e8, hst, hcl, hz, nck_p, hds]
   generalize hM2 : MH.set _ _ _ = M2
   have x2 : Ext M' M2 := by rw [← hM2]; exact (Ext.push M' _).set _ (Nat.le_refl _)
   have g2 : M2.get M'.n = some (.cs false 5 (setN [vs, .b q.1.null, vf, vl, vo] 0 (ofL [MV.nils, MV.b false, MV.nils, MV.nils, MV.nils] 0))) := by rw [← hM2]; exact set_same _ _
   have n2 : M2.n = M'.n + 1 := by rw [← hM2]; rfl
   have l2 := x2.lo
   clear hM2
   have A5 := at_setN [vs, .b q.1.null, vf, vl, vo] 0 (ofL [MV.nils, MV.b false, MV.nils, MV.nils, MV.nils] 0)
   generalize setN [vs, .b q.1.null, vf, vl, vo] 0 (ofL [MV.nils, MV.b false, MV.nils, MV.nils, MV.nils] 0) = c5 at A5 g2
   have k0 : cget c5 0 = some vs := A5 0 _ rfl
   have k2 : cget c5 2 = some vf := A5 2 _ rfl
   have k4 : cget c5 4 = some vo := A5 4 _ rfl
   have gv := (x2.old _ hsl1).trans g
   have hOk := hok q (List.mem_of_getElem? hq)
   have xx := hx.trans x2
   have hsucc := stpP_succ ps c hp hq
   have hln := look_len q pr.2
   have step : ∀ (f : Fr) (w : MV), X.ev f (.t q0) = v0 → X.ev f (.t q1) = v1 → X.ev f (.t q2) = .i .u8 (c : Int) → X.ev f (.t q7) = u7 → X.ev f (.t q8) = .i .i64 (i : Int) → X.ev f (.t q9) = .p M'.n 0 → X.ev f (.t q10) = w → RowAt M2 1 w (nv (lookP q pr.2)) → ∀ {Q : Post}, (∀ f' M3 v7', X.ev f' (.t q0) = v0 → X.ev f' (.t q1) = v1 → X.ev f' (.t q2) = .i .u8 (c : Int) → X.ev f' (.t q7) = v7' → X.ev f' (.t q8) = .i .i64 (i : Int) → Ext M2 M3 → OwnRow M.n M3 2 v7' (pv (stpP ps c (l.take (i + 1)))) → Q .norm f' M3) → Wp fns K54_4 f M2 Q := by
    intro f w e0 e1 e2 e7 e8 e9 e10 hw Q hQ
    rw [hsucc] at hQ
    exact step_row (by omega) hc e0 e1 e2 e7 e8 e9 e10 g2 (by omega) k0 (w1.ext x2) hOk.sets hw (look_in hOk _) (by omega) (by omega) (hr.ext x2) (hlb i) (hl.ext xx) hp hQ
   by_cases hj : 0 ≤ pr.2
   ·have dj : decide (0 ≤ pr.2) = true := decide_eq_true hj
    obtain ⟨jn, hjn⟩ : ∃ n : Nat, pr.2 = (n : Int) := ⟨pr.2.toNat, by omega⟩
    have hjl := hqj hj
    rw [hjn, Int.toNat_natCast] at hjl
    obtain ⟨w, hw⟩ : ∃ w, fs[jn]? = some w := ⟨_, List.getElem?_eq_getElem (by omega)⟩
    obtain ⟨A, hA⟩ : ∃ A, q.2.fol[jn]? = some A := ⟨_, List.getElem?_eq_getElem hjl⟩
    have hlk : lookP q pr.2 = bitsOf A 150 := by unfold lookP; rw [if_pos hj, hjn, Int.toNat_natCast, hA]; rfl
    obtain ⟨ro6, sz6, t6, g6, hs6, hat6⟩ := w4.read (lv_at hw)
    have cw : cget t6 (soff vo + jn * 1) = some w := hat6 0 _ rfl
    have ixo : ixV 1 vo (.i .i64 (jn : Int)) = some (.p (sid vo) (soff vo + jn * 1)) := ix_sl z4 (by rw [z4']; omega)
    have gv6 := (x2.old _ hs6).trans g6
    rw [hjn] at hc1 dj
    simp (disch := first | omega | assumption) only [↓bxD, bA, Nat.reduceBEq, reduceCtorEq, Nat.reduceAdd, Nat.reduceSub, Nat.reduceMul, Nat.reduceLeDiff, Nat.reduceLT, e0, e1, e2, e7, e8, g2, k0, k2, k4, gv, hc0, hc1, hi', g, s1, s2, z4, z4', nck_p, hc1, dj]
    refine Wp_dreg_of (by omega) ?_
    simp (disch := first | omega | assumption) only [↓bxD, bA, reduceCtorEq, e0, e1, e2, e7, e8, g2, k0, k2, k4, gv, hc0, hc1, hi', g, s1, s2, z4, z4', nck_p, hc1, ixo, g6, gv6, cw]
    show Wp fns K54_4 _ _ _
    refine step _ w (by simp only [bA, reduceCtorEq, e0, e1, e2, e7, e8, g2, k0, k2, k4, gv, hc0, hc1, hi', g, s1, s2, z4, z4', nck_p]) (by simp only [bA, reduceCtorEq, e0, e1, e2, e7, e8, g2, k0, k2, k4, gv, hc0, hc1, hi', g, s1, s2, z4, z4', nck_p]) (by simp only [bA, reduceCtorEq, e0, e1, e2, e7, e8, g2, k0, k2, k4, gv, hc0, hc1, hi', g, s1, s2, z4, z4', nck_p]) (by simp only [bA, reduceCtorEq, e0, e1, e2, e7, e8, g2, k0, k2, k4, gv, hc0, hc1, hi', g, s1, s2, z4, z4', nck_p]) (by simp only [bA, reduceCtorEq, e0, e1, e2, e7, e8, g2, k0, k2, k4, gv, hc0, hc1, hi', g, s1, s2, z4, z4', nck_p]) (by simp only [bA, reduceCtorEq, e0, e1, e2, e7, e8, g2, k0, k2, k4, gv, hc0, hc1, hi', g, s1, s2, z4, z4', nck_p]) (by simp only [bA, reduceCtorEq, e0, e1, e2, e7, e8, g2, k0, k2, k4, gv, hc0, hc1, hi', g, s1, s2, z4, z4', nck_p]) (by rw [hlk]; exact (w6 jn w A hw hA).ext x2) ?_
    intro f' M3 v7' b0 b1 b2 b7 b8 hx3 hr3
    simp only [q7, q8] at b7 b8
    show Wp fns K54_5 _ _ _
    unfold K54_5
    simp (disch := first | omega | assumption) only [↓bxD, bA, reduceCtorEq, e0, e1, e2, e7, e8, g2, k0, k2, k4, gv, hc0, hc1, hi', g, s1, s2, z4, z4', nck_p, b8]
    refine ⟨i + 1, by omega, by omega, b0, b1, b2, rfl, xx.trans hx3, ?_⟩
    rw [b7]
    exact hr3
   ·have dj : decide (0 ≤ pr.2) = false := decide_eq_false hj
    have hlk : lookP q pr.2 = bitsOf q.1.fi 150 := by unfold lookP; rw [if_neg hj]
    simp (disch := first | omega | assumption) only [↓bxD, bA, Nat.reduceBEq, reduceCtorEq, Nat.reduceAdd, Nat.reduceSub, Nat.reduceMul, Nat.reduceLeDiff, Nat.reduceLT, e0, e1, e2, e7, e8, g2, k0, k2, k4, gv, hc0, hc1, hi', g, s1, s2, z4, z4', nck_p, hc1, dj]
    show Wp fns K54_4 _ _ _
    refine step _ vf (by simp only [bA, reduceCtorEq, e0, e1, e2, e7, e8, g2, k0, k2, k4, gv, hc0, hc1, hi', g, s1, s2, z4, z4', nck_p]) (by simp only [bA, reduceCtorEq, e0, e1, e2, e7, e8, g2, k0, k2, k4, gv, hc0, hc1, hi', g, s1, s2, z4, z4', nck_p]) (by simp only [bA, reduceCtorEq, e0, e1, e2, e7, e8, g2, k0, k2, k4, gv, hc0, hc1, hi', g, s1, s2, z4, z4', nck_p]) (by simp only [bA, reduceCtorEq, e0, e1, e2, e7, e8, g2, k0, k2, k4, gv, hc0, hc1, hi', g, s1, s2, z4, z4', nck_p]) (by simp only [bA, reduceCtorEq, e0, e1, e2, e7, e8, g2, k0, k2, k4, gv, hc0, hc1, hi', g, s1, s2, z4, z4', nck_p]) (by simp only [bA, reduceCtorEq, e0, e1, e2, e7, e8, g2, k0, k2, k4, gv, hc0, hc1, hi', g, s1, s2, z4, z4', nck_p]) (by simp only [bA, reduceCtorEq, e0, e1, e2, e7, e8, g2, k0, k2, k4, gv, hc0, hc1, hi', g, s1, s2, z4, z4', nck_p]) (by rw [hlk]; exact w2.ext x2) ?_
    intro f' M3 v7' b0 b1 b2 b7 b8 hx3 hr3
    simp only [q7, q8] at b7 b8
    show Wp fns K54_5 _ _ _
    unfold K54_5
    simp (disch := first | omega | assumption) only [↓bxD, bA, reduceCtorEq, e0, e1, e2, e7, e8, g2, k0, k2, k4, gv, hc0, hc1, hi', g, s1, s2, z4, z4', nck_p, b8]
    refine ⟨i + 1, by omega, by omega, b0, b1, b2, rfl, xx.trans hx3, ?_⟩
    rw [b7]
    exact hr3
  ·have hil : i = l.length := by omega
   simp (disch := first | omega | assumption) only [↓bxD, bA, reduceCtorEq, e0, e1, e2, e7, e8, s1, s2, r1, r2, nck_p]
   show Wp fns K54_8 _ _ _
   unfold K54_8
   simp (disch := first | omega | assumption) only [↓bxD, bA, reduceCtorEq, e0, e1, e2, e7, e8, s1, s2, r1, r2, nck_p]
   rw [hil, List.take_length] at hr
   exact ⟨hx, hr⟩
 ·refine ⟨Nat.zero_le _, by simp only [bA, reduceCtorEq], by simp only [bA, reduceCtorEq], by simp only [bA, reduceCtorEq], by simp only [bA, reduceCtorEq] <;> rfl, .refl _, ?_⟩
  simp (disch := first | omega | assumption) only [↓bxD, bA, reduceCtorEq]
  exact OwnRow.nil _ M 2
def Lt2 (p q : Nat × Int) : Prop := lessP p.1 p.2 q.1 q.2 = true
theorem lt2_iff {p q : Nat × Int} : Lt2 p q ↔ p.1 < q.1 ∨ (p.1 = q.1 ∧ p.2 < q.2) := by
 unfold Lt2 lessP
 simp only [Bool.or_eq_true, Bool.and_eq_true, decide_eq_true_eq]
 omega
def Rise (l : List (Nat × Int)) : Prop := l.Pairwise Lt2
theorem mem_ins {p q : Nat × Int} : ∀ {l : List (Nat × Int)}, q ∈ ins p l ↔ q = p ∨ q ∈ l
 | [] => by simp [ins]
 | x :: r => by
  rw [ins]
  split
  ·rw [List.mem_cons, mem_ins, List.mem_cons]
   constructor
   ·rintro (h | h | h)
    ·exact .inr (.inl h)
    ·exact .inl h
    ·exact .inr (.inr h)
   ·rintro (h | h | h)
    ·exact .inr (.inl h)
    ·exact .inl h
    ·exact .inr (.inr h)
  ·split
   ·rename_i e
    subst e
    simp
   ·simp
theorem rise_ins {p : Nat × Int} : ∀ {l : List (Nat × Int)}, Rise l → Rise (ins p l)
 | [], _ => by unfold Rise; simp [ins]
 | x :: r, h => by
  unfold Rise at *
  rw [List.pairwise_cons] at h
  rw [ins]
  split
  ·rename_i hl
   rw [List.pairwise_cons]
   refine ⟨fun y hy => ?_, rise_ins (p := p) h.2⟩
   rcases mem_ins.1 hy with rfl | hy
   ·exact hl
   ·exact h.1 y hy
  ·split
   ·exact List.pairwise_cons.2 h
   ·rename_i hl hne
    have hpx : Lt2 p x := by
     rw [lt2_iff]
     have h1 : ¬ Lt2 x p := hl
     rw [lt2_iff] at h1
     have h2 : ¬ (x.1 = p.1 ∧ x.2 = p.2) := fun e => hne (Prod.ext e.1 e.2)
     omega
    rw [List.pairwise_cons]
    refine ⟨fun y hy => ?_, List.pairwise_cons.2 h⟩
    rcases List.mem_cons.1 hy with rfl | hy
    ·exact hpx
    ·have := h.1 y hy
     rw [lt2_iff] at *
     omega
theorem mem_inS {sets : List (List MV)} {c a : Nat} {q : Nat × Int} : ∀ {lk : List Nat} {out : List (Nat × Int)}, q ∈ inS sets c a lk out ↔ q ∈ out ∨ ∃ k ∈ lk, hasS (sets[k]?.getD []) c = true ∧ q = (a, (k : Int))
 | [], out => by
  show q ∈ out ↔ _
  simp
 | k :: r, out => by
  show q ∈ inS sets c a r (if hasS (sets[k]?.getD []) c = true then ins (a, (k : Int)) out else out) ↔ _
  rw [mem_inS]
  split
  ·rename_i hk
   rw [mem_ins]
   constructor
   ·rintro ((h | h) | ⟨k', h1, h2⟩)
    ·exact .inr ⟨k, List.mem_cons_self, hk, h⟩
    ·exact .inl h
    ·exact .inr ⟨k', List.mem_cons_of_mem _ h1, h2⟩
   ·rintro (h | ⟨k', h1, h2⟩)
    ·exact .inl (.inr h)
    ·rcases List.mem_cons.1 h1 with rfl | h1
     ·exact .inl (.inl h2.2)
     ·exact .inr ⟨k', h1, h2⟩
  ·rename_i hk
   constructor
   ·rintro (h | ⟨k', h1, h2⟩)
    ·exact .inl h
    ·exact .inr ⟨k', List.mem_cons_of_mem _ h1, h2⟩
   ·rintro (h | ⟨k', h1, h2⟩)
    ·exact .inl h
    ·rcases List.mem_cons.1 h1 with rfl | h1
     ·exact absurd h2.1 hk
     ·exact .inr ⟨k', h1, h2⟩
theorem rise_inS {sets : List (List MV)} {c a : Nat} : ∀ {lk : List Nat} {out : List (Nat × Int)}, Rise out → Rise (inS sets c a lk out)
 | [], out, h => h
 | k :: r, out, h => by
  show Rise (inS sets c a r (if hasS (sets[k]?.getD []) c = true then ins (a, (k : Int)) out else out))
  refine rise_inS ?_
  split
  ·exact rise_ins h
  ·exact h
def stp1 (ps : List (Pm × Bs)) (c : Nat) (out : List (Nat × Int)) (pr : Nat × Int) : List (Nat × Int) := match ps[pr.1]? with
 | some q => inS q.2.sets c pr.1 (lookP q pr.2) out
 | none => out
def GoP (ps : List (Pm × Bs)) (c : Nat) (p q : Nat × Int) : Prop := ∃ x, ps[p.1]? = some x ∧ ∃ k ∈ lookP x p.2, hasS (x.2.sets[k]?.getD []) c = true ∧ q = (p.1, (k : Int))
theorem mem_fold {ps : List (Pm × Bs)} {c : Nat} {q : Nat × Int} : ∀ {l out : List (Nat × Int)}, q ∈ l.foldl (stp1 ps c) out ↔ q ∈ out ∨ ∃ p ∈ l, GoP ps c p q
 | [], out => by simp
 | p :: l, out => by
  rw [List.foldl_cons, mem_fold]
  have e : q ∈ stp1 ps c out p ↔ q ∈ out ∨ GoP ps c p q := by
   unfold stp1 GoP
   cases hx : ps[p.1]? with
   | none => simp
   | some x =>
    simp only
    rw [mem_inS]
    constructor
    ·rintro (h | ⟨k, h1, h2, h3⟩)
     ·exact .inl h
     ·exact .inr ⟨x, rfl, k, h1, h2, h3⟩
    ·rintro (h | ⟨y, hy, k, h1, h2, h3⟩)
     ·exact .inl h
     ·injection hy with hy
      subst hy
      exact .inr ⟨k, h1, h2, h3⟩
  rw [e]
  constructor
  ·rintro ((h | h) | ⟨p', h1, h2⟩)
   ·exact .inl h
   ·exact .inr ⟨p, List.mem_cons_self, h⟩
   ·exact .inr ⟨p', List.mem_cons_of_mem _ h1, h2⟩
  ·rintro (h | ⟨p', h1, h2⟩)
   ·exact .inl (.inl h)
   ·rcases List.mem_cons.1 h1 with rfl | h1
    ·exact .inl (.inr h2)
    ·exact .inr ⟨p', h1, h2⟩
theorem rise_fold {ps : List (Pm × Bs)} {c : Nat} : ∀ {l out : List (Nat × Int)}, Rise out → Rise (l.foldl (stp1 ps c) out)
 | [], out, h => h
 | p :: l, out, h => by
  rw [List.foldl_cons]
  refine rise_fold ?_
  unfold stp1
  split
  ·exact rise_inS h
  ·exact h
theorem mem_stpP {ps : List (Pm × Bs)} {c : Nat} {l : List (Nat × Int)} {q : Nat × Int} : q ∈ stpP ps c l ↔ ∃ p ∈ l, GoP ps c p q := by
 have := mem_fold (ps := ps) (c := c) (q := q) (l := l) (out := [])
 have e : stpP ps c l = l.foldl (stp1 ps c) [] := rfl
 rw [e, this]
 simp
theorem rise_stpP (ps : List (Pm × Bs)) (c : Nat) (l : List (Nat × Int)) : Rise (stpP ps c l) := rise_fold (ps := ps) (c := c) (l := l) (out := []) List.Pairwise.nil
theorem rise_ext : ∀ {a b : List (Nat × Int)}, Rise a → Rise b → (∀ q, q ∈ a ↔ q ∈ b) → a = b
 | [], [], _, _, _ => rfl
 | [], y :: b, _, _, h => absurd ((h y).2 List.mem_cons_self) (by simp)
 | x :: a, [], _, _, h => absurd ((h x).1 List.mem_cons_self) (by simp)
 | x :: a, y :: b, ha, hb, h => by
  unfold Rise at ha hb
  rw [List.pairwise_cons] at ha hb
  have hxy : x = y := by
   rcases List.mem_cons.1 ((h x).1 List.mem_cons_self) with e | e
   ·exact e
   ·rcases List.mem_cons.1 ((h y).2 List.mem_cons_self) with e2 | e2
    ·exact e2.symm
    ·have h1 := hb.1 x e
     have h2 := ha.1 y e2
     rw [lt2_iff] at h1 h2
     omega
  subst hxy
  congr 1
  refine rise_ext ha.2 hb.2 fun q => ?_
  have := h q
  rw [List.mem_cons, List.mem_cons] at this
  constructor
  ·intro hq
   rcases this.1 (.inr hq) with e | e
   ·subst e
    have := ha.1 q hq
    rw [lt2_iff] at this
    omega
   ·exact e
  ·intro hq
   rcases this.2 (.inr hq) with e | e
   ·subst e
    have := hb.1 q hq
    rw [lt2_iff] at this
    omega
   ·exact e
structure OkL (ps : List (Pm × Bs)) (l : List (Nat × Int)) : Prop where
 ok : ∀ p ∈ l, OkP ps p
 lo : ∀ p ∈ l, -1 ≤ p.2
 rise : Rise l
structure OkPs (ps : List (Pm × Bs)) : Prop where
 q : ∀ q ∈ ps, OkQ q
 fl : ∀ q ∈ ps, q.2.fol.length = q.2.sets.length
 sl : ∀ q ∈ ps, q.2.sets.length ≤ 150
 n : ps.length ≤ 40
theorem rise_len : ∀ {l : List (Nat × Int)} {B : Nat}, Rise l → (∀ p ∈ l, p.1 * 151 + (p.2 + 1).toNat < B ∧ -1 ≤ p.2 ∧ p.2 < 150) → l.length ≤ B
 | [], B, _, _ => Nat.zero_le _
 | x :: l, B, h, hb => by
  unfold Rise at h
  rw [List.pairwise_cons] at h
  have hx := hb x List.mem_cons_self
  have key : ∀ (l : List (Nat × Int)) (k : Nat), Rise l → (∀ p ∈ l, k ≤ p.1 * 151 + (p.2 + 1).toNat ∧ p.1 * 151 + (p.2 + 1).toNat < B ∧ -1 ≤ p.2 ∧ p.2 < 150) → k ≤ B → l.length + k ≤ B := by
   intro l
   induction l with
   | nil => intro k _ _ hk; simpa using hk
   | cons y l ih =>
    intro k hr hp hk
    unfold Rise at hr
    rw [List.pairwise_cons] at hr
    have hy := hp y List.mem_cons_self
    have := ih (y.1 * 151 + (y.2 + 1).toNat + 1) hr.2 (fun p hpl => by
     have h1 := hr.1 p hpl
     have h2 := hp p (List.mem_cons_of_mem _ hpl)
     rw [lt2_iff] at h1
     refine ⟨?_, h2.2.1, h2.2.2⟩
     rcases h1 with h1 | ⟨h1, h3⟩
     ·have : (y.1 + 1) * 151 ≤ p.1 * 151 := Nat.mul_le_mul_right 151 h1
      omega
     ·rw [h1]; omega) (by omega)
    rw [List.length_cons]
    omega
  have := key (x :: l) 0 (List.pairwise_cons.2 h) (fun p hp => ⟨Nat.zero_le _, hb p hp⟩) (Nat.zero_le _)
  omega
theorem okL_len {ps : List (Pm × Bs)} (hps : OkPs ps) {l : List (Nat × Int)} (h : OkL ps l) : l.length ≤ 6040 := by
 refine rise_len h.rise fun p hp => ?_
 obtain ⟨q, hq, hj⟩ := h.ok p hp
 have hm := List.mem_of_getElem? hq
 have h1 := (List.getElem?_eq_some_iff.1 hq).1
 have h2 := hps.n
 have h3 := hps.fl q hm
 have h4 := hps.sl q hm
 have h5 := h.lo p hp
 have h6 : p.2 < 150 := by
  by_cases h0 : 0 ≤ p.2
  ·have := hj h0; omega
  ·omega
 have h7 : (p.1 + 1) * 151 ≤ 40 * 151 := Nat.mul_le_mul_right 151 (by omega)
 exact ⟨by omega, h5, h6⟩
theorem okL_step {ps : List (Pm × Bs)} (hps : OkPs ps) (c : Nat) (l : List (Nat × Int)) : OkL ps (stpP ps c l) := by
 refine ⟨fun p hp => ?_, fun p hp => ?_, rise_stpP ps c l⟩
 ·obtain ⟨p0, _, x, hx, k, hk, _, rfl⟩ := mem_stpP.1 hp
  have hm := List.mem_of_getElem? hx
  refine ⟨x, hx, fun _ => ?_⟩
  have := look_in (hps.q x hm) p0.2 k hk
  rw [hps.fl x hm, Int.toNat_natCast]
  exact this
 ·obtain ⟨p0, _, x, hx, k, hk, _, rfl⟩ := mem_stpP.1 hp
  show (-1 : Int) ≤ (k : Int)
  omega
def ints (l : List Int) : List (List MV) := l.map fun z => [.i .i64 z]
theorem ints_len (l : List Int) : (ints l).length = l.length := by unfold ints; rw [List.length_map]
theorem ints_at {l : List Int} {i : Nat} {z : Int} (h : l[i]? = some z) : (ints l)[i]? = some [.i .i64 z] := by unfold ints; rw [List.getElem?_map, h]; rfl
def IntRow (M : MH) (v : MV) (l : List Int) : Prop := RowAt M 1 v (ints l)
theorem IntRow.ext {M M' : MH} {v : MV} {l : List Int} (h : IntRow M v l) (k : Ext M M') : IntRow M' v l := RowAt.ext h k
theorem IntRow.sl {M : MH} {v : MV} {l : List Int} (h : IntRow M v l) : isSl v = true ∧ slen v = l.length := by
 obtain ⟨a, b⟩ := RowAt.sl h
 exact ⟨a, b.trans (ints_len l)⟩
theorem IntRow.read {M : MH} {v : MV} {l : List Int} (h : IntRow M v l) {i : Nat} {z : Int} (hz : l[i]? = some z) : ∃ ro s c, M.get (sid v) = some (.cs ro s c) ∧ sid v < M.n ∧ cget c (soff v + i * 1) = some (.i .i64 z) := by
 obtain ⟨ro, s, c, h1, h2, h3⟩ := RowAt.read h (ints_at hz)
 exact ⟨ro, s, c, h1, h2, h3 0 _ rfl⟩
noncomputable def mksI (M : MH) (sz bytes : Nat) (zs : List MV) (x y : MV) : Option (MV × MH) := match x, y with
 | .i _ (.ofNat l), .i _ (.ofNat c) => bif Nat.ble l c && Nat.ble (bytes * c) 281474976710656 && Nat.ble c 9223372036854775807 && Nat.ble M.lo M.n then some (.sl M.n 0 l 0, M.push (.cs false sz (ofL (zrow zs c) 0))) else none
 | _, _ => none
theorem ev_mks {c : CallM} {f : Fr} {M : MH} (sz bytes : Nat) (zs : List MV) (x y : X) : Iop.ev c f M (.mks sz bytes zs x y) = mksI M sz bytes zs (x.ev f) (y.ev f) := rfl
theorem mks_ok {M : MH} {sz bytes : Nat} {zs : List MV} {k k' : IntKind} {n : Nat} (h1 : bytes * n ≤ 281474976710656) (h2 : n ≤ 9223372036854775807) (h3 : M.lo ≤ M.n) : mksI M sz bytes zs (.i k (n : Int)) (.i k' (n : Int)) = some (.sl M.n 0 n 0, M.push (.cs false sz (ofL (zrow zs n) 0))) := by
 show (bif Nat.ble n n && Nat.ble (bytes * n) 281474976710656 && Nat.ble n 9223372036854775807 && Nat.ble M.lo M.n then some (MV.sl M.n 0 n 0, M.push (.cs false sz (ofL (zrow zs n) 0))) else none) = _
 rw [ble_t' (Nat.le_refl n), ble_t' h1, ble_t' h2, ble_t' h3]
 rfl
theorem zrow_rep (x : MV) : ∀ n, zrow [x] n = List.replicate n x
 | 0 => rfl
 | n + 1 => by rw [zrow_succ, zrow_rep x n]; rfl
def BoolsAt (M : MH) (id : Nat) (l : List Bool) : Prop := ∃ t, M.get id = some (.cs false 1 t) ∧ At t 0 (l.map MV.b)
theorem BoolsAt.new {M : MH} (n : Nat) : BoolsAt (M.push (.cs false 1 (ofL (zrow [.b false] n) 0))) M.n (List.replicate n false) := ⟨_, push_new _, by rw [List.map_replicate, ← zrow_rep]; exact at_ofL _⟩
theorem BoolsAt.same {M M' : MH} {id : Nat} {l : List Bool} (h : BoolsAt M id l) (e : M'.get id = M.get id) : BoolsAt M' id l := let ⟨t, h1, h2⟩ := h; ⟨t, e.trans h1, h2⟩
theorem BoolsAt.read {M : MH} {id : Nat} {l : List Bool} (h : BoolsAt M id l) : ∃ t, M.get id = some (.cs false 1 t) ∧ (∀ i b, l[i]? = some b → cget t (i * 1) = some (.b b)) ∧ (∀ i, i < l.length → hasB t 1 (i * 1) = true) ∧ ∀ i x, i < l.length → At (setN [.b x] (i * 1) t) 0 ((l.set i x).map MV.b) := by
 obtain ⟨t, h1, h2⟩ := h
 refine ⟨t, h1, fun i b hb => ?_, fun i hi => has_at h2 (Nat.zero_le _) (by rw [List.length_map]; omega), fun i x hi => ?_⟩
 ·rw [Nat.mul_one]
  have := h2 i _ (by rw [List.getElem?_map, hb]; rfl)
  rwa [Nat.zero_add] at this
 ·rw [List.map_set]
  exact h2.set' i _ (by rw [List.length_map]; exact hi) (by omega)
theorem ix_slc {s id off n d : Nat} {k : IntKind} {i : Nat} (hi : i < n) : ixV s (.sl id off n d) (.i k (i : Int)) = some (.p id (off + i * s)) := ix_sl (v := .sl id off n d) rfl hi
theorem len_slc (id off n d : Nat) : lenV (.sl id off n d) = some (.i .i64 (n : Int)) := rfl
def falses (l : List Bool) : Nat := l.count false
theorem falses_set {l : List Bool} {i : Nat} (h : l[i]? = some false) : falses (l.set i true) < falses l := by
 unfold falses
 induction l generalizing i with
 | nil => simp at h
 | cons b l ih =>
  cases i with
  | zero =>
   simp only [List.getElem?_cons_zero, Option.some.injEq] at h
   subst h
   simp
  | succ i =>
   simp only [List.getElem?_cons_succ] at h
   have := ih h
   rw [List.set_cons_succ, List.count_cons, List.count_cons]
   omega
def bAt (l : List Bool) (i : Nat) : Bool := l.getD i false
theorem bAt_some {l : List Bool} {i : Nat} {b : Bool} (h : l[i]? = some b) : bAt l i = b := by unfold bAt; rw [List.getD_eq_getElem?_getD, h]; rfl
theorem bAt_at {l : List Bool} {i : Nat} (h : i < l.length) : l[i]? = some (bAt l i) := by
 unfold bAt
 rw [List.getD_eq_getElem?_getD, List.getElem?_eq_getElem h]
 rfl
def IntsAt (M : MH) (id : Nat) (l : List Int) : Prop := ∃ t, M.get id = some (.cs false 1 t) ∧ At t 0 (l.map (MV.i .i64))
theorem flat_ints : ∀ l : List Int, (ints l).flatten = l.map (MV.i .i64)
 | [] => rfl
 | b :: l => by
  show (MV.i .i64 b) :: (ints l).flatten = _
  rw [flat_ints l]; rfl
theorem IntsAt.same {M M' : MH} {id : Nat} {l : List Int} (h : IntsAt M id l) (e : M'.get id = M.get id) : IntsAt M' id l := let ⟨t, h1, h2⟩ := h; ⟨t, e.trans h1, h2⟩
theorem IntsAt.read {M : MH} {id : Nat} {l : List Int} (h : IntsAt M id l) : ∃ t, M.get id = some (.cs false 1 t) ∧ (∀ i b, l[i]? = some b → cget t (i * 1) = some (.i .i64 b)) ∧ (∀ i, i < l.length → hasB t 1 (i * 1) = true) ∧ ∀ i x, i < l.length → At (setN [.i .i64 x] (i * 1) t) 0 ((l.set i x).map (MV.i .i64)) := by
 obtain ⟨t, h1, h2⟩ := h
 refine ⟨t, h1, fun i b hb => ?_, fun i hi => has_at h2 (Nat.zero_le _) (by rw [List.length_map]; omega), fun i x hi => ?_⟩
 ·rw [Nat.mul_one]
  have := h2 i _ (by rw [List.getElem?_map, hb]; rfl)
  rwa [Nat.zero_add] at this
 ·rw [List.map_set]
  exact h2.set' i _ (by rw [List.length_map]; exact hi) (by omega)
theorem IntsAt.new {M : MH} (n : Nat) : IntsAt (M.push (.cs false 1 (ofL (zrow [.i .i64 0] n) 0))) M.n (List.replicate n 0) := ⟨_, push_new _, by rw [List.map_replicate, ← zrow_rep]; exact at_ofL _⟩
theorem IntsAt.row {M : MH} {id : Nat} {l : List Int} (h : IntsAt M id l) (hid : id < M.n) : IntRow M (.sl id 0 l.length 0) l := by
 obtain ⟨t, h1, h2⟩ := h
 refine ⟨fun e he => ?_, .inr ⟨id, 0, 0, false, 1, t, by rw [ints_len], h1, hid, ?_⟩⟩
 ·obtain ⟨b, _, rfl⟩ := List.mem_map.1 he; rfl
 ·rw [flat_ints]; exact h2
def MxAt (M : MH) (v : MV) (N : List (List Int)) : Prop := ∃ es, RowAt M 1 v es ∧ es.length = N.length ∧ ∀ (i : Nat) l, N[i]? = some l → ∃ ur, es[i]? = some [ur] ∧ IntRow M ur l
theorem MxAt.ext {M M' : MH} {v : MV} {N : List (List Int)} (h : MxAt M v N) (k : Ext M M') : MxAt M' v N := let ⟨es, h1, h2, h3⟩ := h; ⟨es, h1.ext k, h2, fun i l hl => let ⟨ur, a, b⟩ := h3 i l hl; ⟨ur, a, b.ext k⟩⟩
theorem MxAt.sl {M : MH} {v : MV} {N : List (List Int)} (h : MxAt M v N) : isSl v = true ∧ slen v = N.length := by
 obtain ⟨es, h1, h2, _⟩ := h
 obtain ⟨a, b⟩ := h1.sl
 exact ⟨a, b.trans h2⟩
theorem MxAt.read {M : MH} {v : MV} {N : List (List Int)} (h : MxAt M v N) {i : Nat} {l : List Int} (hl : N[i]? = some l) : ∃ ur ro s c, M.get (sid v) = some (.cs ro s c) ∧ sid v < M.n ∧ cget c (soff v + i * 1) = some ur ∧ IntRow M ur l := by
 obtain ⟨es, h0, h1, h2⟩ := h
 obtain ⟨ur, h1, h2⟩ := h2 i l hl
 obtain ⟨ro, s, c, h3, h4, h5⟩ := h0.read h1
 exact ⟨ur, ro, s, c, h3, h4, h5 0 _ rfl, h2⟩
def obj : MV → Option Nat
 | .sl a _ _ _ => some a
 | _ => none
structure SSt (lo : Nat) (M : MH) (b6 : Nat) (v5 vn va : MV) (vs : List MV) (ids : List Nat) (all : List (List (Nat × Int))) (N : List (List Int)) (A : List Int) : Prop where
 r5 : OwnRow lo M 1 v5 (vs.map fun v => [v])
 l5 : vs.length = all.length
 p5 : ∀ (k : Nat) v l, vs[k]? = some v → all[k]? = some l → OwnRow lo M 2 v (pv l)
 rn : OwnRow lo M 1 vn (ids.map fun id => [MV.sl id 0 256 0])
 ra : OwnRow lo M 1 va (ints A)
 li : ids.length = N.length
 nd : ids.Nodup
 mx : ∀ (i id : Nat) l, ids[i]? = some id → N[i]? = some l → IntsAt M id l ∧ l.length = 256 ∧ lo ≤ id ∧ id < M.n
 box : ∃ t, M.get b6 = some (.cs false 3 t) ∧ At t 0 [vn, va, .b false]
 bx : lo ≤ b6 ∧ b6 < M.n
 d5n : ∀ a, obj v5 = some a → obj vn ≠ some a
 d5a : ∀ a, obj v5 = some a → obj va ≠ some a
 dna : ∀ a, obj vn = some a → obj va ≠ some a
 d5i : ∀ a ∈ ids, obj v5 ≠ some a
 dni : ∀ a ∈ ids, obj vn ≠ some a
 dai : ∀ a ∈ ids, obj va ≠ some a
def Foot (b6 : Nat) (v5 vn va : MV) (vs : List MV) (ids : List Nat) (j : Nat) : Prop := obj v5 = some j ∨ obj vn = some j ∨ obj va = some j ∨ j ∈ ids ∨ (∃ v ∈ vs, obj v = some j) ∨ j = b6
theorem own_obj {lo : Nat} {M : MH} {sz : Nat} {v : MV} {es : List (List MV)} (h : OwnRow lo M sz v es) {j : Nat} (e : obj v = some j) : lo ≤ j ∧ j < M.n ∧ ∃ c, M.get j = some (.cs false sz c) := by
 obtain ⟨_, ⟨rfl, _⟩ | ⟨id, c, rfl, h2, h3, h4, _⟩⟩ := h
 ·cases e
 ·injection e with e
  subst e
  exact ⟨h3, h4, c, h2⟩
theorem own_keep {lo : Nat} {M M' : MH} {sz : Nat} {v : MV} {es : List (List MV)} (h : OwnRow lo M sz v es) (hn : M.n ≤ M'.n) (k : ∀ j, obj v = some j → M'.get j = M.get j) : OwnRow lo M' sz v es :=
 h.keep hn fun a b n d e => k a (by rw [e]; rfl)
variable {lo : Nat} {M M' : MH} {b6 : Nat} {v5 vn va : MV} {vs : List MV} {ids : List Nat} {all : List (List (Nat × Int))} {N : List (List Int)} {A : List Int}
theorem SSt.foot_lt (h : SSt lo M b6 v5 vn va vs ids all N A) {j : Nat} (hj : Foot b6 v5 vn va vs ids j) : lo ≤ j ∧ j < M.n := by
 rcases hj with hj | hj | hj | hj | ⟨v, hv, hj⟩ | rfl
 ·obtain ⟨a, b, _⟩ := own_obj h.r5 hj; exact ⟨a, b⟩
 ·obtain ⟨a, b, _⟩ := own_obj h.rn hj; exact ⟨a, b⟩
 ·obtain ⟨a, b, _⟩ := own_obj h.ra hj; exact ⟨a, b⟩
 ·obtain ⟨i, hi⟩ := List.getElem?_of_mem hj
  have hil := (List.getElem?_eq_some_iff.1 hi).1
  have hl := h.li
  obtain ⟨_, _, a, b⟩ := h.mx i j _ hi (List.getElem?_eq_getElem (by omega))
  exact ⟨a, b⟩
 ·obtain ⟨k, hk⟩ := List.getElem?_of_mem hv
  have hkl := (List.getElem?_eq_some_iff.1 hk).1
  have hl := h.l5
  obtain ⟨a, b, _⟩ := own_obj (h.p5 k v _ hk (List.getElem?_eq_getElem (by omega))) hj
  exact ⟨a, b⟩
 ·exact h.bx
theorem SSt.keep (h : SSt lo M b6 v5 vn va vs ids all N A) (hn : M.n ≤ M'.n) (hk : ∀ j, Foot b6 v5 vn va vs ids j → M'.get j = M.get j) : SSt lo M' b6 v5 vn va vs ids all N A := by
 refine ⟨own_keep h.r5 hn fun j e => hk j (.inl e), h.l5, fun k v l h1 h2 => own_keep (h.p5 k v l h1 h2) hn fun j e => hk j (.inr (.inr (.inr (.inr (.inl ⟨v, List.mem_of_getElem? h1, e⟩))))), own_keep h.rn hn fun j e => hk j (.inr (.inl e)), own_keep h.ra hn fun j e => hk j (.inr (.inr (.inl e))), h.li, h.nd, fun i id l h1 h2 => ?_, ?_, ⟨h.bx.1, by have := h.bx.2; omega⟩, h.d5n, h.d5a, h.dna, h.d5i, h.dni, h.dai⟩
 ·obtain ⟨a, b, c, d⟩ := h.mx i id l h1 h2
  exact ⟨a.same (hk id (.inr (.inr (.inr (.inl (List.mem_of_getElem? h1)))))), b, c, by omega⟩
 ·obtain ⟨t, a, b⟩ := h.box
  exact ⟨t, (hk b6 (.inr (.inr (.inr (.inr (.inr rfl)))))).trans a, b⟩
theorem SSt.ext (h : SSt lo M b6 v5 vn va vs ids all N A) (k : Ext M M') : SSt lo M' b6 v5 vn va vs ids all N A := h.keep k.n fun j hj => k.old j (h.foot_lt hj).2
theorem app_obj {lo sz bytes : Nat} {M : MH} {v : MV} {es : List (List MV)} {e : List MV} (h : OwnRow lo M sz v es) (hlo : M.lo ≤ lo) (hln : lo ≤ M.n) (he : e.length = sz) (ho : allOne e = true) (hb : (es.length + 1) * bytes ≤ 140737488355328) (hl : es.length + 1 ≤ 9223372036854775807) :
  ∃ v' M', appM (M.push (.cs false sz (ofL e 0))) sz bytes v (.sl M.n 0 1 0) = some (v', M') ∧ OwnRow lo M' sz v' (es ++ [e]) ∧ M.n + 1 ≤ M'.n ∧ M'.lo = M.lo ∧ obj v' = some (M.n + 1) ∧ isSl v' = true ∧ ∀ j, j < M.n → obj v ≠ some j → M'.get j = M.get j := by
 have h1 := h.ext (.push M (.cs false sz (ofL e 0)))
 obtain ⟨v', M', a, b, c, d, e5, e6, e7⟩ := app_rowX (bytes := bytes) h1 (row_one (M := M) (sz := sz) (e := e) he) (by rw [push_lo]; exact hlo) (by rw [push_n]; omega) (fun x hx => by rw [List.mem_singleton.1 hx]; exact ho) (by rw [List.length_singleton]; exact hb) (by rw [List.length_singleton]; exact hl)
 obtain ⟨n, hn⟩ := e7 (by simp)
 refine ⟨v', M', a, b, by rw [push_n] at c; exact c, d, by rw [hn]; rfl, by rw [hn]; rfl, fun j hj hv => ?_⟩
 rw [e5 j (by rw [push_n]; omega) (fun a b n d e => by rw [e] at hv; intro e'; subst e'; exact hv rfl), push_old hj]
theorem SSt.push5 (h : SSt lo M b6 v5 vn va vs ids all N A) (hlo : M.lo ≤ lo) (hln : lo ≤ M.n) {w : MV} {l : List (Nat × Int)} (hw : OwnRow lo M 2 w (pv l)) (hbig : all.length ≤ 1000) :
  ∃ v' M', appM (M.push (.cs false 1 (ofL [w] 0))) 1 24 v5 (.sl M.n 0 1 0) = some (v', M') ∧ SSt lo M' b6 v' vn va (vs ++ [w]) ids (all ++ [l]) N A ∧ M.n + 1 ≤ M'.n ∧ M'.lo = M.lo ∧ isSl v' = true ∧ (∀ j, j < M.n → obj v5 ≠ some j → M'.get j = M.get j) ∧ ∀ j, j < M.n → ¬ Foot b6 v5 vn va vs ids j → (∃ c, M.get j = some (.cs false 1 c)) → ¬ Foot b6 v' vn va (vs ++ [w]) ids j := by
 have hl5 := h.l5
 have hone : w.one = true := by
  obtain ⟨_, ⟨rfl, _⟩ | ⟨id, c, rfl, _⟩⟩ := hw <;> rfl
 obtain ⟨v', M', a, b, c, d, e, e2, f⟩ := app_obj (bytes := 24) (e := [w]) h.r5 hlo hln rfl (by rw [all_cons, all_nil, hone]; rfl) (by rw [List.length_map]; omega) (by rw [List.length_map]; omega)
 have f2 : ∀ j, lo ≤ j ∧ j < M.n → obj v5 ≠ some j → M'.get j = M.get j := fun j hj hv => f j hj.2 hv
 have dn : ∀ j sz t, M.get j = some (.cs false sz t) → sz ≠ 1 → obj v5 ≠ some j := fun j sz t hg hs e => by
  obtain ⟨_, _, c', hc⟩ := own_obj h.r5 e
  rw [hg] at hc
  injection hc with hc
  injection hc with _ hc
  exact hs hc
 refine ⟨v', M', a, ⟨by rw [List.map_append]; exact b, by rw [List.length_append, List.length_append, hl5]; rfl, fun k x y h1 h2 => ?_, own_keep h.rn (by omega) fun j e' => ?_, own_keep h.ra (by omega) fun j e' => ?_, h.li, h.nd, fun i id y h1 h2 => ?_, ?_, ⟨h.bx.1, by have := h.bx.2; omega⟩, fun x hx hx' => ?_, fun x hx hx' => ?_, h.dna, fun x hx hx' => ?_, h.dni, h.dai⟩, c, d, e2, f, fun j hj hnf hsz hf => ?_⟩
 ·have key : ∀ v l, OwnRow lo M 2 v (pv l) → OwnRow lo M' 2 v (pv l) := fun v l hv => own_keep hv (by omega) fun j e' => by
   obtain ⟨p1, p2, t, hg⟩ := own_obj hv e'
   exact f j p2 (dn j 2 t hg (by decide))
  by_cases hk : k < vs.length
  ·rw [List.getElem?_append_left hk] at h1
   rw [List.getElem?_append_left (by omega)] at h2
   exact key x y (h.p5 k x y h1 h2)
  ·rw [List.getElem?_append_right (by omega)] at h1 h2
   have hk0 : k - vs.length = 0 := by
    have := (List.getElem?_eq_some_iff.1 h1).1
    simp at this
    omega
   rw [hk0] at h1
   rw [← hl5, hk0] at h2
   simp only [List.getElem?_cons_zero, Option.some.injEq] at h1 h2
   subst h1 h2
   exact key _ _ hw
 ·obtain ⟨p1, p2, _⟩ := own_obj h.rn e'
  exact f j p2 (fun e5 => h.d5n j e5 e')
 ·obtain ⟨p1, p2, _⟩ := own_obj h.ra e'
  exact f j p2 (fun e5 => h.d5a j e5 e')
 ·obtain ⟨p1, p2, p3, p4⟩ := h.mx i id y h1 h2
  exact ⟨p1.same (f id p4 (h.d5i id (List.mem_of_getElem? h1))), p2, p3, by omega⟩
 ·obtain ⟨t, p1, p2⟩ := h.box
  exact ⟨t, (f b6 h.bx.2 (dn b6 3 t p1 (by decide))).trans p1, p2⟩
 ·rw [e] at hx
  injection hx with hx
  obtain ⟨_, p2, _⟩ := own_obj h.rn hx'
  omega
 ·rw [e] at hx
  injection hx with hx
  obtain ⟨_, p2, _⟩ := own_obj h.ra hx'
  omega
 ·rw [e] at hx'
  injection hx' with hx'
  have := (h.foot_lt (.inr (.inr (.inr (.inl hx))))).2
  omega
 ·rcases hf with hf | hf | hf | hf | ⟨v, hv, hf⟩ | hf
  ·rw [e] at hf; injection hf with hf; omega
  ·exact hnf (.inr (.inl hf))
  ·exact hnf (.inr (.inr (.inl hf)))
  ·exact hnf (.inr (.inr (.inr (.inl hf))))
  ·rcases List.mem_append.1 hv with hv | hv
   ·exact hnf (.inr (.inr (.inr (.inr (.inl ⟨v, hv, hf⟩)))))
   ·rw [List.mem_singleton.1 hv] at hf
    obtain ⟨_, _, t, hg⟩ := own_obj hw hf
    obtain ⟨t', hg'⟩ := hsz
    rw [hg] at hg'
    injection hg' with hg'
    injection hg' with _ hg'
    cases hg'
  ·exact hnf (.inr (.inr (.inr (.inr (.inr hf)))))
theorem SSt.pushN (h : SSt lo M b6 v5 vn va vs ids all N A) (hlo : M.lo ≤ lo) (hln : lo ≤ M.n) {id : Nat} {L : List Int} (hI : IntsAt M id L) (hL : L.length = 256) (hid : lo ≤ id ∧ id < M.n) (hnf : ¬ Foot b6 v5 vn va vs ids id) (hbig : N.length ≤ 1000) :
  ∃ v' M' t, appM (M.push (.cs false 1 (ofL [MV.sl id 0 256 0] 0))) 1 24 vn (.sl M.n 0 1 0) = some (v', M') ∧ M'.get b6 = some (.cs false 3 t) ∧ hasB t 1 0 = true ∧ M.n + 1 ≤ M'.n ∧ M'.lo = M.lo ∧ isSl v' = true ∧ (∀ j, j < M.n → obj vn ≠ some j → M'.get j = M.get j) ∧ SSt lo (M'.set b6 (some (.cs false 3 (setN [v'] 0 t)))) b6 v5 v' va vs (ids ++ [id]) all (N ++ [L]) A := by
 have hli := h.li
 obtain ⟨v', M', a, b, c, d, e, e2, f⟩ := app_obj (bytes := 24) (e := [MV.sl id 0 256 0]) h.rn hlo hln rfl rfl (by rw [List.length_map]; omega) (by rw [List.length_map]; omega)
 have dn : ∀ j sz t, M.get j = some (.cs false sz t) → sz ≠ 1 → obj vn ≠ some j := fun j sz t hg hs e => by
  obtain ⟨_, _, c', hc⟩ := own_obj h.rn e
  rw [hg] at hc
  injection hc with hc
  injection hc with _ hc
  exact hs hc
 obtain ⟨t, p1, p2⟩ := h.box
 have hb6 := h.bx
 have hg6 := (f b6 hb6.2 (dn b6 3 t p1 (by decide))).trans p1
 have sz1 : ∀ j t', M.get j = some (.cs false 1 t') → j ≠ b6 := fun j t' hg e => by
  subst e
  rw [p1] at hg
  injection hg with hg
  injection hg with _ hg
  cases hg
 have sz2 : ∀ j t', M.get j = some (.cs false 2 t') → j ≠ b6 := fun j t' hg e => by
  subst e
  rw [p1] at hg
  injection hg with hg
  injection hg with _ hg
  cases hg
 have kp : ∀ j, j < M.n → obj vn ≠ some j → j ≠ b6 → (M'.set b6 (some (.cs false 3 (setN [v'] 0 t)))).get j = M.get j := fun j hj hv hb => by rw [set_ne hb]; exact f j hj hv
 refine ⟨v', M', t, a, hg6, has_at p2 (Nat.le_refl _) (by simp), c, d, e2, f, ⟨own_keep h.r5 (by rw [set_n]; omega) fun j e' => ?_, h.l5, fun k x y h1 h2 => own_keep (h.p5 k x y h1 h2) (by rw [set_n]; omega) fun j e' => ?_, ?_, own_keep h.ra (by rw [set_n]; omega) fun j e' => ?_, by rw [List.length_append, List.length_append, hli]; rfl, ?_, fun i x y h1 h2 => ?_, ⟨_, set_same _ _, ?_⟩, ⟨hb6.1, by rw [set_n]; omega⟩, fun x hx hx' => ?_, h.d5a, fun x hx hx' => ?_, fun x hx hx' => ?_, fun x hx hx' => ?_, fun x hx hx' => ?_⟩⟩
 ·obtain ⟨q1, q2, q3, q4⟩ := own_obj h.r5 e'
  exact kp j q2 (h.d5n j e') (sz1 j q3 q4)
 ·obtain ⟨q1, q2, q3, q4⟩ := own_obj (h.p5 k x y h1 h2) e'
  exact kp j q2 (dn j 2 q3 q4 (by decide)) (sz2 j q3 q4)
 ·refine own_keep (M := M') (by rw [List.map_append]; exact b) (Nat.le_refl _) fun j e' => set_ne ?_
  rw [e] at e'
  injection e' with e'
  omega
 ·obtain ⟨q1, q2, q3, q4⟩ := own_obj h.ra e'
  exact kp j q2 (fun en => h.dna j en e') (sz1 j q3 q4)
 ·rw [List.nodup_append]
  refine ⟨h.nd, by simp, fun x hx y hy e => ?_⟩
  rw [List.mem_singleton.1 hy] at e
  subst e
  exact hnf (.inr (.inr (.inr (.inl hx))))
 ·have key : ∀ id l, IntsAt M id l → id < M.n → obj vn ≠ some id → IntsAt (M'.set b6 (some (.cs false 3 (setN [v'] 0 t)))) id l := fun id l hI hid hv => by
   obtain ⟨c', hc⟩ : ∃ c', M.get id = some (.cs false 1 c') := let ⟨c', q, _⟩ := hI; ⟨c', q⟩
   exact hI.same (kp id hid hv (sz1 id c' hc))
  by_cases hk : i < ids.length
  ·rw [List.getElem?_append_left hk] at h1
   rw [List.getElem?_append_left (by omega)] at h2
   obtain ⟨q1, q2, q3, q4⟩ := h.mx i x y h1 h2
   exact ⟨key x y q1 q4 (h.dni x (List.mem_of_getElem? h1)), q2, q3, by rw [set_n]; omega⟩
  ·rw [List.getElem?_append_right (by omega)] at h1 h2
   have hk0 : i - ids.length = 0 := by
    have := (List.getElem?_eq_some_iff.1 h1).1
    simp at this
    omega
   rw [hk0] at h1
   rw [← hli, hk0] at h2
   simp only [List.getElem?_cons_zero, Option.some.injEq] at h1 h2
   subst h1 h2
   exact ⟨key _ _ hI hid.2 (fun e' => hnf (.inr (.inl e'))), hL, hid.1, by rw [set_n]; omega⟩
 ·exact p2.set' 0 v' (by simp) (k := 0) rfl
 ·rw [e] at hx'
  injection hx' with hx'
  obtain ⟨_, q2, _⟩ := own_obj h.r5 hx
  omega
 ·rw [e] at hx
  injection hx with hx
  obtain ⟨_, q2, _⟩ := own_obj h.ra hx'
  omega
 ·rcases List.mem_append.1 hx with hx | hx
  ·exact h.d5i x hx hx'
  ·rw [List.mem_singleton.1 hx] at hx'
   exact hnf (.inl hx')
 ·rw [e] at hx'
  injection hx' with hx'
  rcases List.mem_append.1 hx with hx | hx
  ·have := (h.foot_lt (.inr (.inr (.inr (.inl hx))))).2
   omega
  ·rw [List.mem_singleton.1 hx] at hx'
   omega
 ·rcases List.mem_append.1 hx with hx | hx
  ·exact h.dai x hx hx'
  ·rw [List.mem_singleton.1 hx] at hx'
   exact hnf (.inr (.inr (.inl hx')))
theorem ints_one (l : List Int) (z : Int) : ints (l ++ [z]) = ints l ++ [[.i .i64 z]] := by unfold ints; rw [List.map_append]; rfl
theorem SSt.pushA (h : SSt lo M b6 v5 vn va vs ids all N A) (hlo : M.lo ≤ lo) (hln : lo ≤ M.n) (z : Int) (hbig : A.length ≤ 1000) :
  ∃ v' M' t, appM (M.push (.cs false 1 (ofL [MV.i .i64 z] 0))) 1 8 va (.sl M.n 0 1 0) = some (v', M') ∧ M'.get b6 = some (.cs false 3 t) ∧ hasB t 1 1 = true ∧ M.n + 1 ≤ M'.n ∧ M'.lo = M.lo ∧ isSl v' = true ∧ (∀ j, j < M.n → obj va ≠ some j → M'.get j = M.get j) ∧ SSt lo (M'.set b6 (some (.cs false 3 (setN [v'] 1 t)))) b6 v5 vn v' vs ids all N (A ++ [z]) := by
 have hli := h.li
 obtain ⟨v', M', a, b, c, d, e, e2, f⟩ := app_obj (bytes := 8) (e := [MV.i .i64 z]) h.ra hlo hln rfl rfl (by rw [ints_len]; omega) (by rw [ints_len]; omega)
 have dn : ∀ j sz t, M.get j = some (.cs false sz t) → sz ≠ 1 → obj va ≠ some j := fun j sz t hg hs e => by
  obtain ⟨_, _, c', hc⟩ := own_obj h.ra e
  rw [hg] at hc
  injection hc with hc
  injection hc with _ hc
  exact hs hc
 obtain ⟨t, p1, p2⟩ := h.box
 have hb6 := h.bx
 have hg6 := (f b6 hb6.2 (dn b6 3 t p1 (by decide))).trans p1
 have sz1 : ∀ j t', M.get j = some (.cs false 1 t') → j ≠ b6 := fun j t' hg e => by
  subst e
  rw [p1] at hg
  injection hg with hg
  injection hg with _ hg
  cases hg
 have sz2 : ∀ j t', M.get j = some (.cs false 2 t') → j ≠ b6 := fun j t' hg e => by
  subst e
  rw [p1] at hg
  injection hg with hg
  injection hg with _ hg
  cases hg
 have kp : ∀ j, j < M.n → obj va ≠ some j → j ≠ b6 → (M'.set b6 (some (.cs false 3 (setN [v'] 1 t)))).get j = M.get j := fun j hj hv hb => by rw [set_ne hb]; exact f j hj hv
 refine ⟨v', M', t, a, hg6, has_at p2 (Nat.zero_le _) (by simp), c, d, e2, f, ⟨own_keep h.r5 (by rw [set_n]; omega) fun j e' => ?_, h.l5, fun k x y h1 h2 => own_keep (h.p5 k x y h1 h2) (by rw [set_n]; omega) fun j e' => ?_, own_keep h.rn (by rw [set_n]; omega) fun j e' => ?_, ?_, h.li, h.nd, fun i x y h1 h2 => ?_, ⟨_, set_same _ _, ?_⟩, ⟨hb6.1, by rw [set_n]; omega⟩, h.d5n, fun x hx hx' => ?_, fun x hx hx' => ?_, h.d5i, h.dni, fun x hx hx' => ?_⟩⟩
 ·obtain ⟨q1, q2, q3, q4⟩ := own_obj h.r5 e'
  exact kp j q2 (h.d5a j e') (sz1 j q3 q4)
 ·obtain ⟨q1, q2, q3, q4⟩ := own_obj (h.p5 k x y h1 h2) e'
  exact kp j q2 (dn j 2 q3 q4 (by decide)) (sz2 j q3 q4)
 ·obtain ⟨q1, q2, q3, q4⟩ := own_obj h.rn e'
  exact kp j q2 (h.dna j e') (sz1 j q3 q4)
 ·refine own_keep (M := M') (by rw [ints_one]; exact b) (Nat.le_refl _) fun j e' => set_ne ?_
  rw [e] at e'
  injection e' with e'
  omega
 ·obtain ⟨q1, q2, q3, q4⟩ := h.mx i x y h1 h2
  obtain ⟨c', hc⟩ : ∃ c', M.get x = some (.cs false 1 c') := let ⟨c', q, _⟩ := q1; ⟨c', q⟩
  exact ⟨q1.same (kp x q4 (h.dai x (List.mem_of_getElem? h1)) (sz1 x c' hc)), q2, q3, by rw [set_n]; omega⟩
 ·exact p2.set' 1 v' (by simp) (k := 1) rfl
 ·rw [e] at hx'
  injection hx' with hx'
  obtain ⟨_, q2, _⟩ := own_obj h.r5 hx
  omega
 ·rw [e] at hx'
  injection hx' with hx'
  obtain ⟨_, q2, _⟩ := own_obj h.rn hx
  omega
 ·rw [e] at hx'
  injection hx' with hx'
  have := (h.foot_lt (.inr (.inr (.inr (.inl hx))))).2
  omega
end Go.Proofs.Ythklpecigkdkiaa.K
set_option linter.unusedSimpArgs false
set_option linter.unusedVariables false
namespace Go.Proofs.Ythklpecigkdkiaa.K
open Go Ev
set_option maxRecDepth 100000
set_option maxHeartbeats 4000000

def hitP (ps : List (Pm × Bs)) (p : Nat × Int) : Bool := match ps[p.1]? with
 | some q => (decide (p.2 < 0) && q.1.null) || (decide (0 ≤ p.2) && decide (p.2.toNat ∈ bitsOf q.1.la 150))
 | none => false
def accP (ps : List (Pm × Bs)) (l : List (Nat × Int)) : Int := match l.find? (hitP ps) with
 | some p => (p.1 : Int)
 | none => -1
theorem accP_drop {ps : List (Pm × Bs)} {l : List (Nat × Int)} {i : Nat} {p : Nat × Int} (h : l[i]? = some p) : accP ps (l.drop i) = if hitP ps p = true then (p.1 : Int) else accP ps (l.drop (i + 1)) := by
 have hi := (List.getElem?_eq_some_iff.1 h).1
 unfold accP
 rw [List.drop_eq_getElem_cons hi, (List.getElem?_eq_some_iff.1 h).2, List.find?_cons]
 cases hitP ps p <;> rfl
theorem accepts_any {M : MH} {v0 v1 : MV} {ps : List (Pm × Bs)} {l : List (Nat × Int)} (hlo : M.lo ≤ M.n) (hps : PsAt M v0 ps) (hl : RowAt M 2 v1 (pv l)) (hlp : ∀ p ∈ l, OkP ps p) (hll : l.length ≤ 50000) : Cp fns 56 [v0, v1] M fun m M' => Ext M M' ∧ m = .i .i64 (accP ps l) := by
 obtain ⟨es, hr0, hes, hpv⟩ := hps
 obtain ⟨s1, s2⟩ := hl.sl
 have s2 : slen v1 = l.length := s2.trans (pv_len l)
 obtain ⟨r1, r2⟩ := hr0.sl
 refine Cp_call (fn := F56) (by kernel_rfl) (Nat.le_of_ble_eq_true rfl) ?_
 show Wp fns B56 (T.set q1 (some v1) (T.set q0 (some v0) T.lf)) M _
 unfold B56
 simp (disch := first | omega | assumption) only [↓bxD, bA, reduceCtorEq]
 refine Wp_inv (σ := Nat) (fun i f M' => i ≤ l.length ∧ X.ev f (.t q0) = v0 ∧ X.ev f (.t q1) = v1 ∧ X.ev f (.t q5) = .i .i64 (i : Int) ∧ Ext M M' ∧ accP ps (l.drop i) = accP ps l) (fun i => l.length - i) ?_ 0 ?_
 ·rintro i f M' ⟨hi, e0, e1, e5, hx, ha⟩
  have xn := hx.n
  have xl := hx.lo
  simp only [q0, q1, q5] at e0 e1 e5
  unfold L56_3
  by_cases hi' : i < l.length
  ·have d0 : decide ((i : Int) < (l.length : Int)) = true := decide_eq_true (by omega)
   obtain ⟨pr, hp⟩ : ∃ pr, l[i]? = some pr := ⟨_, List.getElem?_eq_getElem hi'⟩
   obtain ⟨q, hq, hqj⟩ := hlp pr (List.mem_of_getElem? hp)
   have hpl : pr.1 < ps.length := (List.getElem?_eq_some_iff.1 hq).1
   obtain ⟨e, he⟩ : ∃ e, es[pr.1]? = some e := ⟨_, List.getElem?_eq_getElem (by omega)⟩
   have hQ := (hpv pr.1 e q he hq).ext hx
   obtain ⟨vs, vf, vl, vo, fs, rfl, w1, w2, w3, w4, w5, w6⟩ := hQ
   obtain ⟨ro, sz, t, g, hsl1, _, hc0, hc1⟩ := pv_read (hl.ext hx) hp
   obtain ⟨ro', sz', t', g', _, hat⟩ := (hr0.ext hx).read he
   have hg5 : Ev.getN t' 5 (soff v0 + pr.1 * 5) = some [vs, .b q.1.null, vf, vl, vo] := hat.getN
   have ix0 : ixV 5 v0 (.i .i64 (pr.1 : Int)) = some (.p (sid v0) (soff v0 + pr.1 * 5)) := ix_sl r1 (by rw [r2, hes]; exact hpl)
   obtain ⟨z1, _⟩ := w1.sl
   obtain ⟨z2, _⟩ := w2.sl
   obtain ⟨z3, _⟩ := w3.sl
   obtain ⟨z4, _⟩ := w4.sl
   have hst : stOk 5 (.ag [vs, .b q.1.null, vf, vl, vo]) = true := by
    cases vs <;> first | cases z1 | skip
    all_goals cases vf <;> first | cases z2 | skip
    all_goals cases vl <;> first | cases z3 | skip
    all_goals cases vo <;> first | cases z4 | skip
    all_goals rfl
   have hcl : MV.cells (.ag [vs, .b q.1.null, vf, vl, vo]) = [vs, .b q.1.null, vf, vl, vo] := rfl
   have hz : hasB (ofL [MV.nils, MV.b false, MV.nils, MV.nils, MV.nils] 0) 5 0 = true := rfl
   have hds : stW (M'.push (MO.cs false 5 (ofL [MV.nils, MV.b false, MV.nils, MV.nils, MV.nils] 0))) 5 M'.n 0 (.ag [vs, .b q.1.null, vf, vl, vo]) (some (MO.cs false 5 (ofL [MV.nils, MV.b false, MV.nils, MV.nils, MV.nils] 0))) = some (.u, (M'.push (MO.cs false 5 (ofL [MV.nils, MV.b false, MV.nils, MV.nils, MV.nils] 0))).set M'.n (some (.cs false 5 (setN [vs, .b q.1.null, vf, vl, vo] 0 (ofL [MV.nils, MV.b false, MV.nils, MV.nils, MV.nils] 0))))) := stW_ok (M := M'.push _) (by show M'.lo ≤ M'.n; omega) hst hz
   simp (disch := first | omega | assumption | (simp only [bZ, stOk, Nat.reduceBEq, Nat.reduceEqDiff, Nat.reduceAdd] <;> omega) | ((try apply has_setN); apply has_ofL; simp only [bxL]; omega)) only [↓bxD, bA, Nat.reduceBEq, reduceCtorEq, Nat.reduceAdd, Nat.reduceSub, Nat.reduceMul, Nat.reduceLeDiff, Nat.reduceLT, e0, e1, e5, s1, s2, r1, r2, nck_p, d0, g, hc0, hc1, hi', ix0, g', hg5, Option.map_some, hst, hcl, hz, hds]
   show Wp fns K56_2 _ _ _
   unfold K56_2
   simp (maxSteps := 4000000) (disch := first | omega | assumption | (simp only [bxS, bxV, stOk, Nat.reduceBEq, Nat.reduceEqDiff, Nat.reduceAdd]; done) | (simp only [bxU]; omega) | ((try apply has_setN); apply has_ofL; simp only [bxL]; omega)) only [↓bxD, bxP, bxQ, Nat.reduceBEq, reduceCtorEq, Nat.reduceAdd, Nat.reduceSub, Nat.reduceMul, Nat.reduceLeDiff, Nat.reduceLT, bxR, e0, e1, e5, s1, s2, r1, r2, nck_p, d0, g, hc0, hc1, hi', ix0, g', hg5, Option.map_some, hst, hcl, hz, hds]
   generalize hM2 : MH.set _ _ _ = M2
   have x2 : Ext M' M2 := by rw [← hM2]; exact (Ext.push M' _).set _ (Nat.le_refl _)
   have g2 : M2.get M'.n = some (.cs false 5 (setN [vs, .b q.1.null, vf, vl, vo] 0 (ofL [MV.nils, MV.b false, MV.nils, MV.nils, MV.nils] 0))) := by rw [← hM2]; exact set_same _ _
   have n2 : M2.n = M'.n + 1 := by rw [← hM2]; rfl
   have l2 := x2.lo
   clear hM2 hds
   have A5 := at_setN [vs, .b q.1.null, vf, vl, vo] 0 (ofL [MV.nils, MV.b false, MV.nils, MV.nils, MV.nils] 0)
   generalize setN [vs, .b q.1.null, vf, vl, vo] 0 (ofL [MV.nils, MV.b false, MV.nils, MV.nils, MV.nils] 0) = c5 at A5 g2
   have k1 : cget c5 1 = some (.b q.1.null) := A5 1 _ rfl
   have k3 : cget c5 3 = some vl := A5 3 _ rfl
   have gv := (x2.old _ hsl1).trans g
   have xx := hx.trans x2
   have hd := accP_drop (ps := ps) hp
   have hhit : hitP ps pr = ((decide (pr.2 < 0) && q.1.null) || (decide (0 ≤ pr.2) && decide (pr.2.toNat ∈ bitsOf q.1.la 150))) := by unfold hitP; rw [hq]
   have yes : hitP ps pr = true → ((pr.1 : Int)) = accP ps l := fun e => by rw [← ha, hd, if_pos e]
   have no : hitP ps pr = false → accP ps (l.drop (i + 1)) = accP ps l := fun e => by rw [← ha, hd, if_neg (by rw [e]; simp)]
   refine Wp_dreg_of (by omega) ?_
   by_cases hj : pr.2 < 0
   ·have dj : decide (pr.2 < 0) = true := decide_eq_true hj
    have dj2 : decide (0 ≤ pr.2) = false := decide_eq_false (by omega)
    rw [dj, dj2, Bool.false_and, Bool.or_false, Bool.true_and] at hhit
    cases hn : q.1.null with
    | true =>
     rw [hn] at hhit k1
     simp (maxSteps := 4000000) (disch := first | omega | assumption | (simp only [bxS, bxV, stOk, Nat.reduceBEq, Nat.reduceEqDiff, Nat.reduceAdd]; done) | (simp only [bxU]; omega) | ((try apply has_setN); apply has_ofL; simp only [bxL]; omega)) only [↓bxD, bxP, bxQ, Nat.reduceBEq, reduceCtorEq, Nat.reduceAdd, Nat.reduceSub, Nat.reduceMul, Nat.reduceLeDiff, Nat.reduceLT, bxR, e0, e1, e5, s1, s2, nck_p, gv, g2, hc0, hc1, hi', k1, k3, dj, dj2]
     show Wp fns K56_0 _ _ _
     unfold K56_0
     simp (disch := first | omega | assumption | (simp only [bZ, stOk, Nat.reduceBEq, Nat.reduceEqDiff, Nat.reduceAdd] <;> omega) | ((try apply has_setN); apply has_ofL; simp only [bxL]; omega)) only [↓bxD, bA, Nat.reduceBEq, reduceCtorEq, Nat.reduceAdd, Nat.reduceSub, Nat.reduceMul, Nat.reduceLeDiff, Nat.reduceLT, e0, e1, e5, s1, s2, nck_p, gv, g2, hc0, hc1, hi', k1, k3, dj, dj2]
     exact ⟨xx, congrArg (MV.i .i64) (yes hhit)⟩
    | false =>
     rw [hn] at hhit k1
     simp (maxSteps := 4000000) (disch := first | omega | assumption | (simp only [bxS, bxV, stOk, Nat.reduceBEq, Nat.reduceEqDiff, Nat.reduceAdd]; done) | (simp only [bxU]; omega) | ((try apply has_setN); apply has_ofL; simp only [bxL]; omega)) only [↓bxD, bxP, bxQ, Nat.reduceBEq, reduceCtorEq, Nat.reduceAdd, Nat.reduceSub, Nat.reduceMul, Nat.reduceLeDiff, Nat.reduceLT, bxR, e0, e1, e5, s1, s2, nck_p, gv, g2, hc0, hc1, hi', k1, k3, dj, dj2]
     show Wp fns K56_0 _ _ _
     unfold K56_0
     simp (disch := first | omega | assumption | (simp only [bZ, stOk, Nat.reduceBEq, Nat.reduceEqDiff, Nat.reduceAdd] <;> omega) | ((try apply has_setN); apply has_ofL; simp only [bxL]; omega)) only [↓bxD, bA, Nat.reduceBEq, reduceCtorEq, Nat.reduceAdd, Nat.reduceSub, Nat.reduceMul, Nat.reduceLeDiff, Nat.reduceLT, e0, e1, e5, s1, s2, nck_p, gv, g2, hc0, hc1, hi', k1, k3, dj, dj2]
     show Wp fns K56_1 _ _ _
     unfold K56_1
     simp (disch := first | omega | assumption | (simp only [bZ, stOk, Nat.reduceBEq, Nat.reduceEqDiff, Nat.reduceAdd] <;> omega) | ((try apply has_setN); apply has_ofL; simp only [bxL]; omega)) only [↓bxD, bA, Nat.reduceBEq, reduceCtorEq, Nat.reduceAdd, Nat.reduceSub, Nat.reduceMul, Nat.reduceLeDiff, Nat.reduceLT, e0, e1, e5, s1, s2, nck_p, gv, g2, hc0, hc1, hi', k1, k3, dj, dj2]
     exact ⟨i + 1, by omega, by omega, rfl, xx, no hhit⟩
   ·have dj : decide (pr.2 < 0) = false := decide_eq_false hj
    have dj2 : decide (0 ≤ pr.2) = true := decide_eq_true (by omega)
    obtain ⟨jn, hjn⟩ : ∃ n : Nat, pr.2 = (n : Int) := ⟨pr.2.toNat, by omega⟩
    rw [dj, dj2, Bool.false_and, Bool.false_or, Bool.true_and, hjn, Int.toNat_natCast] at hhit
    rw [hjn] at hc1 dj dj2
    simp (maxSteps := 4000000) (disch := first | omega | assumption | (simp only [bxS, bxV, stOk, Nat.reduceBEq, Nat.reduceEqDiff, Nat.reduceAdd]; done) | (simp only [bxU]; omega) | ((try apply has_setN); apply has_ofL; simp only [bxL]; omega)) only [↓bxD, bxP, bxQ, Nat.reduceBEq, reduceCtorEq, Nat.reduceAdd, Nat.reduceSub, Nat.reduceMul, Nat.reduceLeDiff, Nat.reduceLT, bxR, e0, e1, e5, s1, s2, nck_p, gv, g2, hc0, hc1, hi', k1, k3, dj, dj2]
    refine bindP_call (in_any (z := jn) (w3.ext x2) (by have := bitsOf_len q.1.la 150; omega)) ?_
    rintro m M3 ⟨rfl, x3⟩
    have gv3 := (x3.old _ (by have := x2.n; omega)).trans gv
    have l3 := x3.lo
    rw [← hhit]
    cases hh : hitP ps pr with
    | true =>
     simp (disch := first | omega | assumption) only [↓bxD, bA, reduceCtorEq, e0, e1, e5, s1, s2, nck_p, gv, g2, hc0, hc1, hi', k1, k3, dj, dj2, gv3]
     show Wp fns K56_0 _ _ _
     unfold K56_0
     simp (disch := first | omega | assumption) only [↓bxD, bA, reduceCtorEq, e0, e1, e5, s1, s2, nck_p, gv, g2, hc0, hc1, hi', k1, k3, dj, dj2, gv3]
     exact ⟨xx.trans x3, congrArg (MV.i .i64) (yes hh)⟩
    | false =>
     simp (disch := first | omega | assumption) only [↓bxD, bA, reduceCtorEq, e0, e1, e5, s1, s2, nck_p, gv, g2, hc0, hc1, hi', k1, k3, dj, dj2, gv3]
     show Wp fns K56_0 _ _ _
     unfold K56_0
     simp (disch := first | omega | assumption) only [↓bxD, bA, reduceCtorEq, e0, e1, e5, s1, s2, nck_p, gv, g2, hc0, hc1, hi', k1, k3, dj, dj2]
     show Wp fns K56_1 _ _ _
     unfold K56_1
     simp (disch := first | omega | assumption) only [↓bxD, bA, reduceCtorEq, e0, e1, e5, s1, s2, nck_p, gv, g2, hc0, hc1, hi', k1, k3, dj, dj2]
     exact ⟨i + 1, by omega, by omega, rfl, xx.trans x3, no hh⟩
  ·have d0 : decide ((i : Int) < (l.length : Int)) = false := decide_eq_false (by omega)
   have hil : i = l.length := by omega
   rw [hil, List.drop_length] at ha
   simp (disch := first | omega | assumption) only [↓bxD, bA, reduceCtorEq, e0, e1, e5, s1, s2, d0]
   show Wp fns K56_4 _ _ _
   unfold K56_4
   simp (disch := first | omega | assumption) only [↓bxD, bA, reduceCtorEq, e0, e1, e5, s1, s2, d0]
   exact ⟨hx, congrArg (MV.i .i64) ha⟩
 ·exact ⟨Nat.zero_le _, by simp only [bA, reduceCtorEq], by simp only [bA, reduceCtorEq], by simp only [bA, reduceCtorEq] <;> rfl, .refl _, rfl⟩
def runL (ps : List (Pm × Bs)) (l : List (Nat × Int)) (w : List Nat) : List (Nat × Int) := w.foldl (fun l c => stpP ps c l) l
def firstL (n : Nat) : List (Nat × Int) := (List.range n).map fun i => (i, -1)
def RchL (ps : List (Pm × Bs)) (l : List (Nat × Int)) : Prop := ∃ w : List Nat, (∀ c ∈ w, c < 256) ∧ runL ps (firstL ps.length) w = l
theorem runL_app (ps : List (Pm × Bs)) (l : List (Nat × Int)) (w : List Nat) (c : Nat) : runL ps l (w ++ [c]) = stpP ps c (runL ps l w) := by
 unfold runL
 rw [List.foldl_append]
 rfl
theorem RchL.step {ps : List (Pm × Bs)} {l : List (Nat × Int)} (h : RchL ps l) {c : Nat} (hc : c < 256) : RchL ps (stpP ps c l) := by
 obtain ⟨w, h1, h2⟩ := h
 refine ⟨w ++ [c], fun x hx => ?_, by rw [runL_app, h2]⟩
 rcases List.mem_append.1 hx with hx | hx
 ·exact h1 x hx
 ·rw [List.mem_singleton.1 hx]; exact hc
theorem firstL_rise (n : Nat) : Rise (firstL n) := by
 unfold Rise firstL
 rw [List.pairwise_map]
 refine List.Pairwise.imp (fun {a b} h => ?_) (List.pairwise_lt_range (n := n))
 rw [lt2_iff]
 exact .inl h
theorem mem_firstL {n : Nat} {p : Nat × Int} : p ∈ firstL n ↔ p.1 < n ∧ p.2 = -1 := by
 unfold firstL
 rw [List.mem_map]
 constructor
 ·rintro ⟨i, h1, rfl⟩
  exact ⟨List.mem_range.1 h1, rfl⟩
 ·rintro ⟨h1, h2⟩
  exact ⟨p.1, List.mem_range.2 h1, Prod.ext rfl h2.symm⟩
theorem firstL_ins (n : Nat) : ins (n, -1) (firstL n) = firstL (n + 1) := by
 refine rise_ext (rise_ins (firstL_rise n)) (firstL_rise (n + 1)) fun q => ?_
 rw [mem_ins, mem_firstL, mem_firstL]
 constructor
 ·rintro (rfl | ⟨h1, h2⟩)
  ·exact ⟨Nat.lt_succ_self _, rfl⟩
  ·exact ⟨by omega, h2⟩
 ·rintro ⟨h1, h2⟩
  by_cases e : q.1 = n
  ·exact .inl (Prod.ext e h2)
  ·exact .inr ⟨by omega, h2⟩
theorem firstL_ok {ps : List (Pm × Bs)} : OkL ps (firstL ps.length) := by
 refine ⟨fun p hp => ?_, fun p hp => ?_, firstL_rise _⟩
 ·obtain ⟨h1, h2⟩ := mem_firstL.1 hp
  exact ⟨_, List.getElem?_eq_getElem h1, fun h => by omega⟩
 ·rw [(mem_firstL.1 hp).2]; omega
def CellOk (all : List (List (Nat × Int))) (to : List (Nat × Int)) (z : Int) : Prop := (to = [] ∧ z = -1) ∨ (to ≠ [] ∧ ∃ k : Nat, z = (k : Int) ∧ all[k]? = some to)
theorem CellOk.app {all : List (List (Nat × Int))} {to x : List (Nat × Int)} {z : Int} (h : CellOk all to z) : CellOk (all ++ [x]) to z := by
 rcases h with h | ⟨h1, k, h2, h3⟩
 ·exact .inl h
 ·exact .inr ⟨h1, k, h2, by rw [List.getElem?_append_left (List.getElem?_eq_some_iff.1 h3).1]; exact h3⟩
structure SubIn (ps : List (Pm × Bs)) (all : List (List (Nat × Int))) (N : List (List Int)) (A : List Int) : Prop where
 hd : all[0]? = some (firstL ps.length)
 ok : ∀ l ∈ all, OkL ps l
 ne : ∀ (k : Nat) l, 1 ≤ k → all[k]? = some l → l ≠ []
 inj : ∀ (j k : Nat) l, all[j]? = some l → all[k]? = some l → j = k
 rows : ∀ (i : Nat) r, N[i]? = some r → r.length = 256 ∧ ∃ l, all[i]? = some l ∧ ∀ c, c < 256 → CellOk all (stpP ps c l) (r.getD c (-1))
 acc : ∀ (i : Nat) z, A[i]? = some z → ∃ l, all[i]? = some l ∧ z = accP ps l
 reach : ∀ l ∈ all, RchL ps l
 big : all.length ≤ 400
theorem mem_app_get {α : Type} {all : List α} {x : α} {k : Nat} {l : α} (h : (all ++ [x])[k]? = some l) : (k < all.length ∧ all[k]? = some l) ∨ (k = all.length ∧ l = x) := by
 by_cases hk : k < all.length
 ·rw [List.getElem?_append_left hk] at h
  exact .inl ⟨hk, h⟩
 ·rw [List.getElem?_append_right (by omega)] at h
  have h0 : k - all.length = 0 := by
   have := (List.getElem?_eq_some_iff.1 h).1
   simp at this
   omega
  rw [h0] at h
  simp only [List.getElem?_cons_zero, Option.some.injEq] at h
  exact .inr ⟨by omega, h.symm⟩
theorem SubIn.push {ps : List (Pm × Bs)} (hps : OkPs ps) {all : List (List (Nat × Int))} {N : List (List Int)} {A : List Int} (h : SubIn ps all N A) {l : List (Nat × Int)} {c : Nat} (hl : l ∈ all) (hc : c < 256) (hne : stpP ps c l ≠ []) (hno : stpP ps c l ∉ all) (hb : all.length < 400) : SubIn ps (all ++ [stpP ps c l]) N A := by
 have hlen : 0 < all.length := (List.getElem?_eq_some_iff.1 h.hd).1
 refine ⟨by rw [List.getElem?_append_left hlen]; exact h.hd, fun x hx => ?_, fun k x hk hx => ?_, fun j k x hj hk => ?_, fun i r hr => ?_, fun i z hz => ?_, fun x hx => ?_, by rw [List.length_append, List.length_singleton]; omega⟩
 ·rcases List.mem_append.1 hx with hx | hx
  ·exact h.ok x hx
  ·rw [List.mem_singleton.1 hx]; exact okL_step hps c l
 ·rcases mem_app_get hx with ⟨_, hx⟩ | ⟨_, rfl⟩
  ·exact h.ne k x hk hx
  ·exact hne
 ·rcases mem_app_get hj with ⟨_, hj⟩ | ⟨ej, e⟩ <;> rcases mem_app_get hk with ⟨_, hk⟩ | ⟨ek, e'⟩
  ·exact h.inj j k x hj hk
  ·subst e'; exact absurd (List.mem_of_getElem? hj) hno
  ·subst e; exact absurd (List.mem_of_getElem? hk) hno
  ·omega
 ·obtain ⟨h1, y, h2, h3⟩ := h.rows i r hr
  exact ⟨h1, y, by rw [List.getElem?_append_left (List.getElem?_eq_some_iff.1 h2).1]; exact h2, fun c hc => (h3 c hc).app⟩
 ·obtain ⟨y, h2, h3⟩ := h.acc i z hz
  exact ⟨y, by rw [List.getElem?_append_left (List.getElem?_eq_some_iff.1 h2).1]; exact h2, h3⟩
 ·rcases List.mem_append.1 hx with hx | hx
  ·exact h.reach x hx
  ·rw [List.mem_singleton.1 hx]; exact (h.reach l hl).step hc
theorem SubIn.row {ps : List (Pm × Bs)} {all : List (List (Nat × Int))} {N : List (List Int)} {A : List Int} (h : SubIn ps all N A) {l : List (Nat × Int)} {L : List Int} (hl : all[N.length]? = some l) (hL : L.length = 256) (hc : ∀ c, c < 256 → CellOk all (stpP ps c l) (L.getD c (-1))) : SubIn ps all (N ++ [L]) A := by
 refine ⟨h.hd, h.ok, h.ne, h.inj, fun i r hr => ?_, h.acc, h.reach, h.big⟩
 rcases mem_app_get hr with ⟨_, hr⟩ | ⟨rfl, rfl⟩
 ·exact h.rows i r hr
 ·exact ⟨hL, l, hl, hc⟩
theorem SubIn.accs {ps : List (Pm × Bs)} {all : List (List (Nat × Int))} {N : List (List Int)} {A : List Int} (h : SubIn ps all N A) {l : List (Nat × Int)} (hl : all[A.length]? = some l) : SubIn ps all N (A ++ [accP ps l]) := by
 refine ⟨h.hd, h.ok, h.ne, h.inj, h.rows, fun i z hz => ?_, h.reach, h.big⟩
 rcases mem_app_get hz with ⟨_, hz⟩ | ⟨rfl, rfl⟩
 ·exact h.acc i z hz
 ·exact ⟨l, hl, rfl⟩
theorem SubIn.start {ps : List (Pm × Bs)} : SubIn ps [firstL ps.length] [] [] := by
 refine ⟨rfl, fun l hl => ?_, fun k l hk hl => ?_, fun j k l hj hk => ?_, fun i r hr => by simp at hr, fun i z hz => by simp at hz, fun l hl => ?_, by simp⟩
 ·rw [List.mem_singleton.1 hl]; exact firstL_ok
 ·have := (List.getElem?_eq_some_iff.1 hl).1
  simp at this
  omega
 ·have h1 := (List.getElem?_eq_some_iff.1 hj).1
  have h2 := (List.getElem?_eq_some_iff.1 hk).1
  simp at h1 h2
  omega
 ·rw [List.mem_singleton.1 hl]
  exact ⟨[], (fun c hc => by cases hc), rfl⟩
structure CSt (Mb M : MH) (v0 : MV) (ps : List (Pm × Bs)) (b6 : Nat) (v5 vn va : MV) (vs : List MV) (ids : List Nat) (all : List (List (Nat × Int))) (N : List (List Int)) (A : List Int) (i id8 : Nat) (L : List Int) (f : Fr) : Prop where
 ext : Ext Mb M
 lo : Mb.lo ≤ Mb.n
 psat : PsAt Mb v0 ps
 okps : OkPs ps
 b2 : ∃ t, M.get Mb.n = some (.cs false 3 t) ∧ hasB t 3 0 = true
 b2n : Mb.n < M.n
 ss : SSt (Mb.n + 1) M b6 v5 vn va vs ids all N A
 si : SubIn ps all N A
 li : N.length = i ∧ A.length = i ∧ i < all.length
 row : IntsAt M id8 L
 rl : L.length = 256
 r1 : Mb.n + 1 ≤ id8 ∧ id8 < M.n
 rf : ¬ Foot b6 v5 vn va vs ids id8
 q0 : X.ev f (.t q0) = v0
 q2 : X.ev f (.t q2) = .p Mb.n 0
 q5 : X.ev f (.t q5) = v5
 q6 : X.ev f (.t q6) = .p b6 0
 q7 : X.ev f (.t q7) = .i .i64 (i : Int)
 q8 : X.ev f (.t q8) = .sl id8 0 256 0
theorem CSt.mext {Mb M M' : MH} {v0 v5 vn va : MV} {ps : List (Pm × Bs)} {b6 i id8 : Nat} {vs : List MV} {ids : List Nat} {all : List (List (Nat × Int))} {N : List (List Int)} {A L : List Int} {f : Fr} (h : CSt Mb M v0 ps b6 v5 vn va vs ids all N A i id8 L f) (k : Ext M M') : CSt Mb M' v0 ps b6 v5 vn va vs ids all N A i id8 L f := by
 obtain ⟨t, h1, h2⟩ := h.b2
 have := k.n
 exact ⟨h.ext.trans k, h.lo, h.psat, h.okps, ⟨t, (k.old _ h.b2n).trans h1, h2⟩, by have := h.b2n; omega, h.ss.ext k, h.si, h.li, h.row.same (k.old _ h.r1.2), h.rl, ⟨h.r1.1, by have := h.r1.2; omega⟩, h.rf, h.q0, h.q2, h.q5, h.q6, h.q7, h.q8⟩
theorem CSt.fr {Mb M : MH} {v0 v5 vn va : MV} {ps : List (Pm × Bs)} {b6 i id8 : Nat} {vs : List MV} {ids : List Nat} {all : List (List (Nat × Int))} {N : List (List Int)} {A L : List Int} {f f' : Fr} (h : CSt Mb M v0 ps b6 v5 vn va vs ids all N A i id8 L f) (e0 : X.ev f' (.t Ev.q0) = v0) (e2 : X.ev f' (.t Ev.q2) = .p Mb.n 0) (e5 : X.ev f' (.t Ev.q5) = v5) (e6 : X.ev f' (.t Ev.q6) = .p b6 0) (e7 : X.ev f' (.t Ev.q7) = .i .i64 (i : Int)) (e8 : X.ev f' (.t Ev.q8) = .sl id8 0 256 0) : CSt Mb M v0 ps b6 v5 vn va vs ids all N A i id8 L f' :=
 ⟨h.ext, h.lo, h.psat, h.okps, h.b2, h.b2n, h.ss, h.si, h.li, h.row, h.rl, h.r1, h.rf, e0, e2, e5, e6, e7, e8⟩
theorem CSt.put {Mb M : MH} {v0 v5 vn va : MV} {ps : List (Pm × Bs)} {b6 i id8 : Nat} {vs : List MV} {ids : List Nat} {all : List (List (Nat × Int))} {N : List (List Int)} {A L : List Int} {f : Fr} (h : CSt Mb M v0 ps b6 v5 vn va vs ids all N A i id8 L f) {t : T MV} {L' : List Int} (hat : At t 0 (L'.map (MV.i .i64))) (hl : L'.length = 256) : CSt Mb (M.set id8 (some (.cs false 1 t))) v0 ps b6 v5 vn va vs ids all N A i id8 L' f := by
 obtain ⟨t2, h1, h2⟩ := h.b2
 have hr := h.r1
 refine ⟨h.ext.set _ (by omega), h.lo, h.psat, h.okps, ⟨t2, by rw [set_ne (by omega)]; exact h1, h2⟩, by rw [set_n]; exact h.b2n, h.ss.keep (by rw [set_n]; exact Nat.le_refl _) fun j hj => set_ne fun e => h.rf (e ▸ hj), h.si, h.li, ⟨_, set_same _ _, hat⟩, hl, ⟨hr.1, by rw [set_n]; exact hr.2⟩, h.rf, h.q0, h.q2, h.q5, h.q6, h.q7, h.q8⟩
theorem sub_search {Mb M : MH} {v0 v5 vn va w : MV} {ps : List (Pm × Bs)} {b6 i id8 c : Nat} {vs : List MV} {ids : List Nat} {all : List (List (Nat × Int))} {N : List (List Int)} {A L : List Int} {to : List (Nat × Int)} {f : Fr} (hst : CSt Mb M v0 ps b6 v5 vn va vs ids all N A i id8 L f) (hc : c < 256) (hLc : L[c]? = some (-1))
  (h9 : X.ev f (.t q9) = .i .i64 (c : Int)) (h10 : X.ev f (.t q10) = w) (h11 : X.ev f (.t q11) = .i .i64 0) (hw : OwnRow (Mb.n + 1) M 2 w (pv to)) (Q : Post)
  (hn : ∀ f' M' L', CSt Mb M' v0 ps b6 v5 vn va vs ids all N A i id8 L' f' → X.ev f' (.t q9) = .i .i64 (c : Int) → X.ev f' (.t q10) = w → OwnRow (Mb.n + 1) M' 2 w (pv to) → ((L' = L ∧ to ∉ all) ∨ ∃ k0 : Nat, all[k0]? = some to ∧ L' = L.set c (k0 : Int)) → Q .norm f' M') : Wp fns (.loop L33_5) f M (blockQ 6 Q) := by
 refine Wp_inv (σ := Nat × List Int) (fun s f1 M1 => s.1 ≤ all.length ∧ CSt Mb M1 v0 ps b6 v5 vn va vs ids all N A i id8 s.2 f1 ∧ X.ev f1 (.t q9) = .i .i64 (c : Int) ∧ X.ev f1 (.t q10) = w ∧ X.ev f1 (.t q11) = .i .i64 (s.1 : Int) ∧ OwnRow (Mb.n + 1) M1 2 w (pv to) ∧ ((s.2 = L ∧ to ∉ all.take s.1) ∨ ∃ k0 : Nat, all[k0]? = some to ∧ s.2 = L.set c (k0 : Int))) (fun s => all.length - s.1) ?_ (0, L) ?_
 ·clear hst h9 h10 h11 hw
  rintro ⟨k, L1⟩ f1 M1 ⟨hk, h, h9, h10, h11, hw, hcs⟩
  simp only at hk h h9 h10 h11 hw hcs
  have g0 := h.q0
  have g2 := h.q2
  have g5 := h.q5
  have g6 := h.q6
  have g7 := h.q7
  have g8 := h.q8
  simp only [q0, q2, q5, q6, q7, q8, q9, q10, q11] at g0 g2 g5 g6 g7 g8 h9 h10 h11
  have hx := h.ext
  have hlo := h.lo
  have hxl := hx.lo
  have hxn := hx.n
  have hr1 := h.r1
  have hrl := h.rl
  have hbig := h.si.big
  obtain ⟨t, ht1, ht2, ht3, ht4⟩ := h.row.read
  have hr5 := h.ss.r5.row
  obtain ⟨s1, s2⟩ := hr5.sl
  have hl5 := h.ss.l5
  rw [List.length_map, hl5] at s2
  unfold L33_5
  by_cases hki : k < all.length
  ·have d1 : decide ((k : Int) < (all.length : Int)) = true := decide_eq_true (by omega)
   rcases hcs with ⟨rfl, hno⟩ | ⟨k0, hk0, rfl⟩
   ·have hR := ht2 _ _ hLc
    have dm : decide ((-1 : Int) < 0) = true := rfl
    obtain ⟨vk, hvk⟩ : ∃ v, vs[k]? = some v := ⟨_, List.getElem?_eq_getElem (by omega)⟩
    obtain ⟨lk, hlk⟩ : ∃ l, all[k]? = some l := ⟨_, List.getElem?_eq_getElem hki⟩
    have hpk := h.ss.p5 k vk lk hvk hlk
    obtain ⟨ro, sz, tt, gg, _, hat⟩ := hr5.read (i := k) (e := [vk]) (by rw [List.getElem?_map, hvk]; rfl)
    have hcv : cget tt (soff v5 + k * 1) = some vk := hat 0 _ rfl
    simp (disch := first | omega | assumption) only [↓bxD, bA, reduceCtorEq, g0, g2, g5, g6, g7, g8, h9, h10, h11, s1, s2, d1, dm, ix_slc, ht1, hR, gg, hcv]
    show Wp fns K33_4 _ _ _
    unfold K33_4
    simp (disch := first | omega | assumption) only [↓bxD, bA, reduceCtorEq, g0, g2, g5, g6, g7, g8, h9, h10, h11, s1, s2, d1, dm, ix_slc, ht1, hR, gg, hcv]
    refine bindP_call (same_any (by omega) hpk.row hw.row (by have := okL_len h.okps (h.si.ok lk (List.mem_of_getElem? hlk)); omega)) ?_
    rintro m M2 ⟨rfl, x2⟩
    have h2 := h.mext x2
    have hw2 := hw.ext x2
    obtain ⟨t', hu1, hu2, hu3, hu4⟩ := h2.row.read
    have hl2 := x2.lo
    have hn2 := x2.n
    have hH := hu3 c (by omega)
    by_cases e : lk = to
    ·have de : decide (lk = to) = true := decide_eq_true e
     simp (disch := first | omega | assumption | (simp only [bZ, stOk, Nat.reduceBEq, Nat.reduceEqDiff, Nat.reduceAdd] <;> omega) | ((try apply has_setN); apply has_ofL; simp only [bxL]; omega)) only [↓bxD, bA, Nat.reduceBEq, reduceCtorEq, Nat.reduceAdd, Nat.reduceSub, Nat.reduceMul, Nat.reduceLeDiff, Nat.reduceLT, g0, g2, g5, g6, g7, g8, h9, h10, h11, de, ix_slc, hu1, hH]
     show Wp fns K33_3 _ _ _
     unfold K33_3
     simp (disch := first | omega | assumption) only [↓bxD, bA, reduceCtorEq, g0, g2, g5, g6, g7, g8, h9, h10, h11, de, ix_slc, hu1, hH]
     exact ⟨(k + 1, L1.set c (k : Int)), by simp only; omega, by simp only; omega, (h2.put (hu4 c (k : Int) (by omega)) (by rw [List.length_set]; exact hrl)).fr (by simp only [bA, reduceCtorEq, g0, g2, g5, g6, g7, g8, h9, h10, h11, de, ix_slc, hu1, hH]) (by simp only [bA, reduceCtorEq, g0, g2, g5, g6, g7, g8, h9, h10, h11, de, ix_slc, hu1, hH]) (by simp only [bA, reduceCtorEq, g0, g2, g5, g6, g7, g8, h9, h10, h11, de, ix_slc, hu1, hH]) (by simp only [bA, reduceCtorEq, g0, g2, g5, g6, g7, g8, h9, h10, h11, de, ix_slc, hu1, hH]) (by simp only [bA, reduceCtorEq, g0, g2, g5, g6, g7, g8, h9, h10, h11, de, ix_slc, hu1, hH]) (by simp only [bA, reduceCtorEq, g0, g2, g5, g6, g7, g8, h9, h10, h11, de, ix_slc, hu1, hH]), rfl, own_keep hw2 (Nat.le_refl _) (fun j ej => set_ne fun e' => (by
      obtain ⟨_, _, tq, hq⟩ := own_obj hw2 ej
      rw [e', hu1] at hq
      injection hq with hq
      injection hq with _ hq
      cases hq)), .inr ⟨k, by rw [hlk, e], rfl⟩⟩
    ·have de : decide (lk = to) = false := decide_eq_false e
     simp (disch := first | omega | assumption) only [↓bxD, bA, reduceCtorEq, g0, g2, g5, g6, g7, g8, h9, h10, h11, de]
     show Wp fns K33_3 _ _ _
     unfold K33_3
     simp (disch := first | omega | assumption) only [↓bxD, bA, reduceCtorEq, g0, g2, g5, g6, g7, g8, h9, h10, h11, de]
     refine ⟨(k + 1, L1), by simp only; omega, by simp only; omega, h2.fr (by simp only [bA, reduceCtorEq, g0, g2, g5, g6, g7, g8, h9, h10, h11, de]) (by simp only [bA, reduceCtorEq, g0, g2, g5, g6, g7, g8, h9, h10, h11, de]) (by simp only [bA, reduceCtorEq, g0, g2, g5, g6, g7, g8, h9, h10, h11, de]) (by simp only [bA, reduceCtorEq, g0, g2, g5, g6, g7, g8, h9, h10, h11, de]) (by simp only [bA, reduceCtorEq, g0, g2, g5, g6, g7, g8, h9, h10, h11, de]) (by simp only [bA, reduceCtorEq, g0, g2, g5, g6, g7, g8, h9, h10, h11, de]), rfl, hw2, .inl ⟨rfl, fun hm => ?_⟩⟩
     simp only at hm
     rw [List.take_add_one, hlk] at hm
     rcases List.mem_append.1 hm with hm | hm
     ·exact hno hm
     ·simp at hm; exact e hm.symm
   ·have hLi' : (L.set c (k0 : Int))[c]? = some (k0 : Int) := by
     rw [List.getElem?_set, if_pos rfl, if_pos (by rw [List.length_set] at hrl; omega)]
    have hR := ht2 _ _ hLi'
    have dm : decide ((k0 : Int) < 0) = false := decide_eq_false (by omega)
    simp (disch := first | omega | assumption) only [↓bxD, bA, reduceCtorEq, g0, g2, g5, g6, g7, g8, h9, h10, h11, s1, s2, d1, dm, ix_slc, ht1, hR]
    exact hn _ _ _ (h.fr (by simp only [bA, reduceCtorEq, g0, g2, g5, g6, g7, g8, h9, h10, h11, s1, s2, d1, dm, ix_slc, ht1, hR]) (by simp only [bA, reduceCtorEq, g0, g2, g5, g6, g7, g8, h9, h10, h11, s1, s2, d1, dm, ix_slc, ht1, hR]) (by simp only [bA, reduceCtorEq, g0, g2, g5, g6, g7, g8, h9, h10, h11, s1, s2, d1, dm, ix_slc, ht1, hR]) (by simp only [bA, reduceCtorEq, g0, g2, g5, g6, g7, g8, h9, h10, h11, s1, s2, d1, dm, ix_slc, ht1, hR]) (by simp only [bA, reduceCtorEq, g0, g2, g5, g6, g7, g8, h9, h10, h11, s1, s2, d1, dm, ix_slc, ht1, hR]) (by simp only [bA, reduceCtorEq, g0, g2, g5, g6, g7, g8, h9, h10, h11, s1, s2, d1, dm, ix_slc, ht1, hR])) (by simp only [bA, reduceCtorEq, g0, g2, g5, g6, g7, g8, h9, h10, h11, s1, s2, d1, dm, ix_slc, ht1, hR]) (by simp only [bA, reduceCtorEq, g0, g2, g5, g6, g7, g8, h9, h10, h11, s1, s2, d1, dm, ix_slc, ht1, hR]) hw (.inr ⟨k0, hk0, rfl⟩)
  ·have d1 : decide ((k : Int) < (all.length : Int)) = false := decide_eq_false (by omega)
   have hki' : k = all.length := by omega
   rw [hki', List.take_length] at hcs
   simp (disch := first | omega | assumption) only [↓bxD, bA, reduceCtorEq, g0, g2, g5, g6, g7, g8, h9, h10, h11, s1, s2, d1]
   exact hn _ _ _ (h.fr (by simp only [bA, reduceCtorEq, g0, g2, g5, g6, g7, g8, h9, h10, h11, s1, s2, d1]) (by simp only [bA, reduceCtorEq, g0, g2, g5, g6, g7, g8, h9, h10, h11, s1, s2, d1]) (by simp only [bA, reduceCtorEq, g0, g2, g5, g6, g7, g8, h9, h10, h11, s1, s2, d1]) (by simp only [bA, reduceCtorEq, g0, g2, g5, g6, g7, g8, h9, h10, h11, s1, s2, d1]) (by simp only [bA, reduceCtorEq, g0, g2, g5, g6, g7, g8, h9, h10, h11, s1, s2, d1]) (by simp only [bA, reduceCtorEq, g0, g2, g5, g6, g7, g8, h9, h10, h11, s1, s2, d1])) (by simp only [bA, reduceCtorEq, g0, g2, g5, g6, g7, g8, h9, h10, h11, s1, s2, d1]) (by simp only [bA, reduceCtorEq, g0, g2, g5, g6, g7, g8, h9, h10, h11, s1, s2, d1]) hw hcs
 ·exact ⟨Nat.zero_le _, hst, h9, h10, h11, hw, .inl ⟨rfl, by simp⟩⟩
theorem cv_b {i : Nat} (h : i < 256) : cvIV .u8 (.i .i64 (i : Int)) = some (.i .u8 (i : Int)) := by
 show some (MV.i .u8 (wrapF .u8 (i : Int))) = _
 rw [wrapF_eq]
 have e8 : (2 : Int) ^ 8 = 256 := by decide
 congr 2
 simp only [IntKind.wrap, IntKind.bits, IntKind.signed, e8, Bool.false_and]
 simp
 omega
theorem take_okL {ps : List (Pm × Bs)} (hps : OkPs ps) (c : Nat) (l : List (Nat × Int)) (i : Nat) : (stpP ps c (l.take i)).length ≤ 50000 := by
 have := okL_len hps (okL_step hps c (l.take i))
 omega
theorem sub_row {Mb M : MH} {v0 v5 vn va : MV} {ps : List (Pm × Bs)} {b6 i id8 : Nat} {vs : List MV} {ids : List Nat} {all : List (List (Nat × Int))} {N : List (List Int)} {A L : List Int} {li : List (Nat × Int)} {f : Fr} (hst : CSt Mb M v0 ps b6 v5 vn va vs ids all N A i id8 L f) (hli : all[i]? = some li) (h9 : X.ev f (.t q9) = .i .i64 0) (Q : Post)
  (hret : ∀ f' M' t, X.ev f' (.t q2) = .p Mb.n 0 → M'.get Mb.n = some (.cs false 3 t) → At t 0 [vn, va, .b true] → Ext Mb M' → Q .ret f' M')
  (hn : ∀ f' M' v5' vs' all' L', CSt Mb M' v0 ps b6 v5' vn va vs' ids all' N A i id8 L' f' → all'[i]? = some li → (∀ c, c < 256 → CellOk all' (stpP ps c li) (L'.getD c (-1))) → Q .norm f' M') : Wp fns (.loop L33_11) f M (blockQ 4 Q) := by
 refine Wp_inv (σ := Nat × MV × List MV × List (List (Nat × Int)) × List Int) (fun s f1 M1 => s.1 ≤ 256 ∧ CSt Mb M1 v0 ps b6 s.2.1 vn va s.2.2.1 ids s.2.2.2.1 N A i id8 s.2.2.2.2 f1 ∧ X.ev f1 (.t q9) = .i .i64 (s.1 : Int) ∧ s.2.2.2.1[i]? = some li ∧ ∀ c, c < s.1 → CellOk s.2.2.2.1 (stpP ps c li) (s.2.2.2.2.getD c (-1))) (fun s => 256 - s.1) ?_ (0, v5, vs, all, L) ?_
 ·clear hst h9 hli
  rintro ⟨c, v5, vs, all, L⟩ f1 M1 ⟨hc, h, h9, hli, hcells⟩
  simp only at hc h h9 hli hcells
  have g0 := h.q0
  have g2 := h.q2
  have g5 := h.q5
  have g6 := h.q6
  have g7 := h.q7
  have g8 := h.q8
  simp only [q0, q2, q5, q6, q7, q8, q9] at g0 g2 g5 g6 g7 g8 h9
  have hx := h.ext
  have hlo := h.lo
  have hxl := hx.lo
  have hxn := hx.n
  have hr1 := h.r1
  have hrl := h.rl
  have hbig := h.si.big
  have hlen := h.li
  unfold L33_11
  by_cases hcc : c < 256
  ·have d1 : decide ((c : Int) < 256) = true := decide_eq_true (by omega)
   obtain ⟨t, ht1, ht2, ht3, ht4⟩ := h.row.read
   have hH := ht3 c (by omega)
   have h1 := h.put (ht4 c (-1) (by omega)) (by rw [List.length_set]; exact hrl)
   have hL1 : (L.set c (-1))[c]? = some (-1) := by rw [List.getElem?_set, if_pos rfl, if_pos (by omega)]
   generalize hM2 : M1.set id8 (some (.cs false 1 (setN [MV.i .i64 (-1)] (c * 1) t))) = M2 at h1
   have hM2' : M1.set id8 (some (.cs false 1 (setN (MV.i .i64 (Int.negSucc 0)).cells (c * 1) t))) = M2 := hM2
   have hl2 : M2.lo = M1.lo := by rw [← hM2]; rfl
   have hn2 : M2.n = M1.n := by rw [← hM2]; rfl
   have hr5 := h1.ss.r5.row
   obtain ⟨s1, s2⟩ := hr5.sl
   have hl5 := h1.ss.l5
   rw [List.length_map, hl5] at s2
   obtain ⟨vi, hvi⟩ : ∃ v, vs[i]? = some v := ⟨_, List.getElem?_eq_getElem (by omega)⟩
   have hpi := h1.ss.p5 i vi li hvi hli
   obtain ⟨ro, sz, tt, gg, _, hat⟩ := hr5.read (i := i) (e := [vi]) (by rw [List.getElem?_map, hvi]; rfl)
   have hcv : cget tt (soff v5 + i * 1) = some vi := hat 0 _ rfl
   have hil : i < all.length := hlen.2.2
   simp (disch := first | omega | assumption) only [↓bxD, bA, reduceCtorEq, g0, g2, g5, g6, g7, g8, h9, d1, ix_slc, ht1, hH, hM2', s1, s2, gg, hcv, cv_b hcc]
   show Wp fns K33_10 _ _ _
   unfold K33_10
   simp (disch := first | omega | assumption | (simp only [bZ, stOk, Nat.reduceBEq, Nat.reduceEqDiff, Nat.reduceAdd] <;> omega) | ((try apply has_setN); apply has_ofL; simp only [bxL]; omega)) only [↓bxD, bA, Nat.reduceBEq, reduceCtorEq, Nat.reduceAdd, Nat.reduceSub, Nat.reduceMul, Nat.reduceLeDiff, Nat.reduceLT, g0, g2, g5, g6, g7, g8, h9, d1, ix_slc, ht1, hH, hM2', s1, s2, gg, hcv, cv_b hcc]
   refine bindP_call (stpP_any (by omega) hcc (h1.psat.ext h1.ext) h1.okps.q hpi.row (h1.si.ok li (List.mem_of_getElem? hli)).ok (take_okL h1.okps c li) (by have := okL_len h1.okps (h1.si.ok li (List.mem_of_getElem? hli)); omega)) ?_
   rintro w M3 ⟨x3, hw0⟩
   have hw : OwnRow (Mb.n + 1) M3 2 w (pv (stpP ps c li)) := hw0.le (by omega)
   have h3 := h1.mext x3
   have hn3 := x3.n
   have hl3 := x3.lo
   obtain ⟨w1, w2⟩ := hw.row.sl
   have w2 : slen w = (stpP ps c li).length := w2.trans (pv_len _)
   generalize hto : stpP ps c li = to at *
   have hcells1 : ∀ (all' : List (List (Nat × Int))) (L' : List Int), (∀ c', c' < c → CellOk all' (stpP ps c' li) (L.getD c' (-1))) → (∀ j, j ≠ c → L'.getD j (-1) = L.getD j (-1)) → CellOk all' to (L'.getD c (-1)) → ∀ c', c' < c + 1 → CellOk all' (stpP ps c' li) (L'.getD c' (-1)) := fun all' L' a b d c' hc' => by
    by_cases e : c' = c
    ·subst e; rw [hto]; exact d
    ·rw [b c' e]; exact a c' (by omega)
   have gset : ∀ (X : List Int) (z : Int) j, X.length = 256 → (X.set c z).getD j (-1) = if j = c then z else X.getD j (-1) := fun X z j hX => by
    rw [List.getD_eq_getElem?_getD, List.getD_eq_getElem?_getD, List.getElem?_set]
    by_cases e : c = j
    ·subst e; simp [hX, hcc]
    ·rw [if_neg e, if_neg (fun e' => e e'.symm)]
   by_cases hem : to = []
   ·have de : decide ((to.length : Int) = 0) = true := decide_eq_true (by rw [hem]; rfl)
    simp (disch := first | omega | assumption) only [↓bxD, bA, reduceCtorEq, g0, g2, g5, g6, g7, g8, h9, w1, w2, de]
    show Wp fns K33_9 _ _ _
    unfold K33_9
    simp (disch := first | omega | assumption) only [↓bxD, bA, reduceCtorEq, g0, g2, g5, g6, g7, g8, h9, w1, w2, de]
    refine ⟨(c + 1, v5, vs, all, L.set c (-1)), by simp only; omega, by simp only; omega, h3.fr (by simp only [bA, reduceCtorEq, g0, g2, g5, g6, g7, g8, h9, w1, w2, de]) (by simp only [bA, reduceCtorEq, g0, g2, g5, g6, g7, g8, h9, w1, w2, de]) (by simp only [bA, reduceCtorEq, g0, g2, g5, g6, g7, g8, h9, w1, w2, de]) (by simp only [bA, reduceCtorEq, g0, g2, g5, g6, g7, g8, h9, w1, w2, de]) (by simp only [bA, reduceCtorEq, g0, g2, g5, g6, g7, g8, h9, w1, w2, de]) (by simp only [bA, reduceCtorEq, g0, g2, g5, g6, g7, g8, h9, w1, w2, de]), rfl, hli, ?_⟩
    refine hcells1 all _ hcells (fun j hj => by simp only; rw [gset L (-1) j hrl, if_neg hj]) ?_
    simp only
    rw [gset L (-1) c hrl, if_pos rfl]
    exact .inl ⟨hem, rfl⟩
   ·have de : decide ((to.length : Int) = 0) = false := decide_eq_false (fun e => hem (List.length_eq_zero_iff.1 (by omega)))
    simp (disch := first | omega | assumption) only [↓bxD, bA, reduceCtorEq, g0, g2, g5, g6, g7, g8, h9, w1, w2, de]
    show Wp fns K33_8 _ _ _
    unfold K33_8
    simp (disch := first | omega | assumption) only [↓bxD, bA, reduceCtorEq, g0, g2, g5, g6, g7, g8, h9, w1, w2, de]
    refine sub_search (Mb := Mb) (v0 := v0) (v5 := v5) (vn := vn) (va := va) (w := w) (ps := ps) (b6 := b6) (i := i) (id8 := id8) (c := c) (vs := vs) (ids := ids) (all := all) (N := N) (A := A) (L := L.set c (-1)) (to := to) ?_ hcc hL1 ?_ ?_ ?_ hw _ ?_
    ·exact h3.fr (by simp only [bA, reduceCtorEq, g0, g2, g5, g6, g7, g8, h9, w1, w2, de]) (by simp only [bA, reduceCtorEq, g0, g2, g5, g6, g7, g8, h9, w1, w2, de]) (by simp only [bA, reduceCtorEq, g0, g2, g5, g6, g7, g8, h9, w1, w2, de]) (by simp only [bA, reduceCtorEq, g0, g2, g5, g6, g7, g8, h9, w1, w2, de]) (by simp only [bA, reduceCtorEq, g0, g2, g5, g6, g7, g8, h9, w1, w2, de]) (by simp only [bA, reduceCtorEq, g0, g2, g5, g6, g7, g8, h9, w1, w2, de])
    ·simp only [bA, reduceCtorEq, g0, g2, g5, g6, g7, g8, h9, w1, w2, de]
    ·simp only [bxP, bxQ, bxQ2, reduceCtorEq, g0, g2, g5, g6, g7, g8, h9, w1, w2, de]
    ·simp only [bxP, bxQ, bxQ2, reduceCtorEq, g0, g2, g5, g6, g7, g8, h9, w1, w2, de] <;> rfl
    intro f2 M4 L2 h4 k9 k10 hw4 hcase
    have g0 := h4.q0
    have g2 := h4.q2
    have g5 := h4.q5
    have g6 := h4.q6
    have g7 := h4.q7
    have g8 := h4.q8
    simp only [q0, q2, q5, q6, q7, q8, q9, q10] at g0 g2 g5 g6 g7 g8 k9 k10
    have hrl4 := h4.rl
    have hx4 := h4.ext
    have hxl4 := hx4.lo
    have hxn4 := hx4.n
    have hr14 := h4.r1
    obtain ⟨t4, hu1, hu2, hu3, hu4⟩ := h4.row.read
    rcases hcase with ⟨rfl, hno⟩ | ⟨k0, hk0, rfl⟩
    ·have hR := hu2 c (-1) (by rw [List.getElem?_set, if_pos rfl, if_pos (by omega)])
     have dm : decide ((-1 : Int) < 0) = true := rfl
     have hr5 := h4.ss.r5.row
     obtain ⟨s1, s2⟩ := hr5.sl
     have hl5 := h4.ss.l5
     rw [List.length_map, hl5] at s2
     by_cases hbg : 400 ≤ all.length
     ·have db : decide ((400 : Int) ≤ (all.length : Int)) = true := decide_eq_true (by omega)
      obtain ⟨tb, hb1, hb2⟩ := h4.ss.box
      obtain ⟨t2, hc1, hc2⟩ := h4.b2
      have hb6 := h4.ss.bx
      have hb2n := h4.b2n
      have hbH : hasB tb 1 2 = true := has_at hb2 (Nat.zero_le _) (by simp)
      have hat := hb2.set' 2 (MV.b true) (by simp) (k := 2) rfl
      have hgn : Ev.getN (setN [MV.b true] 2 tb) 3 0 = some [vn, va, .b true] := hat.getN
      obtain ⟨z1, _⟩ := h4.ss.rn.row.sl
      obtain ⟨z2, _⟩ := h4.ss.ra.row.sl
      have hst : stOk 3 (.ag [vn, va, .b true]) = true := by
       cases vn <;> first | cases z1 | skip
       all_goals cases va <;> first | cases z2 | skip
       all_goals rfl
      have hcl : MV.cells (.ag [vn, va, .b true]) = [vn, va, .b true] := rfl
      show Wp fns K33_7 _ _ _
      unfold K33_7
      simp (maxSteps := 4000000) (disch := first | omega | assumption | (simp only [bxS, bxV, stOk, Nat.reduceBEq, Nat.reduceEqDiff, Nat.reduceAdd]; done) | (simp only [bxU]; omega) | ((try apply has_setN); apply has_ofL; simp only [bxL]; omega)) only [↓bxD, bxP, bxQ, bxQ2, Nat.reduceBEq, reduceCtorEq, Nat.reduceAdd, Nat.reduceSub, Nat.reduceMul, Nat.reduceLeDiff, Nat.reduceLT, bxR, g0, g2, g5, g6, g7, g8, k9, k10, ix_slc, hu1, hR, dm, s1, s2, db, hb1, hbH, hgn, map_ag, cells_b, hc1, hc2, hst, hcl]
      exact hret _ _ _ (by simp only [bxP, bxQ, bxQ2, reduceCtorEq, g0, g2, g5, g6, g7, g8, k9, k10, ix_slc, hu1, hR, dm, s1, s2, db, hb1, hbH, hgn, map_ag, cells_b]) (set_same _ _) (at_setN _ _ _) ((hx4.set _ (by omega)).set _ (Nat.le_refl _))
     ·have db : decide ((400 : Int) ≤ (all.length : Int)) = false := decide_eq_false (by omega)
      have hH4 := hu3 c (by omega)
      show Wp fns K33_7 _ _ _
      unfold K33_7
      simp (disch := first | omega | assumption | (simp only [bZ, stOk, Nat.reduceBEq, Nat.reduceEqDiff, Nat.reduceAdd] <;> omega) | ((try apply has_setN); apply has_ofL; simp only [bxL]; omega)) only [↓bxD, bA, Nat.reduceBEq, reduceCtorEq, Nat.reduceAdd, Nat.reduceSub, Nat.reduceMul, Nat.reduceLeDiff, Nat.reduceLT, g0, g2, g5, g6, g7, g8, k9, k10, ix_slc, hu1, hR, dm, s1, s2, db, hH4]
      show Wp fns K33_6 _ _ _
      unfold K33_6
      simp (maxSteps := 4000000) (disch := first | omega | assumption | (simp only [bxS, bxV, stOk, Nat.reduceBEq, Nat.reduceEqDiff, Nat.reduceAdd]; done) | (simp only [bxU]; omega) | ((try apply has_setN); apply has_ofL; simp only [bxL]; omega)) only [↓bxD, bxP, bxQ, bxQ2, Nat.reduceBEq, reduceCtorEq, Nat.reduceAdd, Nat.reduceSub, Nat.reduceMul, Nat.reduceLeDiff, Nat.reduceLT, bxR, g0, g2, g5, g6, g7, g8, k9, k10, ix_slc, hu1, hR, dm, s1, s2, db, hH4]
      have hfill : fillM [(0, 1, w)] [MV.nils] = some [w] := fill_one (isSl_cells w1) (isSl_isU w1)
      have h5 := h4.put (hu4 c (all.length : Int) (by omega)) (by rw [List.length_set]; exact hrl4)
      have hw5 : OwnRow (Mb.n + 1) (M4.set id8 (some (.cs false 1 (setN (MV.i .i64 (all.length : Int)).cells (c * 1) t4)))) 2 w (pv to) := own_keep hw4 (Nat.le_refl _) fun j ej => set_ne fun e' => by
       obtain ⟨_, _, tq, hq⟩ := own_obj hw4 ej
       rw [e', hu1] at hq
       injection hq with hq
       injection hq with _ hq
       cases hq
      have h5 : CSt Mb (M4.set id8 (some (.cs false 1 (setN (MV.i .i64 (all.length : Int)).cells (c * 1) t4)))) v0 ps b6 v5 vn va vs ids all N A i id8 ((L.set c (-1)).set c (all.length : Int)) f2 := h5
      have hl5' : (M4.set id8 (some (.cs false 1 (setN (MV.i .i64 (all.length : Int)).cells (c * 1) t4)))).lo = M4.lo := rfl
      have hn5' : (M4.set id8 (some (.cs false 1 (setN (MV.i .i64 (all.length : Int)).cells (c * 1) t4)))).n = M4.n := rfl
      generalize M4.set id8 (some (.cs false 1 (setN (MV.i .i64 (all.length : Int)).cells (c * 1) t4))) = M5 at h5 hw5 hl5' hn5'
      obtain ⟨v5', M6, e1, e2, e3, e4, e5, e6, e7⟩ := h5.ss.push5 (by omega) (by omega) hw5 (by omega)
      simp (maxSteps := 4000000) (disch := first | omega | assumption | (simp only [bxS, bxV, stOk, Nat.reduceBEq, Nat.reduceEqDiff, Nat.reduceAdd]; done) | (simp only [bxU]; omega) | ((try apply has_setN); apply has_ofL; simp only [bxL]; omega)) only [↓bxD, bxP, bxQ, bxQ2, Nat.reduceBEq, reduceCtorEq, Nat.reduceAdd, Nat.reduceSub, Nat.reduceMul, Nat.reduceLeDiff, Nat.reduceLT, bxR, g0, g2, g5, g6, g7, g8, k9, k10, ix_slc, hu1, hR, dm, s1, s2, db, hH4, hfill, bslW_some]
      refine bindP_of e1 ?_
      simp (disch := first | omega | assumption) only [↓bxD, bA, reduceCtorEq, g0, g2, g5, g6, g7, g8, k9, k10, ix_slc, hu1, hR, dm, s1, s2, db, hH4]
      show Wp fns K33_9 _ _ _
      unfold K33_9
      simp (disch := first | omega | assumption) only [↓bxD, bA, reduceCtorEq, g0, g2, g5, g6, g7, g8, k9, k10, ix_slc, hu1, hR, dm, s1, s2, db, hH4]
      obtain ⟨t5, hv1, hv2⟩ := h5.row
      have hid5 := h5.r1
      have hb25 := h5.b2
      have hb2n5 := h5.b2n
      have hsi := h5.si.push h5.okps (l := li) (c := c) (List.mem_of_getElem? hli) hcc (by rw [hto]; exact hem) (by rw [hto]; exact hno) (by omega)
      rw [hto] at hsi
      have hv5id : obj v5 ≠ some id8 := fun e' => h5.rf (.inl e')
      have hv5b : obj v5 ≠ some Mb.n := fun e' => by
       have := (own_obj h5.ss.r5 e').1
       omega
      refine ⟨(c + 1, v5', vs ++ [w], all ++ [to], (L.set c (-1)).set c (all.length : Int)), by simp only; omega, by simp only; omega, ?_, rfl, ?_, ?_⟩
      ·obtain ⟨t6, y1, y2⟩ := hb25
       refine ⟨⟨by have := h5.ext.n; omega, by rw [e4]; exact h5.ext.lo, fun j hj => ?_⟩, h5.lo, h5.psat, h5.okps, ⟨t6, (e6 _ hb2n5 hv5b).trans y1, y2⟩, by omega, e2, hsi, ⟨h5.li.1, h5.li.2.1, by rw [List.length_append]; have := h5.li.2.2; omega⟩, ⟨t5, (e6 _ hid5.2 hv5id).trans hv1, hv2⟩, by rw [List.length_set, List.length_set]; exact hrl, ⟨hid5.1, by omega⟩, e7 id8 hid5.2 h5.rf ⟨t5, hv1⟩, by simp only [bA, reduceCtorEq, g0, g2, g5, g6, g7, g8, k9, k10, ix_slc, hu1, hR, dm, s1, s2, db, hH4], by simp only [bA, reduceCtorEq, g0, g2, g5, g6, g7, g8, k9, k10, ix_slc, hu1, hR, dm, s1, s2, db, hH4], by simp only [bA, reduceCtorEq, g0, g2, g5, g6, g7, g8, k9, k10, ix_slc, hu1, hR, dm, s1, s2, db, hH4], by simp only [bA, reduceCtorEq, g0, g2, g5, g6, g7, g8, k9, k10, ix_slc, hu1, hR, dm, s1, s2, db, hH4], by simp only [bA, reduceCtorEq, g0, g2, g5, g6, g7, g8, k9, k10, ix_slc, hu1, hR, dm, s1, s2, db, hH4], by simp only [bA, reduceCtorEq, g0, g2, g5, g6, g7, g8, k9, k10, ix_slc, hu1, hR, dm, s1, s2, db, hH4]⟩
       rw [e6 j (by have := h5.ext.n; omega) (fun e' => by have := (own_obj h5.ss.r5 e').1; omega)]
       exact h5.ext.old j hj
      ·simp only
       rw [List.getElem?_append_left hil]
       exact hli
      ·refine hcells1 (all ++ [to]) _ (fun c' hc' => (hcells c' hc').app) (fun j hj => by simp only; rw [List.set_set, gset L _ j hrl, if_neg hj]) ?_
       simp only
       rw [List.set_set, gset L _ c hrl, if_pos rfl]
       exact .inr ⟨hem, all.length, rfl, by rw [List.getElem?_append_right (Nat.le_refl _), Nat.sub_self]; rfl⟩
    ·have hR := hu2 c (k0 : Int) (by rw [List.set_set, List.getElem?_set, if_pos rfl, if_pos (by omega)])
     have dm : decide ((k0 : Int) < 0) = false := decide_eq_false (by omega)
     show Wp fns K33_7 _ _ _
     unfold K33_7
     simp (disch := first | omega | assumption) only [↓bxD, bA, reduceCtorEq, g0, g2, g5, g6, g7, g8, k9, k10, ix_slc, hu1, hR, dm]
     show Wp fns K33_9 _ _ _
     unfold K33_9
     simp (disch := first | omega | assumption) only [↓bxD, bA, reduceCtorEq, g0, g2, g5, g6, g7, g8, k9, k10, ix_slc, hu1, hR, dm]
     refine ⟨(c + 1, v5, vs, all, (L.set c (-1)).set c (k0 : Int)), by simp only; omega, by simp only; omega, h4.fr (by simp only [bA, reduceCtorEq, g0, g2, g5, g6, g7, g8, k9, k10, ix_slc, hu1, hR, dm]) (by simp only [bA, reduceCtorEq, g0, g2, g5, g6, g7, g8, k9, k10, ix_slc, hu1, hR, dm]) (by simp only [bA, reduceCtorEq, g0, g2, g5, g6, g7, g8, k9, k10, ix_slc, hu1, hR, dm]) (by simp only [bA, reduceCtorEq, g0, g2, g5, g6, g7, g8, k9, k10, ix_slc, hu1, hR, dm]) (by simp only [bA, reduceCtorEq, g0, g2, g5, g6, g7, g8, k9, k10, ix_slc, hu1, hR, dm]) (by simp only [bA, reduceCtorEq, g0, g2, g5, g6, g7, g8, k9, k10, ix_slc, hu1, hR, dm]), rfl, hli, ?_⟩
     refine hcells1 all _ hcells (fun j hj => by simp only; rw [List.set_set, gset L _ j hrl, if_neg hj]) ?_
     simp only
     rw [List.set_set, gset L _ c hrl, if_pos rfl]
     exact .inr ⟨hem, k0, rfl, hk0⟩
  ·have d1 : decide ((c : Int) < 256) = false := decide_eq_false (by omega)
   have hc256 : c = 256 := by omega
   rw [hc256] at hcells
   simp (disch := first | omega | assumption) only [↓bxD, bA, reduceCtorEq, g0, g2, g5, g6, g7, g8, h9, d1]
   exact hn _ _ v5 vs all L (h.fr (by simp only [bA, reduceCtorEq, g0, g2, g5, g6, g7, g8, h9, d1]) (by simp only [bA, reduceCtorEq, g0, g2, g5, g6, g7, g8, h9, d1]) (by simp only [bA, reduceCtorEq, g0, g2, g5, g6, g7, g8, h9, d1]) (by simp only [bA, reduceCtorEq, g0, g2, g5, g6, g7, g8, h9, d1]) (by simp only [bA, reduceCtorEq, g0, g2, g5, g6, g7, g8, h9, d1]) (by simp only [bA, reduceCtorEq, g0, g2, g5, g6, g7, g8, h9, d1])) hli hcells
 ·exact ⟨Nat.zero_le _, hst, h9, hli, fun c hc => absurd hc (Nat.not_lt_zero c)⟩
end Go.Proofs.Ythklpecigkdkiaa.K
