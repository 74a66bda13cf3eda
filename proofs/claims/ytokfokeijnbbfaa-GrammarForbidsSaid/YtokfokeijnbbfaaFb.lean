/-
  The law GrammarForbids in the model. Conditions: none.
-/
import Derived.Test.YtokfokeijnbbfaaMf
import Derived.Test.YtokfokeijnbbfaaLitK
import Derived.Test.YtokfokeijnbbfaaSw
import Derived.Test.YtokfokeijnbbfaaBx
set_option linter.unusedSimpArgs false
set_option linter.unusedVariables false
namespace Go.Proofs.Ytokfokeijnbbfaa.K
open Go Ev
set_option maxRecDepth 100000
set_option maxHeartbeats 4000000

def fbG (a b c : Int) : Gr := ⟨2, 1, 0, [(0, [1, -1, 0], 0), (1, [], 0), (0, [-1], 0)], [(a, b, c)], [], []⟩
def okF (a b c : Int) : Bool := (decide (a = 0) && decide (b = 0) && decide (c = 1)) || (decide (a = 0) && decide (b = 2) && (decide (c = 0) || decide (c = 2)))
theorem formP_fb {a b c : Int} : formP (fbG a b c) = (-1, if okF a b c = true then 0 else 6) := by
  have h1 : headE (fbG a b c) = none := rfl
  have h2 : findE (ruleE (fbG a b c)) (fbG a b c).rules 0 = none := rfl
  have h3 : (fbG a b c).forbid.any (badF (fbG a b c)) = badF (fbG a b c) (a, b, c) := by simp [fbG]
  have h4 : badF (fbG a b c) (a, b, c) = !(okF a b c) := by
    by_cases ha : a < 0 ∨ 3 ≤ a ∨ c < 0 ∨ 3 ≤ c
    · unfold badF okF
      rw [if_pos (by simpa [fbG] using ha)]
      rcases ha with ha | ha | ha | ha
      · rw [decide_eq_false (p := a = 0) (by omega)]; rfl
      · rw [decide_eq_false (p := a = 0) (by omega)]; rfl
      · rw [decide_eq_false (p := c = 0) (by omega), decide_eq_false (p := c = 1) (by omega), decide_eq_false (p := c = 2) (by omega)]; simp
      · rw [decide_eq_false (p := c = 0) (by omega), decide_eq_false (p := c = 1) (by omega), decide_eq_false (p := c = 2) (by omega)]; simp
    · have ha' : a = 0 ∨ a = 1 ∨ a = 2 := by omega
      have hc' : c = 0 ∨ c = 1 ∨ c = 2 := by omega
      have key : ∀ (x z : Int) (xr : Int × List Int × Int) (zr : Int × List Int × Int), (fbG x b z).rules[x.toNat]? = some xr → (fbG x b z).rules[z.toNat]? = some zr → ¬ (x < 0 ∨ (3 : Int) ≤ x ∨ z < 0 ∨ (3 : Int) ≤ z) → badF (fbG x b z) (x, b, z) = if b < 0 ∨ (xr.2.1.length : Int) ≤ b then true else match xr.2.1[b.toNat]? with
        | some s => decide (s ≠ zr.1)
        | none => true := fun x z xr zr e1 e2 e3 => by
        unfold badF
        rw [if_neg (by simpa [fbG] using e3)]
        simp only [e1, e2]
        rfl
      rcases ha' with rfl | rfl | rfl <;> rcases hc' with rfl | rfl | rfl <;> rw [key _ _ _ _ rfl rfl (by decide)] <;> unfold okF <;> by_cases hb : b < 0 ∨ 3 ≤ b
      all_goals first
        | (rw [if_pos (by simp only [List.length_cons, List.length_nil]; omega), decide_eq_false (p := b = 0) (by omega), decide_eq_false (p := b = 2) (by omega)]; rfl)
        | (have hb' : b = 0 ∨ b = 1 ∨ b = 2 := by omega
           rcases hb' with rfl | rfl | rfl <;> rfl)
  unfold formP
  rw [h1, h2]
  simp only
  rw [h3, h4]
  cases okF a b c <;> rfl
theorem law_forbids {M : MH} {a b c : Int} (hlo : M.lo ≤ M.n) (wa : Wf64 a) (wb : Wf64 b) (wc : Wf64 c) : Cp fns 5 [.i .i64 a, .i .i64 b, .i .i64 c] M fun m _ => m = .b true := by
  refine Cp_call (fn := F5) (by kernel_rfl) (Nat.le_of_ble_eq_true rfl) ?_
  show Wp fns B5 (T.set q2 (some (.i .i64 c)) (T.set q1 (some (.i .i64 b)) (T.set q0 (some (.i .i64 a)) T.lf))) M _
  unfold B5
  simp (maxSteps := 4000000) (disch := first | omega | assumption | (simp only [bxS, stOk, Nat.reduceBEq, Nat.reduceEqDiff, Nat.reduceAdd]; done) | (simp only [push_lo, push_n, set_lo, set_n]; omega) | (apply has_ofL; simp only [List.length_cons, List.length_nil]; omega) | (apply has_setN; apply has_ofL; simp only [List.length_cons, List.length_nil]; omega)) only [↓bxD, bxP, bxQ, bxQ2, Nat.reduceBEq, reduceCtorEq, Nat.reduceAdd, Nat.reduceSub, Nat.reduceMul, Nat.reduceLeDiff, Nat.reduceLT, R10, R11, R12, R13, R14, R15, R16, R17, R18, R19, R20, R21, R3, R4, R5, R7, R8, R9]
  refine bindP_call (Cp_true (by kernel_rfl)) ?_
  rintro m M2 ⟨rfl, rfl⟩
  have e1 : fillM [(0, 1, MV.i IntKind.i64 1), (1, 1, MV.i IntKind.i64 (Int.negSucc 0)), (2, 1, MV.i IntKind.i64 0)] (zrow [MV.i IntKind.i64 0] 3) = some [.i .i64 1, .i .i64 (Int.negSucc 0), .i .i64 0] := rfl
  have e2 : ∀ n d, fillM [(1, 1, MV.sl n 0 d 0)] [.i .i64 0, .nils, .i .i64 0] = some [.i .i64 0, .sl n 0 d 0, .i .i64 0] := fun _ _ => rfl
  have e3 : fillM [(0, 1, MV.i .i64 1)] [.i .i64 0, .nils, .i .i64 0] = some [.i .i64 1, .nils, .i .i64 0] := rfl
  have e4 : fillM [(0, 1, MV.i .i64 (Int.negSucc 0))] (zrow [.i .i64 0] 1) = some [.i .i64 (Int.negSucc 0)] := rfl
  have e5 : ∀ n d n' d', fillM [(0, 3, MV.ag [.i .i64 0, .sl n 0 d 0, .i .i64 0]), (3, 3, MV.ag [.i .i64 1, .nils, .i .i64 0]), (6, 3, MV.ag [.i .i64 0, .sl n' 0 d' 0, .i .i64 0])] (zrow [.i .i64 0, .nils, .i .i64 0] 3) = some [.i .i64 0, .sl n 0 d 0, .i .i64 0, .i .i64 1, .nils, .i .i64 0, .i .i64 0, .sl n' 0 d' 0, .i .i64 0] := fun _ _ _ _ => rfl
  have e6 : fillM [(0, 1, MV.i .i64 a), (1, 1, MV.i .i64 b), (2, 1, MV.i .i64 c)] [.i .i64 0, .i .i64 0, .i .i64 0] = some [.i .i64 a, .i .i64 b, .i .i64 c] := rfl
  have e7 : fillM [(0, 3, MV.ag [.i .i64 a, .i .i64 b, .i .i64 c])] (zrow [.i .i64 0, .i .i64 0, .i .i64 0] 1) = some [.i .i64 a, .i .i64 b, .i .i64 c] := rfl
  have e8 : ∀ n d n' d', fillM [(0, 1, MV.i .i64 2), (1, 1, MV.i .i64 1), (3, 1, MV.sl n 0 d 0), (4, 1, MV.sl n' 0 d' 0)] [.i .i64 0, .i .i64 0, .i .i64 0, .nils, .nils, .nils, .nils] = some [.i .i64 2, .i .i64 1, .i .i64 0, .sl n 0 d 0, .sl n' 0 d' 0, .nils, .nils] := fun _ _ _ _ => rfl
  simp (maxSteps := 4000000) (disch := first | omega | assumption | (simp only [bxS, stOk, Nat.reduceBEq, Nat.reduceEqDiff, Nat.reduceAdd]; done) | (simp only [push_lo, push_n, set_lo, set_n]; omega) | (apply has_ofL; simp only [List.length_cons, List.length_nil]; omega) | (apply has_setN; apply has_ofL; simp only [List.length_cons, List.length_nil]; omega)) only [↓bxD, bxP, bxQ, bxQ2, Nat.reduceBEq, reduceCtorEq, Nat.reduceAdd, Nat.reduceSub, Nat.reduceMul, Nat.reduceLeDiff, Nat.reduceLT, R10, R11, R12, R13, R14, R15, R16, R17, R18, R19, R20, R21, R3, R4, R5, R7, R8, R9, e1, e2, e3, e4, e5, e6, e7, e8, bslW_some]
  show Wp fns K5_0 _ _ _
  unfold K5_0
  simp (maxSteps := 4000000) (disch := first | omega | assumption | (simp only [bxS, stOk, Nat.reduceBEq, Nat.reduceEqDiff, Nat.reduceAdd]; done) | (simp only [push_lo, push_n, set_lo, set_n]; omega) | (apply has_ofL; simp only [List.length_cons, List.length_nil]; omega) | (apply has_setN; apply has_ofL; simp only [List.length_cons, List.length_nil]; omega)) only [↓bxD, bxP, bxQ, bxQ2, Nat.reduceBEq, reduceCtorEq, Nat.reduceAdd, Nat.reduceSub, Nat.reduceMul, Nat.reduceLeDiff, Nat.reduceLT, R10, R11, R12, R13, R14, R15, R16, R17, R18, R19, R20, R21, R3, R4, R5, R7, R8, R9, e1, e2, e3, e4, e5, e6, e7, e8, bslW_some]
  generalize hN : MH.push _ _ = M1
  have r0 : M1.get M2.n = some (.cs false 1 (ofL [MV.i IntKind.i64 1, MV.i IntKind.i64 (Int.negSucc 0), MV.i IntKind.i64 0] 0)) := by
    rw [← hN]; simp only [MH.get_push, push_n]
    repeat first | rw [if_pos trivial] | rw [if_neg (by omega)] | rw [if_pos (by omega)]
  have r1 : M1.get (M2.n + 1) = some (.cs false 1 (ofL [MV.i IntKind.i64 (Int.negSucc 0)] 0)) := by
    rw [← hN]; simp only [MH.get_push, push_n]
    repeat first | rw [if_pos trivial] | rw [if_neg (by omega)] | rw [if_pos (by omega)]
  have r2 : M1.get (M2.n + 1 + 1) = some (.cs false 3 (ofL [MV.i IntKind.i64 0, MV.sl M2.n 0 3 0, MV.i IntKind.i64 0, MV.i IntKind.i64 1, MV.nils, MV.i IntKind.i64 0, MV.i IntKind.i64 0, MV.sl (M2.n + 1) 0 1 0, MV.i IntKind.i64 0] 0)) := by
    rw [← hN]; simp only [MH.get_push, push_n]
    repeat first | rw [if_pos trivial] | rw [if_neg (by omega)] | rw [if_pos (by omega)]
  have r3 : M1.get (M2.n + 1 + 1 + 1) = some (.cs false 3 (ofL [MV.i IntKind.i64 a, MV.i IntKind.i64 b, MV.i IntKind.i64 c] 0)) := by
    rw [← hN]; simp only [MH.get_push, push_n]
    repeat first | rw [if_pos trivial] | rw [if_neg (by omega)] | rw [if_pos (by omega)]
  have r4 : M1.get (M2.n + 1 + 1 + 1 + 1) = some (.cs false 7 (ofL [MV.i IntKind.i64 0, MV.i IntKind.i64 0, MV.i IntKind.i64 0, MV.nils, MV.nils, MV.nils, MV.nils] 0)) := by
    rw [← hN]; simp only [MH.get_push, push_n]
    repeat first | rw [if_pos trivial] | rw [if_neg (by omega)] | rw [if_pos (by omega)]
  have hn1 : M1.n = M2.n + 5 := by rw [← hN]; rfl
  have hl1 : M1.lo = M2.lo := by rw [← hN]; rfl
  clear hN
  simp (maxSteps := 4000000) (disch := first | omega | assumption | (simp only [bxS, stOk, Nat.reduceBEq, Nat.reduceEqDiff, Nat.reduceAdd]; done) | (simp only [push_lo, push_n, set_lo, set_n]; omega) | (apply has_ofL; simp only [List.length_cons, List.length_nil]; omega) | (apply has_setN; apply has_ofL; simp only [List.length_cons, List.length_nil]; omega)) only [↓bxD, bxP, bxQ, bxQ2, Nat.reduceBEq, reduceCtorEq, Nat.reduceAdd, Nat.reduceSub, Nat.reduceMul, Nat.reduceLeDiff, Nat.reduceLT, R10, R11, R12, R13, R14, R15, R16, R17, R18, R19, R20, R21, R3, R4, R5, R7, R8, R9, r4]
  generalize hN : MH.set _ _ _ = M3
  have r0 := (show M3.get M2.n = M1.get M2.n by rw [← hN, set_ne (by omega)]).trans r0
  have r1 := (show M3.get (M2.n + 1) = M1.get (M2.n + 1) by rw [← hN, set_ne (by omega)]).trans r1
  have r2 := (show M3.get (M2.n + 1 + 1) = M1.get (M2.n + 1 + 1) by rw [← hN, set_ne (by omega)]).trans r2
  have r3 := (show M3.get (M2.n + 1 + 1 + 1) = M1.get (M2.n + 1 + 1 + 1) by rw [← hN, set_ne (by omega)]).trans r3
  have r5 : M3.get (M2.n + 1 + 1 + 1 + 1) = some (.cs false 7 (setN [.i .i64 2, .i .i64 1, .i .i64 0, .sl (M2.n + 1 + 1) 0 3 0, .sl (M2.n + 1 + 1 + 1) 0 1 0, .nils, .nils] 0 (ofL [MV.i IntKind.i64 0, MV.i IntKind.i64 0, MV.i IntKind.i64 0, MV.nils, MV.nils, MV.nils, MV.nils] 0))) := by rw [← hN, set_same]
  have hn3 : M3.n = M2.n + 5 := by rw [← hN]; exact hn1
  have hl3 : M3.lo = M2.lo := by rw [← hN]; exact hl1
  have hG : GrAt M3 (.sl (M2.n + 1 + 1) 0 3 0) (.sl (M2.n + 1 + 1 + 1) 0 1 0) .nils .nils [[.i .i64 0, .sl M2.n 0 3 0, .i .i64 0], [.i .i64 1, .nils, .i .i64 0], [.i .i64 0, .sl (M2.n + 1) 0 1 0, .i .i64 0]] (fbG a b c) := by
    refine ⟨⟨⟨?_, .inr ⟨_, _, _, _, _, _, rfl, r2, by omega, at_ofL _⟩⟩, rfl, ?_⟩, ⟨?_, .inr ⟨_, _, _, _, _, _, rfl, r3, by omega, at_ofL _⟩⟩, ⟨fun e he => (by cases he), .inl ⟨rfl, rfl⟩⟩, ⟨fun e he => (by cases he), .inl ⟨rfl, rfl⟩⟩, ?_⟩
    · intro e he; simp only [List.mem_cons, List.not_mem_nil, or_false] at he; rcases he with rfl | rfl | rfl <;> rfl
    · intro i e r h1 h2
      match i, h1, h2 with
      | 0, h1, h2 => cases h1; cases h2; exact ⟨_, rfl, fun e he => (by unfold ints at he; simp only [List.map_cons, List.map_nil, List.mem_cons, List.not_mem_nil, or_false] at he; rcases he with rfl | rfl | rfl <;> rfl), .inr ⟨_, _, _, _, _, _, rfl, r0, by omega, at_ofL _⟩⟩
      | 1, h1, h2 => cases h1; cases h2; exact ⟨_, rfl, fun e he => (by cases he), .inl ⟨rfl, rfl⟩⟩
      | 2, h1, h2 => cases h1; cases h2; exact ⟨_, rfl, fun e he => (by unfold ints at he; simp only [List.map_cons, List.map_nil, List.mem_cons, List.not_mem_nil, or_false] at he; rcases he with rfl <;> rfl), .inr ⟨_, _, _, _, _, _, rfl, r1, by omega, at_ofL _⟩⟩
      | i + 3, h1, h2 => cases h1
    · intro e he; simp only [fbG, List.map_cons, List.map_nil, List.mem_cons, List.not_mem_nil, or_false] at he; rcases he with rfl; rfl
    · refine ⟨?_, ?_, ?_, ?_, ?_, ?_, ?_, ?_⟩
      · unfold fbG Wf64; simp only; omega
      · unfold fbG Wf64; simp only; omega
      · unfold fbG Wf64; simp only; omega
      · intro r hr; simp only [fbG, List.mem_cons, List.not_mem_nil, or_false] at hr; rcases hr with rfl | rfl | rfl <;> simp [Wf64]
      · intro r hr; simp only [fbG, List.mem_cons, List.not_mem_nil, or_false] at hr; rcases hr with rfl; exact ⟨wa, wb, wc⟩
      · intro r hr; cases hr
      · intro r hr; cases hr
      · simp [fbG]
  clear hN
  have hG2 : Ev.getN (setN [MV.i .i64 2, .i .i64 1, .i .i64 0, .sl (M2.n + 1 + 1) 0 3 0, .sl (M2.n + 1 + 1 + 1) 0 1 0, .nils, .nils] 0 (ofL [MV.i IntKind.i64 0, MV.i IntKind.i64 0, MV.i IntKind.i64 0, MV.nils, MV.nils, MV.nils, MV.nils] 0)) 7 0 = some (gcs (fbG a b c) (.sl (M2.n + 1 + 1) 0 3 0) (.sl (M2.n + 1 + 1 + 1) 0 1 0) .nils .nils) := getN_setN' rfl
  have z1 : decide ((0 : Int) = 0) = true := rfl
  have z2 : decide ((6 : Int) = 0) = false := rfl
  have z3 : decide ((6 : Int) = 6) = true := rfl
  have z4 : decide ((-1 : Int) = Int.negSucc 0) = true := rfl
  have hF : ∀ {ok : Bool}, okF a b c = ok → Cp fns 7 [.ag (gcs (fbG a b c) (.sl (M2.n + 1 + 1) 0 3 0) (.sl (M2.n + 1 + 1 + 1) 0 1 0) .nils .nils)] M3 fun m M' => m = .tp [.i .i64 (-1), .i .i64 (if ok = true then 0 else 6)] ∧ Ext M3 M' := fun e => by
    have := prog_form hG (by omega)
    rw [formP_fb, e] at this
    exact this
  by_cases d0p : a = 0
  · have d0 : decide (a = 0) = true := decide_eq_true d0p
    by_cases d1p : b = 0
    · have d1 : decide (b = 0) = true := decide_eq_true d1p
      by_cases d2p : c = 1
      · have d2 : decide (c = 1) = true := decide_eq_true d2p
        have hok : okF a b c = true := by unfold okF; simp only [d0, d1, d2]; rfl
        simp (maxSteps := 4000000) (disch := first | omega | assumption | (simp only [bxS, stOk, Nat.reduceBEq, Nat.reduceEqDiff, Nat.reduceAdd]; done) | (simp only [push_lo, push_n, set_lo, set_n]; omega) | (apply has_ofL; simp only [List.length_cons, List.length_nil]; omega) | (apply has_setN; apply has_ofL; simp only [List.length_cons, List.length_nil]; omega)) only [↓bxD, bxP, bxQ, bxQ2, Nat.reduceBEq, reduceCtorEq, Nat.reduceAdd, Nat.reduceSub, Nat.reduceMul, Nat.reduceLeDiff, Nat.reduceLT, R10, R11, R12, R13, R14, R15, R16, R17, R18, R19, R20, R21, R3, R4, R5, R7, R8, R9, e1, e2, e3, e4, e5, e6, e7, e8, bslW_some, r5, hG2, z1, z2, z3, z4, d0, d1, d2]
        refine bindP_call (hF hok) ?_
        rintro m M4 ⟨rfl, hx4⟩
        simp (maxSteps := 4000000) (disch := first | omega | assumption | (simp only [bxS, stOk, Nat.reduceBEq, Nat.reduceEqDiff, Nat.reduceAdd]; done) | (simp only [push_lo, push_n, set_lo, set_n]; omega) | (apply has_ofL; simp only [List.length_cons, List.length_nil]; omega) | (apply has_setN; apply has_ofL; simp only [List.length_cons, List.length_nil]; omega)) only [↓bxD, bxP, bxQ, bxQ2, Nat.reduceBEq, reduceCtorEq, Nat.reduceAdd, Nat.reduceSub, Nat.reduceMul, Nat.reduceLeDiff, Nat.reduceLT, R10, R11, R12, R13, R14, R15, R16, R17, R18, R19, R20, R21, R3, R4, R5, R7, R8, R9, e1, e2, e3, e4, e5, e6, e7, e8, bslW_some, r5, hG2, z1, z2, z3, z4, d0, d1, d2]
        refine bindP_call num_any ?_
        rintro m M5 ⟨rfl, rfl⟩
        simp (maxSteps := 4000000) (disch := first | omega | assumption | (simp only [bxS, stOk, Nat.reduceBEq, Nat.reduceEqDiff, Nat.reduceAdd]; done) | (simp only [push_lo, push_n, set_lo, set_n]; omega) | (apply has_ofL; simp only [List.length_cons, List.length_nil]; omega) | (apply has_setN; apply has_ofL; simp only [List.length_cons, List.length_nil]; omega)) only [↓bxD, bxP, bxQ, bxQ2, Nat.reduceBEq, reduceCtorEq, Nat.reduceAdd, Nat.reduceSub, Nat.reduceMul, Nat.reduceLeDiff, Nat.reduceLT, R10, R11, R12, R13, R14, R15, R16, R17, R18, R19, R20, R21, R3, R4, R5, R7, R8, R9, e1, e2, e3, e4, e5, e6, e7, e8, bslW_some, r5, hG2, z1, z2, z3, z4, d0, d1, d2]
      · have d2 : decide (c = 1) = false := decide_eq_false d2p
        have dx : decide (b = 2) = false := decide_eq_false (by omega)
        have hok : okF a b c = false := by unfold okF; simp only [d0, d1, d2, dx]; rfl
        simp (maxSteps := 4000000) (disch := first | omega | assumption | (simp only [bxS, stOk, Nat.reduceBEq, Nat.reduceEqDiff, Nat.reduceAdd]; done) | (simp only [push_lo, push_n, set_lo, set_n]; omega) | (apply has_ofL; simp only [List.length_cons, List.length_nil]; omega) | (apply has_setN; apply has_ofL; simp only [List.length_cons, List.length_nil]; omega)) only [↓bxD, bxP, bxQ, bxQ2, Nat.reduceBEq, reduceCtorEq, Nat.reduceAdd, Nat.reduceSub, Nat.reduceMul, Nat.reduceLeDiff, Nat.reduceLT, R10, R11, R12, R13, R14, R15, R16, R17, R18, R19, R20, R21, R3, R4, R5, R7, R8, R9, e1, e2, e3, e4, e5, e6, e7, e8, bslW_some, r5, hG2, z1, z2, z3, z4, d0, d1, d2, dx]
        refine bindP_call (hF hok) ?_
        rintro m M4 ⟨rfl, hx4⟩
        simp (maxSteps := 4000000) (disch := first | omega | assumption | (simp only [bxS, stOk, Nat.reduceBEq, Nat.reduceEqDiff, Nat.reduceAdd]; done) | (simp only [push_lo, push_n, set_lo, set_n]; omega) | (apply has_ofL; simp only [List.length_cons, List.length_nil]; omega) | (apply has_setN; apply has_ofL; simp only [List.length_cons, List.length_nil]; omega)) only [↓bxD, bxP, bxQ, bxQ2, Nat.reduceBEq, reduceCtorEq, Nat.reduceAdd, Nat.reduceSub, Nat.reduceMul, Nat.reduceLeDiff, Nat.reduceLT, R10, R11, R12, R13, R14, R15, R16, R17, R18, R19, R20, R21, R3, R4, R5, R7, R8, R9, e1, e2, e3, e4, e5, e6, e7, e8, bslW_some, r5, hG2, z1, z2, z3, z4, d0, d1, d2, dx]
        refine bindP_call num_any ?_
        rintro m M5 ⟨rfl, rfl⟩
        simp (maxSteps := 4000000) (disch := first | omega | assumption | (simp only [bxS, stOk, Nat.reduceBEq, Nat.reduceEqDiff, Nat.reduceAdd]; done) | (simp only [push_lo, push_n, set_lo, set_n]; omega) | (apply has_ofL; simp only [List.length_cons, List.length_nil]; omega) | (apply has_setN; apply has_ofL; simp only [List.length_cons, List.length_nil]; omega)) only [↓bxD, bxP, bxQ, bxQ2, Nat.reduceBEq, reduceCtorEq, Nat.reduceAdd, Nat.reduceSub, Nat.reduceMul, Nat.reduceLeDiff, Nat.reduceLT, R10, R11, R12, R13, R14, R15, R16, R17, R18, R19, R20, R21, R3, R4, R5, R7, R8, R9, e1, e2, e3, e4, e5, e6, e7, e8, bslW_some, r5, hG2, z1, z2, z3, z4, d0, d1, d2, dx]
        refine bindP_call num_any ?_
        rintro m M6 ⟨rfl, rfl⟩
        simp (maxSteps := 4000000) (disch := first | omega | assumption | (simp only [bxS, stOk, Nat.reduceBEq, Nat.reduceEqDiff, Nat.reduceAdd]; done) | (simp only [push_lo, push_n, set_lo, set_n]; omega) | (apply has_ofL; simp only [List.length_cons, List.length_nil]; omega) | (apply has_setN; apply has_ofL; simp only [List.length_cons, List.length_nil]; omega)) only [↓bxD, bxP, bxQ, bxQ2, Nat.reduceBEq, reduceCtorEq, Nat.reduceAdd, Nat.reduceSub, Nat.reduceMul, Nat.reduceLeDiff, Nat.reduceLT, R10, R11, R12, R13, R14, R15, R16, R17, R18, R19, R20, R21, R3, R4, R5, R7, R8, R9, e1, e2, e3, e4, e5, e6, e7, e8, bslW_some, r5, hG2, z1, z2, z3, z4, d0, d1, d2, dx]
    · have d1 : decide (b = 0) = false := decide_eq_false d1p
      by_cases d3p : b = 2
      · have d3 : decide (b = 2) = true := decide_eq_true d3p
        by_cases d4p : c = 0
        · have d4 : decide (c = 0) = true := decide_eq_true d4p
          have hok : okF a b c = true := by unfold okF; simp only [d0, d1, d3, d4]; rfl
          simp (maxSteps := 4000000) (disch := first | omega | assumption | (simp only [bxS, stOk, Nat.reduceBEq, Nat.reduceEqDiff, Nat.reduceAdd]; done) | (simp only [push_lo, push_n, set_lo, set_n]; omega) | (apply has_ofL; simp only [List.length_cons, List.length_nil]; omega) | (apply has_setN; apply has_ofL; simp only [List.length_cons, List.length_nil]; omega)) only [↓bxD, bxP, bxQ, bxQ2, Nat.reduceBEq, reduceCtorEq, Nat.reduceAdd, Nat.reduceSub, Nat.reduceMul, Nat.reduceLeDiff, Nat.reduceLT, R10, R11, R12, R13, R14, R15, R16, R17, R18, R19, R20, R21, R3, R4, R5, R7, R8, R9, e1, e2, e3, e4, e5, e6, e7, e8, bslW_some, r5, hG2, z1, z2, z3, z4, d0, d1, d3, d4]
          refine bindP_call (hF hok) ?_
          rintro m M4 ⟨rfl, hx4⟩
          simp (maxSteps := 4000000) (disch := first | omega | assumption | (simp only [bxS, stOk, Nat.reduceBEq, Nat.reduceEqDiff, Nat.reduceAdd]; done) | (simp only [push_lo, push_n, set_lo, set_n]; omega) | (apply has_ofL; simp only [List.length_cons, List.length_nil]; omega) | (apply has_setN; apply has_ofL; simp only [List.length_cons, List.length_nil]; omega)) only [↓bxD, bxP, bxQ, bxQ2, Nat.reduceBEq, reduceCtorEq, Nat.reduceAdd, Nat.reduceSub, Nat.reduceMul, Nat.reduceLeDiff, Nat.reduceLT, R10, R11, R12, R13, R14, R15, R16, R17, R18, R19, R20, R21, R3, R4, R5, R7, R8, R9, e1, e2, e3, e4, e5, e6, e7, e8, bslW_some, r5, hG2, z1, z2, z3, z4, d0, d1, d3, d4]
          refine bindP_call num_any ?_
          rintro m M5 ⟨rfl, rfl⟩
          simp (maxSteps := 4000000) (disch := first | omega | assumption | (simp only [bxS, stOk, Nat.reduceBEq, Nat.reduceEqDiff, Nat.reduceAdd]; done) | (simp only [push_lo, push_n, set_lo, set_n]; omega) | (apply has_ofL; simp only [List.length_cons, List.length_nil]; omega) | (apply has_setN; apply has_ofL; simp only [List.length_cons, List.length_nil]; omega)) only [↓bxD, bxP, bxQ, bxQ2, Nat.reduceBEq, reduceCtorEq, Nat.reduceAdd, Nat.reduceSub, Nat.reduceMul, Nat.reduceLeDiff, Nat.reduceLT, R10, R11, R12, R13, R14, R15, R16, R17, R18, R19, R20, R21, R3, R4, R5, R7, R8, R9, e1, e2, e3, e4, e5, e6, e7, e8, bslW_some, r5, hG2, z1, z2, z3, z4, d0, d1, d3, d4]
        · have d4 : decide (c = 0) = false := decide_eq_false d4p
          by_cases d5p : c = 2
          · have d5 : decide (c = 2) = true := decide_eq_true d5p
            have hok : okF a b c = true := by unfold okF; simp only [d0, d1, d3, d4, d5]; rfl
            simp (maxSteps := 4000000) (disch := first | omega | assumption | (simp only [bxS, stOk, Nat.reduceBEq, Nat.reduceEqDiff, Nat.reduceAdd]; done) | (simp only [push_lo, push_n, set_lo, set_n]; omega) | (apply has_ofL; simp only [List.length_cons, List.length_nil]; omega) | (apply has_setN; apply has_ofL; simp only [List.length_cons, List.length_nil]; omega)) only [↓bxD, bxP, bxQ, bxQ2, Nat.reduceBEq, reduceCtorEq, Nat.reduceAdd, Nat.reduceSub, Nat.reduceMul, Nat.reduceLeDiff, Nat.reduceLT, R10, R11, R12, R13, R14, R15, R16, R17, R18, R19, R20, R21, R3, R4, R5, R7, R8, R9, e1, e2, e3, e4, e5, e6, e7, e8, bslW_some, r5, hG2, z1, z2, z3, z4, d0, d1, d3, d4, d5]
            refine bindP_call (hF hok) ?_
            rintro m M4 ⟨rfl, hx4⟩
            simp (maxSteps := 4000000) (disch := first | omega | assumption | (simp only [bxS, stOk, Nat.reduceBEq, Nat.reduceEqDiff, Nat.reduceAdd]; done) | (simp only [push_lo, push_n, set_lo, set_n]; omega) | (apply has_ofL; simp only [List.length_cons, List.length_nil]; omega) | (apply has_setN; apply has_ofL; simp only [List.length_cons, List.length_nil]; omega)) only [↓bxD, bxP, bxQ, bxQ2, Nat.reduceBEq, reduceCtorEq, Nat.reduceAdd, Nat.reduceSub, Nat.reduceMul, Nat.reduceLeDiff, Nat.reduceLT, R10, R11, R12, R13, R14, R15, R16, R17, R18, R19, R20, R21, R3, R4, R5, R7, R8, R9, e1, e2, e3, e4, e5, e6, e7, e8, bslW_some, r5, hG2, z1, z2, z3, z4, d0, d1, d3, d4, d5]
            refine bindP_call num_any ?_
            rintro m M5 ⟨rfl, rfl⟩
            simp (maxSteps := 4000000) (disch := first | omega | assumption | (simp only [bxS, stOk, Nat.reduceBEq, Nat.reduceEqDiff, Nat.reduceAdd]; done) | (simp only [push_lo, push_n, set_lo, set_n]; omega) | (apply has_ofL; simp only [List.length_cons, List.length_nil]; omega) | (apply has_setN; apply has_ofL; simp only [List.length_cons, List.length_nil]; omega)) only [↓bxD, bxP, bxQ, bxQ2, Nat.reduceBEq, reduceCtorEq, Nat.reduceAdd, Nat.reduceSub, Nat.reduceMul, Nat.reduceLeDiff, Nat.reduceLT, R10, R11, R12, R13, R14, R15, R16, R17, R18, R19, R20, R21, R3, R4, R5, R7, R8, R9, e1, e2, e3, e4, e5, e6, e7, e8, bslW_some, r5, hG2, z1, z2, z3, z4, d0, d1, d3, d4, d5]
          · have d5 : decide (c = 2) = false := decide_eq_false d5p
            have hok : okF a b c = false := by unfold okF; simp only [d0, d1, d3, d4, d5]; rfl
            simp (maxSteps := 4000000) (disch := first | omega | assumption | (simp only [bxS, stOk, Nat.reduceBEq, Nat.reduceEqDiff, Nat.reduceAdd]; done) | (simp only [push_lo, push_n, set_lo, set_n]; omega) | (apply has_ofL; simp only [List.length_cons, List.length_nil]; omega) | (apply has_setN; apply has_ofL; simp only [List.length_cons, List.length_nil]; omega)) only [↓bxD, bxP, bxQ, bxQ2, Nat.reduceBEq, reduceCtorEq, Nat.reduceAdd, Nat.reduceSub, Nat.reduceMul, Nat.reduceLeDiff, Nat.reduceLT, R10, R11, R12, R13, R14, R15, R16, R17, R18, R19, R20, R21, R3, R4, R5, R7, R8, R9, e1, e2, e3, e4, e5, e6, e7, e8, bslW_some, r5, hG2, z1, z2, z3, z4, d0, d1, d3, d4, d5]
            refine bindP_call (hF hok) ?_
            rintro m M4 ⟨rfl, hx4⟩
            simp (maxSteps := 4000000) (disch := first | omega | assumption | (simp only [bxS, stOk, Nat.reduceBEq, Nat.reduceEqDiff, Nat.reduceAdd]; done) | (simp only [push_lo, push_n, set_lo, set_n]; omega) | (apply has_ofL; simp only [List.length_cons, List.length_nil]; omega) | (apply has_setN; apply has_ofL; simp only [List.length_cons, List.length_nil]; omega)) only [↓bxD, bxP, bxQ, bxQ2, Nat.reduceBEq, reduceCtorEq, Nat.reduceAdd, Nat.reduceSub, Nat.reduceMul, Nat.reduceLeDiff, Nat.reduceLT, R10, R11, R12, R13, R14, R15, R16, R17, R18, R19, R20, R21, R3, R4, R5, R7, R8, R9, e1, e2, e3, e4, e5, e6, e7, e8, bslW_some, r5, hG2, z1, z2, z3, z4, d0, d1, d3, d4, d5]
            refine bindP_call num_any ?_
            rintro m M5 ⟨rfl, rfl⟩
            simp (maxSteps := 4000000) (disch := first | omega | assumption | (simp only [bxS, stOk, Nat.reduceBEq, Nat.reduceEqDiff, Nat.reduceAdd]; done) | (simp only [push_lo, push_n, set_lo, set_n]; omega) | (apply has_ofL; simp only [List.length_cons, List.length_nil]; omega) | (apply has_setN; apply has_ofL; simp only [List.length_cons, List.length_nil]; omega)) only [↓bxD, bxP, bxQ, bxQ2, Nat.reduceBEq, reduceCtorEq, Nat.reduceAdd, Nat.reduceSub, Nat.reduceMul, Nat.reduceLeDiff, Nat.reduceLT, R10, R11, R12, R13, R14, R15, R16, R17, R18, R19, R20, R21, R3, R4, R5, R7, R8, R9, e1, e2, e3, e4, e5, e6, e7, e8, bslW_some, r5, hG2, z1, z2, z3, z4, d0, d1, d3, d4, d5]
            refine bindP_call num_any ?_
            rintro m M6 ⟨rfl, rfl⟩
            simp (maxSteps := 4000000) (disch := first | omega | assumption | (simp only [bxS, stOk, Nat.reduceBEq, Nat.reduceEqDiff, Nat.reduceAdd]; done) | (simp only [push_lo, push_n, set_lo, set_n]; omega) | (apply has_ofL; simp only [List.length_cons, List.length_nil]; omega) | (apply has_setN; apply has_ofL; simp only [List.length_cons, List.length_nil]; omega)) only [↓bxD, bxP, bxQ, bxQ2, Nat.reduceBEq, reduceCtorEq, Nat.reduceAdd, Nat.reduceSub, Nat.reduceMul, Nat.reduceLeDiff, Nat.reduceLT, R10, R11, R12, R13, R14, R15, R16, R17, R18, R19, R20, R21, R3, R4, R5, R7, R8, R9, e1, e2, e3, e4, e5, e6, e7, e8, bslW_some, r5, hG2, z1, z2, z3, z4, d0, d1, d3, d4, d5]
      · have d3 : decide (b = 2) = false := decide_eq_false d3p
        have hok : okF a b c = false := by unfold okF; simp only [d0, d1, d3]; rfl
        simp (maxSteps := 4000000) (disch := first | omega | assumption | (simp only [bxS, stOk, Nat.reduceBEq, Nat.reduceEqDiff, Nat.reduceAdd]; done) | (simp only [push_lo, push_n, set_lo, set_n]; omega) | (apply has_ofL; simp only [List.length_cons, List.length_nil]; omega) | (apply has_setN; apply has_ofL; simp only [List.length_cons, List.length_nil]; omega)) only [↓bxD, bxP, bxQ, bxQ2, Nat.reduceBEq, reduceCtorEq, Nat.reduceAdd, Nat.reduceSub, Nat.reduceMul, Nat.reduceLeDiff, Nat.reduceLT, R10, R11, R12, R13, R14, R15, R16, R17, R18, R19, R20, R21, R3, R4, R5, R7, R8, R9, e1, e2, e3, e4, e5, e6, e7, e8, bslW_some, r5, hG2, z1, z2, z3, z4, d0, d1, d3]
        refine bindP_call (hF hok) ?_
        rintro m M4 ⟨rfl, hx4⟩
        simp (maxSteps := 4000000) (disch := first | omega | assumption | (simp only [bxS, stOk, Nat.reduceBEq, Nat.reduceEqDiff, Nat.reduceAdd]; done) | (simp only [push_lo, push_n, set_lo, set_n]; omega) | (apply has_ofL; simp only [List.length_cons, List.length_nil]; omega) | (apply has_setN; apply has_ofL; simp only [List.length_cons, List.length_nil]; omega)) only [↓bxD, bxP, bxQ, bxQ2, Nat.reduceBEq, reduceCtorEq, Nat.reduceAdd, Nat.reduceSub, Nat.reduceMul, Nat.reduceLeDiff, Nat.reduceLT, R10, R11, R12, R13, R14, R15, R16, R17, R18, R19, R20, R21, R3, R4, R5, R7, R8, R9, e1, e2, e3, e4, e5, e6, e7, e8, bslW_some, r5, hG2, z1, z2, z3, z4, d0, d1, d3]
        refine bindP_call num_any ?_
        rintro m M5 ⟨rfl, rfl⟩
        simp (maxSteps := 4000000) (disch := first | omega | assumption | (simp only [bxS, stOk, Nat.reduceBEq, Nat.reduceEqDiff, Nat.reduceAdd]; done) | (simp only [push_lo, push_n, set_lo, set_n]; omega) | (apply has_ofL; simp only [List.length_cons, List.length_nil]; omega) | (apply has_setN; apply has_ofL; simp only [List.length_cons, List.length_nil]; omega)) only [↓bxD, bxP, bxQ, bxQ2, Nat.reduceBEq, reduceCtorEq, Nat.reduceAdd, Nat.reduceSub, Nat.reduceMul, Nat.reduceLeDiff, Nat.reduceLT, R10, R11, R12, R13, R14, R15, R16, R17, R18, R19, R20, R21, R3, R4, R5, R7, R8, R9, e1, e2, e3, e4, e5, e6, e7, e8, bslW_some, r5, hG2, z1, z2, z3, z4, d0, d1, d3]
        refine bindP_call num_any ?_
        rintro m M6 ⟨rfl, rfl⟩
        simp (maxSteps := 4000000) (disch := first | omega | assumption | (simp only [bxS, stOk, Nat.reduceBEq, Nat.reduceEqDiff, Nat.reduceAdd]; done) | (simp only [push_lo, push_n, set_lo, set_n]; omega) | (apply has_ofL; simp only [List.length_cons, List.length_nil]; omega) | (apply has_setN; apply has_ofL; simp only [List.length_cons, List.length_nil]; omega)) only [↓bxD, bxP, bxQ, bxQ2, Nat.reduceBEq, reduceCtorEq, Nat.reduceAdd, Nat.reduceSub, Nat.reduceMul, Nat.reduceLeDiff, Nat.reduceLT, R10, R11, R12, R13, R14, R15, R16, R17, R18, R19, R20, R21, R3, R4, R5, R7, R8, R9, e1, e2, e3, e4, e5, e6, e7, e8, bslW_some, r5, hG2, z1, z2, z3, z4, d0, d1, d3]
  · have d0 : decide (a = 0) = false := decide_eq_false d0p
    have hok : okF a b c = false := by unfold okF; simp only [d0]; rfl
    simp (maxSteps := 4000000) (disch := first | omega | assumption | (simp only [bxS, stOk, Nat.reduceBEq, Nat.reduceEqDiff, Nat.reduceAdd]; done) | (simp only [push_lo, push_n, set_lo, set_n]; omega) | (apply has_ofL; simp only [List.length_cons, List.length_nil]; omega) | (apply has_setN; apply has_ofL; simp only [List.length_cons, List.length_nil]; omega)) only [↓bxD, bxP, bxQ, bxQ2, Nat.reduceBEq, reduceCtorEq, Nat.reduceAdd, Nat.reduceSub, Nat.reduceMul, Nat.reduceLeDiff, Nat.reduceLT, R10, R11, R12, R13, R14, R15, R16, R17, R18, R19, R20, R21, R3, R4, R5, R7, R8, R9, e1, e2, e3, e4, e5, e6, e7, e8, bslW_some, r5, hG2, z1, z2, z3, z4, d0]
    refine bindP_call (hF hok) ?_
    rintro m M4 ⟨rfl, hx4⟩
    simp (maxSteps := 4000000) (disch := first | omega | assumption | (simp only [bxS, stOk, Nat.reduceBEq, Nat.reduceEqDiff, Nat.reduceAdd]; done) | (simp only [push_lo, push_n, set_lo, set_n]; omega) | (apply has_ofL; simp only [List.length_cons, List.length_nil]; omega) | (apply has_setN; apply has_ofL; simp only [List.length_cons, List.length_nil]; omega)) only [↓bxD, bxP, bxQ, bxQ2, Nat.reduceBEq, reduceCtorEq, Nat.reduceAdd, Nat.reduceSub, Nat.reduceMul, Nat.reduceLeDiff, Nat.reduceLT, R10, R11, R12, R13, R14, R15, R16, R17, R18, R19, R20, R21, R3, R4, R5, R7, R8, R9, e1, e2, e3, e4, e5, e6, e7, e8, bslW_some, r5, hG2, z1, z2, z3, z4, d0]
    refine bindP_call num_any ?_
    rintro m M5 ⟨rfl, rfl⟩
    simp (maxSteps := 4000000) (disch := first | omega | assumption | (simp only [bxS, stOk, Nat.reduceBEq, Nat.reduceEqDiff, Nat.reduceAdd]; done) | (simp only [push_lo, push_n, set_lo, set_n]; omega) | (apply has_ofL; simp only [List.length_cons, List.length_nil]; omega) | (apply has_setN; apply has_ofL; simp only [List.length_cons, List.length_nil]; omega)) only [↓bxD, bxP, bxQ, bxQ2, Nat.reduceBEq, reduceCtorEq, Nat.reduceAdd, Nat.reduceSub, Nat.reduceMul, Nat.reduceLeDiff, Nat.reduceLT, R10, R11, R12, R13, R14, R15, R16, R17, R18, R19, R20, R21, R3, R4, R5, R7, R8, R9, e1, e2, e3, e4, e5, e6, e7, e8, bslW_some, r5, hG2, z1, z2, z3, z4, d0]
    refine bindP_call num_any ?_
    rintro m M6 ⟨rfl, rfl⟩
    simp (maxSteps := 4000000) (disch := first | omega | assumption | (simp only [bxS, stOk, Nat.reduceBEq, Nat.reduceEqDiff, Nat.reduceAdd]; done) | (simp only [push_lo, push_n, set_lo, set_n]; omega) | (apply has_ofL; simp only [List.length_cons, List.length_nil]; omega) | (apply has_setN; apply has_ofL; simp only [List.length_cons, List.length_nil]; omega)) only [↓bxD, bxP, bxQ, bxQ2, Nat.reduceBEq, reduceCtorEq, Nat.reduceAdd, Nat.reduceSub, Nat.reduceMul, Nat.reduceLeDiff, Nat.reduceLT, R10, R11, R12, R13, R14, R15, R16, R17, R18, R19, R20, R21, R3, R4, R5, R7, R8, R9, e1, e2, e3, e4, e5, e6, e7, e8, bslW_some, r5, hG2, z1, z2, z3, z4, d0]
theorem forb_model (M : MH) (ms : List MV) (hx : Ext Mz M) (hlo : M.lo ≤ M.n) (ha : ArgsTyped Try.prog M [3, 3, 3] ms) : Cp fns 5 ms M fun m _ => m = .b true := by
  obtain ⟨m1, r1, rfl, ⟨n1, c1, t1, e1⟩, m2, r2, rfl, ⟨n2, c2, t2, e2⟩, m3, r3, rfl, ⟨n3, c3, t3, e3⟩, rfl⟩ := ha
  simp only [Try.underlying3] at e1 e2 e3
  subst e1 e2 e3
  obtain ⟨a, e, wa⟩ := typed_int Try.underlying3 t1
  cases e
  obtain ⟨b, e, wb⟩ := typed_int Try.underlying3 t2
  cases e
  obtain ⟨c, e, wc⟩ := typed_int Try.underlying3 t3
  cases e
  exact law_forbids hlo wa wb wc
end Go.Proofs.Ytokfokeijnbbfaa.K
