/-
  The size of a pattern with one more kid. Conditions: none.
-/
import Derived.Test.YtaagkdljkpbilaaS1
import Derived.Test.YtaagkdljkpbilaaLitK
import Derived.Test.YtaagkdljkpbilaaSw
import Derived.Test.YtaagkdljkpbilaaBx
set_option linter.unusedSimpArgs false
set_option linter.unusedVariables false
namespace Go.Proofs.Ytaagkdljkpbilaa.K
open Go Ev
set_option maxRecDepth 100000
set_option maxHeartbeats 4000000

/-- What may turn: the blocks of S. -/
structure Chg (S : Nat → Prop) (M M' : MH) : Prop where
  n : M.n ≤ M'.n
  lo : M'.lo = M.lo
  old : ∀ j, j < M.n → ¬ S j → M'.get j = M.get j
theorem Chg.refl (S : Nat → Prop) (M : MH) : Chg S M M := ⟨Nat.le_refl _, rfl, fun _ _ _ => rfl⟩
theorem Chg.trans {S : Nat → Prop} {a b c : MH} (h : Chg S a b) (k : Chg S b c) : Chg S a c := ⟨Nat.le_trans h.n k.n, k.lo.trans h.lo, fun j hj hs => (k.old j (Nat.lt_of_lt_of_le hj h.n) hs).trans (h.old j hj hs)⟩
theorem Chg.mono {S T : Nat → Prop} {a b : MH} (h : Chg S a b) (k : ∀ j, j < a.n → S j → T j) : Chg T a b := ⟨h.n, h.lo, fun j hj hs => h.old j hj fun hS => hs (k j hj hS)⟩
theorem Chg.ext {S : Nat → Prop} {a b : MH} (h : Chg S a b) (k : ∀ j, j < a.n → ¬ S j) : Ext a b := ⟨h.n, h.lo, fun j hj => h.old j hj (k j hj)⟩
theorem Chg.of {S : Nat → Prop} {a b : MH} (h : Ext a b) : Chg S a b := ⟨h.n, h.lo, fun j hj _ => h.old j hj⟩
theorem Chg.push {S : Nat → Prop} {a b : MH} (h : Chg S a b) (o : MO) : Chg S a (b.push o) := h.trans (.of (.push b o))
theorem Chg.set {S : Nat → Prop} {a b : MH} (h : Chg S a b) {id : Nat} (o : Option MO) (k : S id ∨ a.n ≤ id) : Chg S a (b.set id o) := ⟨h.n, h.lo, fun j hj hs => by
  rw [set_ne (by rcases k with k | k; exact fun e => hs (e ▸ k); omega)]; exact h.old j hj hs⟩
theorem size_add {M : MH} {id off sz : Nat} {c : T MV} {p q a b : Int} (hlo : M.lo ≤ M.n) (hid : M.lo ≤ id) (hn : id < M.n) (hg : M.get id = some (.cs false sz c)) (hc : At c off [.i .i64 p, .i .i64 q]) (hp : 0 ≤ p ∧ p ≤ 1000) (hq : 0 ≤ q ∧ q ≤ 1000) (ha : 0 ≤ a ∧ a ≤ 1000) (hb : 0 ≤ b ∧ b ≤ 1000) :
    Cp fns 61 [.p id off, .ag [.i .i64 a, .i .i64 b]] M fun _ M' => Chg (fun j => j = id) M M' ∧ M'.get id = some (.cs false sz (setN [.i .i64 (min (max q (b + 1)) 201)] (off + 1) (setN [.i .i64 (min (p + a) 151)] off c))) := by
  have c0 : cget c off = some (.i .i64 p) := hc 0 _ rfl
  have c1 : cget c (off + 1) = some (.i .i64 q) := hc 1 _ rfl
  refine Cp_call (fn := F61) (by kernel_rfl) (Nat.le_of_ble_eq_true rfl) ?_
  show Wp fns B61 (T.set q1 (some (.ag [.i .i64 a, .i .i64 b])) (T.set q0 (some (.p id off)) T.lf)) M _
  unfold B61
  have hb0 : hasB c 1 off = true := (At.left (b := [.i .i64 q]) (a := [.i .i64 p]) hc).has
  have hb1 : hasB c 1 (off + 1) = true := (At.right (a := [.i .i64 p]) (b := [.i .i64 q]) hc).has
  have hb2 : ∀ l o, hasB (setN l o c) 1 (off + 1) = true := fun l o => has_setN l o 1 _ hb1
  have hc2 : ∀ x, cget (setN [x] off c) (off + 1) = some (.i .i64 q) := fun x => by rw [cget_setN, if_neg (by simp), c1]
  simp (maxSteps := 4000000) (disch := first | omega | assumption | (simp only [bxS, stOk, Nat.reduceBEq, Nat.reduceEqDiff, Nat.reduceAdd]; done) | (simp only [push_lo, push_n, set_lo, set_n]; omega) | (apply has_ofL; simp only [List.length_cons, List.length_nil]; omega) | (apply has_setN; apply has_ofL; simp only [List.length_cons, List.length_nil]; omega)) only [↓bxD, bxP, bxQ, bxQ2, Nat.reduceBEq, reduceCtorEq, Nat.reduceAdd, Nat.reduceSub, Nat.reduceMul, Nat.reduceLeDiff, Nat.reduceLT, R10, R13, R22, R23, R24, R25, R4, R40, R41, R42, R43, R44, R45, R46, R47, R48, R5, R61, R62, R63, R64, R65, R9, hg, c0, hb0, hb1, hb2, nck_p, mn_i, mx_i]
  refine Wp_dreg_of (by show M.lo ≤ M.n + 1; omega) ?_
  simp (maxSteps := 4000000) (disch := first | omega | assumption | (simp only [bxS, stOk, Nat.reduceBEq, Nat.reduceEqDiff, Nat.reduceAdd]; done) | (simp only [push_lo, push_n, set_lo, set_n]; omega) | (apply has_ofL; simp only [List.length_cons, List.length_nil]; omega) | (apply has_setN; apply has_ofL; simp only [List.length_cons, List.length_nil]; omega)) only [↓bxD, bxP, bxQ, bxQ2, Nat.reduceBEq, reduceCtorEq, Nat.reduceAdd, Nat.reduceSub, Nat.reduceMul, Nat.reduceLeDiff, Nat.reduceLT, R10, R13, R22, R23, R24, R25, R4, R40, R41, R42, R43, R44, R45, R46, R47, R48, R5, R61, R62, R63, R64, R65, R9, hg, c0, hb0, hb1, hb2, nck_p, mn_i, mx_i]
  have g1 : ∀ x y, ((M.push x).set id y).get id = y := fun x y => set_same id y
  show Wp fns K61_0 _ _ _
  generalize hM1 : MH.set _ _ _ = M1
  have hg1 : M1.get id = some (.cs false sz (setN [.i .i64 (min (p + a) 151)] off c)) := by rw [← hM1]; exact set_same _ _
  have hgb : M1.get M.n = some (.cs false 2 (ofL [MV.i IntKind.i64 a, MV.i IntKind.i64 b] 0)) := by rw [← hM1, set_ne (by omega)]; exact push_new _
  have hx1 : Chg (fun j => j = id) M M1 := by rw [← hM1]; exact ((Chg.refl _ M).push _).set _ (.inl rfl)
  have hn1 : M1.n = M.n + 1 := by rw [← hM1]; rfl
  have hl1 := hx1.lo
  clear hM1
  have hb3 := hb2 [.i .i64 (min (p + a) 151)] off
  unfold K61_0
  refine Wp_dreg_of (by omega) ?_
  simp (maxSteps := 4000000) (disch := first | omega | assumption | (simp only [bxS, stOk, Nat.reduceBEq, Nat.reduceEqDiff, Nat.reduceAdd]; done) | (simp only [push_lo, push_n, set_lo, set_n]; omega) | (apply has_ofL; simp only [List.length_cons, List.length_nil]; omega) | (apply has_setN; apply has_ofL; simp only [List.length_cons, List.length_nil]; omega)) only [↓bxD, bxP, bxQ, bxQ2, Nat.reduceBEq, reduceCtorEq, Nat.reduceAdd, Nat.reduceSub, Nat.reduceMul, Nat.reduceLeDiff, Nat.reduceLT, R10, R13, R22, R23, R24, R25, R4, R40, R41, R42, R43, R44, R45, R46, R47, R48, R5, R61, R62, R63, R64, R65, R9, hg1, hgb, hc2, hb2, nck_p, mn_i, mx_i, cells_i]
  simp (maxSteps := 4000000) (disch := first | omega | assumption | (simp only [bxS, stOk, Nat.reduceBEq, Nat.reduceEqDiff, Nat.reduceAdd]; done) | (simp only [push_lo, push_n, set_lo, set_n]; omega) | (apply has_ofL; simp only [List.length_cons, List.length_nil]; omega) | (apply has_setN; apply has_ofL; simp only [List.length_cons, List.length_nil]; omega)) only [↓bxD, bxP, bxQ, bxQ2, Nat.reduceBEq, reduceCtorEq, Nat.reduceAdd, Nat.reduceSub, Nat.reduceMul, Nat.reduceLeDiff, Nat.reduceLT, R10, R13, R22, R23, R24, R25, R4, R40, R41, R42, R43, R44, R45, R46, R47, R48, R5, R61, R62, R63, R64, R65, R9, hg1, hgb, hc2, hb2, nck_p, mn_i, mx_i, cells_i, resL_nil]
  exact hx1.set _ (.inl rfl)
end Go.Proofs.Ytaagkdljkpbilaa.K
