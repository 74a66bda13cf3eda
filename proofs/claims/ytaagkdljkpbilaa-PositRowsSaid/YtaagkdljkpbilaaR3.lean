/-
  The law PositRows: what is wanted behind a place. Conditions: none.
-/
import Derived.Test.YtaagkdljkpbilaaR2
import Derived.Test.YtaagkdljkpbilaaLitK
import Derived.Test.YtaagkdljkpbilaaSw
import Derived.Test.YtaagkdljkpbilaaBx
set_option linter.unusedSimpArgs false
set_option linter.unusedVariables false
namespace Go.Proofs.Ytaagkdljkpbilaa.K
open Go Ev
set_option maxRecDepth 100000
set_option maxHeartbeats 4000000

theorem sorted_eq : ∀ {a b : List Nat}, a.Pairwise (· < ·) → b.Pairwise (· < ·) → (∀ j, j ∈ a ↔ j ∈ b) → a = b
  | [], [], _, _, _ => rfl
  | [], y :: b, _, _, h => by have := (h y).2 List.mem_cons_self; cases this
  | x :: a, [], _, _, h => by have := (h x).1 List.mem_cons_self; cases this
  | x :: a, y :: b, ha, hb, h => by
    rw [List.pairwise_cons] at ha hb
    have e : x = y := by
      rcases List.mem_cons.1 ((h x).1 List.mem_cons_self) with e | e
      · exact e
      · rcases List.mem_cons.1 ((h y).2 List.mem_cons_self) with e2 | e2
        · exact e2.symm
        · have := hb.1 x e
          have := ha.1 y e2
          omega
    subst e
    rw [sorted_eq ha.2 hb.2 fun j => ⟨fun hj => by
      rcases List.mem_cons.1 ((h j).1 (List.mem_cons_of_mem _ hj)) with e | e
      · have := ha.1 j hj; omega
      · exact e, fun hj => by
      rcases List.mem_cons.1 ((h j).2 (List.mem_cons_of_mem _ hj)) with e | e
      · have := hb.1 j hj; omega
      · exact e⟩]
/-- What is wanted so far. -/
def WL (os : List Nat) (i k : Nat) (wl : List Nat) : Prop := wl.Pairwise (· < ·) ∧ ∀ j, j ∈ wl ↔ j < k ∧ inW os os.length i j
theorem WL.push {os : List Nat} {i k : Nat} {wl : List Nat} (h : WL os i k wl) (hk : inW os os.length i k) : WL os i (k + 1) (wl ++ [k]) := by
  refine ⟨List.pairwise_append.2 ⟨h.1, List.pairwise_singleton _ _, fun a ha b hb => ?_⟩, fun j => ?_⟩
  · simp only [List.mem_cons, List.not_mem_nil, or_false] at hb
    subst hb
    exact ((h.2 a).1 ha).1
  · rw [List.mem_append, List.mem_singleton, h.2 j]
    constructor
    · rintro (⟨h1, h2⟩ | rfl)
      · exact ⟨by omega, h2⟩
      · exact ⟨by omega, hk⟩
    · rintro ⟨h1, h2⟩
      by_cases e : j = k
      · exact .inr e
      · exact .inl ⟨by omega, h2⟩
theorem WL.more {os : List Nat} {i k n : Nat} {wl : List Nat} (h : WL os i k wl) (hkn : k ≤ n) (hk : ∀ j, k ≤ j → j < n → ¬ inW os os.length i j) : WL os i n wl := ⟨h.1, fun j => by
  rw [h.2 j]
  constructor
  · rintro ⟨h1, h2⟩; exact ⟨by omega, h2⟩
  · rintro ⟨h1, h2⟩
    by_cases e : j < k
    · exact ⟨e, h2⟩
    · exact (hk j (by omega) h1 h2).elim⟩
theorem WL.len {os : List Nat} {i k : Nat} {wl : List Nat} (h : WL os i k wl) : wl.length ≤ k := by
  have : ∀ (n : Nat) (l : List Nat), l.Pairwise (· < ·) → (∀ j ∈ l, j < n) → l.length ≤ n := fun n => by
    induction n with
    | zero =>
      intro l _ h2
      cases l with
      | nil => exact Nat.le_refl _
      | cons x r => have := h2 x List.mem_cons_self; omega
    | succ n ih =>
      intro l h1 h2
      rcases List.eq_nil_or_concat l with rfl | ⟨r, a, rfl⟩
      · simp
      · rw [List.concat_eq_append] at h1 h2 ⊢
        rw [List.pairwise_append] at h1
        have := ih r h1.1 fun j hj => by
          have e1 := h1.2.2 j hj a (by simp)
          have e2 := h2 a (by simp)
          omega
        simp; omega
  exact this k wl h.1 fun j hj => ((h.2 j).1 hj).1
theorem rows_inner {f : Fr} {M : MH} {lo i : Nat} {v w bx : MV} {b9 : Bool} {zs : List Int} {wl : List Nat} (hlo : M.lo ≤ M.n) (hll : M.lo ≤ lo) (hv : RowAt M 1 v (iv zs)) (hvl : sid v < lo) (hl : lo ≤ M.n) (hw : ∀ z ∈ zs, -9223372036854775808 ≤ z ∧ z ≤ 9223372036854775807) (hn : zs.length ≤ 40) (hi : i < zs.length)
    (h0 : X.ev f (.t q0) = v) (h7 : X.ev f (.t q7) = bx) (h9 : X.ev f (.t q9) = .b b9) (h10 : X.ev f (.t q10) = .i .i64 (i : Int)) (h11 : X.ev f (.t q11) = w) (h12 : X.ev f (.t q12) = .i .i64 ((i + 1 : Nat) : Int)) (hr : OwnRow lo M 1 w (nv wl)) (hwl : WL (zs.map oc) i (i + 1) wl) {Q : Post}
    (hQ : ∀ f' M' w' wl', X.ev f' (.t q0) = v → X.ev f' (.t q7) = bx → X.ev f' (.t q9) = .b b9 → X.ev f' (.t q10) = .i .i64 (i : Int) → X.ev f' (.t q11) = w' → M.n ≤ M'.n → M'.lo = M.lo → (∀ j, j < lo → M'.get j = M.get j) → OwnRow lo M' 1 w' (nv wl') → WL (zs.map oc) i zs.length wl' → Q .norm f' M') : Wp fns (.loop L4_6) f M (blockQ 4 Q) := by
  obtain ⟨v1, v2⟩ := hv.sl
  rw [iv_len] at v2
  have hosl : (zs.map oc).length = zs.length := List.length_map _
  refine Wp_inv (σ := Nat × List Nat) (fun s f M' => s.1 ≤ zs.length ∧ i + 1 ≤ s.1 ∧ X.ev f (.t q0) = v ∧ X.ev f (.t q7) = bx ∧ X.ev f (.t q9) = .b b9 ∧ X.ev f (.t q10) = .i .i64 (i : Int) ∧ X.ev f (.t q12) = .i .i64 (s.1 : Int) ∧ M.n ≤ M'.n ∧ M'.lo = M.lo ∧ (∀ j, j < lo → M'.get j = M.get j) ∧ OwnRow lo M' 1 (X.ev f (.t q11)) (nv s.2) ∧ WL (zs.map oc) i s.1 s.2 ∧ anull (zs.map oc) (i + 1) s.1) (fun s => zs.length - s.1) ?_ (i + 1, wl) ?_
  · rintro ⟨k, wl⟩ f M' ⟨hk, hik, h0, h7, h9, h10, h12, n1, l1, old, hr, hwl, han⟩
    simp only at hk hik h12 hr hwl han
    simp only [q0, q7, q9, q10, q11, q12] at h0 h7 h9 h10 h12 hr
    generalize h11 : X.ev f (.t (Ky.k1 Dg.d11)) = w at hr
    unfold L4_6
    simp (maxSteps := 4000000) (disch := first | omega | assumption | (simp only [bxS, stOk, Nat.reduceBEq, Nat.reduceEqDiff, Nat.reduceAdd]; done) | (simp only [push_lo, push_n, set_lo, set_n]; omega) | (simp only [push_n, set_n, beq_self_eq_true]; done) | (apply has_ofL; simp only [List.length_cons, List.length_nil]; omega) | (apply has_setN; apply has_ofL; simp only [List.length_cons, List.length_nil]; omega)) only [↓bxD, bxP, bxQ, bxQ2, Nat.reduceBEq, reduceCtorEq, Nat.reduceAdd, Nat.reduceSub, Nat.reduceMul, Nat.reduceLeDiff, Nat.reduceLT, R10, R13, R22, R23, R24, R25, R4, R40, R41, R42, R43, R44, R45, R46, R47, R48, R5, R61, R62, R63, R64, R65, R9, h0, h7, h9, h10, h11, h12, v1, v2, len_sl]
    refine condP_split (fun hlt => ?_) (fun hge => ?_)
    · have hkn : k < zs.length := by omega
      obtain ⟨z, hz⟩ : ∃ z, zs[k]? = some z := ⟨_, List.getElem?_eq_getElem hkn⟩
      have hzw := hw z (List.mem_of_getElem? hz)
      have hoz : (zs.map oc)[k]? = some (oc z) := by rw [List.getElem?_map, hz]; rfl
      have ho4 := oc_lt z
      have ha3 := and3 hzw.1 hzw.2
      obtain ⟨ro, sz, t, g1, g2, g3⟩ := hv.read (iv_at hz)
      have g4 : cget t (soff v + k * 1) = some (.i .i64 z) := g3 0 _ rfl
      have ixz : ixV 1 v (.i .i64 (k : Int)) = some (.p (sid v) (soff v + k * 1)) := ix_sl v1 (by omega)
      have ff : fillM [(0, 1, MV.i .i64 (k : Int))] [.i .i64 0] = some [.i .i64 (k : Int)] := rfl
      have hin : inW (zs.map oc) (zs.map oc).length i k := ⟨by rw [hosl]; exact hkn, .inr ⟨by omega, han⟩⟩
      have hwl2 := hwl.push hin
      have hlen := hwl.len
      simp (maxSteps := 4000000) (disch := first | omega | assumption | (simp only [bxS, stOk, Nat.reduceBEq, Nat.reduceEqDiff, Nat.reduceAdd]; done) | (simp only [push_lo, push_n, set_lo, set_n]; omega) | (simp only [push_n, set_n, beq_self_eq_true]; done) | (apply has_ofL; simp only [List.length_cons, List.length_nil]; omega) | (apply has_setN; apply has_ofL; simp only [List.length_cons, List.length_nil]; omega)) only [↓bxD, bxP, bxQ, bxQ2, Nat.reduceBEq, reduceCtorEq, Nat.reduceAdd, Nat.reduceSub, Nat.reduceMul, Nat.reduceLeDiff, Nat.reduceLT, R10, R13, R22, R23, R24, R25, R4, R40, R41, R42, R43, R44, R45, R46, R47, R48, R5, R61, R62, R63, R64, R65, R9, h0, h7, h9, h10, h11, h12, v1, v2, len_sl]
      show Wp fns K4_5 _ _ _
      unfold K4_5
      simp (maxSteps := 4000000) (disch := first | omega | assumption | (simp only [bxS, stOk, Nat.reduceBEq, Nat.reduceEqDiff, Nat.reduceAdd]; done) | (simp only [push_lo, push_n, set_lo, set_n]; omega) | (simp only [push_n, set_n, beq_self_eq_true]; done) | (apply has_ofL; simp only [List.length_cons, List.length_nil]; omega) | (apply has_setN; apply has_ofL; simp only [List.length_cons, List.length_nil]; omega)) only [↓bxD, bxP, bxQ, bxQ2, Nat.reduceBEq, reduceCtorEq, Nat.reduceAdd, Nat.reduceSub, Nat.reduceMul, Nat.reduceLeDiff, Nat.reduceLT, R10, R13, R22, R23, R24, R25, R4, R40, R41, R42, R43, R44, R45, R46, R47, R48, R5, R61, R62, R63, R64, R65, R9, h0, h7, h9, h10, h11, h12, v1, v2, len_sl, ff, bslW_some]
      generalize hM3 : M'.push _ = M3
      have t3 : RowAt M3 1 (.sl M'.n 0 1 0) [[.i .i64 (k : Int)]] := by rw [← hM3]; exact row_one rfl
      have x3 : Ext M' M3 := by rw [← hM3]; exact .push _ _
      have n4 : M3.n = M'.n + 1 := by rw [← hM3]; rfl
      have l4 := x3.lo
      clear hM3
      obtain ⟨w', M4, a1, a2, a3, a4, a5, a6, a7⟩ := app_rowX (bytes := 8) (hr.ext x3) t3 (by omega) (by omega) (fun e he => by
        simp only [List.mem_cons, List.not_mem_nil, or_false] at he
        subst he; rfl) (by rw [nv_len]; simp only [List.length_cons, List.length_nil]; omega) (by rw [nv_len]; simp only [List.length_cons, List.length_nil]; omega)
      have old4 : ∀ j, j < lo → M4.get j = M.get j := fun j hj => by rw [a6 j hj (by omega), x3.old j (by omega)]; exact old j hj
      have g14 : M4.get (sid v) = some (.cs ro sz t) := by rw [old4 _ hvl]; exact g1
      rw [← nv_app] at a2
      refine bindP_of a1 ?_
      simp (maxSteps := 4000000) (disch := first | omega | assumption | (simp only [bxS, stOk, Nat.reduceBEq, Nat.reduceEqDiff, Nat.reduceAdd]; done) | (simp only [push_lo, push_n, set_lo, set_n]; omega) | (simp only [push_n, set_n, beq_self_eq_true]; done) | (apply has_ofL; simp only [List.length_cons, List.length_nil]; omega) | (apply has_setN; apply has_ofL; simp only [List.length_cons, List.length_nil]; omega)) only [↓bxD, bxP, bxQ, bxQ2, Nat.reduceBEq, reduceCtorEq, Nat.reduceAdd, Nat.reduceSub, Nat.reduceMul, Nat.reduceLeDiff, Nat.reduceLT, R10, R13, R22, R23, R24, R25, R4, R40, R41, R42, R43, R44, R45, R46, R47, R48, R5, R61, R62, R63, R64, R65, R9, h0, h7, h9, h10, h12, v1, v2, len_sl, g14, g4, ixz, ha3]
      by_cases c0 : oc z = 0
      · have d0 : decide (((oc z : Nat) : Int) = 0) = true := decide_eq_true (by omega)
        have hz0 : nl (oc z) = false := by rw [c0]; rfl
        simp (maxSteps := 4000000) (disch := first | omega | assumption | (simp only [bxS, stOk, Nat.reduceBEq, Nat.reduceEqDiff, Nat.reduceAdd]; done) | (simp only [push_lo, push_n, set_lo, set_n]; omega) | (simp only [push_n, set_n, beq_self_eq_true]; done) | (apply has_ofL; simp only [List.length_cons, List.length_nil]; omega) | (apply has_setN; apply has_ofL; simp only [List.length_cons, List.length_nil]; omega)) only [↓bxD, bxP, bxQ, bxQ2, Nat.reduceBEq, reduceCtorEq, Nat.reduceAdd, Nat.reduceSub, Nat.reduceMul, Nat.reduceLeDiff, Nat.reduceLT, R10, R13, R22, R23, R24, R25, R4, R40, R41, R42, R43, R44, R45, R46, R47, R48, R5, R61, R62, R63, R64, R65, R9, h0, h7, h9, h10, h12, v1, v2, len_sl, g14, g4, ixz, ha3, d0]
        refine hQ _ M4 w' (wl ++ [k]) ?_ ?_ ?_ ?_ ?_ (by omega) (by omega) old4 a2 (hwl2.more (by omega) fun j h1 h2 h3 => ?_)
        · simp (maxSteps := 4000000) (disch := first | omega | assumption | (simp only [bxS, stOk, Nat.reduceBEq, Nat.reduceEqDiff, Nat.reduceAdd]; done) | (simp only [push_lo, push_n, set_lo, set_n]; omega) | (simp only [push_n, set_n, beq_self_eq_true]; done) | (apply has_ofL; simp only [List.length_cons, List.length_nil]; omega) | (apply has_setN; apply has_ofL; simp only [List.length_cons, List.length_nil]; omega)) only [↓bxD, bxP, bxQ, bxQ2, Nat.reduceBEq, reduceCtorEq, Nat.reduceAdd, Nat.reduceSub, Nat.reduceMul, Nat.reduceLeDiff, Nat.reduceLT, R10, R13, R22, R23, R24, R25, R4, R40, R41, R42, R43, R44, R45, R46, R47, R48, R5, R61, R62, R63, R64, R65, R9, h0, h7, h9, h10, h12, v1, v2, len_sl, g14, g4, ixz, ha3]
        · simp (maxSteps := 4000000) (disch := first | omega | assumption | (simp only [bxS, stOk, Nat.reduceBEq, Nat.reduceEqDiff, Nat.reduceAdd]; done) | (simp only [push_lo, push_n, set_lo, set_n]; omega) | (simp only [push_n, set_n, beq_self_eq_true]; done) | (apply has_ofL; simp only [List.length_cons, List.length_nil]; omega) | (apply has_setN; apply has_ofL; simp only [List.length_cons, List.length_nil]; omega)) only [↓bxD, bxP, bxQ, bxQ2, Nat.reduceBEq, reduceCtorEq, Nat.reduceAdd, Nat.reduceSub, Nat.reduceMul, Nat.reduceLeDiff, Nat.reduceLT, R10, R13, R22, R23, R24, R25, R4, R40, R41, R42, R43, R44, R45, R46, R47, R48, R5, R61, R62, R63, R64, R65, R9, h0, h7, h9, h10, h12, v1, v2, len_sl, g14, g4, ixz, ha3]
        · simp (maxSteps := 4000000) (disch := first | omega | assumption | (simp only [bxS, stOk, Nat.reduceBEq, Nat.reduceEqDiff, Nat.reduceAdd]; done) | (simp only [push_lo, push_n, set_lo, set_n]; omega) | (simp only [push_n, set_n, beq_self_eq_true]; done) | (apply has_ofL; simp only [List.length_cons, List.length_nil]; omega) | (apply has_setN; apply has_ofL; simp only [List.length_cons, List.length_nil]; omega)) only [↓bxD, bxP, bxQ, bxQ2, Nat.reduceBEq, reduceCtorEq, Nat.reduceAdd, Nat.reduceSub, Nat.reduceMul, Nat.reduceLeDiff, Nat.reduceLT, R10, R13, R22, R23, R24, R25, R4, R40, R41, R42, R43, R44, R45, R46, R47, R48, R5, R61, R62, R63, R64, R65, R9, h0, h7, h9, h10, h12, v1, v2, len_sl, g14, g4, ixz, ha3]
        · simp (maxSteps := 4000000) (disch := first | omega | assumption | (simp only [bxS, stOk, Nat.reduceBEq, Nat.reduceEqDiff, Nat.reduceAdd]; done) | (simp only [push_lo, push_n, set_lo, set_n]; omega) | (simp only [push_n, set_n, beq_self_eq_true]; done) | (apply has_ofL; simp only [List.length_cons, List.length_nil]; omega) | (apply has_setN; apply has_ofL; simp only [List.length_cons, List.length_nil]; omega)) only [↓bxD, bxP, bxQ, bxQ2, Nat.reduceBEq, reduceCtorEq, Nat.reduceAdd, Nat.reduceSub, Nat.reduceMul, Nat.reduceLeDiff, Nat.reduceLT, R10, R13, R22, R23, R24, R25, R4, R40, R41, R42, R43, R44, R45, R46, R47, R48, R5, R61, R62, R63, R64, R65, R9, h0, h7, h9, h10, h12, v1, v2, len_sl, g14, g4, ixz, ha3]
        · simp (maxSteps := 4000000) (disch := first | omega | assumption | (simp only [bxS, stOk, Nat.reduceBEq, Nat.reduceEqDiff, Nat.reduceAdd]; done) | (simp only [push_lo, push_n, set_lo, set_n]; omega) | (simp only [push_n, set_n, beq_self_eq_true]; done) | (apply has_ofL; simp only [List.length_cons, List.length_nil]; omega) | (apply has_setN; apply has_ofL; simp only [List.length_cons, List.length_nil]; omega)) only [↓bxD, bxP, bxQ, bxQ2, Nat.reduceBEq, reduceCtorEq, Nat.reduceAdd, Nat.reduceSub, Nat.reduceMul, Nat.reduceLeDiff, Nat.reduceLT, R10, R13, R22, R23, R24, R25, R4, R40, R41, R42, R43, R44, R45, R46, R47, R48, R5, R61, R62, R63, R64, R65, R9, h0, h7, h9, h10, h12, v1, v2, len_sl, g14, g4, ixz, ha3]
        · rcases h3.2 with h3 | h3
          · omega
          · have := h3.2 k (oc z) (by omega) (by omega) hoz
            rw [hz0] at this
            cases this
      have d0 : decide (((oc z : Nat) : Int) = 0) = false := decide_eq_false (by omega)
      by_cases c2 : oc z = 2
      · have d2 : decide (((oc z : Nat) : Int) = 2) = true := decide_eq_true (by omega)
        have hz0 : nl (oc z) = false := by rw [c2]; rfl
        simp (maxSteps := 4000000) (disch := first | omega | assumption | (simp only [bxS, stOk, Nat.reduceBEq, Nat.reduceEqDiff, Nat.reduceAdd]; done) | (simp only [push_lo, push_n, set_lo, set_n]; omega) | (simp only [push_n, set_n, beq_self_eq_true]; done) | (apply has_ofL; simp only [List.length_cons, List.length_nil]; omega) | (apply has_setN; apply has_ofL; simp only [List.length_cons, List.length_nil]; omega)) only [↓bxD, bxP, bxQ, bxQ2, Nat.reduceBEq, reduceCtorEq, Nat.reduceAdd, Nat.reduceSub, Nat.reduceMul, Nat.reduceLeDiff, Nat.reduceLT, R10, R13, R22, R23, R24, R25, R4, R40, R41, R42, R43, R44, R45, R46, R47, R48, R5, R61, R62, R63, R64, R65, R9, h0, h7, h9, h10, h12, v1, v2, len_sl, g14, g4, ixz, ha3, d0, d2]
        refine hQ _ M4 w' (wl ++ [k]) ?_ ?_ ?_ ?_ ?_ (by omega) (by omega) old4 a2 (hwl2.more (by omega) fun j h1 h2 h3 => ?_)
        · simp (maxSteps := 4000000) (disch := first | omega | assumption | (simp only [bxS, stOk, Nat.reduceBEq, Nat.reduceEqDiff, Nat.reduceAdd]; done) | (simp only [push_lo, push_n, set_lo, set_n]; omega) | (simp only [push_n, set_n, beq_self_eq_true]; done) | (apply has_ofL; simp only [List.length_cons, List.length_nil]; omega) | (apply has_setN; apply has_ofL; simp only [List.length_cons, List.length_nil]; omega)) only [↓bxD, bxP, bxQ, bxQ2, Nat.reduceBEq, reduceCtorEq, Nat.reduceAdd, Nat.reduceSub, Nat.reduceMul, Nat.reduceLeDiff, Nat.reduceLT, R10, R13, R22, R23, R24, R25, R4, R40, R41, R42, R43, R44, R45, R46, R47, R48, R5, R61, R62, R63, R64, R65, R9, h0, h7, h9, h10, h12, v1, v2, len_sl, g14, g4, ixz, ha3]
        · simp (maxSteps := 4000000) (disch := first | omega | assumption | (simp only [bxS, stOk, Nat.reduceBEq, Nat.reduceEqDiff, Nat.reduceAdd]; done) | (simp only [push_lo, push_n, set_lo, set_n]; omega) | (simp only [push_n, set_n, beq_self_eq_true]; done) | (apply has_ofL; simp only [List.length_cons, List.length_nil]; omega) | (apply has_setN; apply has_ofL; simp only [List.length_cons, List.length_nil]; omega)) only [↓bxD, bxP, bxQ, bxQ2, Nat.reduceBEq, reduceCtorEq, Nat.reduceAdd, Nat.reduceSub, Nat.reduceMul, Nat.reduceLeDiff, Nat.reduceLT, R10, R13, R22, R23, R24, R25, R4, R40, R41, R42, R43, R44, R45, R46, R47, R48, R5, R61, R62, R63, R64, R65, R9, h0, h7, h9, h10, h12, v1, v2, len_sl, g14, g4, ixz, ha3]
        · simp (maxSteps := 4000000) (disch := first | omega | assumption | (simp only [bxS, stOk, Nat.reduceBEq, Nat.reduceEqDiff, Nat.reduceAdd]; done) | (simp only [push_lo, push_n, set_lo, set_n]; omega) | (simp only [push_n, set_n, beq_self_eq_true]; done) | (apply has_ofL; simp only [List.length_cons, List.length_nil]; omega) | (apply has_setN; apply has_ofL; simp only [List.length_cons, List.length_nil]; omega)) only [↓bxD, bxP, bxQ, bxQ2, Nat.reduceBEq, reduceCtorEq, Nat.reduceAdd, Nat.reduceSub, Nat.reduceMul, Nat.reduceLeDiff, Nat.reduceLT, R10, R13, R22, R23, R24, R25, R4, R40, R41, R42, R43, R44, R45, R46, R47, R48, R5, R61, R62, R63, R64, R65, R9, h0, h7, h9, h10, h12, v1, v2, len_sl, g14, g4, ixz, ha3]
        · simp (maxSteps := 4000000) (disch := first | omega | assumption | (simp only [bxS, stOk, Nat.reduceBEq, Nat.reduceEqDiff, Nat.reduceAdd]; done) | (simp only [push_lo, push_n, set_lo, set_n]; omega) | (simp only [push_n, set_n, beq_self_eq_true]; done) | (apply has_ofL; simp only [List.length_cons, List.length_nil]; omega) | (apply has_setN; apply has_ofL; simp only [List.length_cons, List.length_nil]; omega)) only [↓bxD, bxP, bxQ, bxQ2, Nat.reduceBEq, reduceCtorEq, Nat.reduceAdd, Nat.reduceSub, Nat.reduceMul, Nat.reduceLeDiff, Nat.reduceLT, R10, R13, R22, R23, R24, R25, R4, R40, R41, R42, R43, R44, R45, R46, R47, R48, R5, R61, R62, R63, R64, R65, R9, h0, h7, h9, h10, h12, v1, v2, len_sl, g14, g4, ixz, ha3]
        · simp (maxSteps := 4000000) (disch := first | omega | assumption | (simp only [bxS, stOk, Nat.reduceBEq, Nat.reduceEqDiff, Nat.reduceAdd]; done) | (simp only [push_lo, push_n, set_lo, set_n]; omega) | (simp only [push_n, set_n, beq_self_eq_true]; done) | (apply has_ofL; simp only [List.length_cons, List.length_nil]; omega) | (apply has_setN; apply has_ofL; simp only [List.length_cons, List.length_nil]; omega)) only [↓bxD, bxP, bxQ, bxQ2, Nat.reduceBEq, reduceCtorEq, Nat.reduceAdd, Nat.reduceSub, Nat.reduceMul, Nat.reduceLeDiff, Nat.reduceLT, R10, R13, R22, R23, R24, R25, R4, R40, R41, R42, R43, R44, R45, R46, R47, R48, R5, R61, R62, R63, R64, R65, R9, h0, h7, h9, h10, h12, v1, v2, len_sl, g14, g4, ixz, ha3]
        · rcases h3.2 with h3 | h3
          · omega
          · have := h3.2 k (oc z) (by omega) (by omega) hoz
            rw [hz0] at this
            cases this
      have d2 : decide (((oc z : Nat) : Int) = 2) = false := decide_eq_false (by omega)
      have hz0 : nl (oc z) = true := by
        have : oc z = 1 ∨ oc z = 3 := by omega
        rcases this with e | e <;> rw [e] <;> rfl
      simp (maxSteps := 4000000) (disch := first | omega | assumption | (simp only [bxS, stOk, Nat.reduceBEq, Nat.reduceEqDiff, Nat.reduceAdd]; done) | (simp only [push_lo, push_n, set_lo, set_n]; omega) | (simp only [push_n, set_n, beq_self_eq_true]; done) | (apply has_ofL; simp only [List.length_cons, List.length_nil]; omega) | (apply has_setN; apply has_ofL; simp only [List.length_cons, List.length_nil]; omega)) only [↓bxD, bxP, bxQ, bxQ2, Nat.reduceBEq, reduceCtorEq, Nat.reduceAdd, Nat.reduceSub, Nat.reduceMul, Nat.reduceLeDiff, Nat.reduceLT, R10, R13, R22, R23, R24, R25, R4, R40, R41, R42, R43, R44, R45, R46, R47, R48, R5, R61, R62, R63, R64, R65, R9, h0, h7, h9, h10, h12, v1, v2, len_sl, g14, g4, ixz, ha3, d0, d2]
      show Wp fns K4_4 _ _ _
      unfold K4_4
      simp (maxSteps := 4000000) (disch := first | omega | assumption | (simp only [bxS, stOk, Nat.reduceBEq, Nat.reduceEqDiff, Nat.reduceAdd]; done) | (simp only [push_lo, push_n, set_lo, set_n]; omega) | (simp only [push_n, set_n, beq_self_eq_true]; done) | (apply has_ofL; simp only [List.length_cons, List.length_nil]; omega) | (apply has_setN; apply has_ofL; simp only [List.length_cons, List.length_nil]; omega)) only [↓bxD, bxP, bxQ, bxQ2, Nat.reduceBEq, reduceCtorEq, Nat.reduceAdd, Nat.reduceSub, Nat.reduceMul, Nat.reduceLeDiff, Nat.reduceLT, R10, R13, R22, R23, R24, R25, R4, R40, R41, R42, R43, R44, R45, R46, R47, R48, R5, R61, R62, R63, R64, R65, R9, h0, h7, h9, h10, h12, v1, v2, len_sl, g14, g4, ixz, ha3]
      refine ⟨(k + 1, wl ++ [k]), by simp only; omega, by simp only; omega, by simp only; omega, rfl, by omega, by omega, old4, a2, hwl2, ?_⟩
      exact (anull_succ hoz (by omega)).2 ⟨han, hz0⟩
    · have hkn : k = zs.length := by omega
      subst hkn
      simp (maxSteps := 4000000) (disch := first | omega | assumption | (simp only [bxS, stOk, Nat.reduceBEq, Nat.reduceEqDiff, Nat.reduceAdd]; done) | (simp only [push_lo, push_n, set_lo, set_n]; omega) | (simp only [push_n, set_n, beq_self_eq_true]; done) | (apply has_ofL; simp only [List.length_cons, List.length_nil]; omega) | (apply has_setN; apply has_ofL; simp only [List.length_cons, List.length_nil]; omega)) only [↓bxD, bxP, bxQ, bxQ2, Nat.reduceBEq, reduceCtorEq, Nat.reduceAdd, Nat.reduceSub, Nat.reduceMul, Nat.reduceLeDiff, Nat.reduceLT, R10, R13, R22, R23, R24, R25, R4, R40, R41, R42, R43, R44, R45, R46, R47, R48, R5, R61, R62, R63, R64, R65, R9, h0, h7, h9, h10, h11, h12, v1, v2, len_sl]
      refine hQ _ M' w wl ?_ ?_ ?_ ?_ ?_ n1 l1 old hr hwl
      · simp (maxSteps := 4000000) (disch := first | omega | assumption | (simp only [bxS, stOk, Nat.reduceBEq, Nat.reduceEqDiff, Nat.reduceAdd]; done) | (simp only [push_lo, push_n, set_lo, set_n]; omega) | (simp only [push_n, set_n, beq_self_eq_true]; done) | (apply has_ofL; simp only [List.length_cons, List.length_nil]; omega) | (apply has_setN; apply has_ofL; simp only [List.length_cons, List.length_nil]; omega)) only [↓bxD, bxP, bxQ, bxQ2, Nat.reduceBEq, reduceCtorEq, Nat.reduceAdd, Nat.reduceSub, Nat.reduceMul, Nat.reduceLeDiff, Nat.reduceLT, R10, R13, R22, R23, R24, R25, R4, R40, R41, R42, R43, R44, R45, R46, R47, R48, R5, R61, R62, R63, R64, R65, R9, h0, h7, h9, h10, h11, h12, v1, v2, len_sl]
      · simp (maxSteps := 4000000) (disch := first | omega | assumption | (simp only [bxS, stOk, Nat.reduceBEq, Nat.reduceEqDiff, Nat.reduceAdd]; done) | (simp only [push_lo, push_n, set_lo, set_n]; omega) | (simp only [push_n, set_n, beq_self_eq_true]; done) | (apply has_ofL; simp only [List.length_cons, List.length_nil]; omega) | (apply has_setN; apply has_ofL; simp only [List.length_cons, List.length_nil]; omega)) only [↓bxD, bxP, bxQ, bxQ2, Nat.reduceBEq, reduceCtorEq, Nat.reduceAdd, Nat.reduceSub, Nat.reduceMul, Nat.reduceLeDiff, Nat.reduceLT, R10, R13, R22, R23, R24, R25, R4, R40, R41, R42, R43, R44, R45, R46, R47, R48, R5, R61, R62, R63, R64, R65, R9, h0, h7, h9, h10, h11, h12, v1, v2, len_sl]
      · simp (maxSteps := 4000000) (disch := first | omega | assumption | (simp only [bxS, stOk, Nat.reduceBEq, Nat.reduceEqDiff, Nat.reduceAdd]; done) | (simp only [push_lo, push_n, set_lo, set_n]; omega) | (simp only [push_n, set_n, beq_self_eq_true]; done) | (apply has_ofL; simp only [List.length_cons, List.length_nil]; omega) | (apply has_setN; apply has_ofL; simp only [List.length_cons, List.length_nil]; omega)) only [↓bxD, bxP, bxQ, bxQ2, Nat.reduceBEq, reduceCtorEq, Nat.reduceAdd, Nat.reduceSub, Nat.reduceMul, Nat.reduceLeDiff, Nat.reduceLT, R10, R13, R22, R23, R24, R25, R4, R40, R41, R42, R43, R44, R45, R46, R47, R48, R5, R61, R62, R63, R64, R65, R9, h0, h7, h9, h10, h11, h12, v1, v2, len_sl]
      · simp (maxSteps := 4000000) (disch := first | omega | assumption | (simp only [bxS, stOk, Nat.reduceBEq, Nat.reduceEqDiff, Nat.reduceAdd]; done) | (simp only [push_lo, push_n, set_lo, set_n]; omega) | (simp only [push_n, set_n, beq_self_eq_true]; done) | (apply has_ofL; simp only [List.length_cons, List.length_nil]; omega) | (apply has_setN; apply has_ofL; simp only [List.length_cons, List.length_nil]; omega)) only [↓bxD, bxP, bxQ, bxQ2, Nat.reduceBEq, reduceCtorEq, Nat.reduceAdd, Nat.reduceSub, Nat.reduceMul, Nat.reduceLeDiff, Nat.reduceLT, R10, R13, R22, R23, R24, R25, R4, R40, R41, R42, R43, R44, R45, R46, R47, R48, R5, R61, R62, R63, R64, R65, R9, h0, h7, h9, h10, h11, h12, v1, v2, len_sl]
      · simp (maxSteps := 4000000) (disch := first | omega | assumption | (simp only [bxS, stOk, Nat.reduceBEq, Nat.reduceEqDiff, Nat.reduceAdd]; done) | (simp only [push_lo, push_n, set_lo, set_n]; omega) | (simp only [push_n, set_n, beq_self_eq_true]; done) | (apply has_ofL; simp only [List.length_cons, List.length_nil]; omega) | (apply has_setN; apply has_ofL; simp only [List.length_cons, List.length_nil]; omega)) only [↓bxD, bxP, bxQ, bxQ2, Nat.reduceBEq, reduceCtorEq, Nat.reduceAdd, Nat.reduceSub, Nat.reduceMul, Nat.reduceLeDiff, Nat.reduceLT, R10, R13, R22, R23, R24, R25, R4, R40, R41, R42, R43, R44, R45, R46, R47, R48, R5, R61, R62, R63, R64, R65, R9, h0, h7, h9, h10, h11, h12, v1, v2, len_sl]
  · exact ⟨by simp only; omega, Nat.le_refl _, h0, h7, h9, h10, h12, Nat.le_refl _, rfl, fun _ _ => rfl, by rw [h11]; exact hr, hwl, anull_nil (Nat.le_refl _)⟩
end Go.Proofs.Ytaagkdljkpbilaa.K
