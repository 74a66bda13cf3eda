/-
  What the claim leans on, part 4: Rows of numbers of one's own, copied; Repeat of one number. Conditions: none. The program's row: how short a row of symbols may be. Conditions: none. The program's Form: numbers, classes, symbols, and what the library's ContainsFunc tells. Conditions: none. The program's Form: the error of a rule, and what is forbidden. Conditions: none. The program's Form: what may be forbidden. Conditions: none. The program's Form: what is asked of the whole. Conditions: none. The program's Form gives what chapter 10 asks. Conditions: none. The program's shortest. Conditions: none. The program's shortest, Sh
-/
import Derived.Test.YtlmmmchkhaidjaaMB3
import Derived.KernelRfl
import Derived.Test.YtlmmmchkhaidjaaProg
set_option linter.unusedSimpArgs false
set_option linter.unusedVariables false
namespace Go.Proofs.Ytlmmmchkhaidjaa.K
open Go Ev
set_option maxRecDepth 100000
set_option maxHeartbeats 4000000

theorem ev_wrm (c : CallM) (f : Fr) (M : MH) (g : WG) (x y z : X) : Iop.ev c f M (.wrm g x y z) = wrF g M (x.ev f) (y.ev f) (z.ev f) := rfl
def IntsAt (M : MH) (id : Nat) (l : List Int) : Prop := ∃ t, M.get id = some (.cs false 1 t) ∧ At t 0 (l.map (MV.i .i64))
theorem flat_ints : ∀ l : List Int, (ints l).flatten = l.map (MV.i .i64)
  | [] => rfl
  | b :: l => by
    show (MV.i .i64 b) :: (ints l).flatten = _
    rw [flat_ints l]; rfl
theorem IntsAt.same {M M' : MH} {id : Nat} {l : List Int} (h : IntsAt M id l) (e : M'.get id = M.get id) : IntsAt M' id l := let ⟨t, h1, h2⟩ := h; ⟨t, e.trans h1, h2⟩
theorem IntsAt.read {M : MH} {id : Nat} {l : List Int} (h : IntsAt M id l) : ∃ t, M.get id = some (.cs false 1 t) ∧ (∀ i b, l[i]? = some b → cget t (i * 1) = some (.i .i64 b)) ∧ (∀ i, i < l.length → hasB t 1 (i * 1) = true) ∧ ∀ i x, i < l.length → At (setN [.i .i64 x] (i * 1) t) 0 ((l.set i x).map (MV.i .i64)) := by
  obtain ⟨t, h1, h2⟩ := h
  refine ⟨t, h1, fun i b hb => ?_, fun i hi => has_at h2 (Nat.zero_le _) (by rw [List.length_map]; omega), fun i x hi => ?_⟩
  · rw [Nat.mul_one]
    have := h2 i _ (by rw [List.getElem?_map, hb]; rfl)
    rwa [Nat.zero_add] at this
  · rw [List.map_set]
    exact h2.set' i _ (by rw [List.length_map]; exact hi) (by omega)
theorem IntsAt.new {M : MH} (n : Nat) : IntsAt (M.push (.cs false 1 (ofL (zrow [.i .i64 0] n) 0))) M.n (List.replicate n 0) := ⟨_, push_new _, by rw [List.map_replicate, ← zrow_rep]; exact at_ofL _⟩
theorem IntsAt.row {M : MH} {id : Nat} {l : List Int} (h : IntsAt M id l) (hid : id < M.n) : IntRow M (.sl id 0 l.length 0) l := by
  obtain ⟨t, h1, h2⟩ := h
  refine ⟨fun e he => ?_, .inr ⟨id, 0, 0, false, 1, t, by rw [ints_len], h1, hid, ?_⟩⟩
  · obtain ⟨b, _, rfl⟩ := List.mem_map.1 he; rfl
  · rw [flat_ints]; exact h2
theorem one_ints (l : List Int) : allOne (l.map (MV.i .i64)) = true := by
  unfold allOne
  rw [List.all_eq_true]
  intro x hx
  obtain ⟨z, _, rfl⟩ := List.mem_map.1 hx
  rfl
theorem src_part {M : MH} {id off n d : Nat} {l : List Int} {ro : Bool} {s : Nat} {c : T MV} (hg : M.get id = some (.cs ro s c)) (hl : l.length = n) (h : At c off (l.map (MV.i .i64))) : srcM M 1 (.sl id off n d) = some (n, l.map (MV.i .i64)) := by
  subst hl
  cases l with
  | nil => rfl
  | cons x l =>
    unfold srcM
    simp only [List.length_cons, hg]
    have hn : Ev.getN c ((x :: l).map (MV.i .i64)).length off = _ := h.getN
    rw [List.length_map, List.length_cons] at hn
    rw [Nat.mul_one, hn]
theorem cpy_rep {M : MH} {id off n d m q : Nat} {y : MV} {l : List MV} {t : T MV} (hy : srcM M 1 y = some (m, l)) (hq : min m n = q + 1) (hl : q + 1 ≤ l.length) (ho : allOne (l.take (q + 1)) = true) (hg : M.get id = some (.cs false 1 t)) (hlo : M.lo ≤ id) (hb : hasB t (q + 1) off = true) : wrF .cpy M (.sl id off n d) y y = some (.i .i64 ((q : Int) + 1), M.set id (some (.cs false 1 (setN (l.take (q + 1)) off t)))) := by
  unfold wrF
  simp only [hy, hq, ho, ble_t' hl, hg, ble_t' hlo, hb, Bool.and_self, cond_true]
theorem at_rep {t : T MV} {k q n : Nat} {v z : Int} (hk : k + q ≤ n) (h : At t 0 ((List.replicate k v ++ List.replicate (n - k) z).map (MV.i .i64))) : At (setN (List.replicate q (MV.i .i64 v)) k t) 0 ((List.replicate (k + q) v ++ List.replicate (n - (k + q)) z).map (MV.i .i64)) := fun j x hj => by
  rw [cget_setN, Nat.zero_add]
  have h' := h j
  rw [Nat.zero_add] at h'
  simp only [List.map_append, List.map_replicate] at hj h'
  by_cases h1 : k ≤ j ∧ j < k + q
  · rw [if_pos (by rw [List.length_replicate]; exact h1), List.getElem?_replicate, if_pos (by omega)]
    rw [List.getElem?_append_left (by rw [List.length_replicate]; omega), List.getElem?_replicate, if_pos (by omega)] at hj
    exact hj
  · rw [if_neg (by rw [List.length_replicate]; exact h1)]
    refine h' x ?_
    by_cases h2 : j < k
    · rw [List.getElem?_append_left (by rw [List.length_replicate]; omega), List.getElem?_replicate, if_pos (by omega)] at hj ⊢
      exact hj
    · rw [List.getElem?_append_right (by rw [List.length_replicate]; omega), List.getElem?_replicate, List.length_replicate] at hj ⊢
      split at hj
      · rw [if_pos (by omega)]; exact hj
      · cases hj
theorem cv_i (k k' : IntKind) (z : Int) : cvIV k (.i k' z) = some (.i k (wrapF k z)) := rfl
theorem mul_run : ∀ (n : Nat), n ≤ 40 → ∀ M : MH, callF fns 20 29 [.i .u64 1, .i .u64 (n : Int)] M = some (.tp [.i .u64 0, .i .u64 (n : Int)], M)
  | 0, _, M => by kernel_rfl
  | 1, _, M => by kernel_rfl
  | 2, _, M => by kernel_rfl
  | 3, _, M => by kernel_rfl
  | 4, _, M => by kernel_rfl
  | 5, _, M => by kernel_rfl
  | 6, _, M => by kernel_rfl
  | 7, _, M => by kernel_rfl
  | 8, _, M => by kernel_rfl
  | 9, _, M => by kernel_rfl
  | 10, _, M => by kernel_rfl
  | 11, _, M => by kernel_rfl
  | 12, _, M => by kernel_rfl
  | 13, _, M => by kernel_rfl
  | 14, _, M => by kernel_rfl
  | 15, _, M => by kernel_rfl
  | 16, _, M => by kernel_rfl
  | 17, _, M => by kernel_rfl
  | 18, _, M => by kernel_rfl
  | 19, _, M => by kernel_rfl
  | 20, _, M => by kernel_rfl
  | 21, _, M => by kernel_rfl
  | 22, _, M => by kernel_rfl
  | 23, _, M => by kernel_rfl
  | 24, _, M => by kernel_rfl
  | 25, _, M => by kernel_rfl
  | 26, _, M => by kernel_rfl
  | 27, _, M => by kernel_rfl
  | 28, _, M => by kernel_rfl
  | 29, _, M => by kernel_rfl
  | 30, _, M => by kernel_rfl
  | 31, _, M => by kernel_rfl
  | 32, _, M => by kernel_rfl
  | 33, _, M => by kernel_rfl
  | 34, _, M => by kernel_rfl
  | 35, _, M => by kernel_rfl
  | 36, _, M => by kernel_rfl
  | 37, _, M => by kernel_rfl
  | 38, _, M => by kernel_rfl
  | 39, _, M => by kernel_rfl
  | 40, _, M => by kernel_rfl
  | n + 41, h, _ => absurd h (by omega)
theorem mul_any {M : MH} {n : Nat} (h : n ≤ 40) : Cp fns 29 [.i .u64 1, .i .u64 (n : Int)] M fun m M' => m = .tp [.i .u64 0, .i .u64 (n : Int)] ∧ M' = M := ⟨_, _, callA_of (mul_run n h M), rfl, rfl⟩
theorem wrap_u {z : Int} (h : 0 ≤ z) (h' : z < 9223372036854775808) : wrapF .u64 z = z := by
  rw [wrapF_eq]
  have e64 : (2 : Int) ^ 64 = 18446744073709551616 := by decide
  simp [IntKind.wrap, IntKind.bits, IntKind.signed, e64]
  omega
theorem cut_lo {id n k : Nat} (h : k ≤ n) : cutM 1 (.sl id 0 n 0) (some (.i .i64 (k : Int))) none = some (.sl id k (n - k) k) := by
  show (bif Nat.ble k n && Nat.ble n n then some (MV.sl id (0 + k * 1) (n - k) (0 + k)) else none) = _
  rw [ble_t' h, ble_t' (Nat.le_refl n), Nat.zero_add, Nat.zero_add, Nat.mul_one]
  rfl
theorem cut_hi {id n k : Nat} (h : k ≤ n) : cutM 1 (.sl id 0 n 0) none (some (.i .i64 (k : Int))) = some (.sl id 0 k 0) := by
  show (bif Nat.ble 0 k && Nat.ble k n then some (MV.sl id (0 + 0 * 1) (k - 0) (0 + 0)) else none) = _
  rw [ble_t' h, ble_t' (Nat.zero_le k)]
  rfl
theorem repeat_any {M : MH} {v : MV} {z : Int} {n : Nat} (h : IntRow M v [z]) (hn : 1 ≤ n ∧ n ≤ 40) (hlo : M.lo ≤ M.n) : Cp fns 24 [v, .i .i64 (n : Int)] M fun m M' => Ext M M' ∧ m = .sl M.n 0 n 0 ∧ IntsAt M' M.n (List.replicate n z) ∧ M'.n = M.n + 1 := by
  obtain ⟨hs1, hs2⟩ := h.sl
  refine Cp_call (fn := F24) (by kernel_rfl) (Nat.le_of_ble_eq_true rfl) ?_
  show Wp fns B24 (T.set q1 (some (.i .i64 (n : Int))) (T.set q0 (some v) T.lf)) M _
  unfold B24
  have d0 : decide ((n : Int) < 0) = false := decide_eq_false (by omega)
  have w1 : wrapF .u64 ((n : Nat) : Int) = (n : Int) := wrap_u (by omega) (by omega)
  have w2 : wrapF .u64 ((1 : Nat) : Int) = (1 : Int) := wrap_u (by omega) (by omega)
  have hs3 : slen v = 1 := hs2
  simp (maxSteps := 4000000) (disch := first | omega | assumption | (simp only [bxS, bxV, stOk, Nat.reduceBEq, Nat.reduceEqDiff, Nat.reduceAdd]; done) | (simp only [bxU]; omega) | ((try apply has_setN); apply has_ofL; simp only [bxL]; omega)) only [↓bxD, bxP, bxQ, Nat.reduceBEq, reduceCtorEq, Nat.reduceAdd, Nat.reduceSub, Nat.reduceMul, Nat.reduceLeDiff, Nat.reduceLT, bxR, hs1, hs3, d0, w1, w2, cv_i]
  show Wp fns K24_4 _ _ _
  unfold K24_4
  simp (maxSteps := 4000000) (disch := first | omega | assumption | (simp only [bxS, bxV, stOk, Nat.reduceBEq, Nat.reduceEqDiff, Nat.reduceAdd]; done) | (simp only [bxU]; omega) | ((try apply has_setN); apply has_ofL; simp only [bxL]; omega)) only [↓bxD, bxP, bxQ, Nat.reduceBEq, reduceCtorEq, Nat.reduceAdd, Nat.reduceSub, Nat.reduceMul, Nat.reduceLeDiff, Nat.reduceLT, bxR, hs1, hs3, d0, w1, w2, cv_i]
  refine bindP_call (mul_any hn.2) ?_
  rintro m M1 ⟨rfl, rfl⟩
  have z0 : decide ((0 : Int) < 0) = false := rfl
  have z1 : decide ((9223372036854775807 : Int) < (n : Int)) = false := decide_eq_false (by omega)
  simp (maxSteps := 4000000) (disch := first | omega | assumption | (simp only [bxS, bxV, stOk, Nat.reduceBEq, Nat.reduceEqDiff, Nat.reduceAdd]; done) | (simp only [bxU]; omega) | ((try apply has_setN); apply has_ofL; simp only [bxL]; omega)) only [↓bxD, bxP, bxQ, Nat.reduceBEq, reduceCtorEq, Nat.reduceAdd, Nat.reduceSub, Nat.reduceMul, Nat.reduceLeDiff, Nat.reduceLT, bxR, hs1, hs3, d0, w1, w2, cv_i, ext_tp, z0, z1]
  show Wp fns K24_3 _ _ _
  unfold K24_3
  simp (maxSteps := 4000000) (disch := first | omega | assumption | (simp only [bxS, bxV, stOk, Nat.reduceBEq, Nat.reduceEqDiff, Nat.reduceAdd]; done) | (simp only [bxU]; omega) | ((try apply has_setN); apply has_ofL; simp only [bxL]; omega)) only [↓bxD, bxP, bxQ, Nat.reduceBEq, reduceCtorEq, Nat.reduceAdd, Nat.reduceSub, Nat.reduceMul, Nat.reduceLeDiff, Nat.reduceLT, bxR, hs1, hs3, d0, w1, w2, cv_i]
  have w3 : wrapF .i64 (n : Int) = (n : Int) := wrap_in (by omega) (by omega)
  simp (maxSteps := 4000000) (disch := first | omega | assumption | (simp only [bxS, bxV, stOk, Nat.reduceBEq, Nat.reduceEqDiff, Nat.reduceAdd]; done) | (simp only [bxU]; omega) | ((try apply has_setN); apply has_ofL; simp only [bxL]; omega)) only [↓bxD, bxP, bxQ, Nat.reduceBEq, reduceCtorEq, Nat.reduceAdd, Nat.reduceSub, Nat.reduceMul, Nat.reduceLeDiff, Nat.reduceLT, bxR, hs1, hs3, d0, w1, w2, cv_i, w3, ev_mks, mks_ok]
  have hn0 := IntsAt.new (M := M1) n
  have hx0 : Ext M1 (M1.push (.cs false 1 (ofL (zrow [.i .i64 0] n) 0))) := .push M1 _
  have hn1 : (M1.push (.cs false 1 (ofL (zrow [.i .i64 0] n) 0))).n = M1.n + 1 := rfl
  generalize M1.push (.cs false 1 (ofL (zrow [.i .i64 0] n) 0)) = M2 at hn0 hx0 hn1
  obtain ⟨t, ht1, ht2⟩ := hn0
  have hl2 := hx0.lo
  have hsrc : srcM M2 1 v = some (1, [.i .i64 z]) := src_row (h.ext hx0)
  have hat := at_rep (k := 0) (q := 1) (n := n) (v := z) (by omega) (by simpa using ht2)
  have hcp := cpy_rep (M := M2) (id := M1.n) (off := 0) (n := n) (d := 0) (q := 0) hsrc (by omega) (Nat.le_refl 1) rfl ht1 (by omega) (has_at ht2 (Nat.le_refl 0) (by simp; omega))
  simp (maxSteps := 4000000) (disch := first | omega | assumption | (simp only [bxS, bxV, stOk, Nat.reduceBEq, Nat.reduceEqDiff, Nat.reduceAdd]; done) | (simp only [bxU]; omega) | ((try apply has_setN); apply has_ofL; simp only [bxL]; omega)) only [↓bxD, bxP, bxQ, Nat.reduceBEq, reduceCtorEq, Nat.reduceAdd, Nat.reduceSub, Nat.reduceMul, Nat.reduceLeDiff, Nat.reduceLT, bxR, hs1, hs3, d0, w1, w2, cv_i, ev_wrm, hcp]
  generalize hM3 : M2.set M1.n _ = M3
  have hx3 : Ext M1 M3 := by rw [← hM3]; exact hx0.set _ (Nat.le_refl _)
  have hn3 : M3.n = M1.n + 1 := by rw [← hM3]; exact hn1
  have hi3 : IntsAt M3 M1.n (List.replicate 1 z ++ List.replicate (n - 1) 0) := ⟨_, by rw [← hM3, set_same]; rfl, hat⟩
  clear hM3
  refine Wp_inv (σ := Nat) (fun k f M' => 1 ≤ k ∧ k ≤ n ∧ Ext M1 M' ∧ M'.n = M1.n + 1 ∧ X.ev f (.t q7) = .sl M1.n 0 n 0 ∧ X.ev f (.t q8) = .i .i64 (k : Int) ∧ IntsAt M' M1.n (List.replicate k z ++ List.replicate (n - k) 0)) (fun k => n - k) ?_ 1 ?_
  · rintro k f M' ⟨hk1, hk, hx, hnn, h7, h8, hI⟩
    have hll := hx.lo
    simp only [q7, q8] at h7 h8
    unfold L24_1
    by_cases hkn : k < n
    · have d1 : decide ((k : Int) < (n : Int)) = true := decide_eq_true (by omega)
      obtain ⟨t', ht1', ht2'⟩ := hI
      obtain ⟨q, hq⟩ : ∃ q, min k (n - k) = q + 1 := ⟨min k (n - k) - 1, by omega⟩
      have hat0 : At t' 0 ((List.replicate k z).map (MV.i .i64)) := by rw [List.map_append] at ht2'; exact ht2'.left
      have hsrc := src_part (n := k) (d := 0) ht1' List.length_replicate hat0
      have htk : ((List.replicate k z).map (MV.i .i64)).take (q + 1) = List.replicate (q + 1) (MV.i .i64 z) := by rw [List.map_replicate, List.take_replicate, Nat.min_eq_left (by omega)]
      have hcp := cpy_rep (M := M') (id := M1.n) (off := k) (n := n - k) (d := k) (q := q) hsrc hq (by rw [List.length_map, List.length_replicate]; omega) (by rw [htk, ← List.map_replicate]; exact one_ints _) ht1' (by omega) (has_at ht2' (Nat.zero_le k) (by simp; omega))
      rw [htk] at hcp
      have hat := at_rep (k := k) (q := q + 1) (n := n) (v := z) (by omega) ht2'
      have c1 := cut_lo (id := M1.n) (n := n) (k := k) (by omega)
      have c2 := cut_hi (id := M1.n) (n := n) (k := k) (by omega)
      simp (maxSteps := 4000000) (disch := first | omega | assumption | (simp only [bxS, bxV, stOk, Nat.reduceBEq, Nat.reduceEqDiff, Nat.reduceAdd]; done) | (simp only [bxU]; omega) | ((try apply has_setN); apply has_ofL; simp only [bxL]; omega)) only [↓bxD, bxP, bxQ, Nat.reduceBEq, reduceCtorEq, Nat.reduceAdd, Nat.reduceSub, Nat.reduceMul, Nat.reduceLeDiff, Nat.reduceLT, bxR, h7, h8, d1, len_slc, ev_cut, c1, c2, ev_wrm, hcp]
      show Wp fns K24_0 _ _ _
      unfold K24_0
      simp (maxSteps := 4000000) (disch := first | omega | assumption | (simp only [bxS, bxV, stOk, Nat.reduceBEq, Nat.reduceEqDiff, Nat.reduceAdd]; done) | (simp only [bxU]; omega) | ((try apply has_setN); apply has_ofL; simp only [bxL]; omega)) only [↓bxD, bxP, bxQ, Nat.reduceBEq, reduceCtorEq, Nat.reduceAdd, Nat.reduceSub, Nat.reduceMul, Nat.reduceLeDiff, Nat.reduceLT, bxR, h7, h8, d1, len_slc, ev_cut, c1, c2, ev_wrm, hcp]
      refine Wp_dreg_of (by omega) ?_
      simp (maxSteps := 4000000) (disch := first | omega | assumption | (simp only [bxS, bxV, stOk, Nat.reduceBEq, Nat.reduceEqDiff, Nat.reduceAdd]; done) | (simp only [bxU]; omega) | ((try apply has_setN); apply has_ofL; simp only [bxL]; omega)) only [↓bxD, bxP, bxQ, Nat.reduceBEq, reduceCtorEq, Nat.reduceAdd, Nat.reduceSub, Nat.reduceMul, Nat.reduceLeDiff, Nat.reduceLT, bxR, h7, h8, d1, len_slc, ev_cut, c1, c2, ev_wrm, hcp, Option.map_some, Option.map_none]
      exact ⟨k + (q + 1), by omega, by omega, by omega, hx.set _ (Nat.le_refl _), hnn, by congr 1, ⟨_, set_same _ _, hat⟩⟩
    · have d1 : decide ((k : Int) < (n : Int)) = false := decide_eq_false (by omega)
      have hkn : k = n := by omega
      subst hkn
      simp (maxSteps := 4000000) (disch := first | omega | assumption | (simp only [bxS, bxV, stOk, Nat.reduceBEq, Nat.reduceEqDiff, Nat.reduceAdd]; done) | (simp only [bxU]; omega) | ((try apply has_setN); apply has_ofL; simp only [bxL]; omega)) only [↓bxD, bxP, bxQ, Nat.reduceBEq, reduceCtorEq, Nat.reduceAdd, Nat.reduceSub, Nat.reduceMul, Nat.reduceLeDiff, Nat.reduceLT, bxR, h7, h8, d1, len_slc]
      show Wp fns K24_2 _ _ _
      unfold K24_2
      simp (maxSteps := 4000000) (disch := first | omega | assumption | (simp only [bxS, bxV, stOk, Nat.reduceBEq, Nat.reduceEqDiff, Nat.reduceAdd]; done) | (simp only [bxU]; omega) | ((try apply has_setN); apply has_ofL; simp only [bxL]; omega)) only [↓bxD, bxP, bxQ, Nat.reduceBEq, reduceCtorEq, Nat.reduceAdd, Nat.reduceSub, Nat.reduceMul, Nat.reduceLeDiff, Nat.reduceLT, bxR, h7, h8, d1, len_slc]
      rw [Nat.sub_self, List.replicate_zero, List.append_nil] at hI
      exact ⟨hx, hI, hnn⟩
  · exact ⟨Nat.le_refl _, hn.1, hx3, hn3, by simp only [bxP, bxQ, reduceCtorEq, hs1, hs3, d0, w1, w2, cv_i], by simp only [bxP, bxQ, reduceCtorEq, hs1, hs3, d0, w1, w2, cv_i] <;> rfl, hi3⟩
theorem shOk_take {l ar : List Int} {k : Nat} {s : Int} (h : ar[k]? = some s) : shOk l (ar.take (k + 1)) = (shOk l (ar.take k) && decide (0 ≤ shV l s)) := by
  unfold shOk
  rw [List.take_add_one, h, List.all_append]
  simp
theorem shSum_take {l ar : List Int} {k : Nat} {s : Int} (h : ar[k]? = some s) : shSum l (ar.take (k + 1)) = shSum l (ar.take k) + shV l s := by
  unfold shSum
  rw [List.take_add_one, h, List.map_append, List.sum_append]
  simp
theorem shOk_le {l ar : List Int} {k : Nat} (h : shOk l (ar.take k) = false) : shOk l ar = false := by
  have : shOk l ar = (shOk l (ar.take k) && shOk l (ar.drop k)) := by unfold shOk; rw [← List.all_append, List.take_append_drop]
  rw [this, h, Bool.false_and]
theorem mn_i (k k' : IntKind) (a b : Int) : mnV (.i k a) (.i k' b) = some (.i k (if b < a then b else a)) := by
  show some (MV.i k (bif decide (b < a) then b else a)) = _
  by_cases h : b < a
  · rw [decide_eq_true h, if_pos h]; rfl
  · rw [decide_eq_false h, if_neg h]; rfl
theorem row_any {M : MH} {v ur : MV} {l ar : List Int} (h : IntRow M v l) (hu : IntRow M ur ar) (hl : ∀ z ∈ l, -1 ≤ z ∧ z ≤ mostZ) (hs : ∀ s ∈ ar, 0 ≤ s → s.toNat < l.length) (ha : ar.length ≤ 8) : Cp fns 25 [v, ur] M fun m M' => m = .i .i64 (shRow l ar) ∧ M' = M := by
  obtain ⟨hs1, hs2⟩ := h.sl
  obtain ⟨hu1, hu2⟩ := hu.sl
  refine Cp_call (fn := F25) (by kernel_rfl) (Nat.le_of_ble_eq_true rfl) ?_
  show Wp fns B25 (T.set q1 (some ur) (T.set q0 (some v) T.lf)) M _
  unfold B25
  simp (maxSteps := 4000000) (disch := first | omega | assumption | (simp only [bxS, bxV, stOk, Nat.reduceBEq, Nat.reduceEqDiff, Nat.reduceAdd]; done) | (simp only [bxU]; omega) | ((try apply has_setN); apply has_ofL; simp only [bxL]; omega)) only [↓bxD, bxP, bxQ, Nat.reduceBEq, reduceCtorEq, Nat.reduceAdd, Nat.reduceSub, Nat.reduceMul, Nat.reduceLeDiff, Nat.reduceLT, bxR, hu1, hu2]
  refine Wp_inv (σ := Nat) (fun k f M' => M' = M ∧ k ≤ ar.length ∧ X.ev f (.t q0) = v ∧ X.ev f (.t q9) = ur ∧ X.ev f (.t q10) = .i .i64 (ar.length : Int) ∧ X.ev f (.t q11) = .i .i64 (k : Int) ∧ shOk l (ar.take k) = true ∧ X.ev f (.t q5) = .i .i64 (min (shSum l (ar.take k)) mostZ)) (fun k => ar.length - k) ?_ 0 ?_
  · rintro k f M' ⟨rfl, hk, h0, h9, h10, h11, ho, h5⟩
    simp only [q0, q5, q9, q10, q11] at h0 h5 h9 h10 h11
    have hp := shSum_pos ho
    unfold L25_4
    by_cases hk1 : k < ar.length
    · have d1 : decide ((k : Int) < (ar.length : Int)) = true := decide_eq_true (by omega)
      obtain ⟨s, hsk⟩ : ∃ s, ar[k]? = some s := ⟨_, List.getElem?_eq_getElem hk1⟩
      obtain ⟨ro, sz, t, hg, hid, hC⟩ := hu.read hsk
      have hvb := shV_lo hl s
      have ho2 := shOk_take (l := l) hsk
      have hs2' := shSum_take (l := l) hsk
      rw [ho, Bool.true_and] at ho2
      unfold mostZ at hvb
      by_cases s0 : 0 ≤ s
      · have ds : decide (0 ≤ s) = true := decide_eq_true s0
        obtain ⟨sn, rfl⟩ : ∃ n : Nat, s = n := ⟨s.toNat, by omega⟩
        have hsl := hs sn (List.mem_of_getElem? hsk) s0
        simp only [Int.toNat_natCast] at hsl
        obtain ⟨z, hz⟩ : ∃ z, l[sn]? = some z := ⟨_, List.getElem?_eq_getElem hsl⟩
        obtain ⟨ro2, sz2, t2, hg2, hid2, hC2⟩ := h.read hz
        have hzv : shV l (sn : Int) = z := by unfold shV; rw [if_neg (by omega), List.getD_eq_getElem?_getD, Int.toNat_natCast, hz]; rfl
        rw [hzv] at hvb ho2 hs2'
        by_cases z1 : z = -1
        · subst z1
          have dm : decide ((-1 : Int) = Int.negSucc 0) = true := rfl
          have hf : shRow l ar = -1 := by
            unfold shRow
            rw [shOk_le (k := k + 1) (by rw [ho2]; rfl)]
            rfl
          simp (maxSteps := 4000000) (disch := first | omega | assumption | (simp only [bxS, bxV, stOk, Nat.reduceBEq, Nat.reduceEqDiff, Nat.reduceAdd]; done) | (simp only [bxU]; omega) | ((try apply has_setN); apply has_ofL; simp only [bxL]; omega)) only [↓bxD, bxP, bxQ, Nat.reduceBEq, reduceCtorEq, Nat.reduceAdd, Nat.reduceSub, Nat.reduceMul, Nat.reduceLeDiff, Nat.reduceLT, bxR, h0, h5, h9, h10, h11, hu1, hu2, hs1, hs2, hg, hC, d1, ds, hg2, hC2, dm]
          show Wp fns K25_3 _ _ _
          unfold K25_3
          simp (maxSteps := 4000000) (disch := first | omega | assumption | (simp only [bxS, bxV, stOk, Nat.reduceBEq, Nat.reduceEqDiff, Nat.reduceAdd]; done) | (simp only [bxU]; omega) | ((try apply has_setN); apply has_ofL; simp only [bxL]; omega)) only [↓bxD, bxP, bxQ, Nat.reduceBEq, reduceCtorEq, Nat.reduceAdd, Nat.reduceSub, Nat.reduceMul, Nat.reduceLeDiff, Nat.reduceLT, bxR, h0, h5, h9, h10, h11, hu1, hu2, hs1, hs2, hg, hC, d1, ds, hg2, hC2, dm]
          show Wp fns K25_1 _ _ _
          unfold K25_1
          simp (maxSteps := 4000000) (disch := first | omega | assumption | (simp only [bxS, bxV, stOk, Nat.reduceBEq, Nat.reduceEqDiff, Nat.reduceAdd]; done) | (simp only [bxU]; omega) | ((try apply has_setN); apply has_ofL; simp only [bxL]; omega)) only [↓bxD, bxP, bxQ, Nat.reduceBEq, reduceCtorEq, Nat.reduceAdd, Nat.reduceSub, Nat.reduceMul, Nat.reduceLeDiff, Nat.reduceLT, bxR, h0, h5, h9, h10, h11, hu1, hu2, hs1, hs2, hg, hC, d1, ds, hg2, hC2, dm]
          exact congrArg (MV.i .i64) hf.symm
        · have dz : decide (z = Int.negSucc 0) = false := decide_eq_false z1
          have dz2 : decide (0 ≤ z) = true := decide_eq_true (by omega)
          rw [dz2] at ho2
          have wa : wrapF .i64 (min (shSum l (ar.take k)) mostZ + z) = min (shSum l (ar.take k)) mostZ + z := wrap_in (by unfold mostZ; omega) (by unfold mostZ; omega)
          simp (maxSteps := 4000000) (disch := first | omega | assumption | (simp only [bxS, bxV, stOk, Nat.reduceBEq, Nat.reduceEqDiff, Nat.reduceAdd]; done) | (simp only [bxU]; omega) | ((try apply has_setN); apply has_ofL; simp only [bxL]; omega)) only [↓bxD, bxP, bxQ, Nat.reduceBEq, reduceCtorEq, Nat.reduceAdd, Nat.reduceSub, Nat.reduceMul, Nat.reduceLeDiff, Nat.reduceLT, bxR, h0, h5, h9, h10, h11, hu1, hu2, hs1, hs2, hg, hC, d1, ds, hg2, hC2, dz, wa, mn_i]
          show Wp fns K25_3 _ _ _
          unfold K25_3
          simp (maxSteps := 4000000) (disch := first | omega | assumption | (simp only [bxS, bxV, stOk, Nat.reduceBEq, Nat.reduceEqDiff, Nat.reduceAdd]; done) | (simp only [bxU]; omega) | ((try apply has_setN); apply has_ofL; simp only [bxL]; omega)) only [↓bxD, bxP, bxQ, Nat.reduceBEq, reduceCtorEq, Nat.reduceAdd, Nat.reduceSub, Nat.reduceMul, Nat.reduceLeDiff, Nat.reduceLT, bxR, h0, h5, h9, h10, h11, hu1, hu2, hs1, hs2, hg, hC, d1, ds, hg2, hC2, dz, wa, mn_i]
          show Wp fns K25_1 _ _ _
          unfold K25_1
          simp (maxSteps := 4000000) (disch := first | omega | assumption | (simp only [bxS, bxV, stOk, Nat.reduceBEq, Nat.reduceEqDiff, Nat.reduceAdd]; done) | (simp only [bxU]; omega) | ((try apply has_setN); apply has_ofL; simp only [bxL]; omega)) only [↓bxD, bxP, bxQ, Nat.reduceBEq, reduceCtorEq, Nat.reduceAdd, Nat.reduceSub, Nat.reduceMul, Nat.reduceLeDiff, Nat.reduceLT, bxR, h0, h5, h9, h10, h11, hu1, hu2, hs1, hs2, hg, hC, d1, ds, hg2, hC2, dz, wa, mn_i]
          show Wp fns K25_0 _ _ _
          unfold K25_0
          simp (maxSteps := 4000000) (disch := first | omega | assumption | (simp only [bxS, bxV, stOk, Nat.reduceBEq, Nat.reduceEqDiff, Nat.reduceAdd]; done) | (simp only [bxU]; omega) | ((try apply has_setN); apply has_ofL; simp only [bxL]; omega)) only [↓bxD, bxP, bxQ, Nat.reduceBEq, reduceCtorEq, Nat.reduceAdd, Nat.reduceSub, Nat.reduceMul, Nat.reduceLeDiff, Nat.reduceLT, bxR, h0, h5, h9, h10, h11, hu1, hu2, hs1, hs2, hg, hC, d1, ds, hg2, hC2, dz, wa, mn_i]
          show Wp fns K25_2 _ _ _
          unfold K25_2
          simp (maxSteps := 4000000) (disch := first | omega | assumption | (simp only [bxS, bxV, stOk, Nat.reduceBEq, Nat.reduceEqDiff, Nat.reduceAdd]; done) | (simp only [bxU]; omega) | ((try apply has_setN); apply has_ofL; simp only [bxL]; omega)) only [↓bxD, bxP, bxQ, Nat.reduceBEq, reduceCtorEq, Nat.reduceAdd, Nat.reduceSub, Nat.reduceMul, Nat.reduceLeDiff, Nat.reduceLT, bxR, h0, h5, h9, h10, h11, hu1, hu2, hs1, hs2, hg, hC, d1, ds, hg2, hC2, dz, wa, mn_i]
          refine ⟨k + 1, by omega, by omega, rfl, ho2, congrArg (MV.i .i64) ?_⟩
          rw [hs2']
          unfold mostZ
          split <;> omega
      · have ds : decide (0 ≤ s) = false := decide_eq_false s0
        have hzv : shV l s = 1 := by unfold shV; rw [if_pos (by omega)]
        rw [hzv] at ho2 hs2'
        have wa : wrapF .i64 (min (shSum l (ar.take k)) mostZ + 1) = min (shSum l (ar.take k)) mostZ + 1 := wrap_in (by unfold mostZ; omega) (by unfold mostZ; omega)
        simp (maxSteps := 4000000) (disch := first | omega | assumption | (simp only [bxS, bxV, stOk, Nat.reduceBEq, Nat.reduceEqDiff, Nat.reduceAdd]; done) | (simp only [bxU]; omega) | ((try apply has_setN); apply has_ofL; simp only [bxL]; omega)) only [↓bxD, bxP, bxQ, Nat.reduceBEq, reduceCtorEq, Nat.reduceAdd, Nat.reduceSub, Nat.reduceMul, Nat.reduceLeDiff, Nat.reduceLT, bxR, h0, h5, h9, h10, h11, hu1, hu2, hs1, hs2, hg, hC, d1, ds, wa, decide_false, mn_i]
        show Wp fns K25_3 _ _ _
        unfold K25_3
        simp (maxSteps := 4000000) (disch := first | omega | assumption | (simp only [bxS, bxV, stOk, Nat.reduceBEq, Nat.reduceEqDiff, Nat.reduceAdd]; done) | (simp only [bxU]; omega) | ((try apply has_setN); apply has_ofL; simp only [bxL]; omega)) only [↓bxD, bxP, bxQ, Nat.reduceBEq, reduceCtorEq, Nat.reduceAdd, Nat.reduceSub, Nat.reduceMul, Nat.reduceLeDiff, Nat.reduceLT, bxR, h0, h5, h9, h10, h11, hu1, hu2, hs1, hs2, hg, hC, d1, ds, wa, decide_false, mn_i]
        show Wp fns K25_1 _ _ _
        unfold K25_1
        simp (maxSteps := 4000000) (disch := first | omega | assumption | (simp only [bxS, bxV, stOk, Nat.reduceBEq, Nat.reduceEqDiff, Nat.reduceAdd]; done) | (simp only [bxU]; omega) | ((try apply has_setN); apply has_ofL; simp only [bxL]; omega)) only [↓bxD, bxP, bxQ, Nat.reduceBEq, reduceCtorEq, Nat.reduceAdd, Nat.reduceSub, Nat.reduceMul, Nat.reduceLeDiff, Nat.reduceLT, bxR, h0, h5, h9, h10, h11, hu1, hu2, hs1, hs2, hg, hC, d1, ds, wa, decide_false, mn_i]
        show Wp fns K25_0 _ _ _
        unfold K25_0
        simp (maxSteps := 4000000) (disch := first | omega | assumption | (simp only [bxS, bxV, stOk, Nat.reduceBEq, Nat.reduceEqDiff, Nat.reduceAdd]; done) | (simp only [bxU]; omega) | ((try apply has_setN); apply has_ofL; simp only [bxL]; omega)) only [↓bxD, bxP, bxQ, Nat.reduceBEq, reduceCtorEq, Nat.reduceAdd, Nat.reduceSub, Nat.reduceMul, Nat.reduceLeDiff, Nat.reduceLT, bxR, h0, h5, h9, h10, h11, hu1, hu2, hs1, hs2, hg, hC, d1, ds, wa, decide_false, mn_i]
        show Wp fns K25_2 _ _ _
        unfold K25_2
        simp (maxSteps := 4000000) (disch := first | omega | assumption | (simp only [bxS, bxV, stOk, Nat.reduceBEq, Nat.reduceEqDiff, Nat.reduceAdd]; done) | (simp only [bxU]; omega) | ((try apply has_setN); apply has_ofL; simp only [bxL]; omega)) only [↓bxD, bxP, bxQ, Nat.reduceBEq, reduceCtorEq, Nat.reduceAdd, Nat.reduceSub, Nat.reduceMul, Nat.reduceLeDiff, Nat.reduceLT, bxR, h0, h5, h9, h10, h11, hu1, hu2, hs1, hs2, hg, hC, d1, ds, wa, decide_false, mn_i]
        refine ⟨k + 1, by omega, by omega, rfl, ho2, congrArg (MV.i .i64) ?_⟩
        rw [hs2']
        unfold mostZ
        split <;> omega
    · have d1 : decide ((k : Int) < (ar.length : Int)) = false := decide_eq_false (by omega)
      have hkl : k = ar.length := by omega
      subst hkl
      rw [List.take_length] at h5 ho
      simp (maxSteps := 4000000) (disch := first | omega | assumption | (simp only [bxS, bxV, stOk, Nat.reduceBEq, Nat.reduceEqDiff, Nat.reduceAdd]; done) | (simp only [bxU]; omega) | ((try apply has_setN); apply has_ofL; simp only [bxL]; omega)) only [↓bxD, bxP, bxQ, Nat.reduceBEq, reduceCtorEq, Nat.reduceAdd, Nat.reduceSub, Nat.reduceMul, Nat.reduceLeDiff, Nat.reduceLT, bxR, h0, h5, h9, h10, h11, d1]
      show Wp fns K25_5 _ _ _
      unfold K25_5
      simp (maxSteps := 4000000) (disch := first | omega | assumption | (simp only [bxS, bxV, stOk, Nat.reduceBEq, Nat.reduceEqDiff, Nat.reduceAdd]; done) | (simp only [bxU]; omega) | ((try apply has_setN); apply has_ofL; simp only [bxL]; omega)) only [↓bxD, bxP, bxQ, Nat.reduceBEq, reduceCtorEq, Nat.reduceAdd, Nat.reduceSub, Nat.reduceMul, Nat.reduceLeDiff, Nat.reduceLT, bxR, h0, h5, h9, h10, h11, d1]
      unfold shRow
      rw [ho]
      rfl
  · exact ⟨rfl, Nat.zero_le _, by simp only [bxP, bxQ, reduceCtorEq, hu1, hu2], by simp only [bxP, bxQ, reduceCtorEq, hu1, hu2], by simp only [bxP, bxQ, reduceCtorEq, hu1, hu2], by simp only [bxP, bxQ, reduceCtorEq, hu1, hu2] <;> rfl, rfl, by simp only [bxP, bxQ, reduceCtorEq, hu1, hu2] <;> rfl⟩
def callvW (c : CallM) (M : MH) (v : MV) (l : List MV) : Option (MV × MH) := match v with
  | .fn (.func g) a d => c g (a ++ (l ++ d)) M
  | _ => none
theorem ev_callv (c : CallM) (f : Fr) (M : MH) (x : X) (l : List X) : Iop.ev c f M (.callv x l) = callvW c M (x.ev f) (l.map (X.ev f)) := rfl
theorem callv_fn (c : CallM) (M : MH) (g : Nat) (a d l : List MV) : callvW c M (.fn (.func g) a d) l = c g (a ++ (l ++ d)) M := rfl
def isN (i n : Int) : Bool := decide (0 ≤ i) && decide (i < n)
theorem number_any {M : MH} {i n : Int} : Cp fns 30 [.i .i64 i, .i .i64 n] M fun m M' => m = .b (isN i n) ∧ M' = M := by
  refine Cp_call (fn := F30) (by kernel_rfl) (Nat.le_of_ble_eq_true rfl) ?_
  show Wp fns B30 (T.set q1 (some (.i .i64 n)) (T.set q0 (some (.i .i64 i)) T.lf)) M _
  unfold B30
  by_cases h0 : 0 ≤ i
  · have hd : decide (0 ≤ i) = true := decide_eq_true h0
    simp (maxSteps := 4000000) (disch := first | omega | assumption | (simp only [bxS, bxV, stOk, Nat.reduceBEq, Nat.reduceEqDiff, Nat.reduceAdd]; done) | (simp only [bxU]; omega) | ((try apply has_setN); apply has_ofL; simp only [bxL]; omega)) only [↓bxD, bxP, bxQ, Nat.reduceBEq, reduceCtorEq, Nat.reduceAdd, Nat.reduceSub, Nat.reduceMul, Nat.reduceLeDiff, Nat.reduceLT, bxR, hd]
    unfold isN
    rw [hd, Bool.true_and]
  · have hd : decide (0 ≤ i) = false := decide_eq_false h0
    simp (maxSteps := 4000000) (disch := first | omega | assumption | (simp only [bxS, bxV, stOk, Nat.reduceBEq, Nat.reduceEqDiff, Nat.reduceAdd]; done) | (simp only [bxU]; omega) | ((try apply has_setN); apply has_ofL; simp only [bxL]; omega)) only [↓bxD, bxP, bxQ, Nat.reduceBEq, reduceCtorEq, Nat.reduceAdd, Nat.reduceSub, Nat.reduceMul, Nat.reduceLeDiff, Nat.reduceLT, bxR, hd]
    unfold isN
    rw [hd, Bool.false_and]
theorem class_any {M : MH} {c : Int} : Cp fns 37 [.i .i64 c] M fun m M' => m = .b (!(isN c 101)) ∧ M' = M := by
  refine Cp_call (fn := F37) (by kernel_rfl) (Nat.le_of_ble_eq_true rfl) ?_
  show Wp fns B37 (T.set q0 (some (.i .i64 c)) T.lf) M _
  unfold B37
  simp (maxSteps := 4000000) (disch := first | omega | assumption | (simp only [bxS, bxV, stOk, Nat.reduceBEq, Nat.reduceEqDiff, Nat.reduceAdd]; done) | (simp only [bxU]; omega) | ((try apply has_setN); apply has_ofL; simp only [bxL]; omega)) only [↓bxD, bxP, bxQ, Nat.reduceBEq, reduceCtorEq, Nat.reduceAdd, Nat.reduceSub, Nat.reduceMul, Nat.reduceLeDiff, Nat.reduceLT, bxR]
  refine bindP_call number_any ?_
  rintro m M2 ⟨rfl, rfl⟩
  simp (maxSteps := 4000000) (disch := first | omega | assumption | (simp only [bxS, bxV, stOk, Nat.reduceBEq, Nat.reduceEqDiff, Nat.reduceAdd]; done) | (simp only [bxU]; omega) | ((try apply has_setN); apply has_ofL; simp only [bxL]; omega)) only [↓bxD, bxP, bxQ, Nat.reduceBEq, reduceCtorEq, Nat.reduceAdd, Nat.reduceSub, Nat.reduceMul, Nat.reduceLeDiff, Nat.reduceLT, bxR]
theorem index_any {M : MH} {v : MV} {l : List Int} {k : Nat} {caps : List MV} {p : Int → Bool} (h : IntRow M v l) (hl : l.length ≤ 9223372036854775807) (hP : ∀ M' z, Ext M M' → z ∈ l → Cp fns k (.i .i64 z :: caps) M' fun m M'' => m = .b (p z) ∧ Ext M' M'') :
    Cp fns 38 [v, .fn (.func k) [] caps] M fun m M' => ∃ r, m = .i .i64 r ∧ decide (0 ≤ r) = l.any p ∧ Ext M M' := by
  obtain ⟨hs1, hs2⟩ := h.sl
  refine Cp_call (fn := F38) (by kernel_rfl) (Nat.le_of_ble_eq_true rfl) ?_
  show Wp fns B38 (T.set q1 (some (.fn (.func k) [] caps)) (T.set q0 (some v) T.lf)) M _
  unfold B38
  simp (maxSteps := 4000000) (disch := first | omega | assumption | (simp only [bxS, bxV, stOk, Nat.reduceBEq, Nat.reduceEqDiff, Nat.reduceAdd]; done) | (simp only [bxU]; omega) | ((try apply has_setN); apply has_ofL; simp only [bxL]; omega)) only [↓bxD, bxP, bxQ, Nat.reduceBEq, reduceCtorEq, Nat.reduceAdd, Nat.reduceSub, Nat.reduceMul, Nat.reduceLeDiff, Nat.reduceLT, bxR, hs1, hs2]
  refine Wp_inv (σ := Nat) (fun i f M' => Ext M M' ∧ i ≤ l.length ∧ X.ev f (.t q0) = v ∧ X.ev f (.t q1) = .fn (.func k) [] caps ∧ X.ev f (.t q7) = .i .i64 (l.length : Int) ∧ X.ev f (.t q8) = .i .i64 (i : Int) ∧ (l.take i).any p = false) (fun i => l.length - i) ?_ 0 ?_
  · rintro i f M' ⟨hx, hi, h0, h1, h7, h8, hc⟩
    simp only [q0, q1, q7, q8] at h0 h1 h7 h8
    unfold L38_2
    simp (maxSteps := 4000000) (disch := first | omega | assumption | (simp only [bxS, bxV, stOk, Nat.reduceBEq, Nat.reduceEqDiff, Nat.reduceAdd]; done) | (simp only [bxU]; omega) | ((try apply has_setN); apply has_ofL; simp only [bxL]; omega)) only [↓bxD, bxP, bxQ, Nat.reduceBEq, reduceCtorEq, Nat.reduceAdd, Nat.reduceSub, Nat.reduceMul, Nat.reduceLeDiff, Nat.reduceLT, bxR, hs1, hs2, h0, h1, h7, h8]
    refine condP_split (fun hlt => ?_) (fun hge => ?_)
    · have hi' : i < l.length := by omega
      obtain ⟨z, hz⟩ : ∃ z, l[i]? = some z := ⟨_, List.getElem?_eq_getElem hi'⟩
      obtain ⟨ro, s, t, hg, hid, hC⟩ := (h.ext hx).read hz
      have hall : l.any p = ((l.take (i + 1)).any p || (l.drop (i + 1)).any p) := by rw [← List.any_append, List.take_append_drop]
      have htk : (l.take (i + 1)).any p = p z := by rw [List.take_add_one, hz, List.any_append, hc]; simp
      simp (maxSteps := 4000000) (disch := first | omega | assumption | (simp only [bxS, bxV, stOk, Nat.reduceBEq, Nat.reduceEqDiff, Nat.reduceAdd]; done) | (simp only [bxU]; omega) | ((try apply has_setN); apply has_ofL; simp only [bxL]; omega)) only [↓bxD, bxP, bxQ, Nat.reduceBEq, reduceCtorEq, Nat.reduceAdd, Nat.reduceSub, Nat.reduceMul, Nat.reduceLeDiff, Nat.reduceLT, bxR, hs1, hs2, h0, h1, h7, h8, hg, hC, ev_callv, callv_fn, List.nil_append, List.cons_append]
      show Wp fns K38_1 _ _ _
      unfold K38_1
      simp (maxSteps := 4000000) (disch := first | omega | assumption | (simp only [bxS, bxV, stOk, Nat.reduceBEq, Nat.reduceEqDiff, Nat.reduceAdd]; done) | (simp only [bxU]; omega) | ((try apply has_setN); apply has_ofL; simp only [bxL]; omega)) only [↓bxD, bxP, bxQ, Nat.reduceBEq, reduceCtorEq, Nat.reduceAdd, Nat.reduceSub, Nat.reduceMul, Nat.reduceLeDiff, Nat.reduceLT, bxR, hs1, hs2, h0, h1, h7, h8, hg, hC, ev_callv, callv_fn, List.nil_append, List.cons_append]
      refine bindP_call (hP _ z hx (List.mem_of_getElem? hz)) ?_
      rintro m M2 ⟨rfl, hx2⟩
      simp (maxSteps := 4000000) (disch := first | omega | assumption | (simp only [bxS, bxV, stOk, Nat.reduceBEq, Nat.reduceEqDiff, Nat.reduceAdd]; done) | (simp only [bxU]; omega) | ((try apply has_setN); apply has_ofL; simp only [bxL]; omega)) only [↓bxD, bxP, bxQ, Nat.reduceBEq, reduceCtorEq, Nat.reduceAdd, Nat.reduceSub, Nat.reduceMul, Nat.reduceLeDiff, Nat.reduceLT, bxR, hs1, hs2, h0, h1, h7, h8, hg, hC, ev_callv, callv_fn, List.nil_append, List.cons_append]
      cases hp : p z with
      | true =>
        simp (maxSteps := 4000000) (disch := first | omega | assumption | (simp only [bxS, bxV, stOk, Nat.reduceBEq, Nat.reduceEqDiff, Nat.reduceAdd]; done) | (simp only [bxU]; omega) | ((try apply has_setN); apply has_ofL; simp only [bxL]; omega)) only [↓bxD, bxP, bxQ, Nat.reduceBEq, reduceCtorEq, Nat.reduceAdd, Nat.reduceSub, Nat.reduceMul, Nat.reduceLeDiff, Nat.reduceLT, bxR, hs1, hs2, h0, h1, h7, h8, hg, hC, ev_callv, callv_fn, List.nil_append, List.cons_append, hp]
        refine ⟨i, rfl, ?_, hx.trans hx2⟩
        rw [hall, htk, hp, Bool.true_or]
        exact decide_eq_true (by omega)
      | false =>
        simp (maxSteps := 4000000) (disch := first | omega | assumption | (simp only [bxS, bxV, stOk, Nat.reduceBEq, Nat.reduceEqDiff, Nat.reduceAdd]; done) | (simp only [bxU]; omega) | ((try apply has_setN); apply has_ofL; simp only [bxL]; omega)) only [↓bxD, bxP, bxQ, Nat.reduceBEq, reduceCtorEq, Nat.reduceAdd, Nat.reduceSub, Nat.reduceMul, Nat.reduceLeDiff, Nat.reduceLT, bxR, hs1, hs2, h0, h1, h7, h8, hg, hC, ev_callv, callv_fn, List.nil_append, List.cons_append, hp]
        show Wp fns K38_0 _ _ _
        unfold K38_0
        simp (maxSteps := 4000000) (disch := first | omega | assumption | (simp only [bxS, bxV, stOk, Nat.reduceBEq, Nat.reduceEqDiff, Nat.reduceAdd]; done) | (simp only [bxU]; omega) | ((try apply has_setN); apply has_ofL; simp only [bxL]; omega)) only [↓bxD, bxP, bxQ, Nat.reduceBEq, reduceCtorEq, Nat.reduceAdd, Nat.reduceSub, Nat.reduceMul, Nat.reduceLeDiff, Nat.reduceLT, bxR, hs1, hs2, h0, h1, h7, h8, hg, hC, ev_callv, callv_fn, List.nil_append, List.cons_append]
        exact ⟨i + 1, by omega, hx.trans hx2, by omega, rfl, by rw [htk, hp]⟩
    · have hi' : i = l.length := by omega
      subst hi'
      rw [List.take_length] at hc
      simp (maxSteps := 4000000) (disch := first | omega | assumption | (simp only [bxS, bxV, stOk, Nat.reduceBEq, Nat.reduceEqDiff, Nat.reduceAdd]; done) | (simp only [bxU]; omega) | ((try apply has_setN); apply has_ofL; simp only [bxL]; omega)) only [↓bxD, bxP, bxQ, Nat.reduceBEq, reduceCtorEq, Nat.reduceAdd, Nat.reduceSub, Nat.reduceMul, Nat.reduceLeDiff, Nat.reduceLT, bxR, hs1, hs2, h0, h1, h7, h8]
      show Wp fns K38_3 _ _ _
      unfold K38_3
      simp (maxSteps := 4000000) (disch := first | omega | assumption | (simp only [bxS, bxV, stOk, Nat.reduceBEq, Nat.reduceEqDiff, Nat.reduceAdd]; done) | (simp only [bxU]; omega) | ((try apply has_setN); apply has_ofL; simp only [bxL]; omega)) only [↓bxD, bxP, bxQ, Nat.reduceBEq, reduceCtorEq, Nat.reduceAdd, Nat.reduceSub, Nat.reduceMul, Nat.reduceLeDiff, Nat.reduceLT, bxR, hs1, hs2, h0, h1, h7, h8, R38, pack1]
      exact ⟨-1, rfl, by rw [hc]; rfl, hx⟩
  · exact ⟨.refl _, Nat.zero_le _, by simp only [bxP, bxQ, reduceCtorEq, hs1, hs2], by simp only [bxP, bxQ, reduceCtorEq, hs1, hs2], by simp only [bxP, bxQ, reduceCtorEq, hs1, hs2], by simp only [bxP, bxQ, reduceCtorEq, hs1, hs2] <;> rfl, rfl⟩
theorem contains_any {M : MH} {v : MV} {l : List Int} {k : Nat} {caps : List MV} {p : Int → Bool} (h : IntRow M v l) (hl : l.length ≤ 9223372036854775807) (hP : ∀ M' z, Ext M M' → z ∈ l → Cp fns k (.i .i64 z :: caps) M' fun m M'' => m = .b (p z) ∧ Ext M' M'') :
    Cp fns 34 [v, .fn (.func k) [] caps] M fun m M' => m = .b (l.any p) ∧ Ext M M' := by
  refine Cp_call (fn := F34) (by kernel_rfl) (Nat.le_of_ble_eq_true rfl) ?_
  show Wp fns B34 (T.set q1 (some (.fn (.func k) [] caps)) (T.set q0 (some v) T.lf)) M _
  unfold B34
  simp (maxSteps := 4000000) (disch := first | omega | assumption | (simp only [bxS, bxV, stOk, Nat.reduceBEq, Nat.reduceEqDiff, Nat.reduceAdd]; done) | (simp only [bxU]; omega) | ((try apply has_setN); apply has_ofL; simp only [bxL]; omega)) only [↓bxD, bxP, bxQ, Nat.reduceBEq, reduceCtorEq, Nat.reduceAdd, Nat.reduceSub, Nat.reduceMul, Nat.reduceLeDiff, Nat.reduceLT, bxR]
  refine bindP_call (index_any h hl hP) ?_
  rintro m M2 ⟨r, rfl, hr, hx⟩
  simp (maxSteps := 4000000) (disch := first | omega | assumption | (simp only [bxS, bxV, stOk, Nat.reduceBEq, Nat.reduceEqDiff, Nat.reduceAdd]; done) | (simp only [bxU]; omega) | ((try apply has_setN); apply has_ofL; simp only [bxL]; omega)) only [↓bxD, bxP, bxQ, Nat.reduceBEq, reduceCtorEq, Nat.reduceAdd, Nat.reduceSub, Nat.reduceMul, Nat.reduceLeDiff, Nat.reduceLT, bxR]
  exact ⟨by rw [hr], hx⟩
theorem areClasses_any {M : MH} {v : MV} {l : List Int} {n : Int} (h : IntRow M v l) (hl : l.length ≤ 9223372036854775807) : Cp fns 31 [v, .i .i64 n] M fun m M' => m = .b (decide ((l.length : Int) ≤ n) && clsB l) ∧ Ext M M' := by
  obtain ⟨hs1, hs2⟩ := h.sl
  refine Cp_call (fn := F31) (by kernel_rfl) (Nat.le_of_ble_eq_true rfl) ?_
  show Wp fns B31 (T.set q1 (some (.i .i64 n)) (T.set q0 (some v) T.lf)) M _
  unfold B31
  have hcl : clsB l = !(l.any fun z => !(isN z 101)) := by
    unfold clsB
    rw [List.not_any_eq_all_not]
    refine congrArg (fun q => l.all q) (funext fun z => ?_)
    rw [Bool.not_not]
    unfold isN
    rw [show decide (z < 101) = decide (z ≤ 100) from by rw [decide_eq_decide]; omega]
  by_cases h0 : (l.length : Int) ≤ n
  · have hd : decide ((l.length : Int) ≤ n) = true := decide_eq_true h0
    simp (maxSteps := 4000000) (disch := first | omega | assumption | (simp only [bxS, bxV, stOk, Nat.reduceBEq, Nat.reduceEqDiff, Nat.reduceAdd]; done) | (simp only [bxU]; omega) | ((try apply has_setN); apply has_ofL; simp only [bxL]; omega)) only [↓bxD, bxP, bxQ, Nat.reduceBEq, reduceCtorEq, Nat.reduceAdd, Nat.reduceSub, Nat.reduceMul, Nat.reduceLeDiff, Nat.reduceLT, bxR, hs1, hs2, hd]
    refine bindP_call (contains_any (p := fun z => !(isN z 101)) h hl fun M' z hx hz => ?_) ?_
    · obtain ⟨m, M2, h1, h2, h3⟩ := class_any (M := M') (c := z)
      exact ⟨m, M2, h1, h2, by rw [h3]; exact .refl _⟩
    rintro m M2 ⟨rfl, hx⟩
    simp (maxSteps := 4000000) (disch := first | omega | assumption | (simp only [bxS, bxV, stOk, Nat.reduceBEq, Nat.reduceEqDiff, Nat.reduceAdd]; done) | (simp only [bxU]; omega) | ((try apply has_setN); apply has_ofL; simp only [bxL]; omega)) only [↓bxD, bxP, bxQ, Nat.reduceBEq, reduceCtorEq, Nat.reduceAdd, Nat.reduceSub, Nat.reduceMul, Nat.reduceLeDiff, Nat.reduceLT, bxR, hs1, hs2, hd]
    exact ⟨by rw [hcl, Bool.true_and], hx⟩
  · have hd : decide ((l.length : Int) ≤ n) = false := decide_eq_false h0
    simp (maxSteps := 4000000) (disch := first | omega | assumption | (simp only [bxS, bxV, stOk, Nat.reduceBEq, Nat.reduceEqDiff, Nat.reduceAdd]; done) | (simp only [bxU]; omega) | ((try apply has_setN); apply has_ofL; simp only [bxL]; omega)) only [↓bxD, bxP, bxQ, Nat.reduceBEq, reduceCtorEq, Nat.reduceAdd, Nat.reduceSub, Nat.reduceMul, Nat.reduceLeDiff, Nat.reduceLT, bxR, hs1, hs2, hd]
    exact ⟨rfl, .refl _⟩
theorem isSymbol_any {M : MH} {g : Gr} {vr vf vc vk : MV} {s : Int} (hlo : M.lo ≤ M.n) (hs : Wf64 s) : Cp fns 33 [.ag (gcs g vr vf vc vk), .i .i64 s] M fun m M' => m = .b (symB g s) ∧ Ext M M' := by
  obtain ⟨hb1, hb2⟩ := hs
  refine Cp_call (fn := F33) (by kernel_rfl) (Nat.le_of_ble_eq_true rfl) ?_
  show Wp fns B33 (T.set q1 (some (.i .i64 s)) (T.set q0 (some (.ag (gcs g vr vf vc vk))) T.lf)) M _
  unfold B33 gcs
  have hx : ∀ l, Ext M (M.push (.cs false 7 (ofL l 0))) := fun l => .push M _
  by_cases h0 : s < 0
  · have hd : decide (s < 0) = true := decide_eq_true h0
    simp (maxSteps := 4000000) (disch := first | omega | assumption | (simp only [bxS, bxV, stOk, Nat.reduceBEq, Nat.reduceEqDiff, Nat.reduceAdd]; done) | (simp only [bxU]; omega) | ((try apply has_setN); apply has_ofL; simp only [bxL]; omega)) only [↓bxD, bxP, bxQ, Nat.reduceBEq, reduceCtorEq, Nat.reduceAdd, Nat.reduceSub, Nat.reduceMul, Nat.reduceLeDiff, Nat.reduceLT, bxR, hd]
    refine bindP_call number_any ?_
    rintro m M2 ⟨rfl, rfl⟩
    simp (maxSteps := 4000000) (disch := first | omega | assumption | (simp only [bxS, bxV, stOk, Nat.reduceBEq, Nat.reduceEqDiff, Nat.reduceAdd]; done) | (simp only [bxU]; omega) | ((try apply has_setN); apply has_ofL; simp only [bxL]; omega)) only [↓bxD, bxP, bxQ, Nat.reduceBEq, reduceCtorEq, Nat.reduceAdd, Nat.reduceSub, Nat.reduceMul, Nat.reduceLeDiff, Nat.reduceLT, bxR, hd]
    exact ⟨by unfold symB isN; rw [if_pos h0, decide_eq_true (by omega), Bool.true_and]; rfl, hx _⟩
  · have hd : decide (s < 0) = false := decide_eq_false h0
    simp (maxSteps := 4000000) (disch := first | omega | assumption | (simp only [bxS, bxV, stOk, Nat.reduceBEq, Nat.reduceEqDiff, Nat.reduceAdd]; done) | (simp only [bxU]; omega) | ((try apply has_setN); apply has_ofL; simp only [bxL]; omega)) only [↓bxD, bxP, bxQ, Nat.reduceBEq, reduceCtorEq, Nat.reduceAdd, Nat.reduceSub, Nat.reduceMul, Nat.reduceLeDiff, Nat.reduceLT, bxR, hd]
    show Wp fns K33_0 _ _ _
    unfold K33_0
    simp (maxSteps := 4000000) (disch := first | omega | assumption | (simp only [bxS, bxV, stOk, Nat.reduceBEq, Nat.reduceEqDiff, Nat.reduceAdd]; done) | (simp only [bxU]; omega) | ((try apply has_setN); apply has_ofL; simp only [bxL]; omega)) only [↓bxD, bxP, bxQ, Nat.reduceBEq, reduceCtorEq, Nat.reduceAdd, Nat.reduceSub, Nat.reduceMul, Nat.reduceLeDiff, Nat.reduceLT, bxR, hd]
    refine bindP_call number_any ?_
    rintro m M2 ⟨rfl, rfl⟩
    simp (maxSteps := 4000000) (disch := first | omega | assumption | (simp only [bxS, bxV, stOk, Nat.reduceBEq, Nat.reduceEqDiff, Nat.reduceAdd]; done) | (simp only [bxU]; omega) | ((try apply has_setN); apply has_ofL; simp only [bxL]; omega)) only [↓bxD, bxP, bxQ, Nat.reduceBEq, reduceCtorEq, Nat.reduceAdd, Nat.reduceSub, Nat.reduceMul, Nat.reduceLeDiff, Nat.reduceLT, bxR, hd]
    exact ⟨by unfold symB isN; rw [if_neg h0, decide_eq_true (by omega), Bool.true_and], hx _⟩
theorem noSymbol_any {M : MH} {g : Gr} {vr vf vc vk : MV} {s : Int} {b : Nat} (hlo : M.lo ≤ M.n) (hs : Wf64 s) (hb : M.get b = some (.cs false 7 (ofL (gcs g vr vf vc vk) 0))) : Cp fns 32 [.i .i64 s, .p b 0] M fun m M' => m = .b (!(symB g s)) ∧ Ext M M' := by
  refine Cp_call (fn := F32) (by kernel_rfl) (Nat.le_of_ble_eq_true rfl) ?_
  show Wp fns B32 (T.set q1 (some (.p b 0)) (T.set q0 (some (.i .i64 s)) T.lf)) M _
  unfold B32
  have hG : Ev.getN (ofL (gcs g vr vf vc vk) 0) 7 0 = some (gcs g vr vf vc vk) := (at_ofL (gcs g vr vf vc vk)).getN
  simp (maxSteps := 4000000) (disch := first | omega | assumption | (simp only [bxS, bxV, stOk, Nat.reduceBEq, Nat.reduceEqDiff, Nat.reduceAdd]; done) | (simp only [bxU]; omega) | ((try apply has_setN); apply has_ofL; simp only [bxL]; omega)) only [↓bxD, bxP, bxQ, Nat.reduceBEq, reduceCtorEq, Nat.reduceAdd, Nat.reduceSub, Nat.reduceMul, Nat.reduceLeDiff, Nat.reduceLT, bxR, hb, hG]
  refine bindP_call (isSymbol_any hlo hs) ?_
  rintro m M2 ⟨rfl, hx⟩
  simp (maxSteps := 4000000) (disch := first | omega | assumption | (simp only [bxS, bxV, stOk, Nat.reduceBEq, Nat.reduceEqDiff, Nat.reduceAdd]; done) | (simp only [bxU]; omega) | ((try apply has_setN); apply has_ofL; simp only [bxL]; omega)) only [↓bxD, bxP, bxQ, Nat.reduceBEq, reduceCtorEq, Nat.reduceAdd, Nat.reduceSub, Nat.reduceMul, Nat.reduceLeDiff, Nat.reduceLT, bxR, hb, hG]
  exact hx
def numE : Option Int → Int
  | some e => e
  | none => 0
theorem ruleError_any {M : MH} {g : Gr} {vr vf vc vk ur : MV} {a0 a2 : Int} {ar : List Int} (hlo : M.lo ≤ M.n) (hu : IntRow M ur ar) (hw : ∀ z ∈ ar, Wf64 z) (hwl : ar.length ≤ 9223372036854775807) :
    Cp fns 27 [.ag (gcs g vr vf vc vk), .ag [.i .i64 a0, ur, .i .i64 a2]] M fun m M' => m = .i .i64 (numE (ruleE g (a0, ar, a2))) ∧ Ext M M' := by
  obtain ⟨hs1, hs2⟩ := hu.sl
  refine Cp_call (fn := F27) (by kernel_rfl) (Nat.le_of_ble_eq_true rfl) ?_
  show Wp fns B27 (T.set q1 (some (.ag [.i .i64 a0, ur, .i .i64 a2])) (T.set q0 (some (.ag (gcs g vr vf vc vk))) T.lf)) M _
  unfold B27
  have hG : ∀ l, l = gcs g vr vf vc vk → Ev.getN (ofL l 0) 7 0 = some (gcs g vr vf vc vk) := fun l e => by subst e; exact (at_ofL (gcs g vr vf vc vk)).getN
  have hall : ar.any (fun z => !(symB g z)) = !(ar.all (symB g)) := by rw [List.not_all_eq_any_not]
  rw [show gcs g vr vf vc vk = [MV.i IntKind.i64 g.names, MV.i IntKind.i64 g.kinds, MV.i IntKind.i64 g.start, vr, vf, vc, vk] from rfl]
  simp (maxSteps := 4000000) (disch := first | omega | assumption | (simp only [bxS, bxV, stOk, Nat.reduceBEq, Nat.reduceEqDiff, Nat.reduceAdd]; done) | (simp only [bxU]; omega) | ((try apply has_setN); apply has_ofL; simp only [bxL]; omega)) only [↓bxD, bxP, bxQ, Nat.reduceBEq, reduceCtorEq, Nat.reduceAdd, Nat.reduceSub, Nat.reduceMul, Nat.reduceLeDiff, Nat.reduceLT, bxR, hs1, hs2]
  generalize hM1 : (M.push _).push _ = M1
  have hb0 : M1.get M.n = some (.cs false 7 (ofL [MV.i IntKind.i64 g.names, MV.i IntKind.i64 g.kinds, MV.i IntKind.i64 g.start, vr, vf, vc, vk] 0)) := by rw [← hM1, push_old (Nat.lt_succ_self _)]; exact push_new _
  have hb1 : M1.get (M.n + 1) = some (.cs false 3 (ofL [MV.i IntKind.i64 a0, ur, MV.i IntKind.i64 a2] 0)) := by rw [← hM1]; exact push_new (M := M.push _) _
  have hx1 : Ext M M1 := by rw [← hM1]; exact (Ext.push M _).trans (Ext.push _ _)
  have hn1 : M1.n = M.n + 2 := by rw [← hM1]; rfl
  have hl1 := hx1.lo
  clear hM1
  have hu1 := hu.ext hx1
  simp (maxSteps := 4000000) (disch := first | omega | assumption | (simp only [bxS, bxV, stOk, Nat.reduceBEq, Nat.reduceEqDiff, Nat.reduceAdd]; done) | (simp only [bxU]; omega) | ((try apply has_setN); apply has_ofL; simp only [bxL]; omega)) only [↓bxD, bxP, bxQ, Nat.reduceBEq, reduceCtorEq, Nat.reduceAdd, Nat.reduceSub, Nat.reduceMul, Nat.reduceLeDiff, Nat.reduceLT, bxR, hs1, hs2, hb0, hb1]
  refine bindP_call number_any ?_
  rintro m M2 ⟨rfl, rfl⟩
  simp (maxSteps := 4000000) (disch := first | omega | assumption | (simp only [bxS, bxV, stOk, Nat.reduceBEq, Nat.reduceEqDiff, Nat.reduceAdd]; done) | (simp only [bxU]; omega) | ((try apply has_setN); apply has_ofL; simp only [bxL]; omega)) only [↓bxD, bxP, bxQ, Nat.reduceBEq, reduceCtorEq, Nat.reduceAdd, Nat.reduceSub, Nat.reduceMul, Nat.reduceLeDiff, Nat.reduceLT, bxR, hs1, hs2, hb0, hb1]
  cases hn : isN a0 g.names with
  | false =>
    simp (maxSteps := 4000000) (disch := first | omega | assumption | (simp only [bxS, bxV, stOk, Nat.reduceBEq, Nat.reduceEqDiff, Nat.reduceAdd]; done) | (simp only [bxU]; omega) | ((try apply has_setN); apply has_ofL; simp only [bxL]; omega)) only [↓bxD, bxP, bxQ, Nat.reduceBEq, reduceCtorEq, Nat.reduceAdd, Nat.reduceSub, Nat.reduceMul, Nat.reduceLeDiff, Nat.reduceLT, bxR, hs1, hs2, hb0, hb1, hn]
    show Wp fns K27_0 _ _ _
    unfold K27_0
    simp (maxSteps := 4000000) (disch := first | omega | assumption | (simp only [bxS, bxV, stOk, Nat.reduceBEq, Nat.reduceEqDiff, Nat.reduceAdd]; done) | (simp only [bxU]; omega) | ((try apply has_setN); apply has_ofL; simp only [bxL]; omega)) only [↓bxD, bxP, bxQ, Nat.reduceBEq, reduceCtorEq, Nat.reduceAdd, Nat.reduceSub, Nat.reduceMul, Nat.reduceLeDiff, Nat.reduceLT, bxR, hs1, hs2, hb0, hb1]
    exact ⟨by unfold ruleE okR; rw [if_pos (by unfold isN at hn; rw [hn, Bool.false_and])]; rfl, hx1⟩
  | true =>
    simp (maxSteps := 4000000) (disch := first | omega | assumption | (simp only [bxS, bxV, stOk, Nat.reduceBEq, Nat.reduceEqDiff, Nat.reduceAdd]; done) | (simp only [bxU]; omega) | ((try apply has_setN); apply has_ofL; simp only [bxL]; omega)) only [↓bxD, bxP, bxQ, Nat.reduceBEq, reduceCtorEq, Nat.reduceAdd, Nat.reduceSub, Nat.reduceMul, Nat.reduceLeDiff, Nat.reduceLT, bxR, hs1, hs2, hb0, hb1, hn]
    refine bindP_call (contains_any (p := fun z => !(symB g z)) hu1 hwl fun M' z hx hz => noSymbol_any (by have := hx.n; have := hx.lo; omega) (hw z hz) ((hx.old _ (by omega)).trans hb0)) ?_
    rintro m M2 ⟨rfl, hx2⟩
    have hb1' := (hx2.old _ (by omega)).trans hb1
    rw [hall]
    have hok : okR g (a0, ar, a2) = ar.all (symB g) := by unfold okR; unfold isN at hn; simp only; rw [hn, Bool.true_and]
    simp (maxSteps := 4000000) (disch := first | omega | assumption | (simp only [bxS, bxV, stOk, Nat.reduceBEq, Nat.reduceEqDiff, Nat.reduceAdd]; done) | (simp only [bxU]; omega) | ((try apply has_setN); apply has_ofL; simp only [bxL]; omega)) only [↓bxD, bxP, bxQ, Nat.reduceBEq, reduceCtorEq, Nat.reduceAdd, Nat.reduceSub, Nat.reduceMul, Nat.reduceLeDiff, Nat.reduceLT, bxR, hs1, hs2, hb1']
    cases ha : ar.all (symB g) with
    | false =>
      simp (maxSteps := 4000000) (disch := first | omega | assumption | (simp only [bxS, bxV, stOk, Nat.reduceBEq, Nat.reduceEqDiff, Nat.reduceAdd]; done) | (simp only [bxU]; omega) | ((try apply has_setN); apply has_ofL; simp only [bxL]; omega)) only [↓bxD, bxP, bxQ, Nat.reduceBEq, reduceCtorEq, Nat.reduceAdd, Nat.reduceSub, Nat.reduceMul, Nat.reduceLeDiff, Nat.reduceLT, bxR, hs1, hs2, hb1', ha]
      show Wp fns K27_0 _ _ _
      unfold K27_0
      simp (maxSteps := 4000000) (disch := first | omega | assumption | (simp only [bxS, bxV, stOk, Nat.reduceBEq, Nat.reduceEqDiff, Nat.reduceAdd]; done) | (simp only [bxU]; omega) | ((try apply has_setN); apply has_ofL; simp only [bxL]; omega)) only [↓bxD, bxP, bxQ, Nat.reduceBEq, reduceCtorEq, Nat.reduceAdd, Nat.reduceSub, Nat.reduceMul, Nat.reduceLeDiff, Nat.reduceLT, bxR, hs1, hs2, hb1']
      exact ⟨by unfold ruleE; rw [if_pos (by rw [hok, ha])]; rfl, hx1.trans hx2⟩
    | true =>
      simp (maxSteps := 4000000) (disch := first | omega | assumption | (simp only [bxS, bxV, stOk, Nat.reduceBEq, Nat.reduceEqDiff, Nat.reduceAdd]; done) | (simp only [bxU]; omega) | ((try apply has_setN); apply has_ofL; simp only [bxL]; omega)) only [↓bxD, bxP, bxQ, Nat.reduceBEq, reduceCtorEq, Nat.reduceAdd, Nat.reduceSub, Nat.reduceMul, Nat.reduceLeDiff, Nat.reduceLT, bxR, hs1, hs2, hb1', ha]
      show Wp fns K27_0 _ _ _
      unfold K27_0
      simp (maxSteps := 4000000) (disch := first | omega | assumption | (simp only [bxS, bxV, stOk, Nat.reduceBEq, Nat.reduceEqDiff, Nat.reduceAdd]; done) | (simp only [bxU]; omega) | ((try apply has_setN); apply has_ofL; simp only [bxL]; omega)) only [↓bxD, bxP, bxQ, Nat.reduceBEq, reduceCtorEq, Nat.reduceAdd, Nat.reduceSub, Nat.reduceMul, Nat.reduceLeDiff, Nat.reduceLT, bxR, hs1, hs2, hb1']
      have hne : ¬ okR g (a0, ar, a2) = false := by rw [hok, ha]; simp
      by_cases e8 : (8 : Int) < (ar.length : Int)
      · have d8 : decide ((8 : Int) < (ar.length : Int)) = true := decide_eq_true e8
        simp (maxSteps := 4000000) (disch := first | omega | assumption | (simp only [bxS, bxV, stOk, Nat.reduceBEq, Nat.reduceEqDiff, Nat.reduceAdd]; done) | (simp only [bxU]; omega) | ((try apply has_setN); apply has_ofL; simp only [bxL]; omega)) only [↓bxD, bxP, bxQ, Nat.reduceBEq, reduceCtorEq, Nat.reduceAdd, Nat.reduceSub, Nat.reduceMul, Nat.reduceLeDiff, Nat.reduceLT, bxR, hs1, hs2, hb1', d8]
        exact ⟨by unfold ruleE; rw [if_neg hne, if_pos e8]; rfl, hx1.trans hx2⟩
      · have d8 : decide ((8 : Int) < (ar.length : Int)) = false := decide_eq_false e8
        by_cases e9 : a2 < Int.negSucc 999
        · have d9 : decide (a2 < Int.negSucc 999) = true := decide_eq_true e9
          simp (maxSteps := 4000000) (disch := first | omega | assumption | (simp only [bxS, bxV, stOk, Nat.reduceBEq, Nat.reduceEqDiff, Nat.reduceAdd]; done) | (simp only [bxU]; omega) | ((try apply has_setN); apply has_ofL; simp only [bxL]; omega)) only [↓bxD, bxP, bxQ, Nat.reduceBEq, reduceCtorEq, Nat.reduceAdd, Nat.reduceSub, Nat.reduceMul, Nat.reduceLeDiff, Nat.reduceLT, bxR, hs1, hs2, hb1', d8, d9]
          exact ⟨by unfold ruleE; rw [if_neg hne, if_neg e8, if_pos (by simp only; omega)]; rfl, hx1.trans hx2⟩
        · have d9 : decide (a2 < Int.negSucc 999) = false := decide_eq_false e9
          by_cases e10 : 1000 < a2
          · have d10 : decide (1000 < a2) = true := decide_eq_true e10
            simp (maxSteps := 4000000) (disch := first | omega | assumption | (simp only [bxS, bxV, stOk, Nat.reduceBEq, Nat.reduceEqDiff, Nat.reduceAdd]; done) | (simp only [bxU]; omega) | ((try apply has_setN); apply has_ofL; simp only [bxL]; omega)) only [↓bxD, bxP, bxQ, Nat.reduceBEq, reduceCtorEq, Nat.reduceAdd, Nat.reduceSub, Nat.reduceMul, Nat.reduceLeDiff, Nat.reduceLT, bxR, hs1, hs2, hb1', d8, d9, d10]
            exact ⟨by unfold ruleE; rw [if_neg hne, if_neg e8, if_pos (by simp only; omega)]; rfl, hx1.trans hx2⟩
          · have d10 : decide (1000 < a2) = false := decide_eq_false e10
            simp (maxSteps := 4000000) (disch := first | omega | assumption | (simp only [bxS, bxV, stOk, Nat.reduceBEq, Nat.reduceEqDiff, Nat.reduceAdd]; done) | (simp only [bxU]; omega) | ((try apply has_setN); apply has_ofL; simp only [bxL]; omega)) only [↓bxD, bxP, bxQ, Nat.reduceBEq, reduceCtorEq, Nat.reduceAdd, Nat.reduceSub, Nat.reduceMul, Nat.reduceLeDiff, Nat.reduceLT, bxR, hs1, hs2, hb1', d8, d9, d10]
            show Wp fns K27_1 _ _ _
            unfold K27_1
            simp (maxSteps := 4000000) (disch := first | omega | assumption | (simp only [bxS, bxV, stOk, Nat.reduceBEq, Nat.reduceEqDiff, Nat.reduceAdd]; done) | (simp only [bxU]; omega) | ((try apply has_setN); apply has_ofL; simp only [bxL]; omega)) only [↓bxD, bxP, bxQ, Nat.reduceBEq, reduceCtorEq, Nat.reduceAdd, Nat.reduceSub, Nat.reduceMul, Nat.reduceLeDiff, Nat.reduceLT, bxR, hs1, hs2, hb1']
            exact ⟨by unfold ruleE; rw [if_neg hne, if_neg e8, if_neg (by simp only; omega)]; rfl, hx1.trans hx2⟩
theorem canForbid_any {M : MH} {g : Gr} {vr vf vc vk : MV} {es : List (List MV)} {x0 x1 x2 : Int} (h : GrAt M vr vf vc vk es g) (hlo : M.lo ≤ M.n) :
    Cp fns 28 [.ag (gcs g vr vf vc vk), .ag [.i .i64 x0, .i .i64 x1, .i .i64 x2]] M fun m M' => m = .b (!(badF g (x0, x1, x2))) ∧ Ext M M' := by
  obtain ⟨hr1, hr2⟩ := h.rules.row.sl
  rw [h.rules.len] at hr2
  refine Cp_call (fn := F28) (by kernel_rfl) (Nat.le_of_ble_eq_true rfl) ?_
  show Wp fns B28 (T.set q1 (some (.ag [.i .i64 x0, .i .i64 x1, .i .i64 x2])) (T.set q0 (some (.ag (gcs g vr vf vc vk))) T.lf)) M _
  unfold B28
  rw [show gcs g vr vf vc vk = [MV.i IntKind.i64 g.names, MV.i IntKind.i64 g.kinds, MV.i IntKind.i64 g.start, vr, vf, vc, vk] from rfl]
  simp (maxSteps := 4000000) (disch := first | omega | assumption | (simp only [bxS, bxV, stOk, Nat.reduceBEq, Nat.reduceEqDiff, Nat.reduceAdd]; done) | (simp only [bxU]; omega) | ((try apply has_setN); apply has_ofL; simp only [bxL]; omega)) only [↓bxD, bxP, bxQ, Nat.reduceBEq, reduceCtorEq, Nat.reduceAdd, Nat.reduceSub, Nat.reduceMul, Nat.reduceLeDiff, Nat.reduceLT, bxR, hr1, hr2]
  generalize hM1 : (M.push _).push _ = M1
  have hb0 : M1.get M.n = some (.cs false 7 (ofL [MV.i IntKind.i64 g.names, MV.i IntKind.i64 g.kinds, MV.i IntKind.i64 g.start, vr, vf, vc, vk] 0)) := by rw [← hM1, push_old (Nat.lt_succ_self _)]; exact push_new _
  have hb1 : M1.get (M.n + 1) = some (.cs false 3 (ofL [MV.i IntKind.i64 x0, MV.i .i64 x1, MV.i IntKind.i64 x2] 0)) := by rw [← hM1]; exact push_new (M := M.push _) _
  have hx1 : Ext M M1 := by rw [← hM1]; exact (Ext.push M _).trans (Ext.push _ _)
  have hn1 : M1.n = M.n + 2 := by rw [← hM1]; rfl
  have hl1 := hx1.lo
  clear hM1
  have h1 := h.ext hx1
  simp (maxSteps := 4000000) (disch := first | omega | assumption | (simp only [bxS, bxV, stOk, Nat.reduceBEq, Nat.reduceEqDiff, Nat.reduceAdd]; done) | (simp only [bxU]; omega) | ((try apply has_setN); apply has_ofL; simp only [bxL]; omega)) only [↓bxD, bxP, bxQ, Nat.reduceBEq, reduceCtorEq, Nat.reduceAdd, Nat.reduceSub, Nat.reduceMul, Nat.reduceLeDiff, Nat.reduceLT, bxR, hr1, hr2, hb0, hb1, ixA_0, ixA_1, ixA_2]
  refine bindP_call number_any ?_
  rintro m M2 ⟨rfl, rfl⟩
  simp (maxSteps := 4000000) (disch := first | omega | assumption | (simp only [bxS, bxV, stOk, Nat.reduceBEq, Nat.reduceEqDiff, Nat.reduceAdd]; done) | (simp only [bxU]; omega) | ((try apply has_setN); apply has_ofL; simp only [bxL]; omega)) only [↓bxD, bxP, bxQ, Nat.reduceBEq, reduceCtorEq, Nat.reduceAdd, Nat.reduceSub, Nat.reduceMul, Nat.reduceLeDiff, Nat.reduceLT, bxR, hr1, hr2, hb0, hb1, ixA_0, ixA_1, ixA_2]
  cases c0 : isN x0 (g.rules.length : Int) with
  | false =>
    simp (maxSteps := 4000000) (disch := first | omega | assumption | (simp only [bxS, bxV, stOk, Nat.reduceBEq, Nat.reduceEqDiff, Nat.reduceAdd]; done) | (simp only [bxU]; omega) | ((try apply has_setN); apply has_ofL; simp only [bxL]; omega)) only [↓bxD, bxP, bxQ, Nat.reduceBEq, reduceCtorEq, Nat.reduceAdd, Nat.reduceSub, Nat.reduceMul, Nat.reduceLeDiff, Nat.reduceLT, bxR, hr1, hr2, hb0, hb1, ixA_0, ixA_1, ixA_2, c0]
    unfold isN at c0
    simp only [Bool.and_eq_false_iff, decide_eq_false_iff_not] at c0
    exact ⟨by unfold badF; rw [if_pos (by simp only; omega)]; rfl, hx1⟩
  | true =>
  simp (maxSteps := 4000000) (disch := first | omega | assumption | (simp only [bxS, bxV, stOk, Nat.reduceBEq, Nat.reduceEqDiff, Nat.reduceAdd]; done) | (simp only [bxU]; omega) | ((try apply has_setN); apply has_ofL; simp only [bxL]; omega)) only [↓bxD, bxP, bxQ, Nat.reduceBEq, reduceCtorEq, Nat.reduceAdd, Nat.reduceSub, Nat.reduceMul, Nat.reduceLeDiff, Nat.reduceLT, bxR, hr1, hr2, hb0, hb1, ixA_0, ixA_1, ixA_2, c0]
  refine bindP_call number_any ?_
  rintro m M2 ⟨rfl, rfl⟩
  simp (maxSteps := 4000000) (disch := first | omega | assumption | (simp only [bxS, bxV, stOk, Nat.reduceBEq, Nat.reduceEqDiff, Nat.reduceAdd]; done) | (simp only [bxU]; omega) | ((try apply has_setN); apply has_ofL; simp only [bxL]; omega)) only [↓bxD, bxP, bxQ, Nat.reduceBEq, reduceCtorEq, Nat.reduceAdd, Nat.reduceSub, Nat.reduceMul, Nat.reduceLeDiff, Nat.reduceLT, bxR, hr1, hr2, hb0, hb1, ixA_0, ixA_1, ixA_2, c0]
  cases c2 : isN x2 (g.rules.length : Int) with
  | false =>
    simp (maxSteps := 4000000) (disch := first | omega | assumption | (simp only [bxS, bxV, stOk, Nat.reduceBEq, Nat.reduceEqDiff, Nat.reduceAdd]; done) | (simp only [bxU]; omega) | ((try apply has_setN); apply has_ofL; simp only [bxL]; omega)) only [↓bxD, bxP, bxQ, Nat.reduceBEq, reduceCtorEq, Nat.reduceAdd, Nat.reduceSub, Nat.reduceMul, Nat.reduceLeDiff, Nat.reduceLT, bxR, hr1, hr2, hb0, hb1, ixA_0, ixA_1, ixA_2, c0, c2]
    unfold isN at c2
    simp only [Bool.and_eq_false_iff, decide_eq_false_iff_not] at c2
    exact ⟨by unfold badF; rw [if_pos (by simp only; omega)]; rfl, hx1⟩
  | true =>
  simp (maxSteps := 4000000) (disch := first | omega | assumption | (simp only [bxS, bxV, stOk, Nat.reduceBEq, Nat.reduceEqDiff, Nat.reduceAdd]; done) | (simp only [bxU]; omega) | ((try apply has_setN); apply has_ofL; simp only [bxL]; omega)) only [↓bxD, bxP, bxQ, Nat.reduceBEq, reduceCtorEq, Nat.reduceAdd, Nat.reduceSub, Nat.reduceMul, Nat.reduceLeDiff, Nat.reduceLT, bxR, hr1, hr2, hb0, hb1, ixA_0, ixA_1, ixA_2, c0, c2]
  unfold isN at c0 c2
  simp only [Bool.and_eq_true, decide_eq_true_eq] at c0 c2
  obtain ⟨k0, rfl⟩ : ∃ k : Nat, x0 = (k : Int) := ⟨x0.toNat, by omega⟩
  obtain ⟨k2, rfl⟩ : ∃ k : Nat, x2 = (k : Int) := ⟨x2.toNat, by omega⟩
  obtain ⟨⟨a0, ar, a2⟩, hA⟩ : ∃ z, g.rules[k0]? = some z := ⟨_, List.getElem?_eq_getElem (by omega)⟩
  obtain ⟨⟨b0, br, b2⟩, hB⟩ : ∃ z, g.rules[k2]? = some z := ⟨_, List.getElem?_eq_getElem (by omega)⟩
  obtain ⟨ua, hua, hura⟩ : ∃ u1, es[k0]? = some [.i .i64 a0, u1, .i .i64 a2] ∧ IntRow _ u1 ar := h1.rules.get hA
  obtain ⟨ub, hub, hurb⟩ : ∃ u1, es[k2]? = some [.i .i64 b0, u1, .i .i64 b2] ∧ IntRow _ u1 br := h1.rules.get hB
  obtain ⟨hsa1, hsa2⟩ := hura.sl
  obtain ⟨ro, s, t, hg, hid, hT⟩ := h1.rules.row.read hua
  obtain ⟨ro2, s2, t2, hg2, hid2, hT2⟩ := h1.rules.row.read hub
  have ea0 : cget t (soff vr + k0 * 3) = some (.i .i64 a0) := hT 0 _ rfl
  have ea1 : cget t (soff vr + k0 * 3 + 1) = some ua := hT 1 _ rfl
  obtain rfl : t2 = t := by rw [hg] at hg2; injection hg2 with e; injection e with _ _ e; exact e.symm
  have eb0 : cget t2 (soff vr + k2 * 3) = some (.i .i64 b0) := hT2 0 _ rfl
  have hwl : ar.length ≤ 9223372036854775807 := (h.wf.rules _ (List.mem_of_getElem? hA)).2.2.2
  have hbadF : badF g ((k0 : Int), x1, (k2 : Int)) = if x1 < 0 ∨ (ar.length : Int) ≤ x1 then true else match ar[x1.toNat]? with
      | some s => decide (s ≠ b0)
      | none => true := by
    unfold badF
    rw [if_neg (by simp only; omega)]
    simp only [Int.toNat_natCast, hA, hB]
    rfl
  rw [hbadF]
  show Wp fns K28_0 _ _ _
  unfold K28_0
  simp (maxSteps := 4000000) (disch := first | omega | assumption | (simp only [bxS, bxV, stOk, Nat.reduceBEq, Nat.reduceEqDiff, Nat.reduceAdd]; done) | (simp only [bxU]; omega) | ((try apply has_setN); apply has_ofL; simp only [bxL]; omega)) only [↓bxD, bxP, bxQ, Nat.reduceBEq, reduceCtorEq, Nat.reduceAdd, Nat.reduceSub, Nat.reduceMul, Nat.reduceLeDiff, Nat.reduceLT, bxR, hr1, hr2, hb0, hb1, ixA_0, ixA_1, ixA_2, hsa1, hsa2, hg, ea0, ea1, eb0]
  refine Wp_dreg_of (by omega) ?_
  simp (maxSteps := 4000000) (disch := first | omega | assumption | (simp only [bxS, bxV, stOk, Nat.reduceBEq, Nat.reduceEqDiff, Nat.reduceAdd]; done) | (simp only [bxU]; omega) | ((try apply has_setN); apply has_ofL; simp only [bxL]; omega)) only [↓bxD, bxP, bxQ, Nat.reduceBEq, reduceCtorEq, Nat.reduceAdd, Nat.reduceSub, Nat.reduceMul, Nat.reduceLeDiff, Nat.reduceLT, bxR, hr1, hr2, hb0, hb1, ixA_0, ixA_1, ixA_2, hsa1, hsa2, hg, ea0, ea1, eb0]
  refine bindP_call number_any ?_
  rintro m M2 ⟨rfl, rfl⟩
  simp (maxSteps := 4000000) (disch := first | omega | assumption | (simp only [bxS, bxV, stOk, Nat.reduceBEq, Nat.reduceEqDiff, Nat.reduceAdd]; done) | (simp only [bxU]; omega) | ((try apply has_setN); apply has_ofL; simp only [bxL]; omega)) only [↓bxD, bxP, bxQ, Nat.reduceBEq, reduceCtorEq, Nat.reduceAdd, Nat.reduceSub, Nat.reduceMul, Nat.reduceLeDiff, Nat.reduceLT, bxR, hr1, hr2, hb0, hb1, ixA_0, ixA_1, ixA_2, hsa1, hsa2, hg, ea0, ea1, eb0]
  cases c1 : isN x1 (ar.length : Int) with
  | false =>
    simp (maxSteps := 4000000) (disch := first | omega | assumption | (simp only [bxS, bxV, stOk, Nat.reduceBEq, Nat.reduceEqDiff, Nat.reduceAdd]; done) | (simp only [bxU]; omega) | ((try apply has_setN); apply has_ofL; simp only [bxL]; omega)) only [↓bxD, bxP, bxQ, Nat.reduceBEq, reduceCtorEq, Nat.reduceAdd, Nat.reduceSub, Nat.reduceMul, Nat.reduceLeDiff, Nat.reduceLT, bxR, hr1, hr2, hb0, hb1, ixA_0, ixA_1, ixA_2, hsa1, hsa2, hg, ea0, ea1, eb0, c1]
    unfold isN at c1
    simp only [Bool.and_eq_false_iff, decide_eq_false_iff_not] at c1
    rw [if_pos (by omega)]
    show Wp fns IC.ret _ _ _
    simp (maxSteps := 4000000) (disch := first | omega | assumption | (simp only [bxS, bxV, stOk, Nat.reduceBEq, Nat.reduceEqDiff, Nat.reduceAdd]; done) | (simp only [bxU]; omega) | ((try apply has_setN); apply has_ofL; simp only [bxL]; omega)) only [↓bxD, bxP, bxQ, Nat.reduceBEq, reduceCtorEq, Nat.reduceAdd, Nat.reduceSub, Nat.reduceMul, Nat.reduceLeDiff, Nat.reduceLT, bxR, hr1, hr2, hb0, hb1, ixA_0, ixA_1, ixA_2, hsa1, hsa2, hg, ea0, ea1, eb0]
    exact hx1
  | true =>
    have hc1 := c1
    unfold isN at c1
    simp only [Bool.and_eq_true, decide_eq_true_eq] at c1
    obtain ⟨k1, rfl⟩ : ∃ k : Nat, x1 = (k : Int) := ⟨x1.toNat, by omega⟩
    obtain ⟨z, hz⟩ : ∃ z, ar[k1]? = some z := ⟨_, List.getElem?_eq_getElem (by omega)⟩
    obtain ⟨ro3, s3, t3, hg3, hid3, hT3⟩ := hura.read hz
    simp (maxSteps := 4000000) (disch := first | omega | assumption | (simp only [bxS, bxV, stOk, Nat.reduceBEq, Nat.reduceEqDiff, Nat.reduceAdd]; done) | (simp only [bxU]; omega) | ((try apply has_setN); apply has_ofL; simp only [bxL]; omega)) only [↓bxD, bxP, bxQ, Nat.reduceBEq, reduceCtorEq, Nat.reduceAdd, Nat.reduceSub, Nat.reduceMul, Nat.reduceLeDiff, Nat.reduceLT, bxR, hr1, hr2, hb0, hb1, ixA_0, ixA_1, ixA_2, hsa1, hsa2, hg, ea0, ea1, eb0, hc1, hg3, hT3]
    rw [if_neg (by omega), Int.toNat_natCast, hz]
    show Wp fns IC.ret _ _ _
    simp (maxSteps := 4000000) (disch := first | omega | assumption | (simp only [bxS, bxV, stOk, Nat.reduceBEq, Nat.reduceEqDiff, Nat.reduceAdd]; done) | (simp only [bxU]; omega) | ((try apply has_setN); apply has_ofL; simp only [bxL]; omega)) only [↓bxD, bxP, bxQ, Nat.reduceBEq, reduceCtorEq, Nat.reduceAdd, Nat.reduceSub, Nat.reduceMul, Nat.reduceLeDiff, Nat.reduceLT, bxR, hr1, hr2, hb0, hb1, ixA_0, ixA_1, ixA_2, hsa1, hsa2, hg, ea0, ea1, eb0, hc1, hg3, hT3]
    exact ⟨by simp, hx1⟩
theorem wholeError_any {M : MH} {g : Gr} {vr vf vc vk : MV} {es : List (List MV)} (h : GrAt M vr vf vc vk es g) (hlo : M.lo ≤ M.n) :
    Cp fns 26 [.ag (gcs g vr vf vc vk)] M fun m M' => m = .i .i64 (numE (headE g)) ∧ Ext M M' := by
  obtain ⟨hr1, hr2⟩ := h.rules.row.sl
  rw [h.rules.len] at hr2
  obtain ⟨hf1, hf2⟩ := h.forbid.sl
  rw [List.length_map] at hf2
  obtain ⟨hc1, hc2⟩ := h.rc.sl
  obtain ⟨hk1, hk2⟩ := h.kc.sl
  obtain ⟨hw1, hw2, hw3, hw4⟩ := h.wf.lens
  refine Cp_call (fn := F26) (by kernel_rfl) (Nat.le_of_ble_eq_true rfl) ?_
  show Wp fns B26 (T.set q0 (some (.ag (gcs g vr vf vc vk))) T.lf) M _
  unfold B26
  rw [show gcs g vr vf vc vk = [MV.i IntKind.i64 g.names, MV.i IntKind.i64 g.kinds, MV.i IntKind.i64 g.start, vr, vf, vc, vk] from rfl]
  simp (maxSteps := 4000000) (disch := first | omega | assumption | (simp only [bxS, bxV, stOk, Nat.reduceBEq, Nat.reduceEqDiff, Nat.reduceAdd]; done) | (simp only [bxU]; omega) | ((try apply has_setN); apply has_ofL; simp only [bxL]; omega)) only [↓bxD, bxP, bxQ, Nat.reduceBEq, reduceCtorEq, Nat.reduceAdd, Nat.reduceSub, Nat.reduceMul, Nat.reduceLeDiff, Nat.reduceLT, bxR, hr1, hr2, hf1, hf2, hc1, hc2, hk1, hk2]
  generalize hM1 : M.push _ = M1
  have hb0 : M1.get M.n = some (.cs false 7 (ofL [MV.i IntKind.i64 g.names, MV.i IntKind.i64 g.kinds, MV.i IntKind.i64 g.start, vr, vf, vc, vk] 0)) := by rw [← hM1]; exact push_new _
  have hx1 : Ext M M1 := by rw [← hM1]; exact .push M _
  have hn1 : M1.n = M.n + 1 := by rw [← hM1]; rfl
  have hl1 := hx1.lo
  clear hM1
  have h1 := h.ext hx1
  have hq1 : ∀ (c : Prop) [Decidable c], c → decide c = true := fun c _ h => decide_eq_true h
  by_cases ca0 : g.names < 1
  · have da0 : decide (g.names < 1) = true := decide_eq_true ca0
    simp (maxSteps := 4000000) (disch := first | omega | assumption | (simp only [bxS, bxV, stOk, Nat.reduceBEq, Nat.reduceEqDiff, Nat.reduceAdd]; done) | (simp only [bxU]; omega) | ((try apply has_setN); apply has_ofL; simp only [bxL]; omega)) only [↓bxD, bxP, bxQ, Nat.reduceBEq, reduceCtorEq, Nat.reduceAdd, Nat.reduceSub, Nat.reduceMul, Nat.reduceLeDiff, Nat.reduceLT, bxR, hr1, hr2, hf1, hf2, hc1, hc2, hk1, hk2, hb0, da0]
    show Wp fns K26_1 _ _ _
    unfold K26_1
    simp (maxSteps := 4000000) (disch := first | omega | assumption | (simp only [bxS, bxV, stOk, Nat.reduceBEq, Nat.reduceEqDiff, Nat.reduceAdd]; done) | (simp only [bxU]; omega) | ((try apply has_setN); apply has_ofL; simp only [bxL]; omega)) only [↓bxD, bxP, bxQ, Nat.reduceBEq, reduceCtorEq, Nat.reduceAdd, Nat.reduceSub, Nat.reduceMul, Nat.reduceLeDiff, Nat.reduceLT, bxR, hr1, hr2, hf1, hf2, hc1, hc2, hk1, hk2, hb0, da0]
    exact ⟨by unfold headE; rw [if_pos (by omega)]; rfl, hx1⟩
  have da0 : decide (g.names < 1) = false := decide_eq_false ca0
  by_cases ca1 : 40 < g.names
  · have da1 : decide (40 < g.names) = true := decide_eq_true ca1
    simp (maxSteps := 4000000) (disch := first | omega | assumption | (simp only [bxS, bxV, stOk, Nat.reduceBEq, Nat.reduceEqDiff, Nat.reduceAdd]; done) | (simp only [bxU]; omega) | ((try apply has_setN); apply has_ofL; simp only [bxL]; omega)) only [↓bxD, bxP, bxQ, Nat.reduceBEq, reduceCtorEq, Nat.reduceAdd, Nat.reduceSub, Nat.reduceMul, Nat.reduceLeDiff, Nat.reduceLT, bxR, hr1, hr2, hf1, hf2, hc1, hc2, hk1, hk2, hb0, da0, da1]
    show Wp fns K26_1 _ _ _
    unfold K26_1
    simp (maxSteps := 4000000) (disch := first | omega | assumption | (simp only [bxS, bxV, stOk, Nat.reduceBEq, Nat.reduceEqDiff, Nat.reduceAdd]; done) | (simp only [bxU]; omega) | ((try apply has_setN); apply has_ofL; simp only [bxL]; omega)) only [↓bxD, bxP, bxQ, Nat.reduceBEq, reduceCtorEq, Nat.reduceAdd, Nat.reduceSub, Nat.reduceMul, Nat.reduceLeDiff, Nat.reduceLT, bxR, hr1, hr2, hf1, hf2, hc1, hc2, hk1, hk2, hb0, da0, da1]
    exact ⟨by unfold headE; rw [if_pos (by omega)]; rfl, hx1⟩
  have da1 : decide (40 < g.names) = false := decide_eq_false ca1
  by_cases ca2 : g.kinds < 0
  · have da2 : decide (g.kinds < 0) = true := decide_eq_true ca2
    simp (maxSteps := 4000000) (disch := first | omega | assumption | (simp only [bxS, bxV, stOk, Nat.reduceBEq, Nat.reduceEqDiff, Nat.reduceAdd]; done) | (simp only [bxU]; omega) | ((try apply has_setN); apply has_ofL; simp only [bxL]; omega)) only [↓bxD, bxP, bxQ, Nat.reduceBEq, reduceCtorEq, Nat.reduceAdd, Nat.reduceSub, Nat.reduceMul, Nat.reduceLeDiff, Nat.reduceLT, bxR, hr1, hr2, hf1, hf2, hc1, hc2, hk1, hk2, hb0, da0, da1, da2]
    show Wp fns K26_1 _ _ _
    unfold K26_1
    simp (maxSteps := 4000000) (disch := first | omega | assumption | (simp only [bxS, bxV, stOk, Nat.reduceBEq, Nat.reduceEqDiff, Nat.reduceAdd]; done) | (simp only [bxU]; omega) | ((try apply has_setN); apply has_ofL; simp only [bxL]; omega)) only [↓bxD, bxP, bxQ, Nat.reduceBEq, reduceCtorEq, Nat.reduceAdd, Nat.reduceSub, Nat.reduceMul, Nat.reduceLeDiff, Nat.reduceLT, bxR, hr1, hr2, hf1, hf2, hc1, hc2, hk1, hk2, hb0, da0, da1, da2]
    exact ⟨by unfold headE; rw [if_pos (by omega)]; rfl, hx1⟩
  have da2 : decide (g.kinds < 0) = false := decide_eq_false ca2
  by_cases ca3 : 40 < g.kinds
  · have da3 : decide (40 < g.kinds) = true := decide_eq_true ca3
    simp (maxSteps := 4000000) (disch := first | omega | assumption | (simp only [bxS, bxV, stOk, Nat.reduceBEq, Nat.reduceEqDiff, Nat.reduceAdd]; done) | (simp only [bxU]; omega) | ((try apply has_setN); apply has_ofL; simp only [bxL]; omega)) only [↓bxD, bxP, bxQ, Nat.reduceBEq, reduceCtorEq, Nat.reduceAdd, Nat.reduceSub, Nat.reduceMul, Nat.reduceLeDiff, Nat.reduceLT, bxR, hr1, hr2, hf1, hf2, hc1, hc2, hk1, hk2, hb0, da0, da1, da2, da3]
    show Wp fns K26_1 _ _ _
    unfold K26_1
    simp (maxSteps := 4000000) (disch := first | omega | assumption | (simp only [bxS, bxV, stOk, Nat.reduceBEq, Nat.reduceEqDiff, Nat.reduceAdd]; done) | (simp only [bxU]; omega) | ((try apply has_setN); apply has_ofL; simp only [bxL]; omega)) only [↓bxD, bxP, bxQ, Nat.reduceBEq, reduceCtorEq, Nat.reduceAdd, Nat.reduceSub, Nat.reduceMul, Nat.reduceLeDiff, Nat.reduceLT, bxR, hr1, hr2, hf1, hf2, hc1, hc2, hk1, hk2, hb0, da0, da1, da2, da3]
    exact ⟨by unfold headE; rw [if_pos (by omega)]; rfl, hx1⟩
  have da3 : decide (40 < g.kinds) = false := decide_eq_false ca3
  by_cases ca4 : (60 : Int) < (g.rules.length : Int)
  · have da4 : decide ((60 : Int) < (g.rules.length : Int)) = true := decide_eq_true ca4
    simp (maxSteps := 4000000) (disch := first | omega | assumption | (simp only [bxS, bxV, stOk, Nat.reduceBEq, Nat.reduceEqDiff, Nat.reduceAdd]; done) | (simp only [bxU]; omega) | ((try apply has_setN); apply has_ofL; simp only [bxL]; omega)) only [↓bxD, bxP, bxQ, Nat.reduceBEq, reduceCtorEq, Nat.reduceAdd, Nat.reduceSub, Nat.reduceMul, Nat.reduceLeDiff, Nat.reduceLT, bxR, hr1, hr2, hf1, hf2, hc1, hc2, hk1, hk2, hb0, da0, da1, da2, da3, da4]
    show Wp fns K26_1 _ _ _
    unfold K26_1
    simp (maxSteps := 4000000) (disch := first | omega | assumption | (simp only [bxS, bxV, stOk, Nat.reduceBEq, Nat.reduceEqDiff, Nat.reduceAdd]; done) | (simp only [bxU]; omega) | ((try apply has_setN); apply has_ofL; simp only [bxL]; omega)) only [↓bxD, bxP, bxQ, Nat.reduceBEq, reduceCtorEq, Nat.reduceAdd, Nat.reduceSub, Nat.reduceMul, Nat.reduceLeDiff, Nat.reduceLT, bxR, hr1, hr2, hf1, hf2, hc1, hc2, hk1, hk2, hb0, da0, da1, da2, da3, da4]
    exact ⟨by unfold headE; rw [if_pos (by omega)]; rfl, hx1⟩
  have da4 : decide ((60 : Int) < (g.rules.length : Int)) = false := decide_eq_false ca4
  by_cases ca5 : (200 : Int) < (g.forbid.length : Int)
  · have da5 : decide ((200 : Int) < (g.forbid.length : Int)) = true := decide_eq_true ca5
    simp (maxSteps := 4000000) (disch := first | omega | assumption | (simp only [bxS, bxV, stOk, Nat.reduceBEq, Nat.reduceEqDiff, Nat.reduceAdd]; done) | (simp only [bxU]; omega) | ((try apply has_setN); apply has_ofL; simp only [bxL]; omega)) only [↓bxD, bxP, bxQ, Nat.reduceBEq, reduceCtorEq, Nat.reduceAdd, Nat.reduceSub, Nat.reduceMul, Nat.reduceLeDiff, Nat.reduceLT, bxR, hr1, hr2, hf1, hf2, hc1, hc2, hk1, hk2, hb0, da0, da1, da2, da3, da4, da5]
    show Wp fns K26_1 _ _ _
    unfold K26_1
    simp (maxSteps := 4000000) (disch := first | omega | assumption | (simp only [bxS, bxV, stOk, Nat.reduceBEq, Nat.reduceEqDiff, Nat.reduceAdd]; done) | (simp only [bxU]; omega) | ((try apply has_setN); apply has_ofL; simp only [bxL]; omega)) only [↓bxD, bxP, bxQ, Nat.reduceBEq, reduceCtorEq, Nat.reduceAdd, Nat.reduceSub, Nat.reduceMul, Nat.reduceLeDiff, Nat.reduceLT, bxR, hr1, hr2, hf1, hf2, hc1, hc2, hk1, hk2, hb0, da0, da1, da2, da3, da4, da5]
    exact ⟨by unfold headE; rw [if_pos (by omega)]; rfl, hx1⟩
  have da5 : decide ((200 : Int) < (g.forbid.length : Int)) = false := decide_eq_false ca5
  simp (maxSteps := 4000000) (disch := first | omega | assumption | (simp only [bxS, bxV, stOk, Nat.reduceBEq, Nat.reduceEqDiff, Nat.reduceAdd]; done) | (simp only [bxU]; omega) | ((try apply has_setN); apply has_ofL; simp only [bxL]; omega)) only [↓bxD, bxP, bxQ, Nat.reduceBEq, reduceCtorEq, Nat.reduceAdd, Nat.reduceSub, Nat.reduceMul, Nat.reduceLeDiff, Nat.reduceLT, bxR, hr1, hr2, hf1, hf2, hc1, hc2, hk1, hk2, hb0, da0, da1, da2, da3, da4, da5]
  show Wp fns K26_1 _ _ _
  unfold K26_1
  simp (maxSteps := 4000000) (disch := first | omega | assumption | (simp only [bxS, bxV, stOk, Nat.reduceBEq, Nat.reduceEqDiff, Nat.reduceAdd]; done) | (simp only [bxU]; omega) | ((try apply has_setN); apply has_ofL; simp only [bxL]; omega)) only [↓bxD, bxP, bxQ, Nat.reduceBEq, reduceCtorEq, Nat.reduceAdd, Nat.reduceSub, Nat.reduceMul, Nat.reduceLeDiff, Nat.reduceLT, bxR, hr1, hr2, hf1, hf2, hc1, hc2, hk1, hk2, hb0, da0, da1, da2, da3, da4, da5]
  have hh1 : ¬ (g.names < 1 ∨ 40 < g.names ∨ g.kinds < 0 ∨ 40 < g.kinds ∨ (60 : Int) < (g.rules.length : Int) ∨ (200 : Int) < (g.forbid.length : Int)) := by omega
  refine bindP_call number_any ?_
  rintro m M2 ⟨rfl, rfl⟩
  simp (maxSteps := 4000000) (disch := first | omega | assumption | (simp only [bxS, bxV, stOk, Nat.reduceBEq, Nat.reduceEqDiff, Nat.reduceAdd]; done) | (simp only [bxU]; omega) | ((try apply has_setN); apply has_ofL; simp only [bxL]; omega)) only [↓bxD, bxP, bxQ, Nat.reduceBEq, reduceCtorEq, Nat.reduceAdd, Nat.reduceSub, Nat.reduceMul, Nat.reduceLeDiff, Nat.reduceLT, bxR, hr1, hr2, hf1, hf2, hc1, hc2, hk1, hk2, hb0, da0, da1, da2, da3, da4, da5]
  cases cs : isN g.start g.names with
  | false =>
    simp (maxSteps := 4000000) (disch := first | omega | assumption | (simp only [bxS, bxV, stOk, Nat.reduceBEq, Nat.reduceEqDiff, Nat.reduceAdd]; done) | (simp only [bxU]; omega) | ((try apply has_setN); apply has_ofL; simp only [bxL]; omega)) only [↓bxD, bxP, bxQ, Nat.reduceBEq, reduceCtorEq, Nat.reduceAdd, Nat.reduceSub, Nat.reduceMul, Nat.reduceLeDiff, Nat.reduceLT, bxR, hr1, hr2, hf1, hf2, hc1, hc2, hk1, hk2, hb0, da0, da1, da2, da3, da4, da5, cs]
    unfold isN at cs
    simp only [Bool.and_eq_false_iff, decide_eq_false_iff_not] at cs
    exact ⟨by unfold headE; rw [if_neg hh1, if_pos (by omega)]; rfl, hx1⟩
  | true =>
  simp (maxSteps := 4000000) (disch := first | omega | assumption | (simp only [bxS, bxV, stOk, Nat.reduceBEq, Nat.reduceEqDiff, Nat.reduceAdd]; done) | (simp only [bxU]; omega) | ((try apply has_setN); apply has_ofL; simp only [bxL]; omega)) only [↓bxD, bxP, bxQ, Nat.reduceBEq, reduceCtorEq, Nat.reduceAdd, Nat.reduceSub, Nat.reduceMul, Nat.reduceLeDiff, Nat.reduceLT, bxR, hr1, hr2, hf1, hf2, hc1, hc2, hk1, hk2, hb0, cs]
  unfold isN at cs
  simp only [Bool.and_eq_true, decide_eq_true_eq] at cs
  refine bindP_call (areClasses_any h1.rc hw3) ?_
  rintro m M2 ⟨rfl, hx2⟩
  have hb2 := (hx2.old _ (by omega)).trans hb0
  have hn2 := hx2.n
  simp (maxSteps := 4000000) (disch := first | omega | assumption | (simp only [bxS, bxV, stOk, Nat.reduceBEq, Nat.reduceEqDiff, Nat.reduceAdd]; done) | (simp only [bxU]; omega) | ((try apply has_setN); apply has_ofL; simp only [bxL]; omega)) only [↓bxD, bxP, bxQ, Nat.reduceBEq, reduceCtorEq, Nat.reduceAdd, Nat.reduceSub, Nat.reduceMul, Nat.reduceLeDiff, Nat.reduceLT, bxR, hr1, hr2, hf1, hf2, hc1, hc2, hk1, hk2, hb2]
  have hh2 : headE g = if (g.rules.length : Int) < (g.rc.length : Int) ∨ g.kinds < (g.kc.length : Int) ∨ clsB g.rc = false ∨ clsB g.kc = false then some 1 else none := by
    unfold headE
    rw [if_neg hh1, if_neg (by omega)]
  cases e1 : (decide ((g.rc.length : Int) ≤ (g.rules.length : Int)) && clsB g.rc) with
  | false =>
    simp (maxSteps := 4000000) (disch := first | omega | assumption | (simp only [bxS, bxV, stOk, Nat.reduceBEq, Nat.reduceEqDiff, Nat.reduceAdd]; done) | (simp only [bxU]; omega) | ((try apply has_setN); apply has_ofL; simp only [bxL]; omega)) only [↓bxD, bxP, bxQ, Nat.reduceBEq, reduceCtorEq, Nat.reduceAdd, Nat.reduceSub, Nat.reduceMul, Nat.reduceLeDiff, Nat.reduceLT, bxR, hr1, hr2, hf1, hf2, hc1, hc2, hk1, hk2, hb2, e1]
    show Wp fns K26_0 _ _ _
    unfold K26_0
    simp (maxSteps := 4000000) (disch := first | omega | assumption | (simp only [bxS, bxV, stOk, Nat.reduceBEq, Nat.reduceEqDiff, Nat.reduceAdd]; done) | (simp only [bxU]; omega) | ((try apply has_setN); apply has_ofL; simp only [bxL]; omega)) only [↓bxD, bxP, bxQ, Nat.reduceBEq, reduceCtorEq, Nat.reduceAdd, Nat.reduceSub, Nat.reduceMul, Nat.reduceLeDiff, Nat.reduceLT, bxR, hr1, hr2, hf1, hf2, hc1, hc2, hk1, hk2, hb2]
    simp only [Bool.and_eq_false_iff, decide_eq_false_iff_not] at e1
    exact ⟨by rw [hh2, if_pos (by rcases e1 with e1 | e1; exact .inl (by omega); exact .inr (.inr (.inl e1)))]; rfl, hx1.trans hx2⟩
  | true =>
  simp (maxSteps := 4000000) (disch := first | omega | assumption | (simp only [bxS, bxV, stOk, Nat.reduceBEq, Nat.reduceEqDiff, Nat.reduceAdd]; done) | (simp only [bxU]; omega) | ((try apply has_setN); apply has_ofL; simp only [bxL]; omega)) only [↓bxD, bxP, bxQ, Nat.reduceBEq, reduceCtorEq, Nat.reduceAdd, Nat.reduceSub, Nat.reduceMul, Nat.reduceLeDiff, Nat.reduceLT, bxR, hr1, hr2, hf1, hf2, hc1, hc2, hk1, hk2, hb2, e1]
  refine bindP_call (areClasses_any (h1.kc.ext hx2) hw4) ?_
  rintro m M3 ⟨rfl, hx3⟩
  simp (maxSteps := 4000000) (disch := first | omega | assumption | (simp only [bxS, bxV, stOk, Nat.reduceBEq, Nat.reduceEqDiff, Nat.reduceAdd]; done) | (simp only [bxU]; omega) | ((try apply has_setN); apply has_ofL; simp only [bxL]; omega)) only [↓bxD, bxP, bxQ, Nat.reduceBEq, reduceCtorEq, Nat.reduceAdd, Nat.reduceSub, Nat.reduceMul, Nat.reduceLeDiff, Nat.reduceLT, bxR, hr1, hr2, hf1, hf2, hc1, hc2, hk1, hk2, hb2]
  simp only [Bool.and_eq_true, decide_eq_true_eq] at e1
  cases e2 : (decide ((g.kc.length : Int) ≤ g.kinds) && clsB g.kc) with
  | false =>
    simp (maxSteps := 4000000) (disch := first | omega | assumption | (simp only [bxS, bxV, stOk, Nat.reduceBEq, Nat.reduceEqDiff, Nat.reduceAdd]; done) | (simp only [bxU]; omega) | ((try apply has_setN); apply has_ofL; simp only [bxL]; omega)) only [↓bxD, bxP, bxQ, Nat.reduceBEq, reduceCtorEq, Nat.reduceAdd, Nat.reduceSub, Nat.reduceMul, Nat.reduceLeDiff, Nat.reduceLT, bxR, hr1, hr2, hf1, hf2, hc1, hc2, hk1, hk2, hb2, e2]
    show Wp fns K26_0 _ _ _
    unfold K26_0
    simp (maxSteps := 4000000) (disch := first | omega | assumption | (simp only [bxS, bxV, stOk, Nat.reduceBEq, Nat.reduceEqDiff, Nat.reduceAdd]; done) | (simp only [bxU]; omega) | ((try apply has_setN); apply has_ofL; simp only [bxL]; omega)) only [↓bxD, bxP, bxQ, Nat.reduceBEq, reduceCtorEq, Nat.reduceAdd, Nat.reduceSub, Nat.reduceMul, Nat.reduceLeDiff, Nat.reduceLT, bxR, hr1, hr2, hf1, hf2, hc1, hc2, hk1, hk2, hb2]
    simp only [Bool.and_eq_false_iff, decide_eq_false_iff_not] at e2
    exact ⟨by rw [hh2, if_pos (by rcases e2 with e2 | e2; exact .inr (.inl (by omega)); exact .inr (.inr (.inr e2)))]; rfl, (hx1.trans hx2).trans hx3⟩
  | true =>
  simp (maxSteps := 4000000) (disch := first | omega | assumption | (simp only [bxS, bxV, stOk, Nat.reduceBEq, Nat.reduceEqDiff, Nat.reduceAdd]; done) | (simp only [bxU]; omega) | ((try apply has_setN); apply has_ofL; simp only [bxL]; omega)) only [↓bxD, bxP, bxQ, Nat.reduceBEq, reduceCtorEq, Nat.reduceAdd, Nat.reduceSub, Nat.reduceMul, Nat.reduceLeDiff, Nat.reduceLT, bxR, hr1, hr2, hf1, hf2, hc1, hc2, hk1, hk2, hb2, e2]
  show Wp fns K26_0 _ _ _
  unfold K26_0
  simp (maxSteps := 4000000) (disch := first | omega | assumption | (simp only [bxS, bxV, stOk, Nat.reduceBEq, Nat.reduceEqDiff, Nat.reduceAdd]; done) | (simp only [bxU]; omega) | ((try apply has_setN); apply has_ofL; simp only [bxL]; omega)) only [↓bxD, bxP, bxQ, Nat.reduceBEq, reduceCtorEq, Nat.reduceAdd, Nat.reduceSub, Nat.reduceMul, Nat.reduceLeDiff, Nat.reduceLT, bxR, hr1, hr2, hf1, hf2, hc1, hc2, hk1, hk2, hb2]
  show Wp fns K26_2 _ _ _
  unfold K26_2
  simp (maxSteps := 4000000) (disch := first | omega | assumption | (simp only [bxS, bxV, stOk, Nat.reduceBEq, Nat.reduceEqDiff, Nat.reduceAdd]; done) | (simp only [bxU]; omega) | ((try apply has_setN); apply has_ofL; simp only [bxL]; omega)) only [↓bxD, bxP, bxQ, Nat.reduceBEq, reduceCtorEq, Nat.reduceAdd, Nat.reduceSub, Nat.reduceMul, Nat.reduceLeDiff, Nat.reduceLT, bxR, hr1, hr2, hf1, hf2, hc1, hc2, hk1, hk2, hb2]
  simp only [Bool.and_eq_true, decide_eq_true_eq] at e2
  refine ⟨?_, (hx1.trans hx2).trans hx3⟩
  rw [hh2, if_neg]
  · rfl
  · rintro (x | x | x | x)
    · omega
    · omega
    · rw [e1.2] at x; cases x
    · rw [e2.2] at x; cases x
theorem pform_forb {M0 M : MH} {g : Gr} {vr vf vc vk : MV} {es : List (List MV)} {f : Fr} (h : Rdy M0 M g vr vf vc vk es f) (hh : headE g = none) (hr : findE (ruleE g) g.rules 0 = none) : Wp fns K23_7 f M (retQ F23 (FormPost g M0)) := by
  have hq := h.fr
  have hbox := h.box
  obtain ⟨hf1, hf2⟩ := h.gr.forbid.sl
  rw [List.length_map] at hf2
  simp only [q1] at hq
  unfold gcs at hbox
  unfold K23_7
  simp (maxSteps := 4000000) (disch := first | omega | assumption | (simp only [bxS, bxV, stOk, Nat.reduceBEq, Nat.reduceEqDiff, Nat.reduceAdd]; done) | (simp only [bxU]; omega) | ((try apply has_setN); apply has_ofL; simp only [bxL]; omega)) only [↓bxD, bxP, bxQ, Nat.reduceBEq, reduceCtorEq, Nat.reduceAdd, Nat.reduceSub, Nat.reduceMul, Nat.reduceLeDiff, Nat.reduceLT, bxR, hq, hbox, hf1, hf2]
  refine Wp_inv (σ := Nat) (fun i f M' => Rdy M0 M' g vr vf vc vk es f ∧ i ≤ g.forbid.length ∧ X.ev f (.t q32) = vf ∧ X.ev f (.t q33) = .i .i64 (g.forbid.length : Int) ∧ X.ev f (.t q34) = .i .i64 (i : Int) ∧ (g.forbid.take i).any (badF g) = false) (fun i => g.forbid.length - i) ?_ 0 ?_
  · rintro i f M' ⟨h, hi, h32, h33, h34, hp⟩
    have hq := h.fr
    have hlo := h.lo0
    have hn := h.ext.n
    have hl := h.ext.lo
    have hlt := h.lt
    have hbox := h.box
    obtain ⟨hw1, hw2, _, _⟩ := h.gr.wf.lens
    simp only [q1, q32, q33, q34] at hq h32 h33 h34
    unfold gcs at hbox
    unfold L23_5
    simp (maxSteps := 4000000) (disch := first | omega | assumption | (simp only [bxS, bxV, stOk, Nat.reduceBEq, Nat.reduceEqDiff, Nat.reduceAdd]; done) | (simp only [bxU]; omega) | ((try apply has_setN); apply has_ofL; simp only [bxL]; omega)) only [↓bxD, bxP, bxQ, Nat.reduceBEq, reduceCtorEq, Nat.reduceAdd, Nat.reduceSub, Nat.reduceMul, Nat.reduceLeDiff, Nat.reduceLT, bxR, hq, h32, h33, h34, hf1, hf2]
    refine condP_split (fun hlt2 => ?_) (fun hge => ?_)
    · have hi' : i < g.forbid.length := by omega
      obtain ⟨x, hz⟩ : ∃ x, g.forbid[i]? = some x := ⟨_, List.getElem?_eq_getElem hi'⟩
      obtain ⟨x0, x1, x2⟩ := x
      obtain ⟨ro, s, t, hg, hid, hat⟩ := h.gr.forbid.read (i := i) (e := trip (x0, x1, x2)) (by rw [List.getElem?_map, hz]; rfl)
      have hN : Ev.getN t 3 (soff vf + i * 3) = some (trip (x0, x1, x2)) := hat.getN
      unfold trip at hN
      have hany : g.forbid.any (badF g) = ((g.forbid.take (i + 1)).any (badF g) || (g.forbid.drop (i + 1)).any (badF g)) := by rw [← List.any_append, List.take_append_drop]
      have htk : (g.forbid.take (i + 1)).any (badF g) = badF g (x0, x1, x2) := by rw [List.take_add_one, hz, List.any_append, hp]; simp
      have hbad : badF g (x0, x1, x2) = true → formP g = (-1, 6) := fun e => by unfold formP; rw [hh, hr]; simp only; rw [if_pos (by rw [hany, htk, e]; rfl)]
      have hG : Ev.getN (ofL [MV.i IntKind.i64 g.names, MV.i IntKind.i64 g.kinds, MV.i IntKind.i64 g.start, vr, vf, vc, vk] 0) 7 0 = some (gcs g vr vf vc vk) := (at_ofL (gcs g vr vf vc vk)).getN
      simp (maxSteps := 4000000) (disch := first | omega | assumption | (simp only [bxS, bxV, stOk, Nat.reduceBEq, Nat.reduceEqDiff, Nat.reduceAdd]; done) | (simp only [bxU]; omega) | ((try apply has_setN); apply has_ofL; simp only [bxL]; omega)) only [↓bxD, bxP, bxQ, Nat.reduceBEq, reduceCtorEq, Nat.reduceAdd, Nat.reduceSub, Nat.reduceMul, Nat.reduceLeDiff, Nat.reduceLT, bxR, hq, h32, h33, h34, hf1, hf2, hg, hN, hG]
      show Wp fns K23_4 _ _ _
      unfold K23_4
      simp (maxSteps := 4000000) (disch := first | omega | assumption | (simp only [bxS, bxV, stOk, Nat.reduceBEq, Nat.reduceEqDiff, Nat.reduceAdd]; done) | (simp only [bxU]; omega) | ((try apply has_setN); apply has_ofL; simp only [bxL]; omega)) only [↓bxD, bxP, bxQ, Nat.reduceBEq, reduceCtorEq, Nat.reduceAdd, Nat.reduceSub, Nat.reduceMul, Nat.reduceLeDiff, Nat.reduceLT, bxR, hq, h32, h33, h34, hf1, hf2, hg, hN, hG]
      generalize hM2 : (M'.push _).set M'.n _ = M2
      have hx2 : Ext M' M2 := by rw [← hM2]; exact (Ext.push M' _).set _ (Nat.le_refl _)
      have hn2 := hx2.n
      have hl2 := hx2.lo
      have h9 : M2.get M'.n = some (.cs false 3 (setN [.i .i64 x0, .i .i64 x1, .i .i64 x2] 0 (ofL [.i .i64 0, .i .i64 0, .i .i64 0] 0))) := by rw [← hM2, set_same]
      have hbox2 := (hx2.old _ hlt).trans hbox
      have hgr := h.gr.ext hx2
      clear hM2
      have hxx := h.ext.trans hx2
      simp (maxSteps := 4000000) (disch := first | omega | assumption | (simp only [bxS, bxV, stOk, Nat.reduceBEq, Nat.reduceEqDiff, Nat.reduceAdd]; done) | (simp only [bxU]; omega) | ((try apply has_setN); apply has_ofL; simp only [bxL]; omega)) only [↓bxD, bxP, bxQ, Nat.reduceBEq, reduceCtorEq, Nat.reduceAdd, Nat.reduceSub, Nat.reduceMul, Nat.reduceLeDiff, Nat.reduceLT, bxR, hq, h32, h33, h34, hf1, hf2, hG, hbox, hbox2, h9]
      refine bindP_call (canForbid_any hgr (by omega)) ?_
      rintro m M3 ⟨rfl, hx3⟩
      simp (maxSteps := 4000000) (disch := first | omega | assumption | (simp only [bxS, bxV, stOk, Nat.reduceBEq, Nat.reduceEqDiff, Nat.reduceAdd]; done) | (simp only [bxU]; omega) | ((try apply has_setN); apply has_ofL; simp only [bxL]; omega)) only [↓bxD, bxP, bxQ, Nat.reduceBEq, reduceCtorEq, Nat.reduceAdd, Nat.reduceSub, Nat.reduceMul, Nat.reduceLeDiff, Nat.reduceLT, bxR, hq, h32, h33, h34, hf1, hf2, hG, hbox, hbox2, h9]
      cases hb : badF g (x0, x1, x2) with
      | true =>
        simp (maxSteps := 4000000) (disch := first | omega | assumption | (simp only [bxS, bxV, stOk, Nat.reduceBEq, Nat.reduceEqDiff, Nat.reduceAdd]; done) | (simp only [bxU]; omega) | ((try apply has_setN); apply has_ofL; simp only [bxL]; omega)) only [↓bxD, bxP, bxQ, Nat.reduceBEq, reduceCtorEq, Nat.reduceAdd, Nat.reduceSub, Nat.reduceMul, Nat.reduceLeDiff, Nat.reduceLT, bxR, hq, h32, h33, h34, hf1, hf2, hG, hbox, hbox2, h9, hb]
        have e : formP g = (-1, 6) := hbad hb
        unfold FormPost
        rw [e]
        exact ⟨rfl, hxx.trans hx3⟩
      | false =>
        simp (maxSteps := 4000000) (disch := first | omega | assumption | (simp only [bxS, bxV, stOk, Nat.reduceBEq, Nat.reduceEqDiff, Nat.reduceAdd]; done) | (simp only [bxU]; omega) | ((try apply has_setN); apply has_ofL; simp only [bxL]; omega)) only [↓bxD, bxP, bxQ, Nat.reduceBEq, reduceCtorEq, Nat.reduceAdd, Nat.reduceSub, Nat.reduceMul, Nat.reduceLeDiff, Nat.reduceLT, bxR, hq, h32, h33, h34, hf1, hf2, hG, hbox, hbox2, h9, hb]
        show Wp fns K23_3 _ _ _
        unfold K23_3
        simp (maxSteps := 4000000) (disch := first | omega | assumption | (simp only [bxS, bxV, stOk, Nat.reduceBEq, Nat.reduceEqDiff, Nat.reduceAdd]; done) | (simp only [bxU]; omega) | ((try apply has_setN); apply has_ofL; simp only [bxL]; omega)) only [↓bxD, bxP, bxQ, Nat.reduceBEq, reduceCtorEq, Nat.reduceAdd, Nat.reduceSub, Nat.reduceMul, Nat.reduceLeDiff, Nat.reduceLT, bxR, hq, h32, h33, h34, hf1, hf2, hG, hbox, hbox2, h9]
        have hn3 := hx3.n
        refine ⟨i + 1, by omega, ⟨hgr.ext hx3, hxx.trans hx3, h.lo0, by omega, (hx3.old _ (by omega)).trans hbox2, by simp only [bxP, bxQ, reduceCtorEq, hq, h32, h33, h34, hf1, hf2, hG, hbox, hbox2, h9]⟩, by omega, rfl, by rw [htk, hb]⟩
    · have hi' : i = g.forbid.length := by omega
      subst hi'
      rw [List.take_length] at hp
      simp (maxSteps := 4000000) (disch := first | omega | assumption | (simp only [bxS, bxV, stOk, Nat.reduceBEq, Nat.reduceEqDiff, Nat.reduceAdd]; done) | (simp only [bxU]; omega) | ((try apply has_setN); apply has_ofL; simp only [bxL]; omega)) only [↓bxD, bxP, bxQ, Nat.reduceBEq, reduceCtorEq, Nat.reduceAdd, Nat.reduceSub, Nat.reduceMul, Nat.reduceLeDiff, Nat.reduceLT, bxR, hq, h32, h33, h34, hf1, hf2]
      show Wp fns K23_6 _ _ _
      unfold K23_6
      simp (maxSteps := 4000000) (disch := first | omega | assumption | (simp only [bxS, bxV, stOk, Nat.reduceBEq, Nat.reduceEqDiff, Nat.reduceAdd]; done) | (simp only [bxU]; omega) | ((try apply has_setN); apply has_ofL; simp only [bxL]; omega)) only [↓bxD, bxP, bxQ, Nat.reduceBEq, reduceCtorEq, Nat.reduceAdd, Nat.reduceSub, Nat.reduceMul, Nat.reduceLeDiff, Nat.reduceLT, bxR, hq, h32, h33, h34, hf1, hf2]
      have e : formP g = (-1, 0) := by unfold formP; rw [hh, hr]; simp only; rw [if_neg (by rw [hp]; simp)]
      unfold FormPost
      rw [e]
      exact ⟨rfl, h.ext⟩
  · exact ⟨⟨h.gr, h.ext, h.lo0, h.lt, h.box, by simp only [bxP, bxQ, reduceCtorEq, hq, hbox, hf1, hf2]⟩, Nat.zero_le _, by simp only [bxP, bxQ, reduceCtorEq, hq, hbox, hf1, hf2], by simp only [bxP, bxQ, reduceCtorEq, hq, hbox, hf1, hf2], by simp only [bxP, bxQ, reduceCtorEq, hq, hbox, hf1, hf2] <;> rfl, rfl⟩
theorem pform_rules {M0 M : MH} {g : Gr} {vr vf vc vk : MV} {es : List (List MV)} {f : Fr} (h : Rdy M0 M g vr vf vc vk es f) (hh : headE g = none) : Wp fns K23_8 f M (retQ F23 (FormPost g M0)) := by
  have hq := h.fr
  have hbox := h.box
  obtain ⟨hr1, hr2⟩ := h.gr.rules.row.sl
  rw [h.gr.rules.len] at hr2
  simp only [q1] at hq
  unfold gcs at hbox
  unfold K23_8
  simp (maxSteps := 4000000) (disch := first | omega | assumption | (simp only [bxS, bxV, stOk, Nat.reduceBEq, Nat.reduceEqDiff, Nat.reduceAdd]; done) | (simp only [bxU]; omega) | ((try apply has_setN); apply has_ofL; simp only [bxL]; omega)) only [↓bxD, bxP, bxQ, Nat.reduceBEq, reduceCtorEq, Nat.reduceAdd, Nat.reduceSub, Nat.reduceMul, Nat.reduceLeDiff, Nat.reduceLT, bxR, hq, hbox, hr1, hr2]
  refine Wp_inv (σ := Nat) (fun i f M' => Rdy M0 M' g vr vf vc vk es f ∧ i ≤ g.rules.length ∧ X.ev f (.t q16) = vr ∧ X.ev f (.t q17) = .i .i64 (g.rules.length : Int) ∧ X.ev f (.t q18) = .i .i64 (i : Int) ∧ findE (ruleE g) g.rules 0 = findE (ruleE g) (g.rules.drop i) i) (fun i => g.rules.length - i) ?_ 0 ?_
  · rintro i f M' ⟨h, hi, h16, h17, h18, hp⟩
    have hq := h.fr
    have hlo := h.lo0
    have hn := h.ext.n
    have hl := h.ext.lo
    have hlt := h.lt
    have hbox := h.box
    obtain ⟨hw1, hw2, _, _⟩ := h.gr.wf.lens
    simp only [q1, q16, q17, q18] at hq h16 h17 h18
    unfold gcs at hbox
    unfold L23_2
    simp (maxSteps := 4000000) (disch := first | omega | assumption | (simp only [bxS, bxV, stOk, Nat.reduceBEq, Nat.reduceEqDiff, Nat.reduceAdd]; done) | (simp only [bxU]; omega) | ((try apply has_setN); apply has_ofL; simp only [bxL]; omega)) only [↓bxD, bxP, bxQ, Nat.reduceBEq, reduceCtorEq, Nat.reduceAdd, Nat.reduceSub, Nat.reduceMul, Nat.reduceLeDiff, Nat.reduceLT, bxR, hq, h16, h17, h18, hr1, hr2]
    refine condP_split (fun hlt2 => ?_) (fun hge => ?_)
    · have hi' : i < g.rules.length := by omega
      obtain ⟨x, hz⟩ : ∃ x, g.rules[i]? = some x := ⟨_, List.getElem?_eq_getElem hi'⟩
      obtain ⟨a0, ar, a2⟩ := x
      obtain ⟨ua, hua, hura⟩ : ∃ u1, es[i]? = some [.i .i64 a0, u1, .i .i64 a2] ∧ IntRow _ u1 ar := h.gr.rules.get hz
      obtain ⟨hsu1, hsu2⟩ := hura.sl
      obtain ⟨ro, s, t, hg, hid, hat⟩ := h.gr.rules.row.read hua
      have hN : Ev.getN t 3 (soff vr + i * 3) = some [.i .i64 a0, ua, .i .i64 a2] := hat.getN
      have hone : MV.one ua = true := isSl_one hsu1
      have hwr := h.gr.wf.rules _ (List.mem_of_getElem? hz)
      have hdrop := findE_drop (f := ruleE g) hz
      have hG : Ev.getN (ofL [MV.i IntKind.i64 g.names, MV.i IntKind.i64 g.kinds, MV.i IntKind.i64 g.start, vr, vf, vc, vk] 0) 7 0 = some (gcs g vr vf vc vk) := (at_ofL (gcs g vr vf vc vk)).getN
      have hst : stOk 3 (.ag [.i .i64 a0, ua, .i .i64 a2]) = true := by cases ua <;> first | rfl | cases hsu1
      simp (maxSteps := 4000000) (disch := first | omega | assumption | (simp only [bxS, bxV, stOk, Nat.reduceBEq, Nat.reduceEqDiff, Nat.reduceAdd]; done) | (simp only [bxU]; omega) | ((try apply has_setN); apply has_ofL; simp only [bxL]; omega)) only [↓bxD, bxP, bxQ, Nat.reduceBEq, reduceCtorEq, Nat.reduceAdd, Nat.reduceSub, Nat.reduceMul, Nat.reduceLeDiff, Nat.reduceLT, bxR, hq, h16, h17, h18, hr1, hr2, hg, hN, hG]
      show Wp fns K23_1 _ _ _
      unfold K23_1
      simp (maxSteps := 4000000) (disch := first | omega | assumption | (simp only [bxS, bxV, stOk, Nat.reduceBEq, Nat.reduceEqDiff, Nat.reduceAdd]; done) | (simp only [bxU]; omega) | ((try apply has_setN); apply has_ofL; simp only [bxL]; omega)) only [↓bxD, bxP, bxQ, Nat.reduceBEq, reduceCtorEq, Nat.reduceAdd, Nat.reduceSub, Nat.reduceMul, Nat.reduceLeDiff, Nat.reduceLT, bxR, hq, h16, h17, h18, hr1, hr2, hg, hN, hG]
      generalize hM2 : (M'.push _).set M'.n _ = M2
      have hx2 : Ext M' M2 := by rw [← hM2]; exact (Ext.push M' _).set _ (Nat.le_refl _)
      have hn2 := hx2.n
      have hl2 := hx2.lo
      have h9 : M2.get M'.n = some (.cs false 3 (setN [.i .i64 a0, ua, .i .i64 a2] 0 (ofL [.i .i64 0, .nils, .i .i64 0] 0))) := by rw [← hM2, set_same]
      have hbox2 := (hx2.old _ hlt).trans hbox
      have hgr := h.gr.ext hx2
      clear hM2
      have hxx := h.ext.trans hx2
      simp (maxSteps := 4000000) (disch := first | omega | assumption | (simp only [bxS, bxV, stOk, Nat.reduceBEq, Nat.reduceEqDiff, Nat.reduceAdd]; done) | (simp only [bxU]; omega) | ((try apply has_setN); apply has_ofL; simp only [bxL]; omega)) only [↓bxD, bxP, bxQ, Nat.reduceBEq, reduceCtorEq, Nat.reduceAdd, Nat.reduceSub, Nat.reduceMul, Nat.reduceLeDiff, Nat.reduceLT, bxR, hq, h16, h17, h18, hr1, hr2, hG, hbox, hbox2, h9]
      refine bindP_call (ruleError_any (by omega) (hura.ext hx2) hwr.2.1 hwr.2.2.2) ?_
      rintro m M3 ⟨rfl, hx3⟩
      simp (maxSteps := 4000000) (disch := first | omega | assumption | (simp only [bxS, bxV, stOk, Nat.reduceBEq, Nat.reduceEqDiff, Nat.reduceAdd]; done) | (simp only [bxU]; omega) | ((try apply has_setN); apply has_ofL; simp only [bxL]; omega)) only [↓bxD, bxP, bxQ, Nat.reduceBEq, reduceCtorEq, Nat.reduceAdd, Nat.reduceSub, Nat.reduceMul, Nat.reduceLeDiff, Nat.reduceLT, bxR, hq, h16, h17, h18, hr1, hr2, hG, hbox, hbox2, h9]
      cases hb : ruleE g (a0, ar, a2) with
      | some e =>
        have e0' : e ≠ 0 := by
          unfold ruleE at hb
          split at hb
          · cases hb; decide
          · split at hb
            · cases hb; decide
            · split at hb
              · cases hb; decide
              · cases hb
        rw [hb] at hdrop
        simp (maxSteps := 4000000) (disch := first | omega | assumption | (simp only [bxS, bxV, stOk, Nat.reduceBEq, Nat.reduceEqDiff, Nat.reduceAdd]; done) | (simp only [bxU]; omega) | ((try apply has_setN); apply has_ofL; simp only [bxL]; omega)) only [↓bxD, bxP, bxQ, Nat.reduceBEq, reduceCtorEq, Nat.reduceAdd, Nat.reduceSub, Nat.reduceMul, Nat.reduceLeDiff, Nat.reduceLT, bxR, hq, h16, h17, h18, hr1, hr2, hG, hbox, hbox2, h9, hb, numE]
        refine condP_split (fun _ => ?_) (fun hc => (hc e0').elim)
        simp (maxSteps := 4000000) (disch := first | omega | assumption | (simp only [bxS, bxV, stOk, Nat.reduceBEq, Nat.reduceEqDiff, Nat.reduceAdd]; done) | (simp only [bxU]; omega) | ((try apply has_setN); apply has_ofL; simp only [bxL]; omega)) only [↓bxD, bxP, bxQ, Nat.reduceBEq, reduceCtorEq, Nat.reduceAdd, Nat.reduceSub, Nat.reduceMul, Nat.reduceLeDiff, Nat.reduceLT, bxR, hq, h16, h17, h18, hr1, hr2, hG, hbox, hbox2, h9]
        have e : formP g = ((i : Int), e) := by unfold formP; rw [hh, hp, hdrop]
        unfold FormPost
        rw [e]
        exact ⟨rfl, hxx.trans hx3⟩
      | none =>
        rw [hb] at hdrop
        simp (maxSteps := 4000000) (disch := first | omega | assumption | (simp only [bxS, bxV, stOk, Nat.reduceBEq, Nat.reduceEqDiff, Nat.reduceAdd]; done) | (simp only [bxU]; omega) | ((try apply has_setN); apply has_ofL; simp only [bxL]; omega)) only [↓bxD, bxP, bxQ, Nat.reduceBEq, reduceCtorEq, Nat.reduceAdd, Nat.reduceSub, Nat.reduceMul, Nat.reduceLeDiff, Nat.reduceLT, bxR, hq, h16, h17, h18, hr1, hr2, hG, hbox, hbox2, h9, hb, numE]
        refine condP_split (fun hc => (hc rfl).elim) (fun _ => ?_)
        simp (maxSteps := 4000000) (disch := first | omega | assumption | (simp only [bxS, bxV, stOk, Nat.reduceBEq, Nat.reduceEqDiff, Nat.reduceAdd]; done) | (simp only [bxU]; omega) | ((try apply has_setN); apply has_ofL; simp only [bxL]; omega)) only [↓bxD, bxP, bxQ, Nat.reduceBEq, reduceCtorEq, Nat.reduceAdd, Nat.reduceSub, Nat.reduceMul, Nat.reduceLeDiff, Nat.reduceLT, bxR, hq, h16, h17, h18, hr1, hr2, hG, hbox, hbox2, h9]
        show Wp fns K23_0 _ _ _
        unfold K23_0
        simp (maxSteps := 4000000) (disch := first | omega | assumption | (simp only [bxS, bxV, stOk, Nat.reduceBEq, Nat.reduceEqDiff, Nat.reduceAdd]; done) | (simp only [bxU]; omega) | ((try apply has_setN); apply has_ofL; simp only [bxL]; omega)) only [↓bxD, bxP, bxQ, Nat.reduceBEq, reduceCtorEq, Nat.reduceAdd, Nat.reduceSub, Nat.reduceMul, Nat.reduceLeDiff, Nat.reduceLT, bxR, hq, h16, h17, h18, hr1, hr2, hG, hbox, hbox2, h9]
        have hn3 := hx3.n
        refine ⟨i + 1, by omega, ⟨hgr.ext hx3, hxx.trans hx3, h.lo0, by omega, (hx3.old _ (by omega)).trans hbox2, by simp only [bxP, bxQ, reduceCtorEq, hq, h16, h17, h18, hr1, hr2, hG, hbox, hbox2, h9]⟩, by omega, rfl, hp.trans hdrop⟩
    · have hi' : i = g.rules.length := by omega
      subst hi'
      simp (maxSteps := 4000000) (disch := first | omega | assumption | (simp only [bxS, bxV, stOk, Nat.reduceBEq, Nat.reduceEqDiff, Nat.reduceAdd]; done) | (simp only [bxU]; omega) | ((try apply has_setN); apply has_ofL; simp only [bxL]; omega)) only [↓bxD, bxP, bxQ, Nat.reduceBEq, reduceCtorEq, Nat.reduceAdd, Nat.reduceSub, Nat.reduceMul, Nat.reduceLeDiff, Nat.reduceLT, bxR, hq, h16, h17, h18, hr1, hr2]
      show Wp fns K23_7 _ _ _
      exact pform_forb ⟨h.gr, h.ext, h.lo0, h.lt, h.box, by simp only [bxP, bxQ, reduceCtorEq, hq, h16, h17, h18, hr1, hr2]⟩ hh (by rw [hp, List.drop_length]; rfl)
  · exact ⟨⟨h.gr, h.ext, h.lo0, h.lt, h.box, by simp only [bxP, bxQ, reduceCtorEq, hq, hbox, hr1, hr2]⟩, Nat.zero_le _, by simp only [bxP, bxQ, reduceCtorEq, hq, hbox, hr1, hr2], by simp only [bxP, bxQ, reduceCtorEq, hq, hbox, hr1, hr2], by simp only [bxP, bxQ, reduceCtorEq, hq, hbox, hr1, hr2] <;> rfl, rfl⟩
theorem prog_form {M : MH} {g : Gr} {vr vf vc vk : MV} {es : List (List MV)} (h : GrAt M vr vf vc vk es g) (hlo : M.lo ≤ M.n) : Cp fns 23 [.ag (gcs g vr vf vc vk)] M fun m M' => m = .tp [.i .i64 (formP g).1, .i .i64 (formP g).2] ∧ Ext M M' := by
  have hG : ∀ l, l = gcs g vr vf vc vk → Ev.getN (ofL l 0) 7 0 = some (gcs g vr vf vc vk) := fun l e => by subst e; exact (at_ofL (gcs g vr vf vc vk)).getN
  have hG := hG [MV.i IntKind.i64 g.names, MV.i IntKind.i64 g.kinds, MV.i IntKind.i64 g.start, vr, vf, vc, vk] rfl
  refine Cp_call (fn := F23) (by kernel_rfl) (Nat.le_of_ble_eq_true rfl) ?_
  show Wp fns B23 (T.set q0 (some (.ag (gcs g vr vf vc vk))) T.lf) M _
  unfold B23
  rw [show gcs g vr vf vc vk = [MV.i IntKind.i64 g.names, MV.i IntKind.i64 g.kinds, MV.i IntKind.i64 g.start, vr, vf, vc, vk] from rfl]
  simp (maxSteps := 4000000) (disch := first | omega | assumption | (simp only [bxS, bxV, stOk, Nat.reduceBEq, Nat.reduceEqDiff, Nat.reduceAdd]; done) | (simp only [bxU]; omega) | ((try apply has_setN); apply has_ofL; simp only [bxL]; omega)) only [↓bxD, bxP, bxQ, Nat.reduceBEq, reduceCtorEq, Nat.reduceAdd, Nat.reduceSub, Nat.reduceMul, Nat.reduceLeDiff, Nat.reduceLT, bxR]
  generalize hM1 : M.push _ = M1
  have hb0 : M1.get M.n = some (.cs false 7 (ofL [MV.i IntKind.i64 g.names, MV.i IntKind.i64 g.kinds, MV.i IntKind.i64 g.start, vr, vf, vc, vk] 0)) := by rw [← hM1]; exact push_new _
  have hx1 : Ext M M1 := by rw [← hM1]; exact .push M _
  have hn1 : M1.n = M.n + 1 := by rw [← hM1]; rfl
  have hl1 := hx1.lo
  clear hM1
  have h1 := h.ext hx1
  simp (maxSteps := 4000000) (disch := first | omega | assumption | (simp only [bxS, bxV, stOk, Nat.reduceBEq, Nat.reduceEqDiff, Nat.reduceAdd]; done) | (simp only [bxU]; omega) | ((try apply has_setN); apply has_ofL; simp only [bxL]; omega)) only [↓bxD, bxP, bxQ, Nat.reduceBEq, reduceCtorEq, Nat.reduceAdd, Nat.reduceSub, Nat.reduceMul, Nat.reduceLeDiff, Nat.reduceLT, bxR, hb0, hG]
  refine bindP_call (wholeError_any h1 (by omega)) ?_
  rintro m M2 ⟨rfl, hx2⟩
  simp (maxSteps := 4000000) (disch := first | omega | assumption | (simp only [bxS, bxV, stOk, Nat.reduceBEq, Nat.reduceEqDiff, Nat.reduceAdd]; done) | (simp only [bxU]; omega) | ((try apply has_setN); apply has_ofL; simp only [bxL]; omega)) only [↓bxD, bxP, bxQ, Nat.reduceBEq, reduceCtorEq, Nat.reduceAdd, Nat.reduceSub, Nat.reduceMul, Nat.reduceLeDiff, Nat.reduceLT, bxR, hb0, hG]
  have hn2 := hx2.n
  have hb2 := (hx2.old _ (by omega)).trans hb0
  cases hb : headE g with
  | some e =>
    have e0' : e ≠ 0 := by
      unfold headE at hb
      split at hb
      · cases hb; decide
      · split at hb
        · cases hb; decide
        · split at hb
          · cases hb; decide
          · cases hb
    simp (maxSteps := 4000000) (disch := first | omega | assumption | (simp only [bxS, bxV, stOk, Nat.reduceBEq, Nat.reduceEqDiff, Nat.reduceAdd]; done) | (simp only [bxU]; omega) | ((try apply has_setN); apply has_ofL; simp only [bxL]; omega)) only [↓bxD, bxP, bxQ, Nat.reduceBEq, reduceCtorEq, Nat.reduceAdd, Nat.reduceSub, Nat.reduceMul, Nat.reduceLeDiff, Nat.reduceLT, bxR, hb0, hG, hb, numE]
    refine condP_split (fun _ => ?_) (fun hc => (hc e0').elim)
    simp (maxSteps := 4000000) (disch := first | omega | assumption | (simp only [bxS, bxV, stOk, Nat.reduceBEq, Nat.reduceEqDiff, Nat.reduceAdd]; done) | (simp only [bxU]; omega) | ((try apply has_setN); apply has_ofL; simp only [bxL]; omega)) only [↓bxD, bxP, bxQ, Nat.reduceBEq, reduceCtorEq, Nat.reduceAdd, Nat.reduceSub, Nat.reduceMul, Nat.reduceLeDiff, Nat.reduceLT, bxR, hb0, hG]
    have e : formP g = (-1, e) := by unfold formP; rw [hb]
    rw [e]
    exact ⟨rfl, hx1.trans hx2⟩
  | none =>
    simp (maxSteps := 4000000) (disch := first | omega | assumption | (simp only [bxS, bxV, stOk, Nat.reduceBEq, Nat.reduceEqDiff, Nat.reduceAdd]; done) | (simp only [bxU]; omega) | ((try apply has_setN); apply has_ofL; simp only [bxL]; omega)) only [↓bxD, bxP, bxQ, Nat.reduceBEq, reduceCtorEq, Nat.reduceAdd, Nat.reduceSub, Nat.reduceMul, Nat.reduceLeDiff, Nat.reduceLT, bxR, hb0, hG, hb, numE]
    refine condP_split (fun hc => (hc rfl).elim) (fun _ => ?_)
    simp (maxSteps := 4000000) (disch := first | omega | assumption | (simp only [bxS, bxV, stOk, Nat.reduceBEq, Nat.reduceEqDiff, Nat.reduceAdd]; done) | (simp only [bxU]; omega) | ((try apply has_setN); apply has_ofL; simp only [bxL]; omega)) only [↓bxD, bxP, bxQ, Nat.reduceBEq, reduceCtorEq, Nat.reduceAdd, Nat.reduceSub, Nat.reduceMul, Nat.reduceLeDiff, Nat.reduceLT, bxR, hb0, hG]
    show Wp fns K23_8 _ _ _
    exact pform_rules ⟨h1.ext hx2, hx1.trans hx2, hlo, by omega, hb2, by simp only [bxP, bxQ, reduceCtorEq, hb0, hG]⟩ hb
structure ISt (M0 M : MH) (g : Gr) (vr vf vc vk : MV) (es : List (List MV)) (id : Nat) (l : List Int) (f : Fr) : Prop where
  gr : GrAt M0 vr vf vc vk es g
  ok : GrOk g
  ext : Ext M0 M
  lo0 : M0.lo ≤ M0.n
  b0 : M.get M0.n = some (.cs false 7 (ofL (gcs g vr vf vc vk) 0))
  id1 : M0.n < id
  id2 : id < M.n
  row : IntsAt M id l
  inn : ShIn g l
  q1 : X.ev f (.t q1) = .p M0.n 0
  q3 : X.ev f (.t q3) = .sl id 0 l.length 0
theorem shRnd_take {rs : List (Int × List Int × Int)} {l : List Int} {i : Nat} {r : Int × List Int × Int} (h : rs[i]? = some r) : shRnd (rs.take (i + 1)) l = shStep (shRnd (rs.take i) l) r := by
  unfold shRnd
  rw [List.take_add_one, h, List.foldl_append]
  rfl
theorem short_round {M0 M : MH} {g : Gr} {vr vf vc vk : MV} {es : List (List MV)} {id : Nat} {l0 : List Int} {f : Fr} (h : ISt M0 M g vr vf vc vk es id l0 f) (Q : Post)
    (hn : ∀ f' M' l' more, ISt M0 M' g vr vf vc vk es id l' f' → X.ev f' (.t q4) = .b more → l' = shRnd g.rules l0 → ((more = true ∧ shMu l' < shMu l0) ∨ (more = false ∧ l' = l0 ∧ ShStill g.rules l0)) → Q .norm f' M') : Wp fns K20_3 f M Q := by
  have hq1 := h.q1
  have hq3 := h.q3
  have hbox := h.b0
  obtain ⟨hr1, hr2⟩ := h.gr.rules.row.sl
  rw [h.gr.rules.len] at hr2
  unfold gcs at hbox
  simp only [q1, q3] at hq1 hq3
  unfold K20_3
  simp (maxSteps := 4000000) (disch := first | omega | assumption | (simp only [bxS, bxV, stOk, Nat.reduceBEq, Nat.reduceEqDiff, Nat.reduceAdd]; done) | (simp only [bxU]; omega) | ((try apply has_setN); apply has_ofL; simp only [bxL]; omega)) only [↓bxD, bxP, bxQ, Nat.reduceBEq, reduceCtorEq, Nat.reduceAdd, Nat.reduceSub, Nat.reduceMul, Nat.reduceLeDiff, Nat.reduceLT, bxR, hq1, hq3, hbox, hr1, hr2]
  refine Wp_inv (σ := Nat × List Int × Bool) (fun s f1 M1 => ISt M0 M1 g vr vf vc vk es id s.2.1 f1 ∧ s.1 ≤ g.rules.length ∧ X.ev f1 (.t q14) = vr ∧ X.ev f1 (.t q15) = .i .i64 (g.rules.length : Int) ∧ X.ev f1 (.t q16) = .i .i64 (s.1 : Int) ∧ X.ev f1 (.t q4) = .b s.2.2 ∧ s.2.1 = shRnd (g.rules.take s.1) l0 ∧ ((s.2.2 = true ∧ shMu s.2.1 < shMu l0) ∨ (s.2.2 = false ∧ s.2.1 = l0 ∧ ShStill (g.rules.take s.1) l0))) (fun s => g.rules.length - s.1) ?_ (0, l0, false) ?_
  · rintro ⟨i, l, more⟩ f1 M1 ⟨h, hi, h14, h15, h16, h4, hl, hc⟩
    simp only at h hi h14 h15 h16 h4 hl hc
    clear hq1 hq3 hbox
    have hq1 := h.q1
    have hq3 := h.q3
    have hbox := h.b0
    have hlo := h.lo0
    have hn0 := h.ext.n
    have hl0 := h.ext.lo
    have hid1 := h.id1
    have hid2 := h.id2
    unfold gcs at hbox
    have hrl := h.ok.rl
    simp only [q1, q3, q4, q14, q15, q16] at hq1 hq3 h4 h14 h15 h16
    unfold L20_2
    by_cases hi' : i < g.rules.length
    · have d1 : decide ((i : Int) < (g.rules.length : Int)) = true := decide_eq_true (by omega)
      obtain ⟨r, hr⟩ : ∃ r, g.rules[i]? = some r := ⟨_, List.getElem?_eq_getElem hi'⟩
      have hrt := shRnd_take (l := l0) hr
      rw [← hl] at hrt
      obtain ⟨a0, ar, a2⟩ := r
      have hmem := List.mem_of_getElem? hr
      obtain ⟨ur, hu1, hu2⟩ := h.gr.rules.get hr
      have hrow := h.gr.rules.row.ext h.ext
      obtain ⟨ro3, s3, t3, hg3, hid3, hat3⟩ := hrow.read hu1
      have hN : Ev.getN t3 3 (soff vr + i * 3) = some [.i .i64 a0, ur, .i .i64 a2] := hat3.getN
      obtain ⟨hu3, hu4⟩ := hu2.sl
      have hu6 := isSl_one hu3
      have hst : stOk 3 (.ag [.i .i64 a0, ur, .i .i64 a2]) = true := by simp only [stOk, cells_ag, isU_ag, all_cons, all_nil, one_i, hu6]; rfl
      obtain ⟨ha0, ha1⟩ := h.ok.left _ hmem
      simp only at ha0 ha1
      obtain ⟨an, rfl⟩ : ∃ n : Nat, a0 = n := ⟨a0.toNat, by omega⟩
      have hll := h.inn.len
      have han : an < l.length := by omega
      simp (maxSteps := 4000000) (disch := first | omega | assumption | (simp only [bxS, bxV, stOk, Nat.reduceBEq, Nat.reduceEqDiff, Nat.reduceAdd]; done) | (simp only [bxU]; omega) | ((try apply has_setN); apply has_ofL; simp only [bxL]; omega)) only [↓bxD, bxP, bxQ, Nat.reduceBEq, reduceCtorEq, Nat.reduceAdd, Nat.reduceSub, Nat.reduceMul, Nat.reduceLeDiff, Nat.reduceLT, bxR, hq1, hq3, h4, h14, h15, h16, hr1, hr2, hg3, hN, d1]
      show Wp fns K20_1 _ _ _
      unfold K20_1
      simp (maxSteps := 4000000) (disch := first | omega | assumption | (simp only [bxS, bxV, stOk, Nat.reduceBEq, Nat.reduceEqDiff, Nat.reduceAdd]; done) | (simp only [bxU]; omega) | ((try apply has_setN); apply has_ofL; simp only [bxL]; omega)) only [↓bxD, bxP, bxQ, Nat.reduceBEq, reduceCtorEq, Nat.reduceAdd, Nat.reduceSub, Nat.reduceMul, Nat.reduceLeDiff, Nat.reduceLT, bxR, hq1, hq3, h4, h14, h15, h16, hr1, hr2, hg3, hN, d1]
      generalize hM2 : (M1.push _).set M1.n _ = M2
      have hx2 : Ext M1 M2 := by rw [← hM2]; exact (Ext.push M1 _).set _ (Nat.le_refl _)
      have h9 : M2.get M1.n = some (.cs false 3 (setN [.i .i64 (an : Int), ur, .i .i64 a2] 0 (ofL [.i .i64 0, .nils, .i .i64 0] 0))) := by rw [← hM2, set_same]
      have hn3 : M2.n = M1.n + 1 := by rw [← hM2]; rfl
      clear hM2
      have hC3 : At (setN [MV.i .i64 (an : Int), ur, .i .i64 a2] 0 (ofL [.i .i64 0, .nils, .i .i64 0] 0)) 0 [.i .i64 (an : Int), ur, .i .i64 a2] := at_setN _ _ _
      have c0 : cget (setN [MV.i .i64 (an : Int), ur, .i .i64 a2] 0 (ofL [.i .i64 0, .nils, .i .i64 0] 0)) 0 = some (.i .i64 (an : Int)) := hC3 0 _ rfl
      have c1 : cget (setN [MV.i .i64 (an : Int), ur, .i .i64 a2] 0 (ofL [.i .i64 0, .nils, .i .i64 0] 0)) 1 = some ur := hC3 1 _ rfl
      have hl2 := hx2.lo
      have hrow2 : IntsAt M2 id l := h.row.same (hx2.old _ hid2)
      have hsy := h.ok.sym _ hmem
      have hle := h.ok.len _ hmem
      simp only at hsy hle
      have hb2 : M2.get M0.n = some (.cs false 7 (ofL (gcs g vr vf vc vk) 0)) := (hx2.old _ (by omega)).trans h.b0
      refine bindP_call (row_any (hrow2.row (by omega)) (hu2.ext (h.ext.trans hx2)) h.inn.lo (fun s hs s0 => by have := symB_lt (hsy s hs) s0; omega) hle) ?_
      rintro m M3 ⟨rfl, rfl⟩
      obtain ⟨t, ht1, ht2, ht3, ht4⟩ := hrow2.read
      obtain ⟨z, hz⟩ : ∃ z, l[an]? = some z := ⟨_, List.getElem?_eq_getElem han⟩
      have hR := ht2 _ _ hz
      have hH := ht3 an han
      have hzb := h.inn.lo z (List.mem_of_getElem? hz)
      have hgd : l.getD an (-1) = z := by rw [List.getD_eq_getElem?_getD, hz]; rfl
      have hrb := @shRow_le l ar
      have hcd : shCond l ((an : Int), ar, a2) = (decide (0 ≤ shRow l ar) && (decide (z < 0) || decide (shRow l ar < z))) := by unfold shCond; simp only [Int.toNat_natCast, hgd]
      have stay : shCond l ((an : Int), ar, a2) = false → ISt M0 M3 g vr vf vc vk es id l f1 ∧ l = shRnd (g.rules.take (i + 1)) l0 ∧ ((more = true ∧ shMu l < shMu l0) ∨ (more = false ∧ l = l0 ∧ ShStill (g.rules.take (i + 1)) l0)) := fun e => by
        refine ⟨⟨h.gr, h.ok, h.ext.trans hx2, h.lo0, hb2, h.id1, by omega, hrow2, h.inn, h.q1, h.q3⟩, ?_, ?_⟩
        · rw [hrt]; unfold shStep; rw [e]; rfl
        · rcases hc with hc | ⟨hc1, hc2, hc3⟩
          · exact .inl hc
          · refine .inr ⟨hc1, hc2, fun r hr' => ?_⟩
            rw [List.take_add_one, hr] at hr'
            rcases List.mem_append.1 hr' with h1 | h1
            · exact hc3 r h1
            · simp only [Option.toList_some, List.mem_singleton] at h1
              subst h1
              rw [← hc2]; exact e
      by_cases e1 : shRow l ar = -1
      · have de : decide (shRow l ar ≠ Int.negSucc 0) = false := decide_eq_false (fun h => h e1)
        have hcf : shCond l ((an : Int), ar, a2) = false := by rw [hcd, decide_eq_false (by omega)]; rfl
        obtain ⟨s1, s2, s3⟩ := stay hcf
        simp (maxSteps := 4000000) (disch := first | omega | assumption | (simp only [bxS, bxV, stOk, Nat.reduceBEq, Nat.reduceEqDiff, Nat.reduceAdd]; done) | (simp only [bxU]; omega) | ((try apply has_setN); apply has_ofL; simp only [bxL]; omega)) only [↓bxD, bxP, bxQ, Nat.reduceBEq, reduceCtorEq, Nat.reduceAdd, Nat.reduceSub, Nat.reduceMul, Nat.reduceLeDiff, Nat.reduceLT, bxR, hq1, hq3, h4, h14, h15, h16, h9, c0, c1, ix_slc, ht1, hR, de]
        show Wp fns K20_0 _ _ _
        unfold K20_0
        simp (maxSteps := 4000000) (disch := first | omega | assumption | (simp only [bxS, bxV, stOk, Nat.reduceBEq, Nat.reduceEqDiff, Nat.reduceAdd]; done) | (simp only [bxU]; omega) | ((try apply has_setN); apply has_ofL; simp only [bxL]; omega)) only [↓bxD, bxP, bxQ, Nat.reduceBEq, reduceCtorEq, Nat.reduceAdd, Nat.reduceSub, Nat.reduceMul, Nat.reduceLeDiff, Nat.reduceLT, bxR, hq1, hq3, h4, h14, h15, h16, h9, c0, c1, ix_slc, ht1, hR, de]
        exact ⟨(i + 1, l, more), by simp only; omega, ⟨s1.gr, s1.ok, s1.ext, s1.lo0, s1.b0, s1.id1, s1.id2, s1.row, s1.inn, by simp only [bxP, bxQ, reduceCtorEq, hq1, hq3, h4, h14, h15, h16, h9, c0, c1, ix_slc, ht1, hR, de], by simp only [bxP, bxQ, reduceCtorEq, hq1, hq3, h4, h14, h15, h16, h9, c0, c1, ix_slc, ht1, hR, de]⟩, by simp only; omega, rfl, rfl, s2, s3⟩
      · have de : decide (shRow l ar ≠ Int.negSucc 0) = true := decide_eq_true e1
        have turn : shCond l ((an : Int), ar, a2) = true → Ext M0 (M3.set id (some (.cs false 1 (setN (MV.i .i64 (shRow l ar)).cells (an * 1) t)))) ∧ (M3.set id (some (.cs false 1 (setN (MV.i .i64 (shRow l ar)).cells (an * 1) t)))).get M0.n = some (.cs false 7 (ofL (gcs g vr vf vc vk) 0)) ∧ IntsAt (M3.set id (some (.cs false 1 (setN (MV.i .i64 (shRow l ar)).cells (an * 1) t)))) id (l.set an (shRow l ar)) ∧ ShIn g (l.set an (shRow l ar)) ∧ l.set an (shRow l ar) = shRnd (g.rules.take (i + 1)) l0 ∧ shMu (l.set an (shRow l ar)) < shMu l0 := fun e => by
          have hs := h.inn.step h.ok hmem
          unfold shStep at hs hrt
          rw [e] at hs hrt
          simp only [if_true, Int.toNat_natCast] at hs hrt
          have hmu := shMu_step hll h.ok hmem e
          simp only [Int.toNat_natCast] at hmu
          refine ⟨(h.ext.trans hx2).set _ (by omega), ?_, ⟨_, set_same _ _, ht4 an _ han⟩, hs, hrt.symm, ?_⟩
          · rw [set_ne (by omega)]; exact hb2
          · rcases hc with ⟨_, hc⟩ | ⟨_, rfl, _⟩
            · exact Nat.lt_trans hmu hc
            · exact hmu
        by_cases e2 : z = -1
        · have hcf : shCond l ((an : Int), ar, a2) = true := by rw [hcd, decide_eq_true (show 0 ≤ shRow l ar by omega), decide_eq_true (show z < 0 by omega)]; rfl
          have dz : decide (z = Int.negSucc 0) = true := decide_eq_true e2
          simp (maxSteps := 4000000) (disch := first | omega | assumption | (simp only [bxS, bxV, stOk, Nat.reduceBEq, Nat.reduceEqDiff, Nat.reduceAdd]; done) | (simp only [bxU]; omega) | ((try apply has_setN); apply has_ofL; simp only [bxL]; omega)) only [↓bxD, bxP, bxQ, Nat.reduceBEq, reduceCtorEq, Nat.reduceAdd, Nat.reduceSub, Nat.reduceMul, Nat.reduceLeDiff, Nat.reduceLT, bxR, hq1, hq3, h4, h14, h15, h16, h9, c0, c1, ix_slc, ht1, hR, hH, de, dz]
          show Wp fns K20_0 _ _ _
          unfold K20_0
          simp (maxSteps := 4000000) (disch := first | omega | assumption | (simp only [bxS, bxV, stOk, Nat.reduceBEq, Nat.reduceEqDiff, Nat.reduceAdd]; done) | (simp only [bxU]; omega) | ((try apply has_setN); apply has_ofL; simp only [bxL]; omega)) only [↓bxD, bxP, bxQ, Nat.reduceBEq, reduceCtorEq, Nat.reduceAdd, Nat.reduceSub, Nat.reduceMul, Nat.reduceLeDiff, Nat.reduceLT, bxR, hq1, hq3, h4, h14, h15, h16, h9, c0, c1, ix_slc, ht1, hR, hH, de, dz]
          obtain ⟨s1, s2, s3, s4, s5, s6⟩ := turn hcf
          exact ⟨(i + 1, _, true), by simp only; omega, ⟨h.gr, h.ok, s1, h.lo0, s2, h.id1, by rw [set_n]; omega, s3, s4, by simp only [bxP, bxQ, reduceCtorEq, hq1, hq3, h4, h14, h15, h16, h9, c0, c1, ix_slc, ht1, hR, hH, de, dz], by simp (maxSteps := 4000000) (disch := first | omega | assumption | (simp only [bxS, bxV, stOk, Nat.reduceBEq, Nat.reduceEqDiff, Nat.reduceAdd]; done) | (simp only [bxU]; omega) | ((try apply has_setN); apply has_ofL; simp only [bxL]; omega)) only [↓bxD, bxP, bxQ, Nat.reduceBEq, reduceCtorEq, Nat.reduceAdd, Nat.reduceSub, Nat.reduceMul, Nat.reduceLeDiff, Nat.reduceLT, bxR, hq1, hq3, h4, h14, h15, h16, h9, c0, c1, ix_slc, ht1, hR, hH, de, dz, List.length_set]⟩, by simp only; omega, rfl, rfl, s5, .inl ⟨rfl, s6⟩⟩
        · have dz : decide (z = Int.negSucc 0) = false := decide_eq_false e2
          by_cases e3 : shRow l ar < z
          · have hcf : shCond l ((an : Int), ar, a2) = true := by rw [hcd, decide_eq_true (show 0 ≤ shRow l ar by omega), decide_eq_true e3, Bool.or_true]; rfl
            have d3 : decide (shRow l ar < z) = true := decide_eq_true e3
            simp (maxSteps := 4000000) (disch := first | omega | assumption | (simp only [bxS, bxV, stOk, Nat.reduceBEq, Nat.reduceEqDiff, Nat.reduceAdd]; done) | (simp only [bxU]; omega) | ((try apply has_setN); apply has_ofL; simp only [bxL]; omega)) only [↓bxD, bxP, bxQ, Nat.reduceBEq, reduceCtorEq, Nat.reduceAdd, Nat.reduceSub, Nat.reduceMul, Nat.reduceLeDiff, Nat.reduceLT, bxR, hq1, hq3, h4, h14, h15, h16, h9, c0, c1, ix_slc, ht1, hR, hH, de, dz, d3]
            show Wp fns K20_0 _ _ _
            unfold K20_0
            simp (maxSteps := 4000000) (disch := first | omega | assumption | (simp only [bxS, bxV, stOk, Nat.reduceBEq, Nat.reduceEqDiff, Nat.reduceAdd]; done) | (simp only [bxU]; omega) | ((try apply has_setN); apply has_ofL; simp only [bxL]; omega)) only [↓bxD, bxP, bxQ, Nat.reduceBEq, reduceCtorEq, Nat.reduceAdd, Nat.reduceSub, Nat.reduceMul, Nat.reduceLeDiff, Nat.reduceLT, bxR, hq1, hq3, h4, h14, h15, h16, h9, c0, c1, ix_slc, ht1, hR, hH, de, dz, d3]
            obtain ⟨s1, s2, s3, s4, s5, s6⟩ := turn hcf
            exact ⟨(i + 1, _, true), by simp only; omega, ⟨h.gr, h.ok, s1, h.lo0, s2, h.id1, by rw [set_n]; omega, s3, s4, by simp only [bxP, bxQ, reduceCtorEq, hq1, hq3, h4, h14, h15, h16, h9, c0, c1, ix_slc, ht1, hR, hH, de, dz, d3], by simp (maxSteps := 4000000) (disch := first | omega | assumption | (simp only [bxS, bxV, stOk, Nat.reduceBEq, Nat.reduceEqDiff, Nat.reduceAdd]; done) | (simp only [bxU]; omega) | ((try apply has_setN); apply has_ofL; simp only [bxL]; omega)) only [↓bxD, bxP, bxQ, Nat.reduceBEq, reduceCtorEq, Nat.reduceAdd, Nat.reduceSub, Nat.reduceMul, Nat.reduceLeDiff, Nat.reduceLT, bxR, hq1, hq3, h4, h14, h15, h16, h9, c0, c1, ix_slc, ht1, hR, hH, de, dz, d3, List.length_set]⟩, by simp only; omega, rfl, rfl, s5, .inl ⟨rfl, s6⟩⟩
          · have hcf : shCond l ((an : Int), ar, a2) = false := by rw [hcd, decide_eq_false (show ¬ z < 0 by omega), decide_eq_false e3]; simp
            have d3 : decide (shRow l ar < z) = false := decide_eq_false e3
            obtain ⟨s1, s2, s3⟩ := stay hcf
            simp (maxSteps := 4000000) (disch := first | omega | assumption | (simp only [bxS, bxV, stOk, Nat.reduceBEq, Nat.reduceEqDiff, Nat.reduceAdd]; done) | (simp only [bxU]; omega) | ((try apply has_setN); apply has_ofL; simp only [bxL]; omega)) only [↓bxD, bxP, bxQ, Nat.reduceBEq, reduceCtorEq, Nat.reduceAdd, Nat.reduceSub, Nat.reduceMul, Nat.reduceLeDiff, Nat.reduceLT, bxR, hq1, hq3, h4, h14, h15, h16, h9, c0, c1, ix_slc, ht1, hR, hH, de, dz, d3]
            show Wp fns K20_0 _ _ _
            unfold K20_0
            simp (maxSteps := 4000000) (disch := first | omega | assumption | (simp only [bxS, bxV, stOk, Nat.reduceBEq, Nat.reduceEqDiff, Nat.reduceAdd]; done) | (simp only [bxU]; omega) | ((try apply has_setN); apply has_ofL; simp only [bxL]; omega)) only [↓bxD, bxP, bxQ, Nat.reduceBEq, reduceCtorEq, Nat.reduceAdd, Nat.reduceSub, Nat.reduceMul, Nat.reduceLeDiff, Nat.reduceLT, bxR, hq1, hq3, h4, h14, h15, h16, h9, c0, c1, ix_slc, ht1, hR, hH, de, dz, d3]
            exact ⟨(i + 1, l, more), by simp only; omega, ⟨s1.gr, s1.ok, s1.ext, s1.lo0, s1.b0, s1.id1, s1.id2, s1.row, s1.inn, by simp only [bxP, bxQ, reduceCtorEq, hq1, hq3, h4, h14, h15, h16, h9, c0, c1, ix_slc, ht1, hR, hH, de, dz, d3], by simp only [bxP, bxQ, reduceCtorEq, hq1, hq3, h4, h14, h15, h16, h9, c0, c1, ix_slc, ht1, hR, hH, de, dz, d3]⟩, by simp only; omega, rfl, rfl, s2, s3⟩
    · have d1 : decide ((i : Int) < (g.rules.length : Int)) = false := decide_eq_false (by omega)
      have hi2 : i = g.rules.length := by omega
      subst hi2
      rw [List.take_length] at hc hl
      simp (maxSteps := 4000000) (disch := first | omega | assumption | (simp only [bxS, bxV, stOk, Nat.reduceBEq, Nat.reduceEqDiff, Nat.reduceAdd]; done) | (simp only [bxU]; omega) | ((try apply has_setN); apply has_ofL; simp only [bxL]; omega)) only [↓bxD, bxP, bxQ, Nat.reduceBEq, reduceCtorEq, Nat.reduceAdd, Nat.reduceSub, Nat.reduceMul, Nat.reduceLeDiff, Nat.reduceLT, bxR, hq1, hq3, h4, h14, h15, h16, d1]
      exact hn _ _ l more ⟨h.gr, h.ok, h.ext, h.lo0, h.b0, h.id1, h.id2, h.row, h.inn, by simp only [bxP, bxQ, reduceCtorEq, hq1, hq3, h4, h14, h15, h16, d1], by simp only [bxP, bxQ, reduceCtorEq, hq1, hq3, h4, h14, h15, h16, d1]⟩ (by simp only [bxP, bxQ, reduceCtorEq, hq1, hq3, h4, h14, h15, h16, d1]) hl hc
  · exact ⟨⟨h.gr, h.ok, h.ext, h.lo0, h.b0, h.id1, h.id2, h.row, h.inn, by simp only [bxP, bxQ, reduceCtorEq, hq1, hq3, hbox, hr1, hr2], by simp only [bxP, bxQ, reduceCtorEq, hq1, hq3, hbox, hr1, hr2]⟩, Nat.zero_le _, by simp only [bxP, bxQ, reduceCtorEq, hq1, hq3, hbox, hr1, hr2], by simp only [bxP, bxQ, reduceCtorEq, hq1, hq3, hbox, hr1, hr2], by simp only [bxP, bxQ, reduceCtorEq, hq1, hq3, hbox, hr1, hr2] <;> rfl, by simp only [bxP, bxQ, reduceCtorEq, hq1, hq3, hbox, hr1, hr2], rfl, .inr ⟨rfl, rfl, fun r hr => by simp at hr⟩⟩
theorem push2b {M M2 : MH} {a b : MO} (h : (M.push a).push b = M2) : Ext M M2 ∧ M2.n = M.n + 2 ∧ M2.get M.n = some a ∧ M2.get (M.n + 1) = some b := by
  subst h
  refine ⟨(Ext.push M a).trans (.push _ b), rfl, ?_, push_new (M := M.push a) b⟩
  rw [push_old (by show M.n < M.n + 1; omega)]; exact push_new _
theorem shortest_any {M : MH} {g : Gr} {vr vf vc vk : MV} {es : List (List MV)} (h : GrAt M vr vf vc vk es g) (hok : GrOk g) (hlo : M.lo ≤ M.n) : Cp fns 20 [.ag (gcs g vr vf vc vk)] M fun m M' => Ext M M' ∧ ∃ l id, ShVec g l ∧ m = .sl id 0 l.length 0 ∧ IntsAt M' id l ∧ M.n ≤ id ∧ id < M'.n := by
  refine Cp_call (fn := F20) (by kernel_rfl) (Nat.le_of_ble_eq_true rfl) ?_
  show Wp fns B20 (T.set q0 (some (.ag (gcs g vr vf vc vk))) T.lf) M _
  unfold B20
  rw [show gcs g vr vf vc vk = [MV.i IntKind.i64 g.names, MV.i IntKind.i64 g.kinds, MV.i IntKind.i64 g.start, vr, vf, vc, vk] from rfl]
  obtain ⟨nn, hnn⟩ : ∃ n : Nat, g.names = n := ⟨g.names.toNat, by have := hok.n1; omega⟩
  have hn1 := hok.n1
  have hn40 := hok.n2
  have hfill : fillM [(0, 1, MV.i .i64 (Int.negSucc 0))] [MV.i .i64 0] = some [MV.i .i64 (Int.negSucc 0)] := fill_one rfl rfl
  simp (maxSteps := 4000000) (disch := first | omega | assumption | (simp only [bxS, bxV, stOk, Nat.reduceBEq, Nat.reduceEqDiff, Nat.reduceAdd]; done) | (simp only [bxU]; omega) | ((try apply has_setN); apply has_ofL; simp only [bxL]; omega)) only [↓bxD, bxP, bxQ, Nat.reduceBEq, reduceCtorEq, Nat.reduceAdd, Nat.reduceSub, Nat.reduceMul, Nat.reduceLeDiff, Nat.reduceLT, bxR, hnn, hfill]
  have hp := row_one (M := M.push (.cs false 7 (ofL [MV.i .i64 (nn : Int), .i .i64 g.kinds, .i .i64 g.start, vr, vf, vc, vk] 0))) (sz := 1) (e := [MV.i .i64 (Int.negSucc 0)]) rfl
  generalize hM2 : (M.push _).push _ = M2 at hp ⊢
  obtain ⟨x2, n2, g2, _⟩ := push2b hM2
  have l2 := x2.lo
  clear hM2
  have hp : IntRow M2 (.sl (M.n + 1) 0 1 0) [-1] := hp
  refine bindP_call (repeat_any (z := -1) hp ⟨by omega, by omega⟩ (by omega)) ?_
  rintro m M3 ⟨x3, rfl, hi3, n3⟩
  have g3 := (x3.old M.n (by omega)).trans g2
  simp (maxSteps := 4000000) (disch := first | omega | assumption | (simp only [bxS, bxV, stOk, Nat.reduceBEq, Nat.reduceEqDiff, Nat.reduceAdd]; done) | (simp only [bxU]; omega) | ((try apply has_setN); apply has_ofL; simp only [bxL]; omega)) only [↓bxD, bxP, bxQ, Nat.reduceBEq, reduceCtorEq, Nat.reduceAdd, Nat.reduceSub, Nat.reduceMul, Nat.reduceLeDiff, Nat.reduceLT, bxR, hnn, hfill]
  have hin : ShIn g (shIt g 0) := ShIn.it hok 0
  have hnn' : g.names.toNat = nn := by omega
  refine Wp_inv (σ := List Int × Bool) (fun s f1 M1 => ISt M M1 g vr vf vc vk es M2.n s.1 f1 ∧ X.ev f1 (.t q4) = .b s.2 ∧ (∃ n, s.1 = shIt g n) ∧ (s.2 = false → ShStill g.rules s.1)) (fun s => 2 * shMu s.1 + (if s.2 = true then 1 else 0)) ?_ (shIt g 0, true) ?_
  · rintro ⟨l, more⟩ f1 M4 ⟨h4, ht, hs, hc⟩
    simp only at h4 ht hs hc
    have hq1 := h4.q1
    have hq3 := h4.q3
    simp only [q1, q3, q4] at hq1 hq3 ht
    unfold L20_4
    cases more with
    | true =>
      simp (maxSteps := 4000000) (disch := first | omega | assumption | (simp only [bxS, bxV, stOk, Nat.reduceBEq, Nat.reduceEqDiff, Nat.reduceAdd]; done) | (simp only [bxU]; omega) | ((try apply has_setN); apply has_ofL; simp only [bxL]; omega)) only [↓bxD, bxP, bxQ, Nat.reduceBEq, reduceCtorEq, Nat.reduceAdd, Nat.reduceSub, Nat.reduceMul, Nat.reduceLeDiff, Nat.reduceLT, bxR, hq1, hq3, ht]
      show Wp fns K20_3 _ _ _
      refine short_round ⟨h4.gr, h4.ok, h4.ext, h4.lo0, h4.b0, h4.id1, h4.id2, h4.row, h4.inn, by simp only [bxP, bxQ, reduceCtorEq, hq1, hq3, ht], by simp only [bxP, bxQ, reduceCtorEq, hq1, hq3, ht]⟩ _ ?_
      intro f' M' l' more' h' h4' hs' hcase
      refine ⟨(l', more'), ?_, h', h4', ?_, fun e => ?_⟩
      · rcases hcase with ⟨rfl, hlt⟩ | ⟨rfl, rfl, _⟩
        · simp only [if_true]; omega
        · simp
      · obtain ⟨n, rfl⟩ := hs
        exact ⟨n + 1, hs'⟩
      · rcases hcase with ⟨rfl, _⟩ | ⟨_, rfl, hc'⟩
        · cases e
        · exact hc'
    | false =>
      simp (maxSteps := 4000000) (disch := first | omega | assumption | (simp only [bxS, bxV, stOk, Nat.reduceBEq, Nat.reduceEqDiff, Nat.reduceAdd]; done) | (simp only [bxU]; omega) | ((try apply has_setN); apply has_ofL; simp only [bxL]; omega)) only [↓bxD, bxP, bxQ, Nat.reduceBEq, reduceCtorEq, Nat.reduceAdd, Nat.reduceSub, Nat.reduceMul, Nat.reduceLeDiff, Nat.reduceLT, bxR, hq1, hq3, ht]
      show Wp fns K20_5 _ _ _
      unfold K20_5
      simp (maxSteps := 4000000) (disch := first | omega | assumption | (simp only [bxS, bxV, stOk, Nat.reduceBEq, Nat.reduceEqDiff, Nat.reduceAdd]; done) | (simp only [bxU]; omega) | ((try apply has_setN); apply has_ofL; simp only [bxL]; omega)) only [↓bxD, bxP, bxQ, Nat.reduceBEq, reduceCtorEq, Nat.reduceAdd, Nat.reduceSub, Nat.reduceMul, Nat.reduceLeDiff, Nat.reduceLT, bxR, hq1, hq3, ht]
      exact ⟨h4.ext, l, M2.n, ⟨hs, hc rfl⟩, rfl, h4.row, by omega, h4.id2⟩
  · refine ⟨⟨h, hok, x2.trans x3, hlo, by rw [g3]; unfold gcs; rw [hnn], by omega, by omega, ?_, hin, by simp only [bxP, bxQ, reduceCtorEq, hnn, hfill], ?_⟩, by simp only [bxP, bxQ, reduceCtorEq, hnn, hfill], ⟨0, rfl⟩, fun e => by cases e⟩
    · show IntsAt M3 M2.n (List.replicate g.names.toNat (-1))
      rw [hnn']; exact hi3
    · simp (maxSteps := 4000000) (disch := first | omega | assumption | (simp only [bxS, bxV, stOk, Nat.reduceBEq, Nat.reduceEqDiff, Nat.reduceAdd]; done) | (simp only [bxU]; omega) | ((try apply has_setN); apply has_ofL; simp only [bxL]; omega)) only [↓bxD, bxP, bxQ, Nat.reduceBEq, reduceCtorEq, Nat.reduceAdd, Nat.reduceSub, Nat.reduceMul, Nat.reduceLeDiff, Nat.reduceLT, bxR, hnn, hfill]
      show MV.sl M2.n 0 nn 0 = .sl M2.n 0 (List.replicate g.names.toNat (-1)).length 0
      rw [List.length_replicate, hnn']
theorem isForm_any {M : MH} {g : Gr} {vr vf vc vk : MV} {es : List (List MV)} (h : GrAt M vr vf vc vk es g) (hlo : M.lo ≤ M.n) : Cp fns 17 [.ag (gcs g vr vf vc vk)] M fun m M' => m = .b (decide ((formP g).2 = 0)) ∧ Ext M M' := by
  have hG : ∀ l, l = gcs g vr vf vc vk → Ev.getN (ofL l 0) 7 0 = some (gcs g vr vf vc vk) := fun l e => by subst e; exact (at_ofL (gcs g vr vf vc vk)).getN
  have hG := hG [MV.i IntKind.i64 g.names, MV.i IntKind.i64 g.kinds, MV.i IntKind.i64 g.start, vr, vf, vc, vk] rfl
  refine Cp_call (fn := F17) (by kernel_rfl) (Nat.le_of_ble_eq_true rfl) ?_
  show Wp fns B17 (T.set q0 (some (.ag (gcs g vr vf vc vk))) T.lf) M _
  unfold B17
  rw [show gcs g vr vf vc vk = [MV.i IntKind.i64 g.names, MV.i IntKind.i64 g.kinds, MV.i IntKind.i64 g.start, vr, vf, vc, vk] from rfl]
  simp (maxSteps := 4000000) (disch := first | omega | assumption | (simp only [bxS, bxV, stOk, Nat.reduceBEq, Nat.reduceEqDiff, Nat.reduceAdd]; done) | (simp only [bxU]; omega) | ((try apply has_setN); apply has_ofL; simp only [bxL]; omega)) only [↓bxD, bxP, bxQ, Nat.reduceBEq, reduceCtorEq, Nat.reduceAdd, Nat.reduceSub, Nat.reduceMul, Nat.reduceLeDiff, Nat.reduceLT, bxR, hG]
  refine bindP_call (prog_form (h.ext (.push M _)) (by show M.lo ≤ M.n + 1; omega)) ?_
  rintro m M2 ⟨rfl, hx⟩
  simp (maxSteps := 4000000) (disch := first | omega | assumption | (simp only [bxS, bxV, stOk, Nat.reduceBEq, Nat.reduceEqDiff, Nat.reduceAdd]; done) | (simp only [bxU]; omega) | ((try apply has_setN); apply has_ofL; simp only [bxL]; omega)) only [↓bxD, bxP, bxQ, Nat.reduceBEq, reduceCtorEq, Nat.reduceAdd, Nat.reduceSub, Nat.reduceMul, Nat.reduceLeDiff, Nat.reduceLT, bxR, hG]
  exact (Ext.push M _).trans hx
def ShPost (g : Gr) (M : MH) (m : MV) (M' : MH) : Prop := Ext M M' ∧ (((formP g).2 ≠ 0 ∧ m = .nils) ∨ ((formP g).2 = 0 ∧ ∃ l, ShVec g l ∧ IntRow M' m l))
def PrPost (g : Gr) (M : MH) (m : MV) (M' : MH) : Prop := Ext M M' ∧ (((formP g).2 ≠ 0 ∧ m = .nils) ∨ ((formP g).2 = 0 ∧ ∃ l, ShVec g l ∧ BRow M' m (l.map fun z => decide (0 ≤ z))))
theorem pshortest_any {M : MH} {g : Gr} {vr vf vc vk : MV} {es : List (List MV)} (h : GrAt M vr vf vc vk es g) (hlo : M.lo ≤ M.n) : Cp fns 14 [.ag (gcs g vr vf vc vk)] M (ShPost g M) := by
  have hG : ∀ l, l = gcs g vr vf vc vk → Ev.getN (ofL l 0) 7 0 = some (gcs g vr vf vc vk) := fun l e => by subst e; exact (at_ofL (gcs g vr vf vc vk)).getN
  have hG := hG [MV.i IntKind.i64 g.names, MV.i IntKind.i64 g.kinds, MV.i IntKind.i64 g.start, vr, vf, vc, vk] rfl
  refine Cp_call (fn := F14) (by kernel_rfl) (Nat.le_of_ble_eq_true rfl) ?_
  show Wp fns B14 (T.set q0 (some (.ag (gcs g vr vf vc vk))) T.lf) M _
  unfold B14
  rw [show gcs g vr vf vc vk = [MV.i IntKind.i64 g.names, MV.i IntKind.i64 g.kinds, MV.i IntKind.i64 g.start, vr, vf, vc, vk] from rfl]
  generalize hM1 : M.push (.cs false 7 (ofL [MV.i IntKind.i64 g.names, MV.i IntKind.i64 g.kinds, MV.i IntKind.i64 g.start, vr, vf, vc, vk] 0)) = M1
  have g0 : M1.get M.n = some (.cs false 7 (ofL [MV.i IntKind.i64 g.names, MV.i IntKind.i64 g.kinds, MV.i IntKind.i64 g.start, vr, vf, vc, vk] 0)) := by rw [← hM1]; exact push_new _
  have x1 : Ext M M1 := by rw [← hM1]; exact .push M _
  have n1 : M1.n = M.n + 1 := by rw [← hM1]; rfl
  have l1 := x1.lo
  simp (maxSteps := 4000000) (disch := first | omega | assumption | (simp only [bxS, bxV, stOk, Nat.reduceBEq, Nat.reduceEqDiff, Nat.reduceAdd]; done) | (simp only [bxU]; omega) | ((try apply has_setN); apply has_ofL; simp only [bxL]; omega)) only [↓bxD, bxP, bxQ, Nat.reduceBEq, reduceCtorEq, Nat.reduceAdd, Nat.reduceSub, Nat.reduceMul, Nat.reduceLeDiff, Nat.reduceLT, bxR, hG, hM1, g0]
  refine bindP_call (isForm_any (h.ext x1) (by omega)) ?_
  rintro m M2 ⟨rfl, x2⟩
  have n2 := x2.n
  have l2 := x2.lo
  have g2 := (x2.old _ (by omega)).trans g0
  by_cases hz : (formP g).2 = 0
  · have dz : decide ((formP g).2 = 0) = true := decide_eq_true hz
    have hok := form_ok hz
    simp (maxSteps := 4000000) (disch := first | omega | assumption | (simp only [bxS, bxV, stOk, Nat.reduceBEq, Nat.reduceEqDiff, Nat.reduceAdd]; done) | (simp only [bxU]; omega) | ((try apply has_setN); apply has_ofL; simp only [bxL]; omega)) only [↓bxD, bxP, bxQ, Nat.reduceBEq, reduceCtorEq, Nat.reduceAdd, Nat.reduceSub, Nat.reduceMul, Nat.reduceLeDiff, Nat.reduceLT, bxR, hG, g2, dz]
    show Wp fns K14_0 _ _ _
    unfold K14_0
    simp (maxSteps := 4000000) (disch := first | omega | assumption | (simp only [bxS, bxV, stOk, Nat.reduceBEq, Nat.reduceEqDiff, Nat.reduceAdd]; done) | (simp only [bxU]; omega) | ((try apply has_setN); apply has_ofL; simp only [bxL]; omega)) only [↓bxD, bxP, bxQ, Nat.reduceBEq, reduceCtorEq, Nat.reduceAdd, Nat.reduceSub, Nat.reduceMul, Nat.reduceLeDiff, Nat.reduceLT, bxR, hG, g2, dz]
    refine bindP_call (shortest_any ((h.ext x1).ext x2) hok (by omega)) ?_
    rintro m M3 ⟨x3, l, id, h1, rfl, h2, h3, h4⟩
    simp (maxSteps := 4000000) (disch := first | omega | assumption | (simp only [bxS, bxV, stOk, Nat.reduceBEq, Nat.reduceEqDiff, Nat.reduceAdd]; done) | (simp only [bxU]; omega) | ((try apply has_setN); apply has_ofL; simp only [bxL]; omega)) only [↓bxD, bxP, bxQ, Nat.reduceBEq, reduceCtorEq, Nat.reduceAdd, Nat.reduceSub, Nat.reduceMul, Nat.reduceLeDiff, Nat.reduceLT, bxR, hG, g2, dz]
    exact ⟨(x1.trans x2).trans x3, .inr ⟨hz, l, h1, h2.row h4⟩⟩
  · have dz : decide ((formP g).2 = 0) = false := decide_eq_false hz
    simp (maxSteps := 4000000) (disch := first | omega | assumption | (simp only [bxS, bxV, stOk, Nat.reduceBEq, Nat.reduceEqDiff, Nat.reduceAdd]; done) | (simp only [bxU]; omega) | ((try apply has_setN); apply has_ofL; simp only [bxL]; omega)) only [↓bxD, bxP, bxQ, Nat.reduceBEq, reduceCtorEq, Nat.reduceAdd, Nat.reduceSub, Nat.reduceMul, Nat.reduceLeDiff, Nat.reduceLT, bxR, hG, g2, dz]
    exact ⟨x1.trans x2, .inl ⟨hz, rfl⟩⟩
theorem pprod_any {M : MH} {g : Gr} {vr vf vc vk : MV} {es : List (List MV)} (h : GrAt M vr vf vc vk es g) (hlo : M.lo ≤ M.n) : Cp fns 11 [.ag (gcs g vr vf vc vk)] M (PrPost g M) := by
  have hG : ∀ l, l = gcs g vr vf vc vk → Ev.getN (ofL l 0) 7 0 = some (gcs g vr vf vc vk) := fun l e => by subst e; exact (at_ofL (gcs g vr vf vc vk)).getN
  have hG := hG [MV.i IntKind.i64 g.names, MV.i IntKind.i64 g.kinds, MV.i IntKind.i64 g.start, vr, vf, vc, vk] rfl
  refine Cp_call (fn := F11) (by kernel_rfl) (Nat.le_of_ble_eq_true rfl) ?_
  show Wp fns B11 (T.set q0 (some (.ag (gcs g vr vf vc vk))) T.lf) M _
  unfold B11
  rw [show gcs g vr vf vc vk = [MV.i IntKind.i64 g.names, MV.i IntKind.i64 g.kinds, MV.i IntKind.i64 g.start, vr, vf, vc, vk] from rfl]
  generalize hM1 : M.push (.cs false 7 (ofL [MV.i IntKind.i64 g.names, MV.i IntKind.i64 g.kinds, MV.i IntKind.i64 g.start, vr, vf, vc, vk] 0)) = M1
  have g0 : M1.get M.n = some (.cs false 7 (ofL [MV.i IntKind.i64 g.names, MV.i IntKind.i64 g.kinds, MV.i IntKind.i64 g.start, vr, vf, vc, vk] 0)) := by rw [← hM1]; exact push_new _
  have x1 : Ext M M1 := by rw [← hM1]; exact .push M _
  have n1 : M1.n = M.n + 1 := by rw [← hM1]; rfl
  have l1 := x1.lo
  simp (maxSteps := 4000000) (disch := first | omega | assumption | (simp only [bxS, bxV, stOk, Nat.reduceBEq, Nat.reduceEqDiff, Nat.reduceAdd]; done) | (simp only [bxU]; omega) | ((try apply has_setN); apply has_ofL; simp only [bxL]; omega)) only [↓bxD, bxP, bxQ, Nat.reduceBEq, reduceCtorEq, Nat.reduceAdd, Nat.reduceSub, Nat.reduceMul, Nat.reduceLeDiff, Nat.reduceLT, bxR, hG, hM1, g0]
  refine bindP_call (isForm_any (h.ext x1) (by omega)) ?_
  rintro m M2 ⟨rfl, x2⟩
  have n2 := x2.n
  have l2 := x2.lo
  have g2 := (x2.old _ (by omega)).trans g0
  by_cases hz : (formP g).2 = 0
  · have dz : decide ((formP g).2 = 0) = true := decide_eq_true hz
    have hok := form_ok hz
    obtain ⟨nn, hnn⟩ : ∃ n : Nat, g.names = n := ⟨g.names.toNat, by have := hok.n1; omega⟩
    have hn1 := hok.n1
    have hn40 := hok.n2
    have hcs : gcs g vr vf vc vk = [MV.i .i64 (nn : Int), .i .i64 g.kinds, .i .i64 g.start, vr, vf, vc, vk] := by unfold gcs; rw [hnn]
    have g2' := g2
    rw [hnn] at g2'
    have hG' := hG
    rw [hnn, hcs] at hG'
    simp (maxSteps := 4000000) (disch := first | omega | assumption | (simp only [bxS, bxV, stOk, Nat.reduceBEq, Nat.reduceEqDiff, Nat.reduceAdd]; done) | (simp only [bxU]; omega) | ((try apply has_setN); apply has_ofL; simp only [bxL]; omega)) only [↓bxD, bxP, bxQ, Nat.reduceBEq, reduceCtorEq, Nat.reduceAdd, Nat.reduceSub, Nat.reduceMul, Nat.reduceLeDiff, Nat.reduceLT, bxR, hG', g2', dz, ev_mks, mks_ok]
    show Wp fns K11_4 _ _ _
    unfold K11_4
    simp (maxSteps := 4000000) (disch := first | omega | assumption | (simp only [bxS, bxV, stOk, Nat.reduceBEq, Nat.reduceEqDiff, Nat.reduceAdd]; done) | (simp only [bxU]; omega) | ((try apply has_setN); apply has_ofL; simp only [bxL]; omega)) only [↓bxD, bxP, bxQ, Nat.reduceBEq, reduceCtorEq, Nat.reduceAdd, Nat.reduceSub, Nat.reduceMul, Nat.reduceLeDiff, Nat.reduceLT, bxR, hG', g2', dz, ev_mks, mks_ok, hG]
    have hbn := BoolsAt.new (M := M2) nn
    have x3 : Ext M2 (M2.push (.cs false 1 (ofL (zrow [.b false] nn) 0))) := .push M2 _
    have n3 : (M2.push (.cs false 1 (ofL (zrow [.b false] nn) 0))).n = M2.n + 1 := rfl
    generalize M2.push (.cs false 1 (ofL (zrow [.b false] nn) 0)) = M3 at hbn x3 n3
    have l3 := x3.lo
    rw [← hcs]
    refine bindP_call (shortest_any (((h.ext x1).ext x2).ext x3) hok (by omega)) ?_
    rintro m M4 ⟨x4, l, id, h1, rfl, h2, h3, h4⟩
    have hin := h1.inn hok
    have hll := hin.len
    have l4 := x4.lo
    simp (maxSteps := 4000000) (disch := first | omega | assumption | (simp only [bxS, bxV, stOk, Nat.reduceBEq, Nat.reduceEqDiff, Nat.reduceAdd]; done) | (simp only [bxU]; omega) | ((try apply has_setN); apply has_ofL; simp only [bxL]; omega)) only [↓bxD, bxP, bxQ, Nat.reduceBEq, reduceCtorEq, Nat.reduceAdd, Nat.reduceSub, Nat.reduceMul, Nat.reduceLeDiff, Nat.reduceLT, bxR, hG', g2', dz, ev_mks, mks_ok, len_slc]
    refine Wp_inv (σ := Nat × List Bool) (fun s f M' => Ext M M' ∧ M'.n = M4.n ∧ s.1 ≤ l.length ∧ X.ev f (.t q3) = .sl M2.n 0 nn 0 ∧ X.ev f (.t q13) = .sl id 0 l.length 0 ∧ X.ev f (.t q14) = .i .i64 (l.length : Int) ∧ X.ev f (.t q15) = .i .i64 (s.1 : Int) ∧ IntsAt M' id l ∧ BoolsAt M' M2.n s.2 ∧ s.2.length = nn ∧ ∀ j z, j < s.1 → l[j]? = some z → s.2[j]? = some (decide (0 ≤ z))) (fun s => l.length - s.1) ?_ (0, List.replicate nn false) ?_
    · rintro ⟨i, L⟩ f M' ⟨hx, hn', hi, h3', h13, h14, h15, hI, hB, hL, hv⟩
      simp only at hi h3' h13 h14 h15 hB hL hv
      simp only [q3, q13, q14, q15] at h3' h13 h14 h15
      have hl' := hx.lo
      unfold L11_2
      by_cases hi' : i < l.length
      · have d1 : decide ((i : Int) < (l.length : Int)) = true := decide_eq_true (by omega)
        obtain ⟨z, hz⟩ : ∃ z, l[i]? = some z := ⟨_, List.getElem?_eq_getElem hi'⟩
        have hzb := hin.lo z (List.mem_of_getElem? hz)
        obtain ⟨t, ht1, ht2, ht3, ht4⟩ := hI.read
        obtain ⟨tb, hb1, hb2, hb3, hb4⟩ := hB.read
        have hR := ht2 _ _ hz
        have hH := hb3 i (by omega)
        have dz : decide (z ≠ Int.negSucc 0) = decide (0 ≤ z) := by
          by_cases e : 0 ≤ z
          · rw [decide_eq_true e]; exact decide_eq_true (fun e' => by omega)
          · rw [decide_eq_false e]; exact decide_eq_false (fun e' => e' (by omega))
        simp (maxSteps := 4000000) (disch := first | omega | assumption | (simp only [bxS, bxV, stOk, Nat.reduceBEq, Nat.reduceEqDiff, Nat.reduceAdd]; done) | (simp only [bxU]; omega) | ((try apply has_setN); apply has_ofL; simp only [bxL]; omega)) only [↓bxD, bxP, bxQ, Nat.reduceBEq, reduceCtorEq, Nat.reduceAdd, Nat.reduceSub, Nat.reduceMul, Nat.reduceLeDiff, Nat.reduceLT, bxR, h3', h13, h14, h15, d1, ix_slc, ht1, hR, hb1, hH, dz]
        show Wp fns K11_1 _ _ _
        unfold K11_1
        simp (maxSteps := 4000000) (disch := first | omega | assumption | (simp only [bxS, bxV, stOk, Nat.reduceBEq, Nat.reduceEqDiff, Nat.reduceAdd]; done) | (simp only [bxU]; omega) | ((try apply has_setN); apply has_ofL; simp only [bxL]; omega)) only [↓bxD, bxP, bxQ, Nat.reduceBEq, reduceCtorEq, Nat.reduceAdd, Nat.reduceSub, Nat.reduceMul, Nat.reduceLeDiff, Nat.reduceLT, bxR, h3', h13, h14, h15, d1, ix_slc, ht1, hR, hb1, hH, dz]
        show Wp fns K11_0 _ _ _
        unfold K11_0
        simp (maxSteps := 4000000) (disch := first | omega | assumption | (simp only [bxS, bxV, stOk, Nat.reduceBEq, Nat.reduceEqDiff, Nat.reduceAdd]; done) | (simp only [bxU]; omega) | ((try apply has_setN); apply has_ofL; simp only [bxL]; omega)) only [↓bxD, bxP, bxQ, Nat.reduceBEq, reduceCtorEq, Nat.reduceAdd, Nat.reduceSub, Nat.reduceMul, Nat.reduceLeDiff, Nat.reduceLT, bxR, h3', h13, h14, h15, d1, ix_slc, ht1, hR, hb1, hH, dz]
        refine ⟨(i + 1, L.set i (decide (0 ≤ z))), by simp only; omega, hx.set _ (by omega), hn', by simp only; omega, rfl, hI.same (set_ne (by omega)), ⟨_, set_same _ _, hb4 i _ (by omega)⟩, by rw [List.length_set]; exact hL, fun j y hj hy => ?_⟩
        simp only at hj ⊢
        rw [List.getElem?_set]
        by_cases e : i = j
        · subst e
          rw [hz] at hy
          injection hy with hy
          subst hy
          rw [if_pos rfl, if_pos (by omega)]
        · rw [if_neg e]
          exact hv j y (by omega) hy
      · have d1 : decide ((i : Int) < (l.length : Int)) = false := decide_eq_false (by omega)
        simp (maxSteps := 4000000) (disch := first | omega | assumption | (simp only [bxS, bxV, stOk, Nat.reduceBEq, Nat.reduceEqDiff, Nat.reduceAdd]; done) | (simp only [bxU]; omega) | ((try apply has_setN); apply has_ofL; simp only [bxL]; omega)) only [↓bxD, bxP, bxQ, Nat.reduceBEq, reduceCtorEq, Nat.reduceAdd, Nat.reduceSub, Nat.reduceMul, Nat.reduceLeDiff, Nat.reduceLT, bxR, h3', h13, h14, h15, d1]
        show Wp fns K11_3 _ _ _
        unfold K11_3
        simp (maxSteps := 4000000) (disch := first | omega | assumption | (simp only [bxS, bxV, stOk, Nat.reduceBEq, Nat.reduceEqDiff, Nat.reduceAdd]; done) | (simp only [bxU]; omega) | ((try apply has_setN); apply has_ofL; simp only [bxL]; omega)) only [↓bxD, bxP, bxQ, Nat.reduceBEq, reduceCtorEq, Nat.reduceAdd, Nat.reduceSub, Nat.reduceMul, Nat.reduceLeDiff, Nat.reduceLT, bxR, h3', h13, h14, h15, d1]
        refine ⟨hx, .inr ⟨hz, l, h1, ?_⟩⟩
        have e : l.map (fun z => decide (0 ≤ z)) = L := by
          refine List.ext_getElem? fun j => ?_
          rw [List.getElem?_map]
          cases hj : l[j]? with
          | none =>
            have := List.getElem?_eq_none_iff.1 hj
            rw [List.getElem?_eq_none (by omega)]; rfl
          | some z =>
            have := (List.getElem?_eq_some_iff.1 hj).1
            rw [hv j z (by omega) hj]; rfl
        rw [e]
        have := hB.row (by omega)
        rw [hL] at this
        exact this
    · exact ⟨((x1.trans x2).trans x3).trans x4, rfl, Nat.zero_le _, by simp only [bxP, bxQ, reduceCtorEq, hG', g2', dz, ev_mks, mks_ok], by simp only [bxP, bxQ, reduceCtorEq, hG', g2', dz, ev_mks, mks_ok], by simp only [bxP, bxQ, reduceCtorEq, hG', g2', dz, ev_mks, mks_ok], by simp only [bxP, bxQ, reduceCtorEq, hG', g2', dz, ev_mks, mks_ok] <;> rfl, h2, hbn.same (x4.old _ (by omega)), List.length_replicate, fun j z hj => by cases hj⟩
  · have dz : decide ((formP g).2 = 0) = false := decide_eq_false hz
    simp (maxSteps := 4000000) (disch := first | omega | assumption | (simp only [bxS, bxV, stOk, Nat.reduceBEq, Nat.reduceEqDiff, Nat.reduceAdd]; done) | (simp only [bxU]; omega) | ((try apply has_setN); apply has_ofL; simp only [bxL]; omega)) only [↓bxD, bxP, bxQ, Nat.reduceBEq, reduceCtorEq, Nat.reduceAdd, Nat.reduceSub, Nat.reduceMul, Nat.reduceLeDiff, Nat.reduceLT, bxR, hG, g2, dz]
    exact ⟨x1.trans x2, .inl ⟨hz, rfl⟩⟩
def shVal (l r : List Int) : Int := if shOk l r = true then shSum l r else -1
theorem shVal_cut (l r : List Int) : (if mostZ < shVal l r then mostZ else shVal l r) = shRow l r := by
  unfold shVal shRow
  split
  · split <;> omega
  · unfold mostZ
    rw [if_neg (by omega)]
theorem shVal_hi {l r : List Int} (hl : ∀ z ∈ l, -1 ≤ z ∧ z ≤ mostZ) : shVal l r ≤ mostZ * r.length := by
  have key : ∀ r : List Int, shSum l r ≤ mostZ * r.length := fun r => by
    induction r with
    | nil => exact Int.le_refl _
    | cons s r ih =>
      have := (shV_lo hl s).2
      unfold shSum at *
      rw [List.map_cons, List.sum_cons, List.length_cons]
      unfold mostZ at *
      omega
  unfold shVal
  split
  · exact key r
  · unfold mostZ; omega
theorem lrow_in {M : MH} {f : Fr} {l ar : List Int} {ur v1 vs vp vm : MV} {n7 : Nat} {c : T MV} {i9 : Int} (hI : IntRow M vs l) (hu : IntRow M ur ar) (hl : ∀ z ∈ l, -1 ≤ z ∧ z ≤ mostZ) (hs : ∀ s ∈ ar, 0 ≤ s → s.toNat < l.length) (ha : ar.length ≤ 8)
    (h10 : X.ev f (.t q10) = .p n7 0) (hb7 : M.get n7 = some (.cs false 3 c)) (c1 : cget c 1 = some ur) (h1 : X.ev f (.t q1) = v1) (h6 : X.ev f (.t q6) = vs) (h7 : X.ev f (.t q7) = vp) (h8 : X.ev f (.t q8) = vm) (h9 : X.ev f (.t q9) = .i .i64 i9) (h11 : X.ev f (.t q11) = .i .i64 0) (h12 : X.ev f (.t q12) = .i .i64 0) (Q : Post)
    (hn : ∀ f', X.ev f' (.t q10) = .p n7 0 → X.ev f' (.t q1) = v1 → X.ev f' (.t q6) = vs → X.ev f' (.t q7) = vp → X.ev f' (.t q8) = vm → X.ev f' (.t q9) = .i .i64 i9 → X.ev f' (.t q11) = .i .i64 (shVal l ar) → Q .norm f' M) : Wp fns (.loop L4_2) f M (blockQ 2 Q) := by
  obtain ⟨hu1, hu2⟩ := hu.sl
  obtain ⟨hs1, hs2⟩ := hI.sl
  refine Wp_inv (σ := Nat) (fun k f M' => M' = M ∧ k ≤ ar.length ∧ X.ev f (.t q10) = .p n7 0 ∧ X.ev f (.t q1) = v1 ∧ X.ev f (.t q6) = vs ∧ X.ev f (.t q7) = vp ∧ X.ev f (.t q8) = vm ∧ X.ev f (.t q9) = .i .i64 i9 ∧ X.ev f (.t q11) = .i .i64 (shVal l (ar.take k)) ∧ X.ev f (.t q12) = .i .i64 (k : Int)) (fun k => ar.length - k) ?_ 0 ?_
  · rintro k f M' ⟨rfl, hk, h10, h1, h6, h7, h8, h9, h11, h12⟩
    simp only [q1, q6, q7, q8, q9, q10, q11, q12] at h1 h6 h7 h8 h9 h10 h11 h12
    unfold L4_2
    by_cases hk1 : k < ar.length
    · have d1 : decide ((k : Int) < (ar.length : Int)) = true := decide_eq_true (by omega)
      cases hv : shOk l (ar.take k) with
      | true =>
        have hval : shVal l (ar.take k) = shSum l (ar.take k) := by unfold shVal; rw [hv]; rfl
        have hp := shSum_pos hv
        have hp2 := shVal_hi (r := ar.take k) hl
        rw [hval] at h11 hp2
        rw [List.length_take, Nat.min_eq_left (by omega)] at hp2
        have d2 : decide (0 ≤ shSum l (ar.take k)) = true := decide_eq_true hp
        obtain ⟨s, hsk⟩ : ∃ s, ar[k]? = some s := ⟨_, List.getElem?_eq_getElem hk1⟩
        obtain ⟨ro, sz, tt, hg, hid', hC⟩ := hu.read hsk
        have hvb := shV_lo hl s
        have ho2 := shOk_take (l := l) hsk
        have hs2' := shSum_take (l := l) hsk
        rw [hv, Bool.true_and] at ho2
        unfold mostZ at hvb hp2
        by_cases s0 : s < 0
        · have ds : decide (s < 0) = true := decide_eq_true s0
          have hzv : shV l s = 1 := by unfold shV; rw [if_pos s0]
          rw [hzv] at ho2 hs2'
          have wa : wrapF .i64 (shSum l (ar.take k) + 1) = shSum l (ar.take k) + 1 := wrap_in (by omega) (by omega)
          simp (maxSteps := 4000000) (disch := first | omega | assumption | (simp only [bxS, bxV, stOk, Nat.reduceBEq, Nat.reduceEqDiff, Nat.reduceAdd]; done) | (simp only [bxU]; omega) | ((try apply has_setN); apply has_ofL; simp only [bxL]; omega)) only [↓bxD, bxP, bxQ, bxQ2, Nat.reduceBEq, reduceCtorEq, Nat.reduceAdd, Nat.reduceSub, Nat.reduceMul, Nat.reduceLeDiff, Nat.reduceLT, bxR, h1, h6, h7, h8, h9, h10, h11, h12, hs1, hs2, hu1, hu2, hb7, c1, d1, d2, hg, hC, ds, wa]
          show Wp fns K4_1 _ _ _
          unfold K4_1
          simp (maxSteps := 4000000) (disch := first | omega | assumption | (simp only [bxS, bxV, stOk, Nat.reduceBEq, Nat.reduceEqDiff, Nat.reduceAdd]; done) | (simp only [bxU]; omega) | ((try apply has_setN); apply has_ofL; simp only [bxL]; omega)) only [↓bxD, bxP, bxQ, bxQ2, Nat.reduceBEq, reduceCtorEq, Nat.reduceAdd, Nat.reduceSub, Nat.reduceMul, Nat.reduceLeDiff, Nat.reduceLT, bxR, h1, h6, h7, h8, h9, h10, h11, h12, hs1, hs2, hu1, hu2, hb7, c1, d1, d2, hg, hC, ds, wa]
          show Wp fns K4_0 _ _ _
          unfold K4_0
          simp (maxSteps := 4000000) (disch := first | omega | assumption | (simp only [bxS, bxV, stOk, Nat.reduceBEq, Nat.reduceEqDiff, Nat.reduceAdd]; done) | (simp only [bxU]; omega) | ((try apply has_setN); apply has_ofL; simp only [bxL]; omega)) only [↓bxD, bxP, bxQ, bxQ2, Nat.reduceBEq, reduceCtorEq, Nat.reduceAdd, Nat.reduceSub, Nat.reduceMul, Nat.reduceLeDiff, Nat.reduceLT, bxR, h1, h6, h7, h8, h9, h10, h11, h12, hs1, hs2, hu1, hu2, hb7, c1, d1, d2, hg, hC, ds, wa]
          refine ⟨k + 1, by omega, by omega, congrArg (MV.i .i64) ?_, rfl⟩
          unfold shVal
          rw [ho2, hs2']
          rfl
        · have ds : decide (s < 0) = false := decide_eq_false s0
          have hsl := hs s (List.mem_of_getElem? hsk) (by omega)
          obtain ⟨sn, rfl⟩ : ∃ n : Nat, s = n := ⟨s.toNat, by omega⟩
          simp only [Int.toNat_natCast] at hsl
          obtain ⟨z, hz⟩ : ∃ z, l[sn]? = some z := ⟨_, List.getElem?_eq_getElem hsl⟩
          obtain ⟨ro2, sz2, t2, hg2, hid2, hC2⟩ := hI.read hz
          have hzv : shV l (sn : Int) = z := by unfold shV; rw [if_neg s0, List.getD_eq_getElem?_getD, Int.toNat_natCast, hz]; rfl
          rw [hzv] at hvb ho2 hs2'
          by_cases z0 : z < 0
          · have dz : decide (z < 0) = true := decide_eq_true z0
            have hnv : shVal l (ar.take (k + 1)) = -1 := by
              unfold shVal
              rw [ho2, decide_eq_false (by omega)]
              rfl
            simp (maxSteps := 4000000) (disch := first | omega | assumption | (simp only [bxS, bxV, stOk, Nat.reduceBEq, Nat.reduceEqDiff, Nat.reduceAdd]; done) | (simp only [bxU]; omega) | ((try apply has_setN); apply has_ofL; simp only [bxL]; omega)) only [↓bxD, bxP, bxQ, bxQ2, Nat.reduceBEq, reduceCtorEq, Nat.reduceAdd, Nat.reduceSub, Nat.reduceMul, Nat.reduceLeDiff, Nat.reduceLT, bxR, h1, h6, h7, h8, h9, h10, h11, h12, hs1, hs2, hu1, hu2, hb7, c1, d1, d2, hg, hC, ds, hg2, hC2, dz]
            show Wp fns K4_1 _ _ _
            unfold K4_1
            simp (maxSteps := 4000000) (disch := first | omega | assumption | (simp only [bxS, bxV, stOk, Nat.reduceBEq, Nat.reduceEqDiff, Nat.reduceAdd]; done) | (simp only [bxU]; omega) | ((try apply has_setN); apply has_ofL; simp only [bxL]; omega)) only [↓bxD, bxP, bxQ, bxQ2, Nat.reduceBEq, reduceCtorEq, Nat.reduceAdd, Nat.reduceSub, Nat.reduceMul, Nat.reduceLeDiff, Nat.reduceLT, bxR, h1, h6, h7, h8, h9, h10, h11, h12, hs1, hs2, hu1, hu2, hb7, c1, d1, d2, hg, hC, ds, hg2, hC2, dz]
            show Wp fns K4_0 _ _ _
            unfold K4_0
            simp (maxSteps := 4000000) (disch := first | omega | assumption | (simp only [bxS, bxV, stOk, Nat.reduceBEq, Nat.reduceEqDiff, Nat.reduceAdd]; done) | (simp only [bxU]; omega) | ((try apply has_setN); apply has_ofL; simp only [bxL]; omega)) only [↓bxD, bxP, bxQ, bxQ2, Nat.reduceBEq, reduceCtorEq, Nat.reduceAdd, Nat.reduceSub, Nat.reduceMul, Nat.reduceLeDiff, Nat.reduceLT, bxR, h1, h6, h7, h8, h9, h10, h11, h12, hs1, hs2, hu1, hu2, hb7, c1, d1, d2, hg, hC, ds, hg2, hC2, dz]
            exact ⟨k + 1, by omega, by omega, by rw [hnv]; rfl, rfl⟩
          · have dz : decide (z < 0) = false := decide_eq_false z0
            have wa : wrapF .i64 (shSum l (ar.take k) + z) = shSum l (ar.take k) + z := wrap_in (by omega) (by omega)
            simp (maxSteps := 4000000) (disch := first | omega | assumption | (simp only [bxS, bxV, stOk, Nat.reduceBEq, Nat.reduceEqDiff, Nat.reduceAdd]; done) | (simp only [bxU]; omega) | ((try apply has_setN); apply has_ofL; simp only [bxL]; omega)) only [↓bxD, bxP, bxQ, bxQ2, Nat.reduceBEq, reduceCtorEq, Nat.reduceAdd, Nat.reduceSub, Nat.reduceMul, Nat.reduceLeDiff, Nat.reduceLT, bxR, h1, h6, h7, h8, h9, h10, h11, h12, hs1, hs2, hu1, hu2, hb7, c1, d1, d2, hg, hC, ds, hg2, hC2, dz, wa]
            show Wp fns K4_1 _ _ _
            unfold K4_1
            simp (maxSteps := 4000000) (disch := first | omega | assumption | (simp only [bxS, bxV, stOk, Nat.reduceBEq, Nat.reduceEqDiff, Nat.reduceAdd]; done) | (simp only [bxU]; omega) | ((try apply has_setN); apply has_ofL; simp only [bxL]; omega)) only [↓bxD, bxP, bxQ, bxQ2, Nat.reduceBEq, reduceCtorEq, Nat.reduceAdd, Nat.reduceSub, Nat.reduceMul, Nat.reduceLeDiff, Nat.reduceLT, bxR, h1, h6, h7, h8, h9, h10, h11, h12, hs1, hs2, hu1, hu2, hb7, c1, d1, d2, hg, hC, ds, hg2, hC2, dz, wa]
            show Wp fns K4_0 _ _ _
            unfold K4_0
            simp (maxSteps := 4000000) (disch := first | omega | assumption | (simp only [bxS, bxV, stOk, Nat.reduceBEq, Nat.reduceEqDiff, Nat.reduceAdd]; done) | (simp only [bxU]; omega) | ((try apply has_setN); apply has_ofL; simp only [bxL]; omega)) only [↓bxD, bxP, bxQ, bxQ2, Nat.reduceBEq, reduceCtorEq, Nat.reduceAdd, Nat.reduceSub, Nat.reduceMul, Nat.reduceLeDiff, Nat.reduceLT, bxR, h1, h6, h7, h8, h9, h10, h11, h12, hs1, hs2, hu1, hu2, hb7, c1, d1, d2, hg, hC, ds, hg2, hC2, dz, wa]
            refine ⟨k + 1, by omega, by omega, congrArg (MV.i .i64) ?_, rfl⟩
            unfold shVal
            rw [ho2, hs2', decide_eq_true (show 0 ≤ z by omega)]
            rfl
      | false =>
        have hval : shVal l (ar.take k) = -1 := by unfold shVal; rw [hv]; rfl
        have hvl : shVal l ar = -1 := by unfold shVal; rw [shOk_le hv]; rfl
        rw [hval] at h11
        have d2 : decide ((0 : Int) ≤ -1) = false := rfl
        simp (maxSteps := 4000000) (disch := first | omega | assumption | (simp only [bxS, bxV, stOk, Nat.reduceBEq, Nat.reduceEqDiff, Nat.reduceAdd]; done) | (simp only [bxU]; omega) | ((try apply has_setN); apply has_ofL; simp only [bxL]; omega)) only [↓bxD, bxP, bxQ, bxQ2, Nat.reduceBEq, reduceCtorEq, Nat.reduceAdd, Nat.reduceSub, Nat.reduceMul, Nat.reduceLeDiff, Nat.reduceLT, bxR, h1, h6, h7, h8, h9, h10, h11, h12, hs1, hs2, hu1, hu2, hb7, c1, d1, d2]
        exact hn _ (by simp only [bxP, bxQ, bxQ2, reduceCtorEq, h1, h6, h7, h8, h9, h10, h11, h12, hs1, hs2, hu1, hu2, hb7, c1, d1, d2]) (by simp only [bxP, bxQ, bxQ2, reduceCtorEq, h1, h6, h7, h8, h9, h10, h11, h12, hs1, hs2, hu1, hu2, hb7, c1, d1, d2]) (by simp only [bxP, bxQ, bxQ2, reduceCtorEq, h1, h6, h7, h8, h9, h10, h11, h12, hs1, hs2, hu1, hu2, hb7, c1, d1, d2]) (by simp only [bxP, bxQ, bxQ2, reduceCtorEq, h1, h6, h7, h8, h9, h10, h11, h12, hs1, hs2, hu1, hu2, hb7, c1, d1, d2]) (by simp only [bxP, bxQ, bxQ2, reduceCtorEq, h1, h6, h7, h8, h9, h10, h11, h12, hs1, hs2, hu1, hu2, hb7, c1, d1, d2]) (by simp only [bxP, bxQ, bxQ2, reduceCtorEq, h1, h6, h7, h8, h9, h10, h11, h12, hs1, hs2, hu1, hu2, hb7, c1, d1, d2]) (by simp (maxSteps := 4000000) (disch := first | omega | assumption | (simp only [bxS, bxV, stOk, Nat.reduceBEq, Nat.reduceEqDiff, Nat.reduceAdd]; done) | (simp only [bxU]; omega) | ((try apply has_setN); apply has_ofL; simp only [bxL]; omega)) only [↓bxD, bxP, bxQ, bxQ2, Nat.reduceBEq, reduceCtorEq, Nat.reduceAdd, Nat.reduceSub, Nat.reduceMul, Nat.reduceLeDiff, Nat.reduceLT, bxR, h1, h6, h7, h8, h9, h10, h11, h12, hs1, hs2, hu1, hu2, hb7, c1, d1, d2, hvl])
    · have d1 : decide ((k : Int) < (ar.length : Int)) = false := decide_eq_false (by omega)
      have hkl : k = ar.length := by omega
      subst hkl
      rw [List.take_length] at h11
      simp (maxSteps := 4000000) (disch := first | omega | assumption | (simp only [bxS, bxV, stOk, Nat.reduceBEq, Nat.reduceEqDiff, Nat.reduceAdd]; done) | (simp only [bxU]; omega) | ((try apply has_setN); apply has_ofL; simp only [bxL]; omega)) only [↓bxD, bxP, bxQ, bxQ2, Nat.reduceBEq, reduceCtorEq, Nat.reduceAdd, Nat.reduceSub, Nat.reduceMul, Nat.reduceLeDiff, Nat.reduceLT, bxR, h1, h6, h7, h8, h9, h10, h11, h12, hs1, hs2, hu1, hu2, hb7, c1, d1]
      exact hn _ (by simp only [bxP, bxQ, bxQ2, reduceCtorEq, h1, h6, h7, h8, h9, h10, h11, h12, hs1, hs2, hu1, hu2, hb7, c1, d1]) (by simp only [bxP, bxQ, bxQ2, reduceCtorEq, h1, h6, h7, h8, h9, h10, h11, h12, hs1, hs2, hu1, hu2, hb7, c1, d1]) (by simp only [bxP, bxQ, bxQ2, reduceCtorEq, h1, h6, h7, h8, h9, h10, h11, h12, hs1, hs2, hu1, hu2, hb7, c1, d1]) (by simp only [bxP, bxQ, bxQ2, reduceCtorEq, h1, h6, h7, h8, h9, h10, h11, h12, hs1, hs2, hu1, hu2, hb7, c1, d1]) (by simp only [bxP, bxQ, bxQ2, reduceCtorEq, h1, h6, h7, h8, h9, h10, h11, h12, hs1, hs2, hu1, hu2, hb7, c1, d1]) (by simp only [bxP, bxQ, bxQ2, reduceCtorEq, h1, h6, h7, h8, h9, h10, h11, h12, hs1, hs2, hu1, hu2, hb7, c1, d1]) (by simp only [bxP, bxQ, bxQ2, reduceCtorEq, h1, h6, h7, h8, h9, h10, h11, h12, hs1, hs2, hu1, hu2, hb7, c1, d1])
  · exact ⟨rfl, Nat.zero_le _, h10, h1, h6, h7, h8, h9, h11, h12⟩
def fewB (g : Gr) : Bool := decide ((g.rules.length : Int) ≤ 70) && (decide ((g.forbid.length : Int) ≤ 250) && (decide ((g.rc.length : Int) ≤ 100) && decide ((g.kc.length : Int) ≤ 100)))
theorem few_any {M : MH} {g : Gr} {vr vf vc vk : MV} {es : List (List MV)} (h : GrAt M vr vf vc vk es g) (hlo : M.lo ≤ M.n) : Cp fns 7 [.ag (gcs g vr vf vc vk)] M fun m M' => m = .b (fewB g) ∧ Ext M M' := by
  obtain ⟨hr1, hr2⟩ := h.rules.row.sl
  rw [h.rules.len] at hr2
  obtain ⟨hf1, hf2⟩ := h.forbid.sl
  rw [List.length_map] at hf2
  obtain ⟨hc1, hc2⟩ := h.rc.sl
  obtain ⟨hk1, hk2⟩ := h.kc.sl
  refine Cp_call (fn := F7) (by kernel_rfl) (Nat.le_of_ble_eq_true rfl) ?_
  show Wp fns B7 (T.set q0 (some (.ag (gcs g vr vf vc vk))) T.lf) M _
  unfold B7 gcs
  have hx : ∀ l, Ext M (M.push (.cs false 7 (ofL l 0))) := fun l => .push M _
  cases d0 : decide ((g.rules.length : Int) ≤ 70) with
  | false =>
    simp (maxSteps := 4000000) (disch := first | omega | assumption | (simp only [bxS, bxV, stOk, Nat.reduceBEq, Nat.reduceEqDiff, Nat.reduceAdd]; done) | (simp only [bxU]; omega) | ((try apply has_setN); apply has_ofL; simp only [bxL]; omega)) only [↓bxD, bxP, bxQ, Nat.reduceBEq, reduceCtorEq, Nat.reduceAdd, Nat.reduceSub, Nat.reduceMul, Nat.reduceLeDiff, Nat.reduceLT, bxR, hr1, hr2, hf1, hf2, hc1, hc2, hk1, hk2, d0]
    exact ⟨by unfold fewB; rw [d0]; rfl, hx _⟩
  | true =>
    cases d1 : decide ((g.forbid.length : Int) ≤ 250) with
    | false =>
      simp (maxSteps := 4000000) (disch := first | omega | assumption | (simp only [bxS, bxV, stOk, Nat.reduceBEq, Nat.reduceEqDiff, Nat.reduceAdd]; done) | (simp only [bxU]; omega) | ((try apply has_setN); apply has_ofL; simp only [bxL]; omega)) only [↓bxD, bxP, bxQ, Nat.reduceBEq, reduceCtorEq, Nat.reduceAdd, Nat.reduceSub, Nat.reduceMul, Nat.reduceLeDiff, Nat.reduceLT, bxR, hr1, hr2, hf1, hf2, hc1, hc2, hk1, hk2, d0, d1]
      exact ⟨by unfold fewB; rw [d0, d1]; rfl, hx _⟩
    | true =>
      cases d2 : decide ((g.rc.length : Int) ≤ 100) with
      | false =>
        simp (maxSteps := 4000000) (disch := first | omega | assumption | (simp only [bxS, bxV, stOk, Nat.reduceBEq, Nat.reduceEqDiff, Nat.reduceAdd]; done) | (simp only [bxU]; omega) | ((try apply has_setN); apply has_ofL; simp only [bxL]; omega)) only [↓bxD, bxP, bxQ, Nat.reduceBEq, reduceCtorEq, Nat.reduceAdd, Nat.reduceSub, Nat.reduceMul, Nat.reduceLeDiff, Nat.reduceLT, bxR, hr1, hr2, hf1, hf2, hc1, hc2, hk1, hk2, d0, d1, d2]
        exact ⟨by unfold fewB; rw [d0, d1, d2]; rfl, hx _⟩
      | true =>
        simp (maxSteps := 4000000) (disch := first | omega | assumption | (simp only [bxS, bxV, stOk, Nat.reduceBEq, Nat.reduceEqDiff, Nat.reduceAdd]; done) | (simp only [bxU]; omega) | ((try apply has_setN); apply has_ofL; simp only [bxL]; omega)) only [↓bxD, bxP, bxQ, Nat.reduceBEq, reduceCtorEq, Nat.reduceAdd, Nat.reduceSub, Nat.reduceMul, Nat.reduceLeDiff, Nat.reduceLT, bxR, hr1, hr2, hf1, hf2, hc1, hc2, hk1, hk2, d0, d1, d2]
        exact ⟨by unfold fewB; rw [d0, d1, d2]; simp, hx _⟩
def RPost (g : Gr) (M : MH) (m : MV) (M' : MH) : Prop := Ext M M' ∧ (((formP g).2 ≠ 0 ∧ m = .nils) ∨ ((formP g).2 = 0 ∧ ∃ l, RchVec g l ∧ BRow M' m l))
def RIs (g : Gr) (l : List Bool) : Prop := ((formP g).2 ≠ 0 ∧ l = []) ∨ ((formP g).2 = 0 ∧ RchVec g l)
def PIs (g : Gr) (l : List Bool) : Prop := ((formP g).2 ≠ 0 ∧ l = []) ∨ ((formP g).2 = 0 ∧ ∃ x, ShVec g x ∧ l = x.map fun z => decide (0 ≤ z))
def SIs (g : Gr) (l : List Int) : Prop := ((formP g).2 ≠ 0 ∧ l = []) ∨ ((formP g).2 = 0 ∧ ShVec g l)
theorem RPost.is {g : Gr} {M M' : MH} {m : MV} (h : RPost g M m M') : Ext M M' ∧ ∃ l, BRow M' m l ∧ RIs g l ∧ l.length ≤ 1000000000 := by
  obtain ⟨hx, ⟨h1, rfl⟩ | ⟨h1, l, h2, h3⟩⟩ := h
  · exact ⟨hx, [], ⟨fun e he => by simp at he, .inl ⟨rfl, rfl⟩⟩, .inl ⟨h1, rfl⟩, Nat.zero_le _⟩
  · have := (form_ok h1).n2
    exact ⟨hx, l, h3, .inr ⟨h1, h2⟩, by rw [h2.1]; omega⟩
theorem PrPost.is {g : Gr} {M M' : MH} {m : MV} (h : PrPost g M m M') : Ext M M' ∧ ∃ l, BRow M' m l ∧ PIs g l ∧ l.length ≤ 1000000000 := by
  obtain ⟨hx, ⟨h1, rfl⟩ | ⟨h1, l, h2, h3⟩⟩ := h
  · exact ⟨hx, [], ⟨fun e he => by simp at he, .inl ⟨rfl, rfl⟩⟩, .inl ⟨h1, rfl⟩, Nat.zero_le _⟩
  · have := (form_ok h1).n2
    exact ⟨hx, _, h3, .inr ⟨h1, l, h2, rfl⟩, by rw [List.length_map, (h2.inn (form_ok h1)).len]; omega⟩
theorem ShPost.is {g : Gr} {M M' : MH} {m : MV} (h : ShPost g M m M') : Ext M M' ∧ ∃ l, IntRow M' m l ∧ SIs g l ∧ l.length ≤ 1000000000 := by
  obtain ⟨hx, ⟨h1, rfl⟩ | ⟨h1, l, h2, h3⟩⟩ := h
  · exact ⟨hx, [], ⟨fun e he => by simp [ints] at he, .inl ⟨rfl, rfl⟩⟩, .inl ⟨h1, rfl⟩, Nat.zero_le _⟩
  · have := (form_ok h1).n2
    exact ⟨hx, l, h3, .inr ⟨h1, h2⟩, by rw [(h2.inn (form_ok h1)).len]; omega⟩
structure LSt (M0 M : MH) (g : Gr) (vr vf vc vk : MV) (es : List (List MV)) (vs vp : MV) (id : Nat) (l : List Int) (met : List Bool) (f : Fr) : Prop where
  gr : GrAt M0 vr vf vc vk es g
  ok : GrOk g
  ext : Ext M0 M
  lo0 : M0.lo ≤ M0.n
  b0 : ∃ b, X.ev f (.t q1) = .p b 0 ∧ b < M0.n ∧ M0.get b = some (.cs false 7 (ofL (gcs g vr vf vc vk) 0))
  s : IntRow M0 vs l
  p : BRow M0 vp (l.map fun z => decide (0 ≤ z))
  sh : ShVec g l
  inn : ShIn g l
  id1 : M0.n ≤ id
  id2 : id < M.n
  row : BoolsAt M id met
  len : met.length = g.names.toNat
  q6 : X.ev f (.t q6) = vs
  q7 : X.ev f (.t q7) = vp
  q8 : X.ev f (.t q8) = .sl id 0 met.length 0
def MetUp (g : Gr) (l : List Int) (met : List Bool) (i : Nat) : Prop := ∀ (k : Nat) r, k < i → g.rules[k]? = some r → shOk l r.2.1 = true → l[r.1.toNat]? = some (shRow l r.2.1) → met[r.1.toNat]? = some true
theorem short_rules {M0 M : MH} {g : Gr} {vr vf vc vk vs vp : MV} {es : List (List MV)} {id : Nat} {l : List Int} {met : List Bool} {f : Fr} (h : LSt M0 M g vr vf vc vk es vs vp id l met f) (h9 : X.ev f (.t q9) = .i .i64 0) (Q : Post)
    (hn : ∀ f' M' met', LSt M0 M' g vr vf vc vk es vs vp id l met' f' → MetUp g l met' g.rules.length → Q .norm f' M') : Wp fns (.loop L4_8) f M (blockQ 0 Q) := by
  refine Wp_inv (σ := Nat × List Bool) (fun s f1 M1 => LSt M0 M1 g vr vf vc vk es vs vp id l s.2 f1 ∧ s.1 ≤ g.rules.length ∧ X.ev f1 (.t q9) = .i .i64 (s.1 : Int) ∧ MetUp g l s.2 s.1) (fun s => g.rules.length - s.1) ?_ (0, met) ?_
  · rintro ⟨i, mt⟩ f1 M1 ⟨h, hi, h9, hm⟩
    simp only at h hi h9 hm
    obtain ⟨b, hq1, hb, hbox0⟩ := h.b0
    have hq6 := h.q6
    have hq7 := h.q7
    have hq8 := h.q8
    have hbox := (h.ext.old b hb).trans hbox0
    have hlo := h.lo0
    have hn0 := h.ext.n
    have hl0 := h.ext.lo
    have hid1 := h.id1
    have hid2 := h.id2
    unfold gcs at hbox
    have hrl := h.ok.rl
    simp only [q1, q6, q7, q8, q9] at hq1 hq6 hq7 hq8 h9
    obtain ⟨hr1, hr2⟩ := h.gr.rules.row.sl
    rw [h.gr.rules.len] at hr2
    unfold L4_8
    by_cases hi' : i < g.rules.length
    · have d1 : decide ((i : Int) < (g.rules.length : Int)) = true := decide_eq_true (by omega)
      obtain ⟨r, hr⟩ : ∃ r, g.rules[i]? = some r := ⟨_, List.getElem?_eq_getElem hi'⟩
      obtain ⟨a0, ar, a2⟩ := r
      have hmem := List.mem_of_getElem? hr
      have hst := h.sh.2 _ hmem
      obtain ⟨ur, hu1, hu2⟩ := h.gr.rules.get hr
      have hrow := h.gr.rules.row.ext h.ext
      obtain ⟨ro3, s3, t3, hg3, hid3, hat3⟩ := hrow.read hu1
      have hN : Ev.getN t3 3 (soff vr + i * 3) = some [.i .i64 a0, ur, .i .i64 a2] := hat3.getN
      obtain ⟨hu3, hu4⟩ := hu2.sl
      have hu6 := isSl_one hu3
      have hsto : stOk 3 (.ag [.i .i64 a0, ur, .i .i64 a2]) = true := by simp only [stOk, cells_ag, isU_ag, all_cons, all_nil, one_i, hu6]; rfl
      obtain ⟨ha0, ha1⟩ := h.ok.left _ hmem
      simp only at ha0 ha1
      obtain ⟨an, rfl⟩ : ∃ n : Nat, a0 = n := ⟨a0.toNat, by omega⟩
      have hll := h.inn.len
      have hml := h.len
      have han : an < l.length := by omega
      simp (maxSteps := 4000000) (disch := first | omega | assumption | (simp only [bxS, bxV, stOk, Nat.reduceBEq, Nat.reduceEqDiff, Nat.reduceAdd]; done) | (simp only [bxU]; omega) | ((try apply has_setN); apply has_ofL; simp only [bxL]; omega)) only [↓bxD, bxP, bxQ, bxQ2, Nat.reduceBEq, reduceCtorEq, Nat.reduceAdd, Nat.reduceSub, Nat.reduceMul, Nat.reduceLeDiff, Nat.reduceLT, bxR, hq1, hq6, hq7, hq8, h9, hr1, hr2, hbox, hg3, hN, d1]
      show Wp fns K4_7 _ _ _
      unfold K4_7
      simp (maxSteps := 4000000) (disch := first | omega | assumption | (simp only [bxS, bxV, stOk, Nat.reduceBEq, Nat.reduceEqDiff, Nat.reduceAdd]; done) | (simp only [bxU]; omega) | ((try apply has_setN); apply has_ofL; simp only [bxL]; omega)) only [↓bxD, bxP, bxQ, bxQ2, Nat.reduceBEq, reduceCtorEq, Nat.reduceAdd, Nat.reduceSub, Nat.reduceMul, Nat.reduceLeDiff, Nat.reduceLT, bxR, hq1, hq6, hq7, hq8, h9, hr1, hr2, hbox, hg3, hN, d1]
      generalize hM2 : (M1.push _).set M1.n _ = M2
      have hx2 : Ext M1 M2 := by rw [← hM2]; exact (Ext.push M1 _).set _ (Nat.le_refl _)
      have h10 : M2.get M1.n = some (.cs false 3 (setN [.i .i64 (an : Int), ur, .i .i64 a2] 0 (ofL [.i .i64 0, .nils, .i .i64 0] 0))) := by rw [← hM2, set_same]
      have hn3 : M2.n = M1.n + 1 := by rw [← hM2]; rfl
      have hl2 := hx2.lo
      clear hM2
      have hC3 : At (setN [MV.i .i64 (an : Int), ur, .i .i64 a2] 0 (ofL [.i .i64 0, .nils, .i .i64 0] 0)) 0 [.i .i64 (an : Int), ur, .i .i64 a2] := at_setN _ _ _
      have c0 : cget (setN [MV.i .i64 (an : Int), ur, .i .i64 a2] 0 (ofL [.i .i64 0, .nils, .i .i64 0] 0)) 0 = some (.i .i64 (an : Int)) := hC3 0 _ rfl
      have c1 : cget (setN [MV.i .i64 (an : Int), ur, .i .i64 a2] 0 (ofL [.i .i64 0, .nils, .i .i64 0] 0)) 1 = some ur := hC3 1 _ rfl
      have hx02 := h.ext.trans hx2
      have hrow2 : BoolsAt M2 id mt := h.row.same (hx2.old _ hid2)
      have hI2 := h.s.ext hx02
      have hsy := h.ok.sym _ hmem
      have hle := h.ok.len _ hmem
      simp only at hsy hle
      refine lrow_in hI2 (hu2.ext hx02) h.inn.lo (fun s hs s0 => by have := symB_lt (hsy s hs) s0; omega) hle (v1 := .p b 0) (vp := vp) (vm := .sl id 0 mt.length 0) (n7 := M1.n) (i9 := (i : Int)) (by simp only [bxP, bxQ, bxQ2, reduceCtorEq, hq1, hq6, hq7, hq8, h9, hr1, hr2, hbox, hg3, hN, d1]) h10 c1 (by simp only [bxP, bxQ, bxQ2, reduceCtorEq, hq1, hq6, hq7, hq8, h9, hr1, hr2, hbox, hg3, hN, d1]) (by simp only [bxP, bxQ, bxQ2, reduceCtorEq, hq1, hq6, hq7, hq8, h9, hr1, hr2, hbox, hg3, hN, d1]) (by simp only [bxP, bxQ, bxQ2, reduceCtorEq, hq1, hq6, hq7, hq8, h9, hr1, hr2, hbox, hg3, hN, d1]) (by simp only [bxP, bxQ, bxQ2, reduceCtorEq, hq1, hq6, hq7, hq8, h9, hr1, hr2, hbox, hg3, hN, d1]) (by simp only [bxP, bxQ, bxQ2, reduceCtorEq, hq1, hq6, hq7, hq8, h9, hr1, hr2, hbox, hg3, hN, d1]) (by simp only [bxP, bxQ, bxQ2, reduceCtorEq, hq1, hq6, hq7, hq8, h9, hr1, hr2, hbox, hg3, hN, d1]) (by simp only [bxP, bxQ, bxQ2, reduceCtorEq, hq1, hq6, hq7, hq8, h9, hr1, hr2, hbox, hg3, hN, d1] <;> rfl) _ ?_
      intro f2 g10 g1 g6 g7 g8 g9 g11
      have k1 := g1
      have k6 := g6
      have k7 := g7
      have k8 := g8
      simp only [q1, q6, q7, q8, q9, q10, q11] at g1 g6 g7 g8 g9 g10 g11
      obtain ⟨tb, hb1, hb3, hb4, hb5⟩ := hrow2.read
      obtain ⟨mb, hmb⟩ : ∃ x, mt[an]? = some x := ⟨_, List.getElem?_eq_getElem (by omega)⟩
      have hR := hb3 _ _ hmb
      have hH := hb4 an (by omega)
      obtain ⟨z, hz⟩ : ∃ z, l[an]? = some z := ⟨_, List.getElem?_eq_getElem han⟩
      obtain ⟨roz, sz, tz, hgz, hidz, hCz⟩ := hI2.read hz
      obtain ⟨hs1, hs2⟩ := hI2.sl
      have hgd : l.getD an (-1) = z := by rw [List.getD_eq_getElem?_getD, hz]; rfl
      have hcd : shCond l ((an : Int), ar, a2) = (decide (0 ≤ shRow l ar) && (decide (z < 0) || decide (shRow l ar < z))) := by unfold shCond; simp only [Int.toNat_natCast, hgd]
      rw [hst] at hcd
      have hcut := shVal_cut l ar
      unfold mostZ at hcut
      have up : ∀ x, (mb = true → x = true) → (shOk l ar = true → z = shRow l ar → x = true) → MetUp g l (mt.set an x) (i + 1) := fun x h1 h2 k r hk hr' ho hv => by
        by_cases e : k = i
        · subst e
          rw [hr] at hr'
          injection hr' with hr'
          subst hr'
          simp only [Int.toNat_natCast] at ho hv ⊢
          rw [hz] at hv
          injection hv with hv
          rw [List.getElem?_set, if_pos rfl, if_pos (by omega), h2 ho hv]
        · have := hm k r (by omega) hr' ho hv
          rw [List.getElem?_set]
          by_cases e2 : an = r.1.toNat
          · rw [if_pos e2, if_pos (by omega)]
            rw [← e2, hmb] at this
            injection this with this
            rw [h1 this]
          · rw [if_neg e2]; exact this
      have hpos := @shRow_pos l ar
      have hbox2 : M2.get M1.n = _ := h10
      by_cases e0 : 1000000000 < shVal l ar
      · have d0 : decide (1000000000 < shVal l ar) = true := decide_eq_true e0
        rw [if_pos e0] at hcut
        show Wp fns K4_5 _ _ _
        unfold K4_5
        simp (maxSteps := 4000000) (disch := first | omega | assumption | (simp only [bxS, bxV, stOk, Nat.reduceBEq, Nat.reduceEqDiff, Nat.reduceAdd]; done) | (simp only [bxU]; omega) | ((try apply has_setN); apply has_ofL; simp only [bxL]; omega)) only [↓bxD, bxP, bxQ, bxQ2, Nat.reduceBEq, reduceCtorEq, Nat.reduceAdd, Nat.reduceSub, Nat.reduceMul, Nat.reduceLeDiff, Nat.reduceLT, bxR, g1, g6, g7, g8, g9, g10, g11, d0]
        have hv8 : (1000000000 : Int) = shRow l ar := hcut
        by_cases e1 : 0 ≤ shRow l ar
        · have de : decide (0 ≤ (1000000000 : Int)) = true := by rw [hv8]; exact decide_eq_true e1
          have de2 : decide (0 ≤ shRow l ar) = true := decide_eq_true e1
          rw [de2, Bool.true_and] at hcd
          have hcd2 := Bool.or_eq_false_iff.1 hcd.symm
          have dz := hcd2.1
          have dz2 := hcd2.2
          have dz3 : decide ((1000000000 : Int) < z) = false := by rw [hv8]; exact dz2
          show Wp fns K4_4 _ _ _
          unfold K4_4
          simp (maxSteps := 4000000) (disch := first | omega | assumption | (simp only [bxS, bxV, stOk, Nat.reduceBEq, Nat.reduceEqDiff, Nat.reduceAdd]; done) | (simp only [bxU]; omega) | ((try apply has_setN); apply has_ofL; simp only [bxL]; omega)) only [↓bxD, bxP, bxQ, bxQ2, Nat.reduceBEq, reduceCtorEq, Nat.reduceAdd, Nat.reduceSub, Nat.reduceMul, Nat.reduceLeDiff, Nat.reduceLT, bxR, g1, g6, g7, g8, g9, g10, g11, h10, c0, c1, ix_slc, hb1, hR, hH, hs1, hs2, hgz, hCz, len_slc, de, de2, dz, dz2, dz3]
          show Wp fns K4_3 _ _ _
          unfold K4_3
          refine Wp_dreg_of (by omega) ?_
          cases mb with
          | true =>
            simp (maxSteps := 4000000) (disch := first | omega | assumption | (simp only [bxS, bxV, stOk, Nat.reduceBEq, Nat.reduceEqDiff, Nat.reduceAdd]; done) | (simp only [bxU]; omega) | ((try apply has_setN); apply has_ofL; simp only [bxL]; omega)) only [↓bxD, bxP, bxQ, bxQ2, Nat.reduceBEq, reduceCtorEq, Nat.reduceAdd, Nat.reduceSub, Nat.reduceMul, Nat.reduceLeDiff, Nat.reduceLT, bxR, g1, g6, g7, g8, g9, g10, g11, h10, c0, c1, ix_slc, hb1, hR, hH, hs1, hs2, hgz, hCz, len_slc, de, de2]
            show Wp fns K4_6 _ _ _
            unfold K4_6
            simp (maxSteps := 4000000) (disch := first | omega | assumption | (simp only [bxS, bxV, stOk, Nat.reduceBEq, Nat.reduceEqDiff, Nat.reduceAdd]; done) | (simp only [bxU]; omega) | ((try apply has_setN); apply has_ofL; simp only [bxL]; omega)) only [↓bxD, bxP, bxQ, bxQ2, Nat.reduceBEq, reduceCtorEq, Nat.reduceAdd, Nat.reduceSub, Nat.reduceMul, Nat.reduceLeDiff, Nat.reduceLT, bxR, g1, g6, g7, g8, g9, g10, g11]
            refine ⟨(i + 1, mt.set an true), by simp only; omega, ⟨h.gr, h.ok, hx02.set _ (by omega), h.lo0, ⟨b, by simp only [bxP, bxQ, bxQ2, reduceCtorEq, g1, g6, g7, g8, g9, g10, g11], hb, hbox0⟩, h.s, h.p, h.sh, h.inn, h.id1, by rw [set_n]; omega, ⟨_, set_same _ _, hb5 an _ (by omega)⟩, by rw [List.length_set]; exact h.len, by simp only [bxP, bxQ, bxQ2, reduceCtorEq, g1, g6, g7, g8, g9, g10, g11], by simp only [bxP, bxQ, bxQ2, reduceCtorEq, g1, g6, g7, g8, g9, g10, g11], by simp (maxSteps := 4000000) (disch := first | omega | assumption | (simp only [bxS, bxV, stOk, Nat.reduceBEq, Nat.reduceEqDiff, Nat.reduceAdd]; done) | (simp only [bxU]; omega) | ((try apply has_setN); apply has_ofL; simp only [bxL]; omega)) only [↓bxD, bxP, bxQ, bxQ2, Nat.reduceBEq, reduceCtorEq, Nat.reduceAdd, Nat.reduceSub, Nat.reduceMul, Nat.reduceLeDiff, Nat.reduceLT, bxR, g1, g6, g7, g8, g9, g10, g11, List.length_set]⟩, by simp only; omega, rfl, up _ (fun _ => rfl) (fun _ _ => rfl)⟩
          | false =>
            simp (maxSteps := 4000000) (disch := first | omega | assumption | (simp only [bxS, bxV, stOk, Nat.reduceBEq, Nat.reduceEqDiff, Nat.reduceAdd]; done) | (simp only [bxU]; omega) | ((try apply has_setN); apply has_ofL; simp only [bxL]; omega)) only [↓bxD, bxP, bxQ, bxQ2, Nat.reduceBEq, reduceCtorEq, Nat.reduceAdd, Nat.reduceSub, Nat.reduceMul, Nat.reduceLeDiff, Nat.reduceLT, bxR, g1, g6, g7, g8, g9, g10, g11, h10, c0, c1, ix_slc, hb1, hR, hH, hs1, hs2, hgz, hCz, len_slc, de, de2, hv8]
            show Wp fns K4_6 _ _ _
            unfold K4_6
            simp (maxSteps := 4000000) (disch := first | omega | assumption | (simp only [bxS, bxV, stOk, Nat.reduceBEq, Nat.reduceEqDiff, Nat.reduceAdd]; done) | (simp only [bxU]; omega) | ((try apply has_setN); apply has_ofL; simp only [bxL]; omega)) only [↓bxD, bxP, bxQ, bxQ2, Nat.reduceBEq, reduceCtorEq, Nat.reduceAdd, Nat.reduceSub, Nat.reduceMul, Nat.reduceLeDiff, Nat.reduceLT, bxR, g1, g6, g7, g8, g9, g10, g11]
            refine ⟨(i + 1, mt.set an (decide (shRow l ar = z))), by simp only; omega, ⟨h.gr, h.ok, hx02.set _ (by omega), h.lo0, ⟨b, by simp only [bxP, bxQ, bxQ2, reduceCtorEq, g1, g6, g7, g8, g9, g10, g11], hb, hbox0⟩, h.s, h.p, h.sh, h.inn, h.id1, by rw [set_n]; omega, ⟨_, set_same _ _, hb5 an _ (by omega)⟩, by rw [List.length_set]; exact h.len, by simp only [bxP, bxQ, bxQ2, reduceCtorEq, g1, g6, g7, g8, g9, g10, g11], by simp only [bxP, bxQ, bxQ2, reduceCtorEq, g1, g6, g7, g8, g9, g10, g11], by simp (maxSteps := 4000000) (disch := first | omega | assumption | (simp only [bxS, bxV, stOk, Nat.reduceBEq, Nat.reduceEqDiff, Nat.reduceAdd]; done) | (simp only [bxU]; omega) | ((try apply has_setN); apply has_ofL; simp only [bxL]; omega)) only [↓bxD, bxP, bxQ, bxQ2, Nat.reduceBEq, reduceCtorEq, Nat.reduceAdd, Nat.reduceSub, Nat.reduceMul, Nat.reduceLeDiff, Nat.reduceLT, bxR, g1, g6, g7, g8, g9, g10, g11, List.length_set]⟩, by simp only; omega, rfl, up _ (fun e => by cases e) (fun _ e => decide_eq_true e.symm)⟩
        · exact (e1 (by rw [← hv8]; decide)).elim
      · have d0 : decide (1000000000 < shVal l ar) = false := decide_eq_false e0
        rw [if_neg e0] at hcut
        show Wp fns K4_5 _ _ _
        unfold K4_5
        simp (maxSteps := 4000000) (disch := first | omega | assumption | (simp only [bxS, bxV, stOk, Nat.reduceBEq, Nat.reduceEqDiff, Nat.reduceAdd]; done) | (simp only [bxU]; omega) | ((try apply has_setN); apply has_ofL; simp only [bxL]; omega)) only [↓bxD, bxP, bxQ, bxQ2, Nat.reduceBEq, reduceCtorEq, Nat.reduceAdd, Nat.reduceSub, Nat.reduceMul, Nat.reduceLeDiff, Nat.reduceLT, bxR, g1, g6, g7, g8, g9, g10, g11, d0]
        have hv8 : shVal l ar = shRow l ar := hcut
        by_cases e1 : 0 ≤ shRow l ar
        · have de : decide (0 ≤ shVal l ar) = true := by rw [hv8]; exact decide_eq_true e1
          have de2 : decide (0 ≤ shRow l ar) = true := decide_eq_true e1
          rw [de2, Bool.true_and] at hcd
          have hcd2 := Bool.or_eq_false_iff.1 hcd.symm
          have dz := hcd2.1
          have dz2 := hcd2.2
          have dz3 : decide (shVal l ar < z) = false := by rw [hv8]; exact dz2
          show Wp fns K4_4 _ _ _
          unfold K4_4
          simp (maxSteps := 4000000) (disch := first | omega | assumption | (simp only [bxS, bxV, stOk, Nat.reduceBEq, Nat.reduceEqDiff, Nat.reduceAdd]; done) | (simp only [bxU]; omega) | ((try apply has_setN); apply has_ofL; simp only [bxL]; omega)) only [↓bxD, bxP, bxQ, bxQ2, Nat.reduceBEq, reduceCtorEq, Nat.reduceAdd, Nat.reduceSub, Nat.reduceMul, Nat.reduceLeDiff, Nat.reduceLT, bxR, g1, g6, g7, g8, g9, g10, g11, h10, c0, c1, ix_slc, hb1, hR, hH, hs1, hs2, hgz, hCz, len_slc, de, de2, dz, dz2, dz3]
          show Wp fns K4_3 _ _ _
          unfold K4_3
          refine Wp_dreg_of (by omega) ?_
          cases mb with
          | true =>
            simp (maxSteps := 4000000) (disch := first | omega | assumption | (simp only [bxS, bxV, stOk, Nat.reduceBEq, Nat.reduceEqDiff, Nat.reduceAdd]; done) | (simp only [bxU]; omega) | ((try apply has_setN); apply has_ofL; simp only [bxL]; omega)) only [↓bxD, bxP, bxQ, bxQ2, Nat.reduceBEq, reduceCtorEq, Nat.reduceAdd, Nat.reduceSub, Nat.reduceMul, Nat.reduceLeDiff, Nat.reduceLT, bxR, g1, g6, g7, g8, g9, g10, g11, h10, c0, c1, ix_slc, hb1, hR, hH, hs1, hs2, hgz, hCz, len_slc, de, de2]
            show Wp fns K4_6 _ _ _
            unfold K4_6
            simp (maxSteps := 4000000) (disch := first | omega | assumption | (simp only [bxS, bxV, stOk, Nat.reduceBEq, Nat.reduceEqDiff, Nat.reduceAdd]; done) | (simp only [bxU]; omega) | ((try apply has_setN); apply has_ofL; simp only [bxL]; omega)) only [↓bxD, bxP, bxQ, bxQ2, Nat.reduceBEq, reduceCtorEq, Nat.reduceAdd, Nat.reduceSub, Nat.reduceMul, Nat.reduceLeDiff, Nat.reduceLT, bxR, g1, g6, g7, g8, g9, g10, g11]
            refine ⟨(i + 1, mt.set an true), by simp only; omega, ⟨h.gr, h.ok, hx02.set _ (by omega), h.lo0, ⟨b, by simp only [bxP, bxQ, bxQ2, reduceCtorEq, g1, g6, g7, g8, g9, g10, g11], hb, hbox0⟩, h.s, h.p, h.sh, h.inn, h.id1, by rw [set_n]; omega, ⟨_, set_same _ _, hb5 an _ (by omega)⟩, by rw [List.length_set]; exact h.len, by simp only [bxP, bxQ, bxQ2, reduceCtorEq, g1, g6, g7, g8, g9, g10, g11], by simp only [bxP, bxQ, bxQ2, reduceCtorEq, g1, g6, g7, g8, g9, g10, g11], by simp (maxSteps := 4000000) (disch := first | omega | assumption | (simp only [bxS, bxV, stOk, Nat.reduceBEq, Nat.reduceEqDiff, Nat.reduceAdd]; done) | (simp only [bxU]; omega) | ((try apply has_setN); apply has_ofL; simp only [bxL]; omega)) only [↓bxD, bxP, bxQ, bxQ2, Nat.reduceBEq, reduceCtorEq, Nat.reduceAdd, Nat.reduceSub, Nat.reduceMul, Nat.reduceLeDiff, Nat.reduceLT, bxR, g1, g6, g7, g8, g9, g10, g11, List.length_set]⟩, by simp only; omega, rfl, up _ (fun _ => rfl) (fun _ _ => rfl)⟩
          | false =>
            simp (maxSteps := 4000000) (disch := first | omega | assumption | (simp only [bxS, bxV, stOk, Nat.reduceBEq, Nat.reduceEqDiff, Nat.reduceAdd]; done) | (simp only [bxU]; omega) | ((try apply has_setN); apply has_ofL; simp only [bxL]; omega)) only [↓bxD, bxP, bxQ, bxQ2, Nat.reduceBEq, reduceCtorEq, Nat.reduceAdd, Nat.reduceSub, Nat.reduceMul, Nat.reduceLeDiff, Nat.reduceLT, bxR, g1, g6, g7, g8, g9, g10, g11, h10, c0, c1, ix_slc, hb1, hR, hH, hs1, hs2, hgz, hCz, len_slc, de, de2, hv8]
            show Wp fns K4_6 _ _ _
            unfold K4_6
            simp (maxSteps := 4000000) (disch := first | omega | assumption | (simp only [bxS, bxV, stOk, Nat.reduceBEq, Nat.reduceEqDiff, Nat.reduceAdd]; done) | (simp only [bxU]; omega) | ((try apply has_setN); apply has_ofL; simp only [bxL]; omega)) only [↓bxD, bxP, bxQ, bxQ2, Nat.reduceBEq, reduceCtorEq, Nat.reduceAdd, Nat.reduceSub, Nat.reduceMul, Nat.reduceLeDiff, Nat.reduceLT, bxR, g1, g6, g7, g8, g9, g10, g11]
            refine ⟨(i + 1, mt.set an (decide (shRow l ar = z))), by simp only; omega, ⟨h.gr, h.ok, hx02.set _ (by omega), h.lo0, ⟨b, by simp only [bxP, bxQ, bxQ2, reduceCtorEq, g1, g6, g7, g8, g9, g10, g11], hb, hbox0⟩, h.s, h.p, h.sh, h.inn, h.id1, by rw [set_n]; omega, ⟨_, set_same _ _, hb5 an _ (by omega)⟩, by rw [List.length_set]; exact h.len, by simp only [bxP, bxQ, bxQ2, reduceCtorEq, g1, g6, g7, g8, g9, g10, g11], by simp only [bxP, bxQ, bxQ2, reduceCtorEq, g1, g6, g7, g8, g9, g10, g11], by simp (maxSteps := 4000000) (disch := first | omega | assumption | (simp only [bxS, bxV, stOk, Nat.reduceBEq, Nat.reduceEqDiff, Nat.reduceAdd]; done) | (simp only [bxU]; omega) | ((try apply has_setN); apply has_ofL; simp only [bxL]; omega)) only [↓bxD, bxP, bxQ, bxQ2, Nat.reduceBEq, reduceCtorEq, Nat.reduceAdd, Nat.reduceSub, Nat.reduceMul, Nat.reduceLeDiff, Nat.reduceLT, bxR, g1, g6, g7, g8, g9, g10, g11, List.length_set]⟩, by simp only; omega, rfl, up _ (fun e => by cases e) (fun _ e => decide_eq_true e.symm)⟩
        · have de : decide (0 ≤ shVal l ar) = false := by rw [hv8]; exact decide_eq_false e1
          have de2 : decide (0 ≤ shRow l ar) = false := decide_eq_false e1
          show Wp fns K4_4 _ _ _
          unfold K4_4
          simp (maxSteps := 4000000) (disch := first | omega | assumption | (simp only [bxS, bxV, stOk, Nat.reduceBEq, Nat.reduceEqDiff, Nat.reduceAdd]; done) | (simp only [bxU]; omega) | ((try apply has_setN); apply has_ofL; simp only [bxL]; omega)) only [↓bxD, bxP, bxQ, bxQ2, Nat.reduceBEq, reduceCtorEq, Nat.reduceAdd, Nat.reduceSub, Nat.reduceMul, Nat.reduceLeDiff, Nat.reduceLT, bxR, g1, g6, g7, g8, g9, g10, g11, h10, c0, c1, ix_slc, hb1, hR, hH, hs1, hs2, hgz, hCz, len_slc, de, de2]
          show Wp fns K4_3 _ _ _
          unfold K4_3
          refine Wp_dreg_of (by omega) ?_
          cases mb with
          | true =>
            simp (maxSteps := 4000000) (disch := first | omega | assumption | (simp only [bxS, bxV, stOk, Nat.reduceBEq, Nat.reduceEqDiff, Nat.reduceAdd]; done) | (simp only [bxU]; omega) | ((try apply has_setN); apply has_ofL; simp only [bxL]; omega)) only [↓bxD, bxP, bxQ, bxQ2, Nat.reduceBEq, reduceCtorEq, Nat.reduceAdd, Nat.reduceSub, Nat.reduceMul, Nat.reduceLeDiff, Nat.reduceLT, bxR, g1, g6, g7, g8, g9, g10, g11, h10, c0, c1, ix_slc, hb1, hR, hH, hs1, hs2, hgz, hCz, len_slc, de, de2]
            show Wp fns K4_6 _ _ _
            unfold K4_6
            simp (maxSteps := 4000000) (disch := first | omega | assumption | (simp only [bxS, bxV, stOk, Nat.reduceBEq, Nat.reduceEqDiff, Nat.reduceAdd]; done) | (simp only [bxU]; omega) | ((try apply has_setN); apply has_ofL; simp only [bxL]; omega)) only [↓bxD, bxP, bxQ, bxQ2, Nat.reduceBEq, reduceCtorEq, Nat.reduceAdd, Nat.reduceSub, Nat.reduceMul, Nat.reduceLeDiff, Nat.reduceLT, bxR, g1, g6, g7, g8, g9, g10, g11]
            refine ⟨(i + 1, mt.set an true), by simp only; omega, ⟨h.gr, h.ok, hx02.set _ (by omega), h.lo0, ⟨b, by simp only [bxP, bxQ, bxQ2, reduceCtorEq, g1, g6, g7, g8, g9, g10, g11], hb, hbox0⟩, h.s, h.p, h.sh, h.inn, h.id1, by rw [set_n]; omega, ⟨_, set_same _ _, hb5 an _ (by omega)⟩, by rw [List.length_set]; exact h.len, by simp only [bxP, bxQ, bxQ2, reduceCtorEq, g1, g6, g7, g8, g9, g10, g11], by simp only [bxP, bxQ, bxQ2, reduceCtorEq, g1, g6, g7, g8, g9, g10, g11], by simp (maxSteps := 4000000) (disch := first | omega | assumption | (simp only [bxS, bxV, stOk, Nat.reduceBEq, Nat.reduceEqDiff, Nat.reduceAdd]; done) | (simp only [bxU]; omega) | ((try apply has_setN); apply has_ofL; simp only [bxL]; omega)) only [↓bxD, bxP, bxQ, bxQ2, Nat.reduceBEq, reduceCtorEq, Nat.reduceAdd, Nat.reduceSub, Nat.reduceMul, Nat.reduceLeDiff, Nat.reduceLT, bxR, g1, g6, g7, g8, g9, g10, g11, List.length_set]⟩, by simp only; omega, rfl, up _ (fun _ => rfl) (fun _ _ => rfl)⟩
          | false =>
            simp (maxSteps := 4000000) (disch := first | omega | assumption | (simp only [bxS, bxV, stOk, Nat.reduceBEq, Nat.reduceEqDiff, Nat.reduceAdd]; done) | (simp only [bxU]; omega) | ((try apply has_setN); apply has_ofL; simp only [bxL]; omega)) only [↓bxD, bxP, bxQ, bxQ2, Nat.reduceBEq, reduceCtorEq, Nat.reduceAdd, Nat.reduceSub, Nat.reduceMul, Nat.reduceLeDiff, Nat.reduceLT, bxR, g1, g6, g7, g8, g9, g10, g11, h10, c0, c1, ix_slc, hb1, hR, hH, hs1, hs2, hgz, hCz, len_slc, de, de2]
            show Wp fns K4_6 _ _ _
            unfold K4_6
            simp (maxSteps := 4000000) (disch := first | omega | assumption | (simp only [bxS, bxV, stOk, Nat.reduceBEq, Nat.reduceEqDiff, Nat.reduceAdd]; done) | (simp only [bxU]; omega) | ((try apply has_setN); apply has_ofL; simp only [bxL]; omega)) only [↓bxD, bxP, bxQ, bxQ2, Nat.reduceBEq, reduceCtorEq, Nat.reduceAdd, Nat.reduceSub, Nat.reduceMul, Nat.reduceLeDiff, Nat.reduceLT, bxR, g1, g6, g7, g8, g9, g10, g11]
            refine ⟨(i + 1, mt.set an false), by simp only; omega, ⟨h.gr, h.ok, hx02.set _ (by omega), h.lo0, ⟨b, by simp only [bxP, bxQ, bxQ2, reduceCtorEq, g1, g6, g7, g8, g9, g10, g11], hb, hbox0⟩, h.s, h.p, h.sh, h.inn, h.id1, by rw [set_n]; omega, ⟨_, set_same _ _, hb5 an _ (by omega)⟩, by rw [List.length_set]; exact h.len, by simp only [bxP, bxQ, bxQ2, reduceCtorEq, g1, g6, g7, g8, g9, g10, g11], by simp only [bxP, bxQ, bxQ2, reduceCtorEq, g1, g6, g7, g8, g9, g10, g11], by simp (maxSteps := 4000000) (disch := first | omega | assumption | (simp only [bxS, bxV, stOk, Nat.reduceBEq, Nat.reduceEqDiff, Nat.reduceAdd]; done) | (simp only [bxU]; omega) | ((try apply has_setN); apply has_ofL; simp only [bxL]; omega)) only [↓bxD, bxP, bxQ, bxQ2, Nat.reduceBEq, reduceCtorEq, Nat.reduceAdd, Nat.reduceSub, Nat.reduceMul, Nat.reduceLeDiff, Nat.reduceLT, bxR, g1, g6, g7, g8, g9, g10, g11, List.length_set]⟩, by simp only; omega, rfl, up _ (fun e => e) (fun e => absurd (hpos.2 e) e1)⟩
    · have d1 : decide ((i : Int) < (g.rules.length : Int)) = false := decide_eq_false (by omega)
      have hi2 : i = g.rules.length := by omega
      subst hi2
      simp (maxSteps := 4000000) (disch := first | omega | assumption | (simp only [bxS, bxV, stOk, Nat.reduceBEq, Nat.reduceEqDiff, Nat.reduceAdd]; done) | (simp only [bxU]; omega) | ((try apply has_setN); apply has_ofL; simp only [bxL]; omega)) only [↓bxD, bxP, bxQ, bxQ2, Nat.reduceBEq, reduceCtorEq, Nat.reduceAdd, Nat.reduceSub, Nat.reduceMul, Nat.reduceLeDiff, Nat.reduceLT, bxR, hq1, hq6, hq7, hq8, h9, hbox, hr1, hr2, d1]
      exact hn _ _ mt ⟨h.gr, h.ok, h.ext, h.lo0, ⟨b, by simp only [bxP, bxQ, bxQ2, reduceCtorEq, hq1, hq6, hq7, hq8, h9, hbox, hr1, hr2, d1], hb, hbox0⟩, h.s, h.p, h.sh, h.inn, h.id1, h.id2, h.row, h.len, by simp only [bxP, bxQ, bxQ2, reduceCtorEq, hq1, hq6, hq7, hq8, h9, hbox, hr1, hr2, d1], by simp only [bxP, bxQ, bxQ2, reduceCtorEq, hq1, hq6, hq7, hq8, h9, hbox, hr1, hr2, d1], by simp only [bxP, bxQ, bxQ2, reduceCtorEq, hq1, hq6, hq7, hq8, h9, hbox, hr1, hr2, d1]⟩ hm
  · exact ⟨h, Nat.zero_le _, h9, fun k r hk => absurd hk (Nat.not_lt_zero k)⟩
theorem short_ends {M0 M : MH} {g : Gr} {vr vf vc vk vs vp : MV} {es : List (List MV)} {id : Nat} {l : List Int} {met : List Bool} {f : Fr} (h : LSt M0 M g vr vf vc vk es vs vp id l met f) (hm : MetUp g l met g.rules.length) (h13 : X.ev f (.t q13) = .i .i64 0) (Q : Post)
    (hn : ∀ f' M', Q .norm f' M') : Wp fns (.loop L4_12) f M (blockQ 5 Q) := by
  have hll := h.inn.len
  have hml := h.len
  have hnn := h.ok.n1
  have hn40 := h.ok.n2
  obtain ⟨nn, hnm⟩ : ∃ n : Nat, g.names = n := ⟨g.names.toNat, by omega⟩
  refine Wp_inv (σ := Nat) (fun i f1 M1 => M1 = M ∧ LSt M0 M g vr vf vc vk es vs vp id l met f1 ∧ i ≤ nn ∧ X.ev f1 (.t q13) = .i .i64 (i : Int)) (fun i => nn - i) ?_ 0 ?_
  · rintro i f1 M1 ⟨rfl, h, hi, h13⟩
    obtain ⟨b, hq1, hb, hbox0⟩ := h.b0
    have hq6 := h.q6
    have hq7 := h.q7
    have hq8 := h.q8
    have hbox := (h.ext.old b hb).trans hbox0
    have hlo := h.lo0
    have hn0 := h.ext.n
    have hl0 := h.ext.lo
    have hid1 := h.id1
    have hid2 := h.id2
    unfold gcs at hbox
    rw [hnm] at hbox
    simp only [q1, q6, q7, q8, q13] at hq1 hq6 hq7 hq8 h13
    unfold L4_12
    by_cases hi' : i < nn
    · have d1 : decide ((i : Int) < (nn : Int)) = true := decide_eq_true (by omega)
      obtain ⟨z, hz⟩ : ∃ z, l[i]? = some z := ⟨_, List.getElem?_eq_getElem (by omega)⟩
      have hI := h.s.ext h.ext
      have hP := h.p.ext h.ext
      obtain ⟨ro, sz, t, hg, hid, hC⟩ := hI.read hz
      obtain ⟨hs1, hs2⟩ := hI.sl
      obtain ⟨hp1, hp2⟩ := hP.sl
      rw [List.length_map] at hp2
      obtain ⟨ro2, sz2, t2, hg2, hid2', hC2⟩ := hP.read (i := i) (by rw [List.length_map]; omega)
      rw [bAt_some (show (l.map fun z => decide (0 ≤ z))[i]? = some (decide (0 ≤ z)) by rw [List.getElem?_map, hz]; rfl)] at hC2
      obtain ⟨tb, hb1, hb3, hb4, hb5⟩ := h.row.read
      by_cases z0 : 0 ≤ z
      · have dz : decide (0 ≤ z) = true := decide_eq_true z0
        have hmet : met[i]? = some true := by
          obtain ⟨r, hr, h1, h2, h3⟩ := h.inn.met i z hz z0
          have hst := h.sh.2 r hr
          have hgd : l.getD r.1.toNat (-1) = z := by rw [h1, List.getD_eq_getElem?_getD, hz]; rfl
          unfold shCond at hst
          rw [hgd, decide_eq_true (shRow_pos.2 h2), Bool.true_and, Bool.or_eq_false_iff] at hst
          have h4 : ¬ shRow l r.2.1 < z := by simpa using hst.2
          obtain ⟨k, hk⟩ := List.getElem?_of_mem hr
          have hkl := (List.getElem?_eq_some_iff.1 hk).1
          have := hm k r hkl hk h2 (by rw [h1, hz]; congr 1; omega)
          rw [h1] at this
          exact this
        have hR := hb3 _ _ hmet
        rw [dz] at hC2
        simp (maxSteps := 4000000) (disch := first | omega | assumption | (simp only [bxS, bxV, stOk, Nat.reduceBEq, Nat.reduceEqDiff, Nat.reduceAdd]; done) | (simp only [bxU]; omega) | ((try apply has_setN); apply has_ofL; simp only [bxL]; omega)) only [↓bxD, bxP, bxQ, bxQ2, Nat.reduceBEq, reduceCtorEq, Nat.reduceAdd, Nat.reduceSub, Nat.reduceMul, Nat.reduceLeDiff, Nat.reduceLT, bxR, hq1, hq6, hq7, hq8, h13, hbox, d1, hs1, hs2, hp1, hp2, hg, hC, hg2, hC2, dz, ix_slc, hb1, hR]
        show Wp fns K4_11 _ _ _
        unfold K4_11
        simp (maxSteps := 4000000) (disch := first | omega | assumption | (simp only [bxS, bxV, stOk, Nat.reduceBEq, Nat.reduceEqDiff, Nat.reduceAdd]; done) | (simp only [bxU]; omega) | ((try apply has_setN); apply has_ofL; simp only [bxL]; omega)) only [↓bxD, bxP, bxQ, bxQ2, Nat.reduceBEq, reduceCtorEq, Nat.reduceAdd, Nat.reduceSub, Nat.reduceMul, Nat.reduceLeDiff, Nat.reduceLT, bxR, hq1, hq6, hq7, hq8, h13, hbox, d1, hs1, hs2, hp1, hp2, hg, hC, hg2, hC2, dz, ix_slc, hb1, hR]
        refine Wp_dreg_of (by omega) ?_
        simp (maxSteps := 4000000) (disch := first | omega | assumption | (simp only [bxS, bxV, stOk, Nat.reduceBEq, Nat.reduceEqDiff, Nat.reduceAdd]; done) | (simp only [bxU]; omega) | ((try apply has_setN); apply has_ofL; simp only [bxL]; omega)) only [↓bxD, bxP, bxQ, bxQ2, Nat.reduceBEq, reduceCtorEq, Nat.reduceAdd, Nat.reduceSub, Nat.reduceMul, Nat.reduceLeDiff, Nat.reduceLT, bxR, hq1, hq6, hq7, hq8, h13, hbox, d1, hs1, hs2, hp1, hp2, hg, hC, hg2, hC2, dz, ix_slc, hb1, hR]
        show Wp fns K4_9 _ _ _
        unfold K4_9
        simp (maxSteps := 4000000) (disch := first | omega | assumption | (simp only [bxS, bxV, stOk, Nat.reduceBEq, Nat.reduceEqDiff, Nat.reduceAdd]; done) | (simp only [bxU]; omega) | ((try apply has_setN); apply has_ofL; simp only [bxL]; omega)) only [↓bxD, bxP, bxQ, bxQ2, Nat.reduceBEq, reduceCtorEq, Nat.reduceAdd, Nat.reduceSub, Nat.reduceMul, Nat.reduceLeDiff, Nat.reduceLT, bxR, hq1, hq6, hq7, hq8, h13, hbox, d1, hs1, hs2, hp1, hp2, hg, hC, hg2, hC2, dz, ix_slc, hb1, hR]
        show Wp fns K4_10 _ _ _
        unfold K4_10
        simp (maxSteps := 4000000) (disch := first | omega | assumption | (simp only [bxS, bxV, stOk, Nat.reduceBEq, Nat.reduceEqDiff, Nat.reduceAdd]; done) | (simp only [bxU]; omega) | ((try apply has_setN); apply has_ofL; simp only [bxL]; omega)) only [↓bxD, bxP, bxQ, bxQ2, Nat.reduceBEq, reduceCtorEq, Nat.reduceAdd, Nat.reduceSub, Nat.reduceMul, Nat.reduceLeDiff, Nat.reduceLT, bxR, hq1, hq6, hq7, hq8, h13, hbox, d1, hs1, hs2, hp1, hp2, hg, hC, hg2, hC2, dz, ix_slc, hb1, hR]
        exact ⟨i + 1, by omega, ⟨h.gr, h.ok, h.ext, h.lo0, ⟨b, by simp only [bxP, bxQ, bxQ2, reduceCtorEq, hq1, hq6, hq7, hq8, h13, hbox, d1, hs1, hs2, hp1, hp2, hg, hC, hg2, hC2, dz, ix_slc, hb1, hR], hb, hbox0⟩, h.s, h.p, h.sh, h.inn, h.id1, h.id2, h.row, h.len, by simp only [bxP, bxQ, bxQ2, reduceCtorEq, hq1, hq6, hq7, hq8, h13, hbox, d1, hs1, hs2, hp1, hp2, hg, hC, hg2, hC2, dz, ix_slc, hb1, hR], by simp only [bxP, bxQ, bxQ2, reduceCtorEq, hq1, hq6, hq7, hq8, h13, hbox, d1, hs1, hs2, hp1, hp2, hg, hC, hg2, hC2, dz, ix_slc, hb1, hR], by simp only [bxP, bxQ, bxQ2, reduceCtorEq, hq1, hq6, hq7, hq8, h13, hbox, d1, hs1, hs2, hp1, hp2, hg, hC, hg2, hC2, dz, ix_slc, hb1, hR]⟩, by omega, rfl⟩
      · have dz : decide (0 ≤ z) = false := decide_eq_false z0
        rw [dz] at hC2
        simp (maxSteps := 4000000) (disch := first | omega | assumption | (simp only [bxS, bxV, stOk, Nat.reduceBEq, Nat.reduceEqDiff, Nat.reduceAdd]; done) | (simp only [bxU]; omega) | ((try apply has_setN); apply has_ofL; simp only [bxL]; omega)) only [↓bxD, bxP, bxQ, bxQ2, Nat.reduceBEq, reduceCtorEq, Nat.reduceAdd, Nat.reduceSub, Nat.reduceMul, Nat.reduceLeDiff, Nat.reduceLT, bxR, hq1, hq6, hq7, hq8, h13, hbox, d1, hs1, hs2, hp1, hp2, hg, hC, hg2, hC2, dz]
        show Wp fns K4_11 _ _ _
        unfold K4_11
        simp (maxSteps := 4000000) (disch := first | omega | assumption | (simp only [bxS, bxV, stOk, Nat.reduceBEq, Nat.reduceEqDiff, Nat.reduceAdd]; done) | (simp only [bxU]; omega) | ((try apply has_setN); apply has_ofL; simp only [bxL]; omega)) only [↓bxD, bxP, bxQ, bxQ2, Nat.reduceBEq, reduceCtorEq, Nat.reduceAdd, Nat.reduceSub, Nat.reduceMul, Nat.reduceLeDiff, Nat.reduceLT, bxR, hq1, hq6, hq7, hq8, h13, hbox, d1, hs1, hs2, hp1, hp2, hg, hC, hg2, hC2, dz]
        refine Wp_dreg_of (by omega) ?_
        simp (maxSteps := 4000000) (disch := first | omega | assumption | (simp only [bxS, bxV, stOk, Nat.reduceBEq, Nat.reduceEqDiff, Nat.reduceAdd]; done) | (simp only [bxU]; omega) | ((try apply has_setN); apply has_ofL; simp only [bxL]; omega)) only [↓bxD, bxP, bxQ, bxQ2, Nat.reduceBEq, reduceCtorEq, Nat.reduceAdd, Nat.reduceSub, Nat.reduceMul, Nat.reduceLeDiff, Nat.reduceLT, bxR, hq1, hq6, hq7, hq8, h13, hbox, d1, hs1, hs2, hp1, hp2, hg, hC, hg2, hC2, dz]
        show Wp fns K4_9 _ _ _
        unfold K4_9
        simp (maxSteps := 4000000) (disch := first | omega | assumption | (simp only [bxS, bxV, stOk, Nat.reduceBEq, Nat.reduceEqDiff, Nat.reduceAdd]; done) | (simp only [bxU]; omega) | ((try apply has_setN); apply has_ofL; simp only [bxL]; omega)) only [↓bxD, bxP, bxQ, bxQ2, Nat.reduceBEq, reduceCtorEq, Nat.reduceAdd, Nat.reduceSub, Nat.reduceMul, Nat.reduceLeDiff, Nat.reduceLT, bxR, hq1, hq6, hq7, hq8, h13, hbox, d1, hs1, hs2, hp1, hp2, hg, hC, hg2, hC2, dz]
        show Wp fns K4_10 _ _ _
        unfold K4_10
        simp (maxSteps := 4000000) (disch := first | omega | assumption | (simp only [bxS, bxV, stOk, Nat.reduceBEq, Nat.reduceEqDiff, Nat.reduceAdd]; done) | (simp only [bxU]; omega) | ((try apply has_setN); apply has_ofL; simp only [bxL]; omega)) only [↓bxD, bxP, bxQ, bxQ2, Nat.reduceBEq, reduceCtorEq, Nat.reduceAdd, Nat.reduceSub, Nat.reduceMul, Nat.reduceLeDiff, Nat.reduceLT, bxR, hq1, hq6, hq7, hq8, h13, hbox, d1, hs1, hs2, hp1, hp2, hg, hC, hg2, hC2, dz]
        exact ⟨i + 1, by omega, ⟨h.gr, h.ok, h.ext, h.lo0, ⟨b, by simp only [bxP, bxQ, bxQ2, reduceCtorEq, hq1, hq6, hq7, hq8, h13, hbox, d1, hs1, hs2, hp1, hp2, hg, hC, hg2, hC2, dz], hb, hbox0⟩, h.s, h.p, h.sh, h.inn, h.id1, h.id2, h.row, h.len, by simp only [bxP, bxQ, bxQ2, reduceCtorEq, hq1, hq6, hq7, hq8, h13, hbox, d1, hs1, hs2, hp1, hp2, hg, hC, hg2, hC2, dz], by simp only [bxP, bxQ, bxQ2, reduceCtorEq, hq1, hq6, hq7, hq8, h13, hbox, d1, hs1, hs2, hp1, hp2, hg, hC, hg2, hC2, dz], by simp only [bxP, bxQ, bxQ2, reduceCtorEq, hq1, hq6, hq7, hq8, h13, hbox, d1, hs1, hs2, hp1, hp2, hg, hC, hg2, hC2, dz]⟩, by omega, rfl⟩
    · have d1 : decide ((i : Int) < (nn : Int)) = false := decide_eq_false (by omega)
      simp (maxSteps := 4000000) (disch := first | omega | assumption | (simp only [bxS, bxV, stOk, Nat.reduceBEq, Nat.reduceEqDiff, Nat.reduceAdd]; done) | (simp only [bxU]; omega) | ((try apply has_setN); apply has_ofL; simp only [bxL]; omega)) only [↓bxD, bxP, bxQ, bxQ2, Nat.reduceBEq, reduceCtorEq, Nat.reduceAdd, Nat.reduceSub, Nat.reduceMul, Nat.reduceLeDiff, Nat.reduceLT, bxR, hq1, hq6, hq7, hq8, h13, hbox, d1]
      exact hn _ _
  · exact ⟨rfl, h, Nat.zero_le _, h13⟩
theorem law_short {M : MH} {g : Gr} {vr vf vc vk : MV} {es : List (List MV)} (h : GrAt M vr vf vc vk es g) (hlo : M.lo ≤ M.n) (ha : ∀ M', Ext M M' → Cp fns 6 [] M' fun m M2 => m = .b true ∧ M2 = M') : Cp fns 4 [.ag (gcs g vr vf vc vk)] M fun m _ => m = .b true := by
  have hG : ∀ l, l = gcs g vr vf vc vk → Ev.getN (ofL l 0) 7 0 = some (gcs g vr vf vc vk) := fun l e => by subst e; exact (at_ofL (gcs g vr vf vc vk)).getN
  have hG := hG [MV.i IntKind.i64 g.names, MV.i IntKind.i64 g.kinds, MV.i IntKind.i64 g.start, vr, vf, vc, vk] rfl
  refine Cp_call (fn := F4) (by kernel_rfl) (Nat.le_of_ble_eq_true rfl) ?_
  show Wp fns B4 (T.set q0 (some (.ag (gcs g vr vf vc vk))) T.lf) M _
  unfold B4
  rw [show gcs g vr vf vc vk = [MV.i IntKind.i64 g.names, MV.i IntKind.i64 g.kinds, MV.i IntKind.i64 g.start, vr, vf, vc, vk] from rfl]
  simp (maxSteps := 4000000) (disch := first | omega | assumption | (simp only [bxS, bxV, stOk, Nat.reduceBEq, Nat.reduceEqDiff, Nat.reduceAdd]; done) | (simp only [bxU]; omega) | ((try apply has_setN); apply has_ofL; simp only [bxL]; omega)) only [↓bxD, bxP, bxQ, bxQ2, Nat.reduceBEq, reduceCtorEq, Nat.reduceAdd, Nat.reduceSub, Nat.reduceMul, Nat.reduceLeDiff, Nat.reduceLT, bxR, hG]
  refine bindP_call (ha _ (by first | exact .refl _ | exact .push _ _)) ?_
  rintro m M2 ⟨rfl, rfl⟩
  generalize hM1 : M.push _ = M1
  have hg0 : M1.get M.n = some (.cs false 7 (ofL [MV.i IntKind.i64 g.names, MV.i IntKind.i64 g.kinds, MV.i IntKind.i64 g.start, vr, vf, vc, vk] 0)) := by rw [← hM1]; exact push_new _
  have hx1 : Ext M M1 := by rw [← hM1]; exact Ext.push M _
  have hn1 : M1.n = M.n + 1 := by rw [← hM1]; rfl
  have hl1 := hx1.lo
  clear hM1
  simp (maxSteps := 4000000) (disch := first | omega | assumption | (simp only [bxS, bxV, stOk, Nat.reduceBEq, Nat.reduceEqDiff, Nat.reduceAdd]; done) | (simp only [bxU]; omega) | ((try apply has_setN); apply has_ofL; simp only [bxL]; omega)) only [↓bxD, bxP, bxQ, bxQ2, Nat.reduceBEq, reduceCtorEq, Nat.reduceAdd, Nat.reduceSub, Nat.reduceMul, Nat.reduceLeDiff, Nat.reduceLT, bxR, hG, hg0]
  refine bindP_call (form_any (h.ext hx1) (by omega)) ?_
  rintro m M3 ⟨rfl, hx3⟩
  have hn3 := hx3.n
  have hl3 := hx3.lo
  have hg3 := (hx3.old M.n (by omega)).trans hg0
  have hxx := hx1.trans hx3
  simp (maxSteps := 4000000) (disch := first | omega | assumption | (simp only [bxS, bxV, stOk, Nat.reduceBEq, Nat.reduceEqDiff, Nat.reduceAdd]; done) | (simp only [bxU]; omega) | ((try apply has_setN); apply has_ofL; simp only [bxL]; omega)) only [↓bxD, bxP, bxQ, bxQ2, Nat.reduceBEq, reduceCtorEq, Nat.reduceAdd, Nat.reduceSub, Nat.reduceMul, Nat.reduceLeDiff, Nat.reduceLT, bxR, hG, hg3, ext_tp]
  refine bindP_call (few_any (h.ext hxx) (by omega)) ?_
  rintro m M4 ⟨rfl, hx4⟩
  have hn4 := hx4.n
  have hl4 := hx4.lo
  have hg4 := (hx4.old M.n (by omega)).trans hg3
  have hx14 := hxx.trans hx4
  cases hf : fewB g with
  | false =>
    simp (maxSteps := 4000000) (disch := first | omega | assumption | (simp only [bxS, bxV, stOk, Nat.reduceBEq, Nat.reduceEqDiff, Nat.reduceAdd]; done) | (simp only [bxU]; omega) | ((try apply has_setN); apply has_ofL; simp only [bxL]; omega)) only [↓bxD, bxP, bxQ, bxQ2, Nat.reduceBEq, reduceCtorEq, Nat.reduceAdd, Nat.reduceSub, Nat.reduceMul, Nat.reduceLeDiff, Nat.reduceLT, bxR, hG, hg4]
  | true =>
    by_cases hz : (formP g).2 = 0
    · have dz : decide ((formP g).2 ≠ 0) = false := decide_eq_false (fun e => e hz)
      have hok := form_ok hz
      simp (maxSteps := 4000000) (disch := first | omega | assumption | (simp only [bxS, bxV, stOk, Nat.reduceBEq, Nat.reduceEqDiff, Nat.reduceAdd]; done) | (simp only [bxU]; omega) | ((try apply has_setN); apply has_ofL; simp only [bxL]; omega)) only [↓bxD, bxP, bxQ, bxQ2, Nat.reduceBEq, reduceCtorEq, Nat.reduceAdd, Nat.reduceSub, Nat.reduceMul, Nat.reduceLeDiff, Nat.reduceLT, bxR, hG, hg4, dz]
      show Wp fns K4_16 _ _ _
      unfold K4_16
      simp (maxSteps := 4000000) (disch := first | omega | assumption | (simp only [bxS, bxV, stOk, Nat.reduceBEq, Nat.reduceEqDiff, Nat.reduceAdd]; done) | (simp only [bxU]; omega) | ((try apply has_setN); apply has_ofL; simp only [bxL]; omega)) only [↓bxD, bxP, bxQ, bxQ2, Nat.reduceBEq, reduceCtorEq, Nat.reduceAdd, Nat.reduceSub, Nat.reduceMul, Nat.reduceLeDiff, Nat.reduceLT, bxR, hG, hg4, dz]
      refine bindP_call (pshortest_any (h.ext hx14) (by omega)) ?_
      rintro vs M5 ⟨hx5, ⟨hne, _⟩ | ⟨_, l, hsh, hI⟩⟩
      · exact absurd hz hne
      have hin := hsh.inn hok
      have hll := hin.len
      have hn5 := hx5.n
      have hl5 := hx5.lo
      have hg5 := (hx5.old M.n (by omega)).trans hg4
      have hx15 := hx14.trans hx5
      simp (maxSteps := 4000000) (disch := first | omega | assumption | (simp only [bxS, bxV, stOk, Nat.reduceBEq, Nat.reduceEqDiff, Nat.reduceAdd]; done) | (simp only [bxU]; omega) | ((try apply has_setN); apply has_ofL; simp only [bxL]; omega)) only [↓bxD, bxP, bxQ, bxQ2, Nat.reduceBEq, reduceCtorEq, Nat.reduceAdd, Nat.reduceSub, Nat.reduceMul, Nat.reduceLeDiff, Nat.reduceLT, bxR, hG, hg4, dz, hg5]
      refine bindP_call (pprod_any (h.ext hx15) (by omega)) ?_
      rintro vp M6 ⟨hx6, ⟨hne, _⟩ | ⟨_, l', hsh', hP⟩⟩
      · exact absurd hz hne
      obtain rfl := sh_ext hsh hsh'
      have hn6 := hx6.n
      have hl6 := hx6.lo
      have hg6 := (hx6.old M.n (by omega)).trans hg5
      have hx16 := hx15.trans hx6
      have hI6 := hI.ext hx6
      obtain ⟨hs1, hs2⟩ := hI6.sl
      obtain ⟨hp1, hp2⟩ := hP.sl
      rw [List.length_map] at hp2
      have hnn := hok.n1
      have hn40 := hok.n2
      obtain ⟨nn, hnm⟩ : ∃ n : Nat, g.names = n := ⟨g.names.toNat, by omega⟩
      have hln : l.length = nn := by omega
      have dl : decide ((l.length : Int) ≠ (nn : Int)) = false := decide_eq_false (fun e => e (by omega))
      have hg6' := hg6
      rw [hnm] at hg6'
      have dne : decide (¬ True) = false := rfl
      simp (maxSteps := 4000000) (disch := first | omega | assumption | (simp only [bxS, bxV, stOk, Nat.reduceBEq, Nat.reduceEqDiff, Nat.reduceAdd]; done) | (simp only [bxU]; omega) | ((try apply has_setN); apply has_ofL; simp only [bxL]; omega)) only [↓bxD, bxP, bxQ, bxQ2, Nat.reduceBEq, reduceCtorEq, Nat.reduceAdd, Nat.reduceSub, Nat.reduceMul, Nat.reduceLeDiff, Nat.reduceLT, bxR, hg6', hs1, hs2, hp1, hp2, dl, ev_mks, mks_ok]
      show Wp fns K4_15 _ _ _
      unfold K4_15
      simp (maxSteps := 4000000) (disch := first | omega | assumption | (simp only [bxS, bxV, stOk, Nat.reduceBEq, Nat.reduceEqDiff, Nat.reduceAdd]; done) | (simp only [bxU]; omega) | ((try apply has_setN); apply has_ofL; simp only [bxL]; omega)) only [↓bxD, bxP, bxQ, bxQ2, Nat.reduceBEq, reduceCtorEq, Nat.reduceAdd, Nat.reduceSub, Nat.reduceMul, Nat.reduceLeDiff, Nat.reduceLT, bxR, hg6', hs1, hs2, hp1, hp2, dl, ev_mks, mks_ok]
      have hbn := BoolsAt.new (M := M6) nn
      have x7 : Ext M6 (M6.push (.cs false 1 (ofL (zrow [.b false] nn) 0))) := .push M6 _
      have n7 : (M6.push (.cs false 1 (ofL (zrow [.b false] nn) 0))).n = M6.n + 1 := rfl
      generalize M6.push (.cs false 1 (ofL (zrow [.b false] nn) 0)) = M7 at hbn x7 n7
      refine short_rules (M0 := M6) (l := l) (met := List.replicate nn false) (id := M6.n) ⟨h.ext hx16, hok, x7, by omega, ⟨M.n, by simp only [bxP, bxQ, bxQ2, reduceCtorEq, hg6', hs1, hs2, hp1, hp2, dl, ev_mks, mks_ok], by omega, hg6⟩, hI6, hP, hsh, hin, Nat.le_refl _, by omega, hbn, by rw [List.length_replicate]; omega, by simp only [bxP, bxQ, bxQ2, reduceCtorEq, hg6', hs1, hs2, hp1, hp2, dl, ev_mks, mks_ok], by simp only [bxP, bxQ, bxQ2, reduceCtorEq, hg6', hs1, hs2, hp1, hp2, dl, ev_mks, mks_ok], by simp (maxSteps := 4000000) (disch := first | omega | assumption | (simp only [bxS, bxV, stOk, Nat.reduceBEq, Nat.reduceEqDiff, Nat.reduceAdd]; done) | (simp only [bxU]; omega) | ((try apply has_setN); apply has_ofL; simp only [bxL]; omega)) only [↓bxD, bxP, bxQ, bxQ2, Nat.reduceBEq, reduceCtorEq, Nat.reduceAdd, Nat.reduceSub, Nat.reduceMul, Nat.reduceLeDiff, Nat.reduceLT, bxR, hg6', hs1, hs2, hp1, hp2, dl, ev_mks, mks_ok, List.length_replicate]⟩ (by simp only [bxP, bxQ, bxQ2, reduceCtorEq, hg6', hs1, hs2, hp1, hp2, dl, ev_mks, mks_ok] <;> rfl) _ ?_
      intro f' M' met' h' hm'
      obtain ⟨b, hq1, hb, hbox0⟩ := h'.b0
      have g6 := h'.q6
      have g7 := h'.q7
      have g8 := h'.q8
      simp only [q1, q6, q7, q8] at hq1 g6 g7 g8
      show Wp fns K4_14 _ _ _
      unfold K4_14
      simp (maxSteps := 4000000) (disch := first | omega | assumption | (simp only [bxS, bxV, stOk, Nat.reduceBEq, Nat.reduceEqDiff, Nat.reduceAdd]; done) | (simp only [bxU]; omega) | ((try apply has_setN); apply has_ofL; simp only [bxL]; omega)) only [↓bxD, bxP, bxQ, bxQ2, Nat.reduceBEq, reduceCtorEq, Nat.reduceAdd, Nat.reduceSub, Nat.reduceMul, Nat.reduceLeDiff, Nat.reduceLT, bxR, hq1, g6, g7, g8]
      refine short_ends (M0 := M6) ⟨h'.gr, h'.ok, h'.ext, h'.lo0, ⟨b, by simp only [bxP, bxQ, bxQ2, reduceCtorEq, hq1, g6, g7, g8], hb, hbox0⟩, h'.s, h'.p, h'.sh, h'.inn, h'.id1, h'.id2, h'.row, h'.len, by simp only [bxP, bxQ, bxQ2, reduceCtorEq, hq1, g6, g7, g8], by simp only [bxP, bxQ, bxQ2, reduceCtorEq, hq1, g6, g7, g8], by simp only [bxP, bxQ, bxQ2, reduceCtorEq, hq1, g6, g7, g8]⟩ hm' (by simp only [bxP, bxQ, bxQ2, reduceCtorEq, hq1, g6, g7, g8] <;> rfl) _ ?_
      intro f2 M2'
      show Wp fns K4_13 _ _ _
      unfold K4_13
      simp (maxSteps := 4000000) (disch := first | omega | assumption | (simp only [bxS, bxV, stOk, Nat.reduceBEq, Nat.reduceEqDiff, Nat.reduceAdd]; done) | (simp only [bxU]; omega) | ((try apply has_setN); apply has_ofL; simp only [bxL]; omega)) only [↓bxD, bxP, bxQ, bxQ2, Nat.reduceBEq, reduceCtorEq, Nat.reduceAdd, Nat.reduceSub, Nat.reduceMul, Nat.reduceLeDiff, Nat.reduceLT, bxR]
    · have dz : decide ((formP g).2 ≠ 0) = true := decide_eq_true hz
      simp (maxSteps := 4000000) (disch := first | omega | assumption | (simp only [bxS, bxV, stOk, Nat.reduceBEq, Nat.reduceEqDiff, Nat.reduceAdd]; done) | (simp only [bxU]; omega) | ((try apply has_setN); apply has_ofL; simp only [bxL]; omega)) only [↓bxD, bxP, bxQ, bxQ2, Nat.reduceBEq, reduceCtorEq, Nat.reduceAdd, Nat.reduceSub, Nat.reduceMul, Nat.reduceLeDiff, Nat.reduceLT, bxR, hG, hg4, dz]
end Go.Proofs.Ytlmmmchkhaidjaa.K
set_option linter.unusedSimpArgs false
set_option linter.unusedVariables false
set_option maxRecDepth 100000
namespace Go.Proofs.Ytlmmmchkhaidjaa.Ev
open Go
theorem wf_of {z : Int} (h : (Lit.int .i64 z).wf = true) : Wf64 z := by
  simp only [Lit.wf, Bool.and_eq_true, decide_eq_true_eq] at h
  exact h
theorem list_of {α : Type} {F : α → List MV} {W : α → Prop} : ∀ {es : List (List MV)}, (∀ x ∈ es, ∃ a, x = F a ∧ W a) → ∃ l : List α, es = l.map F ∧ ∀ a ∈ l, W a
  | [], _ => ⟨[], rfl, fun a ha => by cases ha⟩
  | x :: es, h => by
    obtain ⟨a, rfl, wa⟩ := h x List.mem_cons_self
    obtain ⟨l, rfl, hl⟩ := list_of fun y hy => h y (List.mem_cons_of_mem _ hy)
    exact ⟨a :: l, rfl, fun b hb => (List.mem_cons.1 hb).elim (fun e => e ▸ wa) (hl b)⟩
theorem list_of2 {α : Type} {R : List MV → α → Prop} : ∀ {es : List (List MV)}, (∀ x ∈ es, ∃ a, R x a) → ∃ l : List α, es.length = l.length ∧ (∀ (i : Nat) e a, es[i]? = some e → l[i]? = some a → R e a) ∧ ∀ a ∈ l, ∃ x, R x a
  | [], _ => ⟨[], rfl, fun i e a h => by simp at h, fun a ha => by cases ha⟩
  | x :: es, h => by
    obtain ⟨a, ra⟩ := h x List.mem_cons_self
    obtain ⟨l, hl, hr, hw⟩ := list_of2 fun y hy => h y (List.mem_cons_of_mem _ hy)
    refine ⟨a :: l, by rw [List.length_cons, List.length_cons, hl], fun i e b h1 h2 => ?_, fun b hb => (List.mem_cons.1 hb).elim (fun e => ⟨x, e ▸ ra⟩) (hw b)⟩
    cases i with
    | zero => simp only [List.getElem?_cons_zero, Option.some.injEq] at h1 h2; subst h1 h2; exact ra
    | succ i => exact hr i e b (by simpa using h1) (by simpa using h2)
variable {P : Program} {M : MH}
theorem typed_int {n : Nat} {e : TypeId} (hu : P.underlying e = some (.int .i64)) {x : List MV} (h : Typed P M n e x) : ∃ z, x = [.i .i64 z] ∧ Wf64 z := by
  cases n with
  | zero => exact h.elim
  | succ n =>
    simp only [Typed, hu] at h
    obtain ⟨z, rfl, hz⟩ := h
    exact ⟨z, rfl, wf_of hz⟩
theorem typed_ints {n : Nat} {t e : TypeId} (ht : P.underlying t = some (.slice e)) (hu : P.underlying e = some (.int .i64)) (hc : P.cellsOf e = 1) {x : List MV} (h : Typed P M n t x) : ∃ v l, x = [v] ∧ IntRow M v l ∧ (∀ z ∈ l, Wf64 z) ∧ l.length ≤ 9223372036854775807 := by
  cases n with
  | zero => exact h.elim
  | succ n =>
    simp only [Typed, ht] at h
    obtain ⟨v, es, rfl, hr, hm, hl⟩ := h
    obtain ⟨l, rfl, hw⟩ := list_of (F := fun z => [MV.i .i64 z]) (W := Wf64) fun x hx => typed_int hu (hl x hx)
    rw [hc] at hr
    rw [List.length_map] at hm
    exact ⟨v, l, rfl, hr, hw, hm⟩
end Go.Proofs.Ytlmmmchkhaidjaa.Ev
namespace Go.Proofs.Ytlmmmchkhaidjaa
open Go Ev
theorem rule_of {M : MH} {n : Nat} {x : List MV} (h : Typed Try.prog M n 37 x) : ∃ r : Int × List Int × Int, RuleAt M x r ∧ Wf64 r.1 ∧ (∀ z ∈ r.2.1, Wf64 z) ∧ Wf64 r.2.2 ∧ r.2.1.length ≤ 9223372036854775807 := by
  cases n with
  | zero => exact h.elim
  | succ n =>
    simp only [Typed, Try.underlying37] at h
    simp only [TypedFs] at h
    obtain ⟨_, _, rfl, h1, _, _, rfl, h2, _, _, rfl, h3, rfl⟩ := h
    obtain ⟨a, rfl, wa⟩ := typed_int Try.underlying3 h1
    obtain ⟨v, l, rfl, hr, hw, hm⟩ := typed_ints Try.underlying24 Try.underlying3 (by kernel_rfl) h2
    obtain ⟨b, rfl, wb⟩ := typed_int Try.underlying3 h3
    exact ⟨(a, l, b), ⟨v, rfl, hr⟩, wa, hw, wb, hm⟩
theorem trip_of {M : MH} {n : Nat} {x : List MV} (h : Typed Try.prog M n 42 x) : ∃ f : Int × Int × Int, x = trip f ∧ Wf64 f.1 ∧ Wf64 f.2.1 ∧ Wf64 f.2.2 := by
  cases n with
  | zero => exact h.elim
  | succ n =>
    simp only [Typed, Try.underlying42] at h
    simp only [TypedN] at h
    obtain ⟨_, _, rfl, h1, _, _, rfl, h2, _, _, rfl, h3, rfl⟩ := h
    obtain ⟨a, rfl, wa⟩ := typed_int Try.underlying3 h1
    obtain ⟨b, rfl, wb⟩ := typed_int Try.underlying3 h2
    obtain ⟨c, rfl, wc⟩ := typed_int Try.underlying3 h3
    exact ⟨(a, b, c), rfl, wa, wb, wc⟩
theorem gram_of {M : MH} {m : MV} (h : ArgTyped Try.prog M 26 m) : ∃ g vr vf vc vk es, m = .ag (gcs g vr vf vc vk) ∧ GrAt M vr vf vc vk es g := by
  obtain ⟨n, cs, h1, h2⟩ := h
  simp only [Try.underlying26] at h2
  subst h2
  cases n with
  | zero => exact h1.elim
  | succ n =>
    simp only [Typed, Try.underlying26] at h1
    simp only [TypedFs] at h1
    obtain ⟨_, _, rfl, k1, _, _, rfl, k2, _, _, rfl, k3, _, _, rfl, k4, _, _, rfl, k5, _, _, rfl, k6, _, _, rfl, k7, rfl⟩ := h1
    obtain ⟨a, rfl, wa⟩ := typed_int Try.underlying3 k1
    obtain ⟨b, rfl, wb⟩ := typed_int Try.underlying3 k2
    obtain ⟨c, rfl, wc⟩ := typed_int Try.underlying3 k3
    obtain ⟨vc, lc, rfl, rc, hwc, hmc⟩ := typed_ints Try.underlying24 Try.underlying3 (by kernel_rfl) k6
    obtain ⟨vk, lk, rfl, rk, hwk, hmk⟩ := typed_ints Try.underlying24 Try.underlying3 (by kernel_rfl) k7
    cases n with
    | zero => exact k4.elim
    | succ n =>
      simp only [Typed, Try.underlying22] at k4
      simp only [Typed, Try.underlying23] at k5
      obtain ⟨vr, es, rfl, hr, hrm, hrl⟩ := k4
      obtain ⟨vf, fs, rfl, hf, hfm, hfl⟩ := k5
      obtain ⟨l, hl1, hl2, hl3⟩ := list_of2 fun x hx => rule_of (hrl x hx)
      obtain ⟨fl, rfl, hfw⟩ := list_of (F := trip) (W := fun f => Wf64 f.1 ∧ Wf64 f.2.1 ∧ Wf64 f.2.2) fun x hx => trip_of (hfl x hx)
      rw [show Try.prog.cellsOf 37 = 3 from by kernel_rfl] at hr
      rw [show Try.prog.cellsOf 42 = 3 from by kernel_rfl] at hf
      rw [List.length_map] at hfm
      refine ⟨⟨a, b, c, l, fl, lc, lk⟩, vr, vf, vc, vk, es, rfl, ⟨⟨hr, hl1, fun i e r h1 h2 => (hl2 i e r h1 h2).1⟩, hf, rc, rk, ⟨wa, wb, wc, fun r hr => ?_, hfw, hwc, hwk, by rw [← hl1]; exact hrm, hfm, hmc, hmk⟩⟩⟩
      obtain ⟨x, hx⟩ := hl3 r hr
      exact hx.2
end Go.Proofs.Ytlmmmchkhaidjaa
set_option linter.unusedSimpArgs false
set_option linter.unusedVariables false
namespace Go.Proofs.Ytlmmmchkhaidjaa.K
open Go Ev
set_option maxRecDepth 100000
set_option maxHeartbeats 4000000

theorem Cp_true {fns : Nat → Option IFn} {g : Nat} {M : MH} (hg : fns g = some Ftrue) : Cp fns g [] M fun m M' => m = .b true ∧ M' = M := by
  refine Cp_call hg (Nat.le_refl _) ?_
  show Wp fns (.reg [⟨some (.k1 .d0), none, .mov (.c (.b true))⟩]) _ M _
  simp only [Wp_reg_iff, Wl_op_iff, Wl_nil_iff, bindP_some, ev_mov, ev_c, setD_some, retQ_norm, show Ftrue.res = [.tmp (.k1 .d0)] from rfl, resL_1, res_set, if_true, Option.some.injEq, exists_eq_left']
  simp [packM]
theorem short_model (M : MH) (ms : List MV) (hx : Ext Mz M) (hlo : M.lo ≤ M.n) (ha : ArgsTyped Try.prog M [26] ms) : Cp fns 4 ms M fun m _ => m = .b true := by
  obtain ⟨m, r, rfl, h, rfl⟩ := ha
  obtain ⟨g, vr, vf, vc, vk, es, rfl, hg⟩ := gram_of h
  exact law_short hg hlo fun M' _ => Cp_true (by kernel_rfl)
end Go.Proofs.Ytlmmmchkhaidjaa.K
