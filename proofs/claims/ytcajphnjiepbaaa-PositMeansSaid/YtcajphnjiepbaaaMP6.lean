/-
  What the claim leans on, part 6: The document's reader: a set within brackets. Conditions: none. The document's reader: one part. Conditions: none. The document's reader: a part that is repeated. Conditions: none. The document's reader: rows of parts. Conditions: none. The document's reader: what may be one or another. Conditions: none. The document's reader: the whole. Conditions: none. The program's posit.Of. Conditions: none. The law PositMeans, for a pattern's text and a row of bytes. Conditions: none. The law PositMeans from its arguments. Conditions: none.
-/
import Derived.Test.YtcajphnjiepbaaaMP5
import Derived.Test.YtcajphnjiepbaaaMP3
import Derived.Test.YtcajphnjiepbaaaMP4
import Derived.Test.YtcajphnjiepbaaaProg
set_option linter.unusedSimpArgs false
set_option linter.unusedVariables false
namespace Go.Proofs.Ytcajphnjiepbaaa.K
open Go Ev
set_option maxRecDepth 100000
set_option maxHeartbeats 4000000

structure ClSt (M0 M : MH) (rx : Nat) (s : ByteArray) (k at' : Nat) (e : Int) (f : Fr) : Prop where
  rd : ∃ c bad, RdAt M rx s at' e c bad
  ch : Chg (fun j => j = rx) M0 M
  rx0 : rx < M0.n
  lo : M0.lo ≤ rx
  n : M0.n + 1 < M.n
  g2 : M.get M0.n = some (.cs false 6 (ofL z6 0))
  g3 : ∃ t a b c d, M.get (M0.n + 1) = some (.cs false 4 t) ∧ At t 0 (st4 a b c d)
  k1 : k ≤ at'
  k2 : at' ≤ s.size
  sz : s.size ≤ 1000
  f0 : X.ev f (.t q0) = .p rx 0
  f2 : X.ev f (.t q2) = .p M0.n 0
  f3 : X.ev f (.t q3) = .p (M0.n + 1) 0
  f4 : ∃ b, X.ev f (.t q4) = .b b
theorem ClSt.went {M0 M M' : MH} {rx : Nat} {s : ByteArray} {k at' at2 : Nat} {e e2 : Int} {f f' : Fr} (h : ClSt M0 M rx s k at' e f) (hc : Chg (fun j => j = rx) M M') (hr : ∃ c bad, RdAt M' rx s at2 e2 c bad) (h1 : at' ≤ at2) (h2 : at2 ≤ s.size) (e0 : X.ev f' (.t q0) = X.ev f (.t q0)) (e2' : X.ev f' (.t q2) = X.ev f (.t q2)) (e3 : X.ev f' (.t q3) = X.ev f (.t q3)) (e4 : X.ev f' (.t q4) = X.ev f (.t q4)) : ClSt M0 M' rx s k at2 e2 f' := by
  have hn := h.n
  have hx := h.rx0
  obtain ⟨t, a, b, c, d, g, hA⟩ := h.g3
  exact ⟨hr, h.ch.trans hc, h.rx0, h.lo, Nat.lt_of_lt_of_le hn hc.n, (hc.old _ (by omega) (by omega)).trans h.g2, ⟨t, a, b, c, d, (hc.old _ hn (by omega)).trans g, hA⟩, Nat.le_trans h.k1 h1, h2, h.sz, e0.trans h.f0, e2'.trans h.f2, e3.trans h.f3, by obtain ⟨b, hb⟩ := h.f4; exact ⟨b, e4.trans hb⟩⟩
theorem RdAt.put {M : MH} {rx id : Nat} {s : ByteArray} {k : Nat} {e bad : Int} {c : Ev.T MV} {o : Option MO} (h : RdAt M rx s k e c bad) (hne : id ≠ rx) : RdAt (M.set id o) rx s k e c bad := ⟨by rw [set_ne (Ne.symm hne)]; exact h.g, h.at_, h.lt⟩
theorem ClSt.fill {M0 M M2 : MH} {rx : Nat} {s : ByteArray} {k at' : Nat} {e : Int} {f f' : Fr} (h : ClSt M0 M rx s k at' e f) (x : Ext M M2) {t : Ev.T MV} {a b c d : Int} (hA : At t 0 (st4 a b c d)) (e0 : X.ev f' (.t q0) = X.ev f (.t q0)) (e2' : X.ev f' (.t q2) = X.ev f (.t q2)) (e3 : X.ev f' (.t q3) = X.ev f (.t q3)) (e4 : X.ev f' (.t q4) = X.ev f (.t q4)) : ClSt M0 (M2.set (M0.n + 1) (some (.cs false 4 t))) rx s k at' e f' := by
  have hn := h.n
  have hx := h.rx0
  obtain ⟨c', bad, hr⟩ := h.rd
  exact ⟨⟨c', bad, (hr.ext x).put (by omega)⟩, (h.ch.trans (.of x)).set _ (.inr (by omega)), hx, h.lo, Nat.lt_of_lt_of_le hn x.n, by rw [set_ne (by omega)]; exact (x.old _ (by omega)).trans h.g2, ⟨t, a, b, c, d, set_same _ _, hA⟩, h.k1, h.k2, h.sz, e0.trans h.f0, e2'.trans h.f2, e3.trans h.f3, by obtain ⟨b, hb⟩ := h.f4; exact ⟨b, e4.trans hb⟩⟩
theorem cv_i64 (c : Nat) (h : c < 256) : cvIV .i64 (.i .u8 (c : Int)) = some (.i .i64 (c : Int)) := by
  show some (MV.i .i64 (wrapF .i64 (c : Int))) = _
  rw [wrap_in (by omega) (by omega)]
theorem class_fill {M0 M : MH} {rx : Nat} {s : ByteArray} {k at' lw hg : Nat} {e : Int} {n : Int} {f : Fr} (h : ClSt M0 M rx s k at' e f) (h9 : X.ev f (.t q9) = .i .i64 (lw : Int)) (h7 : X.ev f (.t q7) = .i .u8 (hg : Int)) (hl : lw < 256) (hh : hg < 256) (h5 : X.ev f (.t q5) = .i .i64 n) (Q : Post)
    (hQ : ∀ f' M', ClSt M0 M' rx s k at' e f' → X.ev f' (.t q5) = .i .i64 n → Q .norm f' M') : Wp fns (.loop L72_3) f M (blockQ 2 Q) := by
  refine Wp_inv (σ := Nat) (fun z f' M' => ClSt M0 M' rx s k at' e f' ∧ z ≤ 256 ∧ X.ev f' (.t q9) = .i .i64 (z : Int) ∧ X.ev f' (.t q7) = .i .u8 (hg : Int) ∧ X.ev f' (.t q5) = .i .i64 n) (fun z => 256 - z) ?_ lw ⟨h, by omega, h9, h7, h5⟩
  rintro z f1 M1 ⟨h, hz, h9, h7, h5⟩
  have hq3 := h.f3
  have hn := h.n
  have hcl := h.ch.lo
  have hcn := h.ch.n
  have hlo := h.lo
  have hrx := h.rx0
  obtain ⟨t, a, b, c, d, g, hA⟩ := h.g3
  have hN : getN t 4 0 = some (st4 a b c d) := hA.getN
  simp only [q3, q9, q7, q5] at hq3 h9 h7 h5
  unfold L72_3
  by_cases hle : (z : Int) ≤ (hg : Int)
  · have d1 : decide ((z : Int) ≤ (hg : Int)) = true := decide_eq_true hle
    have hcv := cv_byte (i := z) (by omega)
    have hcv2 := cv_i64 hg hh
    simp (maxSteps := 4000000) (disch := first | omega | assumption | (simp only [bxS, bxV, stOk, Nat.reduceBEq, Nat.reduceEqDiff, Nat.reduceAdd]; done) | (simp only [bxU]; omega) | ((try apply has_setN); apply has_ofL; simp only [bxL]; omega)) only [↓bxD, bxP, bxQ, bxQ2, Nat.reduceBEq, reduceCtorEq, Nat.reduceAdd, Nat.reduceSub, Nat.reduceMul, Nat.reduceLeDiff, Nat.reduceLT, bxR, hq3, h9, h7, h5, d1, hcv, hcv2, g, hN]
    show Wp fns K72_2 _ _ _
    unfold K72_2
    simp (maxSteps := 4000000) (disch := first | omega | assumption | (simp only [bxS, bxV, stOk, Nat.reduceBEq, Nat.reduceEqDiff, Nat.reduceAdd]; done) | (simp only [bxU]; omega) | ((try apply has_setN); apply has_ofL; simp only [bxL]; omega)) only [↓bxD, bxP, bxQ, bxQ2, Nat.reduceBEq, reduceCtorEq, Nat.reduceAdd, Nat.reduceSub, Nat.reduceMul, Nat.reduceLeDiff, Nat.reduceLT, bxR, hq3, h9, h7, h5, d1, hcv, hcv2, g, hN]
    refine bindP_call (with_any' (by omega) (by omega)) ?_
    rintro m M2 ⟨⟨a2, b2, c2, d2, rfl⟩, x2⟩
    have n2 := x2.n
    have l2 := x2.lo
    have g' := (x2.old _ (by omega)).trans g
    have hH : hasB t 4 0 = true := hA.has
    have hS : stW M2 4 (M0.n + 1) 0 (.ag (st4 a2 b2 c2 d2)) (some (.cs false 4 t)) = _ := stW_ok (n := 4) (id := M0.n + 1) (off := 0) (sz := 4) (t := t) (M := M2) (y := .ag (st4 a2 b2 c2 d2)) (by omega) rfl hH
    simp (maxSteps := 4000000) (disch := first | omega | assumption | (simp only [bxS, bxV, stOk, Nat.reduceBEq, Nat.reduceEqDiff, Nat.reduceAdd]; done) | (simp only [bxU]; omega) | ((try apply has_setN); apply has_ofL; simp only [bxL]; omega)) only [↓bxD, bxP, bxQ, bxQ2, Nat.reduceBEq, reduceCtorEq, Nat.reduceAdd, Nat.reduceSub, Nat.reduceMul, Nat.reduceLeDiff, Nat.reduceLT, bxR, hq3, h9, h7, h5, g', hS]
    show Wp fns K72_1 _ _ _
    unfold K72_1
    simp (maxSteps := 4000000) (disch := first | omega | assumption | (simp only [bxS, bxV, stOk, Nat.reduceBEq, Nat.reduceEqDiff, Nat.reduceAdd]; done) | (simp only [bxU]; omega) | ((try apply has_setN); apply has_ofL; simp only [bxL]; omega)) only [↓bxD, bxP, bxQ, bxQ2, Nat.reduceBEq, reduceCtorEq, Nat.reduceAdd, Nat.reduceSub, Nat.reduceMul, Nat.reduceLeDiff, Nat.reduceLT, bxR, hq3, h9, h7, h5, g', hS]
    have hA2 : At (setN (st4 a2 b2 c2 d2) 0 t) 0 (st4 a2 b2 c2 d2) := at_setN _ _ _
    exact ⟨z + 1, by omega, h.fill x2 hA2 (by simp only [bxP, bxQ, bxQ2, reduceCtorEq, hq3, h9, h7, h5, g', hS]) (by simp only [bxP, bxQ, bxQ2, reduceCtorEq, hq3, h9, h7, h5, g', hS]) (by simp only [bxP, bxQ, bxQ2, reduceCtorEq, hq3, h9, h7, h5, g', hS]) (by simp only [bxP, bxQ, bxQ2, reduceCtorEq, hq3, h9, h7, h5, g', hS]), by omega, rfl⟩
  · have d1 : decide ((z : Int) ≤ (hg : Int)) = false := decide_eq_false hle
    have hcv2 := cv_i64 hg hh
    simp (maxSteps := 4000000) (disch := first | omega | assumption | (simp only [bxS, bxV, stOk, Nat.reduceBEq, Nat.reduceEqDiff, Nat.reduceAdd]; done) | (simp only [bxU]; omega) | ((try apply has_setN); apply has_ofL; simp only [bxL]; omega)) only [↓bxD, bxP, bxQ, bxQ2, Nat.reduceBEq, reduceCtorEq, Nat.reduceAdd, Nat.reduceSub, Nat.reduceMul, Nat.reduceLeDiff, Nat.reduceLT, bxR, hq3, h9, h7, h5, d1, hcv2]
    exact hQ _ _ (h.went (.refl _ _) h.rd (Nat.le_refl _) h.k2 (by simp only [bxP, bxQ, bxQ2, reduceCtorEq, hq3, h9, h7, h5, d1, hcv2]) (by simp only [bxP, bxQ, bxQ2, reduceCtorEq, hq3, h9, h7, h5, d1, hcv2]) (by simp only [bxP, bxQ, bxQ2, reduceCtorEq, hq3, h9, h7, h5, d1, hcv2]) (by simp only [bxP, bxQ, bxQ2, reduceCtorEq, hq3, h9, h7, h5, d1, hcv2])) (by simp only [bxP, bxQ, bxQ2, reduceCtorEq, hq3, h9, h7, h5, d1, hcv2])
def ClPost (s : ByteArray) (rx k : Nat) (M0 : MH) (m : MV) (M' : MH) : Prop := ∃ (e : Int) (k' : Nat) (a b c d : Int), m = .ag [.i .i64 1, .i .u64 a, .i .u64 b, .i .u64 c, .i .u64 d, .nils] ∧ (∃ c bad, RdAt M' rx s k' e c bad) ∧ Chg (fun j => j = rx) M0 M' ∧ k' ≤ s.size + 1 ∧ k < k' ∧ (e = 0 → k' ≤ s.size)
theorem class_end {M0 M : MH} {rx : Nat} {s : ByteArray} {k at' : Nat} {e : Int} {f : Fr} (h : ClSt M0 M rx s k at' e f) (he : e = 0 → at' < s.size) : Wp fns K72_13 f M (retQ F72 (ClPost s rx k M0)) := by
  obtain ⟨c, bad, hr⟩ := h.rd
  have hq0 := h.f0
  have hq2 := h.f2
  have hq3 := h.f3
  obtain ⟨b4, hq4⟩ := h.f4
  have hn := h.n
  have hcl := h.ch.lo
  have hcn := h.ch.n
  have hlo := h.lo
  have hrx := h.rx0
  have hk2 := h.k2
  have hsz := h.sz
  have g := hr.g
  have c1 : cget c 1 = some (.i .i64 (at' : Int)) := hr.at_ 1 _ rfl
  have hb1 : hasB c 1 1 = true := has_at hr.at_ (Nat.zero_le _) (by show 1 + 1 ≤ 0 + 4; omega)
  have hon := hr.on (at' + 1)
  have hcast : ((at' + 1 : Nat) : Int) = (at' : Int) + 1 := by omega
  rw [hcast] at hon
  simp only [q0, q2, q3, q4] at hq0 hq2 hq3 hq4
  unfold K72_13
  simp (maxSteps := 4000000) (disch := first | omega | assumption | (simp only [bxS, bxV, stOk, Nat.reduceBEq, Nat.reduceEqDiff, Nat.reduceAdd]; done) | (simp only [bxU]; omega) | ((try apply has_setN); apply has_ofL; simp only [bxL]; omega)) only [↓bxD, bxP, bxQ, bxQ2, Nat.reduceBEq, reduceCtorEq, Nat.reduceAdd, Nat.reduceSub, Nat.reduceMul, Nat.reduceLeDiff, Nat.reduceLT, bxR, hq0, hq2, hq3, hq4, g, c1, hb1, nck_p, Nat.zero_add, cells_i]
  obtain ⟨t, a, b, c', d, g3, hA⟩ := h.g3
  have g3' : (M.set rx (some (.cs false 4 (setN [MV.i .i64 ((at' : Int) + 1)] 1 c)))).get (M0.n + 1) = _ := (set_ne (by omega)).trans g3
  have g2' : (M.set rx (some (.cs false 4 (setN [MV.i .i64 ((at' : Int) + 1)] 1 c)))).get M0.n = _ := (set_ne (by omega)).trans h.g2
  have hch : Chg (fun j => j = rx) M0 (M.set rx (some (.cs false 4 (setN [MV.i .i64 ((at' : Int) + 1)] 1 c)))) := h.ch.set _ (.inl rfl)
  generalize setN [MV.i .i64 ((at' : Int) + 1)] 1 c = c5 at hon hch g2' g3' ⊢
  have hn5 : M0.n + 1 < (M.set rx (some (.cs false 4 c5))).n := hn
  generalize hM5 : M.set rx (some (.cs false 4 c5)) = M5 at hon hch g2' g3' hn5 ⊢
  have hk1 := h.k1
  have last : ∀ (f' : Fr) (M' : MH) (t' : Ev.T MV) (a' b' c' d' : Int), X.ev f' (.t q2) = .p M0.n 0 → X.ev f' (.t q3) = .p (M0.n + 1) 0 → M'.get (M0.n + 1) = some (.cs false 4 t') → At t' 0 (st4 a' b' c' d') → M'.get M0.n = some (.cs false 6 (ofL z6 0)) → M0.n + 1 < M'.n → (∃ c bad, RdAt M' rx s (at' + 1) e c bad) → Chg (fun j => j = rx) M0 M' → Wp fns K72_12 f' M' (retQ F72 (ClPost s rx k M0)) := by
    intro f' M' t' a' b' c' d' h2 h3 g3 hA g2 hn' hr' hc'
    have hl' := hc'.lo
    simp only [q2, q3] at h2 h3
    have h2' := slot_get h2
    have hN : getN t' 4 0 = some (st4 a' b' c' d') := hA.getN
    have ff : fillM [(0, 1, MV.i .i64 1), (1, 4, MV.ag (st4 a' b' c' d'))] [.i .i64 0, .i .u64 0, .i .u64 0, .i .u64 0, .i .u64 0, .nils] = some [.i .i64 1, .i .u64 a', .i .u64 b', .i .u64 c', .i .u64 d', .nils] := rfl
    have hS : stW M' 6 M0.n 0 (.ag [.i .i64 1, .i .u64 a', .i .u64 b', .i .u64 c', .i .u64 d', .nils]) (some (.cs false 6 (ofL z6 0))) = _ := stW_ok (n := 6) (id := M0.n) (off := 0) (sz := 6) (M := M') (y := .ag [.i .i64 1, .i .u64 a', .i .u64 b', .i .u64 c', .i .u64 d', .nils]) (by omega) rfl (has_ofL _ _ _ (by decide))
    have hcl : MV.cells (.ag [.i .i64 1, .i .u64 a', .i .u64 b', .i .u64 c', .i .u64 d', .nils]) = [.i .i64 1, .i .u64 a', .i .u64 b', .i .u64 c', .i .u64 d', .nils] := rfl
    have hg6 : ∀ t, getN (setN [.i .i64 1, .i .u64 a', .i .u64 b', .i .u64 c', .i .u64 d', .nils] 0 t) 6 0 = some [.i .i64 1, .i .u64 a', .i .u64 b', .i .u64 c', .i .u64 d', .nils] := fun t => getN_setN [.i .i64 1, .i .u64 a', .i .u64 b', .i .u64 c', .i .u64 d', .nils] 0 t
    unfold K72_12
    simp (maxSteps := 4000000) (disch := first | omega | assumption | (simp only [bxS, bxV, stOk, Nat.reduceBEq, Nat.reduceEqDiff, Nat.reduceAdd]; done) | (simp only [bxU]; omega) | ((try apply has_setN); apply has_ofL; simp only [bxL]; omega)) only [↓bxD, bxP, bxQ, bxQ2, Nat.reduceBEq, reduceCtorEq, Nat.reduceAdd, Nat.reduceSub, Nat.reduceMul, Nat.reduceLeDiff, Nat.reduceLT, bxR, h2, h2', h3, g3, g2, hN, ff, hS, set_same, res_cN, cNV_p, cNo_cs, get_set, hcl, hg6, map_ag]
    obtain ⟨c0, bad0, hr0⟩ := hr'
    exact ⟨e, at' + 1, a', b', c', d', rfl, ⟨c0, bad0, hr0.put (by omega)⟩, hc'.set _ (.inr (Nat.le_refl _)), by omega, by omega, fun q => he q⟩
  cases b4 with
  | false =>
    simp (maxSteps := 4000000) (disch := first | omega | assumption | (simp only [bxS, bxV, stOk, Nat.reduceBEq, Nat.reduceEqDiff, Nat.reduceAdd]; done) | (simp only [bxU]; omega) | ((try apply has_setN); apply has_ofL; simp only [bxL]; omega)) only [↓bxD, bxP, bxQ, bxQ2, Nat.reduceBEq, reduceCtorEq, Nat.reduceAdd, Nat.reduceSub, Nat.reduceMul, Nat.reduceLeDiff, Nat.reduceLT, bxR, hq0, hq2, hq3, hq4, g, c1, hb1, nck_p, Nat.zero_add, cells_i]
    show Wp fns K72_12 _ _ _
    exact last _ _ t a b c' d (by simp only [bxP, bxQ, bxQ2, reduceCtorEq, hq0, hq2, hq3, hq4, g, c1, hb1, nck_p, Nat.zero_add, cells_i]) (by simp only [bxP, bxQ, bxQ2, reduceCtorEq, hq0, hq2, hq3, hq4, g, c1, hb1, nck_p, Nat.zero_add, cells_i]) g3' hA g2' hn5 ⟨c5, bad, hon⟩ hch
  | true =>
    simp (maxSteps := 4000000) (disch := first | omega | assumption | (simp only [bxS, bxV, stOk, Nat.reduceBEq, Nat.reduceEqDiff, Nat.reduceAdd]; done) | (simp only [bxU]; omega) | ((try apply has_setN); apply has_ofL; simp only [bxL]; omega)) only [↓bxD, bxP, bxQ, bxQ2, Nat.reduceBEq, reduceCtorEq, Nat.reduceAdd, Nat.reduceSub, Nat.reduceMul, Nat.reduceLeDiff, Nat.reduceLT, bxR, hq0, hq2, hq3, hq4, g, c1, hb1, nck_p, Nat.zero_add, cells_i]
    refine Wp_inv (σ := Nat) (fun z f' M' => z ≤ 4 ∧ X.ev f' (.t q10) = .i .i64 (z : Int) ∧ X.ev f' (.t q2) = .p M0.n 0 ∧ X.ev f' (.t q3) = .p (M0.n + 1) 0 ∧ (∃ t a b c d, M'.get (M0.n + 1) = some (.cs false 4 t) ∧ At t 0 (st4 a b c d)) ∧ M'.get M0.n = some (.cs false 6 (ofL z6 0)) ∧ M0.n + 1 < M'.n ∧ RdAt M' rx s (at' + 1) e c5 bad ∧ Chg (fun j => j = rx) M0 M') (fun z => 4 - z) ?_ 0 ?_
    · rintro z f1 M1 ⟨hz, h10, h2, h3, ⟨t, a, b, c', d, g3, hA⟩, g2, hn1, hr1, hc1⟩
      have hl1 := hc1.lo
      simp only [q10, q2, q3] at h10 h2 h3
      unfold L72_11
      by_cases hz4 : z < 4
      · have d1 : decide ((z : Int) < 4) = true := decide_eq_true (by omega)
        obtain ⟨w, hw⟩ : ∃ w, cget t z = some (.i .u64 w) := by
          match z, hz4 with
          | 0, _ => exact ⟨a, hA 0 _ rfl⟩
          | 1, _ => exact ⟨b, hA 1 _ rfl⟩
          | 2, _ => exact ⟨c', hA 2 _ rfl⟩
          | 3, _ => exact ⟨d, hA 3 _ rfl⟩
        have hix : ixAV 4 1 (.p (M0.n + 1) 0) (.i .i64 (z : Int)) = some (.p (M0.n + 1) (0 + z * 1)) := ixA_p (i := z) hz4
        have hx : ∀ w, unM .xor (.i .u64 w) = some (.i .u64 (bitsF .xor .u64 (if IntKind.u64.signed then -1 else IntKind.u64.max) w)) := fun _ => rfl
        have hH : hasB t 1 z = true := has_at hA (Nat.zero_le _) (by show z + 1 ≤ 0 + 4; omega)
        simp (maxSteps := 4000000) (disch := first | omega | assumption | (simp only [bxS, bxV, stOk, Nat.reduceBEq, Nat.reduceEqDiff, Nat.reduceAdd]; done) | (simp only [bxU]; omega) | ((try apply has_setN); apply has_ofL; simp only [bxL]; omega)) only [↓bxD, bxP, bxQ, bxQ2, Nat.reduceBEq, reduceCtorEq, Nat.reduceAdd, Nat.reduceSub, Nat.reduceMul, Nat.reduceLeDiff, Nat.reduceLT, bxR, h10, h2, h3, d1, g3, hix, Nat.zero_add, Nat.mul_one, hw, hx, hH]
        show Wp fns K72_10 _ _ _
        unfold K72_10
        simp (maxSteps := 4000000) (disch := first | omega | assumption | (simp only [bxS, bxV, stOk, Nat.reduceBEq, Nat.reduceEqDiff, Nat.reduceAdd]; done) | (simp only [bxU]; omega) | ((try apply has_setN); apply has_ofL; simp only [bxL]; omega)) only [↓bxD, bxP, bxQ, bxQ2, Nat.reduceBEq, reduceCtorEq, Nat.reduceAdd, Nat.reduceSub, Nat.reduceMul, Nat.reduceLeDiff, Nat.reduceLT, bxR, h10, h2, h3, d1, g3, hix, Nat.zero_add, Nat.mul_one, hw, hx, hH]
        generalize bitsF .xor .u64 _ w = w2
        show Wp fns K72_9 _ _ _
        unfold K72_9
        simp (maxSteps := 4000000) (disch := first | omega | assumption | (simp only [bxS, bxV, stOk, Nat.reduceBEq, Nat.reduceEqDiff, Nat.reduceAdd]; done) | (simp only [bxU]; omega) | ((try apply has_setN); apply has_ofL; simp only [bxL]; omega)) only [↓bxD, bxP, bxQ, bxQ2, Nat.reduceBEq, reduceCtorEq, Nat.reduceAdd, Nat.reduceSub, Nat.reduceMul, Nat.reduceLeDiff, Nat.reduceLT, bxR, h10, h2, h3, d1, g3, hix, Nat.zero_add, Nat.mul_one, hw, hx, hH]
        have hA2 : At (setN [.i .u64 w2] z t) 0 ((st4 a b c' d).set z (.i .u64 w2)) := hA.set' (k := z) z (.i .u64 w2) hz4 (by omega)
        obtain ⟨a2, b2, c2, d2, e2⟩ := st4_set a b c' d w2 hz4
        rw [e2] at hA2
        exact ⟨z + 1, by omega, by omega, rfl, ⟨_, a2, b2, c2, d2, rfl, hA2⟩, g2, hn1, hr1.put (by omega), hc1.set _ (.inr (by omega))⟩
      · have d1 : decide ((z : Int) < 4) = false := decide_eq_false (by omega)
        simp (maxSteps := 4000000) (disch := first | omega | assumption | (simp only [bxS, bxV, stOk, Nat.reduceBEq, Nat.reduceEqDiff, Nat.reduceAdd]; done) | (simp only [bxU]; omega) | ((try apply has_setN); apply has_ofL; simp only [bxL]; omega)) only [↓bxD, bxP, bxQ, bxQ2, Nat.reduceBEq, reduceCtorEq, Nat.reduceAdd, Nat.reduceSub, Nat.reduceMul, Nat.reduceLeDiff, Nat.reduceLT, bxR, h10, h2, h3, d1]
        show Wp fns K72_12 _ _ _
        exact last _ _ t a b c' d (by simp only [bxP, bxQ, bxQ2, reduceCtorEq, h10, h2, h3, d1]) (by simp only [bxP, bxQ, bxQ2, reduceCtorEq, h10, h2, h3, d1]) g3 hA g2 hn1 ⟨c5, bad, hr1⟩ hc1
    · exact ⟨by omega, by simp only [bxP, bxQ, bxQ2, reduceCtorEq, hq0, hq2, hq3, hq4, g, c1, hb1, nck_p, Nat.zero_add, cells_i] <;> rfl, by simp only [bxP, bxQ, bxQ2, reduceCtorEq, hq0, hq2, hq3, hq4, g, c1, hb1, nck_p, Nat.zero_add, cells_i], by simp only [bxP, bxQ, bxQ2, reduceCtorEq, hq0, hq2, hq3, hq4, g, c1, hb1, nck_p, Nat.zero_add, cells_i], ⟨t, a, b, c', d, g3', hA⟩, g2', hn5, hon, hch⟩
theorem class_one {M0 M : MH} {rx : Nat} {s : ByteArray} {k at' lw hg n : Nat} {e : Int} {f : Fr} (h : ClSt M0 M rx s k at' e f) (h6 : X.ev f (.t q6) = .i .u8 (lw : Int)) (h7 : X.ev f (.t q7) = .i .u8 (hg : Int)) (hl : lw < 256) (hh : hg < 256) (h5 : X.ev f (.t q5) = .i .i64 (n : Int)) (hn : n ≤ 2000) (Q : Post)
    (hQ : ∀ f' M', ClSt M0 M' rx s k at' e f' → X.ev f' (.t q5) = .i .i64 ((n + 1 : Nat) : Int) → Q .norm f' M') : Wp fns K72_5 f M Q := by
  have hcv := cv_i64 lw hl
  simp only [q5, q6, q7] at h5 h6 h7
  unfold K72_5
  simp (maxSteps := 4000000) (disch := first | omega | assumption | (simp only [bxS, bxV, stOk, Nat.reduceBEq, Nat.reduceEqDiff, Nat.reduceAdd]; done) | (simp only [bxU]; omega) | ((try apply has_setN); apply has_ofL; simp only [bxL]; omega)) only [↓bxD, bxP, bxQ, bxQ2, Nat.reduceBEq, reduceCtorEq, Nat.reduceAdd, Nat.reduceSub, Nat.reduceMul, Nat.reduceLeDiff, Nat.reduceLT, bxR, h5, h6, h7, hcv]
  refine class_fill (lw := lw) (hg := hg) (n := n) (h.went (.refl _ _) h.rd (Nat.le_refl _) h.k2 (by simp only [bxP, bxQ, bxQ2, reduceCtorEq, h5, h6, h7, hcv]) (by simp only [bxP, bxQ, bxQ2, reduceCtorEq, h5, h6, h7, hcv]) (by simp only [bxP, bxQ, bxQ2, reduceCtorEq, h5, h6, h7, hcv]) (by simp only [bxP, bxQ, bxQ2, reduceCtorEq, h5, h6, h7, hcv])) (by simp only [bxP, bxQ, bxQ2, reduceCtorEq, h5, h6, h7, hcv]) (by simp only [bxP, bxQ, bxQ2, reduceCtorEq, h5, h6, h7, hcv]) hl hh (by simp only [bxP, bxQ, bxQ2, reduceCtorEq, h5, h6, h7, hcv]) _ fun f' M' h' h5' => ?_
  simp only [q5] at h5'
  show Wp fns K72_4 _ _ _
  unfold K72_4
  simp (maxSteps := 4000000) (disch := first | omega | assumption | (simp only [bxS, bxV, stOk, Nat.reduceBEq, Nat.reduceEqDiff, Nat.reduceAdd]; done) | (simp only [bxU]; omega) | ((try apply has_setN); apply has_ofL; simp only [bxL]; omega)) only [↓bxD, bxP, bxQ, bxQ2, Nat.reduceBEq, reduceCtorEq, Nat.reduceAdd, Nat.reduceSub, Nat.reduceMul, Nat.reduceLeDiff, Nat.reduceLT, bxR, h5']
  exact hQ _ _ (h'.went (.refl _ _) h'.rd (Nat.le_refl _) h'.k2 (by simp only [bxP, bxQ, bxQ2, reduceCtorEq, h5']) (by simp only [bxP, bxQ, bxQ2, reduceCtorEq, h5']) (by simp only [bxP, bxQ, bxQ2, reduceCtorEq, h5']) (by simp only [bxP, bxQ, bxQ2, reduceCtorEq, h5'])) (by simp only [bxP, bxQ, bxQ2, reduceCtorEq, h5'] <;> rfl)
theorem class_cond {M0 M : MH} {rx : Nat} {s : ByteArray} {k a2 lw n : Nat} {e2 : Int} {b : Bool} {f : Fr} (h : ClSt M0 M rx s k a2 e2 f) (h6 : X.ev f (.t q6) = .i .u8 (lw : Int)) (h7 : X.ev f (.t q7) = .i .u8 (lw : Int)) (h84 : X.ev f (.t q84) = .b b) (hl : lw < 256) (h5 : X.ev f (.t q5) = .i .i64 (n : Int)) (hn : n ≤ 2000) (hb : b = true → e2 = 0 ∧ a2 + 1 < s.size) (Q : Post)
    (hQ : ∀ f' M' a3 e3, ClSt M0 M' rx s k a3 e3 f' → a2 ≤ a3 → (e3 = 0 → e2 = 0) → X.ev f' (.t q5) = .i .i64 ((n + 1 : Nat) : Int) → Q .norm f' M') : Wp fns (.seq K72_0 K72_5) f M Q := by
  have hq0 := h.f0
  simp only [q0, q5, q6, q7, q84] at hq0 h5 h6 h7 h84
  unfold K72_0
  cases b with
  | false =>
    simp (maxSteps := 4000000) (disch := first | omega | assumption | (simp only [bxS, bxV, stOk, Nat.reduceBEq, Nat.reduceEqDiff, Nat.reduceAdd]; done) | (simp only [bxU]; omega) | ((try apply has_setN); apply has_ofL; simp only [bxL]; omega)) only [↓bxD, bxP, bxQ, bxQ2, Nat.reduceBEq, reduceCtorEq, Nat.reduceAdd, Nat.reduceSub, Nat.reduceMul, Nat.reduceLeDiff, Nat.reduceLT, bxR, hq0, h5, h6, h7, h84]
    show Wp fns K72_5 _ _ _
    exact class_one (h.went (.refl _ _) h.rd (Nat.le_refl _) h.k2 (by simp only [bxP, bxQ, bxQ2, reduceCtorEq, hq0, h5, h6, h7, h84]) (by simp only [bxP, bxQ, bxQ2, reduceCtorEq, hq0, h5, h6, h7, h84]) (by simp only [bxP, bxQ, bxQ2, reduceCtorEq, hq0, h5, h6, h7, h84]) (by simp only [bxP, bxQ, bxQ2, reduceCtorEq, hq0, h5, h6, h7, h84])) (by simp only [bxP, bxQ, bxQ2, reduceCtorEq, hq0, h5, h6, h7, h84]) (by simp only [bxP, bxQ, bxQ2, reduceCtorEq, hq0, h5, h6, h7, h84]) hl hl (by simp only [bxP, bxQ, bxQ2, reduceCtorEq, hq0, h5, h6, h7, h84]) hn _ fun f' M' h' h5' => hQ f' M' a2 e2 h' (Nat.le_refl _) id h5'
  | true =>
    obtain ⟨rfl, hlt⟩ := hb rfl
    obtain ⟨c, bad, hr⟩ := h.rd
    have hnn := h.n
    have hcl := h.ch.lo
    have hcn := h.ch.n
    have hlo := h.lo
    have hrx := h.rx0
    have hk1 := h.k1
    have hk2 := h.k2
    have hsz := h.sz
    have g := hr.g
    have c1 : cget c 1 = some (.i .i64 (a2 : Int)) := hr.at_ 1 _ rfl
    have hb1 : hasB c 1 1 = true := has_at hr.at_ (Nat.zero_le _) (by show 1 + 1 ≤ 0 + 4; omega)
    have hon := hr.on (a2 + 1)
    have hcast : ((a2 + 1 : Nat) : Int) = (a2 : Int) + 1 := by omega
    rw [hcast] at hon
    simp (maxSteps := 4000000) (disch := first | omega | assumption | (simp only [bxS, bxV, stOk, Nat.reduceBEq, Nat.reduceEqDiff, Nat.reduceAdd]; done) | (simp only [bxU]; omega) | ((try apply has_setN); apply has_ofL; simp only [bxL]; omega)) only [↓bxD, bxP, bxQ, bxQ2, Nat.reduceBEq, reduceCtorEq, Nat.reduceAdd, Nat.reduceSub, Nat.reduceMul, Nat.reduceLeDiff, Nat.reduceLT, bxR, hq0, h5, h6, h7, h84, g, c1, hb1, nck_p, Nat.zero_add, cells_i]
    have hch : Chg (fun j => j = rx) M (M.set rx (some (.cs false 4 (setN [MV.i .i64 ((a2 : Int) + 1)] 1 c)))) := (Chg.refl _ M).set _ (.inl rfl)
    generalize setN [MV.i .i64 ((a2 : Int) + 1)] 1 c = c5 at hon hch ⊢
    generalize hM5 : M.set rx (some (.cs false 4 c5)) = M5 at hon hch ⊢
    have n5 := hch.n
    have l5 := hch.lo
    have g5 := hon.g
    have d1 : cget c5 1 = some (.i .i64 ((a2 + 1 : Nat) : Int)) := hon.at_ 1 _ rfl
    refine bindP_call (byte1_any (by omega) hsz (by omega) hon) ?_
    rintro m M6 ⟨hg, a3, e3, rfl, hhg, ⟨⟨c6, bad6, hr6⟩, hk13, hk23, _, hc6⟩, _⟩
    have n6 := hc6.n
    have l6 := hc6.lo
    have g6 := hr6.g
    have d2 : cget c6 2 = some (.i .i64 e3) := hr6.at_ 2 _ rfl
    have hcc := hch.trans hc6
    by_cases he : e3 = 0
    · subst he
      by_cases hlh : (hg : Int) < (lw : Int)
      · have d5 : decide ((hg : Int) < (lw : Int)) = true := decide_eq_true hlh
        simp (maxSteps := 4000000) (disch := first | omega | assumption | (simp only [bxS, bxV, stOk, Nat.reduceBEq, Nat.reduceEqDiff, Nat.reduceAdd]; done) | (simp only [bxU]; omega) | ((try apply has_setN); apply has_ofL; simp only [bxL]; omega)) only [↓bxD, bxP, bxQ, bxQ2, Nat.reduceBEq, reduceCtorEq, Nat.reduceAdd, Nat.reduceSub, Nat.reduceMul, Nat.reduceLeDiff, Nat.reduceLT, bxR, hq0, h5, h6, h7, h84, g6, d2, d5, nck_p, Nat.zero_add]
        refine bindP_call (fail_any (z := 2) (by omega) hr6) ?_
        rintro m M7 ⟨⟨c7, bad7, h7'⟩, hc7⟩
        simp (maxSteps := 4000000) (disch := first | omega | assumption | (simp only [bxS, bxV, stOk, Nat.reduceBEq, Nat.reduceEqDiff, Nat.reduceAdd]; done) | (simp only [bxU]; omega) | ((try apply has_setN); apply has_ofL; simp only [bxL]; omega)) only [↓bxD, bxP, bxQ, bxQ2, Nat.reduceBEq, reduceCtorEq, Nat.reduceAdd, Nat.reduceSub, Nat.reduceMul, Nat.reduceLeDiff, Nat.reduceLT, bxR, hq0, h5, h6, h7, h84, g6, d2, d5, nck_p, Nat.zero_add]
        show Wp fns K72_5 _ _ _
        exact class_one (h.went (hcc.trans hc7) ⟨c7, bad7, h7'⟩ (by omega) hk23 (by simp only [bxP, bxQ, bxQ2, reduceCtorEq, hq0, h5, h6, h7, h84, g6, d2, d5, nck_p, Nat.zero_add]) (by simp only [bxP, bxQ, bxQ2, reduceCtorEq, hq0, h5, h6, h7, h84, g6, d2, d5, nck_p, Nat.zero_add]) (by simp only [bxP, bxQ, bxQ2, reduceCtorEq, hq0, h5, h6, h7, h84, g6, d2, d5, nck_p, Nat.zero_add]) (by simp only [bxP, bxQ, bxQ2, reduceCtorEq, hq0, h5, h6, h7, h84, g6, d2, d5, nck_p, Nat.zero_add])) (by simp only [bxP, bxQ, bxQ2, reduceCtorEq, hq0, h5, h6, h7, h84, g6, d2, d5, nck_p, Nat.zero_add]) (by simp only [bxP, bxQ, bxQ2, reduceCtorEq, hq0, h5, h6, h7, h84, g6, d2, d5, nck_p, Nat.zero_add]) hl hhg (by simp only [bxP, bxQ, bxQ2, reduceCtorEq, hq0, h5, h6, h7, h84, g6, d2, d5, nck_p, Nat.zero_add]) hn _ fun f' M' h' h5' => hQ f' M' a3 _ h' (by omega) (fun _ => rfl) h5'
      · have d5 : decide ((hg : Int) < (lw : Int)) = false := decide_eq_false hlh
        simp (maxSteps := 4000000) (disch := first | omega | assumption | (simp only [bxS, bxV, stOk, Nat.reduceBEq, Nat.reduceEqDiff, Nat.reduceAdd]; done) | (simp only [bxU]; omega) | ((try apply has_setN); apply has_ofL; simp only [bxL]; omega)) only [↓bxD, bxP, bxQ, bxQ2, Nat.reduceBEq, reduceCtorEq, Nat.reduceAdd, Nat.reduceSub, Nat.reduceMul, Nat.reduceLeDiff, Nat.reduceLT, bxR, hq0, h5, h6, h7, h84, g6, d2, d5, nck_p, Nat.zero_add]
        show Wp fns K72_5 _ _ _
        exact class_one (h.went hcc ⟨c6, bad6, hr6⟩ (by omega) hk23 (by simp only [bxP, bxQ, bxQ2, reduceCtorEq, hq0, h5, h6, h7, h84, g6, d2, d5, nck_p, Nat.zero_add]) (by simp only [bxP, bxQ, bxQ2, reduceCtorEq, hq0, h5, h6, h7, h84, g6, d2, d5, nck_p, Nat.zero_add]) (by simp only [bxP, bxQ, bxQ2, reduceCtorEq, hq0, h5, h6, h7, h84, g6, d2, d5, nck_p, Nat.zero_add]) (by simp only [bxP, bxQ, bxQ2, reduceCtorEq, hq0, h5, h6, h7, h84, g6, d2, d5, nck_p, Nat.zero_add])) (by simp only [bxP, bxQ, bxQ2, reduceCtorEq, hq0, h5, h6, h7, h84, g6, d2, d5, nck_p, Nat.zero_add]) (by simp only [bxP, bxQ, bxQ2, reduceCtorEq, hq0, h5, h6, h7, h84, g6, d2, d5, nck_p, Nat.zero_add]) hl hhg (by simp only [bxP, bxQ, bxQ2, reduceCtorEq, hq0, h5, h6, h7, h84, g6, d2, d5, nck_p, Nat.zero_add]) hn _ fun f' M' h' h5' => hQ f' M' a3 _ h' (by omega) (fun _ => rfl) h5'
    · have d0 : decide (e3 = 0) = false := decide_eq_false he
      simp (maxSteps := 4000000) (disch := first | omega | assumption | (simp only [bxS, bxV, stOk, Nat.reduceBEq, Nat.reduceEqDiff, Nat.reduceAdd]; done) | (simp only [bxU]; omega) | ((try apply has_setN); apply has_ofL; simp only [bxL]; omega)) only [↓bxD, bxP, bxQ, bxQ2, Nat.reduceBEq, reduceCtorEq, Nat.reduceAdd, Nat.reduceSub, Nat.reduceMul, Nat.reduceLeDiff, Nat.reduceLT, bxR, hq0, h5, h6, h7, h84, g6, d2, d0, nck_p, Nat.zero_add]
      show Wp fns K72_5 _ _ _
      exact class_one (h.went hcc ⟨c6, bad6, hr6⟩ (by omega) hk23 (by simp only [bxP, bxQ, bxQ2, reduceCtorEq, hq0, h5, h6, h7, h84, g6, d2, d0, nck_p, Nat.zero_add]) (by simp only [bxP, bxQ, bxQ2, reduceCtorEq, hq0, h5, h6, h7, h84, g6, d2, d0, nck_p, Nat.zero_add]) (by simp only [bxP, bxQ, bxQ2, reduceCtorEq, hq0, h5, h6, h7, h84, g6, d2, d0, nck_p, Nat.zero_add]) (by simp only [bxP, bxQ, bxQ2, reduceCtorEq, hq0, h5, h6, h7, h84, g6, d2, d0, nck_p, Nat.zero_add])) (by simp only [bxP, bxQ, bxQ2, reduceCtorEq, hq0, h5, h6, h7, h84, g6, d2, d0, nck_p, Nat.zero_add]) (by simp only [bxP, bxQ, bxQ2, reduceCtorEq, hq0, h5, h6, h7, h84, g6, d2, d0, nck_p, Nat.zero_add]) hl hhg (by simp only [bxP, bxQ, bxQ2, reduceCtorEq, hq0, h5, h6, h7, h84, g6, d2, d0, nck_p, Nat.zero_add]) hn _ fun f' M' h' h5' => hQ f' M' a3 _ h' (by omega) (fun q => absurd q he) h5'
theorem class_dash {M0 M : MH} {rx : Nat} {s : ByteArray} {k at' n : Nat} {f : Fr} (h : ClSt M0 M rx s k at' 0 f) (h5 : X.ev f (.t q5) = .i .i64 (n : Int)) (hn : n ≤ 2000) (Q : Post)
    (hQ : ∀ f' M' a2 e2, ClSt M0 M' rx s k a2 e2 f' → at' ≤ a2 → (e2 = 0 → at' < a2) → X.ev f' (.t q5) = .i .i64 ((n + 1 : Nat) : Int) → Q .norm f' M') : Wp fns K72_6 f M Q := by
  obtain ⟨c, bad, hr⟩ := h.rd
  have hq0 := h.f0
  have hnn := h.n
  have hcl := h.ch.lo
  have hcn := h.ch.n
  have hlo := h.lo
  have hrx := h.rx0
  have hk2 := h.k2
  have hsz := h.sz
  simp only [q0, q5] at hq0 h5
  unfold K72_6
  simp (maxSteps := 4000000) (disch := first | omega | assumption | (simp only [bxS, bxV, stOk, Nat.reduceBEq, Nat.reduceEqDiff, Nat.reduceAdd]; done) | (simp only [bxU]; omega) | ((try apply has_setN); apply has_ofL; simp only [bxL]; omega)) only [↓bxD, bxP, bxQ, bxQ2, Nat.reduceBEq, reduceCtorEq, Nat.reduceAdd, Nat.reduceSub, Nat.reduceMul, Nat.reduceLeDiff, Nat.reduceLT, bxR, hq0, h5]
  refine bindP_call (byte1_any (by omega) hsz hk2 hr) ?_
  rintro m M2 ⟨lw, a2, e2, rfl, hlw, ⟨⟨c2, bad2, hr2⟩, hk12, hk22, _, hc2⟩, he2⟩
  have n2 := hc2.n
  have l2 := hc2.lo
  have g2 := hr2.g
  have d2 : cget c2 2 = some (.i .i64 e2) := hr2.at_ 2 _ rfl
  simp (maxSteps := 4000000) (disch := first | omega | assumption | (simp only [bxS, bxV, stOk, Nat.reduceBEq, Nat.reduceEqDiff, Nat.reduceAdd]; done) | (simp only [bxU]; omega) | ((try apply has_setN); apply has_ofL; simp only [bxL]; omega)) only [↓bxD, bxP, bxQ, bxQ2, Nat.reduceBEq, reduceCtorEq, Nat.reduceAdd, Nat.reduceSub, Nat.reduceMul, Nat.reduceLeDiff, Nat.reduceLT, bxR, hq0, h5]
  refine Wp_dreg_of (by omega) ?_
  by_cases he : e2 = 0
  · subst he
    simp (maxSteps := 4000000) (disch := first | omega | assumption | (simp only [bxS, bxV, stOk, Nat.reduceBEq, Nat.reduceEqDiff, Nat.reduceAdd]; done) | (simp only [bxU]; omega) | ((try apply has_setN); apply has_ofL; simp only [bxL]; omega)) only [↓bxD, bxP, bxQ, bxQ2, Nat.reduceBEq, reduceCtorEq, Nat.reduceAdd, Nat.reduceSub, Nat.reduceMul, Nat.reduceLeDiff, Nat.reduceLT, bxR, hq0, h5, g2, d2, nck_p, Nat.zero_add]
    refine bindP_call (is_any (q := 45) (by omega) hr2) ?_
    rintro m M3 ⟨⟨r, rfl, hr3⟩, x3⟩
    have n3 := x3.n
    have l3 := x3.lo
    have hrd3 := hr2.ext x3
    have g3 := hrd3.g
    have c30 : cget c2 0 = some (.s s) := hr2.at_ 0 _ rfl
    have c31 : cget c2 1 = some (.i .i64 (a2 : Int)) := hr2.at_ 1 _ rfl
    have h3 : ∀ f', X.ev f' (.t q0) = X.ev f (.t q0) → X.ev f' (.t q2) = X.ev f (.t q2) → X.ev f' (.t q3) = X.ev f (.t q3) → X.ev f' (.t q4) = X.ev f (.t q4) → ClSt M0 M3 rx s k a2 0 f' := fun f' e0 e2 e3 e4 => h.went (hc2.trans (.of x3)) ⟨c2, bad2, hrd3⟩ hk12 hk22 e0 e2 e3 e4
    have fin : ∀ f' b, X.ev f' (.t q0) = X.ev f (.t q0) → X.ev f' (.t q2) = X.ev f (.t q2) → X.ev f' (.t q3) = X.ev f (.t q3) → X.ev f' (.t q4) = X.ev f (.t q4) → X.ev f' (.t q6) = .i .u8 (lw : Int) → X.ev f' (.t q7) = .i .u8 (lw : Int) → X.ev f' (.t q84) = .b b → X.ev f' (.t q5) = .i .i64 (n : Int) → (b = true → a2 + 1 < s.size) → Wp fns (.seq K72_0 K72_5) f' M3 Q := fun f' b e0 e2 e3 e4 k6 k7 k84 k5 hb =>
      class_cond (h3 f' e0 e2 e3 e4) k6 k7 k84 hlw k5 hn (fun q => ⟨rfl, hb q⟩) Q fun f2 M2 a3 e3 h' hle he3 h5' => hQ f2 M2 a3 e3 h' (by omega) (fun q => by have := he2 rfl; omega) h5'
    cases r with
    | false =>
      simp (maxSteps := 4000000) (disch := first | omega | assumption | (simp only [bxS, bxV, stOk, Nat.reduceBEq, Nat.reduceEqDiff, Nat.reduceAdd]; done) | (simp only [bxU]; omega) | ((try apply has_setN); apply has_ofL; simp only [bxL]; omega)) only [↓bxD, bxP, bxQ, bxQ2, Nat.reduceBEq, reduceCtorEq, Nat.reduceAdd, Nat.reduceSub, Nat.reduceMul, Nat.reduceLeDiff, Nat.reduceLT, bxR, hq0, h5]
      exact fin _ false (by simp only [bxP, bxQ, bxQ2, reduceCtorEq, hq0, h5]) (by simp only [bxP, bxQ, bxQ2, reduceCtorEq, hq0, h5]) (by simp only [bxP, bxQ, bxQ2, reduceCtorEq, hq0, h5]) (by simp only [bxP, bxQ, bxQ2, reduceCtorEq, hq0, h5]) (by simp only [bxP, bxQ, bxQ2, reduceCtorEq, hq0, h5]) (by simp only [bxP, bxQ, bxQ2, reduceCtorEq, hq0, h5]) (by simp only [bxP, bxQ, bxQ2, reduceCtorEq, hq0, h5]) (by simp only [bxP, bxQ, bxQ2, reduceCtorEq, hq0, h5]) (fun q => by cases q)
    | true =>
      by_cases hlt : (a2 : Int) + 1 < (s.size : Int)
      · have d5 : decide ((a2 : Int) + 1 < (s.size : Int)) = true := decide_eq_true hlt
        have hk' : a2 + 1 < s.data.toList.length := by rw [Array.length_toList]; exact (by omega : a2 + 1 < s.size)
        have hix : puM .ixT (.s s) (.i .i64 ((a2 : Int) + 1)) = some (.i .u8 (s.data.toList[a2 + 1].toNat : Int)) := by
          show (match s.data.toList[a2 + 1]? with | some c => some (MV.i .u8 (.ofNat c.toNat)) | none => none) = _
          rw [List.getElem?_eq_getElem hk']
          rfl
        simp (maxSteps := 4000000) (disch := first | omega | assumption | (simp only [bxS, bxV, stOk, Nat.reduceBEq, Nat.reduceEqDiff, Nat.reduceAdd]; done) | (simp only [bxU]; omega) | ((try apply has_setN); apply has_ofL; simp only [bxL]; omega)) only [↓bxD, bxP, bxQ, bxQ2, Nat.reduceBEq, reduceCtorEq, Nat.reduceAdd, Nat.reduceSub, Nat.reduceMul, Nat.reduceLeDiff, Nat.reduceLT, bxR, hq0, h5, g3, c30, c31, d5, hix, ev_lenT, lenT_s, nck_p, Nat.zero_add]
        exact fin _ (decide ((s.data.toList[a2 + 1].toNat : Int) ≠ 93)) (by simp only [bxP, bxQ, bxQ2, reduceCtorEq, hq0, h5, g3, c30, c31, d5, hix, ev_lenT, lenT_s, nck_p, Nat.zero_add]) (by simp only [bxP, bxQ, bxQ2, reduceCtorEq, hq0, h5, g3, c30, c31, d5, hix, ev_lenT, lenT_s, nck_p, Nat.zero_add]) (by simp only [bxP, bxQ, bxQ2, reduceCtorEq, hq0, h5, g3, c30, c31, d5, hix, ev_lenT, lenT_s, nck_p, Nat.zero_add]) (by simp only [bxP, bxQ, bxQ2, reduceCtorEq, hq0, h5, g3, c30, c31, d5, hix, ev_lenT, lenT_s, nck_p, Nat.zero_add]) (by simp only [bxP, bxQ, bxQ2, reduceCtorEq, hq0, h5, g3, c30, c31, d5, hix, ev_lenT, lenT_s, nck_p, Nat.zero_add]) (by simp only [bxP, bxQ, bxQ2, reduceCtorEq, hq0, h5, g3, c30, c31, d5, hix, ev_lenT, lenT_s, nck_p, Nat.zero_add]) (by simp only [bxP, bxQ, bxQ2, reduceCtorEq, hq0, h5, g3, c30, c31, d5, hix, ev_lenT, lenT_s, nck_p, Nat.zero_add]) (by simp only [bxP, bxQ, bxQ2, reduceCtorEq, hq0, h5, g3, c30, c31, d5, hix, ev_lenT, lenT_s, nck_p, Nat.zero_add]) (fun _ => by omega)
      · have d5 : decide ((a2 : Int) + 1 < (s.size : Int)) = false := decide_eq_false hlt
        simp (maxSteps := 4000000) (disch := first | omega | assumption | (simp only [bxS, bxV, stOk, Nat.reduceBEq, Nat.reduceEqDiff, Nat.reduceAdd]; done) | (simp only [bxU]; omega) | ((try apply has_setN); apply has_ofL; simp only [bxL]; omega)) only [↓bxD, bxP, bxQ, bxQ2, Nat.reduceBEq, reduceCtorEq, Nat.reduceAdd, Nat.reduceSub, Nat.reduceMul, Nat.reduceLeDiff, Nat.reduceLT, bxR, hq0, h5, g3, c30, c31, d5, ev_lenT, lenT_s, nck_p, Nat.zero_add]
        exact fin _ false (by simp only [bxP, bxQ, bxQ2, reduceCtorEq, hq0, h5, g3, c30, c31, d5, ev_lenT, lenT_s, nck_p, Nat.zero_add]) (by simp only [bxP, bxQ, bxQ2, reduceCtorEq, hq0, h5, g3, c30, c31, d5, ev_lenT, lenT_s, nck_p, Nat.zero_add]) (by simp only [bxP, bxQ, bxQ2, reduceCtorEq, hq0, h5, g3, c30, c31, d5, ev_lenT, lenT_s, nck_p, Nat.zero_add]) (by simp only [bxP, bxQ, bxQ2, reduceCtorEq, hq0, h5, g3, c30, c31, d5, ev_lenT, lenT_s, nck_p, Nat.zero_add]) (by simp only [bxP, bxQ, bxQ2, reduceCtorEq, hq0, h5, g3, c30, c31, d5, ev_lenT, lenT_s, nck_p, Nat.zero_add]) (by simp only [bxP, bxQ, bxQ2, reduceCtorEq, hq0, h5, g3, c30, c31, d5, ev_lenT, lenT_s, nck_p, Nat.zero_add]) (by simp only [bxP, bxQ, bxQ2, reduceCtorEq, hq0, h5, g3, c30, c31, d5, ev_lenT, lenT_s, nck_p, Nat.zero_add]) (by simp only [bxP, bxQ, bxQ2, reduceCtorEq, hq0, h5, g3, c30, c31, d5, ev_lenT, lenT_s, nck_p, Nat.zero_add]) (fun q => by cases q)
  · have d0 : decide (e2 = 0) = false := decide_eq_false he
    simp (maxSteps := 4000000) (disch := first | omega | assumption | (simp only [bxS, bxV, stOk, Nat.reduceBEq, Nat.reduceEqDiff, Nat.reduceAdd]; done) | (simp only [bxU]; omega) | ((try apply has_setN); apply has_ofL; simp only [bxL]; omega)) only [↓bxD, bxP, bxQ, bxQ2, Nat.reduceBEq, reduceCtorEq, Nat.reduceAdd, Nat.reduceSub, Nat.reduceMul, Nat.reduceLeDiff, Nat.reduceLT, bxR, hq0, h5, g2, d2, d0, nck_p, Nat.zero_add]
    exact class_cond (b := false) (h.went hc2 ⟨c2, bad2, hr2⟩ hk12 hk22 (by simp only [bxP, bxQ, bxQ2, reduceCtorEq, hq0, h5, g2, d2, d0, nck_p, Nat.zero_add]) (by simp only [bxP, bxQ, bxQ2, reduceCtorEq, hq0, h5, g2, d2, d0, nck_p, Nat.zero_add]) (by simp only [bxP, bxQ, bxQ2, reduceCtorEq, hq0, h5, g2, d2, d0, nck_p, Nat.zero_add]) (by simp only [bxP, bxQ, bxQ2, reduceCtorEq, hq0, h5, g2, d2, d0, nck_p, Nat.zero_add])) (by simp only [bxP, bxQ, bxQ2, reduceCtorEq, hq0, h5, g2, d2, d0, nck_p, Nat.zero_add]) (by simp only [bxP, bxQ, bxQ2, reduceCtorEq, hq0, h5, g2, d2, d0, nck_p, Nat.zero_add]) (by simp only [bxP, bxQ, bxQ2, reduceCtorEq, hq0, h5, g2, d2, d0, nck_p, Nat.zero_add]) hlw (by simp only [bxP, bxQ, bxQ2, reduceCtorEq, hq0, h5, g2, d2, d0, nck_p, Nat.zero_add]) hn (fun q => by cases q) Q fun f2 M2 a3 e3 h' hle he3 h5' => hQ f2 M2 a3 e3 h' (by omega) (fun q => absurd (he3 q) he) h5'
theorem class_body {M0 M : MH} {rx : Nat} {s : ByteArray} {k at' n : Nat} {f : Fr} (h : ClSt M0 M rx s k at' 0 f) (h5 : X.ev f (.t q5) = .i .i64 (n : Int)) (hn : n ≤ 2000) (Q : Post) (hx : ∀ f' M' a2 e2, ClSt M0 M' rx s k a2 e2 f' → e2 ≠ 0 → Q (.exit 0) f' M')
    (hQ : ∀ f' M' a2 e2, ClSt M0 M' rx s k a2 e2 f' → at' ≤ a2 → (e2 = 0 → at' < a2) → X.ev f' (.t q5) = .i .i64 ((n + 1 : Nat) : Int) → Q .norm f' M') : Wp fns K72_7 f M Q := by
  obtain ⟨c, bad, hr⟩ := h.rd
  have hq0 := h.f0
  have hnn := h.n
  have hcl := h.ch.lo
  have hcn := h.ch.n
  have hlo := h.lo
  have hrx := h.rx0
  have hk2 := h.k2
  have hsz := h.sz
  have c1 : cget c 1 = some (.i .i64 (at' : Int)) := hr.at_ 1 _ rfl
  simp only [q0, q5] at hq0 h5
  unfold K72_7
  simp (maxSteps := 4000000) (disch := first | omega | assumption | (simp only [bxS, bxV, stOk, Nat.reduceBEq, Nat.reduceEqDiff, Nat.reduceAdd]; done) | (simp only [bxU]; omega) | ((try apply has_setN); apply has_ofL; simp only [bxL]; omega)) only [↓bxD, bxP, bxQ, bxQ2, Nat.reduceBEq, reduceCtorEq, Nat.reduceAdd, Nat.reduceSub, Nat.reduceMul, Nat.reduceLeDiff, Nat.reduceLT, bxR, hq0, h5]
  refine bindP_call (is_any (q := 93) (by omega) hr) ?_
  rintro m M2 ⟨⟨r, rfl, hr2⟩, x2⟩
  have n2 := x2.n
  have l2 := x2.lo
  have hrd2 := hr.ext x2
  have g2 := hrd2.g
  cases r with
  | true =>
    simp (maxSteps := 4000000) (disch := first | omega | assumption | (simp only [bxS, bxV, stOk, Nat.reduceBEq, Nat.reduceEqDiff, Nat.reduceAdd]; done) | (simp only [bxU]; omega) | ((try apply has_setN); apply has_ofL; simp only [bxL]; omega)) only [↓bxD, bxP, bxQ, bxQ2, Nat.reduceBEq, reduceCtorEq, Nat.reduceAdd, Nat.reduceSub, Nat.reduceMul, Nat.reduceLeDiff, Nat.reduceLT, bxR, hq0, h5, g2, c1, nck_p, Nat.zero_add]
    refine bindP_call (fail_any (z := 2) (by omega) hrd2) ?_
    rintro m M3 ⟨⟨c3, bad3, h3⟩, hc3⟩
    simp (maxSteps := 4000000) (disch := first | omega | assumption | (simp only [bxS, bxV, stOk, Nat.reduceBEq, Nat.reduceEqDiff, Nat.reduceAdd]; done) | (simp only [bxU]; omega) | ((try apply has_setN); apply has_ofL; simp only [bxL]; omega)) only [↓bxD, bxP, bxQ, bxQ2, Nat.reduceBEq, reduceCtorEq, Nat.reduceAdd, Nat.reduceSub, Nat.reduceMul, Nat.reduceLeDiff, Nat.reduceLT, bxR, hq0, h5, g2, c1, nck_p, Nat.zero_add]
    exact hx _ _ at' _ (h.went ((Chg.of x2).trans hc3) ⟨c3, bad3, h3⟩ (Nat.le_refl _) hk2 (by simp only [bxP, bxQ, bxQ2, reduceCtorEq, hq0, h5, g2, c1, nck_p, Nat.zero_add]) (by simp only [bxP, bxQ, bxQ2, reduceCtorEq, hq0, h5, g2, c1, nck_p, Nat.zero_add]) (by simp only [bxP, bxQ, bxQ2, reduceCtorEq, hq0, h5, g2, c1, nck_p, Nat.zero_add]) (by simp only [bxP, bxQ, bxQ2, reduceCtorEq, hq0, h5, g2, c1, nck_p, Nat.zero_add])) (by simp)
  | false =>
    simp (maxSteps := 4000000) (disch := first | omega | assumption | (simp only [bxS, bxV, stOk, Nat.reduceBEq, Nat.reduceEqDiff, Nat.reduceAdd]; done) | (simp only [bxU]; omega) | ((try apply has_setN); apply has_ofL; simp only [bxL]; omega)) only [↓bxD, bxP, bxQ, bxQ2, Nat.reduceBEq, reduceCtorEq, Nat.reduceAdd, Nat.reduceSub, Nat.reduceMul, Nat.reduceLeDiff, Nat.reduceLT, bxR, hq0, h5, g2, c1, nck_p, Nat.zero_add]
    refine bindP_call (over_any (by omega) hrd2) ?_
    rintro m M3 ⟨rfl, x3⟩
    have n3 := x3.n
    have l3 := x3.lo
    have hrd3 := hrd2.ext x3
    have g3 := hrd3.g
    by_cases ho : s.size ≤ at'
    · have d1 : decide (s.size ≤ at') = true := decide_eq_true ho
      simp (maxSteps := 4000000) (disch := first | omega | assumption | (simp only [bxS, bxV, stOk, Nat.reduceBEq, Nat.reduceEqDiff, Nat.reduceAdd]; done) | (simp only [bxU]; omega) | ((try apply has_setN); apply has_ofL; simp only [bxL]; omega)) only [↓bxD, bxP, bxQ, bxQ2, Nat.reduceBEq, reduceCtorEq, Nat.reduceAdd, Nat.reduceSub, Nat.reduceMul, Nat.reduceLeDiff, Nat.reduceLT, bxR, hq0, h5, g3, c1, d1, nck_p, Nat.zero_add]
      refine bindP_call (fail_any (z := 2) (by omega) hrd3) ?_
      rintro m M4 ⟨⟨c4, bad4, h4⟩, hc4⟩
      simp (maxSteps := 4000000) (disch := first | omega | assumption | (simp only [bxS, bxV, stOk, Nat.reduceBEq, Nat.reduceEqDiff, Nat.reduceAdd]; done) | (simp only [bxU]; omega) | ((try apply has_setN); apply has_ofL; simp only [bxL]; omega)) only [↓bxD, bxP, bxQ, bxQ2, Nat.reduceBEq, reduceCtorEq, Nat.reduceAdd, Nat.reduceSub, Nat.reduceMul, Nat.reduceLeDiff, Nat.reduceLT, bxR, hq0, h5, g3, c1, d1, nck_p, Nat.zero_add]
      exact hx _ _ at' _ (h.went (((Chg.of x2).trans (.of x3)).trans hc4) ⟨c4, bad4, h4⟩ (Nat.le_refl _) hk2 (by simp only [bxP, bxQ, bxQ2, reduceCtorEq, hq0, h5, g3, c1, d1, nck_p, Nat.zero_add]) (by simp only [bxP, bxQ, bxQ2, reduceCtorEq, hq0, h5, g3, c1, d1, nck_p, Nat.zero_add]) (by simp only [bxP, bxQ, bxQ2, reduceCtorEq, hq0, h5, g3, c1, d1, nck_p, Nat.zero_add]) (by simp only [bxP, bxQ, bxQ2, reduceCtorEq, hq0, h5, g3, c1, d1, nck_p, Nat.zero_add])) (by simp)
    · have d1 : decide (s.size ≤ at') = false := decide_eq_false ho
      simp (maxSteps := 4000000) (disch := first | omega | assumption | (simp only [bxS, bxV, stOk, Nat.reduceBEq, Nat.reduceEqDiff, Nat.reduceAdd]; done) | (simp only [bxU]; omega) | ((try apply has_setN); apply has_ofL; simp only [bxL]; omega)) only [↓bxD, bxP, bxQ, bxQ2, Nat.reduceBEq, reduceCtorEq, Nat.reduceAdd, Nat.reduceSub, Nat.reduceMul, Nat.reduceLeDiff, Nat.reduceLT, bxR, hq0, h5, d1]
      show Wp fns K72_6 _ _ _
      refine class_dash (h.went ((Chg.of x2).trans (.of x3)) ⟨c, bad, hrd3⟩ (Nat.le_refl _) hk2 (by simp only [bxP, bxQ, bxQ2, reduceCtorEq, hq0, h5, d1]) (by simp only [bxP, bxQ, bxQ2, reduceCtorEq, hq0, h5, d1]) (by simp only [bxP, bxQ, bxQ2, reduceCtorEq, hq0, h5, d1]) (by simp only [bxP, bxQ, bxQ2, reduceCtorEq, hq0, h5, d1])) (by simp only [bxP, bxQ, bxQ2, reduceCtorEq, hq0, h5, d1]) hn _ fun f' M' a2 e2 h' h1 h2 h5' => ?_
      exact hQ f' M' a2 e2 h' h1 h2 h5'
theorem class_loop {M0 M : MH} {rx : Nat} {s : ByteArray} {k at' : Nat} {f : Fr} (h : ClSt M0 M rx s k at' 0 f) : Wp fns K72_14 f M (retQ F72 (ClPost s rx k M0)) := by
  unfold K72_14
  simp (maxSteps := 4000000) (disch := first | omega | assumption | (simp only [bxS, bxV, stOk, Nat.reduceBEq, Nat.reduceEqDiff, Nat.reduceAdd]; done) | (simp only [bxU]; omega) | ((try apply has_setN); apply has_ofL; simp only [bxL]; omega)) only [↓bxD, bxP, bxQ, bxQ2, Nat.reduceBEq, reduceCtorEq, Nat.reduceAdd, Nat.reduceSub, Nat.reduceMul, Nat.reduceLeDiff, Nat.reduceLT, bxR]
  refine Wp_inv (σ := Nat × Int × Nat) (fun p f' M' => ClSt M0 M' rx s k p.1 p.2.1 f' ∧ p.2.2 ≤ p.1 + 1 ∧ (p.2.1 = 0 → p.2.2 ≤ p.1) ∧ X.ev f' (.t q5) = .i .i64 (p.2.2 : Int)) (fun p => if p.2.1 = 0 then s.size + 1 - p.1 else 0) ?_ (at', 0, 0) ?_
  · rintro ⟨a1, e1, n⟩ f1 M1 ⟨h, hn1, hn2, h5⟩
    simp only at h hn1 hn2 h5
    obtain ⟨c, bad, hr⟩ := h.rd
    have hq0 := h.f0
    have hn := h.n
    have hcl := h.ch.lo
    have hcn := h.ch.n
    have hlo := h.lo
    have hrx := h.rx0
    have hk2 := h.k2
    have hsz := h.sz
    have g := hr.g
    have c2 : cget c 2 = some (.i .i64 e1) := hr.at_ 2 _ rfl
    simp only [q0, q5] at hq0 h5
    unfold L72_8
    by_cases he : e1 = 0
    · subst he
      have hn2 := hn2 rfl
      have bodyQ : ∀ f2 M2, ClSt M0 M2 rx s k a1 0 f2 → X.ev f2 (.t q5) = .i .i64 (n : Int) → Wp fns K72_7 f2 M2 fun ex f' M' => match ex with
          | .norm => ∃ s' : Nat × Int × Nat, (if s'.2.1 = 0 then s.size + 1 - s'.1 else 0) < s.size + 1 - a1 ∧ ClSt M0 M' rx s k s'.1 s'.2.1 f' ∧ s'.2.2 ≤ s'.1 + 1 ∧ (s'.2.1 = 0 → s'.2.2 ≤ s'.1) ∧ X.ev f' (.t q5) = .i .i64 (s'.2.2 : Int)
          | ex => blockQ 0 (thenQ fns K72_13 (retQ F72 (ClPost s rx k M0))) ex f' M' := fun f2 M2 h2 h52 => by
        refine class_body h2 h52 (by omega) _ (fun f' M' a2 e2 h' he => ?_) fun f' M' a2 e2 h' hle hlt h5' => ?_
        · show Wp fns K72_13 _ _ _
          exact class_end h' (fun q => absurd q he)
        · refine ⟨(a2, e2, n + 1), ?_, h', by simp only; omega, fun q => by have := hlt q; simp only; omega, h5'⟩
          have hk2' := h'.k2
          simp only
          split
          · rename_i q; have := hlt q; omega
          · omega
      simp (maxSteps := 4000000) (disch := first | omega | assumption | (simp only [bxS, bxV, stOk, Nat.reduceBEq, Nat.reduceEqDiff, Nat.reduceAdd]; done) | (simp only [bxU]; omega) | ((try apply has_setN); apply has_ofL; simp only [bxL]; omega)) only [↓bxD, bxP, bxQ, bxQ2, Nat.reduceBEq, reduceCtorEq, Nat.reduceAdd, Nat.reduceSub, Nat.reduceMul, Nat.reduceLeDiff, Nat.reduceLT, bxR, hq0, h5, g, c2, nck_p, Nat.zero_add]
      refine bindP_call (is_any (q := 93) (by omega) hr) ?_
      rintro m M2 ⟨⟨r, rfl, hr2⟩, x2⟩
      have n2 := x2.n
      have l2 := x2.lo
      have hrd2 := hr.ext x2
      cases r with
      | true =>
        by_cases hn0 : 0 < n
        · have d1 : decide ((0 : Int) < (n : Int)) = true := decide_eq_true (by omega)
          simp (maxSteps := 4000000) (disch := first | omega | assumption | (simp only [bxS, bxV, stOk, Nat.reduceBEq, Nat.reduceEqDiff, Nat.reduceAdd]; done) | (simp only [bxU]; omega) | ((try apply has_setN); apply has_ofL; simp only [bxL]; omega)) only [↓bxD, bxP, bxQ, bxQ2, Nat.reduceBEq, reduceCtorEq, Nat.reduceAdd, Nat.reduceSub, Nat.reduceMul, Nat.reduceLeDiff, Nat.reduceLT, bxR, hq0, h5, d1]
          show Wp fns K72_13 _ _ _
          exact class_end (h.went (.of x2) ⟨c, bad, hrd2⟩ (Nat.le_refl _) h.k2 (by simp only [bxP, bxQ, bxQ2, reduceCtorEq, hq0, h5, d1]) (by simp only [bxP, bxQ, bxQ2, reduceCtorEq, hq0, h5, d1]) (by simp only [bxP, bxQ, bxQ2, reduceCtorEq, hq0, h5, d1]) (by simp only [bxP, bxQ, bxQ2, reduceCtorEq, hq0, h5, d1])) (fun _ => hr2 rfl)
        · have d1 : decide ((0 : Int) < (n : Int)) = false := decide_eq_false (by omega)
          simp (maxSteps := 4000000) (disch := first | omega | assumption | (simp only [bxS, bxV, stOk, Nat.reduceBEq, Nat.reduceEqDiff, Nat.reduceAdd]; done) | (simp only [bxU]; omega) | ((try apply has_setN); apply has_ofL; simp only [bxL]; omega)) only [↓bxD, bxP, bxQ, bxQ2, Nat.reduceBEq, reduceCtorEq, Nat.reduceAdd, Nat.reduceSub, Nat.reduceMul, Nat.reduceLeDiff, Nat.reduceLT, bxR, hq0, h5, d1]
          show Wp fns K72_7 _ _ _
          exact bodyQ _ _ (h.went (.of x2) ⟨c, bad, hrd2⟩ (Nat.le_refl _) h.k2 (by simp only [bxP, bxQ, bxQ2, reduceCtorEq, hq0, h5, d1]) (by simp only [bxP, bxQ, bxQ2, reduceCtorEq, hq0, h5, d1]) (by simp only [bxP, bxQ, bxQ2, reduceCtorEq, hq0, h5, d1]) (by simp only [bxP, bxQ, bxQ2, reduceCtorEq, hq0, h5, d1])) (by simp only [bxP, bxQ, bxQ2, reduceCtorEq, hq0, h5, d1])
      | false =>
        simp (maxSteps := 4000000) (disch := first | omega | assumption | (simp only [bxS, bxV, stOk, Nat.reduceBEq, Nat.reduceEqDiff, Nat.reduceAdd]; done) | (simp only [bxU]; omega) | ((try apply has_setN); apply has_ofL; simp only [bxL]; omega)) only [↓bxD, bxP, bxQ, bxQ2, Nat.reduceBEq, reduceCtorEq, Nat.reduceAdd, Nat.reduceSub, Nat.reduceMul, Nat.reduceLeDiff, Nat.reduceLT, bxR, hq0, h5]
        show Wp fns K72_7 _ _ _
        exact bodyQ _ _ (h.went (.of x2) ⟨c, bad, hrd2⟩ (Nat.le_refl _) h.k2 (by simp only [bxP, bxQ, bxQ2, reduceCtorEq, hq0, h5]) (by simp only [bxP, bxQ, bxQ2, reduceCtorEq, hq0, h5]) (by simp only [bxP, bxQ, bxQ2, reduceCtorEq, hq0, h5]) (by simp only [bxP, bxQ, bxQ2, reduceCtorEq, hq0, h5])) (by simp only [bxP, bxQ, bxQ2, reduceCtorEq, hq0, h5])
    · have d0 : decide (e1 = 0) = false := decide_eq_false he
      simp (maxSteps := 4000000) (disch := first | omega | assumption | (simp only [bxS, bxV, stOk, Nat.reduceBEq, Nat.reduceEqDiff, Nat.reduceAdd]; done) | (simp only [bxU]; omega) | ((try apply has_setN); apply has_ofL; simp only [bxL]; omega)) only [↓bxD, bxP, bxQ, bxQ2, Nat.reduceBEq, reduceCtorEq, Nat.reduceAdd, Nat.reduceSub, Nat.reduceMul, Nat.reduceLeDiff, Nat.reduceLT, bxR, hq0, h5, g, c2, d0, nck_p, Nat.zero_add]
      show Wp fns K72_13 _ _ _
      exact class_end (h.went (.refl _ _) h.rd (Nat.le_refl _) h.k2 (by simp only [bxP, bxQ, bxQ2, reduceCtorEq, hq0, h5, g, c2, d0, nck_p, Nat.zero_add]) (by simp only [bxP, bxQ, bxQ2, reduceCtorEq, hq0, h5, g, c2, d0, nck_p, Nat.zero_add]) (by simp only [bxP, bxQ, bxQ2, reduceCtorEq, hq0, h5, g, c2, d0, nck_p, Nat.zero_add]) (by simp only [bxP, bxQ, bxQ2, reduceCtorEq, hq0, h5, g, c2, d0, nck_p, Nat.zero_add])) (fun q => absurd q he)
  · exact ⟨h.went (.refl _ _) h.rd (Nat.le_refl _) h.k2 (by simp only [bxP, bxQ, bxQ2, reduceCtorEq]) (by simp only [bxP, bxQ, bxQ2, reduceCtorEq]) (by simp only [bxP, bxQ, bxQ2, reduceCtorEq]) (by simp only [bxP, bxQ, bxQ2, reduceCtorEq]), Nat.zero_le _, fun _ => Nat.zero_le _, by simp only [bxP, bxQ, bxQ2, reduceCtorEq] <;> rfl⟩
theorem class_any {M : MH} {rx : Nat} {s : ByteArray} {k : Nat} {c : Ev.T MV} {bad : Int} (hs : s.size ≤ 1000) (hlo : M.lo ≤ rx) (hk : k ≤ s.size) (hr : RdAt M rx s k 0 c bad) : Cp fns 72 [.p rx 0] M (ClPost s rx k M) := by
  have hlt := hr.lt
  refine Cp_call (fn := F72) (by kernel_rfl) (Nat.le_of_ble_eq_true rfl) ?_
  show Wp fns B72 (T.set q0 (some (.p rx 0)) T.lf) M _
  unfold B72
  simp (maxSteps := 4000000) (disch := first | omega | assumption | (simp only [bxS, bxV, stOk, Nat.reduceBEq, Nat.reduceEqDiff, Nat.reduceAdd]; done) | (simp only [bxU]; omega) | ((try apply has_setN); apply has_ofL; simp only [bxL]; omega)) only [↓bxD, bxP, bxQ, bxQ2, Nat.reduceBEq, reduceCtorEq, Nat.reduceAdd, Nat.reduceSub, Nat.reduceMul, Nat.reduceLeDiff, Nat.reduceLT, bxR]
  generalize hM1 : (M.push _).push _ = M1
  obtain ⟨x1, n1, g2, g3⟩ := push2 hM1
  have l1 := x1.lo
  clear hM1
  have hr1 := hr.ext x1
  refine bindP_call (is_any (q := 94) (by omega) hr1) ?_
  rintro m M2 ⟨⟨r, rfl, hr2⟩, x2⟩
  have n2 := x2.n
  have l2 := x2.lo
  have hrd2 := hr1.ext x2
  have g := hrd2.g
  have c1 : cget c 1 = some (.i .i64 (k : Int)) := hr.at_ 1 _ rfl
  have st : ∀ f' M' k' c', X.ev f' (.t q0) = .p rx 0 → X.ev f' (.t q2) = .p M.n 0 → X.ev f' (.t q3) = .p (M.n + 1) 0 → X.ev f' (.t q4) = .b r → Chg (fun j => j = rx) M2 M' → RdAt M' rx s k' 0 c' bad → k ≤ k' → k' ≤ s.size → ClSt M M' rx s k k' 0 f' := fun f' M' k' c' e0 e2 e3 e4 hc h' h1 h2 =>
    ⟨⟨c', bad, h'⟩, ((Chg.of x1).trans (.of x2)).trans hc, hlt, hlo, by have := hc.n; omega, (hc.old _ (by omega) (by omega)).trans ((x2.old _ (by omega)).trans g2), ⟨_, 0, 0, 0, 0, (hc.old _ (by omega) (by omega)).trans ((x2.old _ (by omega)).trans g3), at_ofL _⟩, h1, h2, hs, e0, e2, e3, ⟨r, e4⟩⟩
  cases r with
  | true =>
    have hlt' := hr2 rfl
    have hb1 : hasB c 1 1 = true := has_at hr.at_ (Nat.zero_le _) (by show 1 + 1 ≤ 0 + 4; omega)
    have hon := hrd2.on (k + 1)
    have hcast : ((k + 1 : Nat) : Int) = (k : Int) + 1 := by omega
    rw [hcast] at hon
    simp (maxSteps := 4000000) (disch := first | omega | assumption | (simp only [bxS, bxV, stOk, Nat.reduceBEq, Nat.reduceEqDiff, Nat.reduceAdd]; done) | (simp only [bxU]; omega) | ((try apply has_setN); apply has_ofL; simp only [bxL]; omega)) only [↓bxD, bxP, bxQ, bxQ2, Nat.reduceBEq, reduceCtorEq, Nat.reduceAdd, Nat.reduceSub, Nat.reduceMul, Nat.reduceLeDiff, Nat.reduceLT, bxR, g, c1, hb1, nck_p, Nat.zero_add, cells_i]
    show Wp fns K72_14 _ _ _
    exact class_loop (st _ _ (k + 1) _ (by simp only [bxP, bxQ, bxQ2, reduceCtorEq, g, c1, hb1, nck_p, Nat.zero_add, cells_i]) (by simp only [bxP, bxQ, bxQ2, reduceCtorEq, g, c1, hb1, nck_p, Nat.zero_add, cells_i]) (by simp only [bxP, bxQ, bxQ2, reduceCtorEq, g, c1, hb1, nck_p, Nat.zero_add, cells_i]) (by simp only [bxP, bxQ, bxQ2, reduceCtorEq, g, c1, hb1, nck_p, Nat.zero_add, cells_i]) ((Chg.refl _ M2).set _ (.inl rfl)) hon (by omega) (by omega)) |> fun w => w
  | false =>
    simp (maxSteps := 4000000) (disch := first | omega | assumption | (simp only [bxS, bxV, stOk, Nat.reduceBEq, Nat.reduceEqDiff, Nat.reduceAdd]; done) | (simp only [bxU]; omega) | ((try apply has_setN); apply has_ofL; simp only [bxL]; omega)) only [↓bxD, bxP, bxQ, bxQ2, Nat.reduceBEq, reduceCtorEq, Nat.reduceAdd, Nat.reduceSub, Nat.reduceMul, Nat.reduceLeDiff, Nat.reduceLT, bxR]
    show Wp fns K72_14 _ _ _
    exact class_loop (st _ _ k c (by simp only [bxP, bxQ, bxQ2, reduceCtorEq]) (by simp only [bxP, bxQ, bxQ2, reduceCtorEq]) (by simp only [bxP, bxQ, bxQ2, reduceCtorEq]) (by simp only [bxP, bxQ, bxQ2, reduceCtorEq]) (.refl _ _) hrd2 (Nat.le_refl _) hk)
def PPost (s : ByteArray) (rx d q k : Nat) (M : MH) (m : MV) (M' : MH) : Prop :=
  ∃ (e : Int) (k' : Nat) (es : List MV), m = .ag es ∧ ReC es ∧ (∃ c bad, RdAt M' rx s k' e c bad) ∧ Chg (fun j => j = rx) M M' ∧ k' + d ≤ s.size + 23 ∧
    (e = 0 → k + q ≤ k' ∧ k' ≤ s.size ∧ ∃ x, XIn (fun j => M.n ≤ j) M' es x ∧ Wk x ∧ wei x + 4 * q ≤ 4 * (k' - k) + 2)
def leafC (a b c d : Int) : List MV := [.i .i64 1, .i .u64 a, .i .u64 b, .i .u64 c, .i .u64 d, .nils]
theorem leaf_rec (a b c d : Int) : ReC (leafC a b c d) := ⟨1, a, b, c, d, .nils, rfl, rfl⟩
theorem leaf_in (S : Nat → Prop) (M : MH) (a b c d : Int) : XIn S M (leafC a b c d) (.mk 1 a b c d []) ∧ Wk (.mk 1 a b c d []) ∧ wei (.mk 1 a b c d []) = 2 := by
  refine ⟨⟨.nils, rfl, rfl, rfl, by unfold BlksIn; trivial⟩, ?_, by simp [wei, weiL]⟩
  rw [Wk, WkL]
  exact ⟨fun h => by omega, trivial⟩
theorem none_rec : ReC z6 := ⟨0, 0, 0, 0, 0, .nils, rfl, rfl⟩
def AltIH (d : Nat) : Prop := ∀ (M : MH) (rx : Nat) (s : ByteArray) (k : Nat) (c : Ev.T MV) (bad : Int), s.size ≤ 1000 → M.lo ≤ rx → k ≤ s.size → RdAt M rx s k 0 c bad → Cp fns 19 [.p rx 0, .i .i64 (d : Int)] M (PPost s rx d 0 k M)
theorem atom_fin {M M' : MH} {rx k d q : Nat} {s : ByteArray} {es : List MV} {e : Int} {k' : Nat} {t : Ev.T MV} (hes : ReC es) (hr : ∃ c bad, RdAt M' rx s k' e c bad) (hrx : rx < M.n) (hc : Chg (fun j => j = rx) M M') (hk : k' + d ≤ s.size + 23)
    (hok : e = 0 → k + q ≤ k' ∧ k' ≤ s.size ∧ ∃ x, XIn (fun j => M.n < j) M' es x ∧ Wk x ∧ wei x + 4 * q ≤ 4 * (k' - k) + 2) : PPost s rx d q k M (.ag es) (M'.set M.n (some (.cs false 6 t))) := by
  obtain ⟨c, bad, hr⟩ := hr
  refine ⟨e, k', es, rfl, hes, ⟨c, bad, hr.put (by omega)⟩, hc.set _ (.inr (Nat.le_refl _)), hk, fun q => ?_⟩
  obtain ⟨h1, h2, x, h3, h5, h6⟩ := hok q
  exact ⟨h1, h2, x, XIn.more (S := fun j => M.n < j) (S' := fun j => M.n ≤ j) (M := M') (M' := M'.set M.n (some (.cs false 6 t))) (Nat.le_refl _) (fun j hj _ => ⟨Nat.le_of_lt hj, set_ne (by omega)⟩) h3, h5, h6⟩
theorem re_st {M' : MH} {id : Nat} {es : List MV} (hes : ReC es) (hlo : M'.lo ≤ id) : stW M' 6 id 0 (.ag es) (some (.cs false 6 (ofL z6 0))) = some (.u, M'.set id (some (.cs false 6 (setN es 0 (ofL z6 0))))) := by
  have hcl : MV.cells (.ag es) = es := by obtain ⟨_, _, _, _, _, _, rfl, _⟩ := hes; rfl
  have := stW_ok (n := 6) (id := id) (off := 0) (sz := 6) (M := M') (y := .ag es) hlo hes.stok (has_ofL z6 6 0 (by decide))
  rwa [hcl] at this
theorem re_get {es : List MV} (hes : ReC es) (t : Ev.T MV) : getN (setN es 0 t) 6 0 = some es := by
  have := getN_setN es 0 t
  rwa [hes.len] at this
theorem atom_any {d : Nat} (hd : d ≤ 20) (ih : d < 20 → AltIH (d + 1)) {M : MH} {rx : Nat} {s : ByteArray} {k : Nat} {c : Ev.T MV} {bad : Int} (hs : s.size ≤ 1000) (hlo : M.lo ≤ rx) (hk : k < s.size) (hr : RdAt M rx s k 0 c bad) : Cp fns 69 [.p rx 0, .i .i64 (d : Int)] M (PPost s rx d 1 k M) := by
  have hlt := hr.lt
  refine Cp_call (fn := F69) (by kernel_rfl) (Nat.le_of_ble_eq_true rfl) ?_
  show Wp fns B69 (T.set q1 (some (.i .i64 (d : Int))) (T.set q0 (some (.p rx 0)) T.lf)) M _
  unfold B69
  simp (maxSteps := 4000000) (disch := first | omega | assumption | (simp only [bxS, bxV, stOk, Nat.reduceBEq, Nat.reduceEqDiff, Nat.reduceAdd]; done) | (simp only [bxU]; omega) | ((try apply has_setN); apply has_ofL; simp only [bxL]; omega)) only [↓bxD, bxP, bxQ, bxQ2, Nat.reduceBEq, reduceCtorEq, Nat.reduceAdd, Nat.reduceSub, Nat.reduceMul, Nat.reduceLeDiff, Nat.reduceLT, bxR]
  generalize hM1 : M.push _ = M1
  have g4 : M1.get M.n = some (.cs false 6 (ofL z6 0)) := by rw [← hM1]; exact push_new _
  have x1 : Ext M M1 := by rw [← hM1]; exact .push M _
  have n1 : M1.n = M.n + 1 := by rw [← hM1]; rfl
  have l1 := x1.lo
  clear hM1
  have hr1 := hr.ext x1
  have g := hr1.g
  have g0 := hr.g
  have c0 : cget c 0 = some (.s s) := hr.at_ 0 _ rfl
  have c1 : cget c 1 = some (.i .i64 (k : Int)) := hr.at_ 1 _ rfl
  have hb1 : hasB c 1 1 = true := has_at hr.at_ (Nat.zero_le _) (by show 1 + 1 ≤ 0 + 4; omega)
  have hk' : k < s.data.toList.length := by rw [Array.length_toList]; exact hk
  have hix : puM .ixT (.s s) (.i .i64 (k : Int)) = some (.i .u8 (s.data.toList[k].toNat : Int)) := by
    show (match s.data.toList[k]? with | some c => some (MV.i .u8 (.ofNat c.toNat)) | none => none) = _
    rw [List.getElem?_eq_getElem hk']
    rfl
  have hq256 : s.data.toList[k].toNat < 256 := s.data.toList[k].toNat_lt
  generalize s.data.toList[k].toNat = q at hix hq256
  have hon := hr1.on (k + 1)
  have hcast : ((k + 1 : Nat) : Int) = (k : Int) + 1 := by omega
  rw [hcast] at hon
  have hch1 : Chg (fun j => j = rx) M (M1.set rx (some (.cs false 4 (setN [MV.i .i64 ((k : Int) + 1)] 1 c)))) := (Chg.of x1).set _ (.inl rfl)
  have hg4 : (M1.set rx (some (.cs false 4 (setN [MV.i .i64 ((k : Int) + 1)] 1 c)))).get M.n = _ := (set_ne (by omega)).trans g4
  simp (maxSteps := 4000000) (disch := first | omega | assumption | (simp only [bxS, bxV, stOk, Nat.reduceBEq, Nat.reduceEqDiff, Nat.reduceAdd]; done) | (simp only [bxU]; omega) | ((try apply has_setN); apply has_ofL; simp only [bxL]; omega)) only [↓bxD, bxP, bxQ, bxQ2, Nat.reduceBEq, reduceCtorEq, Nat.reduceAdd, Nat.reduceSub, Nat.reduceMul, Nat.reduceLeDiff, Nat.reduceLT, bxR, g, g0, c0, c1, hb1, hix, nck_p, Nat.zero_add, cells_i]
  by_cases q40 : (q : Int) = 40
  · have e40 : decide ((q : Int) = 40) = true := decide_eq_true q40
    by_cases h20 : 20 ≤ d
    · have e20 : decide ((20 : Int) ≤ (d : Int)) = true := decide_eq_true (by omega)
      simp (maxSteps := 4000000) (disch := first | omega | assumption | (simp only [bxS, bxV, stOk, Nat.reduceBEq, Nat.reduceEqDiff, Nat.reduceAdd]; done) | (simp only [bxU]; omega) | ((try apply has_setN); apply has_ofL; simp only [bxL]; omega)) only [↓bxD, bxP, bxQ, bxQ2, Nat.reduceBEq, reduceCtorEq, Nat.reduceAdd, Nat.reduceSub, Nat.reduceMul, Nat.reduceLeDiff, Nat.reduceLT, bxR, g, g0, c0, c1, hb1, hix, e40, e20, nck_p, Nat.zero_add, cells_i]
      refine bindP_call (fail_any (z := 4) (by omega) hr1) ?_
      rintro m M4 ⟨⟨c4, bad4, h4⟩, hc4⟩
      have n4 := hc4.n
      have l4 := hc4.lo
      have g44 := (hc4.old _ (by omega) (by omega)).trans g4
      have hes := none_rec
      have hS : stW M4 6 M.n 0 (.ag z6) _ = _ := re_st (M' := M4) (id := M.n) hes (by omega)
      have hg6 : ∀ t, getN (setN z6 0 t) 6 0 = some z6 := fun t => re_get hes t
      have ff : fillM [] z6 = some z6 := rfl
      unfold z6 at hS hg6 ff g44
      simp (maxSteps := 4000000) (disch := first | omega | assumption | (simp only [bxS, bxV, stOk, Nat.reduceBEq, Nat.reduceEqDiff, Nat.reduceAdd]; done) | (simp only [bxU]; omega) | ((try apply has_setN); apply has_ofL; simp only [bxL]; omega)) only [↓bxD, bxP, bxQ, bxQ2, Nat.reduceBEq, reduceCtorEq, Nat.reduceAdd, Nat.reduceSub, Nat.reduceMul, Nat.reduceLeDiff, Nat.reduceLT, bxR, g44, ff, hS, set_same, res_cN, cNV_p, cNo_cs, get_set, hg6, map_ag]
      refine atom_fin hes ⟨c4, bad4, h4⟩ hlt ((Chg.of x1).trans hc4) (by omega) fun q => by simp at q
    · have e20 : decide ((20 : Int) ≤ (d : Int)) = false := decide_eq_false (by omega)
      have hdc : (d : Int) + 1 = ((d + 1 : Nat) : Int) := by omega
      simp (maxSteps := 4000000) (disch := first | omega | assumption | (simp only [bxS, bxV, stOk, Nat.reduceBEq, Nat.reduceEqDiff, Nat.reduceAdd]; done) | (simp only [bxU]; omega) | ((try apply has_setN); apply has_ofL; simp only [bxL]; omega)) only [↓bxD, bxP, bxQ, bxQ2, Nat.reduceBEq, reduceCtorEq, Nat.reduceAdd, Nat.reduceSub, Nat.reduceMul, Nat.reduceLeDiff, Nat.reduceLT, bxR, g, g0, c0, c1, hb1, hix, e40, e20, hdc, nck_p, Nat.zero_add, cells_i]
      show Wp fns K69_1 _ _ _
      unfold K69_1
      simp (maxSteps := 4000000) (disch := first | omega | assumption | (simp only [bxS, bxV, stOk, Nat.reduceBEq, Nat.reduceEqDiff, Nat.reduceAdd]; done) | (simp only [bxU]; omega) | ((try apply has_setN); apply has_ofL; simp only [bxL]; omega)) only [↓bxD, bxP, bxQ, bxQ2, Nat.reduceBEq, reduceCtorEq, Nat.reduceAdd, Nat.reduceSub, Nat.reduceMul, Nat.reduceLeDiff, Nat.reduceLT, bxR, g, g0, c0, c1, hb1, hix, e40, e20, hdc, nck_p, Nat.zero_add, cells_i]
      generalize setN [MV.i .i64 ((k : Int) + 1)] 1 c = c2 at hon hch1 hg4 ⊢
      generalize hM2 : M1.set rx (some (.cs false 4 c2)) = M2 at hon hch1 hg4 ⊢
      have n2 : M2.n = M.n + 1 := by rw [← hM2]; exact n1
      have l2 := hch1.lo
      clear hM2
      refine bindP_call (ih (by omega) M2 rx s (k + 1) c2 bad hs (by omega) (by omega) hon) ?_
      rintro m M3 ⟨e3, k3, es, rfl, hes, ⟨c3, bad3, h3⟩, hc3, hk3, hx3⟩
      have n3 := hc3.n
      have l3 := hc3.lo
      have hes1 := hes.stok
      have hcl : MV.cells (.ag es) = es := by obtain ⟨_, _, _, _, _, _, rfl, _⟩ := hes; rfl
      simp (maxSteps := 4000000) (disch := first | omega | assumption | (simp only [bxS, bxV, stOk, Nat.reduceBEq, Nat.reduceEqDiff, Nat.reduceAdd]; done) | (simp only [bxU]; omega) | ((try apply has_setN); apply has_ofL; simp only [bxL]; omega)) only [↓bxD, bxP, bxQ, bxQ2, Nat.reduceBEq, reduceCtorEq, Nat.reduceAdd, Nat.reduceSub, Nat.reduceMul, Nat.reduceLeDiff, Nat.reduceLT, bxR, hes1, hcl]
      generalize hM4 : (M3.push _).set M3.n _ = M4
      have x4 : Ext M3 M4 := by rw [← hM4]; exact (Ext.push M3 _).set _ (Nat.le_refl _)
      have n4 : M4.n = M3.n + 1 := by rw [← hM4]; rfl
      have l4 := x4.lo
      have g7 : M4.get M3.n = some (.cs false 6 (setN es 0 (ofL z6 0))) := by rw [← hM4, set_same]; rfl
      clear hM4
      have h34 := h3.ext x4
      have g34 := h34.g
      have g33 := h3.g
      have e2' : cget c3 2 = some (.i .i64 e3) := h3.at_ 2 _ rfl
      have e1' : cget c3 1 = some (.i .i64 (k3 : Int)) := h3.at_ 1 _ rfl
      have g44 := (x4.old _ (by omega)).trans ((hc3.old _ (by omega) (by omega)).trans hg4)
      have hk31 : k3 + 1 + d ≤ s.size + 23 := by omega
      have tail : ∀ (f' : Fr) (M5 : MH) (e5 : Int) (c5 : Ev.T MV) (bad5 : Int), X.ev f' (.t q0) = .p rx 0 → X.ev f' (.t q4) = .p M.n 0 → X.ev f' (.t q7) = .p M3.n 0 → RdAt M5 rx s k3 e5 c5 bad5 → Chg (fun j => j = rx) M4 M5 → (e5 = 0 → e3 = 0 ∧ k3 < s.size) → Wp fns K69_0 f' M5 (blockQ 0 (thenQ fns K69_3 (retQ F69 (PPost s rx d 1 k M)))) := by
        intro f' M5 e5 c5 bad5 h0 h4 h7 h5 hc5 he5
        have n5 := hc5.n
        have l5 := hc5.lo
        have g5 := h5.g
        have f1 : cget c5 1 = some (.i .i64 (k3 : Int)) := h5.at_ 1 _ rfl
        have hb5 : hasB c5 1 1 = true := has_at h5.at_ (Nat.zero_le _) (by show 1 + 1 ≤ 0 + 4; omega)
        have hon5 := h5.on (k3 + 1)
        have hcast5 : ((k3 + 1 : Nat) : Int) = (k3 : Int) + 1 := by omega
        rw [hcast5] at hon5
        have g70 := (hc5.old M3.n (by omega) (by omega)).trans g7
        have g75 : (M5.set rx (some (.cs false 4 (setN [MV.i .i64 ((k3 : Int) + 1)] 1 c5)))).get M3.n = _ := (set_ne (by omega)).trans ((hc5.old _ (by omega) (by omega)).trans g7)
        have g45 : (M5.set rx (some (.cs false 4 (setN [MV.i .i64 ((k3 : Int) + 1)] 1 c5)))).get M.n = _ := (set_ne (by omega)).trans ((hc5.old _ (by omega) (by omega)).trans g44)
        have hcs : Chg (fun j => j = rx) M4 (M5.set rx (some (.cs false 4 (setN [MV.i .i64 ((k3 : Int) + 1)] 1 c5)))) := hc5.set _ (.inl rfl)
        have h4' := slot_get h4
        simp only [q0, q4, q7] at h0 h4 h7 h4'
        have hg7 := re_get hes (ofL z6 0)
        unfold K69_0
        simp (maxSteps := 4000000) (disch := first | omega | assumption | (simp only [bxS, bxV, stOk, Nat.reduceBEq, Nat.reduceEqDiff, Nat.reduceAdd]; done) | (simp only [bxU]; omega) | ((try apply has_setN); apply has_ofL; simp only [bxL]; omega)) only [↓bxD, bxP, bxQ, bxQ2, Nat.reduceBEq, reduceCtorEq, Nat.reduceAdd, Nat.reduceSub, Nat.reduceMul, Nat.reduceLeDiff, Nat.reduceLT, bxR, h0, h4, h7, g5, f1, hb5, nck_p, Nat.zero_add, cells_i]
        generalize setN [MV.i .i64 ((k3 : Int) + 1)] 1 c5 = c6 at hon5 g75 g45 hcs ⊢
        generalize hM6 : M5.set rx (some (.cs false 4 c6)) = M6 at hon5 g75 g45 hcs ⊢
        have n6 := hcs.n
        have l6 := hcs.lo
        clear hM6
        have hS := re_st (M' := M6) (id := M.n) hes (by omega)
        simp (maxSteps := 4000000) (disch := first | omega | assumption | (simp only [bxS, bxV, stOk, Nat.reduceBEq, Nat.reduceEqDiff, Nat.reduceAdd]; done) | (simp only [bxU]; omega) | ((try apply has_setN); apply has_ofL; simp only [bxL]; omega)) only [↓bxD, bxP, bxQ, bxQ2, Nat.reduceBEq, reduceCtorEq, Nat.reduceAdd, Nat.reduceSub, Nat.reduceMul, Nat.reduceLeDiff, Nat.reduceLT, bxR, h0, h4, h4', h7, g70, g75, g45, hg7, hS, set_same, res_cN, cNV_p, cNo_cs, get_set, map_ag]
        refine atom_fin hes ⟨c6, bad5, hon5⟩ hlt ((hch1.trans hc3).trans ((Chg.of x4).trans hcs)) hk31 fun q => ?_
        obtain ⟨e30, hk3s⟩ := he5 q
        obtain ⟨w1, w2, x, w3, w4, w5⟩ := hx3 e30
        refine ⟨by omega, by omega, x, XIn.more (S := fun j => M2.n ≤ j) (S' := fun j => M.n < j) (M := M3) (M' := M6) (by omega) (fun j hj hj2 => ⟨by omega, (hcs.old j (by omega) (by omega)).trans (x4.old j hj2)⟩) w3, w4, by omega⟩
      by_cases he3 : e3 = 0
      · subst he3
        simp (maxSteps := 4000000) (disch := first | omega | assumption | (simp only [bxS, bxV, stOk, Nat.reduceBEq, Nat.reduceEqDiff, Nat.reduceAdd]; done) | (simp only [bxU]; omega) | ((try apply has_setN); apply has_ofL; simp only [bxL]; omega)) only [↓bxD, bxP, bxQ, bxQ2, Nat.reduceBEq, reduceCtorEq, Nat.reduceAdd, Nat.reduceSub, Nat.reduceMul, Nat.reduceLeDiff, Nat.reduceLT, bxR, g33, g34, e2', e1', nck_p, Nat.zero_add]
        refine bindP_call (is_any (q := 41) (by omega) h34) ?_
        rintro m M5 ⟨⟨r, rfl, hr5⟩, x5⟩
        have n5 := x5.n
        have l5 := x5.lo
        have h45 := h34.ext x5
        have g45 := h45.g
        cases r with
        | true =>
          simp (maxSteps := 4000000) (disch := first | omega | assumption | (simp only [bxS, bxV, stOk, Nat.reduceBEq, Nat.reduceEqDiff, Nat.reduceAdd]; done) | (simp only [bxU]; omega) | ((try apply has_setN); apply has_ofL; simp only [bxL]; omega)) only [↓bxD, bxP, bxQ, bxQ2, Nat.reduceBEq, reduceCtorEq, Nat.reduceAdd, Nat.reduceSub, Nat.reduceMul, Nat.reduceLeDiff, Nat.reduceLT, bxR, g33, g34, e2', e1', nck_p, Nat.zero_add]
          show Wp fns K69_0 _ _ _
          exact tail _ M5 0 c3 bad3 (by simp only [bxP, bxQ, bxQ2, reduceCtorEq, g33, g34, e2', e1', nck_p, Nat.zero_add]) (by simp only [bxP, bxQ, bxQ2, reduceCtorEq, g33, g34, e2', e1', nck_p, Nat.zero_add]) (by simp only [bxP, bxQ, bxQ2, reduceCtorEq, g33, g34, e2', e1', nck_p, Nat.zero_add]) h45 (.of x5) fun _ => ⟨rfl, hr5 rfl⟩
        | false =>
          simp (maxSteps := 4000000) (disch := first | omega | assumption | (simp only [bxS, bxV, stOk, Nat.reduceBEq, Nat.reduceEqDiff, Nat.reduceAdd]; done) | (simp only [bxU]; omega) | ((try apply has_setN); apply has_ofL; simp only [bxL]; omega)) only [↓bxD, bxP, bxQ, bxQ2, Nat.reduceBEq, reduceCtorEq, Nat.reduceAdd, Nat.reduceSub, Nat.reduceMul, Nat.reduceLeDiff, Nat.reduceLT, bxR, g45, e1', nck_p, Nat.zero_add]
          refine bindP_call (fail_any (z := 2) (by omega) h45) ?_
          rintro m M6 ⟨⟨c6, bad6, h6⟩, hc6⟩
          simp (maxSteps := 4000000) (disch := first | omega | assumption | (simp only [bxS, bxV, stOk, Nat.reduceBEq, Nat.reduceEqDiff, Nat.reduceAdd]; done) | (simp only [bxU]; omega) | ((try apply has_setN); apply has_ofL; simp only [bxL]; omega)) only [↓bxD, bxP, bxQ, bxQ2, Nat.reduceBEq, reduceCtorEq, Nat.reduceAdd, Nat.reduceSub, Nat.reduceMul, Nat.reduceLeDiff, Nat.reduceLT, bxR, g45, e1', nck_p, Nat.zero_add]
          show Wp fns K69_0 _ _ _
          exact tail _ M6 _ c6 bad6 (by simp only [bxP, bxQ, bxQ2, reduceCtorEq, g45, e1', nck_p, Nat.zero_add]) (by simp only [bxP, bxQ, bxQ2, reduceCtorEq, g45, e1', nck_p, Nat.zero_add]) (by simp only [bxP, bxQ, bxQ2, reduceCtorEq, g45, e1', nck_p, Nat.zero_add]) h6 ((Chg.of x5).trans hc6) fun q => by simp at q
      · have ed : decide (e3 = 0) = false := decide_eq_false he3
        simp (maxSteps := 4000000) (disch := first | omega | assumption | (simp only [bxS, bxV, stOk, Nat.reduceBEq, Nat.reduceEqDiff, Nat.reduceAdd]; done) | (simp only [bxU]; omega) | ((try apply has_setN); apply has_ofL; simp only [bxL]; omega)) only [↓bxD, bxP, bxQ, bxQ2, Nat.reduceBEq, reduceCtorEq, Nat.reduceAdd, Nat.reduceSub, Nat.reduceMul, Nat.reduceLeDiff, Nat.reduceLT, bxR, g33, g34, e2', ed, nck_p, Nat.zero_add]
        show Wp fns K69_0 _ _ _
        exact tail _ M4 e3 c3 bad3 (by simp only [bxP, bxQ, bxQ2, reduceCtorEq, g33, g34, e2', ed, nck_p, Nat.zero_add]) (by simp only [bxP, bxQ, bxQ2, reduceCtorEq, g33, g34, e2', ed, nck_p, Nat.zero_add]) (by simp only [bxP, bxQ, bxQ2, reduceCtorEq, g33, g34, e2', ed, nck_p, Nat.zero_add]) h34 (.refl _ _) fun q => absurd q he3
  · have e40 : decide ((q : Int) = 40) = false := decide_eq_false q40
    by_cases q46 : (q : Int) = 46
    · have e46 : decide ((q : Int) = 46) = true := decide_eq_true q46
      simp (maxSteps := 4000000) (disch := first | omega | assumption | (simp only [bxS, bxV, stOk, Nat.reduceBEq, Nat.reduceEqDiff, Nat.reduceAdd]; done) | (simp only [bxU]; omega) | ((try apply has_setN); apply has_ofL; simp only [bxL]; omega)) only [↓bxD, bxP, bxQ, bxQ2, Nat.reduceBEq, reduceCtorEq, Nat.reduceAdd, Nat.reduceSub, Nat.reduceMul, Nat.reduceLeDiff, Nat.reduceLT, bxR, g, g0, c0, c1, hb1, hix, e40, e46, nck_p, Nat.zero_add, cells_i]
      generalize setN [MV.i .i64 ((k : Int) + 1)] 1 c = c2 at hon hch1 hg4 ⊢
      generalize hM2 : M1.set rx (some (.cs false 4 c2)) = M2 at hon hch1 hg4 ⊢
      have n2 : M2.n = M.n + 1 := by rw [← hM2]; exact n1
      have l2 := hch1.lo
      clear hM2
      refine bindP_call (dot_any (by omega)) ?_
      rintro m M3 ⟨⟨a, b, c', d', rfl⟩, x3⟩
      have n3 := x3.n
      have l3 := x3.lo
      have g43 := (x3.old _ (by omega)).trans hg4
      have hes := leaf_rec a b c' d'
      have hS := re_st (M' := M3) (id := M.n) hes (by omega)
      have ff : fillM [(0, 1, MV.i .i64 1), (1, 4, MV.ag (st4 a b c' d'))] [.i .i64 0, .i .u64 0, .i .u64 0, .i .u64 0, .i .u64 0, .nils] = some (leafC a b c' d') := rfl
      have hg6 := re_get hes (ofL z6 0)
      simp (maxSteps := 4000000) (disch := first | omega | assumption | (simp only [bxS, bxV, stOk, Nat.reduceBEq, Nat.reduceEqDiff, Nat.reduceAdd]; done) | (simp only [bxU]; omega) | ((try apply has_setN); apply has_ofL; simp only [bxL]; omega)) only [↓bxD, bxP, bxQ, bxQ2, Nat.reduceBEq, reduceCtorEq, Nat.reduceAdd, Nat.reduceSub, Nat.reduceMul, Nat.reduceLeDiff, Nat.reduceLT, bxR, g43, ff, hS, set_same, res_cN, cNV_p, cNo_cs, get_set, hg6, map_ag]
      refine atom_fin hes ⟨c2, bad, hon.ext x3⟩ hlt (hch1.trans (.of x3)) (by omega) fun _ => ⟨by omega, by omega, _, (leaf_in _ _ a b c' d').1, (leaf_in (fun _ => True) M3 a b c' d').2.1, by rw [(leaf_in (fun _ => True) M3 a b c' d').2.2]; omega⟩
    · have e46 : decide ((q : Int) = 46) = false := decide_eq_false q46
      by_cases q92 : (q : Int) = 92
      · have e92 : decide ((q : Int) = 92) = true := decide_eq_true q92
        simp (maxSteps := 4000000) (disch := first | omega | assumption | (simp only [bxS, bxV, stOk, Nat.reduceBEq, Nat.reduceEqDiff, Nat.reduceAdd]; done) | (simp only [bxU]; omega) | ((try apply has_setN); apply has_ofL; simp only [bxL]; omega)) only [↓bxD, bxP, bxQ, bxQ2, Nat.reduceBEq, reduceCtorEq, Nat.reduceAdd, Nat.reduceSub, Nat.reduceMul, Nat.reduceLeDiff, Nat.reduceLT, bxR, g, g0, c0, c1, hb1, hix, e40, e46, e92, nck_p, Nat.zero_add, cells_i]
        generalize setN [MV.i .i64 ((k : Int) + 1)] 1 c = c2 at hon hch1 hg4 ⊢
        generalize hM2 : M1.set rx (some (.cs false 4 c2)) = M2 at hon hch1 hg4 ⊢
        have n2 : M2.n = M.n + 1 := by rw [← hM2]; exact n1
        have l2 := hch1.lo
        clear hM2
        refine bindP_call (over_any (by omega) hon) ?_
        rintro m M3 ⟨rfl, x3⟩
        have n3 := x3.n
        have l3 := x3.lo
        have h3 := hon.ext x3
        have g3 := h3.g
        have d0 : cget c2 0 = some (.s s) := hon.at_ 0 _ rfl
        have d1 : cget c2 1 = some (.i .i64 ((k + 1 : Nat) : Int)) := hon.at_ 1 _ rfl
        have g43 := (x3.old _ (by omega)).trans hg4
        by_cases ho : s.size ≤ k + 1
        · have ed : decide (s.size ≤ k + 1) = true := decide_eq_true ho
          simp (maxSteps := 4000000) (disch := first | omega | assumption | (simp only [bxS, bxV, stOk, Nat.reduceBEq, Nat.reduceEqDiff, Nat.reduceAdd]; done) | (simp only [bxU]; omega) | ((try apply has_setN); apply has_ofL; simp only [bxL]; omega)) only [↓bxD, bxP, bxQ, bxQ2, Nat.reduceBEq, reduceCtorEq, Nat.reduceAdd, Nat.reduceSub, Nat.reduceMul, Nat.reduceLeDiff, Nat.reduceLT, bxR, g3, d0, d1, ed, nck_p, Nat.zero_add]
          refine bindP_call (fail_any (z := 2) (by omega) h3) ?_
          rintro m M4 ⟨⟨c4, bad4, h4⟩, hc4⟩
          have n4 := hc4.n
          have l4 := hc4.lo
          have g44 := (hc4.old _ (by omega) (by omega)).trans g43
          have hes := none_rec
          have hS : stW M4 6 M.n 0 (.ag z6) _ = _ := re_st (M' := M4) (id := M.n) hes (by omega)
          have hg6 : ∀ t, getN (setN z6 0 t) 6 0 = some z6 := fun t => re_get hes t
          have ff : fillM [] z6 = some z6 := rfl
          unfold z6 at hS hg6 ff g44
          simp (maxSteps := 4000000) (disch := first | omega | assumption | (simp only [bxS, bxV, stOk, Nat.reduceBEq, Nat.reduceEqDiff, Nat.reduceAdd]; done) | (simp only [bxU]; omega) | ((try apply has_setN); apply has_ofL; simp only [bxL]; omega)) only [↓bxD, bxP, bxQ, bxQ2, Nat.reduceBEq, reduceCtorEq, Nat.reduceAdd, Nat.reduceSub, Nat.reduceMul, Nat.reduceLeDiff, Nat.reduceLT, bxR, g44, ff, hS, set_same, res_cN, cNV_p, cNo_cs, get_set, hg6, map_ag]
          refine atom_fin hes ⟨c4, bad4, h4⟩ hlt ((hch1.trans (.of x3)).trans hc4) (by omega) fun q => by simp at q
        · have ed : decide (s.size ≤ k + 1) = false := decide_eq_false ho
          have hb2 : hasB c2 1 1 = true := has_at hon.at_ (Nat.zero_le _) (by show 1 + 1 ≤ 0 + 4; omega)
          have hon2 := h3.on (k + 1 + 1)
          have hcast2 : ((k + 1 + 1 : Nat) : Int) = (k : Int) + 1 + 1 := by omega
          rw [hcast2] at hon2
          rw [hcast] at d1
          have hg42 : (M3.set rx (some (.cs false 4 (setN [MV.i .i64 ((k : Int) + 1 + 1)] 1 c2)))).get M.n = _ := (set_ne (by omega)).trans g43
          have hch2 : Chg (fun j => j = rx) M (M3.set rx (some (.cs false 4 (setN [MV.i .i64 ((k : Int) + 1 + 1)] 1 c2)))) := (hch1.trans (.of x3)).set _ (.inl rfl)
          simp (maxSteps := 4000000) (disch := first | omega | assumption | (simp only [bxS, bxV, stOk, Nat.reduceBEq, Nat.reduceEqDiff, Nat.reduceAdd]; done) | (simp only [bxU]; omega) | ((try apply has_setN); apply has_ofL; simp only [bxL]; omega)) only [↓bxD, bxP, bxQ, bxQ2, Nat.reduceBEq, reduceCtorEq, Nat.reduceAdd, Nat.reduceSub, Nat.reduceMul, Nat.reduceLeDiff, Nat.reduceLT, bxR, g3, d0, d1, hb2, ed, nck_p, Nat.zero_add, cells_i]
          show Wp fns K69_2 _ _ _
          unfold K69_2
          simp (maxSteps := 4000000) (disch := first | omega | assumption | (simp only [bxS, bxV, stOk, Nat.reduceBEq, Nat.reduceEqDiff, Nat.reduceAdd]; done) | (simp only [bxU]; omega) | ((try apply has_setN); apply has_ofL; simp only [bxL]; omega)) only [↓bxD, bxP, bxQ, bxQ2, Nat.reduceBEq, reduceCtorEq, Nat.reduceAdd, Nat.reduceSub, Nat.reduceMul, Nat.reduceLeDiff, Nat.reduceLT, bxR, g3, d0, d1, hb2, ed, nck_p, Nat.zero_add, cells_i]
          generalize setN [MV.i .i64 ((k : Int) + 1 + 1)] 1 c2 = c3 at hon2 hch2 hg42 ⊢
          generalize hM4 : M3.set rx (some (.cs false 4 c3)) = M4 at hon2 hch2 hg42 ⊢
          have n4 : M4.n = M3.n := by rw [← hM4]; rfl
          have l4 := hch2.lo
          clear hM4
          have f0 : cget c3 0 = some (.s s) := hon2.at_ 0 _ rfl
          have f1 : cget c3 1 = some (.i .i64 ((k : Int) + 1 + 1)) := by have := hon2.at_ 1 _ rfl; rwa [hcast2] at this
          have g4' := hon2.g
          refine Wp_dreg_of (by omega) ?_
          have hk2' : k + 1 < s.data.toList.length := by rw [Array.length_toList]; exact Nat.lt_of_not_le ho
          have hix2 : puM .ixT (.s s) (.i .i64 ((k : Int) + 1)) = some (.i .u8 (s.data.toList[k + 1].toNat : Int)) := by
            show (match s.data.toList[k + 1]? with | some c => some (MV.i .u8 (.ofNat c.toNat)) | none => none) = _
            rw [List.getElem?_eq_getElem hk2']
            rfl
          have hsub : (k : Int) + 1 + 1 - 1 = (k : Int) + 1 := by omega
          have hq2 : s.data.toList[k + 1].toNat < 256 := s.data.toList[k + 1].toNat_lt
          simp (maxSteps := 4000000) (disch := first | omega | assumption | (simp only [bxS, bxV, stOk, Nat.reduceBEq, Nat.reduceEqDiff, Nat.reduceAdd]; done) | (simp only [bxU]; omega) | ((try apply has_setN); apply has_ofL; simp only [bxL]; omega)) only [↓bxD, bxP, bxQ, bxQ2, Nat.reduceBEq, reduceCtorEq, Nat.reduceAdd, Nat.reduceSub, Nat.reduceMul, Nat.reduceLeDiff, Nat.reduceLT, bxR, g4', f0, f1, hsub, hix2, nck_p, Nat.zero_add]
          refine bindP_call (one_any hq2 (by omega)) ?_
          rintro m M5 ⟨⟨a, b, c', d', rfl⟩, x5⟩
          have n5 := x5.n
          have l5 := x5.lo
          have g45 := (x5.old _ (by omega)).trans hg42
          have hes := leaf_rec a b c' d'
          have hS : stW M5 6 M.n 0 (.ag [.i .i64 1, .i .u64 a, .i .u64 b, .i .u64 c', .i .u64 d', .nils]) _ = _ := re_st (M' := M5) (id := M.n) hes (by omega)
          have hg6 := re_get hes (ofL z6 0)
          unfold leafC at hS hg6
          simp (maxSteps := 4000000) (disch := first | omega | assumption | (simp only [bxS, bxV, stOk, Nat.reduceBEq, Nat.reduceEqDiff, Nat.reduceAdd]; done) | (simp only [bxU]; omega) | ((try apply has_setN); apply has_ofL; simp only [bxL]; omega)) only [↓bxD, bxP, bxQ, bxQ2, Nat.reduceBEq, reduceCtorEq, Nat.reduceAdd, Nat.reduceSub, Nat.reduceMul, Nat.reduceLeDiff, Nat.reduceLT, bxR, g45, hS, set_same, res_cN, cNV_p, cNo_cs, get_set, hg6, map_ag]
          show Wp fns IC.ret _ _ _
          simp (maxSteps := 4000000) (disch := first | omega | assumption | (simp only [bxS, bxV, stOk, Nat.reduceBEq, Nat.reduceEqDiff, Nat.reduceAdd]; done) | (simp only [bxU]; omega) | ((try apply has_setN); apply has_ofL; simp only [bxL]; omega)) only [↓bxD, bxP, bxQ, bxQ2, Nat.reduceBEq, reduceCtorEq, Nat.reduceAdd, Nat.reduceSub, Nat.reduceMul, Nat.reduceLeDiff, Nat.reduceLT, bxR, g45, hS, set_same, res_cN, cNV_p, cNo_cs, get_set, hg6, map_ag]
          refine atom_fin hes ⟨c3, bad, hon2.ext x5⟩ hlt (hch2.trans (.of x5)) (by omega) fun _ => ⟨by omega, by omega, _, (leaf_in _ _ a b c' d').1, (leaf_in (fun _ => True) M5 a b c' d').2.1, by rw [(leaf_in (fun _ => True) M5 a b c' d').2.2]; omega⟩
      · have e92 : decide ((q : Int) = 92) = false := decide_eq_false q92
        by_cases q91 : (q : Int) = 91
        · have e91 : decide ((q : Int) = 91) = true := decide_eq_true q91
          simp (maxSteps := 4000000) (disch := first | omega | assumption | (simp only [bxS, bxV, stOk, Nat.reduceBEq, Nat.reduceEqDiff, Nat.reduceAdd]; done) | (simp only [bxU]; omega) | ((try apply has_setN); apply has_ofL; simp only [bxL]; omega)) only [↓bxD, bxP, bxQ, bxQ2, Nat.reduceBEq, reduceCtorEq, Nat.reduceAdd, Nat.reduceSub, Nat.reduceMul, Nat.reduceLeDiff, Nat.reduceLT, bxR, g, g0, c0, c1, hb1, hix, e40, e46, e92, e91, nck_p, Nat.zero_add, cells_i]
          generalize setN [MV.i .i64 ((k : Int) + 1)] 1 c = c2 at hon hch1 hg4 ⊢
          generalize hM2 : M1.set rx (some (.cs false 4 c2)) = M2 at hon hch1 hg4 ⊢
          have n2 : M2.n = M.n + 1 := by rw [← hM2]; exact n1
          have l2 := hch1.lo
          clear hM2
          refine bindP_call (class_any hs (by omega) (by omega) hon) ?_
          rintro m M3 ⟨e3, k3, a, b, c', d', rfl, hr3, hc3, hk3, hk3', hk3e⟩
          have n3 := hc3.n
          have l3 := hc3.lo
          have g43 := (hc3.old _ (by omega) (by omega)).trans hg4
          have hes := leaf_rec a b c' d'
          have hS : stW M3 6 M.n 0 (.ag [.i .i64 1, .i .u64 a, .i .u64 b, .i .u64 c', .i .u64 d', .nils]) _ = _ := re_st (M' := M3) (id := M.n) hes (by omega)
          have hg6 := re_get hes (ofL z6 0)
          unfold leafC at hS hg6
          simp (maxSteps := 4000000) (disch := first | omega | assumption | (simp only [bxS, bxV, stOk, Nat.reduceBEq, Nat.reduceEqDiff, Nat.reduceAdd]; done) | (simp only [bxU]; omega) | ((try apply has_setN); apply has_ofL; simp only [bxL]; omega)) only [↓bxD, bxP, bxQ, bxQ2, Nat.reduceBEq, reduceCtorEq, Nat.reduceAdd, Nat.reduceSub, Nat.reduceMul, Nat.reduceLeDiff, Nat.reduceLT, bxR, g43, hS, set_same, res_cN, cNV_p, cNo_cs, get_set, hg6, map_ag]
          refine atom_fin hes hr3 hlt (hch1.trans hc3) (by omega) fun q => ⟨by omega, hk3e q, _, (leaf_in _ _ a b c' d').1, (leaf_in (fun _ => True) M3 a b c' d').2.1, by rw [(leaf_in (fun _ => True) M3 a b c' d').2.2]; omega⟩
        · have e91 : decide ((q : Int) = 91) = false := decide_eq_false q91
          simp (maxSteps := 4000000) (disch := first | omega | assumption | (simp only [bxS, bxV, stOk, Nat.reduceBEq, Nat.reduceEqDiff, Nat.reduceAdd]; done) | (simp only [bxU]; omega) | ((try apply has_setN); apply has_ofL; simp only [bxL]; omega)) only [↓bxD, bxP, bxQ, bxQ2, Nat.reduceBEq, reduceCtorEq, Nat.reduceAdd, Nat.reduceSub, Nat.reduceMul, Nat.reduceLeDiff, Nat.reduceLT, bxR, g, g0, c0, c1, hb1, hix, e40, e46, e92, e91, nck_p, Nat.zero_add, cells_i]
          refine bindP_call special_any ?_
          rintro m M3 ⟨⟨r, rfl⟩, hM3⟩
          obtain rfl : M1 = M3 := hM3.symm
          cases r with
          | true =>
            simp (maxSteps := 4000000) (disch := first | omega | assumption | (simp only [bxS, bxV, stOk, Nat.reduceBEq, Nat.reduceEqDiff, Nat.reduceAdd]; done) | (simp only [bxU]; omega) | ((try apply has_setN); apply has_ofL; simp only [bxL]; omega)) only [↓bxD, bxP, bxQ, bxQ2, Nat.reduceBEq, reduceCtorEq, Nat.reduceAdd, Nat.reduceSub, Nat.reduceMul, Nat.reduceLeDiff, Nat.reduceLT, bxR, g, g0, c0, c1, hb1, hix, e40, e46, e92, e91, nck_p, Nat.zero_add, cells_i]
            refine bindP_call (fail_any (z := 2) (by omega) hr1) ?_
            rintro m M4 ⟨⟨c4, bad4, h4⟩, hc4⟩
            have n4 := hc4.n
            have l4 := hc4.lo
            have g44 := (hc4.old _ (by omega) (by omega)).trans g4
            have hes := none_rec
            have hS : stW M4 6 M.n 0 (.ag z6) _ = _ := re_st (M' := M4) (id := M.n) hes (by omega)
            have hg6 : ∀ t, getN (setN z6 0 t) 6 0 = some z6 := fun t => re_get hes t
            have ff : fillM [] z6 = some z6 := rfl
            unfold z6 at hS hg6 ff g44
            simp (maxSteps := 4000000) (disch := first | omega | assumption | (simp only [bxS, bxV, stOk, Nat.reduceBEq, Nat.reduceEqDiff, Nat.reduceAdd]; done) | (simp only [bxU]; omega) | ((try apply has_setN); apply has_ofL; simp only [bxL]; omega)) only [↓bxD, bxP, bxQ, bxQ2, Nat.reduceBEq, reduceCtorEq, Nat.reduceAdd, Nat.reduceSub, Nat.reduceMul, Nat.reduceLeDiff, Nat.reduceLT, bxR, g44, ff, hS, set_same, res_cN, cNV_p, cNo_cs, get_set, hg6, map_ag]
            refine atom_fin hes ⟨c4, bad4, h4⟩ hlt ((Chg.of x1).trans hc4) (by omega) fun q => by simp at q
          | false =>
            simp (maxSteps := 4000000) (disch := first | omega | assumption | (simp only [bxS, bxV, stOk, Nat.reduceBEq, Nat.reduceEqDiff, Nat.reduceAdd]; done) | (simp only [bxU]; omega) | ((try apply has_setN); apply has_ofL; simp only [bxL]; omega)) only [↓bxD, bxP, bxQ, bxQ2, Nat.reduceBEq, reduceCtorEq, Nat.reduceAdd, Nat.reduceSub, Nat.reduceMul, Nat.reduceLeDiff, Nat.reduceLT, bxR, g, g0, c0, c1, hb1, hix, e40, e46, e92, e91, nck_p, Nat.zero_add, cells_i]
            show Wp fns K69_3 _ _ _
            unfold K69_3
            simp (maxSteps := 4000000) (disch := first | omega | assumption | (simp only [bxS, bxV, stOk, Nat.reduceBEq, Nat.reduceEqDiff, Nat.reduceAdd]; done) | (simp only [bxU]; omega) | ((try apply has_setN); apply has_ofL; simp only [bxL]; omega)) only [↓bxD, bxP, bxQ, bxQ2, Nat.reduceBEq, reduceCtorEq, Nat.reduceAdd, Nat.reduceSub, Nat.reduceMul, Nat.reduceLeDiff, Nat.reduceLT, bxR, g, g0, c0, c1, hb1, hix, e40, e46, e92, e91, nck_p, Nat.zero_add, cells_i]
            generalize setN [MV.i .i64 ((k : Int) + 1)] 1 c = c2 at hon hch1 hg4 ⊢
            generalize hM2 : M1.set rx (some (.cs false 4 c2)) = M2 at hon hch1 hg4 ⊢
            have n2 : M2.n = M.n + 1 := by rw [← hM2]; exact n1
            have l2 := hch1.lo
            clear hM2
            refine bindP_call (one_any hq256 (by omega)) ?_
            rintro m M5 ⟨⟨a, b, c', d', rfl⟩, x5⟩
            have n5 := x5.n
            have l5 := x5.lo
            have g45 := (x5.old _ (by omega)).trans hg4
            have hes := leaf_rec a b c' d'
            have hS : stW M5 6 M.n 0 (.ag [.i .i64 1, .i .u64 a, .i .u64 b, .i .u64 c', .i .u64 d', .nils]) _ = _ := re_st (M' := M5) (id := M.n) hes (by omega)
            have hg6 := re_get hes (ofL z6 0)
            unfold leafC at hS hg6
            simp (maxSteps := 4000000) (disch := first | omega | assumption | (simp only [bxS, bxV, stOk, Nat.reduceBEq, Nat.reduceEqDiff, Nat.reduceAdd]; done) | (simp only [bxU]; omega) | ((try apply has_setN); apply has_ofL; simp only [bxL]; omega)) only [↓bxD, bxP, bxQ, bxQ2, Nat.reduceBEq, reduceCtorEq, Nat.reduceAdd, Nat.reduceSub, Nat.reduceMul, Nat.reduceLeDiff, Nat.reduceLT, bxR, g45, hS, set_same, res_cN, cNV_p, cNo_cs, get_set, hg6, map_ag]
            refine atom_fin hes ⟨c2, bad, hon.ext x5⟩ hlt (hch1.trans (.of x5)) (by omega) fun _ => ⟨by omega, by omega, _, (leaf_in _ _ a b c' d').1, (leaf_in (fun _ => True) M5 a b c' d').2.1, by rw [(leaf_in (fun _ => True) M5 a b c' d').2.2]; omega⟩
structure RpSt (M0 M : MH) (rx d k xid : Nat) (s : ByteArray) (k' : Nat) (e : Int) (es : List MV) (f : Fr) : Prop where
  rd : ∃ c bad, RdAt M rx s k' e c bad
  ch : Chg (fun j => j = rx) M0 M
  rx0 : rx < M0.n
  lo : M0.lo ≤ rx
  sz : s.size ≤ 1000
  g4 : M.get M0.n = some (.cs false 6 (ofL z6 0))
  x1 : M0.n < xid ∧ xid < M.n
  g5 : ∃ t, M.get xid = some (.cs false 6 t) ∧ At t 0 es
  re : ReC es
  hd : d ≤ 20
  hk : k' + d ≤ s.size + 23
  ok : e = 0 → k + 1 ≤ k' ∧ k' ≤ s.size ∧ ∃ x, XIn (fun j => M0.n < j ∧ j ≠ xid) M es x ∧ Wk x ∧ wei x + 4 ≤ 4 * (k' - k) + 2
  f0 : X.ev f (.t q0) = .p rx 0
  f4 : X.ev f (.t q4) = .p M0.n 0
  f5 : X.ev f (.t q5) = .p xid 0
theorem RpSt.ext {M0 M M' : MH} {rx d k xid : Nat} {s : ByteArray} {k' : Nat} {e : Int} {es : List MV} {f f' : Fr} (h : RpSt M0 M rx d k xid s k' e es f) (x : Ext M M') (e0 : X.ev f' (.t q0) = X.ev f (.t q0)) (e4 : X.ev f' (.t q4) = X.ev f (.t q4)) (e5 : X.ev f' (.t q5) = X.ev f (.t q5)) : RpSt M0 M' rx d k xid s k' e es f' := by
  obtain ⟨c, bad, hr⟩ := h.rd
  obtain ⟨t, g, hA⟩ := h.g5
  obtain ⟨y1, y2⟩ := h.x1
  refine ⟨⟨c, bad, hr.ext x⟩, h.ch.trans (.of x), h.rx0, h.lo, h.sz, (x.old _ (by omega)).trans h.g4, ⟨y1, Nat.lt_of_lt_of_le y2 x.n⟩, ⟨t, (x.old _ y2).trans g, hA⟩, h.re, h.hd, h.hk, fun q => ?_, e0.trans h.f0, e4.trans h.f4, e5.trans h.f5⟩
  obtain ⟨w1, w2, y, w3, w4, w5⟩ := h.ok q
  exact ⟨w1, w2, y, XIn.more x.n (fun j hj hj2 => ⟨hj, x.old j hj2⟩) w3, w4, w5⟩
theorem rep_end {M0 M : MH} {rx d k xid : Nat} {s : ByteArray} {k' : Nat} {e : Int} {es : List MV} {f : Fr} (h : RpSt M0 M rx d k xid s k' e es f) : Wp fns K60_4 f M (retQ F60 (PPost s rx d 1 k M0)) := by
  have h4 := h.f4
  have h4' := slot_get h4
  have h5 := h.f5
  obtain ⟨t, g5, hA⟩ := h.g5
  have hes := h.re
  have hN : getN t 6 0 = some es := by have := hA.getN; rwa [hes.len] at this
  have g4 := h.g4
  have hn := h.ch.n
  have hl := h.ch.lo
  have hrx := h.rx0
  have hlo := h.lo
  have hS := re_st (M' := M) (id := M0.n) hes (by omega)
  have hg6 := re_get hes (ofL z6 0)
  simp only [q4, q5] at h4 h4' h5
  unfold K60_4
  simp (maxSteps := 4000000) (disch := first | omega | assumption | (simp only [bxS, bxV, stOk, Nat.reduceBEq, Nat.reduceEqDiff, Nat.reduceAdd]; done) | (simp only [bxU]; omega) | ((try apply has_setN); apply has_ofL; simp only [bxL]; omega)) only [↓bxD, bxP, bxQ, Nat.reduceBEq, reduceCtorEq, Nat.reduceAdd, Nat.reduceSub, Nat.reduceMul, Nat.reduceLeDiff, Nat.reduceLT, bxR, h4, h4', h5, g5, g4, hN, hS, set_same, res_cN, cNV_p, cNo_cs, get_set, hg6, map_ag]
  refine atom_fin hes h.rd hrx h.ch h.hk fun q => ?_
  obtain ⟨w1, w2, y, w3, w4, w5⟩ := h.ok q
  exact ⟨w1, w2, y, XIn.more (Nat.le_refl _) (fun j hj _ => ⟨hj.1, rfl⟩) w3, w4, by omega⟩
theorem rep_body {M0 M : MH} {rx d k xid : Nat} {s : ByteArray} {k' : Nat} {es : List MV} {f : Fr} (h : RpSt M0 M rx d k xid s k' 0 es f) (hk : k' < s.size) (Q : Post) (hQ : ∀ f' M' es', RpSt M0 M' rx d k xid s (k' + 1) 0 es' f' → Q .norm f' M') : Wp fns K60_2 f M Q := by
  obtain ⟨c, bad, hr⟩ := h.rd
  have h0 := h.f0
  have h4 := h.f4
  have h5 := h.f5
  obtain ⟨t, g5, hA⟩ := h.g5
  have hes := h.re
  have hN : getN t 6 0 = some es := by have := hA.getN; rwa [hes.len] at this
  have hn := h.ch.n
  have hl := h.ch.lo
  have hrx := h.rx0
  have hlo := h.lo
  have hsz := h.sz
  obtain ⟨y1, y2⟩ := h.x1
  have fin : ∀ (f' : Fr) (M' : MH) (op : Int), 4 ≤ op ∧ op ≤ 6 → X.ev f' (.t q0) = .p rx 0 → X.ev f' (.t q4) = .p M0.n 0 → X.ev f' (.t q5) = .p xid 0 → X.ev f' (.t q6) = .i .i64 op → Ext M M' → Wp fns K60_0 f' M' (blockQ 1 Q) := by
    intro f' M' op hop e0 e4 e5 e6 x
    have hr' := hr.ext x
    have g := hr'.g
    have n' := x.n
    have l' := x.lo
    have c1 : cget c 1 = some (.i .i64 (k' : Int)) := hr.at_ 1 _ rfl
    have hb1 : hasB c 1 1 = true := has_at hr.at_ (Nat.zero_le _) (by show 1 + 1 ≤ 0 + 4; omega)
    have hon := hr'.on (k' + 1)
    have hcast : ((k' + 1 : Nat) : Int) = (k' : Int) + 1 := by omega
    rw [hcast] at hon
    have g5' := (x.old _ y2).trans g5
    have hcs : Chg (fun j => j = rx) M (M'.set rx (some (.cs false 4 (setN [MV.i .i64 ((k' : Int) + 1)] 1 c)))) := (Chg.of x).set _ (.inl rfl)
    have h6 := e6
    simp only [q0, q4, q5, q6] at e0 e4 e5 h6
    unfold K60_0
    simp (maxSteps := 4000000) (disch := first | omega | assumption | (simp only [bxS, bxV, stOk, Nat.reduceBEq, Nat.reduceEqDiff, Nat.reduceAdd]; done) | (simp only [bxU]; omega) | ((try apply has_setN); apply has_ofL; simp only [bxL]; omega)) only [↓bxD, bxP, bxQ, Nat.reduceBEq, reduceCtorEq, Nat.reduceAdd, Nat.reduceSub, Nat.reduceMul, Nat.reduceLeDiff, Nat.reduceLT, bxR, e0, e4, e5, h6, g, c1, hb1, g5', hN, nck_p, Nat.zero_add, cells_i]
    have ff : fillM [(0, 6, MV.ag es)] z6 = some es := by obtain ⟨_, _, _, _, _, _, rfl, _⟩ := hes; rfl
    unfold z6 at ff
    have ff2 : ∀ id, fillM [(0, 1, MV.i .i64 op), (5, 1, MV.sl id 0 1 0)] [.i .i64 0, .i .u64 0, .i .u64 0, .i .u64 0, .i .u64 0, .nils] = some [.i .i64 op, .i .u64 0, .i .u64 0, .i .u64 0, .i .u64 0, .sl id 0 1 0] := fun _ => rfl
    generalize setN [MV.i .i64 ((k' : Int) + 1)] 1 c = c6 at hon hcs ⊢
    generalize hM5 : M'.set rx (some (.cs false 4 c6)) = M5 at hon hcs ⊢
    have n5 : M5.n = M'.n := by rw [← hM5]; rfl
    have g50 : M5.get xid = some (.cs false 6 t) := by rw [← hM5, set_ne (by omega)]; exact g5'
    have l5 := hcs.lo
    clear hM5
    have hH : hasB t 6 0 = true := has_at hA (Nat.le_refl _) (by rw [hes.len]; omega)
    have hx6 : M5.n ≠ xid := by omega
    have g55 : (M5.push (.cs false 6 (ofL es 0))).get xid = _ := (push_old (by omega)).trans g50
    have hS : ∀ id, stW (M5.push (.cs false 6 (ofL es 0))) 6 xid 0 (.ag [.i .i64 op, .i .u64 0, .i .u64 0, .i .u64 0, .i .u64 0, .sl id 0 1 0]) (some (.cs false 6 t)) = some (.u, (M5.push (.cs false 6 (ofL es 0))).set xid (some (.cs false 6 (setN [.i .i64 op, .i .u64 0, .i .u64 0, .i .u64 0, .i .u64 0, .sl id 0 1 0] 0 t)))) := fun id => stW_ok (n := 6) (id := xid) (off := 0) (sz := 6) (M := M5.push (.cs false 6 (ofL es 0))) (y := .ag [.i .i64 op, .i .u64 0, .i .u64 0, .i .u64 0, .i .u64 0, .sl id 0 1 0]) (by show M5.lo ≤ xid; omega) rfl hH
    simp (maxSteps := 4000000) (disch := first | omega | assumption | (simp only [bxS, bxV, stOk, Nat.reduceBEq, Nat.reduceEqDiff, Nat.reduceAdd]; done) | (simp only [bxU]; omega) | ((try apply has_setN); apply has_ofL; simp only [bxL]; omega)) only [↓bxD, bxP, bxQ, Nat.reduceBEq, reduceCtorEq, Nat.reduceAdd, Nat.reduceSub, Nat.reduceMul, Nat.reduceLeDiff, Nat.reduceLT, bxR, e0, e4, e5, h6, ff, ff2, bslW_some, g50, g55, hS]
    generalize hM6 : MH.set _ _ _ = M6
    have n6 : M6.n = M5.n + 1 := by rw [← hM6]; rfl
    have g6 : M6.get xid = some (.cs false 6 (setN [.i .i64 op, .i .u64 0, .i .u64 0, .i .u64 0, .i .u64 0, .sl M5.n 0 1 0] 0 t)) := by rw [← hM6]; exact set_same _ _
    have g7 : M6.get M5.n = some (.cs false 6 (ofL es 0)) := by rw [← hM6, set_ne hx6]; exact push_new _
    have o6 : ∀ j, j < M5.n → j ≠ xid → M6.get j = M5.get j := fun j hj hj2 => by rw [← hM6, set_ne hj2]; exact push_old hj
    have l6 : M6.lo = M5.lo := by rw [← hM6]; rfl
    clear hM6
    obtain ⟨w1, w2, y, w3, w4, w5⟩ := h.ok rfl
    have hlt := hr.lt
    refine hQ _ M6 _ ⟨⟨c6, bad, ⟨(o6 rx (by omega) (by omega)).trans hon.g, hon.at_, by omega⟩⟩, ⟨by omega, by omega, fun j hj hj2 => ?_⟩, hrx, hlo, hsz, ?_, ⟨y1, by omega⟩, ⟨_, g6, at_setN _ _ _⟩, ⟨op, 0, 0, 0, 0, .sl M5.n 0 1 0, rfl, rfl⟩, h.hd, by have := h.hd; omega, fun _ => ⟨by omega, by omega, .mk op 0 0 0 0 [y], ?_, ?_, ?_⟩, by simp only [bxP, bxQ, reduceCtorEq, e0, e4, e5, h6, ff, ff2, bslW_some, g50, g55, hS], by simp only [bxP, bxQ, reduceCtorEq, e0, e4, e5, h6, ff, ff2, bslW_some, g50, g55, hS], by simp only [bxP, bxQ, reduceCtorEq, e0, e4, e5, h6, ff, ff2, bslW_some, g50, g55, hS]⟩
    · rw [o6 j (by omega) (by omega), hcs.old j (by omega) hj2]; exact h.ch.old j hj hj2
    · rw [o6 M0.n (by omega) (by omega), hcs.old M0.n (by omega) (by omega)]; exact h.g4
    · refine ⟨.sl M5.n 0 1 0, rfl, rfl, rfl, ?_⟩
      have hin : XIn (fun j => M0.n < j ∧ j ≠ xid) M6 es y := XIn.more (by omega) (fun j hj hj2 => ⟨hj, by rw [o6 j (by omega) hj.2, hcs.old j hj2 (by omega)]⟩) w3
      exact XsIn.blks (es := [es]) (xs := [y]) g7 ⟨by omega, hx6⟩ (by omega) ⟨hin, trivial⟩ (by
        show At (ofL es 0) 0 [es].flatten
        rw [List.flatten_cons, List.flatten_nil, List.append_nil]
        exact at_ofL es)
    · rw [Wk, WkL, WkL]
      exact ⟨fun _ => by simp, w4, trivial⟩
    · rw [wei, weiL, weiL]
      omega
  simp only [q0, q4, q5] at h0 h4 h5
  unfold K60_2
  simp (maxSteps := 4000000) (disch := first | omega | assumption | (simp only [bxS, bxV, stOk, Nat.reduceBEq, Nat.reduceEqDiff, Nat.reduceAdd]; done) | (simp only [bxU]; omega) | ((try apply has_setN); apply has_ofL; simp only [bxL]; omega)) only [↓bxD, bxP, bxQ, Nat.reduceBEq, reduceCtorEq, Nat.reduceAdd, Nat.reduceSub, Nat.reduceMul, Nat.reduceLeDiff, Nat.reduceLT, bxR, h0, h4, h5]
  refine bindP_call (is_any (q := 43) (by omega) hr) ?_
  rintro m M2 ⟨⟨r, rfl, hr2⟩, x2⟩
  have n2 := x2.n
  have l2 := x2.lo
  cases r with
  | true =>
    simp (maxSteps := 4000000) (disch := first | omega | assumption | (simp only [bxS, bxV, stOk, Nat.reduceBEq, Nat.reduceEqDiff, Nat.reduceAdd]; done) | (simp only [bxU]; omega) | ((try apply has_setN); apply has_ofL; simp only [bxL]; omega)) only [↓bxD, bxP, bxQ, Nat.reduceBEq, reduceCtorEq, Nat.reduceAdd, Nat.reduceSub, Nat.reduceMul, Nat.reduceLeDiff, Nat.reduceLT, bxR, h0, h4, h5]
    show Wp fns K60_1 _ _ _
    unfold K60_1
    simp (maxSteps := 4000000) (disch := first | omega | assumption | (simp only [bxS, bxV, stOk, Nat.reduceBEq, Nat.reduceEqDiff, Nat.reduceAdd]; done) | (simp only [bxU]; omega) | ((try apply has_setN); apply has_ofL; simp only [bxL]; omega)) only [↓bxD, bxP, bxQ, Nat.reduceBEq, reduceCtorEq, Nat.reduceAdd, Nat.reduceSub, Nat.reduceMul, Nat.reduceLeDiff, Nat.reduceLT, bxR, h0, h4, h5]
    refine bindP_call (is_any (q := 63) (by omega) (hr.ext x2)) ?_
    rintro m M3 ⟨⟨r3, rfl, hr3⟩, x3⟩
    cases r3 with
    | true =>
      simp (maxSteps := 4000000) (disch := first | omega | assumption | (simp only [bxS, bxV, stOk, Nat.reduceBEq, Nat.reduceEqDiff, Nat.reduceAdd]; done) | (simp only [bxU]; omega) | ((try apply has_setN); apply has_ofL; simp only [bxL]; omega)) only [↓bxD, bxP, bxQ, Nat.reduceBEq, reduceCtorEq, Nat.reduceAdd, Nat.reduceSub, Nat.reduceMul, Nat.reduceLeDiff, Nat.reduceLT, bxR, h0, h4, h5]
      show Wp fns K60_0 _ _ _
      exact fin _ M3 6 (by omega) (by simp only [bxP, bxQ, reduceCtorEq, h0, h4, h5]) (by simp only [bxP, bxQ, reduceCtorEq, h0, h4, h5]) (by simp only [bxP, bxQ, reduceCtorEq, h0, h4, h5]) (by simp only [bxP, bxQ, reduceCtorEq, h0, h4, h5] <;> rfl) (x2.trans x3)
    | false =>
      simp (maxSteps := 4000000) (disch := first | omega | assumption | (simp only [bxS, bxV, stOk, Nat.reduceBEq, Nat.reduceEqDiff, Nat.reduceAdd]; done) | (simp only [bxU]; omega) | ((try apply has_setN); apply has_ofL; simp only [bxL]; omega)) only [↓bxD, bxP, bxQ, Nat.reduceBEq, reduceCtorEq, Nat.reduceAdd, Nat.reduceSub, Nat.reduceMul, Nat.reduceLeDiff, Nat.reduceLT, bxR, h0, h4, h5]
      show Wp fns K60_0 _ _ _
      exact fin _ M3 5 (by omega) (by simp only [bxP, bxQ, reduceCtorEq, h0, h4, h5]) (by simp only [bxP, bxQ, reduceCtorEq, h0, h4, h5]) (by simp only [bxP, bxQ, reduceCtorEq, h0, h4, h5]) (by simp only [bxP, bxQ, reduceCtorEq, h0, h4, h5] <;> rfl) (x2.trans x3)
  | false =>
    simp (maxSteps := 4000000) (disch := first | omega | assumption | (simp only [bxS, bxV, stOk, Nat.reduceBEq, Nat.reduceEqDiff, Nat.reduceAdd]; done) | (simp only [bxU]; omega) | ((try apply has_setN); apply has_ofL; simp only [bxL]; omega)) only [↓bxD, bxP, bxQ, Nat.reduceBEq, reduceCtorEq, Nat.reduceAdd, Nat.reduceSub, Nat.reduceMul, Nat.reduceLeDiff, Nat.reduceLT, bxR, h0, h4, h5]
    show Wp fns K60_1 _ _ _
    unfold K60_1
    simp (maxSteps := 4000000) (disch := first | omega | assumption | (simp only [bxS, bxV, stOk, Nat.reduceBEq, Nat.reduceEqDiff, Nat.reduceAdd]; done) | (simp only [bxU]; omega) | ((try apply has_setN); apply has_ofL; simp only [bxL]; omega)) only [↓bxD, bxP, bxQ, Nat.reduceBEq, reduceCtorEq, Nat.reduceAdd, Nat.reduceSub, Nat.reduceMul, Nat.reduceLeDiff, Nat.reduceLT, bxR, h0, h4, h5]
    refine bindP_call (is_any (q := 63) (by omega) (hr.ext x2)) ?_
    rintro m M3 ⟨⟨r3, rfl, hr3⟩, x3⟩
    cases r3 with
    | true =>
      simp (maxSteps := 4000000) (disch := first | omega | assumption | (simp only [bxS, bxV, stOk, Nat.reduceBEq, Nat.reduceEqDiff, Nat.reduceAdd]; done) | (simp only [bxU]; omega) | ((try apply has_setN); apply has_ofL; simp only [bxL]; omega)) only [↓bxD, bxP, bxQ, Nat.reduceBEq, reduceCtorEq, Nat.reduceAdd, Nat.reduceSub, Nat.reduceMul, Nat.reduceLeDiff, Nat.reduceLT, bxR, h0, h4, h5]
      show Wp fns K60_0 _ _ _
      exact fin _ M3 6 (by omega) (by simp only [bxP, bxQ, reduceCtorEq, h0, h4, h5]) (by simp only [bxP, bxQ, reduceCtorEq, h0, h4, h5]) (by simp only [bxP, bxQ, reduceCtorEq, h0, h4, h5]) (by simp only [bxP, bxQ, reduceCtorEq, h0, h4, h5] <;> rfl) (x2.trans x3)
    | false =>
      simp (maxSteps := 4000000) (disch := first | omega | assumption | (simp only [bxS, bxV, stOk, Nat.reduceBEq, Nat.reduceEqDiff, Nat.reduceAdd]; done) | (simp only [bxU]; omega) | ((try apply has_setN); apply has_ofL; simp only [bxL]; omega)) only [↓bxD, bxP, bxQ, Nat.reduceBEq, reduceCtorEq, Nat.reduceAdd, Nat.reduceSub, Nat.reduceMul, Nat.reduceLeDiff, Nat.reduceLT, bxR, h0, h4, h5]
      show Wp fns K60_0 _ _ _
      exact fin _ M3 4 (by omega) (by simp only [bxP, bxQ, reduceCtorEq, h0, h4, h5]) (by simp only [bxP, bxQ, reduceCtorEq, h0, h4, h5]) (by simp only [bxP, bxQ, reduceCtorEq, h0, h4, h5]) (by simp only [bxP, bxQ, reduceCtorEq, h0, h4, h5] <;> rfl) (x2.trans x3)
theorem rrep_any {d : Nat} (hd : d ≤ 20) (ih : d < 20 → AltIH (d + 1)) {M : MH} {rx : Nat} {s : ByteArray} {k : Nat} {c : Ev.T MV} {bad : Int} (hs : s.size ≤ 1000) (hlo : M.lo ≤ rx) (hk : k < s.size) (hr : RdAt M rx s k 0 c bad) : Cp fns 60 [.p rx 0, .i .i64 (d : Int)] M (PPost s rx d 1 k M) := by
  have hlt := hr.lt
  refine Cp_call (fn := F60) (by kernel_rfl) (Nat.le_of_ble_eq_true rfl) ?_
  show Wp fns B60 (T.set q1 (some (.i .i64 (d : Int))) (T.set q0 (some (.p rx 0)) T.lf)) M _
  unfold B60
  simp (maxSteps := 4000000) (disch := first | omega | assumption | (simp only [bxS, bxV, stOk, Nat.reduceBEq, Nat.reduceEqDiff, Nat.reduceAdd]; done) | (simp only [bxU]; omega) | ((try apply has_setN); apply has_ofL; simp only [bxL]; omega)) only [↓bxD, bxP, bxQ, Nat.reduceBEq, reduceCtorEq, Nat.reduceAdd, Nat.reduceSub, Nat.reduceMul, Nat.reduceLeDiff, Nat.reduceLT, bxR]
  generalize hM1 : M.push _ = M1
  have g4 : M1.get M.n = some (.cs false 6 (ofL z6 0)) := by rw [← hM1]; exact push_new _
  have x1 : Ext M M1 := by rw [← hM1]; exact .push M _
  have n1 : M1.n = M.n + 1 := by rw [← hM1]; rfl
  have l1 := x1.lo
  clear hM1
  refine bindP_call (atom_any hd ih hs (by omega) hk (hr.ext x1)) ?_
  rintro m M2 ⟨e, k2, es, rfl, hes, ⟨c2, bad2, hr2⟩, hc2, hk2, hx2⟩
  have n2 := hc2.n
  have l2 := hc2.lo
  have hes1 := hes.stok
  have hcl : MV.cells (.ag es) = es := by obtain ⟨_, _, _, _, _, _, rfl, _⟩ := hes; rfl
  simp (maxSteps := 4000000) (disch := first | omega | assumption | (simp only [bxS, bxV, stOk, Nat.reduceBEq, Nat.reduceEqDiff, Nat.reduceAdd]; done) | (simp only [bxU]; omega) | ((try apply has_setN); apply has_ofL; simp only [bxL]; omega)) only [↓bxD, bxP, bxQ, Nat.reduceBEq, reduceCtorEq, Nat.reduceAdd, Nat.reduceSub, Nat.reduceMul, Nat.reduceLeDiff, Nat.reduceLT, bxR, hes1, hcl]
  generalize hM3 : (M2.push _).set M2.n _ = M3
  have x3 : Ext M2 M3 := by rw [← hM3]; exact (Ext.push M2 _).set _ (Nat.le_refl _)
  have n3 : M3.n = M2.n + 1 := by rw [← hM3]; rfl
  have l3 := x3.lo
  have g5 : M3.get M2.n = some (.cs false 6 (setN es 0 (ofL z6 0))) := by rw [← hM3, set_same]; rfl
  clear hM3
  have st : ∀ f', X.ev f' (.t q0) = .p rx 0 → X.ev f' (.t q4) = .p M.n 0 → X.ev f' (.t q5) = .p M2.n 0 → RpSt M M3 rx d k M2.n s k2 e es f' := fun f' e0 e4 e5 => by
    refine ⟨⟨c2, bad2, hr2.ext x3⟩, ((Chg.of x1).trans hc2).trans (.of x3), hlt, hlo, hs, (x3.old _ (by omega)).trans ((hc2.old _ (by omega) (by omega)).trans g4), ⟨by omega, by omega⟩, ⟨_, g5, at_setN _ _ _⟩, hes, hd, hk2, fun q => ?_, e0, e4, e5⟩
    obtain ⟨w1, w2, y, w3, w4, w5⟩ := hx2 q
    exact ⟨w1, w2, y, XIn.more (by omega) (fun j hj hj2 => ⟨⟨by omega, by omega⟩, x3.old j hj2⟩) w3, w4, by omega⟩
  refine Wp_inv (σ := Nat × Int × List MV) (fun p f' M' => RpSt M M' rx d k M2.n s p.1 p.2.1 p.2.2 f') (fun p => s.size + 24 - p.1) ?_ (k2, e, es) (st _ (by simp only [bxP, bxQ, reduceCtorEq, hes1, hcl]) (by simp only [bxP, bxQ, reduceCtorEq, hes1, hcl]) (by simp only [bxP, bxQ, reduceCtorEq, hes1, hcl]))
  rintro ⟨k', e1, es1⟩ f1 M4 h
  simp only at h
  obtain ⟨c4, bad4, hr4⟩ := h.rd
  have h0 := h.f0
  have g := hr4.g
  have c2' : cget c4 2 = some (.i .i64 e1) := hr4.at_ 2 _ rfl
  have hn := h.ch.n
  have hl := h.ch.lo
  simp only [q0] at h0
  have body : ∀ (f' : Fr) (M' : MH), RpSt M M' rx d k M2.n s k' 0 es1 f' → k' < s.size → Wp fns K60_2 f' M' fun ex f' M' => match ex with
      | .norm => ∃ s' : Nat × Int × List MV, s.size + 24 - s'.1 < s.size + 24 - k' ∧ RpSt M M' rx d k M2.n s s'.1 s'.2.1 s'.2.2 f'
      | ex => blockQ 0 (thenQ fns K60_4 (retQ F60 (PPost s rx d 1 k M))) ex f' M' := fun f' M' h' hlt => by
    refine rep_body h' hlt _ fun f2 M5 es2 h2 => ⟨(k' + 1, 0, es2), by simp only; omega, h2⟩
  unfold L60_3
  by_cases he : e1 = 0
  · subst he
    simp (maxSteps := 4000000) (disch := first | omega | assumption | (simp only [bxS, bxV, stOk, Nat.reduceBEq, Nat.reduceEqDiff, Nat.reduceAdd]; done) | (simp only [bxU]; omega) | ((try apply has_setN); apply has_ofL; simp only [bxL]; omega)) only [↓bxD, bxP, bxQ, Nat.reduceBEq, reduceCtorEq, Nat.reduceAdd, Nat.reduceSub, Nat.reduceMul, Nat.reduceLeDiff, Nat.reduceLT, bxR, h0, g, c2', nck_p, Nat.zero_add]
    refine bindP_call (is_any (q := 42) (by omega) hr4) ?_
    rintro m M5 ⟨⟨r, rfl, hr5⟩, x5⟩
    have n5 := x5.n
    have l5 := x5.lo
    have hr45 := hr4.ext x5
    cases r with
    | true =>
      simp (maxSteps := 4000000) (disch := first | omega | assumption | (simp only [bxS, bxV, stOk, Nat.reduceBEq, Nat.reduceEqDiff, Nat.reduceAdd]; done) | (simp only [bxU]; omega) | ((try apply has_setN); apply has_ofL; simp only [bxL]; omega)) only [↓bxD, bxP, bxQ, Nat.reduceBEq, reduceCtorEq, Nat.reduceAdd, Nat.reduceSub, Nat.reduceMul, Nat.reduceLeDiff, Nat.reduceLT, bxR, h0]
      show Wp fns K60_2 _ _ _
      exact body _ _ (h.ext x5 (by simp only [bxP, bxQ, reduceCtorEq, h0]) (by simp only [bxP, bxQ, reduceCtorEq, h0]) (by simp only [bxP, bxQ, reduceCtorEq, h0])) (hr5 rfl)
    | false =>
      simp (maxSteps := 4000000) (disch := first | omega | assumption | (simp only [bxS, bxV, stOk, Nat.reduceBEq, Nat.reduceEqDiff, Nat.reduceAdd]; done) | (simp only [bxU]; omega) | ((try apply has_setN); apply has_ofL; simp only [bxL]; omega)) only [↓bxD, bxP, bxQ, Nat.reduceBEq, reduceCtorEq, Nat.reduceAdd, Nat.reduceSub, Nat.reduceMul, Nat.reduceLeDiff, Nat.reduceLT, bxR, h0]
      refine bindP_call (is_any (q := 43) (by omega) hr45) ?_
      rintro m M6 ⟨⟨r, rfl, hr6⟩, x6⟩
      have n6 := x6.n
      have l6 := x6.lo
      have hr46 := hr45.ext x6
      cases r with
      | true =>
        simp (maxSteps := 4000000) (disch := first | omega | assumption | (simp only [bxS, bxV, stOk, Nat.reduceBEq, Nat.reduceEqDiff, Nat.reduceAdd]; done) | (simp only [bxU]; omega) | ((try apply has_setN); apply has_ofL; simp only [bxL]; omega)) only [↓bxD, bxP, bxQ, Nat.reduceBEq, reduceCtorEq, Nat.reduceAdd, Nat.reduceSub, Nat.reduceMul, Nat.reduceLeDiff, Nat.reduceLT, bxR, h0]
        show Wp fns K60_2 _ _ _
        exact body _ _ (h.ext (x5.trans x6) (by simp only [bxP, bxQ, reduceCtorEq, h0]) (by simp only [bxP, bxQ, reduceCtorEq, h0]) (by simp only [bxP, bxQ, reduceCtorEq, h0])) (hr6 rfl)
      | false =>
        simp (maxSteps := 4000000) (disch := first | omega | assumption | (simp only [bxS, bxV, stOk, Nat.reduceBEq, Nat.reduceEqDiff, Nat.reduceAdd]; done) | (simp only [bxU]; omega) | ((try apply has_setN); apply has_ofL; simp only [bxL]; omega)) only [↓bxD, bxP, bxQ, Nat.reduceBEq, reduceCtorEq, Nat.reduceAdd, Nat.reduceSub, Nat.reduceMul, Nat.reduceLeDiff, Nat.reduceLT, bxR, h0]
        refine bindP_call (is_any (q := 63) (by omega) hr46) ?_
        rintro m M7 ⟨⟨r, rfl, hr7⟩, x7⟩
        cases r with
        | true =>
          simp (maxSteps := 4000000) (disch := first | omega | assumption | (simp only [bxS, bxV, stOk, Nat.reduceBEq, Nat.reduceEqDiff, Nat.reduceAdd]; done) | (simp only [bxU]; omega) | ((try apply has_setN); apply has_ofL; simp only [bxL]; omega)) only [↓bxD, bxP, bxQ, Nat.reduceBEq, reduceCtorEq, Nat.reduceAdd, Nat.reduceSub, Nat.reduceMul, Nat.reduceLeDiff, Nat.reduceLT, bxR, h0]
          show Wp fns K60_2 _ _ _
          exact body _ _ (h.ext ((x5.trans x6).trans x7) (by simp only [bxP, bxQ, reduceCtorEq, h0]) (by simp only [bxP, bxQ, reduceCtorEq, h0]) (by simp only [bxP, bxQ, reduceCtorEq, h0])) (hr7 rfl)
        | false =>
          simp (maxSteps := 4000000) (disch := first | omega | assumption | (simp only [bxS, bxV, stOk, Nat.reduceBEq, Nat.reduceEqDiff, Nat.reduceAdd]; done) | (simp only [bxU]; omega) | ((try apply has_setN); apply has_ofL; simp only [bxL]; omega)) only [↓bxD, bxP, bxQ, Nat.reduceBEq, reduceCtorEq, Nat.reduceAdd, Nat.reduceSub, Nat.reduceMul, Nat.reduceLeDiff, Nat.reduceLT, bxR, h0]
          show Wp fns K60_4 _ _ _
          exact rep_end (h.ext ((x5.trans x6).trans x7) (by simp only [bxP, bxQ, reduceCtorEq, h0]) (by simp only [bxP, bxQ, reduceCtorEq, h0]) (by simp only [bxP, bxQ, reduceCtorEq, h0]))
  · have ed : decide (e1 = 0) = false := decide_eq_false he
    simp (maxSteps := 4000000) (disch := first | omega | assumption | (simp only [bxS, bxV, stOk, Nat.reduceBEq, Nat.reduceEqDiff, Nat.reduceAdd]; done) | (simp only [bxU]; omega) | ((try apply has_setN); apply has_ofL; simp only [bxL]; omega)) only [↓bxD, bxP, bxQ, Nat.reduceBEq, reduceCtorEq, Nat.reduceAdd, Nat.reduceSub, Nat.reduceMul, Nat.reduceLeDiff, Nat.reduceLT, bxR, h0, g, c2', ed, nck_p, Nat.zero_add]
    show Wp fns K60_4 _ _ _
    exact rep_end (h.ext (.refl _) (by simp only [bxP, bxQ, reduceCtorEq, h0, g, c2', ed, nck_p, Nat.zero_add]) (by simp only [bxP, bxQ, reduceCtorEq, h0, g, c2', ed, nck_p, Nat.zero_add]) (by simp only [bxP, bxQ, reduceCtorEq, h0, g, c2', ed, nck_p, Nat.zero_add]))
def NotRow (b : Nat) (r : MV) (j : Nat) : Prop := b < j ∧ ∀ o n d, r ≠ .sl j o n d
structure SqSt (M0 M : MH) (rx d k : Nat) (s : ByteArray) (k' : Nat) (e : Int) (r : MV) (es : List (List MV)) : Prop where
  rd : ∃ c bad, RdAt M rx s k' e c bad
  ch : Chg (fun j => j = rx) M0 M
  rx0 : rx < M0.n
  lo : M0.lo ≤ rx
  sz : s.size ≤ 1000
  hd : d ≤ 20
  g4 : M.get M0.n = some (.cs false 6 (ofL z6 0))
  n : M0.n < M.n
  row : OwnRow (M0.n + 1) M 6 r es
  re : ∀ x ∈ es, ReC x
  hk : k' + d ≤ s.size + 23
  len : es.length ≤ 2000
theorem SqSt.ext {M0 M M' : MH} {rx d k : Nat} {s : ByteArray} {k' : Nat} {e : Int} {r : MV} {es : List (List MV)} (h : SqSt M0 M rx d k s k' e r es) (x : Ext M M') : SqSt M0 M' rx d k s k' e r es := by
  obtain ⟨c, bad, hr⟩ := h.rd
  exact ⟨⟨c, bad, hr.ext x⟩, h.ch.trans (.of x), h.rx0, h.lo, h.sz, h.hd, (x.old _ h.n).trans h.g4, Nat.lt_of_lt_of_le h.n x.n, h.row.ext x, h.re, h.hk, h.len⟩
theorem seq_app {M0 M M2 : MH} {rx d k : Nat} {s : ByteArray} {k' k2 : Nat} {e e2 : Int} {r : MV} {es : List (List MV)} {y : List MV} (h : SqSt M0 M rx d k s k' e r es) (hy : ReC y) (hr2 : ∃ c bad, RdAt M2 rx s k2 e2 c bad) (hc2 : Chg (fun j => j = rx) M M2) (hk2 : k2 + d ≤ s.size + 23) (hl2 : es.length + 1 ≤ 2000) {xs : List Rx} :
    ∃ r' M4, appM (M2.push (.cs false 6 (ofL y 0))) 6 64 r (.sl M2.n 0 1 0) = some (r', M4) ∧ SqSt M0 M4 rx d k s k2 e2 r' (es ++ [y]) ∧
      (XsIn (NotRow M0.n r) M es xs → ∀ x, XIn (fun j => M.n ≤ j) M2 y x → XsIn (NotRow M0.n r') M4 (es ++ [y]) (xs ++ [x])) := by
  have hn := h.n
  have hrx := h.rx0
  have hlo := h.lo
  have hcn := h.ch.n
  have hcl := h.ch.lo
  have n2 := hc2.n
  have l2 := hc2.lo
  have hrow2 : OwnRow (M0.n + 1) M2 6 r es := h.row.keep n2 fun a o n d e => by
    obtain ⟨_, ⟨rfl, _⟩ | ⟨id, c, rfl, h2, h3, h4, h5⟩⟩ := h.row
    · cases e
    · injection e with e1
      subst e1
      exact hc2.old _ h4 (by omega)
  have x3 : Ext M2 (M2.push (.cs false 6 (ofL y 0))) := .push _ _
  obtain ⟨r', M4, a1, a2, a3, a4, a5, a6, a7⟩ := app_rowX (bytes := 64) (hrow2.ext x3) (row_one (M := M2) (sz := 6) (e := y) hy.len) (by rw [push_lo]; omega) (by rw [push_n]; omega) (fun x hx => by rw [List.mem_singleton.1 hx]; exact hy.one) (by rw [List.length_singleton]; omega) (by rw [List.length_singleton]; omega)
  rw [push_n] at a3
  rw [push_lo] at a4
  refine ⟨r', M4, a1, ⟨?_, ⟨by omega, by omega, fun j hj hj2 => ?_⟩, hrx, hlo, h.sz, h.hd, ?_, by omega, a2, fun x hx => ?_, hk2, ?_⟩, fun hX x hx => ?_⟩
  · obtain ⟨c2, bad2, hr2⟩ := hr2
    exact ⟨c2, bad2, ⟨by rw [a6 rx (by omega) (by rw [push_n]; omega)]; exact (x3.old rx (by omega)).trans hr2.g, hr2.at_, by omega⟩⟩
  · rw [a6 j (by omega) (by rw [push_n]; omega), x3.old j (by omega), hc2.old j (by omega) hj2]
    exact h.ch.old j hj hj2
  · rw [a6 M0.n (by omega) (by rw [push_n]; omega), x3.old M0.n (by omega), hc2.old M0.n hn (by omega)]
    exact h.g4
  · rcases List.mem_append.1 hx with hx | hx
    · exact h.re x hx
    · rw [List.mem_singleton.1 hx]; exact hy
  · rw [List.length_append, List.length_singleton]
    exact hl2
  · obtain ⟨nn, e7⟩ := a7 (by simp)
    rw [push_n] at e7
    have hnew : ∀ j, M0.n < j → j < M2.n → NotRow M0.n r' j := fun j hj hj2 => ⟨hj, fun o n d e => by
      rw [e7] at e
      injection e with e1
      omega⟩
    have hget : ∀ j, j < M2.n → (∀ a b n d, r = .sl a b n d → a ≠ j) → M4.get j = M2.get j := fun j hj hne => (a5 j (by rw [push_n]; omega) hne).trans (x3.old j hj)
    refine XsIn.app (XsIn.more (by omega) (fun j hj hj2 => ⟨hnew j hj.1 (by omega), ?_⟩) hX) (XIn.more (by omega) (fun j hj hj2 => ⟨hnew j (by omega) hj2, ?_⟩) hx)
    · rw [hget j (by omega) fun a b n d e q => hj.2 b n d (by rw [e, q])]
      exact hc2.old j hj2 (by have := hj.1; omega)
    · refine hget j hj2 fun a b n d e q => ?_
      obtain ⟨_, ⟨hn', _⟩ | ⟨id, c, hs, h2, h3, h4, h5⟩⟩ := h.row
      · rw [hn'] at e; cases e
      · rw [hs] at e
        injection e with e1
        omega
theorem SqSt.rs {M0 M : MH} {rx d k : Nat} {s : ByteArray} {k' : Nat} {e : Int} {r : MV} {es : List (List MV)} (h : SqSt M0 M rx d k s k' e r es) : isSl r = true ∧ slen r = es.length := h.row.row.sl
theorem many_rec {r : MV} (op : Int) (hr : isSl r = true) : ReC [.i .i64 op, .i .u64 0, .i .u64 0, .i .u64 0, .i .u64 0, r] := ⟨op, 0, 0, 0, 0, r, rfl, hr⟩
theorem many_in {M0 M : MH} {rx d k : Nat} {s : ByteArray} {k' : Nat} {e : Int} {r : MV} {es : List (List MV)} {xs : List Rx} (h : SqSt M0 M rx d k s k' e r es) (hX : XsIn (NotRow M0.n r) M es xs) (hw : WkL xs) (op : Int) (hne : es ≠ []) :
    XIn (fun j => M0.n < j) M [.i .i64 op, .i .u64 0, .i .u64 0, .i .u64 0, .i .u64 0, r] (.mk op 0 0 0 0 xs) ∧ Wk (.mk op 0 0 0 0 xs) ∧ wei (.mk op 0 0 0 0 xs) = 2 + weiL xs := by
  have hl := hX.len
  obtain ⟨r1, r2⟩ := h.rs
  refine ⟨⟨r, rfl, r1, by rw [r2, hl], ?_⟩, ?_, by rw [wei]⟩
  · have hX' : XsIn (fun j => M0.n < j) M es xs := XsIn.more (Nat.le_refl _) (fun j hj _ => ⟨hj.1, rfl⟩) hX
    obtain ⟨_, ⟨hn, he⟩ | ⟨id, c, hs, h2, h3, h4, h5⟩⟩ := h.row
    · exact (hne he).elim
    · rw [hs]
      exact XsIn.blks h2 (by omega) h4 hX' h5
  · rw [Wk]
    refine ⟨fun _ q => hne ?_, hw⟩
    rw [q] at hl
    exact List.length_eq_zero_iff.1 hl
theorem single_get {M0 M : MH} {rx d k : Nat} {s : ByteArray} {k' : Nat} {e : Int} {r : MV} {y : List MV} (h : SqSt M0 M rx d k s k' e r [y]) : ∃ id t, r = .sl id 0 1 0 ∧ M.get id = some (.cs false 6 t) ∧ getN t 6 0 = some y := by
  obtain ⟨_, ⟨hn, he⟩ | ⟨id, c, hs, h2, h3, h4, h5⟩⟩ := h.row
  · cases he
  · refine ⟨id, c, hs, h2, ?_⟩
    rw [List.flatten_cons, List.flatten_nil, List.append_nil] at h5
    have := h5.getN
    rwa [(h.re y List.mem_cons_self).len] at this
theorem seq_any {d : Nat} (hd : d ≤ 20) (ih : d < 20 → AltIH (d + 1)) {M : MH} {rx : Nat} {s : ByteArray} {k : Nat} {c : Ev.T MV} {bad : Int} (hs : s.size ≤ 1000) (hlo : M.lo ≤ rx) (hk : k ≤ s.size) (hr : RdAt M rx s k 0 c bad) : Cp fns 38 [.p rx 0, .i .i64 (d : Int)] M (PPost s rx d 0 k M) := by
  have hlt := hr.lt
  refine Cp_call (fn := F38) (by kernel_rfl) (Nat.le_of_ble_eq_true rfl) ?_
  show Wp fns B38 (T.set q1 (some (.i .i64 (d : Int))) (T.set q0 (some (.p rx 0)) T.lf)) M _
  unfold B38
  simp (maxSteps := 4000000) (disch := first | omega | assumption | (simp only [bxS, bxV, stOk, Nat.reduceBEq, Nat.reduceEqDiff, Nat.reduceAdd]; done) | (simp only [bxU]; omega) | ((try apply has_setN); apply has_ofL; simp only [bxL]; omega)) only [↓bxD, bxP, bxQ, Nat.reduceBEq, reduceCtorEq, Nat.reduceAdd, Nat.reduceSub, Nat.reduceMul, Nat.reduceLeDiff, Nat.reduceLT, bxR]
  generalize hM1 : M.push _ = M1
  have g4 : M1.get M.n = some (.cs false 6 (ofL z6 0)) := by rw [← hM1]; exact push_new _
  have x1 : Ext M M1 := by rw [← hM1]; exact .push M _
  have n1 : M1.n = M.n + 1 := by rw [← hM1]; rfl
  have l1 := x1.lo
  clear hM1
  have st1 : SqSt M M1 rx d k s k 0 .nils [] := ⟨⟨c, bad, hr.ext x1⟩, .of x1, hlt, hlo, hs, hd, g4, by omega, OwnRow.nil _ _ _, fun x hx => (by cases hx), by omega, by simp⟩
  have fin : ∀ (f' : Fr) (M' : MH) (k' : Nat) (e : Int) (r : MV) (es : List (List MV)), SqSt M M' rx d k s k' e r es → X.ev f' (.t q4) = .p M.n 0 → X.ev f' (.t q5) = r → (e = 0 → k ≤ k' ∧ k' ≤ s.size ∧ ∃ xs, XsIn (NotRow M.n r) M' es xs ∧ WkL xs ∧ weiL xs + 2 * es.length ≤ 4 * (k' - k)) → Wp fns K38_3 f' M' (retQ F38 (PPost s rx d 0 k M)) := by
    intro f' M' k' e r es h h4 h5 hok
    have h4' := slot_get h4
    have hcl := h.ch.lo
    have hcn := h.ch.n
    have g := h.g4
    obtain ⟨r1, r2⟩ := h.rs
    simp only [q4, q5] at h4 h4' h5
    unfold K38_3
    match es, h, hok, r2 with
    | [], h, hok, r2 =>
      have hes := none_rec
      have hS : stW M' 6 M.n 0 (.ag z6) _ = _ := re_st (M' := M') (id := M.n) hes (by omega)
      have hg6 : ∀ t, getN (setN z6 0 t) 6 0 = some z6 := fun t => re_get hes t
      have ff : fillM [] z6 = some z6 := rfl
      have d0 : decide (((0 : Nat) : Int) = 0) = true := rfl
      unfold z6 at hS hg6 ff g
      simp (maxSteps := 4000000) (disch := first | omega | assumption | (simp only [bxS, bxV, stOk, Nat.reduceBEq, Nat.reduceEqDiff, Nat.reduceAdd]; done) | (simp only [bxU]; omega) | ((try apply has_setN); apply has_ofL; simp only [bxL]; omega)) only [↓bxD, bxP, bxQ, Nat.reduceBEq, reduceCtorEq, Nat.reduceAdd, Nat.reduceSub, Nat.reduceMul, Nat.reduceLeDiff, Nat.reduceLT, bxR, h4, h4', h5, r1, r2, d0, g, ff, hS, set_same, res_cN, cNV_p, cNo_cs, get_set, hg6, map_ag]
      refine atom_fin hes h.rd hlt h.ch h.hk fun q => ?_
      obtain ⟨w1, w2, _⟩ := hok q
      refine ⟨by omega, w2, .mk 0 0 0 0 0 [], ⟨.nils, rfl, rfl, rfl, by unfold BlksIn; trivial⟩, ?_, by simp [wei, weiL]⟩
      rw [Wk, WkL]
      exact ⟨fun h => by omega, trivial⟩
    | [y], h, hok, r2 =>
      have hes := h.re y List.mem_cons_self
      obtain ⟨id, t, hr', g6, hN⟩ := single_get h
      have hS := re_st (M' := M') (id := M.n) hes (by omega)
      have hg6 := re_get hes (ofL z6 0)
      have d0 : decide (((1 : Nat) : Int) = 0) = false := rfl
      have d1 : decide (((1 : Nat) : Int) = 1) = true := rfl
      have hix : ixV 6 r (.i .i64 0) = some (.p id (0 + 0 * 6)) := by rw [hr']; exact ix_sl (v := .sl id 0 1 0) (i := 0) rfl (by show 0 < 1; omega)
      simp (maxSteps := 4000000) (disch := first | omega | assumption | (simp only [bxS, bxV, stOk, Nat.reduceBEq, Nat.reduceEqDiff, Nat.reduceAdd]; done) | (simp only [bxU]; omega) | ((try apply has_setN); apply has_ofL; simp only [bxL]; omega)) only [↓bxD, bxP, bxQ, Nat.reduceBEq, reduceCtorEq, Nat.reduceAdd, Nat.reduceSub, Nat.reduceMul, Nat.reduceLeDiff, Nat.reduceLT, bxR, h4, h4', h5, r1, r2, d0, d1, hix, g6, hN, g, hS, set_same, res_cN, cNV_p, cNo_cs, get_set, hg6, map_ag]
      refine atom_fin hes h.rd hlt h.ch h.hk fun q => ?_
      obtain ⟨w1, w2, xs, w3, w4, w5⟩ := hok q
      match xs, w3, w4, w5 with
      | [x], w3, w4, w5 =>
        rw [WkL] at w4
        simp only [weiL, List.length_singleton] at w5
        exact ⟨by omega, w2, x, XIn.more (Nat.le_refl _) (fun j hj _ => ⟨hj.1, rfl⟩) w3.1, w4.1, by omega⟩
    | y :: y2 :: l, h, hok, r2 =>
      have hes := many_rec 2 r1
      have hS := re_st (M' := M') (id := M.n) hes (by omega)
      have hg6 := re_get hes (ofL z6 0)
      have d0 : decide (((l.length + 1 + 1 : Nat) : Int) = 0) = false := decide_eq_false (by omega)
      have d1 : decide (((l.length + 1 + 1 : Nat) : Int) = 1) = false := decide_eq_false (by omega)
      have hone : MV.one r = true := isSl_one r1
      have ff : fillM [(0, 1, MV.i .i64 2), (5, 1, r)] [.i .i64 0, .i .u64 0, .i .u64 0, .i .u64 0, .i .u64 0, .nils] = some [.i .i64 2, .i .u64 0, .i .u64 0, .i .u64 0, .i .u64 0, r] := by cases r <;> first | rfl | cases r1
      simp (maxSteps := 4000000) (disch := first | omega | assumption | (simp only [bxS, bxV, stOk, Nat.reduceBEq, Nat.reduceEqDiff, Nat.reduceAdd]; done) | (simp only [bxU]; omega) | ((try apply has_setN); apply has_ofL; simp only [bxL]; omega)) only [↓bxD, bxP, bxQ, Nat.reduceBEq, reduceCtorEq, Nat.reduceAdd, Nat.reduceSub, Nat.reduceMul, Nat.reduceLeDiff, Nat.reduceLT, bxR, h4, h4', h5, r1, r2, d0, d1, ff, g, hS, set_same, res_cN, cNV_p, cNo_cs, get_set, hg6, map_ag]
      show Wp fns K38_2 _ _ _
      unfold K38_2
      simp (maxSteps := 4000000) (disch := first | omega | assumption | (simp only [bxS, bxV, stOk, Nat.reduceBEq, Nat.reduceEqDiff, Nat.reduceAdd]; done) | (simp only [bxU]; omega) | ((try apply has_setN); apply has_ofL; simp only [bxL]; omega)) only [↓bxD, bxP, bxQ, Nat.reduceBEq, reduceCtorEq, Nat.reduceAdd, Nat.reduceSub, Nat.reduceMul, Nat.reduceLeDiff, Nat.reduceLT, bxR, h4, h4', h5, r1, r2, d0, d1, ff, g, hS, set_same, res_cN, cNV_p, cNo_cs, get_set, hg6, map_ag]
      refine atom_fin hes h.rd hlt h.ch h.hk fun q => ?_
      obtain ⟨w1, w2, xs, w3, w4, w5⟩ := hok q
      obtain ⟨v1, v2, v3⟩ := many_in h w3 w4 2 (by simp)
      simp only [List.length_cons] at w5
      exact ⟨by omega, w2, _, v1, v2, by rw [v3]; omega⟩
  refine Wp_inv (σ := Nat × Int × MV × List (List MV)) (fun p f' M' => SqSt M M' rx d k s p.1 p.2.1 p.2.2.1 p.2.2.2 ∧ X.ev f' (.t q0) = .p rx 0 ∧ X.ev f' (.t q1) = .i .i64 (d : Int) ∧ X.ev f' (.t q4) = .p M.n 0 ∧ X.ev f' (.t q5) = p.2.2.1 ∧ (p.2.1 = 0 → k ≤ p.1 ∧ p.1 ≤ s.size ∧ p.2.2.2.length ≤ p.1 ∧ ∃ xs, XsIn (NotRow M.n p.2.2.1) M' p.2.2.2 xs ∧ WkL xs ∧ weiL xs + 2 * p.2.2.2.length ≤ 4 * (p.1 - k))) (fun p => if p.2.1 = 0 then s.size + 1 - p.1 else 0) ?_ (k, 0, .nils, []) ?_
  · rintro ⟨k', e, r, es⟩ f1 M4 ⟨h, h0, h1, h4, h5, hok⟩
    simp only at h h5 hok
    obtain ⟨c4, bad4, hr4⟩ := h.rd
    have g := hr4.g
    have c2' : cget c4 2 = some (.i .i64 e) := hr4.at_ 2 _ rfl
    have hn := h.ch.n
    have hl := h.ch.lo
    have hq4 := h4
    have hq5 := h5
    simp only [q0, q1, q4, q5] at h0 h1 h4 h5
    have body : ∀ (f' : Fr) (M' : MH), e = 0 → k' < s.size → Ext M4 M' → X.ev f' (.t q0) = .p rx 0 → X.ev f' (.t q1) = .i .i64 (d : Int) → X.ev f' (.t q4) = .p M.n 0 → X.ev f' (.t q5) = r → Wp fns K38_0 f' M' fun ex f' M' => match ex with
        | .norm => ∃ s' : Nat × Int × MV × List (List MV), (if s'.2.1 = 0 then s.size + 1 - s'.1 else 0) < (if e = 0 then s.size + 1 - k' else 0) ∧ SqSt M M' rx d k s s'.1 s'.2.1 s'.2.2.1 s'.2.2.2 ∧ X.ev f' (.t q0) = .p rx 0 ∧ X.ev f' (.t q1) = .i .i64 (d : Int) ∧ X.ev f' (.t q4) = .p M.n 0 ∧ X.ev f' (.t q5) = s'.2.2.1 ∧ (s'.2.1 = 0 → k ≤ s'.1 ∧ s'.1 ≤ s.size ∧ s'.2.2.2.length ≤ s'.1 ∧ ∃ xs, XsIn (NotRow M.n s'.2.2.1) M' s'.2.2.2 xs ∧ WkL xs ∧ weiL xs + 2 * s'.2.2.2.length ≤ 4 * (s'.1 - k))
        | ex => blockQ 0 (thenQ fns K38_3 (retQ F38 (PPost s rx d 0 k M))) ex f' M' := by
      intro f' M' he hlt' x e0 e1 e4 e5
      subst he
      obtain ⟨w1, w2, w3, xs, w4, w5, w6⟩ := hok rfl
      have hx := h.ext x
      have l' := x.lo
      have n' := x.n
      have w4' : XsIn (NotRow M.n r) M' es xs := XsIn.more x.n (fun j hj hj2 => ⟨hj, x.old j hj2⟩) w4
      simp only [q0, q1, q4, q5] at e0 e1 e4 e5
      unfold K38_0
      simp (maxSteps := 4000000) (disch := first | omega | assumption | (simp only [bxS, bxV, stOk, Nat.reduceBEq, Nat.reduceEqDiff, Nat.reduceAdd]; done) | (simp only [bxU]; omega) | ((try apply has_setN); apply has_ofL; simp only [bxL]; omega)) only [↓bxD, bxP, bxQ, Nat.reduceBEq, reduceCtorEq, Nat.reduceAdd, Nat.reduceSub, Nat.reduceMul, Nat.reduceLeDiff, Nat.reduceLT, bxR, e0, e1, e4, e5]
      refine bindP_call (rrep_any hd ih hs (by omega) hlt' (hr4.ext x)) ?_
      rintro m M5 ⟨e2, k2, y, rfl, hy, hr5, hc5, hk5, hx5⟩
      have ff : fillM [(0, 6, MV.ag y)] z6 = some y := by obtain ⟨_, _, _, _, _, _, rfl, _⟩ := hy; rfl
      unfold z6 at ff
      obtain ⟨r', M6, a1, a2, a3⟩ := seq_app hx hy hr5 hc5 hk5 (by omega) (xs := xs)
      have n5 := hc5.n
      have l5 := hc5.lo
      have hlo5 : M5.lo ≤ M5.n := by omega
      simp (maxSteps := 4000000) (disch := first | omega | assumption | (simp only [bxS, bxV, stOk, Nat.reduceBEq, Nat.reduceEqDiff, Nat.reduceAdd]; done) | (simp only [bxU]; omega) | ((try apply has_setN); apply has_ofL; simp only [bxL]; omega)) only [↓bxD, bxP, bxQ, Nat.reduceBEq, reduceCtorEq, Nat.reduceAdd, Nat.reduceSub, Nat.reduceMul, Nat.reduceLeDiff, Nat.reduceLT, bxR, e0, e1, e4, e5, ff, bslW_some]
      refine bindP_of a1 ?_
      simp (maxSteps := 4000000) (disch := first | omega | assumption | (simp only [bxS, bxV, stOk, Nat.reduceBEq, Nat.reduceEqDiff, Nat.reduceAdd]; done) | (simp only [bxU]; omega) | ((try apply has_setN); apply has_ofL; simp only [bxL]; omega)) only [↓bxD, bxP, bxQ, Nat.reduceBEq, reduceCtorEq, Nat.reduceAdd, Nat.reduceSub, Nat.reduceMul, Nat.reduceLeDiff, Nat.reduceLT, bxR, e0, e1, e4, e5]
      refine ⟨(k2, e2, r', es ++ [y]), ?_, a2, rfl, fun q => ?_⟩
      · simp only
        split
        · rename_i q
          obtain ⟨v1, v2, _⟩ := hx5 q
          omega
        · omega
      · obtain ⟨v1, v2, x', v3, v4, v5⟩ := hx5 q
        refine ⟨by simp only; omega, v2, by simp only [List.length_append, List.length_singleton]; omega, xs ++ [x'], a3 w4' x' v3, WkL_app w5 (by rw [WkL, WkL]; exact ⟨v4, trivial⟩), ?_⟩
        rw [weiL_app]
        simp only [weiL, List.length_append, List.length_singleton]
        omega
    have done : ∀ (f' : Fr) (M' : MH), Ext M4 M' → X.ev f' (.t q4) = .p M.n 0 → X.ev f' (.t q5) = r → Wp fns K38_3 f' M' (retQ F38 (PPost s rx d 0 k M)) := fun f' M' x e4 e5 => by
      refine fin f' M' k' e r es (h.ext x) e4 e5 fun q => ?_
      obtain ⟨w1, w2, w3, xs, w4, w5, w6⟩ := hok q
      exact ⟨w1, w2, xs, XsIn.more x.n (fun j hj hj2 => ⟨hj, x.old j hj2⟩) w4, w5, w6⟩
    unfold L38_1
    by_cases he : e = 0
    · have ed : decide (e = 0) = true := decide_eq_true he
      have hM4lo : M4.lo ≤ M4.n := by omega
      simp (maxSteps := 4000000) (disch := first | omega | assumption | (simp only [bxS, bxV, stOk, Nat.reduceBEq, Nat.reduceEqDiff, Nat.reduceAdd]; done) | (simp only [bxU]; omega) | ((try apply has_setN); apply has_ofL; simp only [bxL]; omega)) only [↓bxD, bxP, bxQ, Nat.reduceBEq, reduceCtorEq, Nat.reduceAdd, Nat.reduceSub, Nat.reduceMul, Nat.reduceLeDiff, Nat.reduceLT, bxR, h0, h1, h4, h5, g, c2', ed, nck_p, Nat.zero_add]
      refine bindP_call (over_any hM4lo hr4) ?_
      rintro m M5 ⟨rfl, x5⟩
      have n5 := x5.n
      have l5 := x5.lo
      have hr45 := hr4.ext x5
      by_cases ho : s.size ≤ k'
      · have d1 : decide (s.size ≤ k') = true := decide_eq_true ho
        simp (maxSteps := 4000000) (disch := first | omega | assumption | (simp only [bxS, bxV, stOk, Nat.reduceBEq, Nat.reduceEqDiff, Nat.reduceAdd]; done) | (simp only [bxU]; omega) | ((try apply has_setN); apply has_ofL; simp only [bxL]; omega)) only [↓bxD, bxP, bxQ, Nat.reduceBEq, reduceCtorEq, Nat.reduceAdd, Nat.reduceSub, Nat.reduceMul, Nat.reduceLeDiff, Nat.reduceLT, bxR, h0, h1, h4, h5, d1]
        show Wp fns K38_3 _ _ _
        exact done _ _ x5 (by simp only [bxP, bxQ, reduceCtorEq, h0, h1, h4, h5, d1]) (by simp only [bxP, bxQ, reduceCtorEq, h0, h1, h4, h5, d1])
      · have d1 : decide (s.size ≤ k') = false := decide_eq_false ho
        simp (maxSteps := 4000000) (disch := first | omega | assumption | (simp only [bxS, bxV, stOk, Nat.reduceBEq, Nat.reduceEqDiff, Nat.reduceAdd]; done) | (simp only [bxU]; omega) | ((try apply has_setN); apply has_ofL; simp only [bxL]; omega)) only [↓bxD, bxP, bxQ, Nat.reduceBEq, reduceCtorEq, Nat.reduceAdd, Nat.reduceSub, Nat.reduceMul, Nat.reduceLeDiff, Nat.reduceLT, bxR, h0, h1, h4, h5, d1]
        refine bindP_call (is_any (q := 124) (by omega) hr45) ?_
        rintro m M6 ⟨⟨b, rfl, _⟩, x6⟩
        have n6 := x6.n
        have l6 := x6.lo
        have hr46 := hr45.ext x6
        cases b with
        | true =>
          simp (maxSteps := 4000000) (disch := first | omega | assumption | (simp only [bxS, bxV, stOk, Nat.reduceBEq, Nat.reduceEqDiff, Nat.reduceAdd]; done) | (simp only [bxU]; omega) | ((try apply has_setN); apply has_ofL; simp only [bxL]; omega)) only [↓bxD, bxP, bxQ, Nat.reduceBEq, reduceCtorEq, Nat.reduceAdd, Nat.reduceSub, Nat.reduceMul, Nat.reduceLeDiff, Nat.reduceLT, bxR, h0, h1, h4, h5, d1]
          show Wp fns K38_3 _ _ _
          exact done _ _ (x5.trans x6) (by simp only [bxP, bxQ, reduceCtorEq, h0, h1, h4, h5, d1]) (by simp only [bxP, bxQ, reduceCtorEq, h0, h1, h4, h5, d1])
        | false =>
          simp (maxSteps := 4000000) (disch := first | omega | assumption | (simp only [bxS, bxV, stOk, Nat.reduceBEq, Nat.reduceEqDiff, Nat.reduceAdd]; done) | (simp only [bxU]; omega) | ((try apply has_setN); apply has_ofL; simp only [bxL]; omega)) only [↓bxD, bxP, bxQ, Nat.reduceBEq, reduceCtorEq, Nat.reduceAdd, Nat.reduceSub, Nat.reduceMul, Nat.reduceLeDiff, Nat.reduceLT, bxR, h0, h1, h4, h5, d1]
          refine bindP_call (is_any (q := 41) (by omega) hr46) ?_
          rintro m M7 ⟨⟨b, rfl, _⟩, x7⟩
          cases b with
          | true =>
            simp (maxSteps := 4000000) (disch := first | omega | assumption | (simp only [bxS, bxV, stOk, Nat.reduceBEq, Nat.reduceEqDiff, Nat.reduceAdd]; done) | (simp only [bxU]; omega) | ((try apply has_setN); apply has_ofL; simp only [bxL]; omega)) only [↓bxD, bxP, bxQ, Nat.reduceBEq, reduceCtorEq, Nat.reduceAdd, Nat.reduceSub, Nat.reduceMul, Nat.reduceLeDiff, Nat.reduceLT, bxR, h0, h1, h4, h5, d1]
            show Wp fns K38_3 _ _ _
            exact done _ _ ((x5.trans x6).trans x7) (by simp only [bxP, bxQ, reduceCtorEq, h0, h1, h4, h5, d1]) (by simp only [bxP, bxQ, reduceCtorEq, h0, h1, h4, h5, d1])
          | false =>
            simp (maxSteps := 4000000) (disch := first | omega | assumption | (simp only [bxS, bxV, stOk, Nat.reduceBEq, Nat.reduceEqDiff, Nat.reduceAdd]; done) | (simp only [bxU]; omega) | ((try apply has_setN); apply has_ofL; simp only [bxL]; omega)) only [↓bxD, bxP, bxQ, Nat.reduceBEq, reduceCtorEq, Nat.reduceAdd, Nat.reduceSub, Nat.reduceMul, Nat.reduceLeDiff, Nat.reduceLT, bxR, h0, h1, h4, h5, d1]
            show Wp fns K38_0 _ _ _
            exact body _ _ he (by omega) ((x5.trans x6).trans x7) (by simp only [bxP, bxQ, reduceCtorEq, h0, h1, h4, h5, d1]) (by simp only [bxP, bxQ, reduceCtorEq, h0, h1, h4, h5, d1]) (by simp only [bxP, bxQ, reduceCtorEq, h0, h1, h4, h5, d1]) (by simp only [bxP, bxQ, reduceCtorEq, h0, h1, h4, h5, d1])
    · have ed : decide (e = 0) = false := decide_eq_false he
      simp (maxSteps := 4000000) (disch := first | omega | assumption | (simp only [bxS, bxV, stOk, Nat.reduceBEq, Nat.reduceEqDiff, Nat.reduceAdd]; done) | (simp only [bxU]; omega) | ((try apply has_setN); apply has_ofL; simp only [bxL]; omega)) only [↓bxD, bxP, bxQ, Nat.reduceBEq, reduceCtorEq, Nat.reduceAdd, Nat.reduceSub, Nat.reduceMul, Nat.reduceLeDiff, Nat.reduceLT, bxR, h0, h1, h4, h5, g, c2', ed, nck_p, Nat.zero_add]
      show Wp fns K38_3 _ _ _
      exact done _ _ (.refl _) (by simp only [bxP, bxQ, reduceCtorEq, h0, h1, h4, h5, g, c2', ed, nck_p, Nat.zero_add]) (by simp only [bxP, bxQ, reduceCtorEq, h0, h1, h4, h5, g, c2', ed, nck_p, Nat.zero_add])
  · exact ⟨st1, by simp only [bxP, bxQ, reduceCtorEq], by simp only [bxP, bxQ, reduceCtorEq], by simp only [bxP, bxQ, reduceCtorEq], by simp only [bxP, bxQ, reduceCtorEq], fun _ => ⟨Nat.le_refl _, hk, Nat.zero_le _, [], trivial, by rw [WkL]; trivial, by simp [weiL]⟩⟩
theorem ralt_any {d : Nat} (hd : d ≤ 20) (ih : d < 20 → AltIH (d + 1)) : AltIH d := by
  intro M rx s k c bad hs hlo hk hr
  have hlt := hr.lt
  refine Cp_call (fn := F19) (by kernel_rfl) (Nat.le_of_ble_eq_true rfl) ?_
  show Wp fns B19 (T.set q1 (some (.i .i64 (d : Int))) (T.set q0 (some (.p rx 0)) T.lf)) M _
  unfold B19
  simp (maxSteps := 4000000) (disch := first | omega | assumption | (simp only [bxS, bxV, stOk, Nat.reduceBEq, Nat.reduceEqDiff, Nat.reduceAdd]; done) | (simp only [bxU]; omega) | ((try apply has_setN); apply has_ofL; simp only [bxL]; omega)) only [↓bxD, bxP, bxQ, Nat.reduceBEq, reduceCtorEq, Nat.reduceAdd, Nat.reduceSub, Nat.reduceMul, Nat.reduceLeDiff, Nat.reduceLT, bxR]
  generalize hM1 : M.push _ = M1
  have g4 : M1.get M.n = some (.cs false 6 (ofL z6 0)) := by rw [← hM1]; exact push_new _
  have x1 : Ext M M1 := by rw [← hM1]; exact .push M _
  have n1 : M1.n = M.n + 1 := by rw [← hM1]; rfl
  have l1 := x1.lo
  clear hM1
  refine bindP_call (seq_any hd ih hs (by omega) hk (hr.ext x1)) ?_
  rintro m M2 ⟨e, k2, y, rfl, hy, hr2, hc2, hk2, hx2⟩
  have n2 := hc2.n
  have l2 := hc2.lo
  have hlo2 : M2.lo ≤ M2.n := by omega
  have ff : fillM [(0, 6, MV.ag y)] z6 = some y := by obtain ⟨_, _, _, _, _, _, rfl, _⟩ := hy; rfl
  unfold z6 at ff
  simp (maxSteps := 4000000) (disch := first | omega | assumption | (simp only [bxS, bxV, stOk, Nat.reduceBEq, Nat.reduceEqDiff, Nat.reduceAdd]; done) | (simp only [bxU]; omega) | ((try apply has_setN); apply has_ofL; simp only [bxL]; omega)) only [↓bxD, bxP, bxQ, Nat.reduceBEq, reduceCtorEq, Nat.reduceAdd, Nat.reduceSub, Nat.reduceMul, Nat.reduceLeDiff, Nat.reduceLT, bxR, ff, bslW_some]
  generalize hM3 : M2.push _ = M3
  have x3 : Ext M2 M3 := by rw [← hM3]; exact .push M2 _
  have n3 : M3.n = M2.n + 1 := by rw [← hM3]; rfl
  have l3 := x3.lo
  have g3 : M3.get M2.n = some (.cs false 6 (ofL y 0)) := by rw [← hM3]; exact push_new _
  clear hM3
  have st1 : SqSt M M3 rx d k s k2 e (.sl M2.n 0 1 0) [y] := by
    obtain ⟨c2, bad2, hr2⟩ := hr2
    refine ⟨⟨c2, bad2, hr2.ext x3⟩, ((Chg.of x1).trans hc2).trans (.of x3), hlt, hlo, hs, hd, (x3.old _ (by omega)).trans ((hc2.old _ (by omega) (by omega)).trans g4), by omega, ⟨fun x hx => by rw [List.mem_singleton.1 hx]; exact hy.len, .inr ⟨M2.n, _, rfl, g3, by omega, by omega, ?_⟩⟩, fun x hx => by rw [List.mem_singleton.1 hx]; exact hy, hk2, by simp⟩
    rw [List.flatten_cons, List.flatten_nil, List.append_nil]
    exact at_ofL y
  have fin : ∀ (f' : Fr) (M' : MH) (k' : Nat) (e : Int) (r : MV) (es : List (List MV)), SqSt M M' rx d k s k' e r es → es ≠ [] → X.ev f' (.t q4) = .p M.n 0 → X.ev f' (.t q5) = r → (e = 0 → k ≤ k' ∧ k' ≤ s.size ∧ ∃ xs, XsIn (NotRow M.n r) M' es xs ∧ WkL xs ∧ weiL xs + 2 * es.length ≤ 4 * (k' - k) + 4) → Wp fns K19_3 f' M' (retQ F19 (PPost s rx d 0 k M)) := by
    intro f' M' k' e r es h hne h4 h5 hok
    have h4' := slot_get h4
    have hcl := h.ch.lo
    have hcn := h.ch.n
    have g := h.g4
    obtain ⟨r1, r2⟩ := h.rs
    simp only [q4, q5] at h4 h4' h5
    unfold K19_3
    match es, h, hok, r2, hne with
    | [], _, _, _, hne => exact absurd rfl hne
    | [y], h, hok, r2, _ =>
      have hes := h.re y List.mem_cons_self
      obtain ⟨id, t, hr', g6, hN⟩ := single_get h
      have hS := re_st (M' := M') (id := M.n) hes (by omega)
      have hg6 := re_get hes (ofL z6 0)
      have d1 : decide (((1 : Nat) : Int) = 1) = true := rfl
      have hix : ixV 6 r (.i .i64 0) = some (.p id (0 + 0 * 6)) := by rw [hr']; exact ix_sl (v := .sl id 0 1 0) (i := 0) rfl (by show 0 < 1; omega)
      simp (maxSteps := 4000000) (disch := first | omega | assumption | (simp only [bxS, bxV, stOk, Nat.reduceBEq, Nat.reduceEqDiff, Nat.reduceAdd]; done) | (simp only [bxU]; omega) | ((try apply has_setN); apply has_ofL; simp only [bxL]; omega)) only [↓bxD, bxP, bxQ, Nat.reduceBEq, reduceCtorEq, Nat.reduceAdd, Nat.reduceSub, Nat.reduceMul, Nat.reduceLeDiff, Nat.reduceLT, bxR, h4, h4', h5, r1, r2, d1, hix, g6, hN, g, hS, set_same, res_cN, cNV_p, cNo_cs, get_set, hg6, map_ag]
      refine atom_fin hes h.rd hlt h.ch h.hk fun q => ?_
      obtain ⟨w1, w2, xs, w3, w4, w5⟩ := hok q
      match xs, w3, w4, w5 with
      | [x], w3, w4, w5 =>
        rw [WkL] at w4
        simp only [weiL, List.length_singleton] at w5
        exact ⟨by omega, w2, x, XIn.more (Nat.le_refl _) (fun j hj _ => ⟨hj.1, rfl⟩) w3.1, w4.1, by omega⟩
    | y :: y2 :: l, h, hok, r2, _ =>
      have hes := many_rec 3 r1
      have hS := re_st (M' := M') (id := M.n) hes (by omega)
      have hg6 := re_get hes (ofL z6 0)
      have d1 : decide (((l.length + 1 + 1 : Nat) : Int) = 1) = false := decide_eq_false (by omega)
      have ff : fillM [(0, 1, MV.i .i64 3), (5, 1, r)] [.i .i64 0, .i .u64 0, .i .u64 0, .i .u64 0, .i .u64 0, .nils] = some [.i .i64 3, .i .u64 0, .i .u64 0, .i .u64 0, .i .u64 0, r] := by cases r <;> first | rfl | cases r1
      simp (maxSteps := 4000000) (disch := first | omega | assumption | (simp only [bxS, bxV, stOk, Nat.reduceBEq, Nat.reduceEqDiff, Nat.reduceAdd]; done) | (simp only [bxU]; omega) | ((try apply has_setN); apply has_ofL; simp only [bxL]; omega)) only [↓bxD, bxP, bxQ, Nat.reduceBEq, reduceCtorEq, Nat.reduceAdd, Nat.reduceSub, Nat.reduceMul, Nat.reduceLeDiff, Nat.reduceLT, bxR, h4, h4', h5, r1, r2, d1, ff, g, hS, set_same, res_cN, cNV_p, cNo_cs, get_set, hg6, map_ag]
      show Wp fns K19_2 _ _ _
      unfold K19_2
      simp (maxSteps := 4000000) (disch := first | omega | assumption | (simp only [bxS, bxV, stOk, Nat.reduceBEq, Nat.reduceEqDiff, Nat.reduceAdd]; done) | (simp only [bxU]; omega) | ((try apply has_setN); apply has_ofL; simp only [bxL]; omega)) only [↓bxD, bxP, bxQ, Nat.reduceBEq, reduceCtorEq, Nat.reduceAdd, Nat.reduceSub, Nat.reduceMul, Nat.reduceLeDiff, Nat.reduceLT, bxR, h4, h4', h5, r1, r2, d1, ff, g, hS, set_same, res_cN, cNV_p, cNo_cs, get_set, hg6, map_ag]
      refine atom_fin hes h.rd hlt h.ch h.hk fun q => ?_
      obtain ⟨w1, w2, xs, w3, w4, w5⟩ := hok q
      obtain ⟨v1, v2, v3⟩ := many_in h w3 w4 3 (by simp)
      simp only [List.length_cons] at w5
      exact ⟨by omega, w2, _, v1, v2, by rw [v3]; omega⟩
  refine Wp_inv (σ := Nat × Int × MV × List (List MV)) (fun p f' M' => SqSt M M' rx d k s p.1 p.2.1 p.2.2.1 p.2.2.2 ∧ p.2.2.2 ≠ [] ∧ X.ev f' (.t q0) = .p rx 0 ∧ X.ev f' (.t q1) = .i .i64 (d : Int) ∧ X.ev f' (.t q4) = .p M.n 0 ∧ X.ev f' (.t q5) = p.2.2.1 ∧ (p.2.1 = 0 → k ≤ p.1 ∧ p.1 ≤ s.size ∧ p.2.2.2.length ≤ p.1 + 1 ∧ ∃ xs, XsIn (NotRow M.n p.2.2.1) M' p.2.2.2 xs ∧ WkL xs ∧ weiL xs + 2 * p.2.2.2.length ≤ 4 * (p.1 - k) + 4)) (fun p => if p.2.1 = 0 then s.size + 1 - p.1 else 0) ?_ (k2, e, .sl M2.n 0 1 0, [y]) ?_
  · rintro ⟨k', e, r, es⟩ f1 M4 ⟨h, hne, h0, h1, h4, h5, hok⟩
    simp only at h h5 hok hne
    obtain ⟨c4, bad4, hr4⟩ := h.rd
    have g := hr4.g
    have c2' : cget c4 2 = some (.i .i64 e) := hr4.at_ 2 _ rfl
    have hn := h.ch.n
    have hl := h.ch.lo
    simp only [q0, q1, q4, q5] at h0 h1 h4 h5
    have done : ∀ (f' : Fr) (M' : MH), Ext M4 M' → X.ev f' (.t q4) = .p M.n 0 → X.ev f' (.t q5) = r → Wp fns K19_3 f' M' (retQ F19 (PPost s rx d 0 k M)) := fun f' M' x e4 e5 => by
      refine fin f' M' k' e r es (h.ext x) hne e4 e5 fun q => ?_
      obtain ⟨w1, w2, w3, xs, w4, w5, w6⟩ := hok q
      exact ⟨w1, w2, xs, XsIn.more x.n (fun j hj hj2 => ⟨hj, x.old j hj2⟩) w4, w5, w6⟩
    unfold L19_1
    by_cases he : e = 0
    · subst he
      have hM4lo : M4.lo ≤ M4.n := by omega
      simp (maxSteps := 4000000) (disch := first | omega | assumption | (simp only [bxS, bxV, stOk, Nat.reduceBEq, Nat.reduceEqDiff, Nat.reduceAdd]; done) | (simp only [bxU]; omega) | ((try apply has_setN); apply has_ofL; simp only [bxL]; omega)) only [↓bxD, bxP, bxQ, Nat.reduceBEq, reduceCtorEq, Nat.reduceAdd, Nat.reduceSub, Nat.reduceMul, Nat.reduceLeDiff, Nat.reduceLT, bxR, h0, h1, h4, h5, g, c2', nck_p, Nat.zero_add]
      refine bindP_call (is_any (q := 124) hM4lo hr4) ?_
      rintro m M5 ⟨⟨b, rfl, hb⟩, x5⟩
      have n5 := x5.n
      have l5 := x5.lo
      have hr45 := hr4.ext x5
      cases b with
      | false =>
        simp (maxSteps := 4000000) (disch := first | omega | assumption | (simp only [bxS, bxV, stOk, Nat.reduceBEq, Nat.reduceEqDiff, Nat.reduceAdd]; done) | (simp only [bxU]; omega) | ((try apply has_setN); apply has_ofL; simp only [bxL]; omega)) only [↓bxD, bxP, bxQ, Nat.reduceBEq, reduceCtorEq, Nat.reduceAdd, Nat.reduceSub, Nat.reduceMul, Nat.reduceLeDiff, Nat.reduceLT, bxR, h0, h1, h4, h5, g, c2', nck_p, Nat.zero_add]
        show Wp fns K19_3 _ _ _
        exact done _ _ x5 (by simp only [bxP, bxQ, reduceCtorEq, h0, h1, h4, h5, g, c2', nck_p, Nat.zero_add]) (by simp only [bxP, bxQ, reduceCtorEq, h0, h1, h4, h5, g, c2', nck_p, Nat.zero_add])
      | true =>
        have hkk := hb rfl
        obtain ⟨w1, w2, w3, xs, w4, w5, w6⟩ := hok rfl
        have h5' := h.ext x5
        have g5 := hr45.g
        have c1' : cget c4 1 = some (.i .i64 (k' : Int)) := hr4.at_ 1 _ rfl
        have hb1 : hasB c4 1 1 = true := has_at hr4.at_ (Nat.zero_le _) (by show 1 + 1 ≤ 0 + 4; omega)
        have hon := hr45.on (k' + 1)
        have hcast : ((k' + 1 : Nat) : Int) = (k' : Int) + 1 := by omega
        rw [hcast] at hon
        have hcs : Chg (fun j => j = rx) M5 (M5.set rx (some (.cs false 4 (setN [MV.i .i64 ((k' : Int) + 1)] 1 c4)))) := (Chg.refl _ M5).set _ (.inl rfl)
        simp (maxSteps := 4000000) (disch := first | omega | assumption | (simp only [bxS, bxV, stOk, Nat.reduceBEq, Nat.reduceEqDiff, Nat.reduceAdd]; done) | (simp only [bxU]; omega) | ((try apply has_setN); apply has_ofL; simp only [bxL]; omega)) only [↓bxD, bxP, bxQ, Nat.reduceBEq, reduceCtorEq, Nat.reduceAdd, Nat.reduceSub, Nat.reduceMul, Nat.reduceLeDiff, Nat.reduceLT, bxR, h0, h1, h4, h5, g, c2', nck_p, Nat.zero_add]
        show Wp fns K19_0 _ _ _
        unfold K19_0
        simp (maxSteps := 4000000) (disch := first | omega | assumption | (simp only [bxS, bxV, stOk, Nat.reduceBEq, Nat.reduceEqDiff, Nat.reduceAdd]; done) | (simp only [bxU]; omega) | ((try apply has_setN); apply has_ofL; simp only [bxL]; omega)) only [↓bxD, bxP, bxQ, Nat.reduceBEq, reduceCtorEq, Nat.reduceAdd, Nat.reduceSub, Nat.reduceMul, Nat.reduceLeDiff, Nat.reduceLT, bxR, h0, h1, h4, h5, g, c2', nck_p, Nat.zero_add, g5, c1', hb1, cells_i]
        generalize setN [MV.i .i64 ((k' : Int) + 1)] 1 c4 = c6 at hon hcs ⊢
        generalize hM6 : M5.set rx (some (.cs false 4 c6)) = M6 at hon hcs ⊢
        have n6 := hcs.n
        have l6 := hcs.lo
        clear hM6
        refine bindP_call (seq_any hd ih hs (by omega) (by omega) hon) ?_
        rintro m M7 ⟨e2, k3, y', rfl, hy', hr7, hc7, hk7, hx7⟩
        have n7 := hc7.n
        have l7 := hc7.lo
        have hlo7 : M7.lo ≤ M7.n := by omega
        have ff' : fillM [(0, 6, MV.ag y')] z6 = some y' := by obtain ⟨_, _, _, _, _, _, rfl, _⟩ := hy'; rfl
        unfold z6 at ff'
        have w4' : XsIn (NotRow M.n r) M5 es xs := XsIn.more x5.n (fun j hj hj2 => ⟨hj, x5.old j hj2⟩) w4
        obtain ⟨r', M8, a1, a2, a3⟩ := seq_app h5' hy' hr7 (hcs.trans hc7) hk7 (by omega) (xs := xs)
        simp (maxSteps := 4000000) (disch := first | omega | assumption | (simp only [bxS, bxV, stOk, Nat.reduceBEq, Nat.reduceEqDiff, Nat.reduceAdd]; done) | (simp only [bxU]; omega) | ((try apply has_setN); apply has_ofL; simp only [bxL]; omega)) only [↓bxD, bxP, bxQ, Nat.reduceBEq, reduceCtorEq, Nat.reduceAdd, Nat.reduceSub, Nat.reduceMul, Nat.reduceLeDiff, Nat.reduceLT, bxR, h0, h1, h4, h5, g, c2', nck_p, Nat.zero_add, ff', bslW_some]
        refine bindP_of a1 ?_
        simp (maxSteps := 4000000) (disch := first | omega | assumption | (simp only [bxS, bxV, stOk, Nat.reduceBEq, Nat.reduceEqDiff, Nat.reduceAdd]; done) | (simp only [bxU]; omega) | ((try apply has_setN); apply has_ofL; simp only [bxL]; omega)) only [↓bxD, bxP, bxQ, Nat.reduceBEq, reduceCtorEq, Nat.reduceAdd, Nat.reduceSub, Nat.reduceMul, Nat.reduceLeDiff, Nat.reduceLT, bxR, h0, h1, h4, h5, g, c2', nck_p, Nat.zero_add]
        refine ⟨(k3, e2, r', es ++ [y']), ?_, a2, by simp, rfl, fun q => ?_⟩
        · simp only
          split
          · rename_i q
            obtain ⟨v1, v2, _⟩ := hx7 q
            omega
          · omega
        · obtain ⟨v1, v2, x', v3, v4, v5⟩ := hx7 q
          refine ⟨by simp only; omega, v2, by simp only [List.length_append, List.length_singleton]; omega, xs ++ [x'], a3 w4' x' (XIn.more (Nat.le_refl _) (fun j hj _ => ⟨by omega, rfl⟩) v3), WkL_app w5 (by rw [WkL, WkL]; exact ⟨v4, trivial⟩), ?_⟩
          rw [weiL_app]
          simp only [weiL, List.length_append, List.length_singleton]
          omega
    · have ed : decide (e = 0) = false := decide_eq_false he
      simp (maxSteps := 4000000) (disch := first | omega | assumption | (simp only [bxS, bxV, stOk, Nat.reduceBEq, Nat.reduceEqDiff, Nat.reduceAdd]; done) | (simp only [bxU]; omega) | ((try apply has_setN); apply has_ofL; simp only [bxL]; omega)) only [↓bxD, bxP, bxQ, Nat.reduceBEq, reduceCtorEq, Nat.reduceAdd, Nat.reduceSub, Nat.reduceMul, Nat.reduceLeDiff, Nat.reduceLT, bxR, h0, h1, h4, h5, g, c2', ed, nck_p, Nat.zero_add]
      show Wp fns K19_3 _ _ _
      exact done _ _ (.refl _) (by simp only [bxP, bxQ, reduceCtorEq, h0, h1, h4, h5, g, c2', ed, nck_p, Nat.zero_add]) (by simp only [bxP, bxQ, reduceCtorEq, h0, h1, h4, h5, g, c2', ed, nck_p, Nat.zero_add])
  · refine ⟨st1, by simp, by simp only [bxP, bxQ, reduceCtorEq], by simp only [bxP, bxQ, reduceCtorEq], by simp only [bxP, bxQ, reduceCtorEq], by simp only [bxP, bxQ, reduceCtorEq], fun q => ?_⟩
    obtain ⟨w1, w2, x, w3, w4, w5⟩ := hx2 q
    refine ⟨by simp only; omega, w2, by simp, [x], ⟨XIn.more (by omega) (fun j hj hj2 => ⟨⟨by omega, fun o n d e => ?_⟩, x3.old j hj2⟩) w3, trivial⟩, by rw [WkL, WkL]; exact ⟨w4, trivial⟩, by simp only [weiL, List.length_singleton]; omega⟩
    injection e with e1
    omega
theorem apart_st {i j sz id id' off off' : Nat} {x y z : X} {l : List (IOper × DK)} {n : Nat} {f : Fr} {hs : List MH} {d d' : Option Ky} {gd gd' : Option (Ky × Bool)} {kd : DK} (h1 : l[i]? = some (⟨d, gd, .st sz x y⟩, .md)) (h2 : l[j]? = some (⟨d', gd', .ld1 z⟩, kd)) (hx : X.ev f x = .p id' off') (hz : X.ev f z = .p id off) (hne : id' ≠ id) (hid : id < n) (hn : ∀ M ∈ hs, n ≤ M.n) : apartL [(i, j)] l n f hs = true := by
  unfold apartL
  have e1 : hs.all (fun M => Nat.ble n M.n) = true := List.all_eq_true.2 fun M hM => ble_t' (hn M hM)
  have e2 : apartB n (cidx (l.map (·.2)) i) hs (.st sz x y) (.ld1 z) f = true := by
    unfold apartB
    show (match (match X.ev f z with
      | .p id _ => some id
      | _ => none) with
      | some id => Nat.blt id n && ((match (match X.ev f x with
        | .p id _ => some (some id)
        | _ => none) with
        | some (some q) => !(q == id)
        | some none => true
        | none => false) || (Nat.blt (cidx (l.map (·.2)) i + 1) hs.length && sameO (atS hs (cidx (l.map (·.2)) i + 1) id) (atS hs (cidx (l.map (·.2)) i) id)))
      | none => false) = true
    rw [hz, hx]
    show (Nat.blt id n && (!(id' == id) || _)) = true
    rw [blt_t hid, show (id' == id) = false from by simpa using hne]
    rfl
  simp only [List.isEmpty_cons, Bool.false_or, List.all_cons, List.all_nil, h1, h2, e1, e2, Bool.and_true, Bool.true_and]
  rfl
theorem apart_two {a b : Nat × Nat} {l : List (IOper × DK)} {n : Nat} {f : Fr} {hs : List MH} (h1 : apartL [a] l n f hs = true) (h2 : apartL [b] l n f hs = true) : apartL [a, b] l n f hs = true := by
  unfold apartL at h1 h2 ⊢
  simp only [List.isEmpty_cons, Bool.false_or, List.all_cons, List.all_nil, Bool.and_true, Bool.and_eq_true] at h1 h2 ⊢
  exact ⟨h1.1, h1.2, h2.2⟩
theorem ralt_all : ∀ n d, d + n = 20 → AltIH d
  | 0, d, h => ralt_any (by omega) fun hd => by omega
  | n + 1, d, h => ralt_any (by omega) fun _ => ralt_all n (d + 1) (by omega)
def PsPost (s : ByteArray) (M : MH) (m : MV) (M' : MH) : Prop := Ext M M' ∧ ((∃ es b e, m = .tp [.ag es, .i .i64 b, .i .i64 e] ∧ ReC es ∧ e ≠ 0) ∨ (∃ es b x, m = .tp [.ag es, .i .i64 b, .i .i64 0] ∧ ReC es ∧ XIn (fun _ => True) M' es x ∧ Wk x ∧ wei x ≤ 4 * s.size + 2))
theorem parse_any {M : MH} {s : ByteArray} (hlo : M.lo ≤ M.n) (hw : (s.size : Int) ≤ 9223372036854775807) : Cp fns 8 [.s s] M (PsPost s M) := by
  refine Cp_call (fn := F8) (by kernel_rfl) (Nat.le_of_ble_eq_true rfl) ?_
  show Wp fns B8 (T.set q0 (some (.s s)) T.lf) M _
  unfold B8
  by_cases h200 : (200 : Int) < (s.size : Int)
  · have d0 : decide ((200 : Int) < (s.size : Int)) = true := decide_eq_true h200
    have hes := none_rec
    have hS : ∀ M' : MH, M'.lo ≤ M.n → stW M' 6 M.n 0 (.ag z6) _ = _ := fun M' h => re_st (M' := M') (id := M.n) hes h
    have hg6 : ∀ t, getN (setN z6 0 t) 6 0 = some z6 := fun t => re_get hes t
    have ff : fillM [] z6 = some z6 := rfl
    unfold z6 at hS hg6 ff
    have gp : ∀ o, (M.push o).get M.n = some o := fun o => push_new o
    have hS' : ∀ o, stW (M.push o) 6 M.n 0 (.ag [.i .i64 0, .i .u64 0, .i .u64 0, .i .u64 0, .i .u64 0, .nils]) (some (.cs false 6 (ofL z6 0))) = some (.u, (M.push o).set M.n (some (.cs false 6 (setN [.i .i64 0, .i .u64 0, .i .u64 0, .i .u64 0, .i .u64 0, .nils] 0 (ofL z6 0))))) := fun o => hS (M.push o) hlo
    unfold z6 at hS'
    simp (maxSteps := 4000000) (disch := first | omega | assumption | (simp only [bxS, bxV, stOk, Nat.reduceBEq, Nat.reduceEqDiff, Nat.reduceAdd]; done) | (simp only [bxU]; omega) | ((try apply has_setN); apply has_ofL; simp only [bxL]; omega)) only [↓bxD, bxP, bxQ, Nat.reduceBEq, reduceCtorEq, Nat.reduceAdd, Nat.reduceSub, Nat.reduceMul, Nat.reduceLeDiff, Nat.reduceLT, bxR, ev_lenT, lenT_s, d0, ff, gp, hS', set_same, res_cN, cNV_p, cNo_cs, get_set, hg6, map_ag]
    exact ⟨(Ext.push M _).set _ (Nat.le_refl _), .inl ⟨z6, 0, 3, rfl, hes, by simp⟩⟩
  · have d0 : decide ((200 : Int) < (s.size : Int)) = false := decide_eq_false h200
    simp (maxSteps := 4000000) (disch := first | omega | assumption | (simp only [bxS, bxV, stOk, Nat.reduceBEq, Nat.reduceEqDiff, Nat.reduceAdd]; done) | (simp only [bxU]; omega) | ((try apply has_setN); apply has_ofL; simp only [bxL]; omega)) only [↓bxD, bxP, bxQ, Nat.reduceBEq, reduceCtorEq, Nat.reduceAdd, Nat.reduceSub, Nat.reduceMul, Nat.reduceLeDiff, Nat.reduceLT, bxR, ev_lenT, lenT_s, d0]
    show Wp fns K8_2 _ _ _
    generalize hM1 : M.push _ = M1
    have g2 : M1.get M.n = some (.cs false 6 (ofL z6 0)) := by rw [← hM1]; exact push_new _
    have x1 : Ext M M1 := by rw [← hM1]; exact .push M _
    have n1 : M1.n = M.n + 1 := by rw [← hM1]; rfl
    have l1 := x1.lo
    clear hM1
    have ff : fillM [(0, 1, MV.s s)] [.s (ByteArray.mk (Array.mk [])), .i .i64 0, .i .i64 0, .i .i64 0] = some [.s s, .i .i64 0, .i .i64 0, .i .i64 0] := rfl
    unfold K8_2
    simp (maxSteps := 4000000) (disch := first | omega | assumption | (simp only [bxS, bxV, stOk, Nat.reduceBEq, Nat.reduceEqDiff, Nat.reduceAdd]; done) | (simp only [bxU]; omega) | ((try apply has_setN); apply has_ofL; simp only [bxL]; omega)) only [↓bxD, bxP, bxQ, Nat.reduceBEq, reduceCtorEq, Nat.reduceAdd, Nat.reduceSub, Nat.reduceMul, Nat.reduceLeDiff, Nat.reduceLT, bxR, ff]
    generalize hM2 : M1.push _ = M2
    have gr : M2.get M1.n = some (.cs false 4 (ofL [.s s, .i .i64 0, .i .i64 0, .i .i64 0] 0)) := by rw [← hM2]; exact push_new _
    have x2 : Ext M1 M2 := by rw [← hM2]; exact .push M1 _
    have n2 : M2.n = M1.n + 1 := by rw [← hM2]; rfl
    have l2 := x2.lo
    clear hM2
    have hrd : RdAt M2 M1.n s 0 0 (ofL [.s s, .i .i64 0, .i .i64 0, .i .i64 0] 0) 0 := ⟨gr, at_ofL _, by omega⟩
    refine bindP_call (ralt_all 20 0 rfl M2 M1.n s 0 _ 0 (by omega) (by omega) (Nat.zero_le _) hrd) ?_
    rintro m M3 ⟨e3, k3, es, rfl, hes, ⟨c3, bad3, h3⟩, hc3, hk3, hx3⟩
    have n3 := hc3.n
    have l3 := hc3.lo
    have hes1 := hes.stok
    have hcl : MV.cells (.ag es) = es := by obtain ⟨_, _, _, _, _, _, rfl, _⟩ := hes; rfl
    simp (maxSteps := 4000000) (disch := first | omega | assumption | (simp only [bxS, bxV, stOk, Nat.reduceBEq, Nat.reduceEqDiff, Nat.reduceAdd]; done) | (simp only [bxU]; omega) | ((try apply has_setN); apply has_ofL; simp only [bxL]; omega)) only [↓bxD, bxP, bxQ, Nat.reduceBEq, reduceCtorEq, Nat.reduceAdd, Nat.reduceSub, Nat.reduceMul, Nat.reduceLeDiff, Nat.reduceLT, bxR, hes1, hcl]
    generalize hM4 : (M3.push _).set M3.n _ = M4
    have x4 : Ext M3 M4 := by rw [← hM4]; exact (Ext.push M3 _).set _ (Nat.le_refl _)
    have n4 : M4.n = M3.n + 1 := by rw [← hM4]; rfl
    have l4 := x4.lo
    have g6 : M4.get M3.n = some (.cs false 6 (setN es 0 (ofL z6 0))) := by rw [← hM4, set_same]; rfl
    clear hM4
    have h34 := h3.ext x4
    have g33 := h3.g
    have e2' : cget c3 2 = some (.i .i64 e3) := h3.at_ 2 _ rfl
    have e1' : cget c3 1 = some (.i .i64 (k3 : Int)) := h3.at_ 1 _ rfl
    have g24 : M4.get M.n = some (.cs false 6 (ofL z6 0)) := (x4.old _ (by omega)).trans ((hc3.old _ (by omega) (by omega)).trans ((x2.old _ (by omega)).trans g2))
    have hch4 : Chg (fun j => j = M1.n) M M4 := ((Chg.of (x1.trans x2)).trans hc3).trans (.of x4)
    have tail : ∀ (f' : Fr) (M5 : MH) (e5 : Int) (c5 : Ev.T MV) (bad5 : Int), X.ev f' (.t q0) = .s s → X.ev f' (.t q2) = .p M.n 0 → X.ev f' (.t q5) = .p M1.n 0 → X.ev f' (.t q6) = .p M3.n 0 → RdAt M5 M1.n s k3 e5 c5 bad5 → Chg (fun j => j = M1.n) M4 M5 → (e5 = 0 → e3 = 0) → Wp fns K8_1 f' M5 (retQ F8 (PsPost s M)) := by
      intro f' M5 e5 c5 bad5 h0 h2 h5 h6 hr5 hc5 he5
      have n5 := hc5.n
      have l5 := hc5.lo
      have g5 := hr5.g
      have f2 : cget c5 2 = some (.i .i64 e5) := hr5.at_ 2 _ rfl
      have f3 : cget c5 3 = some (.i .i64 bad5) := hr5.at_ 3 _ rfl
      have g65 := (hc5.old _ (by omega) (by omega)).trans g6
      have g25 := (hc5.old _ (by omega) (by omega)).trans g24
      have hxx : Ext M M5 := ⟨by omega, by rw [l5]; exact hch4.lo, fun j hj => (hc5.old j (by omega) (by omega)).trans (hch4.old j hj (by omega))⟩
      have h2' := slot_get h2
      simp only [q0, q2, q5, q6] at h0 h2 h2' h5 h6
      unfold K8_1
      by_cases he : e5 = 0
      · have ed : decide (e5 ≠ 0) = false := decide_eq_false (by simpa using he)
        have hN := re_get hes (ofL z6 0)
        have hS := re_st (M' := M5) (id := M.n) hes (by omega)
        simp (maxSteps := 4000000) (disch := first | omega | assumption | (simp only [bxS, bxV, stOk, Nat.reduceBEq, Nat.reduceEqDiff, Nat.reduceAdd]; done) | (simp only [bxU]; omega) | ((try apply has_setN); apply has_ofL; simp only [bxL]; omega)) only [↓bxD, bxP, bxQ, Nat.reduceBEq, reduceCtorEq, Nat.reduceAdd, Nat.reduceSub, Nat.reduceMul, Nat.reduceLeDiff, Nat.reduceLT, bxR, h0, h2, h2', h5, h6, g5, f2, ed, g65, g25, hN, hS, ev_lenT, lenT_s, nck_p, Nat.zero_add, set_same, res_cN, cNV_p, cNo_cs, get_set, map_ag]
        show Wp fns K8_0 _ _ _
        unfold K8_0
        simp (maxSteps := 4000000) (disch := first | omega | assumption | (simp only [bxS, bxV, stOk, Nat.reduceBEq, Nat.reduceEqDiff, Nat.reduceAdd]; done) | (simp only [bxU]; omega) | ((try apply has_setN); apply has_ofL; simp only [bxL]; omega)) only [↓bxD, bxP, bxQ, Nat.reduceBEq, reduceCtorEq, Nat.reduceAdd, Nat.reduceSub, Nat.reduceMul, Nat.reduceLeDiff, Nat.reduceLT, bxR, h0, h2, h2', h5, h6, g5, f2, ed, g65, g25, hN, hS, ev_lenT, lenT_s, nck_p, Nat.zero_add, set_same, res_cN, cNV_p, cNo_cs, get_set, map_ag]
        obtain ⟨w1, w2, y, w3, w4, w5⟩ := hx3 (he5 he)
        refine ⟨hxx.set _ (Nat.le_refl _), .inr ⟨es, _, y, rfl, hes, XIn.more (S := fun j => M2.n ≤ j) (S' := fun _ => True) (M := M3) (M' := M5.set M.n (some (.cs false 6 (setN es 0 (ofL z6 0))))) (by show M3.n ≤ M5.n; omega) (fun j hj hj2 => ⟨trivial, ?_⟩) w3, w4, by omega⟩⟩
        rw [set_ne (by omega), hc5.old j (by omega) (by omega), x4.old j hj2]
      · have ed : decide (e5 ≠ 0) = true := decide_eq_true he
        have hes0 := none_rec
        have hS : stW M5 6 M.n 0 (.ag z6) _ = _ := re_st (M' := M5) (id := M.n) hes0 (by omega)
        have hg6 : ∀ t, getN (setN z6 0 t) 6 0 = some z6 := fun t => re_get hes0 t
        have ff : fillM [] z6 = some z6 := rfl
        unfold z6 at hS hg6 ff g25
        simp (maxSteps := 4000000) (disch := first | omega | assumption | (simp only [bxS, bxV, stOk, Nat.reduceBEq, Nat.reduceEqDiff, Nat.reduceAdd]; done) | (simp only [bxU]; omega) | ((try apply has_setN); apply has_ofL; simp only [bxL]; omega)) only [↓bxD, bxP, bxQ, Nat.reduceBEq, reduceCtorEq, Nat.reduceAdd, Nat.reduceSub, Nat.reduceMul, Nat.reduceLeDiff, Nat.reduceLT, bxR, h0, h2, h2', h5, h6, g5, f2, f3, ed, g25, ff, hS, nck_p, Nat.zero_add, set_same, res_cN, cNV_p, cNo_cs, get_set, hg6, map_ag]
        refine Wp_dreg_of (by omega) ?_
        simp (maxSteps := 4000000) (disch := first | omega | assumption | (simp only [bxS, bxV, stOk, Nat.reduceBEq, Nat.reduceEqDiff, Nat.reduceAdd]; done) | (simp only [bxU]; omega) | ((try apply has_setN); apply has_ofL; simp only [bxL]; omega)) only [↓bxD, bxP, bxQ, Nat.reduceBEq, reduceCtorEq, Nat.reduceAdd, Nat.reduceSub, Nat.reduceMul, Nat.reduceLeDiff, Nat.reduceLT, bxR, h0, h2, h2', h5, h6, g5, f2, f3, ed, g25, ff, hS, nck_p, Nat.zero_add, set_same, res_cN, cNV_p, cNo_cs, get_set, hg6, map_ag]
        have hle : ∀ M' ∈ [M5.set M.n (some (.cs false 6 (setN [MV.i .i64 0, .i .u64 0, .i .u64 0, .i .u64 0, .i .u64 0, .nils] 0 (ofL [MV.i .i64 0, .i .u64 0, .i .u64 0, .i .u64 0, .i .u64 0, .nils] 0)))), M5], M5.n ≤ M'.n := fun M' hM' => by
          simp only [List.mem_cons, List.not_mem_nil, or_false] at hM'
          rcases hM' with rfl | rfl <;> exact Nat.le_refl _
        refine ⟨apart_two (apart_st (id' := M.n) (id := M1.n) (x := .t q2) (z := .t q40) rfl rfl (by simp only [bxP, bxQ, reduceCtorEq, h0, h2, h2', h5, h6, g5, f2, f3, ed, g25, ff, hS, nck_p, Nat.zero_add, set_same, res_cN, cNV_p, cNo_cs, get_set, hg6, map_ag] <;> rfl) (by simp only [bxP, bxQ, reduceCtorEq, h0, h2, h2', h5, h6, g5, f2, f3, ed, g25, ff, hS, nck_p, Nat.zero_add, set_same, res_cN, cNV_p, cNo_cs, get_set, hg6, map_ag] <;> rfl) (by omega) (by omega) hle) (apart_st (id' := M.n) (id := M1.n) (x := .t q2) (z := .t q44) rfl rfl (by simp only [bxP, bxQ, reduceCtorEq, h0, h2, h2', h5, h6, g5, f2, f3, ed, g25, ff, hS, nck_p, Nat.zero_add, set_same, res_cN, cNV_p, cNo_cs, get_set, hg6, map_ag] <;> rfl) (by simp only [bxP, bxQ, reduceCtorEq, h0, h2, h2', h5, h6, g5, f2, f3, ed, g25, ff, hS, nck_p, Nat.zero_add, set_same, res_cN, cNV_p, cNo_cs, get_set, hg6, map_ag] <;> rfl) (by omega) (by omega) hle), ?_⟩
        show Wp fns IC.ret _ _ _
        simp (maxSteps := 4000000) (disch := first | omega | assumption | (simp only [bxS, bxV, stOk, Nat.reduceBEq, Nat.reduceEqDiff, Nat.reduceAdd]; done) | (simp only [bxU]; omega) | ((try apply has_setN); apply has_ofL; simp only [bxL]; omega)) only [↓bxD, bxP, bxQ, Nat.reduceBEq, reduceCtorEq, Nat.reduceAdd, Nat.reduceSub, Nat.reduceMul, Nat.reduceLeDiff, Nat.reduceLT, bxR, h0, h2, h2', h5, h6, g5, f2, f3, ed, g25, ff, hS, nck_p, Nat.zero_add, set_same, res_cN, cNV_p, cNo_cs, get_set, hg6, map_ag]
        exact ⟨hxx.set _ (Nat.le_refl _), .inl ⟨z6, bad5, e5, rfl, hes0, he⟩⟩
    by_cases he3 : e3 = 0
    · subst he3
      simp (maxSteps := 4000000) (disch := first | omega | assumption | (simp only [bxS, bxV, stOk, Nat.reduceBEq, Nat.reduceEqDiff, Nat.reduceAdd]; done) | (simp only [bxU]; omega) | ((try apply has_setN); apply has_ofL; simp only [bxL]; omega)) only [↓bxD, bxP, bxQ, Nat.reduceBEq, reduceCtorEq, Nat.reduceAdd, Nat.reduceSub, Nat.reduceMul, Nat.reduceLeDiff, Nat.reduceLT, bxR, g33, e2', e1', nck_p, Nat.zero_add]
      refine bindP_call (over_any (by omega) h34) ?_
      rintro m M5 ⟨rfl, x5⟩
      have n5 := x5.n
      have l5 := x5.lo
      have h45 := h34.ext x5
      have g45 := h45.g
      by_cases ho : s.size ≤ k3
      · have d1 : decide (s.size ≤ k3) = true := decide_eq_true ho
        simp (maxSteps := 4000000) (disch := first | omega | assumption | (simp only [bxS, bxV, stOk, Nat.reduceBEq, Nat.reduceEqDiff, Nat.reduceAdd]; done) | (simp only [bxU]; omega) | ((try apply has_setN); apply has_ofL; simp only [bxL]; omega)) only [↓bxD, bxP, bxQ, Nat.reduceBEq, reduceCtorEq, Nat.reduceAdd, Nat.reduceSub, Nat.reduceMul, Nat.reduceLeDiff, Nat.reduceLT, bxR, d1]
        show Wp fns K8_1 _ _ _
        exact tail _ M5 0 c3 bad3 (by simp only [bxP, bxQ, reduceCtorEq, d1]) (by simp only [bxP, bxQ, reduceCtorEq, d1]) (by simp only [bxP, bxQ, reduceCtorEq, d1]) (by simp only [bxP, bxQ, reduceCtorEq, d1]) h45 (.of x5) fun _ => rfl
      · have d1 : decide (s.size ≤ k3) = false := decide_eq_false ho
        simp (maxSteps := 4000000) (disch := first | omega | assumption | (simp only [bxS, bxV, stOk, Nat.reduceBEq, Nat.reduceEqDiff, Nat.reduceAdd]; done) | (simp only [bxU]; omega) | ((try apply has_setN); apply has_ofL; simp only [bxL]; omega)) only [↓bxD, bxP, bxQ, Nat.reduceBEq, reduceCtorEq, Nat.reduceAdd, Nat.reduceSub, Nat.reduceMul, Nat.reduceLeDiff, Nat.reduceLT, bxR, d1, g45, e1', nck_p, Nat.zero_add]
        refine bindP_call (fail_any (z := 2) (by omega) h45) ?_
        rintro m M6 ⟨⟨c6, bad6, h6⟩, hc6⟩
        simp (maxSteps := 4000000) (disch := first | omega | assumption | (simp only [bxS, bxV, stOk, Nat.reduceBEq, Nat.reduceEqDiff, Nat.reduceAdd]; done) | (simp only [bxU]; omega) | ((try apply has_setN); apply has_ofL; simp only [bxL]; omega)) only [↓bxD, bxP, bxQ, Nat.reduceBEq, reduceCtorEq, Nat.reduceAdd, Nat.reduceSub, Nat.reduceMul, Nat.reduceLeDiff, Nat.reduceLT, bxR, d1, g45, e1', nck_p, Nat.zero_add]
        show Wp fns K8_1 _ _ _
        exact tail _ M6 _ c6 bad6 (by simp only [bxP, bxQ, reduceCtorEq, d1, g45, e1', nck_p, Nat.zero_add]) (by simp only [bxP, bxQ, reduceCtorEq, d1, g45, e1', nck_p, Nat.zero_add]) (by simp only [bxP, bxQ, reduceCtorEq, d1, g45, e1', nck_p, Nat.zero_add]) (by simp only [bxP, bxQ, reduceCtorEq, d1, g45, e1', nck_p, Nat.zero_add]) h6 ((Chg.of x5).trans hc6) fun q => by simp at q
    · have ed : decide (e3 = 0) = false := decide_eq_false he3
      simp (maxSteps := 4000000) (disch := first | omega | assumption | (simp only [bxS, bxV, stOk, Nat.reduceBEq, Nat.reduceEqDiff, Nat.reduceAdd]; done) | (simp only [bxU]; omega) | ((try apply has_setN); apply has_ofL; simp only [bxL]; omega)) only [↓bxD, bxP, bxQ, Nat.reduceBEq, reduceCtorEq, Nat.reduceAdd, Nat.reduceSub, Nat.reduceMul, Nat.reduceLeDiff, Nat.reduceLT, bxR, g33, e2', ed, nck_p, Nat.zero_add]
      show Wp fns K8_1 _ _ _
      exact tail _ M4 e3 c3 bad3 (by simp only [bxP, bxQ, reduceCtorEq, g33, e2', ed, nck_p, Nat.zero_add]) (by simp only [bxP, bxQ, reduceCtorEq, g33, e2', ed, nck_p, Nat.zero_add]) (by simp only [bxP, bxQ, reduceCtorEq, g33, e2', ed, nck_p, Nat.zero_add]) (by simp only [bxP, bxQ, reduceCtorEq, g33, e2', ed, nck_p, Nat.zero_add]) h34 (.refl _ _) fun q => q
def rcs (op a b c d : Int) (kv : MV) : List MV := [.i .i64 op, .i .u64 a, .i .u64 b, .i .u64 c, .i .u64 d, kv]
def z5 : List MV := [.nils, .b false, .nils, .nils, .nils]
def OfPost (M : MH) (x : Rx) (m : MV) (M' : MH) : Prop := Ext M M' ∧ ((150 < cnt x ∧ m = .tp [.ag z5, .i .i64 3]) ∨ (cnt x ≤ 150 ∧ 200 < deep x ∧ m = .tp [.ag z5, .i .i64 4]) ∨ (cnt x ≤ 150 ∧ deep x ≤ 200 ∧ ∃ mm, m = .tp [mm, .i .i64 0] ∧ PosAt M.n M' mm (partM x ⟨[], []⟩).1 (partM x ⟨[], []⟩).2))
theorem kidsV_ext {M M' : MH} (k : Ext M M') {x : Rx} {id off : Nat} {v : MV} (hn : NodeAt M x id off) (h : KidsV M x id off v) : KidsV M' x id off v := by
  obtain ⟨h1, h2, h3, h4⟩ := h
  have hid := (NodeAt.rw hn).2
  refine ⟨h1, h2, h3.ext k, fun e => ?_⟩
  obtain ⟨t, kv, q1, q2, q3, q4⟩ := h4 e
  exact ⟨t, kv, (k.old id hid).trans q1, q2, q3, q4⟩
theorem of_any {M : MH} {op a b c d : Int} {kids : List Rx} {kv : MV} (hlo : M.lo ≤ M.n) (k1 : isSl kv = true) (k2 : slen kv = kids.length) (k3 : NodesAt M kids (sid kv) (soff kv)) (hw : wei (.mk op a b c d kids) ≤ 400000000) :
    Cp fns 9 [.ag (rcs op a b c d kv)] M fun m M' => OfPost M (.mk op a b c d kids) m M' := by
  refine Cp_call (fn := F9) (by kernel_rfl) (Nat.le_of_ble_eq_true rfl) ?_
  show Wp fns B9 (T.set q0 (some (.ag (rcs op a b c d kv))) T.lf) M _
  unfold B9
  have hU : isU (.ag (rcs op a b c d kv)) = false := rfl
  have hc6 : MV.cells (.ag (rcs op a b c d kv)) = rcs op a b c d kv := rfl
  have hl6 : (rcs op a b c d kv).length = 6 := rfl
  have hstn : stOk 3 (.ag [.nilm, .nils, .nils]) = true := rfl
  simp (maxSteps := 4000000) (disch := first | omega | assumption | (simp only [bxS, bxV, stOk, Nat.reduceBEq, Nat.reduceEqDiff, Nat.reduceAdd]; done) | (simp only [bxU]; omega) | ((try apply has_setN); apply has_ofL; simp only [bxL]; omega)) only [↓bxD, bxP, bxQ, bxQ2, Nat.reduceBEq, reduceCtorEq, Nat.reduceAdd, Nat.reduceSub, Nat.reduceMul, Nat.reduceLeDiff, Nat.reduceLT, bxR, hU, hc6, hl6, push_at, fill_nil]
  generalize hM2 : MH.set _ _ _ = M2
  have hx1 : Ext M ((M.push (.cs false 6 (ofL (rcs op a b c d kv) 0))).push (.cs false 5 (ofL z5 0))) := (Ext.push M _).trans (.push _ _)
  generalize hM1 : (M.push (.cs false 6 (ofL (rcs op a b c d kv) 0))).push (.cs false 5 (ofL z5 0)) = M1 at hx1
  have hM2 : (M1.push (.cs false 3 (ofL [.nilm, .nils, .nils] 0))).set (M.n + 1 + 1) (some (.cs false 3 (setN [.nilm, .nils, .nils] 0 (ofL [.nilm, .nils, .nils] 0)))) = M2 := by rw [← hM1]; exact hM2
  have n1 : M1.n = M.n + 2 := by rw [← hM1]; rfl
  have l1 := hx1.lo
  have g1 : M1.get M.n = some (.cs false 6 (ofL (rcs op a b c d kv) 0)) := by rw [← hM1, push_old (by show M.n < M.n + 1; omega)]; exact push_new _
  have e2 : M1.get (M.n + 1) = some (.cs false 5 (ofL z5 0)) := by rw [← hM1]; exact push_new (M := M.push _) _
  have hx2 : Ext M1 M2 := by rw [← hM2]; exact (Ext.push M1 _).set _ (by omega)
  have n2 : M2.n = M1.n + 1 := by rw [← hM2]; rfl
  have e4 : M2.get (M.n + 1 + 1) = some (.cs false 3 (setN [.nilm, .nils, .nils] 0 (ofL [.nilm, .nils, .nils] 0))) := by rw [← hM2]; exact set_same _ _
  have l2 := hx2.lo
  clear hM1 hM2
  have hnode : NodeAt M1 (.mk op a b c d kids) M.n 0 := by
    unfold NodeAt
    exact ⟨_, kv, g1, by omega, at_ofL _, k1, k2, k3.ext hx1⟩
  refine bindP_call (run_any (Mb := M1) (by omega) hx2 e4 ⟨by omega, by omega⟩ (at_setN _ _ _) hnode hw) ?_
  rintro m M3 ⟨ms, ⟨cs, mid, mv, pv, hS⟩, hI, hR⟩
  have hreg : Reg ms (.mk op a b c d kids) M.n 0 := hR
  have en3 := hS.ext.n
  have el3 := hS.ext.lo
  have hsv := hS.svl
  simp (maxSteps := 4000000) (disch := first | omega | assumption | (simp only [bxS, bxV, stOk, Nat.reduceBEq, Nat.reduceEqDiff, Nat.reduceAdd]; done) | (simp only [bxU]; omega) | ((try apply has_setN); apply has_ofL; simp only [bxL]; omega)) only [↓bxD, bxP, bxQ, bxQ2, Nat.reduceBEq, reduceCtorEq, Nat.reduceAdd, Nat.reduceSub, Nat.reduceMul, Nat.reduceLeDiff, Nat.reduceLT, bxR, hU, hc6, hl6, push_at, fill_nil]
  refine bindP_call (sizeOf_any hS.rd (hnode.ext hS.ext) (reg_known hI hreg) (by omega)) ?_
  rintro m M4 ⟨rfl, hx4⟩
  have n4 := hx4.n
  have l4 := hx4.lo
  have hst2 : ∀ x y : Int, stOk 2 (.ag [.i .i64 x, .i .i64 y]) = true := fun _ _ => rfl
  have hst2' := hst2 (szP (.mk op a b c d kids)) (szD (.mk op a b c d kids))
  simp (maxSteps := 4000000) (disch := first | omega | assumption | (simp only [bxS, bxV, stOk, Nat.reduceBEq, Nat.reduceEqDiff, Nat.reduceAdd]; done) | (simp only [bxU]; omega) | ((try apply has_setN); apply has_ofL; simp only [bxL]; omega)) only [↓bxD, bxP, bxQ, bxQ2, Nat.reduceBEq, reduceCtorEq, Nat.reduceAdd, Nat.reduceSub, Nat.reduceMul, Nat.reduceLeDiff, Nat.reduceLT, bxR, hU, hc6, hl6, push_at, fill_nil]
  generalize hM5 : MH.set _ _ _ = M5
  have x5 : Ext M4 M5 := by rw [← hM5]; exact (Ext.push M4 _).set _ (Nat.le_refl _)
  have n5 : M5.n = M4.n + 1 := by rw [← hM5]; rfl
  have e5 : M5.get M4.n = some (.cs false 2 (setN [.i .i64 (szP (.mk op a b c d kids)), .i .i64 (szD (.mk op a b c d kids))] 0 (ofL [.i .i64 0, .i .i64 0] 0))) := by rw [← hM5]; exact set_same _ _
  have l5 := x5.lo
  clear hM5
  have xe : Ext M1 M5 := (hS.ext.trans hx4).trans x5
  have e25 : M5.get (M.n + 1) = some (.cs false 5 (ofL z5 0)) := (xe.old _ (by omega)).trans e2
  have hz5 : stOk 5 (.ag z5) = true := rfl
  have hz5' : stOk 5 (.ag [.nils, .b false, .nils, .nils, .nils]) = true := rfl
  have hzc : MV.cells (.ag z5) = z5 := rfl
  have hb5 : hasB (ofL z5 0) 5 0 = true := has_ofL _ _ _ (by decide)
  have hgz : ∀ l, l = z5 → Ev.getN (setN l 0 (ofL z5 0)) 5 0 = some l := fun l e => by subst e; exact getN_setN' rfl
  have hgz := hgz [.nils, .b false, .nils, .nils, .nils] rfl
  have hxx : Ext M M5 := hx1.trans xe
  by_cases h1 : 150 < cnt (.mk op a b c d kids)
  · have d1 : decide ((150 : Int) < szP (.mk op a b c d kids)) = true := decide_eq_true (by unfold szP; omega)
    simp (maxSteps := 4000000) (disch := first | omega | assumption | (simp only [bxS, bxV, stOk, Nat.reduceBEq, Nat.reduceEqDiff, Nat.reduceAdd]; done) | (simp only [bxU]; omega) | ((try apply has_setN); apply has_ofL; simp only [bxL]; omega)) only [↓bxD, bxP, bxQ, bxQ2, Nat.reduceBEq, reduceCtorEq, Nat.reduceAdd, Nat.reduceSub, Nat.reduceMul, Nat.reduceLeDiff, Nat.reduceLT, bxR, e5, e25, get_set, res_cN, cNV_p, cNo_cs, hzc, fill_nil, map_ag, hgz, consO_some, resL_c, d1]
    exact ⟨hxx.set _ (by omega), .inl ⟨h1, rfl⟩⟩
  have d1 : decide ((150 : Int) < szP (.mk op a b c d kids)) = false := decide_eq_false (by unfold szP; omega)
  by_cases h2 : 200 < deep (.mk op a b c d kids)
  · have d2 : decide ((200 : Int) < szD (.mk op a b c d kids)) = true := decide_eq_true (by unfold szD; omega)
    simp (maxSteps := 4000000) (disch := first | omega | assumption | (simp only [bxS, bxV, stOk, Nat.reduceBEq, Nat.reduceEqDiff, Nat.reduceAdd]; done) | (simp only [bxU]; omega) | ((try apply has_setN); apply has_ofL; simp only [bxL]; omega)) only [↓bxD, bxP, bxQ, bxQ2, Nat.reduceBEq, reduceCtorEq, Nat.reduceAdd, Nat.reduceSub, Nat.reduceMul, Nat.reduceLeDiff, Nat.reduceLT, bxR, e5, e25, get_set, res_cN, cNV_p, cNo_cs, hzc, fill_nil, map_ag, hgz, consO_some, resL_c, d1, d2]
    exact ⟨hxx.set _ (by omega), .inr (.inl ⟨by omega, h2, rfl⟩)⟩
  have d2 : decide ((200 : Int) < szD (.mk op a b c d kids)) = false := decide_eq_false (by unfold szD; omega)
  simp (maxSteps := 4000000) (disch := first | omega | assumption | (simp only [bxS, bxV, stOk, Nat.reduceBEq, Nat.reduceEqDiff, Nat.reduceAdd]; done) | (simp only [bxU]; omega) | ((try apply has_setN); apply has_ofL; simp only [bxL]; omega)) only [↓bxD, bxP, bxQ, bxQ2, Nat.reduceBEq, reduceCtorEq, Nat.reduceAdd, Nat.reduceSub, Nat.reduceMul, Nat.reduceLeDiff, Nat.reduceLT, bxR, e5, e25, get_set, res_cN, cNV_p, cNo_cs, hzc, fill_nil, map_ag, hgz, consO_some, resL_c, d1, d2]
  show Wp fns K9_0 _ _ _
  generalize hf1 : (T.set _ _ _ : Fr) = f1
  have j1 : X.ev f1 (.t q1) = .p M.n 0 := by rw [← hf1]; simp (maxSteps := 4000000) (disch := first | omega | assumption | (simp only [bxS, bxV, stOk, Nat.reduceBEq, Nat.reduceEqDiff, Nat.reduceAdd]; done) | (simp only [bxU]; omega) | ((try apply has_setN); apply has_ofL; simp only [bxL]; omega)) only [↓bxD, bxP, bxQ, bxQ2, Nat.reduceBEq, reduceCtorEq, Nat.reduceAdd, Nat.reduceSub, Nat.reduceMul, Nat.reduceLeDiff, Nat.reduceLT, bxR, e5, e25, get_set, res_cN, cNV_p, cNo_cs, hzc, fill_nil, map_ag, hgz, consO_some, resL_c]
  have j2 : f1.get q2 = some (.p (M.n + 1) 0) := by rw [← hf1]; simp (maxSteps := 4000000) (disch := first | omega | assumption | (simp only [bxS, bxV, stOk, Nat.reduceBEq, Nat.reduceEqDiff, Nat.reduceAdd]; done) | (simp only [bxU]; omega) | ((try apply has_setN); apply has_ofL; simp only [bxL]; omega)) only [↓bxD, bxP, bxQ, bxQ2, Nat.reduceBEq, reduceCtorEq, Nat.reduceAdd, Nat.reduceSub, Nat.reduceMul, Nat.reduceLeDiff, Nat.reduceLT, bxR, e5, e25, get_set, res_cN, cNV_p, cNo_cs, hzc, fill_nil, map_ag, hgz, consO_some, resL_c]
  have j4 : X.ev f1 (.t q4) = .p (M.n + 1 + 1) 0 := by rw [← hf1]; simp (maxSteps := 4000000) (disch := first | omega | assumption | (simp only [bxS, bxV, stOk, Nat.reduceBEq, Nat.reduceEqDiff, Nat.reduceAdd]; done) | (simp only [bxU]; omega) | ((try apply has_setN); apply has_ofL; simp only [bxL]; omega)) only [↓bxD, bxP, bxQ, bxQ2, Nat.reduceBEq, reduceCtorEq, Nat.reduceAdd, Nat.reduceSub, Nat.reduceMul, Nat.reduceLeDiff, Nat.reduceLT, bxR, e5, e25, get_set, res_cN, cNV_p, cNo_cs, hzc, fill_nil, map_ag, hgz, consO_some, resL_c]
  have j2' := ev_get j2
  clear hf1
  simp only [q1, q2, q4] at j1 j2 j2' j4
  have gs := hS.g
  have gs5 : M5.get (M.n + 1 + 1) = some (.cs false 3 cs) := (x5.old _ (by omega)).trans ((hx4.old _ hsv.2).trans gs)
  have gN : Ev.getN cs 3 0 = some [.m mid, mv, pv] := hS.at_.getN
  unfold K9_0
  simp (maxSteps := 4000000) (disch := first | omega | assumption | (simp only [bxS, bxV, stOk, Nat.reduceBEq, Nat.reduceEqDiff, Nat.reduceAdd]; done) | (simp only [bxU]; omega) | ((try apply has_setN); apply has_ofL; simp only [bxL]; omega)) only [↓bxD, bxP, bxQ, bxQ2, Nat.reduceBEq, reduceCtorEq, Nat.reduceAdd, Nat.reduceSub, Nat.reduceMul, Nat.reduceLeDiff, Nat.reduceLT, bxR, j1, j2, j2', j4, gs5, gN, e25, get_set, res_cN, cNV_p, cNo_cs, map_ag, consO_some, resL_c, push_at]
  have f5 : fillM [(0, 3, MV.ag [.m mid, mv, pv])] [.nilm, .nils, .nils, .nils, .nils] = some [.m mid, mv, pv, .nils, .nils] := rfl
  obtain ⟨sm, _⟩ := hS.rm.row.sl
  obtain ⟨sp, _⟩ := hS.rp.row.sl
  have hst5 : stOk 5 (.ag [.m mid, mv, pv, .nils, .nils]) = true := by
    cases mv <;> first | cases sm | skip
    all_goals cases pv <;> first | cases sp | skip
    all_goals rfl
  simp (maxSteps := 4000000) (disch := first | omega | assumption | (simp only [bxS, bxV, stOk, Nat.reduceBEq, Nat.reduceEqDiff, Nat.reduceAdd]; done) | (simp only [bxU]; omega) | ((try apply has_setN); apply has_ofL; simp only [bxL]; omega)) only [↓bxD, bxP, bxQ, bxQ2, Nat.reduceBEq, reduceCtorEq, Nat.reduceAdd, Nat.reduceSub, Nat.reduceMul, Nat.reduceLeDiff, Nat.reduceLT, bxR, j1, j2, j2', j4, gs5, gN, e25, get_set, res_cN, cNV_p, cNo_cs, map_ag, consO_some, resL_c, push_at, f5]
  generalize hM6 : MH.set _ _ _ = M6
  have x6 : Ext M5 M6 := by rw [← hM6]; exact (Ext.push M5 _).set _ (Nat.le_refl _)
  have n6 : M6.n = M5.n + 1 := by rw [← hM6]; rfl
  have e6 : M6.get M5.n = some (.cs false 5 (setN [.m mid, mv, pv, .nils, .nils] 0 (ofL [.nilm, .nils, .nils, .nils, .nils] 0))) := by rw [← hM6]; exact set_same _ _
  have l6 := x6.lo
  clear hM6
  have x35 : Ext M3 M5 := hx4.trans x5
  have hml := hS.ml
  have hsrv : SvB M5 mid mv ms := ⟨(x35.old mid hml.2).trans hS.gm, by omega, hS.rm.row.ext x35, fun m hm => ⟨(hS.nodes m hm).1.ext xe, kidsV_ext xe (hS.nodes m hm).1 (hS.nodes m hm).2⟩, hI⟩
  have hB : Bd M5 M6 M5.n mid mv pv ms ⟨[], []⟩ := ⟨_, .nils, .nils, hsrv, x6, e6, ⟨Nat.le_refl _, by omega⟩, at_setN _ _ _, OwnRow.nil _ _ _, OwnRow.nil _ _ _, rfl⟩
  refine bindP_call (part_any (Mb := M5) (by omega) _ _ (Nat.le_refl _) (by omega) M6 ⟨[], []⟩ M.n 0 hB (hnode.ext xe) hreg (by simp; omega)) ?_
  rintro m M7 ⟨rfl, hB7, hF7⟩
  have en7 := hB7.ext.n
  have el7 := hB7.ext.lo
  have hsl := partM_len (.mk op a b c d kids) ⟨[], []⟩
  simp (maxSteps := 4000000) (disch := first | omega | assumption | (simp only [bxS, bxV, stOk, Nat.reduceBEq, Nat.reduceEqDiff, Nat.reduceAdd]; done) | (simp only [bxU]; omega) | ((try apply has_setN); apply has_ofL; simp only [bxL]; omega)) only [↓bxD, bxP, bxQ, bxQ2, Nat.reduceBEq, reduceCtorEq, Nat.reduceAdd, Nat.reduceSub, Nat.reduceMul, Nat.reduceLeDiff, Nat.reduceLT, bxR, j1, j2, j2', j4, gs5, gN, e25, get_set, res_cN, cNV_p, cNo_cs, map_ag, consO_some, resL_c, push_at]
  refine bindP_call (posits_any (by omega) hB7 (by rw [hsl]; simp; omega)) ?_
  rintro mm M8 ⟨hP8, hx8⟩
  have n8 := hx8.n
  have l8 := hx8.lo
  have xe8 : Ext M5 M8 := hB7.ext.trans hx8
  have e28 : M8.get (M.n + 1) = some (.cs false 5 (ofL z5 0)) := (xe8.old _ (by omega)).trans e25
  obtain ⟨vs, vf, vl, vo, rfl, p1, p2, p3, p4⟩ := hP8
  obtain ⟨s1, _⟩ := p1.row.sl
  obtain ⟨s2, _⟩ := p2.row.sl
  obtain ⟨s3, _⟩ := p3.row.sl
  obtain ⟨es, p41, p42, p43⟩ := p4
  obtain ⟨s4, _⟩ := p41.row.sl
  have hst8 : ∀ bb, stOk 5 (.ag [vs, .b bb, vf, vl, vo]) = true := fun bb => by
    cases vs <;> first | cases s1 | skip
    all_goals cases vf <;> first | cases s2 | skip
    all_goals cases vl <;> first | cases s3 | skip
    all_goals cases vo <;> first | cases s4 | skip
    all_goals rfl
  have hst8 := hst8 (partM (.mk op a b c d kids) ⟨[], []⟩).1.null
  have hgm : ∀ l : List MV, l.length = 5 → Ev.getN (setN l 0 (ofL z5 0)) 5 0 = some l := fun l e => getN_setN' e
  have hgm := hgm [vs, .b (partM (.mk op a b c d kids) ⟨[], []⟩).1.null, vf, vl, vo] rfl
  simp (maxSteps := 4000000) (disch := first | omega | assumption | (simp only [bxS, bxV, stOk, Nat.reduceBEq, Nat.reduceEqDiff, Nat.reduceAdd]; done) | (simp only [bxU]; omega) | ((try apply has_setN); apply has_ofL; simp only [bxL]; omega)) only [↓bxD, bxP, bxQ, bxQ2, Nat.reduceBEq, reduceCtorEq, Nat.reduceAdd, Nat.reduceSub, Nat.reduceMul, Nat.reduceLeDiff, Nat.reduceLT, bxR, j1, j2, j2', j4, gs5, gN, e25, get_set, res_cN, cNV_p, cNo_cs, map_ag, consO_some, resL_c, push_at, e28, hgm]
  have kp : ∀ {sz : Nat} {v : MV} {l : List (List MV)} (o : Option MO), OwnRow M5.n M8 sz v l → OwnRow M.n (M8.set (M.n + 1) o) sz v l := fun o hr => OwnRow.le (hr.keep (Nat.le_refl _) fun a n d e e2 => by
    obtain ⟨cc, q1, q2, q3⟩ := own_id hr e2
    rw [set_ne (by omega)]) (by omega)
  exact ⟨(hxx.trans xe8).set _ (by omega), .inr (.inr ⟨by omega, by omega, _, rfl, vs, vf, vl, vo, rfl, kp _ p1, kp _ p2, kp _ p3, es, kp _ p41, p42, fun i x y h1 h2 => kp _ (p43 i x y h1 h2)⟩)⟩
theorem Cp_true {fns : Nat → Option IFn} {g : Nat} {M : MH} (hg : fns g = some Ftrue) : Cp fns g [] M fun m M' => m = .b true ∧ M' = M := by
  refine Cp_call hg (Nat.le_refl _) ?_
  show Wp fns (.reg [⟨some (.k1 .d0), none, .mov (.c (.b true))⟩]) _ M _
  simp only [Wp_reg_iff, Wl_op_iff, Wl_nil_iff, bindP_some, ev_mov, ev_c, setD_some, retQ_norm, show Ftrue.res = [.tmp (.k1 .d0)] from rfl, resL_1, res_set, if_true, Option.some.injEq, exists_eq_left']
  simp [packM]
theorem num_any {M : MH} {z : Int} : Cp fns 10 [.i .i64 z] M fun m M' => m = .i .i64 z ∧ M' = M := by
  refine Cp_call (fn := F10) (by kernel_rfl) (Nat.le_of_ble_eq_true rfl) ?_
  show Wp fns B10 (T.set q0 (some (.i .i64 z)) T.lf) M _
  unfold B10
  simp (maxSteps := 4000000) (disch := first | omega | assumption | (simp only [bxS, bxV, stOk, Nat.reduceBEq, Nat.reduceEqDiff, Nat.reduceAdd]; done) | (simp only [bxU]; omega) | ((try apply has_setN); apply has_ofL; simp only [bxL]; omega)) only [↓bxD, bxP, bxQ, Nat.reduceBEq, reduceCtorEq, Nat.reduceAdd, Nat.reduceSub, Nat.reduceMul, Nat.reduceLeDiff, Nat.reduceLT, bxR]
theorem of_short {M M' : MH} {x : Rx} {m : MV} (h : OfPost M x m M') : Ext M M' ∧ ∃ mm e, m = .tp [mm, .i .i64 e] ∧ stOk 5 mm = true ∧ (∃ l, mm = .ag l ∧ l.length = 5) ∧ ((150 < cnt x ∧ e = 3) ∨ (cnt x ≤ 150 ∧ 200 < deep x ∧ e = 4) ∨ (cnt x ≤ 150 ∧ deep x ≤ 200 ∧ e = 0)) := by
  obtain ⟨hx, ⟨h1, rfl⟩ | ⟨h1, h2, rfl⟩ | ⟨h1, h2, mm, rfl, vs, vf, vl, vo, rfl, p1, p2, p3, es, p4, _⟩⟩ := h
  · exact ⟨hx, _, _, rfl, rfl, ⟨_, rfl, rfl⟩, .inl ⟨h1, rfl⟩⟩
  · exact ⟨hx, _, _, rfl, rfl, ⟨_, rfl, rfl⟩, .inr (.inl ⟨h1, h2, rfl⟩)⟩
  · refine ⟨hx, _, _, rfl, ?_, ⟨_, rfl, rfl⟩, .inr (.inr ⟨h1, h2, rfl⟩)⟩
    obtain ⟨s1, _⟩ := p1.row.sl
    obtain ⟨s2, _⟩ := p2.row.sl
    obtain ⟨s3, _⟩ := p3.row.sl
    obtain ⟨s4, _⟩ := p4.row.sl
    cases vs <;> first | cases s1 | skip
    all_goals cases vf <;> first | cases s2 | skip
    all_goals cases vl <;> first | cases s3 | skip
    all_goals cases vo <;> first | cases s4 | skip
    all_goals rfl
theorem rowAt_sub {M M' : MH} (k : Sub M M') {sz : Nat} {v : MV} {es : List (List MV)} (h : RowAt M sz v es) : RowAt M' sz v es := by
  obtain ⟨hs, h | ⟨id, off, e, ro, s, c, h1, h2, h3, h4⟩⟩ := h
  · exact ⟨hs, .inl h⟩
  · exact ⟨hs, .inr ⟨id, off, e, ro, s, c, h1, (k.old _ h3).trans h2, Nat.lt_of_lt_of_le h3 k.n, h4⟩⟩
theorem own_sub {lo : Nat} {M M' : MH} (k : Sub M M') {sz : Nat} {v : MV} {es : List (List MV)} (h : OwnRow lo M sz v es) : OwnRow lo M' sz v es := by
  obtain ⟨hs, h | ⟨id, c, h1, h2, h3, h4, h5⟩⟩ := h
  · exact ⟨hs, .inl h⟩
  · exact ⟨hs, .inr ⟨id, c, h1, (k.old _ h4).trans h2, h3, Nat.lt_of_lt_of_le h4 k.n, h5⟩⟩
theorem posAt_sub {lo : Nat} {M M' : MH} (k : Sub M M') {m : MV} {p : Pm} {b : Bs} (h : PosAt lo M m p b) : PosAt lo M' m p b := by
  obtain ⟨vs, vf, vl, vo, rfl, h1, h2, h3, es, h4, h5, h6⟩ := h
  exact ⟨vs, vf, vl, vo, rfl, own_sub k h1, own_sub k h2, own_sub k h3, es, own_sub k h4, h5, fun i x y hx hy => own_sub k (h6 i x y hx hy)⟩
theorem law_means {M : MH} {s : ByteArray} {bv : MV} {w : List Nat} (hlo : M.lo ≤ M.n) (hs : (s.size : Int) ≤ 9223372036854775807) (hb : RowAt M 1 bv (bvs w)) (h256 : ∀ c ∈ w, c < 256) (ha : ∀ M, Cp fns 7 [] M fun m M' => m = .b true ∧ M' = M) : Cp fns 3 [.s s, bv] M fun m _ => m = .b true := by
  obtain ⟨b1, b2⟩ := hb.sl
  rw [bvs_len] at b2
  have z0 : decide ((0 : Int) ≠ 0) = false := decide_eq_false (by simp)
  refine Cp_call (fn := F3) (by kernel_rfl) (Nat.le_of_ble_eq_true rfl) ?_
  show Wp fns B3 (T.set q1 (some bv) (T.set q0 (some (.s s)) T.lf)) M _
  unfold B3
  simp (maxSteps := 4000000) (disch := first | omega | assumption | (simp only [bxS, bxV, stOk, Nat.reduceBEq, Nat.reduceEqDiff, Nat.reduceAdd]; done) | (simp only [bxU]; omega) | ((try apply has_setN); apply has_ofL; simp only [bxL]; omega)) only [↓bxD, bxP, bxQ, Nat.reduceBEq, reduceCtorEq, Nat.reduceAdd, Nat.reduceSub, Nat.reduceMul, Nat.reduceLeDiff, Nat.reduceLT, bxR, b1, b2]
  refine bindP_call (ha _) ?_
  rintro m M1 ⟨rfl, hM⟩
  obtain rfl : M = M1 := hM.symm
  simp (maxSteps := 4000000) (disch := first | omega | assumption | (simp only [bxS, bxV, stOk, Nat.reduceBEq, Nat.reduceEqDiff, Nat.reduceAdd]; done) | (simp only [bxU]; omega) | ((try apply has_setN); apply has_ofL; simp only [bxL]; omega)) only [↓bxD, bxP, bxQ, Nat.reduceBEq, reduceCtorEq, Nat.reduceAdd, Nat.reduceSub, Nat.reduceMul, Nat.reduceLeDiff, Nat.reduceLT, bxR, b1, b2]
  refine bindP_call (parse_any hlo hs) ?_
  rintro m M2 ⟨x2, ⟨es, b, e, rfl, hes, he⟩ | ⟨es, b, x, rfl, hes, hX, hW, hwei⟩⟩
  · have l2 := x2.lo
    have n2 := x2.n
    have hlo2 : M2.lo ≤ M2.n := by omega
    have hst := hes.stok
    have hcl : MV.cells (.ag es) = es := by obtain ⟨_, _, _, _, _, _, rfl, _⟩ := hes; rfl
    have ed : decide (e ≠ 0) = true := decide_eq_true he
    simp (maxSteps := 4000000) (disch := first | omega | assumption | (simp only [bxS, bxV, stOk, Nat.reduceBEq, Nat.reduceEqDiff, Nat.reduceAdd]; done) | (simp only [bxU]; omega) | ((try apply has_setN); apply has_ofL; simp only [bxL]; omega)) only [↓bxD, bxP, bxQ, Nat.reduceBEq, reduceCtorEq, Nat.reduceAdd, Nat.reduceSub, Nat.reduceMul, Nat.reduceLeDiff, Nat.reduceLT, bxR, b1, b2, hst, hcl, ed]
  · have l2 := x2.lo
    have n2 := x2.n
    have hlo2 : M2.lo ≤ M2.n := by omega
    have hst := hes.stok
    have hcl : MV.cells (.ag es) = es := by obtain ⟨_, _, _, _, _, _, rfl, _⟩ := hes; rfl
    by_cases h6 : (6 : Int) < (w.length : Int)
    · have d6 : decide ((6 : Int) < (w.length : Int)) = true := decide_eq_true h6
      simp (maxSteps := 4000000) (disch := first | omega | assumption | (simp only [bxS, bxV, stOk, Nat.reduceBEq, Nat.reduceEqDiff, Nat.reduceAdd]; done) | (simp only [bxU]; omega) | ((try apply has_setN); apply has_ofL; simp only [bxL]; omega)) only [↓bxD, bxP, bxQ, Nat.reduceBEq, reduceCtorEq, Nat.reduceAdd, Nat.reduceSub, Nat.reduceMul, Nat.reduceLeDiff, Nat.reduceLT, bxR, b1, b2, hst, hcl, z0, d6]
    · have d6 : decide ((6 : Int) < (w.length : Int)) = false := decide_eq_false h6
      by_cases h14 : (14 : Int) < (s.size : Int)
      · have d14 : decide ((14 : Int) < (s.size : Int)) = true := decide_eq_true h14
        simp (maxSteps := 4000000) (disch := first | omega | assumption | (simp only [bxS, bxV, stOk, Nat.reduceBEq, Nat.reduceEqDiff, Nat.reduceAdd]; done) | (simp only [bxU]; omega) | ((try apply has_setN); apply has_ofL; simp only [bxL]; omega)) only [↓bxD, bxP, bxQ, Nat.reduceBEq, reduceCtorEq, Nat.reduceAdd, Nat.reduceSub, Nat.reduceMul, Nat.reduceLeDiff, Nat.reduceLT, bxR, b1, b2, hst, hcl, z0, d6, d14, ev_lenT, lenT_s]
      · have d14 : decide ((14 : Int) < (s.size : Int)) = false := decide_eq_false h14
        simp (maxSteps := 4000000) (disch := first | omega | assumption | (simp only [bxS, bxV, stOk, Nat.reduceBEq, Nat.reduceEqDiff, Nat.reduceAdd]; done) | (simp only [bxU]; omega) | ((try apply has_setN); apply has_ofL; simp only [bxL]; omega)) only [↓bxD, bxP, bxQ, Nat.reduceBEq, reduceCtorEq, Nat.reduceAdd, Nat.reduceSub, Nat.reduceMul, Nat.reduceLeDiff, Nat.reduceLT, bxR, b1, b2, hst, hcl, z0, d6, d14, ev_lenT, lenT_s]
        generalize hM3 : (M2.push _).set M2.n _ = M3
        have x3 : Ext M2 M3 := by rw [← hM3]; exact (Ext.push M2 _).set _ (Nat.le_refl _)
        have n3 : M3.n = M2.n + 1 := by rw [← hM3]; rfl
        have l3 := x3.lo
        have g6 : M3.get M2.n = some (.cs false 6 (setN es 0 (ofL z6 0))) := by rw [← hM3, set_same]; rfl
        clear hM3
        have hN6 := re_get hes (ofL z6 0)
        show Wp fns K3_1 _ _ _
        unfold K3_1
        simp (maxSteps := 4000000) (disch := first | omega | assumption | (simp only [bxS, bxV, stOk, Nat.reduceBEq, Nat.reduceEqDiff, Nat.reduceAdd]; done) | (simp only [bxU]; omega) | ((try apply has_setN); apply has_ofL; simp only [bxL]; omega)) only [↓bxD, bxP, bxQ, Nat.reduceBEq, reduceCtorEq, Nat.reduceAdd, Nat.reduceSub, Nat.reduceMul, Nat.reduceLeDiff, Nat.reduceLT, bxR, b1, b2, hst, hcl, z0, d6, d14, ev_lenT, lenT_s, g6, hN6, map_ag]
        have hXA := (hX.xat).ext x3
        obtain ⟨op, a, b', c, d, kids⟩ := x
        obtain ⟨kv, hes', k1, k2, k3⟩ := hXA
        have hof := of_any (op := op) (a := a) (b := b') (c := c) (d := d) (M := M3) (by omega) k1 k2 k3 (by omega)
        unfold rcs at hof
        rw [← hes'] at hof
        refine bindP_call hof ?_
        rintro m M4 hP
        obtain ⟨hx4, mm, e4, rfl, hst4, ⟨l, rfl, hl5⟩, he4⟩ := of_short hP
        have n4 := hx4.n
        have l4 := hx4.lo
        have hi0 : ([MV.ag l, MV.i .i64 e4] : List MV)[0]? = some (.ag l) := rfl
        have hcl5 : MV.cells (.ag l) = l := by
          match l, hl5 with
          | [a, b, c, d, e], _ => rfl
        simp (maxSteps := 4000000) (disch := first | omega | assumption | (simp only [bxS, bxV, stOk, Nat.reduceBEq, Nat.reduceEqDiff, Nat.reduceAdd]; done) | (simp only [bxU]; omega) | ((try apply has_setN); apply has_ofL; simp only [bxL]; omega)) only [↓bxD, bxP, bxQ, Nat.reduceBEq, reduceCtorEq, Nat.reduceAdd, Nat.reduceSub, Nat.reduceMul, Nat.reduceLeDiff, Nat.reduceLT, bxR, b1, b2, hst, hcl, z0, d6, d14, ev_lenT, lenT_s, hst4, hcl5]
        generalize hM5 : (M4.push _).set M4.n _ = M5
        have x5 : Ext M4 M5 := by rw [← hM5]; exact (Ext.push M4 _).set _ (Nat.le_refl _)
        have n5 : M5.n = M4.n + 1 := by rw [← hM5]; rfl
        have l5 := x5.lo
        have g9 : M5.get M4.n = some (.cs false 5 (setN l 0 (ofL [MV.nils, MV.b false, MV.nils, MV.nils, MV.nils] 0))) := by rw [← hM5, set_same]
        clear hM5
        have hN9 : ∀ t, getN (setN l 0 t) 5 0 = some l := fun t => by
          have := getN_setN l 0 t
          rwa [hl5] at this
        refine bindP_call num_any ?_
        rintro m M6 ⟨rfl, hM6⟩
        obtain rfl : M5 = M6 := hM6.symm
        by_cases he0 : e4 = 0
        · subst he0
          simp (maxSteps := 4000000) (disch := first | omega | assumption | (simp only [bxS, bxV, stOk, Nat.reduceBEq, Nat.reduceEqDiff, Nat.reduceAdd]; done) | (simp only [bxU]; omega) | ((try apply has_setN); apply has_ofL; simp only [bxL]; omega)) only [↓bxD, bxP, bxQ, Nat.reduceBEq, reduceCtorEq, Nat.reduceAdd, Nat.reduceSub, Nat.reduceMul, Nat.reduceLeDiff, Nat.reduceLT, bxR, b1, b2, z0, g9, hN9, map_ag]
          show Wp fns K3_0 _ _ _
          obtain ⟨hc150, hdeep, hpos⟩ : cnt (.mk op a b' c d kids) ≤ 150 ∧ deep (.mk op a b' c d kids) ≤ 200 ∧ PosAt M3.n M4 (.ag l) (partM (.mk op a b' c d kids) ⟨[], []⟩).1 (partM (.mk op a b' c d kids) ⟨[], []⟩).2 := by
            obtain ⟨_, ⟨h1, h2⟩ | ⟨h1, h2, h3⟩ | ⟨h1, h2, mm, h3, h4⟩⟩ := hP
            · simp at h2
            · simp at h3
            · simp only [MV.tp.injEq, List.cons.injEq, and_true] at h3
              rw [h3]
              exact ⟨h1, h2, h4⟩
          have g65 := (x5.old _ (by omega)).trans ((hx4.old _ (by omega)).trans g6)
          unfold K3_0
          simp (maxSteps := 4000000) (disch := first | omega | assumption | (simp only [bxS, bxV, stOk, Nat.reduceBEq, Nat.reduceEqDiff, Nat.reduceAdd]; done) | (simp only [bxU]; omega) | ((try apply has_setN); apply has_ofL; simp only [bxL]; omega)) only [↓bxD, bxP, bxQ, Nat.reduceBEq, reduceCtorEq, Nat.reduceAdd, Nat.reduceSub, Nat.reduceMul, Nat.reduceLeDiff, Nat.reduceLT, bxR, b1, b2, g9, hN9, g65, hN6, map_ag]
          refine Wp_dreg_of (by omega) ?_
          simp (maxSteps := 4000000) (disch := first | omega | assumption | (simp only [bxS, bxV, stOk, Nat.reduceBEq, Nat.reduceEqDiff, Nat.reduceAdd]; done) | (simp only [bxU]; omega) | ((try apply has_setN); apply has_ofL; simp only [bxL]; omega)) only [↓bxD, bxP, bxQ, Nat.reduceBEq, reduceCtorEq, Nat.reduceAdd, Nat.reduceSub, Nat.reduceMul, Nat.reduceLeDiff, Nat.reduceLT, bxR, b1, b2, g9, hN9, g65, hN6, map_ag]
          have hb5 := (((hb.ext x2).ext x3).ext hx4).ext x5
          have hW' := hW.wf
          have hpos5 : PosAt M3.n M5.lift (.ag l) (partM (.mk op a b' c d kids) ⟨[], []⟩).1 (partM (.mk op a b' c d kids) ⟨[], []⟩).2 := posAt_sub (x5.sub.trans (Sub.lift M5)) hpos
          refine bindP_call (takes_of (Nat.le_refl _) hpos5 hW' hc150 (rowAt_sub (Sub.lift M5) hb5) (by omega) h256) ?_
          rintro m M7 ⟨⟨r, rfl, hr⟩, hx7⟩
          have u7 : Sub M5 M7 := (Sub.lift M5).trans hx7.sub
          have u8 : Sub M5 (M7.down M5.lo) := u7.trans (.down _ _)
          have g67 := (u7.old _ (by omega)).trans g65
          have x8 : Ext M5 (M7.down M5.lo) := Sub.ext u8 rfl
          simp (maxSteps := 4000000) (disch := first | omega | assumption | (simp only [bxS, bxV, stOk, Nat.reduceBEq, Nat.reduceEqDiff, Nat.reduceAdd]; done) | (simp only [bxU]; omega) | ((try apply has_setN); apply has_ofL; simp only [bxL]; omega)) only [↓bxD, bxP, bxQ, Nat.reduceBEq, reduceCtorEq, Nat.reduceAdd, Nat.reduceSub, Nat.reduceMul, Nat.reduceLeDiff, Nat.reduceLT, bxR, b1, b2, g65, g67, hN6, map_ag]
          have hXA8 : XAt (M7.down M5.lo) (.ag es) (.mk op a b' c d kids) := ⟨kv, hes', k1, k2, ((k3.ext hx4).ext x5).ext x8⟩
          have hn8 : (M7.down M5.lo).lo ≤ (M7.down M5.lo).n := by have := x8.n; show M5.lo ≤ _; omega
          refine bindP_call (tk_all 100 (by omega) _ _ _ _ w hn8 hXA8 hW (hb5.ext x8) (by omega) h256) ?_
          rintro m M9 ⟨⟨r2, rfl, hr2⟩, hx9⟩
          have hrr : r = r2 := by
            cases r <;> cases r2 <;> simp_all
          subst hrr
          simp (maxSteps := 4000000) (disch := first | omega | assumption | (simp only [bxS, bxV, stOk, Nat.reduceBEq, Nat.reduceEqDiff, Nat.reduceAdd]; done) | (simp only [bxU]; omega) | ((try apply has_setN); apply has_ofL; simp only [bxL]; omega)) only [↓bxD, bxP, bxQ, Nat.reduceBEq, reduceCtorEq, Nat.reduceAdd, Nat.reduceSub, Nat.reduceMul, Nat.reduceLeDiff, Nat.reduceLT, bxR, b1, b2, g65, g67, hN6, map_ag]
          show Wp fns IC.ret _ _ _
          simp (maxSteps := 4000000) (disch := first | omega | assumption | (simp only [bxS, bxV, stOk, Nat.reduceBEq, Nat.reduceEqDiff, Nat.reduceAdd]; done) | (simp only [bxU]; omega) | ((try apply has_setN); apply has_ofL; simp only [bxL]; omega)) only [↓bxD, bxP, bxQ, Nat.reduceBEq, reduceCtorEq, Nat.reduceAdd, Nat.reduceSub, Nat.reduceMul, Nat.reduceLeDiff, Nat.reduceLT, bxR, b1, b2, g65, g67, hN6, map_ag]
        · have ed : decide (e4 ≠ 0) = true := decide_eq_true he0
          simp (maxSteps := 4000000) (disch := first | omega | assumption | (simp only [bxS, bxV, stOk, Nat.reduceBEq, Nat.reduceEqDiff, Nat.reduceAdd]; done) | (simp only [bxU]; omega) | ((try apply has_setN); apply has_ofL; simp only [bxL]; omega)) only [↓bxD, bxP, bxQ, Nat.reduceBEq, reduceCtorEq, Nat.reduceAdd, Nat.reduceSub, Nat.reduceMul, Nat.reduceLeDiff, Nat.reduceLT, bxR, ed]
theorem bytes_of : ∀ {es : List (List MV)}, (∀ x ∈ es, ∃ c : Nat, x = [.i .u8 (c : Int)] ∧ c < 256) → ∃ w : List Nat, es = bvs w ∧ ∀ c ∈ w, c < 256
  | [], _ => ⟨[], rfl, fun c h => by cases h⟩
  | x :: es, h => by
    obtain ⟨a, rfl, wa⟩ := h x List.mem_cons_self
    obtain ⟨l, rfl, hl⟩ := bytes_of fun y hy => h y (List.mem_cons_of_mem _ hy)
    exact ⟨a :: l, rfl, fun b hb => (List.mem_cons.1 hb).elim (fun e => e ▸ wa) (hl b)⟩
theorem means_model (M : MH) (ms : List MV) (hx : Ext Mz M) (hlo : M.lo ≤ M.n) (ha : ArgsTyped Try.prog M [9, 22] ms) : Cp fns 3 ms M fun m _ => m = .b true := by
  obtain ⟨m1, r1, rfl, ⟨n1, c1, t1, e1⟩, m2, r2, rfl, ⟨n2, c2, t2, e2⟩, rfl⟩ := ha
  simp only [Try.underlying9] at e1
  simp only [Try.underlying22] at e2
  subst e1 e2
  cases n1 with
  | zero => exact t1.elim
  | succ n1 =>
    simp only [Typed, Try.underlying9] at t1
    obtain ⟨s, e, hs⟩ := t1
    injection e with e _
    subst e
    cases n2 with
    | zero => exact t2.elim
    | succ n2 =>
      simp only [Typed, Try.underlying22] at t2
      obtain ⟨v, es, e, hr, hm, hl⟩ := t2
      injection e with e _
      subst e
      rw [show Try.prog.cellsOf 5 = 1 from by kernel_rfl] at hr
      obtain ⟨w, rfl, hw⟩ := bytes_of (es := es) fun x hx => by
        have := hl x hx
        cases n2 with
        | zero => exact this.elim
        | succ n2 =>
          simp only [Typed, Try.underlying5] at this
          obtain ⟨z, rfl, hz⟩ := this
          simp only [Lit.wf, Bool.and_eq_true, decide_eq_true_eq] at hz
          have hz1 : 0 ≤ z := hz.1
          have hz2 : z ≤ 255 := hz.2
          exact ⟨z.toNat, by rw [Int.toNat_of_nonneg hz1], by omega⟩
      refine law_means hlo ?_ hr hw fun M => Cp_true (by kernel_rfl)
      have : maxLen = 140737488351232 ∨ maxLen ≤ 9223372036854775807 := by first | exact .inr (by decide) | exact .inl rfl
      omega
end Go.Proofs.Ytcajphnjiepbaaa.K
