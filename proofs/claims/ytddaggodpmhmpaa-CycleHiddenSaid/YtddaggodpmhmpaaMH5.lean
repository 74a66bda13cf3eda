/-
  What the claim leans on, part 5: The program's mark and Reachable. Conditions: none. The document's Shortest: a row. Conditions: none. The document's Shortest. Conditions: none. The document's Shortest and Productive, whole. Conditions: none. What the document and the program tell of use. Conditions: none. The program's Cyclic. Conditions: none. The program's Check. Conditions: none. The document's circles: rows of rows of one's own, and a name that stays alone. Conditions: none. The document's circles: does a name of a row stay alone. Conditions: none. The document's circles: one step by one rule. Conditions: none. The docum
-/
import Derived.Test.YtddaggodpmhmpaaMH4
import Derived.Test.YtddaggodpmhmpaaMH3
import Derived.Test.YtddaggodpmhmpaaProg
import Derived.KernelRfl
set_option linter.unusedSimpArgs false
set_option linter.unusedVariables false
namespace Go.Proofs.Ytddaggodpmhmpaa.K
open Go Ev
set_option maxRecDepth 100000
set_option maxHeartbeats 4000000

theorem mark_any {M0 M : MH} {id : Nat} {l : List Bool} {ur : MV} {ar : List Int} (hB : BoolsAt M id l) (hx0 : Ext M0 M) (hu0 : IntRow M0 ur ar) (hid0 : M0.n ≤ id) (hid : id < M.n) (hlo : M.lo ≤ id) (hs : ∀ s ∈ ar, 0 ≤ s → s.toNat < l.length) (ha : ar.length ≤ 8) : Cp fns 31 [.sl id 0 l.length 0, ur] M fun m M' => ∃ l' b, m = .b b ∧ BoolsAt M' id l' ∧ l'.length = l.length ∧ M'.n = M.n ∧ M'.lo = M.lo ∧ (∀ j, j ≠ id → M'.get j = M.get j) ∧ ((b = false ∧ l' = l ∧ RchHas l ar) ∨ (b = true ∧ falses l' < falses l)) ∧ (∀ a : Nat, l'[a]? = some true → l[a]? = some true ∨ ∃ s ∈ ar, 0 ≤ s ∧ s.toNat = a) ∧ (∀ a : Nat, l[a]? = some true → l'[a]? = some true) := by
  obtain ⟨hu1, hu2⟩ := hu0.sl
  refine Cp_call (fn := F31) (by kernel_rfl) (Nat.le_of_ble_eq_true rfl) ?_
  show Wp fns B31 (T.set q1 (some ur) (T.set q0 (some (.sl id 0 l.length 0)) T.lf)) M _
  unfold B31
  simp (maxSteps := 4000000) (disch := first | omega | assumption | (simp only [bxS, bxV, stOk, Nat.reduceBEq, Nat.reduceEqDiff, Nat.reduceAdd]; done) | (simp only [bxU]; omega) | ((try apply has_setN); apply has_ofL; simp only [bxL]; omega)) only [↓bxD, bxP, bxQ, Nat.reduceBEq, reduceCtorEq, Nat.reduceAdd, Nat.reduceSub, Nat.reduceMul, Nat.reduceLeDiff, Nat.reduceLT, bxR, hu1, hu2]
  refine Wp_inv (σ := Nat × List Bool × Bool) (fun s f M' => s.1 ≤ ar.length ∧ X.ev f (.t q0) = .sl id 0 l.length 0 ∧ X.ev f (.t q8) = ur ∧ X.ev f (.t q9) = .i .i64 (ar.length : Int) ∧ X.ev f (.t q10) = .i .i64 (s.1 : Int) ∧ X.ev f (.t q5) = .b s.2.2 ∧ BoolsAt M' id s.2.1 ∧ s.2.1.length = l.length ∧ M'.n = M.n ∧ M'.lo = M.lo ∧ (∀ j, j ≠ id → M'.get j = M.get j) ∧ ((s.2.2 = false ∧ s.2.1 = l ∧ RchHas l (ar.take s.1)) ∨ (s.2.2 = true ∧ falses s.2.1 < falses l)) ∧ (∀ a : Nat, s.2.1[a]? = some true → l[a]? = some true ∨ ∃ s ∈ ar, 0 ≤ s ∧ s.toNat = a) ∧ (∀ a : Nat, l[a]? = some true → s.2.1[a]? = some true)) (fun s => ar.length - s.1) ?_ (0, l, false) ?_
  · rintro ⟨k, l1, b⟩ f M1 ⟨hk, h0, h8, h9, h10, h5, hB, hL, hn, hl, ho, hc, hb, hm⟩
    simp only at hk h0 h8 h9 h10 h5 hB hL hc hb hm
    simp only [q0, q5, q8, q9, q10] at h0 h5 h8 h9 h10
    have hx : Ext M0 M1 := ⟨by have := hx0.n; omega, hl.trans hx0.lo, fun j hj => by rw [ho j (by omega)]; exact hx0.old j hj⟩
    have hu := hu0.ext hx
    unfold L31_2
    by_cases hk1 : k < ar.length
    · have d1 : decide ((k : Int) < (ar.length : Int)) = true := decide_eq_true (by omega)
      obtain ⟨s, hsk⟩ : ∃ s, ar[k]? = some s := ⟨_, List.getElem?_eq_getElem hk1⟩
      obtain ⟨ro, sz, t, hg, hid', hC⟩ := hu.read hsk
      have hhas : ∀ (x : List Bool), RchHas x (ar.take k) → (0 ≤ s → x[s.toNat]? = some true) → RchHas x (ar.take (k + 1)) := fun x h1 h2 y hy h0 => by
        rw [List.take_add_one, hsk] at hy
        rcases List.mem_append.1 hy with h3 | h3
        · exact h1 y h3 h0
        · simp only [Option.toList_some, List.mem_singleton] at h3
          subst h3
          exact h2 h0
      by_cases s0 : 0 ≤ s
      · have ds : decide (0 ≤ s) = true := decide_eq_true s0
        have hsl := hs s (List.mem_of_getElem? hsk) s0
        obtain ⟨sn, rfl⟩ : ∃ n : Nat, s = n := ⟨s.toNat, by omega⟩
        simp only [Int.toNat_natCast] at hsl hhas
        obtain ⟨bz, hbz⟩ : ∃ x, l1[sn]? = some x := ⟨_, List.getElem?_eq_getElem (by omega)⟩
        obtain ⟨tb, hb1, hb2, hb3, hb4⟩ := hB.read
        have hR := hb2 _ _ hbz
        have hH := hb3 sn (by omega)
        cases bz with
        | true =>
          simp (maxSteps := 4000000) (disch := first | omega | assumption | (simp only [bxS, bxV, stOk, Nat.reduceBEq, Nat.reduceEqDiff, Nat.reduceAdd]; done) | (simp only [bxU]; omega) | ((try apply has_setN); apply has_ofL; simp only [bxL]; omega)) only [↓bxD, bxP, bxQ, Nat.reduceBEq, reduceCtorEq, Nat.reduceAdd, Nat.reduceSub, Nat.reduceMul, Nat.reduceLeDiff, Nat.reduceLT, bxR, h0, h5, h8, h9, h10, hu1, hu2, hg, hC, d1, ds, ix_slc, hb1, hR]
          show Wp fns K31_1 _ _ _
          unfold K31_1
          simp (maxSteps := 4000000) (disch := first | omega | assumption | (simp only [bxS, bxV, stOk, Nat.reduceBEq, Nat.reduceEqDiff, Nat.reduceAdd]; done) | (simp only [bxU]; omega) | ((try apply has_setN); apply has_ofL; simp only [bxL]; omega)) only [↓bxD, bxP, bxQ, Nat.reduceBEq, reduceCtorEq, Nat.reduceAdd, Nat.reduceSub, Nat.reduceMul, Nat.reduceLeDiff, Nat.reduceLT, bxR, h0, h5, h8, h9, h10, hu1, hu2, hg, hC, d1, ds, ix_slc, hb1, hR]
          show Wp fns K31_0 _ _ _
          unfold K31_0
          simp (maxSteps := 4000000) (disch := first | omega | assumption | (simp only [bxS, bxV, stOk, Nat.reduceBEq, Nat.reduceEqDiff, Nat.reduceAdd]; done) | (simp only [bxU]; omega) | ((try apply has_setN); apply has_ofL; simp only [bxL]; omega)) only [↓bxD, bxP, bxQ, Nat.reduceBEq, reduceCtorEq, Nat.reduceAdd, Nat.reduceSub, Nat.reduceMul, Nat.reduceLeDiff, Nat.reduceLT, bxR, h0, h5, h8, h9, h10, hu1, hu2, hg, hC, d1, ds, ix_slc, hb1, hR]
          refine ⟨(k + 1, l1, b), by simp only; omega, by simp only; omega, rfl, rfl, hB, hL, hn, hl, ho, ?_, hb, hm⟩
          rcases hc with ⟨h1, rfl, h2⟩ | hc
          · exact .inl ⟨h1, rfl, hhas _ h2 fun _ => hbz⟩
          · exact .inr hc
        | false =>
          simp (maxSteps := 4000000) (disch := first | omega | assumption | (simp only [bxS, bxV, stOk, Nat.reduceBEq, Nat.reduceEqDiff, Nat.reduceAdd]; done) | (simp only [bxU]; omega) | ((try apply has_setN); apply has_ofL; simp only [bxL]; omega)) only [↓bxD, bxP, bxQ, Nat.reduceBEq, reduceCtorEq, Nat.reduceAdd, Nat.reduceSub, Nat.reduceMul, Nat.reduceLeDiff, Nat.reduceLT, bxR, h0, h5, h8, h9, h10, hu1, hu2, hg, hC, d1, ds, ix_slc, hb1, hR, hH]
          show Wp fns K31_1 _ _ _
          unfold K31_1
          simp (maxSteps := 4000000) (disch := first | omega | assumption | (simp only [bxS, bxV, stOk, Nat.reduceBEq, Nat.reduceEqDiff, Nat.reduceAdd]; done) | (simp only [bxU]; omega) | ((try apply has_setN); apply has_ofL; simp only [bxL]; omega)) only [↓bxD, bxP, bxQ, Nat.reduceBEq, reduceCtorEq, Nat.reduceAdd, Nat.reduceSub, Nat.reduceMul, Nat.reduceLeDiff, Nat.reduceLT, bxR, h0, h5, h8, h9, h10, hu1, hu2, hg, hC, d1, ds, ix_slc, hb1, hR, hH]
          show Wp fns K31_0 _ _ _
          unfold K31_0
          simp (maxSteps := 4000000) (disch := first | omega | assumption | (simp only [bxS, bxV, stOk, Nat.reduceBEq, Nat.reduceEqDiff, Nat.reduceAdd]; done) | (simp only [bxU]; omega) | ((try apply has_setN); apply has_ofL; simp only [bxL]; omega)) only [↓bxD, bxP, bxQ, Nat.reduceBEq, reduceCtorEq, Nat.reduceAdd, Nat.reduceSub, Nat.reduceMul, Nat.reduceLeDiff, Nat.reduceLT, bxR, h0, h5, h8, h9, h10, hu1, hu2, hg, hC, d1, ds, ix_slc, hb1, hR, hH]
          refine ⟨(k + 1, l1.set sn true, true), by simp only; omega, by simp only; omega, rfl, rfl, ⟨_, set_same _ _, hb4 sn _ (by omega)⟩, by rw [List.length_set]; exact hL, hn, hl, fun j hj => by rw [set_ne hj]; exact ho j hj, ?_, fun a e => ?_, fun a e => set_true (hm a e)⟩
          · have h1 := falses_set hbz
            rcases hc with ⟨_, rfl, _⟩ | ⟨_, h2⟩
            · exact .inr ⟨rfl, h1⟩
            · exact .inr ⟨rfl, Nat.lt_trans h1 h2⟩
          · rw [List.getElem?_set] at e
            by_cases e1 : sn = a
            · subst e1
              exact .inr ⟨_, List.mem_of_getElem? hsk, s0, rfl⟩
            · rw [if_neg e1] at e
              exact hb a e
      · have ds : decide (0 ≤ s) = false := decide_eq_false s0
        simp (maxSteps := 4000000) (disch := first | omega | assumption | (simp only [bxS, bxV, stOk, Nat.reduceBEq, Nat.reduceEqDiff, Nat.reduceAdd]; done) | (simp only [bxU]; omega) | ((try apply has_setN); apply has_ofL; simp only [bxL]; omega)) only [↓bxD, bxP, bxQ, Nat.reduceBEq, reduceCtorEq, Nat.reduceAdd, Nat.reduceSub, Nat.reduceMul, Nat.reduceLeDiff, Nat.reduceLT, bxR, h0, h5, h8, h9, h10, hu1, hu2, hg, hC, d1, ds]
        show Wp fns K31_1 _ _ _
        unfold K31_1
        simp (maxSteps := 4000000) (disch := first | omega | assumption | (simp only [bxS, bxV, stOk, Nat.reduceBEq, Nat.reduceEqDiff, Nat.reduceAdd]; done) | (simp only [bxU]; omega) | ((try apply has_setN); apply has_ofL; simp only [bxL]; omega)) only [↓bxD, bxP, bxQ, Nat.reduceBEq, reduceCtorEq, Nat.reduceAdd, Nat.reduceSub, Nat.reduceMul, Nat.reduceLeDiff, Nat.reduceLT, bxR, h0, h5, h8, h9, h10, hu1, hu2, hg, hC, d1, ds]
        show Wp fns K31_0 _ _ _
        unfold K31_0
        simp (maxSteps := 4000000) (disch := first | omega | assumption | (simp only [bxS, bxV, stOk, Nat.reduceBEq, Nat.reduceEqDiff, Nat.reduceAdd]; done) | (simp only [bxU]; omega) | ((try apply has_setN); apply has_ofL; simp only [bxL]; omega)) only [↓bxD, bxP, bxQ, Nat.reduceBEq, reduceCtorEq, Nat.reduceAdd, Nat.reduceSub, Nat.reduceMul, Nat.reduceLeDiff, Nat.reduceLT, bxR, h0, h5, h8, h9, h10, hu1, hu2, hg, hC, d1, ds]
        refine ⟨(k + 1, l1, b), by simp only; omega, by simp only; omega, rfl, rfl, hB, hL, hn, hl, ho, ?_, hb, hm⟩
        rcases hc with ⟨h1, rfl, h2⟩ | hc
        · exact .inl ⟨h1, rfl, hhas _ h2 fun h => absurd h s0⟩
        · exact .inr hc
    · have d1 : decide ((k : Int) < (ar.length : Int)) = false := decide_eq_false (by omega)
      have hkl : k = ar.length := by omega
      subst hkl
      rw [List.take_length] at hc
      simp (maxSteps := 4000000) (disch := first | omega | assumption | (simp only [bxS, bxV, stOk, Nat.reduceBEq, Nat.reduceEqDiff, Nat.reduceAdd]; done) | (simp only [bxU]; omega) | ((try apply has_setN); apply has_ofL; simp only [bxL]; omega)) only [↓bxD, bxP, bxQ, Nat.reduceBEq, reduceCtorEq, Nat.reduceAdd, Nat.reduceSub, Nat.reduceMul, Nat.reduceLeDiff, Nat.reduceLT, bxR, h0, h5, h8, h9, h10, d1]
      show Wp fns K31_3 _ _ _
      unfold K31_3
      simp (maxSteps := 4000000) (disch := first | omega | assumption | (simp only [bxS, bxV, stOk, Nat.reduceBEq, Nat.reduceEqDiff, Nat.reduceAdd]; done) | (simp only [bxU]; omega) | ((try apply has_setN); apply has_ofL; simp only [bxL]; omega)) only [↓bxD, bxP, bxQ, Nat.reduceBEq, reduceCtorEq, Nat.reduceAdd, Nat.reduceSub, Nat.reduceMul, Nat.reduceLeDiff, Nat.reduceLT, bxR, h0, h5, h8, h9, h10, d1]
      exact ⟨l1, b, rfl, hB, hL, hn, hl, ho, hc, hb, hm⟩
  · exact ⟨Nat.zero_le _, by simp only [bxP, bxQ, reduceCtorEq, hu1, hu2], by simp only [bxP, bxQ, reduceCtorEq, hu1, hu2], by simp only [bxP, bxQ, reduceCtorEq, hu1, hu2], by simp only [bxP, bxQ, reduceCtorEq, hu1, hu2] <;> rfl, by simp only [bxP, bxQ, reduceCtorEq, hu1, hu2], hB, rfl, rfl, rfl, fun _ _ => rfl, .inl ⟨rfl, rfl, fun s hs => by simp at hs⟩, fun a e => .inl e, fun a e => e⟩
theorem preach_round {M0 M : MH} {g : Gr} {vr vf vc vk : MV} {es : List (List MV)} {id : Nat} {l0 : List Bool} {f : Fr} (h : NSt M0 M g vr vf vc vk es id l0 f) (hs : RchSound g l0) (h00 : l0[g.start.toNat]? = some true) (Q : Post)
    (hn : ∀ f' M' l' more, NSt M0 M' g vr vf vc vk es id l' f' → X.ev f' (.t q4) = .b more → RchSound g l' → l'[g.start.toNat]? = some true → ((more = true ∧ falses l' < falses l0) ∨ (more = false ∧ l' = l0 ∧ RchClosed l0 g.rules)) → Q .norm f' M') : Wp fns K16_3 f M Q := by
  have hq1 := h.q1
  have hq3 := h.q3
  have hbox := h.b0
  obtain ⟨hr1, hr2⟩ := h.gr.rules.row.sl
  rw [h.gr.rules.len] at hr2
  unfold gcs at hbox
  simp only [q1, q3] at hq1 hq3
  unfold K16_3
  simp (maxSteps := 4000000) (disch := first | omega | assumption | (simp only [bxS, bxV, stOk, Nat.reduceBEq, Nat.reduceEqDiff, Nat.reduceAdd]; done) | (simp only [bxU]; omega) | ((try apply has_setN); apply has_ofL; simp only [bxL]; omega)) only [↓bxD, bxP, bxQ, Nat.reduceBEq, reduceCtorEq, Nat.reduceAdd, Nat.reduceSub, Nat.reduceMul, Nat.reduceLeDiff, Nat.reduceLT, bxR, hq1, hq3, hbox, hr1, hr2]
  refine Wp_inv (σ := Nat × List Bool × Bool) (fun s f1 M1 => NSt M0 M1 g vr vf vc vk es id s.2.1 f1 ∧ s.1 ≤ g.rules.length ∧ X.ev f1 (.t q19) = vr ∧ X.ev f1 (.t q20) = .i .i64 (g.rules.length : Int) ∧ X.ev f1 (.t q21) = .i .i64 (s.1 : Int) ∧ X.ev f1 (.t q4) = .b s.2.2 ∧ RchSound g s.2.1 ∧ s.2.1[g.start.toNat]? = some true ∧ ((s.2.2 = true ∧ falses s.2.1 < falses l0) ∨ (s.2.2 = false ∧ s.2.1 = l0 ∧ RchClosed l0 (g.rules.take s.1)))) (fun s => g.rules.length - s.1) ?_ (0, l0, false) ?_
  · rintro ⟨i, l, more⟩ f1 M1 ⟨h, hi, h14, h15, h16, h4, hs, h00, hc⟩
    simp only at h hi h14 h15 h16 h4 hs h00 hc
    clear hq1 hq3 hbox
    have hq1 := h.q1
    have hq3 := h.q3
    have hbox := h.b0
    have hlo := h.lo0
    have hn0 := h.ext.n
    have hl0 := h.ext.lo
    have hid1 := h.id1
    have hid2 := h.id2
    unfold gcs at hbox
    have hrl := h.ok.rl
    simp only [q1, q3, q4, q19, q20, q21] at hq1 hq3 h4 h14 h15 h16
    unfold L16_2
    by_cases hi' : i < g.rules.length
    · have d1 : decide ((i : Int) < (g.rules.length : Int)) = true := decide_eq_true (by omega)
      obtain ⟨r, hr⟩ : ∃ r, g.rules[i]? = some r := ⟨_, List.getElem?_eq_getElem hi'⟩
      obtain ⟨a0, ar, a2⟩ := r
      have hmem := List.mem_of_getElem? hr
      obtain ⟨ur, hu1, hu2⟩ := h.gr.rules.get hr
      have hrow := h.gr.rules.row.ext h.ext
      obtain ⟨ro3, s3, t3, hg3, hid3, hat3⟩ := hrow.read hu1
      have hN : Ev.getN t3 3 (soff vr + i * 3) = some [.i .i64 a0, ur, .i .i64 a2] := hat3.getN
      obtain ⟨hu3, hu4⟩ := hu2.sl
      have hu6 := isSl_one hu3
      have hst : stOk 3 (.ag [.i .i64 a0, ur, .i .i64 a2]) = true := by simp only [stOk, cells_ag, isU_ag, all_cons, all_nil, one_i, hu6]; rfl
      obtain ⟨ha0, ha1⟩ := h.ok.left _ hmem
      have hsy := h.ok.sym _ hmem
      have hle := h.ok.len _ hmem
      simp only at ha0 ha1 hsy hle
      obtain ⟨an, rfl⟩ : ∃ n : Nat, a0 = n := ⟨a0.toNat, by omega⟩
      have hll := h.len
      have han : an < l.length := by omega
      obtain ⟨bb, hbb⟩ : ∃ x, l[an]? = some x := ⟨_, List.getElem?_eq_getElem han⟩
      simp (maxSteps := 4000000) (disch := first | omega | assumption | (simp only [bxS, bxV, stOk, Nat.reduceBEq, Nat.reduceEqDiff, Nat.reduceAdd]; done) | (simp only [bxU]; omega) | ((try apply has_setN); apply has_ofL; simp only [bxL]; omega)) only [↓bxD, bxP, bxQ, Nat.reduceBEq, reduceCtorEq, Nat.reduceAdd, Nat.reduceSub, Nat.reduceMul, Nat.reduceLeDiff, Nat.reduceLT, bxR, hq1, hq3, h4, h14, h15, h16, hr1, hr2, hg3, hN, d1]
      show Wp fns K16_1 _ _ _
      unfold K16_1
      simp (maxSteps := 4000000) (disch := first | omega | assumption | (simp only [bxS, bxV, stOk, Nat.reduceBEq, Nat.reduceEqDiff, Nat.reduceAdd]; done) | (simp only [bxU]; omega) | ((try apply has_setN); apply has_ofL; simp only [bxL]; omega)) only [↓bxD, bxP, bxQ, Nat.reduceBEq, reduceCtorEq, Nat.reduceAdd, Nat.reduceSub, Nat.reduceMul, Nat.reduceLeDiff, Nat.reduceLT, bxR, hq1, hq3, h4, h14, h15, h16, hr1, hr2, hg3, hN, d1]
      generalize hM2 : (M1.push _).set M1.n _ = M2
      have hx2 : Ext M1 M2 := by rw [← hM2]; exact (Ext.push M1 _).set _ (Nat.le_refl _)
      have h9 : M2.get M1.n = some (.cs false 3 (setN [.i .i64 (an : Int), ur, .i .i64 a2] 0 (ofL [.i .i64 0, .nils, .i .i64 0] 0))) := by rw [← hM2, set_same]
      have hn3 : M2.n = M1.n + 1 := by rw [← hM2]; rfl
      have hl2 := hx2.lo
      clear hM2
      have hC3 : At (setN [MV.i .i64 (an : Int), ur, .i .i64 a2] 0 (ofL [.i .i64 0, .nils, .i .i64 0] 0)) 0 [.i .i64 (an : Int), ur, .i .i64 a2] := at_setN _ _ _
      have c0 : cget (setN [MV.i .i64 (an : Int), ur, .i .i64 a2] 0 (ofL [.i .i64 0, .nils, .i .i64 0] 0)) 0 = some (.i .i64 (an : Int)) := hC3 0 _ rfl
      have c1 : cget (setN [MV.i .i64 (an : Int), ur, .i .i64 a2] 0 (ofL [.i .i64 0, .nils, .i .i64 0] 0)) 1 = some ur := hC3 1 _ rfl
      have hrow2 : BoolsAt M2 id l := h.row.same (hx2.old _ hid2)
      have hb2 : M2.get M0.n = some (.cs false 7 (ofL (gcs g vr vf vc vk) 0)) := (hx2.old _ (by omega)).trans h.b0
      obtain ⟨tb, hb1, hb3, hb4, hb5⟩ := hrow2.read
      have hR := hb3 _ _ hbb
      cases bb with
      | false =>
        simp (maxSteps := 4000000) (disch := first | omega | assumption | (simp only [bxS, bxV, stOk, Nat.reduceBEq, Nat.reduceEqDiff, Nat.reduceAdd]; done) | (simp only [bxU]; omega) | ((try apply has_setN); apply has_ofL; simp only [bxL]; omega)) only [↓bxD, bxP, bxQ, Nat.reduceBEq, reduceCtorEq, Nat.reduceAdd, Nat.reduceSub, Nat.reduceMul, Nat.reduceLeDiff, Nat.reduceLT, bxR, hq1, hq3, h4, h14, h15, h16, h9, c0, c1, ix_slc, hb1, hR]
        show Wp fns K16_0 _ _ _
        unfold K16_0
        simp (maxSteps := 4000000) (disch := first | omega | assumption | (simp only [bxS, bxV, stOk, Nat.reduceBEq, Nat.reduceEqDiff, Nat.reduceAdd]; done) | (simp only [bxU]; omega) | ((try apply has_setN); apply has_ofL; simp only [bxL]; omega)) only [↓bxD, bxP, bxQ, Nat.reduceBEq, reduceCtorEq, Nat.reduceAdd, Nat.reduceSub, Nat.reduceMul, Nat.reduceLeDiff, Nat.reduceLT, bxR, hq1, hq3, h4, h14, h15, h16, h9, c0, c1, ix_slc, hb1, hR]
        refine ⟨(i + 1, l, more), by simp only; omega, ⟨h.gr, h.ok, h.ext.trans hx2, h.lo0, hb2, h.id1, by omega, hrow2, h.len, by simp only [bxP, bxQ, reduceCtorEq, hq1, hq3, h4, h14, h15, h16, h9, c0, c1, ix_slc, hb1, hR], by simp only [bxP, bxQ, reduceCtorEq, hq1, hq3, h4, h14, h15, h16, h9, c0, c1, ix_slc, hb1, hR]⟩, by simp only; omega, rfl, rfl, hs, h00, ?_⟩
        rcases hc with hc | ⟨hc1, hc2, hc3⟩
        · exact .inl hc
        · refine .inr ⟨hc1, hc2, fun r hr' ha => ?_⟩
          rw [List.take_add_one, hr] at hr'
          rcases List.mem_append.1 hr' with h1 | h1
          · exact hc3 r h1 ha
          · simp only [Option.toList_some, List.mem_singleton] at h1
            subst h1
            subst hc2
            rw [Int.toNat_natCast, hbb] at ha
            cases ha
      | true =>
        simp (maxSteps := 4000000) (disch := first | omega | assumption | (simp only [bxS, bxV, stOk, Nat.reduceBEq, Nat.reduceEqDiff, Nat.reduceAdd]; done) | (simp only [bxU]; omega) | ((try apply has_setN); apply has_ofL; simp only [bxL]; omega)) only [↓bxD, bxP, bxQ, Nat.reduceBEq, reduceCtorEq, Nat.reduceAdd, Nat.reduceSub, Nat.reduceMul, Nat.reduceLeDiff, Nat.reduceLT, bxR, hq1, hq3, h4, h14, h15, h16, h9, c0, c1, ix_slc, hb1, hR]
        refine bindP_call (mark_any hrow2 (h.ext.trans hx2) hu2 (by omega) (by omega) (by rw [hl2, hl0]; omega) (fun s hs s0 => by have := symB_lt (hsy s hs) s0; omega) hle) ?_
        rintro m M3 ⟨l', b, rfl, hB3, hL3, hn4, hl4, ho4, hcase, hfrom, hkeep⟩
        have hx3 : Ext M0 M3 := ⟨by omega, by omega, fun j hj => by rw [ho4 j (by omega)]; exact (h.ext.trans hx2).old j hj⟩
        have hb6 : M3.get M0.n = some (.cs false 7 (ofL (gcs g vr vf vc vk) 0)) := by rw [ho4 _ (by omega)]; exact hb2
        have hs' : RchSound g l' := fun a e => by
          rcases hfrom a e with h1 | ⟨s, h1, h2, h3⟩
          · exact hs a h1
          · subst h3
            exact Rch.step (g := g) _ hmem (by simp only [Int.toNat_natCast]; exact hs an hbb) s h1 h2
        have h00' := hkeep _ h00
        cases b with
        | true =>
          simp (maxSteps := 4000000) (disch := first | omega | assumption | (simp only [bxS, bxV, stOk, Nat.reduceBEq, Nat.reduceEqDiff, Nat.reduceAdd]; done) | (simp only [bxU]; omega) | ((try apply has_setN); apply has_ofL; simp only [bxL]; omega)) only [↓bxD, bxP, bxQ, Nat.reduceBEq, reduceCtorEq, Nat.reduceAdd, Nat.reduceSub, Nat.reduceMul, Nat.reduceLeDiff, Nat.reduceLT, bxR, hq1, hq3, h4, h14, h15, h16, h9, c0, c1, ix_slc, hb1, hR]
          show Wp fns K16_0 _ _ _
          unfold K16_0
          simp (maxSteps := 4000000) (disch := first | omega | assumption | (simp only [bxS, bxV, stOk, Nat.reduceBEq, Nat.reduceEqDiff, Nat.reduceAdd]; done) | (simp only [bxU]; omega) | ((try apply has_setN); apply has_ofL; simp only [bxL]; omega)) only [↓bxD, bxP, bxQ, Nat.reduceBEq, reduceCtorEq, Nat.reduceAdd, Nat.reduceSub, Nat.reduceMul, Nat.reduceLeDiff, Nat.reduceLT, bxR, hq1, hq3, h4, h14, h15, h16, h9, c0, c1, ix_slc, hb1, hR]
          refine ⟨(i + 1, l', true), by simp only; omega, ⟨h.gr, h.ok, hx3, h.lo0, hb6, h.id1, by omega, hB3, hL3.trans hll, by simp only [bxP, bxQ, reduceCtorEq, hq1, hq3, h4, h14, h15, h16, h9, c0, c1, ix_slc, hb1, hR], by simp (maxSteps := 4000000) (disch := first | omega | assumption | (simp only [bxS, bxV, stOk, Nat.reduceBEq, Nat.reduceEqDiff, Nat.reduceAdd]; done) | (simp only [bxU]; omega) | ((try apply has_setN); apply has_ofL; simp only [bxL]; omega)) only [↓bxD, bxP, bxQ, Nat.reduceBEq, reduceCtorEq, Nat.reduceAdd, Nat.reduceSub, Nat.reduceMul, Nat.reduceLeDiff, Nat.reduceLT, bxR, hq1, hq3, h4, h14, h15, h16, h9, c0, c1, ix_slc, hb1, hR, hL3]⟩, by simp only; omega, rfl, rfl, hs', h00', .inl ⟨rfl, ?_⟩⟩
          rcases hcase with ⟨e, _⟩ | ⟨_, h1⟩
          · cases e
          · rcases hc with ⟨_, hc⟩ | ⟨_, rfl, _⟩
            · exact Nat.lt_trans h1 hc
            · exact h1
        | false =>
          rcases hcase with ⟨_, rfl, hhas⟩ | ⟨e, _⟩
          · simp (maxSteps := 4000000) (disch := first | omega | assumption | (simp only [bxS, bxV, stOk, Nat.reduceBEq, Nat.reduceEqDiff, Nat.reduceAdd]; done) | (simp only [bxU]; omega) | ((try apply has_setN); apply has_ofL; simp only [bxL]; omega)) only [↓bxD, bxP, bxQ, Nat.reduceBEq, reduceCtorEq, Nat.reduceAdd, Nat.reduceSub, Nat.reduceMul, Nat.reduceLeDiff, Nat.reduceLT, bxR, hq1, hq3, h4, h14, h15, h16, h9, c0, c1, ix_slc, hb1, hR]
            show Wp fns K16_0 _ _ _
            unfold K16_0
            simp (maxSteps := 4000000) (disch := first | omega | assumption | (simp only [bxS, bxV, stOk, Nat.reduceBEq, Nat.reduceEqDiff, Nat.reduceAdd]; done) | (simp only [bxU]; omega) | ((try apply has_setN); apply has_ofL; simp only [bxL]; omega)) only [↓bxD, bxP, bxQ, Nat.reduceBEq, reduceCtorEq, Nat.reduceAdd, Nat.reduceSub, Nat.reduceMul, Nat.reduceLeDiff, Nat.reduceLT, bxR, hq1, hq3, h4, h14, h15, h16, h9, c0, c1, ix_slc, hb1, hR]
            refine ⟨(i + 1, l', more), by simp only; omega, ⟨h.gr, h.ok, hx3, h.lo0, hb6, h.id1, by omega, hB3, hL3.trans hll, by simp only [bxP, bxQ, reduceCtorEq, hq1, hq3, h4, h14, h15, h16, h9, c0, c1, ix_slc, hb1, hR], by simp only [bxP, bxQ, reduceCtorEq, hq1, hq3, h4, h14, h15, h16, h9, c0, c1, ix_slc, hb1, hR]⟩, by simp only; omega, rfl, rfl, hs', h00', ?_⟩
            rcases hc with hc | ⟨hc1, hc2, hc3⟩
            · exact .inl hc
            · refine .inr ⟨hc1, hc2, fun r hr' ha => ?_⟩
              rw [List.take_add_one, hr] at hr'
              rcases List.mem_append.1 hr' with h1 | h1
              · exact hc3 r h1 ha
              · simp only [Option.toList_some, List.mem_singleton] at h1
                subst h1
                rw [← hc2]
                exact hhas
          · cases e
    · have d1 : decide ((i : Int) < (g.rules.length : Int)) = false := decide_eq_false (by omega)
      have hi2 : i = g.rules.length := by omega
      subst hi2
      rw [List.take_length] at hc
      simp (maxSteps := 4000000) (disch := first | omega | assumption | (simp only [bxS, bxV, stOk, Nat.reduceBEq, Nat.reduceEqDiff, Nat.reduceAdd]; done) | (simp only [bxU]; omega) | ((try apply has_setN); apply has_ofL; simp only [bxL]; omega)) only [↓bxD, bxP, bxQ, Nat.reduceBEq, reduceCtorEq, Nat.reduceAdd, Nat.reduceSub, Nat.reduceMul, Nat.reduceLeDiff, Nat.reduceLT, bxR, hq1, hq3, h4, h14, h15, h16, d1]
      exact hn _ _ l more ⟨h.gr, h.ok, h.ext, h.lo0, h.b0, h.id1, h.id2, h.row, h.len, by simp only [bxP, bxQ, reduceCtorEq, hq1, hq3, h4, h14, h15, h16, d1], by simp only [bxP, bxQ, reduceCtorEq, hq1, hq3, h4, h14, h15, h16, d1]⟩ (by simp only [bxP, bxQ, reduceCtorEq, hq1, hq3, h4, h14, h15, h16, d1]) hs h00 hc
  · exact ⟨⟨h.gr, h.ok, h.ext, h.lo0, h.b0, h.id1, h.id2, h.row, h.len, by simp only [bxP, bxQ, reduceCtorEq, hq1, hq3, hbox, hr1, hr2], by simp only [bxP, bxQ, reduceCtorEq, hq1, hq3, hbox, hr1, hr2]⟩, Nat.zero_le _, by simp only [bxP, bxQ, reduceCtorEq, hq1, hq3, hbox, hr1, hr2], by simp only [bxP, bxQ, reduceCtorEq, hq1, hq3, hbox, hr1, hr2], by simp only [bxP, bxQ, reduceCtorEq, hq1, hq3, hbox, hr1, hr2] <;> rfl, by simp only [bxP, bxQ, reduceCtorEq, hq1, hq3, hbox, hr1, hr2], hs, h00, .inr ⟨rfl, rfl, fun r hr => by simp at hr⟩⟩
theorem preachable_any {M : MH} {g : Gr} {vr vf vc vk : MV} {es : List (List MV)} (h : GrAt M vr vf vc vk es g) (hlo : M.lo ≤ M.n) : Cp fns 16 [.ag (gcs g vr vf vc vk)] M fun m M' => Ext M M' ∧ (((formP g).2 ≠ 0 ∧ m = .nils) ∨ ((formP g).2 = 0 ∧ ∃ l, RchVec g l ∧ BRow M' m l)) := by
  have hG : ∀ l, l = gcs g vr vf vc vk → Ev.getN (ofL l 0) 7 0 = some (gcs g vr vf vc vk) := fun l e => by subst e; exact (at_ofL (gcs g vr vf vc vk)).getN
  have hG := hG [MV.i IntKind.i64 g.names, MV.i IntKind.i64 g.kinds, MV.i IntKind.i64 g.start, vr, vf, vc, vk] rfl
  refine Cp_call (fn := F16) (by kernel_rfl) (Nat.le_of_ble_eq_true rfl) ?_
  show Wp fns B16 (T.set q0 (some (.ag (gcs g vr vf vc vk))) T.lf) M _
  unfold B16
  rw [show gcs g vr vf vc vk = [MV.i IntKind.i64 g.names, MV.i IntKind.i64 g.kinds, MV.i IntKind.i64 g.start, vr, vf, vc, vk] from rfl]
  simp (maxSteps := 4000000) (disch := first | omega | assumption | (simp only [bxS, bxV, stOk, Nat.reduceBEq, Nat.reduceEqDiff, Nat.reduceAdd]; done) | (simp only [bxU]; omega) | ((try apply has_setN); apply has_ofL; simp only [bxL]; omega)) only [↓bxD, bxP, bxQ, Nat.reduceBEq, reduceCtorEq, Nat.reduceAdd, Nat.reduceSub, Nat.reduceMul, Nat.reduceLeDiff, Nat.reduceLT, bxR, hG]
  generalize hM1 : M.push _ = M1
  have hg0 : M1.get M.n = some (.cs false 7 (ofL (gcs g vr vf vc vk) 0)) := by rw [← hM1]; exact push_new _
  have hx1 : Ext M M1 := by rw [← hM1]; exact Ext.push M _
  have hn1 : M1.n = M.n + 1 := by rw [← hM1]; rfl
  have hl1 := hx1.lo
  clear hM1
  refine bindP_call (isForm_any (h.ext hx1) (by omega)) ?_
  rintro m M2 ⟨rfl, hx2⟩
  have hn2 := hx2.n
  have hl2 := hx2.lo
  have hg2 := (hx2.old M.n (by omega)).trans hg0
  by_cases hz : (formP g).2 = 0
  · have dz : decide ((formP g).2 = 0) = true := decide_eq_true hz
    have hok := form_ok hz
    obtain ⟨nn, hnn⟩ : ∃ n : Nat, g.names = n := ⟨g.names.toNat, by have := hok.n1; omega⟩
    have hn40 := hok.n2
    have hg3 := hg2
    unfold gcs at hg3
    obtain ⟨sn, hsn⟩ : ∃ n : Nat, g.start = n := ⟨g.start.toNat, by have := hok.s1; omega⟩
    have hs2 := hok.s2
    have hsl : sn < nn := by omega
    have hH : ∀ t, hasB (ofL (zrow [MV.b false] nn) 0) 1 (sn * 1) = t → hasB (ofL (zrow [MV.b false] nn) 0) 1 (sn * 1) = t := fun _ h => h
    have hH : hasB (ofL (zrow [MV.b false] nn) 0) 1 (sn * 1) = true := has_ofL _ _ _ (by rw [zrow_rep, List.length_replicate]; omega)
    simp (maxSteps := 4000000) (disch := first | omega | assumption | (simp only [bxS, bxV, stOk, Nat.reduceBEq, Nat.reduceEqDiff, Nat.reduceAdd]; done) | (simp only [bxU]; omega) | ((try apply has_setN); apply has_ofL; simp only [bxL]; omega)) only [↓bxD, bxP, bxQ, Nat.reduceBEq, reduceCtorEq, Nat.reduceAdd, Nat.reduceSub, Nat.reduceMul, Nat.reduceLeDiff, Nat.reduceLT, bxR, dz, hg3, hnn, hsn, ev_mks, mks_ok, ix_slc]
    show Wp fns K16_6 _ _ _
    unfold K16_6
    simp (maxSteps := 4000000) (disch := first | omega | assumption | (simp only [bxS, bxV, stOk, Nat.reduceBEq, Nat.reduceEqDiff, Nat.reduceAdd]; done) | (simp only [bxU]; omega) | ((try apply has_setN); apply has_ofL; simp only [bxL]; omega)) only [↓bxD, bxP, bxQ, Nat.reduceBEq, reduceCtorEq, Nat.reduceAdd, Nat.reduceSub, Nat.reduceMul, Nat.reduceLeDiff, Nat.reduceLT, bxR, dz, hg3, hnn, hsn, ev_mks, mks_ok, ix_slc]
    obtain ⟨t, ht1, ht2, ht3, ht4⟩ := (BoolsAt.new (M := M2) nn).read
    rw [push_new] at ht1
    injection ht1 with ht1
    injection ht1 with _ _ ht1
    subst ht1
    have hrow0 := ht4 sn true (by rw [List.length_replicate]; exact hsl)
    generalize hM3 : (M2.push _).set M2.n _ = M3
    have hrow : BoolsAt M3 M2.n ((List.replicate nn false).set sn true) := ⟨_, by rw [← hM3, set_same]; rfl, hrow0⟩
    have hx3 : Ext M2 M3 := by rw [← hM3]; exact (Ext.push M2 _).set _ (Nat.le_refl _)
    have hn3 : M3.n = M2.n + 1 := by rw [← hM3]; rfl
    clear hM3
    refine Wp_inv (σ := List Bool × Bool) (fun s f1 M1 => NSt M M1 g vr vf vc vk es M2.n s.1 f1 ∧ X.ev f1 (.t q4) = .b s.2 ∧ RchSound g s.1 ∧ s.1[g.start.toNat]? = some true ∧ (s.2 = false → RchClosed s.1 g.rules)) (fun s => 2 * falses s.1 + (if s.2 = true then 1 else 0)) ?_ ((List.replicate nn false).set sn true, true) ?_
    · rintro ⟨l, more⟩ f1 M4 ⟨h4, ht, hs, h00, hc⟩
      simp only at h4 ht hs h00 hc
      have hq1 := h4.q1
      have hq3 := h4.q3
      simp only [q1, q3, q4] at hq1 hq3 ht
      unfold L16_4
      cases more with
      | true =>
        simp (maxSteps := 4000000) (disch := first | omega | assumption | (simp only [bxS, bxV, stOk, Nat.reduceBEq, Nat.reduceEqDiff, Nat.reduceAdd]; done) | (simp only [bxU]; omega) | ((try apply has_setN); apply has_ofL; simp only [bxL]; omega)) only [↓bxD, bxP, bxQ, Nat.reduceBEq, reduceCtorEq, Nat.reduceAdd, Nat.reduceSub, Nat.reduceMul, Nat.reduceLeDiff, Nat.reduceLT, bxR, hq1, hq3, ht]
        show Wp fns K16_3 _ _ _
        refine preach_round ⟨h4.gr, h4.ok, h4.ext, h4.lo0, h4.b0, h4.id1, h4.id2, h4.row, h4.len, ?_, ?_⟩ hs h00 _ ?_
        · simp only [bxP, bxQ, reduceCtorEq, hq1, hq3, ht]
        · simp only [bxP, bxQ, reduceCtorEq, hq1, hq3, ht]
        intro f' M' l' more' h' h4' hs' h00' hcase
        refine ⟨(l', more'), ?_, h', h4', hs', h00', fun e => ?_⟩
        · rcases hcase with ⟨rfl, hlt⟩ | ⟨rfl, rfl, _⟩
          · simp only [if_true]; omega
          · simp
        · rcases hcase with ⟨rfl, _⟩ | ⟨_, rfl, hc'⟩
          · cases e
          · exact hc'
      | false =>
        simp (maxSteps := 4000000) (disch := first | omega | assumption | (simp only [bxS, bxV, stOk, Nat.reduceBEq, Nat.reduceEqDiff, Nat.reduceAdd]; done) | (simp only [bxU]; omega) | ((try apply has_setN); apply has_ofL; simp only [bxL]; omega)) only [↓bxD, bxP, bxQ, Nat.reduceBEq, reduceCtorEq, Nat.reduceAdd, Nat.reduceSub, Nat.reduceMul, Nat.reduceLeDiff, Nat.reduceLT, bxR, hq1, hq3, ht]
        show Wp fns K16_5 _ _ _
        unfold K16_5
        simp (maxSteps := 4000000) (disch := first | omega | assumption | (simp only [bxS, bxV, stOk, Nat.reduceBEq, Nat.reduceEqDiff, Nat.reduceAdd]; done) | (simp only [bxU]; omega) | ((try apply has_setN); apply has_ofL; simp only [bxL]; omega)) only [↓bxD, bxP, bxQ, Nat.reduceBEq, reduceCtorEq, Nat.reduceAdd, Nat.reduceSub, Nat.reduceMul, Nat.reduceLeDiff, Nat.reduceLT, bxR, hq1, hq3, ht]
        refine ⟨h4.ext, .inr ⟨hz, l, rch_vec h4.len hs h00 (hc rfl), ?_⟩⟩
        exact h4.row.row h4.id2
    · refine ⟨⟨h, hok, (hx1.trans hx2).trans hx3, hlo, (hx3.old _ (by omega)).trans hg2, by omega, by omega, hrow, by rw [List.length_set, List.length_replicate, hnn]; rfl, ?_, ?_⟩, ?_, fun a e => ?_, ?_, fun e => by cases e⟩
      · simp only [bxP, bxQ, reduceCtorEq, dz, hg3, hnn, hsn, ev_mks, mks_ok, ix_slc]
      · simp (maxSteps := 4000000) (disch := first | omega | assumption | (simp only [bxS, bxV, stOk, Nat.reduceBEq, Nat.reduceEqDiff, Nat.reduceAdd]; done) | (simp only [bxU]; omega) | ((try apply has_setN); apply has_ofL; simp only [bxL]; omega)) only [↓bxD, bxP, bxQ, Nat.reduceBEq, reduceCtorEq, Nat.reduceAdd, Nat.reduceSub, Nat.reduceMul, Nat.reduceLeDiff, Nat.reduceLT, bxR, dz, hg3, hnn, hsn, ev_mks, mks_ok, ix_slc, List.length_replicate, List.length_set]
      · simp only [bxP, bxQ, reduceCtorEq, dz, hg3, hnn, hsn, ev_mks, mks_ok, ix_slc]
      · rw [List.getElem?_set] at e
        split at e
        · rename_i e1
          subst e1
          have := Rch.start (g := g)
          rw [hsn] at this
          exact this
        · rw [List.getElem?_replicate] at e
          split at e <;> cases e
      · rw [hsn]
        exact set_here (by rw [List.length_replicate]; exact hsl)
  · have dz : decide ((formP g).2 = 0) = false := decide_eq_false hz
    simp (maxSteps := 4000000) (disch := first | omega | assumption | (simp only [bxS, bxV, stOk, Nat.reduceBEq, Nat.reduceEqDiff, Nat.reduceAdd]; done) | (simp only [bxU]; omega) | ((try apply has_setN); apply has_ofL; simp only [bxL]; omega)) only [↓bxD, bxP, bxQ, Nat.reduceBEq, reduceCtorEq, Nat.reduceAdd, Nat.reduceSub, Nat.reduceMul, Nat.reduceLeDiff, Nat.reduceLT, bxR, dz]
    exact ⟨hx1.trans hx2, .inl hz⟩
def RPost (g : Gr) (M : MH) (m : MV) (M' : MH) : Prop := Ext M M' ∧ (((formP g).2 ≠ 0 ∧ m = .nils) ∨ ((formP g).2 = 0 ∧ ∃ l, RchVec g l ∧ BRow M' m l))
def RIs (g : Gr) (l : List Bool) : Prop := ((formP g).2 ≠ 0 ∧ l = []) ∨ ((formP g).2 = 0 ∧ RchVec g l)
def PIs (g : Gr) (l : List Bool) : Prop := ((formP g).2 ≠ 0 ∧ l = []) ∨ ((formP g).2 = 0 ∧ ∃ x, ShVec g x ∧ l = x.map fun z => decide (0 ≤ z))
def SIs (g : Gr) (l : List Int) : Prop := ((formP g).2 ≠ 0 ∧ l = []) ∨ ((formP g).2 = 0 ∧ ShVec g l)
theorem RPost.is {g : Gr} {M M' : MH} {m : MV} (h : RPost g M m M') : Ext M M' ∧ ∃ l, BRow M' m l ∧ RIs g l ∧ l.length ≤ 1000000000 := by
  obtain ⟨hx, ⟨h1, rfl⟩ | ⟨h1, l, h2, h3⟩⟩ := h
  · exact ⟨hx, [], ⟨fun e he => by simp at he, .inl ⟨rfl, rfl⟩⟩, .inl ⟨h1, rfl⟩, Nat.zero_le _⟩
  · have := (form_ok h1).n2
    exact ⟨hx, l, h3, .inr ⟨h1, h2⟩, by rw [h2.1]; omega⟩
theorem PrPost.is {g : Gr} {M M' : MH} {m : MV} (h : PrPost g M m M') : Ext M M' ∧ ∃ l, BRow M' m l ∧ PIs g l ∧ l.length ≤ 1000000000 := by
  obtain ⟨hx, ⟨h1, rfl⟩ | ⟨h1, l, h2, h3⟩⟩ := h
  · exact ⟨hx, [], ⟨fun e he => by simp at he, .inl ⟨rfl, rfl⟩⟩, .inl ⟨h1, rfl⟩, Nat.zero_le _⟩
  · have := (form_ok h1).n2
    exact ⟨hx, _, h3, .inr ⟨h1, l, h2, rfl⟩, by rw [List.length_map, (h2.inn (form_ok h1)).len]; omega⟩
theorem ShPost.is {g : Gr} {M M' : MH} {m : MV} (h : ShPost g M m M') : Ext M M' ∧ ∃ l, IntRow M' m l ∧ SIs g l ∧ l.length ≤ 1000000000 := by
  obtain ⟨hx, ⟨h1, rfl⟩ | ⟨h1, l, h2, h3⟩⟩ := h
  · exact ⟨hx, [], ⟨fun e he => by simp [ints] at he, .inl ⟨rfl, rfl⟩⟩, .inl ⟨h1, rfl⟩, Nat.zero_le _⟩
  · have := (form_ok h1).n2
    exact ⟨hx, l, h3, .inr ⟨h1, h2⟩, by rw [(h2.inn (form_ok h1)).len]; omega⟩
def CyPost (g : Gr) (M : MH) (m : MV) (M' : MH) : Prop := Ext M M' ∧ (((formP g).2 ≠ 0 ∧ m = .nils) ∨ ((formP g).2 = 0 ∧ ∃ N, NulVec g N ∧ BRow M' m (cyL g N)))
theorem CyPost.is {g : Gr} {M M' : MH} {m : MV} (h : CyPost g M m M') : Ext M M' ∧ ∃ l, BRow M' m l ∧ CyIs g l ∧ l.length ≤ 1000000000 := by
  obtain ⟨hx, ⟨h1, rfl⟩ | ⟨h1, N, h2, h3⟩⟩ := h
  · exact ⟨hx, [], ⟨fun e he => by simp at he, .inl ⟨rfl, rfl⟩⟩, .inl ⟨h1, rfl⟩, Nat.zero_le _⟩
  · have := (form_ok h1).n2
    exact ⟨hx, _, h3, .inr ⟨h1, N, h2, rfl⟩, by rw [cyL_len]; omega⟩
theorem cyL_take {g : Gr} {N : List Bool} {i : Nat} (hi : i < g.names.toNat) (z : Bool) (hz : z = cyIt (cyB N g.rules) g.names.toNat i i) : ((cyL g N).take i ++ List.replicate (g.names.toNat - i) false).set i z = (cyL g N).take (i + 1) ++ List.replicate (g.names.toNat - (i + 1)) false := by
  have hl := cyL_len g N
  refine List.ext_getElem? fun j => ?_
  rw [List.getElem?_set]
  have e1 : ((cyL g N).take i).length = i := by rw [List.length_take]; omega
  have e2 : ((cyL g N).take (i + 1)).length = i + 1 := by rw [List.length_take]; omega
  by_cases h : i = j
  · subst h
    rw [if_pos rfl, if_pos (by rw [List.length_append, List.length_replicate]; omega), List.getElem?_append_left (by omega), List.getElem?_take, if_pos (by omega), bAt_at (by omega), cyL_at hi, hz]
  · rw [if_neg h]
    by_cases h2 : j < i
    · rw [List.getElem?_append_left (by omega), List.getElem?_append_left (by omega), List.getElem?_take, List.getElem?_take, if_pos h2, if_pos (by omega)]
    · rw [List.getElem?_append_right (by omega), List.getElem?_append_right (by omega), e1, e2, List.getElem?_replicate, List.getElem?_replicate]
      by_cases h3 : j < g.names.toNat
      · rw [if_pos (by omega), if_pos (by omega)]
      · rw [if_neg (by omega), if_neg (by omega)]
theorem pcyclic_any {M : MH} {g : Gr} {vr vf vc vk : MV} {es : List (List MV)} (h : GrAt M vr vf vc vk es g) (hlo : M.lo ≤ M.n) : Cp fns 12 [.ag (gcs g vr vf vc vk)] M (CyPost g M) := by
  have hG : ∀ l, l = gcs g vr vf vc vk → Ev.getN (ofL l 0) 7 0 = some (gcs g vr vf vc vk) := fun l e => by subst e; exact (at_ofL (gcs g vr vf vc vk)).getN
  have hG := hG [MV.i IntKind.i64 g.names, MV.i IntKind.i64 g.kinds, MV.i IntKind.i64 g.start, vr, vf, vc, vk] rfl
  refine Cp_call (fn := F12) (by kernel_rfl) (Nat.le_of_ble_eq_true rfl) ?_
  show Wp fns B12 (T.set q0 (some (.ag (gcs g vr vf vc vk))) T.lf) M _
  unfold B12
  rw [show gcs g vr vf vc vk = [MV.i IntKind.i64 g.names, MV.i IntKind.i64 g.kinds, MV.i IntKind.i64 g.start, vr, vf, vc, vk] from rfl]
  generalize hM1 : M.push (.cs false 7 (ofL [MV.i IntKind.i64 g.names, MV.i IntKind.i64 g.kinds, MV.i IntKind.i64 g.start, vr, vf, vc, vk] 0)) = M1
  have g0 : M1.get M.n = some (.cs false 7 (ofL [MV.i IntKind.i64 g.names, MV.i IntKind.i64 g.kinds, MV.i IntKind.i64 g.start, vr, vf, vc, vk] 0)) := by rw [← hM1]; exact push_new _
  have x1 : Ext M M1 := by rw [← hM1]; exact .push M _
  have n1 : M1.n = M.n + 1 := by rw [← hM1]; rfl
  have l1 := x1.lo
  simp (maxSteps := 4000000) (disch := first | omega | assumption | (simp only [bxS, bxV, stOk, Nat.reduceBEq, Nat.reduceEqDiff, Nat.reduceAdd]; done) | (simp only [bxU]; omega) | ((try apply has_setN); apply has_ofL; simp only [bxL]; omega)) only [↓bxD, bxP, bxQ, Nat.reduceBEq, reduceCtorEq, Nat.reduceAdd, Nat.reduceSub, Nat.reduceMul, Nat.reduceLeDiff, Nat.reduceLT, bxR, hG, hM1, g0]
  refine bindP_call (isForm_any (h.ext x1) (by omega)) ?_
  rintro m M2 ⟨rfl, x2⟩
  have n2 := x2.n
  have l2 := x2.lo
  have g2 := (x2.old _ (by omega)).trans g0
  by_cases hz : (formP g).2 = 0
  · have dz : decide ((formP g).2 = 0) = true := decide_eq_true hz
    have hok := form_ok hz
    have hn1 := hok.n1
    have hn40 := hok.n2
    obtain ⟨nn, hnn⟩ : ∃ n : Nat, g.names = n := ⟨g.names.toNat, by omega⟩
    simp (maxSteps := 4000000) (disch := first | omega | assumption | (simp only [bxS, bxV, stOk, Nat.reduceBEq, Nat.reduceEqDiff, Nat.reduceAdd]; done) | (simp only [bxU]; omega) | ((try apply has_setN); apply has_ofL; simp only [bxL]; omega)) only [↓bxD, bxP, bxQ, Nat.reduceBEq, reduceCtorEq, Nat.reduceAdd, Nat.reduceSub, Nat.reduceMul, Nat.reduceLeDiff, Nat.reduceLT, bxR, hG, g2, dz]
    show Wp fns K12_4 _ _ _
    unfold K12_4
    simp (maxSteps := 4000000) (disch := first | omega | assumption | (simp only [bxS, bxV, stOk, Nat.reduceBEq, Nat.reduceEqDiff, Nat.reduceAdd]; done) | (simp only [bxU]; omega) | ((try apply has_setN); apply has_ofL; simp only [bxL]; omega)) only [↓bxD, bxP, bxQ, Nat.reduceBEq, reduceCtorEq, Nat.reduceAdd, Nat.reduceSub, Nat.reduceMul, Nat.reduceLeDiff, Nat.reduceLT, bxR, hG, g2, dz]
    refine bindP_call (oneStep_any ((h.ext x1).ext x2) hz (by omega)) ?_
    rintro m M3 ⟨x3, id, F, N, rfl, i1, i2, hw, hFl, hlt, hN, hone⟩
    have n3 := x3.n
    have l3 := x3.lo
    have g3 := (x3.old _ (by omega)).trans g2
    simp (maxSteps := 4000000) (disch := first | omega | assumption | (simp only [bxS, bxV, stOk, Nat.reduceBEq, Nat.reduceEqDiff, Nat.reduceAdd]; done) | (simp only [bxU]; omega) | ((try apply has_setN); apply has_ofL; simp only [bxL]; omega)) only [↓bxD, bxP, bxQ, Nat.reduceBEq, reduceCtorEq, Nat.reduceAdd, Nat.reduceSub, Nat.reduceMul, Nat.reduceLeDiff, Nat.reduceLT, bxR, hG, g2, dz]
    refine bindP_call (anySteps_any (U := cyB N g.rules) hw i2 (by omega) hlt (by omega) (fun i j hi => by rw [hone i j hi, List.take_length])) ?_
    rintro m M4 ⟨rfl, o4, n4, l4, F', hw4, hFl4, hlt4, hrel⟩
    have g4 := (o4 _ (by omega)).trans g3
    have cg0 : cget (ofL [MV.i IntKind.i64 g.names, MV.i IntKind.i64 g.kinds, MV.i IntKind.i64 g.start, vr, vf, vc, vk] 0) 0 = some (.i .i64 (nn : Int)) := by rw [← hnn]; exact (at_ofL _) 0 _ rfl
    simp (maxSteps := 4000000) (disch := first | omega | assumption | (simp only [bxS, bxV, stOk, Nat.reduceBEq, Nat.reduceEqDiff, Nat.reduceAdd]; done) | (simp only [bxU]; omega) | ((try apply has_setN); apply has_ofL; simp only [bxL]; omega)) only [↓bxD, bxP, bxQ, Nat.reduceBEq, reduceCtorEq, Nat.reduceAdd, Nat.reduceSub, Nat.reduceMul, Nat.reduceLeDiff, Nat.reduceLT, bxR, hG, g4, cg0, ev_mks, mks_ok]
    generalize hM5 : M4.push _ = M5
    have b5 : BoolsAt M5 M4.n (List.replicate nn false) := by rw [← hM5]; exact .new nn
    have x5 : Ext M4 M5 := by rw [← hM5]; exact .push M4 _
    have n5 : M5.n = M4.n + 1 := by rw [← hM5]; rfl
    have l5 := x5.lo
    have hw5 := hw4.same (x5.old _ (by omega))
    clear hM5
    have hnl : g.names.toNat = nn := by omega
    have hE : Ext M M4 := ⟨by omega, by omega, fun j hj => by
      rw [o4 j (by omega), x3.old j (by omega), x2.old j (by omega), x1.old j hj]⟩
    simp (maxSteps := 4000000) (disch := first | omega | assumption | (simp only [bxS, bxV, stOk, Nat.reduceBEq, Nat.reduceEqDiff, Nat.reduceAdd]; done) | (simp only [bxU]; omega) | ((try apply has_setN); apply has_ofL; simp only [bxL]; omega)) only [↓bxD, bxP, bxQ, Nat.reduceBEq, reduceCtorEq, Nat.reduceAdd, Nat.reduceSub, Nat.reduceMul, Nat.reduceLeDiff, Nat.reduceLT, bxR, hG, g4, cg0, len_slc]
    refine Wp_inv (σ := Nat) (fun i f M' => i ≤ nn ∧ (∀ j, j ≠ M4.n → M'.get j = M5.get j) ∧ M'.n = M5.n ∧ M'.lo = M5.lo ∧ BoolsAt M' M4.n ((cyL g N).take i ++ List.replicate (nn - i) false) ∧ X.ev f (.t q3) = .sl id 0 F.length 0 ∧ X.ev f (.t q4) = .sl M4.n 0 nn 0 ∧ X.ev f (.t q17) = .i .i64 (nn : Int) ∧ X.ev f (.t q18) = .i .i64 (i : Int)) (fun i => nn - i) ?_ 0 ?_
    · rintro i f M6 ⟨hi, ho, hn', hl', hB, h3, h4, h17, h18⟩
      simp only [q3, q4, q17, q18] at h3 h4 h17 h18
      have hcl := cyL_len g N
      have hll : ((cyL g N).take i ++ List.replicate (nn - i) false).length = nn := by rw [List.length_append, List.length_take, List.length_replicate]; omega
      unfold L12_2
      by_cases hi' : i < nn
      · have d1 : decide ((i : Int) < (nn : Int)) = true := decide_eq_true (by omega)
        have hw6 := hw5.same (ho _ (by omega))
        obtain ⟨t, ht1, ht2, ht3, ht4⟩ := hw6.read
        have hCi := ht2 i (by omega)
        have hHi := ht3 i (by omega)
        have hFi := fAt_lt hlt4 i
        obtain ⟨u, hu1, hu2, hu3, hu4⟩ := hB.read
        have hH4 := hu3 i (by omega)
        simp (maxSteps := 4000000) (disch := first | omega | assumption | (simp only [bxS, bxV, stOk, Nat.reduceBEq, Nat.reduceEqDiff, Nat.reduceAdd]; done) | (simp only [bxU]; omega) | ((try apply has_setN); apply has_ofL; simp only [bxL]; omega)) only [↓bxD, bxP, bxQ, Nat.reduceBEq, reduceCtorEq, Nat.reduceAdd, Nat.reduceSub, Nat.reduceMul, Nat.reduceLeDiff, Nat.reduceLT, bxR, h3, h4, h17, h18, d1, ix_slc, ht1, hCi, hHi]
        show Wp fns K12_1 _ _ _
        unfold K12_1
        simp (maxSteps := 4000000) (disch := first | omega | assumption | (simp only [bxS, bxV, stOk, Nat.reduceBEq, Nat.reduceEqDiff, Nat.reduceAdd]; done) | (simp only [bxU]; omega) | ((try apply has_setN); apply has_ofL; simp only [bxL]; omega)) only [↓bxD, bxP, bxQ, Nat.reduceBEq, reduceCtorEq, Nat.reduceAdd, Nat.reduceSub, Nat.reduceMul, Nat.reduceLeDiff, Nat.reduceLT, bxR, h3, h4, h17, h18, d1, ix_slc, ht1, hCi, hHi]
        refine bindP_call (has_any hFi (k := i) (by omega)) ?_
        rintro m M7 ⟨rfl, rfl⟩
        have hrv : (fAt F' i).testBit i = cyIt (cyB N g.rules) g.names.toNat i i := by rw [hrel i i (by omega), hFl]
        have hsA := hu4 i ((fAt F' i).testBit i) (by omega)
        simp (maxSteps := 4000000) (disch := first | omega | assumption | (simp only [bxS, bxV, stOk, Nat.reduceBEq, Nat.reduceEqDiff, Nat.reduceAdd]; done) | (simp only [bxU]; omega) | ((try apply has_setN); apply has_ofL; simp only [bxL]; omega)) only [↓bxD, bxP, bxQ, Nat.reduceBEq, reduceCtorEq, Nat.reduceAdd, Nat.reduceSub, Nat.reduceMul, Nat.reduceLeDiff, Nat.reduceLT, bxR, h3, h4, h17, h18, d1, ix_slc, hu1, hH4]
        show Wp fns K12_0 _ _ _
        unfold K12_0
        simp (maxSteps := 4000000) (disch := first | omega | assumption | (simp only [bxS, bxV, stOk, Nat.reduceBEq, Nat.reduceEqDiff, Nat.reduceAdd]; done) | (simp only [bxU]; omega) | ((try apply has_setN); apply has_ofL; simp only [bxL]; omega)) only [↓bxD, bxP, bxQ, Nat.reduceBEq, reduceCtorEq, Nat.reduceAdd, Nat.reduceSub, Nat.reduceMul, Nat.reduceLeDiff, Nat.reduceLT, bxR, h3, h4, h17, h18, d1, ix_slc, hu1, hH4]
        refine ⟨i + 1, by omega, by omega, fun j hj => by rw [set_ne hj]; exact ho j hj, hn', hl', ⟨_, set_same _ _, ?_⟩, rfl⟩
        rw [← hnl, ← cyL_take (g := g) (N := N) (i := i) (by omega) _ hrv, hnl]
        exact hsA
      · have d1 : decide ((i : Int) < (nn : Int)) = false := decide_eq_false (by omega)
        obtain rfl : i = nn := by omega
        simp (maxSteps := 4000000) (disch := first | omega | assumption | (simp only [bxS, bxV, stOk, Nat.reduceBEq, Nat.reduceEqDiff, Nat.reduceAdd]; done) | (simp only [bxU]; omega) | ((try apply has_setN); apply has_ofL; simp only [bxL]; omega)) only [↓bxD, bxP, bxQ, Nat.reduceBEq, reduceCtorEq, Nat.reduceAdd, Nat.reduceSub, Nat.reduceMul, Nat.reduceLeDiff, Nat.reduceLT, bxR, h3, h4, h17, h18, d1]
        show Wp fns K12_3 _ _ _
        unfold K12_3
        simp (maxSteps := 4000000) (disch := first | omega | assumption | (simp only [bxS, bxV, stOk, Nat.reduceBEq, Nat.reduceEqDiff, Nat.reduceAdd]; done) | (simp only [bxU]; omega) | ((try apply has_setN); apply has_ofL; simp only [bxL]; omega)) only [↓bxD, bxP, bxQ, Nat.reduceBEq, reduceCtorEq, Nat.reduceAdd, Nat.reduceSub, Nat.reduceMul, Nat.reduceLeDiff, Nat.reduceLT, bxR, h3, h4, h17, h18, d1]
        rw [Nat.sub_self, List.replicate_zero, List.append_nil, List.take_of_length_le (by omega)] at hB
        refine ⟨⟨by omega, by omega, fun j hj => by rw [ho j (by omega), x5.old j (by omega), hE.old j hj]⟩, .inr ⟨hz, N, hN, ?_⟩⟩
        have := hB.row (by omega : M4.n < M6.n)
        rw [cyL_len, hnl] at this
        exact this
    · exact ⟨Nat.zero_le _, fun _ _ => rfl, rfl, rfl, by rw [List.take_zero, List.nil_append, Nat.sub_zero]; exact b5, by simp only [bxP, bxQ, reduceCtorEq, hG, g4, cg0], by simp only [bxP, bxQ, reduceCtorEq, hG, g4, cg0], by simp only [bxP, bxQ, reduceCtorEq, hG, g4, cg0] <;> rfl, by simp only [bxP, bxQ, reduceCtorEq, hG, g4, cg0] <;> rfl⟩
  · have dz : decide ((formP g).2 = 0) = false := decide_eq_false hz
    simp (maxSteps := 4000000) (disch := first | omega | assumption | (simp only [bxS, bxV, stOk, Nat.reduceBEq, Nat.reduceEqDiff, Nat.reduceAdd]; done) | (simp only [bxU]; omega) | ((try apply has_setN); apply has_ofL; simp only [bxL]; omega)) only [↓bxD, bxP, bxQ, Nat.reduceBEq, reduceCtorEq, Nat.reduceAdd, Nat.reduceSub, Nat.reduceMul, Nat.reduceLeDiff, Nat.reduceLT, bxR, hG, g2, dz]
    exact ⟨x1.trans x2, .inl ⟨hz, rfl⟩⟩
def ChIs (g : Gr) (z : Int × Int) : Prop := ((formP g).2 ≠ 0 ∧ z = formP g) ∨ ((formP g).2 = 0 ∧ ∃ R S N, RchVec g R ∧ ShVec g S ∧ NulVec g N ∧ z = chkV g.names.toNat R (S.map fun z => decide (0 ≤ z)) (cyL g N))
theorem index_true {M : MH} {v : MV} {l : List Bool} (h : BRow M v l) (hl : l.length ≤ 1000) : Cp fns 18 [v, .b true] M fun m M' => m = .i .i64 (match firstP (bAt l) l.length 0 with
    | some i => (i : Int)
    | none => -1) ∧ M' = M := by
  obtain ⟨v1, v2⟩ := h.sl
  refine Cp_call (fn := F18) (by kernel_rfl) (Nat.le_of_ble_eq_true rfl) ?_
  show Wp fns B18 (T.set q1 (some (.b true)) (T.set q0 (some v) T.lf)) M _
  unfold B18
  simp (maxSteps := 4000000) (disch := first | omega | assumption | (simp only [bxS, bxV, stOk, Nat.reduceBEq, Nat.reduceEqDiff, Nat.reduceAdd]; done) | (simp only [bxU]; omega) | ((try apply has_setN); apply has_ofL; simp only [bxL]; omega)) only [↓bxD, bxP, bxQ, Nat.reduceBEq, reduceCtorEq, Nat.reduceAdd, Nat.reduceSub, Nat.reduceMul, Nat.reduceLeDiff, Nat.reduceLT, bxR, v1, v2]
  refine Wp_inv (σ := Nat) (fun i f M' => M' = M ∧ i ≤ l.length ∧ (∀ k, k < i → bAt l k = false) ∧ X.ev f (.t q0) = v ∧ X.ev f (.t q1) = .b true ∧ X.ev f (.t q6) = v ∧ X.ev f (.t q7) = .i .i64 (l.length : Int) ∧ X.ev f (.t q8) = .i .i64 (i : Int)) (fun i => l.length - i) ?_ 0 ?_
  · rintro i f M' ⟨rfl, hi, hk, h0, h1, h6, h7, h8⟩
    simp only [q0, q1, q6, q7, q8] at h0 h1 h6 h7 h8
    unfold L18_2
    by_cases hi' : i < l.length
    · have d1 : decide ((i : Int) < (l.length : Int)) = true := decide_eq_true (by omega)
      obtain ⟨ro, s, t, hg, hid, hC⟩ := h.read hi'
      cases hb : bAt l i with
      | true =>
        rw [hb] at hC
        have e := firstP_is (p := bAt l) (n := l.length) (i := 0) (k := i) (Nat.zero_le _) (by omega) hb fun m _ hm => hk m hm
        rw [e]
        simp (maxSteps := 4000000) (disch := first | omega | assumption | (simp only [bxS, bxV, stOk, Nat.reduceBEq, Nat.reduceEqDiff, Nat.reduceAdd]; done) | (simp only [bxU]; omega) | ((try apply has_setN); apply has_ofL; simp only [bxL]; omega)) only [↓bxD, bxP, bxQ, Nat.reduceBEq, reduceCtorEq, Nat.reduceAdd, Nat.reduceSub, Nat.reduceMul, Nat.reduceLeDiff, Nat.reduceLT, bxR, h0, h1, h6, h7, h8, v1, v2, d1, hg, hC]
        show Wp fns K18_1 _ _ _
        unfold K18_1
        simp (maxSteps := 4000000) (disch := first | omega | assumption | (simp only [bxS, bxV, stOk, Nat.reduceBEq, Nat.reduceEqDiff, Nat.reduceAdd]; done) | (simp only [bxU]; omega) | ((try apply has_setN); apply has_ofL; simp only [bxL]; omega)) only [↓bxD, bxP, bxQ, Nat.reduceBEq, reduceCtorEq, Nat.reduceAdd, Nat.reduceSub, Nat.reduceMul, Nat.reduceLeDiff, Nat.reduceLT, bxR, h0, h1, h6, h7, h8, v1, v2, d1, hg, hC]
      | false =>
        rw [hb] at hC
        have tf : (true == false) = false := rfl
        simp (maxSteps := 4000000) (disch := first | omega | assumption | (simp only [bxS, bxV, stOk, Nat.reduceBEq, Nat.reduceEqDiff, Nat.reduceAdd]; done) | (simp only [bxU]; omega) | ((try apply has_setN); apply has_ofL; simp only [bxL]; omega)) only [↓bxD, bxP, bxQ, Nat.reduceBEq, reduceCtorEq, Nat.reduceAdd, Nat.reduceSub, Nat.reduceMul, Nat.reduceLeDiff, Nat.reduceLT, bxR, h0, h1, h6, h7, h8, v1, v2, d1, hg, hC, tf]
        show Wp fns K18_1 _ _ _
        unfold K18_1
        simp (maxSteps := 4000000) (disch := first | omega | assumption | (simp only [bxS, bxV, stOk, Nat.reduceBEq, Nat.reduceEqDiff, Nat.reduceAdd]; done) | (simp only [bxU]; omega) | ((try apply has_setN); apply has_ofL; simp only [bxL]; omega)) only [↓bxD, bxP, bxQ, Nat.reduceBEq, reduceCtorEq, Nat.reduceAdd, Nat.reduceSub, Nat.reduceMul, Nat.reduceLeDiff, Nat.reduceLT, bxR, h0, h1, h6, h7, h8, v1, v2, d1, hg, hC, tf]
        show Wp fns K18_0 _ _ _
        unfold K18_0
        simp (maxSteps := 4000000) (disch := first | omega | assumption | (simp only [bxS, bxV, stOk, Nat.reduceBEq, Nat.reduceEqDiff, Nat.reduceAdd]; done) | (simp only [bxU]; omega) | ((try apply has_setN); apply has_ofL; simp only [bxL]; omega)) only [↓bxD, bxP, bxQ, Nat.reduceBEq, reduceCtorEq, Nat.reduceAdd, Nat.reduceSub, Nat.reduceMul, Nat.reduceLeDiff, Nat.reduceLT, bxR, h0, h1, h6, h7, h8, v1, v2, d1, hg, hC, tf]
        refine ⟨i + 1, by omega, by omega, fun k hk' => ?_, rfl⟩
        by_cases e : k = i
        · subst e; exact hb
        · exact hk k (by omega)
    · have d1 : decide ((i : Int) < (l.length : Int)) = false := decide_eq_false (by omega)
      obtain rfl : i = l.length := by omega
      rw [firstP_no (p := bAt l) (n := l.length) (i := 0) fun m _ hm => hk m (by omega)]
      simp (maxSteps := 4000000) (disch := first | omega | assumption | (simp only [bxS, bxV, stOk, Nat.reduceBEq, Nat.reduceEqDiff, Nat.reduceAdd]; done) | (simp only [bxU]; omega) | ((try apply has_setN); apply has_ofL; simp only [bxL]; omega)) only [↓bxD, bxP, bxQ, Nat.reduceBEq, reduceCtorEq, Nat.reduceAdd, Nat.reduceSub, Nat.reduceMul, Nat.reduceLeDiff, Nat.reduceLT, bxR, h0, h1, h6, h7, h8, d1]
      show Wp fns K18_3 _ _ _
      unfold K18_3
      simp (maxSteps := 4000000) (disch := first | omega | assumption | (simp only [bxS, bxV, stOk, Nat.reduceBEq, Nat.reduceEqDiff, Nat.reduceAdd]; done) | (simp only [bxU]; omega) | ((try apply has_setN); apply has_ofL; simp only [bxL]; omega)) only [↓bxD, bxP, bxQ, Nat.reduceBEq, reduceCtorEq, Nat.reduceAdd, Nat.reduceSub, Nat.reduceMul, Nat.reduceLeDiff, Nat.reduceLT, bxR, h0, h1, h6, h7, h8, d1]
      rfl
  · exact ⟨rfl, Nat.zero_le _, fun k hk => absurd hk (Nat.not_lt_zero k), by simp only [bxP, bxQ, reduceCtorEq, v1, v2], by simp only [bxP, bxQ, reduceCtorEq, v1, v2], by simp only [bxP, bxQ, reduceCtorEq, v1, v2], by simp only [bxP, bxQ, reduceCtorEq, v1, v2] <;> rfl, by simp only [bxP, bxQ, reduceCtorEq, v1, v2] <;> rfl⟩
theorem chk_useless {g : Gr} {R : List Bool} {S : List Int} {N : List Bool} {i : Nat} (hz : (formP g).2 = 0) (hR : RchVec g R) (hS : ShVec g S) (hN : NulVec g N) (e : firstP (fun i => !(bAt R i) || !(bAt (S.map fun z => decide (0 ≤ z)) i)) g.names.toNat 0 = some i) : ChIs g ((i : Int), 7) := by
  refine .inr ⟨hz, R, S, N, hR, hS, hN, ?_⟩
  unfold chkV
  rw [e]
theorem chk_cycle {g : Gr} {R : List Bool} {S : List Int} {N : List Bool} {i : Nat} (hz : (formP g).2 = 0) (hR : RchVec g R) (hS : ShVec g S) (hN : NulVec g N) (e : firstP (fun i => !(bAt R i) || !(bAt (S.map fun z => decide (0 ≤ z)) i)) g.names.toNat 0 = none) (e2 : firstP (bAt (cyL g N)) g.names.toNat 0 = some i) : ChIs g ((i : Int), 8) := by
  refine .inr ⟨hz, R, S, N, hR, hS, hN, ?_⟩
  unfold chkV
  rw [e, e2]
theorem chk_fine {g : Gr} {R : List Bool} {S : List Int} {N : List Bool} (hz : (formP g).2 = 0) (hR : RchVec g R) (hS : ShVec g S) (hN : NulVec g N) (e : firstP (fun i => !(bAt R i) || !(bAt (S.map fun z => decide (0 ≤ z)) i)) g.names.toNat 0 = none) (e2 : firstP (bAt (cyL g N)) g.names.toNat 0 = none) : ChIs g (-1, 0) := by
  refine .inr ⟨hz, R, S, N, hR, hS, hN, ?_⟩
  unfold chkV
  rw [e, e2]
theorem pcheck_any {M : MH} {g : Gr} {vr vf vc vk : MV} {es : List (List MV)} (h : GrAt M vr vf vc vk es g) (hlo : M.lo ≤ M.n) : Cp fns 9 [.ag (gcs g vr vf vc vk)] M fun m M' => Ext M M' ∧ ∃ z : Int × Int, ChIs g z ∧ m = .tp [.i .i64 z.1, .i .i64 z.2] := by
  have hG : ∀ l, l = gcs g vr vf vc vk → Ev.getN (ofL l 0) 7 0 = some (gcs g vr vf vc vk) := fun l e => by subst e; exact (at_ofL (gcs g vr vf vc vk)).getN
  have hG := hG [MV.i IntKind.i64 g.names, MV.i IntKind.i64 g.kinds, MV.i IntKind.i64 g.start, vr, vf, vc, vk] rfl
  refine Cp_call (fn := F9) (by kernel_rfl) (Nat.le_of_ble_eq_true rfl) ?_
  show Wp fns B9 (T.set q0 (some (.ag (gcs g vr vf vc vk))) T.lf) M _
  unfold B9
  rw [show gcs g vr vf vc vk = [MV.i IntKind.i64 g.names, MV.i IntKind.i64 g.kinds, MV.i IntKind.i64 g.start, vr, vf, vc, vk] from rfl]
  generalize hM1 : M.push (.cs false 7 (ofL [MV.i IntKind.i64 g.names, MV.i IntKind.i64 g.kinds, MV.i IntKind.i64 g.start, vr, vf, vc, vk] 0)) = M1
  have g0 : M1.get M.n = some (.cs false 7 (ofL [MV.i IntKind.i64 g.names, MV.i IntKind.i64 g.kinds, MV.i IntKind.i64 g.start, vr, vf, vc, vk] 0)) := by rw [← hM1]; exact push_new _
  have x1 : Ext M M1 := by rw [← hM1]; exact .push M _
  have n1 : M1.n = M.n + 1 := by rw [← hM1]; rfl
  have l1 := x1.lo
  simp (maxSteps := 4000000) (disch := first | omega | assumption | (simp only [bxS, bxV, stOk, Nat.reduceBEq, Nat.reduceEqDiff, Nat.reduceAdd]; done) | (simp only [bxU]; omega) | ((try apply has_setN); apply has_ofL; simp only [bxL]; omega)) only [↓bxD, bxP, bxQ, Nat.reduceBEq, reduceCtorEq, Nat.reduceAdd, Nat.reduceSub, Nat.reduceMul, Nat.reduceLeDiff, Nat.reduceLT, bxR, hG, hM1, g0]
  refine bindP_call (prog_form (h.ext x1) (by omega)) ?_
  rintro m M2 ⟨rfl, x2⟩
  have n2 := x2.n
  have l2 := x2.lo
  have g2 := (x2.old _ (by omega)).trans g0
  have x02 := x1.trans x2
  by_cases hz : (formP g).2 = 0
  · have dz : decide ((formP g).2 ≠ 0) = false := decide_eq_false (by rw [hz]; simp)
    have hok := form_ok hz
    have hn1 := hok.n1
    have hn40 := hok.n2
    obtain ⟨nn, hnn⟩ : ∃ n : Nat, g.names = n := ⟨g.names.toNat, by omega⟩
    have hnl : g.names.toNat = nn := by omega
    simp (maxSteps := 4000000) (disch := first | omega | assumption | (simp only [bxS, bxV, stOk, Nat.reduceBEq, Nat.reduceEqDiff, Nat.reduceAdd]; done) | (simp only [bxU]; omega) | ((try apply has_setN); apply has_ofL; simp only [bxL]; omega)) only [↓bxD, bxP, bxQ, Nat.reduceBEq, reduceCtorEq, Nat.reduceAdd, Nat.reduceSub, Nat.reduceMul, Nat.reduceLeDiff, Nat.reduceLT, bxR, hG, g2, dz]
    show Wp fns K9_6 _ _ _
    unfold K9_6
    simp (maxSteps := 4000000) (disch := first | omega | assumption | (simp only [bxS, bxV, stOk, Nat.reduceBEq, Nat.reduceEqDiff, Nat.reduceAdd]; done) | (simp only [bxU]; omega) | ((try apply has_setN); apply has_ofL; simp only [bxL]; omega)) only [↓bxD, bxP, bxQ, Nat.reduceBEq, reduceCtorEq, Nat.reduceAdd, Nat.reduceSub, Nat.reduceMul, Nat.reduceLeDiff, Nat.reduceLT, bxR, hG, g2, dz]
    refine Wp_dreg_of (by omega) ?_
    simp (maxSteps := 4000000) (disch := first | omega | assumption | (simp only [bxS, bxV, stOk, Nat.reduceBEq, Nat.reduceEqDiff, Nat.reduceAdd]; done) | (simp only [bxU]; omega) | ((try apply has_setN); apply has_ofL; simp only [bxL]; omega)) only [↓bxD, bxP, bxQ, Nat.reduceBEq, reduceCtorEq, Nat.reduceAdd, Nat.reduceSub, Nat.reduceMul, Nat.reduceLeDiff, Nat.reduceLT, bxR, hG, g2, dz]
    have hgr2 := h.ext x02
    refine bindP_call (preachable_any (gr_lift hgr2) (Nat.le_refl _)) ?_
    rintro m M3 ⟨x3, ⟨hne, _⟩ | ⟨_, R, hR, hRr⟩⟩
    · exact absurd hz hne
    have x23 := ext_dl x3
    have n3 := x23.n
    have l3 := x23.lo
    have g3 := (x23.old M.n (by omega)).trans g2
    have g3' := g3
    have hgr3 := hgr2.ext x23
    have hRr3 : BRow (M3.down M2.lo) m R := hRr
    rw [down_get] at g3
    simp (maxSteps := 4000000) (disch := first | omega | assumption | (simp only [bxS, bxV, stOk, Nat.reduceBEq, Nat.reduceEqDiff, Nat.reduceAdd]; done) | (simp only [bxU]; omega) | ((try apply has_setN); apply has_ofL; simp only [bxL]; omega)) only [↓bxD, bxP, bxQ, Nat.reduceBEq, reduceCtorEq, Nat.reduceAdd, Nat.reduceSub, Nat.reduceMul, Nat.reduceLeDiff, Nat.reduceLT, bxR, hG, g2, g3, down_get]
    generalize M3.down M2.lo = N3 at *
    refine bindP_call (pprod_any hgr3 (by omega)) ?_
    rintro m4 M4 ⟨x4, ⟨hne, _⟩ | ⟨_, S, hS, hSr⟩⟩
    · exact absurd hz hne
    have n4 := x4.n
    have l4 := x4.lo
    have g4 := (x4.old M.n (by omega)).trans g3'
    have hgr4 := hgr3.ext x4
    have hRr4 := hRr3.ext x4
    have cg0 : cget (ofL [MV.i IntKind.i64 g.names, MV.i IntKind.i64 g.kinds, MV.i IntKind.i64 g.start, vr, vf, vc, vk] 0) 0 = some (.i .i64 (nn : Int)) := by rw [← hnn]; exact (at_ofL _) 0 _ rfl
    have x04 := (x02.trans x23).trans x4
    obtain ⟨r1, r2⟩ := hRr4.sl
    obtain ⟨s1, s2⟩ := hSr.sl
    have hRl : R.length = nn := by rw [hR.1]; omega
    have hSl : (S.map fun z => decide (0 ≤ z)).length = nn := by rw [List.length_map, (hS.inn hok).len]; omega
    simp (maxSteps := 4000000) (disch := first | omega | assumption | (simp only [bxS, bxV, stOk, Nat.reduceBEq, Nat.reduceEqDiff, Nat.reduceAdd]; done) | (simp only [bxU]; omega) | ((try apply has_setN); apply has_ofL; simp only [bxL]; omega)) only [↓bxD, bxP, bxQ, Nat.reduceBEq, reduceCtorEq, Nat.reduceAdd, Nat.reduceSub, Nat.reduceMul, Nat.reduceLeDiff, Nat.reduceLT, bxR, hG, g4, cg0]
    show Wp fns K9_5 _ _ _
    unfold K9_5
    simp (maxSteps := 4000000) (disch := first | omega | assumption | (simp only [bxS, bxV, stOk, Nat.reduceBEq, Nat.reduceEqDiff, Nat.reduceAdd]; done) | (simp only [bxU]; omega) | ((try apply has_setN); apply has_ofL; simp only [bxL]; omega)) only [↓bxD, bxP, bxQ, Nat.reduceBEq, reduceCtorEq, Nat.reduceAdd, Nat.reduceSub, Nat.reduceMul, Nat.reduceLeDiff, Nat.reduceLT, bxR, hG, g4, cg0]
    obtain ⟨N, hN⟩ : ∃ N, NulVec g N := by
      obtain ⟨m9, M9, _, _, ⟨hne, _⟩ | ⟨_, N, hN, _⟩⟩ := pnull_any h hlo
      · exact absurd hz hne
      · exact ⟨N, hN⟩
    refine Wp_inv (σ := Nat) (fun i f M' => M' = M4 ∧ i ≤ nn ∧ (∀ k, k < i → (!(bAt R k) || !(bAt (S.map fun z => decide (0 ≤ z)) k)) = false) ∧ X.ev f (.t q1) = .p M.n 0 ∧ X.ev f (.t q6) = m ∧ X.ev f (.t q7) = m4 ∧ X.ev f (.t q24) = .i .i64 (nn : Int) ∧ X.ev f (.t q25) = .i .i64 (i : Int)) (fun i => nn - i) ?_ 0 ?_
    · rintro i f M' ⟨rfl, hi, hk, h1, h6, h7, h24, h25⟩
      simp only [q1, q6, q7, q24, q25] at h1 h6 h7 h24 h25
      unfold L9_2
      by_cases hi' : i < nn
      · have d1 : decide ((i : Int) < (nn : Int)) = true := decide_eq_true (by omega)
        obtain ⟨ro, sz, t, hg, hid, hC⟩ := hRr4.read (i := i) (by omega)
        obtain ⟨ro2, sz2, t2, hg2, hid2, hC2⟩ := hSr.read (i := i) (by omega)
        have use : (!(bAt R i) || !(bAt (S.map fun z => decide (0 ≤ z)) i)) = true → ChIs g ((i : Int), 7) := fun hb => chk_useless hz hR hS hN (firstP_is (Nat.zero_le _) (by omega) hb fun m _ hm => hk m hm)
        cases hb : bAt R i with
        | false =>
          rw [hb] at hC
          have hu := use (by rw [hb]; rfl)
          simp (maxSteps := 4000000) (disch := first | omega | assumption | (simp only [bxS, bxV, stOk, Nat.reduceBEq, Nat.reduceEqDiff, Nat.reduceAdd]; done) | (simp only [bxU]; omega) | ((try apply has_setN); apply has_ofL; simp only [bxL]; omega)) only [↓bxD, bxP, bxQ, Nat.reduceBEq, reduceCtorEq, Nat.reduceAdd, Nat.reduceSub, Nat.reduceMul, Nat.reduceLeDiff, Nat.reduceLT, bxR, h1, h6, h7, h24, h25, d1, r1, r2, s1, s2, hg, hC]
          show Wp fns K9_1 _ _ _
          unfold K9_1
          simp (maxSteps := 4000000) (disch := first | omega | assumption | (simp only [bxS, bxV, stOk, Nat.reduceBEq, Nat.reduceEqDiff, Nat.reduceAdd]; done) | (simp only [bxU]; omega) | ((try apply has_setN); apply has_ofL; simp only [bxL]; omega)) only [↓bxD, bxP, bxQ, Nat.reduceBEq, reduceCtorEq, Nat.reduceAdd, Nat.reduceSub, Nat.reduceMul, Nat.reduceLeDiff, Nat.reduceLT, bxR, h1, h6, h7, h24, h25, d1, r1, r2, s1, s2, hg, hC]
          exact ⟨x04, _, hu, rfl⟩
        | true =>
          rw [hb] at hC
          cases hb2 : bAt (S.map fun z => decide (0 ≤ z)) i with
          | false =>
            rw [hb2] at hC2
            have hu := use (by rw [hb2]; simp)
            simp (maxSteps := 4000000) (disch := first | omega | assumption | (simp only [bxS, bxV, stOk, Nat.reduceBEq, Nat.reduceEqDiff, Nat.reduceAdd]; done) | (simp only [bxU]; omega) | ((try apply has_setN); apply has_ofL; simp only [bxL]; omega)) only [↓bxD, bxP, bxQ, Nat.reduceBEq, reduceCtorEq, Nat.reduceAdd, Nat.reduceSub, Nat.reduceMul, Nat.reduceLeDiff, Nat.reduceLT, bxR, h1, h6, h7, h24, h25, d1, r1, r2, s1, s2, hg, hC, hg2, hC2]
            show Wp fns K9_1 _ _ _
            unfold K9_1
            simp (maxSteps := 4000000) (disch := first | omega | assumption | (simp only [bxS, bxV, stOk, Nat.reduceBEq, Nat.reduceEqDiff, Nat.reduceAdd]; done) | (simp only [bxU]; omega) | ((try apply has_setN); apply has_ofL; simp only [bxL]; omega)) only [↓bxD, bxP, bxQ, Nat.reduceBEq, reduceCtorEq, Nat.reduceAdd, Nat.reduceSub, Nat.reduceMul, Nat.reduceLeDiff, Nat.reduceLT, bxR, h1, h6, h7, h24, h25, d1, r1, r2, s1, s2, hg, hC, hg2, hC2]
            exact ⟨x04, _, hu, rfl⟩
          | true =>
            rw [hb2] at hC2
            simp (maxSteps := 4000000) (disch := first | omega | assumption | (simp only [bxS, bxV, stOk, Nat.reduceBEq, Nat.reduceEqDiff, Nat.reduceAdd]; done) | (simp only [bxU]; omega) | ((try apply has_setN); apply has_ofL; simp only [bxL]; omega)) only [↓bxD, bxP, bxQ, Nat.reduceBEq, reduceCtorEq, Nat.reduceAdd, Nat.reduceSub, Nat.reduceMul, Nat.reduceLeDiff, Nat.reduceLT, bxR, h1, h6, h7, h24, h25, d1, r1, r2, s1, s2, hg, hC, hg2, hC2]
            show Wp fns K9_1 _ _ _
            unfold K9_1
            simp (maxSteps := 4000000) (disch := first | omega | assumption | (simp only [bxS, bxV, stOk, Nat.reduceBEq, Nat.reduceEqDiff, Nat.reduceAdd]; done) | (simp only [bxU]; omega) | ((try apply has_setN); apply has_ofL; simp only [bxL]; omega)) only [↓bxD, bxP, bxQ, Nat.reduceBEq, reduceCtorEq, Nat.reduceAdd, Nat.reduceSub, Nat.reduceMul, Nat.reduceLeDiff, Nat.reduceLT, bxR, h1, h6, h7, h24, h25, d1, r1, r2, s1, s2, hg, hC, hg2, hC2]
            show Wp fns K9_0 _ _ _
            unfold K9_0
            simp (maxSteps := 4000000) (disch := first | omega | assumption | (simp only [bxS, bxV, stOk, Nat.reduceBEq, Nat.reduceEqDiff, Nat.reduceAdd]; done) | (simp only [bxU]; omega) | ((try apply has_setN); apply has_ofL; simp only [bxL]; omega)) only [↓bxD, bxP, bxQ, Nat.reduceBEq, reduceCtorEq, Nat.reduceAdd, Nat.reduceSub, Nat.reduceMul, Nat.reduceLeDiff, Nat.reduceLT, bxR, h1, h6, h7, h24, h25, d1, r1, r2, s1, s2, hg, hC, hg2, hC2]
            refine ⟨i + 1, by omega, by omega, fun k hk' => ?_, rfl⟩
            by_cases e : k = i
            · subst e; rw [hb, hb2]; rfl
            · exact hk k (by omega)
      · have d1 : decide ((i : Int) < (nn : Int)) = false := decide_eq_false (by omega)
        obtain rfl : i = nn := by omega
        have hnone : firstP (fun i => !(bAt R i) || !(bAt (S.map fun z => decide (0 ≤ z)) i)) g.names.toNat 0 = none := firstP_no fun m _ hm => hk m (by omega)
        simp (maxSteps := 4000000) (disch := first | omega | assumption | (simp only [bxS, bxV, stOk, Nat.reduceBEq, Nat.reduceEqDiff, Nat.reduceAdd]; done) | (simp only [bxU]; omega) | ((try apply has_setN); apply has_ofL; simp only [bxL]; omega)) only [↓bxD, bxP, bxQ, Nat.reduceBEq, reduceCtorEq, Nat.reduceAdd, Nat.reduceSub, Nat.reduceMul, Nat.reduceLeDiff, Nat.reduceLT, bxR, h1, h6, h7, h24, h25, d1, g4, hG]
        show Wp fns K9_4 _ _ _
        unfold K9_4
        simp (maxSteps := 4000000) (disch := first | omega | assumption | (simp only [bxS, bxV, stOk, Nat.reduceBEq, Nat.reduceEqDiff, Nat.reduceAdd]; done) | (simp only [bxU]; omega) | ((try apply has_setN); apply has_ofL; simp only [bxL]; omega)) only [↓bxD, bxP, bxQ, Nat.reduceBEq, reduceCtorEq, Nat.reduceAdd, Nat.reduceSub, Nat.reduceMul, Nat.reduceLeDiff, Nat.reduceLT, bxR, h1, h6, h7, h24, h25, d1, g4, hG]
        refine bindP_call (pcyclic_any hgr4 (by omega)) ?_
        rintro m5 M5 ⟨x5, ⟨hne, _⟩ | ⟨_, N', hN', hNr⟩⟩
        · exact absurd hz hne
        obtain rfl := nul_ext hN' hN
        simp (maxSteps := 4000000) (disch := first | omega | assumption | (simp only [bxS, bxV, stOk, Nat.reduceBEq, Nat.reduceEqDiff, Nat.reduceAdd]; done) | (simp only [bxU]; omega) | ((try apply has_setN); apply has_ofL; simp only [bxL]; omega)) only [↓bxD, bxP, bxQ, Nat.reduceBEq, reduceCtorEq, Nat.reduceAdd, Nat.reduceSub, Nat.reduceMul, Nat.reduceLeDiff, Nat.reduceLT, bxR, h1, h6, h7, h24, h25, d1, g4, hG]
        refine bindP_call (index_true hNr (by rw [cyL_len]; omega)) ?_
        rintro m6 M6 ⟨rfl, rfl⟩
        rw [cyL_len]
        cases e2 : firstP (bAt (cyL g N')) g.names.toNat 0 with
        | some k =>
          have d3 : decide (0 ≤ (k : Int)) = true := decide_eq_true (by omega)
          have hu := chk_cycle hz hR hS hN hnone e2
          simp (maxSteps := 4000000) (disch := first | omega | assumption | (simp only [bxS, bxV, stOk, Nat.reduceBEq, Nat.reduceEqDiff, Nat.reduceAdd]; done) | (simp only [bxU]; omega) | ((try apply has_setN); apply has_ofL; simp only [bxL]; omega)) only [↓bxD, bxP, bxQ, Nat.reduceBEq, reduceCtorEq, Nat.reduceAdd, Nat.reduceSub, Nat.reduceMul, Nat.reduceLeDiff, Nat.reduceLT, bxR, h1, h6, h7, h24, h25, d1, g4, hG, d3]
          exact ⟨x04.trans x5, _, hu, rfl⟩
        | none =>
          have hu := chk_fine hz hR hS hN hnone e2
          have d3 : decide ((0 : Int) ≤ -1) = false := rfl
          simp (maxSteps := 4000000) (disch := first | omega | assumption | (simp only [bxS, bxV, stOk, Nat.reduceBEq, Nat.reduceEqDiff, Nat.reduceAdd]; done) | (simp only [bxU]; omega) | ((try apply has_setN); apply has_ofL; simp only [bxL]; omega)) only [↓bxD, bxP, bxQ, Nat.reduceBEq, reduceCtorEq, Nat.reduceAdd, Nat.reduceSub, Nat.reduceMul, Nat.reduceLeDiff, Nat.reduceLT, bxR, h1, h6, h7, h24, h25, d1, g4, hG, d3]
          show Wp fns K9_3 _ _ _
          unfold K9_3
          simp (maxSteps := 4000000) (disch := first | omega | assumption | (simp only [bxS, bxV, stOk, Nat.reduceBEq, Nat.reduceEqDiff, Nat.reduceAdd]; done) | (simp only [bxU]; omega) | ((try apply has_setN); apply has_ofL; simp only [bxL]; omega)) only [↓bxD, bxP, bxQ, Nat.reduceBEq, reduceCtorEq, Nat.reduceAdd, Nat.reduceSub, Nat.reduceMul, Nat.reduceLeDiff, Nat.reduceLT, bxR, h1, h6, h7, h24, h25, d1, g4, hG]
          exact ⟨x04.trans x5, _, hu, rfl⟩
    · exact ⟨rfl, Nat.zero_le _, fun k hk => absurd hk (Nat.not_lt_zero k), by simp only [bxP, bxQ, reduceCtorEq, hG, g4, cg0], by simp only [bxP, bxQ, reduceCtorEq, hG, g4, cg0], by simp only [bxP, bxQ, reduceCtorEq, hG, g4, cg0], by simp only [bxP, bxQ, reduceCtorEq, hG, g4, cg0] <;> rfl, by simp only [bxP, bxQ, reduceCtorEq, hG, g4, cg0] <;> rfl⟩
  · have dz : decide ((formP g).2 ≠ 0) = true := decide_eq_true hz
    simp (maxSteps := 4000000) (disch := first | omega | assumption | (simp only [bxS, bxV, stOk, Nat.reduceBEq, Nat.reduceEqDiff, Nat.reduceAdd]; done) | (simp only [bxU]; omega) | ((try apply has_setN); apply has_ofL; simp only [bxL]; omega)) only [↓bxD, bxP, bxQ, Nat.reduceBEq, reduceCtorEq, Nat.reduceAdd, Nat.reduceSub, Nat.reduceMul, Nat.reduceLeDiff, Nat.reduceLT, bxR, hG, g2, dz]
    exact ⟨x02, formP g, .inl ⟨hz, rfl⟩, rfl⟩
def setMb (F : List (List Bool)) (a t : Nat) (b : Bool) : List (List Bool) := F.set a ((F.getD a []).set t b)
theorem setMb_at {F : List (List Bool)} {a t K : Nat} {b : Bool} (ha : a < F.length) (hs : ∀ x ∈ F, x.length = K) (ht : t < K) (i u : Nat) : mAt (setMb F a t b) i u = if i = a ∧ u = t then b else mAt F i u := by
  have hl : F[a]? = some F[a] := List.getElem?_eq_getElem ha
  have hFa : F.getD a [] = F[a] := by rw [List.getD_eq_getElem?_getD, hl]; rfl
  have hsz := hs _ (List.getElem_mem ha)
  unfold mAt setMb
  rw [List.getD_eq_getElem?_getD, List.getElem?_set]
  by_cases e : a = i
  · subst e
    rw [if_pos rfl, if_pos ha, Option.getD_some, bAt_set (by rw [hFa]; omega), hFa]
    by_cases e2 : t = u
    · subst e2; rw [if_pos rfl, if_pos ⟨rfl, rfl⟩]
    · rw [if_neg e2, if_neg (fun h => e2 h.2.symm)]
  · rw [if_neg e, if_neg (fun h => e h.1.symm), List.getD_eq_getElem?_getD]
theorem MatOwn.put {M : MH} {lo id : Nat} {ids : List Nat} {F : List (List Bool)} {K : Nat} (h : MatOwn M lo id ids F K) {a j t : Nat} (hj : ids[a]? = some j) (ht : t < K) :
    ∃ c, M.get j = some (.cs false 1 c) ∧ (∀ u, u < K → cget c (u * 1) = some (.b (mAt F a u))) ∧ hasB c 1 (t * 1) = true ∧ ∀ b, MatOwn (M.set j (some (.cs false 1 (setN [.b b] (t * 1) c)))) lo id ids (setMb F a t b) K := by
  have ha : a < ids.length := (List.getElem?_eq_some_iff.1 hj).1
  have haF : a < F.length := by rw [← h.len]; exact ha
  have hl : F[a]? = some F[a] := List.getElem?_eq_getElem haF
  have hFa : F.getD a [] = F[a] := by rw [List.getD_eq_getElem?_getD, hl]; rfl
  have hsz := h.size _ (List.getElem_mem haF)
  obtain ⟨c, c1, c2, c3, c4⟩ := (h.rows a j _ hj hl).read
  have hjm := List.mem_of_getElem? hj
  obtain ⟨n1, n2, n3⟩ := h.ne j hjm
  refine ⟨c, c1, fun u hu => ?_, c3 t (by rw [hsz]; exact ht), fun b => ?_⟩
  · unfold mAt
    rw [hFa]
    exact c2 u _ (bAt_at (by rw [hsz]; exact hu))
  · obtain ⟨tt, t1, t2⟩ := h.top
    refine ⟨⟨tt, by rw [set_ne (Ne.symm n1)]; exact t1, t2⟩, by unfold setMb; rw [List.length_set]; exact h.len, fun i j' l hj' hl' => ?_, fun x hx => ?_, h.ne, h.idl, h.inj⟩
    · unfold setMb at hl'
      rw [List.getElem?_set] at hl'
      by_cases e : a = i
      · subst e
        rw [if_pos rfl, if_pos haF] at hl'
        injection hl' with hl'
        subst hl'
        rw [hj] at hj'
        injection hj' with hj'
        subst hj'
        rw [hFa]
        exact ⟨_, set_same _ _, c4 t b (by rw [hsz]; exact ht)⟩
      · rw [if_neg e] at hl'
        have hne : j ≠ j' := fun e2 => e (h.inj a i j hj (by rw [e2]; exact hj'))
        exact (h.rows i j' l hj' hl').same (by rw [set_ne (Ne.symm hne)])
    · unfold setMb at hx
      rcases List.mem_or_eq_of_mem_set hx with h1 | h1
      · exact h.size x h1
      · rw [h1, List.length_set, hFa]; exact hsz
structure CyF (f : Fr) (n0 nn id i n8 k : Nat) (vn : MV) : Prop where
  h1 : X.ev f (.t q1) = .p n0 0
  h3 : X.ev f (.t q3) = vn
  h4 : X.ev f (.t q4) = .i .i64 (nn : Int)
  h5 : X.ev f (.t q5) = .sl id 0 nn 0
  h7 : X.ev f (.t q7) = .i .i64 (i : Int)
  h8 : X.ev f (.t q8) = .p n8 0
  h9 : X.ev f (.t q9) = .i .i64 (k : Int)
structure CCx (Mb : MH) (g : Gr) (vr vf vc vk : MV) (es : List (List MV)) (n0 nn : Nat) (vn : MV) (N : List Bool) : Prop where
  gr : GrAt Mb vr vf vc vk es g
  ok : GrOk g
  box : Mb.get n0 = some (.cs false 7 (ofL (gcs g vr vf vc vk) 0))
  n0lt : n0 < Mb.n
  lo : Mb.lo ≤ Mb.n
  nul : NulVec g N
  nrow : BRow Mb vn N
  hn : g.names = nn
structure CMt (Mb M : MH) (nn id : Nat) (ids : List Nat) (F : List (List Bool)) : Prop where
  ext : Ext Mb M
  mat : MatOwn M Mb.n id ids F nn
  len : F.length = nn
theorem CMt.step {Mb M M' : MH} {nn id : Nat} {ids : List Nat} {F : List (List Bool)} (h : CMt Mb M nn id ids F) (k : Ext M M') : CMt Mb M' nn id ids F := ⟨h.ext.trans k, h.mat.ext k, h.len⟩
def RelW (U : Nat → Nat → Bool) (k i j : Nat) (F : List (List Bool)) (nn : Nat) : Prop := ∀ x y, x < nn → y < nn → mAt F x y = if x < i ∨ (x = i ∧ y < j) then cyW U k x y else U x y
theorem RelW.here {U : Nat → Nat → Bool} {k i j nn : Nat} {F : List (List Bool)} (h : RelW U k i j F nn) (hi : i < nn) (hj : j < nn) : mAt F i j = U i j := by
  rw [h i j hi hj, if_neg (by omega)]
theorem RelW.to {U : Nat → Nat → Bool} {k i j nn : Nat} {F : List (List Bool)} (h : RelW U k i j F nn) (hi : i < nn) (hk : k < nn) : mAt F i k = U i k := by
  rw [h i k hi hk]
  split
  · exact cyW_to _ _ _
  · rfl
theorem RelW.step {U : Nat → Nat → Bool} {k i j nn : Nat} {F : List (List Bool)} (h : RelW U k i j F nn) (hl : F.length = nn) (hs : ∀ x ∈ F, x.length = nn) (hi : i < nn) (hj : j < nn) {b : Bool} (hb : b = cyW U k i j) : RelW U k i (j + 1) (setMb F i j b) nn := fun x y hx hy => by
  rw [setMb_at (by omega) hs hj]
  by_cases e : x = i ∧ y = j
  · rw [if_pos e, if_pos (by omega), hb, e.1, e.2]
  · rw [if_neg e, h x y hx hy]
    by_cases e2 : x < i ∨ (x = i ∧ y < j)
    · rw [if_pos e2, if_pos (by omega)]
    · rw [if_neg e2, if_neg (by omega)]
structure CyG (f : Fr) (nn id k i : Nat) : Prop where
  h4 : X.ev f (.t q4) = .i .i64 (nn : Int)
  h5 : X.ev f (.t q5) = .sl id 0 nn 0
  h12 : X.ev f (.t q12) = .i .i64 (k : Int)
  h13 : X.ev f (.t q13) = .i .i64 (i : Int)
structure CyH (f : Fr) (n0 nn id i : Nat) (vn : MV) : Prop where
  h1 : X.ev f (.t q1) = .p n0 0
  h3 : X.ev f (.t q3) = vn
  h4 : X.ev f (.t q4) = .i .i64 (nn : Int)
  h5 : X.ev f (.t q5) = .sl id 0 nn 0
  h7 : X.ev f (.t q7) = .i .i64 (i : Int)
structure CIni (Mb : MH) (n0 nn : Nat) (vn : MV) (i : Nat) (ids : List Nat) (f : Fr) (M : MH) : Prop where
  ext : Ext Mb M
  top : ∃ t, M.get Mb.n = some (.cs false 1 t) ∧ At t 0 ((ids.map fun j => MV.sl j 0 nn 0) ++ List.replicate (nn - i) .nils)
  top2 : Mb.n < M.n
  len : ids.length = i
  le : i ≤ nn
  rows : ∀ j ∈ ids, BoolsAt M j (List.replicate nn false)
  ne : ∀ j ∈ ids, j ≠ Mb.n ∧ Mb.n ≤ j ∧ j < M.n
  inj : ∀ (i i' : Nat) j, ids[i]? = some j → ids[i']? = some j → i = i'
  h1 : X.ev f (.t q1) = .p n0 0
  h3 : X.ev f (.t q3) = vn
  h4 : X.ev f (.t q4) = .i .i64 (nn : Int)
  h5 : X.ev f (.t q5) = .sl Mb.n 0 nn 0
  h6 : X.ev f (.t q6) = .i .i64 (i : Int)
theorem num_any {M : MH} {z : Int} : Cp fns 14 [.i .i64 z] M fun m M' => m = .i .i64 z ∧ M' = M := by
  refine Cp_call (fn := F14) (by kernel_rfl) (Nat.le_of_ble_eq_true rfl) ?_
  show Wp fns B14 (T.set q0 (some (.i .i64 z)) T.lf) M _
  unfold B14
  simp (maxSteps := 4000000) (disch := first | omega | assumption | (simp only [bxS, bxV, stOk, Nat.reduceBEq, Nat.reduceEqDiff, Nat.reduceAdd]; done) | (simp only [bxU]; omega) | ((try apply has_setN); apply has_ofL; simp only [bxL]; omega)) only [↓bxD, bxP, bxQ, Nat.reduceBEq, reduceCtorEq, Nat.reduceAdd, Nat.reduceSub, Nat.reduceMul, Nat.reduceLeDiff, Nat.reduceLT, bxR]
theorem Cp_true {fns : Nat → Option IFn} {g : Nat} {M : MH} (hg : fns g = some Ftrue) : Cp fns g [] M fun m M' => m = .b true ∧ M' = M := by
  refine Cp_call hg (Nat.le_refl _) ?_
  show Wp fns (.reg [⟨some (.k1 .d0), none, .mov (.c (.b true))⟩]) _ M _
  simp only [Wp_reg_iff, Wl_op_iff, Wl_nil_iff, bindP_some, ev_mov, ev_c, setD_some, retQ_norm, show Ftrue.res = [.tmp (.k1 .d0)] from rfl, resL_1, res_set, if_true, Option.some.injEq, exists_eq_left']
  simp [packM]
theorem own_sl {lo : Nat} {M : MH} {sz : Nat} {v : MV} {es : List (List MV)} (h : OwnRow lo M sz v es) : isSl v = true := (RowAt.sl h.row).1
def RuleOwn (lo : Nat) (M : MH) (e : List MV) (r : Int × List Int × Int) : Prop := ∃ uu, e = [.i .i64 r.1, uu, .i .i64 r.2.2] ∧ OwnRow lo M 1 uu (ints r.2.1)
structure GB (b : Nat) (M : MH) (n k : Int) (rs : List (Int × List Int × Int)) (v : MV) (es : List (List MV)) : Prop where
  box : ∃ t, M.get b = some (.cs false 7 t) ∧ At t 0 [.i .i64 n, .i .i64 k, .i .i64 0, v, .nils, .nils, .nils]
  bn : b < M.n
  lo : M.lo ≤ b
  own : OwnRow (b + 1) M 3 v es
  len : es.length = rs.length
  at_ : ∀ (i : Nat) e r, es[i]? = some e → rs[i]? = some r → RuleOwn (b + 1) M e r
theorem GB.ext {b : Nat} {M M' : MH} {n k : Int} {rs : List (Int × List Int × Int)} {v : MV} {es : List (List MV)} (h : GB b M n k rs v es) (x : Ext M M') : GB b M' n k rs v es := by
  obtain ⟨⟨t, h1, h2⟩, h3, h4, h5, h6, h7⟩ := h
  have := x.n
  have := x.lo
  exact ⟨⟨t, (x.old b h3).trans h1, h2⟩, by omega, by omega, h5.ext x, h6, fun i e r a c => let ⟨uu, k1, k2⟩ := h7 i e r a c; ⟨uu, k1, k2.ext x⟩⟩
theorem GB.push {b : Nat} {M : MH} {n k : Int} {rs rs2 : List (Int × List Int × Int)} {v w : MV} {es es2 : List (List MV)} (h : GB b M n k rs v es) (hw : RowAt M 3 w es2) (hl2 : es2.length = rs2.length) (h2 : ∀ (i : Nat) e r, es2[i]? = some e → rs2[i]? = some r → RuleOwn (b + 1) M e r) (hb : rs.length + rs2.length ≤ 1000) :
    ∃ v' M3 t, appM M 3 40 v w = some (v', M3) ∧ M3.get b = some (.cs false 7 t) ∧ At t 0 [.i .i64 n, .i .i64 k, .i .i64 0, v, .nils, .nils, .nils] ∧ M3.lo ≤ b ∧ isSl v' = true ∧ GB b (M3.set b (some (.cs false 7 (setN [v'] 3 t)))) n k (rs ++ rs2) v' (es ++ es2) ∧ ∀ M0, Ext M0 M → M0.n ≤ b → Ext M0 (M3.set b (some (.cs false 7 (setN [v'] 3 t)))) := by
  have hlo := h.lo
  have hbn := h.bn
  have hlen := h.len
  have ho := h.own
  have hone : ∀ e ∈ es2, allOne e = true := fun e he => by
    obtain ⟨i, hi⟩ := List.getElem?_of_mem he
    have hil := (List.getElem?_eq_some_iff.1 hi).1
    obtain ⟨uu, rfl, hu⟩ := h2 i e _ hi (List.getElem?_eq_getElem (l := rs2) (by omega))
    have hs := own_sl hu
    cases uu <;> first | rfl | cases hs
  obtain ⟨v', M3, e1, e2, e3, e4, e5, e6⟩ := app_row (bytes := 40) ho hw (by omega) (by omega) hone (by omega) (by omega)
  obtain ⟨t, ht1, ht2⟩ := h.box
  have h7 : M3.get b = some (.cs false 7 t) := by rw [e6 b (by omega) (by omega)]; exact ht1
  have hsl := RowAt.sl e2.row
  have hne : ∀ j c, M.get j = some (.cs false 1 c) → ∀ a b n d, v = .sl a b n d → a ≠ j := fun j c hj a b' n' d e => by
    obtain ⟨_, ⟨rfl, _⟩ | ⟨id, c', rfl, k1, _, _, _⟩⟩ := ho
    · cases e
    · injection e with ea
      subst ea
      intro e'
      subst e'
      rw [hj] at k1
      injection k1 with k1
      injection k1 with _ k1
      cases k1
  have keep : ∀ e r, RuleOwn (b + 1) M e r → RuleOwn (b + 1) (M3.set b (some (.cs false 7 (setN [v'] 3 t)))) e r := fun e r ⟨uu, k1, k2⟩ => by
    refine ⟨uu, k1, ?_⟩
    obtain ⟨z, ⟨q1', q2'⟩ | ⟨id, c, q1', q2', q3', q4', q5'⟩⟩ := k2
    · exact ⟨z, .inl ⟨q1', q2'⟩⟩
    · refine ⟨z, .inr ⟨id, c, q1', ?_, q3', by rw [set_n]; omega, q5'⟩⟩
      rw [set_ne (by omega), e5 id q4' (hne id c q2')]
      exact q2'
  refine ⟨v', M3, t, e1, h7, ht2, by omega, hsl.1, ⟨⟨_, set_same _ _, ?_⟩, by rw [set_n]; omega, by rw [set_lo]; omega, ?_, by rw [List.length_append, List.length_append, hlen, hl2], fun i e r he hr => ?_⟩, fun M0 hx0 hb0 => ⟨by rw [set_n]; have := hx0.n; omega, by rw [set_lo, e4]; exact hx0.lo, fun j hj => ?_⟩⟩
  · have := ht2.set' 3 v' (by simp) (k := 3) rfl
    exact this
  · refine e2.keep (Nat.le_of_eq rfl) fun a b' n' d e => set_ne fun e' => ?_
    obtain ⟨_, ⟨rfl, hc⟩ | ⟨id, c', rfl, k1, k2, _, _⟩⟩ := e2
    · cases e
    · injection e with ea
      subst ea
      omega
  · by_cases hk : i < es.length
    · rw [List.getElem?_append_left hk] at he
      rw [List.getElem?_append_left (by omega)] at hr
      exact keep e r (h.at_ i e r he hr)
    · rw [List.getElem?_append_right (by omega)] at he
      rw [List.getElem?_append_right (by omega), ← hlen] at hr
      exact keep e r (h2 _ e r he hr)
  · have := hx0.n
    rw [set_ne (by omega), e6 j (by omega) (by omega)]
    exact hx0.old j hj
theorem row0 {M : MH} {sz : Nat} : RowAt M sz .nils [] := ⟨fun e h => by simp at h, .inl ⟨rfl, rfl⟩⟩
def gOf (n k : Int) (rs : List (Int × List Int × Int)) : Gr := ⟨n, k, 0, rs, [], [], []⟩
structure RsWf (n k : Int) (rs : List (Int × List Int × Int)) : Prop where
  n1 : 1 ≤ n ∧ n ≤ 40
  k1 : 0 ≤ k ∧ k ≤ 40
  len : rs.length ≤ 60
  left : ∀ r ∈ rs, 0 ≤ r.1 ∧ r.1 < n
  sym : ∀ r ∈ rs, ∀ s ∈ r.2.1, s < n ∧ -1 - s < k
  r8 : ∀ r ∈ rs, r.2.1.length ≤ 8
  dyn : ∀ r ∈ rs, r.2.2 = 0
theorem GB.gr {b : Nat} {M : MH} {n k : Int} {rs : List (Int × List Int × Int)} {v : MV} {es : List (List MV)} (h : GB b M n k rs v es) (hw : RsWf n k rs) : GrAt M v .nils .nils .nils es (gOf n k rs) := by
  have w0 : Wf64 (0 : Int) := ⟨by decide, by decide⟩
  obtain ⟨a1, a2⟩ := hw.n1
  obtain ⟨a3, a4⟩ := hw.k1
  have a5 := hw.len
  refine ⟨⟨h.own.row, h.len, fun i e r he hr => ?_⟩, row0, row0, row0, ⟨⟨?_, ?_⟩, ⟨?_, ?_⟩, w0, fun r hr => ?_, (fun f hf => by cases hf), (fun z hz => by cases hz), (fun z hz => by cases hz), ⟨?_, Nat.zero_le _, Nat.zero_le _, Nat.zero_le _⟩⟩⟩
  · obtain ⟨uu, k1, k2⟩ := h.at_ i e r he hr
    exact ⟨uu, k1, k2.row⟩
  · show (-9223372036854775808 : Int) ≤ n; omega
  · show n ≤ (9223372036854775807 : Int); omega
  · show (-9223372036854775808 : Int) ≤ k; omega
  · show k ≤ (9223372036854775807 : Int); omega
  · have b1 := hw.left r hr
    have b3 := hw.r8 r hr
    have b4 := hw.dyn r hr
    refine ⟨⟨by omega, by omega⟩, fun z hz => ?_, by rw [b4]; exact w0, by omega⟩
    have b2 := hw.sym r hr z hz
    exact ⟨by omega, by omega⟩
  · show rs.length ≤ 9223372036854775807; omega
theorem findE_nil {α : Type} {f : α → Option Int} : ∀ {l : List α} {i : Nat}, (∀ x ∈ l, f x = none) → findE f l i = none
  | [], _, _ => rfl
  | x :: l, i, h => by
    unfold findE
    rw [h x List.mem_cons_self]
    exact findE_nil fun y hy => h y (List.mem_cons_of_mem _ hy)
theorem form_of {n k : Int} {rs : List (Int × List Int × Int)} (hw : RsWf n k rs) : formP (gOf n k rs) = (-1, 0) := by
  obtain ⟨a1, a2⟩ := hw.n1
  obtain ⟨a3, a4⟩ := hw.k1
  have a5 := hw.len
  have h1 : headE (gOf n k rs) = none := by
    unfold headE gOf
    simp only [List.length_nil]
    rw [if_neg (by omega), if_neg (by omega), if_neg]
    rintro (h | h | h | h)
    · omega
    · omega
    · cases h
    · cases h
  have h2 : findE (ruleE (gOf n k rs)) rs 0 = none := findE_nil fun r hr => by
    obtain ⟨b1, b2⟩ := hw.left r hr
    have b3 := hw.r8 r hr
    have b4 := hw.dyn r hr
    unfold ruleE
    have : okR (gOf n k rs) r = true := by
      unfold okR
      simp only [Bool.and_eq_true, decide_eq_true_eq, List.all_eq_true]
      refine ⟨⟨b1, b2⟩, fun s hs => ?_⟩
      have b5 := hw.sym r hr s hs
      unfold symB gOf
      split
      · exact decide_eq_true b5.2
      · exact decide_eq_true b5.1
    rw [this, if_neg (by simp), if_neg (by omega), if_neg (by omega)]
  unfold formP
  rw [h1]
  show (match findE (ruleE (gOf n k rs)) rs 0 with
    | some (i, e) => ((i : Int), e)
    | none => _) = _
  rw [h2]
  rfl
theorem nul_at {g : Gr} {N : List Bool} (h : NulVec g N) (a : Nat) : bAt N a = true ↔ Nul g a := by
  rw [← h.2 a]
  unfold bAt
  rw [List.getD_eq_getElem?_getD]
  cases e : N[a]? with
  | none => simp
  | some b => simp
theorem rch_at {g : Gr} {R : List Bool} (h : RchVec g R) (a : Nat) : bAt R a = true ↔ Rch g a := by
  rw [← h.2 a]
  unfold bAt
  rw [List.getD_eq_getElem?_getD]
  cases e : R[a]? with
  | none => simp
  | some b => simp
theorem prod_of {g : Gr} {l : List Int} (h : ShVec g l) {r : Int × List Int × Int} (hr : r ∈ g.rules) (ho : shOk l r.2.1 = true) : 0 ≤ l.getD r.1.toNat (-1) := by
  have hst := h.2 r hr
  have hp := shRow_pos.2 ho
  unfold shCond at hst
  rw [decide_eq_true hp, Bool.true_and, Bool.or_eq_false_iff] at hst
  have := hst.1
  simp only [decide_eq_false_iff_not] at this
  omega
theorem pAt {S : List Int} {a : Nat} : bAt (S.map fun z => decide (0 ≤ z)) a = decide (0 ≤ S.getD a (-1)) := by
  unfold bAt
  rw [List.getD_eq_getElem?_getD, List.getD_eq_getElem?_getD, List.getElem?_map]
  cases S[a]? <;> rfl
theorem shOk_iff {l r : List Int} : shOk l r = true ↔ ∀ s ∈ r, 0 ≤ s → 0 ≤ l.getD s.toNat (-1) := by
  unfold shOk
  rw [List.all_eq_true]
  constructor
  · intro h s hs h0
    have := h s hs
    unfold shV at this
    rw [if_neg (by omega), decide_eq_true_eq] at this
    exact this
  · intro h s hs
    unfold shV
    split
    · rfl
    · exact decide_eq_true (h s hs (by omega))
theorem chis_of {g : Gr} {z : Int × Int} (hz : (formP g).2 = 0) (h : ChIs g z) : ∃ R S N, RchVec g R ∧ ShVec g S ∧ NulVec g N ∧ z = chkV g.names.toNat R (S.map fun z => decide (0 ≤ z)) (cyL g N) := by
  rcases h with ⟨h, _⟩ | ⟨_, h⟩
  · exact absurd hz h
  · exact h
theorem cyis_of {g : Gr} {l : List Bool} (hz : (formP g).2 = 0) (h : CyIs g l) : ∃ N, NulVec g N ∧ l = cyL g N := by
  rcases h with ⟨h, _⟩ | ⟨_, h⟩
  · exact absurd hz h
  · exact h
theorem alone_has {N : List Bool} {l : List Int} {j : Nat} (h : aloneB N l l.length j = true) : (j : Int) ∈ l ∧ ∀ x ∈ l, oneN N x = true ∨ x = (j : Int) := by
  obtain ⟨k, _, h2, h3⟩ := aloneB_iff.1 h
  refine ⟨List.mem_of_getElem? h2, fun x hx => ?_⟩
  unfold stayN allN at h3
  simp only [Bool.and_eq_true, List.all_eq_true] at h3
  obtain ⟨i, hi⟩ := List.getElem?_of_mem hx
  by_cases e1 : i < k
  · exact .inl (h3.1 x (List.mem_of_getElem? (i := i) (by rw [List.getElem?_take, if_pos e1]; exact hi)))
  · by_cases e2 : i = k
    · subst e2
      rw [h2] at hi
      injection hi with hi
      exact .inr hi.symm
    · exact .inl (h3.2 x (List.mem_of_getElem? (i := i - (k + 1)) (by rw [List.getElem?_drop, show k + 1 + (i - (k + 1)) = i from by omega]; exact hi)))
theorem alone_mk {N : List Bool} {a c : List Int} {j : Nat} (ha : ∀ x ∈ a, oneN N x = true) (hc : ∀ x ∈ c, oneN N x = true) : aloneB N (a ++ (j : Int) :: c) (a ++ (j : Int) :: c).length j = true := by
  refine aloneB_iff.2 ⟨a.length, by simp, by rw [List.getElem?_append_right (Nat.le_refl _), Nat.sub_self]; rfl, ?_⟩
  have e1 : (a ++ (j : Int) :: c).take a.length = a := by simp
  have e2 : (a ++ (j : Int) :: c).drop (a.length + 1) = c := by
    rw [List.drop_append, List.drop_of_length_le (by omega), show a.length + 1 - a.length = 1 from by omega]
    rfl
  unfold stayN allN
  rw [e1, e2, Bool.and_eq_true, List.all_eq_true, List.all_eq_true]
  exact ⟨ha, hc⟩
def hdF (fu : Int) (i : Nat) : Int := if (i : Int) = fu then 2 else 1
def hdL (ah : Nat) (fu : Int) : Nat → List Int
  | 0 => []
  | i + 1 => hdL ah fu i ++ (if i = ah then [0] else []) ++ [hdF fu i]
def hdR (ah be : Nat) (fu : Int) : List Int := hdL ah fu (ah + be) ++ (if be = 0 then [0] else [])
def hdS (ah be : Nat) (fu : Int) : List (Int × List Int × Int) := [(0, hdR ah be fu, 0), (0, [1, 2], 0), (1, [], 0), (1, [-1], 0), (2, [-2], 0)]
def hdG (ah be : Nat) (fu : Int) : Gr := gOf 3 2 (hdS ah be fu)
theorem hdF_one (fu : Int) (i : Nat) : hdF fu i = 1 ∨ hdF fu i = 2 := by unfold hdF; split; exact .inr rfl; exact .inl rfl
theorem hdL_low {ah : Nat} {fu : Int} : ∀ {i}, i ≤ ah → hdL ah fu i = (List.range i).map (hdF fu)
  | 0, _ => rfl
  | i + 1, h => by
    unfold hdL
    rw [hdL_low (by omega), if_neg (by omega), List.append_nil, List.range_succ, List.map_append]
    rfl
theorem hdL_high {ah : Nat} {fu : Int} : ∀ d, hdL ah fu (ah + (d + 1)) = (List.range ah).map (hdF fu) ++ (0 : Int) :: (List.range (d + 1)).map (fun j => hdF fu (ah + j))
  | 0 => by
    show hdL ah fu (ah + 1) = _
    unfold hdL
    rw [hdL_low (Nat.le_refl _), if_pos rfl]
    simp [List.range_succ]
  | d + 1 => by
    show hdL ah fu (ah + (d + 1) + 1) = _
    unfold hdL
    rw [hdL_high d, if_neg (by omega), List.append_nil, List.range_succ (n := d + 1), List.map_append]
    simp
theorem hdR_is (ah be : Nat) (fu : Int) : hdR ah be fu = (List.range ah).map (hdF fu) ++ (0 : Int) :: (List.range be).map (fun j => hdF fu (ah + j)) := by
  unfold hdR
  cases be with
  | zero => rw [Nat.add_zero, hdL_low (Nat.le_refl _), if_pos rfl]; rfl
  | succ d => rw [hdL_high, if_neg (by omega), List.append_nil]
theorem hdR_mem {ah be : Nat} {fu s : Int} (h : s ∈ hdR ah be fu) : s = 0 ∨ s = 1 ∨ s = 2 := by
  rw [hdR_is] at h
  rcases List.mem_append.1 h with h | h
  · obtain ⟨i, _, rfl⟩ := List.mem_map.1 h
    exact .inr (hdF_one fu i)
  · rcases List.mem_cons.1 h with h | h
    · exact .inl h
    · obtain ⟨i, _, rfl⟩ := List.mem_map.1 h
      exact .inr (hdF_one fu _)
theorem hdR_zero (ah be : Nat) (fu : Int) : (0 : Int) ∈ hdR ah be fu := by rw [hdR_is]; simp
theorem hdR_two {ah be : Nat} {fu : Int} (h0 : 0 ≤ fu) (h1 : fu < ah + be) : (2 : Int) ∈ hdR ah be fu := by
  rw [hdR_is]
  by_cases h : fu < ah
  · refine List.mem_append.2 (.inl (List.mem_map.2 ⟨fu.toNat, List.mem_range.2 (by omega), ?_⟩))
    unfold hdF
    rw [if_pos (by omega)]
  · refine List.mem_append.2 (.inr (List.mem_cons.2 (.inr (List.mem_map.2 ⟨fu.toNat - ah, List.mem_range.2 (by omega), ?_⟩))))
    unfold hdF
    rw [if_pos (by omega)]
theorem hdR_len (ah be : Nat) (fu : Int) : (hdR ah be fu).length = ah + be + 1 := by rw [hdR_is]; simp; omega
theorem hd_mem {ah be : Nat} {fu : Int} {r : Int × List Int × Int} (h : r ∈ (hdG ah be fu).rules) : r = (0, hdR ah be fu, 0) ∨ r = (0, [1, 2], 0) ∨ r = (1, [], 0) ∨ r = (1, [-1], 0) ∨ r = (2, [-2], 0) := by
  have h : r ∈ hdS ah be fu := h
  unfold hdS at h
  simpa only [List.mem_cons, List.not_mem_nil, or_false] using h
theorem hd_wf {ah be : Nat} {fu : Int} (h : ah + be ≤ 7) : RsWf 3 2 (hdS ah be fu) := by
  have hm : ∀ r ∈ hdS ah be fu, r = (0, hdR ah be fu, 0) ∨ r = (0, [1, 2], 0) ∨ r = (1, [], 0) ∨ r = (1, [-1], 0) ∨ r = (2, [-2], 0) := fun r hr => hd_mem hr
  refine ⟨by omega, by omega, by unfold hdS; simp, fun r hr => ?_, fun r hr s hs => ?_, fun r hr => ?_, fun r hr => ?_⟩ <;> rcases hm r hr with rfl | rfl | rfl | rfl | rfl
  · exact ⟨Int.le_refl 0, show (0 : Int) < 3 by omega⟩
  · exact ⟨Int.le_refl 0, show (0 : Int) < 3 by omega⟩
  · exact ⟨show (0 : Int) ≤ 1 by omega, show (1 : Int) < 3 by omega⟩
  · exact ⟨show (0 : Int) ≤ 1 by omega, show (1 : Int) < 3 by omega⟩
  · exact ⟨show (0 : Int) ≤ 2 by omega, show (2 : Int) < 3 by omega⟩
  · rcases hdR_mem hs with e | e | e <;> omega
  · simp only [List.mem_cons, List.not_mem_nil, or_false] at hs; omega
  · cases hs
  · have := List.mem_singleton.1 hs; omega
  · have := List.mem_singleton.1 hs; omega
  · show (hdR ah be fu).length ≤ 8; rw [hdR_len]; omega
  · show 2 ≤ 8; omega
  · show 0 ≤ 8; omega
  · show 1 ≤ 8; omega
  · show 1 ≤ 8; omega
  all_goals rfl
section
variable {ah be : Nat} {fu : Int}
theorem hd_in : ((0 : Int), hdR ah be fu, (0 : Int)) ∈ (hdG ah be fu).rules ∧ ((0 : Int), [(1 : Int), 2], (0 : Int)) ∈ (hdG ah be fu).rules ∧ ((1 : Int), ([] : List Int), (0 : Int)) ∈ (hdG ah be fu).rules ∧ ((2 : Int), [(-2 : Int)], (0 : Int)) ∈ (hdG ah be fu).rules := by
  refine ⟨?_, ?_, ?_, ?_⟩ <;> (show _ ∈ hdS ah be fu; unfold hdS; simp)
theorem hd_nul {a : Nat} : Nul (hdG ah be fu) a ↔ a = 1 := by
  constructor
  · intro h
    induction h with
    | mk r hr h0 _ ih =>
      rcases hd_mem hr with rfl | rfl | rfl | rfl | rfl
      · have := ih 0 (hdR_zero ah be fu)
        simp at this
      · have := ih 2 (by simp)
        simp at this
      · rfl
      · rfl
      · have := h0 (-2) (by simp)
        omega
  · rintro rfl
    exact Nul.mk (g := hdG ah be fu) _ hd_in.2.2.1 (fun s hs => by cases hs) (fun s hs => by cases hs)
theorem hd_one {N : List Bool} (hN : NulVec (hdG ah be fu) N) (s : Int) : oneN N s = true ↔ s = 1 := by
  by_cases h : s < 0
  · unfold oneN
    rw [decide_eq_false (by omega), Bool.false_and]
    constructor
    · intro h; cases h
    · intro h; omega
  · obtain ⟨m, rfl⟩ : ∃ m : Nat, s = m := ⟨s.toNat, by omega⟩
    rw [oneN_at, nul_at hN, hd_nul]
    omega
theorem hd_step (h1 : fu < ah + be) {N : List Bool} (hN : NulVec (hdG ah be fu) N) {i j : Nat} (h : cyB N (hdG ah be fu).rules i j = true) : i = 0 ∧ (j = 2 ∨ (j = 0 ∧ fu < 0)) := by
  obtain ⟨r, hr, h2, h3⟩ := cyB_iff.1 h
  obtain ⟨h4, h5⟩ := alone_has h3
  rcases hd_mem hr with rfl | rfl | rfl | rfl | rfl
  · have hi : i = 0 := by have : (0 : Int) = (i : Int) := h2; omega
    have hj : j = 0 := by
      rcases h5 0 (hdR_zero ah be fu) with e | e
      · have := (hd_one hN _).1 e; omega
      · omega
    refine ⟨hi, .inr ⟨hj, Decidable.byContradiction fun hc => ?_⟩⟩
    rcases h5 2 (hdR_two (by omega) h1) with e | e
    · have := (hd_one hN _).1 e; omega
    · omega
  · have hi : i = 0 := by have : (0 : Int) = (i : Int) := h2; omega
    have hj : j = 2 := by
      rcases h5 2 (by simp) with e | e
      · have := (hd_one hN _).1 e; omega
      · omega
    exact ⟨hi, .inl hj⟩
  · cases h4
  · have := List.mem_singleton.1 h4; omega
  · have := List.mem_singleton.1 h4; omega
theorem hd_mk (h : fu < 0) {N : List Bool} (hN : NulVec (hdG ah be fu) N) : cyB N (hdG ah be fu).rules 0 0 = true := by
  refine cyB_iff.2 ⟨_, hd_in.1, rfl, ?_⟩
  simp only
  have h1 : ∀ i, hdF fu i = 1 := fun i => by unfold hdF; rw [if_neg (by omega)]
  rw [hdR_is]
  refine alone_mk (j := 0) (fun x hx => ?_) (fun x hx => ?_) <;> obtain ⟨i, _, rfl⟩ := List.mem_map.1 hx
  · rw [h1]; exact (hd_one hN 1).2 rfl
  · rw [h1]; exact (hd_one hN 1).2 rfl
theorem hd_cyc (h1 : fu < ah + be) {N : List Bool} (hN : NulVec (hdG ah be fu) N) {i : Nat} (hi : i < 3) : bAt (cyL (hdG ah be fu) N) i = (decide (i = 0) && decide (fu < 0)) := by
  have hnn : (hdG ah be fu).names.toNat = 3 := rfl
  rw [cyL_at (by omega), hnn]
  cases hc : cyIt (cyB N (hdG ah be fu).rules) 3 i i with
  | true =>
    have hw := cyIt_way hc
    have hlast : ∀ {a b}, Ev.Way (cyB N (hdG ah be fu).rules) a b → a = 0 ∧ (b = 0 → fu < 0) := fun {a b} h => by
      induction h with
      | one h =>
        obtain ⟨e1, e2⟩ := hd_step h1 hN h
        exact ⟨e1, fun e => by rcases e2 with e2 | e2; omega; exact e2.2⟩
      | more h _ ih =>
        obtain ⟨e1, e2⟩ := hd_step h1 hN h
        exact ⟨e1, ih.2⟩
    obtain ⟨e1, e2⟩ := hlast hw
    rw [decide_eq_true e1, decide_eq_true (e2 e1)]
    rfl
  | false =>
    by_cases e : i = 0
    · subst e
      by_cases e2 : fu < 0
      · rw [cyIt_sub (hd_mk e2 hN)] at hc
        cases hc
      · rw [decide_eq_false e2, Bool.and_false]
    · rw [decide_eq_false e, Bool.false_and]
theorem hd_chk (h : ah + be ≤ 7) (h1 : fu < ah + be) {z : Int × Int} (hz : ChIs (hdG ah be fu) z) : z = if fu < 0 then (0, 8) else (-1, 0) := by
  obtain ⟨R, S, N, hR, hS, hN, rfl⟩ := chis_of (by show (formP (gOf _ _ _)).2 = 0; rw [form_of (hd_wf h)]) hz
  have hnn : (hdG ah be fu).names.toNat = 3 := rfl
  have r0 : Rch (hdG ah be fu) 0 := Rch.start (g := hdG ah be fu)
  have r1 : Rch (hdG ah be fu) 1 := Rch.step (g := hdG ah be fu) _ hd_in.2.1 r0 1 (by simp) (by omega)
  have r2 : Rch (hdG ah be fu) 2 := Rch.step (g := hdG ah be fu) _ hd_in.2.1 r0 2 (by simp) (by omega)
  have p1 : 0 ≤ S.getD 1 (-1) := prod_of hS hd_in.2.2.1 (shOk_iff.2 fun s hs h => by cases hs)
  have p2 : 0 ≤ S.getD 2 (-1) := prod_of hS hd_in.2.2.2 (shOk_iff.2 fun s hs h => by have := List.mem_singleton.1 hs; omega)
  have p0 : 0 ≤ S.getD 0 (-1) := prod_of hS hd_in.2.1 (shOk_iff.2 fun s hs h => by
    simp only [List.mem_cons, List.not_mem_nil, or_false] at hs
    rcases hs with rfl | rfl
    · exact p1
    · exact p2)
  have hall : ∀ m, m < 3 → Rch (hdG ah be fu) m ∧ 0 ≤ S.getD m (-1) := fun m hm => by
    match m, hm with
    | 0, _ => exact ⟨r0, p0⟩
    | 1, _ => exact ⟨r1, p1⟩
    | 2, _ => exact ⟨r2, p2⟩
  unfold chkV
  rw [hnn, firstP_no fun m _ hm => by
    rw [(rch_at hR m).2 (hall m (by omega)).1, pAt, decide_eq_true (hall m (by omega)).2]; rfl]
  simp only
  by_cases e : fu < 0
  · rw [if_pos e, firstP_is (k := 0) (Nat.zero_le _) (by omega) (by rw [hd_cyc h1 hN (by omega), decide_eq_true e]; rfl) fun m _ hm => absurd hm (Nat.not_lt_zero m)]
    rfl
  · rw [if_neg e, firstP_no fun m _ hm => by rw [hd_cyc h1 hN (by omega), decide_eq_false e, Bool.and_false]]
end
end Go.Proofs.Ytddaggodpmhmpaa.K
set_option linter.unusedSimpArgs false
set_option linter.unusedVariables false
namespace Go.Proofs.Ytddaggodpmhmpaa.K
open Go Ev
set_option maxRecDepth 100000
set_option maxHeartbeats 4000000

section
variable {n : Nat} {bs tk : Bool} {at_ : Nat}
end
end Go.Proofs.Ytddaggodpmhmpaa.K
set_option linter.unusedSimpArgs false
set_option linter.unusedVariables false
namespace Go.Proofs.Ytddaggodpmhmpaa.K
open Go Ev
set_option maxRecDepth 100000
set_option maxHeartbeats 4000000

structure RgF (f : Fr) (n : Nat) (bs tk : Bool) (at_ b i : Nat) : Prop where
  h0 : X.ev f (.t q0) = .i .i64 (n : Int)
  h1 : X.ev f (.t q1) = .b bs
  h2 : X.ev f (.t q2) = .b tk
  h3 : X.ev f (.t q3) = .i .i64 (at_ : Int)
  h10 : X.ev f (.t q10) = .p b 0
  h11 : X.ev f (.t q11) = .i .i64 (i : Int)
theorem own_push {M : MH} {lo : Nat} {l : List Int} (h : lo ≤ M.n) : OwnRow lo (M.push (.cs false 1 (ofL (l.map (MV.i .i64)) 0))) 1 (.sl M.n 0 l.length 0) (ints l) := by
  refine ⟨fun e he => ?_, .inr ⟨M.n, _, by rw [ints_len], push_new _, h, by rw [push_n]; omega, by rw [flat_ints]; exact at_ofL _⟩⟩
  obtain ⟨b, _, rfl⟩ := List.mem_map.1 he; rfl
end Go.Proofs.Ytddaggodpmhmpaa.K
set_option linter.unusedSimpArgs false
set_option linter.unusedVariables false
set_option maxRecDepth 100000
namespace Go.Proofs.Ytddaggodpmhmpaa.Ev
open Go
theorem wf_of {z : Int} (h : (Lit.int .i64 z).wf = true) : Wf64 z := by
  simp only [Lit.wf, Bool.and_eq_true, decide_eq_true_eq] at h
  exact h
variable {P : Program} {M : MH}
theorem typed_int {n : Nat} {e : TypeId} (hu : P.underlying e = some (.int .i64)) {x : List MV} (h : Typed P M n e x) : ∃ z, x = [.i .i64 z] ∧ Wf64 z := by
  cases n with
  | zero => exact h.elim
  | succ n =>
    simp only [Typed, hu] at h
    obtain ⟨z, rfl, hz⟩ := h
    exact ⟨z, rfl, wf_of hz⟩
end Go.Proofs.Ytddaggodpmhmpaa.Ev
namespace Go.Proofs.Ytddaggodpmhmpaa
open Go Ev
end Go.Proofs.Ytddaggodpmhmpaa
set_option linter.unusedSimpArgs false
set_option linter.unusedVariables false
namespace Go.Proofs.Ytddaggodpmhmpaa.K
open Go Ev
set_option maxRecDepth 100000
set_option maxHeartbeats 4000000

theorem row_new {M : MH} {sz : Nat} {es : List (List MV)} (hs : Sized sz es) : RowAt (M.push (.cs false sz (ofL es.flatten 0))) sz (.sl M.n 0 es.length 0) es := ⟨hs, .inr ⟨M.n, 0, 0, false, sz, _, rfl, push_new _, Nat.lt_succ_self _, at_ofL _⟩⟩
theorem int_of {M : MH} {m : MV} (h : ArgTyped Try.prog M 3 m) : ∃ z, m = .i .i64 z ∧ Wf64 z := by
  obtain ⟨n, cs, h1, h2⟩ := h
  simp only [Try.underlying3] at h2
  subst h2
  obtain ⟨z, e, hz⟩ := typed_int Try.underlying3 h1
  injection e with e _
  exact ⟨z, e, hz⟩
structure HdF (f : Fr) (ah be : Nat) (fu : Int) (v : MV) (i : Nat) : Prop where
  h0 : X.ev f (.t q0) = .i .i64 (ah : Int)
  h1 : X.ev f (.t q1) = .i .i64 (be : Int)
  h2 : X.ev f (.t q2) = .i .i64 fu
  h8 : X.ev f (.t q8) = v
  h9 : X.ev f (.t q9) = .i .i64 (i : Int)
theorem app_int {lo : Nat} {M : MH} {v : MV} {l : List Int} {z : Int} (h : OwnRow lo M 1 v (ints l)) (hlo : M.lo ≤ lo) (hln : lo ≤ M.n) (hl : l.length ≤ 1000) : ∃ v' M', appM (M.push (.cs false 1 (ofL [.i .i64 z] 0))) 1 8 v (.sl M.n 0 1 0) = some (v', M') ∧ OwnRow lo M' 1 v' (ints (l ++ [z])) ∧ M.n ≤ M'.n ∧ M'.lo = M.lo ∧ ∀ j, j < lo → M'.get j = M.get j := by
  obtain ⟨v', M3, e1, e2, e3, e4, e5, e6⟩ := app_row (bytes := 8) (h.ext (.push M (.cs false 1 (ofL [.i .i64 z] 0)))) (row_one (M := M) (sz := 1) (e := [.i .i64 z]) rfl) (by rw [push_lo]; omega) (by rw [push_n]; omega) (fun e he => by rw [List.mem_singleton.1 he]; rfl) (by rw [List.length_singleton, ints_len]; omega) (by rw [List.length_singleton, ints_len]; omega)
  rw [push_n] at e3
  rw [push_lo] at e4
  refine ⟨v', M3, e1, ?_, by omega, e4, fun j hj => by rw [e6 j hj (by rw [push_n]; omega), push_old (by omega)]⟩
  unfold ints at e2 ⊢
  rw [List.map_append]
  exact e2
theorem hdL_len (ah : Nat) (fu : Int) : ∀ i, (hdL ah fu i).length ≤ 2 * i
  | 0 => Nat.le_refl _
  | i + 1 => by
    have := hdL_len ah fu i
    unfold hdL
    rw [List.length_append, List.length_append]
    have : (if i = ah then [(0 : Int)] else []).length ≤ 1 := by split <;> simp
    simp only [List.length_singleton]
    omega
theorem hd_two {M0 M : MH} {f : Fr} {ah be i : Nat} {fu : Int} {v : MV} {l : List Int} (h : HdF f ah be fu v i) (hx : Ext M0 M) (hlo : M0.lo ≤ M0.n) (hw : OwnRow M0.n M 1 v (ints l)) (hl : l.length ≤ 900) (Q : Post)
    (hQ : ∀ f' M' v', HdF f' ah be fu v' i → Ext M0 M' → OwnRow M0.n M' 1 v' (ints (l ++ [hdF fu i])) → Q .norm f' M') : Wp fns K6_0 f M Q := by
  have g0 := h.h0
  have g1 := h.h1
  have g2 := h.h2
  have g8 := h.h8
  have g9 := h.h9
  simp only [q0, q1, q2, q8, q9] at g0 g1 g2 g8 g9
  have xn := hx.n
  have xl := hx.lo
  have hf : ∀ z : Int, fillM [(0, 1, MV.i .i64 z)] [MV.i .i64 0] = some [.i .i64 z] := fun _ => rfl
  unfold K6_0
  by_cases c : (i : Int) = fu
  · have d : decide ((i : Int) = fu) = true := decide_eq_true c
    have hv : hdF fu i = 2 := by unfold hdF; rw [if_pos c]
    obtain ⟨v', M3, e1, e2, e3, e4, e5⟩ := app_int (z := 2) hw (by omega) (by omega) (by omega)
    simp (maxSteps := 4000000) (disch := first | omega | assumption | (simp only [bxS, bxV, stOk, Nat.reduceBEq, Nat.reduceEqDiff, Nat.reduceAdd]; done) | (simp only [bxU]; omega) | ((try apply has_setN); apply has_ofL; simp only [bxL]; omega)) only [↓bxD, bxP, bxQ, bxQ2, Nat.reduceBEq, reduceCtorEq, Nat.reduceAdd, Nat.reduceSub, Nat.reduceMul, Nat.reduceLeDiff, Nat.reduceLT, bxR, g0, g1, g2, g8, g9, d, hf 2]
    refine bindP_of e1 ?_
    simp (maxSteps := 4000000) (disch := first | omega | assumption | (simp only [bxS, bxV, stOk, Nat.reduceBEq, Nat.reduceEqDiff, Nat.reduceAdd]; done) | (simp only [bxU]; omega) | ((try apply has_setN); apply has_ofL; simp only [bxL]; omega)) only [↓bxD, bxP, bxQ, bxQ2, Nat.reduceBEq, reduceCtorEq, Nat.reduceAdd, Nat.reduceSub, Nat.reduceMul, Nat.reduceLeDiff, Nat.reduceLT, bxR, g0, g1, g2, g8, g9, d, hf 2]
    exact hQ _ _ v' ⟨by simp only [bxP, bxQ, bxQ2, reduceCtorEq, g0, g1, g2, g8, g9, d, hf 2], by simp only [bxP, bxQ, bxQ2, reduceCtorEq, g0, g1, g2, g8, g9, d, hf 2], by simp only [bxP, bxQ, bxQ2, reduceCtorEq, g0, g1, g2, g8, g9, d, hf 2], by simp only [bxP, bxQ, bxQ2, reduceCtorEq, g0, g1, g2, g8, g9, d, hf 2], by simp only [bxP, bxQ, bxQ2, reduceCtorEq, g0, g1, g2, g8, g9, d, hf 2]⟩ ⟨by omega, by omega, fun j hj => (e5 j hj).trans (hx.old j hj)⟩ (by rw [hv]; exact e2)
  · have d : decide ((i : Int) = fu) = false := decide_eq_false c
    have hv : hdF fu i = 1 := by unfold hdF; rw [if_neg c]
    obtain ⟨v', M3, e1, e2, e3, e4, e5⟩ := app_int (z := 1) hw (by omega) (by omega) (by omega)
    simp (maxSteps := 4000000) (disch := first | omega | assumption | (simp only [bxS, bxV, stOk, Nat.reduceBEq, Nat.reduceEqDiff, Nat.reduceAdd]; done) | (simp only [bxU]; omega) | ((try apply has_setN); apply has_ofL; simp only [bxL]; omega)) only [↓bxD, bxP, bxQ, bxQ2, Nat.reduceBEq, reduceCtorEq, Nat.reduceAdd, Nat.reduceSub, Nat.reduceMul, Nat.reduceLeDiff, Nat.reduceLT, bxR, g0, g1, g2, g8, g9, d, hf 1]
    refine bindP_of e1 ?_
    simp (maxSteps := 4000000) (disch := first | omega | assumption | (simp only [bxS, bxV, stOk, Nat.reduceBEq, Nat.reduceEqDiff, Nat.reduceAdd]; done) | (simp only [bxU]; omega) | ((try apply has_setN); apply has_ofL; simp only [bxL]; omega)) only [↓bxD, bxP, bxQ, bxQ2, Nat.reduceBEq, reduceCtorEq, Nat.reduceAdd, Nat.reduceSub, Nat.reduceMul, Nat.reduceLeDiff, Nat.reduceLT, bxR, g0, g1, g2, g8, g9, d, hf 1]
    exact hQ _ _ v' ⟨by simp only [bxP, bxQ, bxQ2, reduceCtorEq, g0, g1, g2, g8, g9, d, hf 1], by simp only [bxP, bxQ, bxQ2, reduceCtorEq, g0, g1, g2, g8, g9, d, hf 1], by simp only [bxP, bxQ, bxQ2, reduceCtorEq, g0, g1, g2, g8, g9, d, hf 1], by simp only [bxP, bxQ, bxQ2, reduceCtorEq, g0, g1, g2, g8, g9, d, hf 1], by simp only [bxP, bxQ, bxQ2, reduceCtorEq, g0, g1, g2, g8, g9, d, hf 1]⟩ ⟨by omega, by omega, fun j hj => (e5 j hj).trans (hx.old j hj)⟩ (by rw [hv]; exact e2)
theorem hd_loop {M : MH} {f : Fr} {ah be : Nat} {fu : Int} (h : HdF f ah be fu .nils 0) (hlo : M.lo ≤ M.n) (hn : ah + be ≤ 7) (Q : Post)
    (hQ : ∀ f' M' v', HdF f' ah be fu v' (ah + be) → Ext M M' → OwnRow M.n M' 1 v' (ints (hdL ah fu (ah + be))) → Q .norm f' M') : Wp fns (.loop L6_3) f M (blockQ 0 Q) := by
  refine Wp_inv (σ := Nat × MV) (fun s f' M' => s.1 ≤ ah + be ∧ HdF f' ah be fu s.2 s.1 ∧ Ext M M' ∧ OwnRow M.n M' 1 s.2 (ints (hdL ah fu s.1))) (fun s => ah + be - s.1) ?_ (0, .nils) ?_
  · clear h
    rintro ⟨i, v⟩ f M1 ⟨hi, h, hx, hw⟩
    simp only at hi h hw
    have g0 := h.h0
    have g1 := h.h1
    have g2 := h.h2
    have g8 := h.h8
    have g9 := h.h9
    simp only [q0, q1, q2, q8, q9] at g0 g1 g2 g8 g9
    have xn := hx.n
    have xl := hx.lo
    have hll := hdL_len ah fu i
    have wb : wrapF .i64 ((ah : Int) + (be : Int)) = ((ah + be : Nat) : Int) := by rw [wrap_in (by omega) (by omega)]; omega
    unfold L6_3
    by_cases hi' : i < ah + be
    · have d1 : decide ((i : Int) < ((ah + be : Nat) : Int)) = true := decide_eq_true (by omega)
      have hf : fillM [(0, 1, MV.i .i64 0)] [MV.i .i64 0] = some [.i .i64 0] := rfl
      have hrest : ∀ f' M' v', HdF f' ah be fu v' i → Ext M M' → OwnRow M.n M' 1 v' (ints (hdL ah fu (i + 1))) → ∀ Q : Post, (∀ f'', HdF f'' ah be fu v' (i + 1) → Q .norm f'' M') → Wp fns K6_1 f' M' Q := fun f' M' v' a1 a2 a3 Q hQ => by
        have k0 := a1.h0
        have k1 := a1.h1
        have k2 := a1.h2
        have k8 := a1.h8
        have k9 := a1.h9
        simp only [q0, q1, q2, q8, q9] at k0 k1 k2 k8 k9
        unfold K6_1
        simp (maxSteps := 4000000) (disch := first | omega | assumption | (simp only [bxS, bxV, stOk, Nat.reduceBEq, Nat.reduceEqDiff, Nat.reduceAdd]; done) | (simp only [bxU]; omega) | ((try apply has_setN); apply has_ofL; simp only [bxL]; omega)) only [↓bxD, bxP, bxQ, bxQ2, Nat.reduceBEq, reduceCtorEq, Nat.reduceAdd, Nat.reduceSub, Nat.reduceMul, Nat.reduceLeDiff, Nat.reduceLT, bxR, k0, k1, k2, k8, k9]
        exact hQ _ ⟨by simp (maxSteps := 4000000) (disch := first | omega | assumption | (simp only [bxS, bxV, stOk, Nat.reduceBEq, Nat.reduceEqDiff, Nat.reduceAdd]; done) | (simp only [bxU]; omega) | ((try apply has_setN); apply has_ofL; simp only [bxL]; omega)) only [↓bxD, bxP, bxQ, bxQ2, Nat.reduceBEq, reduceCtorEq, Nat.reduceAdd, Nat.reduceSub, Nat.reduceMul, Nat.reduceLeDiff, Nat.reduceLT, bxR, k0], by simp (maxSteps := 4000000) (disch := first | omega | assumption | (simp only [bxS, bxV, stOk, Nat.reduceBEq, Nat.reduceEqDiff, Nat.reduceAdd]; done) | (simp only [bxU]; omega) | ((try apply has_setN); apply has_ofL; simp only [bxL]; omega)) only [↓bxD, bxP, bxQ, bxQ2, Nat.reduceBEq, reduceCtorEq, Nat.reduceAdd, Nat.reduceSub, Nat.reduceMul, Nat.reduceLeDiff, Nat.reduceLT, bxR, k1], by simp (maxSteps := 4000000) (disch := first | omega | assumption | (simp only [bxS, bxV, stOk, Nat.reduceBEq, Nat.reduceEqDiff, Nat.reduceAdd]; done) | (simp only [bxU]; omega) | ((try apply has_setN); apply has_ofL; simp only [bxL]; omega)) only [↓bxD, bxP, bxQ, bxQ2, Nat.reduceBEq, reduceCtorEq, Nat.reduceAdd, Nat.reduceSub, Nat.reduceMul, Nat.reduceLeDiff, Nat.reduceLT, bxR, k2], by simp (maxSteps := 4000000) (disch := first | omega | assumption | (simp only [bxS, bxV, stOk, Nat.reduceBEq, Nat.reduceEqDiff, Nat.reduceAdd]; done) | (simp only [bxU]; omega) | ((try apply has_setN); apply has_ofL; simp only [bxL]; omega)) only [↓bxD, bxP, bxQ, bxQ2, Nat.reduceBEq, reduceCtorEq, Nat.reduceAdd, Nat.reduceSub, Nat.reduceMul, Nat.reduceLeDiff, Nat.reduceLT, bxR, k8], by simp (maxSteps := 4000000) (disch := first | omega | assumption | (simp only [bxS, bxV, stOk, Nat.reduceBEq, Nat.reduceEqDiff, Nat.reduceAdd]; done) | (simp only [bxU]; omega) | ((try apply has_setN); apply has_ofL; simp only [bxL]; omega)) only [↓bxD, bxP, bxQ, bxQ2, Nat.reduceBEq, reduceCtorEq, Nat.reduceAdd, Nat.reduceSub, Nat.reduceMul, Nat.reduceLeDiff, Nat.reduceLT, bxR, k9] <;> rfl⟩
      by_cases c : i = ah
      · have d2 : decide ((i : Int) = (ah : Int)) = true := decide_eq_true (by omega)
        obtain ⟨v', M3, e1, e2, e3, e4, e5⟩ := app_int (z := 0) hw (by omega) (by omega) (by omega)
        have x3 : Ext M M3 := ⟨by omega, by omega, fun j hj => (e5 j hj).trans (hx.old j hj)⟩
        simp (maxSteps := 4000000) (disch := first | omega | assumption | (simp only [bxS, bxV, stOk, Nat.reduceBEq, Nat.reduceEqDiff, Nat.reduceAdd]; done) | (simp only [bxU]; omega) | ((try apply has_setN); apply has_ofL; simp only [bxL]; omega)) only [↓bxD, bxP, bxQ, bxQ2, Nat.reduceBEq, reduceCtorEq, Nat.reduceAdd, Nat.reduceSub, Nat.reduceMul, Nat.reduceLeDiff, Nat.reduceLT, bxR, g0, g1, g2, g8, g9, d1, d2, wb, hf]
        show Wp fns K6_2 _ _ _
        unfold K6_2
        simp (maxSteps := 4000000) (disch := first | omega | assumption | (simp only [bxS, bxV, stOk, Nat.reduceBEq, Nat.reduceEqDiff, Nat.reduceAdd]; done) | (simp only [bxU]; omega) | ((try apply has_setN); apply has_ofL; simp only [bxL]; omega)) only [↓bxD, bxP, bxQ, bxQ2, Nat.reduceBEq, reduceCtorEq, Nat.reduceAdd, Nat.reduceSub, Nat.reduceMul, Nat.reduceLeDiff, Nat.reduceLT, bxR, g0, g1, g2, g8, g9, d1, d2, wb, hf]
        refine bindP_of e1 ?_
        simp (maxSteps := 4000000) (disch := first | omega | assumption | (simp only [bxS, bxV, stOk, Nat.reduceBEq, Nat.reduceEqDiff, Nat.reduceAdd]; done) | (simp only [bxU]; omega) | ((try apply has_setN); apply has_ofL; simp only [bxL]; omega)) only [↓bxD, bxP, bxQ, bxQ2, Nat.reduceBEq, reduceCtorEq, Nat.reduceAdd, Nat.reduceSub, Nat.reduceMul, Nat.reduceLeDiff, Nat.reduceLT, bxR, g0, g1, g2, g8, g9, d1, d2, wb, hf]
        refine hd_two (M0 := M) (ah := ah) (be := be) (i := i) (fu := fu) (v := v') (l := hdL ah fu i ++ [0]) ⟨by simp only [bxP, bxQ, bxQ2, reduceCtorEq, g0, g1, g2, g8, g9, d1, d2, wb, hf], by simp only [bxP, bxQ, bxQ2, reduceCtorEq, g0, g1, g2, g8, g9, d1, d2, wb, hf], by simp only [bxP, bxQ, bxQ2, reduceCtorEq, g0, g1, g2, g8, g9, d1, d2, wb, hf], by simp only [bxP, bxQ, bxQ2, reduceCtorEq, g0, g1, g2, g8, g9, d1, d2, wb, hf], by simp only [bxP, bxQ, bxQ2, reduceCtorEq, g0, g1, g2, g8, g9, d1, d2, wb, hf]⟩ x3 hlo e2 (by simp; omega) _ fun f2 M4 v2 a1 a2 a3 => ?_
        refine hrest f2 M4 v2 a1 a2 (by unfold hdL; rw [if_pos c]; exact a3) _ fun f3 a4 => ⟨(i + 1, v2), by simp only; omega, by simp only; omega, a4, a2, by unfold hdL; rw [if_pos c]; exact a3⟩
      · have d2 : decide ((i : Int) = (ah : Int)) = false := decide_eq_false (by omega)
        simp (maxSteps := 4000000) (disch := first | omega | assumption | (simp only [bxS, bxV, stOk, Nat.reduceBEq, Nat.reduceEqDiff, Nat.reduceAdd]; done) | (simp only [bxU]; omega) | ((try apply has_setN); apply has_ofL; simp only [bxL]; omega)) only [↓bxD, bxP, bxQ, bxQ2, Nat.reduceBEq, reduceCtorEq, Nat.reduceAdd, Nat.reduceSub, Nat.reduceMul, Nat.reduceLeDiff, Nat.reduceLT, bxR, g0, g1, g2, g8, g9, d1, d2, wb]
        show Wp fns K6_2 _ _ _
        unfold K6_2
        simp (maxSteps := 4000000) (disch := first | omega | assumption | (simp only [bxS, bxV, stOk, Nat.reduceBEq, Nat.reduceEqDiff, Nat.reduceAdd]; done) | (simp only [bxU]; omega) | ((try apply has_setN); apply has_ofL; simp only [bxL]; omega)) only [↓bxD, bxP, bxQ, bxQ2, Nat.reduceBEq, reduceCtorEq, Nat.reduceAdd, Nat.reduceSub, Nat.reduceMul, Nat.reduceLeDiff, Nat.reduceLT, bxR, g0, g1, g2, g8, g9, d1, d2, wb]
        refine hd_two (M0 := M) (ah := ah) (be := be) (i := i) (fu := fu) (v := v) (l := hdL ah fu i) ⟨by simp only [bxP, bxQ, bxQ2, reduceCtorEq, g0, g1, g2, g8, g9, d1, d2, wb], by simp only [bxP, bxQ, bxQ2, reduceCtorEq, g0, g1, g2, g8, g9, d1, d2, wb], by simp only [bxP, bxQ, bxQ2, reduceCtorEq, g0, g1, g2, g8, g9, d1, d2, wb], by simp only [bxP, bxQ, bxQ2, reduceCtorEq, g0, g1, g2, g8, g9, d1, d2, wb], by simp only [bxP, bxQ, bxQ2, reduceCtorEq, g0, g1, g2, g8, g9, d1, d2, wb]⟩ hx hlo hw (by omega) _ fun f2 M4 v2 a1 a2 a3 => ?_
        refine hrest f2 M4 v2 a1 a2 (by unfold hdL; rw [if_neg c, List.append_nil]; exact a3) _ fun f3 a4 => ⟨(i + 1, v2), by simp only; omega, by simp only; omega, a4, a2, by unfold hdL; rw [if_neg c, List.append_nil]; exact a3⟩
    · have d1 : decide ((i : Int) < ((ah + be : Nat) : Int)) = false := decide_eq_false (by omega)
      obtain rfl : i = ah + be := by omega
      simp (maxSteps := 4000000) (disch := first | omega | assumption | (simp only [bxS, bxV, stOk, Nat.reduceBEq, Nat.reduceEqDiff, Nat.reduceAdd]; done) | (simp only [bxU]; omega) | ((try apply has_setN); apply has_ofL; simp only [bxL]; omega)) only [↓bxD, bxP, bxQ, bxQ2, Nat.reduceBEq, reduceCtorEq, Nat.reduceAdd, Nat.reduceSub, Nat.reduceMul, Nat.reduceLeDiff, Nat.reduceLT, bxR, g0, g1, g2, g8, g9, d1, wb]
      exact hQ _ _ v ⟨by simp only [bxP, bxQ, bxQ2, reduceCtorEq, g0, g1, g2, g8, g9, d1, wb], by simp only [bxP, bxQ, bxQ2, reduceCtorEq, g0, g1, g2, g8, g9, d1, wb], by simp only [bxP, bxQ, bxQ2, reduceCtorEq, g0, g1, g2, g8, g9, d1, wb], by simp only [bxP, bxQ, bxQ2, reduceCtorEq, g0, g1, g2, g8, g9, d1, wb], by simp only [bxP, bxQ, bxQ2, reduceCtorEq, g0, g1, g2, g8, g9, d1, wb]⟩ hx hw
  · exact ⟨Nat.zero_le _, h, .refl _, OwnRow.nil _ _ _⟩
theorem hd_main {M2 : MH} {ah be : Nat} {fu : Int} {f' : Fr} {M4 : MH} {v4 : MV} (hlo : M2.lo ≤ M2.n) (hab : ah + be ≤ 7) (hfu : fu < ah + be) (x4 : Ext M2 M4) (ho4 : OwnRow M2.n M4 1 v4 (ints (hdR ah be fu))) (k2 : X.ev f' (.t q2) = .i .i64 fu) (k8 : X.ev f' (.t q8) = v4) : Wp fns K6_5 f' M4 (retQ F6 fun m _ => m = .b true) := by
  simp only [q2, q8] at k2 k8
  have n4 := x4.n
  have l4 := x4.lo
  have hs := own_sl ho4
  have hcl := isSl_cells hs
  have hfa : fillM [(1, 1, v4)] [MV.i .i64 0, .nils, .i .i64 0] = some [.i .i64 0, v4, .i .i64 0] := by cases v4 <;> first | rfl | cases hs
  have hfb : fillM [(0, 1, MV.i .i64 1), (1, 1, .i .i64 2)] (zrow [MV.i .i64 0] 2) = some [.i .i64 1, .i .i64 2] := rfl
  have hfc : fillM [(1, 1, MV.sl M4.n 0 2 0)] [MV.i .i64 0, .nils, .i .i64 0] = some [.i .i64 0, .sl M4.n 0 2 0, .i .i64 0] := rfl
  have hfd : fillM [(0, 1, MV.i .i64 1)] [MV.i .i64 0, .nils, .i .i64 0] = some [.i .i64 1, .nils, .i .i64 0] := rfl
  have hfe : fillM [(0, 1, MV.i .i64 (Int.negSucc 0))] [MV.i .i64 0] = some [.i .i64 (Int.negSucc 0)] := rfl
  have hff : fillM [(0, 1, MV.i .i64 1), (1, 1, MV.sl (M4.n + 1) 0 1 0)] [MV.i .i64 0, .nils, .i .i64 0] = some [.i .i64 1, .sl (M4.n + 1) 0 1 0, .i .i64 0] := rfl
  have hfg : fillM [(0, 1, MV.i .i64 (Int.negSucc 1))] [MV.i .i64 0] = some [.i .i64 (Int.negSucc 1)] := rfl
  have hfh : fillM [(0, 1, MV.i .i64 2), (1, 1, MV.sl (M4.n + 1 + 1) 0 1 0)] [MV.i .i64 0, .nils, .i .i64 0] = some [.i .i64 2, .sl (M4.n + 1 + 1) 0 1 0, .i .i64 0] := rfl
  have hfi : fillM [(0, 3, MV.ag [.i .i64 0, v4, .i .i64 0]), (3, 3, .ag [.i .i64 0, .sl M4.n 0 2 0, .i .i64 0]), (6, 3, .ag [.i .i64 1, .nils, .i .i64 0]), (9, 3, .ag [.i .i64 1, .sl (M4.n + 1) 0 1 0, .i .i64 0]), (12, 3, .ag [.i .i64 2, .sl (M4.n + 1 + 1) 0 1 0, .i .i64 0])] (zrow [MV.i .i64 0, .nils, .i .i64 0] 5) = some (([[.i .i64 0, v4, .i .i64 0], [.i .i64 0, .sl M4.n 0 2 0, .i .i64 0], [.i .i64 1, .nils, .i .i64 0], [.i .i64 1, .sl (M4.n + 1) 0 1 0, .i .i64 0], [.i .i64 2, .sl (M4.n + 1 + 1) 0 1 0, .i .i64 0]]).flatten) := rfl
  have hfj : fillM [(0, 1, MV.i .i64 3), (1, 1, .i .i64 2), (3, 1, .sl (M4.n + 1 + 1 + 1) 0 5 0)] [MV.i .i64 0, .i .i64 0, .i .i64 0, .nils, .nils, .nils, .nils] = some [.i .i64 3, .i .i64 2, .i .i64 0, .sl (M4.n + 1 + 1 + 1) 0 5 0, .nils, .nils, .nils] := rfl
  obtain ⟨M7, hM7⟩ : ∃ M7, ((M4.push (.cs false 1 (ofL [.i .i64 1, .i .i64 2] 0))).push (.cs false 1 (ofL [.i .i64 (Int.negSucc 0)] 0))).push (.cs false 1 (ofL [.i .i64 (Int.negSucc 1)] 0)) = M7 := ⟨_, rfl⟩
  have n7 : M7.n = M4.n + 1 + 1 + 1 := by rw [← hM7]; rfl
  have x7 : Ext M4 M7 := by rw [← hM7]; exact ((Ext.push M4 _).trans (.push _ _)).trans (.push _ _)
  have o1 : OwnRow M2.n M7 1 (.sl M4.n 0 2 0) (ints [1, 2]) := by rw [← hM7]; exact ((own_push (M := M4) (l := [1, 2]) (by omega)).ext (.push _ _)).ext (.push _ _)
  have o2 : OwnRow M2.n M7 1 (.sl (M4.n + 1) 0 1 0) (ints [-1]) := by rw [← hM7]; exact (own_push (M := M4.push _) (l := [-1]) (by rw [push_n]; omega)).ext (.push _ _)
  have o3 : OwnRow M2.n M7 1 (.sl (M4.n + 1 + 1) 0 1 0) (ints [-2]) := by rw [← hM7]; exact own_push (M := (M4.push _).push _) (l := [-2]) (by rw [push_n, push_n]; omega)
  have hrow := row_new (M := M7) (sz := 3) (es := [[MV.i .i64 0, v4, .i .i64 0], [.i .i64 0, .sl M4.n 0 2 0, .i .i64 0], [.i .i64 1, .nils, .i .i64 0], [.i .i64 1, .sl (M4.n + 1) 0 1 0, .i .i64 0], [.i .i64 2, .sl (M4.n + 1 + 1) 0 1 0, .i .i64 0]]) (fun e he => by
    simp only [List.mem_cons, List.not_mem_nil, or_false] at he
    rcases he with rfl | rfl | rfl | rfl | rfl <;> rfl)
  obtain ⟨M8, hM8⟩ : ∃ M8, M7.push (.cs false 3 (ofL (([[MV.i .i64 0, v4, .i .i64 0], [.i .i64 0, .sl M4.n 0 2 0, .i .i64 0], [.i .i64 1, .nils, .i .i64 0], [.i .i64 1, .sl (M4.n + 1) 0 1 0, .i .i64 0], [.i .i64 2, .sl (M4.n + 1 + 1) 0 1 0, .i .i64 0]] : List (List MV)).flatten) 0)) = M8 := ⟨_, rfl⟩
  rw [hM8] at hrow
  have x8 : Ext M7 M8 := by rw [← hM8]; exact .push _ _
  have n8 : M8.n = M4.n + 1 + 1 + 1 + 1 := by rw [← hM8, push_n, n7]
  have l7 := x7.lo
  have l8 := x8.lo
  have hgp : (M8.push (.cs false 7 (ofL [.i .i64 0, .i .i64 0, .i .i64 0, .nils, .nils, .nils, .nils] 0))).get (M4.n + 1 + 1 + 1 + 1) = some (.cs false 7 (ofL [.i .i64 0, .i .i64 0, .i .i64 0, .nils, .nils, .nils, .nils] 0)) := by rw [← n8]; exact push_new _
  have hstw : stOk 7 (.ag [.i .i64 3, .i .i64 2, .i .i64 0, .sl (M4.n + 1 + 1 + 1) 0 5 0, .nils, .nils, .nils]) = true := rfl
  unfold K6_5
  simp (maxSteps := 4000000) (disch := first | omega | assumption | (simp only [bxS, bxV, stOk, Nat.reduceBEq, Nat.reduceEqDiff, Nat.reduceAdd]; done) | (simp only [bxU]; omega) | ((try apply has_setN); apply has_ofL; simp only [bxL]; omega)) only [↓bxD, bxP, bxQ, bxQ2, Nat.reduceBEq, reduceCtorEq, Nat.reduceAdd, Nat.reduceSub, Nat.reduceMul, Nat.reduceLeDiff, Nat.reduceLT, bxR, k2, k8, hfa, hfb, hfc, hfd, hfe, hff, hfg, hfh, hfi, hfj, hM7, n7, hM8, n8, hgp, hstw]
  have x9 : Ext M8 ((M8.push (.cs false 7 (ofL [.i .i64 0, .i .i64 0, .i .i64 0, .nils, .nils, .nils, .nils] 0))).set (M4.n + 1 + 1 + 1 + 1) (some (.cs false 7 (setN [.i .i64 3, .i .i64 2, .i .i64 0, .sl (M4.n + 1 + 1 + 1) 0 5 0, .nils, .nils, .nils] 0 (ofL [.i .i64 0, .i .i64 0, .i .i64 0, .nils, .nils, .nils, .nils] 0))))) := (Ext.push M8 _).set _ (by omega)
  have g9 := set_same (M := M8.push (.cs false 7 (ofL [.i .i64 0, .i .i64 0, .i .i64 0, .nils, .nils, .nils, .nils] 0))) (M4.n + 1 + 1 + 1 + 1) (some (.cs false 7 (setN [.i .i64 3, .i .i64 2, .i .i64 0, .sl (M4.n + 1 + 1 + 1) 0 5 0, .nils, .nils, .nils] 0 (ofL [.i .i64 0, .i .i64 0, .i .i64 0, .nils, .nils, .nils, .nils] 0))))
  have c9 : Ev.getN (setN [.i .i64 3, .i .i64 2, .i .i64 0, .sl (M4.n + 1 + 1 + 1) 0 5 0, .nils, .nils, .nils] 0 (ofL [.i .i64 0, .i .i64 0, .i .i64 0, .nils, .nils, .nils, .nils] 0)) 7 0 = some [.i .i64 3, .i .i64 2, .i .i64 0, .sl (M4.n + 1 + 1 + 1) 0 5 0, .nils, .nils, .nils] := (at_setN _ _ _ : At _ 0 [MV.i .i64 3, .i .i64 2, .i .i64 0, .sl (M4.n + 1 + 1 + 1) 0 5 0, .nils, .nils, .nils]).getN
  have n9' : ((M8.push (.cs false 7 (ofL [.i .i64 0, .i .i64 0, .i .i64 0, .nils, .nils, .nils, .nils] 0))).set (M4.n + 1 + 1 + 1 + 1) (some (.cs false 7 (setN [.i .i64 3, .i .i64 2, .i .i64 0, .sl (M4.n + 1 + 1 + 1) 0 5 0, .nils, .nils, .nils] 0 (ofL [.i .i64 0, .i .i64 0, .i .i64 0, .nils, .nils, .nils, .nils] 0))))).n = M4.n + 1 + 1 + 1 + 1 + 1 := by rw [set_n, push_n, n8]
  generalize (M8.push (.cs false 7 (ofL [.i .i64 0, .i .i64 0, .i .i64 0, .nils, .nils, .nils, .nils] 0))).set (M4.n + 1 + 1 + 1 + 1) (some (.cs false 7 (setN [.i .i64 3, .i .i64 2, .i .i64 0, .sl (M4.n + 1 + 1 + 1) 0 5 0, .nils, .nils, .nils] 0 (ofL [.i .i64 0, .i .i64 0, .i .i64 0, .nils, .nils, .nils, .nils] 0)))) = M9 at x9 g9 n9' ⊢
  generalize setN [.i .i64 3, .i .i64 2, .i .i64 0, .sl (M4.n + 1 + 1 + 1) 0 5 0, .nils, .nils, .nils] 0 (ofL [.i .i64 0, .i .i64 0, .i .i64 0, .nils, .nils, .nils, .nils] 0) = cc at g9 c9
  have l9 := x9.lo
  have w0 : ∀ z : Int, -1000 ≤ z → z ≤ 1000 → Wf64 z := fun z h1 h2 => ⟨by omega, by omega⟩
  have hgr : GrAt M9 (.sl (M4.n + 1 + 1 + 1) 0 5 0) .nils .nils .nils [[MV.i .i64 0, v4, .i .i64 0], [.i .i64 0, .sl M4.n 0 2 0, .i .i64 0], [.i .i64 1, .nils, .i .i64 0], [.i .i64 1, .sl (M4.n + 1) 0 1 0, .i .i64 0], [.i .i64 2, .sl (M4.n + 1 + 1) 0 1 0, .i .i64 0]] (hdG ah be fu) := by
    have hwf := hd_wf (fu := fu) hab
    refine ⟨⟨?_, rfl, fun i e r he hr => ?_⟩, row0, row0, row0, ⟨w0 3 (by omega) (by omega), w0 2 (by omega) (by omega), w0 0 (by omega) (by omega), fun r hr => ?_, (fun f hf => by cases hf), (fun z hz => by cases hz), (fun z hz => by cases hz), ⟨by show 5 ≤ _; omega, Nat.zero_le _, Nat.zero_le _, Nat.zero_le _⟩⟩⟩
    · have := hrow.ext x9
      rw [n7] at this
      exact this
    · have hr : (hdS ah be fu)[i]? = some r := hr
      unfold hdS at hr
      match i with
      | 0 =>
        simp only [List.getElem?_cons_zero, Option.some.injEq] at he hr
        subst he hr
        exact ⟨v4, rfl, ((ho4.ext x7).ext (x8.trans x9)).row⟩
      | 1 =>
        simp only [List.getElem?_cons_succ, List.getElem?_cons_zero, Option.some.injEq] at he hr
        subst he hr
        exact ⟨_, rfl, (o1.ext (x8.trans x9)).row⟩
      | 2 =>
        simp only [List.getElem?_cons_succ, List.getElem?_cons_zero, Option.some.injEq] at he hr
        subst he hr
        exact ⟨_, rfl, row0⟩
      | 3 =>
        simp only [List.getElem?_cons_succ, List.getElem?_cons_zero, Option.some.injEq] at he hr
        subst he hr
        exact ⟨_, rfl, (o2.ext (x8.trans x9)).row⟩
      | 4 =>
        simp only [List.getElem?_cons_succ, List.getElem?_cons_zero, Option.some.injEq] at he hr
        subst he hr
        exact ⟨_, rfl, (o3.ext (x8.trans x9)).row⟩
      | k + 5 => simp at he
    · have b1 := hwf.left r hr
      have b3 := hwf.r8 r hr
      have b4 := hwf.dyn r hr
      refine ⟨w0 _ (by omega) (by omega), fun z hz => ?_, w0 _ (by omega) (by omega), by omega⟩
      have b2 := hwf.sym r hr z hz
      exact w0 _ (by omega) (by omega)
  have hform : (formP (hdG ah be fu)).2 = 0 := by show (formP (gOf _ _ _)).2 = 0; rw [form_of (hd_wf hab)]
  refine bindP_call (pcyclic_any hgr (by omega)) ?_
  rintro m M10 hm
  obtain ⟨x10, lc, hrc, hic, hlc⟩ := CyPost.is hm
  obtain ⟨N, hN, rfl⟩ := cyis_of hform hic
  have n10 := x10.n
  have l10 := x10.lo
  have g10 := (x10.old _ (by omega)).trans g9
  simp (maxSteps := 4000000) (disch := first | omega | assumption | (simp only [bxS, bxV, stOk, Nat.reduceBEq, Nat.reduceEqDiff, Nat.reduceAdd]; done) | (simp only [bxU]; omega) | ((try apply has_setN); apply has_ofL; simp only [bxL]; omega)) only [↓bxD, bxP, bxQ, bxQ2, Nat.reduceBEq, reduceCtorEq, Nat.reduceAdd, Nat.reduceSub, Nat.reduceMul, Nat.reduceLeDiff, Nat.reduceLT, bxR, k2, k8, hfa, hfb, hfc, hfd, hfe, hff, hfg, hfh, hfi, hfj, hM7, n7, hM8, n8, hgp, hstw, g10, c9]
  refine bindP_call (pcheck_any (hgr.ext x10) (by omega)) ?_
  rintro m11 M11 ⟨x11, z, hz, rfl⟩
  have hz := hd_chk hab hfu hz
  have hcl3 : (cyL (hdG ah be fu) N).length = 3 := cyL_len (hdG ah be fu) N
  have hrc7 := hrc.ext x11
  obtain ⟨r1, r2⟩ := hrc7.sl
  rw [hcl3] at r2
  have r2 : slen m = 3 := r2
  obtain ⟨ro0, sz0, t0, hg0, _, hC0⟩ := hrc7.read (i := 0) (by omega)
  obtain ⟨ro1, sz1, t1, hg1, _, hC1⟩ := hrc7.read (i := 1) (by omega)
  obtain ⟨ro2, sz2, t2, hg2, _, hC2⟩ := hrc7.read (i := 2) (by omega)
  rw [hd_cyc hfu hN (by omega)] at hC0 hC1 hC2
  rw [hg0] at hg1 hg2
  simp only [Option.some.injEq, MO.cs.injEq] at hg1 hg2
  obtain ⟨rfl, rfl, rfl⟩ := hg1
  obtain ⟨rfl, rfl, rfl⟩ := hg2
  have i0 : ixV 1 m (.i .i64 0) = some (.p (sid m) (soff m + 0 * 1)) := ix_sl (k := .i64) (i := 0) r1 (by omega)
  have i1 : ixV 1 m (.i .i64 1) = some (.p (sid m) (soff m + 1 * 1)) := ix_sl (k := .i64) (i := 1) r1 (by omega)
  have i2 : ixV 1 m (.i .i64 2) = some (.p (sid m) (soff m + 2 * 1)) := ix_sl (k := .i64) (i := 2) r1 (by omega)
  have d33 : decide (((3 : Nat) : Int) ≠ 3) = false := by decide
  have e1 : (decide ((1 : Nat) = 0) && decide (fu < 0)) = false := rfl
  have e2 : (decide ((2 : Nat) = 0) && decide (fu < 0)) = false := rfl
  have e0 : (decide ((0 : Nat) = 0) && decide (fu < 0)) = decide (fu < 0) := rfl
  rw [e0] at hC0
  rw [e1] at hC1
  rw [e2] at hC2
  by_cases c : fu < 0
  · rw [if_pos c] at hz
    subst hz
    have d : decide (fu < 0) = true := decide_eq_true c
    have d' : decide (0 ≤ fu) = false := decide_eq_false (by omega)
    rw [d] at hC0
    simp only [Nat.zero_mul, Nat.add_zero] at hC0
    simp (maxSteps := 4000000) (disch := first | omega | assumption | (simp only [bxS, bxV, stOk, Nat.reduceBEq, Nat.reduceEqDiff, Nat.reduceAdd]; done) | (simp only [bxU]; omega) | ((try apply has_setN); apply has_ofL; simp only [bxL]; omega)) only [↓bxD, bxP, bxQ, bxQ2, Nat.reduceBEq, reduceCtorEq, Nat.reduceAdd, Nat.reduceSub, Nat.reduceMul, Nat.reduceLeDiff, Nat.reduceLT, bxR, k2, k8, r1, r2, hg0, hC0, hC1, hC2, d, d', d33, i0, i1, i2, decide_true, beq_self_eq_true]
    show Wp fns K6_4 _ _ _
    unfold K6_4
    simp (maxSteps := 4000000) (disch := first | omega | assumption | (simp only [bxS, bxV, stOk, Nat.reduceBEq, Nat.reduceEqDiff, Nat.reduceAdd]; done) | (simp only [bxU]; omega) | ((try apply has_setN); apply has_ofL; simp only [bxL]; omega)) only [↓bxD, bxP, bxQ, bxQ2, Nat.reduceBEq, reduceCtorEq, Nat.reduceAdd, Nat.reduceSub, Nat.reduceMul, Nat.reduceLeDiff, Nat.reduceLT, bxR, k2, k8, r1, r2, hg0, hC0, hC1, hC2, d, d', d33, i0, i1, i2, decide_true, beq_self_eq_true]
    refine bindP_call num_any ?_
    rintro m12 M12 ⟨rfl, rfl⟩
    have d80 : (decide ((8 : Int) = 0) == false) = true := rfl
    simp (maxSteps := 4000000) (disch := first | omega | assumption | (simp only [bxS, bxV, stOk, Nat.reduceBEq, Nat.reduceEqDiff, Nat.reduceAdd]; done) | (simp only [bxU]; omega) | ((try apply has_setN); apply has_ofL; simp only [bxL]; omega)) only [↓bxD, bxP, bxQ, bxQ2, Nat.reduceBEq, reduceCtorEq, Nat.reduceAdd, Nat.reduceSub, Nat.reduceMul, Nat.reduceLeDiff, Nat.reduceLT, bxR, k2, k8, r1, r2, hg0, hC0, hC1, hC2, d, d', d33, i0, i1, i2, decide_true, beq_self_eq_true]
    refine bindP_call num_any ?_
    rintro m13 M13 ⟨rfl, rfl⟩
    simp (maxSteps := 4000000) (disch := first | omega | assumption | (simp only [bxS, bxV, stOk, Nat.reduceBEq, Nat.reduceEqDiff, Nat.reduceAdd]; done) | (simp only [bxU]; omega) | ((try apply has_setN); apply has_ofL; simp only [bxL]; omega)) only [↓bxD, bxP, bxQ, bxQ2, Nat.reduceBEq, reduceCtorEq, Nat.reduceAdd, Nat.reduceSub, Nat.reduceMul, Nat.reduceLeDiff, Nat.reduceLT, bxR, k2, k8, r1, r2, hg0, hC0, hC1, hC2, d, d', d33, i0, i1, i2, decide_true, beq_self_eq_true, d80]
  · rw [if_neg c] at hz
    subst hz
    have d : decide (fu < 0) = false := decide_eq_false c
    have d' : decide (0 ≤ fu) = true := decide_eq_true (by omega)
    rw [d] at hC0
    simp only [Nat.zero_mul, Nat.add_zero] at hC0
    simp (maxSteps := 4000000) (disch := first | omega | assumption | (simp only [bxS, bxV, stOk, Nat.reduceBEq, Nat.reduceEqDiff, Nat.reduceAdd]; done) | (simp only [bxU]; omega) | ((try apply has_setN); apply has_ofL; simp only [bxL]; omega)) only [↓bxD, bxP, bxQ, bxQ2, Nat.reduceBEq, reduceCtorEq, Nat.reduceAdd, Nat.reduceSub, Nat.reduceMul, Nat.reduceLeDiff, Nat.reduceLT, bxR, k2, k8, r1, r2, hg0, hC0, hC1, hC2, d, d', d33, i0, i1, i2, decide_true, beq_self_eq_true]
    have d08 : (decide ((0 : Int) = 8) == false) = true := rfl
    show Wp fns K6_4 _ _ _
    unfold K6_4
    simp (maxSteps := 4000000) (disch := first | omega | assumption | (simp only [bxS, bxV, stOk, Nat.reduceBEq, Nat.reduceEqDiff, Nat.reduceAdd]; done) | (simp only [bxU]; omega) | ((try apply has_setN); apply has_ofL; simp only [bxL]; omega)) only [↓bxD, bxP, bxQ, bxQ2, Nat.reduceBEq, reduceCtorEq, Nat.reduceAdd, Nat.reduceSub, Nat.reduceMul, Nat.reduceLeDiff, Nat.reduceLT, bxR, k2, k8, r1, r2, hg0, hC0, hC1, hC2, d, d', d33, i0, i1, i2, decide_true, beq_self_eq_true]
    refine bindP_call num_any ?_
    rintro m12 M12 ⟨rfl, rfl⟩
    simp (maxSteps := 4000000) (disch := first | omega | assumption | (simp only [bxS, bxV, stOk, Nat.reduceBEq, Nat.reduceEqDiff, Nat.reduceAdd]; done) | (simp only [bxU]; omega) | ((try apply has_setN); apply has_ofL; simp only [bxL]; omega)) only [↓bxD, bxP, bxQ, bxQ2, Nat.reduceBEq, reduceCtorEq, Nat.reduceAdd, Nat.reduceSub, Nat.reduceMul, Nat.reduceLeDiff, Nat.reduceLT, bxR, k2, k8, r1, r2, hg0, hC0, hC1, hC2, d, d', d33, i0, i1, i2, decide_true, beq_self_eq_true, d08]
    refine bindP_call num_any ?_
    rintro m13 M13 ⟨rfl, rfl⟩
    simp (maxSteps := 4000000) (disch := first | omega | assumption | (simp only [bxS, bxV, stOk, Nat.reduceBEq, Nat.reduceEqDiff, Nat.reduceAdd]; done) | (simp only [bxU]; omega) | ((try apply has_setN); apply has_ofL; simp only [bxL]; omega)) only [↓bxD, bxP, bxQ, bxQ2, Nat.reduceBEq, reduceCtorEq, Nat.reduceAdd, Nat.reduceSub, Nat.reduceMul, Nat.reduceLeDiff, Nat.reduceLT, bxR, k2, k8, r1, r2, hg0, hC0, hC1, hC2, d, d', d33, i0, i1, i2, decide_true, beq_self_eq_true, d08]
theorem law_hidden {M : MH} {z0 z1 fu : Int} (hw0 : Wf64 z0) (hw1 : Wf64 z1) (hlo : M.lo ≤ M.n) (ha : ∀ M', Ext M M' → Cp fns 7 [] M' fun m M2 => m = .b true ∧ M2 = M') : Cp fns 6 [.i .i64 z0, .i .i64 z1, .i .i64 fu] M fun m _ => m = .b true := by
  refine Cp_call (fn := F6) (by kernel_rfl) (Nat.le_of_ble_eq_true rfl) ?_
  show Wp fns B6 (T.set q2 (some (.i .i64 fu)) (T.set q1 (some (.i .i64 z1)) (T.set q0 (some (.i .i64 z0)) T.lf))) M _
  unfold B6
  simp (maxSteps := 4000000) (disch := first | omega | assumption | (simp only [bxS, bxV, stOk, Nat.reduceBEq, Nat.reduceEqDiff, Nat.reduceAdd]; done) | (simp only [bxU]; omega) | ((try apply has_setN); apply has_ofL; simp only [bxL]; omega)) only [↓bxD, bxP, bxQ, bxQ2, Nat.reduceBEq, reduceCtorEq, Nat.reduceAdd, Nat.reduceSub, Nat.reduceMul, Nat.reduceLeDiff, Nat.reduceLT, bxR]
  refine bindP_call (ha _ (.refl _)) ?_
  rintro m M2 ⟨rfl, rfl⟩
  by_cases c1 : z0 < 0
  · have d1 : decide (z0 < 0) = true := decide_eq_true c1
    simp (maxSteps := 4000000) (disch := first | omega | assumption | (simp only [bxS, bxV, stOk, Nat.reduceBEq, Nat.reduceEqDiff, Nat.reduceAdd]; done) | (simp only [bxU]; omega) | ((try apply has_setN); apply has_ofL; simp only [bxL]; omega)) only [↓bxD, bxP, bxQ, bxQ2, Nat.reduceBEq, reduceCtorEq, Nat.reduceAdd, Nat.reduceSub, Nat.reduceMul, Nat.reduceLeDiff, Nat.reduceLT, bxR, d1]
  have d1 : decide (z0 < 0) = false := decide_eq_false c1
  by_cases c2 : z1 < 0
  · have d2 : decide (z1 < 0) = true := decide_eq_true c2
    simp (maxSteps := 4000000) (disch := first | omega | assumption | (simp only [bxS, bxV, stOk, Nat.reduceBEq, Nat.reduceEqDiff, Nat.reduceAdd]; done) | (simp only [bxU]; omega) | ((try apply has_setN); apply has_ofL; simp only [bxL]; omega)) only [↓bxD, bxP, bxQ, bxQ2, Nat.reduceBEq, reduceCtorEq, Nat.reduceAdd, Nat.reduceSub, Nat.reduceMul, Nat.reduceLeDiff, Nat.reduceLT, bxR, d1, d2]
  have d2 : decide (z1 < 0) = false := decide_eq_false c2
  by_cases c3 : 7 < wrapF .i64 (z0 + z1)
  · have d3 : decide (7 < wrapF .i64 (z0 + z1)) = true := decide_eq_true c3
    simp (maxSteps := 4000000) (disch := first | omega | assumption | (simp only [bxS, bxV, stOk, Nat.reduceBEq, Nat.reduceEqDiff, Nat.reduceAdd]; done) | (simp only [bxU]; omega) | ((try apply has_setN); apply has_ofL; simp only [bxL]; omega)) only [↓bxD, bxP, bxQ, bxQ2, Nat.reduceBEq, reduceCtorEq, Nat.reduceAdd, Nat.reduceSub, Nat.reduceMul, Nat.reduceLeDiff, Nat.reduceLT, bxR, d1, d2, d3]
  have d3 : decide (7 < wrapF .i64 (z0 + z1)) = false := decide_eq_false c3
  by_cases c4 : fu < Int.negSucc 0
  · have d4 : decide (fu < Int.negSucc 0) = true := decide_eq_true c4
    simp (maxSteps := 4000000) (disch := first | omega | assumption | (simp only [bxS, bxV, stOk, Nat.reduceBEq, Nat.reduceEqDiff, Nat.reduceAdd]; done) | (simp only [bxU]; omega) | ((try apply has_setN); apply has_ofL; simp only [bxL]; omega)) only [↓bxD, bxP, bxQ, bxQ2, Nat.reduceBEq, reduceCtorEq, Nat.reduceAdd, Nat.reduceSub, Nat.reduceMul, Nat.reduceLeDiff, Nat.reduceLT, bxR, d1, d2, d3, d4]
  have d4 : decide (fu < Int.negSucc 0) = false := decide_eq_false c4
  by_cases c5 : wrapF .i64 (z0 + z1) ≤ fu
  · have d5 : decide (wrapF .i64 (z0 + z1) ≤ fu) = true := decide_eq_true c5
    simp (maxSteps := 4000000) (disch := first | omega | assumption | (simp only [bxS, bxV, stOk, Nat.reduceBEq, Nat.reduceEqDiff, Nat.reduceAdd]; done) | (simp only [bxU]; omega) | ((try apply has_setN); apply has_ofL; simp only [bxL]; omega)) only [↓bxD, bxP, bxQ, bxQ2, Nat.reduceBEq, reduceCtorEq, Nat.reduceAdd, Nat.reduceSub, Nat.reduceMul, Nat.reduceLeDiff, Nat.reduceLT, bxR, d1, d2, d3, d4, d5]
  have d5 : decide (wrapF .i64 (z0 + z1) ≤ fu) = false := decide_eq_false c5
  have hsum : z0 + z1 ≤ 7 := by
    obtain ⟨w1, w2⟩ := hw0
    obtain ⟨w3, w4⟩ := hw1
    refine Decidable.byContradiction fun hc => ?_
    by_cases hb : z0 + z1 ≤ 9223372036854775807
    · rw [wrap_in (by omega) (by omega)] at c3
      omega
    · have e : wrapF .i64 (z0 + z1) = z0 + z1 - 18446744073709551616 := by
        rw [wrapF_eq]
        simp only [IntKind.wrap, IntKind.bits, IntKind.signed]
        simp
        omega
      rw [e] at c5
      have : fu ≥ -1 := by have : ¬ fu < -1 := c4; omega
      omega
  obtain ⟨ah, rfl⟩ : ∃ n : Nat, z0 = n := ⟨z0.toNat, by omega⟩
  obtain ⟨be, rfl⟩ : ∃ n : Nat, z1 = n := ⟨z1.toNat, by omega⟩
  have hw : wrapF .i64 ((ah : Int) + (be : Int)) = (ah : Int) + (be : Int) := wrap_in (by omega) (by omega)
  have hfu : fu < ah + be := by rw [hw] at c5; omega
  rw [hw] at d3 d5
  simp (maxSteps := 4000000) (disch := first | omega | assumption | (simp only [bxS, bxV, stOk, Nat.reduceBEq, Nat.reduceEqDiff, Nat.reduceAdd]; done) | (simp only [bxU]; omega) | ((try apply has_setN); apply has_ofL; simp only [bxL]; omega)) only [↓bxD, bxP, bxQ, bxQ2, Nat.reduceBEq, reduceCtorEq, Nat.reduceAdd, Nat.reduceSub, Nat.reduceMul, Nat.reduceLeDiff, Nat.reduceLT, bxR, d1, d2, d3, d4, d5]
  show Wp fns K6_7 _ _ _
  unfold K6_7
  simp (maxSteps := 4000000) (disch := first | omega | assumption | (simp only [bxS, bxV, stOk, Nat.reduceBEq, Nat.reduceEqDiff, Nat.reduceAdd]; done) | (simp only [bxU]; omega) | ((try apply has_setN); apply has_ofL; simp only [bxL]; omega)) only [↓bxD, bxP, bxQ, bxQ2, Nat.reduceBEq, reduceCtorEq, Nat.reduceAdd, Nat.reduceSub, Nat.reduceMul, Nat.reduceLeDiff, Nat.reduceLT, bxR, d1, d2, d3, d4, d5]
  refine hd_loop (ah := ah) (be := be) (fu := fu) ⟨by simp only [bxP, bxQ, bxQ2, reduceCtorEq, d1, d2, d3, d4, d5], by simp only [bxP, bxQ, bxQ2, reduceCtorEq, d1, d2, d3, d4, d5], by simp only [bxP, bxQ, bxQ2, reduceCtorEq, d1, d2, d3, d4, d5], by simp only [bxP, bxQ, bxQ2, reduceCtorEq, d1, d2, d3, d4, d5], by simp only [bxP, bxQ, bxQ2, reduceCtorEq, d1, d2, d3, d4, d5] <;> rfl⟩ hlo (by omega) _ ?_
  intro f2 M3 v3 hf x3 ho3
  have g0 := hf.h0
  have g1 := hf.h1
  have g2 := hf.h2
  have g8 := hf.h8
  simp only [q0, q1, q2, q8] at g0 g1 g2 g8
  have n3 := x3.n
  have l3 := x3.lo
  have hll := hdL_len ah fu (ah + be)
  have main := fun f' M4 v4 x4 ho4 k2 k8 => hd_main (ah := ah) (be := be) (fu := fu) (f' := f') (M4 := M4) (v4 := v4) (M2 := M2) hlo (by omega) hfu x4 ho4 k2 k8
  by_cases c : be = 0
  · have d : decide ((be : Int) = 0) = true := decide_eq_true (by omega)
    have hfz : fillM [(0, 1, MV.i .i64 0)] [MV.i .i64 0] = some [.i .i64 0] := rfl
    obtain ⟨v', M4, e1, e2, e3, e4, e5⟩ := app_int (z := 0) ho3 (by omega) (by omega) (by omega)
    show Wp fns K6_6 _ _ _
    unfold K6_6
    simp (maxSteps := 4000000) (disch := first | omega | assumption | (simp only [bxS, bxV, stOk, Nat.reduceBEq, Nat.reduceEqDiff, Nat.reduceAdd]; done) | (simp only [bxU]; omega) | ((try apply has_setN); apply has_ofL; simp only [bxL]; omega)) only [↓bxD, bxP, bxQ, bxQ2, Nat.reduceBEq, reduceCtorEq, Nat.reduceAdd, Nat.reduceSub, Nat.reduceMul, Nat.reduceLeDiff, Nat.reduceLT, bxR, d1, d2, d3, d4, d5, g0, g1, g2, g8, d, hfz]
    refine bindP_of e1 ?_
    simp (maxSteps := 4000000) (disch := first | omega | assumption | (simp only [bxS, bxV, stOk, Nat.reduceBEq, Nat.reduceEqDiff, Nat.reduceAdd]; done) | (simp only [bxU]; omega) | ((try apply has_setN); apply has_ofL; simp only [bxL]; omega)) only [↓bxD, bxP, bxQ, bxQ2, Nat.reduceBEq, reduceCtorEq, Nat.reduceAdd, Nat.reduceSub, Nat.reduceMul, Nat.reduceLeDiff, Nat.reduceLT, bxR, d1, d2, d3, d4, d5, g0, g1, g2, g8]
    exact main _ M4 v' ⟨by omega, by omega, fun j hj => (e5 j hj).trans (x3.old j hj)⟩ (by unfold hdR; rw [if_pos c]; exact e2) (by simp (maxSteps := 4000000) (disch := first | omega | assumption | (simp only [bxS, bxV, stOk, Nat.reduceBEq, Nat.reduceEqDiff, Nat.reduceAdd]; done) | (simp only [bxU]; omega) | ((try apply has_setN); apply has_ofL; simp only [bxL]; omega)) only [↓bxD, bxP, bxQ, bxQ2, Nat.reduceBEq, reduceCtorEq, Nat.reduceAdd, Nat.reduceSub, Nat.reduceMul, Nat.reduceLeDiff, Nat.reduceLT, bxR, d1, d2, d3, d4, d5, g2]) (by simp (maxSteps := 4000000) (disch := first | omega | assumption | (simp only [bxS, bxV, stOk, Nat.reduceBEq, Nat.reduceEqDiff, Nat.reduceAdd]; done) | (simp only [bxU]; omega) | ((try apply has_setN); apply has_ofL; simp only [bxL]; omega)) only [↓bxD, bxP, bxQ, bxQ2, Nat.reduceBEq, reduceCtorEq, Nat.reduceAdd, Nat.reduceSub, Nat.reduceMul, Nat.reduceLeDiff, Nat.reduceLT, bxR, d1, d2, d3, d4, d5, g2])
  · have d : decide ((be : Int) = 0) = false := decide_eq_false (by omega)
    show Wp fns K6_6 _ _ _
    unfold K6_6
    simp (maxSteps := 4000000) (disch := first | omega | assumption | (simp only [bxS, bxV, stOk, Nat.reduceBEq, Nat.reduceEqDiff, Nat.reduceAdd]; done) | (simp only [bxU]; omega) | ((try apply has_setN); apply has_ofL; simp only [bxL]; omega)) only [↓bxD, bxP, bxQ, bxQ2, Nat.reduceBEq, reduceCtorEq, Nat.reduceAdd, Nat.reduceSub, Nat.reduceMul, Nat.reduceLeDiff, Nat.reduceLT, bxR, d1, d2, d3, d4, d5, g0, g1, g2, g8, d]
    exact main _ M3 v3 x3 (by unfold hdR; rw [if_neg c, List.append_nil]; exact ho3) (by simp (maxSteps := 4000000) (disch := first | omega | assumption | (simp only [bxS, bxV, stOk, Nat.reduceBEq, Nat.reduceEqDiff, Nat.reduceAdd]; done) | (simp only [bxU]; omega) | ((try apply has_setN); apply has_ofL; simp only [bxL]; omega)) only [↓bxD, bxP, bxQ, bxQ2, Nat.reduceBEq, reduceCtorEq, Nat.reduceAdd, Nat.reduceSub, Nat.reduceMul, Nat.reduceLeDiff, Nat.reduceLT, bxR, d1, d2, d3, d4, d5, g2]) (by simp (maxSteps := 4000000) (disch := first | omega | assumption | (simp only [bxS, bxV, stOk, Nat.reduceBEq, Nat.reduceEqDiff, Nat.reduceAdd]; done) | (simp only [bxU]; omega) | ((try apply has_setN); apply has_ofL; simp only [bxL]; omega)) only [↓bxD, bxP, bxQ, bxQ2, Nat.reduceBEq, reduceCtorEq, Nat.reduceAdd, Nat.reduceSub, Nat.reduceMul, Nat.reduceLeDiff, Nat.reduceLT, bxR, d1, d2, d3, d4, d5, g8])
theorem hidden_model (M : MH) (ms : List MV) (hx : Ext Mz M) (hlo : M.lo ≤ M.n) (ha : ArgsTyped Try.prog M [3, 3, 3] ms) : Cp fns 6 ms M fun m _ => m = .b true := by
  obtain ⟨m1, r1, rfl, h1, m2, r2, rfl, h2, m3, r3, rfl, h3, rfl⟩ := ha
  obtain ⟨a, rfl, wa⟩ := int_of h1
  obtain ⟨b, rfl, wb⟩ := int_of h2
  obtain ⟨c, rfl, _⟩ := int_of h3
  exact law_hidden wa wb hlo fun M' _ => Cp_true (by kernel_rfl)
end Go.Proofs.Ytddaggodpmhmpaa.K
