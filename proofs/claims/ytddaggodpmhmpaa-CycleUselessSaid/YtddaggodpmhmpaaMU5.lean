/-
  What the claim leans on, part 5: The program's mark and Reachable. Conditions: none. The document's Shortest: a row. Conditions: none. The document's Shortest. Conditions: none. The document's Shortest and Productive, whole. Conditions: none. What the document and the program tell of use. Conditions: none. The program's Cyclic. Conditions: none. The program's Check. Conditions: none. The document's circles: rows of rows of one's own, and a name that stays alone. Conditions: none. The document's circles: does a name of a row stay alone. Conditions: none. The document's circles: one step by one rule. Conditions: none. The docum
-/
import Derived.Test.YtddaggodpmhmpaaMU4
import Derived.Test.YtddaggodpmhmpaaMU3
import Derived.Test.YtddaggodpmhmpaaProg
import Derived.KernelRfl
set_option linter.unusedSimpArgs false
set_option linter.unusedVariables false
namespace Go.Proofs.Ytddaggodpmhmpaa.K
open Go Ev
set_option maxRecDepth 100000
set_option maxHeartbeats 4000000

theorem mark_any {M0 M : MH} {id : Nat} {l : List Bool} {ur : MV} {ar : List Int} (hB : BoolsAt M id l) (hx0 : Ext M0 M) (hu0 : IntRow M0 ur ar) (hid0 : M0.n ≤ id) (hid : id < M.n) (hlo : M.lo ≤ id) (hs : ∀ s ∈ ar, 0 ≤ s → s.toNat < l.length) (ha : ar.length ≤ 8) : Cp fns 31 [.sl id 0 l.length 0, ur] M fun m M' => ∃ l' b, m = .b b ∧ BoolsAt M' id l' ∧ l'.length = l.length ∧ M'.n = M.n ∧ M'.lo = M.lo ∧ (∀ j, j ≠ id → M'.get j = M.get j) ∧ ((b = false ∧ l' = l ∧ RchHas l ar) ∨ (b = true ∧ falses l' < falses l)) ∧ (∀ a : Nat, l'[a]? = some true → l[a]? = some true ∨ ∃ s ∈ ar, 0 ≤ s ∧ s.toNat = a) ∧ (∀ a : Nat, l[a]? = some true → l'[a]? = some true) := by
  obtain ⟨hu1, hu2⟩ := hu0.sl
  refine Cp_call (fn := F31) (by kernel_rfl) (Nat.le_of_ble_eq_true rfl) ?_
  show Wp fns B31 (T.set q1 (some ur) (T.set q0 (some (.sl id 0 l.length 0)) T.lf)) M _
  unfold B31
  simp (maxSteps := 4000000) (disch := first | omega | assumption | (simp only [bxS, bxV, stOk, Nat.reduceBEq, Nat.reduceEqDiff, Nat.reduceAdd]; done) | (simp only [bxU]; omega) | ((try apply has_setN); apply has_ofL; simp only [bxL]; omega)) only [↓bxD, bxP, bxQ, Nat.reduceBEq, reduceCtorEq, Nat.reduceAdd, Nat.reduceSub, Nat.reduceMul, Nat.reduceLeDiff, Nat.reduceLT, bxR, hu1, hu2]
  refine Wp_inv (σ := Nat × List Bool × Bool) (fun s f M' => s.1 ≤ ar.length ∧ X.ev f (.t q0) = .sl id 0 l.length 0 ∧ X.ev f (.t q8) = ur ∧ X.ev f (.t q9) = .i .i64 (ar.length : Int) ∧ X.ev f (.t q10) = .i .i64 (s.1 : Int) ∧ X.ev f (.t q5) = .b s.2.2 ∧ BoolsAt M' id s.2.1 ∧ s.2.1.length = l.length ∧ M'.n = M.n ∧ M'.lo = M.lo ∧ (∀ j, j ≠ id → M'.get j = M.get j) ∧ ((s.2.2 = false ∧ s.2.1 = l ∧ RchHas l (ar.take s.1)) ∨ (s.2.2 = true ∧ falses s.2.1 < falses l)) ∧ (∀ a : Nat, s.2.1[a]? = some true → l[a]? = some true ∨ ∃ s ∈ ar, 0 ≤ s ∧ s.toNat = a) ∧ (∀ a : Nat, l[a]? = some true → s.2.1[a]? = some true)) (fun s => ar.length - s.1) ?_ (0, l, false) ?_
  · rintro ⟨k, l1, b⟩ f M1 ⟨hk, h0, h8, h9, h10, h5, hB, hL, hn, hl, ho, hc, hb, hm⟩
    simp only at hk h0 h8 h9 h10 h5 hB hL hc hb hm
    simp only [q0, q5, q8, q9, q10] at h0 h5 h8 h9 h10
    have hx : Ext M0 M1 := ⟨by have := hx0.n; omega, hl.trans hx0.lo, fun j hj => by rw [ho j (by omega)]; exact hx0.old j hj⟩
    have hu := hu0.ext hx
    unfold L31_2
    by_cases hk1 : k < ar.length
    · have d1 : decide ((k : Int) < (ar.length : Int)) = true := decide_eq_true (by omega)
      obtain ⟨s, hsk⟩ : ∃ s, ar[k]? = some s := ⟨_, List.getElem?_eq_getElem hk1⟩
      obtain ⟨ro, sz, t, hg, hid', hC⟩ := hu.read hsk
      have hhas : ∀ (x : List Bool), RchHas x (ar.take k) → (0 ≤ s → x[s.toNat]? = some true) → RchHas x (ar.take (k + 1)) := fun x h1 h2 y hy h0 => by
        rw [List.take_add_one, hsk] at hy
        rcases List.mem_append.1 hy with h3 | h3
        · exact h1 y h3 h0
        · simp only [Option.toList_some, List.mem_singleton] at h3
          subst h3
          exact h2 h0
      by_cases s0 : 0 ≤ s
      · have ds : decide (0 ≤ s) = true := decide_eq_true s0
        have hsl := hs s (List.mem_of_getElem? hsk) s0
        obtain ⟨sn, rfl⟩ : ∃ n : Nat, s = n := ⟨s.toNat, by omega⟩
        simp only [Int.toNat_natCast] at hsl hhas
        obtain ⟨bz, hbz⟩ : ∃ x, l1[sn]? = some x := ⟨_, List.getElem?_eq_getElem (by omega)⟩
        obtain ⟨tb, hb1, hb2, hb3, hb4⟩ := hB.read
        have hR := hb2 _ _ hbz
        have hH := hb3 sn (by omega)
        cases bz with
        | true =>
          simp (maxSteps := 4000000) (disch := first | omega | assumption | (simp only [bxS, bxV, stOk, Nat.reduceBEq, Nat.reduceEqDiff, Nat.reduceAdd]; done) | (simp only [bxU]; omega) | ((try apply has_setN); apply has_ofL; simp only [bxL]; omega)) only [↓bxD, bxP, bxQ, Nat.reduceBEq, reduceCtorEq, Nat.reduceAdd, Nat.reduceSub, Nat.reduceMul, Nat.reduceLeDiff, Nat.reduceLT, bxR, h0, h5, h8, h9, h10, hu1, hu2, hg, hC, d1, ds, ix_slc, hb1, hR]
          show Wp fns K31_1 _ _ _
          unfold K31_1
          simp (maxSteps := 4000000) (disch := first | omega | assumption | (simp only [bxS, bxV, stOk, Nat.reduceBEq, Nat.reduceEqDiff, Nat.reduceAdd]; done) | (simp only [bxU]; omega) | ((try apply has_setN); apply has_ofL; simp only [bxL]; omega)) only [↓bxD, bxP, bxQ, Nat.reduceBEq, reduceCtorEq, Nat.reduceAdd, Nat.reduceSub, Nat.reduceMul, Nat.reduceLeDiff, Nat.reduceLT, bxR, h0, h5, h8, h9, h10, hu1, hu2, hg, hC, d1, ds, ix_slc, hb1, hR]
          show Wp fns K31_0 _ _ _
          unfold K31_0
          simp (maxSteps := 4000000) (disch := first | omega | assumption | (simp only [bxS, bxV, stOk, Nat.reduceBEq, Nat.reduceEqDiff, Nat.reduceAdd]; done) | (simp only [bxU]; omega) | ((try apply has_setN); apply has_ofL; simp only [bxL]; omega)) only [↓bxD, bxP, bxQ, Nat.reduceBEq, reduceCtorEq, Nat.reduceAdd, Nat.reduceSub, Nat.reduceMul, Nat.reduceLeDiff, Nat.reduceLT, bxR, h0, h5, h8, h9, h10, hu1, hu2, hg, hC, d1, ds, ix_slc, hb1, hR]
          refine ⟨(k + 1, l1, b), by simp only; omega, by simp only; omega, rfl, rfl, hB, hL, hn, hl, ho, ?_, hb, hm⟩
          rcases hc with ⟨h1, rfl, h2⟩ | hc
          · exact .inl ⟨h1, rfl, hhas _ h2 fun _ => hbz⟩
          · exact .inr hc
        | false =>
          simp (maxSteps := 4000000) (disch := first | omega | assumption | (simp only [bxS, bxV, stOk, Nat.reduceBEq, Nat.reduceEqDiff, Nat.reduceAdd]; done) | (simp only [bxU]; omega) | ((try apply has_setN); apply has_ofL; simp only [bxL]; omega)) only [↓bxD, bxP, bxQ, Nat.reduceBEq, reduceCtorEq, Nat.reduceAdd, Nat.reduceSub, Nat.reduceMul, Nat.reduceLeDiff, Nat.reduceLT, bxR, h0, h5, h8, h9, h10, hu1, hu2, hg, hC, d1, ds, ix_slc, hb1, hR, hH]
          show Wp fns K31_1 _ _ _
          unfold K31_1
          simp (maxSteps := 4000000) (disch := first | omega | assumption | (simp only [bxS, bxV, stOk, Nat.reduceBEq, Nat.reduceEqDiff, Nat.reduceAdd]; done) | (simp only [bxU]; omega) | ((try apply has_setN); apply has_ofL; simp only [bxL]; omega)) only [↓bxD, bxP, bxQ, Nat.reduceBEq, reduceCtorEq, Nat.reduceAdd, Nat.reduceSub, Nat.reduceMul, Nat.reduceLeDiff, Nat.reduceLT, bxR, h0, h5, h8, h9, h10, hu1, hu2, hg, hC, d1, ds, ix_slc, hb1, hR, hH]
          show Wp fns K31_0 _ _ _
          unfold K31_0
          simp (maxSteps := 4000000) (disch := first | omega | assumption | (simp only [bxS, bxV, stOk, Nat.reduceBEq, Nat.reduceEqDiff, Nat.reduceAdd]; done) | (simp only [bxU]; omega) | ((try apply has_setN); apply has_ofL; simp only [bxL]; omega)) only [↓bxD, bxP, bxQ, Nat.reduceBEq, reduceCtorEq, Nat.reduceAdd, Nat.reduceSub, Nat.reduceMul, Nat.reduceLeDiff, Nat.reduceLT, bxR, h0, h5, h8, h9, h10, hu1, hu2, hg, hC, d1, ds, ix_slc, hb1, hR, hH]
          refine ⟨(k + 1, l1.set sn true, true), by simp only; omega, by simp only; omega, rfl, rfl, ⟨_, set_same _ _, hb4 sn _ (by omega)⟩, by rw [List.length_set]; exact hL, hn, hl, fun j hj => by rw [set_ne hj]; exact ho j hj, ?_, fun a e => ?_, fun a e => set_true (hm a e)⟩
          · have h1 := falses_set hbz
            rcases hc with ⟨_, rfl, _⟩ | ⟨_, h2⟩
            · exact .inr ⟨rfl, h1⟩
            · exact .inr ⟨rfl, Nat.lt_trans h1 h2⟩
          · rw [List.getElem?_set] at e
            by_cases e1 : sn = a
            · subst e1
              exact .inr ⟨_, List.mem_of_getElem? hsk, s0, rfl⟩
            · rw [if_neg e1] at e
              exact hb a e
      · have ds : decide (0 ≤ s) = false := decide_eq_false s0
        simp (maxSteps := 4000000) (disch := first | omega | assumption | (simp only [bxS, bxV, stOk, Nat.reduceBEq, Nat.reduceEqDiff, Nat.reduceAdd]; done) | (simp only [bxU]; omega) | ((try apply has_setN); apply has_ofL; simp only [bxL]; omega)) only [↓bxD, bxP, bxQ, Nat.reduceBEq, reduceCtorEq, Nat.reduceAdd, Nat.reduceSub, Nat.reduceMul, Nat.reduceLeDiff, Nat.reduceLT, bxR, h0, h5, h8, h9, h10, hu1, hu2, hg, hC, d1, ds]
        show Wp fns K31_1 _ _ _
        unfold K31_1
        simp (maxSteps := 4000000) (disch := first | omega | assumption | (simp only [bxS, bxV, stOk, Nat.reduceBEq, Nat.reduceEqDiff, Nat.reduceAdd]; done) | (simp only [bxU]; omega) | ((try apply has_setN); apply has_ofL; simp only [bxL]; omega)) only [↓bxD, bxP, bxQ, Nat.reduceBEq, reduceCtorEq, Nat.reduceAdd, Nat.reduceSub, Nat.reduceMul, Nat.reduceLeDiff, Nat.reduceLT, bxR, h0, h5, h8, h9, h10, hu1, hu2, hg, hC, d1, ds]
        show Wp fns K31_0 _ _ _
        unfold K31_0
        simp (maxSteps := 4000000) (disch := first | omega | assumption | (simp only [bxS, bxV, stOk, Nat.reduceBEq, Nat.reduceEqDiff, Nat.reduceAdd]; done) | (simp only [bxU]; omega) | ((try apply has_setN); apply has_ofL; simp only [bxL]; omega)) only [↓bxD, bxP, bxQ, Nat.reduceBEq, reduceCtorEq, Nat.reduceAdd, Nat.reduceSub, Nat.reduceMul, Nat.reduceLeDiff, Nat.reduceLT, bxR, h0, h5, h8, h9, h10, hu1, hu2, hg, hC, d1, ds]
        refine ⟨(k + 1, l1, b), by simp only; omega, by simp only; omega, rfl, rfl, hB, hL, hn, hl, ho, ?_, hb, hm⟩
        rcases hc with ⟨h1, rfl, h2⟩ | hc
        · exact .inl ⟨h1, rfl, hhas _ h2 fun h => absurd h s0⟩
        · exact .inr hc
    · have d1 : decide ((k : Int) < (ar.length : Int)) = false := decide_eq_false (by omega)
      have hkl : k = ar.length := by omega
      subst hkl
      rw [List.take_length] at hc
      simp (maxSteps := 4000000) (disch := first | omega | assumption | (simp only [bxS, bxV, stOk, Nat.reduceBEq, Nat.reduceEqDiff, Nat.reduceAdd]; done) | (simp only [bxU]; omega) | ((try apply has_setN); apply has_ofL; simp only [bxL]; omega)) only [↓bxD, bxP, bxQ, Nat.reduceBEq, reduceCtorEq, Nat.reduceAdd, Nat.reduceSub, Nat.reduceMul, Nat.reduceLeDiff, Nat.reduceLT, bxR, h0, h5, h8, h9, h10, d1]
      show Wp fns K31_3 _ _ _
      unfold K31_3
      simp (maxSteps := 4000000) (disch := first | omega | assumption | (simp only [bxS, bxV, stOk, Nat.reduceBEq, Nat.reduceEqDiff, Nat.reduceAdd]; done) | (simp only [bxU]; omega) | ((try apply has_setN); apply has_ofL; simp only [bxL]; omega)) only [↓bxD, bxP, bxQ, Nat.reduceBEq, reduceCtorEq, Nat.reduceAdd, Nat.reduceSub, Nat.reduceMul, Nat.reduceLeDiff, Nat.reduceLT, bxR, h0, h5, h8, h9, h10, d1]
      exact ⟨l1, b, rfl, hB, hL, hn, hl, ho, hc, hb, hm⟩
  · exact ⟨Nat.zero_le _, by simp only [bxP, bxQ, reduceCtorEq, hu1, hu2], by simp only [bxP, bxQ, reduceCtorEq, hu1, hu2], by simp only [bxP, bxQ, reduceCtorEq, hu1, hu2], by simp only [bxP, bxQ, reduceCtorEq, hu1, hu2] <;> rfl, by simp only [bxP, bxQ, reduceCtorEq, hu1, hu2], hB, rfl, rfl, rfl, fun _ _ => rfl, .inl ⟨rfl, rfl, fun s hs => by simp at hs⟩, fun a e => .inl e, fun a e => e⟩
theorem preach_round {M0 M : MH} {g : Gr} {vr vf vc vk : MV} {es : List (List MV)} {id : Nat} {l0 : List Bool} {f : Fr} (h : NSt M0 M g vr vf vc vk es id l0 f) (hs : RchSound g l0) (h00 : l0[g.start.toNat]? = some true) (Q : Post)
    (hn : ∀ f' M' l' more, NSt M0 M' g vr vf vc vk es id l' f' → X.ev f' (.t q4) = .b more → RchSound g l' → l'[g.start.toNat]? = some true → ((more = true ∧ falses l' < falses l0) ∨ (more = false ∧ l' = l0 ∧ RchClosed l0 g.rules)) → Q .norm f' M') : Wp fns K16_3 f M Q := by
  have hq1 := h.q1
  have hq3 := h.q3
  have hbox := h.b0
  obtain ⟨hr1, hr2⟩ := h.gr.rules.row.sl
  rw [h.gr.rules.len] at hr2
  unfold gcs at hbox
  simp only [q1, q3] at hq1 hq3
  unfold K16_3
  simp (maxSteps := 4000000) (disch := first | omega | assumption | (simp only [bxS, bxV, stOk, Nat.reduceBEq, Nat.reduceEqDiff, Nat.reduceAdd]; done) | (simp only [bxU]; omega) | ((try apply has_setN); apply has_ofL; simp only [bxL]; omega)) only [↓bxD, bxP, bxQ, Nat.reduceBEq, reduceCtorEq, Nat.reduceAdd, Nat.reduceSub, Nat.reduceMul, Nat.reduceLeDiff, Nat.reduceLT, bxR, hq1, hq3, hbox, hr1, hr2]
  refine Wp_inv (σ := Nat × List Bool × Bool) (fun s f1 M1 => NSt M0 M1 g vr vf vc vk es id s.2.1 f1 ∧ s.1 ≤ g.rules.length ∧ X.ev f1 (.t q19) = vr ∧ X.ev f1 (.t q20) = .i .i64 (g.rules.length : Int) ∧ X.ev f1 (.t q21) = .i .i64 (s.1 : Int) ∧ X.ev f1 (.t q4) = .b s.2.2 ∧ RchSound g s.2.1 ∧ s.2.1[g.start.toNat]? = some true ∧ ((s.2.2 = true ∧ falses s.2.1 < falses l0) ∨ (s.2.2 = false ∧ s.2.1 = l0 ∧ RchClosed l0 (g.rules.take s.1)))) (fun s => g.rules.length - s.1) ?_ (0, l0, false) ?_
  · rintro ⟨i, l, more⟩ f1 M1 ⟨h, hi, h14, h15, h16, h4, hs, h00, hc⟩
    simp only at h hi h14 h15 h16 h4 hs h00 hc
    clear hq1 hq3 hbox
    have hq1 := h.q1
    have hq3 := h.q3
    have hbox := h.b0
    have hlo := h.lo0
    have hn0 := h.ext.n
    have hl0 := h.ext.lo
    have hid1 := h.id1
    have hid2 := h.id2
    unfold gcs at hbox
    have hrl := h.ok.rl
    simp only [q1, q3, q4, q19, q20, q21] at hq1 hq3 h4 h14 h15 h16
    unfold L16_2
    by_cases hi' : i < g.rules.length
    · have d1 : decide ((i : Int) < (g.rules.length : Int)) = true := decide_eq_true (by omega)
      obtain ⟨r, hr⟩ : ∃ r, g.rules[i]? = some r := ⟨_, List.getElem?_eq_getElem hi'⟩
      obtain ⟨a0, ar, a2⟩ := r
      have hmem := List.mem_of_getElem? hr
      obtain ⟨ur, hu1, hu2⟩ := h.gr.rules.get hr
      have hrow := h.gr.rules.row.ext h.ext
      obtain ⟨ro3, s3, t3, hg3, hid3, hat3⟩ := hrow.read hu1
      have hN : Ev.getN t3 3 (soff vr + i * 3) = some [.i .i64 a0, ur, .i .i64 a2] := hat3.getN
      obtain ⟨hu3, hu4⟩ := hu2.sl
      have hu6 := isSl_one hu3
      have hst : stOk 3 (.ag [.i .i64 a0, ur, .i .i64 a2]) = true := by simp only [stOk, cells_ag, isU_ag, all_cons, all_nil, one_i, hu6]; rfl
      obtain ⟨ha0, ha1⟩ := h.ok.left _ hmem
      have hsy := h.ok.sym _ hmem
      have hle := h.ok.len _ hmem
      simp only at ha0 ha1 hsy hle
      obtain ⟨an, rfl⟩ : ∃ n : Nat, a0 = n := ⟨a0.toNat, by omega⟩
      have hll := h.len
      have han : an < l.length := by omega
      obtain ⟨bb, hbb⟩ : ∃ x, l[an]? = some x := ⟨_, List.getElem?_eq_getElem han⟩
      simp (maxSteps := 4000000) (disch := first | omega | assumption | (simp only [bxS, bxV, stOk, Nat.reduceBEq, Nat.reduceEqDiff, Nat.reduceAdd]; done) | (simp only [bxU]; omega) | ((try apply has_setN); apply has_ofL; simp only [bxL]; omega)) only [↓bxD, bxP, bxQ, Nat.reduceBEq, reduceCtorEq, Nat.reduceAdd, Nat.reduceSub, Nat.reduceMul, Nat.reduceLeDiff, Nat.reduceLT, bxR, hq1, hq3, h4, h14, h15, h16, hr1, hr2, hg3, hN, d1]
      show Wp fns K16_1 _ _ _
      unfold K16_1
      simp (maxSteps := 4000000) (disch := first | omega | assumption | (simp only [bxS, bxV, stOk, Nat.reduceBEq, Nat.reduceEqDiff, Nat.reduceAdd]; done) | (simp only [bxU]; omega) | ((try apply has_setN); apply has_ofL; simp only [bxL]; omega)) only [↓bxD, bxP, bxQ, Nat.reduceBEq, reduceCtorEq, Nat.reduceAdd, Nat.reduceSub, Nat.reduceMul, Nat.reduceLeDiff, Nat.reduceLT, bxR, hq1, hq3, h4, h14, h15, h16, hr1, hr2, hg3, hN, d1]
      generalize hM2 : (M1.push _).set M1.n _ = M2
      have hx2 : Ext M1 M2 := by rw [← hM2]; exact (Ext.push M1 _).set _ (Nat.le_refl _)
      have h9 : M2.get M1.n = some (.cs false 3 (setN [.i .i64 (an : Int), ur, .i .i64 a2] 0 (ofL [.i .i64 0, .nils, .i .i64 0] 0))) := by rw [← hM2, set_same]
      have hn3 : M2.n = M1.n + 1 := by rw [← hM2]; rfl
      have hl2 := hx2.lo
      clear hM2
      have hC3 : At (setN [MV.i .i64 (an : Int), ur, .i .i64 a2] 0 (ofL [.i .i64 0, .nils, .i .i64 0] 0)) 0 [.i .i64 (an : Int), ur, .i .i64 a2] := at_setN _ _ _
      have c0 : cget (setN [MV.i .i64 (an : Int), ur, .i .i64 a2] 0 (ofL [.i .i64 0, .nils, .i .i64 0] 0)) 0 = some (.i .i64 (an : Int)) := hC3 0 _ rfl
      have c1 : cget (setN [MV.i .i64 (an : Int), ur, .i .i64 a2] 0 (ofL [.i .i64 0, .nils, .i .i64 0] 0)) 1 = some ur := hC3 1 _ rfl
      have hrow2 : BoolsAt M2 id l := h.row.same (hx2.old _ hid2)
      have hb2 : M2.get M0.n = some (.cs false 7 (ofL (gcs g vr vf vc vk) 0)) := (hx2.old _ (by omega)).trans h.b0
      obtain ⟨tb, hb1, hb3, hb4, hb5⟩ := hrow2.read
      have hR := hb3 _ _ hbb
      cases bb with
      | false =>
        simp (maxSteps := 4000000) (disch := first | omega | assumption | (simp only [bxS, bxV, stOk, Nat.reduceBEq, Nat.reduceEqDiff, Nat.reduceAdd]; done) | (simp only [bxU]; omega) | ((try apply has_setN); apply has_ofL; simp only [bxL]; omega)) only [↓bxD, bxP, bxQ, Nat.reduceBEq, reduceCtorEq, Nat.reduceAdd, Nat.reduceSub, Nat.reduceMul, Nat.reduceLeDiff, Nat.reduceLT, bxR, hq1, hq3, h4, h14, h15, h16, h9, c0, c1, ix_slc, hb1, hR]
        show Wp fns K16_0 _ _ _
        unfold K16_0
        simp (maxSteps := 4000000) (disch := first | omega | assumption | (simp only [bxS, bxV, stOk, Nat.reduceBEq, Nat.reduceEqDiff, Nat.reduceAdd]; done) | (simp only [bxU]; omega) | ((try apply has_setN); apply has_ofL; simp only [bxL]; omega)) only [↓bxD, bxP, bxQ, Nat.reduceBEq, reduceCtorEq, Nat.reduceAdd, Nat.reduceSub, Nat.reduceMul, Nat.reduceLeDiff, Nat.reduceLT, bxR, hq1, hq3, h4, h14, h15, h16, h9, c0, c1, ix_slc, hb1, hR]
        refine ⟨(i + 1, l, more), by simp only; omega, ⟨h.gr, h.ok, h.ext.trans hx2, h.lo0, hb2, h.id1, by omega, hrow2, h.len, by simp only [bxP, bxQ, reduceCtorEq, hq1, hq3, h4, h14, h15, h16, h9, c0, c1, ix_slc, hb1, hR], by simp only [bxP, bxQ, reduceCtorEq, hq1, hq3, h4, h14, h15, h16, h9, c0, c1, ix_slc, hb1, hR]⟩, by simp only; omega, rfl, rfl, hs, h00, ?_⟩
        rcases hc with hc | ⟨hc1, hc2, hc3⟩
        · exact .inl hc
        · refine .inr ⟨hc1, hc2, fun r hr' ha => ?_⟩
          rw [List.take_add_one, hr] at hr'
          rcases List.mem_append.1 hr' with h1 | h1
          · exact hc3 r h1 ha
          · simp only [Option.toList_some, List.mem_singleton] at h1
            subst h1
            subst hc2
            rw [Int.toNat_natCast, hbb] at ha
            cases ha
      | true =>
        simp (maxSteps := 4000000) (disch := first | omega | assumption | (simp only [bxS, bxV, stOk, Nat.reduceBEq, Nat.reduceEqDiff, Nat.reduceAdd]; done) | (simp only [bxU]; omega) | ((try apply has_setN); apply has_ofL; simp only [bxL]; omega)) only [↓bxD, bxP, bxQ, Nat.reduceBEq, reduceCtorEq, Nat.reduceAdd, Nat.reduceSub, Nat.reduceMul, Nat.reduceLeDiff, Nat.reduceLT, bxR, hq1, hq3, h4, h14, h15, h16, h9, c0, c1, ix_slc, hb1, hR]
        refine bindP_call (mark_any hrow2 (h.ext.trans hx2) hu2 (by omega) (by omega) (by rw [hl2, hl0]; omega) (fun s hs s0 => by have := symB_lt (hsy s hs) s0; omega) hle) ?_
        rintro m M3 ⟨l', b, rfl, hB3, hL3, hn4, hl4, ho4, hcase, hfrom, hkeep⟩
        have hx3 : Ext M0 M3 := ⟨by omega, by omega, fun j hj => by rw [ho4 j (by omega)]; exact (h.ext.trans hx2).old j hj⟩
        have hb6 : M3.get M0.n = some (.cs false 7 (ofL (gcs g vr vf vc vk) 0)) := by rw [ho4 _ (by omega)]; exact hb2
        have hs' : RchSound g l' := fun a e => by
          rcases hfrom a e with h1 | ⟨s, h1, h2, h3⟩
          · exact hs a h1
          · subst h3
            exact Rch.step (g := g) _ hmem (by simp only [Int.toNat_natCast]; exact hs an hbb) s h1 h2
        have h00' := hkeep _ h00
        cases b with
        | true =>
          simp (maxSteps := 4000000) (disch := first | omega | assumption | (simp only [bxS, bxV, stOk, Nat.reduceBEq, Nat.reduceEqDiff, Nat.reduceAdd]; done) | (simp only [bxU]; omega) | ((try apply has_setN); apply has_ofL; simp only [bxL]; omega)) only [↓bxD, bxP, bxQ, Nat.reduceBEq, reduceCtorEq, Nat.reduceAdd, Nat.reduceSub, Nat.reduceMul, Nat.reduceLeDiff, Nat.reduceLT, bxR, hq1, hq3, h4, h14, h15, h16, h9, c0, c1, ix_slc, hb1, hR]
          show Wp fns K16_0 _ _ _
          unfold K16_0
          simp (maxSteps := 4000000) (disch := first | omega | assumption | (simp only [bxS, bxV, stOk, Nat.reduceBEq, Nat.reduceEqDiff, Nat.reduceAdd]; done) | (simp only [bxU]; omega) | ((try apply has_setN); apply has_ofL; simp only [bxL]; omega)) only [↓bxD, bxP, bxQ, Nat.reduceBEq, reduceCtorEq, Nat.reduceAdd, Nat.reduceSub, Nat.reduceMul, Nat.reduceLeDiff, Nat.reduceLT, bxR, hq1, hq3, h4, h14, h15, h16, h9, c0, c1, ix_slc, hb1, hR]
          refine ⟨(i + 1, l', true), by simp only; omega, ⟨h.gr, h.ok, hx3, h.lo0, hb6, h.id1, by omega, hB3, hL3.trans hll, by simp only [bxP, bxQ, reduceCtorEq, hq1, hq3, h4, h14, h15, h16, h9, c0, c1, ix_slc, hb1, hR], by simp (maxSteps := 4000000) (disch := first | omega | assumption | (simp only [bxS, bxV, stOk, Nat.reduceBEq, Nat.reduceEqDiff, Nat.reduceAdd]; done) | (simp only [bxU]; omega) | ((try apply has_setN); apply has_ofL; simp only [bxL]; omega)) only [↓bxD, bxP, bxQ, Nat.reduceBEq, reduceCtorEq, Nat.reduceAdd, Nat.reduceSub, Nat.reduceMul, Nat.reduceLeDiff, Nat.reduceLT, bxR, hq1, hq3, h4, h14, h15, h16, h9, c0, c1, ix_slc, hb1, hR, hL3]⟩, by simp only; omega, rfl, rfl, hs', h00', .inl ⟨rfl, ?_⟩⟩
          rcases hcase with ⟨e, _⟩ | ⟨_, h1⟩
          · cases e
          · rcases hc with ⟨_, hc⟩ | ⟨_, rfl, _⟩
            · exact Nat.lt_trans h1 hc
            · exact h1
        | false =>
          rcases hcase with ⟨_, rfl, hhas⟩ | ⟨e, _⟩
          · simp (maxSteps := 4000000) (disch := first | omega | assumption | (simp only [bxS, bxV, stOk, Nat.reduceBEq, Nat.reduceEqDiff, Nat.reduceAdd]; done) | (simp only [bxU]; omega) | ((try apply has_setN); apply has_ofL; simp only [bxL]; omega)) only [↓bxD, bxP, bxQ, Nat.reduceBEq, reduceCtorEq, Nat.reduceAdd, Nat.reduceSub, Nat.reduceMul, Nat.reduceLeDiff, Nat.reduceLT, bxR, hq1, hq3, h4, h14, h15, h16, h9, c0, c1, ix_slc, hb1, hR]
            show Wp fns K16_0 _ _ _
            unfold K16_0
            simp (maxSteps := 4000000) (disch := first | omega | assumption | (simp only [bxS, bxV, stOk, Nat.reduceBEq, Nat.reduceEqDiff, Nat.reduceAdd]; done) | (simp only [bxU]; omega) | ((try apply has_setN); apply has_ofL; simp only [bxL]; omega)) only [↓bxD, bxP, bxQ, Nat.reduceBEq, reduceCtorEq, Nat.reduceAdd, Nat.reduceSub, Nat.reduceMul, Nat.reduceLeDiff, Nat.reduceLT, bxR, hq1, hq3, h4, h14, h15, h16, h9, c0, c1, ix_slc, hb1, hR]
            refine ⟨(i + 1, l', more), by simp only; omega, ⟨h.gr, h.ok, hx3, h.lo0, hb6, h.id1, by omega, hB3, hL3.trans hll, by simp only [bxP, bxQ, reduceCtorEq, hq1, hq3, h4, h14, h15, h16, h9, c0, c1, ix_slc, hb1, hR], by simp only [bxP, bxQ, reduceCtorEq, hq1, hq3, h4, h14, h15, h16, h9, c0, c1, ix_slc, hb1, hR]⟩, by simp only; omega, rfl, rfl, hs', h00', ?_⟩
            rcases hc with hc | ⟨hc1, hc2, hc3⟩
            · exact .inl hc
            · refine .inr ⟨hc1, hc2, fun r hr' ha => ?_⟩
              rw [List.take_add_one, hr] at hr'
              rcases List.mem_append.1 hr' with h1 | h1
              · exact hc3 r h1 ha
              · simp only [Option.toList_some, List.mem_singleton] at h1
                subst h1
                rw [← hc2]
                exact hhas
          · cases e
    · have d1 : decide ((i : Int) < (g.rules.length : Int)) = false := decide_eq_false (by omega)
      have hi2 : i = g.rules.length := by omega
      subst hi2
      rw [List.take_length] at hc
      simp (maxSteps := 4000000) (disch := first | omega | assumption | (simp only [bxS, bxV, stOk, Nat.reduceBEq, Nat.reduceEqDiff, Nat.reduceAdd]; done) | (simp only [bxU]; omega) | ((try apply has_setN); apply has_ofL; simp only [bxL]; omega)) only [↓bxD, bxP, bxQ, Nat.reduceBEq, reduceCtorEq, Nat.reduceAdd, Nat.reduceSub, Nat.reduceMul, Nat.reduceLeDiff, Nat.reduceLT, bxR, hq1, hq3, h4, h14, h15, h16, d1]
      exact hn _ _ l more ⟨h.gr, h.ok, h.ext, h.lo0, h.b0, h.id1, h.id2, h.row, h.len, by simp only [bxP, bxQ, reduceCtorEq, hq1, hq3, h4, h14, h15, h16, d1], by simp only [bxP, bxQ, reduceCtorEq, hq1, hq3, h4, h14, h15, h16, d1]⟩ (by simp only [bxP, bxQ, reduceCtorEq, hq1, hq3, h4, h14, h15, h16, d1]) hs h00 hc
  · exact ⟨⟨h.gr, h.ok, h.ext, h.lo0, h.b0, h.id1, h.id2, h.row, h.len, by simp only [bxP, bxQ, reduceCtorEq, hq1, hq3, hbox, hr1, hr2], by simp only [bxP, bxQ, reduceCtorEq, hq1, hq3, hbox, hr1, hr2]⟩, Nat.zero_le _, by simp only [bxP, bxQ, reduceCtorEq, hq1, hq3, hbox, hr1, hr2], by simp only [bxP, bxQ, reduceCtorEq, hq1, hq3, hbox, hr1, hr2], by simp only [bxP, bxQ, reduceCtorEq, hq1, hq3, hbox, hr1, hr2] <;> rfl, by simp only [bxP, bxQ, reduceCtorEq, hq1, hq3, hbox, hr1, hr2], hs, h00, .inr ⟨rfl, rfl, fun r hr => by simp at hr⟩⟩
theorem preachable_any {M : MH} {g : Gr} {vr vf vc vk : MV} {es : List (List MV)} (h : GrAt M vr vf vc vk es g) (hlo : M.lo ≤ M.n) : Cp fns 16 [.ag (gcs g vr vf vc vk)] M fun m M' => Ext M M' ∧ (((formP g).2 ≠ 0 ∧ m = .nils) ∨ ((formP g).2 = 0 ∧ ∃ l, RchVec g l ∧ BRow M' m l)) := by
  have hG : ∀ l, l = gcs g vr vf vc vk → Ev.getN (ofL l 0) 7 0 = some (gcs g vr vf vc vk) := fun l e => by subst e; exact (at_ofL (gcs g vr vf vc vk)).getN
  have hG := hG [MV.i IntKind.i64 g.names, MV.i IntKind.i64 g.kinds, MV.i IntKind.i64 g.start, vr, vf, vc, vk] rfl
  refine Cp_call (fn := F16) (by kernel_rfl) (Nat.le_of_ble_eq_true rfl) ?_
  show Wp fns B16 (T.set q0 (some (.ag (gcs g vr vf vc vk))) T.lf) M _
  unfold B16
  rw [show gcs g vr vf vc vk = [MV.i IntKind.i64 g.names, MV.i IntKind.i64 g.kinds, MV.i IntKind.i64 g.start, vr, vf, vc, vk] from rfl]
  simp (maxSteps := 4000000) (disch := first | omega | assumption | (simp only [bxS, bxV, stOk, Nat.reduceBEq, Nat.reduceEqDiff, Nat.reduceAdd]; done) | (simp only [bxU]; omega) | ((try apply has_setN); apply has_ofL; simp only [bxL]; omega)) only [↓bxD, bxP, bxQ, Nat.reduceBEq, reduceCtorEq, Nat.reduceAdd, Nat.reduceSub, Nat.reduceMul, Nat.reduceLeDiff, Nat.reduceLT, bxR, hG]
  generalize hM1 : M.push _ = M1
  have hg0 : M1.get M.n = some (.cs false 7 (ofL (gcs g vr vf vc vk) 0)) := by rw [← hM1]; exact push_new _
  have hx1 : Ext M M1 := by rw [← hM1]; exact Ext.push M _
  have hn1 : M1.n = M.n + 1 := by rw [← hM1]; rfl
  have hl1 := hx1.lo
  clear hM1
  refine bindP_call (isForm_any (h.ext hx1) (by omega)) ?_
  rintro m M2 ⟨rfl, hx2⟩
  have hn2 := hx2.n
  have hl2 := hx2.lo
  have hg2 := (hx2.old M.n (by omega)).trans hg0
  by_cases hz : (formP g).2 = 0
  · have dz : decide ((formP g).2 = 0) = true := decide_eq_true hz
    have hok := form_ok hz
    obtain ⟨nn, hnn⟩ : ∃ n : Nat, g.names = n := ⟨g.names.toNat, by have := hok.n1; omega⟩
    have hn40 := hok.n2
    have hg3 := hg2
    unfold gcs at hg3
    obtain ⟨sn, hsn⟩ : ∃ n : Nat, g.start = n := ⟨g.start.toNat, by have := hok.s1; omega⟩
    have hs2 := hok.s2
    have hsl : sn < nn := by omega
    have hH : ∀ t, hasB (ofL (zrow [MV.b false] nn) 0) 1 (sn * 1) = t → hasB (ofL (zrow [MV.b false] nn) 0) 1 (sn * 1) = t := fun _ h => h
    have hH : hasB (ofL (zrow [MV.b false] nn) 0) 1 (sn * 1) = true := has_ofL _ _ _ (by rw [zrow_rep, List.length_replicate]; omega)
    simp (maxSteps := 4000000) (disch := first | omega | assumption | (simp only [bxS, bxV, stOk, Nat.reduceBEq, Nat.reduceEqDiff, Nat.reduceAdd]; done) | (simp only [bxU]; omega) | ((try apply has_setN); apply has_ofL; simp only [bxL]; omega)) only [↓bxD, bxP, bxQ, Nat.reduceBEq, reduceCtorEq, Nat.reduceAdd, Nat.reduceSub, Nat.reduceMul, Nat.reduceLeDiff, Nat.reduceLT, bxR, dz, hg3, hnn, hsn, ev_mks, mks_ok, ix_slc]
    show Wp fns K16_6 _ _ _
    unfold K16_6
    simp (maxSteps := 4000000) (disch := first | omega | assumption | (simp only [bxS, bxV, stOk, Nat.reduceBEq, Nat.reduceEqDiff, Nat.reduceAdd]; done) | (simp only [bxU]; omega) | ((try apply has_setN); apply has_ofL; simp only [bxL]; omega)) only [↓bxD, bxP, bxQ, Nat.reduceBEq, reduceCtorEq, Nat.reduceAdd, Nat.reduceSub, Nat.reduceMul, Nat.reduceLeDiff, Nat.reduceLT, bxR, dz, hg3, hnn, hsn, ev_mks, mks_ok, ix_slc]
    obtain ⟨t, ht1, ht2, ht3, ht4⟩ := (BoolsAt.new (M := M2) nn).read
    rw [push_new] at ht1
    injection ht1 with ht1
    injection ht1 with _ _ ht1
    subst ht1
    have hrow0 := ht4 sn true (by rw [List.length_replicate]; exact hsl)
    generalize hM3 : (M2.push _).set M2.n _ = M3
    have hrow : BoolsAt M3 M2.n ((List.replicate nn false).set sn true) := ⟨_, by rw [← hM3, set_same]; rfl, hrow0⟩
    have hx3 : Ext M2 M3 := by rw [← hM3]; exact (Ext.push M2 _).set _ (Nat.le_refl _)
    have hn3 : M3.n = M2.n + 1 := by rw [← hM3]; rfl
    clear hM3
    refine Wp_inv (σ := List Bool × Bool) (fun s f1 M1 => NSt M M1 g vr vf vc vk es M2.n s.1 f1 ∧ X.ev f1 (.t q4) = .b s.2 ∧ RchSound g s.1 ∧ s.1[g.start.toNat]? = some true ∧ (s.2 = false → RchClosed s.1 g.rules)) (fun s => 2 * falses s.1 + (if s.2 = true then 1 else 0)) ?_ ((List.replicate nn false).set sn true, true) ?_
    · rintro ⟨l, more⟩ f1 M4 ⟨h4, ht, hs, h00, hc⟩
      simp only at h4 ht hs h00 hc
      have hq1 := h4.q1
      have hq3 := h4.q3
      simp only [q1, q3, q4] at hq1 hq3 ht
      unfold L16_4
      cases more with
      | true =>
        simp (maxSteps := 4000000) (disch := first | omega | assumption | (simp only [bxS, bxV, stOk, Nat.reduceBEq, Nat.reduceEqDiff, Nat.reduceAdd]; done) | (simp only [bxU]; omega) | ((try apply has_setN); apply has_ofL; simp only [bxL]; omega)) only [↓bxD, bxP, bxQ, Nat.reduceBEq, reduceCtorEq, Nat.reduceAdd, Nat.reduceSub, Nat.reduceMul, Nat.reduceLeDiff, Nat.reduceLT, bxR, hq1, hq3, ht]
        show Wp fns K16_3 _ _ _
        refine preach_round ⟨h4.gr, h4.ok, h4.ext, h4.lo0, h4.b0, h4.id1, h4.id2, h4.row, h4.len, ?_, ?_⟩ hs h00 _ ?_
        · simp only [bxP, bxQ, reduceCtorEq, hq1, hq3, ht]
        · simp only [bxP, bxQ, reduceCtorEq, hq1, hq3, ht]
        intro f' M' l' more' h' h4' hs' h00' hcase
        refine ⟨(l', more'), ?_, h', h4', hs', h00', fun e => ?_⟩
        · rcases hcase with ⟨rfl, hlt⟩ | ⟨rfl, rfl, _⟩
          · simp only [if_true]; omega
          · simp
        · rcases hcase with ⟨rfl, _⟩ | ⟨_, rfl, hc'⟩
          · cases e
          · exact hc'
      | false =>
        simp (maxSteps := 4000000) (disch := first | omega | assumption | (simp only [bxS, bxV, stOk, Nat.reduceBEq, Nat.reduceEqDiff, Nat.reduceAdd]; done) | (simp only [bxU]; omega) | ((try apply has_setN); apply has_ofL; simp only [bxL]; omega)) only [↓bxD, bxP, bxQ, Nat.reduceBEq, reduceCtorEq, Nat.reduceAdd, Nat.reduceSub, Nat.reduceMul, Nat.reduceLeDiff, Nat.reduceLT, bxR, hq1, hq3, ht]
        show Wp fns K16_5 _ _ _
        unfold K16_5
        simp (maxSteps := 4000000) (disch := first | omega | assumption | (simp only [bxS, bxV, stOk, Nat.reduceBEq, Nat.reduceEqDiff, Nat.reduceAdd]; done) | (simp only [bxU]; omega) | ((try apply has_setN); apply has_ofL; simp only [bxL]; omega)) only [↓bxD, bxP, bxQ, Nat.reduceBEq, reduceCtorEq, Nat.reduceAdd, Nat.reduceSub, Nat.reduceMul, Nat.reduceLeDiff, Nat.reduceLT, bxR, hq1, hq3, ht]
        refine ⟨h4.ext, .inr ⟨hz, l, rch_vec h4.len hs h00 (hc rfl), ?_⟩⟩
        exact h4.row.row h4.id2
    · refine ⟨⟨h, hok, (hx1.trans hx2).trans hx3, hlo, (hx3.old _ (by omega)).trans hg2, by omega, by omega, hrow, by rw [List.length_set, List.length_replicate, hnn]; rfl, ?_, ?_⟩, ?_, fun a e => ?_, ?_, fun e => by cases e⟩
      · simp only [bxP, bxQ, reduceCtorEq, dz, hg3, hnn, hsn, ev_mks, mks_ok, ix_slc]
      · simp (maxSteps := 4000000) (disch := first | omega | assumption | (simp only [bxS, bxV, stOk, Nat.reduceBEq, Nat.reduceEqDiff, Nat.reduceAdd]; done) | (simp only [bxU]; omega) | ((try apply has_setN); apply has_ofL; simp only [bxL]; omega)) only [↓bxD, bxP, bxQ, Nat.reduceBEq, reduceCtorEq, Nat.reduceAdd, Nat.reduceSub, Nat.reduceMul, Nat.reduceLeDiff, Nat.reduceLT, bxR, dz, hg3, hnn, hsn, ev_mks, mks_ok, ix_slc, List.length_replicate, List.length_set]
      · simp only [bxP, bxQ, reduceCtorEq, dz, hg3, hnn, hsn, ev_mks, mks_ok, ix_slc]
      · rw [List.getElem?_set] at e
        split at e
        · rename_i e1
          subst e1
          have := Rch.start (g := g)
          rw [hsn] at this
          exact this
        · rw [List.getElem?_replicate] at e
          split at e <;> cases e
      · rw [hsn]
        exact set_here (by rw [List.length_replicate]; exact hsl)
  · have dz : decide ((formP g).2 = 0) = false := decide_eq_false hz
    simp (maxSteps := 4000000) (disch := first | omega | assumption | (simp only [bxS, bxV, stOk, Nat.reduceBEq, Nat.reduceEqDiff, Nat.reduceAdd]; done) | (simp only [bxU]; omega) | ((try apply has_setN); apply has_ofL; simp only [bxL]; omega)) only [↓bxD, bxP, bxQ, Nat.reduceBEq, reduceCtorEq, Nat.reduceAdd, Nat.reduceSub, Nat.reduceMul, Nat.reduceLeDiff, Nat.reduceLT, bxR, dz]
    exact ⟨hx1.trans hx2, .inl hz⟩
def RPost (g : Gr) (M : MH) (m : MV) (M' : MH) : Prop := Ext M M' ∧ (((formP g).2 ≠ 0 ∧ m = .nils) ∨ ((formP g).2 = 0 ∧ ∃ l, RchVec g l ∧ BRow M' m l))
def RIs (g : Gr) (l : List Bool) : Prop := ((formP g).2 ≠ 0 ∧ l = []) ∨ ((formP g).2 = 0 ∧ RchVec g l)
def PIs (g : Gr) (l : List Bool) : Prop := ((formP g).2 ≠ 0 ∧ l = []) ∨ ((formP g).2 = 0 ∧ ∃ x, ShVec g x ∧ l = x.map fun z => decide (0 ≤ z))
def SIs (g : Gr) (l : List Int) : Prop := ((formP g).2 ≠ 0 ∧ l = []) ∨ ((formP g).2 = 0 ∧ ShVec g l)
theorem RPost.is {g : Gr} {M M' : MH} {m : MV} (h : RPost g M m M') : Ext M M' ∧ ∃ l, BRow M' m l ∧ RIs g l ∧ l.length ≤ 1000000000 := by
  obtain ⟨hx, ⟨h1, rfl⟩ | ⟨h1, l, h2, h3⟩⟩ := h
  · exact ⟨hx, [], ⟨fun e he => by simp at he, .inl ⟨rfl, rfl⟩⟩, .inl ⟨h1, rfl⟩, Nat.zero_le _⟩
  · have := (form_ok h1).n2
    exact ⟨hx, l, h3, .inr ⟨h1, h2⟩, by rw [h2.1]; omega⟩
theorem PrPost.is {g : Gr} {M M' : MH} {m : MV} (h : PrPost g M m M') : Ext M M' ∧ ∃ l, BRow M' m l ∧ PIs g l ∧ l.length ≤ 1000000000 := by
  obtain ⟨hx, ⟨h1, rfl⟩ | ⟨h1, l, h2, h3⟩⟩ := h
  · exact ⟨hx, [], ⟨fun e he => by simp at he, .inl ⟨rfl, rfl⟩⟩, .inl ⟨h1, rfl⟩, Nat.zero_le _⟩
  · have := (form_ok h1).n2
    exact ⟨hx, _, h3, .inr ⟨h1, l, h2, rfl⟩, by rw [List.length_map, (h2.inn (form_ok h1)).len]; omega⟩
theorem ShPost.is {g : Gr} {M M' : MH} {m : MV} (h : ShPost g M m M') : Ext M M' ∧ ∃ l, IntRow M' m l ∧ SIs g l ∧ l.length ≤ 1000000000 := by
  obtain ⟨hx, ⟨h1, rfl⟩ | ⟨h1, l, h2, h3⟩⟩ := h
  · exact ⟨hx, [], ⟨fun e he => by simp [ints] at he, .inl ⟨rfl, rfl⟩⟩, .inl ⟨h1, rfl⟩, Nat.zero_le _⟩
  · have := (form_ok h1).n2
    exact ⟨hx, l, h3, .inr ⟨h1, h2⟩, by rw [(h2.inn (form_ok h1)).len]; omega⟩
def CyPost (g : Gr) (M : MH) (m : MV) (M' : MH) : Prop := Ext M M' ∧ (((formP g).2 ≠ 0 ∧ m = .nils) ∨ ((formP g).2 = 0 ∧ ∃ N, NulVec g N ∧ BRow M' m (cyL g N)))
theorem CyPost.is {g : Gr} {M M' : MH} {m : MV} (h : CyPost g M m M') : Ext M M' ∧ ∃ l, BRow M' m l ∧ CyIs g l ∧ l.length ≤ 1000000000 := by
  obtain ⟨hx, ⟨h1, rfl⟩ | ⟨h1, N, h2, h3⟩⟩ := h
  · exact ⟨hx, [], ⟨fun e he => by simp at he, .inl ⟨rfl, rfl⟩⟩, .inl ⟨h1, rfl⟩, Nat.zero_le _⟩
  · have := (form_ok h1).n2
    exact ⟨hx, _, h3, .inr ⟨h1, N, h2, rfl⟩, by rw [cyL_len]; omega⟩
theorem cyL_take {g : Gr} {N : List Bool} {i : Nat} (hi : i < g.names.toNat) (z : Bool) (hz : z = cyIt (cyB N g.rules) g.names.toNat i i) : ((cyL g N).take i ++ List.replicate (g.names.toNat - i) false).set i z = (cyL g N).take (i + 1) ++ List.replicate (g.names.toNat - (i + 1)) false := by
  have hl := cyL_len g N
  refine List.ext_getElem? fun j => ?_
  rw [List.getElem?_set]
  have e1 : ((cyL g N).take i).length = i := by rw [List.length_take]; omega
  have e2 : ((cyL g N).take (i + 1)).length = i + 1 := by rw [List.length_take]; omega
  by_cases h : i = j
  · subst h
    rw [if_pos rfl, if_pos (by rw [List.length_append, List.length_replicate]; omega), List.getElem?_append_left (by omega), List.getElem?_take, if_pos (by omega), bAt_at (by omega), cyL_at hi, hz]
  · rw [if_neg h]
    by_cases h2 : j < i
    · rw [List.getElem?_append_left (by omega), List.getElem?_append_left (by omega), List.getElem?_take, List.getElem?_take, if_pos h2, if_pos (by omega)]
    · rw [List.getElem?_append_right (by omega), List.getElem?_append_right (by omega), e1, e2, List.getElem?_replicate, List.getElem?_replicate]
      by_cases h3 : j < g.names.toNat
      · rw [if_pos (by omega), if_pos (by omega)]
      · rw [if_neg (by omega), if_neg (by omega)]
theorem pcyclic_any {M : MH} {g : Gr} {vr vf vc vk : MV} {es : List (List MV)} (h : GrAt M vr vf vc vk es g) (hlo : M.lo ≤ M.n) : Cp fns 12 [.ag (gcs g vr vf vc vk)] M (CyPost g M) := by
  have hG : ∀ l, l = gcs g vr vf vc vk → Ev.getN (ofL l 0) 7 0 = some (gcs g vr vf vc vk) := fun l e => by subst e; exact (at_ofL (gcs g vr vf vc vk)).getN
  have hG := hG [MV.i IntKind.i64 g.names, MV.i IntKind.i64 g.kinds, MV.i IntKind.i64 g.start, vr, vf, vc, vk] rfl
  refine Cp_call (fn := F12) (by kernel_rfl) (Nat.le_of_ble_eq_true rfl) ?_
  show Wp fns B12 (T.set q0 (some (.ag (gcs g vr vf vc vk))) T.lf) M _
  unfold B12
  rw [show gcs g vr vf vc vk = [MV.i IntKind.i64 g.names, MV.i IntKind.i64 g.kinds, MV.i IntKind.i64 g.start, vr, vf, vc, vk] from rfl]
  generalize hM1 : M.push (.cs false 7 (ofL [MV.i IntKind.i64 g.names, MV.i IntKind.i64 g.kinds, MV.i IntKind.i64 g.start, vr, vf, vc, vk] 0)) = M1
  have g0 : M1.get M.n = some (.cs false 7 (ofL [MV.i IntKind.i64 g.names, MV.i IntKind.i64 g.kinds, MV.i IntKind.i64 g.start, vr, vf, vc, vk] 0)) := by rw [← hM1]; exact push_new _
  have x1 : Ext M M1 := by rw [← hM1]; exact .push M _
  have n1 : M1.n = M.n + 1 := by rw [← hM1]; rfl
  have l1 := x1.lo
  simp (maxSteps := 4000000) (disch := first | omega | assumption | (simp only [bxS, bxV, stOk, Nat.reduceBEq, Nat.reduceEqDiff, Nat.reduceAdd]; done) | (simp only [bxU]; omega) | ((try apply has_setN); apply has_ofL; simp only [bxL]; omega)) only [↓bxD, bxP, bxQ, Nat.reduceBEq, reduceCtorEq, Nat.reduceAdd, Nat.reduceSub, Nat.reduceMul, Nat.reduceLeDiff, Nat.reduceLT, bxR, hG, hM1, g0]
  refine bindP_call (isForm_any (h.ext x1) (by omega)) ?_
  rintro m M2 ⟨rfl, x2⟩
  have n2 := x2.n
  have l2 := x2.lo
  have g2 := (x2.old _ (by omega)).trans g0
  by_cases hz : (formP g).2 = 0
  · have dz : decide ((formP g).2 = 0) = true := decide_eq_true hz
    have hok := form_ok hz
    have hn1 := hok.n1
    have hn40 := hok.n2
    obtain ⟨nn, hnn⟩ : ∃ n : Nat, g.names = n := ⟨g.names.toNat, by omega⟩
    simp (maxSteps := 4000000) (disch := first | omega | assumption | (simp only [bxS, bxV, stOk, Nat.reduceBEq, Nat.reduceEqDiff, Nat.reduceAdd]; done) | (simp only [bxU]; omega) | ((try apply has_setN); apply has_ofL; simp only [bxL]; omega)) only [↓bxD, bxP, bxQ, Nat.reduceBEq, reduceCtorEq, Nat.reduceAdd, Nat.reduceSub, Nat.reduceMul, Nat.reduceLeDiff, Nat.reduceLT, bxR, hG, g2, dz]
    show Wp fns K12_4 _ _ _
    unfold K12_4
    simp (maxSteps := 4000000) (disch := first | omega | assumption | (simp only [bxS, bxV, stOk, Nat.reduceBEq, Nat.reduceEqDiff, Nat.reduceAdd]; done) | (simp only [bxU]; omega) | ((try apply has_setN); apply has_ofL; simp only [bxL]; omega)) only [↓bxD, bxP, bxQ, Nat.reduceBEq, reduceCtorEq, Nat.reduceAdd, Nat.reduceSub, Nat.reduceMul, Nat.reduceLeDiff, Nat.reduceLT, bxR, hG, g2, dz]
    refine bindP_call (oneStep_any ((h.ext x1).ext x2) hz (by omega)) ?_
    rintro m M3 ⟨x3, id, F, N, rfl, i1, i2, hw, hFl, hlt, hN, hone⟩
    have n3 := x3.n
    have l3 := x3.lo
    have g3 := (x3.old _ (by omega)).trans g2
    simp (maxSteps := 4000000) (disch := first | omega | assumption | (simp only [bxS, bxV, stOk, Nat.reduceBEq, Nat.reduceEqDiff, Nat.reduceAdd]; done) | (simp only [bxU]; omega) | ((try apply has_setN); apply has_ofL; simp only [bxL]; omega)) only [↓bxD, bxP, bxQ, Nat.reduceBEq, reduceCtorEq, Nat.reduceAdd, Nat.reduceSub, Nat.reduceMul, Nat.reduceLeDiff, Nat.reduceLT, bxR, hG, g2, dz]
    refine bindP_call (anySteps_any (U := cyB N g.rules) hw i2 (by omega) hlt (by omega) (fun i j hi => by rw [hone i j hi, List.take_length])) ?_
    rintro m M4 ⟨rfl, o4, n4, l4, F', hw4, hFl4, hlt4, hrel⟩
    have g4 := (o4 _ (by omega)).trans g3
    have cg0 : cget (ofL [MV.i IntKind.i64 g.names, MV.i IntKind.i64 g.kinds, MV.i IntKind.i64 g.start, vr, vf, vc, vk] 0) 0 = some (.i .i64 (nn : Int)) := by rw [← hnn]; exact (at_ofL _) 0 _ rfl
    simp (maxSteps := 4000000) (disch := first | omega | assumption | (simp only [bxS, bxV, stOk, Nat.reduceBEq, Nat.reduceEqDiff, Nat.reduceAdd]; done) | (simp only [bxU]; omega) | ((try apply has_setN); apply has_ofL; simp only [bxL]; omega)) only [↓bxD, bxP, bxQ, Nat.reduceBEq, reduceCtorEq, Nat.reduceAdd, Nat.reduceSub, Nat.reduceMul, Nat.reduceLeDiff, Nat.reduceLT, bxR, hG, g4, cg0, ev_mks, mks_ok]
    generalize hM5 : M4.push _ = M5
    have b5 : BoolsAt M5 M4.n (List.replicate nn false) := by rw [← hM5]; exact .new nn
    have x5 : Ext M4 M5 := by rw [← hM5]; exact .push M4 _
    have n5 : M5.n = M4.n + 1 := by rw [← hM5]; rfl
    have l5 := x5.lo
    have hw5 := hw4.same (x5.old _ (by omega))
    clear hM5
    have hnl : g.names.toNat = nn := by omega
    have hE : Ext M M4 := ⟨by omega, by omega, fun j hj => by
      rw [o4 j (by omega), x3.old j (by omega), x2.old j (by omega), x1.old j hj]⟩
    simp (maxSteps := 4000000) (disch := first | omega | assumption | (simp only [bxS, bxV, stOk, Nat.reduceBEq, Nat.reduceEqDiff, Nat.reduceAdd]; done) | (simp only [bxU]; omega) | ((try apply has_setN); apply has_ofL; simp only [bxL]; omega)) only [↓bxD, bxP, bxQ, Nat.reduceBEq, reduceCtorEq, Nat.reduceAdd, Nat.reduceSub, Nat.reduceMul, Nat.reduceLeDiff, Nat.reduceLT, bxR, hG, g4, cg0, len_slc]
    refine Wp_inv (σ := Nat) (fun i f M' => i ≤ nn ∧ (∀ j, j ≠ M4.n → M'.get j = M5.get j) ∧ M'.n = M5.n ∧ M'.lo = M5.lo ∧ BoolsAt M' M4.n ((cyL g N).take i ++ List.replicate (nn - i) false) ∧ X.ev f (.t q3) = .sl id 0 F.length 0 ∧ X.ev f (.t q4) = .sl M4.n 0 nn 0 ∧ X.ev f (.t q17) = .i .i64 (nn : Int) ∧ X.ev f (.t q18) = .i .i64 (i : Int)) (fun i => nn - i) ?_ 0 ?_
    · rintro i f M6 ⟨hi, ho, hn', hl', hB, h3, h4, h17, h18⟩
      simp only [q3, q4, q17, q18] at h3 h4 h17 h18
      have hcl := cyL_len g N
      have hll : ((cyL g N).take i ++ List.replicate (nn - i) false).length = nn := by rw [List.length_append, List.length_take, List.length_replicate]; omega
      unfold L12_2
      by_cases hi' : i < nn
      · have d1 : decide ((i : Int) < (nn : Int)) = true := decide_eq_true (by omega)
        have hw6 := hw5.same (ho _ (by omega))
        obtain ⟨t, ht1, ht2, ht3, ht4⟩ := hw6.read
        have hCi := ht2 i (by omega)
        have hHi := ht3 i (by omega)
        have hFi := fAt_lt hlt4 i
        obtain ⟨u, hu1, hu2, hu3, hu4⟩ := hB.read
        have hH4 := hu3 i (by omega)
        simp (maxSteps := 4000000) (disch := first | omega | assumption | (simp only [bxS, bxV, stOk, Nat.reduceBEq, Nat.reduceEqDiff, Nat.reduceAdd]; done) | (simp only [bxU]; omega) | ((try apply has_setN); apply has_ofL; simp only [bxL]; omega)) only [↓bxD, bxP, bxQ, Nat.reduceBEq, reduceCtorEq, Nat.reduceAdd, Nat.reduceSub, Nat.reduceMul, Nat.reduceLeDiff, Nat.reduceLT, bxR, h3, h4, h17, h18, d1, ix_slc, ht1, hCi, hHi]
        show Wp fns K12_1 _ _ _
        unfold K12_1
        simp (maxSteps := 4000000) (disch := first | omega | assumption | (simp only [bxS, bxV, stOk, Nat.reduceBEq, Nat.reduceEqDiff, Nat.reduceAdd]; done) | (simp only [bxU]; omega) | ((try apply has_setN); apply has_ofL; simp only [bxL]; omega)) only [↓bxD, bxP, bxQ, Nat.reduceBEq, reduceCtorEq, Nat.reduceAdd, Nat.reduceSub, Nat.reduceMul, Nat.reduceLeDiff, Nat.reduceLT, bxR, h3, h4, h17, h18, d1, ix_slc, ht1, hCi, hHi]
        refine bindP_call (has_any hFi (k := i) (by omega)) ?_
        rintro m M7 ⟨rfl, rfl⟩
        have hrv : (fAt F' i).testBit i = cyIt (cyB N g.rules) g.names.toNat i i := by rw [hrel i i (by omega), hFl]
        have hsA := hu4 i ((fAt F' i).testBit i) (by omega)
        simp (maxSteps := 4000000) (disch := first | omega | assumption | (simp only [bxS, bxV, stOk, Nat.reduceBEq, Nat.reduceEqDiff, Nat.reduceAdd]; done) | (simp only [bxU]; omega) | ((try apply has_setN); apply has_ofL; simp only [bxL]; omega)) only [↓bxD, bxP, bxQ, Nat.reduceBEq, reduceCtorEq, Nat.reduceAdd, Nat.reduceSub, Nat.reduceMul, Nat.reduceLeDiff, Nat.reduceLT, bxR, h3, h4, h17, h18, d1, ix_slc, hu1, hH4]
        show Wp fns K12_0 _ _ _
        unfold K12_0
        simp (maxSteps := 4000000) (disch := first | omega | assumption | (simp only [bxS, bxV, stOk, Nat.reduceBEq, Nat.reduceEqDiff, Nat.reduceAdd]; done) | (simp only [bxU]; omega) | ((try apply has_setN); apply has_ofL; simp only [bxL]; omega)) only [↓bxD, bxP, bxQ, Nat.reduceBEq, reduceCtorEq, Nat.reduceAdd, Nat.reduceSub, Nat.reduceMul, Nat.reduceLeDiff, Nat.reduceLT, bxR, h3, h4, h17, h18, d1, ix_slc, hu1, hH4]
        refine ⟨i + 1, by omega, by omega, fun j hj => by rw [set_ne hj]; exact ho j hj, hn', hl', ⟨_, set_same _ _, ?_⟩, rfl⟩
        rw [← hnl, ← cyL_take (g := g) (N := N) (i := i) (by omega) _ hrv, hnl]
        exact hsA
      · have d1 : decide ((i : Int) < (nn : Int)) = false := decide_eq_false (by omega)
        obtain rfl : i = nn := by omega
        simp (maxSteps := 4000000) (disch := first | omega | assumption | (simp only [bxS, bxV, stOk, Nat.reduceBEq, Nat.reduceEqDiff, Nat.reduceAdd]; done) | (simp only [bxU]; omega) | ((try apply has_setN); apply has_ofL; simp only [bxL]; omega)) only [↓bxD, bxP, bxQ, Nat.reduceBEq, reduceCtorEq, Nat.reduceAdd, Nat.reduceSub, Nat.reduceMul, Nat.reduceLeDiff, Nat.reduceLT, bxR, h3, h4, h17, h18, d1]
        show Wp fns K12_3 _ _ _
        unfold K12_3
        simp (maxSteps := 4000000) (disch := first | omega | assumption | (simp only [bxS, bxV, stOk, Nat.reduceBEq, Nat.reduceEqDiff, Nat.reduceAdd]; done) | (simp only [bxU]; omega) | ((try apply has_setN); apply has_ofL; simp only [bxL]; omega)) only [↓bxD, bxP, bxQ, Nat.reduceBEq, reduceCtorEq, Nat.reduceAdd, Nat.reduceSub, Nat.reduceMul, Nat.reduceLeDiff, Nat.reduceLT, bxR, h3, h4, h17, h18, d1]
        rw [Nat.sub_self, List.replicate_zero, List.append_nil, List.take_of_length_le (by omega)] at hB
        refine ⟨⟨by omega, by omega, fun j hj => by rw [ho j (by omega), x5.old j (by omega), hE.old j hj]⟩, .inr ⟨hz, N, hN, ?_⟩⟩
        have := hB.row (by omega : M4.n < M6.n)
        rw [cyL_len, hnl] at this
        exact this
    · exact ⟨Nat.zero_le _, fun _ _ => rfl, rfl, rfl, by rw [List.take_zero, List.nil_append, Nat.sub_zero]; exact b5, by simp only [bxP, bxQ, reduceCtorEq, hG, g4, cg0], by simp only [bxP, bxQ, reduceCtorEq, hG, g4, cg0], by simp only [bxP, bxQ, reduceCtorEq, hG, g4, cg0] <;> rfl, by simp only [bxP, bxQ, reduceCtorEq, hG, g4, cg0] <;> rfl⟩
  · have dz : decide ((formP g).2 = 0) = false := decide_eq_false hz
    simp (maxSteps := 4000000) (disch := first | omega | assumption | (simp only [bxS, bxV, stOk, Nat.reduceBEq, Nat.reduceEqDiff, Nat.reduceAdd]; done) | (simp only [bxU]; omega) | ((try apply has_setN); apply has_ofL; simp only [bxL]; omega)) only [↓bxD, bxP, bxQ, Nat.reduceBEq, reduceCtorEq, Nat.reduceAdd, Nat.reduceSub, Nat.reduceMul, Nat.reduceLeDiff, Nat.reduceLT, bxR, hG, g2, dz]
    exact ⟨x1.trans x2, .inl ⟨hz, rfl⟩⟩
def ChIs (g : Gr) (z : Int × Int) : Prop := ((formP g).2 ≠ 0 ∧ z = formP g) ∨ ((formP g).2 = 0 ∧ ∃ R S N, RchVec g R ∧ ShVec g S ∧ NulVec g N ∧ z = chkV g.names.toNat R (S.map fun z => decide (0 ≤ z)) (cyL g N))
theorem index_true {M : MH} {v : MV} {l : List Bool} (h : BRow M v l) (hl : l.length ≤ 1000) : Cp fns 18 [v, .b true] M fun m M' => m = .i .i64 (match firstP (bAt l) l.length 0 with
    | some i => (i : Int)
    | none => -1) ∧ M' = M := by
  obtain ⟨v1, v2⟩ := h.sl
  refine Cp_call (fn := F18) (by kernel_rfl) (Nat.le_of_ble_eq_true rfl) ?_
  show Wp fns B18 (T.set q1 (some (.b true)) (T.set q0 (some v) T.lf)) M _
  unfold B18
  simp (maxSteps := 4000000) (disch := first | omega | assumption | (simp only [bxS, bxV, stOk, Nat.reduceBEq, Nat.reduceEqDiff, Nat.reduceAdd]; done) | (simp only [bxU]; omega) | ((try apply has_setN); apply has_ofL; simp only [bxL]; omega)) only [↓bxD, bxP, bxQ, Nat.reduceBEq, reduceCtorEq, Nat.reduceAdd, Nat.reduceSub, Nat.reduceMul, Nat.reduceLeDiff, Nat.reduceLT, bxR, v1, v2]
  refine Wp_inv (σ := Nat) (fun i f M' => M' = M ∧ i ≤ l.length ∧ (∀ k, k < i → bAt l k = false) ∧ X.ev f (.t q0) = v ∧ X.ev f (.t q1) = .b true ∧ X.ev f (.t q6) = v ∧ X.ev f (.t q7) = .i .i64 (l.length : Int) ∧ X.ev f (.t q8) = .i .i64 (i : Int)) (fun i => l.length - i) ?_ 0 ?_
  · rintro i f M' ⟨rfl, hi, hk, h0, h1, h6, h7, h8⟩
    simp only [q0, q1, q6, q7, q8] at h0 h1 h6 h7 h8
    unfold L18_2
    by_cases hi' : i < l.length
    · have d1 : decide ((i : Int) < (l.length : Int)) = true := decide_eq_true (by omega)
      obtain ⟨ro, s, t, hg, hid, hC⟩ := h.read hi'
      cases hb : bAt l i with
      | true =>
        rw [hb] at hC
        have e := firstP_is (p := bAt l) (n := l.length) (i := 0) (k := i) (Nat.zero_le _) (by omega) hb fun m _ hm => hk m hm
        rw [e]
        simp (maxSteps := 4000000) (disch := first | omega | assumption | (simp only [bxS, bxV, stOk, Nat.reduceBEq, Nat.reduceEqDiff, Nat.reduceAdd]; done) | (simp only [bxU]; omega) | ((try apply has_setN); apply has_ofL; simp only [bxL]; omega)) only [↓bxD, bxP, bxQ, Nat.reduceBEq, reduceCtorEq, Nat.reduceAdd, Nat.reduceSub, Nat.reduceMul, Nat.reduceLeDiff, Nat.reduceLT, bxR, h0, h1, h6, h7, h8, v1, v2, d1, hg, hC]
        show Wp fns K18_1 _ _ _
        unfold K18_1
        simp (maxSteps := 4000000) (disch := first | omega | assumption | (simp only [bxS, bxV, stOk, Nat.reduceBEq, Nat.reduceEqDiff, Nat.reduceAdd]; done) | (simp only [bxU]; omega) | ((try apply has_setN); apply has_ofL; simp only [bxL]; omega)) only [↓bxD, bxP, bxQ, Nat.reduceBEq, reduceCtorEq, Nat.reduceAdd, Nat.reduceSub, Nat.reduceMul, Nat.reduceLeDiff, Nat.reduceLT, bxR, h0, h1, h6, h7, h8, v1, v2, d1, hg, hC]
      | false =>
        rw [hb] at hC
        have tf : (true == false) = false := rfl
        simp (maxSteps := 4000000) (disch := first | omega | assumption | (simp only [bxS, bxV, stOk, Nat.reduceBEq, Nat.reduceEqDiff, Nat.reduceAdd]; done) | (simp only [bxU]; omega) | ((try apply has_setN); apply has_ofL; simp only [bxL]; omega)) only [↓bxD, bxP, bxQ, Nat.reduceBEq, reduceCtorEq, Nat.reduceAdd, Nat.reduceSub, Nat.reduceMul, Nat.reduceLeDiff, Nat.reduceLT, bxR, h0, h1, h6, h7, h8, v1, v2, d1, hg, hC, tf]
        show Wp fns K18_1 _ _ _
        unfold K18_1
        simp (maxSteps := 4000000) (disch := first | omega | assumption | (simp only [bxS, bxV, stOk, Nat.reduceBEq, Nat.reduceEqDiff, Nat.reduceAdd]; done) | (simp only [bxU]; omega) | ((try apply has_setN); apply has_ofL; simp only [bxL]; omega)) only [↓bxD, bxP, bxQ, Nat.reduceBEq, reduceCtorEq, Nat.reduceAdd, Nat.reduceSub, Nat.reduceMul, Nat.reduceLeDiff, Nat.reduceLT, bxR, h0, h1, h6, h7, h8, v1, v2, d1, hg, hC, tf]
        show Wp fns K18_0 _ _ _
        unfold K18_0
        simp (maxSteps := 4000000) (disch := first | omega | assumption | (simp only [bxS, bxV, stOk, Nat.reduceBEq, Nat.reduceEqDiff, Nat.reduceAdd]; done) | (simp only [bxU]; omega) | ((try apply has_setN); apply has_ofL; simp only [bxL]; omega)) only [↓bxD, bxP, bxQ, Nat.reduceBEq, reduceCtorEq, Nat.reduceAdd, Nat.reduceSub, Nat.reduceMul, Nat.reduceLeDiff, Nat.reduceLT, bxR, h0, h1, h6, h7, h8, v1, v2, d1, hg, hC, tf]
        refine ⟨i + 1, by omega, by omega, fun k hk' => ?_, rfl⟩
        by_cases e : k = i
        · subst e; exact hb
        · exact hk k (by omega)
    · have d1 : decide ((i : Int) < (l.length : Int)) = false := decide_eq_false (by omega)
      obtain rfl : i = l.length := by omega
      rw [firstP_no (p := bAt l) (n := l.length) (i := 0) fun m _ hm => hk m (by omega)]
      simp (maxSteps := 4000000) (disch := first | omega | assumption | (simp only [bxS, bxV, stOk, Nat.reduceBEq, Nat.reduceEqDiff, Nat.reduceAdd]; done) | (simp only [bxU]; omega) | ((try apply has_setN); apply has_ofL; simp only [bxL]; omega)) only [↓bxD, bxP, bxQ, Nat.reduceBEq, reduceCtorEq, Nat.reduceAdd, Nat.reduceSub, Nat.reduceMul, Nat.reduceLeDiff, Nat.reduceLT, bxR, h0, h1, h6, h7, h8, d1]
      show Wp fns K18_3 _ _ _
      unfold K18_3
      simp (maxSteps := 4000000) (disch := first | omega | assumption | (simp only [bxS, bxV, stOk, Nat.reduceBEq, Nat.reduceEqDiff, Nat.reduceAdd]; done) | (simp only [bxU]; omega) | ((try apply has_setN); apply has_ofL; simp only [bxL]; omega)) only [↓bxD, bxP, bxQ, Nat.reduceBEq, reduceCtorEq, Nat.reduceAdd, Nat.reduceSub, Nat.reduceMul, Nat.reduceLeDiff, Nat.reduceLT, bxR, h0, h1, h6, h7, h8, d1]
      rfl
  · exact ⟨rfl, Nat.zero_le _, fun k hk => absurd hk (Nat.not_lt_zero k), by simp only [bxP, bxQ, reduceCtorEq, v1, v2], by simp only [bxP, bxQ, reduceCtorEq, v1, v2], by simp only [bxP, bxQ, reduceCtorEq, v1, v2], by simp only [bxP, bxQ, reduceCtorEq, v1, v2] <;> rfl, by simp only [bxP, bxQ, reduceCtorEq, v1, v2] <;> rfl⟩
theorem chk_useless {g : Gr} {R : List Bool} {S : List Int} {N : List Bool} {i : Nat} (hz : (formP g).2 = 0) (hR : RchVec g R) (hS : ShVec g S) (hN : NulVec g N) (e : firstP (fun i => !(bAt R i) || !(bAt (S.map fun z => decide (0 ≤ z)) i)) g.names.toNat 0 = some i) : ChIs g ((i : Int), 7) := by
  refine .inr ⟨hz, R, S, N, hR, hS, hN, ?_⟩
  unfold chkV
  rw [e]
theorem chk_cycle {g : Gr} {R : List Bool} {S : List Int} {N : List Bool} {i : Nat} (hz : (formP g).2 = 0) (hR : RchVec g R) (hS : ShVec g S) (hN : NulVec g N) (e : firstP (fun i => !(bAt R i) || !(bAt (S.map fun z => decide (0 ≤ z)) i)) g.names.toNat 0 = none) (e2 : firstP (bAt (cyL g N)) g.names.toNat 0 = some i) : ChIs g ((i : Int), 8) := by
  refine .inr ⟨hz, R, S, N, hR, hS, hN, ?_⟩
  unfold chkV
  rw [e, e2]
theorem chk_fine {g : Gr} {R : List Bool} {S : List Int} {N : List Bool} (hz : (formP g).2 = 0) (hR : RchVec g R) (hS : ShVec g S) (hN : NulVec g N) (e : firstP (fun i => !(bAt R i) || !(bAt (S.map fun z => decide (0 ≤ z)) i)) g.names.toNat 0 = none) (e2 : firstP (bAt (cyL g N)) g.names.toNat 0 = none) : ChIs g (-1, 0) := by
  refine .inr ⟨hz, R, S, N, hR, hS, hN, ?_⟩
  unfold chkV
  rw [e, e2]
theorem pcheck_any {M : MH} {g : Gr} {vr vf vc vk : MV} {es : List (List MV)} (h : GrAt M vr vf vc vk es g) (hlo : M.lo ≤ M.n) : Cp fns 9 [.ag (gcs g vr vf vc vk)] M fun m M' => Ext M M' ∧ ∃ z : Int × Int, ChIs g z ∧ m = .tp [.i .i64 z.1, .i .i64 z.2] := by
  have hG : ∀ l, l = gcs g vr vf vc vk → Ev.getN (ofL l 0) 7 0 = some (gcs g vr vf vc vk) := fun l e => by subst e; exact (at_ofL (gcs g vr vf vc vk)).getN
  have hG := hG [MV.i IntKind.i64 g.names, MV.i IntKind.i64 g.kinds, MV.i IntKind.i64 g.start, vr, vf, vc, vk] rfl
  refine Cp_call (fn := F9) (by kernel_rfl) (Nat.le_of_ble_eq_true rfl) ?_
  show Wp fns B9 (T.set q0 (some (.ag (gcs g vr vf vc vk))) T.lf) M _
  unfold B9
  rw [show gcs g vr vf vc vk = [MV.i IntKind.i64 g.names, MV.i IntKind.i64 g.kinds, MV.i IntKind.i64 g.start, vr, vf, vc, vk] from rfl]
  generalize hM1 : M.push (.cs false 7 (ofL [MV.i IntKind.i64 g.names, MV.i IntKind.i64 g.kinds, MV.i IntKind.i64 g.start, vr, vf, vc, vk] 0)) = M1
  have g0 : M1.get M.n = some (.cs false 7 (ofL [MV.i IntKind.i64 g.names, MV.i IntKind.i64 g.kinds, MV.i IntKind.i64 g.start, vr, vf, vc, vk] 0)) := by rw [← hM1]; exact push_new _
  have x1 : Ext M M1 := by rw [← hM1]; exact .push M _
  have n1 : M1.n = M.n + 1 := by rw [← hM1]; rfl
  have l1 := x1.lo
  simp (maxSteps := 4000000) (disch := first | omega | assumption | (simp only [bxS, bxV, stOk, Nat.reduceBEq, Nat.reduceEqDiff, Nat.reduceAdd]; done) | (simp only [bxU]; omega) | ((try apply has_setN); apply has_ofL; simp only [bxL]; omega)) only [↓bxD, bxP, bxQ, Nat.reduceBEq, reduceCtorEq, Nat.reduceAdd, Nat.reduceSub, Nat.reduceMul, Nat.reduceLeDiff, Nat.reduceLT, bxR, hG, hM1, g0]
  refine bindP_call (prog_form (h.ext x1) (by omega)) ?_
  rintro m M2 ⟨rfl, x2⟩
  have n2 := x2.n
  have l2 := x2.lo
  have g2 := (x2.old _ (by omega)).trans g0
  have x02 := x1.trans x2
  by_cases hz : (formP g).2 = 0
  · have dz : decide ((formP g).2 ≠ 0) = false := decide_eq_false (by rw [hz]; simp)
    have hok := form_ok hz
    have hn1 := hok.n1
    have hn40 := hok.n2
    obtain ⟨nn, hnn⟩ : ∃ n : Nat, g.names = n := ⟨g.names.toNat, by omega⟩
    have hnl : g.names.toNat = nn := by omega
    simp (maxSteps := 4000000) (disch := first | omega | assumption | (simp only [bxS, bxV, stOk, Nat.reduceBEq, Nat.reduceEqDiff, Nat.reduceAdd]; done) | (simp only [bxU]; omega) | ((try apply has_setN); apply has_ofL; simp only [bxL]; omega)) only [↓bxD, bxP, bxQ, Nat.reduceBEq, reduceCtorEq, Nat.reduceAdd, Nat.reduceSub, Nat.reduceMul, Nat.reduceLeDiff, Nat.reduceLT, bxR, hG, g2, dz]
    show Wp fns K9_6 _ _ _
    unfold K9_6
    simp (maxSteps := 4000000) (disch := first | omega | assumption | (simp only [bxS, bxV, stOk, Nat.reduceBEq, Nat.reduceEqDiff, Nat.reduceAdd]; done) | (simp only [bxU]; omega) | ((try apply has_setN); apply has_ofL; simp only [bxL]; omega)) only [↓bxD, bxP, bxQ, Nat.reduceBEq, reduceCtorEq, Nat.reduceAdd, Nat.reduceSub, Nat.reduceMul, Nat.reduceLeDiff, Nat.reduceLT, bxR, hG, g2, dz]
    refine Wp_dreg_of (by omega) ?_
    simp (maxSteps := 4000000) (disch := first | omega | assumption | (simp only [bxS, bxV, stOk, Nat.reduceBEq, Nat.reduceEqDiff, Nat.reduceAdd]; done) | (simp only [bxU]; omega) | ((try apply has_setN); apply has_ofL; simp only [bxL]; omega)) only [↓bxD, bxP, bxQ, Nat.reduceBEq, reduceCtorEq, Nat.reduceAdd, Nat.reduceSub, Nat.reduceMul, Nat.reduceLeDiff, Nat.reduceLT, bxR, hG, g2, dz]
    have hgr2 := h.ext x02
    refine bindP_call (preachable_any (gr_lift hgr2) (Nat.le_refl _)) ?_
    rintro m M3 ⟨x3, ⟨hne, _⟩ | ⟨_, R, hR, hRr⟩⟩
    · exact absurd hz hne
    have x23 := ext_dl x3
    have n3 := x23.n
    have l3 := x23.lo
    have g3 := (x23.old M.n (by omega)).trans g2
    have g3' := g3
    have hgr3 := hgr2.ext x23
    have hRr3 : BRow (M3.down M2.lo) m R := hRr
    rw [down_get] at g3
    simp (maxSteps := 4000000) (disch := first | omega | assumption | (simp only [bxS, bxV, stOk, Nat.reduceBEq, Nat.reduceEqDiff, Nat.reduceAdd]; done) | (simp only [bxU]; omega) | ((try apply has_setN); apply has_ofL; simp only [bxL]; omega)) only [↓bxD, bxP, bxQ, Nat.reduceBEq, reduceCtorEq, Nat.reduceAdd, Nat.reduceSub, Nat.reduceMul, Nat.reduceLeDiff, Nat.reduceLT, bxR, hG, g2, g3, down_get]
    generalize M3.down M2.lo = N3 at *
    refine bindP_call (pprod_any hgr3 (by omega)) ?_
    rintro m4 M4 ⟨x4, ⟨hne, _⟩ | ⟨_, S, hS, hSr⟩⟩
    · exact absurd hz hne
    have n4 := x4.n
    have l4 := x4.lo
    have g4 := (x4.old M.n (by omega)).trans g3'
    have hgr4 := hgr3.ext x4
    have hRr4 := hRr3.ext x4
    have cg0 : cget (ofL [MV.i IntKind.i64 g.names, MV.i IntKind.i64 g.kinds, MV.i IntKind.i64 g.start, vr, vf, vc, vk] 0) 0 = some (.i .i64 (nn : Int)) := by rw [← hnn]; exact (at_ofL _) 0 _ rfl
    have x04 := (x02.trans x23).trans x4
    obtain ⟨r1, r2⟩ := hRr4.sl
    obtain ⟨s1, s2⟩ := hSr.sl
    have hRl : R.length = nn := by rw [hR.1]; omega
    have hSl : (S.map fun z => decide (0 ≤ z)).length = nn := by rw [List.length_map, (hS.inn hok).len]; omega
    simp (maxSteps := 4000000) (disch := first | omega | assumption | (simp only [bxS, bxV, stOk, Nat.reduceBEq, Nat.reduceEqDiff, Nat.reduceAdd]; done) | (simp only [bxU]; omega) | ((try apply has_setN); apply has_ofL; simp only [bxL]; omega)) only [↓bxD, bxP, bxQ, Nat.reduceBEq, reduceCtorEq, Nat.reduceAdd, Nat.reduceSub, Nat.reduceMul, Nat.reduceLeDiff, Nat.reduceLT, bxR, hG, g4, cg0]
    show Wp fns K9_5 _ _ _
    unfold K9_5
    simp (maxSteps := 4000000) (disch := first | omega | assumption | (simp only [bxS, bxV, stOk, Nat.reduceBEq, Nat.reduceEqDiff, Nat.reduceAdd]; done) | (simp only [bxU]; omega) | ((try apply has_setN); apply has_ofL; simp only [bxL]; omega)) only [↓bxD, bxP, bxQ, Nat.reduceBEq, reduceCtorEq, Nat.reduceAdd, Nat.reduceSub, Nat.reduceMul, Nat.reduceLeDiff, Nat.reduceLT, bxR, hG, g4, cg0]
    obtain ⟨N, hN⟩ : ∃ N, NulVec g N := by
      obtain ⟨m9, M9, _, _, ⟨hne, _⟩ | ⟨_, N, hN, _⟩⟩ := pnull_any h hlo
      · exact absurd hz hne
      · exact ⟨N, hN⟩
    refine Wp_inv (σ := Nat) (fun i f M' => M' = M4 ∧ i ≤ nn ∧ (∀ k, k < i → (!(bAt R k) || !(bAt (S.map fun z => decide (0 ≤ z)) k)) = false) ∧ X.ev f (.t q1) = .p M.n 0 ∧ X.ev f (.t q6) = m ∧ X.ev f (.t q7) = m4 ∧ X.ev f (.t q24) = .i .i64 (nn : Int) ∧ X.ev f (.t q25) = .i .i64 (i : Int)) (fun i => nn - i) ?_ 0 ?_
    · rintro i f M' ⟨rfl, hi, hk, h1, h6, h7, h24, h25⟩
      simp only [q1, q6, q7, q24, q25] at h1 h6 h7 h24 h25
      unfold L9_2
      by_cases hi' : i < nn
      · have d1 : decide ((i : Int) < (nn : Int)) = true := decide_eq_true (by omega)
        obtain ⟨ro, sz, t, hg, hid, hC⟩ := hRr4.read (i := i) (by omega)
        obtain ⟨ro2, sz2, t2, hg2, hid2, hC2⟩ := hSr.read (i := i) (by omega)
        have use : (!(bAt R i) || !(bAt (S.map fun z => decide (0 ≤ z)) i)) = true → ChIs g ((i : Int), 7) := fun hb => chk_useless hz hR hS hN (firstP_is (Nat.zero_le _) (by omega) hb fun m _ hm => hk m hm)
        cases hb : bAt R i with
        | false =>
          rw [hb] at hC
          have hu := use (by rw [hb]; rfl)
          simp (maxSteps := 4000000) (disch := first | omega | assumption | (simp only [bxS, bxV, stOk, Nat.reduceBEq, Nat.reduceEqDiff, Nat.reduceAdd]; done) | (simp only [bxU]; omega) | ((try apply has_setN); apply has_ofL; simp only [bxL]; omega)) only [↓bxD, bxP, bxQ, Nat.reduceBEq, reduceCtorEq, Nat.reduceAdd, Nat.reduceSub, Nat.reduceMul, Nat.reduceLeDiff, Nat.reduceLT, bxR, h1, h6, h7, h24, h25, d1, r1, r2, s1, s2, hg, hC]
          show Wp fns K9_1 _ _ _
          unfold K9_1
          simp (maxSteps := 4000000) (disch := first | omega | assumption | (simp only [bxS, bxV, stOk, Nat.reduceBEq, Nat.reduceEqDiff, Nat.reduceAdd]; done) | (simp only [bxU]; omega) | ((try apply has_setN); apply has_ofL; simp only [bxL]; omega)) only [↓bxD, bxP, bxQ, Nat.reduceBEq, reduceCtorEq, Nat.reduceAdd, Nat.reduceSub, Nat.reduceMul, Nat.reduceLeDiff, Nat.reduceLT, bxR, h1, h6, h7, h24, h25, d1, r1, r2, s1, s2, hg, hC]
          exact ⟨x04, _, hu, rfl⟩
        | true =>
          rw [hb] at hC
          cases hb2 : bAt (S.map fun z => decide (0 ≤ z)) i with
          | false =>
            rw [hb2] at hC2
            have hu := use (by rw [hb2]; simp)
            simp (maxSteps := 4000000) (disch := first | omega | assumption | (simp only [bxS, bxV, stOk, Nat.reduceBEq, Nat.reduceEqDiff, Nat.reduceAdd]; done) | (simp only [bxU]; omega) | ((try apply has_setN); apply has_ofL; simp only [bxL]; omega)) only [↓bxD, bxP, bxQ, Nat.reduceBEq, reduceCtorEq, Nat.reduceAdd, Nat.reduceSub, Nat.reduceMul, Nat.reduceLeDiff, Nat.reduceLT, bxR, h1, h6, h7, h24, h25, d1, r1, r2, s1, s2, hg, hC, hg2, hC2]
            show Wp fns K9_1 _ _ _
            unfold K9_1
            simp (maxSteps := 4000000) (disch := first | omega | assumption | (simp only [bxS, bxV, stOk, Nat.reduceBEq, Nat.reduceEqDiff, Nat.reduceAdd]; done) | (simp only [bxU]; omega) | ((try apply has_setN); apply has_ofL; simp only [bxL]; omega)) only [↓bxD, bxP, bxQ, Nat.reduceBEq, reduceCtorEq, Nat.reduceAdd, Nat.reduceSub, Nat.reduceMul, Nat.reduceLeDiff, Nat.reduceLT, bxR, h1, h6, h7, h24, h25, d1, r1, r2, s1, s2, hg, hC, hg2, hC2]
            exact ⟨x04, _, hu, rfl⟩
          | true =>
            rw [hb2] at hC2
            simp (maxSteps := 4000000) (disch := first | omega | assumption | (simp only [bxS, bxV, stOk, Nat.reduceBEq, Nat.reduceEqDiff, Nat.reduceAdd]; done) | (simp only [bxU]; omega) | ((try apply has_setN); apply has_ofL; simp only [bxL]; omega)) only [↓bxD, bxP, bxQ, Nat.reduceBEq, reduceCtorEq, Nat.reduceAdd, Nat.reduceSub, Nat.reduceMul, Nat.reduceLeDiff, Nat.reduceLT, bxR, h1, h6, h7, h24, h25, d1, r1, r2, s1, s2, hg, hC, hg2, hC2]
            show Wp fns K9_1 _ _ _
            unfold K9_1
            simp (maxSteps := 4000000) (disch := first | omega | assumption | (simp only [bxS, bxV, stOk, Nat.reduceBEq, Nat.reduceEqDiff, Nat.reduceAdd]; done) | (simp only [bxU]; omega) | ((try apply has_setN); apply has_ofL; simp only [bxL]; omega)) only [↓bxD, bxP, bxQ, Nat.reduceBEq, reduceCtorEq, Nat.reduceAdd, Nat.reduceSub, Nat.reduceMul, Nat.reduceLeDiff, Nat.reduceLT, bxR, h1, h6, h7, h24, h25, d1, r1, r2, s1, s2, hg, hC, hg2, hC2]
            show Wp fns K9_0 _ _ _
            unfold K9_0
            simp (maxSteps := 4000000) (disch := first | omega | assumption | (simp only [bxS, bxV, stOk, Nat.reduceBEq, Nat.reduceEqDiff, Nat.reduceAdd]; done) | (simp only [bxU]; omega) | ((try apply has_setN); apply has_ofL; simp only [bxL]; omega)) only [↓bxD, bxP, bxQ, Nat.reduceBEq, reduceCtorEq, Nat.reduceAdd, Nat.reduceSub, Nat.reduceMul, Nat.reduceLeDiff, Nat.reduceLT, bxR, h1, h6, h7, h24, h25, d1, r1, r2, s1, s2, hg, hC, hg2, hC2]
            refine ⟨i + 1, by omega, by omega, fun k hk' => ?_, rfl⟩
            by_cases e : k = i
            · subst e; rw [hb, hb2]; rfl
            · exact hk k (by omega)
      · have d1 : decide ((i : Int) < (nn : Int)) = false := decide_eq_false (by omega)
        obtain rfl : i = nn := by omega
        have hnone : firstP (fun i => !(bAt R i) || !(bAt (S.map fun z => decide (0 ≤ z)) i)) g.names.toNat 0 = none := firstP_no fun m _ hm => hk m (by omega)
        simp (maxSteps := 4000000) (disch := first | omega | assumption | (simp only [bxS, bxV, stOk, Nat.reduceBEq, Nat.reduceEqDiff, Nat.reduceAdd]; done) | (simp only [bxU]; omega) | ((try apply has_setN); apply has_ofL; simp only [bxL]; omega)) only [↓bxD, bxP, bxQ, Nat.reduceBEq, reduceCtorEq, Nat.reduceAdd, Nat.reduceSub, Nat.reduceMul, Nat.reduceLeDiff, Nat.reduceLT, bxR, h1, h6, h7, h24, h25, d1, g4, hG]
        show Wp fns K9_4 _ _ _
        unfold K9_4
        simp (maxSteps := 4000000) (disch := first | omega | assumption | (simp only [bxS, bxV, stOk, Nat.reduceBEq, Nat.reduceEqDiff, Nat.reduceAdd]; done) | (simp only [bxU]; omega) | ((try apply has_setN); apply has_ofL; simp only [bxL]; omega)) only [↓bxD, bxP, bxQ, Nat.reduceBEq, reduceCtorEq, Nat.reduceAdd, Nat.reduceSub, Nat.reduceMul, Nat.reduceLeDiff, Nat.reduceLT, bxR, h1, h6, h7, h24, h25, d1, g4, hG]
        refine bindP_call (pcyclic_any hgr4 (by omega)) ?_
        rintro m5 M5 ⟨x5, ⟨hne, _⟩ | ⟨_, N', hN', hNr⟩⟩
        · exact absurd hz hne
        obtain rfl := nul_ext hN' hN
        simp (maxSteps := 4000000) (disch := first | omega | assumption | (simp only [bxS, bxV, stOk, Nat.reduceBEq, Nat.reduceEqDiff, Nat.reduceAdd]; done) | (simp only [bxU]; omega) | ((try apply has_setN); apply has_ofL; simp only [bxL]; omega)) only [↓bxD, bxP, bxQ, Nat.reduceBEq, reduceCtorEq, Nat.reduceAdd, Nat.reduceSub, Nat.reduceMul, Nat.reduceLeDiff, Nat.reduceLT, bxR, h1, h6, h7, h24, h25, d1, g4, hG]
        refine bindP_call (index_true hNr (by rw [cyL_len]; omega)) ?_
        rintro m6 M6 ⟨rfl, rfl⟩
        rw [cyL_len]
        cases e2 : firstP (bAt (cyL g N')) g.names.toNat 0 with
        | some k =>
          have d3 : decide (0 ≤ (k : Int)) = true := decide_eq_true (by omega)
          have hu := chk_cycle hz hR hS hN hnone e2
          simp (maxSteps := 4000000) (disch := first | omega | assumption | (simp only [bxS, bxV, stOk, Nat.reduceBEq, Nat.reduceEqDiff, Nat.reduceAdd]; done) | (simp only [bxU]; omega) | ((try apply has_setN); apply has_ofL; simp only [bxL]; omega)) only [↓bxD, bxP, bxQ, Nat.reduceBEq, reduceCtorEq, Nat.reduceAdd, Nat.reduceSub, Nat.reduceMul, Nat.reduceLeDiff, Nat.reduceLT, bxR, h1, h6, h7, h24, h25, d1, g4, hG, d3]
          exact ⟨x04.trans x5, _, hu, rfl⟩
        | none =>
          have hu := chk_fine hz hR hS hN hnone e2
          have d3 : decide ((0 : Int) ≤ -1) = false := rfl
          simp (maxSteps := 4000000) (disch := first | omega | assumption | (simp only [bxS, bxV, stOk, Nat.reduceBEq, Nat.reduceEqDiff, Nat.reduceAdd]; done) | (simp only [bxU]; omega) | ((try apply has_setN); apply has_ofL; simp only [bxL]; omega)) only [↓bxD, bxP, bxQ, Nat.reduceBEq, reduceCtorEq, Nat.reduceAdd, Nat.reduceSub, Nat.reduceMul, Nat.reduceLeDiff, Nat.reduceLT, bxR, h1, h6, h7, h24, h25, d1, g4, hG, d3]
          show Wp fns K9_3 _ _ _
          unfold K9_3
          simp (maxSteps := 4000000) (disch := first | omega | assumption | (simp only [bxS, bxV, stOk, Nat.reduceBEq, Nat.reduceEqDiff, Nat.reduceAdd]; done) | (simp only [bxU]; omega) | ((try apply has_setN); apply has_ofL; simp only [bxL]; omega)) only [↓bxD, bxP, bxQ, Nat.reduceBEq, reduceCtorEq, Nat.reduceAdd, Nat.reduceSub, Nat.reduceMul, Nat.reduceLeDiff, Nat.reduceLT, bxR, h1, h6, h7, h24, h25, d1, g4, hG]
          exact ⟨x04.trans x5, _, hu, rfl⟩
    · exact ⟨rfl, Nat.zero_le _, fun k hk => absurd hk (Nat.not_lt_zero k), by simp only [bxP, bxQ, reduceCtorEq, hG, g4, cg0], by simp only [bxP, bxQ, reduceCtorEq, hG, g4, cg0], by simp only [bxP, bxQ, reduceCtorEq, hG, g4, cg0], by simp only [bxP, bxQ, reduceCtorEq, hG, g4, cg0] <;> rfl, by simp only [bxP, bxQ, reduceCtorEq, hG, g4, cg0] <;> rfl⟩
  · have dz : decide ((formP g).2 ≠ 0) = true := decide_eq_true hz
    simp (maxSteps := 4000000) (disch := first | omega | assumption | (simp only [bxS, bxV, stOk, Nat.reduceBEq, Nat.reduceEqDiff, Nat.reduceAdd]; done) | (simp only [bxU]; omega) | ((try apply has_setN); apply has_ofL; simp only [bxL]; omega)) only [↓bxD, bxP, bxQ, Nat.reduceBEq, reduceCtorEq, Nat.reduceAdd, Nat.reduceSub, Nat.reduceMul, Nat.reduceLeDiff, Nat.reduceLT, bxR, hG, g2, dz]
    exact ⟨x02, formP g, .inl ⟨hz, rfl⟩, rfl⟩
def setMb (F : List (List Bool)) (a t : Nat) (b : Bool) : List (List Bool) := F.set a ((F.getD a []).set t b)
theorem setMb_at {F : List (List Bool)} {a t K : Nat} {b : Bool} (ha : a < F.length) (hs : ∀ x ∈ F, x.length = K) (ht : t < K) (i u : Nat) : mAt (setMb F a t b) i u = if i = a ∧ u = t then b else mAt F i u := by
  have hl : F[a]? = some F[a] := List.getElem?_eq_getElem ha
  have hFa : F.getD a [] = F[a] := by rw [List.getD_eq_getElem?_getD, hl]; rfl
  have hsz := hs _ (List.getElem_mem ha)
  unfold mAt setMb
  rw [List.getD_eq_getElem?_getD, List.getElem?_set]
  by_cases e : a = i
  · subst e
    rw [if_pos rfl, if_pos ha, Option.getD_some, bAt_set (by rw [hFa]; omega), hFa]
    by_cases e2 : t = u
    · subst e2; rw [if_pos rfl, if_pos ⟨rfl, rfl⟩]
    · rw [if_neg e2, if_neg (fun h => e2 h.2.symm)]
  · rw [if_neg e, if_neg (fun h => e h.1.symm), List.getD_eq_getElem?_getD]
theorem MatOwn.put {M : MH} {lo id : Nat} {ids : List Nat} {F : List (List Bool)} {K : Nat} (h : MatOwn M lo id ids F K) {a j t : Nat} (hj : ids[a]? = some j) (ht : t < K) :
    ∃ c, M.get j = some (.cs false 1 c) ∧ (∀ u, u < K → cget c (u * 1) = some (.b (mAt F a u))) ∧ hasB c 1 (t * 1) = true ∧ ∀ b, MatOwn (M.set j (some (.cs false 1 (setN [.b b] (t * 1) c)))) lo id ids (setMb F a t b) K := by
  have ha : a < ids.length := (List.getElem?_eq_some_iff.1 hj).1
  have haF : a < F.length := by rw [← h.len]; exact ha
  have hl : F[a]? = some F[a] := List.getElem?_eq_getElem haF
  have hFa : F.getD a [] = F[a] := by rw [List.getD_eq_getElem?_getD, hl]; rfl
  have hsz := h.size _ (List.getElem_mem haF)
  obtain ⟨c, c1, c2, c3, c4⟩ := (h.rows a j _ hj hl).read
  have hjm := List.mem_of_getElem? hj
  obtain ⟨n1, n2, n3⟩ := h.ne j hjm
  refine ⟨c, c1, fun u hu => ?_, c3 t (by rw [hsz]; exact ht), fun b => ?_⟩
  · unfold mAt
    rw [hFa]
    exact c2 u _ (bAt_at (by rw [hsz]; exact hu))
  · obtain ⟨tt, t1, t2⟩ := h.top
    refine ⟨⟨tt, by rw [set_ne (Ne.symm n1)]; exact t1, t2⟩, by unfold setMb; rw [List.length_set]; exact h.len, fun i j' l hj' hl' => ?_, fun x hx => ?_, h.ne, h.idl, h.inj⟩
    · unfold setMb at hl'
      rw [List.getElem?_set] at hl'
      by_cases e : a = i
      · subst e
        rw [if_pos rfl, if_pos haF] at hl'
        injection hl' with hl'
        subst hl'
        rw [hj] at hj'
        injection hj' with hj'
        subst hj'
        rw [hFa]
        exact ⟨_, set_same _ _, c4 t b (by rw [hsz]; exact ht)⟩
      · rw [if_neg e] at hl'
        have hne : j ≠ j' := fun e2 => e (h.inj a i j hj (by rw [e2]; exact hj'))
        exact (h.rows i j' l hj' hl').same (by rw [set_ne (Ne.symm hne)])
    · unfold setMb at hx
      rcases List.mem_or_eq_of_mem_set hx with h1 | h1
      · exact h.size x h1
      · rw [h1, List.length_set, hFa]; exact hsz
structure CyF (f : Fr) (n0 nn id i n8 k : Nat) (vn : MV) : Prop where
  h1 : X.ev f (.t q1) = .p n0 0
  h3 : X.ev f (.t q3) = vn
  h4 : X.ev f (.t q4) = .i .i64 (nn : Int)
  h5 : X.ev f (.t q5) = .sl id 0 nn 0
  h7 : X.ev f (.t q7) = .i .i64 (i : Int)
  h8 : X.ev f (.t q8) = .p n8 0
  h9 : X.ev f (.t q9) = .i .i64 (k : Int)
structure CCx (Mb : MH) (g : Gr) (vr vf vc vk : MV) (es : List (List MV)) (n0 nn : Nat) (vn : MV) (N : List Bool) : Prop where
  gr : GrAt Mb vr vf vc vk es g
  ok : GrOk g
  box : Mb.get n0 = some (.cs false 7 (ofL (gcs g vr vf vc vk) 0))
  n0lt : n0 < Mb.n
  lo : Mb.lo ≤ Mb.n
  nul : NulVec g N
  nrow : BRow Mb vn N
  hn : g.names = nn
structure CMt (Mb M : MH) (nn id : Nat) (ids : List Nat) (F : List (List Bool)) : Prop where
  ext : Ext Mb M
  mat : MatOwn M Mb.n id ids F nn
  len : F.length = nn
theorem CMt.step {Mb M M' : MH} {nn id : Nat} {ids : List Nat} {F : List (List Bool)} (h : CMt Mb M nn id ids F) (k : Ext M M') : CMt Mb M' nn id ids F := ⟨h.ext.trans k, h.mat.ext k, h.len⟩
def RelW (U : Nat → Nat → Bool) (k i j : Nat) (F : List (List Bool)) (nn : Nat) : Prop := ∀ x y, x < nn → y < nn → mAt F x y = if x < i ∨ (x = i ∧ y < j) then cyW U k x y else U x y
theorem RelW.here {U : Nat → Nat → Bool} {k i j nn : Nat} {F : List (List Bool)} (h : RelW U k i j F nn) (hi : i < nn) (hj : j < nn) : mAt F i j = U i j := by
  rw [h i j hi hj, if_neg (by omega)]
theorem RelW.to {U : Nat → Nat → Bool} {k i j nn : Nat} {F : List (List Bool)} (h : RelW U k i j F nn) (hi : i < nn) (hk : k < nn) : mAt F i k = U i k := by
  rw [h i k hi hk]
  split
  · exact cyW_to _ _ _
  · rfl
theorem RelW.step {U : Nat → Nat → Bool} {k i j nn : Nat} {F : List (List Bool)} (h : RelW U k i j F nn) (hl : F.length = nn) (hs : ∀ x ∈ F, x.length = nn) (hi : i < nn) (hj : j < nn) {b : Bool} (hb : b = cyW U k i j) : RelW U k i (j + 1) (setMb F i j b) nn := fun x y hx hy => by
  rw [setMb_at (by omega) hs hj]
  by_cases e : x = i ∧ y = j
  · rw [if_pos e, if_pos (by omega), hb, e.1, e.2]
  · rw [if_neg e, h x y hx hy]
    by_cases e2 : x < i ∨ (x = i ∧ y < j)
    · rw [if_pos e2, if_pos (by omega)]
    · rw [if_neg e2, if_neg (by omega)]
structure CyG (f : Fr) (nn id k i : Nat) : Prop where
  h4 : X.ev f (.t q4) = .i .i64 (nn : Int)
  h5 : X.ev f (.t q5) = .sl id 0 nn 0
  h12 : X.ev f (.t q12) = .i .i64 (k : Int)
  h13 : X.ev f (.t q13) = .i .i64 (i : Int)
structure CyH (f : Fr) (n0 nn id i : Nat) (vn : MV) : Prop where
  h1 : X.ev f (.t q1) = .p n0 0
  h3 : X.ev f (.t q3) = vn
  h4 : X.ev f (.t q4) = .i .i64 (nn : Int)
  h5 : X.ev f (.t q5) = .sl id 0 nn 0
  h7 : X.ev f (.t q7) = .i .i64 (i : Int)
structure CIni (Mb : MH) (n0 nn : Nat) (vn : MV) (i : Nat) (ids : List Nat) (f : Fr) (M : MH) : Prop where
  ext : Ext Mb M
  top : ∃ t, M.get Mb.n = some (.cs false 1 t) ∧ At t 0 ((ids.map fun j => MV.sl j 0 nn 0) ++ List.replicate (nn - i) .nils)
  top2 : Mb.n < M.n
  len : ids.length = i
  le : i ≤ nn
  rows : ∀ j ∈ ids, BoolsAt M j (List.replicate nn false)
  ne : ∀ j ∈ ids, j ≠ Mb.n ∧ Mb.n ≤ j ∧ j < M.n
  inj : ∀ (i i' : Nat) j, ids[i]? = some j → ids[i']? = some j → i = i'
  h1 : X.ev f (.t q1) = .p n0 0
  h3 : X.ev f (.t q3) = vn
  h4 : X.ev f (.t q4) = .i .i64 (nn : Int)
  h5 : X.ev f (.t q5) = .sl Mb.n 0 nn 0
  h6 : X.ev f (.t q6) = .i .i64 (i : Int)
theorem num_any {M : MH} {z : Int} : Cp fns 14 [.i .i64 z] M fun m M' => m = .i .i64 z ∧ M' = M := by
  refine Cp_call (fn := F14) (by kernel_rfl) (Nat.le_of_ble_eq_true rfl) ?_
  show Wp fns B14 (T.set q0 (some (.i .i64 z)) T.lf) M _
  unfold B14
  simp (maxSteps := 4000000) (disch := first | omega | assumption | (simp only [bxS, bxV, stOk, Nat.reduceBEq, Nat.reduceEqDiff, Nat.reduceAdd]; done) | (simp only [bxU]; omega) | ((try apply has_setN); apply has_ofL; simp only [bxL]; omega)) only [↓bxD, bxP, bxQ, Nat.reduceBEq, reduceCtorEq, Nat.reduceAdd, Nat.reduceSub, Nat.reduceMul, Nat.reduceLeDiff, Nat.reduceLT, bxR]
theorem Cp_true {fns : Nat → Option IFn} {g : Nat} {M : MH} (hg : fns g = some Ftrue) : Cp fns g [] M fun m M' => m = .b true ∧ M' = M := by
  refine Cp_call hg (Nat.le_refl _) ?_
  show Wp fns (.reg [⟨some (.k1 .d0), none, .mov (.c (.b true))⟩]) _ M _
  simp only [Wp_reg_iff, Wl_op_iff, Wl_nil_iff, bindP_some, ev_mov, ev_c, setD_some, retQ_norm, show Ftrue.res = [.tmp (.k1 .d0)] from rfl, resL_1, res_set, if_true, Option.some.injEq, exists_eq_left']
  simp [packM]
theorem own_sl {lo : Nat} {M : MH} {sz : Nat} {v : MV} {es : List (List MV)} (h : OwnRow lo M sz v es) : isSl v = true := (RowAt.sl h.row).1
theorem st_sl {v : MV} (h : isSl v = true) : stOk 1 v = true := by
  unfold stOk
  rw [isSl_cells h, isSl_isU h]
  simp only [all_cons, all_nil, isSl_one h]
  rfl
def RuleOwn (lo : Nat) (M : MH) (e : List MV) (r : Int × List Int × Int) : Prop := ∃ uu, e = [.i .i64 r.1, uu, .i .i64 r.2.2] ∧ OwnRow lo M 1 uu (ints r.2.1)
structure GB (b : Nat) (M : MH) (n k : Int) (rs : List (Int × List Int × Int)) (v : MV) (es : List (List MV)) : Prop where
  box : ∃ t, M.get b = some (.cs false 7 t) ∧ At t 0 [.i .i64 n, .i .i64 k, .i .i64 0, v, .nils, .nils, .nils]
  bn : b < M.n
  lo : M.lo ≤ b
  own : OwnRow (b + 1) M 3 v es
  len : es.length = rs.length
  at_ : ∀ (i : Nat) e r, es[i]? = some e → rs[i]? = some r → RuleOwn (b + 1) M e r
theorem GB.ext {b : Nat} {M M' : MH} {n k : Int} {rs : List (Int × List Int × Int)} {v : MV} {es : List (List MV)} (h : GB b M n k rs v es) (x : Ext M M') : GB b M' n k rs v es := by
  obtain ⟨⟨t, h1, h2⟩, h3, h4, h5, h6, h7⟩ := h
  have := x.n
  have := x.lo
  exact ⟨⟨t, (x.old b h3).trans h1, h2⟩, by omega, by omega, h5.ext x, h6, fun i e r a c => let ⟨uu, k1, k2⟩ := h7 i e r a c; ⟨uu, k1, k2.ext x⟩⟩
theorem GB.push {b : Nat} {M : MH} {n k : Int} {rs rs2 : List (Int × List Int × Int)} {v w : MV} {es es2 : List (List MV)} (h : GB b M n k rs v es) (hw : RowAt M 3 w es2) (hl2 : es2.length = rs2.length) (h2 : ∀ (i : Nat) e r, es2[i]? = some e → rs2[i]? = some r → RuleOwn (b + 1) M e r) (hb : rs.length + rs2.length ≤ 1000) :
    ∃ v' M3 t, appM M 3 40 v w = some (v', M3) ∧ M3.get b = some (.cs false 7 t) ∧ At t 0 [.i .i64 n, .i .i64 k, .i .i64 0, v, .nils, .nils, .nils] ∧ M3.lo ≤ b ∧ isSl v' = true ∧ GB b (M3.set b (some (.cs false 7 (setN [v'] 3 t)))) n k (rs ++ rs2) v' (es ++ es2) ∧ ∀ M0, Ext M0 M → M0.n ≤ b → Ext M0 (M3.set b (some (.cs false 7 (setN [v'] 3 t)))) := by
  have hlo := h.lo
  have hbn := h.bn
  have hlen := h.len
  have ho := h.own
  have hone : ∀ e ∈ es2, allOne e = true := fun e he => by
    obtain ⟨i, hi⟩ := List.getElem?_of_mem he
    have hil := (List.getElem?_eq_some_iff.1 hi).1
    obtain ⟨uu, rfl, hu⟩ := h2 i e _ hi (List.getElem?_eq_getElem (l := rs2) (by omega))
    have hs := own_sl hu
    cases uu <;> first | rfl | cases hs
  obtain ⟨v', M3, e1, e2, e3, e4, e5, e6⟩ := app_row (bytes := 40) ho hw (by omega) (by omega) hone (by omega) (by omega)
  obtain ⟨t, ht1, ht2⟩ := h.box
  have h7 : M3.get b = some (.cs false 7 t) := by rw [e6 b (by omega) (by omega)]; exact ht1
  have hsl := RowAt.sl e2.row
  have hne : ∀ j c, M.get j = some (.cs false 1 c) → ∀ a b n d, v = .sl a b n d → a ≠ j := fun j c hj a b' n' d e => by
    obtain ⟨_, ⟨rfl, _⟩ | ⟨id, c', rfl, k1, _, _, _⟩⟩ := ho
    · cases e
    · injection e with ea
      subst ea
      intro e'
      subst e'
      rw [hj] at k1
      injection k1 with k1
      injection k1 with _ k1
      cases k1
  have keep : ∀ e r, RuleOwn (b + 1) M e r → RuleOwn (b + 1) (M3.set b (some (.cs false 7 (setN [v'] 3 t)))) e r := fun e r ⟨uu, k1, k2⟩ => by
    refine ⟨uu, k1, ?_⟩
    obtain ⟨z, ⟨q1', q2'⟩ | ⟨id, c, q1', q2', q3', q4', q5'⟩⟩ := k2
    · exact ⟨z, .inl ⟨q1', q2'⟩⟩
    · refine ⟨z, .inr ⟨id, c, q1', ?_, q3', by rw [set_n]; omega, q5'⟩⟩
      rw [set_ne (by omega), e5 id q4' (hne id c q2')]
      exact q2'
  refine ⟨v', M3, t, e1, h7, ht2, by omega, hsl.1, ⟨⟨_, set_same _ _, ?_⟩, by rw [set_n]; omega, by rw [set_lo]; omega, ?_, by rw [List.length_append, List.length_append, hlen, hl2], fun i e r he hr => ?_⟩, fun M0 hx0 hb0 => ⟨by rw [set_n]; have := hx0.n; omega, by rw [set_lo, e4]; exact hx0.lo, fun j hj => ?_⟩⟩
  · have := ht2.set' 3 v' (by simp) (k := 3) rfl
    exact this
  · refine e2.keep (Nat.le_of_eq rfl) fun a b' n' d e => set_ne fun e' => ?_
    obtain ⟨_, ⟨rfl, hc⟩ | ⟨id, c', rfl, k1, k2, _, _⟩⟩ := e2
    · cases e
    · injection e with ea
      subst ea
      omega
  · by_cases hk : i < es.length
    · rw [List.getElem?_append_left hk] at he
      rw [List.getElem?_append_left (by omega)] at hr
      exact keep e r (h.at_ i e r he hr)
    · rw [List.getElem?_append_right (by omega)] at he
      rw [List.getElem?_append_right (by omega), ← hlen] at hr
      exact keep e r (h2 _ e r he hr)
  · have := hx0.n
    rw [set_ne (by omega), e6 j (by omega) (by omega)]
    exact hx0.old j hj
theorem row0 {M : MH} {sz : Nat} : RowAt M sz .nils [] := ⟨fun e h => by simp at h, .inl ⟨rfl, rfl⟩⟩
def gOf (n k : Int) (rs : List (Int × List Int × Int)) : Gr := ⟨n, k, 0, rs, [], [], []⟩
structure RsWf (n k : Int) (rs : List (Int × List Int × Int)) : Prop where
  n1 : 1 ≤ n ∧ n ≤ 40
  k1 : 0 ≤ k ∧ k ≤ 40
  len : rs.length ≤ 60
  left : ∀ r ∈ rs, 0 ≤ r.1 ∧ r.1 < n
  sym : ∀ r ∈ rs, ∀ s ∈ r.2.1, s < n ∧ -1 - s < k
  r8 : ∀ r ∈ rs, r.2.1.length ≤ 8
  dyn : ∀ r ∈ rs, r.2.2 = 0
theorem GB.gr {b : Nat} {M : MH} {n k : Int} {rs : List (Int × List Int × Int)} {v : MV} {es : List (List MV)} (h : GB b M n k rs v es) (hw : RsWf n k rs) : GrAt M v .nils .nils .nils es (gOf n k rs) := by
  have w0 : Wf64 (0 : Int) := ⟨by decide, by decide⟩
  obtain ⟨a1, a2⟩ := hw.n1
  obtain ⟨a3, a4⟩ := hw.k1
  have a5 := hw.len
  refine ⟨⟨h.own.row, h.len, fun i e r he hr => ?_⟩, row0, row0, row0, ⟨⟨?_, ?_⟩, ⟨?_, ?_⟩, w0, fun r hr => ?_, (fun f hf => by cases hf), (fun z hz => by cases hz), (fun z hz => by cases hz), ⟨?_, Nat.zero_le _, Nat.zero_le _, Nat.zero_le _⟩⟩⟩
  · obtain ⟨uu, k1, k2⟩ := h.at_ i e r he hr
    exact ⟨uu, k1, k2.row⟩
  · show (-9223372036854775808 : Int) ≤ n; omega
  · show n ≤ (9223372036854775807 : Int); omega
  · show (-9223372036854775808 : Int) ≤ k; omega
  · show k ≤ (9223372036854775807 : Int); omega
  · have b1 := hw.left r hr
    have b3 := hw.r8 r hr
    have b4 := hw.dyn r hr
    refine ⟨⟨by omega, by omega⟩, fun z hz => ?_, by rw [b4]; exact w0, by omega⟩
    have b2 := hw.sym r hr z hz
    exact ⟨by omega, by omega⟩
  · show rs.length ≤ 9223372036854775807; omega
theorem findE_nil {α : Type} {f : α → Option Int} : ∀ {l : List α} {i : Nat}, (∀ x ∈ l, f x = none) → findE f l i = none
  | [], _, _ => rfl
  | x :: l, i, h => by
    unfold findE
    rw [h x List.mem_cons_self]
    exact findE_nil fun y hy => h y (List.mem_cons_of_mem _ hy)
theorem form_of {n k : Int} {rs : List (Int × List Int × Int)} (hw : RsWf n k rs) : formP (gOf n k rs) = (-1, 0) := by
  obtain ⟨a1, a2⟩ := hw.n1
  obtain ⟨a3, a4⟩ := hw.k1
  have a5 := hw.len
  have h1 : headE (gOf n k rs) = none := by
    unfold headE gOf
    simp only [List.length_nil]
    rw [if_neg (by omega), if_neg (by omega), if_neg]
    rintro (h | h | h | h)
    · omega
    · omega
    · cases h
    · cases h
  have h2 : findE (ruleE (gOf n k rs)) rs 0 = none := findE_nil fun r hr => by
    obtain ⟨b1, b2⟩ := hw.left r hr
    have b3 := hw.r8 r hr
    have b4 := hw.dyn r hr
    unfold ruleE
    have : okR (gOf n k rs) r = true := by
      unfold okR
      simp only [Bool.and_eq_true, decide_eq_true_eq, List.all_eq_true]
      refine ⟨⟨b1, b2⟩, fun s hs => ?_⟩
      have b5 := hw.sym r hr s hs
      unfold symB gOf
      split
      · exact decide_eq_true b5.2
      · exact decide_eq_true b5.1
    rw [this, if_neg (by simp), if_neg (by omega), if_neg (by omega)]
  unfold formP
  rw [h1]
  show (match findE (ruleE (gOf n k rs)) rs 0 with
    | some (i, e) => ((i : Int), e)
    | none => _) = _
  rw [h2]
  rfl
theorem rch_at {g : Gr} {R : List Bool} (h : RchVec g R) (a : Nat) : bAt R a = true ↔ Rch g a := by
  rw [← h.2 a]
  unfold bAt
  rw [List.getD_eq_getElem?_getD]
  cases e : R[a]? with
  | none => simp
  | some b => simp
theorem prod_of {g : Gr} {l : List Int} (h : ShVec g l) {r : Int × List Int × Int} (hr : r ∈ g.rules) (ho : shOk l r.2.1 = true) : 0 ≤ l.getD r.1.toNat (-1) := by
  have hst := h.2 r hr
  have hp := shRow_pos.2 ho
  unfold shCond at hst
  rw [decide_eq_true hp, Bool.true_and, Bool.or_eq_false_iff] at hst
  have := hst.1
  simp only [decide_eq_false_iff_not] at this
  omega
theorem pAt {S : List Int} {a : Nat} : bAt (S.map fun z => decide (0 ≤ z)) a = decide (0 ≤ S.getD a (-1)) := by
  unfold bAt
  rw [List.getD_eq_getElem?_getD, List.getD_eq_getElem?_getD, List.getElem?_map]
  cases S[a]? <;> rfl
theorem shOk_iff {l r : List Int} : shOk l r = true ↔ ∀ s ∈ r, 0 ≤ s → 0 ≤ l.getD s.toNat (-1) := by
  unfold shOk
  rw [List.all_eq_true]
  constructor
  · intro h s hs h0
    have := h s hs
    unfold shV at this
    rw [if_neg (by omega), decide_eq_true_eq] at this
    exact this
  · intro h s hs
    unfold shV
    split
    · rfl
    · exact decide_eq_true (h s hs (by omega))
theorem chis_of {g : Gr} {z : Int × Int} (hz : (formP g).2 = 0) (h : ChIs g z) : ∃ R S N, RchVec g R ∧ ShVec g S ∧ NulVec g N ∧ z = chkV g.names.toNat R (S.map fun z => decide (0 ≤ z)) (cyL g N) := by
  rcases h with ⟨h, _⟩ | ⟨_, h⟩
  · exact absurd hz h
  · exact h
def usA (wh : Nat) (en : Bool) (i : Nat) : List (Int × List Int × Int) := if i ≠ wh ∨ en = false then [((i : Int), [-1], 0)] else []
def usB (wh : Nat) (en : Bool) (i : Nat) : List (Int × List Int × Int) := if 0 < i ∧ (i ≠ wh ∨ en = true) then [(0, [(i : Int), -1], 0)] else []
def usL (wh : Nat) (en : Bool) : Nat → List (Int × List Int × Int)
  | 0 => []
  | m + 1 => usL wh en m ++ usA wh en m ++ usB wh en m
def usG (n wh : Nat) (en : Bool) : Gr := gOf (n : Int) 1 (usL wh en n)
theorem usL_len (wh : Nat) (en : Bool) : ∀ m, (usL wh en m).length ≤ 2 * m
  | 0 => Nat.le_refl _
  | m + 1 => by
    have := usL_len wh en m
    have a : (usA wh en m).length ≤ 1 := by unfold usA; split <;> simp
    have b : (usB wh en m).length ≤ 1 := by unfold usB; split <;> simp
    unfold usL
    rw [List.length_append, List.length_append]
    omega
theorem us_mem {wh : Nat} {en : Bool} {r : Int × List Int × Int} : ∀ {m}, r ∈ usL wh en m → ∃ i, i < m ∧ ((r = ((i : Int), [-1], 0) ∧ (i ≠ wh ∨ en = false)) ∨ (r = (0, [(i : Int), -1], 0) ∧ 0 < i ∧ (i ≠ wh ∨ en = true)))
  | 0, h => by cases h
  | m + 1, h => by
    unfold usL at h
    rcases List.mem_append.1 h with h | h
    · rcases List.mem_append.1 h with h | h
      · obtain ⟨i, h1, h2⟩ := us_mem h
        exact ⟨i, by omega, h2⟩
      · unfold usA at h
        split at h
        · rename_i hc
          exact ⟨m, by omega, .inl ⟨List.mem_singleton.1 h, hc⟩⟩
        · cases h
    · unfold usB at h
      split at h
      · rename_i hc
        exact ⟨m, by omega, .inr ⟨List.mem_singleton.1 h, hc⟩⟩
      · cases h
theorem us_a {wh : Nat} {en : Bool} {i : Nat} (hc : i ≠ wh ∨ en = false) : ∀ {m}, i < m → ((i : Int), [(-1 : Int)], (0 : Int)) ∈ usL wh en m
  | 0, h => absurd h (Nat.not_lt_zero i)
  | m + 1, h => by
    unfold usL
    by_cases e : i = m
    · subst e
      refine List.mem_append.2 (.inl (List.mem_append.2 (.inr ?_)))
      unfold usA
      rw [if_pos hc]
      simp
    · exact List.mem_append.2 (.inl (List.mem_append.2 (.inl (us_a hc (by omega)))))
theorem us_b {wh : Nat} {en : Bool} {i : Nat} (h0 : 0 < i) (hc : i ≠ wh ∨ en = true) : ∀ {m}, i < m → ((0 : Int), [(i : Int), (-1 : Int)], (0 : Int)) ∈ usL wh en m
  | 0, h => absurd h (Nat.not_lt_zero i)
  | m + 1, h => by
    unfold usL
    by_cases e : i = m
    · subst e
      refine List.mem_append.2 (.inr ?_)
      unfold usB
      rw [if_pos ⟨h0, hc⟩]
      simp
    · exact List.mem_append.2 (.inl (List.mem_append.2 (.inl (us_b h0 hc (by omega)))))
theorem us_wf {n wh : Nat} {en : Bool} (h1 : 2 ≤ n) (h2 : n ≤ 20) : RsWf (n : Int) 1 (usL wh en n) := by
  have hl := usL_len wh en n
  refine ⟨by omega, by omega, by omega, fun r hr => ?_, fun r hr s hs => ?_, fun r hr => ?_, fun r hr => ?_⟩ <;> obtain ⟨i, hi, ⟨rfl, _⟩ | ⟨rfl, _⟩⟩ := us_mem hr
  · show (0 : Int) ≤ (i : Int) ∧ (i : Int) < (n : Int); omega
  · show (0 : Int) ≤ 0 ∧ (0 : Int) < (n : Int); omega
  · have := List.mem_singleton.1 hs; omega
  · simp only [List.mem_cons, List.not_mem_nil, or_false] at hs
    rcases hs with e | e <;> omega
  · show 1 ≤ 8; omega
  · show 2 ≤ 8; omega
  · rfl
  · rfl
theorem us_chk {n wh : Nat} {en : Bool} (h2 : n ≤ 20) (h3 : 1 ≤ wh) (h4 : wh < n) {z : Int × Int} (h : ChIs (usG n wh en) z) : z = ((wh : Int), 7) := by
  have hf : formP (usG n wh en) = (-1, 0) := form_of (us_wf (by omega) h2)
  have hok := form_ok (show (formP (usG n wh en)).2 = 0 by rw [hf])
  obtain ⟨R, S, N, hR, hS, hN, rfl⟩ := chis_of (by rw [hf]) h
  have hnn : (usG n wh en).names.toNat = n := Int.toNat_natCast n
  have rch : ∀ m, m < wh → Rch (usG n wh en) m := fun m hm => by
    have h0 : Rch (usG n wh en) 0 := Rch.start (g := usG n wh en)
    by_cases e : m = 0
    · subst e; exact h0
    · have := Rch.step (g := usG n wh en) _ (us_b (by omega) (.inl (by omega)) (show m < n by omega)) h0 (m : Int) (by simp) (by omega)
      rwa [Int.toNat_natCast] at this
  have prd : ∀ m, m < wh → 0 ≤ S.getD m (-1) := fun m hm => by
    have := prod_of hS (show ((m : Int), [(-1 : Int)], (0 : Int)) ∈ (usG n wh en).rules from us_a (.inl (by omega)) (show m < n by omega)) (shOk_iff.2 fun s hs h => by have := List.mem_singleton.1 hs; omega)
    rwa [Int.toNat_natCast] at this
  have bad : (!(bAt R wh) || !(bAt (S.map fun z => decide (0 ≤ z)) wh)) = true := by
    cases en with
    | true =>
      have : S.getD wh (-1) < 0 := by
        refine Decidable.byContradiction fun hc => ?_
        have hin := hS.inn hok
        have hl := hin.len
        rw [hnn] at hl
        have hs := List.getElem?_eq_getElem (l := S) (i := wh) (by omega)
        rw [List.getD_eq_getElem?_getD, hs, Option.getD_some] at hc
        obtain ⟨r, hr, h5, _⟩ := hin.met wh _ hs (by omega)
        obtain ⟨i, hi, ⟨rfl, hh⟩ | ⟨rfl, _⟩⟩ := us_mem (show r ∈ usL wh true n from hr)
        · simp only [Int.toNat_natCast] at h5
          rcases hh with hh | hh
          · exact hh h5
          · cases hh
        · simp only [Int.toNat_zero] at h5
          omega
      rw [pAt, decide_eq_false (by omega)]
      simp
    | false =>
      have : ¬ Rch (usG n wh false) wh := fun hc => by
        have key : ∀ a, Rch (usG n wh false) a → a ≠ wh := fun a ha => by
          cases ha with
          | start => show ((0 : Int)).toNat ≠ wh; simp; omega
          | step r hr _ s hs h0 =>
            obtain ⟨i, hi, ⟨rfl, hh⟩ | ⟨rfl, _, hh⟩⟩ := us_mem (show r ∈ usL wh false n from hr)
            · have := List.mem_singleton.1 hs; omega
            · simp only [List.mem_cons, List.not_mem_nil, or_false] at hs
              rcases hs with e | e
              · rw [e, Int.toNat_natCast]
                rcases hh with hh | hh
                · exact hh
                · cases hh
              · omega
        exact key wh hc rfl
      have hb : bAt R wh = false := by
        cases e : bAt R wh with
        | false => rfl
        | true => exact absurd ((rch_at hR wh).1 e) this
      rw [hb]
      rfl
  unfold chkV
  rw [hnn, firstP_is (k := wh) (Nat.zero_le _) (by omega) bad fun m _ hm => by
    rw [(rch_at hR m).2 (rch m hm), pAt, decide_eq_true (prd m hm)]; rfl]
section
variable {n : Nat} {bs tk : Bool} {at_ : Nat}
end
end Go.Proofs.Ytddaggodpmhmpaa.K
set_option linter.unusedSimpArgs false
set_option linter.unusedVariables false
namespace Go.Proofs.Ytddaggodpmhmpaa.K
open Go Ev
set_option maxRecDepth 100000
set_option maxHeartbeats 4000000

structure RgF (f : Fr) (n : Nat) (bs tk : Bool) (at_ b i : Nat) : Prop where
  h0 : X.ev f (.t q0) = .i .i64 (n : Int)
  h1 : X.ev f (.t q1) = .b bs
  h2 : X.ev f (.t q2) = .b tk
  h3 : X.ev f (.t q3) = .i .i64 (at_ : Int)
  h10 : X.ev f (.t q10) = .p b 0
  h11 : X.ev f (.t q11) = .i .i64 (i : Int)
theorem own_push {M : MH} {lo : Nat} {l : List Int} (h : lo ≤ M.n) : OwnRow lo (M.push (.cs false 1 (ofL (l.map (MV.i .i64)) 0))) 1 (.sl M.n 0 l.length 0) (ints l) := by
  refine ⟨fun e he => ?_, .inr ⟨M.n, _, by rw [ints_len], push_new _, h, by rw [push_n]; omega, by rw [flat_ints]; exact at_ofL _⟩⟩
  obtain ⟨b, _, rfl⟩ := List.mem_map.1 he; rfl
end Go.Proofs.Ytddaggodpmhmpaa.K
set_option linter.unusedSimpArgs false
set_option linter.unusedVariables false
set_option maxRecDepth 100000
namespace Go.Proofs.Ytddaggodpmhmpaa.Ev
open Go
theorem wf_of {z : Int} (h : (Lit.int .i64 z).wf = true) : Wf64 z := by
  simp only [Lit.wf, Bool.and_eq_true, decide_eq_true_eq] at h
  exact h
variable {P : Program} {M : MH}
theorem typed_int {n : Nat} {e : TypeId} (hu : P.underlying e = some (.int .i64)) {x : List MV} (h : Typed P M n e x) : ∃ z, x = [.i .i64 z] ∧ Wf64 z := by
  cases n with
  | zero => exact h.elim
  | succ n =>
    simp only [Typed, hu] at h
    obtain ⟨z, rfl, hz⟩ := h
    exact ⟨z, rfl, wf_of hz⟩
end Go.Proofs.Ytddaggodpmhmpaa.Ev
namespace Go.Proofs.Ytddaggodpmhmpaa
open Go Ev
end Go.Proofs.Ytddaggodpmhmpaa
set_option linter.unusedSimpArgs false
set_option linter.unusedVariables false
namespace Go.Proofs.Ytddaggodpmhmpaa.K
open Go Ev
set_option maxRecDepth 100000
set_option maxHeartbeats 4000000

theorem int_of {M : MH} {m : MV} (h : ArgTyped Try.prog M 3 m) : ∃ z, m = .i .i64 z ∧ Wf64 z := by
  obtain ⟨n, cs, h1, h2⟩ := h
  simp only [Try.underlying3] at h2
  subst h2
  obtain ⟨z, e, hz⟩ := typed_int Try.underlying3 h1
  injection e with e _
  exact ⟨z, e, hz⟩
theorem typed_bool {P : Program} {M : MH} {n : Nat} {e : TypeId} (hu : P.underlying e = some .bool) {x : List MV} (h : Typed P M n e x) : ∃ z, x = [.b z] := by
  cases n with
  | zero => exact h.elim
  | succ n =>
    simp only [Typed, hu] at h
    exact h
theorem bool_of {M : MH} {m : MV} (h : ArgTyped Try.prog M 4 m) : ∃ b, m = .b b := by
  obtain ⟨n, cs, h1, h2⟩ := h
  simp only [Try.underlying4] at h2
  subst h2
  obtain ⟨z, e⟩ := typed_bool Try.underlying4 h1
  injection e with e _
  exact ⟨z, e⟩
structure UsF (f : Fr) (n wh : Nat) (en : Bool) (b i : Nat) : Prop where
  h0 : X.ev f (.t q0) = .i .i64 (n : Int)
  h1 : X.ev f (.t q1) = .i .i64 (wh : Int)
  h2 : X.ev f (.t q2) = .b en
  h8 : X.ev f (.t q8) = .p b 0
  h9 : X.ev f (.t q9) = .i .i64 (i : Int)
theorem us_b_put {M0 M : MH} {f : Fr} {n wh : Nat} {en : Bool} {b i : Nat} {v : MV} {es : List (List MV)} (h : UsF f n wh en b i) (hb : GB b M ((n : Int)) 1 (usL wh en i ++ usA wh en i) v es) (hi : i < n) (hn : n ≤ 20) (Q : Post)
    (hQ : ∀ f' M' v' es', UsF f' n wh en b i → GB b M' (n : Int) 1 (usL wh en (i + 1)) v' es' → (∀ Mx, Ext Mx M → Mx.n ≤ b → Ext Mx M') → Q .norm f' M') : Wp fns K5_0 f M Q := by
  have g0 := h.h0
  have g1 := h.h1
  have g2 := h.h2
  have g8 := h.h8
  have g9 := h.h9
  simp only [q0, q1, q2, q8, q9] at g0 g1 g2 g8 g9
  obtain ⟨t0, hb0, hat0⟩ := hb.box
  have cv : cget t0 3 = some v := hat0 3 _ rfl
  have hlo := hb.lo
  have hbn := hb.bn
  have hul := usL_len wh en i
  have hal : (usA wh en i).length ≤ 1 := by unfold usA; split <;> simp
  have no : usB wh en i = [] → ∀ (f' : Fr), UsF f' n wh en b i → Q .norm f' M := fun e f' hf => hQ f' M v es hf (by
    show GB b M (n : Int) 1 (usL wh en i ++ usA wh en i ++ usB wh en i) v es
    rw [e, List.append_nil]; exact hb) fun Mx hx _ => hx
  have hf1 : fillM [(0, 1, MV.i .i64 (i : Int)), (1, 1, .i .i64 (Int.negSucc 0))] (zrow [MV.i .i64 0] 2) = some [.i .i64 (i : Int), .i .i64 (Int.negSucc 0)] := rfl
  have hf2 : fillM [(1, 1, MV.sl M.n 0 2 0)] [MV.i .i64 0, .nils, .i .i64 0] = some [.i .i64 0, .sl M.n 0 2 0, .i .i64 0] := rfl
  have hf3 : fillM [(0, 3, MV.ag [.i .i64 0, .sl M.n 0 2 0, .i .i64 0])] [MV.i .i64 0, .nils, .i .i64 0] = some [.i .i64 0, .sl M.n 0 2 0, .i .i64 0] := fill_ag rfl rfl
  have put : usB wh en i = [(0, [(i : Int), -1], 0)] → ∃ v' M3 t, appM ((M.push (.cs false 1 (ofL [.i .i64 (i : Int), .i .i64 (Int.negSucc 0)] 0))).push (.cs false 3 (ofL [.i .i64 0, .sl M.n 0 2 0, .i .i64 0] 0))) 3 40 v (.sl (M.n + 1) 0 1 0) = some (v', M3) ∧ M3.get b = some (.cs false 7 t) ∧ hasB t 1 3 = true ∧ M3.lo ≤ b ∧ isSl v' = true ∧ ∀ (f' : Fr), UsF f' n wh en b i → Q .norm f' (M3.set b (some (.cs false 7 (setN [v'] 3 t)))) := fun e => by
    have hE : Ext M ((M.push (.cs false 1 (ofL [.i .i64 (i : Int), .i .i64 (Int.negSucc 0)] 0))).push (.cs false 3 (ofL [.i .i64 0, .sl M.n 0 2 0, .i .i64 0] 0))) := (Ext.push M _).trans (.push _ _)
    obtain ⟨v', M3, t, e1, e2, e3, e4, e5, e6, e7⟩ := (hb.ext hE).push (rs2 := [(0, [(i : Int), -1], 0)]) (row_one (M := M.push _) (sz := 3) (e := [MV.i .i64 0, .sl M.n 0 2 0, .i .i64 0]) rfl) rfl (fun k e' r he hr => by
      cases k with
      | zero =>
        simp only [List.getElem?_cons_zero, Option.some.injEq] at he hr
        subst he hr
        exact ⟨.sl M.n 0 2 0, rfl, (own_push (M := M) (l := [(i : Int), -1]) (by omega)).ext (.push _ _)⟩
      | succ k => simp at he) (by rw [List.length_append]; show _ + 1 ≤ 1000; omega)
    refine ⟨v', M3, t, e1, e2, has_at e3 (Nat.zero_le _) (by simp), e4, e5, fun f' hf => hQ f' _ v' (es ++ [[.i .i64 0, .sl M.n 0 2 0, .i .i64 0]]) hf ?_ fun Mx hx hb' => e7 Mx (hx.trans hE) hb'⟩
    show GB b _ (n : Int) 1 (usL wh en i ++ usA wh en i ++ usB wh en i) v' _
    rw [e]
    exact e6
  unfold K5_0
  by_cases c0 : 0 < i
  · have d0 : decide (0 < (i : Int)) = true := decide_eq_true (by omega)
    by_cases c1 : i = wh
    · have d1 : decide ((i : Int) ≠ (wh : Int)) = false := decide_eq_false (by rw [c1]; simp)
      cases hen : en with
      | true =>
        rw [hen] at g2
        obtain ⟨v', M3, t, e1, e2, e3, e4, e5, e6⟩ := put (by unfold usB; rw [if_pos ⟨c0, .inr hen⟩])
        simp (maxSteps := 4000000) (disch := first | omega | assumption | (simp only [bxS, bxV, stOk, Nat.reduceBEq, Nat.reduceEqDiff, Nat.reduceAdd]; done) | (simp only [bxU]; omega) | ((try apply has_setN); apply has_ofL; simp only [bxL]; omega)) only [↓bxD, bxP, bxQ, bxQ2, Nat.reduceBEq, reduceCtorEq, Nat.reduceAdd, Nat.reduceSub, Nat.reduceMul, Nat.reduceLeDiff, Nat.reduceLT, bxR, g0, g1, g2, g8, g9, d0, d1, hb0, cv, hf1, hf2, hf3]
        refine bindP_of e1 ?_
        have hst := st_sl e5
        have hcl := isSl_cells e5
        simp (maxSteps := 4000000) (disch := first | omega | assumption | (simp only [bxS, bxV, stOk, Nat.reduceBEq, Nat.reduceEqDiff, Nat.reduceAdd]; done) | (simp only [bxU]; omega) | ((try apply has_setN); apply has_ofL; simp only [bxL]; omega)) only [↓bxD, bxP, bxQ, bxQ2, Nat.reduceBEq, reduceCtorEq, Nat.reduceAdd, Nat.reduceSub, Nat.reduceMul, Nat.reduceLeDiff, Nat.reduceLT, bxR, g0, g1, g2, g8, g9, d0, d1, hb0, cv, hf1, hf2, hf3, e2, e3, hcl]
        exact e6 _ (by rw [hen]; exact ⟨by simp only [bxP, bxQ, bxQ2, reduceCtorEq, g0, g1, g2, g8, g9, d0, d1, hb0, cv, hf1, hf2, hf3], by simp only [bxP, bxQ, bxQ2, reduceCtorEq, g0, g1, g2, g8, g9, d0, d1, hb0, cv, hf1, hf2, hf3], by simp only [bxP, bxQ, bxQ2, reduceCtorEq, g0, g1, g2, g8, g9, d0, d1, hb0, cv, hf1, hf2, hf3], by simp only [bxP, bxQ, bxQ2, reduceCtorEq, g0, g1, g2, g8, g9, d0, d1, hb0, cv, hf1, hf2, hf3], by simp only [bxP, bxQ, bxQ2, reduceCtorEq, g0, g1, g2, g8, g9, d0, d1, hb0, cv, hf1, hf2, hf3]⟩)
      | false =>
        rw [hen] at g2
        simp (maxSteps := 4000000) (disch := first | omega | assumption | (simp only [bxS, bxV, stOk, Nat.reduceBEq, Nat.reduceEqDiff, Nat.reduceAdd]; done) | (simp only [bxU]; omega) | ((try apply has_setN); apply has_ofL; simp only [bxL]; omega)) only [↓bxD, bxP, bxQ, bxQ2, Nat.reduceBEq, reduceCtorEq, Nat.reduceAdd, Nat.reduceSub, Nat.reduceMul, Nat.reduceLeDiff, Nat.reduceLT, bxR, g0, g1, g2, g8, g9, d0, d1]
        exact no (by unfold usB; rw [if_neg]; rintro ⟨_, h | h⟩; exact h c1; rw [hen] at h; cases h) _ (by rw [hen]; exact ⟨by simp only [bxP, bxQ, bxQ2, reduceCtorEq, g0, g1, g2, g8, g9, d0, d1], by simp only [bxP, bxQ, bxQ2, reduceCtorEq, g0, g1, g2, g8, g9, d0, d1], by simp only [bxP, bxQ, bxQ2, reduceCtorEq, g0, g1, g2, g8, g9, d0, d1], by simp only [bxP, bxQ, bxQ2, reduceCtorEq, g0, g1, g2, g8, g9, d0, d1], by simp only [bxP, bxQ, bxQ2, reduceCtorEq, g0, g1, g2, g8, g9, d0, d1]⟩)
    · have d1 : decide ((i : Int) ≠ (wh : Int)) = true := decide_eq_true (by omega)
      obtain ⟨v', M3, t, e1, e2, e3, e4, e5, e6⟩ := put (by unfold usB; rw [if_pos ⟨c0, .inl c1⟩])
      simp (maxSteps := 4000000) (disch := first | omega | assumption | (simp only [bxS, bxV, stOk, Nat.reduceBEq, Nat.reduceEqDiff, Nat.reduceAdd]; done) | (simp only [bxU]; omega) | ((try apply has_setN); apply has_ofL; simp only [bxL]; omega)) only [↓bxD, bxP, bxQ, bxQ2, Nat.reduceBEq, reduceCtorEq, Nat.reduceAdd, Nat.reduceSub, Nat.reduceMul, Nat.reduceLeDiff, Nat.reduceLT, bxR, g0, g1, g2, g8, g9, d0, d1, hb0, cv, hf1, hf2, hf3]
      refine bindP_of e1 ?_
      have hst := st_sl e5
      have hcl := isSl_cells e5
      simp (maxSteps := 4000000) (disch := first | omega | assumption | (simp only [bxS, bxV, stOk, Nat.reduceBEq, Nat.reduceEqDiff, Nat.reduceAdd]; done) | (simp only [bxU]; omega) | ((try apply has_setN); apply has_ofL; simp only [bxL]; omega)) only [↓bxD, bxP, bxQ, bxQ2, Nat.reduceBEq, reduceCtorEq, Nat.reduceAdd, Nat.reduceSub, Nat.reduceMul, Nat.reduceLeDiff, Nat.reduceLT, bxR, g0, g1, g2, g8, g9, d0, d1, hb0, cv, hf1, hf2, hf3, e2, e3, hcl]
      exact e6 _ ⟨by simp only [bxP, bxQ, bxQ2, reduceCtorEq, g0, g1, g2, g8, g9, d0, d1, hb0, cv, hf1, hf2, hf3], by simp only [bxP, bxQ, bxQ2, reduceCtorEq, g0, g1, g2, g8, g9, d0, d1, hb0, cv, hf1, hf2, hf3], by simp only [bxP, bxQ, bxQ2, reduceCtorEq, g0, g1, g2, g8, g9, d0, d1, hb0, cv, hf1, hf2, hf3], by simp only [bxP, bxQ, bxQ2, reduceCtorEq, g0, g1, g2, g8, g9, d0, d1, hb0, cv, hf1, hf2, hf3], by simp only [bxP, bxQ, bxQ2, reduceCtorEq, g0, g1, g2, g8, g9, d0, d1, hb0, cv, hf1, hf2, hf3]⟩
  · have d0 : decide (0 < (i : Int)) = false := decide_eq_false (by omega)
    simp (maxSteps := 4000000) (disch := first | omega | assumption | (simp only [bxS, bxV, stOk, Nat.reduceBEq, Nat.reduceEqDiff, Nat.reduceAdd]; done) | (simp only [bxU]; omega) | ((try apply has_setN); apply has_ofL; simp only [bxL]; omega)) only [↓bxD, bxP, bxQ, bxQ2, Nat.reduceBEq, reduceCtorEq, Nat.reduceAdd, Nat.reduceSub, Nat.reduceMul, Nat.reduceLeDiff, Nat.reduceLT, bxR, g0, g1, g2, g8, g9, d0]
    exact no (by unfold usB; rw [if_neg (fun h => c0 h.1)]) _ ⟨by simp only [bxP, bxQ, bxQ2, reduceCtorEq, g0, g1, g2, g8, g9, d0], by simp only [bxP, bxQ, bxQ2, reduceCtorEq, g0, g1, g2, g8, g9, d0], by simp only [bxP, bxQ, bxQ2, reduceCtorEq, g0, g1, g2, g8, g9, d0], by simp only [bxP, bxQ, bxQ2, reduceCtorEq, g0, g1, g2, g8, g9, d0], by simp only [bxP, bxQ, bxQ2, reduceCtorEq, g0, g1, g2, g8, g9, d0]⟩
theorem us_loop {M : MH} {f : Fr} {n wh : Nat} {en : Bool} {b : Nat} {v : MV} {es : List (List MV)} (h : UsF f n wh en b 0) (hb : GB b M (n : Int) 1 (usL wh en 0) v es) (hn1 : 2 ≤ n) (hn : n ≤ 20) (Q : Post)
    (hQ : ∀ f' M' v' es', UsF f' n wh en b n → GB b M' (n : Int) 1 (usL wh en n) v' es' → (∀ Mx, Ext Mx M → Mx.n ≤ b → Ext Mx M') → Q .norm f' M') : Wp fns (.loop L5_3) f M (blockQ 0 Q) := by
  refine Wp_inv (σ := Nat × MV × List (List MV)) (fun s f' M' => s.1 ≤ n ∧ UsF f' n wh en b s.1 ∧ GB b M' (n : Int) 1 (usL wh en s.1) s.2.1 s.2.2 ∧ ∀ Mx, Ext Mx M → Mx.n ≤ b → Ext Mx M') (fun s => n - s.1) ?_ (0, v, es) ?_
  · clear h hb
    rintro ⟨i, v, es⟩ f M1 ⟨hi, h, hb, hmx⟩
    simp only at hi h hb hmx
    have g0 := h.h0
    have g1 := h.h1
    have g2 := h.h2
    have g8 := h.h8
    have g9 := h.h9
    simp only [q0, q1, q2, q8, q9] at g0 g1 g2 g8 g9
    have hl := hb.lo
    have hbn := hb.bn
    unfold L5_3
    by_cases hi' : i < n
    · have d1 : decide ((i : Int) < (n : Int)) = true := decide_eq_true (by omega)
      have wi : wrapF .i64 ((i : Int) + 1) = (i : Int) + 1 := wrap_in (by omega) (by omega)
      have hul := usL_len wh en i
      have hrest : ∀ f' M' v' es', UsF f' n wh en b i → GB b M' (n : Int) 1 (usL wh en (i + 1)) v' es' → ∀ Q : Post, (∀ f'', UsF f'' n wh en b (i + 1) → Q .norm f'' M') → Wp fns K5_1 f' M' Q := fun f' M' v' es' a1 a2 Q hQ => by
        have k0 := a1.h0
        have k1 := a1.h1
        have k2 := a1.h2
        have k8 := a1.h8
        have k9 := a1.h9
        simp only [q0, q1, q2, q8, q9] at k0 k1 k2 k8 k9
        unfold K5_1
        simp (maxSteps := 4000000) (disch := first | omega | assumption | (simp only [bxS, bxV, stOk, Nat.reduceBEq, Nat.reduceEqDiff, Nat.reduceAdd]; done) | (simp only [bxU]; omega) | ((try apply has_setN); apply has_ofL; simp only [bxL]; omega)) only [↓bxD, bxP, bxQ, bxQ2, Nat.reduceBEq, reduceCtorEq, Nat.reduceAdd, Nat.reduceSub, Nat.reduceMul, Nat.reduceLeDiff, Nat.reduceLT, bxR, k0, k1, k2, k8, k9]
        exact hQ _ ⟨by simp (maxSteps := 4000000) (disch := first | omega | assumption | (simp only [bxS, bxV, stOk, Nat.reduceBEq, Nat.reduceEqDiff, Nat.reduceAdd]; done) | (simp only [bxU]; omega) | ((try apply has_setN); apply has_ofL; simp only [bxL]; omega)) only [↓bxD, bxP, bxQ, bxQ2, Nat.reduceBEq, reduceCtorEq, Nat.reduceAdd, Nat.reduceSub, Nat.reduceMul, Nat.reduceLeDiff, Nat.reduceLT, bxR, k0], by simp (maxSteps := 4000000) (disch := first | omega | assumption | (simp only [bxS, bxV, stOk, Nat.reduceBEq, Nat.reduceEqDiff, Nat.reduceAdd]; done) | (simp only [bxU]; omega) | ((try apply has_setN); apply has_ofL; simp only [bxL]; omega)) only [↓bxD, bxP, bxQ, bxQ2, Nat.reduceBEq, reduceCtorEq, Nat.reduceAdd, Nat.reduceSub, Nat.reduceMul, Nat.reduceLeDiff, Nat.reduceLT, bxR, k1], by simp (maxSteps := 4000000) (disch := first | omega | assumption | (simp only [bxS, bxV, stOk, Nat.reduceBEq, Nat.reduceEqDiff, Nat.reduceAdd]; done) | (simp only [bxU]; omega) | ((try apply has_setN); apply has_ofL; simp only [bxL]; omega)) only [↓bxD, bxP, bxQ, bxQ2, Nat.reduceBEq, reduceCtorEq, Nat.reduceAdd, Nat.reduceSub, Nat.reduceMul, Nat.reduceLeDiff, Nat.reduceLT, bxR, k2], by simp (maxSteps := 4000000) (disch := first | omega | assumption | (simp only [bxS, bxV, stOk, Nat.reduceBEq, Nat.reduceEqDiff, Nat.reduceAdd]; done) | (simp only [bxU]; omega) | ((try apply has_setN); apply has_ofL; simp only [bxL]; omega)) only [↓bxD, bxP, bxQ, bxQ2, Nat.reduceBEq, reduceCtorEq, Nat.reduceAdd, Nat.reduceSub, Nat.reduceMul, Nat.reduceLeDiff, Nat.reduceLT, bxR, k8], by simp (maxSteps := 4000000) (disch := first | omega | assumption | (simp only [bxS, bxV, stOk, Nat.reduceBEq, Nat.reduceEqDiff, Nat.reduceAdd]; done) | (simp only [bxU]; omega) | ((try apply has_setN); apply has_ofL; simp only [bxL]; omega)) only [↓bxD, bxP, bxQ, bxQ2, Nat.reduceBEq, reduceCtorEq, Nat.reduceAdd, Nat.reduceSub, Nat.reduceMul, Nat.reduceLeDiff, Nat.reduceLT, bxR, k9] <;> rfl⟩
      have hf1 : fillM [(0, 1, MV.i .i64 (Int.negSucc 0))] [MV.i .i64 0] = some [.i .i64 (Int.negSucc 0)] := rfl
      have hf2 : fillM [(0, 1, MV.i .i64 (i : Int)), (1, 1, .sl M1.n 0 1 0)] [MV.i .i64 0, .nils, .i .i64 0] = some [.i .i64 (i : Int), .sl M1.n 0 1 0, .i .i64 0] := rfl
      have hf3 : fillM [(0, 3, MV.ag [.i .i64 (i : Int), .sl M1.n 0 1 0, .i .i64 0])] [MV.i .i64 0, .nils, .i .i64 0] = some [.i .i64 (i : Int), .sl M1.n 0 1 0, .i .i64 0] := fill_ag rfl rfl
      have hst3 : stOk 3 (.ag [.i .i64 (i : Int), .sl M1.n 0 1 0, .i .i64 0]) = true := rfl
      have hgp : ((M1.push (.cs false 1 (ofL [.i .i64 (Int.negSucc 0)] 0))).push (.cs false 3 (ofL [.i .i64 0, .nils, .i .i64 0] 0))).get (M1.n + 1) = some (.cs false 3 (ofL [.i .i64 0, .nils, .i .i64 0] 0)) := push_new (M := M1.push _) _
      simp (maxSteps := 4000000) (disch := first | omega | assumption | (simp only [bxS, bxV, stOk, Nat.reduceBEq, Nat.reduceEqDiff, Nat.reduceAdd]; done) | (simp only [bxU]; omega) | ((try apply has_setN); apply has_ofL; simp only [bxL]; omega)) only [↓bxD, bxP, bxQ, bxQ2, Nat.reduceBEq, reduceCtorEq, Nat.reduceAdd, Nat.reduceSub, Nat.reduceMul, Nat.reduceLeDiff, Nat.reduceLT, bxR, g0, g1, g2, g8, g9, d1, hf1, hf2, hst3, hgp]
      show Wp fns K5_2 _ _ _
      unfold K5_2
      simp (maxSteps := 4000000) (disch := first | omega | assumption | (simp only [bxS, bxV, stOk, Nat.reduceBEq, Nat.reduceEqDiff, Nat.reduceAdd]; done) | (simp only [bxU]; omega) | ((try apply has_setN); apply has_ofL; simp only [bxL]; omega)) only [↓bxD, bxP, bxQ, bxQ2, Nat.reduceBEq, reduceCtorEq, Nat.reduceAdd, Nat.reduceSub, Nat.reduceMul, Nat.reduceLeDiff, Nat.reduceLT, bxR, g0, g1, g2, g8, g9, d1, hf1, hf2, hst3, hgp]
      generalize hM2 : ((M1.push _).push _).set (M1.n + 1) _ = M2
      have x2 : Ext M1 M2 := by rw [← hM2]; exact ((Ext.push M1 _).trans (.push _ _)).set _ (by omega)
      have n2 : M2.n = M1.n + 2 := by rw [← hM2]; rfl
      have g10 : M2.get (M1.n + 1) = some (.cs false 3 (setN [.i .i64 (i : Int), .sl M1.n 0 1 0, .i .i64 0] 0 (ofL [.i .i64 0, .nils, .i .i64 0] 0))) := by rw [← hM2, set_same]
      have gm : M2.get M1.n = some (.cs false 1 (ofL [.i .i64 (Int.negSucc 0)] 0)) := by rw [← hM2, set_ne (by omega), push_old (by rw [push_n]; omega)]; exact push_new _
      have c10 : Ev.getN (setN [.i .i64 (i : Int), .sl M1.n 0 1 0, .i .i64 0] 0 (ofL [.i .i64 0, .nils, .i .i64 0] 0)) 3 0 = some [.i .i64 (i : Int), .sl M1.n 0 1 0, .i .i64 0] := (at_setN _ _ _ : At _ 0 [MV.i .i64 (i : Int), .sl M1.n 0 1 0, .i .i64 0]).getN
      generalize setN [.i .i64 (i : Int), .sl M1.n 0 1 0, .i .i64 0] 0 (ofL [.i .i64 0, .nils, .i .i64 0] 0) = cc at g10 c10
      clear hM2
      have hown : OwnRow (b + 1) M2 1 (.sl M1.n 0 1 0) (ints [-1]) := ⟨fun e he => (by obtain ⟨_, _, rfl⟩ := List.mem_map.1 he; rfl), .inr ⟨M1.n, _, rfl, gm, by omega, by omega, at_ofL _⟩⟩
      have hb2 := hb.ext x2
      have l2 := x2.lo
      obtain ⟨t0, hb0, hat0⟩ := hb2.box
      have cv : cget t0 3 = some v := hat0 3 _ rfl
      have fin : ∀ (M3 : MH) (v' : MV) (es' : List (List MV)), GB b M3 (n : Int) 1 (usL wh en i ++ usA wh en i) v' es' → (∀ Mx, Ext Mx M1 → Mx.n ≤ b → Ext Mx M3) → ∀ f' : Fr, UsF f' n wh en b i → Wp fns K5_0 f' M3 (blockQ 1 (thenQ fns K5_1 fun ex f' M' => match ex with
          | Ex.norm => ∃ s' : Nat × MV × List (List MV), n - s'.1 < n - i ∧ s'.1 ≤ n ∧ UsF f' n wh en b s'.1 ∧ GB b M' (n : Int) 1 (usL wh en s'.1) s'.2.1 s'.2.2 ∧ ∀ Mx, Ext Mx M → Mx.n ≤ b → Ext Mx M'
          | ex => blockQ 0 Q ex f' M')) := fun M3 v' es' h1 h2 f' hf => by
        refine us_b_put (M0 := M1) hf h1 hi' hn _ fun f2 M4 v2 es2 a1 a2 a3 => ?_
        exact hrest f2 M4 v2 es2 a1 a2 _ fun f3 a4 => ⟨(i + 1, v2, es2), by simp only; omega, by simp only; omega, a4, a2, fun Mx hm hb' => a3 Mx (h2 Mx (hmx Mx hm hb') hb') hb'⟩
      by_cases hc : i ≠ wh ∨ en = false
      · have hA : usA wh en i = [((i : Int), [-1], 0)] := by unfold usA; rw [if_pos hc]
        have hE : Ext M2 (M2.push (.cs false 3 (ofL [.i .i64 (i : Int), .sl M1.n 0 1 0, .i .i64 0] 0))) := .push _ _
        obtain ⟨v', M3, t, e1, e2, e3, e4, e5, e6, e7⟩ := (hb2.ext hE).push (rs2 := [((i : Int), [-1], 0)]) (row_one (M := M2) (sz := 3) (e := [.i .i64 (i : Int), .sl M1.n 0 1 0, .i .i64 0]) rfl) rfl (fun k e' r he hr => by
          cases k with
          | zero =>
            simp only [List.getElem?_cons_zero, Option.some.injEq] at he hr
            subst he hr
            exact ⟨_, rfl, hown.ext (.push _ _)⟩
          | succ k => simp at he) (by show _ + 1 ≤ 1000; omega)
        have hst := st_sl e5
        have hcl := isSl_cells e5
        have hb3 : hasB t 1 3 = true := has_at e3 (Nat.zero_le _) (by simp)
        rw [← hA] at e6
        have e8 : ∀ Mx, Ext Mx M1 → Mx.n ≤ b → Ext Mx (M3.set b (some (.cs false 7 (setN [v'] 3 t)))) := fun Mx hm hb' => e7 Mx ((hm.trans x2).trans hE) hb'
        by_cases c1 : i = wh
        · have d2 : decide ((i : Int) ≠ (wh : Int)) = false := decide_eq_false (by rw [c1]; simp)
          have hen : en = false := hc.resolve_left (fun h => h c1)
          subst hen
          simp (maxSteps := 4000000) (disch := first | omega | assumption | (simp only [bxS, bxV, stOk, Nat.reduceBEq, Nat.reduceEqDiff, Nat.reduceAdd]; done) | (simp only [bxU]; omega) | ((try apply has_setN); apply has_ofL; simp only [bxL]; omega)) only [↓bxD, bxP, bxQ, bxQ2, Nat.reduceBEq, reduceCtorEq, Nat.reduceAdd, Nat.reduceSub, Nat.reduceMul, Nat.reduceLeDiff, Nat.reduceLT, bxR, g0, g1, g2, g8, g9, d2, hb0, cv, g10, c10, hf3]
          refine bindP_of e1 ?_
          simp (maxSteps := 4000000) (disch := first | omega | assumption | (simp only [bxS, bxV, stOk, Nat.reduceBEq, Nat.reduceEqDiff, Nat.reduceAdd]; done) | (simp only [bxU]; omega) | ((try apply has_setN); apply has_ofL; simp only [bxL]; omega)) only [↓bxD, bxP, bxQ, bxQ2, Nat.reduceBEq, reduceCtorEq, Nat.reduceAdd, Nat.reduceSub, Nat.reduceMul, Nat.reduceLeDiff, Nat.reduceLT, bxR, g0, g1, g2, g8, g9, d2, hb0, cv, g10, c10, hf3, e2, hb3, hcl]
          exact fin _ v' _ e6 e8 _ ⟨by simp only [bxP, bxQ, bxQ2, reduceCtorEq, g0, g1, g2, g8, g9, d2, hb0, cv, g10, c10, hf3], by simp only [bxP, bxQ, bxQ2, reduceCtorEq, g0, g1, g2, g8, g9, d2, hb0, cv, g10, c10, hf3], by simp only [bxP, bxQ, bxQ2, reduceCtorEq, g0, g1, g2, g8, g9, d2, hb0, cv, g10, c10, hf3], by simp only [bxP, bxQ, bxQ2, reduceCtorEq, g0, g1, g2, g8, g9, d2, hb0, cv, g10, c10, hf3], by simp only [bxP, bxQ, bxQ2, reduceCtorEq, g0, g1, g2, g8, g9, d2, hb0, cv, g10, c10, hf3]⟩
        · have d2 : decide ((i : Int) ≠ (wh : Int)) = true := decide_eq_true (by omega)
          simp (maxSteps := 4000000) (disch := first | omega | assumption | (simp only [bxS, bxV, stOk, Nat.reduceBEq, Nat.reduceEqDiff, Nat.reduceAdd]; done) | (simp only [bxU]; omega) | ((try apply has_setN); apply has_ofL; simp only [bxL]; omega)) only [↓bxD, bxP, bxQ, bxQ2, Nat.reduceBEq, reduceCtorEq, Nat.reduceAdd, Nat.reduceSub, Nat.reduceMul, Nat.reduceLeDiff, Nat.reduceLT, bxR, g0, g1, g2, g8, g9, d2, hb0, cv, g10, c10, hf3]
          refine bindP_of e1 ?_
          simp (maxSteps := 4000000) (disch := first | omega | assumption | (simp only [bxS, bxV, stOk, Nat.reduceBEq, Nat.reduceEqDiff, Nat.reduceAdd]; done) | (simp only [bxU]; omega) | ((try apply has_setN); apply has_ofL; simp only [bxL]; omega)) only [↓bxD, bxP, bxQ, bxQ2, Nat.reduceBEq, reduceCtorEq, Nat.reduceAdd, Nat.reduceSub, Nat.reduceMul, Nat.reduceLeDiff, Nat.reduceLT, bxR, g0, g1, g2, g8, g9, d2, hb0, cv, g10, c10, hf3, e2, hb3, hcl]
          exact fin _ v' _ e6 e8 _ ⟨by simp only [bxP, bxQ, bxQ2, reduceCtorEq, g0, g1, g2, g8, g9, d2, hb0, cv, g10, c10, hf3], by simp only [bxP, bxQ, bxQ2, reduceCtorEq, g0, g1, g2, g8, g9, d2, hb0, cv, g10, c10, hf3], by simp only [bxP, bxQ, bxQ2, reduceCtorEq, g0, g1, g2, g8, g9, d2, hb0, cv, g10, c10, hf3], by simp only [bxP, bxQ, bxQ2, reduceCtorEq, g0, g1, g2, g8, g9, d2, hb0, cv, g10, c10, hf3], by simp only [bxP, bxQ, bxQ2, reduceCtorEq, g0, g1, g2, g8, g9, d2, hb0, cv, g10, c10, hf3]⟩
      · have hA : usA wh en i = [] := by unfold usA; rw [if_neg hc]
        have c1 : i = wh := Decidable.byContradiction fun h => hc (.inl h)
        have d2 : decide ((i : Int) ≠ (wh : Int)) = false := decide_eq_false (by rw [c1]; simp)
        have hen : en = true := by cases en with
          | true => rfl
          | false => exact absurd (.inr rfl) hc
        subst hen
        simp (maxSteps := 4000000) (disch := first | omega | assumption | (simp only [bxS, bxV, stOk, Nat.reduceBEq, Nat.reduceEqDiff, Nat.reduceAdd]; done) | (simp only [bxU]; omega) | ((try apply has_setN); apply has_ofL; simp only [bxL]; omega)) only [↓bxD, bxP, bxQ, bxQ2, Nat.reduceBEq, reduceCtorEq, Nat.reduceAdd, Nat.reduceSub, Nat.reduceMul, Nat.reduceLeDiff, Nat.reduceLT, bxR, g0, g1, g2, g8, g9, d2]
        refine fin M2 v es (by rw [hA, List.append_nil]; exact hb2) (fun Mx hm _ => hm.trans x2) _ ⟨by simp only [bxP, bxQ, bxQ2, reduceCtorEq, g0, g1, g2, g8, g9, d2], by simp only [bxP, bxQ, bxQ2, reduceCtorEq, g0, g1, g2, g8, g9, d2], by simp only [bxP, bxQ, bxQ2, reduceCtorEq, g0, g1, g2, g8, g9, d2], by simp only [bxP, bxQ, bxQ2, reduceCtorEq, g0, g1, g2, g8, g9, d2], by simp only [bxP, bxQ, bxQ2, reduceCtorEq, g0, g1, g2, g8, g9, d2]⟩
    · have d1 : decide ((i : Int) < (n : Int)) = false := decide_eq_false (by omega)
      obtain rfl : i = n := by omega
      simp (maxSteps := 4000000) (disch := first | omega | assumption | (simp only [bxS, bxV, stOk, Nat.reduceBEq, Nat.reduceEqDiff, Nat.reduceAdd]; done) | (simp only [bxU]; omega) | ((try apply has_setN); apply has_ofL; simp only [bxL]; omega)) only [↓bxD, bxP, bxQ, bxQ2, Nat.reduceBEq, reduceCtorEq, Nat.reduceAdd, Nat.reduceSub, Nat.reduceMul, Nat.reduceLeDiff, Nat.reduceLT, bxR, g0, g1, g2, g8, g9, d1]
      exact hQ _ _ v es ⟨by simp only [bxP, bxQ, bxQ2, reduceCtorEq, g0, g1, g2, g8, g9, d1], by simp only [bxP, bxQ, bxQ2, reduceCtorEq, g0, g1, g2, g8, g9, d1], by simp only [bxP, bxQ, bxQ2, reduceCtorEq, g0, g1, g2, g8, g9, d1], by simp only [bxP, bxQ, bxQ2, reduceCtorEq, g0, g1, g2, g8, g9, d1], by simp only [bxP, bxQ, bxQ2, reduceCtorEq, g0, g1, g2, g8, g9, d1]⟩ hb hmx
  · exact ⟨Nat.zero_le _, h, hb, fun Mx hx _ => hx⟩
theorem law_useless {M : MH} {z0 z1 : Int} {en : Bool} (hlo : M.lo ≤ M.n) (ha : ∀ M', Ext M M' → Cp fns 7 [] M' fun m M2 => m = .b true ∧ M2 = M') : Cp fns 5 [.i .i64 z0, .i .i64 z1, .b en] M fun m _ => m = .b true := by
  refine Cp_call (fn := F5) (by kernel_rfl) (Nat.le_of_ble_eq_true rfl) ?_
  show Wp fns B5 (T.set q2 (some (.b en)) (T.set q1 (some (.i .i64 z1)) (T.set q0 (some (.i .i64 z0)) T.lf))) M _
  unfold B5
  simp (maxSteps := 4000000) (disch := first | omega | assumption | (simp only [bxS, bxV, stOk, Nat.reduceBEq, Nat.reduceEqDiff, Nat.reduceAdd]; done) | (simp only [bxU]; omega) | ((try apply has_setN); apply has_ofL; simp only [bxL]; omega)) only [↓bxD, bxP, bxQ, bxQ2, Nat.reduceBEq, reduceCtorEq, Nat.reduceAdd, Nat.reduceSub, Nat.reduceMul, Nat.reduceLeDiff, Nat.reduceLT, bxR]
  refine bindP_call (ha _ (.refl _)) ?_
  rintro m M2 ⟨rfl, rfl⟩
  by_cases c1 : z0 < 2
  · have d1 : decide (z0 < 2) = true := decide_eq_true c1
    simp (maxSteps := 4000000) (disch := first | omega | assumption | (simp only [bxS, bxV, stOk, Nat.reduceBEq, Nat.reduceEqDiff, Nat.reduceAdd]; done) | (simp only [bxU]; omega) | ((try apply has_setN); apply has_ofL; simp only [bxL]; omega)) only [↓bxD, bxP, bxQ, bxQ2, Nat.reduceBEq, reduceCtorEq, Nat.reduceAdd, Nat.reduceSub, Nat.reduceMul, Nat.reduceLeDiff, Nat.reduceLT, bxR, d1]
  have d1 : decide (z0 < 2) = false := decide_eq_false c1
  by_cases c2 : 20 < z0
  · have d2 : decide (20 < z0) = true := decide_eq_true c2
    simp (maxSteps := 4000000) (disch := first | omega | assumption | (simp only [bxS, bxV, stOk, Nat.reduceBEq, Nat.reduceEqDiff, Nat.reduceAdd]; done) | (simp only [bxU]; omega) | ((try apply has_setN); apply has_ofL; simp only [bxL]; omega)) only [↓bxD, bxP, bxQ, bxQ2, Nat.reduceBEq, reduceCtorEq, Nat.reduceAdd, Nat.reduceSub, Nat.reduceMul, Nat.reduceLeDiff, Nat.reduceLT, bxR, d1, d2]
  have d2 : decide (20 < z0) = false := decide_eq_false c2
  by_cases c3 : z1 < 1
  · have d3 : decide (z1 < 1) = true := decide_eq_true c3
    simp (maxSteps := 4000000) (disch := first | omega | assumption | (simp only [bxS, bxV, stOk, Nat.reduceBEq, Nat.reduceEqDiff, Nat.reduceAdd]; done) | (simp only [bxU]; omega) | ((try apply has_setN); apply has_ofL; simp only [bxL]; omega)) only [↓bxD, bxP, bxQ, bxQ2, Nat.reduceBEq, reduceCtorEq, Nat.reduceAdd, Nat.reduceSub, Nat.reduceMul, Nat.reduceLeDiff, Nat.reduceLT, bxR, d1, d2, d3]
  have d3 : decide (z1 < 1) = false := decide_eq_false c3
  by_cases c4 : z0 ≤ z1
  · have d4 : decide (z0 ≤ z1) = true := decide_eq_true c4
    simp (maxSteps := 4000000) (disch := first | omega | assumption | (simp only [bxS, bxV, stOk, Nat.reduceBEq, Nat.reduceEqDiff, Nat.reduceAdd]; done) | (simp only [bxU]; omega) | ((try apply has_setN); apply has_ofL; simp only [bxL]; omega)) only [↓bxD, bxP, bxQ, bxQ2, Nat.reduceBEq, reduceCtorEq, Nat.reduceAdd, Nat.reduceSub, Nat.reduceMul, Nat.reduceLeDiff, Nat.reduceLT, bxR, d1, d2, d3, d4]
  have d4 : decide (z0 ≤ z1) = false := decide_eq_false c4
  obtain ⟨n, rfl⟩ : ∃ n : Nat, z0 = n := ⟨z0.toNat, by omega⟩
  obtain ⟨wh, rfl⟩ : ∃ n : Nat, z1 = n := ⟨z1.toNat, by omega⟩
  have hf1 : fillM [(0, 1, MV.i .i64 (n : Int)), (1, 1, .i .i64 1)] [MV.i .i64 0, .i .i64 0, .i .i64 0, .nils, .nils, .nils, .nils] = some [.i .i64 (n : Int), .i .i64 1, .i .i64 0, .nils, .nils, .nils, .nils] := rfl
  simp (maxSteps := 4000000) (disch := first | omega | assumption | (simp only [bxS, bxV, stOk, Nat.reduceBEq, Nat.reduceEqDiff, Nat.reduceAdd]; done) | (simp only [bxU]; omega) | ((try apply has_setN); apply has_ofL; simp only [bxL]; omega)) only [↓bxD, bxP, bxQ, bxQ2, Nat.reduceBEq, reduceCtorEq, Nat.reduceAdd, Nat.reduceSub, Nat.reduceMul, Nat.reduceLeDiff, Nat.reduceLT, bxR, d1, d2, d3, d4, hf1]
  show Wp fns K5_5 _ _ _
  unfold K5_5
  simp (maxSteps := 4000000) (disch := first | omega | assumption | (simp only [bxS, bxV, stOk, Nat.reduceBEq, Nat.reduceEqDiff, Nat.reduceAdd]; done) | (simp only [bxU]; omega) | ((try apply has_setN); apply has_ofL; simp only [bxL]; omega)) only [↓bxD, bxP, bxQ, bxQ2, Nat.reduceBEq, reduceCtorEq, Nat.reduceAdd, Nat.reduceSub, Nat.reduceMul, Nat.reduceLeDiff, Nat.reduceLT, bxR, d1, d2, d3, d4, hf1]
  generalize hM1 : (M2.push _).set M2.n _ = M1
  have x1 : Ext M2 M1 := by rw [← hM1]; exact (Ext.push M2 _).set _ (Nat.le_refl _)
  have n1 : M1.n = M2.n + 1 := by rw [← hM1]; rfl
  have l1 := x1.lo
  have hD0 : GB M2.n M1 (n : Int) 1 (usL wh en 0) .nils [] := by
    refine ⟨⟨_, by rw [← hM1]; exact set_same _ _, at_setN _ _ _⟩, by omega, by omega, OwnRow.nil _ _ _, rfl, fun k e r he => by simp at he⟩
  clear hM1
  refine us_loop (n := n) (wh := wh) (en := en) (b := M2.n) (v := .nils) (es := []) ⟨by simp only [bxP, bxQ, bxQ2, reduceCtorEq, d1, d2, d3, d4, hf1], by simp only [bxP, bxQ, bxQ2, reduceCtorEq, d1, d2, d3, d4, hf1], by simp only [bxP, bxQ, bxQ2, reduceCtorEq, d1, d2, d3, d4, hf1], by simp only [bxP, bxQ, bxQ2, reduceCtorEq, d1, d2, d3, d4, hf1], by simp only [bxP, bxQ, bxQ2, reduceCtorEq, d1, d2, d3, d4, hf1] <;> rfl⟩ hD0 (by omega) (by omega) _ ?_
  intro f2 M3 v3 es3 hf hb hmx
  have g0 := hf.h0
  have g1 := hf.h1
  have g8 := hf.h8
  simp only [q0, q1, q8] at g0 g1 g8
  have x3 := hmx M2 x1 (Nat.le_refl _)
  have l3 := x3.lo
  obtain ⟨t0, hb0, hat0⟩ := hb.box
  have hbn := hb.bn
  have hbl := hb.lo
  have hgn : Ev.getN t0 7 0 = some (gcs (usG n wh en) v3 .nils .nils .nils) := hat0.getN
  have hgr : GrAt M3 v3 .nils .nils .nils _ (usG n wh en) := hb.gr (us_wf (show 2 ≤ n by omega) (show n ≤ 20 by omega))
  show Wp fns K5_4 _ _ _
  unfold K5_4
  simp (maxSteps := 4000000) (disch := first | omega | assumption | (simp only [bxS, bxV, stOk, Nat.reduceBEq, Nat.reduceEqDiff, Nat.reduceAdd]; done) | (simp only [bxU]; omega) | ((try apply has_setN); apply has_ofL; simp only [bxL]; omega)) only [↓bxD, bxP, bxQ, bxQ2, Nat.reduceBEq, reduceCtorEq, Nat.reduceAdd, Nat.reduceSub, Nat.reduceMul, Nat.reduceLeDiff, Nat.reduceLT, bxR, g0, g1, g8, hb0, hgn]
  refine bindP_call (pcheck_any hgr (by omega)) ?_
  rintro m7 M7 ⟨x7, z, hz, rfl⟩
  have hz := us_chk (show n ≤ 20 by omega) (show 1 ≤ wh by omega) (show wh < n by omega) hz
  subst hz
  simp (maxSteps := 4000000) (disch := first | omega | assumption | (simp only [bxS, bxV, stOk, Nat.reduceBEq, Nat.reduceEqDiff, Nat.reduceAdd]; done) | (simp only [bxU]; omega) | ((try apply has_setN); apply has_ofL; simp only [bxL]; omega)) only [↓bxD, bxP, bxQ, bxQ2, Nat.reduceBEq, reduceCtorEq, Nat.reduceAdd, Nat.reduceSub, Nat.reduceMul, Nat.reduceLeDiff, Nat.reduceLT, bxR, g0, g1, g8, decide_true]
  refine bindP_call num_any ?_
  rintro m8 M8 ⟨rfl, rfl⟩
  simp (maxSteps := 4000000) (disch := first | omega | assumption | (simp only [bxS, bxV, stOk, Nat.reduceBEq, Nat.reduceEqDiff, Nat.reduceAdd]; done) | (simp only [bxU]; omega) | ((try apply has_setN); apply has_ofL; simp only [bxL]; omega)) only [↓bxD, bxP, bxQ, bxQ2, Nat.reduceBEq, reduceCtorEq, Nat.reduceAdd, Nat.reduceSub, Nat.reduceMul, Nat.reduceLeDiff, Nat.reduceLT, bxR, g0, g1, g8, decide_true]
theorem useless_model (M : MH) (ms : List MV) (hx : Ext Mz M) (hlo : M.lo ≤ M.n) (ha : ArgsTyped Try.prog M [3, 3, 4] ms) : Cp fns 5 ms M fun m _ => m = .b true := by
  obtain ⟨m1, r1, rfl, h1, m2, r2, rfl, h2, m3, r3, rfl, h3, rfl⟩ := ha
  obtain ⟨a, rfl, _⟩ := int_of h1
  obtain ⟨b, rfl, _⟩ := int_of h2
  obtain ⟨c, rfl⟩ := bool_of h3
  exact law_useless hlo fun M' _ => Cp_true (by kernel_rfl)
end Go.Proofs.Ytddaggodpmhmpaa.K
