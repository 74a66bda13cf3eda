/-
  What the claim leans on, part 6: The document's Follow. Conditions: none. The document's Follow: rules. Conditions: none. The document's Follow, whole. Conditions: none. The document's Follow. Conditions: none. The law SetsTell in the model. Conditions: what the program's sets give. The law SetsTell, for whatever comes in. Conditions: none.
-/
import Derived.Test.YtdggbpfpjkokpaaDoorMA5
import Derived.Test.YtdggbpfpjkokpaaDoorMA3
import Derived.Test.YtdggbpfpjkokpaaDoorMA4
set_option linter.unusedSimpArgs false
set_option linter.unusedVariables false
namespace Go.Proofs.YtdggbpfpjkokpaaDoor.K
open Go Ev
set_option maxRecDepth 100000
set_option maxHeartbeats 4000000

structure GCx (Mb : MH) (g : Gr) (vr vf vc vk : MV) (es : List (List MV)) (n0 kk : Nat) (vn vF vu : MV) (null use : List Bool) (fs : List (List MV)) (F : List (List Bool)) : Prop where
  gr : GrAt Mb vr vf vc vk es g
  ok : GrOk g
  box : Mb.get n0 = some (.cs false 7 (ofL (gcs g vr vf vc vk) 0))
  n0lt : n0 < Mb.n
  lo : Mb.lo ≤ Mb.n
  nul : NulVec g null
  nrow : BRow Mb vn null
  fst : FstMat g F
  frow : MRow Mb vF fs F
  rch : RchVec g use
  urow : BRow Mb vu use
  hk : g.kinds = kk
structure GSt (Mb M : MH) (n0 kk : Nat) (vn vF vu : MV) (id : Nat) (ids : List Nat) (A : List (List Bool)) (f : Fr) : Prop where
  ext : Ext Mb M
  mat : MatOwn M Mb.n id ids A (kk + 1)
  q1 : X.ev f (.t q1) = .p n0 0
  q3 : X.ev f (.t q3) = vn
  q4 : X.ev f (.t q4) = vF
  q5 : X.ev f (.t q5) = vu
  q6 : X.ev f (.t q6) = .sl id 0 ids.length 0
structure GIn (Mb : MH) (g : Gr) (n0 kk : Nat) (vn vF vu : MV) (id : Nat) (ids : List Nat) (ln an n10 id13 i k : Nat) (c : T MV) (o : List Bool) (flag : Bool) (A : List (List Bool)) (more : Bool) (t : Nat) (A1 : List (List Bool)) (m1 : Bool) (f1 : Fr) (M1 : MH) : Prop where
  st : GSt Mb M1 n0 kk vn vF vu id ids A1 f1
  hn10 : M1.get n10 = some (.cs false 3 c)
  n10lt : n10 < M1.n
  ho : BoolsAt M1 id13 o
  h8 : X.ev f1 (.t q8) = .b m1
  h9 : X.ev f1 (.t q9) = .i .i64 (i : Int)
  h10 : X.ev f1 (.t q10) = .p n10 0
  h11 : X.ev f1 (.t q11) = .i .i64 (k : Int)
  h12 : X.ev f1 (.t q12) = .i .i64 (an : Int)
  h13 : X.ev f1 (.t q13) = .sl id13 0 (kk + 1) 0
  h14 : X.ev f1 (.t q14) = .b flag
  h15 : X.ev f1 (.t q15) = .i .i64 (t : Int)
  le : t ≤ kk + 1
  snd : FlwSound g A1
  cas : (A1 = A ∧ m1 = more ∧ ∀ u, u < t → (bAt o u || (flag && mAt A ln u)) = true → mAt A an u = true) ∨ (fallM A1 < fallM A ∧ m1 = true)
theorem flw_in {Mb M : MH} {g : Gr} {vr vf vc vk : MV} {es : List (List MV)} {n0 kk : Nat} {vn vF vu : MV} {null use : List Bool} {fs : List (List MV)} {F : List (List Bool)} (cx : GCx Mb g vr vf vc vk es n0 kk vn vF vu null use fs F) {id : Nat} {ids : List Nat} {A : List (List Bool)} {f : Fr} (h : GSt Mb M n0 kk vn vF vu id ids A f)
    {ln an n10 id13 i k : Nat} {c : T MV} {x1 x2 : MV} {o : List Bool} {flag more : Bool} (hln : ln < ids.length) (han : an < ids.length) (hn10 : M.get n10 = some (.cs false 3 c)) (n10lt : n10 < M.n) (hC : At c 0 [.i .i64 (ln : Int), x1, x2]) (h10n : ∀ j ∈ ids, j ≠ n10) (ho : BoolsAt M id13 o) (h13n : ∀ j ∈ ids, j ≠ id13) (hol : o.length = kk + 1)
    (h8 : X.ev f (.t q8) = .b more) (h9 : X.ev f (.t q9) = .i .i64 (i : Int)) (h10 : X.ev f (.t q10) = .p n10 0) (h11 : X.ev f (.t q11) = .i .i64 (k : Int)) (h12 : X.ev f (.t q12) = .i .i64 (an : Int)) (h13 : X.ev f (.t q13) = .sl id13 0 (kk + 1) 0) (h14 : X.ev f (.t q14) = .b flag) (h15 : X.ev f (.t q15) = .i .i64 0)
    (hs : FlwSound g A) (hot : ∀ t, t < kk + 1 → bAt o t = true → Flw g an t) (hup : flag = true → ∀ t, Flw g ln t → Flw g an t) (Q : Post)
    (hn : ∀ f' M' A' more', GSt Mb M' n0 kk vn vF vu id ids A' f' → M'.get n10 = some (.cs false 3 c) → n10 < M'.n → X.ev f' (.t q8) = .b more' → X.ev f' (.t q9) = .i .i64 (i : Int) → X.ev f' (.t q10) = .p n10 0 → X.ev f' (.t q11) = .i .i64 (k : Int) → FlwSound g A' → ((A' = A ∧ more' = more ∧ ∀ u, u < kk + 1 → (bAt o u || (flag && mAt A ln u)) = true → mAt A an u = true) ∨ (fallM A' < fallM A ∧ more' = true)) → Q .norm f' M') :
    Wp fns (.loop L18_5) f M (blockQ 8 Q) := by
  have c0 : cget c 0 = some (.i .i64 (ln : Int)) := hC 0 _ rfl
  have hk40 := cx.ok.k2
  have hkk := cx.hk
  refine Wp_inv (σ := Nat × List (List Bool) × Bool) (fun s f1 M1 => GIn Mb g n0 kk vn vF vu id ids ln an n10 id13 i k c o flag A more s.1 s.2.1 s.2.2 f1 M1) (fun s => kk + 1 - s.1) ?_ (0, A, more) ?_
  · rintro ⟨t, A1, m1⟩ f1 M1 ⟨h, hn10, n10lt, ho, h8, h9, h10, h11, h12, h13, h14, h15, htk, hs, hc⟩
    obtain ⟨hx, hmat, hq1, hq3, hq4, hq5, hq6⟩ := h
    simp only [q1, q3, q4, q5, q6, q8, q9, q10, q11, q12, q13, q14, q15] at hq1 hq3 hq4 hq5 hq6 h8 h9 h10 h11 h12 h13 h14 h15
    have hbox := (hx.old _ cx.n0lt).trans cx.box
    unfold gcs at hbox
    rw [hkk] at hbox
    have hlo := cx.lo
    have hel := hx.lo
    obtain ⟨to, to1, to2, to3, to4⟩ := ho.read
    obtain ⟨tt, tt1, tt2⟩ := hmat.topr
    obtain ⟨j, hj⟩ : ∃ j, ids[an]? = some j := ⟨_, List.getElem?_eq_getElem han⟩
    obtain ⟨jl, hjl⟩ : ∃ j, ids[ln]? = some j := ⟨_, List.getElem?_eq_getElem hln⟩
    have hjm := List.mem_of_getElem? hj
    obtain ⟨jn1, jn2, jn3⟩ := hmat.ne j hjm
    have hT := tt2 an j hj
    have hT2 := tt2 ln jl hjl
    unfold L18_5
    by_cases htk1 : t < kk + 1
    · have d1 : decide ((t : Int) ≤ (kk : Int)) = true := decide_eq_true (by omega)
      obtain ⟨cj, cj1, cj2, cj3, cj4⟩ := hmat.at_ hj (t := t) (by omega)
      obtain ⟨cl, cl1, cl2, cl3, cl4⟩ := hmat.at_ hjl (t := t) (by omega)
      have hO := to2 t _ (bAt_at (by omega))
      have hJ := cj2 t (by omega)
      have hL := cl2 t (by omega)
      have hFl : an < A1.length := by rw [← hmat.len]; exact han
      have hFr : t < (A1.getD an []).length := by rw [List.getD_eq_getElem?_getD, List.getElem?_eq_getElem hFl]; simp only [Option.getD_some]; rw [hmat.size _ (List.getElem_mem hFl)]; omega
      have hstep : ∀ u, u < t + 1 → (u < t ∨ u = t) := fun u hu => by omega
      cases hv : bAt o t with
      | true =>
        rw [hv] at hO
        cases hw : mAt A1 an t with
        | true =>
          rw [hw] at hJ
          simp (maxSteps := 4000000) (disch := first | omega | assumption | (simp only [bxS, bxV, stOk, Nat.reduceBEq, Nat.reduceEqDiff, Nat.reduceAdd]; done) | (simp only [bxU]; omega) | ((try apply has_setN); apply has_ofL; simp only [bxL]; omega)) only [↓bxD, bxP, bxQ, bxQ2, Nat.reduceBEq, reduceCtorEq, Nat.reduceAdd, Nat.reduceSub, Nat.reduceMul, Nat.reduceLeDiff, Nat.reduceLT, bxR, hq1, hq3, hq4, hq5, hq6, h8, h9, h10, h11, h12, h13, h14, h15, hbox, hn10, c0, to1, hO, tt1, hT, hT2, cj1, cl1, d1, ix_slc, len_slc, hJ]
          show Wp fns K18_4 _ _ _
          unfold K18_4
          simp (maxSteps := 4000000) (disch := first | omega | assumption | (simp only [bxS, bxV, stOk, Nat.reduceBEq, Nat.reduceEqDiff, Nat.reduceAdd]; done) | (simp only [bxU]; omega) | ((try apply has_setN); apply has_ofL; simp only [bxL]; omega)) only [↓bxD, bxP, bxQ, bxQ2, Nat.reduceBEq, reduceCtorEq, Nat.reduceAdd, Nat.reduceSub, Nat.reduceMul, Nat.reduceLeDiff, Nat.reduceLT, bxR, hq1, hq3, hq4, hq5, hq6, h8, h9, h10, h11, h12, h13, h14, h15, hbox, hn10, c0, to1, hO, tt1, hT, hT2, cj1, cl1, d1, ix_slc, len_slc, hJ]
          show Wp fns K18_3 _ _ _
          unfold K18_3
          simp (maxSteps := 4000000) (disch := first | omega | assumption | (simp only [bxS, bxV, stOk, Nat.reduceBEq, Nat.reduceEqDiff, Nat.reduceAdd]; done) | (simp only [bxU]; omega) | ((try apply has_setN); apply has_ofL; simp only [bxL]; omega)) only [↓bxD, bxP, bxQ, bxQ2, Nat.reduceBEq, reduceCtorEq, Nat.reduceAdd, Nat.reduceSub, Nat.reduceMul, Nat.reduceLeDiff, Nat.reduceLT, bxR, hq1, hq3, hq4, hq5, hq6, h8, h9, h10, h11, h12, h13, h14, h15, hbox, hn10, c0, to1, hO, tt1, hT, hT2, cj1, cl1, d1, ix_slc, len_slc, hJ]
          refine ⟨(t + 1, A1, m1), by simp only; omega, ⟨⟨hx, hmat, ?_, ?_, ?_, ?_, ?_⟩, hn10, n10lt, ho, ?_, ?_, ?_, ?_, ?_, ?_, ?_, ?_, by simp only; omega, hs, ?_⟩⟩
          · simp only [bxP, bxQ, bxQ2, reduceCtorEq, hq1, hq3, hq4, hq5, hq6, h8, h9, h10, h11, h12, h13, h14, h15, hbox, hn10, c0, to1, hO, tt1, hT, hT2, cj1, cl1, d1, ix_slc, len_slc, hJ]
          · simp only [bxP, bxQ, bxQ2, reduceCtorEq, hq1, hq3, hq4, hq5, hq6, h8, h9, h10, h11, h12, h13, h14, h15, hbox, hn10, c0, to1, hO, tt1, hT, hT2, cj1, cl1, d1, ix_slc, len_slc, hJ]
          · simp only [bxP, bxQ, bxQ2, reduceCtorEq, hq1, hq3, hq4, hq5, hq6, h8, h9, h10, h11, h12, h13, h14, h15, hbox, hn10, c0, to1, hO, tt1, hT, hT2, cj1, cl1, d1, ix_slc, len_slc, hJ]
          · simp only [bxP, bxQ, bxQ2, reduceCtorEq, hq1, hq3, hq4, hq5, hq6, h8, h9, h10, h11, h12, h13, h14, h15, hbox, hn10, c0, to1, hO, tt1, hT, hT2, cj1, cl1, d1, ix_slc, len_slc, hJ]
          · simp only [bxP, bxQ, bxQ2, reduceCtorEq, hq1, hq3, hq4, hq5, hq6, h8, h9, h10, h11, h12, h13, h14, h15, hbox, hn10, c0, to1, hO, tt1, hT, hT2, cj1, cl1, d1, ix_slc, len_slc, hJ]
          · simp only [bxP, bxQ, bxQ2, reduceCtorEq, hq1, hq3, hq4, hq5, hq6, h8, h9, h10, h11, h12, h13, h14, h15, hbox, hn10, c0, to1, hO, tt1, hT, hT2, cj1, cl1, d1, ix_slc, len_slc, hJ]
          · simp only [bxP, bxQ, bxQ2, reduceCtorEq, hq1, hq3, hq4, hq5, hq6, h8, h9, h10, h11, h12, h13, h14, h15, hbox, hn10, c0, to1, hO, tt1, hT, hT2, cj1, cl1, d1, ix_slc, len_slc, hJ]
          · simp only [bxP, bxQ, bxQ2, reduceCtorEq, hq1, hq3, hq4, hq5, hq6, h8, h9, h10, h11, h12, h13, h14, h15, hbox, hn10, c0, to1, hO, tt1, hT, hT2, cj1, cl1, d1, ix_slc, len_slc, hJ]
          · simp only [bxP, bxQ, bxQ2, reduceCtorEq, hq1, hq3, hq4, hq5, hq6, h8, h9, h10, h11, h12, h13, h14, h15, hbox, hn10, c0, to1, hO, tt1, hT, hT2, cj1, cl1, d1, ix_slc, len_slc, hJ]
          · simp only [bxP, bxQ, bxQ2, reduceCtorEq, hq1, hq3, hq4, hq5, hq6, h8, h9, h10, h11, h12, h13, h14, h15, hbox, hn10, c0, to1, hO, tt1, hT, hT2, cj1, cl1, d1, ix_slc, len_slc, hJ]
          · simp only [bxP, bxQ, bxQ2, reduceCtorEq, hq1, hq3, hq4, hq5, hq6, h8, h9, h10, h11, h12, h13, h14, h15, hbox, hn10, c0, to1, hO, tt1, hT, hT2, cj1, cl1, d1, ix_slc, len_slc, hJ]
          · simp only [bxP, bxQ, bxQ2, reduceCtorEq, hq1, hq3, hq4, hq5, hq6, h8, h9, h10, h11, h12, h13, h14, h15, hbox, hn10, c0, to1, hO, tt1, hT, hT2, cj1, cl1, d1, ix_slc, len_slc, hJ]
          · simp only [bxP, bxQ, bxQ2, reduceCtorEq, hq1, hq3, hq4, hq5, hq6, h8, h9, h10, h11, h12, h13, h14, h15, hbox, hn10, c0, to1, hO, tt1, hT, hT2, cj1, cl1, d1, ix_slc, len_slc, hJ] <;> rfl
          · rcases hc with ⟨e1, e2, hc⟩ | hc
            · refine .inl ⟨e1, e2, fun u hu hb => ?_⟩
              rcases hstep u hu with h1 | h1
              · exact hc u h1 hb
              · subst h1
                rw [← e1]; exact hw
            · exact .inr hc
        | false =>
          rw [hw] at hJ
          simp (maxSteps := 4000000) (disch := first | omega | assumption | (simp only [bxS, bxV, stOk, Nat.reduceBEq, Nat.reduceEqDiff, Nat.reduceAdd]; done) | (simp only [bxU]; omega) | ((try apply has_setN); apply has_ofL; simp only [bxL]; omega)) only [↓bxD, bxP, bxQ, bxQ2, Nat.reduceBEq, reduceCtorEq, Nat.reduceAdd, Nat.reduceSub, Nat.reduceMul, Nat.reduceLeDiff, Nat.reduceLT, bxR, hq1, hq3, hq4, hq5, hq6, h8, h9, h10, h11, h12, h13, h14, h15, hbox, hn10, c0, to1, hO, tt1, hT, hT2, cj1, cl1, d1, ix_slc, len_slc, hJ]
          show Wp fns K18_4 _ _ _
          unfold K18_4
          simp (maxSteps := 4000000) (disch := first | omega | assumption | (simp only [bxS, bxV, stOk, Nat.reduceBEq, Nat.reduceEqDiff, Nat.reduceAdd]; done) | (simp only [bxU]; omega) | ((try apply has_setN); apply has_ofL; simp only [bxL]; omega)) only [↓bxD, bxP, bxQ, bxQ2, Nat.reduceBEq, reduceCtorEq, Nat.reduceAdd, Nat.reduceSub, Nat.reduceMul, Nat.reduceLeDiff, Nat.reduceLT, bxR, hq1, hq3, hq4, hq5, hq6, h8, h9, h10, h11, h12, h13, h14, h15, hbox, hn10, c0, to1, hO, tt1, hT, hT2, cj1, cl1, d1, ix_slc, len_slc, hJ]
          show Wp fns K18_3 _ _ _
          unfold K18_3
          simp (maxSteps := 4000000) (disch := first | omega | assumption | (simp only [bxS, bxV, stOk, Nat.reduceBEq, Nat.reduceEqDiff, Nat.reduceAdd]; done) | (simp only [bxU]; omega) | ((try apply has_setN); apply has_ofL; simp only [bxL]; omega)) only [↓bxD, bxP, bxQ, bxQ2, Nat.reduceBEq, reduceCtorEq, Nat.reduceAdd, Nat.reduceSub, Nat.reduceMul, Nat.reduceLeDiff, Nat.reduceLT, bxR, hq1, hq3, hq4, hq5, hq6, h8, h9, h10, h11, h12, h13, h14, h15, hbox, hn10, c0, to1, hO, tt1, hT, hT2, cj1, cl1, d1, ix_slc, len_slc, hJ]
          generalize hM2 : M1.set j _ = M2
          have hx2 : Ext Mb M2 := by rw [← hM2]; exact hx.set _ jn2
          have hmat2 : MatOwn M2 Mb.n id ids (setM A1 an t) (kk + 1) := by rw [← hM2]; exact cj4
          have hn2 : M2.get n10 = some (.cs false 3 c) := by rw [← hM2, set_ne (Ne.symm (h10n j hjm))]; exact hn10
          have ho2 : BoolsAt M2 id13 o := ho.same (by rw [← hM2, set_ne (Ne.symm (h13n j hjm))])
          have hnn2 : M2.n = M1.n := by rw [← hM2]; rfl
          clear hM2
          refine ⟨(t + 1, setM A1 an t, true), by simp only; omega, ⟨⟨hx2, hmat2, ?_, ?_, ?_, ?_, ?_⟩, hn2, by omega, ho2, ?_, ?_, ?_, ?_, ?_, ?_, ?_, ?_, by simp only; omega, ⟨fun a u e => ?_, ?_⟩, ?_⟩⟩
          · simp only [bxP, bxQ, bxQ2, reduceCtorEq, hq1, hq3, hq4, hq5, hq6, h8, h9, h10, h11, h12, h13, h14, h15, hbox, hn10, c0, to1, hO, tt1, hT, hT2, cj1, cl1, d1, ix_slc, len_slc, hJ]
          · simp only [bxP, bxQ, bxQ2, reduceCtorEq, hq1, hq3, hq4, hq5, hq6, h8, h9, h10, h11, h12, h13, h14, h15, hbox, hn10, c0, to1, hO, tt1, hT, hT2, cj1, cl1, d1, ix_slc, len_slc, hJ]
          · simp only [bxP, bxQ, bxQ2, reduceCtorEq, hq1, hq3, hq4, hq5, hq6, h8, h9, h10, h11, h12, h13, h14, h15, hbox, hn10, c0, to1, hO, tt1, hT, hT2, cj1, cl1, d1, ix_slc, len_slc, hJ]
          · simp only [bxP, bxQ, bxQ2, reduceCtorEq, hq1, hq3, hq4, hq5, hq6, h8, h9, h10, h11, h12, h13, h14, h15, hbox, hn10, c0, to1, hO, tt1, hT, hT2, cj1, cl1, d1, ix_slc, len_slc, hJ]
          · simp only [bxP, bxQ, bxQ2, reduceCtorEq, hq1, hq3, hq4, hq5, hq6, h8, h9, h10, h11, h12, h13, h14, h15, hbox, hn10, c0, to1, hO, tt1, hT, hT2, cj1, cl1, d1, ix_slc, len_slc, hJ]
          · simp only [bxP, bxQ, bxQ2, reduceCtorEq, hq1, hq3, hq4, hq5, hq6, h8, h9, h10, h11, h12, h13, h14, h15, hbox, hn10, c0, to1, hO, tt1, hT, hT2, cj1, cl1, d1, ix_slc, len_slc, hJ]
          · simp only [bxP, bxQ, bxQ2, reduceCtorEq, hq1, hq3, hq4, hq5, hq6, h8, h9, h10, h11, h12, h13, h14, h15, hbox, hn10, c0, to1, hO, tt1, hT, hT2, cj1, cl1, d1, ix_slc, len_slc, hJ]
          · simp only [bxP, bxQ, bxQ2, reduceCtorEq, hq1, hq3, hq4, hq5, hq6, h8, h9, h10, h11, h12, h13, h14, h15, hbox, hn10, c0, to1, hO, tt1, hT, hT2, cj1, cl1, d1, ix_slc, len_slc, hJ]
          · simp only [bxP, bxQ, bxQ2, reduceCtorEq, hq1, hq3, hq4, hq5, hq6, h8, h9, h10, h11, h12, h13, h14, h15, hbox, hn10, c0, to1, hO, tt1, hT, hT2, cj1, cl1, d1, ix_slc, len_slc, hJ]
          · simp only [bxP, bxQ, bxQ2, reduceCtorEq, hq1, hq3, hq4, hq5, hq6, h8, h9, h10, h11, h12, h13, h14, h15, hbox, hn10, c0, to1, hO, tt1, hT, hT2, cj1, cl1, d1, ix_slc, len_slc, hJ]
          · simp only [bxP, bxQ, bxQ2, reduceCtorEq, hq1, hq3, hq4, hq5, hq6, h8, h9, h10, h11, h12, h13, h14, h15, hbox, hn10, c0, to1, hO, tt1, hT, hT2, cj1, cl1, d1, ix_slc, len_slc, hJ]
          · simp only [bxP, bxQ, bxQ2, reduceCtorEq, hq1, hq3, hq4, hq5, hq6, h8, h9, h10, h11, h12, h13, h14, h15, hbox, hn10, c0, to1, hO, tt1, hT, hT2, cj1, cl1, d1, ix_slc, len_slc, hJ]
          · simp only [bxP, bxQ, bxQ2, reduceCtorEq, hq1, hq3, hq4, hq5, hq6, h8, h9, h10, h11, h12, h13, h14, h15, hbox, hn10, c0, to1, hO, tt1, hT, hT2, cj1, cl1, d1, ix_slc, len_slc, hJ] <;> rfl
          · simp only at e
            rw [mAt_setM hFl hFr] at e
            split at e
            · rename_i e1
              obtain ⟨rfl, rfl⟩ := e1
              exact hot _ htk1 hv
            · exact hs.1 a u e
          · simp only
            rw [mAt_setM hFl hFr]
            split
            · rfl
            · exact hs.2
          · right
            have hlt := fallM_set hFl hFr hw
            refine ⟨?_, rfl⟩
            rcases hc with ⟨e1, _, _⟩ | ⟨hc, _⟩
            · rw [← e1]; exact hlt
            · exact Nat.lt_trans hlt hc
      | false =>
        rw [hv] at hO
        cases hfl : flag with
        | false =>
          rw [hfl] at h14 hc
          simp (maxSteps := 4000000) (disch := first | omega | assumption | (simp only [bxS, bxV, stOk, Nat.reduceBEq, Nat.reduceEqDiff, Nat.reduceAdd]; done) | (simp only [bxU]; omega) | ((try apply has_setN); apply has_ofL; simp only [bxL]; omega)) only [↓bxD, bxP, bxQ, bxQ2, Nat.reduceBEq, reduceCtorEq, Nat.reduceAdd, Nat.reduceSub, Nat.reduceMul, Nat.reduceLeDiff, Nat.reduceLT, bxR, hq1, hq3, hq4, hq5, hq6, h8, h9, h10, h11, h12, h13, h14, h15, hbox, hn10, c0, to1, hO, tt1, hT, hT2, cj1, cl1, d1, ix_slc, len_slc]
          show Wp fns K18_4 _ _ _
          unfold K18_4
          simp (maxSteps := 4000000) (disch := first | omega | assumption | (simp only [bxS, bxV, stOk, Nat.reduceBEq, Nat.reduceEqDiff, Nat.reduceAdd]; done) | (simp only [bxU]; omega) | ((try apply has_setN); apply has_ofL; simp only [bxL]; omega)) only [↓bxD, bxP, bxQ, bxQ2, Nat.reduceBEq, reduceCtorEq, Nat.reduceAdd, Nat.reduceSub, Nat.reduceMul, Nat.reduceLeDiff, Nat.reduceLT, bxR, hq1, hq3, hq4, hq5, hq6, h8, h9, h10, h11, h12, h13, h14, h15, hbox, hn10, c0, to1, hO, tt1, hT, hT2, cj1, cl1, d1, ix_slc, len_slc]
          show Wp fns K18_3 _ _ _
          unfold K18_3
          simp (maxSteps := 4000000) (disch := first | omega | assumption | (simp only [bxS, bxV, stOk, Nat.reduceBEq, Nat.reduceEqDiff, Nat.reduceAdd]; done) | (simp only [bxU]; omega) | ((try apply has_setN); apply has_ofL; simp only [bxL]; omega)) only [↓bxD, bxP, bxQ, bxQ2, Nat.reduceBEq, reduceCtorEq, Nat.reduceAdd, Nat.reduceSub, Nat.reduceMul, Nat.reduceLeDiff, Nat.reduceLT, bxR, hq1, hq3, hq4, hq5, hq6, h8, h9, h10, h11, h12, h13, h14, h15, hbox, hn10, c0, to1, hO, tt1, hT, hT2, cj1, cl1, d1, ix_slc, len_slc]
          refine ⟨(t + 1, A1, m1), by simp only; omega, ⟨⟨hx, hmat, ?_, ?_, ?_, ?_, ?_⟩, hn10, n10lt, ho, ?_, ?_, ?_, ?_, ?_, ?_, ?_, ?_, by simp only; omega, hs, ?_⟩⟩
          · simp only [bxP, bxQ, bxQ2, reduceCtorEq, hq1, hq3, hq4, hq5, hq6, h8, h9, h10, h11, h12, h13, h14, h15, hbox, hn10, c0, to1, hO, tt1, hT, hT2, cj1, cl1, d1, ix_slc, len_slc]
          · simp only [bxP, bxQ, bxQ2, reduceCtorEq, hq1, hq3, hq4, hq5, hq6, h8, h9, h10, h11, h12, h13, h14, h15, hbox, hn10, c0, to1, hO, tt1, hT, hT2, cj1, cl1, d1, ix_slc, len_slc]
          · simp only [bxP, bxQ, bxQ2, reduceCtorEq, hq1, hq3, hq4, hq5, hq6, h8, h9, h10, h11, h12, h13, h14, h15, hbox, hn10, c0, to1, hO, tt1, hT, hT2, cj1, cl1, d1, ix_slc, len_slc]
          · simp only [bxP, bxQ, bxQ2, reduceCtorEq, hq1, hq3, hq4, hq5, hq6, h8, h9, h10, h11, h12, h13, h14, h15, hbox, hn10, c0, to1, hO, tt1, hT, hT2, cj1, cl1, d1, ix_slc, len_slc]
          · simp only [bxP, bxQ, bxQ2, reduceCtorEq, hq1, hq3, hq4, hq5, hq6, h8, h9, h10, h11, h12, h13, h14, h15, hbox, hn10, c0, to1, hO, tt1, hT, hT2, cj1, cl1, d1, ix_slc, len_slc]
          · simp only [bxP, bxQ, bxQ2, reduceCtorEq, hq1, hq3, hq4, hq5, hq6, h8, h9, h10, h11, h12, h13, h14, h15, hbox, hn10, c0, to1, hO, tt1, hT, hT2, cj1, cl1, d1, ix_slc, len_slc]
          · simp only [bxP, bxQ, bxQ2, reduceCtorEq, hq1, hq3, hq4, hq5, hq6, h8, h9, h10, h11, h12, h13, h14, h15, hbox, hn10, c0, to1, hO, tt1, hT, hT2, cj1, cl1, d1, ix_slc, len_slc]
          · simp only [bxP, bxQ, bxQ2, reduceCtorEq, hq1, hq3, hq4, hq5, hq6, h8, h9, h10, h11, h12, h13, h14, h15, hbox, hn10, c0, to1, hO, tt1, hT, hT2, cj1, cl1, d1, ix_slc, len_slc]
          · simp only [bxP, bxQ, bxQ2, reduceCtorEq, hq1, hq3, hq4, hq5, hq6, h8, h9, h10, h11, h12, h13, h14, h15, hbox, hn10, c0, to1, hO, tt1, hT, hT2, cj1, cl1, d1, ix_slc, len_slc]
          · simp only [bxP, bxQ, bxQ2, reduceCtorEq, hq1, hq3, hq4, hq5, hq6, h8, h9, h10, h11, h12, h13, h14, h15, hbox, hn10, c0, to1, hO, tt1, hT, hT2, cj1, cl1, d1, ix_slc, len_slc]
          · simp only [bxP, bxQ, bxQ2, reduceCtorEq, hq1, hq3, hq4, hq5, hq6, h8, h9, h10, h11, h12, h13, h14, h15, hbox, hn10, c0, to1, hO, tt1, hT, hT2, cj1, cl1, d1, ix_slc, len_slc]
          · simp only [bxP, bxQ, bxQ2, reduceCtorEq, hq1, hq3, hq4, hq5, hq6, h8, h9, h10, h11, h12, h13, h14, h15, hbox, hn10, c0, to1, hO, tt1, hT, hT2, cj1, cl1, d1, ix_slc, len_slc]
          · simp only [bxP, bxQ, bxQ2, reduceCtorEq, hq1, hq3, hq4, hq5, hq6, h8, h9, h10, h11, h12, h13, h14, h15, hbox, hn10, c0, to1, hO, tt1, hT, hT2, cj1, cl1, d1, ix_slc, len_slc] <;> rfl
          · rcases hc with ⟨e1, e2, hc⟩ | hc
            · refine .inl ⟨e1, e2, fun u hu hb => ?_⟩
              rcases hstep u hu with h1 | h1
              · exact hc u h1 hb
              · subst h1
                rw [hv] at hb; cases hb
            · exact .inr hc
        | true =>
          rw [hfl] at h14 hc
          cases hz : mAt A1 ln t with
          | false =>
            rw [hz] at hL
            simp (maxSteps := 4000000) (disch := first | omega | assumption | (simp only [bxS, bxV, stOk, Nat.reduceBEq, Nat.reduceEqDiff, Nat.reduceAdd]; done) | (simp only [bxU]; omega) | ((try apply has_setN); apply has_ofL; simp only [bxL]; omega)) only [↓bxD, bxP, bxQ, bxQ2, Nat.reduceBEq, reduceCtorEq, Nat.reduceAdd, Nat.reduceSub, Nat.reduceMul, Nat.reduceLeDiff, Nat.reduceLT, bxR, hq1, hq3, hq4, hq5, hq6, h8, h9, h10, h11, h12, h13, h14, h15, hbox, hn10, c0, to1, hO, tt1, hT, hT2, cj1, cl1, d1, ix_slc, len_slc, hL]
            show Wp fns K18_4 _ _ _
            unfold K18_4
            simp (maxSteps := 4000000) (disch := first | omega | assumption | (simp only [bxS, bxV, stOk, Nat.reduceBEq, Nat.reduceEqDiff, Nat.reduceAdd]; done) | (simp only [bxU]; omega) | ((try apply has_setN); apply has_ofL; simp only [bxL]; omega)) only [↓bxD, bxP, bxQ, bxQ2, Nat.reduceBEq, reduceCtorEq, Nat.reduceAdd, Nat.reduceSub, Nat.reduceMul, Nat.reduceLeDiff, Nat.reduceLT, bxR, hq1, hq3, hq4, hq5, hq6, h8, h9, h10, h11, h12, h13, h14, h15, hbox, hn10, c0, to1, hO, tt1, hT, hT2, cj1, cl1, d1, ix_slc, len_slc, hL]
            show Wp fns K18_3 _ _ _
            unfold K18_3
            simp (maxSteps := 4000000) (disch := first | omega | assumption | (simp only [bxS, bxV, stOk, Nat.reduceBEq, Nat.reduceEqDiff, Nat.reduceAdd]; done) | (simp only [bxU]; omega) | ((try apply has_setN); apply has_ofL; simp only [bxL]; omega)) only [↓bxD, bxP, bxQ, bxQ2, Nat.reduceBEq, reduceCtorEq, Nat.reduceAdd, Nat.reduceSub, Nat.reduceMul, Nat.reduceLeDiff, Nat.reduceLT, bxR, hq1, hq3, hq4, hq5, hq6, h8, h9, h10, h11, h12, h13, h14, h15, hbox, hn10, c0, to1, hO, tt1, hT, hT2, cj1, cl1, d1, ix_slc, len_slc, hL]
            refine ⟨(t + 1, A1, m1), by simp only; omega, ⟨⟨hx, hmat, ?_, ?_, ?_, ?_, ?_⟩, hn10, n10lt, ho, ?_, ?_, ?_, ?_, ?_, ?_, ?_, ?_, by simp only; omega, hs, ?_⟩⟩
            · simp only [bxP, bxQ, bxQ2, reduceCtorEq, hq1, hq3, hq4, hq5, hq6, h8, h9, h10, h11, h12, h13, h14, h15, hbox, hn10, c0, to1, hO, tt1, hT, hT2, cj1, cl1, d1, ix_slc, len_slc, hL]
            · simp only [bxP, bxQ, bxQ2, reduceCtorEq, hq1, hq3, hq4, hq5, hq6, h8, h9, h10, h11, h12, h13, h14, h15, hbox, hn10, c0, to1, hO, tt1, hT, hT2, cj1, cl1, d1, ix_slc, len_slc, hL]
            · simp only [bxP, bxQ, bxQ2, reduceCtorEq, hq1, hq3, hq4, hq5, hq6, h8, h9, h10, h11, h12, h13, h14, h15, hbox, hn10, c0, to1, hO, tt1, hT, hT2, cj1, cl1, d1, ix_slc, len_slc, hL]
            · simp only [bxP, bxQ, bxQ2, reduceCtorEq, hq1, hq3, hq4, hq5, hq6, h8, h9, h10, h11, h12, h13, h14, h15, hbox, hn10, c0, to1, hO, tt1, hT, hT2, cj1, cl1, d1, ix_slc, len_slc, hL]
            · simp only [bxP, bxQ, bxQ2, reduceCtorEq, hq1, hq3, hq4, hq5, hq6, h8, h9, h10, h11, h12, h13, h14, h15, hbox, hn10, c0, to1, hO, tt1, hT, hT2, cj1, cl1, d1, ix_slc, len_slc, hL]
            · simp only [bxP, bxQ, bxQ2, reduceCtorEq, hq1, hq3, hq4, hq5, hq6, h8, h9, h10, h11, h12, h13, h14, h15, hbox, hn10, c0, to1, hO, tt1, hT, hT2, cj1, cl1, d1, ix_slc, len_slc, hL]
            · simp only [bxP, bxQ, bxQ2, reduceCtorEq, hq1, hq3, hq4, hq5, hq6, h8, h9, h10, h11, h12, h13, h14, h15, hbox, hn10, c0, to1, hO, tt1, hT, hT2, cj1, cl1, d1, ix_slc, len_slc, hL]
            · simp only [bxP, bxQ, bxQ2, reduceCtorEq, hq1, hq3, hq4, hq5, hq6, h8, h9, h10, h11, h12, h13, h14, h15, hbox, hn10, c0, to1, hO, tt1, hT, hT2, cj1, cl1, d1, ix_slc, len_slc, hL]
            · simp only [bxP, bxQ, bxQ2, reduceCtorEq, hq1, hq3, hq4, hq5, hq6, h8, h9, h10, h11, h12, h13, h14, h15, hbox, hn10, c0, to1, hO, tt1, hT, hT2, cj1, cl1, d1, ix_slc, len_slc, hL]
            · simp only [bxP, bxQ, bxQ2, reduceCtorEq, hq1, hq3, hq4, hq5, hq6, h8, h9, h10, h11, h12, h13, h14, h15, hbox, hn10, c0, to1, hO, tt1, hT, hT2, cj1, cl1, d1, ix_slc, len_slc, hL]
            · simp only [bxP, bxQ, bxQ2, reduceCtorEq, hq1, hq3, hq4, hq5, hq6, h8, h9, h10, h11, h12, h13, h14, h15, hbox, hn10, c0, to1, hO, tt1, hT, hT2, cj1, cl1, d1, ix_slc, len_slc, hL]
            · simp only [bxP, bxQ, bxQ2, reduceCtorEq, hq1, hq3, hq4, hq5, hq6, h8, h9, h10, h11, h12, h13, h14, h15, hbox, hn10, c0, to1, hO, tt1, hT, hT2, cj1, cl1, d1, ix_slc, len_slc, hL]
            · simp only [bxP, bxQ, bxQ2, reduceCtorEq, hq1, hq3, hq4, hq5, hq6, h8, h9, h10, h11, h12, h13, h14, h15, hbox, hn10, c0, to1, hO, tt1, hT, hT2, cj1, cl1, d1, ix_slc, len_slc, hL] <;> rfl
            · rcases hc with ⟨e1, e2, hc⟩ | hc
              · refine .inl ⟨e1, e2, fun u hu hb => ?_⟩
                rcases hstep u hu with h1 | h1
                · exact hc u h1 hb
                · subst h1
                  rw [hv, ← e1, hz] at hb; cases hb
              · exact .inr hc
          | true =>
            rw [hz] at hL
            cases hw : mAt A1 an t with
            | true =>
              rw [hw] at hJ
              simp (maxSteps := 4000000) (disch := first | omega | assumption | (simp only [bxS, bxV, stOk, Nat.reduceBEq, Nat.reduceEqDiff, Nat.reduceAdd]; done) | (simp only [bxU]; omega) | ((try apply has_setN); apply has_ofL; simp only [bxL]; omega)) only [↓bxD, bxP, bxQ, bxQ2, Nat.reduceBEq, reduceCtorEq, Nat.reduceAdd, Nat.reduceSub, Nat.reduceMul, Nat.reduceLeDiff, Nat.reduceLT, bxR, hq1, hq3, hq4, hq5, hq6, h8, h9, h10, h11, h12, h13, h14, h15, hbox, hn10, c0, to1, hO, tt1, hT, hT2, cj1, cl1, d1, ix_slc, len_slc, hL, hJ]
              show Wp fns K18_4 _ _ _
              unfold K18_4
              simp (maxSteps := 4000000) (disch := first | omega | assumption | (simp only [bxS, bxV, stOk, Nat.reduceBEq, Nat.reduceEqDiff, Nat.reduceAdd]; done) | (simp only [bxU]; omega) | ((try apply has_setN); apply has_ofL; simp only [bxL]; omega)) only [↓bxD, bxP, bxQ, bxQ2, Nat.reduceBEq, reduceCtorEq, Nat.reduceAdd, Nat.reduceSub, Nat.reduceMul, Nat.reduceLeDiff, Nat.reduceLT, bxR, hq1, hq3, hq4, hq5, hq6, h8, h9, h10, h11, h12, h13, h14, h15, hbox, hn10, c0, to1, hO, tt1, hT, hT2, cj1, cl1, d1, ix_slc, len_slc, hL, hJ]
              show Wp fns K18_3 _ _ _
              unfold K18_3
              simp (maxSteps := 4000000) (disch := first | omega | assumption | (simp only [bxS, bxV, stOk, Nat.reduceBEq, Nat.reduceEqDiff, Nat.reduceAdd]; done) | (simp only [bxU]; omega) | ((try apply has_setN); apply has_ofL; simp only [bxL]; omega)) only [↓bxD, bxP, bxQ, bxQ2, Nat.reduceBEq, reduceCtorEq, Nat.reduceAdd, Nat.reduceSub, Nat.reduceMul, Nat.reduceLeDiff, Nat.reduceLT, bxR, hq1, hq3, hq4, hq5, hq6, h8, h9, h10, h11, h12, h13, h14, h15, hbox, hn10, c0, to1, hO, tt1, hT, hT2, cj1, cl1, d1, ix_slc, len_slc, hL, hJ]
              refine ⟨(t + 1, A1, m1), by simp only; omega, ⟨⟨hx, hmat, ?_, ?_, ?_, ?_, ?_⟩, hn10, n10lt, ho, ?_, ?_, ?_, ?_, ?_, ?_, ?_, ?_, by simp only; omega, hs, ?_⟩⟩
              · simp only [bxP, bxQ, bxQ2, reduceCtorEq, hq1, hq3, hq4, hq5, hq6, h8, h9, h10, h11, h12, h13, h14, h15, hbox, hn10, c0, to1, hO, tt1, hT, hT2, cj1, cl1, d1, ix_slc, len_slc, hL, hJ]
              · simp only [bxP, bxQ, bxQ2, reduceCtorEq, hq1, hq3, hq4, hq5, hq6, h8, h9, h10, h11, h12, h13, h14, h15, hbox, hn10, c0, to1, hO, tt1, hT, hT2, cj1, cl1, d1, ix_slc, len_slc, hL, hJ]
              · simp only [bxP, bxQ, bxQ2, reduceCtorEq, hq1, hq3, hq4, hq5, hq6, h8, h9, h10, h11, h12, h13, h14, h15, hbox, hn10, c0, to1, hO, tt1, hT, hT2, cj1, cl1, d1, ix_slc, len_slc, hL, hJ]
              · simp only [bxP, bxQ, bxQ2, reduceCtorEq, hq1, hq3, hq4, hq5, hq6, h8, h9, h10, h11, h12, h13, h14, h15, hbox, hn10, c0, to1, hO, tt1, hT, hT2, cj1, cl1, d1, ix_slc, len_slc, hL, hJ]
              · simp only [bxP, bxQ, bxQ2, reduceCtorEq, hq1, hq3, hq4, hq5, hq6, h8, h9, h10, h11, h12, h13, h14, h15, hbox, hn10, c0, to1, hO, tt1, hT, hT2, cj1, cl1, d1, ix_slc, len_slc, hL, hJ]
              · simp only [bxP, bxQ, bxQ2, reduceCtorEq, hq1, hq3, hq4, hq5, hq6, h8, h9, h10, h11, h12, h13, h14, h15, hbox, hn10, c0, to1, hO, tt1, hT, hT2, cj1, cl1, d1, ix_slc, len_slc, hL, hJ]
              · simp only [bxP, bxQ, bxQ2, reduceCtorEq, hq1, hq3, hq4, hq5, hq6, h8, h9, h10, h11, h12, h13, h14, h15, hbox, hn10, c0, to1, hO, tt1, hT, hT2, cj1, cl1, d1, ix_slc, len_slc, hL, hJ]
              · simp only [bxP, bxQ, bxQ2, reduceCtorEq, hq1, hq3, hq4, hq5, hq6, h8, h9, h10, h11, h12, h13, h14, h15, hbox, hn10, c0, to1, hO, tt1, hT, hT2, cj1, cl1, d1, ix_slc, len_slc, hL, hJ]
              · simp only [bxP, bxQ, bxQ2, reduceCtorEq, hq1, hq3, hq4, hq5, hq6, h8, h9, h10, h11, h12, h13, h14, h15, hbox, hn10, c0, to1, hO, tt1, hT, hT2, cj1, cl1, d1, ix_slc, len_slc, hL, hJ]
              · simp only [bxP, bxQ, bxQ2, reduceCtorEq, hq1, hq3, hq4, hq5, hq6, h8, h9, h10, h11, h12, h13, h14, h15, hbox, hn10, c0, to1, hO, tt1, hT, hT2, cj1, cl1, d1, ix_slc, len_slc, hL, hJ]
              · simp only [bxP, bxQ, bxQ2, reduceCtorEq, hq1, hq3, hq4, hq5, hq6, h8, h9, h10, h11, h12, h13, h14, h15, hbox, hn10, c0, to1, hO, tt1, hT, hT2, cj1, cl1, d1, ix_slc, len_slc, hL, hJ]
              · simp only [bxP, bxQ, bxQ2, reduceCtorEq, hq1, hq3, hq4, hq5, hq6, h8, h9, h10, h11, h12, h13, h14, h15, hbox, hn10, c0, to1, hO, tt1, hT, hT2, cj1, cl1, d1, ix_slc, len_slc, hL, hJ]
              · simp only [bxP, bxQ, bxQ2, reduceCtorEq, hq1, hq3, hq4, hq5, hq6, h8, h9, h10, h11, h12, h13, h14, h15, hbox, hn10, c0, to1, hO, tt1, hT, hT2, cj1, cl1, d1, ix_slc, len_slc, hL, hJ] <;> rfl
              · rcases hc with ⟨e1, e2, hc⟩ | hc
                · refine .inl ⟨e1, e2, fun u hu hb => ?_⟩
                  rcases hstep u hu with h1 | h1
                  · exact hc u h1 hb
                  · subst h1
                    rw [← e1]; exact hw
                · exact .inr hc
            | false =>
              rw [hw] at hJ
              simp (maxSteps := 4000000) (disch := first | omega | assumption | (simp only [bxS, bxV, stOk, Nat.reduceBEq, Nat.reduceEqDiff, Nat.reduceAdd]; done) | (simp only [bxU]; omega) | ((try apply has_setN); apply has_ofL; simp only [bxL]; omega)) only [↓bxD, bxP, bxQ, bxQ2, Nat.reduceBEq, reduceCtorEq, Nat.reduceAdd, Nat.reduceSub, Nat.reduceMul, Nat.reduceLeDiff, Nat.reduceLT, bxR, hq1, hq3, hq4, hq5, hq6, h8, h9, h10, h11, h12, h13, h14, h15, hbox, hn10, c0, to1, hO, tt1, hT, hT2, cj1, cl1, d1, ix_slc, len_slc, hL, hJ]
              show Wp fns K18_4 _ _ _
              unfold K18_4
              simp (maxSteps := 4000000) (disch := first | omega | assumption | (simp only [bxS, bxV, stOk, Nat.reduceBEq, Nat.reduceEqDiff, Nat.reduceAdd]; done) | (simp only [bxU]; omega) | ((try apply has_setN); apply has_ofL; simp only [bxL]; omega)) only [↓bxD, bxP, bxQ, bxQ2, Nat.reduceBEq, reduceCtorEq, Nat.reduceAdd, Nat.reduceSub, Nat.reduceMul, Nat.reduceLeDiff, Nat.reduceLT, bxR, hq1, hq3, hq4, hq5, hq6, h8, h9, h10, h11, h12, h13, h14, h15, hbox, hn10, c0, to1, hO, tt1, hT, hT2, cj1, cl1, d1, ix_slc, len_slc, hL, hJ]
              show Wp fns K18_3 _ _ _
              unfold K18_3
              simp (maxSteps := 4000000) (disch := first | omega | assumption | (simp only [bxS, bxV, stOk, Nat.reduceBEq, Nat.reduceEqDiff, Nat.reduceAdd]; done) | (simp only [bxU]; omega) | ((try apply has_setN); apply has_ofL; simp only [bxL]; omega)) only [↓bxD, bxP, bxQ, bxQ2, Nat.reduceBEq, reduceCtorEq, Nat.reduceAdd, Nat.reduceSub, Nat.reduceMul, Nat.reduceLeDiff, Nat.reduceLT, bxR, hq1, hq3, hq4, hq5, hq6, h8, h9, h10, h11, h12, h13, h14, h15, hbox, hn10, c0, to1, hO, tt1, hT, hT2, cj1, cl1, d1, ix_slc, len_slc, hL, hJ]
              generalize hM2 : M1.set j _ = M2
              have hx2 : Ext Mb M2 := by rw [← hM2]; exact hx.set _ jn2
              have hmat2 : MatOwn M2 Mb.n id ids (setM A1 an t) (kk + 1) := by rw [← hM2]; exact cj4
              have hn2 : M2.get n10 = some (.cs false 3 c) := by rw [← hM2, set_ne (Ne.symm (h10n j hjm))]; exact hn10
              have ho2 : BoolsAt M2 id13 o := ho.same (by rw [← hM2, set_ne (Ne.symm (h13n j hjm))])
              have hnn2 : M2.n = M1.n := by rw [← hM2]; rfl
              clear hM2
              refine ⟨(t + 1, setM A1 an t, true), by simp only; omega, ⟨⟨hx2, hmat2, ?_, ?_, ?_, ?_, ?_⟩, hn2, by omega, ho2, ?_, ?_, ?_, ?_, ?_, ?_, ?_, ?_, by simp only; omega, ⟨fun a u e => ?_, ?_⟩, ?_⟩⟩
              · simp only [bxP, bxQ, bxQ2, reduceCtorEq, hq1, hq3, hq4, hq5, hq6, h8, h9, h10, h11, h12, h13, h14, h15, hbox, hn10, c0, to1, hO, tt1, hT, hT2, cj1, cl1, d1, ix_slc, len_slc, hL, hJ]
              · simp only [bxP, bxQ, bxQ2, reduceCtorEq, hq1, hq3, hq4, hq5, hq6, h8, h9, h10, h11, h12, h13, h14, h15, hbox, hn10, c0, to1, hO, tt1, hT, hT2, cj1, cl1, d1, ix_slc, len_slc, hL, hJ]
              · simp only [bxP, bxQ, bxQ2, reduceCtorEq, hq1, hq3, hq4, hq5, hq6, h8, h9, h10, h11, h12, h13, h14, h15, hbox, hn10, c0, to1, hO, tt1, hT, hT2, cj1, cl1, d1, ix_slc, len_slc, hL, hJ]
              · simp only [bxP, bxQ, bxQ2, reduceCtorEq, hq1, hq3, hq4, hq5, hq6, h8, h9, h10, h11, h12, h13, h14, h15, hbox, hn10, c0, to1, hO, tt1, hT, hT2, cj1, cl1, d1, ix_slc, len_slc, hL, hJ]
              · simp only [bxP, bxQ, bxQ2, reduceCtorEq, hq1, hq3, hq4, hq5, hq6, h8, h9, h10, h11, h12, h13, h14, h15, hbox, hn10, c0, to1, hO, tt1, hT, hT2, cj1, cl1, d1, ix_slc, len_slc, hL, hJ]
              · simp only [bxP, bxQ, bxQ2, reduceCtorEq, hq1, hq3, hq4, hq5, hq6, h8, h9, h10, h11, h12, h13, h14, h15, hbox, hn10, c0, to1, hO, tt1, hT, hT2, cj1, cl1, d1, ix_slc, len_slc, hL, hJ]
              · simp only [bxP, bxQ, bxQ2, reduceCtorEq, hq1, hq3, hq4, hq5, hq6, h8, h9, h10, h11, h12, h13, h14, h15, hbox, hn10, c0, to1, hO, tt1, hT, hT2, cj1, cl1, d1, ix_slc, len_slc, hL, hJ]
              · simp only [bxP, bxQ, bxQ2, reduceCtorEq, hq1, hq3, hq4, hq5, hq6, h8, h9, h10, h11, h12, h13, h14, h15, hbox, hn10, c0, to1, hO, tt1, hT, hT2, cj1, cl1, d1, ix_slc, len_slc, hL, hJ]
              · simp only [bxP, bxQ, bxQ2, reduceCtorEq, hq1, hq3, hq4, hq5, hq6, h8, h9, h10, h11, h12, h13, h14, h15, hbox, hn10, c0, to1, hO, tt1, hT, hT2, cj1, cl1, d1, ix_slc, len_slc, hL, hJ]
              · simp only [bxP, bxQ, bxQ2, reduceCtorEq, hq1, hq3, hq4, hq5, hq6, h8, h9, h10, h11, h12, h13, h14, h15, hbox, hn10, c0, to1, hO, tt1, hT, hT2, cj1, cl1, d1, ix_slc, len_slc, hL, hJ]
              · simp only [bxP, bxQ, bxQ2, reduceCtorEq, hq1, hq3, hq4, hq5, hq6, h8, h9, h10, h11, h12, h13, h14, h15, hbox, hn10, c0, to1, hO, tt1, hT, hT2, cj1, cl1, d1, ix_slc, len_slc, hL, hJ]
              · simp only [bxP, bxQ, bxQ2, reduceCtorEq, hq1, hq3, hq4, hq5, hq6, h8, h9, h10, h11, h12, h13, h14, h15, hbox, hn10, c0, to1, hO, tt1, hT, hT2, cj1, cl1, d1, ix_slc, len_slc, hL, hJ]
              · simp only [bxP, bxQ, bxQ2, reduceCtorEq, hq1, hq3, hq4, hq5, hq6, h8, h9, h10, h11, h12, h13, h14, h15, hbox, hn10, c0, to1, hO, tt1, hT, hT2, cj1, cl1, d1, ix_slc, len_slc, hL, hJ] <;> rfl
              · simp only at e
                rw [mAt_setM hFl hFr] at e
                split at e
                · rename_i e1
                  obtain ⟨rfl, rfl⟩ := e1
                  exact hup hfl _ (hs.1 _ _ hz)
                · exact hs.1 a u e
              · simp only
                rw [mAt_setM hFl hFr]
                split
                · rfl
                · exact hs.2
              · right
                have hlt := fallM_set hFl hFr hw
                refine ⟨?_, rfl⟩
                rcases hc with ⟨e1, _, _⟩ | ⟨hc, _⟩
                · rw [← e1]; exact hlt
                · exact Nat.lt_trans hlt hc
    · have d1 : decide ((t : Int) ≤ (kk : Int)) = false := decide_eq_false (by omega)
      have hte : t = kk + 1 := by simp only at htk; omega
      subst hte
      simp (maxSteps := 4000000) (disch := first | omega | assumption | (simp only [bxS, bxV, stOk, Nat.reduceBEq, Nat.reduceEqDiff, Nat.reduceAdd]; done) | (simp only [bxU]; omega) | ((try apply has_setN); apply has_ofL; simp only [bxL]; omega)) only [↓bxD, bxP, bxQ, bxQ2, Nat.reduceBEq, reduceCtorEq, Nat.reduceAdd, Nat.reduceSub, Nat.reduceMul, Nat.reduceLeDiff, Nat.reduceLT, bxR, hq1, hq3, hq4, hq5, hq6, h8, h9, h10, h11, h12, h13, h14, h15, hbox, d1]
      refine hn _ _ A1 m1 ⟨hx, hmat, ?_, ?_, ?_, ?_, ?_⟩ hn10 n10lt ?_ ?_ ?_ ?_ hs hc
      · simp only [bxP, bxQ, bxQ2, reduceCtorEq, hq1, hq3, hq4, hq5, hq6, h8, h9, h10, h11, h12, h13, h14, h15, hbox, d1]
      · simp only [bxP, bxQ, bxQ2, reduceCtorEq, hq1, hq3, hq4, hq5, hq6, h8, h9, h10, h11, h12, h13, h14, h15, hbox, d1]
      · simp only [bxP, bxQ, bxQ2, reduceCtorEq, hq1, hq3, hq4, hq5, hq6, h8, h9, h10, h11, h12, h13, h14, h15, hbox, d1]
      · simp only [bxP, bxQ, bxQ2, reduceCtorEq, hq1, hq3, hq4, hq5, hq6, h8, h9, h10, h11, h12, h13, h14, h15, hbox, d1]
      · simp only [bxP, bxQ, bxQ2, reduceCtorEq, hq1, hq3, hq4, hq5, hq6, h8, h9, h10, h11, h12, h13, h14, h15, hbox, d1]
      · simp only [bxP, bxQ, bxQ2, reduceCtorEq, hq1, hq3, hq4, hq5, hq6, h8, h9, h10, h11, h12, h13, h14, h15, hbox, d1]
      · simp only [bxP, bxQ, bxQ2, reduceCtorEq, hq1, hq3, hq4, hq5, hq6, h8, h9, h10, h11, h12, h13, h14, h15, hbox, d1]
      · simp only [bxP, bxQ, bxQ2, reduceCtorEq, hq1, hq3, hq4, hq5, hq6, h8, h9, h10, h11, h12, h13, h14, h15, hbox, d1]
      · simp only [bxP, bxQ, bxQ2, reduceCtorEq, hq1, hq3, hq4, hq5, hq6, h8, h9, h10, h11, h12, h13, h14, h15, hbox, d1]
  · exact ⟨h, hn10, n10lt, ho, h8, h9, h10, h11, h12, h13, h14, h15, Nat.zero_le _, hs, .inl ⟨rfl, rfl, fun t ht => absurd ht (Nat.not_lt_zero _)⟩⟩
end Go.Proofs.YtdggbpfpjkokpaaDoor.K
set_option linter.unusedSimpArgs false
set_option linter.unusedVariables false
namespace Go.Proofs.YtdggbpfpjkokpaaDoor.K
open Go Ev
set_option maxRecDepth 100000
set_option maxHeartbeats 4000000

structure GMd (Mb : MH) (g : Gr) (n0 kk : Nat) (vn vF vu : MV) (null use : List Bool) (F : List (List Bool)) (id : Nat) (ids : List Nat) (ln n10 i : Nat) (ar : List Int) (c : T MV) (A : List (List Bool)) (more : Bool) (k : Nat) (A1 : List (List Bool)) (m1 : Bool) (f1 : Fr) (M1 : MH) : Prop where
  st : GSt Mb M1 n0 kk vn vF vu id ids A1 f1
  hn10 : M1.get n10 = some (.cs false 3 c)
  n10lt : n10 < M1.n
  h8 : X.ev f1 (.t q8) = .b m1
  h9 : X.ev f1 (.t q9) = .i .i64 (i : Int)
  h10 : X.ev f1 (.t q10) = .p n10 0
  h11 : X.ev f1 (.t q11) = .i .i64 (k : Int)
  le : k ≤ ar.length
  snd : FlwSound g A1
  cas : (A1 = A ∧ m1 = more ∧ (bAt use ln = true → FlwHas null F A kk ln ar k)) ∨ (fallM A1 < fallM A ∧ m1 = true)
theorem flw_mid {Mb M : MH} {g : Gr} {vr vf vc vk : MV} {es : List (List MV)} {n0 kk : Nat} {vn vF vu : MV} {null use : List Bool} {fs : List (List MV)} {F : List (List Bool)} (cx : GCx Mb g vr vf vc vk es n0 kk vn vF vu null use fs F) {id : Nat} {ids : List Nat} {A : List (List Bool)} {f : Fr} (h : GSt Mb M n0 kk vn vF vu id ids A f)
    {ln n10 i : Nat} {a2 : Int} {ar : List Int} {ur : MV} {c : T MV} {more : Bool} (hr : ((ln : Int), ar, a2) ∈ g.rules) (hidl : ids.length = g.names.toNat) (hn10 : M.get n10 = some (.cs false 3 c)) (n10lt : n10 < M.n) (hC : At c 0 [.i .i64 (ln : Int), ur, .i .i64 a2]) (h10n : ∀ j ∈ ids, j ≠ n10) (hu : IntRow Mb ur ar)
    (h8 : X.ev f (.t q8) = .b more) (h9 : X.ev f (.t q9) = .i .i64 (i : Int)) (h10 : X.ev f (.t q10) = .p n10 0) (h11 : X.ev f (.t q11) = .i .i64 0) (hs : FlwSound g A) (Q : Post)
    (hn : ∀ f' M' A' more', GSt Mb M' n0 kk vn vF vu id ids A' f' → X.ev f' (.t q8) = .b more' → X.ev f' (.t q9) = .i .i64 (i : Int) → FlwSound g A' → ((A' = A ∧ more' = more ∧ (bAt use ln = true → FlwHas null F A kk ln ar ar.length)) ∨ (fallM A' < fallM A ∧ more' = true)) → Q .norm f' M') :
    Wp fns (.loop L18_10) f M (blockQ 6 Q) := by
  have c0 : cget c 0 = some (.i .i64 (ln : Int)) := hC 0 _ rfl
  have c1 : cget c 1 = some ur := hC 1 _ rfl
  obtain ⟨hl0, hl1⟩ := cx.ok.left _ hr
  have hsym := cx.ok.sym _ hr
  have hlen := cx.ok.len _ hr
  have hwf := cx.gr.wf.rules _ hr
  simp only at hl0 hl1 hsym hlen hwf
  have hn40 := cx.ok.n2
  have hk40 := cx.ok.k2
  have hkk := cx.hk
  have hul := cx.rch.1
  refine Wp_inv (σ := Nat × List (List Bool) × Bool) (fun s f1 M1 => GMd Mb g n0 kk vn vF vu null use F id ids ln n10 i ar c A more s.1 s.2.1 s.2.2 f1 M1) (fun s => ar.length - s.1) ?_ (0, A, more) ?_
  · rintro ⟨k, A1, m1⟩ f1 M1 ⟨h, hn10, n10lt, h8, h9, h10, h11, hk, hs, hc⟩
    obtain ⟨hx, hmat, hq1, hq3, hq4, hq5, hq6⟩ := h
    simp only [q1, q3, q4, q5, q6, q8, q9, q10, q11] at hq1 hq3 hq4 hq5 hq6 h8 h9 h10 h11
    have hbox := (hx.old _ cx.n0lt).trans cx.box
    unfold gcs at hbox
    rw [hkk] at hbox
    have hlo := cx.lo
    have hel := hx.lo
    have hxn := hx.n
    have hu1 := hu.ext hx
    obtain ⟨hu3, hu4⟩ := hu1.sl
    obtain ⟨v1, v2⟩ := (cx.urow.ext hx).sl
    obtain ⟨ro5, s5, c5, hg5, hgl5, hC5⟩ := (cx.urow.ext hx).read (i := ln) (by omega)
    unfold L18_10
    by_cases hk1 : k < ar.length
    · have d1 : decide ((k : Int) < (ar.length : Int)) = true := decide_eq_true (by omega)
      cases hv : bAt use ln with
      | true =>
        rw [hv] at hC5 hc
        obtain ⟨z, hz⟩ : ∃ z, ar[k]? = some z := ⟨_, List.getElem?_eq_getElem hk1⟩
        obtain ⟨ro, s, tt, hg, hid, hZ⟩ := hu1.read hz
        have hzs := hsym z (List.mem_of_getElem? hz)
        have hhas : FlwHas null F A kk ln ar k → (∀ t, 0 ≤ z → t < kk + 1 → nxt null F A kk ln (ar.drop (k + 1)) t = true → mAt A z.toNat t = true) → FlwHas null F A kk ln ar (k + 1) := fun h1 h2 j hj y hy h0 t ht hb => by
          rcases Nat.lt_succ_iff_lt_or_eq.1 hj with h3 | h3
          · exact h1 j h3 y hy h0 t ht hb
          · subst h3
            rw [hz] at hy
            injection hy with hy
            subst hy
            exact h2 t h0 ht hb
        by_cases z0 : z < 0
        · have dz : decide (z < 0) = true := decide_eq_true z0
          simp (maxSteps := 4000000) (disch := first | omega | assumption | (simp only [bxS, bxV, stOk, Nat.reduceBEq, Nat.reduceEqDiff, Nat.reduceAdd]; done) | (simp only [bxU]; omega) | ((try apply has_setN); apply has_ofL; simp only [bxL]; omega)) only [↓bxD, bxP, bxQ, bxQ2, Nat.reduceBEq, reduceCtorEq, Nat.reduceAdd, Nat.reduceSub, Nat.reduceMul, Nat.reduceLeDiff, Nat.reduceLT, bxR, hq1, hq3, hq4, hq5, hq6, h8, h9, h10, h11, hbox, hn10, c0, c1, d1, hu3, hu4, v1, v2, hg5, hC5, hg, hZ, dz, hul]
          show Wp fns K18_9 _ _ _
          unfold K18_9
          simp (maxSteps := 4000000) (disch := first | omega | assumption | (simp only [bxS, bxV, stOk, Nat.reduceBEq, Nat.reduceEqDiff, Nat.reduceAdd]; done) | (simp only [bxU]; omega) | ((try apply has_setN); apply has_ofL; simp only [bxL]; omega)) only [↓bxD, bxP, bxQ, bxQ2, Nat.reduceBEq, reduceCtorEq, Nat.reduceAdd, Nat.reduceSub, Nat.reduceMul, Nat.reduceLeDiff, Nat.reduceLT, bxR, hq1, hq3, hq4, hq5, hq6, h8, h9, h10, h11, hbox, hn10, c0, c1, d1, hu3, hu4, v1, v2, hg5, hC5, hg, hZ, dz, hul]
          show Wp fns K18_8 _ _ _
          unfold K18_8
          simp (maxSteps := 4000000) (disch := first | omega | assumption | (simp only [bxS, bxV, stOk, Nat.reduceBEq, Nat.reduceEqDiff, Nat.reduceAdd]; done) | (simp only [bxU]; omega) | ((try apply has_setN); apply has_ofL; simp only [bxL]; omega)) only [↓bxD, bxP, bxQ, bxQ2, Nat.reduceBEq, reduceCtorEq, Nat.reduceAdd, Nat.reduceSub, Nat.reduceMul, Nat.reduceLeDiff, Nat.reduceLT, bxR, hq1, hq3, hq4, hq5, hq6, h8, h9, h10, h11, hbox, hn10, c0, c1, d1, hu3, hu4, v1, v2, hg5, hC5, hg, hZ, dz, hul]
          refine ⟨(k + 1, A1, m1), by simp only; omega, ⟨⟨hx, hmat, ?_, ?_, ?_, ?_, ?_⟩, hn10, n10lt, ?_, ?_, ?_, ?_, by simp only; omega, hs, ?_⟩⟩
          · simp only [bxP, bxQ, bxQ2, reduceCtorEq, hq1, hq3, hq4, hq5, hq6, h8, h9, h10, h11, hbox, hn10, c0, c1, d1, hu3, hu4, v1, v2, hg5, hC5, hg, hZ, dz, hul]
          · simp only [bxP, bxQ, bxQ2, reduceCtorEq, hq1, hq3, hq4, hq5, hq6, h8, h9, h10, h11, hbox, hn10, c0, c1, d1, hu3, hu4, v1, v2, hg5, hC5, hg, hZ, dz, hul]
          · simp only [bxP, bxQ, bxQ2, reduceCtorEq, hq1, hq3, hq4, hq5, hq6, h8, h9, h10, h11, hbox, hn10, c0, c1, d1, hu3, hu4, v1, v2, hg5, hC5, hg, hZ, dz, hul]
          · simp only [bxP, bxQ, bxQ2, reduceCtorEq, hq1, hq3, hq4, hq5, hq6, h8, h9, h10, h11, hbox, hn10, c0, c1, d1, hu3, hu4, v1, v2, hg5, hC5, hg, hZ, dz, hul]
          · simp only [bxP, bxQ, bxQ2, reduceCtorEq, hq1, hq3, hq4, hq5, hq6, h8, h9, h10, h11, hbox, hn10, c0, c1, d1, hu3, hu4, v1, v2, hg5, hC5, hg, hZ, dz, hul]
          · simp only [bxP, bxQ, bxQ2, reduceCtorEq, hq1, hq3, hq4, hq5, hq6, h8, h9, h10, h11, hbox, hn10, c0, c1, d1, hu3, hu4, v1, v2, hg5, hC5, hg, hZ, dz, hul]
          · simp only [bxP, bxQ, bxQ2, reduceCtorEq, hq1, hq3, hq4, hq5, hq6, h8, h9, h10, h11, hbox, hn10, c0, c1, d1, hu3, hu4, v1, v2, hg5, hC5, hg, hZ, dz, hul]
          · simp only [bxP, bxQ, bxQ2, reduceCtorEq, hq1, hq3, hq4, hq5, hq6, h8, h9, h10, h11, hbox, hn10, c0, c1, d1, hu3, hu4, v1, v2, hg5, hC5, hg, hZ, dz, hul]
          · simp only [bxP, bxQ, bxQ2, reduceCtorEq, hq1, hq3, hq4, hq5, hq6, h8, h9, h10, h11, hbox, hn10, c0, c1, d1, hu3, hu4, v1, v2, hg5, hC5, hg, hZ, dz, hul] <;> rfl
          · rcases hc with ⟨e1, e2, hc⟩ | hc
            · exact .inl ⟨e1, e2, fun e => hhas (hc rfl) fun t h0 => absurd h0 (by omega)⟩
            · exact .inr hc
        · have dz : decide (z < 0) = false := decide_eq_false z0
          have z0' : 0 ≤ z := by omega
          have hzl := symB_lt hzs z0'
          obtain ⟨an, rfl⟩ : ∃ n : Nat, z = n := ⟨z.toNat, by omega⟩
          obtain ⟨vt, ht1, ht2⟩ := cut_tail hu1 hk1
          have hG : Ev.getN (ofL [MV.i IntKind.i64 g.names, MV.i IntKind.i64 ↑kk, MV.i IntKind.i64 g.start, vr, vf, vc, vk] 0) 7 0 = some [MV.i IntKind.i64 g.names, MV.i IntKind.i64 ↑kk, MV.i IntKind.i64 g.start, vr, vf, vc, vk] := (at_ofL [MV.i IntKind.i64 g.names, MV.i IntKind.i64 ↑kk, MV.i IntKind.i64 g.start, vr, vf, vc, vk]).getN
          have hmap : (some (X.ev f1 (X.t q92))).isSome = true := rfl
          simp (maxSteps := 4000000) (disch := first | omega | assumption | (simp only [bxS, bxV, stOk, Nat.reduceBEq, Nat.reduceEqDiff, Nat.reduceAdd]; done) | (simp only [bxU]; omega) | ((try apply has_setN); apply has_ofL; simp only [bxL]; omega)) only [↓bxD, bxP, bxQ, bxQ2, Nat.reduceBEq, reduceCtorEq, Nat.reduceAdd, Nat.reduceSub, Nat.reduceMul, Nat.reduceLeDiff, Nat.reduceLT, bxR, hq1, hq3, hq4, hq5, hq6, h8, h9, h10, h11, hbox, hn10, c0, c1, d1, hu3, hu4, v1, v2, hg5, hC5, hg, hZ, dz, hul, hG, ht1, Option.map_some, Option.map_none]
          show Wp fns K18_9 _ _ _
          unfold K18_9
          simp (maxSteps := 4000000) (disch := first | omega | assumption | (simp only [bxS, bxV, stOk, Nat.reduceBEq, Nat.reduceEqDiff, Nat.reduceAdd]; done) | (simp only [bxU]; omega) | ((try apply has_setN); apply has_ofL; simp only [bxL]; omega)) only [↓bxD, bxP, bxQ, bxQ2, Nat.reduceBEq, reduceCtorEq, Nat.reduceAdd, Nat.reduceSub, Nat.reduceMul, Nat.reduceLeDiff, Nat.reduceLT, bxR, hq1, hq3, hq4, hq5, hq6, h8, h9, h10, h11, hbox, hn10, c0, c1, d1, hu3, hu4, v1, v2, hg5, hC5, hg, hZ, dz, hul, hG, ht1, Option.map_some, Option.map_none]
          show Wp fns K18_7 _ _ _
          unfold K18_7
          simp (maxSteps := 4000000) (disch := first | omega | assumption | (simp only [bxS, bxV, stOk, Nat.reduceBEq, Nat.reduceEqDiff, Nat.reduceAdd]; done) | (simp only [bxU]; omega) | ((try apply has_setN); apply has_ofL; simp only [bxL]; omega)) only [↓bxD, bxP, bxQ, bxQ2, Nat.reduceBEq, reduceCtorEq, Nat.reduceAdd, Nat.reduceSub, Nat.reduceMul, Nat.reduceLeDiff, Nat.reduceLT, bxR, hq1, hq3, hq4, hq5, hq6, h8, h9, h10, h11, hbox, hn10, c0, c1, d1, hu3, hu4, v1, v2, hg5, hC5, hg, hZ, dz, hul, hG, ht1, Option.map_some, Option.map_none]
          refine Wp_dreg_of (by omega) ?_
          simp (maxSteps := 4000000) (disch := first | omega | assumption | (simp only [bxS, bxV, stOk, Nat.reduceBEq, Nat.reduceEqDiff, Nat.reduceAdd]; done) | (simp only [bxU]; omega) | ((try apply has_setN); apply has_ofL; simp only [bxL]; omega)) only [↓bxD, bxP, bxQ, bxQ2, Nat.reduceBEq, reduceCtorEq, Nat.reduceAdd, Nat.reduceSub, Nat.reduceMul, Nat.reduceLeDiff, Nat.reduceLT, bxR, hq1, hq3, hq4, hq5, hq6, h8, h9, h10, h11, hbox, hn10, c0, c1, d1, hu3, hu4, v1, v2, hg5, hC5, hg, hZ, dz, hul, hG, ht1, Option.map_some, Option.map_none]
          have hdm : ∀ y, y ∈ ar.drop (k + 1) → y ∈ ar := fun y hy => List.mem_of_mem_drop hy
          refine bindP_call (begin_any (null := null) (F := F) hkk (by omega) (by omega) (cx.nrow.ext hx) (cx.frow.ext hx) ht2 ⟨cx.nul.1, cx.fst.len, cx.fst.rows⟩ (fun y hy => hsym y (hdm y hy)) (fun y hy => hwf.2.1 y (hdm y hy)) (by rw [List.length_drop]; omega) cx.ok.n1) ?_
          rintro m M2 ⟨hx2, id13, o, rfl, hid1, hid2, hob, ho1, ho2, ho3⟩
          have hn2 := hx2.n
          have hl2 := hx2.lo
          have hb2 := (hx2.old n0 (by have := cx.n0lt; omega)).trans hbox
          have hnn := (hx2.old _ n10lt).trans hn10
          simp (maxSteps := 4000000) (disch := first | omega | assumption | (simp only [bxS, bxV, stOk, Nat.reduceBEq, Nat.reduceEqDiff, Nat.reduceAdd]; done) | (simp only [bxU]; omega) | ((try apply has_setN); apply has_ofL; simp only [bxL]; omega)) only [↓bxD, bxP, bxQ, bxQ2, Nat.reduceBEq, reduceCtorEq, Nat.reduceAdd, Nat.reduceSub, Nat.reduceMul, Nat.reduceLeDiff, Nat.reduceLT, bxR, hq1, hq3, hq4, hq5, hq6, h8, h9, h10, h11, hb2, hnn]
          show Wp fns K18_6 _ _ _
          unfold K18_6
          simp (maxSteps := 4000000) (disch := first | omega | assumption | (simp only [bxS, bxV, stOk, Nat.reduceBEq, Nat.reduceEqDiff, Nat.reduceAdd]; done) | (simp only [bxU]; omega) | ((try apply has_setN); apply has_ofL; simp only [bxL]; omega)) only [↓bxD, bxP, bxQ, bxQ2, Nat.reduceBEq, reduceCtorEq, Nat.reduceAdd, Nat.reduceSub, Nat.reduceMul, Nat.reduceLeDiff, Nat.reduceLT, bxR, hq1, hq3, hq4, hq5, hq6, h8, h9, h10, h11, hb2, hnn]
          have hbo : ∀ t, t < kk + 1 → bAt o t = (decide (t < kk) && begV null F (ar.drop (k + 1)) t) := fun t ht => by
            by_cases e : t < kk
            · rw [ho2 t e, decide_eq_true e, Bool.true_and]
            · have e2 : t = kk := by omega
              subst e2
              rw [ho3, decide_eq_false (Nat.lt_irrefl t)]
              rfl
          have hrch : Rch g ((ln : Int), ar, a2).1.toNat := by
            refine (cx.rch.2 _).1 ?_
            simp only [Int.toNat_natCast]
            rw [bAt_at (by omega), hv]
          have hot : ∀ t, t < kk + 1 → bAt o t = true → Flw g an t := fun t ht hb => by
            rw [hbo t ht, Bool.and_eq_true] at hb
            have := flw_of_beg cx.nul cx.fst hr hrch hz z0' hb.2
            simpa using this
          have hup : allN null (ar.drop (k + 1)) = true → ∀ t, Flw g ln t → Flw g an t := fun hf t ht => by
            have := flw_of_up (t := t) cx.nul hr hrch hz z0' hf (by simpa using ht)
            simpa using this
          refine flw_in (i := i) (k := k) (more := m1) (c := c) (n10 := n10) cx ⟨hx.trans hx2, hmat.ext hx2, ?_, ?_, ?_, ?_, ?_⟩ (by omega) (by omega) hnn (by omega) hC h10n hob (fun j hj => ?_) ho1 ?_ ?_ ?_ ?_ ?_ ?_ ?_ ?_ hs hot hup _ ?_
          · simp only [bxP, bxQ, bxQ2, reduceCtorEq, hq1, hq3, hq4, hq5, hq6, h8, h9, h10, h11, hb2, hnn]
          · simp only [bxP, bxQ, bxQ2, reduceCtorEq, hq1, hq3, hq4, hq5, hq6, h8, h9, h10, h11, hb2, hnn]
          · simp only [bxP, bxQ, bxQ2, reduceCtorEq, hq1, hq3, hq4, hq5, hq6, h8, h9, h10, h11, hb2, hnn]
          · simp only [bxP, bxQ, bxQ2, reduceCtorEq, hq1, hq3, hq4, hq5, hq6, h8, h9, h10, h11, hb2, hnn]
          · simp only [bxP, bxQ, bxQ2, reduceCtorEq, hq1, hq3, hq4, hq5, hq6, h8, h9, h10, h11, hb2, hnn]
          · have := (hmat.ne j hj).2.2; omega
          · simp only [bxP, bxQ, bxQ2, reduceCtorEq, hq1, hq3, hq4, hq5, hq6, h8, h9, h10, h11, hb2, hnn]
          · simp only [bxP, bxQ, bxQ2, reduceCtorEq, hq1, hq3, hq4, hq5, hq6, h8, h9, h10, h11, hb2, hnn]
          · simp only [bxP, bxQ, bxQ2, reduceCtorEq, hq1, hq3, hq4, hq5, hq6, h8, h9, h10, h11, hb2, hnn]
          · simp only [bxP, bxQ, bxQ2, reduceCtorEq, hq1, hq3, hq4, hq5, hq6, h8, h9, h10, h11, hb2, hnn]
          · simp only [bxP, bxQ, bxQ2, reduceCtorEq, hq1, hq3, hq4, hq5, hq6, h8, h9, h10, h11, hb2, hnn]
          · simp only [bxP, bxQ, bxQ2, reduceCtorEq, hq1, hq3, hq4, hq5, hq6, h8, h9, h10, h11, hb2, hnn]
          · simp only [bxP, bxQ, bxQ2, reduceCtorEq, hq1, hq3, hq4, hq5, hq6, h8, h9, h10, h11, hb2, hnn]
          · simp only [bxP, bxQ, bxQ2, reduceCtorEq, hq1, hq3, hq4, hq5, hq6, h8, h9, h10, h11, hb2, hnn]
          intro f' M' A' more' h' hn10' n10lt' h8' h9' h10' h11' hs' hcase
          have hqq := And.intro h8' (And.intro h9' (And.intro h10' h11'))
          simp only [q8, q9, q10, q11] at hqq
          obtain ⟨p8, p9, p10, p11⟩ := hqq
          simp (maxSteps := 4000000) (disch := first | omega | assumption | (simp only [bxS, bxV, stOk, Nat.reduceBEq, Nat.reduceEqDiff, Nat.reduceAdd]; done) | (simp only [bxU]; omega) | ((try apply has_setN); apply has_ofL; simp only [bxL]; omega)) only [↓bxD, bxP, bxQ, bxQ2, Nat.reduceBEq, reduceCtorEq, Nat.reduceAdd, Nat.reduceSub, Nat.reduceMul, Nat.reduceLeDiff, Nat.reduceLT, bxR, p8, p9, p10, p11]
          show Wp fns K18_8 _ _ _
          unfold K18_8
          simp (maxSteps := 4000000) (disch := first | omega | assumption | (simp only [bxS, bxV, stOk, Nat.reduceBEq, Nat.reduceEqDiff, Nat.reduceAdd]; done) | (simp only [bxU]; omega) | ((try apply has_setN); apply has_ofL; simp only [bxL]; omega)) only [↓bxD, bxP, bxQ, bxQ2, Nat.reduceBEq, reduceCtorEq, Nat.reduceAdd, Nat.reduceSub, Nat.reduceMul, Nat.reduceLeDiff, Nat.reduceLT, bxR, p8, p9, p10, p11]
          refine ⟨(k + 1, A', more'), by simp only; omega, ⟨⟨h'.ext, h'.mat, ?_, ?_, ?_, ?_, ?_⟩, hn10', n10lt', ?_, ?_, ?_, ?_, by simp only; omega, hs', ?_⟩⟩
          · have := h'.q1
            simp only [q1] at this
            simp (maxSteps := 4000000) (disch := first | omega | assumption | (simp only [bxS, bxV, stOk, Nat.reduceBEq, Nat.reduceEqDiff, Nat.reduceAdd]; done) | (simp only [bxU]; omega) | ((try apply has_setN); apply has_ofL; simp only [bxL]; omega)) only [↓bxD, bxP, bxQ, bxQ2, Nat.reduceBEq, reduceCtorEq, Nat.reduceAdd, Nat.reduceSub, Nat.reduceMul, Nat.reduceLeDiff, Nat.reduceLT, bxR, p8, p9, p10, p11, this]
          · have := h'.q3
            simp only [q3] at this
            simp (maxSteps := 4000000) (disch := first | omega | assumption | (simp only [bxS, bxV, stOk, Nat.reduceBEq, Nat.reduceEqDiff, Nat.reduceAdd]; done) | (simp only [bxU]; omega) | ((try apply has_setN); apply has_ofL; simp only [bxL]; omega)) only [↓bxD, bxP, bxQ, bxQ2, Nat.reduceBEq, reduceCtorEq, Nat.reduceAdd, Nat.reduceSub, Nat.reduceMul, Nat.reduceLeDiff, Nat.reduceLT, bxR, p8, p9, p10, p11, this]
          · have := h'.q4
            simp only [q4] at this
            simp (maxSteps := 4000000) (disch := first | omega | assumption | (simp only [bxS, bxV, stOk, Nat.reduceBEq, Nat.reduceEqDiff, Nat.reduceAdd]; done) | (simp only [bxU]; omega) | ((try apply has_setN); apply has_ofL; simp only [bxL]; omega)) only [↓bxD, bxP, bxQ, bxQ2, Nat.reduceBEq, reduceCtorEq, Nat.reduceAdd, Nat.reduceSub, Nat.reduceMul, Nat.reduceLeDiff, Nat.reduceLT, bxR, p8, p9, p10, p11, this]
          · have := h'.q5
            simp only [q5] at this
            simp (maxSteps := 4000000) (disch := first | omega | assumption | (simp only [bxS, bxV, stOk, Nat.reduceBEq, Nat.reduceEqDiff, Nat.reduceAdd]; done) | (simp only [bxU]; omega) | ((try apply has_setN); apply has_ofL; simp only [bxL]; omega)) only [↓bxD, bxP, bxQ, bxQ2, Nat.reduceBEq, reduceCtorEq, Nat.reduceAdd, Nat.reduceSub, Nat.reduceMul, Nat.reduceLeDiff, Nat.reduceLT, bxR, p8, p9, p10, p11, this]
          · have := h'.q6
            simp only [q6] at this
            simp (maxSteps := 4000000) (disch := first | omega | assumption | (simp only [bxS, bxV, stOk, Nat.reduceBEq, Nat.reduceEqDiff, Nat.reduceAdd]; done) | (simp only [bxU]; omega) | ((try apply has_setN); apply has_ofL; simp only [bxL]; omega)) only [↓bxD, bxP, bxQ, bxQ2, Nat.reduceBEq, reduceCtorEq, Nat.reduceAdd, Nat.reduceSub, Nat.reduceMul, Nat.reduceLeDiff, Nat.reduceLT, bxR, p8, p9, p10, p11, this]
          · simp only [bxP, bxQ, bxQ2, reduceCtorEq, p8, p9, p10, p11]
          · simp only [bxP, bxQ, bxQ2, reduceCtorEq, p8, p9, p10, p11]
          · simp only [bxP, bxQ, bxQ2, reduceCtorEq, p8, p9, p10, p11]
          · simp only [bxP, bxQ, bxQ2, reduceCtorEq, p8, p9, p10, p11] <;> rfl
          · rcases hcase with ⟨e1, e2, hv2⟩ | ⟨hv2, e2⟩
            · subst e1 e2
              rcases hc with ⟨e1, e2, hc⟩ | hc
              · subst e1
                refine .inl ⟨rfl, e2, fun _ => hhas (hc rfl) fun t _ ht hb => ?_⟩
                refine hv2 t ht ?_
                rw [hbo t ht]
                exact hb
              · exact .inr hc
            · right
              refine ⟨?_, e2⟩
              rcases hc with ⟨e1, _, _⟩ | ⟨hc, _⟩
              · rw [← e1]; exact hv2
              · exact Nat.lt_trans hv2 hc
      | false =>
        rw [hv] at hC5 hc
        simp (maxSteps := 4000000) (disch := first | omega | assumption | (simp only [bxS, bxV, stOk, Nat.reduceBEq, Nat.reduceEqDiff, Nat.reduceAdd]; done) | (simp only [bxU]; omega) | ((try apply has_setN); apply has_ofL; simp only [bxL]; omega)) only [↓bxD, bxP, bxQ, bxQ2, Nat.reduceBEq, reduceCtorEq, Nat.reduceAdd, Nat.reduceSub, Nat.reduceMul, Nat.reduceLeDiff, Nat.reduceLT, bxR, hq1, hq3, hq4, hq5, hq6, h8, h9, h10, h11, hbox, hn10, c0, c1, d1, hu3, hu4, v1, v2, hg5, hC5, hul]
        refine hn _ _ A1 m1 ⟨hx, hmat, ?_, ?_, ?_, ?_, ?_⟩ ?_ ?_ hs ?_
        · simp only [bxP, bxQ, bxQ2, reduceCtorEq, hq1, hq3, hq4, hq5, hq6, h8, h9, h10, h11, hbox, hn10, c0, c1, d1, hu3, hu4, v1, v2, hg5, hC5, hul]
        · simp only [bxP, bxQ, bxQ2, reduceCtorEq, hq1, hq3, hq4, hq5, hq6, h8, h9, h10, h11, hbox, hn10, c0, c1, d1, hu3, hu4, v1, v2, hg5, hC5, hul]
        · simp only [bxP, bxQ, bxQ2, reduceCtorEq, hq1, hq3, hq4, hq5, hq6, h8, h9, h10, h11, hbox, hn10, c0, c1, d1, hu3, hu4, v1, v2, hg5, hC5, hul]
        · simp only [bxP, bxQ, bxQ2, reduceCtorEq, hq1, hq3, hq4, hq5, hq6, h8, h9, h10, h11, hbox, hn10, c0, c1, d1, hu3, hu4, v1, v2, hg5, hC5, hul]
        · simp only [bxP, bxQ, bxQ2, reduceCtorEq, hq1, hq3, hq4, hq5, hq6, h8, h9, h10, h11, hbox, hn10, c0, c1, d1, hu3, hu4, v1, v2, hg5, hC5, hul]
        · simp only [bxP, bxQ, bxQ2, reduceCtorEq, hq1, hq3, hq4, hq5, hq6, h8, h9, h10, h11, hbox, hn10, c0, c1, d1, hu3, hu4, v1, v2, hg5, hC5, hul]
        · simp only [bxP, bxQ, bxQ2, reduceCtorEq, hq1, hq3, hq4, hq5, hq6, h8, h9, h10, h11, hbox, hn10, c0, c1, d1, hu3, hu4, v1, v2, hg5, hC5, hul]
        · rcases hc with ⟨e1, e2, hc⟩ | hc
          · exact .inl ⟨e1, e2, fun e => by rw [hv] at e; cases e⟩
          · exact .inr hc
    · have d1 : decide ((k : Int) < (ar.length : Int)) = false := decide_eq_false (by omega)
      have hke : k = ar.length := by simp only at hk; omega
      subst hke
      simp (maxSteps := 4000000) (disch := first | omega | assumption | (simp only [bxS, bxV, stOk, Nat.reduceBEq, Nat.reduceEqDiff, Nat.reduceAdd]; done) | (simp only [bxU]; omega) | ((try apply has_setN); apply has_ofL; simp only [bxL]; omega)) only [↓bxD, bxP, bxQ, bxQ2, Nat.reduceBEq, reduceCtorEq, Nat.reduceAdd, Nat.reduceSub, Nat.reduceMul, Nat.reduceLeDiff, Nat.reduceLT, bxR, hq1, hq3, hq4, hq5, hq6, h8, h9, h10, h11, hbox, hn10, c0, c1, d1, hu3, hu4]
      refine hn _ _ A1 m1 ⟨hx, hmat, ?_, ?_, ?_, ?_, ?_⟩ ?_ ?_ hs hc
      · simp only [bxP, bxQ, bxQ2, reduceCtorEq, hq1, hq3, hq4, hq5, hq6, h8, h9, h10, h11, hbox, hn10, c0, c1, d1, hu3, hu4]
      · simp only [bxP, bxQ, bxQ2, reduceCtorEq, hq1, hq3, hq4, hq5, hq6, h8, h9, h10, h11, hbox, hn10, c0, c1, d1, hu3, hu4]
      · simp only [bxP, bxQ, bxQ2, reduceCtorEq, hq1, hq3, hq4, hq5, hq6, h8, h9, h10, h11, hbox, hn10, c0, c1, d1, hu3, hu4]
      · simp only [bxP, bxQ, bxQ2, reduceCtorEq, hq1, hq3, hq4, hq5, hq6, h8, h9, h10, h11, hbox, hn10, c0, c1, d1, hu3, hu4]
      · simp only [bxP, bxQ, bxQ2, reduceCtorEq, hq1, hq3, hq4, hq5, hq6, h8, h9, h10, h11, hbox, hn10, c0, c1, d1, hu3, hu4]
      · simp only [bxP, bxQ, bxQ2, reduceCtorEq, hq1, hq3, hq4, hq5, hq6, h8, h9, h10, h11, hbox, hn10, c0, c1, d1, hu3, hu4]
      · simp only [bxP, bxQ, bxQ2, reduceCtorEq, hq1, hq3, hq4, hq5, hq6, h8, h9, h10, h11, hbox, hn10, c0, c1, d1, hu3, hu4]
  · exact ⟨h, hn10, n10lt, h8, h9, h10, h11, Nat.zero_le _, hs, .inl ⟨rfl, rfl, fun _ j hj => absurd hj (Nat.not_lt_zero _)⟩⟩
end Go.Proofs.YtdggbpfpjkokpaaDoor.K
set_option linter.unusedSimpArgs false
set_option linter.unusedVariables false
namespace Go.Proofs.YtdggbpfpjkokpaaDoor.K
open Go Ev
set_option maxRecDepth 100000
set_option maxHeartbeats 4000000

structure GRd (Mb : MH) (g : Gr) (n0 kk : Nat) (vn vF vu : MV) (null use : List Bool) (F : List (List Bool)) (id : Nat) (ids : List Nat) (A : List (List Bool)) (i : Nat) (A1 : List (List Bool)) (m1 : Bool) (f1 : Fr) (M1 : MH) : Prop where
  st : GSt Mb M1 n0 kk vn vF vu id ids A1 f1
  h9 : X.ev f1 (.t q9) = .i .i64 (i : Int)
  h8 : X.ev f1 (.t q8) = .b m1
  le : i ≤ g.rules.length
  snd : FlwSound g A1
  cas : (m1 = true ∧ fallM A1 < fallM A) ∨ (m1 = false ∧ A1 = A ∧ FlwClosed null use F A kk (g.rules.take i))
theorem flw_round {Mb M : MH} {g : Gr} {vr vf vc vk : MV} {es : List (List MV)} {n0 kk : Nat} {vn vF vu : MV} {null use : List Bool} {fs : List (List MV)} {F : List (List Bool)} (cx : GCx Mb g vr vf vc vk es n0 kk vn vF vu null use fs F) {id : Nat} {ids : List Nat} {A : List (List Bool)} {f : Fr} (h : GSt Mb M n0 kk vn vF vu id ids A f) (hidl : ids.length = g.names.toNat) (hs : FlwSound g A) (Q : Post)
    (hn : ∀ f' M' A' more, GSt Mb M' n0 kk vn vF vu id ids A' f' → X.ev f' (.t q8) = .b more → FlwSound g A' → ((more = true ∧ fallM A' < fallM A) ∨ (more = false ∧ A' = A ∧ FlwClosed null use F A kk g.rules)) → Q .norm f' M') : Wp fns K18_14 f M Q := by
  unfold K18_14
  simp (maxSteps := 4000000) (disch := first | omega | assumption | (simp only [bxS, bxV, stOk, Nat.reduceBEq, Nat.reduceEqDiff, Nat.reduceAdd]; done) | (simp only [bxU]; omega) | ((try apply has_setN); apply has_ofL; simp only [bxL]; omega)) only [↓bxD, bxP, bxQ, bxQ2, Nat.reduceBEq, reduceCtorEq, Nat.reduceAdd, Nat.reduceSub, Nat.reduceMul, Nat.reduceLeDiff, Nat.reduceLT, bxR]
  have hkk := cx.hk
  have hrl := cx.ok.rl
  have hn40 := cx.ok.n2
  refine Wp_inv (σ := Nat × List (List Bool) × Bool) (fun s f1 M1 => GRd Mb g n0 kk vn vF vu null use F id ids A s.1 s.2.1 s.2.2 f1 M1) (fun s => g.rules.length - s.1) ?_ (0, A, false) ?_
  · rintro ⟨i, A1, m1⟩ f1 M1 ⟨⟨hx, hmat, hq1, hq3, hq4, hq5, hq6⟩, h9, h8, hi, hs, hc⟩
    simp only [q1, q3, q4, q5, q6, q8, q9] at hq1 hq3 hq4 hq5 hq6 h8 h9
    have hbox := (hx.old _ cx.n0lt).trans cx.box
    unfold gcs at hbox
    have hlo := cx.lo
    have hel := hx.lo
    have hxn := hx.n
    have hn0 := cx.n0lt
    obtain ⟨hr1, hr2⟩ := cx.gr.rules.row.sl
    rw [cx.gr.rules.len] at hr2
    unfold L18_13
    by_cases hi' : i < g.rules.length
    · have d1 : decide ((i : Int) < (g.rules.length : Int)) = true := decide_eq_true (by omega)
      obtain ⟨r, hr⟩ : ∃ r, g.rules[i]? = some r := ⟨_, List.getElem?_eq_getElem hi'⟩
      obtain ⟨a0, ar, a2⟩ := r
      have hmem := List.mem_of_getElem? hr
      obtain ⟨ur, hu1, hu2⟩ := cx.gr.rules.get hr
      have hrow := cx.gr.rules.row.ext hx
      obtain ⟨ro3, s3, t3, hg3, hid3, hat3⟩ := hrow.read hu1
      have hN : Ev.getN t3 3 (soff vr + i * 3) = some [.i .i64 a0, ur, .i .i64 a2] := hat3.getN
      obtain ⟨hu3, hu4⟩ := hu2.sl
      have hu6 := isSl_one hu3
      have hst : stOk 3 (.ag [.i .i64 a0, ur, .i .i64 a2]) = true := by simp only [stOk, cells_ag, isU_ag, all_cons, all_nil, one_i, hu6]; rfl
      obtain ⟨ha0, ha1⟩ := cx.ok.left _ hmem
      simp only at ha0 ha1
      obtain ⟨an, rfl⟩ : ∃ n : Nat, a0 = n := ⟨a0.toNat, by omega⟩
      simp (maxSteps := 4000000) (disch := first | omega | assumption | (simp only [bxS, bxV, stOk, Nat.reduceBEq, Nat.reduceEqDiff, Nat.reduceAdd]; done) | (simp only [bxU]; omega) | ((try apply has_setN); apply has_ofL; simp only [bxL]; omega)) only [↓bxD, bxP, bxQ, bxQ2, Nat.reduceBEq, reduceCtorEq, Nat.reduceAdd, Nat.reduceSub, Nat.reduceMul, Nat.reduceLeDiff, Nat.reduceLT, bxR, hq1, hq3, hq4, hq5, hq6, h8, h9, hr1, hr2, hbox, hg3, hN, d1]
      show Wp fns K18_12 _ _ _
      unfold K18_12
      simp (maxSteps := 4000000) (disch := first | omega | assumption | (simp only [bxS, bxV, stOk, Nat.reduceBEq, Nat.reduceEqDiff, Nat.reduceAdd]; done) | (simp only [bxU]; omega) | ((try apply has_setN); apply has_ofL; simp only [bxL]; omega)) only [↓bxD, bxP, bxQ, bxQ2, Nat.reduceBEq, reduceCtorEq, Nat.reduceAdd, Nat.reduceSub, Nat.reduceMul, Nat.reduceLeDiff, Nat.reduceLT, bxR, hq1, hq3, hq4, hq5, hq6, h8, h9, hr1, hr2, hbox, hg3, hN, d1]
      generalize hM2 : (M1.push _).set M1.n _ = M2
      have hx2 : Ext M1 M2 := by rw [← hM2]; exact (Ext.push M1 _).set _ (Nat.le_refl _)
      have h10 : M2.get M1.n = some (.cs false 3 (setN [.i .i64 (an : Int), ur, .i .i64 a2] 0 (ofL [.i .i64 0, .nils, .i .i64 0] 0))) := by rw [← hM2, set_same]
      have hn3 : M2.n = M1.n + 1 := by rw [← hM2]; rfl
      clear hM2
      refine flw_mid (i := i) (more := m1) (ln := an) (n10 := M1.n) cx ⟨hx.trans hx2, hmat.ext hx2, ?_, ?_, ?_, ?_, ?_⟩ hmem hidl h10 (by omega) (at_setN _ _ _) (fun j hj => ?_) hu2 ?_ ?_ ?_ ?_ hs _ ?_
      · simp only [bxP, bxQ, bxQ2, reduceCtorEq, hq1, hq3, hq4, hq5, hq6, h8, h9, hr1, hr2, hbox, hg3, hN, d1]
      · simp only [bxP, bxQ, bxQ2, reduceCtorEq, hq1, hq3, hq4, hq5, hq6, h8, h9, hr1, hr2, hbox, hg3, hN, d1]
      · simp only [bxP, bxQ, bxQ2, reduceCtorEq, hq1, hq3, hq4, hq5, hq6, h8, h9, hr1, hr2, hbox, hg3, hN, d1]
      · simp only [bxP, bxQ, bxQ2, reduceCtorEq, hq1, hq3, hq4, hq5, hq6, h8, h9, hr1, hr2, hbox, hg3, hN, d1]
      · simp only [bxP, bxQ, bxQ2, reduceCtorEq, hq1, hq3, hq4, hq5, hq6, h8, h9, hr1, hr2, hbox, hg3, hN, d1]
      · have := (hmat.ne j hj).2.2; omega
      · simp only [bxP, bxQ, bxQ2, reduceCtorEq, hq1, hq3, hq4, hq5, hq6, h8, h9, hr1, hr2, hbox, hg3, hN, d1]
      · simp only [bxP, bxQ, bxQ2, reduceCtorEq, hq1, hq3, hq4, hq5, hq6, h8, h9, hr1, hr2, hbox, hg3, hN, d1]
      · simp only [bxP, bxQ, bxQ2, reduceCtorEq, hq1, hq3, hq4, hq5, hq6, h8, h9, hr1, hr2, hbox, hg3, hN, d1]
      · simp only [bxP, bxQ, bxQ2, reduceCtorEq, hq1, hq3, hq4, hq5, hq6, h8, h9, hr1, hr2, hbox, hg3, hN, d1]
      intro f' M' A' more' h' h8' h9' hs' hcase
      have hqq := And.intro h8' h9'
      simp only [q8, q9] at hqq
      obtain ⟨p8, p9⟩ := hqq
      simp (maxSteps := 4000000) (disch := first | omega | assumption | (simp only [bxS, bxV, stOk, Nat.reduceBEq, Nat.reduceEqDiff, Nat.reduceAdd]; done) | (simp only [bxU]; omega) | ((try apply has_setN); apply has_ofL; simp only [bxL]; omega)) only [↓bxD, bxP, bxQ, bxQ2, Nat.reduceBEq, reduceCtorEq, Nat.reduceAdd, Nat.reduceSub, Nat.reduceMul, Nat.reduceLeDiff, Nat.reduceLT, bxR, p8, p9]
      show Wp fns K18_11 _ _ _
      unfold K18_11
      simp (maxSteps := 4000000) (disch := first | omega | assumption | (simp only [bxS, bxV, stOk, Nat.reduceBEq, Nat.reduceEqDiff, Nat.reduceAdd]; done) | (simp only [bxU]; omega) | ((try apply has_setN); apply has_ofL; simp only [bxL]; omega)) only [↓bxD, bxP, bxQ, bxQ2, Nat.reduceBEq, reduceCtorEq, Nat.reduceAdd, Nat.reduceSub, Nat.reduceMul, Nat.reduceLeDiff, Nat.reduceLT, bxR, p8, p9]
      refine ⟨(i + 1, A', more'), by simp only; omega, ⟨⟨h'.ext, h'.mat, ?_, ?_, ?_, ?_, ?_⟩, ?_, ?_, by simp only; omega, hs', ?_⟩⟩
      · have := h'.q1
        simp only [q1] at this
        simp (maxSteps := 4000000) (disch := first | omega | assumption | (simp only [bxS, bxV, stOk, Nat.reduceBEq, Nat.reduceEqDiff, Nat.reduceAdd]; done) | (simp only [bxU]; omega) | ((try apply has_setN); apply has_ofL; simp only [bxL]; omega)) only [↓bxD, bxP, bxQ, bxQ2, Nat.reduceBEq, reduceCtorEq, Nat.reduceAdd, Nat.reduceSub, Nat.reduceMul, Nat.reduceLeDiff, Nat.reduceLT, bxR, p8, p9, this]
      · have := h'.q3
        simp only [q3] at this
        simp (maxSteps := 4000000) (disch := first | omega | assumption | (simp only [bxS, bxV, stOk, Nat.reduceBEq, Nat.reduceEqDiff, Nat.reduceAdd]; done) | (simp only [bxU]; omega) | ((try apply has_setN); apply has_ofL; simp only [bxL]; omega)) only [↓bxD, bxP, bxQ, bxQ2, Nat.reduceBEq, reduceCtorEq, Nat.reduceAdd, Nat.reduceSub, Nat.reduceMul, Nat.reduceLeDiff, Nat.reduceLT, bxR, p8, p9, this]
      · have := h'.q4
        simp only [q4] at this
        simp (maxSteps := 4000000) (disch := first | omega | assumption | (simp only [bxS, bxV, stOk, Nat.reduceBEq, Nat.reduceEqDiff, Nat.reduceAdd]; done) | (simp only [bxU]; omega) | ((try apply has_setN); apply has_ofL; simp only [bxL]; omega)) only [↓bxD, bxP, bxQ, bxQ2, Nat.reduceBEq, reduceCtorEq, Nat.reduceAdd, Nat.reduceSub, Nat.reduceMul, Nat.reduceLeDiff, Nat.reduceLT, bxR, p8, p9, this]
      · have := h'.q5
        simp only [q5] at this
        simp (maxSteps := 4000000) (disch := first | omega | assumption | (simp only [bxS, bxV, stOk, Nat.reduceBEq, Nat.reduceEqDiff, Nat.reduceAdd]; done) | (simp only [bxU]; omega) | ((try apply has_setN); apply has_ofL; simp only [bxL]; omega)) only [↓bxD, bxP, bxQ, bxQ2, Nat.reduceBEq, reduceCtorEq, Nat.reduceAdd, Nat.reduceSub, Nat.reduceMul, Nat.reduceLeDiff, Nat.reduceLT, bxR, p8, p9, this]
      · have := h'.q6
        simp only [q6] at this
        simp (maxSteps := 4000000) (disch := first | omega | assumption | (simp only [bxS, bxV, stOk, Nat.reduceBEq, Nat.reduceEqDiff, Nat.reduceAdd]; done) | (simp only [bxU]; omega) | ((try apply has_setN); apply has_ofL; simp only [bxL]; omega)) only [↓bxD, bxP, bxQ, bxQ2, Nat.reduceBEq, reduceCtorEq, Nat.reduceAdd, Nat.reduceSub, Nat.reduceMul, Nat.reduceLeDiff, Nat.reduceLT, bxR, p8, p9, this]
      · simp only [bxP, bxQ, bxQ2, reduceCtorEq, p8, p9] <;> rfl
      · simp only [bxP, bxQ, bxQ2, reduceCtorEq, p8, p9]
      · rcases hcase with ⟨e1, e2, hv⟩ | ⟨hv, e2⟩
        · subst e1 e2
          rcases hc with hc | ⟨hc1, hc2, hc3⟩
          · exact .inl hc
          · subst hc2
            refine .inr ⟨hc1, rfl, fun r hr' hb => ?_⟩
            rw [List.take_add_one, hr] at hr'
            rcases List.mem_append.1 hr' with h1 | h1
            · exact hc3 r h1 hb
            · simp only [Option.toList_some, List.mem_singleton] at h1
              subst h1
              exact hv hb
        · left
          refine ⟨e2, ?_⟩
          rcases hc with ⟨_, hc⟩ | ⟨_, e, _⟩
          · exact Nat.lt_trans hv hc
          · rw [← e]; exact hv
    · have d1 : decide ((i : Int) < (g.rules.length : Int)) = false := decide_eq_false (by omega)
      have hi2 : i = g.rules.length := by simp only at hi; omega
      subst hi2
      simp only at hc
      rw [List.take_length] at hc
      simp (maxSteps := 4000000) (disch := first | omega | assumption | (simp only [bxS, bxV, stOk, Nat.reduceBEq, Nat.reduceEqDiff, Nat.reduceAdd]; done) | (simp only [bxU]; omega) | ((try apply has_setN); apply has_ofL; simp only [bxL]; omega)) only [↓bxD, bxP, bxQ, bxQ2, Nat.reduceBEq, reduceCtorEq, Nat.reduceAdd, Nat.reduceSub, Nat.reduceMul, Nat.reduceLeDiff, Nat.reduceLT, bxR, hq1, hq3, hq4, hq5, hq6, h8, h9, hr1, hr2, hbox, d1]
      refine hn _ _ A1 m1 ⟨hx, hmat, ?_, ?_, ?_, ?_, ?_⟩ ?_ hs hc
      · simp only [bxP, bxQ, bxQ2, reduceCtorEq, hq1, hq3, hq4, hq5, hq6, h8, h9, hr1, hr2, hbox, d1]
      · simp only [bxP, bxQ, bxQ2, reduceCtorEq, hq1, hq3, hq4, hq5, hq6, h8, h9, hr1, hr2, hbox, d1]
      · simp only [bxP, bxQ, bxQ2, reduceCtorEq, hq1, hq3, hq4, hq5, hq6, h8, h9, hr1, hr2, hbox, d1]
      · simp only [bxP, bxQ, bxQ2, reduceCtorEq, hq1, hq3, hq4, hq5, hq6, h8, h9, hr1, hr2, hbox, d1]
      · simp only [bxP, bxQ, bxQ2, reduceCtorEq, hq1, hq3, hq4, hq5, hq6, h8, h9, hr1, hr2, hbox, d1]
      · simp only [bxP, bxQ, bxQ2, reduceCtorEq, hq1, hq3, hq4, hq5, hq6, h8, h9, hr1, hr2, hbox, d1]
  · refine ⟨⟨h.ext, h.mat, ?_, ?_, ?_, ?_, ?_⟩, ?_, ?_, Nat.zero_le _, hs, .inr ⟨rfl, rfl, ?_⟩⟩
    · have := h.q1
      simp only [q1] at this
      simp (maxSteps := 4000000) (disch := first | omega | assumption | (simp only [bxS, bxV, stOk, Nat.reduceBEq, Nat.reduceEqDiff, Nat.reduceAdd]; done) | (simp only [bxU]; omega) | ((try apply has_setN); apply has_ofL; simp only [bxL]; omega)) only [↓bxD, bxP, bxQ, bxQ2, Nat.reduceBEq, reduceCtorEq, Nat.reduceAdd, Nat.reduceSub, Nat.reduceMul, Nat.reduceLeDiff, Nat.reduceLT, bxR, this]
    · have := h.q3
      simp only [q3] at this
      simp (maxSteps := 4000000) (disch := first | omega | assumption | (simp only [bxS, bxV, stOk, Nat.reduceBEq, Nat.reduceEqDiff, Nat.reduceAdd]; done) | (simp only [bxU]; omega) | ((try apply has_setN); apply has_ofL; simp only [bxL]; omega)) only [↓bxD, bxP, bxQ, bxQ2, Nat.reduceBEq, reduceCtorEq, Nat.reduceAdd, Nat.reduceSub, Nat.reduceMul, Nat.reduceLeDiff, Nat.reduceLT, bxR, this]
    · have := h.q4
      simp only [q4] at this
      simp (maxSteps := 4000000) (disch := first | omega | assumption | (simp only [bxS, bxV, stOk, Nat.reduceBEq, Nat.reduceEqDiff, Nat.reduceAdd]; done) | (simp only [bxU]; omega) | ((try apply has_setN); apply has_ofL; simp only [bxL]; omega)) only [↓bxD, bxP, bxQ, bxQ2, Nat.reduceBEq, reduceCtorEq, Nat.reduceAdd, Nat.reduceSub, Nat.reduceMul, Nat.reduceLeDiff, Nat.reduceLT, bxR, this]
    · have := h.q5
      simp only [q5] at this
      simp (maxSteps := 4000000) (disch := first | omega | assumption | (simp only [bxS, bxV, stOk, Nat.reduceBEq, Nat.reduceEqDiff, Nat.reduceAdd]; done) | (simp only [bxU]; omega) | ((try apply has_setN); apply has_ofL; simp only [bxL]; omega)) only [↓bxD, bxP, bxQ, bxQ2, Nat.reduceBEq, reduceCtorEq, Nat.reduceAdd, Nat.reduceSub, Nat.reduceMul, Nat.reduceLeDiff, Nat.reduceLT, bxR, this]
    · have := h.q6
      simp only [q6] at this
      simp (maxSteps := 4000000) (disch := first | omega | assumption | (simp only [bxS, bxV, stOk, Nat.reduceBEq, Nat.reduceEqDiff, Nat.reduceAdd]; done) | (simp only [bxU]; omega) | ((try apply has_setN); apply has_ofL; simp only [bxL]; omega)) only [↓bxD, bxP, bxQ, bxQ2, Nat.reduceBEq, reduceCtorEq, Nat.reduceAdd, Nat.reduceSub, Nat.reduceMul, Nat.reduceLeDiff, Nat.reduceLT, bxR, this]
    · simp only [bxP, bxQ, bxQ2, reduceCtorEq] <;> rfl
    · simp only [bxP, bxQ, bxQ2, reduceCtorEq]
    · intro r hr; simp at hr
end Go.Proofs.YtdggbpfpjkokpaaDoor.K
set_option linter.unusedSimpArgs false
set_option linter.unusedVariables false
namespace Go.Proofs.YtdggbpfpjkokpaaDoor.K
open Go Ev
set_option maxRecDepth 100000
set_option maxHeartbeats 4000000

structure GIni (Mb : MH) (n0 kk nn : Nat) (vn vF vu : MV) (i : Nat) (ids : List Nat) (f : Fr) (M : MH) : Prop where
  ext : Ext Mb M
  top : ∃ t, M.get Mb.n = some (.cs false 1 t) ∧ At t 0 ((ids.map fun j => MV.sl j 0 (kk + 1) 0) ++ List.replicate (nn - i) .nils)
  top2 : Mb.n < M.n
  len : ids.length = i
  le : i ≤ nn
  rows : ∀ j ∈ ids, BoolsAt M j (List.replicate (kk + 1) false)
  ne : ∀ j ∈ ids, j ≠ Mb.n ∧ Mb.n ≤ j ∧ j < M.n
  inj : ∀ (i i' : Nat) j, ids[i]? = some j → ids[i']? = some j → i = i'
  h1 : X.ev f (.t q1) = .p n0 0
  h3 : X.ev f (.t q3) = vn
  h4 : X.ev f (.t q4) = vF
  h5 : X.ev f (.t q5) = vu
  h6 : X.ev f (.t q6) = .sl Mb.n 0 nn 0
  h7 : X.ev f (.t q7) = .i .i64 (i : Int)
structure GRo (Mb : MH) (g : Gr) (n0 kk : Nat) (vn vF vu : MV) (null use : List Bool) (F : List (List Bool)) (id : Nat) (ids : List Nat) (A : List (List Bool)) (more : Bool) (f : Fr) (M : MH) : Prop where
  st : GSt Mb M n0 kk vn vF vu id ids A f
  h8 : X.ev f (.t q8) = .b more
  snd : FlwSound g A
  cl : more = false → FlwClosed null use F A kk g.rules
theorem follow_any {M : MH} {g : Gr} {vr vf vc vk : MV} {es : List (List MV)} (h : GrAt M vr vf vc vk es g) (hlo : M.lo ≤ M.n) : Cp fns 18 [.ag (gcs g vr vf vc vk)] M fun m M' => Ext M M' ∧ (((formP g).2 ≠ 0 ∧ m = .nils) ∨ ((formP g).2 = 0 ∧ ∃ rs A, FlwMat g A ∧ LRow M' m rs (A.map listP))) := by
  have hG : ∀ l, l = gcs g vr vf vc vk → Ev.getN (ofL l 0) 7 0 = some (gcs g vr vf vc vk) := fun l e => by subst e; exact (at_ofL (gcs g vr vf vc vk)).getN
  have hG := hG [MV.i IntKind.i64 g.names, MV.i IntKind.i64 g.kinds, MV.i IntKind.i64 g.start, vr, vf, vc, vk] rfl
  refine Cp_call (fn := F18) (by kernel_rfl) (Nat.le_of_ble_eq_true rfl) ?_
  show Wp fns B18 (T.set q0 (some (.ag (gcs g vr vf vc vk))) T.lf) M _
  unfold B18
  rw [show gcs g vr vf vc vk = [MV.i IntKind.i64 g.names, MV.i IntKind.i64 g.kinds, MV.i IntKind.i64 g.start, vr, vf, vc, vk] from rfl]
  simp (maxSteps := 4000000) (disch := first | omega | assumption | (simp only [bxS, bxV, stOk, Nat.reduceBEq, Nat.reduceEqDiff, Nat.reduceAdd]; done) | (simp only [bxU]; omega) | ((try apply has_setN); apply has_ofL; simp only [bxL]; omega)) only [↓bxD, bxP, bxQ, bxQ2, Nat.reduceBEq, reduceCtorEq, Nat.reduceAdd, Nat.reduceSub, Nat.reduceMul, Nat.reduceLeDiff, Nat.reduceLT, bxR, hG]
  generalize hM1 : M.push _ = M1
  have hg0 : M1.get M.n = some (.cs false 7 (ofL [MV.i IntKind.i64 g.names, MV.i IntKind.i64 g.kinds, MV.i IntKind.i64 g.start, vr, vf, vc, vk] 0)) := by rw [← hM1]; exact push_new _
  have hx1 : Ext M M1 := by rw [← hM1]; exact Ext.push M _
  have hn1 : M1.n = M.n + 1 := by rw [← hM1]; rfl
  have hl1 := hx1.lo
  clear hM1
  refine bindP_call (formed_any (h.ext hx1) (by omega)) ?_
  rintro m M2 ⟨rfl, hx2⟩
  have hn2 := hx2.n
  have hl2 := hx2.lo
  have hg2 := (hx2.old M.n (by omega)).trans hg0
  by_cases hz : (formP g).2 = 0
  · have dz : decide ((formP g).2 = 0) = true := decide_eq_true hz
    have hok := form_ok hz
    obtain ⟨nn, hnn⟩ : ∃ n : Nat, g.names = n := ⟨g.names.toNat, by have := hok.n1; omega⟩
    obtain ⟨kk, hkk⟩ : ∃ n : Nat, g.kinds = n := ⟨g.kinds.toNat, by have := hok.k1; omega⟩
    obtain ⟨sn, hsn⟩ : ∃ n : Nat, g.start = n := ⟨g.start.toNat, by have := hok.s1; omega⟩
    have hn40 := hok.n2
    have hk40 := hok.k2
    have hs2 := hok.s2
    have hsl : sn < nn := by omega
    simp (maxSteps := 4000000) (disch := first | omega | assumption | (simp only [bxS, bxV, stOk, Nat.reduceBEq, Nat.reduceEqDiff, Nat.reduceAdd]; done) | (simp only [bxU]; omega) | ((try apply has_setN); apply has_ofL; simp only [bxL]; omega)) only [↓bxD, bxP, bxQ, bxQ2, Nat.reduceBEq, reduceCtorEq, Nat.reduceAdd, Nat.reduceSub, Nat.reduceMul, Nat.reduceLeDiff, Nat.reduceLT, bxR, dz, hg2, hG]
    show Wp fns K18_23 _ _ _
    unfold K18_23
    simp (maxSteps := 4000000) (disch := first | omega | assumption | (simp only [bxS, bxV, stOk, Nat.reduceBEq, Nat.reduceEqDiff, Nat.reduceAdd]; done) | (simp only [bxU]; omega) | ((try apply has_setN); apply has_ofL; simp only [bxL]; omega)) only [↓bxD, bxP, bxQ, bxQ2, Nat.reduceBEq, reduceCtorEq, Nat.reduceAdd, Nat.reduceSub, Nat.reduceMul, Nat.reduceLeDiff, Nat.reduceLT, bxR, dz, hg2, hG]
    refine bindP_call (nullable_any ((h.ext hx1).ext hx2) (by omega)) ?_
    rintro vn Ma ⟨hxa, ⟨hc, _⟩ | ⟨_, null, hnul, hnrow⟩⟩
    · exact absurd hz hc
    have hna := hxa.n
    have hla := hxa.lo
    have hga := (hxa.old M.n (by omega)).trans hg2
    simp (maxSteps := 4000000) (disch := first | omega | assumption | (simp only [bxS, bxV, stOk, Nat.reduceBEq, Nat.reduceEqDiff, Nat.reduceAdd]; done) | (simp only [bxU]; omega) | ((try apply has_setN); apply has_ofL; simp only [bxL]; omega)) only [↓bxD, bxP, bxQ, bxQ2, Nat.reduceBEq, reduceCtorEq, Nat.reduceAdd, Nat.reduceSub, Nat.reduceMul, Nat.reduceLeDiff, Nat.reduceLT, bxR, dz, hga, hG]
    refine bindP_call (firsts_any (((h.ext hx1).ext hx2).ext hxa) (by omega) hz) ?_
    rintro vF Mc ⟨hxc, fs, F, hF, hFr⟩
    have hnc := hxc.n
    have hlc := hxc.lo
    have hgc := (hxc.old M.n (by omega)).trans hga
    simp (maxSteps := 4000000) (disch := first | omega | assumption | (simp only [bxS, bxV, stOk, Nat.reduceBEq, Nat.reduceEqDiff, Nat.reduceAdd]; done) | (simp only [bxU]; omega) | ((try apply has_setN); apply has_ofL; simp only [bxL]; omega)) only [↓bxD, bxP, bxQ, bxQ2, Nat.reduceBEq, reduceCtorEq, Nat.reduceAdd, Nat.reduceSub, Nat.reduceMul, Nat.reduceLeDiff, Nat.reduceLT, bxR, dz, hgc, hG]
    refine bindP_call (reachable_any ((((h.ext hx1).ext hx2).ext hxa).ext hxc) (by omega)) ?_
    rintro vu Mb ⟨hxb, ⟨hc, _⟩ | ⟨_, use, huse, hurow⟩⟩
    · exact absurd hz hc
    have hnb := hxb.n
    have hlb := hxb.lo
    have hgb := (hxb.old M.n (by omega)).trans hgc
    have hxx := (((hx1.trans hx2).trans hxa).trans hxc).trans hxb
    have cx : GCx Mb g vr vf vc vk es M.n kk vn vF vu null use fs F := ⟨h.ext hxx, hok, hgb, by omega, by omega, hnul, (hnrow.ext hxc).ext hxb, hF, hFr.ext hxb, huse, hurow, hkk⟩
    have hg3 := hgb
    rw [hnn, hkk] at hg3
    have e1 : ((kk : Int) + 1) = ((kk + 1 : Nat) : Int) := by omega
    simp (maxSteps := 4000000) (disch := first | omega | assumption | (simp only [bxS, bxV, stOk, Nat.reduceBEq, Nat.reduceEqDiff, Nat.reduceAdd]; done) | (simp only [bxU]; omega) | ((try apply has_setN); apply has_ofL; simp only [bxL]; omega)) only [↓bxD, bxP, bxQ, bxQ2, Nat.reduceBEq, reduceCtorEq, Nat.reduceAdd, Nat.reduceSub, Nat.reduceMul, Nat.reduceLeDiff, Nat.reduceLT, bxR, hg3, ev_mks, mks_ok, e1]
    generalize hM3 : Mb.push _ = M3
    have hx3 : Ext Mb M3 := by rw [← hM3]; exact Ext.push Mb _
    have hg4 : M3.get Mb.n = some (.cs false 1 (ofL (zrow [.nils] nn) 0)) := by rw [← hM3]; exact push_new _
    have hn3 : M3.n = Mb.n + 1 := by rw [← hM3]; rfl
    clear hM3
    refine Wp_inv (σ := Nat × List Nat) (fun s f1 M4 => GIni Mb M.n kk nn vn vF vu s.1 s.2 f1 M4) (fun s => nn - s.1) ?_ (0, []) ?_
    · rintro ⟨i, ids⟩ f1 M4 ⟨hx, ⟨t, ht1, ht2⟩, ht3, hlen, hi, hrows, hne, hinj, h1, h3, h4, h5, h6, h7⟩
      simp only [q1, q3, q4, q5, q6, q7] at h1 h3 h4 h5 h6 h7
      simp only at ht2 hlen hi hrows hne hinj
      have hbox := (hx.old _ cx.n0lt).trans hg3
      have hel := hx.lo
      unfold L18_2
      by_cases hi' : i < nn
      · have d1 : decide ((i : Int) < (nn : Int)) = true := decide_eq_true (by omega)
        have hH : hasB t 1 (i * 1) = true := has_at ht2 (Nat.zero_le _) (by rw [List.length_append, List.length_map, List.length_replicate]; omega)
        simp (maxSteps := 4000000) (disch := first | omega | assumption | (simp only [bxS, bxV, stOk, Nat.reduceBEq, Nat.reduceEqDiff, Nat.reduceAdd]; done) | (simp only [bxU]; omega) | ((try apply has_setN); apply has_ofL; simp only [bxL]; omega)) only [↓bxD, bxP, bxQ, bxQ2, Nat.reduceBEq, reduceCtorEq, Nat.reduceAdd, Nat.reduceSub, Nat.reduceMul, Nat.reduceLeDiff, Nat.reduceLT, bxR, h1, h3, h4, h5, h6, h7, hbox, ht1, d1, ev_mks, mks_ok, e1, ix_slc, len_slc]
        show Wp fns K18_1 _ _ _
        unfold K18_1
        simp (maxSteps := 4000000) (disch := first | omega | assumption | (simp only [bxS, bxV, stOk, Nat.reduceBEq, Nat.reduceEqDiff, Nat.reduceAdd]; done) | (simp only [bxU]; omega) | ((try apply has_setN); apply has_ofL; simp only [bxL]; omega)) only [↓bxD, bxP, bxQ, bxQ2, Nat.reduceBEq, reduceCtorEq, Nat.reduceAdd, Nat.reduceSub, Nat.reduceMul, Nat.reduceLeDiff, Nat.reduceLT, bxR, h1, h3, h4, h5, h6, h7, hbox, ht1, d1, ev_mks, mks_ok, e1, ix_slc, len_slc]
        show Wp fns K18_0 _ _ _
        unfold K18_0
        simp (maxSteps := 4000000) (disch := first | omega | assumption | (simp only [bxS, bxV, stOk, Nat.reduceBEq, Nat.reduceEqDiff, Nat.reduceAdd]; done) | (simp only [bxU]; omega) | ((try apply has_setN); apply has_ofL; simp only [bxL]; omega)) only [↓bxD, bxP, bxQ, bxQ2, Nat.reduceBEq, reduceCtorEq, Nat.reduceAdd, Nat.reduceSub, Nat.reduceMul, Nat.reduceLeDiff, Nat.reduceLT, bxR, h1, h3, h4, h5, h6, h7, hbox, ht1, d1, ev_mks, mks_ok, e1, ix_slc, len_slc]
        have hset : (((ids.map fun j => MV.sl j 0 (kk + 1) 0) ++ List.replicate (nn - i) MV.nils).set i (.sl M4.n 0 (kk + 1) 0)) = ((ids ++ [M4.n]).map fun j => MV.sl j 0 (kk + 1) 0) ++ List.replicate (nn - (i + 1)) MV.nils := by
          rw [set_mid _ _ _ MV.nils i (by rw [List.length_map]; exact hlen) (by rw [List.length_replicate]) (by rw [List.length_replicate]; omega), List.length_replicate, List.map_append]
          rfl
        have hAt := ht2.set' (k := i * 1) i (.sl M4.n 0 (kk + 1) 0) (by rw [List.length_append, List.length_map, List.length_replicate]; omega) (by omega)
        rw [hset] at hAt
        have hrow := BoolsAt.new (M := M4) (kk + 1)
        generalize hM5 : M4.push _ = M5 at hrow
        have hx5 : Ext M4 M5 := by rw [← hM5]; exact Ext.push M4 _
        have hn5 : M5.n = M4.n + 1 := by rw [← hM5]; rfl
        clear hM5
        generalize hM6 : M5.set Mb.n _ = M6
        have hx6 : Ext Mb M6 := by rw [← hM6]; exact (hx.trans hx5).set _ (Nat.le_refl _)
        have hg6 : M6.get Mb.n = some (.cs false 1 (setN [.sl M4.n 0 (kk + 1) 0] (i * 1) t)) := by rw [← hM6, set_same]; rfl
        have hk6 : ∀ j, j ≠ Mb.n → M6.get j = M5.get j := fun j hj => by rw [← hM6, set_ne hj]
        have hn6 : M6.n = M5.n := by rw [← hM6]; rfl
        clear hM6
        refine ⟨(i + 1, ids ++ [M4.n]), by simp only; omega, ⟨hx6, ⟨_, hg6, hAt⟩, by omega, by simp only; rw [List.length_append, hlen]; rfl, by simp only; omega, fun j hj => ?_, fun j hj => ?_, fun a b j ha hb => ?_, ?_, ?_, ?_, ?_, ?_, ?_⟩⟩
        · rcases List.mem_append.1 hj with h6 | h6
          · obtain ⟨z1, z2, z3⟩ := hne j h6
            exact ((hrows j h6).same (hx5.old j z3)).same (hk6 j z1)
          · rw [List.mem_singleton] at h6
            subst h6
            exact hrow.same (hk6 _ (by omega))
        · rcases List.mem_append.1 hj with h6 | h6
          · obtain ⟨z1, z2, z3⟩ := hne j h6
            exact ⟨z1, z2, by omega⟩
          · rw [List.mem_singleton] at h6
            subst h6
            exact ⟨by omega, by omega, by omega⟩
        · simp only at ha hb
          rw [List.getElem?_append] at ha hb
          split at ha
          · split at hb
            · exact hinj a b j ha hb
            · have := (hne j (List.mem_of_getElem? ha)).2.2
              have h7 := List.mem_singleton.1 (List.mem_of_getElem? hb)
              omega
          · have h7 := List.mem_singleton.1 (List.mem_of_getElem? ha)
            have h8 := (List.getElem?_eq_some_iff.1 ha).1
            simp only [List.length_singleton] at h8
            split at hb
            · have := (hne j (List.mem_of_getElem? hb)).2.2
              omega
            · have h9 := (List.getElem?_eq_some_iff.1 hb).1
              simp only [List.length_singleton] at h9
              omega
        · simp only [bxP, bxQ, bxQ2, reduceCtorEq, h1, h3, h4, h5, h6, h7, hbox, ht1, d1, ev_mks, mks_ok, e1, ix_slc, len_slc]
        · simp only [bxP, bxQ, bxQ2, reduceCtorEq, h1, h3, h4, h5, h6, h7, hbox, ht1, d1, ev_mks, mks_ok, e1, ix_slc, len_slc]
        · simp only [bxP, bxQ, bxQ2, reduceCtorEq, h1, h3, h4, h5, h6, h7, hbox, ht1, d1, ev_mks, mks_ok, e1, ix_slc, len_slc]
        · simp only [bxP, bxQ, bxQ2, reduceCtorEq, h1, h3, h4, h5, h6, h7, hbox, ht1, d1, ev_mks, mks_ok, e1, ix_slc, len_slc]
        · simp only [bxP, bxQ, bxQ2, reduceCtorEq, h1, h3, h4, h5, h6, h7, hbox, ht1, d1, ev_mks, mks_ok, e1, ix_slc, len_slc]
        · simp only [bxP, bxQ, bxQ2, reduceCtorEq, h1, h3, h4, h5, h6, h7, hbox, ht1, d1, ev_mks, mks_ok, e1, ix_slc, len_slc] <;> rfl
      · have d1 : decide ((i : Int) < (nn : Int)) = false := decide_eq_false (by omega)
        have hie : i = nn := by omega
        subst hie
        have hmat : MatOwn M4 Mb.n Mb.n ids (List.replicate i (List.replicate (kk + 1) false)) (kk + 1) := by
          refine ⟨⟨t, ht1, ?_⟩, by rw [List.length_replicate]; exact hlen, fun a j l ha hl => ?_, fun x hx => ?_, hne, ⟨Nat.le_refl _, ht3⟩, hinj⟩
          · rw [Nat.sub_self, List.replicate_zero, List.append_nil] at ht2
            exact ht2
          · rw [List.getElem?_replicate] at hl
            split at hl
            · injection hl with hl
              subst hl
              exact hrows j (List.mem_of_getElem? ha)
            · cases hl
          · rw [(List.mem_replicate.1 hx).2, List.length_replicate]
        have hz0 : ∀ a t, mAt (List.replicate i (List.replicate (kk + 1) false)) a t = false := fun a t => by
          unfold mAt bAt
          rw [List.getD_eq_getElem?_getD, List.getD_eq_getElem?_getD, List.getElem?_replicate]
          split
          · simp only [Option.getD_some]
            rw [List.getElem?_replicate]
            split <;> rfl
          · rfl
        rw [hsn] at hbox
        have hsi : sn < ids.length := by omega
        obtain ⟨tt, tt1, tt2⟩ := hmat.topr
        obtain ⟨j, hj⟩ : ∃ j, ids[sn]? = some j := ⟨_, List.getElem?_eq_getElem hsi⟩
        have hT := tt2 sn j hj
        have hjm := List.mem_of_getElem? hj
        obtain ⟨jn1, jn2, jn3⟩ := hmat.ne j hjm
        obtain ⟨cj, cj1, cj2, cj3, cj4⟩ := hmat.at_ hj (t := kk) (by omega)
        have hxn := hx.n
        have hlo5 := cx.lo
        simp (maxSteps := 4000000) (disch := first | omega | assumption | (simp only [bxS, bxV, stOk, Nat.reduceBEq, Nat.reduceEqDiff, Nat.reduceAdd]; done) | (simp only [bxU]; omega) | ((try apply has_setN); apply has_ofL; simp only [bxL]; omega)) only [↓bxD, bxP, bxQ, bxQ2, Nat.reduceBEq, reduceCtorEq, Nat.reduceAdd, Nat.reduceSub, Nat.reduceMul, Nat.reduceLeDiff, Nat.reduceLT, bxR, h1, h3, h4, h5, h6, h7, hbox, d1, tt1, hT, cj1, ix_slc, len_slc]
        show Wp fns K18_22 _ _ _
        unfold K18_22
        simp (maxSteps := 4000000) (disch := first | omega | assumption | (simp only [bxS, bxV, stOk, Nat.reduceBEq, Nat.reduceEqDiff, Nat.reduceAdd]; done) | (simp only [bxU]; omega) | ((try apply has_setN); apply has_ofL; simp only [bxL]; omega)) only [↓bxD, bxP, bxQ, bxQ2, Nat.reduceBEq, reduceCtorEq, Nat.reduceAdd, Nat.reduceSub, Nat.reduceMul, Nat.reduceLeDiff, Nat.reduceLT, bxR, h1, h3, h4, h5, h6, h7, hbox, d1, tt1, hT, cj1, ix_slc, len_slc]
        refine Wp_dreg_of (by omega) ?_
        simp (maxSteps := 4000000) (disch := first | omega | assumption | (simp only [bxS, bxV, stOk, Nat.reduceBEq, Nat.reduceEqDiff, Nat.reduceAdd]; done) | (simp only [bxU]; omega) | ((try apply has_setN); apply has_ofL; simp only [bxL]; omega)) only [↓bxD, bxP, bxQ, bxQ2, Nat.reduceBEq, reduceCtorEq, Nat.reduceAdd, Nat.reduceSub, Nat.reduceMul, Nat.reduceLeDiff, Nat.reduceLT, bxR, h1, h3, h4, h5, h6, h7, hbox, d1, tt1, hT, cj1, ix_slc, len_slc]
        have hFl : sn < (List.replicate i (List.replicate (kk + 1) false)).length := by rw [List.length_replicate]; omega
        have hFr : kk < ((List.replicate i (List.replicate (kk + 1) false)).getD sn []).length := by
          rw [List.getD_eq_getElem?_getD, List.getElem?_replicate, if_pos (by omega)]
          simp only [Option.getD_some, List.length_replicate]
          omega
        have hset := fun a u => mAt_setM (b := a) (u := u) hFl hFr
        generalize hA0 : setM (List.replicate i (List.replicate (kk + 1) false)) sn kk = A0 at hset cj4
        generalize hM5 : M4.set j _ = M5
        have hx5 : Ext Mb M5 := by rw [← hM5]; exact hx.set _ jn2
        have hmat5 : MatOwn M5 Mb.n Mb.n ids A0 (kk + 1) := by rw [← hM5]; exact cj4
        clear hM5 hA0
        show Wp fns K18_21 _ _ _
        unfold K18_21
        simp (maxSteps := 4000000) (disch := first | omega | assumption | (simp only [bxS, bxV, stOk, Nat.reduceBEq, Nat.reduceEqDiff, Nat.reduceAdd]; done) | (simp only [bxU]; omega) | ((try apply has_setN); apply has_ofL; simp only [bxL]; omega)) only [↓bxD, bxP, bxQ, bxQ2, Nat.reduceBEq, reduceCtorEq, Nat.reduceAdd, Nat.reduceSub, Nat.reduceMul, Nat.reduceLeDiff, Nat.reduceLT, bxR, h1, h3, h4, h5, h6, h7, hbox, d1, tt1, hT, cj1, ix_slc, len_slc]
        refine Wp_inv (σ := List (List Bool) × Bool) (fun s f2 M6 => GRo Mb g M.n kk vn vF vu null use F Mb.n ids s.1 s.2 f2 M6) (fun s => 2 * fallM s.1 + (if s.2 = true then 1 else 0)) ?_ (A0, true) ?_
        · rintro ⟨A, more⟩ f2 M6 ⟨h6', ht, hs, hc⟩
          have hq1 := h6'.q1
          have hq3 := h6'.q3
          have hq4 := h6'.q4
          have hq5 := h6'.q5
          have hq6 := h6'.q6
          simp only [q1, q3, q4, q5, q6, q8] at hq1 hq3 hq4 hq5 hq6 ht
          simp only at hs hc
          unfold L18_15
          cases more with
          | true =>
            simp (maxSteps := 4000000) (disch := first | omega | assumption | (simp only [bxS, bxV, stOk, Nat.reduceBEq, Nat.reduceEqDiff, Nat.reduceAdd]; done) | (simp only [bxU]; omega) | ((try apply has_setN); apply has_ofL; simp only [bxL]; omega)) only [↓bxD, bxP, bxQ, bxQ2, Nat.reduceBEq, reduceCtorEq, Nat.reduceAdd, Nat.reduceSub, Nat.reduceMul, Nat.reduceLeDiff, Nat.reduceLT, bxR, hq1, hq3, hq4, hq5, hq6, ht]
            show Wp fns K18_14 _ _ _
            refine flw_round cx ⟨h6'.ext, h6'.mat, ?_, ?_, ?_, ?_, ?_⟩ (by rw [hlen, hnn]; rfl) hs _ ?_
            · simp only [bxP, bxQ, bxQ2, reduceCtorEq, hq1, hq3, hq4, hq5, hq6, ht]
            · simp only [bxP, bxQ, bxQ2, reduceCtorEq, hq1, hq3, hq4, hq5, hq6, ht]
            · simp only [bxP, bxQ, bxQ2, reduceCtorEq, hq1, hq3, hq4, hq5, hq6, ht]
            · simp only [bxP, bxQ, bxQ2, reduceCtorEq, hq1, hq3, hq4, hq5, hq6, ht]
            · simp only [bxP, bxQ, bxQ2, reduceCtorEq, hq1, hq3, hq4, hq5, hq6, ht]
            intro f' M' A' more' h' h8' hs' hcase
            refine ⟨(A', more'), ?_, ⟨h', h8', hs', fun e => ?_⟩⟩
            · rcases hcase with ⟨rfl, hlt⟩ | ⟨rfl, rfl, _⟩
              · show 2 * fallM A' + 1 < 2 * fallM A + 1; simp only at hlt; omega
              · show 2 * fallM A' + 0 < 2 * fallM A' + 1; omega
            · rcases hcase with ⟨rfl, _⟩ | ⟨_, rfl, hc'⟩
              · cases e
              · exact hc'
          | false =>
            simp (maxSteps := 4000000) (disch := first | omega | assumption | (simp only [bxS, bxV, stOk, Nat.reduceBEq, Nat.reduceEqDiff, Nat.reduceAdd]; done) | (simp only [bxU]; omega) | ((try apply has_setN); apply has_ofL; simp only [bxL]; omega)) only [↓bxD, bxP, bxQ, bxQ2, Nat.reduceBEq, reduceCtorEq, Nat.reduceAdd, Nat.reduceSub, Nat.reduceMul, Nat.reduceLeDiff, Nat.reduceLT, bxR, hq1, hq3, hq4, hq5, hq6, ht]
            show Wp fns K18_20 _ _ _
            unfold K18_20
            simp (maxSteps := 4000000) (disch := first | omega | assumption | (simp only [bxS, bxV, stOk, Nat.reduceBEq, Nat.reduceEqDiff, Nat.reduceAdd]; done) | (simp only [bxU]; omega) | ((try apply has_setN); apply has_ofL; simp only [bxL]; omega)) only [↓bxD, bxP, bxQ, bxQ2, Nat.reduceBEq, reduceCtorEq, Nat.reduceAdd, Nat.reduceSub, Nat.reduceMul, Nat.reduceLeDiff, Nat.reduceLT, bxR, hq1, hq3, hq4, hq5, hq6, ht]
            have hmat6 := h6'.mat
            have hAl : A.length = i := by rw [← hmat6.len]; exact hlen
            have hFM : FlwMat g A := ⟨by rw [hAl, hnn]; rfl, fun x hx => by rw [hmat6.size x hx, hkk]; rfl, fun a t => ⟨hs.1 a t, fun hf => flw_all hok hnul huse hF hs.2 (by rw [hkk]; exact hc rfl) hf⟩⟩
            have hMr := hmat6.mrow
            have hAt : A.length = g.names.toNat := hFM.len
            have hx6 := h6'.ext
            have hn6 := hx6.n
            have hl6 := hx6.lo
            have hg6 := (hx6.old M.n (by omega)).trans hg3
            obtain ⟨f1', f2'⟩ := hMr.row.sl
            rw [hMr.len] at f2'
            refine Wp_inv (σ := Nat × List (List MV)) (fun s f3 M7 => Ext M6 M7 ∧ s.1 ≤ i ∧ X.ev f3 (.t q1) = .p M.n 0 ∧ X.ev f3 (.t q6) = .sl Mb.n 0 ids.length 0 ∧ X.ev f3 (.t q17) = .i .i64 (s.1 : Int) ∧ ∃ r, X.ev f3 (.t q16) = r ∧ Outs M6.n M7 r s.2 ((A.take s.1).map listP)) (fun s => i - s.1) ?_ (0, []) ?_
            · rintro ⟨k, rs⟩ f3 M7 ⟨hx7, hk, p1, p6, p17, r, p16, ho⟩
              simp only [q1, q6, q16, q17] at p1 p6 p16 p17
              simp only at hk ho
              have hbox7 := (hx7.old M.n (by omega)).trans hg6
              have hn7 := hx7.n
              have hl7 := hx7.lo
              unfold L18_18
              by_cases hk' : k < i
              · have d1 : decide ((k : Int) < (i : Int)) = true := decide_eq_true (by omega)
                obtain ⟨row, hrow⟩ : ∃ row, A[k]? = some row := ⟨_, List.getElem?_eq_getElem (by omega)⟩
                obtain ⟨ur, ro, s, t, hg, hid, hC, hB⟩ := (hMr.ext hx7).read hrow
                have hrl := hFM.rows row (List.mem_of_getElem? hrow)
                simp only [sid_sl, soff_sl, Nat.zero_add] at hg hC
                have hkl : k < ids.length := by omega
                simp (maxSteps := 4000000) (disch := first | omega | assumption | (simp only [bxS, bxV, stOk, Nat.reduceBEq, Nat.reduceEqDiff, Nat.reduceAdd]; done) | (simp only [bxU]; omega) | ((try apply has_setN); apply has_ofL; simp only [bxL]; omega)) only [↓bxD, bxP, bxQ, bxQ2, Nat.reduceBEq, reduceCtorEq, Nat.reduceAdd, Nat.reduceSub, Nat.reduceMul, Nat.reduceLeDiff, Nat.reduceLT, bxR, p1, p6, p16, p17, hbox7, d1, hg, hC, ix_slc, len_slc]
                show Wp fns K18_17 _ _ _
                unfold K18_17
                simp (maxSteps := 4000000) (disch := first | omega | assumption | (simp only [bxS, bxV, stOk, Nat.reduceBEq, Nat.reduceEqDiff, Nat.reduceAdd]; done) | (simp only [bxU]; omega) | ((try apply has_setN); apply has_ofL; simp only [bxL]; omega)) only [↓bxD, bxP, bxQ, bxQ2, Nat.reduceBEq, reduceCtorEq, Nat.reduceAdd, Nat.reduceSub, Nat.reduceMul, Nat.reduceLeDiff, Nat.reduceLT, bxR, p1, p6, p16, p17, hbox7, d1, hg, hC, ix_slc, len_slc]
                refine bindP_call (list_any hB (by omega) (by omega)) ?_
                rintro m M8 ⟨hx8, hm⟩
                have hn8 := hx8.n
                have hl8 := hx8.lo
                obtain ⟨m1, m2, m3⟩ := own_one hm
                have hfill : fillM [(0, 1, m)] [MV.nils] = some [m] := fill_one m2 m3
                have hml := own_lt hm
                have hol := own_lt ho.own
                obtain ⟨v', M9, e1', e2', e3', e4', e5'⟩ := (ho.ext hx8).app (hm.le (by omega)) (fun a b n d e a' b' n' d' e' => by
                  have := (hml a b n d e).1
                  have := (hol a' b' n' d' e').2
                  omega) (by omega) (by omega) (by rw [List.length_map, List.length_take]; omega)
                simp (maxSteps := 4000000) (disch := first | omega | assumption | (simp only [bxS, bxV, stOk, Nat.reduceBEq, Nat.reduceEqDiff, Nat.reduceAdd]; done) | (simp only [bxU]; omega) | ((try apply has_setN); apply has_ofL; simp only [bxL]; omega)) only [↓bxD, bxP, bxQ, bxQ2, Nat.reduceBEq, reduceCtorEq, Nat.reduceAdd, Nat.reduceSub, Nat.reduceMul, Nat.reduceLeDiff, Nat.reduceLT, bxR, p1, p6, p17, hfill]
                refine bindP_of e1' ?_
                simp (maxSteps := 4000000) (disch := first | omega | assumption | (simp only [bxS, bxV, stOk, Nat.reduceBEq, Nat.reduceEqDiff, Nat.reduceAdd]; done) | (simp only [bxU]; omega) | ((try apply has_setN); apply has_ofL; simp only [bxL]; omega)) only [↓bxD, bxP, bxQ, bxQ2, Nat.reduceBEq, reduceCtorEq, Nat.reduceAdd, Nat.reduceSub, Nat.reduceMul, Nat.reduceLeDiff, Nat.reduceLT, bxR, p1, p6, p17, hfill]
                show Wp fns K18_16 _ _ _
                unfold K18_16
                simp (maxSteps := 4000000) (disch := first | omega | assumption | (simp only [bxS, bxV, stOk, Nat.reduceBEq, Nat.reduceEqDiff, Nat.reduceAdd]; done) | (simp only [bxU]; omega) | ((try apply has_setN); apply has_ofL; simp only [bxL]; omega)) only [↓bxD, bxP, bxQ, bxQ2, Nat.reduceBEq, reduceCtorEq, Nat.reduceAdd, Nat.reduceSub, Nat.reduceMul, Nat.reduceLeDiff, Nat.reduceLT, bxR, p1, p6, p17, hfill]
                refine ⟨(k + 1, rs ++ [[m]]), by simp only; omega, ⟨by omega, by omega, fun j hj => by rw [e5' j hj]; exact (hx7.trans hx8).old j hj⟩, by simp only; omega, ?_⟩
                refine ⟨rfl, v', rfl, ?_⟩
                simp only
                rw [List.take_add_one, hrow, List.map_append]
                exact e2'
              · have d1 : decide ((k : Int) < (i : Int)) = false := decide_eq_false (by omega)
                have hke : k = i := by omega
                subst hke
                simp (maxSteps := 4000000) (disch := first | omega | assumption | (simp only [bxS, bxV, stOk, Nat.reduceBEq, Nat.reduceEqDiff, Nat.reduceAdd]; done) | (simp only [bxU]; omega) | ((try apply has_setN); apply has_ofL; simp only [bxL]; omega)) only [↓bxD, bxP, bxQ, bxQ2, Nat.reduceBEq, reduceCtorEq, Nat.reduceAdd, Nat.reduceSub, Nat.reduceMul, Nat.reduceLeDiff, Nat.reduceLT, bxR, p1, p6, p16, p17, hbox7, d1]
                show Wp fns K18_19 _ _ _
                unfold K18_19
                simp (maxSteps := 4000000) (disch := first | omega | assumption | (simp only [bxS, bxV, stOk, Nat.reduceBEq, Nat.reduceEqDiff, Nat.reduceAdd]; done) | (simp only [bxU]; omega) | ((try apply has_setN); apply has_ofL; simp only [bxL]; omega)) only [↓bxD, bxP, bxQ, bxQ2, Nat.reduceBEq, reduceCtorEq, Nat.reduceAdd, Nat.reduceSub, Nat.reduceMul, Nat.reduceLeDiff, Nat.reduceLT, bxR, p1, p6, p16, p17, hbox7, d1]
                refine ⟨(hxx.trans hx6).trans hx7, .inr ⟨hz, rs, A, hFM, ?_⟩⟩
                have := ho.lrow
                rwa [List.take_of_length_le (by omega)] at this
            · refine ⟨Ext.refl M6, Nat.zero_le _, ?_, ?_, ?_, .nils, ?_, Outs.nil _ _⟩
              · simp only [bxP, bxQ, bxQ2, reduceCtorEq, hq1, hq3, hq4, hq5, hq6, ht]
              · simp only [bxP, bxQ, bxQ2, reduceCtorEq, hq1, hq3, hq4, hq5, hq6, ht]
              · simp only [bxP, bxQ, bxQ2, reduceCtorEq, hq1, hq3, hq4, hq5, hq6, ht] <;> rfl
              · simp only [bxP, bxQ, bxQ2, reduceCtorEq, hq1, hq3, hq4, hq5, hq6, ht]
        · refine ⟨⟨hx5, hmat5, ?_, ?_, ?_, ?_, ?_⟩, ?_, ⟨fun a t e => ?_, ?_⟩, fun e => by cases e⟩
          · simp only [bxP, bxQ, bxQ2, reduceCtorEq, h1, h3, h4, h5, h6, h7, hbox, d1, tt1, hT, cj1, ix_slc, len_slc]
          · simp only [bxP, bxQ, bxQ2, reduceCtorEq, h1, h3, h4, h5, h6, h7, hbox, d1, tt1, hT, cj1, ix_slc, len_slc]
          · simp only [bxP, bxQ, bxQ2, reduceCtorEq, h1, h3, h4, h5, h6, h7, hbox, d1, tt1, hT, cj1, ix_slc, len_slc]
          · simp only [bxP, bxQ, bxQ2, reduceCtorEq, h1, h3, h4, h5, h6, h7, hbox, d1, tt1, hT, cj1, ix_slc, len_slc]
          · rw [hlen]; simp (maxSteps := 4000000) (disch := first | omega | assumption | (simp only [bxS, bxV, stOk, Nat.reduceBEq, Nat.reduceEqDiff, Nat.reduceAdd]; done) | (simp only [bxU]; omega) | ((try apply has_setN); apply has_ofL; simp only [bxL]; omega)) only [↓bxD, bxP, bxQ, bxQ2, Nat.reduceBEq, reduceCtorEq, Nat.reduceAdd, Nat.reduceSub, Nat.reduceMul, Nat.reduceLeDiff, Nat.reduceLT, bxR, h1, h3, h4, h5, h6, h7, hbox, d1, tt1, hT, cj1, ix_slc, len_slc]
          · simp only [bxP, bxQ, bxQ2, reduceCtorEq, h1, h3, h4, h5, h6, h7, hbox, d1, tt1, hT, cj1, ix_slc, len_slc]
          · simp only at e
            rw [hset] at e
            split at e
            · rename_i e1
              obtain ⟨rfl, rfl⟩ := e1
              have := Flw.fin (g := g)
              rw [hsn, hkk] at this
              exact this
            · rw [hz0] at e; cases e
          · rw [hsn, hkk]
            show mAt A0 sn kk = true
            rw [hset, if_pos ⟨rfl, rfl⟩]
    · refine ⟨hx3, ⟨_, hg4, ?_⟩, by omega, rfl, Nat.zero_le _, fun j hj => (by cases hj), fun j hj => (by cases hj), fun i i' j hj => by simp at hj, ?_, ?_, ?_, ?_, ?_, ?_⟩
      · rw [← zrow_rep]; exact at_ofL _
      · simp only [bxP, bxQ, bxQ2, reduceCtorEq, hg3, ev_mks, mks_ok, e1]
      · simp only [bxP, bxQ, bxQ2, reduceCtorEq, hg3, ev_mks, mks_ok, e1]
      · simp only [bxP, bxQ, bxQ2, reduceCtorEq, hg3, ev_mks, mks_ok, e1]
      · simp only [bxP, bxQ, bxQ2, reduceCtorEq, hg3, ev_mks, mks_ok, e1]
      · simp only [bxP, bxQ, bxQ2, reduceCtorEq, hg3, ev_mks, mks_ok, e1]
      · simp only [bxP, bxQ, bxQ2, reduceCtorEq, hg3, ev_mks, mks_ok, e1] <;> rfl
  · have dz : decide ((formP g).2 = 0) = false := decide_eq_false hz
    simp (maxSteps := 4000000) (disch := first | omega | assumption | (simp only [bxS, bxV, stOk, Nat.reduceBEq, Nat.reduceEqDiff, Nat.reduceAdd]; done) | (simp only [bxU]; omega) | ((try apply has_setN); apply has_ofL; simp only [bxL]; omega)) only [↓bxD, bxP, bxQ, bxQ2, Nat.reduceBEq, reduceCtorEq, Nat.reduceAdd, Nat.reduceSub, Nat.reduceMul, Nat.reduceLeDiff, Nat.reduceLT, bxR, dz]
    exact ⟨hx1.trans hx2, .inl hz⟩
end Go.Proofs.YtdggbpfpjkokpaaDoor.K
set_option linter.unusedSimpArgs false
set_option linter.unusedVariables false
namespace Go.Proofs.YtdggbpfpjkokpaaDoor.K
open Go Ev
set_option maxRecDepth 100000
set_option maxHeartbeats 4000000

theorem law_tell {M : MH} {g : Gr} {vr vf vc vk vl : MV} {es : List (List MV)} {l : List Int} (h : GrAt M vr vf vc vk es g) (hI : IntRow M vl l) (hlw : ∀ z ∈ l, Wf64 z) (hll : l.length ≤ 9223372036854775807) (hlo : M.lo ≤ M.n) (ha : ∀ M', Ext M M' → Cp fns 7 [] M' fun m M2 => m = .b true ∧ M2 = M') (hp : SetsOk 12 15 9 17) : Cp fns 3 [.ag (gcs g vr vf vc vk), vl] M fun m _ => m = .b true := by
  have hG : ∀ l, l = gcs g vr vf vc vk → Ev.getN (ofL l 0) 7 0 = some (gcs g vr vf vc vk) := fun l e => by subst e; exact (at_ofL (gcs g vr vf vc vk)).getN
  have hG := hG [MV.i IntKind.i64 g.names, MV.i IntKind.i64 g.kinds, MV.i IntKind.i64 g.start, vr, vf, vc, vk] rfl
  obtain ⟨l1, l2⟩ := hI.sl
  refine Cp_call (fn := F3) (by kernel_rfl) (Nat.le_of_ble_eq_true rfl) ?_
  show Wp fns B3 (T.set q1 (some vl) (T.set q0 (some (.ag (gcs g vr vf vc vk))) T.lf)) M _
  unfold B3
  rw [show gcs g vr vf vc vk = [MV.i IntKind.i64 g.names, MV.i IntKind.i64 g.kinds, MV.i IntKind.i64 g.start, vr, vf, vc, vk] from rfl]
  simp (maxSteps := 4000000) (disch := first | omega | assumption | (simp only [bxS, bxV, stOk, Nat.reduceBEq, Nat.reduceEqDiff, Nat.reduceAdd]; done) | (simp only [bxU]; omega) | ((try apply has_setN); apply has_ofL; simp only [bxL]; omega)) only [↓bxD, bxP, bxQ, bxQ2, Nat.reduceBEq, reduceCtorEq, Nat.reduceAdd, Nat.reduceSub, Nat.reduceMul, Nat.reduceLeDiff, Nat.reduceLT, bxR, hG]
  refine bindP_call (ha _ (by first | exact .refl _ | exact .push _ _)) ?_
  rintro m M2 ⟨rfl, rfl⟩
  generalize hM1 : M.push _ = M1
  have hg0 : M1.get M.n = some (.cs false 7 (ofL [MV.i IntKind.i64 g.names, MV.i IntKind.i64 g.kinds, MV.i IntKind.i64 g.start, vr, vf, vc, vk] 0)) := by rw [← hM1]; exact push_new _
  have hx1 : Ext M M1 := by rw [← hM1]; exact Ext.push M _
  have hn1 : M1.n = M.n + 1 := by rw [← hM1]; rfl
  have hl1 := hx1.lo
  clear hM1
  simp (maxSteps := 4000000) (disch := first | omega | assumption | (simp only [bxS, bxV, stOk, Nat.reduceBEq, Nat.reduceEqDiff, Nat.reduceAdd]; done) | (simp only [bxU]; omega) | ((try apply has_setN); apply has_ofL; simp only [bxL]; omega)) only [↓bxD, bxP, bxQ, bxQ2, Nat.reduceBEq, reduceCtorEq, Nat.reduceAdd, Nat.reduceSub, Nat.reduceMul, Nat.reduceLeDiff, Nat.reduceLT, bxR, hG, hg0]
  refine bindP_call (few_any (h.ext hx1) (by omega)) ?_
  rintro m M3 ⟨rfl, hx3⟩
  have hn3 := hx3.n
  have hl3 := hx3.lo
  have hg3 := (hx3.old M.n (by omega)).trans hg0
  have hxx := hx1.trans hx3
  cases hf : fewB g with
  | false =>
    simp (maxSteps := 4000000) (disch := first | omega | assumption | (simp only [bxS, bxV, stOk, Nat.reduceBEq, Nat.reduceEqDiff, Nat.reduceAdd]; done) | (simp only [bxU]; omega) | ((try apply has_setN); apply has_ofL; simp only [bxL]; omega)) only [↓bxD, bxP, bxQ, bxQ2, Nat.reduceBEq, reduceCtorEq, Nat.reduceAdd, Nat.reduceSub, Nat.reduceMul, Nat.reduceLeDiff, Nat.reduceLT, bxR, hG, hg3]
  | true =>
    by_cases hl20 : (20 : Int) < (l.length : Int)
    · have dl : decide ((20 : Int) < (l.length : Int)) = true := decide_eq_true hl20
      simp (maxSteps := 4000000) (disch := first | omega | assumption | (simp only [bxS, bxV, stOk, Nat.reduceBEq, Nat.reduceEqDiff, Nat.reduceAdd]; done) | (simp only [bxU]; omega) | ((try apply has_setN); apply has_ofL; simp only [bxL]; omega)) only [↓bxD, bxP, bxQ, bxQ2, Nat.reduceBEq, reduceCtorEq, Nat.reduceAdd, Nat.reduceSub, Nat.reduceMul, Nat.reduceLeDiff, Nat.reduceLT, bxR, hG, hg3, dl, l1, l2]
    · have dl : decide ((20 : Int) < (l.length : Int)) = false := decide_eq_false hl20
      simp (maxSteps := 4000000) (disch := first | omega | assumption | (simp only [bxS, bxV, stOk, Nat.reduceBEq, Nat.reduceEqDiff, Nat.reduceAdd]; done) | (simp only [bxU]; omega) | ((try apply has_setN); apply has_ofL; simp only [bxL]; omega)) only [↓bxD, bxP, bxQ, bxQ2, Nat.reduceBEq, reduceCtorEq, Nat.reduceAdd, Nat.reduceSub, Nat.reduceMul, Nat.reduceLeDiff, Nat.reduceLT, bxR, hG, hg3, dl, l1, l2]
      show Wp fns K3_1 _ _ _
      unfold K3_1
      simp (maxSteps := 4000000) (disch := first | omega | assumption | (simp only [bxS, bxV, stOk, Nat.reduceBEq, Nat.reduceEqDiff, Nat.reduceAdd]; done) | (simp only [bxU]; omega) | ((try apply has_setN); apply has_ofL; simp only [bxL]; omega)) only [↓bxD, bxP, bxQ, bxQ2, Nat.reduceBEq, reduceCtorEq, Nat.reduceAdd, Nat.reduceSub, Nat.reduceMul, Nat.reduceLeDiff, Nat.reduceLT, bxR, hG, hg3, dl, l1, l2]
      refine Wp_dreg_of (by omega) ?_
      simp (maxSteps := 4000000) (disch := first | omega | assumption | (simp only [bxS, bxV, stOk, Nat.reduceBEq, Nat.reduceEqDiff, Nat.reduceAdd]; done) | (simp only [bxU]; omega) | ((try apply has_setN); apply has_ofL; simp only [bxL]; omega)) only [↓bxD, bxP, bxQ, bxQ2, Nat.reduceBEq, reduceCtorEq, Nat.reduceAdd, Nat.reduceSub, Nat.reduceMul, Nat.reduceLeDiff, Nat.reduceLT, bxR, hG, hg3, dl, l1, l2]
      obtain ⟨v', M4, e1, e2, e3, e4, e5, e6⟩ := app_row (bytes := 8) (OwnRow.nil M3.n M3 1) (hI.ext hxx) (by omega) (Nat.le_refl _) (fun e he => by obtain ⟨z, _, rfl⟩ := List.mem_map.1 he; rfl) (by rw [List.length_nil, ints_len]; omega) (by rw [List.length_nil, ints_len]; omega)
      rw [List.nil_append] at e2
      have hx4 : Ext M3 M4 := ⟨e3, e4, fun id hid => e6 id hid hid⟩
      have hg4 := (hx4.old M.n (by omega)).trans hg3
      refine bindP_of e1 ?_
      simp (maxSteps := 4000000) (disch := first | omega | assumption | (simp only [bxS, bxV, stOk, Nat.reduceBEq, Nat.reduceEqDiff, Nat.reduceAdd]; done) | (simp only [bxU]; omega) | ((try apply has_setN); apply has_ofL; simp only [bxL]; omega)) only [↓bxD, bxP, bxQ, bxQ2, Nat.reduceBEq, reduceCtorEq, Nat.reduceAdd, Nat.reduceSub, Nat.reduceMul, Nat.reduceLeDiff, Nat.reduceLT, bxR, hG, hg3, hg4]
      have hI4 : IntRow M4 v' l := e2.row
      refine bindP_call (hp.fof ((h.ext hxx).ext hx4) hI4 hlw hll (by omega)) ?_
      rintro m M5 hm
      obtain ⟨hx5, r1, x1, b1, rfl, hr1, hs1, hb1⟩ := hm.is
      have hn5 := hx5.n
      have hl5 := hx5.lo
      have hg5 := (hx5.old M.n (by omega)).trans hg4
      have hx35 := hx4.trans hx5
      simp (maxSteps := 4000000) (disch := first | omega | assumption | (simp only [bxS, bxV, stOk, Nat.reduceBEq, Nat.reduceEqDiff, Nat.reduceAdd]; done) | (simp only [bxU]; omega) | ((try apply has_setN); apply has_ofL; simp only [bxL]; omega)) only [↓bxD, bxP, bxQ, bxQ2, Nat.reduceBEq, reduceCtorEq, Nat.reduceAdd, Nat.reduceSub, Nat.reduceMul, Nat.reduceLeDiff, Nat.reduceLT, bxR, hG, hg5]
      refine ⟨?_, ?_⟩
      · refine apart_app rfl rfl (id := M.n) (off := 0) ?_ (by omega) ?_
        · simp only [bxP, bxQ, bxQ2, reduceCtorEq, hG, hg5]
        · intro Mx hMx
          simp only [List.mem_cons, List.not_mem_nil, or_false] at hMx
          rcases hMx with rfl | rfl | rfl <;> omega
      show Wp fns K3_0 _ _ _
      unfold K3_0
      simp (maxSteps := 4000000) (disch := first | omega | assumption | (simp only [bxS, bxV, stOk, Nat.reduceBEq, Nat.reduceEqDiff, Nat.reduceAdd]; done) | (simp only [bxU]; omega) | ((try apply has_setN); apply has_ofL; simp only [bxL]; omega)) only [↓bxD, bxP, bxQ, bxQ2, Nat.reduceBEq, reduceCtorEq, Nat.reduceAdd, Nat.reduceSub, Nat.reduceMul, Nat.reduceLeDiff, Nat.reduceLT, bxR, hG, hg5]
      refine bindP_call (firstof_any (((h.ext hxx).ext hx4).ext hx5) ((hI.ext hxx).ext hx35) hlw hll (by omega)) ?_
      rintro m M6 hm
      obtain ⟨hx6, r2, x2, b2, rfl, hr2, hs2, hb2⟩ := FofPost.is hm
      have hn6 := hx6.n
      have hl6 := hx6.lo
      have hg6 := (hx6.old M.n (by omega)).trans hg5
      obtain ⟨rfl, rfl⟩ := fofIs_ext hs1 hs2
      have hr1' := hr1.ext hx6
      have hgr6 := (((h.ext hxx).ext hx4).ext hx5).ext hx6
      simp (maxSteps := 4000000) (disch := first | omega | assumption | (simp only [bxS, bxV, stOk, Nat.reduceBEq, Nat.reduceEqDiff, Nat.reduceAdd]; done) | (simp only [bxU]; omega) | ((try apply has_setN); apply has_ofL; simp only [bxL]; omega)) only [↓bxD, bxP, bxQ, bxQ2, Nat.reduceBEq, reduceCtorEq, Nat.reduceAdd, Nat.reduceSub, Nat.reduceMul, Nat.reduceLeDiff, Nat.reduceLT, bxR, hG, hg6]
      refine Wp_dreg_of (by omega) ?_
      simp (maxSteps := 4000000) (disch := first | omega | assumption | (simp only [bxS, bxV, stOk, Nat.reduceBEq, Nat.reduceEqDiff, Nat.reduceAdd]; done) | (simp only [bxU]; omega) | ((try apply has_setN); apply has_ofL; simp only [bxL]; omega)) only [↓bxD, bxP, bxQ, bxQ2, Nat.reduceBEq, reduceCtorEq, Nat.reduceAdd, Nat.reduceSub, Nat.reduceMul, Nat.reduceLeDiff, Nat.reduceLT, bxR, hG, hg6]
      refine bindP_call (hp.nul (gr_lift hgr6) (Nat.le_refl _)) ?_
      rintro m M7 hm
      obtain ⟨hx7, la, hra, hia, hla⟩ := NulPost.is hm
      have hx67 := ext_dl hx7
      have hn7 := hx67.n
      have hl7 := hx67.lo
      have hg7 := (hx67.old M.n (by omega)).trans hg6
      have hgr7 := hgr6.ext hx67
      rw [down_get] at hg7
      have hra7 : BRow (M7.down M6.lo) m la := hra
      simp (maxSteps := 4000000) (disch := first | omega | assumption | (simp only [bxS, bxV, stOk, Nat.reduceBEq, Nat.reduceEqDiff, Nat.reduceAdd]; done) | (simp only [bxU]; omega) | ((try apply has_setN); apply has_ofL; simp only [bxL]; omega)) only [↓bxD, bxP, bxQ, bxQ2, Nat.reduceBEq, reduceCtorEq, Nat.reduceAdd, Nat.reduceSub, Nat.reduceMul, Nat.reduceLeDiff, Nat.reduceLT, bxR, hG, hg6, hg7, down_get]
      generalize hN7 : M7.down M6.lo = N7 at *
      have hg7' : N7.get M.n = _ := (hx67.old M.n (by omega)).trans hg6
      refine bindP_call (nullable_any hgr7 (by omega)) ?_
      rintro m2 M8 hm
      obtain ⟨hx8, lb, hrb, hib, hlb⟩ := NulPost.is hm
      have hn8 := hx8.n
      have hl8 := hx8.lo
      have hg8 := (hx8.old M.n (by omega)).trans hg7'
      obtain rfl := nulIs_ext hia hib
      simp (maxSteps := 4000000) (disch := first | omega | assumption | (simp only [bxS, bxV, stOk, Nat.reduceBEq, Nat.reduceEqDiff, Nat.reduceAdd]; done) | (simp only [bxU]; omega) | ((try apply has_setN); apply has_ofL; simp only [bxL]; omega)) only [↓bxD, bxP, bxQ, bxQ2, Nat.reduceBEq, reduceCtorEq, Nat.reduceAdd, Nat.reduceSub, Nat.reduceMul, Nat.reduceLeDiff, Nat.reduceLT, bxR, hG, hg8]
      refine bindP_call (same_bools (hra7.ext hx8) hrb hla (by omega)) ?_
      rintro m3 M8' ⟨rfl, rfl⟩
      have hgr8 := hgr7.ext hx8
      simp (maxSteps := 4000000) (disch := first | omega | assumption | (simp only [bxS, bxV, stOk, Nat.reduceBEq, Nat.reduceEqDiff, Nat.reduceAdd]; done) | (simp only [bxU]; omega) | ((try apply has_setN); apply has_ofL; simp only [bxL]; omega)) only [↓bxD, bxP, bxQ, bxQ2, Nat.reduceBEq, reduceCtorEq, Nat.reduceAdd, Nat.reduceSub, Nat.reduceMul, Nat.reduceLeDiff, Nat.reduceLT, bxR, hG, hg8]
      refine bindP_call (hp.fst (gr_lift hgr8) (Nat.le_refl _)) ?_
      rintro m4 M9 hm
      obtain ⟨hx9, rs1, L1, hr3, hi3, hL1, hL1'⟩ := FstPost.is hm
      have hx89 := ext_dl hx9
      have hn9 := hx89.n
      have hl9 := hx89.lo
      have hg9 := (hx89.old M.n (by omega)).trans hg8
      have hgr9 := hgr8.ext hx89
      have hr39 : LRow (M9.down M8'.lo) m4 rs1 L1 := ⟨hr3.row, hr3.len, fun i l hl => hr3.at_ i l hl⟩
      rw [down_get] at hg9
      simp (maxSteps := 4000000) (disch := first | omega | assumption | (simp only [bxS, bxV, stOk, Nat.reduceBEq, Nat.reduceEqDiff, Nat.reduceAdd]; done) | (simp only [bxU]; omega) | ((try apply has_setN); apply has_ofL; simp only [bxL]; omega)) only [↓bxD, bxP, bxQ, bxQ2, Nat.reduceBEq, reduceCtorEq, Nat.reduceAdd, Nat.reduceSub, Nat.reduceMul, Nat.reduceLeDiff, Nat.reduceLT, bxR, hG, hg8, hg9, down_get]
      generalize hN9 : M9.down M8'.lo = N9 at *
      have hg9' : N9.get M.n = _ := (hx89.old M.n (by omega)).trans hg8
      refine bindP_call (first_any hgr9 (by omega)) ?_
      rintro m5 M10 hm
      obtain ⟨hx10, rs2, L2, hr4, hi4, hL2, hL2'⟩ := FstPost.is hm
      have hn10 := hx10.n
      have hl10 := hx10.lo
      have hg10 := (hx10.old M.n (by omega)).trans hg9'
      obtain rfl := fstIs_ext hi3 hi4
      simp (maxSteps := 4000000) (disch := first | omega | assumption | (simp only [bxS, bxV, stOk, Nat.reduceBEq, Nat.reduceEqDiff, Nat.reduceAdd]; done) | (simp only [bxU]; omega) | ((try apply has_setN); apply has_ofL; simp only [bxL]; omega)) only [↓bxD, bxP, bxQ, bxQ2, Nat.reduceBEq, reduceCtorEq, Nat.reduceAdd, Nat.reduceSub, Nat.reduceMul, Nat.reduceLeDiff, Nat.reduceLT, bxR, hG, hg10]
      refine bindP_call (same_lists (hr39.ext hx10) hr4 hL1 hL1' (by omega)) ?_
      rintro m6 M10' ⟨rfl, rfl⟩
      have hgr10 := hgr9.ext hx10
      simp (maxSteps := 4000000) (disch := first | omega | assumption | (simp only [bxS, bxV, stOk, Nat.reduceBEq, Nat.reduceEqDiff, Nat.reduceAdd]; done) | (simp only [bxU]; omega) | ((try apply has_setN); apply has_ofL; simp only [bxL]; omega)) only [↓bxD, bxP, bxQ, bxQ2, Nat.reduceBEq, reduceCtorEq, Nat.reduceAdd, Nat.reduceSub, Nat.reduceMul, Nat.reduceLeDiff, Nat.reduceLT, bxR, hG, hg10]
      refine bindP_call (hp.flw (gr_lift hgr10) (Nat.le_refl _)) ?_
      rintro m7 M11 hm
      obtain ⟨hx11, rs3, L3, hr5, hi5, hL3, hL3'⟩ := FlwPost.is hm
      have hx101 := ext_dl hx11
      have hn11 := hx101.n
      have hl11 := hx101.lo
      have hg11 := (hx101.old M.n (by omega)).trans hg10
      have hgr11 := hgr10.ext hx101
      have hr511 : LRow (M11.down M10'.lo) m7 rs3 L3 := ⟨hr5.row, hr5.len, fun i l hl => hr5.at_ i l hl⟩
      rw [down_get] at hg11
      simp (maxSteps := 4000000) (disch := first | omega | assumption | (simp only [bxS, bxV, stOk, Nat.reduceBEq, Nat.reduceEqDiff, Nat.reduceAdd]; done) | (simp only [bxU]; omega) | ((try apply has_setN); apply has_ofL; simp only [bxL]; omega)) only [↓bxD, bxP, bxQ, bxQ2, Nat.reduceBEq, reduceCtorEq, Nat.reduceAdd, Nat.reduceSub, Nat.reduceMul, Nat.reduceLeDiff, Nat.reduceLT, bxR, hG, hg10, hg11, down_get]
      generalize hN11 : M11.down M10'.lo = N11 at *
      have hg11' : N11.get M.n = _ := (hx101.old M.n (by omega)).trans hg10
      refine bindP_call (follow_any hgr11 (by omega)) ?_
      rintro m8 M12 hm
      obtain ⟨hx12, rs4, L4, hr6, hi6, hL4, hL4'⟩ := FlwPost.is hm
      have hn12 := hx12.n
      have hl12 := hx12.lo
      obtain rfl := flwIs_ext hi5 hi6
      simp (maxSteps := 4000000) (disch := first | omega | assumption | (simp only [bxS, bxV, stOk, Nat.reduceBEq, Nat.reduceEqDiff, Nat.reduceAdd]; done) | (simp only [bxU]; omega) | ((try apply has_setN); apply has_ofL; simp only [bxL]; omega)) only [↓bxD, bxP, bxQ, bxQ2, Nat.reduceBEq, reduceCtorEq, Nat.reduceAdd, Nat.reduceSub, Nat.reduceMul, Nat.reduceLeDiff, Nat.reduceLT, bxR, hG]
      refine bindP_call (same_lists (hr511.ext hx12) hr6 hL3 hL3' (by omega)) ?_
      rintro m9 M12' ⟨rfl, rfl⟩
      simp (maxSteps := 4000000) (disch := first | omega | assumption | (simp only [bxS, bxV, stOk, Nat.reduceBEq, Nat.reduceEqDiff, Nat.reduceAdd]; done) | (simp only [bxU]; omega) | ((try apply has_setN); apply has_ofL; simp only [bxL]; omega)) only [↓bxD, bxP, bxQ, bxQ2, Nat.reduceBEq, reduceCtorEq, Nat.reduceAdd, Nat.reduceSub, Nat.reduceMul, Nat.reduceLeDiff, Nat.reduceLT, bxR, hG]
      have hxl := ((hx67.trans hx8).trans (hx89.trans hx10)).trans (hx101.trans hx12)
      refine bindP_call (same_ints (hr1'.ext hxl) (hr2.ext hxl) hb1 (by omega)) ?_
      rintro m10 M13 ⟨rfl, rfl⟩
      simp (maxSteps := 4000000) (disch := first | omega | assumption | (simp only [bxS, bxV, stOk, Nat.reduceBEq, Nat.reduceEqDiff, Nat.reduceAdd]; done) | (simp only [bxU]; omega) | ((try apply has_setN); apply has_ofL; simp only [bxL]; omega)) only [↓bxD, bxP, bxQ, bxQ2, Nat.reduceBEq, reduceCtorEq, Nat.reduceAdd, Nat.reduceSub, Nat.reduceMul, Nat.reduceLeDiff, Nat.reduceLT, bxR, hG]
      show Wp fns .ret _ _ _
      simp (maxSteps := 4000000) (disch := first | omega | assumption | (simp only [bxS, bxV, stOk, Nat.reduceBEq, Nat.reduceEqDiff, Nat.reduceAdd]; done) | (simp only [bxU]; omega) | ((try apply has_setN); apply has_ofL; simp only [bxL]; omega)) only [↓bxD, bxP, bxQ, bxQ2, Nat.reduceBEq, reduceCtorEq, Nat.reduceAdd, Nat.reduceSub, Nat.reduceMul, Nat.reduceLeDiff, Nat.reduceLT, bxR, hG]
end Go.Proofs.YtdggbpfpjkokpaaDoor.K
set_option linter.unusedSimpArgs false
set_option linter.unusedVariables false
namespace Go.Proofs.YtdggbpfpjkokpaaDoor.K
open Go Ev
set_option maxRecDepth 100000
set_option maxHeartbeats 4000000

theorem tell_model (M : MH) (ms : List MV) (hx : Ext (Mtab tabZ) M) (hlo : M.lo ≤ M.n) (ha : ArgsTyped Tryd.prog M [26, 24] ms) : Cp fns 3 ms M fun m _ => m = .b true := by
  obtain ⟨m, r, rfl, h, m2, r2, rfl, h2, rfl⟩ := ha
  obtain ⟨g, vr, vf, vc, vk, es, rfl, hg⟩ := gram_of hx h
  obtain ⟨l, hl, hw, hll⟩ := ints_of h2
  exact law_tell hg hl hw hll hlo (fun M' h => al_any hx h) prog_sets
end Go.Proofs.YtdggbpfpjkokpaaDoor.K
