/-
  What the document's own alt reads. Conditions: the text is no longer than 200 bytes, the reader has not failed.
-/
import Derived.Test.YtdbffbdpofodmaaRSeq
set_option linter.unusedSimpArgs false
namespace Go.Proofs.Ytdbffbdpofodmaa
open Go Go.RowKit Kit
theorem Kit.Raw.one {w : World} {base o1 n1 p1 : Nat} {s1 : BitVec 256} {A1 : Option Addr} (hb : base ≤ w.heap.size) : Raw base (w.alloc (.cells #[.int .i64 o1, .int .u64 (wdN s1 0), .int .u64 (wdN s1 1), .int .u64 (wdN s1 2), .int .u64 (wdN s1 3), .slice A1 n1 p1] 26)) (.slice (some ⟨w.heap.size, 0, none⟩) 1 1) [(re6 o1 s1 (.slice A1 n1 p1))] :=
  ⟨⟨rfl, .inr ⟨w.heap.size, 1, _, rfl, hb, blk_new w (.cells #[.int .i64 o1, .int .u64 (wdN s1 0), .int .u64 (wdN s1 1), .int .u64 (wdN s1 2), .int .u64 (wdN s1 3), .slice A1 n1 p1] 26), Nat.le_refl _, by decide, rfl, rfl⟩⟩, fun u hu => by
    simp only [List.mem_singleton] at hu
    subst hu
    exact six_re _ _ _ _ _⟩
theorem Kit.Row.one {w : World} {base o1 n1 p1 : Nat} {s1 : BitVec 256} {A1 : Option Addr} {x : Re} (hb : base ≤ w.heap.size) (hx : ReAt (base ≤ ·) w (re6 o1 s1 (.slice A1 n1 p1)) x) : Row base (w.alloc (.cells #[.int .i64 o1, .int .u64 (wdN s1 0), .int .u64 (wdN s1 1), .int .u64 (wdN s1 2), .int .u64 (wdN s1 3), .slice A1 n1 p1] 26)) (.slice (some ⟨w.heap.size, 0, none⟩) 1 1) [x] :=
  ⟨_, Raw.one hb, rfl, fun j u y hu hy => by
    match j, hu, hy with
    | 0, hu, hy =>
      simp only [List.getElem?_cons_zero, Option.some.injEq] at hu hy
      subst hu hy
      exact (hx.weak fun k hk hS => ⟨hS, fun e => by injection e with e; simp only [] at e; omega⟩).kept ((Kept.refl _).alloc _)⟩
/-- What is read behind one alternative. -/
def altF (G : Nat → Res Re) (s : ByteArray) (xs : List Re) (j : Nat) : Res Re := if byteAt s j = some 124 then altL G s xs (j + 1) else .ok (gather 3 xs) j
theorem altL_step {G : Nat → Res Re} {s : ByteArray} {acc : List Re} {k : Nat} (h : Fz s k (seqL G s [] k)) : altL G s acc k = match seqL G s [] k with | .err e j => .err e j | .ok x j => altF G s (acc ++ [x]) j := by
  rw [altL_eq]
  cases hR : seqL G s [] k with
  | err e j => rfl
  | ok x j =>
    rw [hR] at h
    unfold altF
    simp only
    rw [if_pos h.1]
def AlRel (g : Nat) (s : ByteArray) (F : List Re → Nat → Res Re) (R : Res Re) (w : World) (v : Value) (wr : World) : Prop :=
  (∃ (j : Nat) (acc : List Re), j ≤ s.size ∧ acc.length ≤ j + 1 ∧ acc ≠ [] ∧ F acc j = R ∧ Row (w.heap.size + 1) wr v acc ∧ StO g (RO s j) [(w.heap.size, (.cells #[.int .i64 0, .int .u64 0, .int .u64 0, .int .u64 0, .int .u64 0, .slice none 0 0] 26))] w wr) ∨
  (∃ (er j : Nat) (a : Int) (vs : List Value), 0 < er ∧ vs ≠ [] ∧ R = .err er j ∧ Raw (w.heap.size + 1) wr v vs ∧ StO g (RF s a er j) [(w.heap.size, (.cells #[.int .i64 0, .int .u64 0, .int .u64 0, .int .u64 0, .int .u64 0, .slice none 0 0] 26))] w wr)
set_option maxHeartbeats 8000000 in
theorem ralt_go (g : Nat) (s : ByteArray) (k : Nat) (d : Int) (w : World) (h : w.heap[g]? = some (RO s k)) (hs : s.size ≤ 200) (hk : k ≤ s.size) (G : Nat → Res Re) (hG : ∀ k, k ≤ s.size → Fz s k (seqL G s [] k)) (HC : ∀ k, k ≤ s.size → ∀ w, w.heap[g]? = some (RO s k) → Calls Try.prog 44 #[ptr g, .int .i64 d] w (RefPost g s (seqL G s [] k) w)) (R : Res Re) (HR : Hid (altL G s [] k = R)) : Calls Try.prog 26 #[ptr g, .int .i64 d] w (RefPost g s R w) := by
  have hgl := blk_lt h
  have H := Lib.hid ((StO.start h).alloc (.cells #[.int .i64 0, .int .u64 0, .int .u64 0, .int .u64 0, .int .u64 0, .slice none 0 0] 26))
  have hrw : w.heap.size < (w.alloc (.cells #[.int .i64 0, .int .u64 0, .int .u64 0, .int .u64 0, .int .u64 0, .slice none 0 0] 26)).heap.size := by simp
  have HQ := Lib.hid (And.intro HC hG)
  have hun := HR.out
  rw [altL_step (hG k hk)] at hun
  have hfw := hG k hk
  clear h HC hG
  unfold RefPost at HQ
  unfold ptr at *
  have HCALL := Lib.hid (HQ.out.1 k hk _ H.out.1)
  cases hR : seqL G s [] k with
  | err er i0 =>
    rw [hR] at HCALL hun hfw
    simp only [List.nil_append] at hun
    clear hR HR
    go_enter Try.func26, Try.ntmps26
    go_wp2_with fail
    refine HCALL.out.mono ?_
    rintro e w3 ⟨u, rfl, hu, h3, a, h2⟩
    obtain ⟨o1, s1, A1, n1, p1, rfl⟩ := hu
    have hsz := Gr.size h3
    have K7 : Kept w3 (w3.alloc (.cells #[.int .i64 o1, .int .u64 (wdN s1 0), .int .u64 (wdN s1 1), .int .u64 (wdN s1 2), .int .u64 (wdN s1 3), .slice A1 n1 p1] 26)) := (Kept.refl _).alloc _
    have HW := Lib.hid (Raw.one (w := w3) (base := w.heap.size + 1) (o1 := o1) (n1 := n1) (p1 := p1) (s1 := s1) (A1 := A1) (by omega))
    have HE := Lib.hid hun.symm
    have her := hfw.1
    replace H := Lib.hid ((H.out.step h2 h3).kept K7)
    clear h2 h3 K7 HCALL hun hfw
    simp only [re6_form, wd_eq]
    go_wp2_with fail
    go_loopw [5] (fun v wr => AlRel g s (altF G s) R w v wr) (fun _ wr => roM s g wr)
    case atStart => exact .inr ⟨er, i0, a, _, her, by simp, HE.out, HW.out, H.out⟩
    case round =>
      clear H HW HE her
      rcases hrel with ⟨j, acc, hj, hl, hne, hr, hrow, hst⟩ | ⟨er, j, a, vs, her, hne, hr, hrow, hst⟩
      case inr =>
        have H := Lib.hid hst
        have HE := Lib.hid hr
        have HW := Lib.hid hrow
        have HNE := Lib.hid hne
        clear hst hr hrow HQ hne
        have her2 : ¬ (er : Int) = 0 := by omega
        have her3 : ((er : Int) == 0) = false := by simpa using her2
        obtain ⟨⟨c0, c1, c2, c3⟩, f0, f1, f2, f3⟩ := RF.lay H.out.1
        have h1 := HW.out
        match vs, h1, HW, HNE with
        | [], h1, HW, HNE => exact absurd rfl HNE.out
        | [u0], h1, HW, HNE =>
          obtain ⟨b, cap, e, hc1, hc2, hb, hcell⟩ := h1.cell 0 u0 rfl
          obtain ⟨op', s', A', n', cap2, e6⟩ := h1.2 _ List.mem_cons_self
          rw [e6] at hcell
          subst e
          have h0 : [u0].length = 1 := rfl
          rw [h0] at hc1 ⊢
          have c0 := hcell 0 _ (by omega) rfl
          have c1 := hcell 1 _ (by omega) rfl
          have c2 := hcell 2 _ (by omega) rfl
          have c3 := hcell 3 _ (by omega) rfl
          have c4 := hcell 4 _ (by omega) rfl
          have c5 := hcell 5 _ (by omega) rfl
          have hbl := World.block_lt_of_cell? _ _ c0
          simp only [Nat.zero_mul, Nat.zero_add, wd_eq] at c0 c1 c2 c3 c4 c5 hbl
          obtain ⟨⟨d0, d1, d2, d3, d4, d5⟩, g0, g1, g2, g3, g4, g5⟩ := box6 (H.out.blk (r := w.heap.size) List.mem_cons_self)
          have HF := Lib.hid (ret_reO H.out (Nat.le_refl _) (.int .i64 op') (.int .u64 (wdN s' 0)) (.int .u64 (wdN s' 1)) (.int .u64 (wdN s' 2)) (.int .u64 (wdN s' 3)) (.slice A' n' cap2))
          clear h1 h0 hcell e6 HW
          go_wp2_with fail
          refine bodyPost_ret (v := re6 op' s' (.slice A' n' cap2)) ?_ rfl ?_
          · simp [results, Try.results26, go_sem, re6_form, d0, d1, d2, d3, d4, d5]
          · rw [HE.out]
            exact ⟨_, rfl, six_re _ _ _ _ _, HF.out.2.2, _, HF.out.1⟩
        | u0 :: u1 :: r, h1, HW, HNE =>
          obtain ⟨A, cap, rfl⟩ := h1.form
          have h0 : (u0 :: u1 :: r).length = r.length + 2 := by simp
          rw [h0]
          obtain ⟨m, hm⟩ : ∃ m, r.length + 2 = m := ⟨_, rfl⟩
          rw [hm]
          have hi1 : ¬ (m : Int) = 0 := by omega
          have hi2 : ¬ (m : Int) = 1 := by omega
          obtain ⟨⟨d0, d1, d2, d3, d4, d5⟩, g0, g1, g2, g3, g4, g5⟩ := box6 (H.out.blk (r := w.heap.size) List.mem_cons_self)
          have HF := Lib.hid (ret_reO H.out (Nat.le_refl _) (.int .i64 3) (.int .u64 0) (.int .u64 0) (.int .u64 0) (.int .u64 0) (.slice A m cap))
          clear h1 h0 hm HW
          go_wp2_with fail
          refine bodyPost_ret (v := re6 3 0#256 (.slice A m cap)) ?_ rfl ?_
          · simp [results, Try.results26, go_sem, re6, wd_zero, d0, d1, d2, d3, d4, d5]
          · rw [HE.out]
            exact ⟨_, rfl, six_re _ _ _ _ _, HF.out.2.2, _, HF.out.1⟩
      have H := Lib.hid hst
      have HR := Lib.hid hr
      have HW := Lib.hid hrow
      have HL := Lib.hid hl
      have HNE := Lib.hid hne
      clear hst hr hrow hl hne
      have HM := Lib.hid (roM_ok H.out.1)
      obtain ⟨⟨c0, c1, c2, c3⟩, f0, f1, f2, f3⟩ := RO.lay H.out.1
      go_wp2_with fail
      clear c0 c1 c2 c3 f0 f1 f2 f3
      cases hb : byteAt s j == some 124 with
      | false =>
        have HE : Hid (R = .ok (gather 3 acc) j) := Lib.hid (by rw [← HR.out]; unfold altF; rw [if_neg (by simpa using hb)])
        have HB124 := Lib.hid hb
        clear HR hb HL HQ HM
        refine (is_any g s j 124 _ H.out.1).mono ?_
        rintro e w5 ⟨rfl, hk5⟩
        rw [HB124.out]
        replace H := Lib.hid (H.out.kept hk5)
        replace HW := Lib.hid (HW.out.kept hk5)
        clear hk5
        obtain ⟨vs, h1, h2, h3⟩ := HW.out
        match acc, h2, h3, HE, HW, HNE with
        | [], h2, h3, HE, HW, HNE => exact absurd rfl HNE.out
        | [x], h2, h3, HE, HW, HNE =>
          obtain ⟨u0, hu0⟩ : ∃ u, vs[0]? = some u := ⟨vs[0]'(by rw [h2]; simp), List.getElem?_eq_getElem _⟩
          obtain ⟨b, cap, e, hc1, hc2, hb, hcell⟩ := h1.cell 0 u0 hu0
          have h0 : vs.length = 1 := h2
          obtain ⟨op', s', A', n', cap2, e6⟩ := h1.2 _ (List.mem_of_getElem? hu0)
          have hx := h3 0 u0 x hu0 rfl
          rw [e6] at hx
          rw [e6] at hcell
          subst e
          rw [h0] at hc1 ⊢
          have c0 := hcell 0 _ (by omega) rfl
          have c1 := hcell 1 _ (by omega) rfl
          have c2 := hcell 2 _ (by omega) rfl
          have c3 := hcell 3 _ (by omega) rfl
          have c4 := hcell 4 _ (by omega) rfl
          have c5 := hcell 5 _ (by omega) rfl
          have hbl := World.block_lt_of_cell? _ _ c0
          simp only [Nat.zero_mul, Nat.zero_add, wd_eq] at c0 c1 c2 c3 c4 c5 hbl
          obtain ⟨⟨d0, d1, d2, d3, d4, d5⟩, g0, g1, g2, g3, g4, g5⟩ := box6 (H.out.blk (r := w.heap.size) List.mem_cons_self)
          have HF := Lib.hid (ret_reO H.out (Nat.le_refl _) (.int .i64 op') (.int .u64 (wdN s' 0)) (.int .u64 (wdN s' 1)) (.int .u64 (wdN s' 2)) (.int .u64 (wdN s' 3)) (.slice A' n' cap2))
          have HY := Lib.hid (pass_re (r := w.heap.size) (S' := (w.heap.size ≤ ·)) hx (fun h => by have := h.1; omega) (fun k h => by have := h.1; omega))
          simp only [re6_form, wd_eq] at HY
          clear h1 h2 h3 h0 hcell hu0 e6 hx HW
          go_wp2_with fail
          refine bodyPost_ret (v := re6 op' s' (.slice A' n' cap2)) ?_ rfl ?_
          · simp [results, Try.results26, go_sem, re6_form, d0, d1, d2, d3, d4, d5]
          · rw [HE.out]
            exact ⟨_, rfl, six_re _ _ _ _ _, HF.out.2.2, HY.out, HF.out.1⟩
        | x :: y :: r, h2, h3, HE, HW, HNE =>
          have hk := HW.out.kids (by simp) 3
          obtain ⟨A, cap, rfl⟩ := h1.form
          have h0 : vs.length = r.length + 2 := by rw [h2]; simp
          rw [h0] at hk ⊢
          obtain ⟨m, hm⟩ : ∃ m, r.length + 2 = m := ⟨_, rfl⟩
          rw [hm] at hk ⊢
          have hi1 : ¬ (m : Int) = 0 := by omega
          have hi2 : ¬ (m : Int) = 1 := by omega
          obtain ⟨⟨d0, d1, d2, d3, d4, d5⟩, g0, g1, g2, g3, g4, g5⟩ := box6 (H.out.blk (r := w.heap.size) List.mem_cons_self)
          have HF := Lib.hid (ret_reO H.out (Nat.le_refl _) (.int .i64 3) (.int .u64 0) (.int .u64 0) (.int .u64 0) (.int .u64 0) (.slice A m cap))
          have HY := Lib.hid (pass_re (r := w.heap.size) (S' := (w.heap.size ≤ ·)) hk (fun h => by omega) (fun k h => by omega))
          simp only [re6_form, wd_zero] at HY
          clear h1 h2 h3 h0 hm hk HW
          go_wp2_with fail
          refine bodyPost_ret (v := re6 3 0#256 (.slice A m cap)) ?_ rfl ?_
          · simp [results, Try.results26, go_sem, re6, wd_zero, d0, d1, d2, d3, d4, d5]
          · rw [HE.out]
            exact ⟨_, rfl, six_re _ _ _ _ _, HF.out.2.2, HY.out, HF.out.1⟩
      | true =>
        obtain ⟨i, hi1⟩ : ∃ i, j + 1 = i := ⟨_, rfl⟩
        have hii : (j : Int) + 1 = i := by omega
        have hib : i ≤ s.size := by have := byteAt_lt (beq_iff_eq.1 hb); omega
        have hib2 : i ≤ 200 := by omega
        have hun := HR.out
        unfold altF at hun
        rw [if_pos (by simpa using hb), hi1, altL_step (HQ.out.2 i hib)] at hun
        have HB124 := Lib.hid hb
        have HI := Lib.hid hi1
        have hfw := HQ.out.2 i hib
        clear HR hb hi1
        refine (is_any g s j 124 _ H.out.1).mono ?_
        rintro e w5 ⟨rfl, hk5⟩
        rw [HB124.out]
        replace H := Lib.hid (H.out.kept hk5)
        replace HW := Lib.hid (HW.out.kept hk5)
        clear hk5
        obtain ⟨⟨c0, c1, c2, c3⟩, f0, f1, f2, f3⟩ := RO.lay H.out.1
        replace HW := Lib.hid (HW.out.gr ((Gr.refl g w5).set (p := ⟨g, 1, none⟩) (.inl rfl) (.int .i64 i)) (by omega))
        replace H := Lib.hid (H.out.at (k' := i))
        have HCALL := Lib.hid (HQ.out.1 i hib _ H.out.1)
        have hrl := blk_lt (H.out.blk List.mem_cons_self)
        obtain ⟨vs, hv1, hv2, hv3⟩ := HW.out
        have HO := Lib.hid hv1.own
        have HV := Lib.hid (And.intro hv1 (And.intro hv2 hv3))
        have HN := Lib.hid (show vs.length ≤ 100000 by have := HL.out; omega)
        obtain ⟨A0, cap0, rfl⟩ := hv1.form
        clear hv1 hv2 hv3 HW
        cases hR : seqL G s [] i with
        | err er i2 =>
          rw [hR] at HCALL hun hfw
          simp only at hun
          have her := hfw.1
          have HE := Lib.hid hun.symm
          have HUN := Lib.hid hfw
          clear hun hfw hR
          go_wp2_with fail
          clear c0 c1 c2 c3 f0 f1 f2 f3
          generalize w5.setCell _ _ = w6 at H HV HCALL HO hrl ⊢
          refine HCALL.out.mono ?_
          rintro e w8 ⟨u, rfl, hu, h3, a, h2⟩
          obtain ⟨o1, s1, A1, n1, p1, rfl⟩ := hu
          have K7 : Kept w8 (w8.alloc (.cells #[.int .i64 o1, .int .u64 (wdN s1 0), .int .u64 (wdN s1 1), .int .u64 (wdN s1 2), .int .u64 (wdN s1 3), .slice A1 n1 p1] 26)) := (Kept.refl _).alloc _
          have HV1 := Lib.hid ((HV.out.1.gr h3 (by omega)).kept K7)
          replace H := Lib.hid ((H.out.step h2 h3).kept K7)
          have HB := Lib.hid (six_cells (blk_new w8 (.cells #[.int .i64 o1, .int .u64 (wdN s1 0), .int .u64 (wdN s1 1), .int .u64 (wdN s1 2), .int .u64 (wdN s1 3), .slice A1 n1 p1] 26)))
          have HSZ := Lib.hid (Gr.size h3)
          clear h2 h3 HCALL K7 HV
          simp only [re6_form]
          go_wp2_with (at_builtin; refine wpList_push rfl _ _ rfl rfl HV1.out (re6 o1 s1 (.slice A1 n1 p1)) (six_re _ _ _ _ _) w8.heap.size rfl HB.out HN.out (by have := HSZ.out; simp; omega) ?_; intro v8 w9 hraw hgr hown)
          have HST := Lib.hid (H.out.grown hgr (fun b hb => by
            have h9 := HO.out b hb
            refine ⟨by omega, by omega, fun q hq => ?_⟩
            rw [List.mem_singleton.1 hq]
            simp only []
            omega))
          have HRW := Lib.hid hraw
          clear H HV1 HB hraw hgr hown
          go_roundw
          case rel => exact .inr ⟨er, i2, a, _, her, by simp, HE.out, HRW.out, HST.out⟩
          case measure => rw [HM.out, roM_err HST.out.1 her]; omega
        | ok x i2 =>
          rw [hR] at HCALL hun hfw
          simp only at hun
          obtain ⟨hji, his⟩ := hfw
          have HR := Lib.hid hun
          have HIJ := Lib.hid (show j < i2 ∧ i ≤ i2 from ⟨by have := HI.out; omega, hji⟩)
          clear hun hR
          go_wp2_with fail
          clear c0 c1 c2 c3 f0 f1 f2 f3
          generalize w5.setCell _ _ = w6 at H HV HCALL HO hrl ⊢
          refine HCALL.out.mono ?_
          rintro e w8 ⟨u, rfl, hu, h3, hx, h2⟩
          obtain ⟨o1, s1, A1, n1, p1, rfl⟩ := hu
          have K7 : Kept w8 (w8.alloc (.cells #[.int .i64 o1, .int .u64 (wdN s1 0), .int .u64 (wdN s1 1), .int .u64 (wdN s1 2), .int .u64 (wdN s1 3), .slice A1 n1 p1] 26)) := (Kept.refl _).alloc _
          have HX := Lib.hid (hx.kept K7)
          replace HV := Lib.hid (And.intro ((HV.out.1.gr h3 (by omega)).kept K7) (And.intro HV.out.2.1 (fun (j : Nat) (u : Value) (x : Re) hu hx => ((HV.out.2.2 j u x hu hx).gr h3 (fun hS => by omega)).kept K7)))
          replace H := Lib.hid ((H.out.step h2 h3).kept K7)
          have HB := Lib.hid (six_cells (blk_new w8 (.cells #[.int .i64 o1, .int .u64 (wdN s1 0), .int .u64 (wdN s1 1), .int .u64 (wdN s1 2), .int .u64 (wdN s1 3), .slice A1 n1 p1] 26)))
          have HSZ := Lib.hid (Gr.size h3)
          clear h2 h3 HCALL hx K7
          simp only [re6_form] at HX ⊢
          go_wp2_with (at_builtin; refine wpList_push rfl _ _ rfl rfl HV.out.1 (re6 o1 s1 (.slice A1 n1 p1)) (six_re _ _ _ _ _) w8.heap.size rfl HB.out HN.out (by have := HSZ.out; simp; omega) ?_; intro v8 w9 hraw hgr hown)
          have HST := Lib.hid (H.out.grown hgr (fun b hb => by
            have h9 := HO.out b hb
            refine ⟨by omega, by omega, fun q hq => ?_⟩
            rw [List.mem_singleton.1 hq]
            simp only []
            omega))
          have HRW := Lib.hid (Row.push HV.out.1 HV.out.2.1 HV.out.2.2 (u := re6 o1 s1 (.slice A1 n1 p1)) HX.out hrl (fun b hb => (HO.out b hb).2) hraw hgr hown)
          clear H HV HX HB hraw hgr hown
          go_roundw
          case rel => exact .inl ⟨i2, acc ++ [x], his, by simp; have := HL.out; have := HIJ.out; omega, by simp, HR.out, HRW.out, HST.out⟩
          case measure => rw [HM.out, roM_ok HST.out.1]; have := HIJ.out; omega
  | ok x i0 =>
    rw [hR] at HCALL hun hfw
    simp only [List.nil_append] at hun
    clear hR HR
    go_enter Try.func26, Try.ntmps26
    go_wp2_with fail
    refine HCALL.out.mono ?_
    rintro e w3 ⟨u, rfl, hu, h3, hx, h2⟩
    obtain ⟨o1, s1, A1, n1, p1, rfl⟩ := hu
    have hsz := Gr.size h3
    have K7 : Kept w3 (w3.alloc (.cells #[.int .i64 o1, .int .u64 (wdN s1 0), .int .u64 (wdN s1 1), .int .u64 (wdN s1 2), .int .u64 (wdN s1 3), .slice A1 n1 p1] 26)) := (Kept.refl _).alloc _
    have hx2 : ReAt (w.heap.size + 1 ≤ ·) w3 (re6 o1 s1 (.slice A1 n1 p1)) x := hx.weak fun k hk hS => by omega
    have HW := Lib.hid (Row.one (base := w.heap.size + 1) (by omega) hx2)
    have HR := Lib.hid hun
    have hji := hfw.1
    have his := hfw.2
    replace H := Lib.hid ((H.out.step h2 h3).kept K7)
    clear h2 h3 K7 HCALL hun hfw hx hx2
    simp only [re6_form, wd_eq]
    go_wp2_with fail
    go_loopw [5] (fun v wr => AlRel g s (altF G s) R w v wr) (fun _ wr => roM s g wr)
    case atStart => exact .inl ⟨i0, [x], his, by simp, by simp, HR.out, HW.out, H.out⟩
    case round =>
      clear H HW HR
      rcases hrel with ⟨j, acc, hj, hl, hne, hr, hrow, hst⟩ | ⟨er, j, a, vs, her, hne, hr, hrow, hst⟩
      case inr =>
        have H := Lib.hid hst
        have HE := Lib.hid hr
        have HW := Lib.hid hrow
        have HNE := Lib.hid hne
        clear hst hr hrow HQ hne
        have her2 : ¬ (er : Int) = 0 := by omega
        have her3 : ((er : Int) == 0) = false := by simpa using her2
        obtain ⟨⟨c0, c1, c2, c3⟩, f0, f1, f2, f3⟩ := RF.lay H.out.1
        have h1 := HW.out
        match vs, h1, HW, HNE with
        | [], h1, HW, HNE => exact absurd rfl HNE.out
        | [u0], h1, HW, HNE =>
          obtain ⟨b, cap, e, hc1, hc2, hb, hcell⟩ := h1.cell 0 u0 rfl
          obtain ⟨op', s', A', n', cap2, e6⟩ := h1.2 _ List.mem_cons_self
          rw [e6] at hcell
          subst e
          have h0 : [u0].length = 1 := rfl
          rw [h0] at hc1 ⊢
          have c0 := hcell 0 _ (by omega) rfl
          have c1 := hcell 1 _ (by omega) rfl
          have c2 := hcell 2 _ (by omega) rfl
          have c3 := hcell 3 _ (by omega) rfl
          have c4 := hcell 4 _ (by omega) rfl
          have c5 := hcell 5 _ (by omega) rfl
          have hbl := World.block_lt_of_cell? _ _ c0
          simp only [Nat.zero_mul, Nat.zero_add, wd_eq] at c0 c1 c2 c3 c4 c5 hbl
          obtain ⟨⟨d0, d1, d2, d3, d4, d5⟩, g0, g1, g2, g3, g4, g5⟩ := box6 (H.out.blk (r := w.heap.size) List.mem_cons_self)
          have HF := Lib.hid (ret_reO H.out (Nat.le_refl _) (.int .i64 op') (.int .u64 (wdN s' 0)) (.int .u64 (wdN s' 1)) (.int .u64 (wdN s' 2)) (.int .u64 (wdN s' 3)) (.slice A' n' cap2))
          clear h1 h0 hcell e6 HW
          go_wp2_with fail
          refine bodyPost_ret (v := re6 op' s' (.slice A' n' cap2)) ?_ rfl ?_
          · simp [results, Try.results26, go_sem, re6_form, d0, d1, d2, d3, d4, d5]
          · rw [HE.out]
            exact ⟨_, rfl, six_re _ _ _ _ _, HF.out.2.2, _, HF.out.1⟩
        | u0 :: u1 :: r, h1, HW, HNE =>
          obtain ⟨A, cap, rfl⟩ := h1.form
          have h0 : (u0 :: u1 :: r).length = r.length + 2 := by simp
          rw [h0]
          obtain ⟨m, hm⟩ : ∃ m, r.length + 2 = m := ⟨_, rfl⟩
          rw [hm]
          have hi1 : ¬ (m : Int) = 0 := by omega
          have hi2 : ¬ (m : Int) = 1 := by omega
          obtain ⟨⟨d0, d1, d2, d3, d4, d5⟩, g0, g1, g2, g3, g4, g5⟩ := box6 (H.out.blk (r := w.heap.size) List.mem_cons_self)
          have HF := Lib.hid (ret_reO H.out (Nat.le_refl _) (.int .i64 3) (.int .u64 0) (.int .u64 0) (.int .u64 0) (.int .u64 0) (.slice A m cap))
          clear h1 h0 hm HW
          go_wp2_with fail
          refine bodyPost_ret (v := re6 3 0#256 (.slice A m cap)) ?_ rfl ?_
          · simp [results, Try.results26, go_sem, re6, wd_zero, d0, d1, d2, d3, d4, d5]
          · rw [HE.out]
            exact ⟨_, rfl, six_re _ _ _ _ _, HF.out.2.2, _, HF.out.1⟩
      have H := Lib.hid hst
      have HR := Lib.hid hr
      have HW := Lib.hid hrow
      have HL := Lib.hid hl
      have HNE := Lib.hid hne
      clear hst hr hrow hl hne
      have HM := Lib.hid (roM_ok H.out.1)
      obtain ⟨⟨c0, c1, c2, c3⟩, f0, f1, f2, f3⟩ := RO.lay H.out.1
      go_wp2_with fail
      clear c0 c1 c2 c3 f0 f1 f2 f3
      cases hb : byteAt s j == some 124 with
      | false =>
        have HE : Hid (R = .ok (gather 3 acc) j) := Lib.hid (by rw [← HR.out]; unfold altF; rw [if_neg (by simpa using hb)])
        have HB124 := Lib.hid hb
        clear HR hb HL HQ HM
        refine (is_any g s j 124 _ H.out.1).mono ?_
        rintro e w5 ⟨rfl, hk5⟩
        rw [HB124.out]
        replace H := Lib.hid (H.out.kept hk5)
        replace HW := Lib.hid (HW.out.kept hk5)
        clear hk5
        obtain ⟨vs, h1, h2, h3⟩ := HW.out
        match acc, h2, h3, HE, HW, HNE with
        | [], h2, h3, HE, HW, HNE => exact absurd rfl HNE.out
        | [x], h2, h3, HE, HW, HNE =>
          obtain ⟨u0, hu0⟩ : ∃ u, vs[0]? = some u := ⟨vs[0]'(by rw [h2]; simp), List.getElem?_eq_getElem _⟩
          obtain ⟨b, cap, e, hc1, hc2, hb, hcell⟩ := h1.cell 0 u0 hu0
          have h0 : vs.length = 1 := h2
          obtain ⟨op', s', A', n', cap2, e6⟩ := h1.2 _ (List.mem_of_getElem? hu0)
          have hx := h3 0 u0 x hu0 rfl
          rw [e6] at hx
          rw [e6] at hcell
          subst e
          rw [h0] at hc1 ⊢
          have c0 := hcell 0 _ (by omega) rfl
          have c1 := hcell 1 _ (by omega) rfl
          have c2 := hcell 2 _ (by omega) rfl
          have c3 := hcell 3 _ (by omega) rfl
          have c4 := hcell 4 _ (by omega) rfl
          have c5 := hcell 5 _ (by omega) rfl
          have hbl := World.block_lt_of_cell? _ _ c0
          simp only [Nat.zero_mul, Nat.zero_add, wd_eq] at c0 c1 c2 c3 c4 c5 hbl
          obtain ⟨⟨d0, d1, d2, d3, d4, d5⟩, g0, g1, g2, g3, g4, g5⟩ := box6 (H.out.blk (r := w.heap.size) List.mem_cons_self)
          have HF := Lib.hid (ret_reO H.out (Nat.le_refl _) (.int .i64 op') (.int .u64 (wdN s' 0)) (.int .u64 (wdN s' 1)) (.int .u64 (wdN s' 2)) (.int .u64 (wdN s' 3)) (.slice A' n' cap2))
          have HY := Lib.hid (pass_re (r := w.heap.size) (S' := (w.heap.size ≤ ·)) hx (fun h => by have := h.1; omega) (fun k h => by have := h.1; omega))
          simp only [re6_form, wd_eq] at HY
          clear h1 h2 h3 h0 hcell hu0 e6 hx HW
          go_wp2_with fail
          refine bodyPost_ret (v := re6 op' s' (.slice A' n' cap2)) ?_ rfl ?_
          · simp [results, Try.results26, go_sem, re6_form, d0, d1, d2, d3, d4, d5]
          · rw [HE.out]
            exact ⟨_, rfl, six_re _ _ _ _ _, HF.out.2.2, HY.out, HF.out.1⟩
        | x :: y :: r, h2, h3, HE, HW, HNE =>
          have hk := HW.out.kids (by simp) 3
          obtain ⟨A, cap, rfl⟩ := h1.form
          have h0 : vs.length = r.length + 2 := by rw [h2]; simp
          rw [h0] at hk ⊢
          obtain ⟨m, hm⟩ : ∃ m, r.length + 2 = m := ⟨_, rfl⟩
          rw [hm] at hk ⊢
          have hi1 : ¬ (m : Int) = 0 := by omega
          have hi2 : ¬ (m : Int) = 1 := by omega
          obtain ⟨⟨d0, d1, d2, d3, d4, d5⟩, g0, g1, g2, g3, g4, g5⟩ := box6 (H.out.blk (r := w.heap.size) List.mem_cons_self)
          have HF := Lib.hid (ret_reO H.out (Nat.le_refl _) (.int .i64 3) (.int .u64 0) (.int .u64 0) (.int .u64 0) (.int .u64 0) (.slice A m cap))
          have HY := Lib.hid (pass_re (r := w.heap.size) (S' := (w.heap.size ≤ ·)) hk (fun h => by omega) (fun k h => by omega))
          simp only [re6_form, wd_zero] at HY
          clear h1 h2 h3 h0 hm hk HW
          go_wp2_with fail
          refine bodyPost_ret (v := re6 3 0#256 (.slice A m cap)) ?_ rfl ?_
          · simp [results, Try.results26, go_sem, re6, wd_zero, d0, d1, d2, d3, d4, d5]
          · rw [HE.out]
            exact ⟨_, rfl, six_re _ _ _ _ _, HF.out.2.2, HY.out, HF.out.1⟩
      | true =>
        obtain ⟨i, hi1⟩ : ∃ i, j + 1 = i := ⟨_, rfl⟩
        have hii : (j : Int) + 1 = i := by omega
        have hib : i ≤ s.size := by have := byteAt_lt (beq_iff_eq.1 hb); omega
        have hib2 : i ≤ 200 := by omega
        have hun := HR.out
        unfold altF at hun
        rw [if_pos (by simpa using hb), hi1, altL_step (HQ.out.2 i hib)] at hun
        have HB124 := Lib.hid hb
        have HI := Lib.hid hi1
        have hfw := HQ.out.2 i hib
        clear HR hb hi1
        refine (is_any g s j 124 _ H.out.1).mono ?_
        rintro e w5 ⟨rfl, hk5⟩
        rw [HB124.out]
        replace H := Lib.hid (H.out.kept hk5)
        replace HW := Lib.hid (HW.out.kept hk5)
        clear hk5
        obtain ⟨⟨c0, c1, c2, c3⟩, f0, f1, f2, f3⟩ := RO.lay H.out.1
        replace HW := Lib.hid (HW.out.gr ((Gr.refl g w5).set (p := ⟨g, 1, none⟩) (.inl rfl) (.int .i64 i)) (by omega))
        replace H := Lib.hid (H.out.at (k' := i))
        have HCALL := Lib.hid (HQ.out.1 i hib _ H.out.1)
        have hrl := blk_lt (H.out.blk List.mem_cons_self)
        obtain ⟨vs, hv1, hv2, hv3⟩ := HW.out
        have HO := Lib.hid hv1.own
        have HV := Lib.hid (And.intro hv1 (And.intro hv2 hv3))
        have HN := Lib.hid (show vs.length ≤ 100000 by have := HL.out; omega)
        obtain ⟨A0, cap0, rfl⟩ := hv1.form
        clear hv1 hv2 hv3 HW
        cases hR : seqL G s [] i with
        | err er i2 =>
          rw [hR] at HCALL hun hfw
          simp only at hun
          have her := hfw.1
          have HE := Lib.hid hun.symm
          have HUN := Lib.hid hfw
          clear hun hfw hR
          go_wp2_with fail
          clear c0 c1 c2 c3 f0 f1 f2 f3
          generalize w5.setCell _ _ = w6 at H HV HCALL HO hrl ⊢
          refine HCALL.out.mono ?_
          rintro e w8 ⟨u, rfl, hu, h3, a, h2⟩
          obtain ⟨o1, s1, A1, n1, p1, rfl⟩ := hu
          have K7 : Kept w8 (w8.alloc (.cells #[.int .i64 o1, .int .u64 (wdN s1 0), .int .u64 (wdN s1 1), .int .u64 (wdN s1 2), .int .u64 (wdN s1 3), .slice A1 n1 p1] 26)) := (Kept.refl _).alloc _
          have HV1 := Lib.hid ((HV.out.1.gr h3 (by omega)).kept K7)
          replace H := Lib.hid ((H.out.step h2 h3).kept K7)
          have HB := Lib.hid (six_cells (blk_new w8 (.cells #[.int .i64 o1, .int .u64 (wdN s1 0), .int .u64 (wdN s1 1), .int .u64 (wdN s1 2), .int .u64 (wdN s1 3), .slice A1 n1 p1] 26)))
          have HSZ := Lib.hid (Gr.size h3)
          clear h2 h3 HCALL K7 HV
          simp only [re6_form]
          go_wp2_with (at_builtin; refine wpList_push rfl _ _ rfl rfl HV1.out (re6 o1 s1 (.slice A1 n1 p1)) (six_re _ _ _ _ _) w8.heap.size rfl HB.out HN.out (by have := HSZ.out; simp; omega) ?_; intro v8 w9 hraw hgr hown)
          have HST := Lib.hid (H.out.grown hgr (fun b hb => by
            have h9 := HO.out b hb
            refine ⟨by omega, by omega, fun q hq => ?_⟩
            rw [List.mem_singleton.1 hq]
            simp only []
            omega))
          have HRW := Lib.hid hraw
          clear H HV1 HB hraw hgr hown
          go_roundw
          case rel => exact .inr ⟨er, i2, a, _, her, by simp, HE.out, HRW.out, HST.out⟩
          case measure => rw [HM.out, roM_err HST.out.1 her]; omega
        | ok x i2 =>
          rw [hR] at HCALL hun hfw
          simp only at hun
          obtain ⟨hji, his⟩ := hfw
          have HR := Lib.hid hun
          have HIJ := Lib.hid (show j < i2 ∧ i ≤ i2 from ⟨by have := HI.out; omega, hji⟩)
          clear hun hR
          go_wp2_with fail
          clear c0 c1 c2 c3 f0 f1 f2 f3
          generalize w5.setCell _ _ = w6 at H HV HCALL HO hrl ⊢
          refine HCALL.out.mono ?_
          rintro e w8 ⟨u, rfl, hu, h3, hx, h2⟩
          obtain ⟨o1, s1, A1, n1, p1, rfl⟩ := hu
          have K7 : Kept w8 (w8.alloc (.cells #[.int .i64 o1, .int .u64 (wdN s1 0), .int .u64 (wdN s1 1), .int .u64 (wdN s1 2), .int .u64 (wdN s1 3), .slice A1 n1 p1] 26)) := (Kept.refl _).alloc _
          have HX := Lib.hid (hx.kept K7)
          replace HV := Lib.hid (And.intro ((HV.out.1.gr h3 (by omega)).kept K7) (And.intro HV.out.2.1 (fun (j : Nat) (u : Value) (x : Re) hu hx => ((HV.out.2.2 j u x hu hx).gr h3 (fun hS => by omega)).kept K7)))
          replace H := Lib.hid ((H.out.step h2 h3).kept K7)
          have HB := Lib.hid (six_cells (blk_new w8 (.cells #[.int .i64 o1, .int .u64 (wdN s1 0), .int .u64 (wdN s1 1), .int .u64 (wdN s1 2), .int .u64 (wdN s1 3), .slice A1 n1 p1] 26)))
          have HSZ := Lib.hid (Gr.size h3)
          clear h2 h3 HCALL hx K7
          simp only [re6_form] at HX ⊢
          go_wp2_with (at_builtin; refine wpList_push rfl _ _ rfl rfl HV.out.1 (re6 o1 s1 (.slice A1 n1 p1)) (six_re _ _ _ _ _) w8.heap.size rfl HB.out HN.out (by have := HSZ.out; simp; omega) ?_; intro v8 w9 hraw hgr hown)
          have HST := Lib.hid (H.out.grown hgr (fun b hb => by
            have h9 := HO.out b hb
            refine ⟨by omega, by omega, fun q hq => ?_⟩
            rw [List.mem_singleton.1 hq]
            simp only []
            omega))
          have HRW := Lib.hid (Row.push HV.out.1 HV.out.2.1 HV.out.2.2 (u := re6 o1 s1 (.slice A1 n1 p1)) HX.out hrl (fun b hb => (HO.out b hb).2) hraw hgr hown)
          clear H HV HX HB hraw hgr hown
          go_roundw
          case rel => exact .inl ⟨i2, acc ++ [x], his, by simp; have := HL.out; have := HIJ.out; omega, by simp, HR.out, HRW.out, HST.out⟩
          case measure => rw [HM.out, roM_ok HST.out.1]; have := HIJ.out; omega
/-- The whole: 20 - d more brackets may be opened. -/
theorem ralt_all : ∀ (n g : Nat) (s : ByteArray) (k d : Nat) (w : World), w.heap[g]? = some (RO s k) → s.size ≤ 200 → k ≤ s.size → d + n = 20 → Calls Try.prog 26 #[ptr g, .int .i64 d] w (RefPost g s (altL (grp s n) s [] k) w)
  | 0, g, s, k, d, w, h, hs, hk, hd => ralt_go g s k d w h hs hk (grp s 0) (fun k hk => seqL_fz (grp s 0) s (grp_fw s 0) _ [] k (Nat.le_refl _) hk) (fun k hk w h => rseq_any g s k d 0 w h hs hk hd (fun k hk n' hn => by omega)) _ (Lib.hid rfl)
  | n + 1, g, s, k, d, w, h, hs, hk, hd => ralt_go g s k d w h hs hk (grp s (n + 1)) (fun k hk => seqL_fz (grp s (n + 1)) s (grp_fw s (n + 1)) _ [] k (Nat.le_refl _) hk) (fun k hk w h => rseq_any g s k d (n + 1) w h hs hk hd (fun k hk n' hn w h => by
      have : n' = n := by omega
      subst this
      exact ralt_all n' g s (k + 1) (d + 1) w h hs (by omega) (by omega))) _ (Lib.hid rfl)
end Go.Proofs.Ytdbffbdpofodmaa
