/-
  What the document's own seq reads. Conditions: the text is no longer than 200 bytes, the reader has not failed.
-/
import Derived.Test.YtdbffbdpofodmaaRRep
set_option linter.unusedSimpArgs false
namespace Go.Proofs.Ytdbffbdpofodmaa
open Go Go.RowKit Kit
/-- How far the document's reader is from its end. -/
def roM (s : ByteArray) (g : Nat) (w : World) : Nat := match w.cell? ⟨g, 2, none⟩ with | some (.int _ 0) => s.size + 1 - roAt g w | _ => 0
theorem roM_ok {g k : Nat} {s : ByteArray} {w : World} (h : w.heap[g]? = some (RO s k)) : roM s g w = s.size + 1 - k := by
  obtain ⟨⟨-, -, c2, -⟩, -⟩ := RO.lay h
  unfold roM
  rw [c2, reAt_at h]
  rfl
theorem roM_err {g er j : Nat} {a : Int} {s : ByteArray} {w : World} (h : w.heap[g]? = some (RF s a er j)) (her : 0 < er) : roM s g w = 0 := by
  obtain ⟨⟨-, -, c2, -⟩, -⟩ := RF.lay h
  unfold roM
  rw [c2]
  match er, her with
  | er + 1, _ => rfl
def SqRel (op g : Nat) (s : ByteArray) (F : List Re → Nat → Res Re) (R : Res Re) (w : World) (v : Value) (wr : World) : Prop :=
  (∃ (j : Nat) (acc : List Re), j ≤ s.size ∧ acc.length ≤ j + op ∧ F acc j = R ∧ Row (w.heap.size + 1) wr v acc ∧ StO g (RO s j) [(w.heap.size, (.cells #[.int .i64 0, .int .u64 0, .int .u64 0, .int .u64 0, .int .u64 0, .slice none 0 0] 26))] w wr) ∨
  (∃ (er j : Nat) (a : Int) (vs : List Value), 0 < er ∧ R = .err er j ∧ Raw (w.heap.size + 1) wr v vs ∧ StO g (RF s a er j) [(w.heap.size, (.cells #[.int .i64 0, .int .u64 0, .int .u64 0, .int .u64 0, .int .u64 0, .slice none 0 0] 26))] w wr)
set_option maxHeartbeats 8000000 in
theorem rseq_go (g : Nat) (s : ByteArray) (k : Nat) (d : Int) (w : World) (h : w.heap[g]? = some (RO s k)) (hs : s.size ≤ 200) (hk : k ≤ s.size) (G : Nat → Res Re) (hG : ∀ k, k < s.size → Fw s k (repP G s k)) (HC : ∀ k, k < s.size → ∀ w, w.heap[g]? = some (RO s k) → Calls Try.prog 54 #[ptr g, .int .i64 d] w (RefPost g s (repP G s k) w)) (R : Res Re) (HR : Hid (seqL G s [] k = R)) : Calls Try.prog 44 #[ptr g, .int .i64 d] w (RefPost g s R w) := by
  have hgl := blk_lt h
  have H := Lib.hid ((StO.start h).alloc (.cells #[.int .i64 0, .int .u64 0, .int .u64 0, .int .u64 0, .int .u64 0, .slice none 0 0] 26))
  have HQ := Lib.hid (And.intro HC hG)
  clear h HC hG
  unfold RefPost at HQ
  unfold ptr at *
  go_enter Try.func44, Try.ntmps44
  go_wp2_with fail
  go_loopw [5] (fun v wr => SqRel 0 g s (seqL G s) R w v wr) (fun _ wr => roM s g wr)
  case atStart => exact .inl ⟨k, [], hk, Nat.zero_le _, HR.out, Row.nil _ _, H.out⟩
  case round =>
    clear HR H
    rcases hrel with ⟨j, acc, hj, hl, hr, hrow, hst⟩ | ⟨er, j, a, vs, her, hr, hrow, hst⟩
    case inr =>
      have H := Lib.hid hst
      have HE := Lib.hid hr
      have HW := Lib.hid hrow
      clear hst hr hrow HQ
      have her2 : ¬ (er : Int) = 0 := by omega
      have her3 : ((er : Int) == 0) = false := by simpa using her2
      obtain ⟨⟨c0, c1, c2, c3⟩, f0, f1, f2, f3⟩ := RF.lay H.out.1
      have h1 := HW.out
      match vs, h1, HW with
      | [], h1, HW =>
        obtain ⟨A, cap, rfl⟩ := h1.form
        rw [List.length_nil]
        clear h1 HW
        obtain ⟨⟨d0, d1, d2, d3, d4, d5⟩, g0, g1, g2, g3, g4, g5⟩ := box6 (H.out.blk (r := w.heap.size) List.mem_cons_self)
        have HF := Lib.hid (ret_reO H.out (Nat.le_refl _) (.int .i64 0) (.int .u64 0) (.int .u64 0) (.int .u64 0) (.int .u64 0) (.slice none 0 0))
        go_wp2_with fail
        refine bodyPost_ret (v := zre) ?_ rfl ?_
        · simp [results, Try.results44, go_sem, zre, d0, d1, d2, d3, d4, d5]
        · rw [HE.out]
          exact ⟨_, rfl, six_zre, HF.out.2.2, _, HF.out.1⟩
      | [u0], h1, HW =>
        obtain ⟨b, cap, e, hc1, hc2, hb, hcell⟩ := h1.cell 0 u0 rfl
        obtain ⟨op', s', A', n', cap2, e6⟩ := h1.2 _ List.mem_cons_self
        rw [e6] at hcell
        subst e
        have h0 : [u0].length = 1 := rfl
        rw [h0] at hc1 ⊢
        have c0 := hcell 0 _ (by omega) rfl
        have c1 := hcell 1 _ (by omega) rfl
        have c2 := hcell 2 _ (by omega) rfl
        have c3 := hcell 3 _ (by omega) rfl
        have c4 := hcell 4 _ (by omega) rfl
        have c5 := hcell 5 _ (by omega) rfl
        have hbl := World.block_lt_of_cell? _ _ c0
        simp only [Nat.zero_mul, Nat.zero_add, wd_eq] at c0 c1 c2 c3 c4 c5 hbl
        obtain ⟨⟨d0, d1, d2, d3, d4, d5⟩, g0, g1, g2, g3, g4, g5⟩ := box6 (H.out.blk (r := w.heap.size) List.mem_cons_self)
        have HF := Lib.hid (ret_reO H.out (Nat.le_refl _) (.int .i64 op') (.int .u64 (wdN s' 0)) (.int .u64 (wdN s' 1)) (.int .u64 (wdN s' 2)) (.int .u64 (wdN s' 3)) (.slice A' n' cap2))
        clear h1 h0 hcell e6 HW
        go_wp2_with fail
        refine bodyPost_ret (v := re6 op' s' (.slice A' n' cap2)) ?_ rfl ?_
        · simp [results, Try.results44, go_sem, re6_form, d0, d1, d2, d3, d4, d5]
        · rw [HE.out]
          exact ⟨_, rfl, six_re _ _ _ _ _, HF.out.2.2, _, HF.out.1⟩
      | u0 :: u1 :: r, h1, HW =>
        obtain ⟨A, cap, rfl⟩ := h1.form
        have h0 : (u0 :: u1 :: r).length = r.length + 2 := by simp
        rw [h0]
        obtain ⟨m, hm⟩ : ∃ m, r.length + 2 = m := ⟨_, rfl⟩
        rw [hm]
        have hi1 : ¬ (m : Int) = 0 := by omega
        have hi2 : ¬ (m : Int) = 1 := by omega
        obtain ⟨⟨d0, d1, d2, d3, d4, d5⟩, g0, g1, g2, g3, g4, g5⟩ := box6 (H.out.blk (r := w.heap.size) List.mem_cons_self)
        have HF := Lib.hid (ret_reO H.out (Nat.le_refl _) (.int .i64 2) (.int .u64 0) (.int .u64 0) (.int .u64 0) (.int .u64 0) (.slice A m cap))
        clear h1 h0 hm HW
        go_wp2_with fail
        refine bodyPost_ret (v := re6 2 0#256 (.slice A m cap)) ?_ rfl ?_
        · simp [results, Try.results44, go_sem, re6, wd_zero, d0, d1, d2, d3, d4, d5]
        · rw [HE.out]
          exact ⟨_, rfl, six_re _ _ _ _ _, HF.out.2.2, _, HF.out.1⟩
    have H := Lib.hid hst
    have HR := Lib.hid hr
    have HW := Lib.hid hrow
    have HL := Lib.hid hl
    clear hst hr hrow hl
    have HM := Lib.hid (roM_ok H.out.1)
    obtain ⟨⟨c0, c1, c2, c3⟩, f0, f1, f2, f3⟩ := RO.lay H.out.1
    go_wp2_with fail
    clear c0 c1 c2 c3 f0 f1 f2 f3
    by_cases hlt0 : j < s.size
    case neg =>
      have hlt : s.size ≤ j := by omega
      have HE : Hid (R = .ok (gather 2 acc) j) := Lib.hid (by rw [← HR.out, seqL_off (by unfold goesOn; simp [hlt0])])
      clear HR HL HQ HM
      refine (over_any g s j _ H.out.1).mono ?_
      rintro e w5 ⟨rfl, hk5⟩
      rw [show decide (s.size ≤ j) = true from by simp; omega]
      replace H := Lib.hid (H.out.kept hk5)
      replace HW := Lib.hid (HW.out.kept hk5)
      clear hk5
      obtain ⟨vs, h1, h2, h3⟩ := HW.out
      match acc, h2, h3, HE, HW with
      | [], h2, h3, HE, HW =>
        obtain ⟨A, cap, rfl⟩ := h1.form
        have h0 : vs.length = 0 := h2
        rw [h0]
        clear h1 h2 h3 h0 HW
        obtain ⟨⟨d0, d1, d2, d3, d4, d5⟩, g0, g1, g2, g3, g4, g5⟩ := box6 (H.out.blk (r := w.heap.size) List.mem_cons_self)
        have HF := Lib.hid (ret_reO H.out (Nat.le_refl _) (.int .i64 0) (.int .u64 0) (.int .u64 0) (.int .u64 0) (.int .u64 0) (.slice none 0 0))
        go_wp2_with fail
        refine bodyPost_ret (v := zre) ?_ rfl ?_
        · simp [results, Try.results44, go_sem, zre, d0, d1, d2, d3, d4, d5]
        · rw [HE.out]
          exact ⟨_, rfl, six_zre, HF.out.2.2, by rw [zre_eq]; exact ReAt.leaf _ _ _ _, HF.out.1⟩
      | [x], h2, h3, HE, HW =>
        obtain ⟨u0, hu0⟩ : ∃ u, vs[0]? = some u := ⟨vs[0]'(by rw [h2]; simp), List.getElem?_eq_getElem _⟩
        obtain ⟨b, cap, e, hc1, hc2, hb, hcell⟩ := h1.cell 0 u0 hu0
        have h0 : vs.length = 1 := h2
        obtain ⟨op', s', A', n', cap2, e6⟩ := h1.2 _ (List.mem_of_getElem? hu0)
        have hx := h3 0 u0 x hu0 rfl
        rw [e6] at hx
        rw [e6] at hcell
        subst e
        rw [h0] at hc1 ⊢
        have c0 := hcell 0 _ (by omega) rfl
        have c1 := hcell 1 _ (by omega) rfl
        have c2 := hcell 2 _ (by omega) rfl
        have c3 := hcell 3 _ (by omega) rfl
        have c4 := hcell 4 _ (by omega) rfl
        have c5 := hcell 5 _ (by omega) rfl
        have hbl := World.block_lt_of_cell? _ _ c0
        simp only [Nat.zero_mul, Nat.zero_add, wd_eq] at c0 c1 c2 c3 c4 c5 hbl
        obtain ⟨⟨d0, d1, d2, d3, d4, d5⟩, g0, g1, g2, g3, g4, g5⟩ := box6 (H.out.blk (r := w.heap.size) List.mem_cons_self)
        have HF := Lib.hid (ret_reO H.out (Nat.le_refl _) (.int .i64 op') (.int .u64 (wdN s' 0)) (.int .u64 (wdN s' 1)) (.int .u64 (wdN s' 2)) (.int .u64 (wdN s' 3)) (.slice A' n' cap2))
        have HY := Lib.hid (pass_re (r := w.heap.size) (S' := (w.heap.size ≤ ·)) hx (fun h => by have := h.1; omega) (fun k h => by have := h.1; omega))
        simp only [re6_form, wd_eq] at HY
        clear h1 h2 h3 h0 hcell hu0 e6 hx HW
        go_wp2_with fail
        refine bodyPost_ret (v := re6 op' s' (.slice A' n' cap2)) ?_ rfl ?_
        · simp [results, Try.results44, go_sem, re6_form, d0, d1, d2, d3, d4, d5]
        · rw [HE.out]
          exact ⟨_, rfl, six_re _ _ _ _ _, HF.out.2.2, HY.out, HF.out.1⟩
      | x :: y :: r, h2, h3, HE, HW =>
        have hk := HW.out.kids (by simp) 2
        obtain ⟨A, cap, rfl⟩ := h1.form
        have h0 : vs.length = r.length + 2 := by rw [h2]; simp
        rw [h0] at hk ⊢
        obtain ⟨m, hm⟩ : ∃ m, r.length + 2 = m := ⟨_, rfl⟩
        rw [hm] at hk ⊢
        have hi1 : ¬ (m : Int) = 0 := by omega
        have hi2 : ¬ (m : Int) = 1 := by omega
        obtain ⟨⟨d0, d1, d2, d3, d4, d5⟩, g0, g1, g2, g3, g4, g5⟩ := box6 (H.out.blk (r := w.heap.size) List.mem_cons_self)
        have HF := Lib.hid (ret_reO H.out (Nat.le_refl _) (.int .i64 2) (.int .u64 0) (.int .u64 0) (.int .u64 0) (.int .u64 0) (.slice A m cap))
        have HY := Lib.hid (pass_re (r := w.heap.size) (S' := (w.heap.size ≤ ·)) hk (fun h => by omega) (fun k h => by omega))
        simp only [re6_form, wd_zero] at HY
        clear h1 h2 h3 h0 hm hk HW
        go_wp2_with fail
        refine bodyPost_ret (v := re6 2 0#256 (.slice A m cap)) ?_ rfl ?_
        · simp [results, Try.results44, go_sem, re6, wd_zero, d0, d1, d2, d3, d4, d5]
        · rw [HE.out]
          exact ⟨_, rfl, six_re _ _ _ _ _, HF.out.2.2, HY.out, HF.out.1⟩
    have hlt : (j : Int) < s.size := by omega
    cases hb1 : byteAt s j == some 124 with
    | true =>
      have HE : Hid (R = .ok (gather 2 acc) j) := Lib.hid (by rw [← HR.out, seqL_off (by unfold goesOn; simp [beq_iff_eq.1 hb1])])
      have HB124 := Lib.hid hb1
      clear HR hb1 HL HQ HM
      refine (over_any g s j _ H.out.1).mono ?_
      rintro e w5 ⟨rfl, hk5⟩
      rw [show decide (s.size ≤ j) = false from by simp; omega]
      replace H := Lib.hid (H.out.kept hk5)
      replace HW := Lib.hid (HW.out.kept hk5)
      clear hk5
      go_wp2_with fail
      refine (is_any g s j 124 _ H.out.1).mono ?_
      rintro e w6 ⟨rfl, hk5⟩
      rw [HB124.out]
      replace H := Lib.hid (H.out.kept hk5)
      replace HW := Lib.hid (HW.out.kept hk5)
      clear hk5
      obtain ⟨vs, h1, h2, h3⟩ := HW.out
      match acc, h2, h3, HE, HW with
      | [], h2, h3, HE, HW =>
        obtain ⟨A, cap, rfl⟩ := h1.form
        have h0 : vs.length = 0 := h2
        rw [h0]
        clear h1 h2 h3 h0 HW
        obtain ⟨⟨d0, d1, d2, d3, d4, d5⟩, g0, g1, g2, g3, g4, g5⟩ := box6 (H.out.blk (r := w.heap.size) List.mem_cons_self)
        have HF := Lib.hid (ret_reO H.out (Nat.le_refl _) (.int .i64 0) (.int .u64 0) (.int .u64 0) (.int .u64 0) (.int .u64 0) (.slice none 0 0))
        go_wp2_with fail
        refine bodyPost_ret (v := zre) ?_ rfl ?_
        · simp [results, Try.results44, go_sem, zre, d0, d1, d2, d3, d4, d5]
        · rw [HE.out]
          exact ⟨_, rfl, six_zre, HF.out.2.2, by rw [zre_eq]; exact ReAt.leaf _ _ _ _, HF.out.1⟩
      | [x], h2, h3, HE, HW =>
        obtain ⟨u0, hu0⟩ : ∃ u, vs[0]? = some u := ⟨vs[0]'(by rw [h2]; simp), List.getElem?_eq_getElem _⟩
        obtain ⟨b, cap, e, hc1, hc2, hb, hcell⟩ := h1.cell 0 u0 hu0
        have h0 : vs.length = 1 := h2
        obtain ⟨op', s', A', n', cap2, e6⟩ := h1.2 _ (List.mem_of_getElem? hu0)
        have hx := h3 0 u0 x hu0 rfl
        rw [e6] at hx
        rw [e6] at hcell
        subst e
        rw [h0] at hc1 ⊢
        have c0 := hcell 0 _ (by omega) rfl
        have c1 := hcell 1 _ (by omega) rfl
        have c2 := hcell 2 _ (by omega) rfl
        have c3 := hcell 3 _ (by omega) rfl
        have c4 := hcell 4 _ (by omega) rfl
        have c5 := hcell 5 _ (by omega) rfl
        have hbl := World.block_lt_of_cell? _ _ c0
        simp only [Nat.zero_mul, Nat.zero_add, wd_eq] at c0 c1 c2 c3 c4 c5 hbl
        obtain ⟨⟨d0, d1, d2, d3, d4, d5⟩, g0, g1, g2, g3, g4, g5⟩ := box6 (H.out.blk (r := w.heap.size) List.mem_cons_self)
        have HF := Lib.hid (ret_reO H.out (Nat.le_refl _) (.int .i64 op') (.int .u64 (wdN s' 0)) (.int .u64 (wdN s' 1)) (.int .u64 (wdN s' 2)) (.int .u64 (wdN s' 3)) (.slice A' n' cap2))
        have HY := Lib.hid (pass_re (r := w.heap.size) (S' := (w.heap.size ≤ ·)) hx (fun h => by have := h.1; omega) (fun k h => by have := h.1; omega))
        simp only [re6_form, wd_eq] at HY
        clear h1 h2 h3 h0 hcell hu0 e6 hx HW
        go_wp2_with fail
        refine bodyPost_ret (v := re6 op' s' (.slice A' n' cap2)) ?_ rfl ?_
        · simp [results, Try.results44, go_sem, re6_form, d0, d1, d2, d3, d4, d5]
        · rw [HE.out]
          exact ⟨_, rfl, six_re _ _ _ _ _, HF.out.2.2, HY.out, HF.out.1⟩
      | x :: y :: r, h2, h3, HE, HW =>
        have hk := HW.out.kids (by simp) 2
        obtain ⟨A, cap, rfl⟩ := h1.form
        have h0 : vs.length = r.length + 2 := by rw [h2]; simp
        rw [h0] at hk ⊢
        obtain ⟨m, hm⟩ : ∃ m, r.length + 2 = m := ⟨_, rfl⟩
        rw [hm] at hk ⊢
        have hi1 : ¬ (m : Int) = 0 := by omega
        have hi2 : ¬ (m : Int) = 1 := by omega
        obtain ⟨⟨d0, d1, d2, d3, d4, d5⟩, g0, g1, g2, g3, g4, g5⟩ := box6 (H.out.blk (r := w.heap.size) List.mem_cons_self)
        have HF := Lib.hid (ret_reO H.out (Nat.le_refl _) (.int .i64 2) (.int .u64 0) (.int .u64 0) (.int .u64 0) (.int .u64 0) (.slice A m cap))
        have HY := Lib.hid (pass_re (r := w.heap.size) (S' := (w.heap.size ≤ ·)) hk (fun h => by omega) (fun k h => by omega))
        simp only [re6_form, wd_zero] at HY
        clear h1 h2 h3 h0 hm hk HW
        go_wp2_with fail
        refine bodyPost_ret (v := re6 2 0#256 (.slice A m cap)) ?_ rfl ?_
        · simp [results, Try.results44, go_sem, re6, wd_zero, d0, d1, d2, d3, d4, d5]
        · rw [HE.out]
          exact ⟨_, rfl, six_re _ _ _ _ _, HF.out.2.2, HY.out, HF.out.1⟩
    | false =>
      cases hb2 : byteAt s j == some 41 with
      | true =>
        have HE : Hid (R = .ok (gather 2 acc) j) := Lib.hid (by rw [← HR.out, seqL_off (by unfold goesOn; simp [beq_iff_eq.1 hb2])])
        have HB124 := Lib.hid hb1
        have HB41 := Lib.hid hb2
        clear HR hb1 hb2 HL HQ HM
        refine (over_any g s j _ H.out.1).mono ?_
        rintro e w5 ⟨rfl, hk5⟩
        rw [show decide (s.size ≤ j) = false from by simp; omega]
        replace H := Lib.hid (H.out.kept hk5)
        replace HW := Lib.hid (HW.out.kept hk5)
        clear hk5
        go_wp2_with fail
        refine (is_any g s j 124 _ H.out.1).mono ?_
        rintro e w6 ⟨rfl, hk5⟩
        rw [HB124.out]
        replace H := Lib.hid (H.out.kept hk5)
        replace HW := Lib.hid (HW.out.kept hk5)
        clear hk5
        go_wp2_with fail
        refine (is_any g s j 41 _ H.out.1).mono ?_
        rintro e w7 ⟨rfl, hk5⟩
        rw [HB41.out]
        replace H := Lib.hid (H.out.kept hk5)
        replace HW := Lib.hid (HW.out.kept hk5)
        clear hk5
        obtain ⟨vs, h1, h2, h3⟩ := HW.out
        match acc, h2, h3, HE, HW with
        | [], h2, h3, HE, HW =>
          obtain ⟨A, cap, rfl⟩ := h1.form
          have h0 : vs.length = 0 := h2
          rw [h0]
          clear h1 h2 h3 h0 HW
          obtain ⟨⟨d0, d1, d2, d3, d4, d5⟩, g0, g1, g2, g3, g4, g5⟩ := box6 (H.out.blk (r := w.heap.size) List.mem_cons_self)
          have HF := Lib.hid (ret_reO H.out (Nat.le_refl _) (.int .i64 0) (.int .u64 0) (.int .u64 0) (.int .u64 0) (.int .u64 0) (.slice none 0 0))
          go_wp2_with fail
          refine bodyPost_ret (v := zre) ?_ rfl ?_
          · simp [results, Try.results44, go_sem, zre, d0, d1, d2, d3, d4, d5]
          · rw [HE.out]
            exact ⟨_, rfl, six_zre, HF.out.2.2, by rw [zre_eq]; exact ReAt.leaf _ _ _ _, HF.out.1⟩
        | [x], h2, h3, HE, HW =>
          obtain ⟨u0, hu0⟩ : ∃ u, vs[0]? = some u := ⟨vs[0]'(by rw [h2]; simp), List.getElem?_eq_getElem _⟩
          obtain ⟨b, cap, e, hc1, hc2, hb, hcell⟩ := h1.cell 0 u0 hu0
          have h0 : vs.length = 1 := h2
          obtain ⟨op', s', A', n', cap2, e6⟩ := h1.2 _ (List.mem_of_getElem? hu0)
          have hx := h3 0 u0 x hu0 rfl
          rw [e6] at hx
          rw [e6] at hcell
          subst e
          rw [h0] at hc1 ⊢
          have c0 := hcell 0 _ (by omega) rfl
          have c1 := hcell 1 _ (by omega) rfl
          have c2 := hcell 2 _ (by omega) rfl
          have c3 := hcell 3 _ (by omega) rfl
          have c4 := hcell 4 _ (by omega) rfl
          have c5 := hcell 5 _ (by omega) rfl
          have hbl := World.block_lt_of_cell? _ _ c0
          simp only [Nat.zero_mul, Nat.zero_add, wd_eq] at c0 c1 c2 c3 c4 c5 hbl
          obtain ⟨⟨d0, d1, d2, d3, d4, d5⟩, g0, g1, g2, g3, g4, g5⟩ := box6 (H.out.blk (r := w.heap.size) List.mem_cons_self)
          have HF := Lib.hid (ret_reO H.out (Nat.le_refl _) (.int .i64 op') (.int .u64 (wdN s' 0)) (.int .u64 (wdN s' 1)) (.int .u64 (wdN s' 2)) (.int .u64 (wdN s' 3)) (.slice A' n' cap2))
          have HY := Lib.hid (pass_re (r := w.heap.size) (S' := (w.heap.size ≤ ·)) hx (fun h => by have := h.1; omega) (fun k h => by have := h.1; omega))
          simp only [re6_form, wd_eq] at HY
          clear h1 h2 h3 h0 hcell hu0 e6 hx HW
          go_wp2_with fail
          refine bodyPost_ret (v := re6 op' s' (.slice A' n' cap2)) ?_ rfl ?_
          · simp [results, Try.results44, go_sem, re6_form, d0, d1, d2, d3, d4, d5]
          · rw [HE.out]
            exact ⟨_, rfl, six_re _ _ _ _ _, HF.out.2.2, HY.out, HF.out.1⟩
        | x :: y :: r, h2, h3, HE, HW =>
          have hk := HW.out.kids (by simp) 2
          obtain ⟨A, cap, rfl⟩ := h1.form
          have h0 : vs.length = r.length + 2 := by rw [h2]; simp
          rw [h0] at hk ⊢
          obtain ⟨m, hm⟩ : ∃ m, r.length + 2 = m := ⟨_, rfl⟩
          rw [hm] at hk ⊢
          have hi1 : ¬ (m : Int) = 0 := by omega
          have hi2 : ¬ (m : Int) = 1 := by omega
          obtain ⟨⟨d0, d1, d2, d3, d4, d5⟩, g0, g1, g2, g3, g4, g5⟩ := box6 (H.out.blk (r := w.heap.size) List.mem_cons_self)
          have HF := Lib.hid (ret_reO H.out (Nat.le_refl _) (.int .i64 2) (.int .u64 0) (.int .u64 0) (.int .u64 0) (.int .u64 0) (.slice A m cap))
          have HY := Lib.hid (pass_re (r := w.heap.size) (S' := (w.heap.size ≤ ·)) hk (fun h => by omega) (fun k h => by omega))
          simp only [re6_form, wd_zero] at HY
          clear h1 h2 h3 h0 hm hk HW
          go_wp2_with fail
          refine bodyPost_ret (v := re6 2 0#256 (.slice A m cap)) ?_ rfl ?_
          · simp [results, Try.results44, go_sem, re6, wd_zero, d0, d1, d2, d3, d4, d5]
          · rw [HE.out]
            exact ⟨_, rfl, six_re _ _ _ _ _, HF.out.2.2, HY.out, HF.out.1⟩
      | false =>
        have hon : goesOn s j = true := by unfold goesOn; simp only [hlt0, decide_true, bne, hb1, hb2]; rfl
        have hun := HR.out
        rw [seqL_on hon] at hun
        have hfw := HQ.out.2 j hlt0
        have HUN := Lib.hid (And.intro hun hfw)
        have HB124 := Lib.hid hb1
        have HB41 := Lib.hid hb2
        clear HR hb1 hb2 hon hun hfw
        refine (over_any g s j _ H.out.1).mono ?_
        rintro e w5 ⟨rfl, hk5⟩
        rw [show decide (s.size ≤ j) = false from by simp; omega]
        replace H := Lib.hid (H.out.kept hk5)
        replace HW := Lib.hid (HW.out.kept hk5)
        clear hk5
        go_wp2_with fail
        refine (is_any g s j 124 _ H.out.1).mono ?_
        rintro e w6 ⟨rfl, hk5⟩
        rw [HB124.out]
        replace H := Lib.hid (H.out.kept hk5)
        replace HW := Lib.hid (HW.out.kept hk5)
        clear hk5
        go_wp2_with fail
        refine (is_any g s j 41 _ H.out.1).mono ?_
        rintro e w7 ⟨rfl, hk5⟩
        rw [HB41.out]
        replace H := Lib.hid (H.out.kept hk5)
        replace HW := Lib.hid (HW.out.kept hk5)
        clear hk5
        have HCALL := Lib.hid (HQ.out.1 j hlt0 w7 H.out.1)
        have hun := HUN.out.1
        have hfw := HUN.out.2
        clear HUN HB124 HB41
        have hrl := blk_lt (H.out.blk List.mem_cons_self)
        obtain ⟨vs, hv1, hv2, hv3⟩ := HW.out
        have HO := Lib.hid hv1.own
        have HV := Lib.hid (And.intro hv1 (And.intro hv2 hv3))
        have HN := Lib.hid (show vs.length ≤ 100000 by have := HL.out; omega)
        obtain ⟨A0, cap0, rfl⟩ := hv1.form
        clear hv1 hv2 hv3 HW
        cases hR : repP G s j with
        | err er i =>
          rw [hR] at HCALL hun hfw
          simp only at hun
          have her := hfw.1
          have HE := Lib.hid hun.symm
          clear hun hfw hR
          go_wp2_with fail
          refine HCALL.out.mono ?_
          rintro e w8 ⟨u, rfl, hu, h3, a, h2⟩
          obtain ⟨o1, s1, A1, n1, p1, rfl⟩ := hu
          have K7 : Kept w8 (w8.alloc (.cells #[.int .i64 o1, .int .u64 (wdN s1 0), .int .u64 (wdN s1 1), .int .u64 (wdN s1 2), .int .u64 (wdN s1 3), .slice A1 n1 p1] 26)) := (Kept.refl _).alloc _
          have HV1 := Lib.hid ((HV.out.1.gr h3 (by omega)).kept K7)
          replace H := Lib.hid ((H.out.step h2 h3).kept K7)
          have HB := Lib.hid (six_cells (blk_new w8 (.cells #[.int .i64 o1, .int .u64 (wdN s1 0), .int .u64 (wdN s1 1), .int .u64 (wdN s1 2), .int .u64 (wdN s1 3), .slice A1 n1 p1] 26)))
          have HSZ := Lib.hid (Gr.size h3)
          clear h2 h3 HCALL K7 HV
          simp only [re6_form]
          go_wp2_with (at_builtin; refine wpList_push rfl _ _ rfl rfl HV1.out (re6 o1 s1 (.slice A1 n1 p1)) (six_re _ _ _ _ _) w8.heap.size rfl HB.out HN.out (by have := HSZ.out; simp; omega) ?_; intro v8 w9 hraw hgr hown)
          have HST := Lib.hid (H.out.grown hgr (fun b hb => by
            have h9 := HO.out b hb
            refine ⟨by omega, by omega, fun q hq => ?_⟩
            rw [List.mem_singleton.1 hq]
            simp only []
            omega))
          have HRW := Lib.hid hraw
          clear H HV1 HB hraw hgr hown
          go_roundw
          case rel => exact .inr ⟨er, i, a, _, her, HE.out, HRW.out, HST.out⟩
          case measure => rw [HM.out, roM_err HST.out.1 her]; omega
        | ok x i =>
          rw [hR] at HCALL hun hfw
          simp only at hun
          obtain ⟨hji, his⟩ := hfw
          rw [dif_pos hji] at hun
          have HR := Lib.hid hun
          clear hun hR
          go_wp2_with fail
          refine HCALL.out.mono ?_
          rintro e w8 ⟨u, rfl, hu, h3, hx, h2⟩
          obtain ⟨o1, s1, A1, n1, p1, rfl⟩ := hu
          have K7 : Kept w8 (w8.alloc (.cells #[.int .i64 o1, .int .u64 (wdN s1 0), .int .u64 (wdN s1 1), .int .u64 (wdN s1 2), .int .u64 (wdN s1 3), .slice A1 n1 p1] 26)) := (Kept.refl _).alloc _
          have hgw := hgl
          have HX := Lib.hid (hx.kept K7)
          replace HV := Lib.hid (And.intro ((HV.out.1.gr h3 (by omega)).kept K7) (And.intro HV.out.2.1 (fun (j : Nat) (u : Value) (x : Re) hu hx => ((HV.out.2.2 j u x hu hx).gr h3 (fun hS => by omega)).kept K7)))
          replace H := Lib.hid ((H.out.step h2 h3).kept K7)
          have HB := Lib.hid (six_cells (blk_new w8 (.cells #[.int .i64 o1, .int .u64 (wdN s1 0), .int .u64 (wdN s1 1), .int .u64 (wdN s1 2), .int .u64 (wdN s1 3), .slice A1 n1 p1] 26)))
          have HSZ := Lib.hid (Gr.size h3)
          clear h2 h3 HCALL hx K7
          simp only [re6_form] at HX ⊢
          go_wp2_with (at_builtin; refine wpList_push rfl _ _ rfl rfl HV.out.1 (re6 o1 s1 (.slice A1 n1 p1)) (six_re _ _ _ _ _) w8.heap.size rfl HB.out HN.out (by have := HSZ.out; simp; omega) ?_; intro v8 w9 hraw hgr hown)
          have HST := Lib.hid (H.out.grown hgr (fun b hb => by
            have h9 := HO.out b hb
            refine ⟨by omega, by omega, fun q hq => ?_⟩
            rw [List.mem_singleton.1 hq]
            simp only []
            omega))
          have HRW := Lib.hid (Row.push HV.out.1 HV.out.2.1 HV.out.2.2 (u := re6 o1 s1 (.slice A1 n1 p1)) HX.out hrl (fun b hb => (HO.out b hb).2) hraw hgr hown)
          clear H HV HX HB hraw hgr hown
          go_roundw
          case rel => exact .inl ⟨i, acc ++ [x], his, by simp; have := HL.out; omega, HR.out, HRW.out, HST.out⟩
          case measure => rw [HM.out, roM_ok HST.out.1]; omega
theorem rseq_any (g : Nat) (s : ByteArray) (k d n : Nat) (w : World) (h : w.heap[g]? = some (RO s k)) (hs : s.size ≤ 200) (hk : k ≤ s.size) (hd : d + n = 20)
    (HC : ∀ k, k < s.size → ∀ n', n = n' + 1 → ∀ w, w.heap[g]? = some (RO s (k + 1)) → Calls Try.prog 26 #[ptr g, .int .i64 (d + 1 : Nat)] w (RefPost g s (altL (grp s n') s [] (k + 1)) w)) : Calls Try.prog 44 #[ptr g, .int .i64 d] w (RefPost g s (seqL (grp s n) s [] k) w) :=
  rseq_go g s k d w h hs hk (grp s n) (fun k hk => repP_fw (grp s n) s k (grp_fw s n) hk) (fun k hk w h => rrep_any g s k d n w h hs hk hd (HC k hk)) _ (Lib.hid rfl)
end Go.Proofs.Ytdbffbdpofodmaa
